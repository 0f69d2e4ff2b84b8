import PyProof.Rows.All
import Wide.All
import OpenK.AllK
import Wide.FinOn
import Lean
import PyProof.EqAt
import PyProof.EqKinds
import PyProof.TupleCall
import PySem.SetTable
import PyProof.SetKind
import PyProof.SetNew
import PyProof.SetRoads
import PyProof.TupleKey
import PyProof.IsRules
import PyProof.Rows.SetFrom
import PyProof.CollectWalk
import PyProof.CollectIter
import KE.KSortTup
import PyProof.DictWalks
import PyProof.DictItems
import KE.KDictOf
import KE.KMinKey
import PyProof.Rows.CallKwBuiltin
import PyProof.Rows.Range3
import PyProof.ZipIter
import KE.KEqSeq
import PyProof.NeKinds
import KE.KRevIter
import PyProof.Rows.SortStr
import PyProof.Rows.SortWalk
import PyProof.EnumFor
import PyProof.EnumMake
import PyProof.AutoListH
import PyProof.Rows.StrSplitAre
import PyProof.Rows.StrJoin2
import PyProof.Rows.StrNews
import PyProof.StrCalls
import PyProof.StrLawsTight
import PyProof.Rows.StrItems
import KE.KDictList
import KE.KDictSum
import PyProof.DictFindH
import PyProof.DictKinds
import PySem.Challenge.RW_lampcues_k56_groups
set_option Elab.async false
set_option linter.all false
set_option maxRecDepth 100000
set_option maxHeartbeats 4000000
open PySem.W (Frag InitBack InstAt KitX any_some bind_fn callWith_K callWith_K0 cellsFrom_some class_get clsIn codeIn codeRec_of emptyDict eq_bytes excIn exmOne exm_one findIn findObj findObj_own fnOf get_value handedIn handed_on hasDictIn hideAll hideAll_get hideAll_none hideAll_size instObj isFn isNs_of_in kdl_call kdl_dict kdu_collect keepIn kia_one kitOne kitx_bool kitx_dict kitx_float kitx_int kitx_list kitx_none kitx_own kitx_str kitx_tuple lookIn looks_clsIn looks_find looks_findIn looks_mroIn make_core makesIn makes_of methodCall_KW methodObj method_fn mg_none_of mg_of mroIn ne_bytes nsIn nsMap_none_of_in of_hideAll osa_open plainGet plainGet_of plainOver set_plain specialIn tail_of_in takerIn takesIn typeIn)
namespace L2
open PySem PySem.Spec PyProof.Rows
abbrev Key:=Sum Int Str
def ym8:Key -> Value -> Bool
 | .inl k,v=>Value.isInt k v
 | .inr x,v=>Value.isStrOf x v
def keyH (w:World):Key -> Int
 | .inl k=>hashInt k
 | .inr x=>hashStr w x
theorem xd7:∀ {k:Key} {v:Value},ym8 k v = true -> (∃ i t,k = Sum.inl i /\ v = Value.int i t) \/ (∃ x t,k = Sum.inr x /\ v = Value.str x t)
 | .inl i,v,h=>by
  obtain ⟨t,e⟩:=Value.isInt_shape (k:=i) (v:=v) h
  exact .inl ⟨i,t,rfl,e⟩
 | .inr x,v,h=>by
  obtain ⟨t,e⟩:=Value.isStrOf_shape (x:=x) (v:=v) h
  exact .inr ⟨x,t,rfl,e⟩
theorem za3 (i:Int) (t:Tok):ym8 (.inl i) (.int i t) = true:=by simp [ym8,Value.isInt]
theorem za2 (x:Str) (t:Tok):ym8 (.inr x) (.str x t) = true:=by simp [ym8,Value.isStrOf]
theorem key_ll (a b:Int):decide ((Sum.inl a:Key) = Sum.inl b) = (a == b):=by
 by_cases e:a = b
 ·subst e; simp
 ·have h:¬ (Sum.inl a:Key) = Sum.inl b:=fun q=>e (Sum.inl.inj q)
  rw [decide_eq_false h]
  exact (beq_eq_false_iff_ne.mpr e).symm
theorem key_rr (a b:Str):decide ((Sum.inr a:Key) = Sum.inr b) = decide (a = b):=by
 by_cases e:a = b
 ·subst e; simp
 ·have h:¬ (Sum.inr a:Key) = Sum.inr b:=fun q=>e (Sum.inr.inj q)
  rw [decide_eq_false h,decide_eq_false e]
theorem key_lr (a:Int) (b:Str):decide ((Sum.inl a:Key) = Sum.inr b) = false:=decide_eq_false (fun q=>nomatch q)
theorem key_rl (a:Str) (b:Int):decide ((Sum.inr a:Key) = Sum.inl b) = false:=decide_eq_false (fun q=>nomatch q)
def xc2 (prog:Program) (w:World):PySem.KeyKind prog w Key where
 is:=ym8
 hash:=keyH w
 inj:=fun v a b ha hb=>by
  rcases xd7 ha with ⟨i,t,rfl,rfl⟩ | ⟨x,t,rfl,rfl⟩
  ·rcases xd7 hb with ⟨j,u,rfl,e⟩ | ⟨y,u,rfl,e⟩
   ·injection e with e1 _; rw [e1]
   ·exact nomatch e
  ·rcases xd7 hb with ⟨j,u,rfl,e⟩ | ⟨y,u,rfl,e⟩
   ·exact nomatch e
   ·injection e with e1 _; rw [e1]
 byValue:=fun k v h=>by
  rcases xd7 h with ⟨i,t,rfl,rfl⟩ | ⟨x,t,rfl,rfl⟩ <;> rfl
 pyHash:=fun hv h=>by
  rcases xd7 hv with ⟨i,t,rfl,rfl⟩ | ⟨x,t,rfl,rfl⟩
  ·exact wpAny_pyHash_int h
  ·exact wpAny_pyHash_str h
 eqBool:=fun hu hv h=>by
  rcases xd7 hu with ⟨i,t,rfl,rfl⟩ | ⟨x,t,rfl,rfl⟩
  ·rcases xd7 hv with ⟨j,u,rfl,rfl⟩ | ⟨y,u,rfl,rfl⟩
   ·rw [key_ll] at h; exact wpAny_eqBool_int h
   ·rw [key_lr] at h; exact SeqAt.EqAt.int_str i t y u _ _ _ _ h
  ·rcases xd7 hv with ⟨j,u,rfl,rfl⟩ | ⟨y,u,rfl,rfl⟩
   ·rw [key_rl] at h; exact SeqAt.EqAt.str_int x t j u _ _ _ _ h
   ·rw [key_rr] at h; exact wpAny_eqBool_str h
 «strs»:=fun k x t v h=>by
  rcases xd7 h with ⟨i,u,rfl,e⟩ | ⟨y,u,rfl,e⟩
  ·exact nomatch e
  ·injection e with e1 _
   subst e1
   cases v <;> rfl
theorem ym5 (prog:Program) (w:World) (i:Int) (t:Tok):(xc2 prog w).is (.inl i) (.int i t) = true:=za3 i t
theorem ym4 (prog:Program) (w:World) (x:Str) (t:Tok):(xc2 prog w).is (.inr x) (.str x t) = true:=za2 x t
inductive V where
 | non | bl (b:Bool) | int (i:Int) | str (x:Str) | byt (b:Array UInt8) | flt (b:UInt64) | ref (a:Addr) | ty (n:String)
 deriving DecidableEq
def RelV:V -> Value -> Prop
 | .non,u=>u = Value.none
 | .bl b,u=>u = Value.bool b
 | .int i,u=>∃ t,u = Value.int i t
 | .str x,u=>∃ t,u = Value.str x t
 | .byt b,u=>∃ t,u = Value.bytes b t
 | .flt b,u=>∃ t,u = Value.float b t
 | .ref a,u=>u = Value.ref a
 | .ty n,u=>u = Value.type n
abbrev Vals:List V -> List Value -> Prop:=Paired RelV
theorem Vals.length {xs:List V} {us:List Value} (r:Vals xs us):xs.length = us.length:=Paired.length r
theorem Vals.get:∀ {xs:List V} {us:List Value} {i:Nat} {x:V},Vals xs us -> xs[i]? = some x -> ∃ u,us[i]? = some u /\ RelV x u
 | _,_,_,_,.nil,e=>by simp at e
 | _,_,0,_,.cons r _,e=>by simp at e; subst e; exact ⟨_,rfl,r⟩
 | _,_,i + 1,x,.cons _ t,e=>by
  obtain ⟨u,h1,h2⟩:=Vals.get (i:=i) (x:=x) t (by simpa using e)
  exact ⟨u,by simpa using h1,h2⟩
theorem Vals.append:∀ {xs ys:List V} {us ws:List Value},Vals xs us -> Vals ys ws -> Vals (xs ++ ys) (us ++ ws)
 | _,_,_,_,.nil,s=>s
 | _,_,_,_,.cons r t,s=>.cons r (Vals.append t s)
theorem Vals.take:∀ {xs:List V} {us:List Value} (n:Nat),Vals xs us -> Vals (xs.take n) (us.take n)
 | _,_,0,_=>.nil
 | _,_,_ + 1,.nil=>.nil
 | _,_,n + 1,.cons r t=>.cons r (Vals.take n t)
theorem Vals.drop:∀ {xs:List V} {us:List Value} (n:Nat),Vals xs us -> Vals (xs.drop n) (us.drop n)
 | _,_,0,r=>r
 | _,_,_ + 1,.nil=>.nil
 | _,_,n + 1,.cons _ t=>Vals.drop n t
def RelO:Option V -> Option Value -> Prop
 | some v,some u=>RelV v u
 | none,none=>True
 | _,_=>False
def KV {κ:Type}:List (κ × V) -> List (κ × Value) -> Prop:=Paired fun (p:κ × V) (q:κ × Value)=>p.1 = q.1 /\ RelV p.2 q.2
def kV:Key -> V
 | .inl i=>.int i
 | .inr x=>.str x
inductive HO where
 | lst (xs:List V)
 | tup (xs:List V)
 | dK (kvs:List (Key × V)) | dT (kvs:List (List Key × V))
 | set (S:Int -> Bool) (n:Nat)
 | ins (C dx:Addr) (fs:List (Str × V))
 | own (x:Addr)
 | xd (fs:List (Str × V))
 | met (f x:Addr)
 | rng (lo hi:Int)
 | frz (o:Obj) (u:HO)
 | tbl (ps:Array Value)
 | ext (φ:Heap -> Prop)
abbrev Hp:=Addr -> Option HO
def upd (H:Hp) (a:Addr) (o:HO):Hp:=fun b=>if b = a then some o else H b
theorem xa1 {H:Hp} {a:Addr} {o:HO}:upd H a o a = some o:=by unfold upd; rw [if_pos rfl]
theorem xa3 {H:Hp} {a b:Addr} {o:HO} (h:b ≠ a):upd H a o b = H b:=by unfold upd; rw [if_neg h]
theorem ye1 {H:Hp} {a b:Addr} {o u:HO} (h:H a = some o) (h':H b = some u) (d:o ≠ u):a ≠ b:=by
 intro e; subst e; rw [h] at h'; exact d (Option.some.inj h')
theorem xb2 {H:Hp} {a b:Addr} {o:HO} (h:H a = some o) (h':H b = none):a ≠ b:=by
 intro e; subst e; rw [h] at h'; cases h'
section
variable (P:Program) (w:World)
def xe1 (H:Hp) (h:Heap) (a:Addr):HO -> Prop
 | .lst xs=>xs.length <= sizeLine /\ ∃ (its:List Value) (n:Nat),Vals xs its /\ h.get? a = some { cls:=.type "list",data:=.seq its.toArray n }
 | .tup xs=>xs.length <= sizeLine /\ ∃ its:List Value,Vals xs its /\ IsTup h a its.toArray
 | .dK kvs=>kvs.length <= sizeLine /\ (a == sysModules) = false /\ ∃ vs,KV kvs vs /\ h.DictOf (xc2 P w) a vs
 | .dT kvs=>kvs.length <= sizeLine /\ (a == sysModules) = false /\ ∃ xs:List (List Key × Addr × Value),
   Paired (fun (p:List Key × V) (q:List Key × Addr × Value)=>p.1 = q.1 /\ H q.2.1 = some (.tup (p.1.map kV)) /\ RelV p.2 q.2.2) kvs xs /\
   ∃ o es ep,h.get? a = some o /\ o.ExactDict /\ o.data = .dict es ep /\ es.toList = xs.map (entryOfKey (tupleKind (xc2 P w))) /\ (xs.map (·.1)).Nodup
 | .set S n=>h.SetOf (intKind P w) a S n
 | .ins C dx fs=>H dx = some (.own a) /\ fs.length <= 1000 /\ dx ≠ a /\ h.get? a = some (instObj C dx) /\
   ∃ mA,h.Ns1 dx mA /\ (∀ f,RelO (fs.lookup f) (mA f)) /\ PySem.Within mA (fs.map (·.1))
 | .own _=>∃ o,h.get? a = some o
 | .xd fs=>∃ mA,h.Ns1 a mA /\ ∀ f,RelO (fs.lookup f) (mA f)
 | .rng lo hi=>∃ t u v,h.get? a = some { cls:=.type "range",data:=.fields #[.int lo t,.int hi u,.int 1 v] }
 | .frz o u=>h.get? a = some o /\ xe1 H h a u
 | .tbl ps=>h.get? a = some { cls:=.none,data:=.fields ps }
 | .met f x=>h.get? a = some (methodObj (.ref f) (.ref x))
 | .ext φ=>φ h /\ (∃ o,h.get? a = some o) /\ ∀ h1 h2:Heap,φ h1 -> (∀ o,h1.get? a = some o -> h2.get? a = some o) -> φ h2
def HOk (H:Hp) (h:Heap):Prop:=∀ a o,H a = some o -> xe1 P w H h a o
end
section
variable {P:Program} {w:World} {H H':Hp} {h h':Heap} {a:Addr} {o:HO}
theorem xe1.lt (x:xe1 P w H h a o):a < h.objs.size:=by
 cases o with
 | lst xs=>obtain ⟨_,_,_,_,e⟩:=x; exact Heap.lt_size e
 | tup xs=>obtain ⟨_,_,_,p⟩:=x; exact p.lt
 | dK kvs=>obtain ⟨_,_,_,_,o,_,_,e,_⟩:=x; exact Heap.lt_size e
 | dT kvs=>obtain ⟨_,_,_,_,o,_,_,e,_⟩:=x; exact Heap.lt_size e
 | set S n=>obtain ⟨o,_,_,_,e,_⟩:=x; exact Heap.lt_size e
 | ins C dx fs=>obtain ⟨_,_,_,e,_⟩:=x; exact Heap.lt_size e
 | own y=>obtain ⟨_,e⟩:=x; exact Heap.lt_size e
 | xd fs=>obtain ⟨_,⟨_,_,_,e,_⟩,_⟩:=x; exact Heap.lt_size e
 | rng lo hi=>obtain ⟨_,_,_,e⟩:=x; exact Heap.lt_size e
 | frz ob u=>obtain ⟨e,_⟩:=x; exact Heap.lt_size e
 | tbl ps=>exact Heap.lt_size (show h.get? a = some _ from x)
 | met f y=>exact Heap.lt_size (show h.get? a = some _ from x)
 | ext φ=>obtain ⟨_,⟨_,e⟩,_⟩:=x; exact Heap.lt_size e
theorem Paired.mapP {α β:Type} {F G:α -> β -> Prop}:∀ {l₁:List α} {l₂:List β},Paired F l₁ l₂ -> (∀ a b,F a b -> G a b) -> Paired G l₁ l₂
 | _,_,.nil,_=>.nil
 | _,_,.cons r t,f=>.cons (f _ _ r) (Paired.mapP t f)
theorem xe1.stay (x:xe1 P w H h a o) (k:∀ b u,(b = a \/ H b = some (.own a)) -> h.get? b = some u -> h'.get? b = some u)
  (ho:∀ b,H b = some (.own a) -> H' b = some (.own a)) (ht:∀ b xs,H b = some (.tup xs) -> H' b = some (.tup xs)):xe1 P w H' h' a o:=by
 induction o with
 | lst xs=>obtain ⟨z,its,n,r,e⟩:=x; exact ⟨z,its,n,r,k _ _ (.inl rfl) e⟩
 | tup xs=>obtain ⟨z,its,r,ob,e,c⟩:=x; exact ⟨z,its,r,ob,k _ _ (.inl rfl) e,c⟩
 | dK kvs=>obtain ⟨z,y,vs,r,ob,es,ep,e,c⟩:=x; exact ⟨z,y,vs,r,ob,es,ep,k _ _ (.inl rfl) e,c⟩
 | dT kvs =>
  obtain ⟨z,y,xs,r,ob,es,ep,e,c⟩:=x
  exact ⟨z,y,xs,Paired.mapP r fun p q z=>⟨z.1,ht _ _ z.2.1,z.2.2⟩,ob,es,ep,k _ _ (.inl rfl) e,c⟩
 | set S n=>obtain ⟨ob,es,ep,t,e,c⟩:=x; exact ⟨ob,es,ep,t,k _ _ (.inl rfl) e,c⟩
 | ins C dx fs =>
  obtain ⟨d,z,ne,e,mA,⟨od,es,ep,e2,c⟩,r⟩:=x
  exact ⟨ho _ d,z,ne,k _ _ (.inl rfl) e,mA,⟨od,es,ep,k _ _ (.inr d) e2,c⟩,r⟩
 | own y=>obtain ⟨ob,e⟩:=x; exact ⟨ob,k _ _ (.inl rfl) e⟩
 | xd fs=>obtain ⟨mA,⟨od,es,ep,e,c⟩,r⟩:=x; exact ⟨mA,⟨od,es,ep,k _ _ (.inl rfl) e,c⟩,r⟩
 | rng lo hi=>obtain ⟨t,u,v,e⟩:=x; exact ⟨t,u,v,k _ _ (.inl rfl) e⟩
 | frz ob u ih=>obtain ⟨e,q⟩:=x; exact ⟨k _ _ (.inl rfl) e,ih q⟩
 | tbl ps =>
  have e:h.get? a = some { cls:=.none,data:=.fields ps }:=x
  show h'.get? a = some { cls:=.none,data:=.fields ps }
  exact k a _ (.inl rfl) e
 | met f y =>
  have e:h.get? a = some (methodObj (.ref f) (.ref y)):=x
  show h'.get? a = some (methodObj (.ref f) (.ref y))
  exact k a _ (.inl rfl) e
 | ext φ=>obtain ⟨p,⟨o,e⟩,st⟩:=x; exact ⟨st _ _ p fun o q=>k _ _ (.inl rfl) q,⟨o,k _ _ (.inl rfl) e⟩,st⟩
theorem HOk.lt (x:HOk P w H h) (e:H a = some o):a < h.objs.size:=(x a o e).lt
theorem HOk.fresh (x:HOk P w H h) (e:h.objs.size <= a):H a = none:=by
 cases q:H a with
 | none=>rfl
 | some u=>exact absurd (Nat.lt_of_lt_of_le (x.lt q) e) (Nat.lt_irrefl _)
theorem HOk.kept (x:HOk P w H h) (k:∀ b u,h.get? b = some u -> h'.get? b = some u):HOk P w H h':=fun a o e =>
 (x a o e).stay (fun b u _ q=>k b u q) (fun _ q=>q) fun _ _ q=>q
theorem HOk.laid (x:HOk P w H h) (k:∀ b u,h.get? b = some u -> h'.get? b = some u) (hp:h.objs.size <= a) (new:xe1 P w (upd H a o) h' a o):HOk P w (upd H a o) h':=fun b u e=>by
 have hn:=x.fresh hp
 by_cases hb:b = a
 ·subst hb; rw [xa1] at e; cases e; exact new
 ·rw [xa3 hb] at e
  exact (x b u e).stay (fun c v _ q=>k c v q) (fun c q=>by rw [xa3 (xb2 q hn)]; exact q) fun c xs q=>by rw [xa3 (xb2 q hn)]; exact q
end
def Rd (H:Hp) (a:Addr) (u:HO):Prop:=H a = some u \/ ∃ o,H a = some (.frz o u)
theorem Rd.ok {P:Program} {w:World} {H:Hp} {h:Heap} {a:Addr} {u:HO} (r:Rd H a u) (x:HOk P w H h):xe1 P w H h a u:=by
 rcases r with r | ⟨o,r⟩
 ·exact x a u r
 ·obtain ⟨_,q⟩:=x a _ r
  exact q
def Mut:Option HO -> Prop
 | some (.lst _)=>True
 | some (.dK _)=>True
 | some (.dT _)=>True
 | some (.set _ _)=>True
 | some (.ins _ _ _)=>True
 | some (.ext _)=>True
 | _=>False
section
variable {P:Program} {w:World} {H:Hp} {h h':Heap} {x e:Addr} {o':HO}
theorem HOk.write (ok:HOk P w H h) (mu:Mut (H x)) (he:e = x \/ H e = some (.own x)) (k:∀ b u,b ≠ e -> h.get? b = some u -> h'.get? b = some u) (heo:∃ u,h'.get? e = some u)
  (new:xe1 P w (upd H x o') h' x o'):HOk P w (upd H x o') h':=fun b u q=>by
 have nown:∀ c y,H c = some (.own y) -> c ≠ x:=fun c y r z=>by subst z; rw [r] at mu; exact mu
 have ntup:∀ c xs,H c = some (.tup xs) -> c ≠ x:=fun c xs r z=>by subst z; rw [r] at mu; exact mu
 by_cases hb:b = x
 ·subst hb; rw [xa1] at q; cases q; exact new
 ·rw [xa3 hb] at q
  by_cases hbe:b = e
  ·have q':H b = some (.own x):=by
    rcases he with z | z
    ·exact absurd (hbe.trans z) hb
    ·rw [hbe]; exact z
   rw [q] at q'; cases q'
   obtain ⟨v,hv⟩:=heo
   exact ⟨v,by rw [hbe]; exact hv⟩
  ·refine (ok b u q).stay (fun c v hc r=>k c v ?_ r) (fun c r=>by rw [xa3 (nown c b r)]; exact r) fun c xs r=>by rw [xa3 (ntup c xs r)]; exact r
   rcases hc with rfl | hc
   ·exact hbe
   ·rintro rfl
    rcases he with z | z
    ·exact nown c b hc z
    ·rw [hc] at z; cases z; exact hb rfl
end
structure Un (fs ex:List Addr) (H H':Hp) (h h':Heap):Prop where
 keep:∀ b o,h.get? b = some o -> H b = none -> b ∉ fs -> b ∉ ex -> h'.get? b = some o
 slot:∀ b o,h.get? b = some o -> H b = none -> b ∈ fs -> b ∉ ex -> ∃ sl,h'.get? b = some { o with slots:=sl }
 free:∀ b o,h.get? b = some o -> H b = none -> b ∉ ex -> H' b = none
 there:∀ b o,h.get? b = some o -> b ∉ ex -> ∃ o',h'.get? b = some o'
 tups:∀ b xs,H b = some (.tup xs) -> H' b = some (.tup xs)
 frzs:∀ b o u,H b = some (.frz o u) -> H' b = some (.frz o u)
 tbls:∀ b ps,H b = some (.tbl ps) -> ∃ more,H' b = some (.tbl (ps ++ more))
section
variable {fs fs' ex ex':List Addr} {H H1 H2:Hp} {h h1 h2 h':Heap} {a x e:Addr} {o:HO}
theorem Un.any (u:Un fs ex H H1 h h1) {b:Addr} {ob:Obj} (q:h.get? b = some ob) (n:H b = none) (hx:b ∉ ex):∃ sl,h1.get? b = some { ob with slots:=sl }:=by
 by_cases hb:b ∈ fs
 ·exact u.slot b ob q n hb hx
 ·exact ⟨ob.slots,u.keep b ob q n hb hx⟩
theorem Un.kept (k:∀ b u,h.get? b = some u -> h'.get? b = some u):Un fs ex H H h h' :=
 ⟨fun b ob q _ _ _=>k b ob q,fun b ob q _ _ _=>⟨ob.slots,k b ob q⟩,fun _ _ _ n _=>n,fun b ob q _=>⟨ob,k b ob q⟩,fun _ _ q=>q,fun _ _ _ q=>q,fun _ ps q=>⟨#[],by rw [q]; simp⟩⟩
theorem Un.refl:Un fs ex H H h h:=Un.kept fun _ _ q=>q
theorem Un.laid (k:∀ b u,h.get? b = some u -> h'.get? b = some u) (hp:h.objs.size <= a) (hn:H a = none):Un fs ex H (upd H a o) h h' where
 keep:=fun b u q _ _ _=>k b u q
 slot:=fun b u q _ _ _=>⟨u.slots,k b u q⟩
 free:=fun b u q n _=>by rw [xa3 (Nat.ne_of_lt (Nat.lt_of_lt_of_le (Heap.lt_size q) hp))]; exact n
 there:=fun b u q _=>⟨u,k b u q⟩
 tups:=fun b xs q=>by rw [xa3 (xb2 q hn)]; exact q
 frzs:=fun b u xs q=>by rw [xa3 (xb2 q hn)]; exact q
 tbls:=fun b ps q=>⟨#[],by rw [xa3 (xb2 q hn),q]; simp⟩
theorem Un.write (mu:Mut (H x)) (he:e = x \/ H e = some (.own x)) (k:∀ b u,b ≠ e -> h.get? b = some u -> h'.get? b = some u) (heo:∃ u,h'.get? e = some u):Un fs ex H (upd H x o) h h':=by
 have hx:∀ b,H b = none -> b ≠ x:=fun b n z=>by subst z; rw [n] at mu; exact mu
 have hb:∀ b,H b = none -> b ≠ e:=fun b n z=>by
  subst z
  rcases he with r | r
  ·exact hx b n r
  ·rw [n] at r; cases r
 have hm:∀ b u,H b = some u -> ¬ Mut (some u) -> b ≠ x:=fun b u q nm z=>by subst z; rw [q] at mu; exact nm mu
 refine ⟨fun b u q n _ _=>k b u (hb b n) q,fun b u q n _ _=>⟨u.slots,k b u (hb b n) q⟩,fun b u q n _=>by rw [xa3 (hx b n)]; exact n,fun b u q _=>?_,
  fun b xs q=>by rw [xa3 (hm b _ q fun z=>z)]; exact q,fun b u xs q=>by rw [xa3 (hm b _ q fun z=>z)]; exact q,fun b ps q=>⟨#[],by rw [xa3 (hm b _ q fun z=>z),q]; simp⟩⟩
 by_cases hbe:b = e
 ·subst hbe; exact heo
 ·exact ⟨u,k b u hbe q⟩
end
def trk (h:Heap) (H:Hp):List Addr:=(List.range h.objs.size).filter fun a=>(H a).isSome
def hidT (h:Heap) (H:Hp):Heap:=hideAll h (trk h H)
theorem zb3 (h:Heap) (H:Hp):(hidT h H).objs.size = h.objs.size:=hideAll_size _ _
theorem hidT_get {h:Heap} {H:Hp} {b:Addr} {o:Obj} (e:h.get? b = some o) (n:H b = none):(hidT h H).get? b = some o :=
 hideAll_get _ e fun hm=>by
  have q:(H b).isSome = true:=(List.mem_filter.mp hm).2
  rw [n] at q; simp at q
theorem of_hidT {h:Heap} {H:Hp} {b:Addr} {o:Obj} (e:(hidT h H).get? b = some o):h.get? b = some o /\ H b = none:=by
 have e':h.get? b = some o:=of_hideAll (trk h H) e
 refine ⟨e',?_⟩
 cases q:H b with
 | none=>rfl
 | some x =>
  have hm:b ∈ trk h H:=List.mem_filter.mpr ⟨List.mem_range.mpr (Heap.lt_size e'),by simp [q]⟩
  have z:(hidT h H).get? b = none:=hideAll_none (trk h H) hm
  rw [z] at e; cases e
structure Mod (K:Frag) (mg:Str -> Option Value) (base:Heap):Prop where
 kin:K.In base
 glob:base.Ns mainGlobals mg
 blt:∃ mb,base.Ns builtinsNs mb /\ ∀ x:Str,x ≠ "__name__" -> mb x = bootBuiltins x
 nolimit:base.NoLimit
structure Cx where
 prog:Program
 w:World
 K:Frag
 mg:Str -> Option Value
 base:Heap
 A:Around
 N:List Str
 s₀:Shared
 H₀:Hp
 env:Env
 outer:List Env
 stack:List Env
 ex:List Addr
 fn:Str -> Bool
 calm:Bool
 pn:List (Addr × Obj)
 xe:Value -> Shared -> Prop
def frs (l:List Env):List Addr:=l.filterMap (·.frame)
abbrev Cx.fs (X:Cx):List Addr:=frs X.outer
def Vis (sc:Scope) (x:Str):Prop:=sc.names.lookup x = some .local \/ sc.names.lookup x = some .cell \/ sc.names.lookup x = some .free
def Loc (sc:Scope) (x:Str):Prop:=sc.names.lookup x = some .local \/ sc.names.lookup x = some .cell
def Look (env:Env) (h:Heap) (m:Str -> Option Value) (x:Str) (u:Value):Prop :=
 (env.kindOf x = some .local /\ m x = some u) \/ ((env.kindOf x = some .cell \/ env.kindOf x = some .free) /\ ∃ c,env.cells.lookup x = some c /\ h.IsCell c (some u))
structure Cx.Ok (X:Cx):Prop where
 mod:Mod X.K X.mg X.base
 kind:X.env.scope.kind = .function
 glob:X.env.globals = mainGlobals
 blt:X.env.builtins = builtinsNs
 above:X.s₀.heap.objs.size <= X.env.locals
 inj:∀ x y c,X.env.cells.lookup x = some c -> X.env.cells.lookup y = some c -> x = y
 has:∀ x,(X.env.kindOf x = some .cell \/ X.env.kindOf x = some .free) -> ∃ c,X.env.cells.lookup x = some c
 cab:∀ x c,X.fn x = true -> X.env.cells.lookup x = some c -> X.s₀.heap.objs.size <= c
 hd:X.calm = true -> X.A.handled = none
 frames:X.A.frames = some X.stack
 stk:X.stack = X.outer \/ (X.stack = X.env :: X.outer /\ X.env.frame = some X.env.locals)
 exf:∀ b ∈ X.ex,b ≠ X.env.locals /\ ∀ x c,X.env.cells.lookup x = some c -> c ≠ b
 bs:∀ b o,X.base.get? b = some o -> X.s₀.heap.get? b = some o /\ X.H₀ b = none
 bsz:X.base.objs.size <= X.s₀.heap.objs.size
 noex:∀ b o,X.base.get? b = some o -> b ∉ X.ex
 exfs:∀ b ∈ X.ex,b ∉ X.fs
 funs:X.s₀.heap.FunFrames X.base X.outer
 frf:∀ b ∈ X.fs,X.H₀ b = none
structure Inv (X:Cx) (pins:List (Addr × Obj)) (σ:List (Option V)) (H:Hp) (s:Shared):Prop where
 ok:X.Ok
 os:s.os = X.s₀.os
 bare:AllBare s.gens
 base:Un X.fs X.ex X.H₀ H X.s₀.heap s.heap
 loc:∃ m,s.heap.Ns X.env.locals m /\ ∀ (i:Nat) (x:Str) (v:V),X.N[i]? = some x -> σ[i]? = some (some v) -> Vis X.env.scope x -> ∃ u,RelV v u /\ Look X.env s.heap m x u
 cell:∀ x c,X.env.cells.lookup x = some c -> ∃ v,s.heap.IsCell c v
 free:H X.env.locals = none
 freeC:∀ x c,X.env.cells.lookup x = some c -> H c = none
 pin:∀ p ∈ X.pn ++ pins,s.heap.get? p.1 = some p.2 /\ H p.1 = none /\ p.1 ≠ X.env.locals /\ p.1 ∉ X.fs /\ ∀ v,p.2.data ≠ .cell v
 hok:HOk X.prog X.w H s.heap
 len:σ.length = X.N.length
section
variable {X:Cx} {pins:List (Addr × Obj)} {σ:List (Option V)} {H H':Hp} {s:Shared} {h':Heap}
theorem Cx.Ok.nofr (ok:X.Ok) {b:Addr} {o:Obj} (e:X.base.get? b = some o):b ∉ X.fs:=fun hb=>by
 have:=(ok.funs.mem hb).1
 rw [e] at this; cases this
theorem Inv.bs (I:Inv X pins σ H s):∀ b o,X.base.get? b = some o -> s.heap.get? b = some o /\ H b = none:=fun b o e =>
 ⟨I.base.keep b o (I.ok.bs b o e).1 (I.ok.bs b o e).2 (I.ok.nofr e) (I.ok.noex b o e),I.base.free b o (I.ok.bs b o e).1 (I.ok.bs b o e).2 (I.ok.noex b o e)⟩
theorem Inv.bk (I:Inv X pins σ H s):∀ b o,X.base.get? b = some o -> s.heap.get? b = some o:=fun b o e=>(I.bs b o e).1
theorem Inv.mod (I:Inv X pins σ H s):Mod X.K X.mg X.base:=I.ok.mod
theorem Inv.kIn (I:Inv X pins σ H s):X.K.In s.heap:=I.ok.mod.kin.keeps I.bk
theorem Inv.lt (I:Inv X pins σ H s):X.env.locals < s.heap.objs.size:=let ⟨_,hn,_⟩:=I.loc; hn.lt
theorem Inv.sz (I:Inv X pins σ H s):X.s₀.heap.objs.size <= s.heap.objs.size:=Nat.le_trans I.ok.above (Nat.le_of_lt I.lt)
theorem Inv.nofs (I:Inv X pins σ H s) {a:Addr} (h:s.heap.objs.size <= a):a ∉ X.fs:=fun hb=>by
 obtain ⟨_,o,ho,_⟩:=I.ok.funs.mem hb
 exact absurd (Nat.lt_of_lt_of_le (Heap.lt_size ho) (Nat.le_trans I.sz h)) (Nat.lt_irrefl _)
theorem Inv.cne (I:Inv X pins σ H s):∀ x c,X.env.cells.lookup x = some c -> c ≠ X.env.locals:=fun x c e z=>by
 obtain ⟨v,o,ho,hd⟩:=I.cell x c e
 obtain ⟨m,⟨o',es,ep,ho',hd',_⟩,_⟩:=I.loc
 rw [z,ho'] at ho; cases ho; rw [hd'] at hd; cases hd
theorem Inv.funs (I:Inv X pins σ H s):s.heap.FunFrames X.base X.outer:=by
 have all:∀ (l:List Env),(∀ b ∈ frs l,b ∈ X.fs) -> X.s₀.heap.FunFrames X.base l -> s.heap.FunFrames X.base l:=by
  intro l
  induction l with
  | nil=>intro _ _; trivial
  | cons env r ih =>
   intro hs hl
   obtain ⟨hk,⟨L,o,hf,hn,ho,hd⟩,hr⟩:=hl
   have hL:L ∈ X.fs:=hs L (by unfold frs; rw [List.filterMap_cons,hf]; exact List.mem_cons_self)
   obtain ⟨sl,e⟩:=I.base.slot L o ho (I.ok.frf L hL) hL fun z=>I.ok.exfs L z hL
   exact ⟨hk,⟨L,_,hf,hn,e,hd⟩,ih (fun b hb=>hs b (by unfold frs; rw [List.filterMap_cons,hf]; exact List.mem_cons_of_mem _ hb)) hr⟩
 exact all X.outer (fun _ hb=>hb) I.ok.funs
theorem Inv.stack (I:Inv X pins σ H s):s.heap.FunFrames X.base X.stack:=by
 rcases I.ok.stk with e | ⟨e,hf⟩
 ·rw [e]; exact I.funs
 ·rw [e]
  obtain ⟨m,hn,_⟩:=I.loc
  refine .cons (by rw [I.ok.kind]; decide) hf hn ?_ I.funs
  exact Heap.get?_none_of_le (Nat.le_trans I.ok.bsz I.ok.above)
theorem Inv.stkSub (I:Inv X pins σ H s):∀ b ∈ frs X.stack,b ∈ X.env.locals :: X.fs:=fun b hb=>by
 rcases I.ok.stk with e | ⟨e,hf⟩
 ·rw [e] at hb; exact List.mem_cons_of_mem _ hb
 ·rw [e] at hb
  unfold frs at hb
  rw [List.filterMap_cons,hf] at hb
  exact hb
theorem Inv.stkFree (I:Inv X pins σ H s):∀ b ∈ frs X.stack,H b = none:=fun b hb=>by
 rcases List.mem_cons.mp (I.stkSub b hb) with e | hb
 ·rw [e]; exact I.free
 ·obtain ⟨_,o,ho,_⟩:=I.ok.funs.mem hb
  exact I.base.free b o ho (I.ok.frf b hb) fun z=>I.ok.exfs b z hb
theorem Inv.step {g':Array GenState} {t':Nat} {d':Drawn} {ch:List Addr} (I:Inv X pins σ H s)
  (hch:∀ b ∈ ch,(b ∈ X.ex \/ X.s₀.heap.objs.size <= b) /\ b ≠ X.env.locals /\ (∀ x c,X.env.cells.lookup x = some c -> c ≠ b) /\ ∀ p ∈ X.pn ++ pins,p.1 ≠ b)
  (keep:∀ b o,b ≠ X.env.locals -> b ∉ X.fs -> b ∉ ch -> s.heap.get? b = some o -> H b = none -> h'.get? b = some o)
  (slot:∀ b o,b ≠ X.env.locals -> b ∈ X.fs -> b ∉ ch -> s.heap.get? b = some o -> H b = none -> ∃ sl,h'.get? b = some { o with slots:=sl }) (free:∀ b o,b ∉ ch -> s.heap.get? b = some o -> H b = none -> H' b = none)
  (there:∀ b o,b ∉ ch -> s.heap.get? b = some o -> ∃ o',h'.get? b = some o')
  (tups:∀ b xs,H b = some (.tup xs) -> H' b = some (.tup xs)) (frzs:∀ b o u,H b = some (.frz o u) -> H' b = some (.frz o u)) (tbls:∀ b ps,H b = some (.tbl ps) -> ∃ more,H' b = some (.tbl (ps ++ more)))
  (ns:∀ m,s.heap.Ns X.env.locals m -> h'.Ns X.env.locals m) (hok:HOk X.prog X.w H' h') (hg:AllBare g') :
  Inv X pins σ H' { s with heap:=h',gens:=g',drawn:=d',toks:=t' }:=by
 have neL:∀ b o,X.s₀.heap.get? b = some o -> b ≠ X.env.locals:=fun b o e=>Nat.ne_of_lt (Nat.lt_of_lt_of_le (Heap.lt_size e) I.ok.above)
 have neC:∀ b o,X.s₀.heap.get? b = some o -> b ∉ X.ex -> b ∉ ch:=fun b o e hx hb=>by
  rcases (hch b hb).1 with z | z
  ·exact hx z
  ·exact absurd (Nat.lt_of_lt_of_le (Heap.lt_size e) z) (Nat.lt_irrefl _)
 have cellK:∀ x c,X.env.cells.lookup x = some c -> ∀ v,s.heap.IsCell c v -> h'.IsCell c v:=fun x c e v ⟨o,ho,hd⟩=>by
  have nch:c ∉ ch:=fun z=>(hch c z).2.2.1 x c e rfl
  by_cases hc:c ∈ X.fs
  ·obtain ⟨sl,q⟩:=slot c o (I.cne x c e) hc nch ho (I.freeC x c e)
   exact ⟨_,q,hd⟩
  ·exact ⟨o,keep c o (I.cne x c e) hc nch ho (I.freeC x c e),hd⟩
 refine ⟨I.ok,I.os,hg,⟨fun b o e n hb hx=>?_,fun b o e n hb hx=>?_,fun b o e n hx=>?_,fun b o e hx=>?_,fun b xs e=>tups b xs (I.base.tups b xs e),fun b o xs e=>frzs b o xs (I.base.frzs b o xs e),fun b ps e=>?_⟩,?_,fun x c e=>?_,?_,fun x c e=>?_,fun p hp=>?_,hok,I.len⟩
 ·exact keep b o (neL b o e) hb (neC b o e hx) (I.base.keep b o e n hb hx) (I.base.free b o e n hx)
 ·obtain ⟨sl,e1⟩:=I.base.slot b o e n hb hx
  obtain ⟨sl',e2⟩:=slot b _ (neL b o e) hb (neC b o e hx) e1 (I.base.free b o e n hx)
  exact ⟨sl',e2⟩
 ·obtain ⟨o',e1⟩:=I.base.there b o e hx
  exact free b o' (neC b o e hx) e1 (I.base.free b o e n hx)
 ·obtain ⟨o',e1⟩:=I.base.there b o e hx
  exact there b o' (neC b o e hx) e1
 ·obtain ⟨m1,e1⟩:=I.base.tbls b ps e
  obtain ⟨m2,e2⟩:=tbls b _ e1
  exact ⟨m1 ++ m2,by rw [e2,Array.append_assoc]⟩
 ·obtain ⟨m,hn,hl⟩:=I.loc
  refine ⟨m,ns m hn,fun i x v e1 e2 e3=>?_⟩
  obtain ⟨u,r,l⟩:=hl i x v e1 e2 e3
  refine ⟨u,r,?_⟩
  rcases l with l | ⟨k,c,e,z⟩
  ·exact .inl l
  ·exact .inr ⟨k,c,e,cellK x c e _ z⟩
 ·obtain ⟨v,z⟩:=I.cell x c e
  exact ⟨v,cellK x c e v z⟩
 ·obtain ⟨m,⟨o,_,_,ho,_⟩,_⟩:=I.loc
  exact free _ o (fun z=>(hch _ z).2.1 rfl) ho I.free
 ·obtain ⟨v,o,ho,hd⟩:=I.cell x c e
  exact free c o (fun z=>(hch c z).2.2.1 x c e rfl) ho (I.freeC x c e)
 ·obtain ⟨e,n,ne,nf,d⟩:=I.pin p hp
  have nch:p.1 ∉ ch:=fun z=>(hch p.1 z).2.2.2 p hp rfl
  exact ⟨keep p.1 p.2 ne nf nch e n,free p.1 p.2 nch e n,ne,nf,d⟩
theorem Inv.un {t':Nat} (I:Inv X pins σ H s) (u:Un X.fs [] H H' s.heap h') (hok:HOk X.prog X.w H' h'):Inv X pins σ H' { s with heap:=h',toks:=t' }:=by
 obtain ⟨m,⟨o,es,ep,ho,r⟩,_⟩:=id I.loc
 obtain ⟨sl,hL⟩:=u.any ho I.free (by simp)
 exact I.step (g':=s.gens) (d':=s.drawn) (ch:=[]) (fun _ z=>nomatch z) (fun b o _ hb _ e n=>u.keep b o e n hb (by simp)) (fun b o _ hb _ e n=>u.slot b o e n hb (by simp)) (fun b o _ e n=>u.free b o e n (by simp)) (fun b o _ e=>u.there b o e (by simp)) u.tups u.frzs u.tbls (fun m' hm=>by
  obtain ⟨o',es',ep',ho',r'⟩:=hm
  rw [ho] at ho'; cases ho'
  exact ⟨_,es',ep',hL,r'⟩) hok I.bare
theorem Inv.call {g':Array GenState} {t':Nat} {d':Drawn} {ch:List Addr} (I:Inv X pins σ H s) (u:Un (frs X.stack) ch H H' s.heap h') (hok:HOk X.prog X.w H' h') (hg:AllBare g')
  (hch:∀ b ∈ ch,(b ∈ X.ex \/ X.s₀.heap.objs.size <= b) /\ b ≠ X.env.locals /\ (∀ x c,X.env.cells.lookup x = some c -> c ≠ b) /\ ∀ p ∈ X.pn ++ pins,p.1 ≠ b) :
  Inv X pins σ H' { s with heap:=h',gens:=g',drawn:=d',toks:=t' }:=by
 obtain ⟨m,⟨o,es,ep,ho,r⟩,_⟩:=id I.loc
 obtain ⟨sl,hL⟩:=u.any ho I.free fun z=>(hch _ z).2.1 rfl
 exact I.step (ch:=ch) hch (fun b o hL hb hc e n=>u.keep b o e n (fun z=>(List.mem_cons.mp (I.stkSub b z)).elim hL hb) hc) (fun b o _ _ hc e n=>u.any e n hc) (fun b o hc e n=>u.free b o e n hc) (fun b o hc e=>u.there b o e hc) u.tups u.frzs u.tbls (fun m' hm=>by
  obtain ⟨o',es',ep',ho',r'⟩:=hm
  rw [ho] at ho'; cases ho'
  exact ⟨_,es',ep',hL,r'⟩) hok hg
theorem Inv.turned {t':Nat} {it:Addr} (I:Inv X pins σ H s) (k:∀ b o,b ≠ it -> s.heap.get? b = some o -> h'.get? b = some o) (hn:H it = none) (hL:it ≠ X.env.locals)
  (h1:it ∈ X.ex \/ X.s₀.heap.objs.size <= it) (h2:∀ x c,X.env.cells.lookup x = some c -> c ≠ it) (h3:∀ p ∈ X.pn ++ pins,p.1 ≠ it):Inv X pins σ H { s with heap:=h',toks:=t' }:=by
 have nit:∀ b u,H b = some u -> b ≠ it:=fun b u e z=>by rw [z,hn] at e; cases e
 refine I.step (g':=s.gens) (d':=s.drawn) (ch:=[it]) (fun b hb=>?_) (fun b o _ _ hc e _=>k b o (fun z=>hc (by simp [z])) e) (fun b o _ _ hc e _=>⟨o.slots,k b o (fun z=>hc (by simp [z])) e⟩) (fun _ _ _ _ n=>n)
  (fun b o hc e=>⟨o,k b o (fun z=>hc (by simp [z])) e⟩) (fun _ _ e=>e) (fun _ _ _ e=>e) (fun b ps e=>⟨#[],by rw [e]; simp⟩) (fun m hm=>?_) (fun b u e=>?_) I.bare
 ·have e:b = it:=by simpa using hb
  subst e
  exact ⟨h1,hL,h2,h3⟩
 ·obtain ⟨o,es,ep,ho,r⟩:=hm
  exact ⟨o,es,ep,k _ o (Ne.symm hL) ho,r⟩
 ·refine (I.hok b u e).stay (fun c v hc q=>k c v ?_ q) (fun _ q=>q) fun _ _ q=>q
  rcases hc with z | z
  ·rw [z]; exact nit b u e
  ·exact nit c _ z
theorem Inv.tok (I:Inv X pins σ H s) (t:Nat):Inv X pins σ H { s with toks:=t }:=I.un (h':=s.heap) (t':=t) Un.refl I.hok
theorem Inv.kept {t':Nat} (I:Inv X pins σ H s) (k:∀ b u,s.heap.get? b = some u -> h'.get? b = some u):Inv X pins σ H { s with heap:=h',toks:=t' }:=I.un (Un.kept k) (I.hok.kept k)
theorem Inv.laid {a:Addr} {o:HO} {t':Nat} (I:Inv X pins σ H s) (k:∀ b u,s.heap.get? b = some u -> h'.get? b = some u) (hp:s.heap.objs.size <= a) (new:xe1 X.prog X.w (upd H a o) h' a o) :
  Inv X pins σ (upd H a o) { s with heap:=h',toks:=t' }:=I.un (Un.laid k hp (I.hok.fresh hp)) (I.hok.laid k hp new)
theorem Inv.write {x e:Addr} {o:HO} {t':Nat} (I:Inv X pins σ H s) (mu:Mut (H x)) (he:e = x \/ H e = some (.own x)) (k:∀ b u,b ≠ e -> s.heap.get? b = some u -> h'.get? b = some u) (heo:∃ u,h'.get? e = some u)
  (new:xe1 X.prog X.w (upd H x o) h' x o):Inv X pins σ (upd H x o) { s with heap:=h',toks:=t' }:=I.un (Un.write mu he k heo) (I.hok.write mu he k heo new)
theorem Inv.pins_of {pins':List (Addr × Obj)} (I:Inv X pins σ H s) (h:∀ p ∈ pins',s.heap.get? p.1 = some p.2 /\ H p.1 = none /\ p.1 ≠ X.env.locals /\ p.1 ∉ X.fs /\ ∀ v,p.2.data ≠ .cell v):Inv X pins' σ H s :=
 ⟨I.ok,I.os,I.bare,I.base,I.loc,I.cell,I.free,I.freeC,fun p hp=>(List.mem_append.mp hp).elim (fun z=>I.pin p (List.mem_append_left _ z)) (h p),I.hok,I.len⟩
theorem ye0 {N:List Str} (hN:N.Nodup) {i j:Nat} {x:Str} (a:N[i]? = some x) (b:N[j]? = some x):i = j:=by
 obtain ⟨h1,e1⟩:=List.getElem?_eq_some_iff.mp a
 obtain ⟨h2,e2⟩:=List.getElem?_eq_some_iff.mp b
 exact (List.getElem_inj hN).mp (e1.trans e2.symm)
theorem yg5 {M:Model} {A:Around} {E:Value -> Shared -> Prop} {i:Nat} {x:Str} {v:V} {u:Value} {Q:Unit -> Shared -> Prop} (I:Inv X pins σ H s) (hN:X.N.Nodup) (hi:X.N[i]? = some x) (hx:Loc X.env.scope x) (r:RelV v u)
  (h:∀ s',Inv X pins (σ.set i (some v)) H s' -> (∃ a,Heap.SameBut a s.heap s'.heap /\ (a = X.env.locals \/ X.env.cells.lookup x = some a)) -> Q () s') (hf:X.fn x = true \/ X.env.scope.names.lookup x = some .local:=by first | exact .inl rfl | exact .inr rfl | assumption):wpAny M A (storeName X.env x u) Q E s:=by
 obtain ⟨m,hn,hl⟩:=id I.loc
 have hcls:(X.env.scope.kind == .class || (X.env.scope.kind == .module && X.env.locals != X.env.globals)) = false:=by rw [I.ok.kind]; rfl
 have hiσ:i < σ.length:=by rw [I.len]; exact (List.getElem?_eq_some_iff.mp hi).1
 have cne:=I.cne
 have tracked:∀ {a:Addr} {h':Heap},(∃ o,s.heap.get? a = some o /\ H a = none) -> Heap.SameBut a s.heap h' -> HOk X.prog X.w H h':=fun {a h'} ha hs b ob e=>by
  obtain ⟨_,_,hfree⟩:=ha
  refine (I.hok b ob e).stay (fun c w' hc q=>(hs.2 c ?_).trans q) (fun _ q=>q) fun _ _ q=>q
  rintro rfl
  rcases hc with rfl | hc
  ·rw [hfree] at e; cases e
  ·rw [hfree] at hc; cases hc
 rcases hx with hk | hk
 ·refine wpAny_storeName_local hk hn (fun h' hn' hs=>?_) hcls
  obtain ⟨oL,_,_,hoL,_⟩:=id hn
  refine h _ ⟨I.ok,I.os,I.bare,⟨fun b o e n hb hx=>?_,fun b o e n hb hx=>?_,I.base.free,fun b o e hx=>?_,I.base.tups,I.base.frzs,I.base.tbls⟩,⟨_,hn',fun j y v' e1 e2 e3=>?_⟩,fun y c e=>?_,I.free,I.freeC,fun p hp=>?_,tracked ⟨oL,hoL,I.free⟩ hs,by simpa using I.len⟩ ⟨_,hs,.inl rfl⟩
  ·exact (hs.2 b (Nat.ne_of_lt (Nat.lt_of_lt_of_le (Heap.lt_size e) I.ok.above))).trans (I.base.keep b o e n hb hx)
  ·obtain ⟨sl,e1⟩:=I.base.slot b o e n hb hx
   exact ⟨sl,(hs.2 b (Nat.ne_of_lt (Nat.lt_of_lt_of_le (Heap.lt_size e) I.ok.above))).trans e1⟩
  ·obtain ⟨o',e1⟩:=I.base.there b o e hx
   exact ⟨o',(hs.2 b (Nat.ne_of_lt (Nat.lt_of_lt_of_le (Heap.lt_size e) I.ok.above))).trans e1⟩
  ·by_cases hj:j = i
   ·subst hj
    rw [hi] at e1; cases e1
    rw [List.getElem?_set_self hiσ] at e2
    cases e2
    exact ⟨u,r,.inl ⟨hk,by simp⟩⟩
   ·rw [List.getElem?_set_ne (Ne.symm hj)] at e2
    obtain ⟨u',r',q⟩:=hl j y v' e1 e2 e3
    refine ⟨u',r',?_⟩
    rcases q with ⟨k,e⟩ | ⟨k,c,e,z⟩
    ·refine .inl ⟨k,?_⟩
     have:y ≠ x:=fun e=>hj (ye0 hN e1 (e ▸ hi))
     simp [this,e]
    ·exact .inr ⟨k,c,e,z.sameBut hs (cne y c e)⟩
  ·obtain ⟨w',z⟩:=I.cell y c e
   exact ⟨w',z.sameBut hs (cne y c e)⟩
  ·obtain ⟨e,n,ne,nf,d⟩:=I.pin p hp
   exact ⟨(hs.2 p.1 ne).trans e,n,ne,nf,d⟩
 ·have hfn:X.fn x = true:=by
   rcases hf with z | z
   ·exact z
   ·rw [z] at hk; cases hk
  obtain ⟨c,hc⟩:=I.ok.has x (.inl hk)
  obtain ⟨w',z⟩:=I.cell x c hc
  refine wpAny_storeName_cell I.ok.kind hk hc z (fun h' hc' hs=>?_)
  obtain ⟨oc,hoc,hocd⟩:=id z
  refine h { s with heap:=h' } ⟨I.ok,I.os,I.bare,⟨fun b o e n hb hx=>?_,fun b o e n hb hx=>?_,I.base.free,fun b o e hx=>?_,I.base.tups,I.base.frzs,I.base.tbls⟩,⟨m,hn.sameBut hs (Ne.symm (cne x c hc)),fun j y v' e1 e2 e3=>?_⟩,fun y c' e=>?_,I.free,I.freeC,fun p hp=>?_,tracked ⟨oc,hoc,I.freeC x c hc⟩ hs,by simpa using I.len⟩ ⟨c,hs,.inr hc⟩
  ·exact (hs.2 b (Nat.ne_of_lt (Nat.lt_of_lt_of_le (Heap.lt_size e) (I.ok.cab x c hfn hc)))).trans (I.base.keep b o e n hb hx)
  ·obtain ⟨sl,e1⟩:=I.base.slot b o e n hb hx
   exact ⟨sl,(hs.2 b (Nat.ne_of_lt (Nat.lt_of_lt_of_le (Heap.lt_size e) (I.ok.cab x c hfn hc)))).trans e1⟩
  ·obtain ⟨o',e1⟩:=I.base.there b o e hx
   exact ⟨o',(hs.2 b (Nat.ne_of_lt (Nat.lt_of_lt_of_le (Heap.lt_size e) (I.ok.cab x c hfn hc)))).trans e1⟩
  ·by_cases hj:j = i
   ·subst hj
    rw [hi] at e1; cases e1
    rw [List.getElem?_set_self hiσ] at e2
    cases e2
    exact ⟨u,r,.inr ⟨.inl hk,c,hc,hc'⟩⟩
   ·rw [List.getElem?_set_ne (Ne.symm hj)] at e2
    obtain ⟨u',r',q⟩:=hl j y v' e1 e2 e3
    refine ⟨u',r',?_⟩
    rcases q with q | ⟨k,c',e,z'⟩
    ·exact .inl q
    ·refine .inr ⟨k,c',e,z'.sameBut hs ?_⟩
     rintro rfl
     exact hj (ye0 hN e1 (I.ok.inj _ _ _ e hc ▸ hi))
  ·by_cases hcc:c' = c
   ·subst hcc; exact ⟨_,hc'⟩
   ·obtain ⟨w2,z2⟩:=I.cell y c' e
    exact ⟨w2,z2.sameBut hs hcc⟩
  ·obtain ⟨e,n,ne,nf,d⟩:=I.pin p hp
   refine ⟨(hs.2 p.1 ?_).trans e,n,ne,nf,d⟩
   intro q
   rw [q,hoc] at e
   have q':oc = p.2:=Option.some.inj e
   exact d w' (by rw [<- q']; exact hocd)
theorem yc1 {M:Model} {A:Around} {E:Value -> Shared -> Prop} {i:Nat} {x:Str} {v:V} {u:Value} {Q:Unit -> Shared -> Prop} (I:Inv X pins σ H s) (hN:X.N.Nodup) (hi:X.N[i]? = some x) (hx:Loc X.env.scope x) (r:RelV v u)
  (h:∀ s',Inv X pins (σ.set i (some v)) H s' -> Q () s') (hf:X.fn x = true \/ X.env.scope.names.lookup x = some .local:=by first | exact .inl rfl | exact .inr rfl | assumption):wpAny M A (storeName X.env x u) Q E s :=
 yg5 I hN hi hx r (fun s' I' _=>h s' I') hf
theorem Inv.call' {s':Shared} {ch:List Addr} (I:Inv X pins σ H s) (ho:s'.os = s.os) (u:Un (frs X.stack) ch H H' s.heap s'.heap) (hok:HOk X.prog X.w H' s'.heap) (hg:AllBare s'.gens)
  (hch:∀ b ∈ ch,(b ∈ X.ex \/ X.s₀.heap.objs.size <= b) /\ b ≠ X.env.locals /\ (∀ x c,X.env.cells.lookup x = some c -> c ≠ b) /\ ∀ p ∈ X.pn ++ pins,p.1 ≠ b):Inv X pins σ H' s':=by
 obtain ⟨h',g',d',t',o'⟩:=s'
 have e:o' = s.os:=ho
 subst e
 exact I.call (g':=g') (t':=t') (d':=d') u hok hg hch
end
abbrev XK:=Value -> Option Addr -> Hp -> Prop
abbrev St:=List (Option V)
abbrev VK:=V -> Hp -> Prop
abbrev TE:=St -> Hp -> VK -> Prop
abbrev TT:=St -> Hp -> (Bool -> Hp -> Prop) -> Prop
abbrev TA:=St -> Hp -> (List V -> Hp -> Prop) -> Prop
structure Ends where
 nx:St -> Hp -> Prop
 rt:VK
 bk:St -> Hp -> Prop:=fun _ _=>False
 ct:St -> Hp -> Prop:=fun _ _=>False
abbrev TS:=Ends -> St -> Hp -> Prop
def EP (X:Cx) (pins:List (Addr × Obj)) (σ:St) (Q:VK) (u:Value) (s':Shared):Prop:=∃ v H',Inv X pins σ H' s' /\ RelV v u /\ Q v H'
def TP (X:Cx) (pins:List (Addr × Obj)) (σ:St) (Q:Bool -> Hp -> Prop) (b:Bool) (s':Shared):Prop:=∃ H',Inv X pins σ H' s' /\ Q b H'
def AP (X:Cx) (pins:List (Addr × Obj)) (σ:St) (Q:List V -> Hp -> Prop) (us:List Value) (s':Shared):Prop:=∃ vs H',Inv X pins σ H' s' /\ Vals vs us /\ Q vs H'
def SP (X:Cx) (pins:List (Addr × Obj)) (D:Ends) (f:Flow) (s':Shared):Prop :=
 match f with
 | .next=>∃ σ' H',Inv X pins σ' H' s' /\ D.nx σ' H'
 | .brk=>∃ σ' H',Inv X pins σ' H' s' /\ D.bk σ' H'
 | .cont=>∃ σ' H',Inv X pins σ' H' s' /\ D.ct σ' H'
 | .ret u=>∃ v σ' H',Inv X pins σ' H' s' /\ RelV v u /\ D.rt v H'
def PE (X:Cx) (e:Expr) (t:TE):Prop :=
 ∀ (pins:List (Addr × Obj)) (s:Shared) (σ:St) (H:Hp) (Q:VK),Inv X pins σ H s -> t σ H Q -> wpAny (model X.prog X.w) X.A (eval e X.env) (EP X pins σ Q) X.xe s
def PT (X:Cx) (e:Expr) (t:TT):Prop :=
 ∀ (pins:List (Addr × Obj)) (s:Shared) (σ:St) (H:Hp) (Q:Bool -> Hp -> Prop),Inv X pins σ H s -> t σ H Q -> wpAny (model X.prog X.w) X.A (isTrue e X.env (eval e X.env)) (TP X pins σ Q) X.xe s
def PW (X:Cx) (e:Expr) (t:TT):Prop :=
 ∀ (whole:Sem Value) (pins:List (Addr × Obj)) (s:Shared) (σ:St) (H:Hp) (Q:Bool -> Hp -> Prop),Inv X pins σ H s -> t σ H Q -> wpAny (model X.prog X.w) X.A (isTrue e X.env whole) (TP X pins σ Q) X.xe s
theorem PW.pt {X:Cx} {e:Expr} {t:TT} (h:PW X e t):PT X e t:=h _
def PA (X:Cx) (es:List Expr) (t:TA):Prop :=
 ∀ (pos:Pos) (pins:List (Addr × Obj)) (s:Shared) (σ:St) (H:Hp) (Q:List V -> Hp -> Prop),Inv X pins σ H s -> t σ H Q -> wpAny (model X.prog X.w) X.A (spliced (backTo pos (starEach es X.env))) (AP X pins σ Q) X.xe s
def PS (X:Cx) (st:Stmt) (t:TS):Prop :=
 ∀ (pins:List (Addr × Obj)) (s:Shared) (σ:St) (H:Hp) (D:Ends),Inv X pins σ H s -> t D σ H -> wpAny (model X.prog X.w) X.A (exec st X.env) (SP X pins D) X.xe s
def PSs (X:Cx) (st:List Stmt) (t:TS):Prop :=
 ∀ (pins:List (Addr × Obj)) (s:Shared) (σ:St) (H:Hp) (D:Ends),Inv X pins σ H s -> t D σ H -> wpAny (model X.prog X.w) X.A (execs st X.env) (SP X pins D) X.xe s
theorem thn {α:Type} {t:Sem α} {Q Q':α -> Shared -> Prop} {M:Model} {A:Around} {E:Value -> Shared -> Prop} {s:Shared} (h:wpAny M A t Q E s) (hQ:∀ a s,Q a s -> Q' a s):wpAny M A t Q' E s:=wpAny_mono h hQ fun _ _ x=>x
section
variable {X:Cx}
def tVar (i:Nat):TE:=fun σ H Q=>∃ v,σ[i]? = some (some v) /\ Q v H
def tC (v:V):TE:=fun _ H Q=>Q v H
theorem pe_var {i:Nat} {x:Str} {pos:Pos} (hN:X.N[i]? = some x) (hv:Vis X.env.scope x) (hd:(x == ("__debug__" : Str)) = false:=by decide) (hcd:(x == ("__classdict__" : Str)) = false:=by decide):PE X (.Name x pos) (tVar i):=by
 intro pins s σ H Q I h
 obtain ⟨v,e,h⟩:=h
 obtain ⟨m,hn,hl⟩:=I.loc
 obtain ⟨u,r,l⟩:=hl i x v hN e hv
 have fin:EP X pins σ Q u s:=⟨v,H,I,r,h⟩
 rcases l with ⟨hk,hm⟩ | ⟨hk,c,hc,hcell⟩
 ·exact wpAny_Name (wpAny_loadName_local I.ok.kind hk hn hm fin) hd
 ·rcases hk with hk | hk
  ·exact wpAny_Name (wpAny_loadName_cell I.ok.kind hk hc hcell fin) hd
  ·exact wpAny_Name (wpAny_loadName_free I.ok.kind hk hc hcell fin hcd) hd
theorem xa9 {i j pos}:PE X (.Constant (.int i) j pos) (tC (.int i)):=fun _ _ _ H _ I h=>wpAny_Constant_int ⟨.int i,H,I.tok _,⟨_,rfl⟩,h⟩
theorem xv4 {b j pos}:PE X (.Constant (.bool b) j pos) (tC (.bl b)):=fun _ _ _ H _ I h=>Constant_bool ⟨.bl b,H,I,rfl,h⟩
theorem pe_non {j pos}:PE X (.Constant .none j pos) (tC .non):=fun _ _ _ H _ I h=>Constant_none ⟨.non,H,I,rfl,h⟩
theorem xc9 {x j pos}:PE X (.Constant (.str x) j pos) (tC (.str x)):=fun _ _ _ H _ I h=>Calls.Constant_str ⟨.str x,H,I.tok _,⟨_,rfl⟩,h⟩
def Gl (X:Cx) (x:Str):Prop:=X.env.kindOf x = some .globalImplicit
theorem xw6 {E:Value -> Shared -> Prop} {pins:List (Addr × Obj)} {s:Shared} {σ:St} {H:Hp} {x:Str} {u:Value} {pos:Pos} {Q:Value -> Shared -> Prop} (I:Inv X pins σ H s) (hg:Gl X x) (hm:X.mg x = some u) (h:Q u s)
  (hd:(x == ("__debug__" : Str)) = false:=by decide):wpAny (model X.prog X.w) X.A (eval (.Name x pos) X.env) Q E s :=
 Calls.Name_function_global I.ok.kind hg (Calls.loadGlobal_global (by rw [I.ok.glob]; exact I.mod.glob.keeps I.bk) hm h) hd
theorem xw7 {E:Value -> Shared -> Prop} {pins:List (Addr × Obj)} {s:Shared} {σ:St} {H:Hp} {x:Str} {u:Value} {pos:Pos} {Q:Value -> Shared -> Prop} (I:Inv X pins σ H s) (hg:Gl X x) (hm:X.mg x = none) (hv:bootBuiltins x = some u) (h:Q u s)
  (hn:x ≠ "__name__":=by decide) (hd:(x == ("__debug__" : Str)) = false:=by decide):wpAny (model X.prog X.w) X.A (eval (.Name x pos) X.env) Q E s:=by
 obtain ⟨mb,h1,h2⟩:=I.mod.blt
 exact Calls.Name_function_global I.ok.kind hg (Calls.loadGlobal_builtin (by rw [I.ok.glob]; exact I.mod.glob.keeps I.bk) hm (by rw [I.ok.blt]; exact h1.keeps I.bk) ((h2 x hn).trans hv) h) hd
theorem yd3 {x:Str} {v:V} {u:Value} {pos:Pos} (hg:Gl X x) (hm:X.mg x = some u) (r:RelV v u) (hd:(x == ("__debug__" : Str)) = false:=by decide):PE X (.Name x pos) (tC v) :=
 fun _ _ _ H _ I h=>xw6 I hg hm ⟨v,H,I,r,h⟩ hd
theorem pe_bltn {x:Str} {v:V} {u:Value} {pos:Pos} (hg:Gl X x) (hm:X.mg x = none) (hv:bootBuiltins x = some u) (r:RelV v u) (hn:x ≠ "__name__":=by decide) (hd:(x == ("__debug__" : Str)) = false:=by decide):PE X (.Name x pos) (tC v) :=
 fun _ _ _ H _ I h=>xw7 I hg hm hv ⟨v,H,I,r,h⟩ hn hd
variable {a b:Expr} {ta tb:TE} {pos:Pos}
def PC (X:Cx) (op:CmpOp) (a b:Expr) (t:TE):Prop :=
 ∀ (pins:List (Addr × Obj)) (s:Shared) (σ:St) (H:Hp) (Q:VK),Inv X pins σ H s -> t σ H Q ->
  wpAny (model X.prog X.w) X.A (eval a X.env) (fun v s₁=>wpAny (model X.prog X.w) X.A (eval b X.env) (fun u s₂=>wpAny (model X.prog X.w) X.A (compareOp op v u) (EP X pins σ Q) X.xe s₂) X.xe s₁) X.xe s
def tB (t:TE):TT:=fun σ H Q=>t σ H fun x H1=>∃ c,x = .bl c /\ Q c H1
theorem ya4 {op:CmpOp} {t:TE} (h:PC X op a b t) (h1:behindInMarks op b = false:=by first | exact nobehind _ (by decide) (by decide) | rfl):PT X (.Compare a [op] [b] pos) (tB t):=by
 intro pins s σ H Q I hw
 refine wpAny_isTrue_Compare1 (thn (h pins s σ H _ I hw) fun v s1 h1=>thn h1 fun u s2 h2=>thn h2 fun c s3 ⟨x,H1,I1,r1,q1⟩=>?_) h1
 obtain ⟨d,rfl,q⟩:=q1
 cases r1
 exact wpAny_truthy_bool ⟨H1,I1,q⟩
theorem xh3 {e:Expr} {t:TE} (h:PE X e t) (he:∀ whole,isTrue e X.env whole = (do let v <- whole; standAt e.pos; holding [v] (truthy v)):=by intro _; rfl):PT X e (tB t):=by
 intro pins s σ H Q I hw
 refine isTrue_plain (thn (h pins s σ H _ I hw) fun v s1 ⟨x,H1,I1,r1,q1⟩=>?_) (he _)
 obtain ⟨d,rfl,q⟩:=q1
 cases r1
 exact wpAny_truthy_bool ⟨H1,I1,q⟩
variable {tA tB':TT} {rest:List Expr}
def tAnd (t u:TT):TT:=fun σ H Q=>t σ H fun c H1=>if c = true then u σ H1 Q else Q false H1
def tOr (t u:TT):TT:=fun σ H Q=>t σ H fun c H1=>if c = true then Q true H1 else u σ H1 Q
def tNot (t:TT):TT:=fun σ H Q=>t σ H fun c H1=>Q (!c) H1
theorem yx2 (ha:PT X a tA):PW X (.BoolOp .And [a] pos) tA:=by
 intro wh pins s σ H Q I h
 refine isTrue_and (thn (ha pins s σ H Q I h) fun c s1 e=>?_)
 cases c with
 | true=>exact isTrue_and_nil e
 | false=>exact e
theorem pw_or1 (ha:PT X a tA):PW X (.BoolOp .Or [a] pos) tA:=by
 intro wh pins s σ H Q I h
 refine isTrue_or (thn (ha pins s σ H Q I h) fun c s1 e=>?_)
 cases c with
 | false=>exact isTrue_or_nil e
 | true=>exact e
theorem pw_and (ha:PT X a tA) (hb:PW X (.BoolOp .And (b :: rest) pos) tB'):PW X (.BoolOp .And (a :: b :: rest) pos) (tAnd tA tB'):=by
 intro wh pins s σ H Q I h
 refine isTrue_and (thn (ha pins s σ H _ I h) fun c s1 ⟨H1,I1,q1⟩=>?_)
 cases c with
 | true=>exact hb wh pins s1 σ H1 Q I1 q1
 | false=>exact ⟨H1,I1,q1⟩
theorem pw_or (ha:PT X a tA) (hb:PW X (.BoolOp .Or (b :: rest) pos) tB'):PW X (.BoolOp .Or (a :: b :: rest) pos) (tOr tA tB'):=by
 intro wh pins s σ H Q I h
 refine isTrue_or (thn (ha pins s σ H _ I h) fun c s1 ⟨H1,I1,q1⟩=>?_)
 cases c with
 | true=>exact ⟨H1,I1,q1⟩
 | false=>exact hb wh pins s1 σ H1 Q I1 q1
theorem xi8 (ha:PT X a tA):PT X (.UnaryOp .Not a pos) (tNot tA):=by
 intro pins s σ H Q I h
 exact isTrue_not (ha pins s σ H (fun c H1=>Q (!c) H1) I h)
def tAndV (ta tb:TE):TE:=fun σ H Q=>ta σ H fun x H1=>∃ c,x = .bl c /\ if c = true then tb σ H1 Q else Q (.bl false) H1
def tNotV (ta:TE):TE:=fun σ H Q=>ta σ H fun x H1=>∃ c,x = .bl c /\ Q (.bl (!c)) H1
theorem xp5 {op} {t:TE} (h:PE X a t):PE X (.BoolOp op [a] pos) t:=fun pins s σ H Q I hw=>BoolOp_one (h pins s σ H Q I hw)
theorem xp8 (ha:PE X a ta) (hb:PE X (.BoolOp .And (b :: rest) pos) tb):PE X (.BoolOp .And (a :: b :: rest) pos) (tAndV ta tb):=by
 intro pins s σ H Q I h
 refine BoolOp_and (thn (ha pins s σ H _ I h) fun v s1 ⟨x,H1,I1,r1,q1⟩=>?_)
 obtain ⟨c,rfl,q1⟩:=q1
 cases r1
 refine wpAny_truthy_bool ?_
 cases c with
 | true=>exact hb pins s1 σ H1 Q I1 q1
 | false=>exact ⟨.bl false,H1,I1,rfl,q1⟩
theorem pe_not (ha:PE X a ta):PE X (.UnaryOp .Not a pos) (tNotV ta):=by
 intro pins s σ H Q I h
 refine UnaryOp_ (thn (ha pins s σ H _ I h) fun v s1 ⟨x,H1,I1,r1,q1⟩=>?_)
 obtain ⟨c,rfl,q1⟩:=q1
 cases r1
 exact not_of (wpAny_truthy_bool ⟨.bl (!c),H1,I1,rfl,q1⟩)
def tIf (t:TT) (ta tb:TE):TE:=fun σ H Q=>t σ H fun c H1=>if c = true then ta σ H1 Q else tb σ H1 Q
theorem pe_ifExp {c:Expr} (hc:PT X c tA) (ha:PE X a ta) (hb:PE X b tb):PE X (.IfExp c a b pos) (tIf tA ta tb):=by
 intro pins s σ H Q I h
 refine wpAny_IfExp (thn (hc pins s σ H _ I h) fun d s1 ⟨H1,I1,q1⟩=>?_)
 cases d with
 | true=>exact ha pins s1 σ H1 Q I1 q1
 | false=>exact hb pins s1 σ H1 Q I1 q1
end
def SqL (K:Frag) (H:Hp) (a:Addr) (xs:List V):Prop :=
 Rd H a (.lst xs) \/
  ∃ (o:Obj) (its:Array Value) (n:Nat),K.lookup a = some o /\ o.cls = .type "list" /\ o.dict = none /\ o.data = .seq its n /\ its.size <= sizeLine /\ Vals xs its.toList
def SqT (K:Frag) (H:Hp) (a:Addr) (xs:List V):Prop :=
 Rd H a (.tup xs) \/
  ∃ (o:Obj) (its:Array Value) (n:Nat),K.lookup a = some o /\ o.cls = .type "tuple" /\ o.data = .seq its n /\ its.size <= sizeLine /\ Vals xs its.toList
def absV:Value -> Option V
 | .none=>some .non
 | .bool b=>some (.bl b)
 | .int i _=>some (.int i)
 | .str x _=>some (.str x)
 | .bytes b _=>some (.byt b)
 | .float b _=>some (.flt b)
 | .ref a=>some (.ref a)
 | .type n=>some (.ty n)
 | _=>none
theorem RelV.abs {x:V} {u:Value} (r:RelV x u):absV u = some x:=by
 cases x with
 | non=>cases r; rfl
 | bl _=>cases r; rfl
 | int _=>obtain ⟨t,rfl⟩:=r; rfl
 | str _=>obtain ⟨t,rfl⟩:=r; rfl
 | byt _=>obtain ⟨t,rfl⟩:=r; rfl
 | flt _=>obtain ⟨t,rfl⟩:=r; rfl
 | ref _=>cases r; rfl
 | ty _=>cases r; rfl
theorem RelV.inj {x y:V} {u:Value} (r:RelV x u) (q:RelV y u):x = y:=Option.some.inj (r.abs.symm.trans q.abs)
theorem Vals.inj:∀ {xs ys:List V} {us:List Value},Vals xs us -> Vals ys us -> xs = ys
 | _,_,_,.nil,.nil=>rfl
 | _,_,_,.cons r t,.cons r' t'=>by rw [r.inj r',Vals.inj t t']
section
variable {X:Cx} {pins:List (Addr × Obj)} {σ:St} {H:Hp} {s:Shared} {a:Addr} {xs ys:List V}
theorem SqL.of {K:Frag} (h:H a = some (.lst xs)):SqL K H a xs:=.inl (.inl h)
theorem SqT.of {K:Frag} (h:H a = some (.tup xs)):SqT K H a xs:=.inl (.inl h)
theorem Inv.list (I:Inv X pins σ H s) (h:SqL X.K H a xs):∃ its:List Value,Vals xs its /\ PlainL s.heap a its.toArray /\ xs.length <= sizeLine:=by
 rcases h with h | ⟨o,its,n,hk,hc,hd,hs,hz,r⟩
 ·obtain ⟨z,its,n,r,e⟩:=h.ok I.hok
  exact ⟨its,r,⟨_,n,e,rfl,rfl,rfl⟩,z⟩
 ·refine ⟨its.toList,r,⟨o,n,I.kIn a o hk,hc,hd,by simpa using hs⟩,?_⟩
  have e:=r.length
  simp only [Array.length_toList] at e
  omega
theorem Inv.tuple (I:Inv X pins σ H s) (h:SqT X.K H a xs):∃ its:List Value,Vals xs its /\ IsTup s.heap a its.toArray /\ xs.length <= sizeLine:=by
 rcases h with h | ⟨o,its,n,hk,hc,hs,hz,r⟩
 ·obtain ⟨z,its,r,p⟩:=h.ok I.hok
  exact ⟨its,r,p,z⟩
 ·refine ⟨its.toList,r,⟨o,I.kIn a o hk,hc,n,by simpa using hs⟩,?_⟩
  have e:=r.length
  simp only [Array.length_toList] at e
  omega
theorem Inv.list_inj (I:Inv X pins σ H s) (h:SqL X.K H a xs) (h':SqL X.K H a ys):xs = ys:=by
 obtain ⟨its,r,⟨o,n,e,_,_,d⟩,_⟩:=I.list h
 obtain ⟨its',r',⟨o',n',e',_,_,d'⟩,_⟩:=I.list h'
 rw [e] at e'; cases e'
 rw [d] at d'
 injection d' with d1 _
 have:its = its':=by simpa using congrArg Array.toList d1
 subst this
 exact r.inj r'
end
abbrev Cx.wish (X:Cx) (E:Value -> Shared -> Prop):Cx:={ X with xe:=E }
abbrev Cx.nox (X:Cx):Cx:=X.wish fun _ _=>False
theorem Cx.Ok.wish {X:Cx} (ok:X.Ok) (E:Value -> Shared -> Prop):(X.wish E).Ok :=
 ⟨ok.mod,ok.kind,ok.glob,ok.blt,ok.above,ok.inj,ok.has,ok.cab,ok.hd,ok.frames,ok.stk,ok.exf,ok.bs,ok.bsz,ok.noex,ok.exfs,ok.funs,ok.frf⟩
theorem Cx.Ok.unwish {X:Cx} {E:Value -> Shared -> Prop} (ok:(X.wish E).Ok):X.Ok :=
 ⟨ok.mod,ok.kind,ok.glob,ok.blt,ok.above,ok.inj,ok.has,ok.cab,ok.hd,ok.frames,ok.stk,ok.exf,ok.bs,ok.bsz,ok.noex,ok.exfs,ok.funs,ok.frf⟩
section
variable {X:Cx} {pins:List (Addr × Obj)} {σ:St} {H:Hp} {s:Shared} {E:Value -> Shared -> Prop}
theorem Inv.wish (I:Inv X pins σ H s) (E:Value -> Shared -> Prop):Inv (X.wish E) pins σ H s:=⟨I.ok.wish E,I.os,I.bare,I.base,I.loc,I.cell,I.free,I.freeC,I.pin,I.hok,I.len⟩
theorem Inv.unwish (I:Inv (X.wish E) pins σ H s):Inv X pins σ H s:=⟨I.ok.unwish,I.os,I.bare,I.base,I.loc,I.cell,I.free,I.freeC,I.pin,I.hok,I.len⟩
theorem SP.unwish {D:Ends} {f:Flow} {s':Shared} (h:SP (X.wish E) pins D f s'):SP X pins D f s':=by
 cases f with
 | next=>obtain ⟨σ',H',I,q⟩:=h; exact ⟨σ',H',I.unwish,q⟩
 | brk=>obtain ⟨σ',H',I,q⟩:=h; exact ⟨σ',H',I.unwish,q⟩
 | cont=>obtain ⟨σ',H',I,q⟩:=h; exact ⟨σ',H',I.unwish,q⟩
 | ret u=>obtain ⟨v,σ',H',I,r,q⟩:=h; exact ⟨v,σ',H',I.unwish,r,q⟩
theorem PSs.nox {st:List Stmt} {t:TS} (h:PSs X.nox st t):PSs X st t:=fun pins s σ H D I hw =>
 wpAny_mono (h pins s σ H D (I.wish _) hw) (fun _ _ q=>q.unwish) fun _ _ z=>False.elim z
end
section
variable {X:Cx} {st:Stmt} {rest:List Stmt} {t u:TS} {e:Expr} {te:TE} {pos:Pos}
def tNext:TS:=fun D σ H=>D.nx σ H
def tSeq (t u:TS):TS:=fun D σ H=>t { D with nx:=u D } σ H
theorem xb9:PSs X [] tNext:=fun _ _ σ H _ I h=>wpAny_execs_nil ⟨σ,H,I,h⟩
theorem xa4 (h1:PS X st t) (h2:PSs X rest u):PSs X (st :: rest) (tSeq t u):=by
 intro pins s σ H D I h
 refine wpAny_execs_cons (thn (h1 pins s σ H { D with nx:=u D } I h) fun f s1 q=>?_)
 cases f with
 | next =>
  obtain ⟨σ',H',I',q⟩:=q
  exact h2 pins s1 σ' H' D I' q
 | ret v=>exact q
 | brk=>exact q
 | cont=>exact q
theorem xa5 (h1:PS X st t):PSs X [st] t:=by
 intro pins s σ H D I h
 refine wpAny_execs_cons (thn (h1 pins s σ H D I h) fun f s1 q=>?_)
 cases f with
 | next=>exact wpAny_execs_nil q
 | ret v=>exact q
 | brk=>exact q
 | cont=>exact q
theorem Inv.quiet {pins:List (Addr × Obj)} {σ:St} {H:Hp} {s:Shared} (I:Inv X pins σ H s):interactive X.env = false:=by simp [interactive,I.ok.kind]
def tDrop (te:TE):TS:=fun D σ H=>te σ H fun _ H1=>D.nx σ H1
theorem xd0 (he:PE X e te) (hs:swapsWith e none pos.line X.env = pure false:=by rfl):PS X (.Expr e pos) (tDrop te):=by
 intro pins s σ H D I h
 exact wpAny_Expr_any (thn (he pins s σ H _ I h) fun v s1 ⟨x,H1,I1,r1,q1⟩=>⟨σ,H1,I1,q1⟩) I.quiet hs
def tRet (te:TE):TS:=fun D σ H=>te σ H D.rt
theorem xb7 (he:PE X e te):PS X (.Return (some e) pos) (tRet te):=by
 intro pins s σ H D I h
 exact wpAny_Return_some (thn (he pins s σ H _ I h) fun v s1 ⟨x,H1,I1,r1,q1⟩=>⟨x,σ,H1,I1,r1,q1⟩)
def tIfS (c:TT) (t u:TS):TS:=fun D σ H=>c σ H fun b H1=>if b = true then t D σ H1 else u D σ H1
theorem xg1 {c:Expr} {a b:List Stmt} {tc:TT} (hc:PT X c tc) (ha:PSs X a t) (hb:PSs X b u):PS X (.If c a b pos) (tIfS tc t u):=by
 intro pins s σ H D I h
 refine wpAny_If (thn (hc pins s σ H _ I h) fun d s1 ⟨H1,I1,q1⟩=>?_)
 cases d with
 | true=>exact ha pins s1 σ H1 D I1 q1
 | false=>exact hb pins s1 σ H1 D I1 q1
end
abbrev TG:=V -> St -> Hp -> (St -> Hp -> Prop) -> Prop
abbrev TGs:=List V -> St -> Hp -> (St -> Hp -> Prop) -> Prop
def PG (X:Cx) (target:Expr) (t:TG):Prop :=
 ∀ (pins:List (Addr × Obj)) (s:Shared) (σ:St) (H:Hp) (v:V) (u:Value) (Q:St -> Hp -> Prop),Inv X pins σ H s -> RelV v u -> t v σ H Q ->
  wpAny (model X.prog X.w) X.A (assign target X.env u) (fun _ s'=>∃ σ' H',Inv X pins σ' H' s' /\ Q σ' H') X.xe s
def PGs (X:Cx) (ts:List Expr) (t:TGs):Prop :=
 ∀ (pins:List (Addr × Obj)) (s:Shared) (σ:St) (H:Hp) (vs:List V) (us:List Value) (Q:St -> Hp -> Prop),Inv X pins σ H s -> Vals vs us -> t vs σ H Q ->
  wpAny (model X.prog X.w) X.A (assignInOrder ((assignEach ts X.env).map (·.2)) us) (fun _ s'=>∃ σ' H',Inv X pins σ' H' s' /\ Q σ' H') X.xe s
section
variable {X:Cx} {pos:Pos}
def gName (i:Nat):TG:=fun v σ H Q=>Q (σ.set i (some v)) H
theorem xd5 {i:Nat} {x:Str} (hN:X.N.Nodup) (hi:X.N[i]? = some x) (hx:Loc X.env.scope x) (hf:X.fn x = true \/ X.env.scope.names.lookup x = some .local:=by first | exact .inl rfl | exact .inr rfl | assumption):PG X (.Name x pos) (gName i):=by
 intro pins s σ H v u Q I r h
 exact wpAny_assign_Name (yc1 I hN hi hx r (fun s' I'=>⟨_,H,I',h⟩) hf)
def gNil:TGs:=fun vs σ H Q=>vs = [] /\ Q σ H
def gCons (t:TG) (u:TGs):TGs:=fun vs σ H Q=>∃ v r,vs = v :: r /\ t v σ H fun σ' H'=>u r σ' H' Q
theorem yx8:PGs X [] gNil:=by
 intro pins s σ H vs us Q I r h
 obtain ⟨e,h⟩:=h
 subst e
 cases r
 exact assignInOrder_nil ⟨σ,H,I,h⟩
theorem xt9 {e:Expr} {es:List Expr} {t:TG} {u:TGs} (h1:PG X e t) (h2:PGs X es u)
  (hs:(assignEach (e :: es) X.env).map (·.2) = assign e X.env :: (assignEach es X.env).map (·.2):=by rfl):PGs X (e :: es) (gCons t u):=by
 intro pins s σ H vs us Q I r h
 obtain ⟨v,vr,e1,h⟩:=h
 subst e1
 cases r with
 | cons r rr =>
  rw [hs]
  refine assignInOrder_cons (thn (h1 pins s σ H _ _ _ I r h) fun _ s1 ⟨σ1,H1,I1,q1⟩=>?_)
  exact h2 pins s1 σ1 H1 _ _ Q I1 rr q1
def gTup (K:Frag) (n:Nat) (t:TGs):TG:=fun v σ H Q=>∃ a xs,v = .ref a /\ SqT K H a xs /\ xs.length = n /\ t xs σ H Q
theorem pg_tup {es:List Expr} {k:Nat} {t:TGs} {n:Nat} (hc:X.calm = true) (h:PGs X es t)
  (hn:(assignEach es X.env).length = n:=by rfl) (hst:(assignEach es X.env).findIdx? (·.1) = none:=by rfl):PG X (.Tuple es k pos) (gTup X.K n t):=by
 intro pins s σ H v u Q I r hw
 obtain ⟨a,xs,e1,hq,hl,hw⟩:=hw
 subst e1
 cases r
 obtain ⟨its,rv,ht,hz⟩:=I.tuple hq
 refine assign_Tuple_tuple (I.ok.hd hc) ht (by simp [hn,<- hl,rv.length]) hst fun h' hx=>?_
 have I1:Inv X pins σ H { s with heap:=h' }:=I.kept (t':=s.toks) fun b o e=>hx b o (Nat.ne_of_lt (Heap.lt_size e)) e
 exact h pins _ σ H xs _ Q I1 (by simpa using rv) hw
def tAsg (te:TE) (g:TG):TS:=fun D σ H=>te σ H fun x H1=>g x σ H1 D.nx
theorem xd8 {i:Nat} {x:Str} {e:Expr} {te:TE} {pos':Pos} (hN:X.N.Nodup) (hi:X.N[i]? = some x) (hx:Loc X.env.scope x) (he:PE X e te) (hs:swapsWith e (some (.Name x pos')) pos.line X.env = pure false:=by rfl) (hf:X.fn x = true \/ X.env.scope.names.lookup x = some .local:=by first | exact .inl rfl | exact .inr rfl | assumption) :
  PS X (.Assign [.Name x pos'] e pos) (tAsg te (gName i)):=by
 intro pins s σ H D I h
 refine wpAny_Assign_Name (thn (he pins s σ H _ I h) fun v s1 ⟨y,H1,I1,r1,q1⟩=>?_) hs
 exact yc1 I1 hN hi hx r1 (fun s2 I2=>⟨_,H1,I2,q1⟩) hf
end
section
variable {X:Cx} {pos:Pos}
end
structure It where
 go:Nat -> Hp -> Prop
 yld:Nat -> Hp -> V -> Hp -> Prop
 stop:Nat -> Hp -> Prop
def FpOk (X:Cx) (pins:List (Addr × Obj)) (H:Hp) (b:Addr):Prop :=
 H b = none /\ b ≠ X.env.locals /\ b ∉ X.fs /\ (b ∈ X.ex \/ X.s₀.heap.objs.size <= b) /\ (∀ x c,X.env.cells.lookup x = some c -> c ≠ b) /\ ∀ p ∈ X.pn ++ pins,p.1 ≠ b
theorem Inv.fpOk {X:Cx} {pins:List (Addr × Obj)} {σ:St} {H H':Hp} {s:Shared} {b:Addr} (I:Inv X pins σ H s) (hb:s.heap.objs.size <= b) (hn:H' b = none):FpOk X pins H' b:=by
 refine ⟨hn,Nat.ne_of_gt (Nat.lt_of_lt_of_le I.lt hb),I.nofs hb,.inr (Nat.le_trans I.sz hb),fun x c e z=>?_,fun p hp z=>?_⟩
 ·obtain ⟨v,q⟩:=I.cell x c e
  exact absurd (Nat.lt_of_lt_of_le q.lt (by rw [z]; exact hb)) (Nat.lt_irrefl _)
 ·exact absurd (Nat.lt_of_lt_of_le (Heap.lt_size (I.pin p hp).1) (by rw [z]; exact hb)) (Nat.lt_irrefl _)
structure Turn (P:Program) (w:World) (K:Frag) (tg:Expr) (J:It) (fp:List Addr) (it:Addr) (tn:Nat -> Heap -> Prop):Prop where
 mem:it ∈ fp
 obj:∀ i h,tn i h -> ∀ b ∈ fp,∃ o,h.get? b = some o /\ ∀ v,o.data ≠ .cell v
 keep:∀ i h h',tn i h -> (∀ b ∈ fp,∀ o,h.get? b = some o -> h'.get? b = some o) -> tn i h'
 item:∀ (X:Cx),X.prog = P -> X.w = w -> X.K = K -> X.calm = true -> ∀ (i:Nat) (pins:List (Addr × Obj)) (s:Shared) (σ:St) (H:Hp) (E:Value -> Shared -> Prop),Inv X pins σ H s -> (∀ b ∈ fp,FpOk X pins H b) -> tn i s.heap -> J.go i H ->
  wpAny (model P w) X.A (pyNext (.ref it)) (fun r s1=>∃ u,r = some u /\
   wpAny (model P w) X.A (letOwnedTupleGo tg (.ref it) u) (fun _ s2=>∃ x H',Inv X pins σ H' s2 /\ RelV x u /\ J.yld i H x H' /\ tn (i + 1) s2.heap /\ ∀ b ∈ fp,H' b = none) E s1) E s
 done:∀ (X:Cx),X.prog = P -> X.w = w -> X.K = K -> X.calm = true -> ∀ (i:Nat) (pins:List (Addr × Obj)) (s:Shared) (σ:St) (H:Hp) (E:Value -> Shared -> Prop),Inv X pins σ H s -> (∀ b ∈ fp,FpOk X pins H b) -> tn i s.heap -> J.stop i H ->
  wpAny (model P w) X.A (pyNext (.ref it)) (fun r s1=>r = none /\ Inv X pins σ H s1) E s
 self:∀ (A:Around) (i:Nat) (s:Shared) (Q:Value -> Shared -> Prop) (E:Value -> Shared -> Prop),tn i s.heap -> Q (.ref it) s -> wpAny (model P w) A (pyIter (.ref it)) Q E s
abbrev TI:=St -> Hp -> (It -> Hp -> Prop) -> Prop
def PIE (X:Cx) (pins:List (Addr × Obj)) (σ:St) (tg:Expr) (R:It -> Hp -> Prop) (itv:Value) (s2:Shared):Prop :=
 ∃ (it:Addr) (fp:List Addr) (tn:Nat -> Heap -> Prop) (J:It) (H':Hp),itv = .ref it /\ Inv X pins σ H' s2 /\ Turn X.prog X.w X.K tg J fp it tn /\ tn 0 s2.heap /\ (∀ b ∈ fp,FpOk X pins H' b) /\ R J H'
def PI (X:Cx) (tg iter:Expr) (wi:TI):Prop :=
 ∀ (pins:List (Addr × Obj)) (s:Shared) (σ:St) (H:Hp) (R:It -> Hp -> Prop),Inv X pins σ H s -> wi σ H R ->
  wpAny (model X.prog X.w) X.A (eval iter X.env) (fun v s1=>wpAny (model X.prog X.w) X.A (pyIter v) (PIE X pins σ tg R) X.xe s1) X.xe s
theorem yn1 {M:Model} {A:Around} {E:Value -> Shared -> Prop} {s:Shared} {tg:Expr} {it:Addr} {u:Value} {o:Obj} {n:String} {vs:Array Value} {Q:Unit -> Shared -> Prop} (ho:s.heap.get? it = some o) (hc:o.cls = .type n) (hd:o.data = .fields vs)
    (hn:["enumerate","zip","dict_itemiterator","dict_reverseitemiterator","odict_iterator","itertools.zip_longest","itertools.pairwise"].contains n = false) (hQ:Q () s):wpAny M A (letOwnedTupleGo tg (.ref it) u) Q E s:=by
  unfold letOwnedTupleGo
  cases tg <;> first
    | exact wpAny_pure hQ
    | (cases u <;> first
        | exact wpAny_pure hQ
        | (refine wpAny_bind (wpAny_load ho ?_)
           rw [hc,hd]
           show wpAny M A (if (["enumerate","zip","dict_itemiterator","dict_reverseitemiterator","odict_iterator","itertools.zip_longest","itertools.pairwise"].contains n && vs[0]? == some (rawInt _)) = true then _ else _) Q E s
           rw [if_neg (by intro h; rw [hn,Bool.false_and] at h; cases h)]
           exact wpAny_pure hQ))
def Itl (K:Frag) (a:Addr):It :=
 ⟨fun i H=>∃ xs x,SqL K H a xs /\ xs[i]? = some x,fun i H x H'=>H' = H /\ ∀ xs,SqL K H a xs -> xs[i]? = some x,fun i H=>∃ xs,SqL K H a xs /\ xs.length <= i⟩
def Itr (lo:Int) (n:Nat):It:=⟨fun i _=>i < n,fun i H x H'=>H' = H /\ x = .int (lo + i),fun i _=>n <= i⟩
theorem yw0 {P:Program} {w:World} {K:Frag} {tg:Expr} (a it:Addr):Turn P w K tg (Itl K a) [it] it (fun i h=>h.IsListIter it a i) where
 mem:=by simp
 obj:=fun i h st b hb=>by
  have e:b = it:=by simpa using hb
  subst e
  obtain ⟨o,e,c,d⟩:=st
  exact ⟨o,e,fun v z=>by rw [d] at z; cases z⟩
 keep:=fun i h h' st k=>st.at fun o e=>k it (by simp) o e
 item:=by
  intro X hP hw hK hc i pins s σ H E I hf st hg
  subst hP hw hK
  obtain ⟨xs,x,hq,hx⟩:=hg
  obtain ⟨its,rv,p,hz⟩:=I.list hq
  obtain ⟨u,hu,ru⟩:=rv.get hx
  obtain ⟨f0,f1,f2,f3,f4,f5⟩:=hf it (by simp)
  refine wpAny_pyNext_list_item st p.isList (x:=u) (by simpa using hu) fun h' st' sb=>?_
  have I1:Inv X pins σ H { s with heap:=h' }:=I.turned (t':=s.toks) (fun b o hb e=>(sb.2 b hb).trans e) f0 f1 f3 f4 f5
  obtain ⟨o,e,c,d⟩:=id st'
  exact ⟨u,rfl,yn1 (s:={ s with heap:=h' }) e c d (by decide) ⟨x,H,I1,ru,⟨rfl,fun ys hy=>by rw [I.list_inj hy hq]; exact hx⟩,st',fun b hb=>(hf b hb).1⟩⟩
 done:=by
  intro X hP hw hK hc i pins s σ H E I hf st hg
  subst hP hw hK
  obtain ⟨xs,hq,hx⟩:=hg
  obtain ⟨its,rv,p,hz⟩:=I.list hq
  obtain ⟨f0,f1,f2,f3,f4,f5⟩:=hf it (by simp)
  have hl:=rv.length
  exact wpAny_pyNext_list_end (I.ok.hd hc) st p.isList (by simp; omega) fun h' eb=>⟨rfl,I.turned (t':=s.toks) (fun b o hb e=>eb b o hb e) f0 f1 f3 f4 f5⟩
 self:=fun _ _ _ _ _ st h=>wpAny_pyIter_listiter st h
theorem ys0 {P:Program} {w:World} {K:Frag} {tg:Expr} (it:Addr) (lo:Int) (n:Nat):Turn P w K tg (Itr lo n) [it] it (fun i h=>IsRangeIter h it (lo + (i:Nat) * 1) ((n:Int) - (i:Nat)) 1) where
 mem:=by simp
 obj:=fun i h st b hb=>by
  have e:b = it:=by simpa using hb
  subst e
  exact ⟨_,st,fun v z=>by
   have z':Data.fields _ = Data.cell v:=z
   cases z'⟩
 keep:=fun i h h' st k=>k it (by simp) _ st
 item:=by
  intro X hP hw hK hc i pins s σ H E I hf st hg
  subst hP hw hK
  obtain ⟨f0,f1,f2,f3,f4,f5⟩:=hf it (by simp)
  have W:=Walks.range (prog:=X.prog) (w:=X.w) (I.ok.hd hc) it lo 1 n
  refine W.item i s _ _ hg st fun v h' tk hv st' kk=>?_
  obtain ⟨t,rfl⟩:=hv
  have I1:Inv X pins σ H { s with heap:=h',toks:=tk }:=I.turned (fun b o hb e=>kk b o (by simpa using hb) e) f0 f1 f3 f4 f5
  refine ⟨_,rfl,yn1 (s:={ s with heap:=h',toks:=tk }) (n:="range_iterator") st' rfl rfl (by decide) ⟨.int (lo + i),H,I1,⟨t,?_⟩,⟨rfl,rfl⟩,st',fun b hb=>(hf b hb).1⟩⟩
  rw [Int.mul_one]
 done:=by
  intro X hP hw hK hc i pins s σ H E I hf st hg
  subst hP hw hK
  obtain ⟨f0,f1,f2,f3,f4,f5⟩:=hf it (by simp)
  exact wpAny_pyNext_range_end (I.ok.hd hc) st (by have:n <= i:=hg; omega) fun h' eb=>⟨rfl,I.turned (t':=s.toks) (fun b o hb e=>eb b o hb e) f0 f1 f3 f4 f5⟩
 self:=fun _ _ _ _ _ st h=>wpAny_pyIter_rangeiter st h
section
variable {X:Cx} {tg:Expr}
def iList (K:Frag) (tl:TE):TI:=fun σ H R=>tl σ H fun x H1=>∃ a,x = .ref a /\ (∃ xs,SqL K H1 a xs) /\ R (Itl K a) H1
theorem pi_list {l:Expr} {tl:TE} (hl:PE X l tl):PI X tg l (iList X.K tl):=by
 intro pins s σ H R I h
 refine thn (hl pins s σ H _ I h) fun v s1 ⟨x,H1,I1,r1,q1⟩=>?_
 obtain ⟨a,e,⟨xs,hq⟩,q⟩:=q1
 subst e
 cases r1
 obtain ⟨its,rv,p,hz⟩:=I1.list hq
 refine wpAny_pyIter_list p.isList ?_
 refine ⟨s1.heap.objs.size,[s1.heap.objs.size],_,_,H1,rfl,I1.kept (t':=s1.toks) fun b o e=>Heap.get?_push_of_some _ e,yw0 a _,⟨_,Heap.get?_push_size _ rfl,rfl,rfl⟩,fun b hb=>?_,q⟩
 have e:b = s1.heap.objs.size:=by simpa using hb
 subst e
 exact I1.fpOk (Nat.le_refl _) (I1.hok.fresh (Nat.le_refl _))
theorem yp4 {pins:List (Addr × Obj)} {σ:St} {H:Hp} {s:Shared} {R:It -> Hp -> Prop} {E:Value -> Shared -> Prop} {lo hi:Int} {t u v:Tok} {tk:Nat} (I:Inv X pins σ H s) (h1:-(2 ^ 62) <= lo) (h2:lo < 2 ^ 62) (h3:-(2 ^ 62) <= hi) (h4:hi < 2 ^ 62)
  (q:R (Itr lo (hi - lo).toNat) H):wpAny (model X.prog X.w) X.A (pyIter (.ref s.heap.objs.size)) (PIE X pins σ tg R) E { s with heap:=s.heap.push { cls:=.type "range",data:=.fields #[.int lo t,.int hi u,.int 1 v] },toks:=tk }:=by
 refine wpAny_pyIter_range (IsRange.new ..) (small_one h1 h2 h3 h4) ?_
 have I1:Inv X pins σ H { s with heap:=s.heap.push { cls:=.type "range",data:=.fields #[.int lo t,.int hi u,.int 1 v] },toks:=tk }:=I.kept fun b o e=>Heap.get?_push_of_some _ e
 refine ⟨(s.heap.push { cls:=.type "range",data:=.fields #[.int lo t,.int hi u,.int 1 v] }).objs.size,[(s.heap.push { cls:=.type "range",data:=.fields #[.int lo t,.int hi u,.int 1 v] }).objs.size],_,_,H,rfl,
  I1.kept (t':=tk) fun b o e=>Heap.get?_push_of_some _ e,ys0 _ lo (hi - lo).toNat,?_,fun b hb=>?_,q⟩
 ·have e1:lo + ((0:Nat):Int) * 1 = lo:=by simp
  have e2:(((hi - lo).toNat:Nat):Int) - ((0:Nat):Int) = Builtin.Range.rangeSize lo hi 1:=by rw [rangeSize_one]; split <;> omega
  show IsRangeIter _ _ (lo + ((0:Nat):Int) * 1) ((((hi - lo).toNat:Nat):Int) - ((0:Nat):Int)) 1
  rw [e1,e2]
  exact Heap.get?_push_size _ rfl
 ·have e:b = (s.heap.push { cls:=.type "range",data:=.fields #[.int lo t,.int hi u,.int 1 v] }).objs.size:=by simpa using hb
  subst e
  exact I1.fpOk (Nat.le_refl _) (I1.hok.fresh (Nat.le_refl _))
def iRng1 (ta:TA):TI:=fun σ H R=>ta σ H fun vs H1=>∃ j:Int,vs = [.int j] /\ -(2 ^ 62) <= j /\ j < 2 ^ 62 /\ R (Itr 0 j.toNat) H1
def iRng2 (ta:TA):TI:=fun σ H R=>ta σ H fun vs H1=>∃ i j:Int,vs = [.int i,.int j] /\ (-(2 ^ 62) <= i /\ i < 2 ^ 62 /\ -(2 ^ 62) <= j /\ j < 2 ^ 62) /\ R (Itr i (j - i).toNat) H1
theorem yh5 {a:Expr} {ta:TA} {p pos:Pos} (hg:Gl X "range") (hm:X.mg "range" = none) (ha:PA X [a] ta) (hs:starEach [a] X.env = [(false,eval a X.env)]:=by rfl):PI X tg (.Call (.Name "range" p) [a] [] pos) (iRng1 ta):=by
 intro pins s σ H R I h
 refine Call_ (xw7 I hg hm boot_range (PyProof.Rows.callWith_type1 (thn (ha pos pins s σ H _ I h) fun us s1 ⟨vs,H1,I1,r1,q1⟩=>?_) hs rfl))
 obtain ⟨j,e,q1,q2,q⟩:=q1
 subst e
 cases r1 with
 | cons r rr =>
  cases rr
  obtain ⟨t,rfl⟩:=r
  exact call_range_1 (yp4 I1 (by omega) (by omega) q1 q2 (by simpa using q))
theorem yx6 {a b:Expr} {ta:TA} {p pos:Pos} (hg:Gl X "range") (hm:X.mg "range" = none) (ha:PA X [a,b] ta) (hs:starEach [a,b] X.env = [(false,eval a X.env),(false,eval b X.env)]:=by rfl) (hs2:starEach [b] X.env = [(false,eval b X.env)]:=by rfl) :
  PI X tg (.Call (.Name "range" p) [a,b] [] pos) (iRng2 ta):=by
 intro pins s σ H R I h
 refine Call_ (xw7 I hg hm boot_range (PyProof.Rows.callWith_type1 (thn (ha pos pins s σ H _ I h) fun us s1 ⟨vs,H1,I1,r1,q1⟩=>?_) (by rw [hs,hs2]) (by rw [hs2]; rfl)))
 obtain ⟨i,j,e,⟨q1,q2,q3,q4⟩,q⟩:=q1
 subst e
 cases r1 with
 | cons r rr =>
  cases rr with
  | cons r' rr =>
   cases rr
   obtain ⟨t,rfl⟩:=r
   obtain ⟨t',rfl⟩:=r'
   exact call_range_2 (yp4 I1 q1 q2 q3 q4 q)
def tFor (wi:TI) (g:TG) (tb:TS):TS:=fun D σ H=>wi σ H fun J H1=>∃ W:Nat -> Nat -> St -> Hp -> Prop,(∃ m,W 0 m σ H1) /\ ∀ i m σ H,W i m σ H ->
 (J.stop i H /\ D.nx σ H) \/ (J.go i H /\ ∃ N:St -> Hp -> Prop,(∀ σ' H',N σ' H' -> ∃ m',m' < m /\ W (i + 1) m' σ' H') /\ ∀ x H',J.yld i H x H' -> g x σ H' fun σ2 H2=>tb { D with nx:=N,ct:=N,bk:=D.nx } σ2 H2)
def yp5 (fp:List Addr) (h:Heap):List (Addr × Obj):=fp.filterMap fun b=>(h.get? b).map fun o=>(b,o)
theorem xh1 {fp:List Addr} {h:Heap} {b:Addr} {o:Obj} (hb:b ∈ fp) (e:h.get? b = some o):(b,o) ∈ yp5 fp h:=List.mem_filterMap.mpr ⟨b,hb,by rw [e]; rfl⟩
theorem yz1 {fp:List Addr} {h:Heap} {p:Addr × Obj} (hp:p ∈ yp5 fp h):p.1 ∈ fp /\ h.get? p.1 = some p.2:=by
 obtain ⟨b,hb,e⟩:=List.mem_filterMap.mp hp
 cases q:h.get? b with
 | none=>rw [q] at e; cases e
 | some o =>
  rw [q] at e
  have e':(b,o) = p:=Option.some.inj e
  subst e'
  exact ⟨hb,q⟩
theorem Inv.pinned {pins:List (Addr × Obj)} {σ:St} {H:Hp} {s:Shared} {fp:List Addr} (I:Inv X pins σ H s) (hf:∀ b ∈ fp,FpOk X pins H b) (ho:∀ b ∈ fp,∃ o,s.heap.get? b = some o /\ ∀ v,o.data ≠ .cell v):Inv X (pins ++ yp5 fp s.heap) σ H s :=
 I.pins_of fun p hp=>(List.mem_append.mp hp).elim (fun z=>I.pin p (List.mem_append_right _ z)) fun z=>by
  obtain ⟨hb,e⟩:=yz1 z
  obtain ⟨f0,f1,f2,_⟩:=hf p.1 hb
  obtain ⟨o,e',d⟩:=ho p.1 hb
  rw [e] at e'; cases e'
  exact ⟨e,f0,f1,f2,d⟩
theorem Inv.unpinned {pins pl:List (Addr × Obj)} {σ:St} {H:Hp} {s:Shared} (I:Inv X (pins ++ pl) σ H s):Inv X pins σ H s:=I.pins_of fun p hp=>I.pin p (List.mem_append_right _ (List.mem_append_left _ hp))
theorem xm2 {iter:Expr} {body:List Stmt} {wi:TI} {g:TG} {tb:TS} {pos:Pos} (hp:PassesOwn (model X.prog X.w) X.A X.env X.xe) (hc:X.calm = true) (hi:PI X tg iter wi) (hg:PG X tg g) (hb:PSs X body tb)
  (hs:∀ x,foldedSetIterable iter X.env x = pure x:=by intro _; rfl):PS X (.For tg iter body [] pos) (tFor wi g tb):=by
 intro pins s σ H D I h
 refine wpAny_For (thn (hi pins s σ H _ I h) fun v s1 h1=>thn h1 fun itv s2 h2=>?_) hs
 obtain ⟨it,fp,tn,J,H2,e,I2,T,st2,f2,W,⟨m0,w0⟩,turn⟩:=h2
 subst e
 have stat:∀ {H':Hp},(∀ b ∈ fp,H' b = none) -> ∀ b ∈ fp,FpOk X pins H' b:=fun hn b hb=>⟨hn b hb,(f2 b hb).2⟩
 refine codeAny_forLoop_any (fun n s'=>∃ i σ' H',Inv X pins σ' H' s' /\ tn i s'.heap /\ (∀ b ∈ fp,H' b = none) /\ W i n σ' H') ?_ m0 ⟨0,σ,H2,I2,st2,fun b hb=>(f2 b hb).1,w0⟩
 rintro n s3 ⟨i,σ3,H3,I3,st3,fr3,w3⟩
 rcases turn i n σ3 H3 w3 with ⟨stop,qn⟩ | ⟨go,N,hN,step⟩
 ·refine wpAny_passesOwn hp (thn (T.done X rfl rfl rfl hc i pins s3 σ3 H3 X.xe I3 (stat fr3) st3 stop) fun r s4 ⟨hr,I4⟩=>?_)
  subst hr
  exact wpAny_execs_nil ⟨σ3,H3,I4,qn⟩
 ·refine wpAny_passesOwn hp (thn (T.item X rfl rfl rfl hc i pins s3 σ3 H3 X.xe I3 (stat fr3) st3 go) fun r s4 ⟨u,hr,h4⟩=>?_)
  subst hr
  refine wpAny_passesOwn hp (thn h4 fun _ s5 ⟨x,H5,I5,r5,y5,st5,fr5⟩=>?_)
  have I5':=I5.pinned (stat fr5) (T.obj _ _ st5)
  refine wpAny_passesOwn hp (thn (hg _ s5 σ3 H5 x u _ I5' r5 (step x H5 y5)) fun _ s6 ⟨σ6,H6,I6,q6⟩=>?_)
  refine wpAny_passesOwn hp (thn (hb _ s6 σ6 H6 _ I6 q6) fun f s7 q7=>?_)
  have again:∀ {σ7:St} {H7:Hp},Inv X (pins ++ yp5 fp s5.heap) σ7 H7 s7 -> N σ7 H7 -> ∃ m,m < n /\ ∃ i σ' H',Inv X pins σ' H' s7 /\ tn i s7.heap /\ (∀ b ∈ fp,H' b = none) /\ W i m σ' H':=fun {σ7 H7} I7 n7=>by
   obtain ⟨m',hm,w7⟩:=hN σ7 H7 n7
   refine ⟨m',hm,i + 1,σ7,H7,I7.unpinned,T.keep _ _ _ st5 fun b hb o e=>(I7.pin (b,o) (List.mem_append_right _ (List.mem_append_right _ (xh1 hb e)))).1,fun b hb=>?_,w7⟩
   obtain ⟨o,e,d⟩:=T.obj _ _ st5 b hb
   exact (I7.pin (b,o) (List.mem_append_right _ (List.mem_append_right _ (xh1 hb e)))).2.1
  cases f with
  | next=>obtain ⟨σ7,H7,I7,n7⟩:=q7; exact again I7 n7
  | cont=>obtain ⟨σ7,H7,I7,n7⟩:=q7; exact again I7 n7
  | brk=>obtain ⟨σ7,H7,I7,q7⟩:=q7; exact ⟨σ7,H7,I7.unpinned,q7⟩
  | ret v=>obtain ⟨x7,σ7,H7,I7,r7,q7⟩:=q7; exact ⟨x7,σ7,H7,I7.unpinned,r7,q7⟩
end
theorem xj3 {K:Frag} {a:Addr} {xs:List V} {g:TG} {tb:TS} {D:Ends} {σ:St} {H:Hp} (Pv:Nat -> St -> Hp -> Prop) (h0:Pv 0 σ H) (hl:∀ i σ H,i <= xs.length -> Pv i σ H -> SqL K H a xs)
  (hs:∀ i x σ H,xs[i]? = some x -> Pv i σ H -> g x σ H fun σ2 H2=>tb { D with nx:=Pv (i + 1),ct:=Pv (i + 1),bk:=D.nx } σ2 H2) (hd:∀ σ H,Pv xs.length σ H -> D.nx σ H) :
  ∃ W:Nat -> Nat -> St -> Hp -> Prop,(∃ m,W 0 m σ H) /\ ∀ i m σ H,W i m σ H ->
   ((Itl K a).stop i H /\ D.nx σ H) \/ ((Itl K a).go i H /\ ∃ N:St -> Hp -> Prop,(∀ σ' H',N σ' H' -> ∃ m',m' < m /\ W (i + 1) m' σ' H') /\ ∀ x H',(Itl K a).yld i H x H' -> g x σ H' fun σ2 H2=>tb { D with nx:=N,ct:=N,bk:=D.nx } σ2 H2):=by
 refine ⟨fun i m σ H=>m = xs.length - i /\ i <= xs.length /\ Pv i σ H,⟨xs.length,by simp,Nat.zero_le _,h0⟩,?_⟩
 rintro i m σ H ⟨rfl,hi,p⟩
 have q:=hl i σ H hi p
 by_cases hlt:i < xs.length
 ·refine .inr ⟨⟨xs,xs[i],q,by simp [hlt]⟩,Pv (i + 1),fun σ' H' p'=>⟨xs.length - (i + 1),by omega,rfl,hlt,p'⟩,fun x H' y=>?_⟩
  obtain ⟨e,y⟩:=y
  subst e
  exact hs i x σ _ (y xs q) p
 ·have e:i = xs.length:=by omega
  subst e
  exact .inl ⟨⟨xs,q,Nat.le_refl _⟩,hd σ H p⟩
theorem yj2 {lo:Int} {n:Nat} {g:TG} {tb:TS} {D:Ends} {σ:St} {H:Hp} (Pv:Nat -> St -> Hp -> Prop) (h0:Pv 0 σ H)
  (hs:∀ i σ H,i < n -> Pv i σ H -> g (.int (lo + i)) σ H fun σ2 H2=>tb { D with nx:=Pv (i + 1),ct:=Pv (i + 1),bk:=D.nx } σ2 H2) (hd:∀ σ H,Pv n σ H -> D.nx σ H) :
  ∃ W:Nat -> Nat -> St -> Hp -> Prop,(∃ m,W 0 m σ H) /\ ∀ i m σ H,W i m σ H ->
   ((Itr lo n).stop i H /\ D.nx σ H) \/ ((Itr lo n).go i H /\ ∃ N:St -> Hp -> Prop,(∀ σ' H',N σ' H' -> ∃ m',m' < m /\ W (i + 1) m' σ' H') /\ ∀ x H',(Itr lo n).yld i H x H' -> g x σ H' fun σ2 H2=>tb { D with nx:=N,ct:=N,bk:=D.nx } σ2 H2):=by
 refine ⟨fun i m σ H=>m = n - i /\ i <= n /\ Pv i σ H,⟨n,by simp,Nat.zero_le _,h0⟩,?_⟩
 rintro i m σ H ⟨rfl,hi,p⟩
 by_cases hlt:i < n
 ·refine .inr ⟨hlt,Pv (i + 1),fun σ' H' p'=>⟨n - (i + 1),by omega,rfl,hlt,p'⟩,fun x H' y=>?_⟩
  obtain ⟨e,y⟩:=y
  subst e y
  exact hs i σ _ hlt p
 ·have e:i = n:=by omega
  subst e
  exact .inl ⟨Nat.le_refl _,hd σ H p⟩
abbrev R2:=V -> V -> Hp -> VK -> Prop
def OpR (X:Cx) (f:Value -> Value -> Sem Value) (r:R2):Prop :=
 ∀ (pins:List (Addr × Obj)) (s:Shared) (σ:St) (H:Hp) (x y:V) (v u:Value) (Q:VK),Inv X pins σ H s -> RelV x v -> RelV y u -> r x y H Q ->
  wpAny (model X.prog X.w) X.A (f v u) (EP X pins σ Q) X.xe s
def xl4 (X:Cx) (f:Value) (r:List V -> Hp -> VK -> Prop):Prop :=
 ∀ (pins:List (Addr × Obj)) (s:Shared) (σ:St) (H:Hp) (xs:List V) (us:List Value) (Q:VK),Inv X pins σ H s -> Vals xs us -> r xs H Q ->
  wpAny (model X.prog X.w) X.A (call f us) (EP X pins σ Q) X.xe s
def tOp (r:R2) (ta tb:TE):TE:=fun σ H Q=>ta σ H fun x H1=>tb σ H1 fun y H2=>r x y H2 Q
def rI (C:Int -> Int -> Prop) (g:Int -> Int -> V):R2:=fun x y H Q=>∃ i j,x = .int i /\ y = .int j /\ C i j /\ Q (g i j) H
def rI0 (g:Int -> Int -> V):R2:=fun x y H Q=>∃ i j,x = .int i /\ y = .int j /\ Q (g i j) H
section
variable {X:Cx} {a b c:Expr} {ta tb tc:TE} {pos:Pos}
theorem binT (ha:PE X a ta) (hb:PE X b tb) {pins:List (Addr × Obj)} {s:Shared} {σ:St} {H:Hp} {R:V -> V -> Hp -> Prop} (I:Inv X pins σ H s)
  (h:ta σ H fun x H1=>tb σ H1 fun y H2=>R x y H2) {Q:Value -> Shared -> Prop} {f:Value -> Value -> Sem Value}
  (hf:∀ v u s2 x y H2,Inv X pins σ H2 s2 -> RelV x v -> RelV y u -> R x y H2 -> wpAny (model X.prog X.w) X.A (f v u) Q X.xe s2) :
  wpAny (model X.prog X.w) X.A (eval a X.env) (fun v s₁=>wpAny (model X.prog X.w) X.A (eval b X.env) (fun u s₂=>wpAny (model X.prog X.w) X.A (f v u) Q X.xe s₂) X.xe s₁) X.xe s:=by
 refine thn (ha pins s σ H _ I h) fun v s1 ⟨x,H1,I1,r1,q1⟩=>?_
 refine thn (hb pins s1 σ H1 _ I1 q1) fun u s2 ⟨y,H2,I2,r2,q2⟩=>?_
 exact hf v u s2 x y H2 I2 r1 r2 q2
theorem xc6 {op:Operator} {r:R2} (ho:OpR X (binaryOp op) r) (ha:PE X a ta) (hb:PE X b tb):PE X (.BinOp a op b pos) (tOp r ta tb):=by
 intro pins s σ H Q I h
 exact wpAny_BinOp (binT ha hb I h fun v u s2 x y H2 I2 rx ry q=>ho pins s2 σ H2 x y v u Q I2 rx ry q)
theorem opI {f:Value -> Value -> Sem Value} {C:Int -> Int -> Prop} {g:Int -> Int -> Int}
  (rule:∀ (i j:Int) (t u:Tok) (s:Shared) (Q:Value -> Shared -> Prop) (E:Value -> Shared -> Prop),C i j -> Q (.int (g i j) s.toks) { s with toks:=s.toks + 1 } -> wpAny (model X.prog X.w) X.A (f (.int i t) (.int j u)) Q E s) :
  OpR X f (rI C fun i j=>.int (g i j)):=by
 intro pins s σ H x y v u Q I rx ry h
 obtain ⟨i,j,rfl,rfl,hc,q⟩:=h
 obtain ⟨t,rfl⟩:=rx
 obtain ⟨t',rfl⟩:=ry
 exact rule i j t t' s _ _ hc ⟨.int (g i j),H,I.tok _,⟨_,rfl⟩,q⟩
theorem opI0 {f:Value -> Value -> Sem Value} {g:Int -> Int -> Int}
  (rule:∀ (i j:Int) (t u:Tok) (s:Shared) (Q:Value -> Shared -> Prop) (E:Value -> Shared -> Prop),Q (.int (g i j) s.toks) { s with toks:=s.toks + 1 } -> wpAny (model X.prog X.w) X.A (f (.int i t) (.int j u)) Q E s) :
  OpR X f (rI0 fun i j=>.int (g i j)):=by
 intro pins s σ H x y v u Q I rx ry h
 obtain ⟨i,j,rfl,rfl,q⟩:=h
 obtain ⟨t,rfl⟩:=rx
 obtain ⟨t',rfl⟩:=ry
 exact rule i j t t' s _ _ ⟨.int (g i j),H,I.tok _,⟨_,rfl⟩,q⟩
theorem opB0 {f:Value -> Value -> Sem Value} {g:Int -> Int -> Bool}
  (rule:∀ (i j:Int) (t u:Tok) (s:Shared) (Q:Value -> Shared -> Prop) (E:Value -> Shared -> Prop),Q (.bool (g i j)) s -> wpAny (model X.prog X.w) X.A (f (.int i t) (.int j u)) Q E s) :
  OpR X f (rI0 fun i j=>.bl (g i j)):=by
 intro pins s σ H x y v u Q I rx ry h
 obtain ⟨i,j,rfl,rfl,q⟩:=h
 obtain ⟨t,rfl⟩:=rx
 obtain ⟨t',rfl⟩:=ry
 exact rule i j t t' s _ _ ⟨.bl (g i j),H,I,rfl,q⟩
def CMul (i j:Int):Prop:=(-(2 ^ 64) < i /\ i < 2 ^ 64) \/ (-(2 ^ 64) < j /\ j < 2 ^ 64)
theorem CMul.ok {i j:Int} (h:CMul i j):IntMulOk i j:=by
 rcases h with ⟨h1,h2⟩ | ⟨h1,h2⟩
 ·exact .of_left (intBits_le_64 h1 h2)
 ·exact .of_right (intBits_le_64 h1 h2)
theorem yh9:OpR X (binaryOp .Add) (rI0 fun i j=>.int (i + j)):=opI0 fun _ _ _ _ _ _ _ q=>add_int q
theorem op_sub:OpR X (binaryOp .Sub) (rI0 fun i j=>.int (i - j)):=opI0 fun _ _ _ _ _ _ _ q=>sub_int q
theorem xv7:OpR X (binaryOp .Mult) (rI CMul fun i j=>.int (i * j)):=opI fun _ _ _ _ _ _ _ hc q=>mul_int q hc.ok
theorem xg4:OpR X (binaryOp .Mod) (rI (fun _ j=>0 < j) fun i j=>.int (i % j)):=opI fun i j _ _ _ _ _ hc q=>by
 have h1:(0:Int) < j:=hc
 exact mod_int' (by omega) (by rw [Int.fmod_eq_emod_of_nonneg i (by omega)]; exact q)
end
def scal:V -> V -> Bool
 | .non,.non=>true | .non,.int _=>true | .int _,.non=>true | .non,.bl _=>true | .bl _,.non=>true | .non,.str _=>true | .str _,.non=>true
 | .int _,.int _=>true | .bl _,.bl _=>true | .str _,.str _=>true | .byt _,.byt _=>true
 | .int _,.str _=>true | .str _,.int _=>true | .bl _,.str _=>true | .str _,.bl _=>true
 | _,_=>false
def rEq:R2:=fun x y H Q=>scal x y = true /\ Q (.bl (decide (x = y))) H
def rNe:R2:=fun x y H Q=>scal x y = true /\ Q (.bl (!decide (x = y))) H
theorem zd1 {i j:Int}:decide (V.int i = V.int j) = (i == j):=by
 rw [Bool.eq_iff_iff]
 simp
theorem dec_bl {i j:Bool}:decide (V.bl i = V.bl j) = (i == j):=by
 rw [Bool.eq_iff_iff]
 simp
theorem zd0 {i j:Str}:decide (V.str i = V.str j) = (i == j):=by
 rw [Bool.eq_iff_iff]
 simp
theorem zd2 {i j:Array UInt8}:decide (V.byt i = V.byt j) = (i.toList == j.toList):=by
 rw [Bool.eq_iff_iff]
 cases i
 cases j
 simp
section
variable {X:Cx} {a b c:Expr} {ta tb tc:TE} {pos:Pos}
theorem xd4 {pins:List (Addr × Obj)} {σ:St} {H:Hp} {s:Shared} {Q:VK} {k k':Bool} (I:Inv X pins σ H s) (q:Q (.bl k) H) (e:k = k'):EP X pins σ Q (.bool k') s:=by
 subst e
 exact ⟨.bl k,H,I,rfl,q⟩
theorem yd6:OpR X (compareOp .Eq) rEq:=by
 intro pins s σ H x y v u Q I rx ry h
 obtain ⟨hs,q⟩:=h
 cases x with
 | non =>
  cases rx
  cases y with
  | non=>cases ry; exact PySem.EqNone.eq_none_none (xd4 I q (by simp))
  | bl j=>cases ry; exact PySem.EqNone.eq_none_bool (xd4 I q (by simp))
  | int j=>obtain ⟨t',rfl⟩:=ry; exact PySem.EqNone.eq_none_int (xd4 I q (by simp))
  | str j=>obtain ⟨t',rfl⟩:=ry; exact PySem.EqNone.eq_none_str (xd4 I q (by simp))
  | _=>exact absurd (show false = true from hs) Bool.false_ne_true
 | bl i =>
  cases rx
  cases y with
  | non=>cases ry; exact PySem.EqNone.eq_bool_none (xd4 I q (by simp))
  | bl j=>cases ry; exact eq_bool (xd4 I q dec_bl)
  | str j=>obtain ⟨t',rfl⟩:=ry; exact PySem.EqMixed.eq_bool_str (xd4 I q (by simp))
  | _=>exact absurd (show false = true from hs) Bool.false_ne_true
 | int i =>
  obtain ⟨t,rfl⟩:=rx
  cases y with
  | non=>cases ry; exact PySem.EqNone.eq_int_none (xd4 I q (by simp))
  | int j=>obtain ⟨t',rfl⟩:=ry; exact eq_int (xd4 I q zd1)
  | str j=>obtain ⟨t',rfl⟩:=ry; exact PySem.EqMixed.eq_int_str (xd4 I q (by simp))
  | _=>exact absurd (show false = true from hs) Bool.false_ne_true
 | str i =>
  obtain ⟨t,rfl⟩:=rx
  cases y with
  | non=>cases ry; exact PySem.EqNone.eq_str_none (xd4 I q (by simp))
  | bl j=>cases ry; exact PySem.EqMixed.eq_str_bool (xd4 I q (by simp))
  | int j=>obtain ⟨t',rfl⟩:=ry; exact PySem.EqMixed.eq_str_int (xd4 I q (by simp))
  | str j=>obtain ⟨t',rfl⟩:=ry; exact eq_str (xd4 I q zd0)
  | _=>exact absurd (show false = true from hs) Bool.false_ne_true
 | byt i =>
  obtain ⟨t,rfl⟩:=rx
  cases y with
  | byt j=>obtain ⟨t',rfl⟩:=ry; exact eq_bytes (xd4 I q zd2)
  | _=>exact absurd (show false = true from hs) Bool.false_ne_true
 | _=>cases y <;> exact absurd (show false = true from hs) Bool.false_ne_true
theorem op_ne:OpR X (compareOp .NotEq) rNe:=by
 intro pins s σ H x y v u Q I rx ry h
 obtain ⟨hs,q⟩:=h
 cases x with
 | non =>
  cases rx
  cases y with
  | non=>cases ry; exact PySem.EqNone.ne_none_none (xd4 I q (by simp))
  | bl j=>cases ry; exact PySem.EqNone.ne_none_bool (xd4 I q (by simp))
  | int j=>obtain ⟨t',rfl⟩:=ry; exact PySem.EqNone.ne_none_int (xd4 I q (by simp))
  | str j=>obtain ⟨t',rfl⟩:=ry; exact PySem.EqNone.ne_none_str (xd4 I q (by simp))
  | _=>exact absurd (show false = true from hs) Bool.false_ne_true
 | bl i =>
  cases rx
  cases y with
  | non=>cases ry; exact PySem.EqNone.ne_bool_none (xd4 I q (by simp))
  | bl j=>cases ry; exact ne_bool (xd4 I q (congrArg not dec_bl))
  | str j=>obtain ⟨t',rfl⟩:=ry; exact PySem.EqMixed.ne_bool_str (xd4 I q (by simp))
  | _=>exact absurd (show false = true from hs) Bool.false_ne_true
 | int i =>
  obtain ⟨t,rfl⟩:=rx
  cases y with
  | non=>cases ry; exact PySem.EqNone.ne_int_none (xd4 I q (by simp))
  | int j=>obtain ⟨t',rfl⟩:=ry; exact ne_int (xd4 I q (congrArg not zd1))
  | str j=>obtain ⟨t',rfl⟩:=ry; exact PySem.EqMixed.ne_int_str (xd4 I q (by simp))
  | _=>exact absurd (show false = true from hs) Bool.false_ne_true
 | str i =>
  obtain ⟨t,rfl⟩:=rx
  cases y with
  | non=>cases ry; exact PySem.EqNone.ne_str_none (xd4 I q (by simp))
  | bl j=>cases ry; exact PySem.EqMixed.ne_str_bool (xd4 I q (by simp))
  | int j=>obtain ⟨t',rfl⟩:=ry; exact PySem.EqMixed.ne_str_int (xd4 I q (by simp))
  | str j=>obtain ⟨t',rfl⟩:=ry; exact ne_str (xd4 I q (congrArg not zd0))
  | _=>exact absurd (show false = true from hs) Bool.false_ne_true
 | byt i =>
  obtain ⟨t,rfl⟩:=rx
  cases y with
  | byt j=>obtain ⟨t',rfl⟩:=ry; exact ne_bytes (xd4 I q (congrArg not zd2))
  | _=>exact absurd (show false = true from hs) Bool.false_ne_true
 | _=>cases y <;> exact absurd (show false = true from hs) Bool.false_ne_true
theorem op_lt:OpR X (compareOp .Lt) (rI0 fun i j=>.bl (decide (i < j))):=opB0 fun _ _ _ _ _ _ _ q=>lt_int q
theorem yt3:OpR X (compareOp .LtE) (rI0 fun i j=>.bl (decide (i <= j))):=opB0 fun _ _ _ _ _ _ _ q=>le_int q
theorem yy9:OpR X (compareOp .Gt) (rI0 fun i j=>.bl (decide (j < i))):=opB0 fun _ _ _ _ _ _ _ q=>gt_int q
theorem yy7:OpR X (compareOp .In) (fun x y H Q=>∃ i j,x = .str i /\ y = .str j /\ Q (.bl (!(Builtin.Str.occurrences j i 0 j.length 1).isEmpty)) H):=by
 intro pins s σ H x y v u Q I rx ry h
 obtain ⟨i,j,rfl,rfl,q⟩:=h
 obtain ⟨t,rfl⟩:=rx
 obtain ⟨t',rfl⟩:=ry
 exact in_str (xd4 I q rfl)
theorem xh6 (b:Expr) {op:CmpOp} (h:op ≠ .In:=by decide) (h2:op ≠ .NotIn:=by decide):behindInMarks op b = false:=by
 have e1:(op == CmpOp.In) = false:=by cases op <;> first | rfl | exact absurd rfl h
 have e2:(op == CmpOp.NotIn) = false:=by cases op <;> first | rfl | exact absurd rfl h2
 cases b <;> simp [behindInMarks,e1,e2]
theorem yd4 {op:CmpOp} {r:R2} (ho:OpR X (compareOp op) r) (ha:PE X a ta) (hb:PE X b tb) (hm:behindInMarks op b = false):PE X (.Compare a [op] [b] pos) (tOp r ta tb):=by
 intro pins s σ H Q I h
 exact wpAny_Compare1 (binT ha hb I h fun v u s2 x y H2 I2 rx ry q=>ho pins s2 σ H2 x y v u Q I2 rx ry q) hm
def tTest (t:TE):TT:=fun σ H Q=>t σ H fun x H'=>∃ k,x = .bl k /\ Q k H'
theorem xg0 {op:CmpOp} {r:R2} (ho:OpR X (compareOp op) r) (ha:PE X a ta) (hb:PE X b tb) (hm:behindInMarks op b = false):PT X (.Compare a [op] [b] pos) (tTest (tOp r ta tb)):=by
 intro pins s σ H Q I h
 refine wpAny_isTrue_Compare1 (thn (ha pins s σ H _ I h) fun v s1 ⟨x,H1,I1,r1,q1⟩=>thn (hb pins s1 σ H1 _ I1 q1) fun u s2 ⟨y,H2,I2,r2,q2⟩ =>
  thn (ho pins s2 σ H2 x y v u _ I2 r1 r2 q2) fun c s3 ⟨z,H3,I3,r3,k,e,q3⟩=>?_) hm
 subst e
 cases r3
 exact wpAny_truthy_bool ⟨H3,I3,q3⟩
def tChain (r r':R2) (ta tb tc:TE):TE:=fun σ H Q=>ta σ H fun x H1=>tb σ H1 fun y H2=>r x y H2 fun z H3=>∃ k,z = .bl k /\
 (if k = true then tc σ H3 fun w' H4=>r' y w' H4 Q else Q (.bl false) H3)
theorem yd5 {op op':CmpOp} {r r':R2} (ho:OpR X (compareOp op) r) (ho':OpR X (compareOp op') r') (ha:PE X a ta) (hb:PE X b tb) (hc:PE X c tc)
  (hm:lastMarks [op,op'] [b,c] = false:=by with_unfolding_all rfl):PE X (.Compare a [op,op'] [b,c] pos) (tChain r r' ta tb tc):=by
 intro pins s σ H Q I h
 refine Compare_chain (thn (ha pins s σ H _ I h) fun v s1 ⟨x,H1,I1,r1,q1⟩=>chain_link (thn (hb pins s1 σ H1 _ I1 q1) fun u s2 ⟨y,H2,I2,r2,q2⟩ =>
  thn (ho pins s2 σ H2 x y v u _ I2 r1 r2 q2) fun d s3 ⟨z,H3,I3,r3,k,e,q3⟩=>?_)) hm
 subst e
 cases r3
 refine wpAny_truthy_bool ?_
 cases k with
 | false=>exact ite_ff ⟨.bl false,H3,I3,rfl,q3⟩
 | true=>exact ite_tt (chain_last (thn (hc pins s3 σ H3 _ I3 q3) fun w' s4 ⟨z',H4,I4,r4,q4⟩=>ho' pins s4 σ H4 y z' u w' Q I4 r2 r4 q4))
theorem yi6:(sizeLine:Nat) < 2 ^ 63:=by rw [sizeLine_eq]; decide
theorem ya5:OpR X (binaryOp .Add) (fun x y H Q=>∃ i j,x = .str i /\ y = .str j /\ i.length + j.length <= sizeLine /\ Q (.str (i ++ j)) H):=by
 intro pins s σ H x y v u Q I rx ry h
 obtain ⟨i,j,rfl,rfl,hz,q⟩:=h
 obtain ⟨t,rfl⟩:=rx
 obtain ⟨t',rfl⟩:=ry
 exact add_str (fun t' tk=>⟨.str (i ++ j),H,I.tok _,⟨_,rfl⟩,q⟩) hz
theorem xt1 {x:V} {us:List Value} (r:Vals [x] us):∃ u,us = [u] /\ RelV x u:=by
 cases r with
 | cons r1 r2=>cases r2; exact ⟨_,rfl,r1⟩
theorem yv7 {x y:V} {us:List Value} (r:Vals [x,y] us):∃ u w',us = [u,w'] /\ RelV x u /\ RelV y w':=by
 cases r with
 | cons r1 r2 =>
  cases r2 with
  | cons r3 r4=>cases r4; exact ⟨_,_,rfl,r1,r3⟩
theorem zd8 (hc:X.calm = true):xl4 X (.builtin "max") (fun xs H Q=>∃ i j,xs = [.int i,.int j] /\ Q (.int (if j > i then j else i)) H):=by
 intro pins s σ H xs us Q I r h
 obtain ⟨i,j,rfl,q⟩:=h
 obtain ⟨u,w',rfl,⟨t,rfl⟩,⟨t',rfl⟩⟩:=yv7 r
 refine max_two_ints (I.ok.hd hc) fun h' tk k=>⟨_,H,I.kept k,?_,q⟩
 by_cases hj:j > i
 ·rw [if_pos hj,if_pos hj]; exact ⟨_,rfl⟩
 ·rw [if_neg hj,if_neg hj]; exact ⟨_,rfl⟩
theorem zd6 (hc:X.calm = true):xl4 X (.builtin "min") (fun xs H Q=>∃ i j,xs = [.int i,.int j] /\ Q (.int (if j < i then j else i)) H):=by
 intro pins s σ H xs us Q I r h
 obtain ⟨i,j,rfl,q⟩:=h
 obtain ⟨u,w',rfl,⟨t,rfl⟩,⟨t',rfl⟩⟩:=yv7 r
 refine min_two_ints (I.ok.hd hc) fun h' tk k=>⟨_,H,I.kept k,?_,q⟩
 by_cases hj:j < i
 ·rw [if_pos hj,if_pos hj]; exact ⟨_,rfl⟩
 ·rw [if_neg hj,if_neg hj]; exact ⟨_,rfl⟩
end
structure ObjM (h:Heap) (x dx C:Addr) (mA:Str -> Option Value):Prop where
 obj:h.get? x = some (instObj C dx)
 ns:h.Ns1 dx mA
 ne:dx ≠ x
theorem yz6 {h:Heap} {dx:Addr} {mA:Str -> Option Value} (n:h.Ns1 dx mA):∃ od,h.get? dx = some od /\ ∀ name,lookIn name od = some (mA name):=by
 obtain ⟨o,es,ep,ho,hd,hk,_,hm⟩:=n
 refine ⟨o,ho,fun name=>?_⟩
 have e:=hm name
 unfold nsFind findBy at e
 rw [<- Array.find?_toList] at e
 unfold lookIn
 rw [hd]
 dsimp only
 split
 ·rename_i y q
  rw [q] at e
  exact congrArg some e
 ·rename_i q
  rw [q] at e
  have a:es.toList.any (·.refKey) = false:=by
   rw [List.any_eq_false]
   intro y hy
   obtain ⟨z,t,hkey⟩:=hk y (Array.mem_toList_iff.mp hy)
   simp [DictEntry.refKey,hkey]
  have a':¬ es.toList.any (·.refKey) = true:=by rw [a]; exact Bool.false_ne_true
  rw [if_neg a']
  exact congrArg some e
theorem ObjM.look {h:Heap} {x dx C:Addr} {mA:Str -> Option Value} (I:ObjM h x dx C mA):∃ od,InstAt h x (instObj C dx) C (some od) /\ ∀ name,lookIn name od = some (mA name) :=
 let ⟨od,ho,hl⟩:=yz6 I.ns
 ⟨od,⟨I.obj,rfl,rfl,ho⟩,hl⟩
section
variable {prog:Program} {w:World} {A:Around} {E:Value -> Shared -> Prop} {s:Shared} {K:Frag} {x dx C f:Addr} {mA:Str -> Option Value} {name:Str} {v:Value}
theorem get_map {expr:Bool} {Q:Value -> Shared -> Prop} (X:K.In s.heap) (I:ObjM s.heap x dx C mA) (hg:plainGet K C name = true) (hh:hasDictIn K C = true)
  (ha:findIn K (.ref C) name = some none) (hv:mA name = some v) (hv':handedIn v = true) (h:Q v { s with toks:=s.toks + 1 }) :
  wpAny (model prog w) A (getAttr (.ref x) name expr) Q E s:=by
 obtain ⟨od,J,hl⟩:=I.look
 exact get_value X J (plainGet_of hg).1 (findObj_own hh ha rfl (by rw [hl,hv])) hv' h
theorem get_meth {pl:Sem Bool} {Q:Value × List Value -> Shared -> Prop} (X:K.In s.heap) (I:ObjM s.heap x dx C mA) (hg:plainGet K C name = true)
  (hf:findIn K (.ref C) name = some (some (.ref f))) (ht:isFn K (.ref f) = true) (hv:mA name = none) (h:Q (.ref f,[.ref x]) s) :
  wpAny (model prog w) A (getMethod (.ref x) name pl) Q E s:=by
 obtain ⟨od,J,hl⟩:=I.look
 exact method_fn X J (plainGet_of hg).1 (plainGet_of hg).2 hf (beq_iff_eq.mp ht) (by show (lookIn name od).map (·.isSome) = some false; rw [hl,hv]; rfl) h
theorem set_map {ns:List Str} {Q:Unit -> Shared -> Prop} (X:K.In s.heap) (I:ObjM s.heap x dx C mA)
  (hs:findIn K (.ref C) "__setattr__" = some (some (.builtin "object.__setattr__"))) (hp:plainOver K C = true) (ht:takerIn K C name = some none) (hh:hasDictIn K C = true)
  (hw:PySem.Within mA ns) (hsz:ns.length <= sizeLine)
  (h:∀ h',ObjM h' x dx C (fun y=>if y = name then some v else mA y) -> Heap.SameBut dx s.heap h' -> Q () { s with heap:=h',toks:=s.toks + 2 }) :
  wpAny (model prog w) A (setAttr (.ref x) name v) Q E s:=by
 obtain ⟨od,J,hl⟩:=I.look
 refine set_plain X J hs (osa_open (s:={ s with toks:=s.toks + 1 }) (r:=none) X J hp ht fun b=>?_)
 obtain ⟨cd,hc,hd'⟩:=any_some hh
 have hx:s.heap.get? x = some ⟨.ref C,some dx,.plain,#[]⟩:=I.obj
 refine wpAny_bind (wpAny_pure (wpAny_bind (wpAny_bind (wpAny_loadPart hx (wpAny_bind (PySem.W.Looks.here (s:={ s with toks:=s.toks + 1 }) (looks_clsIn X hc) ?_))))))
 rw [hd']
 refine wpAny_pure (a:=some dx) (wpAny_bind (wpAny_pure (wpAny_bind ?_)))
 refine wpAny_nsSet1 (s:={ s with toks:=s.toks + 1 }) I.ns fun h' hn2 hs2=>?_
 obtain ⟨oD,esD,epD,hoD,hdD,hcD⟩:=hn2.count (PySem.Within.cons name v hw)
 refine wpAny_bind (wpAny_lookBehind hoD (by rw [hdD]; exact pastItsLine_dict (Nat.le_trans hcD (by rw [List.length_cons]; omega))) ?_)
 exact wpAny_pure (h _ ⟨(hs2.2 _ (Ne.symm I.ne)).trans I.obj,hn2,I.ne⟩ hs2)
theorem make_map {R:Result -> Shared -> Prop} {vs:List Value} {kw:List (Str × Value)} (X:K.In s.heap) (hm:makesIn K C = true)
  (hi:findIn K (.ref C) "__init__" = some (some (.ref f))) (hf:typeIn K (.ref f) = some (.type "function"))
  (h:codeAny (model prog w) (A.under (.builtin "type.__call__" ⟨.ref C :: vs,kw⟩)) (.call (.ref f) ⟨.ref (s.heap.objs.size + 1) :: vs,kw⟩) (InitBack (s.heap.objs.size + 1) R)
   { s with heap:=(s.heap.push emptyDict).push (instObj C s.heap.objs.size) }) :
  codeAny (model prog w) A (.call (.ref C) ⟨vs,kw⟩) R s:=by
 obtain ⟨hh,g,d,t,os⟩:=s
 exact make_core (makes_of X hm) (looks_findIn X hi) (fun self=>bind_fn X self hf) (.inl rfl) h
end
def putF (f:Str) (v:V):List (Str × V) -> List (Str × V)
 | []=>[(f,v)]
 | (g,x) :: r=>if g = f then (g,v) :: r else (g,x) :: putF f v r
theorem xw3 (f g:Str) (v:V):∀ fs:List (Str × V),(putF f v fs).lookup g = if g = f then some v else fs.lookup g
 | []=>by
  show List.lookup g [(f,v)] = _
  by_cases h:g = f
  ·have hb:(g == f) = true:=beq_iff_eq.mpr h
   simp only [List.lookup,hb,if_pos h]
  ·have hb:(g == f) = false:=beq_eq_false_iff_ne.mpr h
   simp only [List.lookup,hb,if_neg h]
 | (k,x) :: r=>by
  have ih:=xw3 f g v r
  rw [show putF f v ((k,x) :: r) = (if k = f then (k,v) :: r else (k,x) :: putF f v r) from rfl]
  by_cases hk:k = f
  ·rw [if_pos hk]
   by_cases h:g = k
   ·have hb:(g == k) = true:=beq_iff_eq.mpr h
    simp only [List.lookup,hb,if_pos (h.trans hk)]
   ·have hb:(g == k) = false:=beq_eq_false_iff_ne.mpr h
    simp only [List.lookup,hb,if_neg (fun e:g = f=>h (e.trans hk.symm))]
  ·rw [if_neg hk]
   by_cases h:g = k
   ·have hb:(g == k) = true:=beq_iff_eq.mpr h
    simp only [List.lookup,hb,if_neg (fun e:g = f=>hk (h.symm.trans e))]
   ·have hb:(g == k) = false:=beq_eq_false_iff_ne.mpr h
    simp only [List.lookup,hb]
    exact ih
theorem xw9 (f:Str) (v:V):∀ fs:List (Str × V),f ∈ (putF f v fs).map (·.1) /\ ∀ g,g ∈ fs.map (·.1) -> g ∈ (putF f v fs).map (·.1)
 | []=>⟨by simp [putF],fun g h=>by simp at h⟩
 | (k,x) :: r=>by
  obtain ⟨i1,i2⟩:=xw9 f v r
  rw [show putF f v ((k,x) :: r) = (if k = f then (k,v) :: r else (k,x) :: putF f v r) from rfl]
  by_cases hk:k = f
  ·rw [if_pos hk]
   subst hk
   exact ⟨by simp,fun g h=>by simpa using h⟩
  ·rw [if_neg hk]
   refine ⟨?_,fun g h=>?_⟩
   ·rw [List.map_cons]
    exact List.mem_cons_of_mem _ i1
   ·rw [List.map_cons] at h ⊢
    rcases List.mem_cons.mp h with e | e
    ·exact List.mem_cons.mpr (.inl e)
    ·exact List.mem_cons_of_mem _ (i2 g e)
theorem xw4 (f:Str) (v:V):∀ fs:List (Str × V),(putF f v fs).length <= fs.length + 1
 | []=>by simp [putF]
 | (k,x) :: r=>by
  have ih:=xw4 f v r
  rw [show putF f v ((k,x) :: r) = (if k = f then (k,v) :: r else (k,x) :: putF f v r) from rfl]
  by_cases hk:k = f
  ·rw [if_pos hk,List.length_cons,List.length_cons]; omega
  ·rw [if_neg hk,List.length_cons,List.length_cons]; omega
theorem RelO.some_of {v:V} {o:Option Value} (r:RelO (some v) o):∃ u,o = some u /\ RelV v u:=by
 cases o with
 | none=>exact (show False from r).elim
 | some u=>exact ⟨u,rfl,r⟩
theorem RelO.none_of {o:Option Value} (r:RelO none o):o = none:=by
 cases o with
 | none=>rfl
 | some u=>exact (show False from r).elim
theorem zb4 {v:V} {u:Value} (r:RelV v u):handedIn u = true:=by
 cases v with
 | non=>cases (show u = Value.none from r); rfl
 | bl b=>cases (show u = Value.bool b from r); rfl
 | int i=>obtain ⟨t,e⟩:=(show ∃ t,u = Value.int i t from r); cases e; rfl
 | str x=>obtain ⟨t,e⟩:=(show ∃ t,u = Value.str x t from r); cases e; rfl
 | byt b=>obtain ⟨t,e⟩:=(show ∃ t,u = Value.bytes b t from r); cases e; rfl
 | flt b=>obtain ⟨t,e⟩:=(show ∃ t,u = Value.float b t from r); cases e; rfl
 | ref a=>cases (show u = Value.ref a from r); rfl
 | ty n=>cases (show u = Value.type n from r); rfl
section
variable {P:Program} {w:World} {H H':Hp} {h h':Heap} {a C dx:Addr} {fs fs':List (Str × V)}
theorem ye6 (hok:HOk P w H h) (e:H a = some (.ins C dx fs)):∃ mA,ObjM h a dx C mA /\ (∀ f,RelO (fs.lookup f) (mA f)) /\ PySem.Within mA (fs.map (·.1)) /\ fs.length <= 1000 /\ H dx = some (.own a):=by
 obtain ⟨d,z,ne,ob,mA,n,r,q⟩:=(show xe1 P w H h a (.ins C dx fs) from hok a _ e)
 exact ⟨mA,⟨ob,n,ne⟩,r,q,z,d⟩
end
structure Cls (K:Frag) (C:Addr):Prop where
 pg:plainGet K C Str.empty = true
 hd:hasDictIn K C = true
 po:plainOver K C = true
 sa:findIn K (.ref C) "__setattr__" = some (some (.builtin "object.__setattr__"))
theorem Cls.get {K:Frag} {C:Addr} (c:Cls K C) (f:Str):plainGet K C f = true:=c.pg
def xo1 (K:Frag) (C:Addr) (f:Str):Prop:=findIn K (.ref C) f = some none
theorem xo1.taker {K:Frag} {C:Addr} {f:Str} (n:xo1 K C f):takerIn K C f = some none:=by
 unfold takerIn
 rw [show findIn K (.ref C) f = some none from n]
 rfl
structure Meth (K:Frag) (C:Addr) (m:Str) (f:Addr):Prop where
 at_:findIn K (.ref C) m = some (some (.ref f))
 fn:isFn K (.ref f) = true
 kp:keepIn K (.ref f) = true
section
variable {X:Cx} {pins:List (Addr × Obj)} {σ:St} {H:Hp} {s:Shared} {a C dx:Addr} {fs:List (Str × V)} {f:Str} {v:V} {A:Around} {E:Value -> Shared -> Prop}
theorem yu8 {b:Bool} {Q:Value -> Shared -> Prop} (I:Inv X pins σ H s) (e:H a = some (.ins C dx fs)) (c:Cls X.K C) (n:xo1 X.K C f) (l:fs.lookup f = some v)
  (h:∀ u s',Inv X pins σ H s' -> RelV v u -> Q u s'):wpAny (model X.prog X.w) A (getAttr (.ref a) f b) Q E s:=by
 obtain ⟨mA,O,r,_,_,_⟩:=ye6 I.hok e
 obtain ⟨u,hu,ru⟩:=RelO.some_of (v:=v) (o:=mA f) (by rw [<- l]; exact r f)
 exact get_map I.kIn O (c.get f) c.hd n hu (zb4 ru) (h u _ (I.tok _) ru)
theorem yb1 {m:Str} {g:Addr} {pl:Sem Bool} {Q:Value × List Value -> Shared -> Prop} (I:Inv X pins σ H s) (e:H a = some (.ins C dx fs)) (c:Cls X.K C) (k:Meth X.K C m g) (l:fs.lookup m = none)
  (h:Q (.ref g,[.ref a]) s):wpAny (model X.prog X.w) A (getMethod (.ref a) m pl) Q E s:=by
 obtain ⟨mA,O,r,_,_,_⟩:=ye6 I.hok e
 have hn:mA m = none:=RelO.none_of (by rw [<- l]; exact r m)
 exact get_meth I.kIn O (c.get m) k.at_ k.fn hn h
theorem ys5 {y:V} {u:Value} {Q:Unit -> Shared -> Prop} (I:Inv X pins σ H s) (e:H a = some (.ins C dx fs)) (c:Cls X.K C) (n:xo1 X.K C f) (hl:fs.length < 1000) (ry:RelV y u)
  (h:∀ s',Inv X pins σ (upd H a (.ins C dx (putF f y fs))) s' -> Q () s'):wpAny (model X.prog X.w) A (setAttr (.ref a) f u) Q E s:=by
 obtain ⟨mA,O,r,wi,_,ho⟩:=ye6 I.hok e
 have hz:(fs.map (·.1)).length <= sizeLine:=by rw [List.length_map,sizeLine_eq]; omega
 refine set_map I.kIn O c.sa c.po n.taker c.hd wi hz fun h' O' sb=>h _ ?_
 have hd:∃ o,h'.get? dx = some o:=let ⟨o,_,_,e',_⟩:=O'.ns; ⟨o,e'⟩
 refine I.write (x:=a) (e:=dx) (by rw [e]; exact True.intro) (.inr ho) (fun b q hb z=>(sb.2 b hb).trans z) hd ?_
 refine ⟨by rw [xa3 O.ne]; exact ho,?_,O.ne,O'.obj,_,O'.ns,fun g=>?_,fun g hg=>?_⟩
 ·have:=xw4 f y fs; omega
 ·show RelO ((putF f y fs).lookup g) (if g = f then some u else mA g)
  rw [xw3]
  by_cases q:g = f
  ·rw [if_pos q,if_pos q]; exact ry
  ·rw [if_neg q,if_neg q]; exact r g
 ·by_cases q:g = f
  ·rw [q]; exact (xw9 f y fs).1
  ·refine (xw9 f y fs).2 g (wi g fun z=>hg ?_)
   show (if g = f then some u else mA g) = none
   rw [if_neg q]; exact z
theorem Inv.made (I:Inv X pins σ H s):Inv X pins σ (upd (upd H s.heap.objs.size (.own (s.heap.objs.size + 1))) (s.heap.objs.size + 1) (.ins C s.heap.objs.size []))
  { s with heap:=(s.heap.push emptyDict).push (instObj C s.heap.objs.size) }:=by
 have e1:(s.heap.push emptyDict).get? s.heap.objs.size = some emptyDict:=Heap.get?_push_size s.heap rfl
 have e2:((s.heap.push emptyDict).push (instObj C s.heap.objs.size)).get? (s.heap.objs.size + 1) = some (instObj C s.heap.objs.size):=by
  have:=Heap.get?_push_size (s.heap.push emptyDict) (o:=instObj C s.heap.objs.size) rfl
  rwa [Heap.size_push] at this
 have e3:(s.heap.push emptyDict).Ns s.heap.objs.size (fun _=>none):=⟨emptyDict,#[],_,e1,rfl,(fun e he=>absurd he (by simp)),fun _=>rfl⟩
 have I1:=I.laid (a:=s.heap.objs.size) (o:=.own (s.heap.objs.size + 1)) (h':=s.heap.push emptyDict) (t':=s.toks) (fun b u q=>Heap.get?_push_of_some _ q) (Nat.le_refl _) ⟨_,e1⟩
 refine I1.laid (a:=s.heap.objs.size + 1) (o:=.ins C s.heap.objs.size []) (t':=s.toks) (fun b u q=>Heap.get?_push_of_some _ q) (Nat.le_of_eq (Heap.size_push _ _)) ?_
 have ne:s.heap.objs.size ≠ s.heap.objs.size + 1:=Nat.ne_of_lt (Nat.lt_succ_self _)
 refine ⟨by rw [xa3 ne,xa1],Nat.zero_le _,ne,e2,fun _=>none,(Heap.Ns1.of_empty e3).at fun o q=>Heap.get?_push_of_some _ q,fun _=>True.intro,fun y hy=>absurd rfl hy⟩
theorem attr_of {prog:Program} {w:World} {env:Env} {e:Expr} {f:Str} {pos:Pos} {s:Shared} {Q:Value -> Shared -> Prop} (hb:attributeBase e f env (eval e env) = eval e env)
  (h:wpAny (model prog w) A (eval e env) (fun o s₁=>wpAny (model prog w) A (getAttr o f true) Q E s₁) E s):wpAny (model prog w) A (eval (.Attribute e f pos) env) Q E s :=
 Attribute_any_ h (by rw [arm_eval_Attribute,hb])
end
def tFld (K:Frag) (ta:TE) (f:Str):TE:=fun σ H Q=>ta σ H fun x H1=>∃ a C dx fs v,x = .ref a /\ H1 a = some (.ins C dx fs) /\ Cls K C /\ xo1 K C f /\ fs.lookup f = some v /\ Q v H1
def sFld (K:Frag) (ta tv:TE) (f:Str):TS:=fun D σ H=>tv σ H fun y H1=>ta σ H1 fun x H2=>∃ a C dx fs,x = .ref a /\ H2 a = some (.ins C dx fs) /\ Cls K C /\ xo1 K C f /\ fs.length < 1000 /\
 D.nx σ (upd H2 a (.ins C dx (putF f y fs)))
section
variable {X:Cx} {o e value:Expr} {f:Str} {pos pos' tpos:Pos} {ta tv:TE}
theorem pe_fld (he:PE X e ta) (hb:attributeBase e f X.env (eval e X.env) = eval e X.env):PE X (.Attribute e f pos) (tFld X.K ta f):=by
 intro pins s σ H Q I h
 refine attr_of hb (thn (he pins s σ H _ I h) fun u s1 ⟨x,H1,I1,rx,a,C,dx,fs,v,ex,ea,c,n,l,q⟩=>?_)
 subst ex
 obtain rfl:u = Value.ref a:=rx
 exact yu8 I1 ea c n l fun u' s2 I2 ru=>⟨v,H1,I2,ru,q⟩
theorem yh4 (ha:PE X o ta) (hv:PE X value tv) (hs:swapsWith value (some (.Attribute o f pos')) pos.line X.env = pure false):PS X (.Assign [.Attribute o f pos'] value pos) (sFld X.K ta tv f):=by
 intro pins s σ H D I h
 refine plainObj_wpAny_Assign_Attribute (thn (hv pins s σ H _ I h) fun u s1 ⟨y,H1,I1,ry,q⟩=>thn (ha pins s1 σ H1 _ I1 q) fun ov s2 ⟨x,H2,I2,rx,a,C,dx,fs,ex,ea,c,n,l,q2⟩=>?_) hs
 subst ex
 obtain rfl:ov = Value.ref a:=rx
 exact ys5 I2 ea c n l ry fun s3 I3=>⟨σ,_,I3,q2⟩
end
section
variable {X:Cx} {pins:List (Addr × Obj)} {σ:St} {H:Hp} {s:Shared} {A:Around} {E:Value -> Shared -> Prop} {Q:Value -> Shared -> Prop} {c:Value} {b:Bool}
inductive TyOf (K:Frag) (H:Hp):V -> Value -> Prop where
 | non:TyOf K H .non (.type "NoneType")
 | bl (x:Bool):TyOf K H (.bl x) (.type "bool")
 | int (i:Int):TyOf K H (.int i) (.type "int")
 | str (x:Str):TyOf K H (.str x) (.type "str")
 | flt (x:UInt64):TyOf K H (.flt x) (.type "float")
 | lst {a:Addr} {xs:List V} (e:H a = some (.lst xs)):TyOf K H (.ref a) (.type "list")
 | frz {a:Addr} {o:Obj} {xs:List V} (e:H a = some (.frz o (.lst xs))):TyOf K H (.ref a) (.type "list")
 | tup {a:Addr} {xs:List V} (e:H a = some (.tup xs)):TyOf K H (.ref a) (.type "tuple")
 | dK {a:Addr} {kvs:List (Key × V)} (e:H a = some (.dK kvs)):TyOf K H (.ref a) (.type "dict")
 | dT {a:Addr} {kvs:List (List Key × V)} (e:H a = some (.dT kvs)):TyOf K H (.ref a) (.type "dict")
 | ins {a C dx:Addr} {fs:List (Str × V)} (e:H a = some (.ins C dx fs)) (cl:Cls K C) (ha:findIn K (.ref C) "__class__" = some (some (.builtin "object.__class__")))
   (hn:specialIn K (.builtin "object.__class__") "__get__" = some (some (.builtin "getset_descriptor.__get__"))) (htk:takesIn K (.builtin "object.__class__") = some true)
   (hm:mroIn K C (.type "object") = some true):TyOf K H (.ref a) (.ref C)
theorem zb0 {x:V} {u t:Value} (I:Inv X pins σ H s) (rx:RelV x u) (ty:TyOf X.K H x t) (e:kitOne X.K t c = some b) (h:∀ tk,Q (.bool b) { s with toks:=tk }) :
  wpAny (model X.prog X.w) A (call (.builtin "isinstance") [u,c]) Q E s:=by
 cases ty with
 | non=>cases (show u = Value.none from rx); exact kia_one kitx_none I.kIn True.intro e (fun z=>nomatch z) h
 | bl y=>cases (show u = Value.bool y from rx); exact kia_one kitx_bool I.kIn True.intro e (fun z=>nomatch z) h
 | int i=>obtain ⟨t,q⟩:=(show ∃ t,u = Value.int i t from rx); cases q; exact kia_one kitx_int I.kIn True.intro e (fun z=>nomatch z) h
 | str y=>obtain ⟨t,q⟩:=(show ∃ t,u = Value.str y t from rx); cases q; exact kia_one kitx_str I.kIn True.intro e (fun z=>nomatch z) h
 | flt y=>obtain ⟨t,q⟩:=(show ∃ t,u = Value.float y t from rx); cases q; exact kia_one kitx_float I.kIn True.intro e (fun z=>nomatch z) h
 | @lst a xs ea =>
  cases (show u = Value.ref a from rx)
  obtain ⟨_,_,n,_,h1⟩:=(show xe1 X.prog X.w H s.heap a (.lst xs) from I.hok a _ ea)
  exact kia_one kitx_list I.kIn ⟨_,h1,rfl⟩ e (fun z=>nomatch z) h
 | @frz a ob xs ea =>
  cases (show u = Value.ref a from rx)
  obtain ⟨_,_,_,n,_,h1⟩:=(show xe1 X.prog X.w H s.heap a (.frz ob (.lst xs)) from I.hok a _ ea)
  exact kia_one kitx_list I.kIn ⟨_,h1,rfl⟩ e (fun z=>nomatch z) h
 | @tup a xs ea =>
  cases (show u = Value.ref a from rx)
  obtain ⟨_,_,_,p⟩:=(show xe1 X.prog X.w H s.heap a (.tup xs) from I.hok a _ ea)
  obtain ⟨o,h1,h2,_⟩:=p
  exact kia_one kitx_tuple I.kIn ⟨o,h1,h2⟩ e (fun z=>nomatch z) h
 | @dK a kvs ea =>
  cases (show u = Value.ref a from rx)
  obtain ⟨_,_,vs,_,p⟩:=(show xe1 X.prog X.w H s.heap a (.dK kvs) from I.hok a _ ea)
  obtain ⟨o,es,ep,h1,h2,_⟩:=p
  exact kia_one kitx_dict I.kIn ⟨o,h1,h2.1⟩ e (fun z=>nomatch z) h
 | @dT a kvs ea =>
  cases (show u = Value.ref a from rx)
  obtain ⟨_,_,xs,_,o,es,ep,h1,h2,_⟩:=(show xe1 X.prog X.w H s.heap a (.dT kvs) from I.hok a _ ea)
  exact kia_one kitx_dict I.kIn ⟨o,h1,h2.1⟩ e (fun z=>nomatch z) h
 | @ins a C dx fs ea cl ha hn htk hm =>
  cases (show u = Value.ref a from rx)
  obtain ⟨mA,O,_⟩:=ye6 I.hok ea
  obtain ⟨od,J,_⟩:=O.look
  exact kia_one (kitx_own (cl.get _) cl.hd ha hn htk hm) I.kIn J e (fun z=>nomatch z) h
end
structure Room (k:Nat) (A:Around):Prop where
 hd:A.handled = none
 dp:A.depth + 3 * k + 5 < recursionLimit
 un:A.units + 16 * k + 200 < cLine
theorem Room.mono {j k:Nat} {A:Around} (r:Room k A) (h:j <= k):Room j A:=⟨r.hd,by have:=r.dp; omega,by have:=r.un; omega⟩
theorem Room.deeper {k:Nat} {A:Around} (r:Room (k + 1) A) (env:Env):Room k (A.deeper env) :=
 ⟨r.hd,by have:=r.dp; show A.depth + 1 + 3 * k + 5 < _; omega,by have:=r.un; show A.units + 3 + 16 * k + 200 < _; omega⟩
theorem yu0 {A:Around} {C:Addr} {us:List Value} {kw:List (Str × Value)}:(A.under (.builtin "type.__call__" ⟨.ref C :: us,kw⟩)).depth = A.depth + 1:=by
 first | rfl | simp [Around.under,Code.weight,Code.isCreation,Code.isGuard,Code.isCaller,Code.frames,Code.isFrame,guardIds]
theorem yt9 {A:Around} {C:Addr} {us:List Value} {kw:List (Str × Value)}:(A.under (.builtin "type.__call__" ⟨.ref C :: us,kw⟩)).units = A.units + 1:=by
 first | rfl | simp [Around.under,Code.cUnits,Code.frames,Code.isFrame]
theorem Room.make {k:Nat} {A:Around} (r:Room (k + 1) A) (C:Addr) (us:List Value) (kw:List (Str × Value)):Room k (A.under (.builtin "type.__call__" ⟨.ref C :: us,kw⟩)) :=
 ⟨r.hd,by have:=r.dp; rw [yu0]; omega,by have:=r.un; rw [yt9]; omega⟩
theorem Room.depth {k:Nat} {A:Around} (r:Room k A):A.depth < recursionLimit:=by have:=r.dp; omega
theorem Room.units {k:Nat} {A:Around} (r:Room k A):A.units + 64 < cLine:=by have:=r.un; omega
def tNil:TA:=fun _ H Q=>Q [] H
def tCons (ta:TE) (tr:TA):TA:=fun σ H Q=>ta σ H fun x H1=>tr σ H1 fun xs H2=>Q (x :: xs) H2
section
variable {X:Cx} {e:Expr} {es:List Expr} {te:TE} {t:TA} {pos:Pos}
theorem xa6:PA X [] tNil:=fun _ _ _ _ H Q I h=>Calls.spliced_nil ⟨[],H,I,.nil,h⟩
theorem xa0 (ha:PE X e te) (hr:PA X es t) (hs:starEach (e :: es) X.env = (false,eval e X.env) :: starEach es X.env:=by rfl):PA X (e :: es) (tCons te t):=by
 intro pos pins s σ H Q I h
 rw [hs]
 show wpAny _ _ (spliced ((false,eval e X.env) :: backTo pos (starEach es X.env))) _ _ s
 refine Calls.spliced_cons (thn (ha pins s σ H _ I h) fun u s1 ⟨x,H1,I1,r1,q1⟩=>?_)
 exact thn (hr pos pins s1 σ H1 _ I1 q1) fun us s2 ⟨xs,H2,I2,r2,q2⟩=>⟨x :: xs,H2,I2,.cons r1 r2,q2⟩
end
abbrev Sp:=List V -> Hp -> VK -> XK -> Prop
abbrev CXT:=List Env -> Hp -> Shared -> XK -> Value -> Shared -> Prop
structure Env0 (P:Program) (w:World) (K:Frag) (mg:Str -> Option Value) (base:Heap) (A:Around) (outer:List Env) (s:Shared) (H:Hp):Prop where
 frames:A.frames = some outer
 mod:Mod K mg base
 bs:∀ b o,base.get? b = some o -> s.heap.get? b = some o /\ H b = none
 bsz:base.objs.size <= s.heap.objs.size
 funs:s.heap.FunFrames base outer
 frf:∀ b ∈ frs outer,H b = none
 hok:HOk P w H s.heap
 bare:AllBare s.gens
def CE (outer:List Env) (P:Program) (w:World) (H:Hp) (s:Shared) (Q:VK) (u:Value) (s':Shared):Prop :=
 ∃ v H',s'.os = s.os /\ AllBare s'.gens /\ Un (frs outer) [] H H' s.heap s'.heap /\ HOk P w H' s'.heap /\ RelV v u /\ Q v H'
def CR (CX:CXT) (outer:List Env) (P:Program) (w:World) (H:Hp) (s:Shared) (Q:VK) (E:XK) (r:Result) (s':Shared):Prop :=
 match r with
 | .ok (.ret u)=>CE outer P w H s Q u s'
 | .ok _=>False
 | .error e=>CX outer H s E e s'
structure FnOk (P:Program) (w:World) (K:Frag) (mg:Str -> Option Value) (base:Heap) (CX:CXT) (k:Nat) (f:Addr) (fd:FuncData) (ps:List Str) (sp:Sp):Prop where
 len:∀ vs H Q E,sp vs H Q E -> vs.length = ps.length
 run:∀ (A:Around) (outer:List Env) (s:Shared) (H:Hp) (args:Args) (us:List Value) (vs:List V) (Q:VK) (E:XK),Room k A -> Env0 P w K mg base A outer s H -> BindsTo s fd args (ps.zip us) -> Vals vs us -> sp vs H Q E ->
  codeAny (model P w) A (.call (.ref f) args) (CR CX outer P w H s Q E) s
theorem Env0.make {P:Program} {w:World} {K:Frag} {mg:Str -> Option Value} {base:Heap} {A:Around} {outer:List Env} {s:Shared} {H:Hp} (e:Env0 P w K mg base A outer s H) (C:Addr) (us:List Value) (kw:List (Str × Value)) :
  Env0 P w K mg base (A.under (.builtin "type.__call__" ⟨.ref C :: us,kw⟩)) outer s H:=⟨by first | exact e.frames | (simpa [Around.under,Code.envs,Code.isFrame,pushEnvs] using e.frames),e.mod,e.bs,e.bsz,e.funs,e.frf,e.hok,e.bare⟩
section
variable {X:Cx} {pins:List (Addr × Obj)} {σ:St} {H:Hp} {s s':Shared}
theorem Inv.env0 (I:Inv X pins σ H s):Env0 X.prog X.w X.K X.mg X.base X.A X.stack s H :=
 ⟨I.ok.frames,I.ok.mod,I.bs,Nat.le_trans I.ok.bsz I.sz,I.stack,I.stkFree,I.hok,I.bare⟩
theorem Inv.after {Q:VK} {u:Value} (I:Inv X pins σ H s) (h:CE X.stack X.prog X.w H s Q u s'):EP X pins σ Q u s':=by
 obtain ⟨v,H',os,bare,un,hok,r,q⟩:=h
 obtain ⟨hh,g,d,t,os'⟩:=s'
 obtain rfl:os' = s.os:=os
 exact ⟨v,H',I.call (h':=hh) (g':=g) (d':=d) (t':=t) (ch:=[]) un hok bare (fun b z=>absurd z (by simp)),r,q⟩
end
def tCall (sp:Sp) (dvs:List V) (E:XK) (t:TA):TE:=fun σ H Q=>t σ H fun vs H1=>sp (vs ++ dvs) H1 Q E
def tMeth (C:Addr) (m:Str) (sp:Sp) (dvs:List V) (E:XK) (ta:TE) (t:TA):TE:=fun σ H Q=>ta σ H fun x H1=>∃ a dx fs,x = .ref a /\ H1 a = some (.ins C dx fs) /\ fs.lookup m = none /\
 t σ H1 fun vs H2=>sp (x :: (vs ++ dvs)) H2 Q E
def tMake (C:Addr) (sp:Sp) (dvs:List V) (E:XK) (t:TA):TE:=fun σ H Q=>t σ H fun vs H1=>∀ x dx,H1 x = none -> H1 dx = none -> dx ≠ x ->
 sp (.ref x :: (vs ++ dvs)) (upd (upd H1 dx (.own x)) x (.ins C dx [])) (fun v H2=>v = .non /\ Q (.ref x) H2) E
def xd1 (K:Frag) (fd:FuncData) (ps:List Str) (ds:List Value):Prop :=
 ∀ (s:Shared) (us:List Value),K.In s.heap -> (us ++ ds).length = ps.length -> BindsTo s fd ⟨us,[]⟩ (ps.zip (us ++ ds))
theorem xd1.all {K:Frag} {fd:FuncData} {ps:List Str} (h:∀ us:List Value,us.length = ps.length -> bindArgs fd ⟨us,[]⟩ = pure (ps.zip us)):xd1 K fd ps []:=fun s us _ hl=>by
 rw [List.append_nil] at hl ⊢
 exact .of_eq (h us hl)
def xy5 (CX:CXT) (X:Cx) (E:XK):Prop:=∀ (pins:List (Addr × Obj)) (σ:St) (H:Hp) (s:Shared) (e:Value) (s':Shared),Inv X pins σ H s -> CX X.stack H s E e s' -> X.xe e s'
section
variable {X:Cx} {CX:CXT} {k:Nat} {f C:Addr} {fd:FuncData} {ps:List Str} {sp:Sp} {dvs:List V} {ds:List Value} {E:XK} {x m:Str} {p pos apos:Pos} {e o:Expr} {es:List Expr} {ta:TE} {t:TA}
theorem run_fn {pins:List (Addr × Obj)} {σ:St} {H:Hp} {s:Shared} {Q:VK} {us:List Value} {vs:List V} (F:FnOk X.prog X.w X.K X.mg X.base CX k f fd ps sp) (hr:Room k X.A) (hb:xd1 X.K fd ps ds) (hd:Vals dvs ds) (hx:xy5 CX X E)
  (I:Inv X pins σ H s) (r:Vals vs us) (h:sp (vs ++ dvs) H Q E):wpAny (model X.prog X.w) X.A (call (.ref f) us) (EP X pins σ Q) X.xe s:=by
 have r2:Vals (vs ++ dvs) (us ++ ds):=r.append hd
 have hl:(us ++ ds).length = ps.length:=by rw [<- r2.length]; exact F.len _ _ _ _ h
 refine wpAny_call (codeAny_mono (F.run X.A X.stack s H ⟨us,[]⟩ (us ++ ds) (vs ++ dvs) Q E hr I.env0 (hb s us I.kIn hl) r2 h) fun r s' hq=>?_)
 cases r with
 | error e=>exact hx pins σ H s e s' I hq
 | ok fl =>
  cases fl with
  | ret u=>exact I.after hq
  | next=>exact False.elim hq
  | brk=>exact False.elim hq
  | cont=>exact False.elim hq
theorem xb0 (F:FnOk X.prog X.w X.K X.mg X.base CX k f fd ps sp) (hr:Room k X.A) (hg:Gl X x) (hm:X.mg x = some (.ref f)) (hk:keepIn X.K (.ref f) = true) (hb:xd1 X.K fd ps ds) (hd:Vals dvs ds) (hx:xy5 CX X E)
  (ha:PA X (e :: es) t) (hdb:(x == ("__debug__" : Str)) = false:=by decide) (he:starEach (e :: es) X.env = (false,eval e X.env) :: starEach es X.env:=by rfl) (hpl:(backTo pos (starEach es X.env)).any (·.1) = false:=by rfl) :
  PE X (.Call (.Name x p) (e :: es) [] pos) (tCall sp dvs E t):=by
 intro pins s σ H Q I h
 refine wpAny_Call_Name_kw (xw6 I hg hm ?_ hdb)
 refine callWith_K (h₀:=X.base) I.ok.mod.kin hk (thn (ha pos pins s σ H _ I h) fun us s1 ⟨vs,H1,I1,r,q⟩=>⟨I1.kIn,?_⟩) he hpl
 exact run_fn F hr hb hd hx I1 r q
theorem xi3 {pl:Sem Bool} (he:PE X o ta) (c:Cls X.K C) (hm:Meth X.K C m f) (F:FnOk X.prog X.w X.K X.mg X.base CX k f fd ps sp) (hr:Room k X.A) (hb:xd1 X.K fd ps ds) (hd:Vals dvs ds) (hx:xy5 CX X E) (ha:PA X (e :: es) t)
  (hst:starEach (e :: es) X.env = (false,eval e X.env) :: starEach es X.env:=by rfl) (hpl:(backTo pos (starEach es X.env)).any (·.1) = false:=by rfl)
  (ht:eval (.Call (.Attribute o m apos) (e :: es) [] pos) X.env = (do
   let ov <- eval o X.env
   standAt apos.atName
   let (f,first) <- holding [ov] (getMethod ov m pl)
   callWith pos f first (backTo pos (starEach (e :: es) X.env)) (backToKw pos (keywordEach [] X.env))):=by rfl) :
  PE X (.Call (.Attribute o m apos) (e :: es) [] pos) (tMeth C m sp dvs E ta t):=by
 intro pins s σ H Q I h
 refine methodCall_KW (pl:=pl) (thn (he pins s σ H _ I h) fun u s1 ⟨x,H1,I1,rx,a,dx,fs,ex,ea,l,q⟩=>?_) ht
 subst ex
 obtain rfl:u = Value.ref a:=rx
 refine yb1 I1 ea c hm l ?_
 refine callWith_K (first:=[.ref a]) (h₀:=X.base) I.ok.mod.kin hm.kp (thn (ha pos pins s1 σ H1 _ I1 q) fun us s2 ⟨vs,H2,I2,r,q2⟩=>⟨I2.kIn,?_⟩) hst hpl
 exact run_fn (us:=.ref a :: us) (vs:=.ref a :: vs) F hr hb hd hx I2 (.cons rfl r) q2
structure Mk (K:Frag) (C f:Addr):Prop where
 makes:makesIn K C = true
 init:findIn K (.ref C) "__init__" = some (some (.ref f))
 fn:isFn K (.ref f) = true
 kp:keepIn K (.ref C) = true
theorem run_make {pins:List (Addr × Obj)} {σ:St} {H:Hp} {s:Shared} {Q:VK} {us:List Value} {vs:List V} (M:Mk X.K C f) (F:FnOk X.prog X.w X.K X.mg X.base CX k f fd ps sp) (hr:Room (k + 1) X.A) (hb:xd1 X.K fd ps ds) (hd:Vals dvs ds)
  (hx:xy5 CX X E) (I:Inv X pins σ H s) (r:Vals vs us)
  (h:∀ x dx,H x = none -> H dx = none -> dx ≠ x -> sp (.ref x :: (vs ++ dvs)) (upd (upd H dx (.own x)) x (.ins C dx [])) (fun v H2=>v = .non /\ Q (.ref x) H2) E) :
  wpAny (model X.prog X.w) X.A (call (.ref C) us) (EP X pins σ Q) X.xe s:=by
 have hq:=h (s.heap.objs.size + 1) s.heap.objs.size (I.hok.fresh (Nat.le_succ _)) (I.hok.fresh (Nat.le_refl _)) (Nat.ne_of_lt (Nat.lt_succ_self _))
 have I2:=Inv.made (C:=C) I
 have r2:Vals (V.ref (s.heap.objs.size + 1) :: (vs ++ dvs)) (Value.ref (s.heap.objs.size + 1) :: (us ++ ds)):=.cons rfl (r.append hd)
 have hl:(Value.ref (s.heap.objs.size + 1) :: us ++ ds).length = ps.length:=by
  have e:=r2.length
  rw [F.len _ _ _ _ hq] at e
  exact e.symm
 refine wpAny_call (make_map (f:=f) I.kIn M.makes M.init (beq_iff_eq.mp M.fn) (codeAny_mono (F.run _ X.stack _ _ ⟨Value.ref (s.heap.objs.size + 1) :: us,[]⟩ (Value.ref (s.heap.objs.size + 1) :: (us ++ ds)) _ _ E (hr.make C us [])
  (I2.env0.make C us []) (hb _ (Value.ref (s.heap.objs.size + 1) :: us) I2.kIn hl) r2 hq) fun r s' hq'=>?_))
 cases r with
 | error e=>exact hx pins σ _ _ e s' I2 hq'
 | ok fl =>
  cases fl with
  | ret u =>
   obtain ⟨v,H',I3,rv,ev,q3⟩:=I2.after hq'
   subst ev
   exact ⟨rv,⟨V.ref (s.heap.objs.size + 1),H',I3,rfl,q3⟩⟩
  | next=>exact False.elim hq'
  | brk=>exact False.elim hq'
  | cont=>exact False.elim hq'
theorem pe_make0 (M:Mk X.K C f) (F:FnOk X.prog X.w X.K X.mg X.base CX k f fd ps sp) (hr:Room (k + 1) X.A) (hg:Gl X x) (hm:X.mg x = some (.ref C)) (hb:xd1 X.K fd ps ds) (hd:Vals dvs ds) (hx:xy5 CX X E)
  (hdb:(x == ("__debug__" : Str)) = false:=by decide):PE X (.Call (.Name x p) [] [] pos) (tMake C sp dvs E tNil):=by
 intro pins s σ H Q I h
 refine wpAny_Call_Name_kw (xw6 I hg hm ?_ hdb)
 exact callWith_K0 I.kIn M.kp (run_make (us:=[]) M F hr hb hd hx I .nil h)
end
def PK (X:Cx) (kws:List Keyword) (t:TA):Prop :=
 ∀ (pos:Pos) (pins:List (Addr × Obj)) (s:Shared) (σ:St) (H:Hp) (Q:List V -> Hp -> Prop),Inv X pins σ H s -> t σ H Q -> wpAny (model X.prog X.w) X.A (evalAll ((backToKw pos (keywordEach kws X.env)).map (·.2))) (AP X pins σ Q) X.xe s
section
variable {X:Cx} {CX:CXT} {k:Nat} {f C:Addr} {fd:FuncData} {ps ks:List Str} {sp:Sp} {E:XK} {x m:Str} {p pos apos kpos:Pos} {e o:Expr} {es:List Expr} {kws:List Keyword} {te ta:TE} {t tk:TA} {nm:Option Str}
theorem pk_nil:PK X [] tNil:=fun _ _ _ _ H Q I h=>wpAny_evalAll_nil ⟨[],H,I,.nil,h⟩
theorem pk_cons (ha:PE X e te) (hr:PK X kws t):PK X (⟨nm,e,kpos⟩ :: kws) (tCons te t):=by
 intro pos pins s σ H Q I h
 show wpAny _ _ (evalAll ((do let v <- eval e X.env; standAt pos; pure v) :: (backToKw pos (keywordEach kws X.env)).map (·.2))) _ _ s
 refine wpAny_evalAll_cons (wpAny_bind (thn (ha pins s σ H _ I h) fun u s1 ⟨x,H1,I1,r1,q1⟩=>wpAny_bind (wpAny_standAt (wpAny_pure ?_))))
 exact thn (hr pos pins s1 σ H1 _ I1 q1) fun us s2 ⟨xs,H2,I2,r2,q2⟩=>⟨x :: xs,H2,I2,.cons r1 r2,q2⟩
variable {g:List Value -> List Value -> List Value} {gV:List V -> List V -> List V}
end
structure FnScope (N P:List Str) (sc:Scope):Prop where
 kind:sc.kind = .function
 co:sc.isCoroutine = false
 gen:sc.isGenerator = false
 nd:N.Nodup
 pre:N.take P.length = P
 par:∀ x ∈ P,sc.names.lookup x = some .local \/ sc.names.lookup x = some .cell
 nofree:∀ y ∈ sc.names,y.2 ≠ .free
theorem yk7 {kindOf:Str -> Option NameKind} {x:Str}:∀ {binds:List (Str × Value)} {m:Str -> Option Value},(∀ v,(x,v) ∉ binds) -> bindL kindOf binds m x = m x
 | [],_,_=>rfl
 | (n,v) :: r,m,h=>by
  unfold bindL
  rw [yk7 fun w hw=>h w (List.mem_cons_of_mem _ hw)]
  split
  ·have:x ≠ n:=by rintro rfl; exact h v List.mem_cons_self
   simp [this]
  ·rfl
theorem yk9 {kindOf:Str -> Option NameKind} {x:Str}:∀ {binds:List (Str × Value)} {m:Str -> Option Value},(∀ v,(x,v) ∉ binds) -> bindC kindOf binds m x = m x
 | [],_,_=>rfl
 | (n,v) :: r,m,h=>by
  unfold bindC
  rw [yk9 fun w hw=>h w (List.mem_cons_of_mem _ hw)]
  split
  ·rfl
  ·have:x ≠ n:=by rintro rfl; exact h v List.mem_cons_self
   simp [this]
theorem yk8 {kindOf:Str -> Option NameKind} {x:Str} {v:Value}:∀ {P:List Str} {vs:List Value} {i:Nat} {m:Str -> Option Value},P.Nodup -> P[i]? = some x -> vs[i]? = some v -> kindOf x = some .local ->
  bindL kindOf (P.zip vs) m x = some v
 | [],_,_,_,_,h,_,_=>by simp at h
 | _ :: _,[],_,_,_,_,h,_=>by simp at h
 | p :: P,w :: vs,0,m,nd,h1,h2,hk=>by
  simp at h1 h2; subst h1; subst h2
  show bindL kindOf ((p,w) :: P.zip vs) m p = _
  unfold bindL
  rw [yk7 fun v hv=>(List.nodup_cons.mp nd).1 (List.of_mem_zip hv).1,if_pos hk]
  simp
 | p :: P,w :: vs,i + 1,m,nd,h1,h2,hk=>by
  show bindL kindOf ((p,w) :: P.zip vs) m x = _
  unfold bindL
  exact yk8 (i:=i) (List.nodup_cons.mp nd).2 (by simpa using h1) (by simpa using h2) hk
theorem yl0 {kindOf:Str -> Option NameKind} {x:Str} {v:Value}:∀ {P:List Str} {vs:List Value} {i:Nat} {m:Str -> Option Value},P.Nodup -> P[i]? = some x -> vs[i]? = some v -> kindOf x ≠ some .local ->
  bindC kindOf (P.zip vs) m x = some v
 | [],_,_,_,_,h,_,_=>by simp at h
 | _ :: _,[],_,_,_,_,h,_=>by simp at h
 | p :: P,w :: vs,0,m,nd,h1,h2,hk=>by
  simp at h1 h2; subst h1; subst h2
  show bindC kindOf ((p,w) :: P.zip vs) m p = _
  unfold bindC
  rw [yk9 fun v hv=>(List.nodup_cons.mp nd).1 (List.of_mem_zip hv).1,if_neg hk]
  simp
 | p :: P,w :: vs,i + 1,m,nd,h1,h2,hk=>by
  show bindC kindOf ((p,w) :: P.zip vs) m x = _
  unfold bindC
  exact yl0 (i:=i) (List.nodup_cons.mp nd).2 (by simpa using h1) (by simpa using h2) hk
def start (N:List Str) (vs:List V):St:=vs.map some ++ List.replicate (N.length - vs.length) none
def cxOf (CX:CXT) (P:Program) (w:World) (K:Frag) (mg:Str -> Option Value) (base:Heap) (N:List Str) (qual:Str) (scope:Scope) (f:Addr) (cd:Value) (A:Around) (outer:List Env) (s:Shared) (H:Hp) (E:XK):Cx where
 prog:=P
 w:=w
 K:=K
 mg:=mg
 base:=base
 A:=A.deeper (envOfC qual scope s.heap.objs.size f cd)
 N:=N
 s₀:=s
 H₀:=H
 env:=envOfC qual scope s.heap.objs.size f cd
 outer:=outer
 stack:=envOfC qual scope s.heap.objs.size f cd :: outer
 ex:=[]
 calm:=true
 fn:=fun _=>true
 pn:=[]
 xe:=fun e s'=>wpAny (model P w) (A.deeper (envOfC qual scope s.heap.objs.size f cd)) (leaving (envOfC qual scope s.heap.objs.size f cd) e) (fun _ s''=>CX outer H s E e s'') (fun e' s''=>CX outer H s E e' s'') s'
theorem yr3 {sc:Scope} {n:Nat} {x:Str} (h:sc.names.lookup x = some .cell):∃ c,(cellsFrom n sc.names []).lookup x = some c:=by
 have q:=cellsFrom_some sc.names n [] (.inl h)
 exact Option.isSome_iff_exists.mp q
theorem zb1 {CX:CXT} {P:Program} {w:World} {K:Frag} {mg:Str -> Option Value} {base:Heap} {N ps:List Str} {qual:Str} {scope:Scope} {f:Addr} {cd:Value} {A:Around} {outer:List Env} {s s1:Shared} {H:Hp} {E:XK} {us:List Value} {vs:List V}
  (S:FnScope N ps scope) (hd:A.handled = none) (e0:Env0 P w K mg base A outer s H) (hl:vs.length = ps.length) (r:Vals vs us)
  (x:InCallC s s.heap.objs.size (bindL (envOfC qual scope s.heap.objs.size f cd).kindOf (ps.zip us) fun _=>none) (cellsFrom (s.heap.objs.size + 1) scope.names []) (bindC (envOfC qual scope s.heap.objs.size f cd).kindOf (ps.zip us) fun _=>none) s1) :
  Inv (cxOf CX P w K mg base N qual scope f cd A outer s H E) [] (start N vs) H s1:=by
 have hpl:ps.length <= N.length:=by have:=congrArg List.length S.pre; rw [List.length_take] at this; omega
 obtain ⟨h1,tk,rfl,hk⟩:=x.done
 have noA:∀ b:Addr,b ∉ (cxOf CX P w K mg base N qual scope f cd A outer s H E).ex:=fun b z=>absurd (show b ∈ ([]:List Addr) from z) (by simp)
 refine ⟨⟨e0.mod,S.kind,rfl,rfl,Nat.le_refl _,fun y z c h1 h2=>?_,fun y hy=>?_,fun y c _ h=>?_,fun _=>hd,Around.frames_deeper e0.frames,.inr ⟨rfl,rfl⟩,fun b z=>absurd z (noA b),e0.bs,e0.bsz,fun b _ _=>noA b,fun b z=>absurd z (noA b),e0.funs,e0.frf⟩,
  rfl,e0.bare,Un.kept hk,⟨_,x.toInCall.ns,fun i y v h1 h2 h3=>?_⟩,fun y c h=>⟨_,x.cell y c h⟩,e0.hok.fresh (Nat.le_refl _),fun y c h=>?_,fun p hp=>absurd (show p ∈ ([]:List (Addr × Obj)) from hp) (by simp),e0.hok.kept hk,?_⟩
 ·exact name_of_addr x.apart (PySem.mem_of_lookup h1) (PySem.mem_of_lookup h2)
 ·have hy:scope.names.lookup y = some .cell \/ scope.names.lookup y = some .free:=hy
  rcases hy with hy | hy
  ·exact yr3 hy
  ·exact absurd rfl (S.nofree _ (PySem.mem_of_lookup hy))
 ·exact Nat.le_of_lt (x.above y c (PySem.mem_of_lookup h))
 ·have hi:i < vs.length:=by
   unfold start at h2
   by_cases hi:i < vs.length
   ·exact hi
   ·rw [List.getElem?_append_right (by simpa using hi)] at h2
    rw [List.getElem?_replicate] at h2
    split at h2 <;> cases h2
  have ha:vs[i]? = some v:=by
   unfold start at h2
   rw [List.getElem?_append_left (by simpa using hi),List.getElem?_map] at h2
   cases e:vs[i]? with
   | none=>rw [e] at h2; cases h2
   | some a=>rw [e] at h2; cases h2; rfl
  obtain ⟨u,hu,rv⟩:=r.get ha
  have hp:ps[i]? = some y:=by
   rw [<- S.pre,List.getElem?_take_of_lt (by omega)]; exact h1
  have ndP:ps.Nodup:=by rw [<- S.pre]; exact S.nd.sublist (List.take_sublist _ _)
  refine ⟨u,rv,?_⟩
  rcases S.par y (List.mem_of_getElem? hp) with k | k
  ·exact .inl ⟨k,yk8 ndP hp hu k⟩
  ·obtain ⟨c,e⟩:=yr3 (n:=s.heap.objs.size + 1) k
   refine .inr ⟨.inl k,c,e,?_⟩
   have q:=x.cell y c e
   rw [yl0 ndP hp hu (by show scope.names.lookup y ≠ _; rw [k]; decide)] at q
   exact q
 ·exact e0.hok.fresh (Nat.le_of_lt (x.above y c (PySem.mem_of_lookup h)))
 ·unfold start
  show _ = N.length
  rw [List.length_append,List.length_map,List.length_replicate]
  omega
theorem fn_of {CX:CXT} {P:Program} {w:World} {K:Frag} {mg:Str -> Option Value} {base:Heap} {k:Nat} {f:Addr} {name qual:Str} {params:Arguments} {body:List Stmt} {scope:Scope} {dV kV doc pm cdv ct oc:Value} {an od:Option Addr}
  {osl:Array (Option Value)} {N ps:List Str} {sp:Sp} (lk:K.lookup f = some ⟨oc,od,.func (fnOf name qual params body scope dV kV doc pm an cdv ct),osl⟩) (hcd:codeIn K cdv qual = true) (S:FnScope N ps scope)
  (len:∀ vs H Q E,sp vs H Q E -> vs.length = ps.length)
  (hbody:∀ (A:Around) (outer:List Env) (s:Shared) (H:Hp) (vs:List V) (Q:VK) (E:XK),Room k (A.deeper (envOfC qual scope s.heap.objs.size f cdv)) -> sp vs H Q E ->
   ∃ t,PSs (cxOf CX P w K mg base N qual scope f cdv A outer s H E) body t /\ t { nx:=fun _ H'=>Q .non H',rt:=Q } (start N vs) H) :
  FnOk P w K mg base CX (k + 1) f (fnOf name qual params body scope dV kV doc pm an cdv ct) ps sp:=by
 refine ⟨len,fun A outer s H args us vs Q E hr e0 hb r hsp=>?_⟩
 have hl:=len _ _ _ _ hsp
 have KX:K.In s.heap:=e0.mod.kin.keeps fun b o e=>(e0.bs b o e).1
 have lim:s.heap.NoLimit:=e0.mod.nolimit.keeps fun b o e=>(e0.bs b o e).1
 have hkind:∀ y ∈ ps.zip us,scope.names.lookup y.1 = some .local \/ (scope.names.lookup y.1 = some .cell /\ ((cellsFrom (s.heap.objs.size + 1) scope.names []).lookup y.1).isSome = true):=fun ⟨n,v⟩ hy=>by
  rcases S.par n (List.of_mem_zip hy).1 with q | q
  ·exact .inl q
  ·exact .inr ⟨q,cellsFrom_some _ _ _ (.inl q)⟩
 refine codeAny_call_function hr.depth (KX _ _ lk) rfl S.co S.gen rfl (codeRec_of KX hcd) (hb _ _ _ _ ?_)
 refine wpAny_newFunctionEnv_cells S.kind hkind fun env he s1 x=>?_
 subst he
 refine ⟨lim.keeps x.toInCall.keep,codeAny_func ?_⟩
 obtain ⟨t,ht,hq⟩:=hbody A outer s H vs Q E (hr.deeper _) hsp
 have I:Inv (cxOf CX P w K mg base N qual scope f cdv A outer s H E) [] (start N vs) H s1:=zb1 S hr.hd e0 hl r x
 refine wpAny_mono (ht [] s1 (start N vs) H _ I hq) (fun fl s' hs=>?_) fun e s' hs=>hs
 have fin:∀ {σ':St} {H':Hp} {v:V} {u:Value},Inv (cxOf CX P w K mg base N qual scope f cdv A outer s H E) [] σ' H' s' -> RelV v u -> Q v H' -> CE outer P w H s Q u s' :=
  fun {σ' H' v u} J rv q=>⟨v,H',J.os,J.bare,J.base,J.hok,rv,q⟩
 cases fl with
 | ret u =>
  obtain ⟨v,σ',H',J,rv,q⟩:=hs
  exact fin J rv q
 | next =>
  obtain ⟨σ',H',J,q⟩:=hs
  exact fin (v:=V.non) (u:=Value.none) J rfl q
 | brk =>
  obtain ⟨_,_,_,q⟩:=hs
  exact False.elim q
 | cont =>
  obtain ⟨_,_,_,q⟩:=hs
  exact False.elim q
section
variable {X:Cx} {x:Str} {p pos:Pos} {e:Expr} {es:List Expr} {t:TA} {id T:String} {r:List V -> Hp -> VK -> Prop}
def tCB (r:List V -> Hp -> VK -> Prop) (t:TA):TE:=fun σ H Q=>t σ H fun vs H1=>r vs H1 Q
theorem xc0 (hc:xl4 X (.builtin id) r) (hg:Gl X x) (hm:X.mg x = none) (hv:bootBuiltins x = some (.builtin id)) (ha:PA X (e :: es) t) (hn:x ≠ "__name__":=by decide) (hdb:(x == ("__debug__" : Str)) = false:=by decide)
  (he:starEach (e :: es) X.env = (false,eval e X.env) :: starEach es X.env:=by rfl) (hpl:(backTo pos (starEach es X.env)).any (·.1) = false:=by rfl):PE X (.Call (.Name x p) (e :: es) [] pos) (tCB r t):=by
 intro pins s σ H Q I h
 refine wpAny_Call_Name_kw (xw7 I hg hm hv ?_ hn hdb)
 exact PyProof.Rows.callWith_builtin1 (thn (ha pos pins s σ H _ I h) fun us s1 ⟨vs,H1,I1,r1,q1⟩=>hc pins s1 σ H1 vs us Q I1 r1 q1) he hpl
theorem xm3 (hc:xl4 X (.type T) r) (hg:Gl X x) (hm:X.mg x = none) (hv:bootBuiltins x = some (.type T)) (ha:PA X (e :: es) t) (hn:x ≠ "__name__":=by decide) (hdb:(x == ("__debug__" : Str)) = false:=by decide)
  (he:starEach (e :: es) X.env = (false,eval e X.env) :: starEach es X.env:=by rfl) (hpl:(backTo pos (starEach es X.env)).any (·.1) = false:=by rfl):PE X (.Call (.Name x p) (e :: es) [] pos) (tCB r t):=by
 intro pins s σ H Q I h
 refine wpAny_Call_Name_kw (xw7 I hg hm hv ?_ hn hdb)
 exact PyProof.Rows.callWith_type1 (thn (ha pos pins s σ H _ I h) fun us s1 ⟨vs,H1,I1,r1,q1⟩=>hc pins s1 σ H1 vs us Q I1 r1 q1) he hpl
end
end L2
namespace HT
open PySem PyProof.Rows
section
open PySem.SeqAt
open PySem.AutoSeq1 (wpAny_loadPart')
open PySem.MeetsSeq PySem.MeetsSeq2 PySem.MeetsSeq3
end
section
variable {prog:Program} {w:World} {A:Around} {E:Value -> Shared -> Prop} {s:Shared}
def sIx (n d:Nat):Option Int -> Nat
 | none=>d
 | some v=>if v < 0 then (v + (n:Int)).toNat else min v.toNat n
theorem sIx_none (n d:Nat):sIx n d none = d:=rfl
theorem sIx_nat (n d k:Nat):sIx n d (some (k:Int)) = min k n:=by
 show (if (k:Int) < 0 then ((k:Int) + (n:Int)).toNat else min (k:Int).toNat n) = min k n
 rw [if_neg (by omega),Int.toNat_natCast]
end
end HT
namespace L2
open PySem PySem.Spec PyProof.Rows
abbrev TO:=St -> Hp -> (Option Int -> Hp -> Prop) -> Prop
def PO (X:Cx) (e:Option Expr) (t:TO):Prop :=
 ∀ (pins:List (Addr × Obj)) (s:Shared) (σ:St) (H:Hp) (Q:Option Int -> Hp -> Prop),Inv X pins σ H s -> t σ H Q ->
  wpAny (model X.prog X.w) X.A (evalPart e X.env) (fun u s'=>∃ o H',Inv X pins σ H' s' /\ IsPart u o /\ Q o H') X.xe s
def tNoPart:TO:=fun _ H Q=>Q none H
def tPart (t:TE):TO:=fun σ H Q=>t σ H fun x H1=>∃ i,x = .int i /\ Q (some i) H1
section
variable {X:Cx} {e:Expr} {te:TE} {lo hi:Option Expr} {tl th:TO} {pos p2:Pos}
theorem xr4:PO X none tNoPart:=by
 intro pins s σ H Q I h
 rw [evalPart_none]
 exact wpAny_pure ⟨none,H,I,.none,h⟩
theorem xr3 (h:PE X e te):PO X (some e) (tPart te):=by
 intro pins s σ H Q I hw
 rw [evalPart_some]
 refine thn (h pins s σ H _ I hw) fun u s1 ⟨x,H1,I1,r1,q1⟩=>?_
 obtain ⟨i,rfl,q⟩:=q1
 obtain ⟨t,rfl⟩:=r1
 exact ⟨some i,H1,I1,.int i t,q⟩
def SlR (X:Cx) (r:V -> Option Int -> Option Int -> Hp -> VK -> Prop):Prop :=
 ∀ (pins:List (Addr × Obj)) (s:Shared) (σ:St) (H:Hp) (x:V) (v vl vu:Value) (lo hi:Option Int) (sl:Addr) (Q:VK),Inv X pins σ H s -> RelV x v -> s.heap.IsSliceOf sl vl vu .none -> IsPart vl lo -> IsPart vu hi -> r x lo hi H Q ->
  ∃ T id,typeLookup (.type T) "__getitem__" = pure (some (.builtin id)) /\ s.TypeIs v T /\ wpAny (model X.prog X.w) X.A (getItem v (.ref sl)) (EP X pins σ Q) X.xe s
def tSl (r:V -> Option Int -> Option Int -> Hp -> VK -> Prop) (te:TE) (tl th:TO):TE:=fun σ H Q=>te σ H fun x H1=>tl σ H1 fun l H2=>th σ H2 fun u H3=>r x l u H3 Q
theorem xo3 {r:V -> Option Int -> Option Int -> Hp -> VK -> Prop} (hr:SlR X r) (he:PE X e te) (hl:PO X lo tl) (hu:PO X hi th):PE X (.Subscript e (.Slice lo hi none p2) pos) (tSl r te tl th):=by
 intro pins s σ H Q I h
 refine Subscript_ (thn (he pins s σ H _ I h) fun v s1 ⟨x,H1,I1,r1,q1⟩=>?_)
 refine wpAny_Slice (thn (hl pins s1 σ H1 _ I1 q1) fun vl s2 ⟨l,H2,I2,pl,q2⟩=>thn (hu pins s2 σ H2 _ I2 q2) fun vu s3 ⟨u,H3,I3,pu,q3⟩=>?_)
 rw [evalPart_none]
 refine wpAny_pure ?_
 have I4:Inv X pins σ H3 { s3 with heap:=s3.heap.push { cls:=.type "slice",data:=.fields #[vl,vu,.none] } }:=I3.kept (t':=s3.toks) fun b ob q=>Heap.get?_push_of_some _ q
 obtain ⟨T,id,hT,ht,hg⟩:=hr pins { s3 with heap:=s3.heap.push { cls:=.type "slice",data:=.fields #[vl,vu,.none] } } σ H3 x v vl vu l u s3.heap.objs.size Q I4 r1 (Heap.IsSliceOf.new ..) pl pu q3
 show wpAny (model X.prog X.w) X.A (subscriptTail e (.Slice lo hi none p2) v (.ref s3.heap.objs.size)) (EP X pins σ Q) X.xe { s3 with heap:=s3.heap.push { cls:=.type "slice",data:=.fields #[vl,vu,.none] } }
 exact tail_any (ops:=[.ref s3.heap.objs.size,v]) ht hT hg (by with_unfolding_all rfl)
def cutV (xs:List V) (lo hi:Option Int):List V:=(xs.drop (HT.sIx xs.length 0 lo)).take (HT.sIx xs.length xs.length hi - HT.sIx xs.length 0 lo)
theorem yn6 (xs:List V) (lo hi:Option Int):(cutV xs lo hi).length <= xs.length:=by
 unfold cutV
 rw [List.length_take,List.length_drop]
 omega
end
def ixN (n:Nat) (i:Int):Option Nat:=if 0 <= i then (if i < n then some i.toNat else none) else if -(n:Int) <= i then some (i + n).toNat else none
def atI {α:Type} (xs:List α) (i:Int):Option α:=(ixN xs.length i).bind fun j=>xs[j]?
theorem ixN_seq {n:Nat} {i:Int} {j:Nat} (h:ixN n i = some j):seqIndex? i n = some j /\ j < n /\ -(n:Int) <= i /\ i < n:=by
 unfold ixN at h
 by_cases h0:0 <= i
 ·rw [if_pos h0] at h
  by_cases h1:i < n
  ·rw [if_pos h1] at h
   have e:i.toNat = j:=Option.some.inj h
   exact ⟨by rw [seqIndex_of h0 h1,e],by omega,by omega,h1⟩
  ·rw [if_neg h1] at h; cases h
 ·rw [if_neg h0] at h
  by_cases h1:-(n:Int) <= i
  ·rw [if_pos h1] at h
   have e:(i + n).toNat = j:=Option.some.inj h
   exact ⟨by rw [seqIndex_neg (by omega) h1,e],by omega,h1,by omega⟩
  ·rw [if_neg h1] at h; cases h
theorem yo1 {α:Type} {xs:List α} {i:Int} {v:α} (h:atI xs i = some v):∃ j,seqIndex? i xs.length = some j /\ xs[j]? = some v /\ j < xs.length /\ -(xs.length:Int) <= i /\ i < xs.length:=by
 unfold atI at h
 cases e:ixN xs.length i with
 | none=>rw [e] at h; cases h
 | some j =>
  rw [e] at h
  obtain ⟨h1,h2,h3,h4⟩:=ixN_seq e
  exact ⟨j,h1,h,h2,h3,h4⟩
theorem xp1 {α:Type} {xs:List α} {j:Nat} {v:α} (h:xs[j]? = some v):atI xs (j:Int) = some v:=by
 have hj:j < xs.length:=(List.getElem?_eq_some_iff.mp h).1
 have e:ixN xs.length (j:Int) = some j:=by
  unfold ixN
  rw [if_pos (by omega),if_pos (by omega)]; simp
 unfold atI; rw [e]; exact h
def ze5 (b:Expr):Prop:=∀ o i,subscripted b false o i = operate [o,i] (getItem o i)
def IxR (X:Cx) (r:R2):Prop :=
 ∀ (value slice:Expr) (pins:List (Addr × Obj)) (s:Shared) (σ:St) (H:Hp) (x y:V) (v u:Value) (Q:VK),Inv X pins σ H s -> RelV x v -> RelV y u -> r x y H Q ->
  subscripted slice false v u = operate [v,u] (getItem v u) -> wpAny (model X.prog X.w) X.A (subscriptTail value slice v u) (EP X pins σ Q) X.xe s
def MtR (X:Cx) (id:String) (r:V -> List V -> Hp -> VK -> Prop):Prop :=
 ∀ (pins:List (Addr × Obj)) (s:Shared) (σ:St) (H:Hp) (x:V) (xs:List V) (v:Value) (us:List Value) (Q:VK),Inv X pins σ H s -> RelV x v -> Vals xs us -> r x xs H Q ->
  wpAny (model X.prog X.w) X.A (call (.builtin id) (v :: us)) (EP X pins σ Q) X.xe s
section
variable {X:Cx} {a b:Expr} {ta tb:TE} {pos:Pos}
theorem xr5 {r:R2} (hr:IxR X r) (ha:PE X a ta) (hb:PE X b tb) (hs:ze5 b):PE X (.Subscript a b pos) (tOp r ta tb):=by
 intro pins s σ H Q I h
 exact Subscript_ (binT ha hb I h fun v u s2 x y H2 I2 rx ry q=>hr a b pins s2 σ H2 x y v u Q I2 rx ry q (hs _ _))
def rIxL (K:Frag):R2:=fun x y H Q=>∃ p xs i v,x = .ref p /\ y = .int i /\ SqL K H p xs /\ atI xs i = some v /\ Q v H
def rIxT (K:Frag):R2:=fun x y H Q=>∃ p xs i v,x = .ref p /\ y = .int i /\ SqT K H p xs /\ atI xs i = some v /\ Q v H
def rIxS:R2:=fun x y H Q=>∃ z i c,x = .str z /\ y = .int i /\ z.length <= sizeLine /\ atI z.cps.toList i = some c /\ Q (.str ⟨#[c]⟩) H
theorem za5:IxR X (rIxL X.K):=by
 intro value slice pins s σ H x y v u Q I rx ry h hs
 obtain ⟨p,xs,i,z,rfl,rfl,hq,he,q⟩:=h
 cases rx
 obtain ⟨t,rfl⟩:=ry
 obtain ⟨its,r,pl,hz⟩:=I.list hq
 obtain ⟨j,h1,h2,h3,h4,h5⟩:=yo1 he
 obtain ⟨w,ew,rw'⟩:=r.get h2
 have hl:=r.length
 have hn:=yi6
 have fin:EP X pins σ Q w s:=⟨z,H,I,rw',q⟩
 by_cases h0:0 <= i
 ·have hj:i.toNat = j:=by
   rw [seqIndex_of h0 h5] at h1
   exact Option.some.inj h1
  exact item_listR pl.isList h0 (by omega) (by rw [hj]; simpa using ew) fin hs
 ·have hj:(i + (its.toArray.size:Int)).toNat = j:=by
   rw [seqIndex_neg (by omega) h4] at h1
   rw [List.size_toArray,<- hl]
   exact Option.some.inj h1
  exact subscriptTail_builtinR (x:=w) pl.isList.typeIs slot_list_getitem.lookup
   (wpAny_getItem_list_neg (Q:=fun r s'=>r = w /\ EP X pins σ Q r s') pl.isList (by omega) (by rw [List.size_toArray] <;> omega) (by omega) (by rw [hj]; simpa using ew) ⟨rfl,fin⟩) hs
theorem ix_tup:IxR X (rIxT X.K):=by
 intro value slice pins s σ H x y v u Q I rx ry h hs
 obtain ⟨p,xs,i,z,rfl,rfl,hq,he,q⟩:=h
 cases rx
 obtain ⟨t,rfl⟩:=ry
 obtain ⟨its,r,pl,hz⟩:=I.tuple hq
 obtain ⟨j,h1,h2,h3,h4,h5⟩:=yo1 he
 obtain ⟨w,ew,rw'⟩:=r.get h2
 have hl:=r.length
 have hn:=yi6
 have fin:EP X pins σ Q w s:=⟨z,H,I,rw',q⟩
 exact subscriptTail_builtinR (x:=w) pl.typeIs slot_tuple_getitem.lookup
  (getItem_tuple (j:=j) (Q:=fun r s'=>r = w /\ EP X pins σ Q r s') pl (by omega) (by omega) (by rw [List.size_toArray,<- hl]; exact h1) (by simpa using ew) ⟨rfl,fin⟩) hs
theorem ix_str:IxR X rIxS:=by
 intro value slice pins s σ H x y v u Q I rx ry h hs
 obtain ⟨z,i,c,rfl,rfl,hz,he,q⟩:=h
 obtain ⟨t,rfl⟩:=rx
 obtain ⟨t',rfl⟩:=ry
 obtain ⟨j,h1,h2,h3,h4,h5⟩:=yo1 he
 have hl:z.cps.toList.length = z.length:=by simp [Str.length]
 rw [hl] at h1 h4 h5
 have hn:=yi6
 exact tail_any (typeIs_str s z t) slot_str_getitem.lookup (getItem_str (c:=c) (by
  have e1:decide (i < -(2 ^ 63:Int)) = false:=decide_eq_false (by omega)
  have e2:decide (i >= 2 ^ 63) = false:=decide_eq_false (by omega)
  rw [e1,e2,Bool.or_false]) (by rw [h1]; simpa using h2) ⟨.str ⟨#[c]⟩,H,I.tok _,⟨_,rfl⟩,q⟩) hs
theorem yg6 (lo hi:Option Int) (n:Nat):(sliceBounds lo hi none n).1 = ((HT.sIx n 0 lo:Nat):Int) /\ (sliceBounds lo hi none n).2.1 = ((HT.sIx n n hi:Nat):Int) /\ (sliceBounds lo hi none n).2.2 = 1:=by
 refine ⟨?_,?_,rfl⟩
 ·cases lo with
  | none=>simp [sliceBounds,HT.sIx]
  | some i =>
   simp only [sliceBounds,HT.sIx,Option.getD_none,show (1:Int) > 0 by decide,if_true]
   by_cases h:i < 0
   ·simp only [h,if_true] <;> omega
   ·simp only [h,if_false] <;> omega
 ·cases hi with
  | none=>simp [sliceBounds,HT.sIx]
  | some i =>
   simp only [sliceBounds,HT.sIx,Option.getD_none,show (1:Int) > 0 by decide,if_true]
   by_cases h:i < 0
   ·simp only [h,if_true] <;> omega
   ·simp only [h,if_false] <;> omega
theorem yc4 (its:List Value) (lo hi:Option Int):slicePick its.toArray lo hi none = ((its.drop (HT.sIx its.length 0 lo)).take (HT.sIx its.length its.length hi - HT.sIx its.length 0 lo)).toArray:=by
 obtain ⟨h1,h2,h3⟩:=yg6 lo hi its.toArray.size
 unfold slicePick
 rw [h1,h2,h3]
 simp only [sliceRange_one,pick_run,List.size_toArray] <;> rfl
def rSlL (K:Frag):V -> Option Int -> Option Int -> Hp -> VK -> Prop:=fun x lo hi H Q=>∃ a xs,x = .ref a /\ SqL K H a xs /\ ∀ p,H p = none -> Q (.ref p) (upd H p (.lst (cutV xs lo hi)))
theorem sl_list:SlR X (rSlL X.K):=by
 intro pins s σ H x v vl vu lo hi sl Q I rx hs pl pu h
 obtain ⟨a,xs,rfl,hx,q⟩:=h
 cases rx
 obtain ⟨its,r,ht,hz⟩:=I.list hx
 have hlen:=r.length
 refine ⟨"list",_,slot_list_getitem.lookup,ht.isList.typeIs,?_⟩
 refine wpAny_getItem_list_slice ht.isList hs pl pu .none (by simp) ?_ (by rw [List.size_toArray] <;> omega)
 rw [yc4,<- hlen]
 refine ⟨.ref s.heap.objs.size,_,I.laid (t':=s.toks) (o:=.lst (cutV xs lo hi)) (fun b ob q=>Heap.get?_push_of_some _ q) (Nat.le_refl _) ?_,rfl,q _ (I.hok.fresh (Nat.le_refl _))⟩
 exact ⟨Nat.le_trans (yn6 xs lo hi) hz,_,0,(r.drop (HT.sIx xs.length 0 lo)).take (HT.sIx xs.length xs.length hi - HT.sIx xs.length 0 lo),Heap.get?_push_size _ rfl⟩
def yj3:V -> Bool
 | .non=>true
 | .bl _=>true
 | .int _=>true
 | .str _=>true
 | _=>false
def eqV:V -> V -> Bool
 | .non,.non=>true
 | .bl a,.bl b=>a == b
 | .bl a,.int b=>(if a then 1 else 0) == b
 | .int a,.bl b=>a == (if b then 1 else 0)
 | .int a,.int b=>a == b
 | .str a,.str b=>a == b
 | _,_=>false
theorem eqAt_V {A:Around} {s:Shared} {y x:V} {u v:Value} (ry:RelV y u) (rx:RelV x v) (fy:yj3 y = true) (fx:yj3 x = true):SeqAt.EqAt A s u v (eqV y x):=by
 cases y with
 | non =>
  cases ry
  cases x with
  | non=>cases rx; exact SeqAt.EqAt.same _
  | bl b=>cases rx; exact SeqAt.EqAt.none_bool b
  | int b=>obtain ⟨t,rfl⟩:=rx; exact SeqAt.EqAt.none_int b t
  | str b=>obtain ⟨t,rfl⟩:=rx; exact SeqAt.EqAt.none_str b t
  | _=>exact absurd (show false = true from fx) Bool.false_ne_true
 | bl a =>
  cases ry
  cases x with
  | non=>cases rx; exact SeqAt.EqAt.bool_none a
  | bl b=>cases rx; exact SeqAt.EqAt.bool_bool a b
  | int b=>obtain ⟨t,rfl⟩:=rx; exact SeqAt.EqAt.bool_int a b t
  | str b=>obtain ⟨t,rfl⟩:=rx; exact SeqAt.EqAt.bool_str a b t
  | _=>exact absurd (show false = true from fx) Bool.false_ne_true
 | int a =>
  obtain ⟨t',rfl⟩:=ry
  cases x with
  | non=>cases rx; exact SeqAt.EqAt.int_none a t'
  | bl b=>cases rx; exact SeqAt.EqAt.int_bool a t' b
  | int b=>obtain ⟨t,rfl⟩:=rx; exact SeqAt.EqAt.int_int a t' b t
  | str b=>obtain ⟨t,rfl⟩:=rx; exact SeqAt.EqAt.int_str a t' b t
  | _=>exact absurd (show false = true from fx) Bool.false_ne_true
 | str a =>
  obtain ⟨t',rfl⟩:=ry
  cases x with
  | non=>cases rx; exact SeqAt.EqAt.str_none a t'
  | bl b=>cases rx; exact SeqAt.EqAt.str_bool a t' b
  | int b=>obtain ⟨t,rfl⟩:=rx; exact SeqAt.EqAt.str_int a t' b t
  | str b=>obtain ⟨t,rfl⟩:=rx; exact SeqAt.EqAt.str_str a t' b t
  | _=>exact absurd (show false = true from fx) Bool.false_ne_true
 | _=>exact absurd (show false = true from fy) Bool.false_ne_true
def eqU (x:V) (u:Value):Bool:=match u with
 | .none=>eqV .non x
 | .bool b=>eqV (.bl b) x
 | .int i _=>eqV (.int i) x
 | .str z _=>eqV (.str z) x
 | _=>false
theorem eqU_of {x y:V} {u:Value} (r:RelV y u) (f:yj3 y = true):eqU x u = eqV y x:=by
 cases y with
 | non=>cases r; rfl
 | bl b=>cases r; rfl
 | int i=>obtain ⟨t,rfl⟩:=r; rfl
 | str z=>obtain ⟨t,rfl⟩:=r; rfl
 | _=>exact absurd (show false = true from f) Bool.false_ne_true
theorem yo2 {x:V}:∀ {xs:List V} {us:List Value},Vals xs us -> xs.all yj3 = true -> us.any (eqU x) = xs.any fun y=>eqV y x
 | _,_,.nil,_=>rfl
 | y :: xs,u :: us,.cons r t,f=>by
  rw [List.all_cons,Bool.and_eq_true] at f
  rw [List.any_cons,List.any_cons,eqU_of r f.1,yo2 t f.2]
theorem ye3 {A:Around} {s:Shared} {x:V} {v:Value} (rx:RelV x v) (fx:yj3 x = true):∀ {xs:List V} {us:List Value},Vals xs us -> xs.all yj3 = true -> ∀ u ∈ us,SeqAt.EqAt A s u v (eqU x u)
 | _,_,.nil,_=>fun u hu=>by cases hu
 | y :: xs,u :: us,.cons r t,f=>fun u' hu=>by
  rw [List.all_cons,Bool.and_eq_true] at f
  rcases List.mem_cons.mp hu with rfl | hu
  ·rw [eqU_of r f.1]; exact eqAt_V r rx f.1 fx
  ·exact ye3 rx fx t f.2 u' hu
def inV (x:V) (xs:List V):Bool:=xs.any fun y=>eqV y x
def rIn (K:Frag) (neg:Bool):R2:=fun x y H Q=>∃ p xs,y = .ref p /\ (SqL K H p xs \/ SqT K H p xs) /\ yj3 x = true /\ xs.all yj3 = true /\ Q (.bl (if neg then !inV x xs else inV x xs)) H
theorem yy8:OpR X (compareOp .In) (rIn X.K false):=by
 intro pins s σ H x y v u Q I rx ry h
 obtain ⟨p,xs,rfl,hq,fx,fs,q⟩:=h
 cases ry
 rcases hq with hq | hq
 ·obtain ⟨its,r,pl,hz⟩:=I.list hq
  refine SeqAt.in_listAt (eqU x) pl.isList (fun w hw=>ye3 rx fx r fs w (by simpa using hw)) ⟨.bl _,H,I,rfl,?_⟩
  rw [show its.toArray.any (eqU x) = its.any (eqU x) by simp,yo2 r fs]
  exact q
 ·obtain ⟨its,r,pl,hz⟩:=I.tuple hq
  refine SeqAt.in_tupleAt (eqU x) pl (fun w hw=>ye3 rx fx r fs w (by simpa using hw)) ⟨.bl _,H,I,rfl,?_⟩
  rw [show its.toArray.any (eqU x) = its.any (eqU x) by simp,yo2 r fs]
  exact q
theorem yk3:xl4 X (.builtin "len") (fun xs H Q=>∃ p ys,xs = [.ref p] /\ (SqL X.K H p ys \/ SqT X.K H p ys) /\ Q (.int ys.length) H):=by
 intro pins s σ H xs us Q I r h
 obtain ⟨p,ys,rfl,hq,q⟩:=h
 obtain ⟨u,rfl,rx⟩:=xt1 r
 cases rx
 have hn:=yi6
 rcases hq with hq | hq
 ·obtain ⟨its,r',pl,hz⟩:=I.list hq
  have hlen:=r'.length
  exact Calls.call_len_list pl.isList (by simp only [List.size_toArray] <;> omega) ⟨.int ys.length,H,I.tok _,⟨s.toks + 1,by rw [List.size_toArray,hlen]⟩,q⟩
 ·obtain ⟨its,r',pl,hz⟩:=I.tuple hq
  have hlen:=r'.length
  exact len_tuple pl (by simp only [List.size_toArray] <;> omega) ⟨.int ys.length,H,I.tok _,⟨s.toks + 1,by rw [List.size_toArray,hlen]⟩,q⟩
theorem yk2:xl4 X (.builtin "len") (fun xs H Q=>∃ z,xs = [.str z] /\ z.length <= sizeLine /\ Q (.int z.length) H):=by
 intro pins s σ H xs us Q I r h
 obtain ⟨z,rfl,hz,q⟩:=h
 obtain ⟨u,rfl,t,rfl⟩:=xt1 r
 have hn:=yi6
 exact len_str (by omega) ⟨.int z.length,H,I.tok _,⟨_,rfl⟩,q⟩
theorem yk1:xl4 X (.type "list") (fun xs H Q=>∃ p ys,xs = [.ref p] /\ (SqL X.K H p ys \/ SqT X.K H p ys) /\ ∀ l,H l = none -> Q (.ref l) (upd H l (.lst ys))):=by
 intro pins s σ H xs us Q I r h
 obtain ⟨p,ys,rfl,hq,q⟩:=h
 obtain ⟨u,rfl,rx⟩:=xt1 r
 cases rx
 have fin:∀ (its:List Value),Vals ys its -> ys.length <= sizeLine -> ∀ (h':Heap) (c':Nat),(∀ b o',s.heap.get? b = some o' -> h'.get? b = some o') ->
   h'.get? s.heap.objs.size = some { cls:=.type "list",dict:=none,data:=.seq its.toArray c',slots:=#[] } -> EP X pins σ Q (.ref s.heap.objs.size) { s with heap:=h' }:=fun its r' hz h' c' kp e =>
  ⟨.ref s.heap.objs.size,_,I.laid (t':=s.toks) kp (Nat.le_refl _) (show xe1 X.prog X.w _ h' _ (.lst ys) from ⟨hz,its,c',r',e⟩),rfl,q _ (I.hok.fresh (Nat.le_refl _))⟩
 rcases hq with hq | hq
 ·obtain ⟨its,r',pl,hz⟩:=I.list hq
  have hlen:=r'.length
  obtain ⟨o,ho,hc,n,hd⟩:=pl.isList
  exact call_list_seq p (.inl rfl) ho hc hd (fun h' c' kp e=>fin its r' hz h' c' kp e) (by simp only [List.size_toArray] <;> omega)
 ·obtain ⟨its,r',pl,hz⟩:=I.tuple hq
  have hlen:=r'.length
  obtain ⟨o,ho,hc,n,hd⟩:=pl
  exact call_list_seq p (.inr rfl) ho hc hd (fun h' c' kp e=>fin its r' hz h' c' kp e) (by simp only [List.size_toArray] <;> omega)
def tyV (K:Frag) (T:String) (x:V) (H:Hp):Prop:=match x with
 | .str _=>T = "str"
 | .int _=>T = "int"
 | .ref p=>(T = "list" /\ ∃ xs,SqL K H p xs) \/ (T = "tuple" /\ ∃ o,K.lookup p = some o /\ o.cls = .type "tuple" /\ o.dict = none) \/
   (T = "dict" /\ ((∃ kvs,H p = some (.dK kvs)) \/ ∃ kvs,H p = some (.dT kvs))) \/ (T = "set" /\ ∃ S n,H p = some (.set S n))
 | _=>False
theorem tyV_is {pins:List (Addr × Obj)} {σ:St} {H:Hp} {s:Shared} {T:String} {x:V} {v:Value} (I:Inv X pins σ H s) (r:RelV x v) (ty:tyV X.K T x H) :
  s.TypeIs v T /\ ∀ a,v = .ref a -> ∃ ob,s.heap.get? a = some ob /\ ob.dict = none:=by
 cases x with
 | str z =>
  obtain ⟨t,rfl⟩:=r
  cases (show T = "str" from ty)
  exact ⟨typeIs_str s z t,fun _ e=>nomatch e⟩
 | int i =>
  obtain ⟨t,rfl⟩:=r
  cases (show T = "int" from ty)
  exact ⟨typeIs_int s i t,fun _ e=>nomatch e⟩
 | ref p =>
  cases r
  rcases ty with ⟨rfl,xs,hq⟩ | ⟨rfl,o,hk,hc,hd⟩ | ⟨rfl,hk⟩ | ⟨rfl,S,n,hk⟩
  ·obtain ⟨its,_,pl,_⟩:=I.list hq
   refine ⟨pl.isList.typeIs,fun a e=>?_⟩
   cases e
   obtain ⟨o,n,e,c,hd,_⟩:=pl
   exact ⟨o,e,hd⟩
  ·refine ⟨⟨o,I.kIn p o hk,hc⟩,fun a e=>?_⟩
   cases e
   exact ⟨o,I.kIn _ o hk,hd⟩
  ·have z:∃ o,s.heap.get? p = some o /\ o.ExactDict:=by
    rcases hk with ⟨kvs,hk⟩ | ⟨kvs,hk⟩
    ·obtain ⟨_,_,_,_,o,_,_,e,ex,_⟩:=I.hok p _ hk
     exact ⟨o,e,ex⟩
    ·obtain ⟨_,_,_,_,o,_,_,e,ex,_⟩:=I.hok p _ hk
     exact ⟨o,e,ex⟩
   obtain ⟨o,e,ex⟩:=z
   refine ⟨⟨o,e,ex.1⟩,fun a e2=>?_⟩
   cases e2
   exact ⟨o,e,ex.2.1⟩
  ·obtain ⟨o,_,_,_,e,ex,_⟩:=I.hok p _ hk
   refine ⟨⟨o,e,ex.1⟩,fun a e2=>?_⟩
   cases e2
   exact ⟨o,e,ex.2.1⟩
 | _=>exact False.elim ty
def tBM0 (K:Frag) (T:String) (r:V -> List V -> Hp -> VK -> Prop) (to:TE):TE:=fun σ H Q=>to σ H fun x H1=>tyV K T x H1 /\ r x [] H1 Q
def tBM (K:Frag) (T:String) (r:V -> List V -> Hp -> VK -> Prop) (to:TE) (t:TA):TE:=fun σ H Q=>to σ H fun x H1=>tyV K T x H1 /\ t σ H1 fun xs H2=>r x xs H2 Q
variable {o e:Expr} {es:List Expr} {to:TE} {t:TA} {name:Str} {apos cpos:Pos} {T id:String} {r:V -> List V -> Hp -> VK -> Prop}
theorem pe_bm0 (pa:PlainAttrs T) (slot:Slot T name id) (hty:typeOf (.builtin id) = pure (.type "method_descriptor")) (hm:MtR X id r) (ho:PE X o to)
  (hbase:attributeBase o name X.env (eval o X.env) = eval o X.env:=by rfl) (hline:(apos.endLine == cpos.line) = true:=by rfl):PE X (.Call (.Attribute o name apos) [] [] cpos) (tBM0 X.K T r to):=by
 intro pins s σ H Q I h
 refine wpAny_Call_method0_late hbase hline (thn (ho pins s σ H _ I h) fun v s1 ⟨x,H1,I1,r1,ty,q1⟩=>?_)
 obtain ⟨h1,h2⟩:=tyV_is I1 r1 ty
 exact ⟨T,id,pa,slot,hty,h1,h2,Calls.callWith_builtin rfl (PySem.evalArgs_none (hm pins s1 σ H1 x [] v [] Q I1 r1 .nil q1))⟩
theorem pe_bm (pa:PlainAttrs T) (slot:Slot T name id) (hty:typeOf (.builtin id) = pure (.type "method_descriptor")) (hm:MtR X id r) (ho:PE X o to) (ha:PA X (e :: es) t)
  (hbase:attributeBase o name X.env (eval o X.env) = eval o X.env:=by rfl)
  (hfew:((backTo cpos (starEach (e :: es) X.env)).all (fun x=>!x.1) && (backToKw cpos (keywordEach [] X.env)).all (fun x=>x.1.isSome)
   && decide ((e :: es).length + ([]:List Keyword).length + (if ([]:List Keyword).isEmpty then 0 else 1) < 30)) = true:=by rfl)
  (hline:(apos.endLine == cpos.line) = true:=by rfl) (hs:starEach (e :: es) X.env = (false,eval e X.env) :: starEach es X.env:=by rfl) (hplain:(backTo cpos (starEach es X.env)).any (·.1) = false:=by rfl) :
  PE X (.Call (.Attribute o name apos) (e :: es) [] cpos) (tBM X.K T r to t):=by
 intro pins s σ H Q I h
 refine wpAny_Call_method_late hbase hfew hline rfl (thn (ho pins s σ H _ I h) fun v s1 ⟨x,H1,I1,r1,ty,q1⟩=>?_)
 obtain ⟨h1,h2⟩:=tyV_is I1 r1 ty
 refine ⟨T,id,pa,slot,hty,h1,h2,?_⟩
 have hA:=ha cpos pins s1 σ H1 _ I1 q1
 rw [hs] at hA ⊢
 refine Calls.callWith_builtin (by show (false || (backTo cpos (starEach es X.env)).any (·.1)) = false; rw [hplain] <;> rfl) (Calls.evalArgs_plain ?_)
 exact thn hA fun us s2 ⟨vs,H2,I2,r2,q2⟩=>hm pins s2 σ H2 x vs v us Q I2 r1 r2 q2
end
def MtM (X:Cx) (id:String) (r:V -> List V -> Hp -> VK -> Prop):Prop :=
 ∀ (pins:List (Addr × Obj)) (s:Shared) (σ:St) (H:Hp) (x:V) (xs:List V) (v:Value) (us:List Value) (Q:VK),Inv X pins σ H s -> RelV x v -> Vals xs us -> r x xs H Q ->
  wpAny (model X.prog X.w) X.A (call (.builtin id) (v :: us)) (EP X pins σ Q) X.xe s
theorem Vals.one:∀ {x:V} {us:List Value},Vals [x] us -> ∃ u,us = [u] /\ RelV x u
 | _,_,.cons r .nil=>⟨_,rfl,r⟩
theorem Vals.zero:∀ {us:List Value},Vals [] us -> us = []
 | _,.nil=>rfl
section
variable {X:Cx} {pins:List (Addr × Obj)} {σ:St} {H:Hp} {s:Shared} {l b:Addr} {xs ys zs:List V}
theorem Inv.lset {its its':List Value} {n:Nat} {f:Array Value -> Array Value} {t':Nat} (I:Inv X pins σ H s) (hH:H l = some (.lst xs))
  (e:s.heap.get? l = some { cls:=.type "list",data:=.seq its.toArray n }) (hf:f its.toArray = its'.toArray) (hv:Vals ys its') (hz:ys.length <= sizeLine) :
  Inv X pins σ (upd H l (.lst ys)) { s with heap:=s.heap.update l (Obj.mapSeq f),toks:=t' }:=by
 have q:=PySem.IsL.update e f
 rw [hf] at q
 refine I.write (x:=l) (e:=l) (by rw [hH]; exact trivial) (.inl rfl) (fun b' u hb hu=>(Heap.get?_update_other s.heap (Obj.mapSeq f) (Ne.symm hb)).trans hu) ⟨_,q⟩ ?_
 exact ⟨hz,its',_,hv,q⟩
theorem Inv.lnew {its:List Value} {t':Nat} (I:Inv X pins σ H s) (hv:Vals ys its) (hz:ys.length <= sizeLine) :
  Inv X pins σ (upd H s.heap.objs.size (.lst ys)) { s with heap:=s.heap.push { cls:=.type "list",data:=.seq its.toArray },toks:=t' } :=
 I.laid (fun _ _ q=>Heap.get?_push_of_some _ q) (Nat.le_refl _) ⟨hz,its,0,hv,Heap.get?_push_size _ rfl⟩
theorem Inv.fresh (I:Inv X pins σ H s):H s.heap.objs.size = none:=I.hok.fresh (Nat.le_refl _)
theorem Inv.lstM (I:Inv X pins σ H s) (hH:H l = some (.lst xs)):xs.length <= sizeLine /\ ∃ (its:List Value) (n:Nat),Vals xs its /\ xs.length = its.length /\ s.heap.get? l = some { cls:=.type "list",data:=.seq its.toArray n }:=by
 obtain ⟨z,its,n,r,e⟩:=I.hok l _ hH
 exact ⟨z,its,n,r,r.length,e⟩
theorem notLongL {n:Nat} (h:n <= sizeLine):Builtin.List.listTooLong n = false:=by
 unfold Builtin.List.listTooLong
 exact decide_eq_false (by omega)
end
section
variable {X:Cx}
def rAppend:V -> List V -> Hp -> VK -> Prop:=fun x vs H Q=>∃ l xs y,x = .ref l /\ vs = [y] /\ H l = some (.lst xs) /\ xs.length < sizeLine /\ Q .non (upd H l (.lst (xs ++ [y])))
theorem yi5:MtM X "list.append" rAppend:=by
 intro pins s σ H x vs v us Q I rx rv h
 obtain ⟨l,xs,y,rfl,rfl,hH,hz,q⟩:=h
 cases rx
 obtain ⟨u,rfl,ru⟩:=rv.one
 obtain ⟨z,its,n,r,hl,e⟩:=I.lstM hH
 refine call_meets F.slot_list_append ⟨_,e,rfl⟩ F.entry_list_append (F.args_list_append_2 _ _) (PySem.list_append l its.toArray n u (by rw [List.size_toArray]; omega)) ⟨e,?_⟩
 refine ⟨.non,_,I.lset (its':=its ++ [u]) hH e (by simp) (r.append (.cons ru .nil)) ?_,rfl,q⟩
 rw [List.length_append,List.length_singleton]
 omega
def rExtend:V -> List V -> Hp -> VK -> Prop:=fun x vs H Q=>∃ l b xs zs,x = .ref l /\ vs = [.ref b] /\ H l = some (.lst xs) /\ H b = some (.lst zs) /\ xs.length + zs.length <= sizeLine /\ Q .non (upd H l (.lst (xs ++ zs)))
theorem yz4:MtM X "list.extend" rExtend:=by
 intro pins s σ H x vs v us Q I rx rv h
 obtain ⟨l,b,xs,zs,rfl,rfl,hH,hB,hz,q⟩:=h
 cases rx
 obtain ⟨u,rfl,ru⟩:=rv.one
 cases ru
 obtain ⟨z,its,n,r,hl,e⟩:=I.lstM hH
 obtain ⟨z2,its2,n2,r2,hl2,e2⟩:=I.lstM hB
 have hsz:its.toArray.size + its2.toArray.size <= sizeLine:=by rw [List.size_toArray,List.size_toArray]; omega
 have hlong:¬ (!its.toArray.isEmpty && Builtin.List.listTooLong (its.toArray.size + its2.toArray.size)) = true:=by
  rw [notLongL hsz,Bool.and_false]
  exact Bool.false_ne_true
 refine call_meets F.slot_list_extend ⟨_,e,rfl⟩ F.entry_list_extend (F.args_list_extend_2 _ _)
  (AutoSeq1.list_extend_list_list_0 l its.toArray n b its2.toArray n2 hlong (by rw [List.size_toArray]; omega) (by omega)) ⟨e,e2,?_⟩
 refine ⟨.non,_,I.lset (its':=its ++ its2) hH e (by simp) (r.append r2) ?_,rfl,q⟩
 rw [List.length_append]
 omega
def rClear:V -> List V -> Hp -> VK -> Prop:=fun x vs H Q=>∃ l xs,x = .ref l /\ vs = [] /\ H l = some (.lst xs) /\ Q .non (upd H l (.lst []))
theorem mt_clear:MtM X "list.clear" rClear:=by
 intro pins s σ H x vs v us Q I rx rv h
 obtain ⟨l,xs,rfl,rfl,hH,q⟩:=h
 cases rx
 have hus:=rv.zero
 subst hus
 obtain ⟨z,its,n,r,hl,e⟩:=I.lstM hH
 refine call_meets F.slot_list_clear ⟨_,e,rfl⟩ F.entry_list_clear (F.args_list_clear_1 _) (AutoSeq1.list_clear_list_0 l its.toArray n (by rw [List.size_toArray]; omega)) ⟨e,?_⟩
 exact ⟨.non,_,I.lset (its':=[]) (ys:=[]) hH e rfl .nil (Nat.zero_le _),rfl,q⟩
def rCat:R2:=fun x y H Q=>∃ l b xs zs,x = .ref l /\ y = .ref b /\ H l = some (.lst xs) /\ H b = some (.lst zs) /\ xs.length + zs.length <= sizeLine /\ ∀ p,H p = none -> Q (.ref p) (upd H p (.lst (xs ++ zs)))
theorem op_cat:OpR X (binaryOp .Add) rCat:=by
 intro pins s σ H x y v u Q I rx ry h
 obtain ⟨l,b,xs,zs,rfl,rfl,hH,hB,hz,q⟩:=h
 cases rx
 cases ry
 obtain ⟨z,its,n,r,hl,e⟩:=I.lstM hH
 obtain ⟨z2,its2,n2,r2,hl2,e2⟩:=I.lstM hB
 refine PySem.P.add_list e e2 ?_ (by rw [List.size_toArray,List.size_toArray]; omega)
 have ea:its.toArray ++ its2.toArray = (its ++ its2).toArray:=by simp
 rw [ea]
 exact ⟨.ref _,_,I.lnew (t':=s.toks) (r.append r2) (by rw [List.length_append]; omega),rfl,q _ I.fresh⟩
end
section
variable {prog:Program} {w:World} {A:Around} {E:Value -> Shared -> Prop} {s:Shared}
end
section
variable {X:Cx}
end
end L2
namespace Att
open PySem PySem.W PySem.Calls PyProof.Rows
theorem xx2 {P:Params} {h:Heap}:∀ (ns:List Int) (vs:List Value),WellAll P h vs (ns.map WData.int) -> IntsAre vs ns:=by
 intro ns
 induction ns with
 | nil =>
  intro vs w
  rw [List.map_nil] at w
  cases w
  exact .nil
 | cons n ns ih =>
  intro vs w
  rw [List.map_cons] at w
  cases w with
  | cons a b =>
   cases a
   exact .cons _ _ (ih _ b)
theorem yx0 {l:OpenLaw} {n:Nat} (hn:l.most = some n) {P:Params} {h:Heap} {args:List WData} {vals:List Value}
  (hpre:l.row.toRowW.claim.pre args = true) (hwl:WellAll P h vals args) :
  ∃ a vs ns,vals = [Value.ref a] /\ args = [WData.list (ns.map WData.int)] /\ h.get? a = some { cls:=.type "list",data:=.seq vs.toArray } /\ IntsAre vs ns /\ ns.length <= n:=by
 have hsh:WShape.hasAll [] args [.list .int] = true:=(pre_splitW hpre).1
 have hc:l.pre.holds [] { args:=args } = true:=(pre_splitW hpre).2
 obtain ⟨d,r,rfl,h1,h2⟩:=hasAllW_cons hsh
 obtain rfl:=hasAllW_nil h2
 obtain ⟨xs,rfl,h3⟩:=hasW_list h1
 obtain ⟨ns,rfl⟩:=items_int h3
 have hlen:ns.length <= n:=by
  unfold OpenLaw.pre at hc
  have h4:(WTm.not (.lt (.lit (.int (n:Int))) (.len (.arg 0)))).holds [] { args:=[.list (ns.map .int)] } = true:=by
   have h4:=(holds_andW hc).1
   rw [hn] at h4
   exact h4
  have h5:=condW_of h4 (w_not (w_lt w_lit (w_len_list (w_arg rfl))))
  rw [List.length_map] at h5
  refine Nat.le_of_not_lt fun q=>?_
  have q':(n:Int) < ((ns.length:Nat):Int):=by omega
  first
   | (rw [decide_eq_true q'] at h5; exact absurd h5 (by decide))
   | (simp at h5; omega)
 cases hwl with
 | cons w1 w2 =>
  cases w2
  cases w1 with
  | list ho hall=>exact ⟨_,_,ns,rfl,rfl,ho,xx2 ns _ hall,hlen⟩
theorem yx3 (l:OpenLaw) (args:List WData):l.row.toRowW.claim.post args (.bool true) args = true :=
 postW_of (r:=l.row.toRowW) (X:=(true == true))
  (show WShape.has [] (.bool true) .bool = true by first | rfl | decide | simp [WShape.has,WShape.arms,WShape.armsAll])
  (show (WTm.eq .res (.lit (.bool true))).value [] { args:=args,res:=some (.bool true),after:=args } = some (.bool (true == true)) from w_eq_bool (w_res rfl) w_lit) rfl
theorem attach_call {l:OpenLaw} {n:Nat} {q:Program} {loose:List Str} {XP:(Str -> Option Value) -> Heap -> Prop} {YP:World -> Heap -> Prop} {d:DefRec}
  (hn:l.most = some n) (hdf:d.params.defaults = [])
  (call:∀ (w:World) (s₀ s₁:Shared) (mg mb:Str -> Option Value) (fa:Addr) (o:Obj) (pm cd doc:Value) (a:Addr) (vs:List Value) (ns:List Int),
   Ground q loose [] XP w s₀ mg mb s₁.heap -> YP w s₁.heap ->
   s₁.heap.get? fa = some o -> o.data = .func (docDef d.name d.params d.body d.scope pm cd doc) -> s₁.heap.CodeRec cd d.name -> mg d.name = some (.ref fa) ->
   s₁.heap.get? a = some { cls:=.type "list",data:=.seq vs.toArray } -> IntsAre vs ns -> ns.length <= n -> s₁.gens = #[] ->
   codeAny (model l.prog w) callerA (.call (.ref fa) ⟨[.ref a],[]⟩) (fun r s'=>r = .ok (.ret (.bool true)) /\ OldK s₁.heap s'.heap /\ s'.os = s₁.os /\ AllBare s'.gens) s₁) :
  WalkO q loose XP YP l.row.toRowW d [] (fun f vs=>PySem.call f vs):=by
 intro w s₀ s₁ mg mb G Y fa o pm cd doc dV kV ho hd hcd hD hmg hg args vals as hpre hlay hrd hwl hlo
 obtain rfl:dV = .none:=Dflts.none hD hdf
 obtain rfl:kV = .none:=Dflts.noKw hD
 obtain ⟨a,vs,ns,rfl,rfl,hobj,hints,hlen⟩:=yx0 hn hpre hwl
 refine enter_call (codeAny_mono (call w s₀ s₁ mg mb fa o pm cd doc a vs ns G Y ho (fd_plain hd) hcd hmg hobj hints hlen hg) fun r s' hq=>?_)
 obtain ⟨rfl,h2,h3,h4⟩:=hq
 exact ⟨.inl ⟨.bool true,.bool true,[],rfl,fun _=>rfl,.bool true,yx3 l _,fun _=>⟨List.Pairwise.nil,fun _ hm=>(nomatch hm)⟩⟩,h2,h3,h4⟩
section
variable {prog:Program} {w:World} {A:Around} {E:Value -> Shared -> Prop} {s:Shared} {K:Frag}
end
end Att
namespace L2
open PySem PySem.Spec PyProof.Rows
theorem yg1:∀ {vs:List Value} {ns:List Int},IntsAre vs ns -> Vals (ns.map V.int) vs
 | _,_,.nil=>.nil
 | _,_,.cons n t h=>.cons ⟨t,rfl⟩ (yg1 h)
def Only (H:Hp):Prop:=∀ b,H b = none \/ ∃ o xs,H b = some (.frz o (.lst xs))
theorem law_call {P:Program} {w:World} {K:Frag} {mg mb:Str -> Option Value} {CX:CXT} {k:Nat} {fa a:Addr} {fd:FuncData} {x:Str} {sp:Sp} {s₁:Shared} {vs:List Value} {ns:List Int}
  (KX:K.In s₁.heap) (hns:s₁.heap.Ns mainGlobals mg) (hb:s₁.heap.Ns builtinsNs mb) (hbb:∀ x:Str,x ≠ "__name__" -> mb x = bootBuiltins x) (hlim:s₁.heap.NoLimit) (hg:s₁.gens = #[])
  (ha:s₁.heap.get? a = some { cls:=.type "list",data:=.seq vs.toArray }) (hi:IntsAre vs ns) (hl:ns.length <= sizeLine) (hr:Room k callerA)
  (F:∀ base:Heap,K.In base -> base.Ns mainGlobals mg -> FnOk P w K mg base CX k fa fd [x] sp) (hbind:∀ (s:Shared) (u:Value),BindsTo s fd ⟨[u],[]⟩ [(x,u)])
  (hsp:∀ H:Hp,Only H -> SqL K H a (ns.map V.int) -> sp [.ref a] H (fun v _=>v = .bl true) fun _ _ _=>False)
  (hCX:∀ H e s',CX [] H s₁ (fun _ _ _=>False) e s' -> False) :
  codeAny (model P w) callerA (.call (.ref fa) ⟨[.ref a],[]⟩) (fun r s'=>r = .ok (.ret (.bool true)) /\ OldK s₁.heap s'.heap /\ s'.os = s₁.os /\ AllBare s'.gens) s₁:=by
 have rv:=yg1 hi
 have lenV:=hi.length
 have core:∀ H:Hp,Only H -> SqL K H a (ns.map V.int) -> HOk P w H s₁.heap -> (∀ b,H b ≠ none -> b = a) -> (H a ≠ none -> K.lookup a = none) ->
   codeAny (model P w) callerA (.call (.ref fa) ⟨[.ref a],[]⟩) (fun r s'=>r = .ok (.ret (.bool true)) /\ OldK s₁.heap s'.heap /\ s'.os = s₁.os /\ AllBare s'.gens) s₁:=by
  intro H hO hS hok hA hK
  have base_of:∀ {b:Addr} {o:Obj},s₁.heap.get? b = some o -> H b = none -> (hidT s₁.heap H).get? b = some o:=fun e n=>hidT_get e n
  have noA:∀ {b:Addr} {o:Obj} {es:Array DictEntry} {ep:Nat},s₁.heap.get? b = some o -> o.data = .dict es ep -> H b = none:=fun {b o es ep} e d=>by
   cases q:H b with
   | none=>rfl
   | some u =>
    have e':b = a:=hA b (by rw [q]; simp)
    subst e'
    rw [ha] at e; cases e
    have d':Data.seq vs.toArray _ = Data.dict es ep:=d
    cases d'
  have nsK:∀ {b:Addr} {m:Str -> Option Value},s₁.heap.Ns b m -> (hidT s₁.heap H).Ns b m:=fun {b m} ⟨o,es,ep,e,d,r⟩=>⟨o,es,ep,base_of e (noA e d),d,r⟩
  have hKb:K.In (hidT s₁.heap H):=fun b o e=>base_of (KX b o e) (by
   cases q:H b with
   | none=>rfl
   | some u =>
    have e':b = a:=hA b (by rw [q]; simp)
    subst e'
    rw [hK (by rw [q]; simp)] at e; cases e)
  have hM:Mod K mg (hidT s₁.heap H):=⟨hKb,nsK hns,⟨mb,nsK hb,hbb⟩,let ⟨mc,h1,h2⟩:=hlim; ⟨mc,nsK h1,h2⟩⟩
  have e0:Env0 P w K mg (hidT s₁.heap H) callerA [] s₁ H:=⟨rfl,hM,fun b o e=>of_hidT e,Nat.le_of_eq (zb3 _ _),trivial,fun b hb=>absurd (show b ∈ ([]:List Addr) from hb) (by simp),hok,.of_eq hg⟩
  refine codeAny_mono ((F _ hKb (nsK hns)).run callerA [] s₁ H ⟨[.ref a],[]⟩ [.ref a] [.ref a] _ _ hr e0 (hbind s₁ (.ref a)) (.cons rfl .nil) (hsp H hO hS)) fun r s' h=>?_
  cases r with
  | error e=>exact (hCX H e s' h).elim
  | ok fl =>
   cases fl with
   | next=>exact False.elim h
   | brk=>exact False.elim h
   | cont=>exact False.elim h
   | ret u =>
    obtain ⟨v,H',os,bare,un,hok',r',q⟩:=h
    have q':v = .bl true:=q
    subst q'
    obtain rfl:u = Value.bool true:=r'
    refine ⟨rfl,OldK.of_keep fun b o e=>?_,os,bare⟩
    cases q:H b with
    | none=>exact un.keep b o e q (by intro z; exact absurd (show b ∈ ([]:List Addr) from z) (by simp)) (by simp)
    | some u =>
     rcases hO b with z | ⟨ob,xs,z⟩
     ·rw [q] at z; cases z
     ·have z2:=un.frzs b ob _ z
      obtain ⟨e1,_⟩:=hok b _ z
      obtain ⟨e2,_⟩:=hok' b _ z2
      rw [e] at e1; cases e1
      exact e2
 cases hk:K.lookup a with
 | some o =>
  have e:=KX a o hk
  rw [ha] at e
  cases e
  refine core (fun _=>none) (fun _=>.inl rfl) (.inr ⟨_,vs.toArray,_,hk,rfl,rfl,rfl,by rw [List.size_toArray,lenV]; exact hl,by simpa using rv⟩) (fun b u z=>by have z':(none:Option HO) = some u:=z; cases z') (fun b z=>absurd rfl z) fun z=>absurd rfl z
 | none =>
  refine core (fun b=>if b = a then some (.frz { cls:=.type "list",data:=.seq vs.toArray } (.lst (ns.map V.int))) else none) (fun b=>?_) (.inl (.inr ⟨{ cls:=.type "list",data:=.seq vs.toArray },if_pos rfl⟩)) (fun b u z=>?_) (fun b z=>?_) fun _=>hk
  ·by_cases hb:b = a
   ·exact .inr ⟨_,_,if_pos hb⟩
   ·exact .inl (if_neg hb)
  ·by_cases hb:b = a
   ·have z':=(if_pos hb).symm.trans z
    cases z'
    subst hb
    exact ⟨ha,by rw [List.length_map]; exact hl,vs,_,rv,ha⟩
   ·have z':=(if_neg hb).symm.trans z
    cases z'
  ·by_cases hb:b = a
   ·exact hb
   ·exact absurd (if_neg hb) z
theorem walk_of {l:PySem.W.OpenLaw} {n k:Nat} {q:Program} {loose:List Str} {XP:(Str -> Option Value) -> Heap -> Prop} {YP:World -> Heap -> Prop} {d:DefRec} {K:Params -> Frag} {CX:World -> CXT} {sp:World -> Sp} {x:Str}
  (hn:l.most = some n) (hn2:n <= sizeLine) (hdf:d.params.defaults = []) (hr:Room k callerA)
  (hY:∀ (w:World) (h:Heap),YP w h -> (K w.params).In h)
  (F:∀ (w:World) (mg:Str -> Option Value) (fa:Addr) (h:Heap),(K w.params).In h -> h.Ns mainGlobals mg -> mg d.name = some (.ref fa) ->
   ∃ fd:FuncData,(∀ (s:Shared) (u:Value),BindsTo s fd ⟨[u],[]⟩ [(x,u)]) /\
    ∀ base:Heap,(K w.params).In base -> base.Ns mainGlobals mg -> FnOk l.prog w (K w.params) mg base (CX w) k fa fd [x] (sp w))
  (hsp:∀ (w:World) (H:Hp) (a:Addr) (ns:List Int),ns.length <= n -> Only H -> SqL (K w.params) H a (ns.map V.int) -> sp w [.ref a] H (fun v _=>v = .bl true) fun _ _ _=>False)
  (hCX:∀ (w:World) (H:Hp) (s:Shared) (e:Value) (s':Shared),CX w [] H s (fun _ _ _=>False) e s' -> False) :
  PySem.W.WalkO q loose XP YP l.row.toRowW d [] (fun f vs=>PySem.call f vs):=by
 refine Att.attach_call hn hdf fun w s₀ s₁ mg mb fa o pm cd doc a vs ns G Y ho hd hcd hmg hobj hints hlen hg=>?_
 have KX:=hY w _ Y
 obtain ⟨fd,hb,hF⟩:=F w mg fa _ KX G.T.g hmg
 exact law_call KX G.T.g G.T.b G.T.builtins G.T.nolimit hg hobj hints (Nat.le_trans hlen hn2) hr hF hb (fun H hO hS=>hsp w H a ns hlen hO hS) fun H e s'=>hCX w H s₁ e s'
def xk5 (s:Stmt) (j:Nat):Stmt:=match s with
 | .ClassDef _ _ _ body _ _ _ _ _ _ _=>body.getD j (.Pass ⟨0,0,0,0⟩)
 | _=>.Pass ⟨0,0,0,0⟩
def xb4 (s:Stmt):Arguments:=match s with
 | .FunctionDef _ a _ _ _ _ _ _ _ _=>a
 | _=>{ posonlyargs:=[],args:=[],vararg:=none,kwonlyargs:=[],kw_defaults:=[],kwarg:=none,defaults:=[] }
def xb3 (s:Stmt):List Stmt:=match s with
 | .FunctionDef _ _ b _ _ _ _ _ _ _=>b
 | _=>[]
def xa2 (s:Stmt):Scope:=match s with
 | .FunctionDef _ _ _ _ _ _ sc _ _ _=>sc
 | _=>{ kind:=.function,names:=[],isGenerator:=false,isCoroutine:=false }
abbrev E0:XK:=fun _ _ _=>False
structure Fun (K:Frag) (x qual:Str) (st:Stmt) (f:Addr) (fd:FuncData):Prop where
 ex:∃ (oc:Value) (od:Option Addr) (kV doc pm:Value) (an:Option Addr) (cdv ct:Value) (osl:Array (Option Value)),
  fd = fnOf x qual (xb4 st) (xb3 st) (xa2 st) .none kV doc pm an cdv ct /\ K.lookup f = some ⟨oc,od,.func fd,osl⟩ /\ codeIn K cdv qual = true
 kp:keepIn K (.ref f) = true
section
variable {P:Program} {w:World} {K:Frag} {mg:Str -> Option Value} {base:Heap}
theorem Fun.binds {x qual:Str} {st:Stmt} {f:Addr} {fd:FuncData} {ps:List Str} (F:Fun K x qual st f fd)
  (h:∀ (kV doc pm:Value) (an:Option Addr) (cdv ct:Value) (us:List Value),us.length = ps.length -> bindArgs (fnOf x qual (xb4 st) (xb3 st) (xa2 st) .none kV doc pm an cdv ct) ⟨us,[]⟩ = pure (ps.zip us)):xd1 K fd ps []:=by
 obtain ⟨oc,od,kV,doc,pm,an,cdv,ct,osl,rfl,lk,hcd⟩:=F.ex
 exact .all (h kV doc pm an cdv ct)
theorem xc1 {x qual:Str} {st:Stmt} {f:Addr} {oc:Value} {od an:Option Addr} {osl:Array (Option Value)} {kV doc pm cdv ct:Value} (l:K.lookup f = some ⟨oc,od,.func (fnOf x qual (xb4 st) (xb3 st) (xa2 st) .none kV doc pm an cdv ct),osl⟩)
  (c:codeIn K cdv qual = true) (k:keepIn K (.ref f) = true):Fun K x qual st f (fnOf x qual (xb4 st) (xb3 st) (xa2 st) .none kV doc pm an cdv ct):=⟨⟨oc,od,kV,doc,pm,an,cdv,ct,osl,rfl,l,c⟩,k⟩
end
theorem xh2 {n:Nat} (h:n <= 1000):n < sizeLine:=Nat.lt_of_le_of_lt h (by decide)
section
variable {X:Cx}
theorem pv (i:Nat) {x:Str} {pos:Pos} (hN:X.N[i]? = some x:=by rfl) (hv:Vis X.env.scope x:=by first | exact Or.inl rfl | exact Or.inr (Or.inl rfl) | exact Or.inr (Or.inr rfl)) (hd:(x == ("__debug__" : Str)) = false:=by decide)
  (hcd:(x == ("__classdict__" : Str)) = false:=by decide):PE X (.Name x pos) (tVar i):=pe_var hN hv hd hcd
end
theorem iteF {A B:Prop} (h:B):if false = true then A else B:=by
 rw [if_neg Bool.false_ne_true]
 exact h
theorem iteT {A B:Prop} (h:A):if true = true then A else B:=by
 rw [if_pos rfl]
 exact h
theorem ite2 {c A B:Prop} [Decidable c] (h1:c -> A) (h2:¬ c -> B):if c then A else B:=by
 by_cases h:c
 ·rw [if_pos h]
  exact h1 h
 ·rw [if_neg h]
  exact h2 h
def Same (H H':Hp):Prop:=∀ b o,H b = some o -> H' b = some o
theorem Same.refl (H:Hp):Same H H:=fun _ _ h=>h
theorem Same.trans {H H1 H2:Hp} (a:Same H H1) (b:Same H1 H2):Same H H2:=fun c o h=>b c o (a c o h)
theorem Same.free {H H':Hp} (e:Same H H') {l:Addr} (h:H' l = Option.none):H l = Option.none:=by
 cases q:H l with
 | none=>rfl
 | some o =>
  rw [e l o q] at h
  cases h
theorem Same.seq {K:Frag} {H H':Hp} {a:Addr} {xs:List V} (e:Same H H') (h:SqL K H a xs):SqL K H' a xs:=by
 rcases h with (h | ⟨o,h⟩) | h
 ·exact .inl (.inl (e _ _ h))
 ·exact .inl (.inr ⟨o,e _ _ h⟩)
 ·exact .inr h
def xs2 (env:Env):List (Str × NameKind) -> List (Str × Addr) -> List (Str × Addr)
 | [],cs=>cs
 | (n,k) :: r,cs=>xs2 env r (if k == .free then (n,(env.cells.lookup n).getD 0) :: cs else cs)
theorem xx9 {env:Env}:∀ (names:List (Str × NameKind)) (cs:List (Str × Addr)),(∀ p ∈ names,p.2 = .free -> ∃ c,env.cells.lookup p.1 = some c) ->
  (forIn names cs (fun (x:Str × NameKind) (r:List (Str × Addr))=>(do if x.2 == .free then pure (.yield ((x.1,<- cellOf env x.1) :: r)) else pure (.yield r):Sem (ForInStep (List (Str × Addr)))))) = (pure (xs2 env names cs):Sem _)
 | [],cs,_=>rfl
 | (n,k) :: r,cs,h=>by
  rw [List.forIn_cons]
  by_cases hk:(k == NameKind.free) = true
  ·obtain ⟨c,e⟩:=h (n,k) List.mem_cons_self (by simpa using hk)
   have ec:cellOf env n = pure c:=by unfold cellOf; rw [show env.cells.lookup n = some c from e]
   simp only [hk,if_true,ec,pure_bind]
   rw [xx9 r _ fun p hp=>h p (List.mem_cons_of_mem _ hp)]
   simp only [xs2,hk,if_true,show env.cells.lookup n = some c from e,Option.getD_some]
  ·simp only [hk,if_false,pure_bind,Bool.false_eq_true]
   rw [xx9 r _ fun p hp=>h p (List.mem_cons_of_mem _ hp)]
   simp only [xs2,hk,if_false,Bool.false_eq_true]
theorem xt0 {scope:Scope} {env:Env} (h:∀ p ∈ scope.names,p.2 = .free -> ∃ c,env.cells.lookup p.1 = some c):closureFor scope env = pure (xs2 env scope.names []):=by
 rw [<- xx9 scope.names [] h]
 simp only [closureFor]
 rw [bind_pure]
theorem yb4 {env:Env} {x:Str} {c:Addr}:∀ (names:List (Str × NameKind)) (cs:List (Str × Addr)),(∀ p ∈ names,p.2 = .free -> ∃ c,env.cells.lookup p.1 = some c) ->
  (xs2 env names cs).lookup x = some c -> cs.lookup x = some c \/ env.cells.lookup x = some c
 | [],cs,_,h=>.inl h
 | (n,k) :: r,cs,hf,h=>by
  have hf':∀ p ∈ r,p.2 = .free -> ∃ c,env.cells.lookup p.1 = some c:=fun p hp=>hf p (List.mem_cons_of_mem _ hp)
  unfold xs2 at h
  rcases yb4 r _ hf' h with q | q
  ·by_cases hk:(k == NameKind.free) = true
   ·rw [if_pos hk] at q
    obtain ⟨c',e⟩:=hf (n,k) List.mem_cons_self (by simpa using hk)
    have e:env.cells.lookup n = some c':=e
    rw [e,Option.getD_some,List.lookup_cons] at q
    cases hx:(x == n) with
    | true =>
     rw [hx] at q
     have:x = n:=by simpa using hx
     subst this
     cases q
     exact .inr e
    | false=>rw [hx] at q; exact .inl q
   ·rw [if_neg hk] at q; exact .inl q
  ·exact .inr q
theorem xx8 {env:Env} {x:Str}:∀ (names:List (Str × NameKind)) (cs:List (Str × Addr)),((x,NameKind.free) ∈ names \/ ∃ c,cs.lookup x = some c) -> ∃ c,(xs2 env names cs).lookup x = some c
 | [],cs,h=>by
  rcases h with h | h
  ·cases h
  ·exact h
 | (n,k) :: r,cs,h=>by
  unfold xs2
  refine xx8 r _ ?_
  rcases h with h | ⟨c,h⟩
  ·rcases List.mem_cons.mp h with e | h
   ·cases e
    right
    rw [if_pos (by rfl),List.lookup_cons]
    simp
   ·exact .inl h
  ·right
   split
   ·rw [List.lookup_cons]
    cases (x == n) with
    | true=>exact ⟨_,rfl⟩
    | false=>exact ⟨c,h⟩
   ·exact ⟨c,h⟩
theorem xs7 {env:Env}:∀ {names:List (Str × NameKind)} {x:Str},names.lookup x = some .free ->
    ((names.map fun (n,k)=>if (k == NameKind.free && env.scope.kind == .function && env.kindOf n == some .cell) then (n,NameKind.cell) else (n,k)).lookup x = some .cell \/
     (names.map fun (n,k)=>if (k == NameKind.free && env.scope.kind == .function && env.kindOf n == some .cell) then (n,NameKind.cell) else (n,k)).lookup x = some .free)
  | [],_,h=>by simp at h
  | (n,k) :: r,x,h=>by
    have ih:=@xs7 env r x
    rw [List.map_cons]
    cases hx:x == n with
    | true =>
      simp only [List.lookup_cons,hx] at h
      cases h
      dsimp only
      split
      · left; rw [List.lookup_cons,hx]
      · right; rw [List.lookup_cons,hx]
    | false =>
      simp only [List.lookup_cons,hx] at h
      dsimp only
      split
      · simp only [List.lookup_cons,hx]; exact ih h
      · simp only [List.lookup_cons,hx]; exact ih h
theorem xu8 {env:Env}:∀ {names:List (Str × NameKind)} {x:Str} {k:NameKind},k = .cell \/ k = .free ->
  (names.map fun (n,k)=>if (k == NameKind.free && env.scope.kind == .function && env.kindOf n == some .cell) then (n,NameKind.cell) else (n,k)).lookup x = some k -> ∃ k',(k' = .cell \/ k' = .free) /\ (x,k') ∈ names
 | [],_,_,_,h=>by simp at h
 | (n,k) :: r,x,k',hk,h=>by
  have ih:=@xu8 env r x k' hk
  rw [List.map_cons] at h
  cases hx:x == n with
  | true =>
   have:x = n:=by simpa using hx
   subst this
   dsimp only at h
   split at h
   ·rename_i hc
    rw [List.lookup_cons,hx] at h
    refine ⟨k,.inr ?_,List.mem_cons_self⟩
    simp only [Bool.and_eq_true] at hc
    simpa using hc.1.1
   ·rw [List.lookup_cons,hx] at h
    cases h
    exact ⟨_,hk,List.mem_cons_self⟩
  | false =>
   dsimp only at h
   have h':(r.map fun (n,k)=>if (k == NameKind.free && env.scope.kind == .function && env.kindOf n == some .cell) then (n,NameKind.cell) else (n,k)).lookup x = some k':=by
    split at h
    ·simpa only [List.lookup_cons,hx] using h
    ·simpa only [List.lookup_cons,hx] using h
   obtain ⟨k2,a,b⟩:=ih h'
   exact ⟨k2,a,List.mem_cons_of_mem _ b⟩
def xe7 (X:Cx) (scope:Scope) (N:List Str) (fp:List Addr) (s:Shared) (H:Hp):Cx :=
 { X with N:=N,s₀:=s,H₀:=H,env:=compEnvC scope (xs2 X.env scope.names []) s.heap.objs.size X.env,outer:=X.stack,stack:=X.stack,ex:=fp,fn:=fun _=>false,pn:=[],xe:=fun _ _=>False }
def seen (js:List (Option Nat)) (σ:St):St:=js.map fun o=>o.bind fun j=>(σ[j]?).join
def xm8 (X:Cx) (scope:Scope) (N:List Str) (js:List (Option Nat)):Bool :=
 (scope.names.all fun p=>p.2 != .cell && (p.2 != .free || X.env.kindOf p.1 == some .cell) && (p.2 != .local || scope.names.lookup p.1 == some .local)) &&
 (js.length == N.length) && ((N.zip js).all fun p=>match p.2 with | none=>true | some j=>X.N[j]? == some p.1 && scope.names.lookup p.1 == some .free && X.env.kindOf p.1 == some .cell)
section
variable {X:Cx} {tg iter elt:Expr} {scope:Scope} {N:List Str} {js:List (Option Nat)} {pos:Pos}
theorem yb3 {pins:List (Addr × Obj)} {σ:St} {H:Hp} {s:Shared} {h':Heap} {fp:List Addr} {t':Nat} (I:Inv X pins σ H s) (hk:scope.kind = .function) (hck:xm8 X scope N js = true)
  (hf:∀ b ∈ fp,FpOk X pins H b) (hfl:∀ b ∈ fp,b < s.heap.objs.size) (hns:h'.Ns s.heap.objs.size (fun _=>none)) (kp:∀ b o,s.heap.get? b = some o -> h'.get? b = some o) :
  Inv (xe7 X scope N fp s H) [] (seen js σ) H { s with heap:=h',toks:=t' }:=by
 unfold xm8 at hck
 simp only [Bool.and_eq_true] at hck
 obtain ⟨⟨h1,h2⟩,h3⟩:=hck
 have hlen:js.length = N.length:=by simpa using h2
 have g1:∀ p ∈ scope.names,p.2 ≠ .cell /\ (p.2 = .free -> X.env.kindOf p.1 = some .cell):=fun p hp=>by
  have q:=List.all_eq_true.mp h1 p hp
  simp only [Bool.and_eq_true,bne_iff_ne,ne_eq,Bool.or_eq_true,beq_iff_eq] at q
  exact ⟨q.1.1,fun e=>q.1.2.resolve_left fun z=>z e⟩
 have hcl:∀ p ∈ scope.names,p.2 = .free -> ∃ c,X.env.cells.lookup p.1 = some c:=fun p hp e=>I.ok.has _ (.inl ((g1 p hp).2 e))
 have back:∀ x c,(xs2 X.env scope.names []).lookup x = some c -> X.env.cells.lookup x = some c:=fun x c e=>by
  rcases yb4 _ _ hcl e with q | q
  ·cases q
  ·exact q
 refine ⟨⟨I.ok.mod,?_,I.ok.glob,I.ok.blt,Nat.le_refl _,fun x y c h1 h2=>I.ok.inj x y c (back _ _ h1) (back _ _ h2),fun x hx=>?_,fun _ _ z=>(by cases z),I.ok.hd,I.ok.frames,.inl rfl,fun b hb=>⟨?_,fun x c e=>?_⟩,I.bs,Nat.le_trans I.ok.bsz I.sz,fun b o e hb=>?_,fun b hb=>?_,I.stack,I.stkFree⟩,
  rfl,I.bare,Un.kept kp,⟨_,hns,fun i x v e1 e2 e3=>?_⟩,fun x c e=>?_,I.hok.fresh (Nat.le_refl _),fun x c e=>I.freeC x c (back _ _ e),fun p hp=>(by cases hp),I.hok.kept kp,?_⟩
 ·show (relabel scope X.env).kind = _
  exact hk
 ·have hx':∃ k,(k = .cell \/ k = .free) /\ (relabel scope X.env).names.lookup x = some k:=by
   rcases hx with q | q
   ·exact ⟨_,.inl rfl,q⟩
   ·exact ⟨_,.inr rfl,q⟩
  obtain ⟨k,hk2,q⟩:=hx'
  obtain ⟨k',a,b⟩:=xu8 (env:=X.env) hk2 q
  rcases a with a | a
  ·exact absurd a (g1 _ b).1
  ·subst a
   exact xx8 _ _ (.inl b)
 ·exact Nat.ne_of_lt (hfl b hb)
 ·exact (hf b hb).2.2.2.2.1 x c (back _ _ e)
 ·rcases (hf b hb).2.2.2.1 with z | z
  ·exact I.ok.noex b o e z
  ·exact absurd (Nat.lt_of_lt_of_le (Heap.lt_size e) (Nat.le_trans I.ok.bsz z)) (Nat.lt_irrefl _)
 ·intro hb2
  obtain ⟨_,q1,q2,_⟩:=hf b hb
  rcases List.mem_cons.mp (I.stkSub b hb2) with z | z
  ·exact q1 z
  ·exact q2 z
 ·have e1:N[i]? = some x:=e1
  unfold seen at e2
  rw [List.getElem?_map] at e2
  cases ej:js[i]? with
  | none=>rw [ej] at e2; cases e2
  | some o =>
   rw [ej] at e2
   cases o with
   | none=>cases e2
   | some j =>
    have e2:(σ[j]?).join = some v:=by simpa using e2
    have e4:σ[j]? = some (some v):=by
     cases q:σ[j]? with
     | none=>rw [q] at e2; cases e2
     | some w=>rw [q] at e2; cases e2; rfl
    have hz:(N.zip js)[i]? = some (x,some j):=by
     rw [List.getElem?_zip_eq_some]; exact ⟨e1,ej⟩
    have q:=List.all_eq_true.mp h3 _ (List.mem_of_getElem? hz)
    simp only [Bool.and_eq_true,beq_iff_eq] at q
    obtain ⟨⟨q1,q2⟩,q3⟩:=q
    obtain ⟨m,hn,hl⟩:=I.loc
    obtain ⟨u,r,l⟩:=hl j x v q1 e4 (.inr (.inl q3))
    refine ⟨u,r,?_⟩
    rcases l with ⟨l,_⟩ | ⟨_,c,l2,l3⟩
    ·rw [q3] at l; cases l
    ·obtain ⟨c',hc'⟩:=xx8 (env:=X.env) (x:=x) scope.names [] (.inl (PySem.mem_of_lookup q2))
     have e5:=back _ _ hc'
     rw [l2] at e5
     cases e5
     refine .inr ⟨?_,c,hc',?_⟩
     ·exact xs7 q2
     ·obtain ⟨o,ho,hd⟩:=l3
      exact ⟨o,kp _ _ ho,hd⟩
 ·obtain ⟨v,o,ho,hd⟩:=I.cell x c (back _ _ e)
  exact ⟨v,o,kp _ _ ho,hd⟩
 ·show (seen js σ).length = N.length
  unfold seen
  rw [List.length_map,hlen]
theorem yj8 {prog:Program} {w:World} {A:Around} {R:Result -> Shared -> Prop} {s:Shared} {it acc:Value} {env:Env} (I:Nat -> Shared -> Prop)
  (turn:∀ n s,I n s -> wpAny (model prog w) A (pyNext it) (fun r s₁=>match r with
   | none=>R (.ok .next) s₁
   | some v=>wpAny (model prog w) A (letOwnedTupleGo tg it v) (fun _ s₁'=>wpAny (model prog w) A (assign tg env v) (fun _ s₂ =>
     wpAny (model prog w) A (eval elt env) (fun x s₄ =>
       wpAny (model prog w) A (call (.builtin "list.append") [acc,x]) (fun _ s₅=>∃ m,m < n /\ I m s₅) (fun _ _=>False) s₄) (fun _ _=>False) s₂) (fun _ _=>False) s₁') (fun _ _=>False) s₁) (fun _ _=>False) s)
  (n:Nat) (h:I n s) :
  codeAny (model prog w) A (.compLoop (.ListComp elt [⟨tg,iter,[],0⟩] scope pos) 0 it acc env) R s:=by
 refine codeAny_loop rfl I (fun n s hI=>?_) n h
 show wpAny _ A ((compTurn (.ListComp elt [⟨tg,iter,[],0⟩] scope pos) 0 it acc env).onRaise (fun x=>do noteFrame x env; theTreesLotGoes x)) _ _ s
 refine wpAny_noted ?_
 rw [compTurn_list1]
 refine wpAny_bind (wpAny_standAt (wpAny_bind (wpAny_mono (turn n s hI) (fun r s₁ h₁=>?_) fun _ _ h'=>h'.elim)))
 cases r with
 | none=>exact wpAny_pure h₁
 | some v =>
  refine wpAny_bind (wpAny_mono h₁ (fun _ s₁' h₁'=>?_) fun _ _ h'=>h'.elim)
  refine wpAny_bind (wpAny_mono h₁' (fun _ s₂ h₂=>?_) fun _ _ h'=>h'.elim)
  exact wpAny_bind (wpAny_bind (wpAny_mono h₂ (fun x s₄ h₄=>wpAny_bind (wpAny_mono h₄ (fun _ s₅ h₅=>wpAny_pure (wpAny_pure ⟨rfl,h₅⟩)) fun _ _ h'=>h'.elim)) fun _ _ h'=>h'.elim))
def tComp (js:List (Option Nat)) (wi:TI) (g:TG) (te:TE):TE:=fun σ H Q=>wi σ H fun J H1=>∀ D,H1 D = none -> ∃ W:Nat -> Nat -> St -> Hp -> Prop,(∃ m,W 0 m (seen js σ) (upd H1 D (.lst []))) /\
 ∀ i m σ' H',W i m σ' H' -> (J.stop i H' /\ Q (.ref D) H') \/ (J.go i H' /\ ∀ x H2,J.yld i H' x H2 -> g x σ' H2 fun σ3 H3=>te σ3 H3 fun v H4=>∃ xs,H4 D = some (.lst xs) /\ xs.length < sizeLine /\ ∃ m',m' < m /\ W (i + 1) m' σ3 (upd H4 D (.lst (xs ++ [v]))))
theorem zd5 {wi:TI} {g:TG} {te:TE} {use:Option (Value -> Sem Unit)} {Qv:Value -> Shared -> Prop} (hc:X.calm = true) (hi:PI X tg iter wi) (hk:scope.kind = .function) (hck:xm8 X scope N js = true)
  (hg:∀ fp s H,PG (xe7 X scope N fp s H) tg g) (he:∀ fp s H,PE (xe7 X scope N fp s H) elt te)
  (hs:∀ x,foldedSetIterable iter X.env x = pure x)
  {pins:List (Addr × Obj)} {σ:St} {H:Hp} {s:Shared} {Q:VK} (I:Inv X pins σ H s) (h:tComp js wi g te σ H Q)
  (hend:∀ (D C:Addr) (H':Hp) (s':Shared),Inv X pins σ H' s' -> (∃ m,s'.heap.Ns C m) -> FpOk X pins H' C -> Q (.ref D) H' -> compPost (model X.prog X.w) X.A X.xe use Qv (.ref D) C (.ok .next) s') :
  wpAny (model X.prog X.w) X.A (comprehension (.ListComp elt [⟨tg,iter,[],0⟩] scope pos) scope X.env (firstIterPos [⟨tg,iter,[],0⟩] pos) (newList []) false (eval iter X.env) use) Qv X.xe s:=by
 have hck':=hck
 unfold xm8 at hck'
 simp only [Bool.and_eq_true] at hck'
 obtain ⟨⟨h1,_⟩,_⟩:=hck'
 have g1:∀ p ∈ scope.names,p.2 ≠ .cell /\ (p.2 = .free -> X.env.kindOf p.1 = some .cell) /\ (p.2 = .local -> scope.names.lookup p.1 = some .local):=fun p hp=>by
  have q:=List.all_eq_true.mp h1 p hp
  simp only [Bool.and_eq_true,bne_iff_ne,ne_eq,Bool.or_eq_true,beq_iff_eq] at q
  exact ⟨q.1.1,fun e=>q.1.2.resolve_left fun z=>z e,fun e=>q.2.resolve_left fun z=>z e⟩
 have hcl:∀ p ∈ scope.names,p.2 = .free -> ∃ c,X.env.cells.lookup p.1 = some c:=fun p hp e=>I.ok.has _ (.inl ((g1 p hp).2.1 e))
 refine wpAny_comprehension_free (use:=use) (g:=⟨tg,iter,[],0⟩) (gs:=[]) rfl hs (xt0 hcl) hk (fun p hp e=>(g1 p hp).2.2 e) ?_
 refine thn (hi pins s σ H _ I h) fun v s1 h1=>thn h1 fun itv s2 h2=>?_
 obtain ⟨it,fp,tn,J,H2,e,I2,T,st2,f2,hW⟩:=h2
 subst e
 have hfl:∀ b ∈ fp,b < s2.heap.objs.size:=fun b hb=>by
  obtain ⟨o,ho,_⟩:=T.obj _ _ st2 b hb
  exact Heap.lt_size ho
 have hD:H2 s2.heap.objs.size = none:=I2.hok.fresh (Nat.le_refl _)
 obtain ⟨W,⟨m0,w0⟩,turn⟩:=hW _ hD
 refine wpAny_newObj_type (wpAny_newFunctionEnv (fun x hx=>(g1 x hx).1) (by intro y hy; simp at hy) (fun h₁ hns₁ hsb₁=>?_) hk)
 dsimp only at hns₁ hsb₁ ⊢
 have I3:Inv X pins σ (upd H2 s2.heap.objs.size (.lst [])) { s2 with heap:=s2.heap.push { cls:=.type "list",dict:=none,data:=.seq ([]:List Value).toArray },toks:=s2.toks } :=
  I2.laid (t':=s2.toks) (fun b u e=>Heap.get?_push_of_some _ e) (Nat.le_refl _) ⟨Nat.zero_le _,[],0,.nil,Heap.get?_push_size _ rfl⟩
 generalize hs3:({ s2 with heap:=s2.heap.push { cls:=.type "list",dict:=none,data:=.seq ([]:List Value).toArray },toks:=s2.toks }:Shared) = s3 at I3
 have hh3:s3.heap = s2.heap.push { cls:=.type "list",dict:=none,data:=.seq ([]:List Value).toArray }:=by rw [<- hs3]
 have e3:({ s2 with heap:=h₁,toks:=s2.toks + ([]:List (Str × Value)).length }:Shared) = { s3 with heap:=h₁,toks:=s3.toks }:=by rw [<- hs3]; rfl
 rw [e3]
 rw [<- hh3] at hns₁ hsb₁ ⊢
 generalize hH3:upd H2 s2.heap.objs.size (.lst []) = H3 at I3 w0
 generalize hDs:s2.heap.objs.size = D at *
 have f3:∀ b ∈ fp,FpOk X pins H3 b:=fun b hb=>by
  refine ⟨?_,(f2 b hb).2⟩
  rw [<- hH3,xa3 (Nat.ne_of_lt (hfl b hb))]
  exact (f2 b hb).1
 have szD:s3.heap.objs.size = D + 1:=by rw [hh3,Heap.size_push]; rw [<- hDs]
 have hfl3:∀ b ∈ fp,b < s3.heap.objs.size:=fun b hb=>Nat.lt_of_lt_of_le (hfl b hb) (by rw [szD]; exact Nat.le_succ _)
 have kp:∀ b o,s3.heap.get? b = some o -> h₁.get? b = some o:=fun b o e=>by
  rw [hsb₁.2 b (Nat.ne_of_lt (Heap.lt_size e))]
  exact Heap.get?_push_of_some _ e
 have st3:tn 0 h₁:=T.keep 0 _ _ st2 fun b hb o e=>kp b o (by rw [hh3]; exact Heap.get?_push_of_some _ e)
 have J0:Inv (xe7 X scope N fp s3 H3) [] (seen js σ) H3 { s3 with heap:=h₁,toks:=s3.toks }:=yb3 I3 hk hck f3 hfl3 hns₁ kp
 have fpc:∀ {H':Hp},(∀ b ∈ fp,H' b = none) -> ∀ b ∈ fp,FpOk (xe7 X scope N fp s3 H3) [] H' b:=fun hn b hb =>
  ⟨hn b hb,(J0.ok.exf b hb).1,J0.ok.exfs b hb,.inl hb,(J0.ok.exf b hb).2,fun p hp=>by cases hp⟩
 have lp:codeAny (model X.prog X.w) X.A (.compLoop (.ListComp elt [⟨tg,iter,[],0⟩] scope pos) 0 (.ref it) (.ref D) (compEnvC scope (xs2 X.env scope.names []) s3.heap.objs.size X.env))
   (compPost (model X.prog X.w) X.A X.xe use Qv (.ref D) s3.heap.objs.size) { s3 with heap:=h₁,toks:=s3.toks }:=by
  refine yj8 (fun n s'=>∃ i σ' H',Inv (xe7 X scope N fp s3 H3) [] σ' H' s' /\ tn i s'.heap /\ (∀ b ∈ fp,H' b = none) /\ W i n σ' H') ?_ m0 ⟨0,_,H3,J0,st3,fun b hb=>(f3 b hb).1,w0⟩
  rintro n s4 ⟨i,σ4,H4,I4,st4,fr4,w4⟩
  rcases turn i n σ4 H4 w4 with ⟨stop,qn⟩ | ⟨go,step⟩
  ·refine thn (T.done (xe7 X scope N fp s3 H3) rfl rfl rfl hc i [] s4 σ4 H4 (fun _ _=>False) I4 (fpc fr4) st4 stop) fun r s5 ⟨hr,I5⟩=>?_
   subst hr
   have I6:Inv X pins σ H4 s5:=I3.call' (ch:=fp) I5.os I5.base I5.hok I5.bare fun b hb=>⟨(f3 b hb).2.2.2.1,(f3 b hb).2.1,(f3 b hb).2.2.2.2.1,(f3 b hb).2.2.2.2.2⟩
   have fC:FpOk X pins H4 s3.heap.objs.size:=I3.fpOk (Nat.le_refl _) I5.free
   obtain ⟨m,hn,_⟩:=I5.loc
   exact hend D s3.heap.objs.size H4 s5 I6 ⟨m,hn⟩ fC qn
  ·refine thn (T.item (xe7 X scope N fp s3 H3) rfl rfl rfl hc i [] s4 σ4 H4 (fun _ _=>False) I4 (fpc fr4) st4 go) fun r s5 ⟨u,hr,h5⟩=>?_
   subst hr
   refine thn h5 fun _ s6 ⟨x,H6,I6,r6,y6,st6,fr6⟩=>?_
   have I6':=I6.pinned (fpc fr6) (T.obj _ _ st6)
   refine thn (hg fp s3 H3 _ s6 σ4 H6 x u _ I6' r6 (step x H6 y6)) fun _ s7 ⟨σ7,H7,I7,q7⟩=>?_
   refine thn (he fp s3 H3 _ s7 σ7 H7 _ I7 q7) fun u8 s8 ⟨v8,H8,I8,r8,xs,e8,l8,m',hm,w8⟩=>?_
   refine thn (yi5 _ s8 σ7 H8 (.ref D) [v8] (.ref D) [u8] (fun _ H9=>H9 = upd H8 D (.lst (xs ++ [v8]))) I8 rfl (.cons r8 .nil) ⟨D,xs,v8,rfl,rfl,e8,l8,rfl⟩) fun _ s9 ⟨v9,H9,I9,_,e9⟩=>?_
   subst e9
   refine ⟨m',hm,i + 1,σ7,_,I9.unpinned,T.keep _ _ _ st6 fun b hb o e=>(I9.pin (b,o) (List.mem_append_right _ (List.mem_append_right _ (xh1 hb e)))).1,fun b hb=>?_,w8⟩
   obtain ⟨o,e,d⟩:=T.obj _ _ st6 b hb
   exact (I9.pin (b,o) (List.mem_append_right _ (List.mem_append_right _ (xh1 hb e)))).2.1
 exact codeAny_compStart_list lp (T.self _ 0 _ _ _ st3 lp)
theorem xv3 {wi:TI} {g:TG} {te:TE} (N:List Str) (js:List (Option Nat)) (hc:X.calm = true) (hi:PI X tg iter wi)
  (hg:∀ fp s H,PG (xe7 X scope N fp s H) tg g) (he:∀ fp s H,PE (xe7 X scope N fp s H) elt te) (hk:scope.kind = .function:=by rfl) (hck:xm8 X scope N js = true:=by rfl)
  (hs:∀ x,foldedSetIterable iter X.env x = pure x:=by intro _; rfl):PE X (.ListComp elt [⟨tg,iter,[],0⟩] scope pos) (tComp js wi g te):=by
 intro pins s σ H Q I h
 rw [eval_ListComp]
 refine zd5 (use:=none) hc hi hk hck hg he hs I h fun D C H' s' I' hC fC q=>?_
 obtain ⟨m,hn⟩:=hC
 refine ⟨m,hn,fun h' sb=>?_⟩
 obtain ⟨f0,f1,f2,f3,f4,f5⟩:=fC
 exact ⟨.ref D,H',I'.turned (t':=s'.toks) (fun b o hb e=>(sb.2 b hb).trans e) f0 f1 f3 f4 f5,rfl,q⟩
end
section
variable {X:Cx}
def CDivL (_ j:Int):Prop:=0 < j /\ j < 2 ^ 250
theorem yu1 {j:Int} (h0:0 < j) (h:j < 2 ^ 250):j.natAbs.log2 < 9000:=by
 have h1:j.natAbs < 2 ^ 250:=by
  have e:(j.natAbs:Int) = j:=Int.natAbs_of_nonneg (Int.le_of_lt h0)
  have:((j.natAbs:Nat):Int) < ((2 ^ 250:Nat):Int):=by rw [e]; exact h
  exact Int.ofNat_lt.mp this
 have h2:j.natAbs ≠ 0:=by omega
 exact Nat.lt_of_lt_of_le ((Nat.log2_lt h2).mpr h1) (by decide)
theorem xf8:OpR X (binaryOp .FloorDiv) (rI CDivL fun i j=>.int (i / j)):=opI fun i j _ _ _ _ _ hc q=>by
 refine floordiv_int (by have:=hc.1; omega) ?_ (.inl (PyProof.noPylong_of_log2 (yu1 hc.1 hc.2)))
 rw [Int.fdiv_eq_ediv_of_nonneg _ (Int.le_of_lt hc.1)]
 exact q
def subTy (a b:String):Bool:=a == b || (a == "bool" && b == "int")
theorem xr8 {K:Frag} {t n:String} (ht:t = "NoneType" \/ t = "bool" \/ t = "int" \/ t = "str") (hn:n = "int" \/ n = "bool" \/ n = "str" \/ n = "list" \/ n = "tuple" \/ n = "dict"):kitOne K (.type t) (.type n) = some (subTy t n):=by
 rcases ht with rfl | rfl | rfl | rfl <;> rcases hn with rfl | rfl | rfl | rfl | rfl | rfl <;> kernel_rfl
theorem xv1 {x:Str} {n:String} {pos:Pos} (hg:Gl X x) (hm:X.mg x = none) (hv:bootBuiltins x = some (.type n)) (hn:x ≠ "__name__":=by decide) (hd:(x == ("__debug__" : Str)) = false:=by decide):PE X (.Name x pos) (tC (.ty n)) :=
 pe_bltn hg hm hv rfl hn hd
theorem xb5:bootBuiltins "isinstance" = some (.builtin "isinstance"):=by decide +kernel
theorem yr4:bootBuiltins "max" = some (.builtin "max"):=by decide +kernel
theorem boot_min:bootBuiltins "min" = some (.builtin "min"):=by decide +kernel
theorem yr5:bootBuiltins "int" = some (.type "int"):=by decide +kernel
theorem yk6:bootBuiltins "bool" = some (.type "bool"):=by decide +kernel
theorem yk4:bootBuiltins "str" = some (.type "str"):=by decide +kernel
end
section
variable {P:Program} {w:World} {K:Frag} {mg:Str -> Option Value} {base:Heap}
end
section
variable {X:Cx}
def yj0:List V -> Option (List Int)
 | []=>some []
 | .int i :: r=>match yj0 r with
  | some ns=>some (i :: ns)
  | none=>none
 | _ :: _=>none
theorem yi9:∀ {vs:List V} {ns:List Int},yj0 vs = some ns -> vs = ns.map V.int
 | [],ns,h=>by cases h; rfl
 | .int i :: r,ns,h=>by
  unfold yj0 at h
  cases e:yj0 r with
  | none=>rw [e] at h; cases h
  | some ms=>rw [e] at h; cases h; rw [yi9 e]; rfl
 | .non :: _,_,h=>by cases h
 | .bl _ :: _,_,h=>by cases h
 | .str _ :: _,_,h=>by cases h
 | .byt _ :: _,_,h=>by cases h
 | .flt _ :: _,_,h=>by cases h
 | .ref _ :: _,_,h=>by cases h
 | .ty _ :: _,_,h=>by cases h
def menu (ns:List Int) (k:Int):Int:=ns.getD k.toNat 0
def tMenu (t:TA) (ti:TE):TE:=fun σ H Q=>t σ H fun vs H1=>vs.length <= 1000 /\ ti σ H1 fun i H2=>∃ ns k,yj0 vs = some ns /\ i = .int k /\ 0 <= k /\ k < (ns.length:Int) /\ (ns.length:Int) < 1000 /\ Q (.int (menu ns k)) H2
theorem menu_all {P:Int -> Prop} {ns:List Int} {k:Int} (h:∀ x ∈ ns,P x) (h0:0 <= k) (h1:k < (ns.length:Int)):P (menu ns k):=by
 have hl:k.toNat < ns.length:=by omega
 unfold menu
 rw [List.getD_eq_getElem?_getD,List.getElem?_eq_getElem hl,Option.getD_some]
 exact h _ (List.getElem_mem hl)
theorem xg2 {n:Nat} (h:n <= 1000):n <= sizeLine:=Nat.le_trans h (by decide)
theorem pe_menu {es:List Expr} {idx:Expr} {t:TA} {ti:TE} {p pos:Pos} (h:PA X es t) (hb:PE X idx ti) (hs:ze5 idx):PE X (.Subscript (.List es p) idx pos) (tMenu t ti):=by
 intro pins s σ H Q I hq
 refine Subscript_ ?_
 refine wpAny_List_spliced (thn (h p pins s σ H _ I hq) fun us s1 ⟨xs,H1,I1,r,e,q⟩=>⟨?_,?_⟩)
 ·rw [<- r.length]; exact xg2 e
 have hf:H1 s1.heap.objs.size = none:=I1.hok.fresh (Nat.le_refl _)
 have I2:Inv X pins σ H1 { s1 with heap:=s1.heap.push { cls:=.type "list",data:=.seq us.toArray },toks:=s1.toks }:=I1.kept (t':=s1.toks) fun b u e=>Heap.get?_push_of_some _ e
 have hp:=I1.fpOk (H':=H1) (Nat.le_refl _) hf
 have I3:Inv X (pins ++ [(s1.heap.objs.size,({ cls:=.type "list",data:=.seq us.toArray }:Obj))]) σ H1 { s1 with heap:=s1.heap.push { cls:=.type "list",data:=.seq us.toArray },toks:=s1.toks } :=
  I2.pins_of fun q hq=>(List.mem_append.mp hq).elim (fun z=>I2.pin q (List.mem_append_right _ z)) fun z=>by
   have e:q = (s1.heap.objs.size,({ cls:=.type "list",data:=.seq us.toArray }:Obj)):=by simpa using z
   subst e
   exact ⟨Heap.get?_push_size _ rfl,hf,hp.2.1,hp.2.2.1,fun v=>by intro z; cases z⟩
 refine thn (hb _ _ σ H1 _ I3 q) fun u s4 ⟨y,H4,I4,r4,q4⟩=>?_
 obtain ⟨ns,k,e1,rfl,h0,h1,h2,qq⟩:=q4
 obtain ⟨tk,rfl⟩:=r4
 have e2:=yi9 e1
 subst e2
 have hl:k.toNat < ns.length:=by omega
 have hx:(ns.map V.int)[k.toNat]? = some (.int (menu ns k)):=by
  rw [List.getElem?_map,List.getElem?_eq_getElem hl]
  unfold menu
  rw [List.getD_eq_getElem?_getD,List.getElem?_eq_getElem hl]
  rfl
 obtain ⟨w,ew,rw'⟩:=r.get hx
 have hpin:=(I4.pin (s1.heap.objs.size,{ cls:=.type "list",data:=.seq us.toArray }) (List.mem_append_right _ (List.mem_append_right _ List.mem_cons_self))).1
 exact item_listR (items:=us.toArray) ⟨_,hpin,rfl,0,rfl⟩ h0 (by omega) (by simpa using ew) ⟨.int (menu ns k),H4,I4.unpinned,rw',qq⟩ (hs _ _)
def CPowS (i j:Int):Prop:=0 <= j /\ j <= 1000000 /\ -(2 ^ 64) < i /\ i < 2 ^ 64
theorem ym0:OpR X (binaryOp .Pow) (rI CPowS fun i j=>.int (i ^ j.toNat)):=opI fun i j _ _ _ _ _ hc q=>pow_int_small hc.1 hc.2.1 (by have:=hc.2.2; omega) q
def tTupS (t:TA):TE:=fun σ H Q=>t σ H fun xs H1=>xs.length <= 1000 /\ ∀ p,H1 p = none -> Q (.ref p) (upd H1 p (.tup xs))
def tLstS (t:TA):TE:=fun σ H Q=>t σ H fun xs H1=>xs.length <= 1000 /\ ∀ p,H1 p = none -> Q (.ref p) (upd H1 p (.lst xs))
theorem xv2 {es:List Expr} {t:TA} {x1} {pos:Pos} (h:PA X es t):PE X (.Tuple es x1 pos) (tTupS t):=by
 intro pins s σ H Q I hq
 refine wpAny_Tuple_spliced (thn (h pos pins s σ H _ I hq) fun us s1 ⟨xs,H1,I1,r,z,q⟩=>⟨by rw [<- r.length]; exact xg2 z,?_⟩)
 have hf:H1 s1.heap.objs.size = none:=I1.hok.fresh (Nat.le_refl _)
 refine ⟨.ref s1.heap.objs.size,upd H1 s1.heap.objs.size (.tup xs),I1.laid (t':=s1.toks) (fun b u e=>Heap.get?_push_of_some _ e) (Nat.le_refl _) ?_,rfl,q _ hf⟩
 exact ⟨xg2 z,us,r,⟨_,Heap.get?_push_size _ rfl,rfl,_,rfl⟩⟩
theorem yd1 {es:List Expr} {t:TA} {pos:Pos} (h:PA X es t):PE X (.List es pos) (tLstS t):=by
 intro pins s σ H Q I hq
 refine wpAny_List_spliced (thn (h pos pins s σ H _ I hq) fun us s1 ⟨xs,H1,I1,r,z,q⟩=>⟨by rw [<- r.length]; exact xg2 z,?_⟩)
 have hf:H1 s1.heap.objs.size = none:=I1.hok.fresh (Nat.le_refl _)
 refine ⟨.ref s1.heap.objs.size,upd H1 s1.heap.objs.size (.lst xs),I1.laid (t':=s1.toks) (fun b u e=>Heap.get?_push_of_some _ e) (Nat.le_refl _) ?_,rfl,q _ hf⟩
 exact ⟨xg2 z,us,0,r,Heap.get?_push_size _ rfl⟩
end
theorem xa7 {t u:TS} {D:Ends} {σ:St} {H:Hp} (M:St -> Hp -> Prop) (h1:∀ N:St -> Hp -> Prop,(∀ σ' H',M σ' H' -> N σ' H') -> t { D with nx:=N } σ H) (h2:∀ σ' H',M σ' H' -> u D σ' H'):tSeq t u D σ H:=h1 (u D) h2
theorem xd6 {t t2 u:TS} {D:Ends} {σ:St} {H:Hp} (M:St -> Hp -> Prop) (h1:∀ N:St -> Hp -> Prop,(∀ σ' H',M σ' H' -> N σ' H') -> tSeq t t2 { D with nx:=N } σ H) (h2:∀ σ' H',M σ' H' -> u D σ' H'):tSeq t (tSeq t2 u) D σ H:=h1 (u D) h2
theorem xt7 {t t2 t3 u:TS} {D:Ends} {σ:St} {H:Hp} (M:St -> Hp -> Prop) (h1:∀ N:St -> Hp -> Prop,(∀ σ' H',M σ' H' -> N σ' H') -> tSeq t (tSeq t2 t3) { D with nx:=N } σ H) (h2:∀ σ' H',M σ' H' -> u D σ' H'):tSeq t (tSeq t2 (tSeq t3 u)) D σ H:=h1 (u D) h2
theorem seq_cut4 {t t2 t3 t4 u:TS} {D:Ends} {σ:St} {H:Hp} (M:St -> Hp -> Prop) (h1:∀ N:St -> Hp -> Prop,(∀ σ' H',M σ' H' -> N σ' H') -> tSeq t (tSeq t2 (tSeq t3 t4)) { D with nx:=N } σ H) (h2:∀ σ' H',M σ' H' -> u D σ' H'):tSeq t (tSeq t2 (tSeq t3 (tSeq t4 u))) D σ H:=h1 (u D) h2
section
variable {X:Cx}
theorem yc5 (K:Frag) (hK:X.K = K:=by rfl):SlR X (rSlL K):=by subst hK; exact sl_list
theorem xq5 (K:Frag) (hK:X.K = K:=by rfl):IxR X (rIxL K):=by subst hK; exact za5
theorem xx1 (K:Frag) (hK:X.K = K:=by rfl):IxR X (rIxT K):=by subst hK; exact ix_tup
theorem xy0 (K:Frag) (hK:X.K = K:=by rfl):xl4 X (.builtin "len") (fun xs H Q=>∃ p ys,xs = [.ref p] /\ (SqL K H p ys \/ SqT K H p ys) /\ Q (.int ys.length) H):=by subst hK; exact yk3
theorem xk8 {tg l:Expr} {tl:TE} (K:Frag) (hl:PE X l tl) (hK:X.K = K:=by rfl):PI X tg l (iList K tl):=by subst hK; exact pi_list hl
theorem yx9 {es:List Expr} {k:Nat} {t:TGs} {n:Nat} {pos:Pos} (K:Frag) (hc:X.calm = true) (h:PGs X es t) (hn:(assignEach es X.env).length = n:=by rfl) (hst:(assignEach es X.env).findIdx? (·.1) = none:=by rfl) (hK:X.K = K:=by rfl):PG X (.Tuple es k pos) (gTup K n t):=by subst hK; exact pg_tup hc h hn hst
theorem xe9 {e:Expr} {ta:TE} {f:Str} {pos:Pos} (K:Frag) (he:PE X e ta) (hb:attributeBase e f X.env (eval e X.env) = eval e X.env:=by rfl) (hK:X.K = K:=by rfl):PE X (.Attribute e f pos) (tFld K ta f):=by subst hK; exact pe_fld he hb
end
def xy4 (H H':Hp):Prop:=∀ b xs,H b = some (.tup xs) -> H' b = some (.tup xs)
theorem Same.tup {H H':Hp} (h:Same H H'):xy4 H H':=fun b xs e=>h b _ e
theorem xy4.trans {H H1 H2:Hp} (a:xy4 H H1) (b:xy4 H1 H2):xy4 H H2:=fun c o h=>b c o (a c o h)
theorem Same.upd {H H':Hp} {p:Addr} {o:HO} (s:Same H H') (h:H p = none):Same H (upd H' p o):=fun b u e=>by
 rw [xa3 (xb2 e h)]; exact s b u e
theorem Same.new {H:Hp} {p:Addr} {o:HO} (h:H p = none):Same H (L2.upd H p o):=(Same.refl H).upd h
theorem yr2 (xs:List V) (n:Nat):cutV xs none (some (n:Int)) = xs.take n:=by
 unfold cutV
 rw [HT.sIx_none,List.drop_zero,Nat.sub_zero]
 rw [HT.sIx_nat]
 by_cases h:n <= xs.length
 ·rw [Nat.min_eq_left h]
 ·rw [Nat.min_eq_right (by omega),List.take_length,List.take_of_length_le (by omega)]
def Itv (K:Frag) (a:Addr) (n:Nat):It :=
 ⟨fun i H=>i < n /\ ∃ xs,SqL K H a xs /\ xs.length = n,fun i H x H'=>H' = H /\ ∀ xs,SqL K H a xs -> xs[n - 1 - i]? = some x,fun i H=>i = n⟩
theorem turn_rev {P:Program} {w:World} {K:Frag} {tg:Expr} (a it:Addr) (n:Nat):Turn P w K tg (Itv K a n) [it] it (fun i h=>h.IsRevIter it a ((n:Int) - 1 - (i:Int))) where
 mem:=by simp
 obj:=fun i h st b hb=>by
  have e:b = it:=by simpa using hb
  subst e
  obtain ⟨o,e,c,d⟩:=st
  exact ⟨o,e,fun v z=>by rw [d] at z; cases z⟩
 keep:=fun i h h' st k=>st.at fun o e=>k it (by simp) o e
 item:=by
  intro X hP hw hK hc i pins s σ H E I hf st hg
  subst hP hw hK
  obtain ⟨hi,xs,hq,hn⟩:=hg
  obtain ⟨its,rv,p,hz⟩:=I.list hq
  obtain ⟨x,hx⟩:∃ x,xs[n - 1 - i]? = some x:=⟨_,List.getElem?_eq_getElem (by omega)⟩
  obtain ⟨u,hu,ru⟩:=rv.get hx
  obtain ⟨f0,f1,f2,f3,f4,f5⟩:=hf it (by simp)
  have e:(n:Int) - 1 - (i:Int) = ((n - 1 - i:Nat):Int):=by omega
  rw [e] at st
  refine wpAny_pyNext_rev_item st p.isList (x:=u) (by simpa using hu) fun h' st' sb=>?_
  have I1:Inv X pins σ H { s with heap:=h' }:=I.turned (t':=s.toks) (fun b o hb e=>(sb.2 b hb).trans e) f0 f1 f3 f4 f5
  obtain ⟨o,e1,c,d⟩:=id st'
  have e2:((n - 1 - i:Nat):Int) - 1 = (n:Int) - 1 - ((i + 1:Nat):Int):=by omega
  rw [e2] at st'
  exact ⟨u,rfl,yn1 (s:={ s with heap:=h' }) e1 c d (by decide) ⟨x,H,I1,ru,⟨rfl,fun ys hy=>by rw [I.list_inj hy hq]; exact hx⟩,st',fun b hb=>(hf b hb).1⟩⟩
 done:=by
  intro X hP hw hK hc i pins s σ H E I hf st hg
  subst hP hw hK
  have hg:i = n:=hg
  subst hg
  obtain ⟨f0,f1,f2,f3,f4,f5⟩:=hf it (by simp)
  have e:(i:Int) - 1 - (i:Int) = -1:=by omega
  rw [e] at st
  exact wpAny_pyNext_rev_end (I.ok.hd hc) st fun h' eb=>⟨rfl,I.turned (t':=s.toks) (fun b o hb e=>eb b o hb e) f0 f1 f3 f4 f5⟩
 self:=fun _ _ _ _ _ st h=>wpAny_pyIter_revIter st h
def iRev (K:Frag) (tl:TE):TI:=fun σ H R=>tl σ H fun x H1=>∃ a xs,x = .ref a /\ SqL K H1 a xs /\ R (Itv K a xs.length) H1
theorem yf1:bootBuiltins "reversed" = some (.type "reversed"):=by decide +kernel
theorem pi_rev {X:Cx} {tg l:Expr} {tl:TE} {p pos:Pos} (K:Frag) (hg:Gl X "reversed") (hm:X.mg "reversed" = none) (hl:PE X l tl) (he:starEach [l] X.env = [(false,eval l X.env)]:=by rfl) (hK:X.K = K:=by rfl) :
  PI X tg (.Call (.Name "reversed" p) [l] [] pos) (iRev K tl):=by
 subst hK
 intro pins s σ H R I h
 refine wpAny_Call_Name_kw (xw7 I hg hm yf1 ?_ (by decide) (by decide))
 refine PyProof.Rows.callWith_type1 (thn ((xa0 hl xa6 he) pos pins s σ H (fun vs H1=>match vs with | [x]=>∃ a xs,x = .ref a /\ SqL X.K H1 a xs /\ R (Itv X.K a xs.length) H1 | _=>False) I h) fun us s1 ⟨vs,H1,I1,r1,q1⟩=>?_) he rfl
 match vs,q1 with
 | [x],q1 =>
 obtain ⟨a,xs,rfl,hq,q⟩:=q1
 obtain ⟨u,rfl,rfl⟩:=xt1 r1
 obtain ⟨its,rv,pl,hz⟩:=I1.list hq
 refine call_reversed_list pl.isList ?_
 refine wpAny_pyIter_revIter (l:=a) (i:=(its.toArray.size:Int) - 1) ⟨_,Heap.get?_push_size _ rfl,rfl,rfl⟩ ?_
 refine ⟨s1.heap.objs.size,[s1.heap.objs.size],_,_,H1,rfl,I1.kept (t':=s1.toks) fun b o e=>Heap.get?_push_of_some _ e,turn_rev a _ xs.length,⟨_,Heap.get?_push_size _ rfl,rfl,?_⟩,fun b hb=>?_,q⟩
 ·have e:((xs.length:Nat):Int) - 1 - ((0:Nat):Int) = (its.toArray.size:Int) - 1:=by rw [rv.length]; simp
  rw [e]
  rfl
 ·have e:b = s1.heap.objs.size:=by simpa using hb
  subst e
  exact I1.fpOk (Nat.le_refl _) (I1.hok.fresh (Nat.le_refl _))
theorem for_rev {K:Frag} {a:Addr} {xs:List V} {g:TG} {tb:TS} {D:Ends} {σ:St} {H:Hp} (Pv:Nat -> St -> Hp -> Prop) (h0:Pv 0 σ H) (hl:∀ i σ H,i <= xs.length -> Pv i σ H -> SqL K H a xs)
  (hs:∀ i x σ H,i < xs.length -> xs[xs.length - 1 - i]? = some x -> Pv i σ H -> g x σ H fun σ2 H2=>tb { D with nx:=Pv (i + 1),ct:=Pv (i + 1),bk:=D.nx } σ2 H2) (hd:∀ σ H,Pv xs.length σ H -> D.nx σ H) :
  ∃ W:Nat -> Nat -> St -> Hp -> Prop,(∃ m,W 0 m σ H) /\ ∀ i m σ H,W i m σ H ->
   ((Itv K a xs.length).stop i H /\ D.nx σ H) \/ ((Itv K a xs.length).go i H /\ ∃ N:St -> Hp -> Prop,(∀ σ' H',N σ' H' -> ∃ m',m' < m /\ W (i + 1) m' σ' H') /\ ∀ x H',(Itv K a xs.length).yld i H x H' -> g x σ H' fun σ2 H2=>tb { D with nx:=N,ct:=N,bk:=D.nx } σ2 H2):=by
 refine ⟨fun i m σ H=>m = xs.length - i /\ i <= xs.length /\ Pv i σ H,⟨xs.length,by simp,Nat.zero_le _,h0⟩,?_⟩
 rintro i m σ H ⟨rfl,hi,p⟩
 have q:=hl i σ H hi p
 by_cases hlt:i < xs.length
 ·refine .inr ⟨⟨hlt,xs,q,rfl⟩,Pv (i + 1),fun σ' H' p'=>⟨xs.length - (i + 1),by omega,rfl,hlt,p'⟩,fun x H' y=>?_⟩
  obtain ⟨e,y⟩:=y
  subst e
  exact hs i x σ _ hlt (y xs q) p
 ·have e:i = xs.length:=by omega
  subst e
  exact .inl ⟨rfl,hd σ H p⟩
def rIxH:R2:=fun x y H Q=>∃ p xs i v,x = .ref p /\ y = .int i /\ H p = some (.lst xs) /\ atI xs i = some v /\ Q v H
theorem ix_lst {X:Cx}:IxR X rIxH:=fun value slice pins s σ H x y v u Q I rx ry h hs =>
 za5 value slice pins s σ H x y v u Q I rx ry (let ⟨p,xs,i,w,e1,e2,e3,e4,q⟩:=h; ⟨p,xs,i,w,e1,e2,SqL.of e3,e4,q⟩) hs
theorem atI_0 {α:Type} (a:α) (l:List α):atI (a :: l) 0 = some a:=by exact xp1 (j:=0) rfl
theorem atI_1 {α:Type} (a b:α) (l:List α):atI (a :: b :: l) 1 = some b:=by exact xp1 (j:=1) rfl
section
variable {X:Cx}
end
def ze6 (h:Heap) (ea T:Addr) (cls:Value) (dx:Option Addr) (fl:Value):Prop :=
 ∃ oe vs oT ts a0,h.get? ea = some oe /\ oe.cls = cls /\ oe.dict = dx /\ oe.data = .fields vs /\ vs[0]? = some a0 /\ vs[1]? = some (.ref T) /\ T ≠ ea /\ h.get? T = some oT /\ oT.data = .fields ts /\ ts[3]? = some fl
abbrev Fly (h:Heap) (ea T:Addr) (cls:Value) (dx:Option Addr):Prop:=ze6 h ea T cls dx .none
def Made (h:Heap) (ea:Addr) (cls:Value) (dx:Option Addr):Prop:=∃ oe vs a0,h.get? ea = some oe /\ oe.cls = cls /\ oe.dict = dx /\ oe.data = .fields vs /\ vs[0]? = some a0 /\ vs[1]? = some .none /\ vs[2]? = some .none /\ 4 < vs.size
structure Moved (h h':Heap) (fs ch:List Addr):Prop where
 keep:∀ b o,h.get? b = some o -> b ∉ ch -> b ∉ fs -> h'.get? b = some o
 slot:∀ b o,h.get? b = some o -> b ∉ ch -> b ∈ fs -> ∃ sl,h'.get? b = some { o with slots:=sl }
theorem Moved.one {h h':Heap} {fs:List Addr} {T:Addr} (k:∀ b,b ≠ T -> h'.get? b = h.get? b):Moved h h' fs [T] :=
 ⟨fun b o e n _=>by rw [k b (by simpa using n)]; exact e,fun b o e n _=>⟨o.slots,by rw [k b (by simpa using n)]; exact e⟩⟩
theorem Moved.trans {h h1 h2:Heap} {fs ch ch':List Addr} (a:Moved h h1 fs ch) (b:Moved h1 h2 fs ch'):Moved h h2 fs (ch ++ ch') :=
 ⟨fun c o e n m=>b.keep c o (a.keep c o e (fun z=>n (List.mem_append_left _ z)) m) (fun z=>n (List.mem_append_right _ z)) m,fun c o e n m=>by
  obtain ⟨sl,e1⟩:=a.slot c o e (fun z=>n (List.mem_append_left _ z)) m
  obtain ⟨sl',e2⟩:=b.slot c _ e1 (fun z=>n (List.mem_append_right _ z)) m
  exact ⟨sl',e2⟩⟩
theorem Moved.less {h h':Heap} {fs ch:List Addr} (a:Moved h h' fs ch) {ch':List Addr} (k:∀ b ∈ ch,b ∈ ch' \/ h.get? b = none):Moved h h' fs ch' :=
 have z:∀ b o,h.get? b = some o -> b ∉ ch' -> b ∉ ch:=fun b o e n m=>(k b m).elim n fun q=>by rw [e] at q; cases q
 ⟨fun b o e n m=>a.keep b o e (z b o e n) m,fun b o e n m=>a.slot b o e (z b o e n) m⟩
theorem dict_map (o:Obj) (g):(o.mapFields g).dict = o.dict:=by
 cases o with
 | mk c d dt sl=>cases dt <;> rfl
section
variable {M:Model} {A:Around} {E:Value -> Shared -> Prop} {s:Shared} {env:Env} {outer:List Env} {base:Heap} {L ea T:Addr} {cls fl:Value} {dx:Option Addr} {Q:Unit -> Shared -> Prop}
theorem yq8 {head:Value} {had:Bool} {oe:Obj} {vs:Array Value} {a0:Value} (hfr:A.frames = some (env :: outer)) (hl:s.heap.FunFrames base (env :: outer)) (hf:env.frame = some L)
  (e1:s.heap.get? ea = some oe) (e2:oe.cls = cls) (e3:oe.dict = dx) (e4:oe.data = .fields vs) (e5:vs[0]? = some a0) (e6:1 < vs.size)
  (h:∀ h' T',ze6 h' ea T' cls dx (rawInt L) -> s.heap.get? T' = none -> Moved s.heap h' (frs (env :: outer)) [ea] -> Q () { s with heap:=h' }) :
  wpAny M A (do let a <- frameOf env; let pl <- entryPlaceOf L had; let b <- EntryCells.newEntry head a .none (rawInt L) .none pl; setField (.ref ea) 1 b) Q E s:=by
 have nfr:ea ∉ frs (env :: outer):=fun m=>by
  obtain ⟨_,o',q1,q2⟩:=hl.mem m
  rw [e1] at q1
  cases q1
  exact q2 vs e4
 refine wpAny_bind (wpAny_frameOf_fun hfr hl hf fun g1 so=>wpAny_bind (wpAny_entryPlaceOf fun pl isp=>?_))
 unfold EntryCells.newEntry newFields
 refine wpAny_bind (wpAny_newObj_type ?_ (isp.sizeOk5 _ _ _ _ _))
 have at1:g1.get? ea = some oe:=(so.2.1 ea nfr).trans e1
 have neT:g1.objs.size ≠ ea:=Nat.ne_of_gt (Heap.lt_size at1)
 have len5:∀ (l:List Value),(([head,.ref L,.none,rawInt L,.none] ++ l).toArray)[3]? = some (rawInt L):=fun l=>by simp
 generalize ho:({ cls:=.type "traceback",dict:=none,data:=.fields ([head,.ref L,.none,rawInt L,.none] ++ (if pl.isEmpty then List.replicate 6 Value.none else pl)).toArray }:Obj) = ot
 have hod:ot.data = .fields ([head,.ref L,.none,rawInt L,.none] ++ (if pl.isEmpty then List.replicate 6 Value.none else pl)).toArray:=by rw [<- ho]
 have hnf:ot.isFreed = false:=Obj.isFreed_of_fields hod
 have at2:(g1.push ot).get? ea = some oe:=Heap.get?_push_of_some _ at1
 refine wpAny_setField at2 e4 e6 (h _ g1.objs.size ?_ ?_ ?_)
 ·have fd:=Obj.data_mapFields e4 (·.setIfInBounds 1 (Value.ref g1.objs.size))
  refine ⟨_,_,ot,_,a0,Heap.get?_update_self _ at2 (Obj.isFreed_of_fields fd),by rw [Obj.cls_mapFields]; exact e2,by rw [dict_map]; exact e3,fd,by rw [Array.getElem?_setIfInBounds_ne (by decide)]; exact e5,by simp [e6],neT,?_,hod,len5 _⟩
  rw [Heap.get?_update_other _ _ (Ne.symm neT)]
  exact Heap.get?_push_size g1 hnf
 ·exact Heap.get?_none_of_le (by rw [so.1]; exact Nat.le_refl _)
 ·refine ⟨fun b o q n1 n2=>?_,fun b o q n1 n2=>?_⟩
  ·rw [Heap.get?_update_other _ _ (fun z=>n1 (by simp [z]))]
   exact Heap.get?_push_of_some _ ((so.2.1 b n2).trans q)
  ·obtain ⟨sl,q2⟩:=so.2.2 b o q
   refine ⟨sl,?_⟩
   rw [Heap.get?_update_other _ _ (fun z=>n1 (by simp [z]))]
   exact Heap.get?_push_of_some _ q2
theorem note_new (hfr:A.frames = some (env :: outer)) (hl:s.heap.FunFrames base (env :: outer)) (hf:env.frame = some L) (m:Made s.heap ea cls dx)
  (h:∀ h' T',ze6 h' ea T' cls dx (rawInt L) -> s.heap.get? T' = none -> Moved s.heap h' (frs (env :: outer)) [ea] -> Q () { s with heap:=h' }):wpAny M A (noteFrame (.ref ea) env) Q E s:=by
 obtain ⟨oe,vs,a0,e1,e2,e3,e4,e5,e6,_⟩:=m
 unfold noteFrame
 simp only [hf]
 refine wpAny_bind (wpAny_field e1 e4 e6 ?_)
 rw [if_neg (by decide)]
 exact yq8 hfr hl hf e1 e2 e3 e4 e5 (Array.getElem?_eq_some_iff.mp e6).1 h
theorem note_on (hfr:A.frames = some (env :: outer)) (hl:s.heap.FunFrames base (env :: outer)) (hf:env.frame = some L) (m:Fly s.heap ea T cls dx)
  (h:∀ h' T',ze6 h' ea T' cls dx (rawInt L) -> s.heap.get? T' = none -> Moved s.heap h' (frs (env :: outer)) [T,ea] -> Q () { s with heap:=h' }):wpAny M A (noteFrame (.ref ea) env) Q E s:=by
 obtain ⟨oe,vs,oT,ts,a0,e1,e2,e3,e4,e5,e6,e7,e8,e9,e10⟩:=m
 unfold noteFrame
 simp only [hf]
 refine wpAny_bind (wpAny_field e1 e4 e6 ?_)
 rw [if_pos (by simp)]
 refine wpAny_bind (wpAny_field e8 e9 e10 ?_)
 rw [if_neg (by simp [rawInt])]
 refine wpAny_bind (wpAny_setField e8 e9 (Array.getElem?_eq_some_iff.mp e10).1 ?_)
 have oth:∀ b,b ≠ T -> (s.heap.update T (Obj.mapFields (·.setIfInBounds 3 Value.none))).get? b = s.heap.get? b:=fun b n=>Heap.get?_update_other _ _ (Ne.symm n)
 have rec':∀ b o,s.heap.get? b = some o -> (∀ vs,o.data ≠ .fields vs) -> b ≠ T:=fun b o q nf z=>by
  rw [z,e8] at q
  cases q
  exact nf ts e9
 have mv:=Moved.one (fs:=frs (env :: outer)) oth
 refine yq8 (s:={ s with heap:=_ }) hfr (hl.of_keeps fun b o q nf=>⟨o,(oth b (rec' b o q nf)).trans q,rfl⟩) hf ((oth ea (Ne.symm e7)).trans e1) e2 e3 e4 e5 (Array.getElem?_eq_some_iff.mp e6).1 fun h' T' f1 f2 f3=>h h' T' f1 ?_ (mv.trans f3)
 cases q:s.heap.get? T' with
 | none=>rfl
 | some o =>
  by_cases z:T' = T
  ·rw [z,Heap.get?_update_self _ e8 (Obj.isFreed_of_fields (Obj.data_mapFields e9 _))] at f2; cases f2
  ·rw [oth T' z,q] at f2; cases f2
theorem xr9 (m:ze6 s.heap ea T cls dx fl) (h:∀ h',Fly h' ea T cls dx -> (∀ b,b ≠ T -> h'.get? b = s.heap.get? b) -> Q () { s with heap:=h' }):wpAny M A (setFlight (.ref ea) none) Q E s:=by
 obtain ⟨oe,vs,oT,ts,a0,e1,e2,e3,e4,e5,e6,e7,e8,e9,e10⟩:=m
 have sz:3 < ts.size:=(Array.getElem?_eq_some_iff.mp e10).1
 unfold setFlight
 refine wpAny_bind (wpAny_field e1 e4 e6 ?_)
 rw [if_pos (by simp)]
 have oth:∀ b,b ≠ T -> (s.heap.update T (Obj.mapFields (·.setIfInBounds 3 Value.none))).get? b = s.heap.get? b:=fun b n=>Heap.get?_update_other _ _ (Ne.symm n)
 refine wpAny_setField e8 e9 sz (h _ ⟨oe,vs,_,_,a0,(oth ea (Ne.symm e7)).trans e1,e2,e3,e4,e5,e6,e7,Heap.get?_update_self _ e8 (Obj.isFreed_of_fields (Obj.data_mapFields e9 _)),Obj.data_mapFields e9 _,by simp [sz]⟩ oth)
theorem ym6 (hfr:A.frames = some (env :: outer)) (hl:s.heap.FunFrames base (env :: outer)) (hf:env.frame = some L) (m:Made s.heap ea cls dx)
  (h:∀ h' T',Fly h' ea T' cls dx -> s.heap.get? T' = none -> Moved s.heap h' (frs (env :: outer)) [ea] -> Q () { s with heap:=h' }):wpAny M A (leaving env (.ref ea)) Q E s:=by
 unfold leaving
 refine wpAny_bind (note_new hfr hl hf m fun h1 T1 f1 f2 f3=>?_)
 refine xr9 (s:={ s with heap:=h1 }) f1 fun h2 f4 f5=>h h2 T1 f4 f2 ?_
 exact (f3.trans (Moved.one f5)).less fun b hb=>(List.mem_append.mp hb).imp id fun z=>by rw [List.mem_singleton] at z; rw [z]; exact f2
theorem yz5 (hfr:A.frames = some (env :: outer)) (hl:s.heap.FunFrames base (env :: outer)) (hf:env.frame = some L) (m:Fly s.heap ea T cls dx)
  (h:∀ h' T',Fly h' ea T' cls dx -> s.heap.get? T' = none -> Moved s.heap h' (frs (env :: outer)) [ea,T] -> Q () { s with heap:=h' }) :
  wpAny M A (noteFrame (.ref ea) env) (fun _ s2=>wpAny M A (setFlight (.ref ea) none) Q E s2) E s:=by
 refine note_on hfr hl hf m fun h1 T1 f1 f2 f3=>?_
 refine xr9 (s:={ s with heap:=h1 }) f1 fun h2 f4 f5=>h h2 T1 f4 f2 ?_
 refine (f3.trans (Moved.one f5)).less fun b hb=>?_
 rcases List.mem_append.mp hb with z | z
 ·exact .inl (by simp at z ⊢; exact z.symm)
 ·rw [List.mem_singleton] at z; rw [z]; exact .inr f2
theorem leave_on (hfr:A.frames = some (env :: outer)) (hl:s.heap.FunFrames base (env :: outer)) (hf:env.frame = some L) (m:Fly s.heap ea T cls dx)
  (h:∀ h' T',Fly h' ea T' cls dx -> s.heap.get? T' = none -> Moved s.heap h' (frs (env :: outer)) [ea,T] -> Q () { s with heap:=h' }):wpAny M A (leaving env (.ref ea)) Q E s:=by
 unfold leaving
 exact wpAny_bind (yz5 hfr hl hf m h)
end
theorem xe1.there {P:Program} {w:World} {H:Hp} {h:Heap} {a:Addr} {o:HO} (x:xe1 P w H h a o):∃ u,h.get? a = some u:=by
 cases o with
 | lst xs=>obtain ⟨_,_,_,_,e⟩:=x; exact ⟨_,e⟩
 | tup xs=>obtain ⟨_,_,_,o,e,_⟩:=x; exact ⟨_,e⟩
 | dK kvs=>obtain ⟨_,_,_,_,o,_,_,e,_⟩:=x; exact ⟨_,e⟩
 | dT kvs=>obtain ⟨_,_,_,_,o,_,_,e,_⟩:=x; exact ⟨_,e⟩
 | set S n=>obtain ⟨o,_,_,_,e,_⟩:=x; exact ⟨_,e⟩
 | ins C dx fs=>obtain ⟨_,_,_,e,_⟩:=x; exact ⟨_,e⟩
 | own y=>exact x
 | xd fs=>obtain ⟨_,⟨_,_,_,e,_⟩,_⟩:=x; exact ⟨_,e⟩
 | rng lo hi=>obtain ⟨_,_,_,e⟩:=x; exact ⟨_,e⟩
 | frz ob u=>obtain ⟨e,_⟩:=x; exact ⟨_,e⟩
 | tbl ps=>exact ⟨_,x⟩
 | met f y=>exact ⟨_,x⟩
 | ext φ=>exact x.2.1
theorem HOk.none_of {P:Program} {w:World} {H:Hp} {h:Heap} (k:HOk P w H h) {a:Addr} (e:h.get? a = none):H a = none:=by
 cases q:H a with
 | none=>rfl
 | some o=>obtain ⟨u,e2⟩:=(k a o q).there; rw [e] at e2; cases e2
section
variable {X:Cx} {pins:List (Addr × Obj)} {σ:St} {H:Hp} {s:Shared} {h':Heap}
theorem Inv.moved {ch:List Addr} (I:Inv X pins σ H s) (m:Moved s.heap h' (frs X.stack) ch) (hn:∀ b ∈ ch,H b = none) (h0:∀ b ∈ ch,X.s₀.heap.get? b = none) (hL:∀ b ∈ ch,b ≠ X.env.locals)
  (hc:∀ b ∈ ch,∀ x c,X.env.cells.lookup x = some c -> c ≠ b) (hp:∀ b ∈ ch,∀ p ∈ X.pn ++ pins,p.1 ≠ b):Inv X pins σ H { s with heap:=h' }:=by
 have any:∀ b o,b ∉ ch -> s.heap.get? b = some o -> ∃ sl,h'.get? b = some { o with slots:=sl }:=fun b o hb e=>by
  by_cases m1:b ∈ frs X.stack
  ·exact m.slot b o e hb m1
  ·exact ⟨o.slots,m.keep b o e hb m1⟩
 have neC:∀ b o,X.s₀.heap.get? b = some o -> b ∉ ch:=fun b o e hb=>by rw [h0 b hb] at e; cases e
 have neL:∀ b o,X.s₀.heap.get? b = some o -> b ≠ X.env.locals:=fun b o e=>Nat.ne_of_lt (Nat.lt_of_lt_of_le (Heap.lt_size e) I.ok.above)
 have nst:∀ b,b ≠ X.env.locals -> b ∉ X.fs -> b ∉ frs X.stack:=fun b h1 h2 h3=>(List.mem_cons.mp (I.stkSub b h3)).elim h1 h2
 have cellK:∀ x c,X.env.cells.lookup x = some c -> ∀ v,s.heap.IsCell c v -> h'.IsCell c v:=fun x c e v ⟨o,ho,hd⟩=>by
  obtain ⟨sl,q⟩:=any c o (fun z=>hc c z x c e rfl) ho
  exact ⟨_,q,hd⟩
 have trk:∀ b u,H b = some u -> b ∉ ch /\ b ∉ frs X.stack:=fun b u e=>⟨fun z=>(by rw [hn b z] at e; cases e),fun z=>(by rw [I.stkFree b z] at e; cases e)⟩
 refine ⟨I.ok,I.os,I.bare,⟨fun b o e n hb hx=>?_,fun b o e n hb hx=>?_,I.base.free,fun b o e hx=>?_,I.base.tups,I.base.frzs,I.base.tbls⟩,?_,fun x c e=>?_,I.free,I.freeC,fun p hq=>?_,fun b u e=>?_,I.len⟩
 ·exact m.keep b o (I.base.keep b o e n hb hx) (neC b o e) (nst b (neL b o e) hb)
 ·obtain ⟨sl,e1⟩:=I.base.slot b o e n hb hx
  obtain ⟨sl',e2⟩:=any b _ (neC b o e) e1
  exact ⟨sl',e2⟩
 ·obtain ⟨o',e1⟩:=I.base.there b o e hx
  obtain ⟨sl,e2⟩:=any b o' (neC b o e) e1
  exact ⟨_,e2⟩
 ·obtain ⟨mm,⟨o,es,ep,ho,r⟩,hl⟩:=I.loc
  obtain ⟨sl,e2⟩:=any _ o (fun z=>hL _ z rfl) ho
  refine ⟨mm,⟨_,es,ep,e2,r⟩,fun i x v e1 e2 e3=>?_⟩
  obtain ⟨u,rr,l⟩:=hl i x v e1 e2 e3
  refine ⟨u,rr,?_⟩
  rcases l with l | ⟨k,c,e,z⟩
  ·exact .inl l
  ·exact .inr ⟨k,c,e,cellK x c e _ z⟩
 ·obtain ⟨v,z⟩:=I.cell x c e
  exact ⟨v,cellK x c e v z⟩
 ·obtain ⟨e,n,ne,nf,d⟩:=I.pin p hq
  exact ⟨m.keep p.1 p.2 e (fun z=>hp _ z p hq rfl) (nst _ ne nf),n,ne,nf,d⟩
 ·refine (I.hok b u e).stay (fun c v hcv q=>?_) (fun _ q=>q) fun _ _ q=>q
  have z:c ∉ ch /\ c ∉ frs X.stack:=by
   rcases hcv with rfl | hcv
   ·exact trk c u e
   ·exact trk c _ hcv
  exact m.keep c v q z.1 z.2
structure Apart (X:Cx) (pins:List (Addr × Obj)) (H:Hp) (b:Addr):Prop where
 trk:H b = none
 old:X.s₀.heap.get? b = none
 loc:b ≠ X.env.locals
 cell:∀ x c,X.env.cells.lookup x = some c -> c ≠ b
 pin:∀ p ∈ X.pn ++ pins,p.1 ≠ b
theorem Inv.moved' {ch:List Addr} (I:Inv X pins σ H s) (m:Moved s.heap h' (frs X.stack) ch) (ha:∀ b ∈ ch,Apart X pins H b):Inv X pins σ H { s with heap:=h' } :=
 I.moved m (fun b hb=>(ha b hb).trk) (fun b hb=>(ha b hb).old) (fun b hb=>(ha b hb).loc) (fun b hb=>(ha b hb).cell) fun b hb=>(ha b hb).pin
theorem Inv.apart (I:Inv X pins σ H s) (hx:X.ex = []) {b:Addr} (e:s.heap.get? b = none):Apart X pins H b:=by
 refine ⟨I.hok.none_of e,?_,?_,fun x c hc z=>?_,fun p hp z=>?_⟩
 ·cases q:X.s₀.heap.get? b with
  | none=>rfl
  | some o =>
   obtain ⟨o',e1⟩:=I.base.there b o q (by rw [hx]; simp)
   rw [e] at e1; cases e1
 ·rintro rfl
  obtain ⟨m,⟨o,_,_,ho,_⟩,_⟩:=I.loc
  rw [e] at ho; cases ho
 ·obtain ⟨v,o,ho,_⟩:=I.cell x c hc
  rw [z,e] at ho; cases ho
 ·have:=(I.pin p hp).1
  rw [z,e] at this; cases this
end
def CXE (P:Program) (w:World):CXT:=fun outer H s E e s'=>∃ (ea T:Addr) (cls:Value) (dx:Option Addr) (H':Hp),e = .ref ea /\ s'.os = s.os /\ AllBare s'.gens /\ Un (frs outer) [] H H' s.heap s'.heap /\ HOk P w H' s'.heap /\
 H' ea = none /\ H' T = none /\ s.heap.get? ea = none /\ s.heap.get? T = none /\ Fly s'.heap ea T cls dx /\ E cls dx H'
theorem xb6 {P:Program} {w:World} {X:Cx}:xy5 (CXE P w) X E0:=fun _ _ _ _ _ _ _ ⟨_,_,_,_,_,_,_,_,_,_,_,_,_,_,_,f⟩=>f.elim
section
variable {P:Program} {w:World} {K:Frag} {mg:Str -> Option Value} {base:Heap} {N:List Str} {qual:Str} {scope:Scope} {f:Addr} {cd:Value} {A:Around} {outer:List Env} {s₀:Shared} {H₀:Hp} {E:XK}
abbrev cxE (P:Program) (w:World) (K:Frag) (mg:Str -> Option Value) (base:Heap) (N:List Str) (qual:Str) (scope:Scope) (f:Addr) (cd:Value) (A:Around) (outer:List Env) (s₀:Shared) (H₀:Hp) (E:XK):Cx :=
 cxOf (CXE P w) P w K mg base N qual scope f cd A outer s₀ H₀ E
theorem throw_ok {pins:List (Addr × Obj)} {σ:St} {H:Hp} {s:Shared} {ea:Addr} {cls:Value} {dx:Option Addr} (I:Inv (cxE P w K mg base N qual scope f cd A outer s₀ H₀ E) pins σ H s) (m:Made s.heap ea cls dx) (a:Apart (cxE P w K mg base N qual scope f cd A outer s₀ H₀ E) pins H ea) (e:E cls dx H) :
  (cxE P w K mg base N qual scope f cd A outer s₀ H₀ E).xe (.ref ea) s:=by
 refine ym6 (base:=base) (outer:=outer) I.ok.frames I.stack rfl m fun h' T' fl nT mv=>?_
 have I':=I.moved' mv fun b hb=>by
  rcases List.mem_cons.mp hb with rfl | hb
  ·exact a
  ·cases hb
 have aT:=I.apart rfl nT
 exact ⟨ea,T',cls,dx,H,rfl,I'.os,I'.bare,I'.base,I'.hok,a.trk,aT.trk,a.old,aT.old,fl,e⟩
theorem xn2:xy5 (CXE P w) (cxE P w K mg base N qual scope f cd A outer s₀ H₀ E) E:=by
 intro pins σ H s e s' I h
 obtain ⟨ea,T,cls,dx,H',rfl,h1,h2,h3,h4,h5,h6,h7,h8,h9,h10⟩:=h
 have a1:=I.apart rfl h7
 have a2:=I.apart rfl h8
 have I':=I.call' h1 h3 h4 h2 (by intro b hb; cases hb)
 refine leave_on (base:=base) (outer:=outer) I'.ok.frames I'.stack rfl h9 fun h' T' fl nT mv=>?_
 have I2:=I'.moved' mv fun b hb=>by
  rcases List.mem_cons.mp hb with rfl | hb
  ·exact ⟨h5,a1.old,a1.loc,a1.cell,a1.pin⟩
  ·rcases List.mem_cons.mp hb with rfl | hb
   ·exact ⟨h6,a2.old,a2.loc,a2.cell,a2.pin⟩
   ·cases hb
 have aT:=I'.apart rfl nT
 exact ⟨ea,T',cls,dx,H',rfl,I2.os,I2.bare,I2.base,I2.hok,h5,aT.trk,a1.old,aT.old,fl,h10⟩
end
abbrev yv6:List Value:=[.type "ValueError",.type "Exception",.type "BaseException",.type "object"]
abbrev ExcC (K:Frag) (C:Addr):Prop:=excIn K C yv6 "ValueError.__new__" = true
theorem exc_of {K:Frag} {g:Heap} {C:Addr} (kin:K.In g) (isx:ExcC K C):∃ nm qn N bs bm hdct sn sub ab col dd k0 k1 k2 k3 k5 mN,g.get? C = some (excClassObj nm qn C N bs bm hdct sn sub ab col dd k0 k1 k2 k3 k5 "ValueError.__new__") /\
  g.Ns N mN /\ mN "__init__" = none /\ OwnTail g yv6 bm:=by
 unfold ExcC excIn at isx
 split at isx
 next dct cdat slo look =>
  split at isx
  next C2 tail s0 s1 s2 s3 made s5 mro slots =>
   simp only [Bool.and_eq_true,beq_iff_eq,Bool.not_eq_true'] at isx
   obtain ⟨⟨⟨⟨⟨e1,e2⟩,e3⟩,e4⟩,e5⟩,e6⟩:=isx
   cases cdat with
   | mk z1 z2 z3 z4 z5 z6 z7 z8 z9 z10 z11 =>
    dsimp only at mro e3 e5 e6
    subst e1 e2 mro e3
    cases slo with
    | mk lst =>
     dsimp only at slots
     subst slots
     exact ⟨_,_,_,_,_,_,_,_,_,_,_,_,_,_,_,_,_,kin _ _ look,.of_isNs (isNs_of_in kin e5),nsMap_none_of_in kin e5 e6,tail_of_in kin e4⟩
  next=>cases isx
 next=>cases isx
def tRaise (E:XK) (C:Addr) (t:TA):TS:=fun _ σ H=>t σ H fun vs H1=>vs.length <= 1000 /\ E (.ref C) none H1
section
variable {P:Program} {w:World} {K:Frag} {mg:Str -> Option Value} {base:Heap} {N:List Str} {qual:Str} {scope:Scope} {f:Addr} {cd:Value} {A:Around} {outer:List Env} {s₀:Shared} {H₀:Hp} {E:XK}
theorem xj1 {x:Str} {e:Expr} {es:List Expr} {t:TA} {C:Addr} {np cpos pos:Pos} (isx:ExcC K C) (hg:Gl (cxE P w K mg base N qual scope f cd A outer s₀ H₀ E) x) (hm:mg x = some (.ref C)) (ha:PA (cxE P w K mg base N qual scope f cd A outer s₀ H₀ E) (e :: es) t)
  (hdb:(x == ("__debug__" : Str)) = false:=by decide) (he:starEach (e :: es) (cxE P w K mg base N qual scope f cd A outer s₀ H₀ E).env = (false,eval e (cxE P w K mg base N qual scope f cd A outer s₀ H₀ E).env) :: starEach es (cxE P w K mg base N qual scope f cd A outer s₀ H₀ E).env:=by rfl)
  (hpl:(backTo cpos (starEach (e :: es) (cxE P w K mg base N qual scope f cd A outer s₀ H₀ E).env)).any (·.1) = false:=by rfl) :
  PS (cxE P w K mg base N qual scope f cd A outer s₀ H₀ E) (.Raise (some (.Call (.Name x np) (e :: es) [] cpos)) none pos) (tRaise E C t):=by
 intro pins s σ H D I h
 obtain ⟨nm,qn,NN,bs,bm,hdct,sn,sub,ab,col,dd,k0,k1,k2,k3,k5,mN,c1,c2,c3,c4⟩:=exc_of I.mod.kin isx
 refine wpAny_Raise_call_subT (C:=C) (nm:=nm) (q:=qn) (N:=NN) (bs:=bs) (bm:=bm) (hdct:=hdct) (sn:=sn) (sub:=sub) (ab:=ab) (col:=col) (dd:=dd) (k0:=k0) (k1:=k1) (k2:=k2) (k3:=k3) (k5:=k5) PySem.F.excBase_ValueError (c4.hasType PySem.F.excBase_ValueError.hasBase) (I.ok.hd rfl) hpl c3 ?_
 refine xw6 I hg hm ⟨rfl,?_⟩ hdb
 have q:=ha cpos pins s σ H _ I h
 rw [he] at q ⊢
 refine PySem.Calls.evalArgs_plain (thn q fun us s1 ⟨vs,H1,I1,r,q1⟩=>?_)
 refine ⟨rfl,by rw [<- r.length]; exact xg2 q1.1,I1.bk _ _ c1,c2.keeps I1.bk,c4.keeps I1.bk,fun h' ea md=>?_⟩
 have I2:Inv _ pins σ H1 { s1 with heap:=h' }:=I1.kept (t':=s1.toks) md.keeps
 obtain ⟨tp,e1,_,_⟩:=md.there
 refine throw_ok (cls:=.ref C) (dx:=none) I2 ⟨_,_,_,e1,rfl,rfl,rfl,rfl,rfl,rfl,by show 4 < 6; decide⟩ ?_ q1.2
 have a:=I1.apart rfl md.new
 exact ⟨a.trk,a.old,a.loc,a.cell,a.pin⟩
theorem Fun.okE {x:Str} {st:Stmt} {fd:FuncData} {N ps:List Str} {k:Nat} {sp:Sp} (F:Fun K x qual st f fd) (S:FnScope N ps (xa2 st)) (len:∀ vs H Q E,sp vs H Q E -> vs.length = ps.length)
  (hbody:∀ (cdv:Value) (A:Around) (outer:List Env) (s:Shared) (H:Hp) (vs:List V) (Q:VK) (E:XK),Room k (A.deeper (envOfC qual (xa2 st) s.heap.objs.size f cdv)) -> sp vs H Q E ->
   ∃ t,PSs (cxE P w K mg base N qual (xa2 st) f cdv A outer s H E) (xb3 st) t /\ t { nx:=fun _ H'=>Q .non H',rt:=Q } (start N vs) H):FnOk P w K mg base (CXE P w) (k + 1) f fd ps sp:=by
 obtain ⟨oc,od,kV,doc,pm,an,cdv,ct,osl,rfl,lk,hcd⟩:=F.ex
 exact fn_of lk hcd S len fun A outer s H vs Q E hr hsp=>hbody cdv A outer s H vs Q E hr hsp
theorem Fun.okN {x:Str} {st:Stmt} {fd:FuncData} {N ps:List Str} {k:Nat} {sp:Sp} (F:Fun K x qual st f fd) (S:FnScope N ps (xa2 st)) (len:∀ vs H Q E,sp vs H Q E -> vs.length = ps.length)
  (hbody:∀ (cdv:Value) (A:Around) (outer:List Env) (s:Shared) (H:Hp) (vs:List V) (Q:VK) (E:XK),Room k (A.deeper (envOfC qual (xa2 st) s.heap.objs.size f cdv)) -> sp vs H Q E ->
   ∃ t,PSs (cxE P w K mg base N qual (xa2 st) f cdv A outer s H E).nox (xb3 st) t /\ t { nx:=fun _ H'=>Q .non H',rt:=Q } (start N vs) H):FnOk P w K mg base (CXE P w) (k + 1) f fd ps sp :=
 F.okE S len fun cdv A outer s H vs Q E hr hsp=>let ⟨t,h,q⟩:=hbody cdv A outer s H vs Q E hr hsp; ⟨t,h.nox,q⟩
end
def XP (X:Cx) (pins:List (Addr × Obj)) (σ:St) (E:XK) (e:Value) (s':Shared):Prop:=∃ ea T cls dx H',e = .ref ea /\ Inv X pins σ H' s' /\ Apart X pins H' ea /\ Apart X pins H' T /\ Fly s'.heap ea T cls dx /\ E cls dx H'
def PX (X:Cx) (e:Expr) (t:XK -> TE):Prop :=
 ∀ (pins:List (Addr × Obj)) (s:Shared) (σ:St) (H:Hp) (Q:VK) (E:XK),Inv X pins σ H s -> t E σ H Q -> wpAny (model X.prog X.w) X.A (eval e X.env) (EP X pins σ Q) (XP X pins σ E) s
def PB (X:Cx) (sts:List Stmt) (t:XK -> TS):Prop :=
 ∀ (pins:List (Addr × Obj)) (s:Shared) (σ:St) (H:Hp) (D:Ends) (E:XK),Inv X pins σ H s -> t E D σ H -> wpAny (model X.prog X.w) X.A (execs sts X.env) (SP X pins D) (XP X pins σ E) s
section
variable {X:Cx} {k:Nat} {f C:Addr} {fd:FuncData} {ps:List Str} {sp:Sp} {dvs:List V} {ds:List Value} {x m:Str} {p pos apos:Pos} {e o:Expr} {es:List Expr} {ta:TE} {t:TA}
theorem xp_of (hx:X.ex = []) {pins:List (Addr × Obj)} {σ:St} {H:Hp} {s s':Shared} {E:XK} {ev:Value} (I:Inv X pins σ H s) (h:CXE X.prog X.w X.stack H s E ev s'):XP X pins σ E ev s':=by
 obtain ⟨ea,T,cls,dx,H',rfl,h1,h2,h3,h4,h5,h6,h7,h8,h9,h10⟩:=h
 have a1:=I.apart hx h7
 have a2:=I.apart hx h8
 exact ⟨ea,T,cls,dx,H',rfl,I.call' h1 h3 h4 h2 (by intro b hb; cases hb),⟨h5,a1.old,a1.loc,a1.cell,a1.pin⟩,⟨h6,a2.old,a2.loc,a2.cell,a2.pin⟩,h9,h10⟩
theorem run_fnX (hx:X.ex = []) {pins:List (Addr × Obj)} {σ:St} {H:Hp} {s:Shared} {Q:VK} {E:XK} {us:List Value} {vs:List V} (F:FnOk X.prog X.w X.K X.mg X.base (CXE X.prog X.w) k f fd ps sp) (hr:Room k X.A) (hb:xd1 X.K fd ps ds) (hd:Vals dvs ds)
  (I:Inv X pins σ H s) (r:Vals vs us) (h:sp (vs ++ dvs) H Q E):wpAny (model X.prog X.w) X.A (call (.ref f) us) (EP X pins σ Q) (XP X pins σ E) s:=by
 have r2:Vals (vs ++ dvs) (us ++ ds):=r.append hd
 have hl:(us ++ ds).length = ps.length:=by rw [<- r2.length]; exact F.len _ _ _ _ h
 refine wpAny_call (codeAny_mono (F.run X.A X.stack s H ⟨us,[]⟩ (us ++ ds) (vs ++ dvs) Q E hr I.env0 (hb s us I.kIn hl) r2 h) fun rr s' hq=>?_)
 cases rr with
 | error ev=>exact xp_of hx I hq
 | ok fl =>
  cases fl with
  | ret u=>exact I.after hq
  | next=>exact False.elim hq
  | brk=>exact False.elim hq
  | cont=>exact False.elim hq
theorem pb_expr {te:XK -> TE} (h:PX X e te) (hs:swapsWith e none pos.line X.env = pure false:=by rfl):PB X [.Expr e pos] (fun E=>tDrop (te E)):=by
 intro pins s σ H D E I hw
 refine wpAny_execs_cons (wpAny_Expr_any (thn (h pins s σ H _ E I hw) fun v s1 ⟨y,H1,I1,r1,q1⟩=>?_) I.quiet hs)
 exact wpAny_execs_nil ⟨σ,H1,I1,q1⟩
end
abbrev Cx.hand (X:Cx) (ea:Addr):Cx:={ X with A:=X.A.mark (some (.ref ea)),calm:=false,xe:=fun _ _=>False }
theorem Cx.Ok.hand {X:Cx} (ok:X.Ok) (ea:Addr):(X.hand ea).Ok :=
 ⟨ok.mod,ok.kind,ok.glob,ok.blt,ok.above,ok.inj,ok.has,ok.cab,(fun z=>by cases z),ok.frames,ok.stk,ok.exf,ok.bs,ok.bsz,ok.noex,ok.exfs,ok.funs,ok.frf⟩
section
variable {X:Cx} {pins:List (Addr × Obj)} {σ:St} {H:Hp} {s:Shared} {ea:Addr}
theorem Inv.hand (I:Inv X pins σ H s) (ea:Addr):Inv (X.hand ea) pins σ H s:=⟨I.ok.hand ea,I.os,I.bare,I.base,I.loc,I.cell,I.free,I.freeC,I.pin,I.hok,I.len⟩
theorem Inv.unhand (ok:X.Ok) (I:Inv (X.hand ea) pins σ H s):Inv X pins σ H s:=⟨ok,I.os,I.bare,I.base,I.loc,I.cell,I.free,I.freeC,I.pin,I.hok,I.len⟩
def excAt (ea:Addr) (cls:Value) (dx:Option Addr):HO:=.ext fun h=>∃ oe vs,h.get? ea = some oe /\ oe.cls = cls /\ oe.dict = dx /\ oe.data = .fields vs
theorem Inv.track {cls:Value} {dx:Option Addr} (I:Inv X pins σ H s) (a:Apart X pins H ea) (hx:∃ oe vs,s.heap.get? ea = some oe /\ oe.cls = cls /\ oe.dict = dx /\ oe.data = .fields vs):Inv X pins σ (upd H ea (excAt ea cls dx)) s:=by
 have ne:∀ b o,X.s₀.heap.get? b = some o -> b ≠ ea:=fun b o e z=>by rw [z,a.old] at e; cases e
 have nt:∀ b o,H b = some o -> b ≠ ea:=fun b o e=>xb2 e a.trk
 refine ⟨I.ok,I.os,I.bare,⟨I.base.keep,I.base.slot,fun b o e n hx=>?_,I.base.there,fun b xs e=>?_,fun b o xs e=>?_,fun b ps e=>?_⟩,I.loc,I.cell,?_,fun x c e=>?_,fun p hp=>?_,fun b u e=>?_,I.len⟩
 ·rw [xa3 (ne b o e)]; exact I.base.free b o e n hx
 ·have q:=I.base.tups b xs e
  rw [xa3 (nt b _ q)]; exact q
 ·have q:=I.base.frzs b o xs e
  rw [xa3 (nt b _ q)]; exact q
 ·obtain ⟨mm,q⟩:=I.base.tbls b ps e
  exact ⟨mm,by rw [xa3 (nt b _ q)]; exact q⟩
 ·rw [xa3 (Ne.symm a.loc)]; exact I.free
 ·rw [xa3 (a.cell x c e)]; exact I.freeC x c e
 ·obtain ⟨q1,q2,q3⟩:=I.pin p hp
  exact ⟨q1,by rw [xa3 (a.pin p hp)]; exact q2,q3⟩
 ·by_cases hb:b = ea
  ·subst hb
   rw [xa1] at e
   cases e
   obtain ⟨oe,vs,q1,q2,q3⟩:=hx
   exact ⟨⟨oe,vs,q1,q2,q3⟩,⟨oe,q1⟩,fun h1 h2 ⟨o1,v1,z1,z2⟩ k=>⟨o1,v1,k _ z1,z2⟩⟩
  ·rw [xa3 hb] at e
   exact (I.hok b u e).stay (fun _ _ _ q=>q) (fun c q=>by rw [xa3 (nt c _ q)]; exact q) fun c xs q=>by rw [xa3 (nt c _ q)]; exact q
theorem xq3 {M:Model} {A:Around} {E:Value -> Shared -> Prop} {i:Nat} {n:Str} {pos:Pos} {Q:Unit -> Shared -> Prop} (I:Inv X pins σ H s) (hN:X.N.Nodup) (hi:X.N[i]? = some n) (hl:X.env.scope.names.lookup n = some .local)
  (h:∀ s',Inv X pins (σ.set i none) H s' -> Q () s'):wpAny M A (do bindName X.env n .none; unbindBehindTheSuite X.env n pos) Q E s:=by
 obtain ⟨m,hn,hloc⟩:=I.loc
 refine wpAny_nameGoes_keeps hl hn (by rw [I.ok.kind]; rfl) fun h' v hn' hs=>h _ ?_
 have keep:∀ b o,b ≠ X.env.locals -> s.heap.get? b = some o -> h'.get? b = some o:=fun b o ne e=>(hs.2 b ne).trans e
 have neL:∀ b o,X.s₀.heap.get? b = some o -> b ≠ X.env.locals:=fun b o e=>Nat.ne_of_lt (Nat.lt_of_lt_of_le (Heap.lt_size e) I.ok.above)
 have lL:∃ o,h'.get? X.env.locals = some o:=by obtain ⟨o,_,_,ho,_⟩:=hn'; exact ⟨o,ho⟩
 refine ⟨I.ok,I.os,I.bare,⟨fun b o e n1 hb hx=>keep b o (neL b o e) (I.base.keep b o e n1 hb hx),fun b o e n1 hb hx=>?_,I.base.free,fun b o e hx=>?_,I.base.tups,I.base.frzs,I.base.tbls⟩,⟨_,hn',fun j y v' e1 e2 e3=>?_⟩,fun x c e=>?_,I.free,I.freeC,fun p hp=>?_,fun b u e=>?_,by rw [List.length_set]; exact I.len⟩
 ·obtain ⟨sl,q⟩:=I.base.slot b o e n1 hb hx
  exact ⟨sl,keep b _ (neL b o e) q⟩
 ·obtain ⟨o',q⟩:=I.base.there b o e hx
  exact ⟨o',keep b _ (neL b o e) q⟩
 ·have hj:j ≠ i:=fun z=>by
   subst z
   by_cases hlt:j < σ.length
   ·rw [List.getElem?_set_self hlt] at e2; cases e2
   ·rw [List.getElem?_eq_none (by rw [List.length_set]; omega)] at e2; cases e2
  rw [List.getElem?_set_ne (Ne.symm hj)] at e2
  obtain ⟨u,r,q⟩:=hloc j y v' e1 e2 e3
  refine ⟨u,r,?_⟩
  rcases q with ⟨k,e⟩ | ⟨k,c,e,z⟩
  ·have ny:y ≠ n:=fun z=>hj (ye0 hN e1 (z ▸ hi))
   exact .inl ⟨k,by simp [ny,e]⟩
  ·exact .inr ⟨k,c,e,z.sameBut hs (I.cne y c e)⟩
 ·obtain ⟨v',z⟩:=I.cell x c e
  exact ⟨v',z.sameBut hs (I.cne x c e)⟩
 ·obtain ⟨q1,q2,q3,q4⟩:=I.pin p hp
  exact ⟨keep _ _ q3 q1,q2,q3,q4⟩
 ·have nL:∀ c v,H c = some v -> c ≠ X.env.locals:=fun c v q=>xb2 q I.free
  refine (I.hok b u e).stay (fun c v hc q=>keep c v ?_ q) (fun _ q=>q) fun _ _ q=>q
  rcases hc with rfl | hc
  ·exact nL c u e
  ·exact nL c _ hc
end
def zc4 (i:Nat) (D:Ends):Ends:={ nx:=fun σ H=>D.nx (σ.set i none) H,rt:=D.rt,bk:=fun σ H=>D.bk (σ.set i none) H,ct:=fun σ H=>D.ct (σ.set i none) H }
def tTry (K:Frag) (c:Value) (i:Nat) (tb:XK -> TS) (ts:TS):TS:=fun D σ H =>
 tb (fun cls dx H'=>exmOne K cls c = some true /\ ∀ ea,H' ea = none -> ts (zc4 i D) (σ.set i (some (.ref ea))) (upd H' ea (excAt ea cls dx))) D σ H
theorem ps_try {X:Cx} {body:List Stmt} {tb:XK -> TS} {ts:TS} {cn n:Str} {C:Addr} {i:Nat} {b0:Stmt} {suite:List Stmt} {np hpos pos:Pos} (K:Frag) (hx:X.ex = []) (hst:X.stack = X.env :: X.outer) (hfr:X.env.frame = some X.env.locals) (hb:PB X body tb)
  (hg:Gl X cn) (hm:X.mg cn = some (.ref C)) (hN:X.N.Nodup) (hi:X.N[i]? = some n) (hl:X.env.scope.names.lookup n = some .local) (hs:∀ ea,PSs (X.hand ea) (b0 :: suite) ts) (hK:X.K = K:=by rfl) (hdb:(cn == ("__debug__" : Str)) = false:=by decide) :
  PS X (.Try body [.ExceptHandler (some (.Name cn np)) (some n) (b0 :: suite) hpos] [] [] pos) (tTry K (.ref C) i tb ts):=by
 subst hK
 intro pins s σ H D I h
 refine wpAny_Try_except (wpAny_mono (hb pins s σ H D _ I h) (fun fl s1 q=>?_) fun ev s1 z=>?_)
 ·cases fl with
  | next =>
   obtain ⟨σ',H',I',q⟩:=q
   exact wpAny_execs_nil ⟨σ',H',I',q⟩
  | ret v=>exact q
  | brk=>exact q
  | cont=>exact q
 obtain ⟨ea,T,cls,dx,H1,rfl,I1,a1,a2,fly,hcl,hsu⟩:=z
 have stk:∀ {s:Shared} {σ:St} {H:Hp},Inv X pins σ H s -> s.heap.FunFrames X.base (X.env :: X.outer):=fun {s σ H} I=>by have:=I.stack; rw [hst] at this; exact this
 have two:∀ {T:Addr},Apart X pins H1 T -> ∀ b ∈ [ea,T],Apart X pins H1 b:=fun {T} aT b hb=>by
  rcases List.mem_cons.mp hb with rfl | hb
  ·exact a1
  ·rcases List.mem_cons.mp hb with rfl | hb
   ·exact aT
   ·cases hb
 refine yz5 (base:=X.base) (outer:=X.outer) (by rw [I1.ok.frames,hst]) (stk I1) hfr fly fun h2 T2 fly2 nT2 mv2=>?_
 rw [<- hst] at mv2
 have I2:=I1.moved' mv2 (two a2)
 have aT2:Apart X pins H1 T2:=I1.apart hx nT2
 obtain ⟨oe,vs,oT,tvs,a0,e1,e2,e3,e4,_⟩:=id fly2
 have LT:PySem.W.Looks (model X.prog X.w) ({ s1 with heap:=h2 }:Shared).heap (typeOf (.ref ea)) cls:=by
  subst e2
  exact (PySem.W.Looks.ld e1).andThen .now
 refine wpAny_handleBy_cons (codeAny_handlers_test ?_) (by intro q; cases q)
 refine xw6 (X:=X.hand ea) (I2.hand ea) hg hm ?_ hdb
 refine (exm_one I2.kIn LT hcl).here ?_
 refine codeAny_handlers_suite_as ?_
 refine xr9 (s:={ s1 with heap:=h2 }) fly2 fun h3 fly3 same=>?_
 have I3:=I2.moved' (Moved.one same) fun b hb=>by rw [List.mem_singleton] at hb; rw [hb]; exact aT2
 obtain ⟨oe3,vs3,_,_,_,f1,f2,f3,f4,_⟩:=id fly3
 have I4:=I3.track a1 ⟨oe3,vs3,f1,f2,f3,f4⟩
 refine yc1 (X:=X.hand ea) (v:=.ref ea) (I4.hand ea) hN hi (.inl hl) rfl (fun s5 I5=>?_) (.inr hl)
 refine wpAny_mono (hs ea pins s5 _ _ (zc4 i D) I5 (hsu ea a1.trk)) (fun fl s6 q=>?_) fun _ _ z=>z.elim
 have okX:=I.ok
 cases fl with
 | next =>
  obtain ⟨σ',H',I',q⟩:=q
  exact xq3 (I'.unhand okX) hN hi hl fun s7 I7=>⟨_,H',I7,q⟩
 | brk =>
  obtain ⟨σ',H',I',q⟩:=q
  exact xq3 (I'.unhand okX) hN hi hl fun s7 I7=>⟨_,H',I7,q⟩
 | cont =>
  obtain ⟨σ',H',I',q⟩:=q
  exact xq3 (I'.unhand okX) hN hi hl fun s7 I7=>⟨_,H',I7,q⟩
 | ret u =>
  obtain ⟨v,σ',H',I',r,q⟩:=q
  exact xq3 (I'.unhand okX) hN hi hl fun s7 I7=>⟨v,_,H',I7,r,q⟩
structure XCls (K:Frag) (C:Addr):Prop where
 ga:findIn K (.ref C) "__getattribute__" = some (some (.builtin "BaseException.__getattribute__"))
 gt:findIn K (.ref C) "__getattr__" = some none
 ic:(clsIn K C).isSome = true
 kc:findIn K (.ref C) "__class__" = some (some (.builtin "object.__class__"))
 kg:specialIn K (.builtin "object.__class__") "__get__" = some (some (.builtin "getset_descriptor.__get__"))
 kt:takesIn K (.builtin "object.__class__") = some true
 mo:mroIn K C (.type "object") = some true
 mb:mroIn K C (.type "BaseException") = some true
section
variable {prog:Program} {w:World} {A:Around} {E:Value -> Shared -> Prop} {s:Shared} {K:Frag} {ea C:Addr} {oe:Obj} {od:Option Obj}
theorem xcheck (kin:K.In s.heap) (c:XCls K C) (I:InstAt s.heap ea oe C od) {nameV:Value} {Q:Unit -> Shared -> Prop} (h:Q () s):wpAny (model prog w) A (checkBuiltinCall "BaseException.__getattribute__" ⟨[.ref ea,nameV],[]⟩) Q E s:=by
 obtain ⟨g,g2,g3,g4,g5⟩:=s
 have kd:builtinKind "BaseException.__getattribute__" = some .slot:=by decide +kernel
 have sp:splitId "BaseException.__getattribute__" = some ("BaseException","__getattribute__"):=by decide +kernel
 have L0:=I.type (M:=model prog w)
 have L1:=looks_mroIn (M:=model prog w) kin c.mb
 have aok:=F.args_bexc_ga (.ref ea) nameV
 simp only [checkBuiltinCall,kd,sp]
 refine wpAny_bind ?_
 unfold isInstance
 refine wpAny_bind (L0.at (L1.at ?_))
 repeat (first | exact h | wp_step)
theorem yr9 (kin:K.In s.heap) (c:XCls K C) (I:InstAt s.heap ea oe C od) {name:Str} {tk:Tok} {g a:Value} (hf:findObj K C od name = some (.bind g a)) {P:Value -> Shared -> Prop}
  (h:wpAny (model prog w) A.in1 (call g [a,.ref ea,.ref C]) P E s):wpAny (model prog w) A (call (.builtin "BaseException.__getattribute__") [.ref ea,.str name tk]) P E s:=by
 obtain ⟨h1,h2,h3,h4,h5⟩:=s
 have L0:=I.type (M:=model prog w)
 have L1:=looks_find (M:=model prog w) kin I hf
 refine wpAny_call (codeAny_call_builtin PySem.F.attr_ValueError.ga.plain F.entry_bexc_ga (xcheck kin c I ?_))
 refine wpAny_bind (wpAny_pure (wpAny_bind (wpAny_pure (wpAny_bind (L0.at (wpAny_bind (L1.at ?_)))))))
 show wpAny _ _ (holding [a] (call g [a,.ref ea,.ref C]) >>= ret) _ _ _
 exact wpAny_bind (wpAny_holding (wpAny_mono h (fun v s' z=>wpAny_pure z) fun _ _ z=>z))
theorem xget (kin:K.In s.heap) (c:XCls K C) (I:InstAt s.heap ea oe C od) {nameV:Value} {fill expr:Bool} {Q:Value -> Shared -> Prop} {P:Value -> Shared -> Prop}
  (h:wpAny (model prog w) A (call (.builtin "BaseException.__getattribute__") [.ref ea,nameV]) P (fun _ _=>False) s) (hq:∀ v s',P v s' -> wpAny (model prog w) A (handedOut v) Q E s'):wpAny (model prog w) A (getAttrBy (.ref ea) nameV fill expr) Q E s:=by
 obtain ⟨h1,h2,h3,h4,h5⟩:=s
 have L0:=I.type (M:=model prog w)
 have L1:=looks_findIn (M:=model prog w) kin c.ga
 have L2:=looks_findIn (M:=model prog w) kin c.gt
 unfold getAttrBy
 refine wpAny_holding (wpAny_bind (L0.at (wpAny_bind (L1.at ?_))))
 dsimp only
 have ne:(Value.builtin "BaseException.__getattribute__" == Value.builtin "object.__getattribute__") = false:=by decide +kernel
 rw [ne,Bool.and_false,if_neg Bool.false_ne_true]
 unfold getAttrByItsOwn hookBefore
 refine wpAny_bind ?_
 rw [if_pos (show onTheHeap (.ref C) = true from rfl)]
 refine L2.at (wpAny_bind (wpAny_attempt (wpAny_holding ?_)))
 unfold callGetattribute
 rw [if_neg (by cases expr <;> decide)]
 unfold boundAndCalled
 rw [PySem.F.attr_ValueError.ga.bind (.ref ea)]
 refine wpAny_bind (wpAny_pure ?_)
 exact wpAny_mono h (fun v s' z=>hq v s' z) fun _ _ z=>z.elim
theorem xclass (kin:K.In s.heap) (c:XCls K C) (I:InstAt s.heap ea oe C od) {Q:Option Value -> Shared -> Prop} (h:Q (some (.ref C)) { s with toks:=s.toks + 1 }):wpAny (model prog w) A (getAttr? (.ref ea) "__class__") Q E s:=by
 obtain ⟨cd,hcd⟩:=Option.isSome_iff_exists.mp c.ic
 have hf:findObj K C od "__class__" = some (.bind (.builtin "getset_descriptor.__get__") (.builtin "object.__class__")):=by
  unfold findObj
  rw [hcd,Option.bind_some,c.kc,Option.bind_some]
  simp [c.kg,c.kt]
 unfold getAttr? getAttrBy?
 refine wpAny_bind (wpAny_mkText (wpAny_bind (wpAny_attempt ?_)))
 refine xget (s:={ s with toks:=s.toks + 1 }) (P:=fun v s'=>v = .ref C /\ s' = { s with toks:=s.toks + 1 }) kin c I ?_ ?_
 ·refine yr9 (s:={ s with toks:=s.toks + 1 }) kin c I hf (wpAny_call ?_)
  exact class_get (s:={ s with toks:=s.toks + 1 }) (ox:=oe) (od:=od) kin I c.mo ⟨rfl,rfl⟩
 ·rintro v s' ⟨rfl,rfl⟩
  exact handed_on rfl (wpAny_pure h)
theorem kitx_exc (c:XCls K C):KitX K (.ref ea) (.ref C) (fun h=>InstAt h ea oe C od) where
 ty:=fun _ _ _ I=>I.type
 it:=fun M g kin _=>by
  obtain ⟨cd,hcd⟩:=Option.isSome_iff_exists.mp c.ic
  unfold clsIn at hcd
  split at hcd
  next look =>
   intro A1 Q1 E1 s1 k1 q1
   unfold isType loadHead
   exact wpAny_bind (wpAny_loadPart (k1 _ _ (kin _ _ look)) (wpAny_pure q1))
  next=>cases hcd
 ne:=fun g tp dd its n sl kin htp=>by
  obtain ⟨cd,hcd⟩:=Option.isSome_iff_exists.mp c.ic
  refine Bool.eq_false_iff.mpr fun z=>?_
  obtain rfl:C = tp:=Value.ref.inj (beq_iff_eq.mp z)
  unfold clsIn at hcd
  split at hcd
  next look =>
   have z2:=(kin _ _ look).symm.trans htp
   cases z2
  next=>cases hcd
 ca:=fun kin I q=>xclass kin c I q
end
theorem ic_of {K:Frag} {C:Addr} {v:Value} {b:Bool} (h:mroIn K C v = some b):(clsIn K C).isSome = true:=by
 unfold mroIn at h
 cases e:clsIn K C with
 | none=>rw [e] at h; cases h
 | some c=>rfl
section
variable {X:Cx}
theorem call_isx (K:Frag) (hK:X.K = K:=by rfl):xl4 X (.builtin "isinstance") (fun xs H Q=>∃ (ea C:Addr) (c:V) (u:Value) (b:Bool),xs = [.ref ea,c] /\ H ea = some (excAt ea (.ref C) none) /\ XCls K C /\ RelV c u /\ (∀ u',RelV c u' -> u' = u) /\ kitOne K (.ref C) u = some b /\ Q (.bl b) H):=by
 subst hK
 intro pins s σ H xs us Q I r h
 obtain ⟨ea,C,c,u,b,rfl,hx,hc,hu,hu2,hk,q⟩:=h
 obtain ⟨u1,u2,rfl,r1,r2⟩:=yv7 r
 cases r1
 cases hu2 _ r2
 obtain ⟨⟨oe,vs,e1,e2,e3,e4⟩,_,_⟩:=I.hok _ _ hx
 refine kia_one (kitx_exc (oe:=oe) (od:=none) hc) I.kIn ⟨e1,e2,?_,?_⟩ hk (fun z=>nomatch z) fun tk=>⟨.bl b,H,I.tok tk,rfl,q⟩
 ·cases oe with
  | mk a1 a2 a3 a4=>dsimp only at e4; subst e4; rfl
 ·rw [e3]; trivial
end
def Its (x:Str):It:=⟨fun i _=>i < x.cps.size,fun i H v H'=>H' = H /\ ∃ c,x.cps[i]? = some c /\ v = .str ⟨#[c]⟩,fun i _=>x.cps.size <= i⟩
theorem ys2 {P:Program} {w:World} {K:Frag} {tg:Expr} (x:Str) (t:Tok) (it:Addr):Turn P w K tg (Its x) [it] it (fun i h=>h.IsStrIter it "str_ascii_iterator" x t i) where
 mem:=by simp
 obj:=fun i h st b hb=>by
  obtain rfl:b = it:=by simpa using hb
  obtain ⟨o,e,c,d⟩:=st
  exact ⟨o,e,fun v z=>by rw [d] at z; cases z⟩
 keep:=fun i h h' st k=>by
  obtain ⟨o,e,c,d⟩:=st
  exact ⟨o,k it (by simp) o e,c,d⟩
 item:=by
  intro X hP hw hK hc i pins s σ H E I hf st hg
  subst hP hw hK
  have hg:i < x.cps.size:=hg
  obtain ⟨f0,f1,f2,f3,f4,f5⟩:=hf it (by simp)
  refine wpAny_pyNext_ascii_item st (c:=x.cps[i]) (by simp [hg]) fun h' st' sb=>?_
  have I1:Inv X pins σ H { s with heap:=h',toks:=s.toks + 1 }:=I.turned (t':=s.toks + 1) (fun b o hb e=>(sb.2 b hb).trans e) f0 f1 f3 f4 f5
  obtain ⟨o,e1,c,d⟩:=id st'
  exact ⟨_,rfl,yn1 (s:={ s with heap:=h',toks:=s.toks + 1 }) e1 c d (by decide) ⟨.str ⟨#[x.cps[i]]⟩,H,I1,⟨_,rfl⟩,⟨rfl,x.cps[i],by simp [hg],rfl⟩,st',fun b hb=>(hf b hb).1⟩⟩
 done:=by
  intro X hP hw hK hc i pins s σ H E I hf st hg
  subst hP hw hK
  have hg:x.cps.size <= i:=hg
  obtain ⟨f0,f1,f2,f3,f4,f5⟩:=hf it (by simp)
  exact wpAny_pyNext_ascii_end (I.ok.hd hc) st (by simp [hg]) fun h' eb=>⟨rfl,I.turned (t':=s.toks) (fun b o hb e=>eb b o hb e) f0 f1 f3 f4 f5⟩
 self:=fun _ _ _ _ _ st h=>wpAny_pyIter_striter_ascii st h
theorem yv9 {P:Program} {w:World} {K:Frag} {tg:Expr} (x:Str) (t:Tok) (it:Addr):Turn P w K tg (Its x) [it] it (fun i h=>h.IsStrIter it "str_iterator" x t i) where
 mem:=by simp
 obj:=fun i h st b hb=>by
  obtain rfl:b = it:=by simpa using hb
  obtain ⟨o,e,c,d⟩:=st
  exact ⟨o,e,fun v z=>by rw [d] at z; cases z⟩
 keep:=fun i h h' st k=>by
  obtain ⟨o,e,c,d⟩:=st
  exact ⟨o,k it (by simp) o e,c,d⟩
 item:=by
  intro X hP hw hK hc i pins s σ H E I hf st hg
  subst hP hw hK
  have hg:i < x.cps.size:=hg
  obtain ⟨f0,f1,f2,f3,f4,f5⟩:=hf it (by simp)
  refine wpAny_pyNext_wide_item st (c:=x.cps[i]) (by simp [hg]) fun h' st' sb=>?_
  have I1:Inv X pins σ H { s with heap:=h',toks:=s.toks + 1 }:=I.turned (t':=s.toks + 1) (fun b o hb e=>(sb.2 b hb).trans e) f0 f1 f3 f4 f5
  obtain ⟨o,e1,c,d⟩:=id st'
  exact ⟨_,rfl,yn1 (s:={ s with heap:=h',toks:=s.toks + 1 }) e1 c d (by decide) ⟨.str ⟨#[x.cps[i]]⟩,H,I1,⟨_,rfl⟩,⟨rfl,x.cps[i],by simp [hg],rfl⟩,st',fun b hb=>(hf b hb).1⟩⟩
 done:=by
  intro X hP hw hK hc i pins s σ H E I hf st hg
  subst hP hw hK
  have hg:x.cps.size <= i:=hg
  obtain ⟨f0,f1,f2,f3,f4,f5⟩:=hf it (by simp)
  exact wpAny_pyNext_wide_end (I.ok.hd hc) st (by simp [hg]) fun h' eb=>⟨rfl,I.turned (t':=s.toks) (fun b o hb e=>eb b o hb e) f0 f1 f3 f4 f5⟩
 self:=fun _ _ _ _ _ st h=>wpAny_pyIter_striter_wide st h
def iStr (tl:TE):TI:=fun σ H R=>tl σ H fun v H1=>∃ x,v = .str x /\ R (Its x) H1
theorem pi_str {X:Cx} {tg l:Expr} {tl:TE} (hl:PE X l tl):PI X tg l (iStr tl):=by
 intro pins s σ H R I h
 refine thn (hl pins s σ H _ I h) fun v s1 ⟨y,H1,I1,r1,q1⟩=>?_
 obtain ⟨x,rfl,q⟩:=q1
 obtain ⟨t,rfl⟩:=r1
 have fp:∀ b ∈ [s1.heap.objs.size],FpOk X pins H1 b:=fun b hb=>by
  obtain rfl:b = s1.heap.objs.size:=by simpa using hb
  exact I1.fpOk (Nat.le_refl _) (I1.hok.fresh (Nat.le_refl _))
 cases ha:x.cps.all (· < 128)
 ·exact wpAny_pyIter_wide ha ⟨s1.heap.objs.size,[s1.heap.objs.size],_,_,H1,rfl,I1.kept (t':=s1.toks) fun b o e=>Heap.get?_push_of_some _ e,yv9 x t _,⟨_,Heap.get?_push_size _ rfl,rfl,rfl⟩,fp,q⟩
 ·exact wpAny_pyIter_ascii ha ⟨s1.heap.objs.size,[s1.heap.objs.size],_,_,H1,rfl,I1.kept (t':=s1.toks) fun b o e=>Heap.get?_push_of_some _ e,ys2 x t _,⟨_,Heap.get?_push_size _ rfl,rfl,rfl⟩,fp,q⟩
section
variable {X:Cx}
theorem yw7:SlR X (fun x lo hi H Q=>∃ z,x = .str z /\ z.length <= sizeLine /\ Q (.str (Txt.slice z lo hi)) H):=by
 intro pins s σ H x v vl vu lo hi sl Q I rx hs pl pu h
 obtain ⟨z,rfl,hz,q⟩:=h
 obtain ⟨t,rfl⟩:=rx
 refine ⟨"str",_,F.slot_str_getitem.lookup,typeIs_str _ _ _,?_⟩
 have fin:∀ lo hi,Q (.str (Txt.slice z lo hi)) H -> (Txt.slice z lo hi).length <= sizeLine /\ ∀ t' k,EP X pins σ Q (.str (Txt.slice z lo hi) t') { s with toks:=k }:=fun lo hi q=>⟨Nat.le_trans (Txt.slice_le z _ _) hz,fun t' k=>⟨.str _,H,I.tok k,⟨_,rfl⟩,q⟩⟩
 obtain ⟨os,e1,e2,e3⟩:=hs
 cases pl with
 | none =>
  cases pu with
  | none=>exact wpAny_getItem_str_slice (l:=none) (u:=none) (st:=none) ⟨os,e1,e2,e3⟩ rfl (post_val_or_str (fin _ _ q))
  | int j u=>exact wpAny_getItem_str_slice (l:=none) (u:=some (j,u)) (st:=none) ⟨os,e1,e2,e3⟩ rfl (post_val_or_str (fin _ _ q))
 | int i u =>
  cases pu with
  | none=>exact wpAny_getItem_str_slice (l:=some (i,u)) (u:=none) (st:=none) ⟨os,e1,e2,e3⟩ rfl (post_val_or_str (fin _ _ q))
  | int j u2=>exact wpAny_getItem_str_slice (l:=some (i,u)) (u:=some (j,u2)) (st:=none) ⟨os,e1,e2,e3⟩ rfl (post_val_or_str (fin _ _ q))
theorem pe_bm0K {o:Expr} {to:TE} {name:Str} {apos cpos:Pos} {T id:String} {r:V -> List V -> Hp -> VK -> Prop} (K:Frag) (pa:PlainAttrs T) (slot:Slot T name id) (hty:typeOf (.builtin id) = pure (.type "method_descriptor")) (hm:MtR X id r) (ho:PE X o to)
  (hbase:attributeBase o name X.env (eval o X.env) = eval o X.env:=by rfl) (hline:(apos.endLine == cpos.line) = true:=by rfl) (hK:X.K = K:=by rfl):PE X (.Call (.Attribute o name apos) [] [] cpos) (tBM0 K T r to):=by
 subst hK
 exact pe_bm0 pa slot hty hm ho hbase hline
theorem pe_bmK {o e:Expr} {es:List Expr} {to:TE} {t:TA} {name:Str} {apos cpos:Pos} {T id:String} {r:V -> List V -> Hp -> VK -> Prop} (K:Frag) (pa:PlainAttrs T) (slot:Slot T name id) (hty:typeOf (.builtin id) = pure (.type "method_descriptor")) (hm:MtR X id r) (ho:PE X o to) (ha:PA X (e :: es) t)
  (hbase:attributeBase o name X.env (eval o X.env) = eval o X.env:=by rfl)
  (hfew:((backTo cpos (starEach (e :: es) X.env)).all (fun x=>!x.1) && (backToKw cpos (keywordEach [] X.env)).all (fun x=>x.1.isSome)
   && decide ((e :: es).length + ([]:List Keyword).length + (if ([]:List Keyword).isEmpty then 0 else 1) < 30)) = true:=by rfl)
  (hline:(apos.endLine == cpos.line) = true:=by rfl) (hs:starEach (e :: es) X.env = (false,eval e X.env) :: starEach es X.env:=by rfl) (hplain:(backTo cpos (starEach es X.env)).any (·.1) = false:=by rfl) (hK:X.K = K:=by rfl) :
  PE X (.Call (.Attribute o name apos) (e :: es) [] cpos) (tBM K T r to t):=by
 subst hK
 exact pe_bm pa slot hty hm ho ha hbase hfew hline hs hplain
theorem xf0 (K:Frag) (hK:X.K = K:=by rfl):xl4 X (.builtin "isinstance") (fun xs H Q=>∃ x n t b,xs = [x,.ty n] /\ TyOf K H x (.type t) /\ kitOne K (.type t) (.type n) = some b /\ Q (.bl b) H):=by
 subst hK
 intro pins s σ H xs us Q I r h
 obtain ⟨x,n,t,b,rfl,ht,hb,q⟩:=h
 obtain ⟨u,w',rfl,r1,r2⟩:=yv7 r
 cases r2
 exact zb0 I r1 ht hb fun tk=>⟨.bl b,H,I.tok tk,rfl,q⟩
end
theorem xr6 {X:Cx} {x:Str} {i:Int} {pos:Pos} (hg:Gl X x) (hm:∃ t,X.mg x = some (.int i t)) (hd:(x == ("__debug__" : Str)) = false:=by decide):PE X (.Name x pos) (tC (.int i)):=by
 obtain ⟨t,h⟩:=hm
 exact yd3 hg h ⟨_,rfl⟩ hd
theorem yd2 {X:Cx} {x z:Str} {pos:Pos} (hg:Gl X x) (hm:∃ t,X.mg x = some (.str z t)) (hd:(x == ("__debug__" : Str)) = false:=by decide):PE X (.Name x pos) (tC (.str z)):=by
 obtain ⟨t,h⟩:=hm
 exact yd3 hg h ⟨_,rfl⟩ hd
open PySem PySem.NumText PyProof.Rows
abbrev cs (x:Str):List Nat:=x.cps.toList
theorem xx6 (a b:Str):cs (a ++ b) = cs a ++ cs b:=PySem.W.KT.app_list a b
theorem xx5 (a:Str):(cs a).length = a.length:=by simp [cs,Str.length]
section
variable {prog:Program} {w:World} {A:Around} {E:Value -> Shared -> Prop} {s:Shared} {K:Frag} {ea C CL f:Addr} {oe:Obj} {od:Option Obj}
end
section
variable {X:Cx} {pins:List (Addr × Obj)} {σ:St} {H:Hp} {s:Shared} {ea C CL f:Addr}
end
section
variable {P:Program} {w:World} {K:Frag} {mg:Str -> Option Value} {base:Heap} {N:List Str} {qual:Str} {scope:Scope} {f:Addr} {cd:Value} {A:Around} {outer:List Env} {s₀:Shared} {H₀:Hp} {E:XK}
end
section
variable {X:Cx} {pins:List (Addr × Obj)} {σ:St} {H:Hp} {s:Shared} {ea:Addr}
theorem upd_id {a:Addr} {u:HO} (e:H a = some u):upd H a u = H:=by
 funext b
 unfold upd
 split
 ·rename_i z; rw [z,e]
 ·rfl
end
section
variable {X:Cx} {o e value:Expr} {es:List Expr} {f x:Str} {pos pos' apos np:Pos} {ta tv:TE} {t:TA}
end
section
variable {P:Program} {w:World} {K:Frag} {mg:Str -> Option Value} {base:Heap} {qual:Str} {f:Addr}
end
open PySem PySem.Spec PySem.NumText PyProof.Rows
section
variable {X:Cx}
theorem xy1 (K:Frag) (hc:X.calm = true) (hK:X.K = K:=by rfl):xl4 X (.builtin "all") (fun xs H Q=>∃ (p:Addr) (bs:List Bool),xs = [.ref p] /\ SqL K H p (bs.map V.bl) /\ Q (.bl (bs.all id)) H):=by
 subst hK
 intro pins s σ H xs us Q I r h
 obtain ⟨p,bs,rfl,hq,q⟩:=h
 obtain ⟨u,rfl,rfl⟩:=xt1 r
 obtain ⟨its,rv,pl,hz⟩:=I.list hq
 have nth:∀ (i:Nat) (v:Value),its.toArray[i]? = some v -> v = Value.bool (bs.getD i true):=fun i v e=>by
  have e:its[i]? = some v:=by simpa using e
  have hi:i < bs.length:=by
   have:=(List.getElem?_eq_some_iff.mp e).1
   have h2:=rv.length
   simp at h2
   omega
  obtain ⟨u,e2,r2⟩:=rv.get (i:=i) (x:=V.bl bs[i]) (by simp [hi])
  rw [e] at e2
  cases e2
  cases r2
  rw [List.getD_eq_getElem?_getD,List.getElem?_eq_getElem hi]
  rfl
 refine call_all_walk (wpAny_pyIter_list pl.isList ?_)
 have hne:p ≠ s.heap.objs.size:=by
  obtain ⟨o,e,_⟩:=pl.isList
  exact Nat.ne_of_lt (Heap.lt_size e)
 refine ⟨s.heap.objs.size,_,_,_,_,_,fun i=>bs.getD i true,rfl,Walks.list (A:=X.A.in1) (I.ok.hd hc) s.heap.objs.size p hne its.toArray,⟨?_,?_⟩,?_,?_⟩
 ·exact ⟨_,Heap.get?_push_size _ rfl,rfl,rfl⟩
 ·obtain ⟨o,e,r⟩:=pl.isList
  exact ⟨o,Heap.get?_push_of_some _ e,r⟩
 ·intro i v s1 Q1 E1 hP hQ
  rw [nth i v hP]
  exact wpAny_truthy_bool hQ
 ·intro h' tk hk
  refine ⟨.bl _,H,I.kept (t':=tk) (h':=h') fun b o e=>hk b o (fun z=>?_) (Heap.get?_push_of_some _ e),rfl,?_⟩
  ·rw [List.mem_singleton] at z
   rw [z] at e
   exact absurd (Heap.lt_size e) (Nat.lt_irrefl _)
  ·have hl:its.toArray.size = bs.length:=by have:=rv.length; simp at this ⊢; omega
   rw [hl]
   have:((List.range bs.length).all fun i=>bs.getD i true) = bs.all id:=by
    clear q rv nth hl hq hz
    induction bs with
    | nil=>rfl
    | cons b bs ih=>rw [List.length_cons,List.range_succ_eq_map,List.all_cons,List.all_map,List.all_cons,<- ih]; rfl
   rw [this]; exact q
end
theorem yf2:bootBuiltins "all" = some (.builtin "all"):=by decide +kernel
theorem comp_str {x:Str} {D:Addr} {g:TG} {te:TE} {σ0:St} {H1:Hp} {Q:Hp -> Prop} (f:Nat -> Bool) (ok:St -> Prop) (hD:H1 D = none) (hz:x.length <= 1000) (h0:ok σ0)
  (hs:∀ c σ' H (N:St -> V -> Hp -> Prop),c ∈ cs x -> ok σ' -> (∀ σ3,ok σ3 -> N σ3 (.bl (f c)) H) -> g (.str ⟨#[c]⟩) σ' H fun σ3 H3=>te σ3 H3 fun v H4=>N σ3 v H4)
  (hd:∀ H',Same H1 H' -> H' D = some (.lst (((cs x).map f).map V.bl)) -> Q H') :
  ∃ W:Nat -> Nat -> St -> Hp -> Prop,(∃ m,W 0 m σ0 (upd H1 D (.lst []))) /\
   ∀ i m σ' H',W i m σ' H' -> ((Its x).stop i H' /\ Q H') \/ ((Its x).go i H' /\ ∀ y H2,(Its x).yld i H' y H2 -> g y σ' H2 fun σ3 H3=>te σ3 H3 fun v H4=>∃ xs,H4 D = some (.lst xs) /\ xs.length < sizeLine /\ ∃ m',m' < m /\ W (i + 1) m' σ3 (upd H4 D (.lst (xs ++ [v])))):=by
 have sz:x.cps.size = (cs x).length:=by simp [cs]
 have hz2:(cs x).length <= 1000:=by rw [xx5]; exact hz
 refine ⟨fun i m σ' H'=>m = (cs x).length - i /\ i <= (cs x).length /\ ok σ' /\ Same H1 H' /\ H' D = some (.lst ((((cs x).take i).map f).map V.bl)),⟨_,rfl,Nat.zero_le _,h0,Same.new hD,xa1⟩,?_⟩
 rintro i m σ' H' ⟨rfl,hi,ho,sm,hl⟩
 by_cases hlt:i < (cs x).length
 ·refine .inr ⟨by show i < x.cps.size; omega,fun y H2 yl=>?_⟩
  obtain ⟨e1,c,e2,e3⟩:=yl
  subst e1 e3
  have e2':(cs x)[i]? = some c:=by simpa [cs] using e2
  refine hs c σ' _ (fun σ3 v H4=>∃ xs',H4 D = some (.lst xs') /\ xs'.length < sizeLine /\ ∃ m',m' < (cs x).length - i /\ _) (List.mem_of_getElem? e2') ho fun σ3 ho3=>?_
  refine ⟨_,hl,Nat.lt_of_lt_of_le (show _ < 1001 by simp; omega) (by decide),(cs x).length - (i + 1),by omega,rfl,hlt,ho3,sm.upd hD,?_⟩
  rw [xa1,List.take_add_one,e2',List.map_append,List.map_append]
  rfl
 ·have e:i = (cs x).length:=by omega
  subst e
  refine .inl ⟨by show x.cps.size <= _; omega,hd H' sm ?_⟩
  rw [List.take_length] at hl
  exact hl
theorem yc3 {z:Str} {j:Int} (h0:0 <= j) (h1:j <= z.length):cs (Txt.slice z none (some j)) = (cs z).take j.toNat:=by
 have:=eq_of_beq (slice_closes_toL h0 h1)
 rw [this]
 show (((cs z).drop 0).take (j - 0).toNat).toArray.toList = _
 simp
section
variable {X:Cx}
theorem yb8:bootBuiltins "tuple" = some (.type "tuple"):=by decide +kernel
theorem xm5:bootBuiltins "list" = some (.type "list"):=by decide +kernel
theorem yk5:bootBuiltins "dict" = some (.type "dict"):=by decide +kernel
theorem yt4 (K:Frag) (hK:X.K = K:=by rfl):OpR X (compareOp .In) (rIn K false):=by subst hK; exact yy8
theorem sqt_of {K:Frag} {a:Addr} {od:Option Addr} {n:Nat} {sl:Array (Option Value)} {us:List Value} {xs:List V} (h:K.lookup a = some ⟨.type "tuple",od,.seq us.toArray n,sl⟩) (hl:us.length <= 1000) (r:Vals xs us) (H:Hp):SqT K H a xs :=
 .inr ⟨_,_,_,h,rfl,rfl,by rw [List.size_toArray]; exact xg2 hl,r⟩
end
def lets:Str:=Str.ofString "abcdefghijklmnopqrstuvwxyz"
def xt5 (c:Nat):Bool:=decide (97 <= c) && decide (c <= 122)
theorem lets_are:cs lets = List.range' 97 26:=by decide +kernel
theorem in_lets (c:Nat):(!(Builtin.Str.occurrences lets ⟨#[c]⟩ 0 lets.length 1).isEmpty) = xt5 c:=by
 rw [StrLaws.found_one,Bool.eq_iff_iff,decide_eq_true_eq]
 show c ∈ cs lets ↔ _
 rw [lets_are,List.mem_range'_1]
 unfold xt5
 simp only [Bool.and_eq_true,decide_eq_true_eq]
 omega
theorem yg2 {K:Frag} {H H':Hp} {x:V} {t:Value} (h:TyOf K H x t) (s:Same H H'):TyOf K H' x t:=by
 cases h with
 | non=>exact .non
 | bl b=>exact .bl b
 | int i=>exact .int i
 | str z=>exact .str z
 | flt z=>exact .flt z
 | lst e=>exact .lst (s _ _ e)
 | frz e=>exact .frz (s _ _ e)
 | tup e=>exact .tup (s _ _ e)
 | dK e=>exact .dK (s _ _ e)
 | dT e=>exact .dT (s _ _ e)
 | ins e a1 a2 a3 a4 a5=>exact .ins (s _ _ e) a1 a2 a3 a4 a5
theorem app_len (a b:Str):(a ++ b).length = a.length + b.length:=by rw [<- xx5,xx6,List.length_append,xx5,xx5]
section
variable {κ:Type} [DecidableEq κ]
def valV (kvs:List (κ × V)) (k:κ):Option V:=(kvs.find? fun kv=>decide (kv.1 = k)).map (·.2)
def putK (kvs:List (κ × V)) (k:κ) (v:V):List (κ × V) :=
 if (kvs.any fun kv=>decide (kv.1 = k)) = true then kvs.map (fun kv=>if kv.1 = k then (kv.1,v) else kv) else kvs ++ [(k,v)]
def xt6 (kvs:List (κ × V)) (k:κ):List (κ × V):=kvs.filter fun kv=>decide (kv.1 ≠ k)
theorem xc3 {p:κ × V} {r:List (κ × V)} {k:κ} (e:p.1 = k):valV (p :: r) k = some p.2:=by simp [valV,List.find?_cons,e]
theorem xc5 {p:κ × V} {r:List (κ × V)} {k:κ} (e:¬ p.1 = k):valV (p :: r) k = valV r k:=by simp [valV,List.find?_cons,e]
theorem xi9 (k:κ):∀ kvs:List (κ × V),(kvs.any fun kv=>decide (kv.1 = k)) = (valV kvs k).isSome
 | []=>rfl
 | p :: r=>by
  rw [List.any_cons]
  by_cases e:p.1 = k
  ·simp only [xc3 e,decide_eq_true e,Bool.true_or,Option.isSome_some]
  ·rw [xc5 e,decide_eq_false e,Bool.false_or]; exact xi9 k r
theorem yo6 (k j:κ) (y:V):∀ kvs:List (κ × V),valV (kvs.map fun kv=>if kv.1 = k then (kv.1,y) else kv) j = (valV kvs j).map fun x=>if j = k then y else x
 | []=>rfl
 | p :: r=>by
  have ih:=yo6 k j y r
  rw [List.map_cons]
  by_cases h:p.1 = k
  ·rw [if_pos h]
   by_cases e:p.1 = j
   ·rw [xc3 (p:=(p.1,y)) e,xc3 e,Option.map_some,if_pos (e.symm.trans h)]
   ·rw [xc5 (p:=(p.1,y)) e,xc5 e,ih]
  ·rw [if_neg h]
   by_cases e:p.1 = j
   ·rw [xc3 (p:=p) e,xc3 e,Option.map_some,if_neg (fun z=>h (e.trans z))]
   ·rw [xc5 (p:=p) e,xc5 e,ih]
theorem xu2 (k j:κ) (y:V):∀ kvs:List (κ × V),valV kvs k = none -> valV (kvs ++ [(k,y)]) j = if j = k then some y else valV kvs j
 | [],_=>by
  by_cases e:k = j
  ·rw [if_pos e.symm]; exact xc3 (p:=(k,y)) e
  ·rw [if_neg (fun z=>e z.symm)]; exact xc5 (p:=(k,y)) e
 | p :: r,hn=>by
  rw [List.cons_append]
  have hk:¬ p.1 = k:=fun z=>by rw [xc3 z] at hn; cases hn
  rw [xc5 hk] at hn
  have ih:=xu2 k j y r hn
  by_cases e:p.1 = j
  ·rw [xc3 e,xc3 e,if_neg (fun z=>hk (e.trans z))]
  ·rw [xc5 e,xc5 e,ih]
theorem yo5 (kvs:List (κ × V)) (k j:κ) (y:V):valV (putK kvs k y) j = if j = k then some y else valV kvs j:=by
 unfold putK
 by_cases a:(kvs.any fun kv=>decide (kv.1 = k)) = true
 ·rw [if_pos a,yo6]
  rw [xi9] at a
  by_cases e:j = k
  ·obtain ⟨x,hx⟩:=Option.isSome_iff_exists.mp a
   rw [if_pos e,e,hx,Option.map_some,if_pos rfl]
  ·rw [if_neg e]
   cases valV kvs j with
   | none=>rfl
   | some x=>rw [Option.map_some,if_neg e]
 ·rw [if_neg a]
  refine xu2 k j y kvs ?_
  rw [xi9] at a
  cases q:valV kvs k with
  | none=>rfl
  | some x=>rw [q] at a; exact (a rfl).elim
theorem xi4 (kvs:List (κ × V)) (k:κ) (v:V):(putK kvs k v).length <= kvs.length + 1:=by
 unfold putK
 split
 ·rw [List.length_map]; omega
 ·rw [List.length_append,List.length_cons,List.length_nil]; omega
theorem xt8 {kvs:List (κ × V)} {k:κ} (v:V) (h:valV kvs k = none):putK kvs k v = kvs ++ [(k,v)]:=by
 unfold putK
 rw [xi9,h]
 exact if_neg (by decide)
theorem RelO.isSome_eq {o:Option V} {u:Option Value} (r:RelO o u):o.isSome = u.isSome:=by
 cases o with
 | none=>cases u with
  | none=>rfl
  | some _=>exact (show False from r).elim
 | some _=>cases u with
  | none=>exact (show False from r).elim
  | some _=>rfl
theorem RelO.getD {o:Option V} {u:Option Value} {d:V} {d':Value} (r:RelO o u) (rd:RelV d d'):RelV (o.getD d) (u.getD d'):=by
 cases o with
 | none=>cases u with
  | none=>exact rd
  | some _=>exact (show False from r).elim
 | some _=>cases u with
  | none=>exact (show False from r).elim
  | some _=>exact r
theorem KV.val {kvs:List (κ × V)} {vs:List (κ × Value)} (r:KV kvs vs) (k:κ):RelO (valV kvs k) (valueAt vs k):=by
 unfold KV at r
 induction r with
 | nil=>exact True.intro
 | @cons p q ps qs h t ih =>
  obtain ⟨h1,h2⟩:=h
  by_cases e:p.1 = k
  ·have e':q.1 = k:=h1.symm.trans e
   have b:valueAt (q :: qs) k = some q.2:=by simp [valueAt,List.find?_cons,e']
   rw [xc3 e,b]; exact h2
  ·have e':¬ q.1 = k:=fun z=>e (h1.trans z)
   have b:valueAt (q :: qs) k = valueAt qs k:=by simp [valueAt,List.find?_cons,e']
   rw [xc5 e,b]; exact ih
theorem KV.any {kvs:List (κ × V)} {vs:List (κ × Value)} (r:KV kvs vs) (k:κ):(kvs.any fun kv=>decide (kv.1 = k)) = vs.any fun kv=>decide (kv.1 = k):=by
 unfold KV at r
 induction r with
 | nil=>rfl
 | cons h t ih=>rw [List.any_cons,List.any_cons,ih,h.1]
theorem KV.repl {kvs:List (κ × V)} {vs:List (κ × Value)} (r:KV kvs vs) (k:κ) {y:V} {u:Value} (ry:RelV y u) :
  KV (kvs.map fun kv=>if kv.1 = k then (kv.1,y) else kv) (vs.map fun kv=>if kv.1 = k then (kv.1,u) else kv):=by
 unfold KV at r ⊢
 induction r with
 | nil=>exact .nil
 | @cons p q ps qs h t ih =>
  rw [List.map_cons,List.map_cons]
  refine .cons ?_ ih
  obtain ⟨h1,h2⟩:=h
  by_cases e:p.1 = k
  ·rw [if_pos e,if_pos (h1.symm.trans e)]; exact ⟨h1,ry⟩
  ·rw [if_neg e,if_neg (fun z=>e (h1.trans z))]; exact ⟨h1,h2⟩
theorem KV.put {kvs:List (κ × V)} {vs:List (κ × Value)} (r:KV kvs vs) (k:κ) {y:V} {u:Value} (ry:RelV y u):KV (putK kvs k y) (stored vs k u):=by
 unfold putK stored
 rw [r.any k]
 by_cases e:(vs.any fun kv=>decide (kv.1 = k)) = true
 ·rw [if_pos e,if_pos e]; exact r.repl k ry
 ·rw [if_neg e,if_neg e]; exact Paired.snoc r ⟨rfl,ry⟩
theorem KV.drop {kvs:List (κ × V)} {vs:List (κ × Value)} (r:KV kvs vs) (k:κ):KV (xt6 kvs k) (without vs k):=by
 unfold KV at r ⊢
 unfold xt6 without
 induction r with
 | nil=>exact .nil
 | @cons p q ps qs h t ih =>
  obtain ⟨h1,h2⟩:=h
  rw [List.filter_cons,List.filter_cons]
  by_cases e:p.1 = k
  ·have a:¬ decide (p.1 ≠ k) = true:=by simp [e]
   have b:¬ decide (q.1 ≠ k) = true:=by simp [h1.symm.trans e]
   rw [if_neg a,if_neg b]; exact ih
  ·have e':¬ q.1 = k:=fun z=>e (h1.trans z)
   have a:decide (p.1 ≠ k) = true:=by simp [e]
   have b:decide (q.1 ≠ k) = true:=by simp [e']
   rw [if_pos a,if_pos b]; exact .cons ⟨h1,h2⟩ ih
theorem KV.length {kvs:List (κ × V)} {vs:List (κ × Value)} (r:KV kvs vs):kvs.length = vs.length:=Paired.length r
theorem yr0 (kvs:List (κ × V)) (k:κ):(xt6 kvs k).length <= kvs.length:=List.length_filter_le _ _
end
theorem ye5 {P:Program} {w:World} {k:Key} {u:Value} (r:RelV (kV k) u):(xc2 P w).is k u = true:=by
 cases k with
 | inl i=>obtain ⟨t,e⟩:=(show ∃ t,u = Value.int i t from r); subst e; exact ym5 P w i t
 | inr x=>obtain ⟨t,e⟩:=(show ∃ t,u = Value.str x t from r); subst e; exact ym4 P w x t
theorem kV_inj {a b:Key} (e:kV a = kV b):a = b:=by
 cases a with
 | inl i=>cases b with
  | inl j=>have e':V.int i = V.int j:=e; injection e' with e'; rw [e']
  | inr y=>exact nomatch (show V.int i = V.str y from e)
 | inr x=>cases b with
  | inl j=>exact nomatch (show V.str x = V.int j from e)
  | inr y=>have e':V.str x = V.str y:=e; injection e' with e'; rw [e']
theorem za4:∀ {a b:List Key},a.map kV = b.map kV -> a = b
 | [],[],_=>rfl
 | [],_ :: _,e=>by simp at e
 | _ :: _,[],e=>by simp at e
 | x :: xs,y :: ys,e=>by
  rw [List.map_cons,List.map_cons] at e
  injection e with e1 e2
  rw [kV_inj e1,za4 e2]
theorem yi8 {P:Program} {w:World}:∀ {ks:List Key} {us:List Value},Vals (ks.map kV) us -> ItemsAre (xc2 P w) ks us
 | [],_,r=>by rw [List.map_nil] at r; cases r; exact .nil
 | k :: ks,_,r=>by
  rw [List.map_cons] at r
  cases r with
  | cons h t=>exact .cons (ye5 h) (yi8 t)
abbrev KT (H:Hp):List (List Key × V) -> List (List Key × Addr × Value) -> Prop:=Paired fun p q=>p.1 = q.1 /\ H q.2.1 = some (.tup (p.1.map kV)) /\ RelV p.2 q.2.2
theorem KT.val {H:Hp} {kvs:List (List Key × V)} {xs:List (List Key × Addr × Value)} (r:KT H kvs xs) (k:List Key):RelO (valV kvs k) ((atKey xs k).map (·.2)):=by
 induction r with
 | nil=>exact True.intro
 | @cons p q ps qs h t ih =>
  obtain ⟨h1,_,h2⟩:=h
  by_cases e:p.1 = k
  ·have e':q.1 = k:=h1.symm.trans e
   have b:atKey (q :: qs) k = some q.2:=by simp [atKey,List.find?_cons,e']
   rw [xc3 e,b]; exact h2
  ·have e':¬ q.1 = k:=fun z=>e (h1.trans z)
   have b:atKey (q :: qs) k = atKey qs k:=by simp [atKey,List.find?_cons,e']
   rw [xc5 e,b]; exact ih
theorem KT.repl {H:Hp} {kvs:List (List Key × V)} {xs:List (List Key × Addr × Value)} (r:KT H kvs xs) (k:List Key) {y:V} {u:Value} (ry:RelV y u) :
  KT H (kvs.map fun kv=>if kv.1 = k then (kv.1,y) else kv) (xs.map (putAt k u)):=by
 induction r with
 | nil=>exact .nil
 | @cons p q ps qs h t ih =>
  rw [List.map_cons,List.map_cons]
  refine .cons ?_ ih
  obtain ⟨h1,h2,h3⟩:=h
  unfold putAt
  by_cases e:p.1 = k
  ·rw [if_pos e,if_pos (h1.symm.trans e)]; exact ⟨h1,h2,ry⟩
  ·rw [if_neg e,if_neg (fun z=>e (h1.trans z))]; exact ⟨h1,h2,h3⟩
theorem KT.put {H:Hp} {kvs:List (List Key × V)} {xs:List (List Key × Addr × Value)} (r:KT H kvs xs) (k:List Key) {b:Addr} {y:V} {u:Value} (hb:H b = some (.tup (k.map kV))) (ry:RelV y u) :
  KT H (putK kvs k y) (storedH xs k b u):=by
 have e:(kvs.any fun kv=>decide (kv.1 = k)) = (atKey xs k).isSome:=by
  rw [xi9,(r.val k).isSome_eq,Option.isSome_map]
 unfold putK storedH
 rw [e]
 by_cases q:(atKey xs k).isSome = true
 ·rw [if_pos q,if_pos q]; exact r.repl k ry
 ·rw [if_neg q,if_neg q]; exact Paired.snoc r ⟨rfl,hb,ry⟩
theorem KT.keeps {H H':Hp} {kvs:List (List Key × V)} {xs:List (List Key × Addr × Value)} (r:KT H kvs xs) (ht:∀ b ys,H b = some (.tup ys) -> H' b = some (.tup ys)):KT H' kvs xs :=
 Paired.mapP r fun _ _ z=>⟨z.1,ht _ _ z.2.1,z.2.2⟩
section
variable {P:Program} {w:World} {H:Hp} {h:Heap} {a:Addr}
theorem rd_of {u:HO} (ok:HOk P w H h) (e:Rd H a u):xe1 P w H h a u:=e.ok ok
theorem yn3 {kvs:List (Key × V)} (ok:HOk P w H h) (e:Rd H a (.dK kvs)):kvs.length <= sizeLine /\ (a == sysModules) = false /\ ∃ vs,KV kvs vs /\ h.DictOf (xc2 P w) a vs :=
 show xe1 P w H h a (.dK kvs) from rd_of ok e
theorem yn4 {kvs:List (Key × V)} (ok:HOk P w H h) (e:H a = some (.dK kvs)):kvs.length <= sizeLine /\ (a == sysModules) = false /\ ∃ vs,KV kvs vs /\ h.DictOf (xc2 P w) a vs:=yn3 ok (.inl e)
theorem xs9 {ks:List Key} (ok:HOk P w H h) (e:H a = some (.tup (ks.map kV))):(tupleKind (xc2 P w)).is h ks a:=by
 obtain ⟨_,its,r,o,h1,h2,n,h3⟩:=(show xe1 P w H h a (.tup (ks.map kV)) from ok a _ e)
 exact ⟨o,its.toArray,n,h1,h2,h3,by simpa using yi8 r⟩
theorem yn2 {kvs:List (List Key × V)} (ok:HOk P w H h) (e:Rd H a (.dT kvs)):kvs.length <= sizeLine /\ (a == sysModules) = false /\
  ∃ xs,KT H kvs xs /\ h.DictOfH (tupleKind (xc2 P w)) a xs:=by
 obtain ⟨z,y,xs,r,o,es,ep,h1,h2,h3,h4,h5⟩:=(show xe1 P w H h a (.dT kvs) from rd_of ok e)
 refine ⟨z,y,xs,r,o,es,ep,h1,h2,h3,h4,fun x hx=>?_,h5⟩
 have all:∀ {l:List (List Key × V)} {m:List (List Key × Addr × Value)},KT H l m -> ∀ x ∈ m,(tupleKind (xc2 P w)).is h x.1 x.2.1:=by
  intro l m q
  induction q with
  | nil=>intro x hx; exact nomatch hx
  | @cons p q ps qs hq t ih =>
   intro x hx
   rcases List.mem_cons.mp hx with e | hx
   ·subst e
    exact xs9 ok (by rw [<- hq.1]; exact hq.2.1)
   ·exact ih x hx
 exact all r x hx
theorem dt_of {kvs:List (List Key × V)} (ok:HOk P w H h) (e:H a = some (.dT kvs)):kvs.length <= sizeLine /\ (a == sysModules) = false /\
  ∃ xs,KT H kvs xs /\ h.DictOfH (tupleKind (xc2 P w)) a xs:=yn2 ok (.inl e)
end
def DGet (H:Hp) (a:Addr) (y:V) (r:Option V):Prop :=
 (∃ kvs k,Rd H a (.dK kvs) /\ y = kV k /\ r = valV kvs k) \/ ∃ kvs k b,Rd H a (.dT kvs) /\ y = .ref b /\ H b = some (.tup (k.map kV)) /\ r = valV kvs k
def DPut (H:Hp) (a:Addr) (y v:V) (H':Hp):Prop :=
 (∃ kvs k,H a = some (.dK kvs) /\ y = kV k /\ kvs.length < sizeLine /\ H' = upd H a (.dK (putK kvs k v))) \/
 ∃ kvs k b,H a = some (.dT kvs) /\ y = .ref b /\ H b = some (.tup (k.map kV)) /\ kvs.length < sizeLine /\ H' = upd H a (.dT (putK kvs k v))
theorem DGet.k {H:Hp} {a:Addr} {kvs:List (Key × V)} {k:Key} (e:H a = some (.dK kvs)):DGet H a (kV k) (valV kvs k):=.inl ⟨kvs,k,.inl e,rfl,rfl⟩
theorem DGet.t {H:Hp} {a b:Addr} {kvs:List (List Key × V)} {k:List Key} (e:H a = some (.dT kvs)) (eb:H b = some (.tup (k.map kV))):DGet H a (.ref b) (valV kvs k):=.inr ⟨kvs,k,b,.inl e,rfl,eb,rfl⟩
theorem DPut.k {H:Hp} {a:Addr} {kvs:List (Key × V)} {k:Key} {v:V} (e:H a = some (.dK kvs)) (hl:kvs.length < sizeLine):DPut H a (kV k) v (upd H a (.dK (putK kvs k v))):=.inl ⟨kvs,k,e,rfl,hl,rfl⟩
theorem DPut.t {H:Hp} {a b:Addr} {kvs:List (List Key × V)} {k:List Key} {v:V} (e:H a = some (.dT kvs)) (eb:H b = some (.tup (k.map kV))) (hl:kvs.length < sizeLine) :
  DPut H a (.ref b) v (upd H a (.dT (putK kvs k v))):=.inr ⟨kvs,k,b,e,rfl,eb,hl,rfl⟩
section
variable {X:Cx} {pins:List (Addr × Obj)} {σ:St} {H:Hp} {s:Shared} {a:Addr} {y v:V} {u r:Value} {o:Option V} {A:Around} {E:Value -> Shared -> Prop}
theorem Inv.big (I:Inv X pins σ H s):sysModules < s.heap.objs.size:=by
 have h:mainGlobals < s.heap.objs.size:=(I.mod.glob.keeps I.bk).lt
 exact Nat.lt_trans (by decide) h
theorem zd4 {Q:Value -> Shared -> Prop} (hu:A.units + 1 < cLine) (I:Inv X pins σ H s) (g:DGet H a y (some v)) (ry:RelV y u) (h:∀ w' s',Inv X pins σ H s' -> RelV v w' -> Q w' s') :
  wpAny (model X.prog X.w) A (getItem (.ref a) u) Q E s:=by
 rcases g with ⟨kvs,k,e,ey,l⟩ | ⟨kvs,k,b,e,ey,eb,l⟩
 ·subst ey
  obtain ⟨z,hd,vs,rel,dd⟩:=yn3 I.hok e
  obtain ⟨w',hw,rw'⟩:=RelO.some_of (v:=v) (o:=valueAt vs k) (by rw [l]; exact rel.val k)
  exact wpAny_getItem_of (ye5 ry) dd.mapOf hw (h w' _ (I.tok _) rw')
 ·subst ey
  cases (show u = Value.ref b from ry)
  obtain ⟨z,hd,xs,rel,dd⟩:=yn2 I.hok e
  obtain ⟨w',hw,rw'⟩:=RelO.some_of (v:=v) (o:=(atKey xs k).map (·.2)) (by rw [l]; exact rel.val k)
  obtain ⟨p,hp,hp2⟩:=Option.map_eq_some_iff.mp hw
  refine wpAny_getItem_heap (tupleKind_room_in1 hu) (xs9 I.hok eb) dd hp ?_
  rw [hp2]
  exact h w' _ (I.tok _) rw'
theorem d_in {Q:Value -> Shared -> Prop} (hu:A.units + 1 < cLine) (I:Inv X pins σ H s) (g:DGet H a y o) (ry:RelV y u) (h:∀ s',Inv X pins σ H s' -> Q (.bool o.isSome) s') :
  wpAny (model X.prog X.w) A (compareOp .In u (.ref a)) Q E s:=by
 rcases g with ⟨kvs,k,e,ey,l⟩ | ⟨kvs,k,b,e,ey,eb,l⟩
 ·subst ey
  obtain ⟨z,hd,vs,rel,dd⟩:=yn3 I.hok e
  refine wpAny_in_of (ye5 ry) hd dd.mapOf ?_
  rw [<- (rel.val k).isSome_eq,<- l]
  exact h _ (I.tok _)
 ·subst ey
  cases (show u = Value.ref b from ry)
  obtain ⟨z,hd,xs,rel,dd⟩:=yn2 I.hok e
  refine wpAny_in_heap (tupleKind_room_in1 hu) (xs9 I.hok eb) hd dd ?_
  have q:=(rel.val k).isSome_eq
  rw [Option.isSome_map] at q
  rw [<- q,<- l]
  exact h _ (I.tok _)
theorem d_notIn {Q:Value -> Shared -> Prop} (hu:A.units + 1 < cLine) (I:Inv X pins σ H s) (g:DGet H a y o) (ry:RelV y u) (h:∀ s',Inv X pins σ H s' -> Q (.bool (!o.isSome)) s') :
  wpAny (model X.prog X.w) A (compareOp .NotIn u (.ref a)) Q E s:=by
 rcases g with ⟨kvs,k,e,ey,l⟩ | ⟨kvs,k,b,e,ey,eb,l⟩
 ·subst ey
  obtain ⟨z,hd,vs,rel,dd⟩:=yn3 I.hok e
  refine wpAny_notIn_of (ye5 ry) hd dd.mapOf ?_
  rw [<- (rel.val k).isSome_eq,<- l]
  exact h _ (I.tok _)
 ·subst ey
  cases (show u = Value.ref b from ry)
  obtain ⟨z,hd,xs,rel,dd⟩:=yn2 I.hok e
  refine wpAny_notIn_heap (tupleKind_room_in1 hu) (xs9 I.hok eb) hd dd ?_
  have q:=(rel.val k).isSome_eq
  rw [Option.isSome_map] at q
  rw [<- q,<- l]
  exact h _ (I.tok _)
theorem ye9 {h':Heap} {t':Nat} {ob:HO} (I:Inv X pins σ H s) (mu:Mut (H a)) (hs:Heap.SameBut a s.heap h') (he:∃ q,h'.get? a = some q) (new:xe1 X.prog X.w (upd H a ob) h' a ob) :
  Inv X pins σ (upd H a ob) { s with heap:=h',toks:=t' } :=
 I.write (x:=a) (e:=a) mu (.inl rfl) (fun b q hb z=>(hs.2 b hb).trans z) he new
theorem zc9 {P:Program} {w:World} {H':Hp} {h':Heap} {kvs:List (Key × V)} {vs:List (Key × Value)} (z:kvs.length <= sizeLine) (hd:(a == sysModules) = false) (rel:KV kvs vs) (dd:h'.DictOf (xc2 P w) a vs) :
  xe1 P w H' h' a (.dK kvs):=⟨z,hd,vs,rel,dd⟩
theorem zd3 {H':Hp} {Q:Unit -> Shared -> Prop} (hu:A.units + 1 < cLine) (I:Inv X pins σ H s) (g:DPut H a y v H') (ry:RelV y u) (rv:RelV v r) (h:∀ s',Inv X pins σ H' s' -> Q () s') :
  wpAny (model X.prog X.w) A (setItem (.ref a) u r) Q E s:=by
 rcases g with ⟨kvs,k,e,ey,l,eH⟩ | ⟨kvs,k,b,e,ey,eb,l,eH⟩
 ·subst ey eH
  obtain ⟨z,hd,vs,rel,dd⟩:=yn4 I.hok e
  have hz:vs.length <= sizeLine:=by rw [<- rel.length]; exact z
  have hl:(putK kvs k v).length <= sizeLine:=by have:=xi4 kvs k v; omega
  refine wpAny_setItem_pairs (hsz:=hz) (ye5 ry) dd fun h' dd' hs=>h _ ?_
  have he:∃ q,h'.get? a = some q:=let ⟨q,_,_,hq,_⟩:=dd'; ⟨q,hq⟩
  exact ye9 I (by rw [e]; exact True.intro) hs he (zc9 hl hd (rel.put k rv) dd')
 ·subst ey eH
  cases (show u = Value.ref b from ry)
  obtain ⟨z,hd,xs,rel,dd⟩:=dt_of I.hok e
  have hz:xs.length <= sizeLine:=by rw [<- Paired.length rel]; exact z
  have hl:(putK kvs k v).length <= sizeLine:=by have:=xi4 kvs k v; omega
  refine wpAny_setItem_heap (hsz:=hz) (tupleKind_room_in1 hu) (xs9 I.hok eb) dd fun h' dd' hs=>h _ ?_
  obtain ⟨q,es,ep,hq,h2,h3,h4,_,h5⟩:=dd'
  refine ye9 I (by rw [e]; exact True.intro) hs ⟨q,hq⟩ ⟨hl,hd,_,(rel.put k eb rv).keeps fun c ys ec=>?_,q,es,ep,hq,h2,h3,h4,h5⟩
  rw [xa3 (ye1 ec e (fun z=>nomatch z))]
  exact ec
end
section
variable {X:Cx} {pins:List (Addr × Obj)} {σ:St} {H:Hp} {s:Shared} {a:Addr} {kvs:List (Key × V)} {k:Key} {u:Value} {A:Around} {E:Value -> Shared -> Prop}
theorem d_pop {v:V} {more:List Value} {Q:Value -> Shared -> Prop} (I:Inv X pins σ H s) (e:H a = some (.dK kvs)) (ry:RelV (kV k) u) (l:valV kvs k = some v) (hm:more = [] \/ ∃ x,more = [x])
  (h:∀ w' s',Inv X pins σ (upd H a (.dK (xt6 kvs k))) s' -> RelV v w' -> Q w' s'):wpAny (model X.prog X.w) A (call (.builtin "dict.pop") (.ref a :: u :: more)) Q E s:=by
 obtain ⟨z,hd,vs,rel,dd⟩:=yn4 I.hok e
 obtain ⟨w',hw,rw'⟩:=RelO.some_of (v:=v) (o:=valueAt vs k) (by rw [<- l]; exact rel.val k)
 have hp:(keyPart u).isSome = true:=by
  cases k with
  | inl i=>obtain ⟨t,q⟩:=(show ∃ t,u = Value.int i t from ry); subst q; rfl
  | inr x=>obtain ⟨t,q⟩:=(show ∃ t,u = Value.str x t from ry); subst q; rfl
 have ha:argsOk "dict.pop" ⟨.ref a :: u :: more,[]⟩:=by
  rcases hm with q | ⟨x,q⟩
  ·subst q; exact PySem.F.args_dict_pop_2 _ _
  ·subst q; exact PySem.F.args_dict_pop_3 _ _ _
 refine call_meetsIn PySem.F.slot_dict_pop dd.typeIs PySem.F.entry_dict_pop ha (meets_dict_pop_there (xc2 X.prog X.w) a (ye5 ry) more hm hp)
  ⟨vs,w',dd,by rw [<- rel.length]; exact z,hw,fun h' dd' hs=>h w' _ ?_ rw'⟩
 have he:∃ q,h'.get? a = some q:=let ⟨q,_,_,hq,_⟩:=dd'; ⟨q,hq⟩
 exact ye9 I (by rw [e]; exact True.intro) hs he (zc9 (Nat.le_trans (yr0 kvs k) z) hd (rel.drop k) dd')
theorem d_popD {r:Value} {Q:Value -> Shared -> Prop} (I:Inv X pins σ H s) (e:H a = some (.dK kvs)) (ry:RelV (kV k) u) (l:valV kvs k = none) (h:∀ s',Inv X pins σ H s' -> Q r s') :
  wpAny (model X.prog X.w) A (call (.builtin "dict.pop") [.ref a,u,r]) Q E s:=by
 obtain ⟨z,hd,vs,rel,dd⟩:=yn4 I.hok e
 have hn:valueAt vs k = none:=RelO.none_of (by rw [<- l]; exact rel.val k)
 have hp:(keyPart u).isSome = true:=by
  cases k with
  | inl i=>obtain ⟨t,q⟩:=(show ∃ t,u = Value.int i t from ry); subst q; rfl
  | inr x=>obtain ⟨t,q⟩:=(show ∃ t,u = Value.str x t from ry); subst q; rfl
 exact call_meetsIn PySem.F.slot_dict_pop dd.typeIs PySem.F.entry_dict_pop (PySem.F.args_dict_pop_3 _ _ _) (meets_dict_pop_default (xc2 X.prog X.w) a (ye5 ry) hd hp r) ⟨vs,dd,hn,h _ (I.tok _)⟩
end
def NoSl (i:Expr):Prop:=∀ ov iv,subscripted i false ov iv = operate [ov,iv] (getItem ov iv)
theorem subD_of {prog:Program} {w:World} {A:Around} {E:Value -> Shared -> Prop} {s:Shared} {env:Env} {value slice:Expr} {pos:Pos} {T id:String} {Q:Value -> Shared -> Prop}
  (hl:typeLookup (.type T) "__getitem__" = pure (some (.builtin id))) (hs:NoSl slice)
  (h:wpAny (model prog w) A (eval value env) (fun o s₁=>wpAny (model prog w) A (eval slice env) (fun i s₂=>s₂.TypeIs o T /\ wpAny (model prog w) A (getItem o i) Q E s₂) E s₁) E s) :
  wpAny (model prog w) A (eval (.Subscript value slice pos) env) Q E s:=by
 refine Subscript_ (wpAny_mono h (fun o s₁ h₁=>wpAny_mono h₁ (fun i s₂ h₂=>?_) fun _ _ x=>x) fun _ _ x=>x)
 obtain ⟨hT,h₂⟩:=h₂
 unfold subscriptTail
 refine wpAny_bind ?_
 rw [getitemInPython_of_ne hT.not_modules]
 refine wpAny_bind (wpAny_specialOf hT hl ?_)
 have fin:wpAny (model prog w) A (subscripted slice false o i) (fun r s₃=>wpAny (model prog w) A (letTemporaryGo value o r >>= fun _=>pure r) Q E s₃) E s₂:=by
  rw [hs o i]
  exact wpAny_operating (wpAny_mono h₂ (fun r s₃ h₃=>wpAny_bind (wpAny_letTemporaryGo (wpAny_pure h₃))) fun _ _ x=>x)
 first
  | exact wpAny_pure (wpAny_bind fin)
  | exact wpAny_bind (wpAny_pure (wpAny_bind fin))
  | exact wpAny_bind fin
theorem yn5 {X:Cx} {pins:List (Addr × Obj)} {σ:St} {H:Hp} {s:Shared} {a:Addr} {y:V} {o:Option V} (I:Inv X pins σ H s) (g:DGet H a y o):s.TypeIs (.ref a) "dict":=by
 rcases g with ⟨kvs,k,e,_,_⟩ | ⟨kvs,k,b,e,_,_,_⟩
 ·obtain ⟨_,_,vs,_,dd⟩:=yn3 I.hok e
  exact dd.typeIs
 ·obtain ⟨_,_,xs,_,dd⟩:=yn2 I.hok e
  exact dd.typeIs
def tDGet (td ty:TE):TE:=fun σ H Q=>td σ H fun x H1=>ty σ H1 fun y H2=>∃ a v,x = .ref a /\ DGet H2 a y (some v) /\ Q v H2
def tDIn (ty td:TE):TE:=fun σ H Q=>ty σ H fun y H1=>td σ H1 fun x H2=>∃ a o,x = .ref a /\ DGet H2 a y o /\ Q (.bl o.isSome) H2
def tDNotIn (ty td:TE):TE:=fun σ H Q=>ty σ H fun y H1=>td σ H1 fun x H2=>∃ a o,x = .ref a /\ DGet H2 a y o /\ Q (.bl (!o.isSome)) H2
def sDPut (td ty tv:TE):TS:=fun D σ H=>tv σ H fun v H1=>td σ H1 fun x H2=>ty σ H2 fun y H3=>∃ a H4,x = .ref a /\ DPut H3 a y v H4 /\ D.nx σ H4
section
variable {X:Cx} {o i e value:Expr} {pos pos' tpos:Pos} {td ty tv:TE}
theorem xi7 (hu:X.A.units + 1 < cLine) (ho:PE X o td) (hi:PE X i ty) (hs:NoSl i):PE X (.Subscript o i pos) (tDGet td ty):=by
 intro pins s σ H Q I h
 refine subD_of PySem.F.slot_dict_getitem.lookup hs (thn (ho pins s σ H _ I h) fun u s1 ⟨x,H1,I1,rx,q1⟩=>thn (hi pins s1 σ H1 _ I1 q1) fun iv s2 ⟨y,H2,I2,ry,a,v,ex,g,q2⟩=>?_)
 subst ex
 obtain rfl:u = Value.ref a:=rx
 exact ⟨yn5 I2 g,zd4 hu I2 g ry fun w' s3 I3 rw'=>⟨v,H2,I3,rw',q2⟩⟩
theorem yy4 (hu:X.A.units + 1 < cLine) (hi:PE X i ty) (ho:PE X o td):PC X .In i o (tDIn ty td):=by
 intro pins s σ H Q I h
 refine thn (hi pins s σ H _ I h) fun iv s1 ⟨y,H1,I1,ry,q1⟩=>thn (ho pins s1 σ H1 _ I1 q1) fun u s2 ⟨x,H2,I2,rx,a,ov,ex,g,q2⟩=>?_
 subst ex
 obtain rfl:u = Value.ref a:=rx
 exact d_in hu I2 g ry fun s3 I3=>⟨.bl ov.isSome,H2,I3,rfl,q2⟩
theorem xv5 (hu:X.A.units + 1 < cLine) (hi:PE X i ty) (ho:PE X o td):PC X .NotIn i o (tDNotIn ty td):=by
 intro pins s σ H Q I h
 refine thn (hi pins s σ H _ I h) fun iv s1 ⟨y,H1,I1,ry,q1⟩=>thn (ho pins s1 σ H1 _ I1 q1) fun u s2 ⟨x,H2,I2,rx,a,ov,ex,g,q2⟩=>?_
 subst ex
 obtain rfl:u = Value.ref a:=rx
 exact d_notIn hu I2 g ry fun s3 I3=>⟨.bl (!ov.isSome),H2,I3,rfl,q2⟩
theorem xn5 (hu:X.A.units + 1 < cLine) (ho:PE X o td) (hi:PE X i ty) (hv:PE X value tv) (hs:swapsWith value (some (.Subscript o i pos')) pos.line X.env = pure false) :
  PS X (.Assign [.Subscript o i pos'] value pos) (sDPut td ty tv):=by
 intro pins s σ H D I h
 refine wpAny_Assign_Subscript (thn (hv pins s σ H _ I h) fun r s1 ⟨v,H1,I1,rv,q1⟩=>thn (ho pins s1 σ H1 _ I1 q1) fun u s2 ⟨x,H2,I2,rx,q2⟩=>thn (hi pins s2 σ H2 _ I2 q2) fun iv s3 ⟨y,H3,I3,ry,a,H4,ex,g,q3⟩=>?_) hs
 subst ex
 obtain rfl:u = Value.ref a:=rx
 exact zd3 hu I3 g ry rv fun s4 I4=>⟨σ,H4,I4,q3⟩
end
theorem yr1 {P:Program} {w:World} {H:Hp} (h:Heap) (hb:sysModules < h.objs.size):xe1 P w H (h.push { cls:=.type "dict",data:=.dict #[] }) h.objs.size (.dK []) :=
 ⟨Nat.zero_le _,beq_eq_false_iff_ne.mpr (Ne.symm (Nat.ne_of_lt hb)),[],.nil,Heap.DictOf.new h⟩
theorem dt_empty {P:Program} {w:World} {H:Hp} (h:Heap) (hb:sysModules < h.objs.size):xe1 P w H (h.push { cls:=.type "dict",data:=.dict #[] }) h.objs.size (.dT []) :=
 ⟨Nat.zero_le _,beq_eq_false_iff_ne.mpr (Ne.symm (Nat.ne_of_lt hb)),[],.nil,_,#[],0,Heap.get?_push_size _ rfl,⟨rfl,rfl,rfl⟩,rfl,rfl,List.nodup_nil⟩
def tDNewK:TE:=fun _ H Q=>∀ p,H p = none -> Q (.ref p) (upd H p (.dK []))
def tDNewT:TE:=fun _ H Q=>∀ p,H p = none -> Q (.ref p) (upd H p (.dT []))
section
variable {X:Cx} {pos:Pos}
theorem xp6:PE X (.Dict [] [] pos) tDNewK:=fun pins s σ H Q I h =>
 wpAny_Dict_empty ⟨.ref s.heap.objs.size,_,I.laid (a:=s.heap.objs.size) (o:=.dK []) (t':=s.toks) (fun _ _ q=>Heap.get?_push_of_some _ q) (Nat.le_refl _) (yr1 s.heap I.big),rfl,h _ (I.hok.fresh (Nat.le_refl _))⟩
theorem xk9:PE X (.Dict [] [] pos) tDNewT:=fun pins s σ H Q I h =>
 wpAny_Dict_empty ⟨.ref s.heap.objs.size,_,I.laid (a:=s.heap.objs.size) (o:=.dT []) (t':=s.toks) (fun _ _ q=>Heap.get?_push_of_some _ q) (Nat.le_refl _) (dt_empty s.heap I.big),rfl,h _ (I.hok.fresh (Nat.le_refl _))⟩
end
def yw4:List (TE × TE) -> St -> Hp -> (List (V × V) -> Hp -> Prop) -> Prop
 | [],_,H,Q=>Q [] H
 | (tk,tv) :: r,σ,H,Q=>tk σ H fun x H1=>tv σ H1 fun y H2=>yw4 r σ H2 fun ps H3=>Q ((x,y) :: ps) H3
abbrev VV:List (V × V) -> List (Value × Value) -> Prop:=Paired fun p q=>RelV p.1 q.1 /\ RelV p.2 q.2
def PPs (X:Cx) (pos:Pos) (keys:List (Option Expr)) (values:List Expr) (trs:List (TE × TE)):Prop :=
 ∀ (pins:List (Addr × Obj)) (s:Shared) (σ:St) (H:Hp) (Q:List (V × V) -> Hp -> Prop),Inv X pins σ H s -> yw4 trs σ H Q ->
  wpAny (model X.prog X.w) X.A (evalPairs (pairTrees keys values X.env pos)) (fun vs s'=>∃ ps H',Inv X pins σ H' s' /\ VV ps vs /\ Q ps H') X.xe s
theorem pps_nil {X:Cx} {pos:Pos}:PPs X pos [] [] []:=fun pins s σ H Q I h=>pairTrees_nil_walk ⟨[],H,I,.nil,h⟩
theorem yd0 {X:Cx} {pos:Pos} {k v:Expr} {ks:List (Option Expr)} {vs:List Expr} {tk tv:TE} {trs:List (TE × TE)} (hk:PE X k tk) (hv:PE X v tv) (hr:PPs X pos ks vs trs) :
  PPs X pos (some k :: ks) (v :: vs) ((tk,tv) :: trs):=fun pins s σ H Q I h =>
 pairTrees_cons_walk (thn (hk pins s σ H _ I h) fun u s1 ⟨x,H1,I1,rx,q1⟩=>thn (hv pins s1 σ H1 _ I1 q1) fun w2 s2 ⟨y,H2,I2,ry,q2⟩ =>
  thn (hr pins s2 σ H2 _ I2 q2) fun ws s3 ⟨ps,H3,I3,rel,q3⟩=>⟨(x,y) :: ps,H3,I3,.cons ⟨rx,ry⟩ rel,q3⟩)
def yb0 (kvs more:List (Key × V)):List (Key × V):=more.foldl (fun acc kv=>putK acc kv.1 kv.2) kvs
theorem KV.merge:∀ {more:List (Key × V)} {rs:List (Key × Value)} {kvs:List (Key × V)} {vs:List (Key × Value)},KV more rs -> KV kvs vs -> KV (yb0 kvs more) (merged vs rs):=by
 intro more rs kvs vs r
 unfold KV at r
 induction r generalizing kvs vs with
 | nil=>intro q; exact q
 | @cons p q ps qs h t ih =>
  intro r0
  have e:KV (putK kvs p.1 p.2) (stored vs q.1 q.2):=by
   have:=r0.put p.1 h.2
   rw [<- h.1]; exact this
  exact ih e
theorem xq4:∀ (more kvs:List (Key × V)),(yb0 kvs more).length <= kvs.length + more.length
 | [],kvs=>by show kvs.length <= kvs.length + 0; omega
 | p :: r,kvs=>by
  have h1:=xq4 r (putK kvs p.1 p.2)
  have h2:=xi4 kvs p.1 p.2
  show (yb0 (putK kvs p.1 p.2) r).length <= _
  rw [List.length_cons]; omega
theorem yb5 {P:Program} {w:World}:∀ {kvs:List (Key × V)} {ws:List (Value × Value)},VV (kvs.map fun kv=>(kV kv.1,kv.2)) ws -> ∃ rs,Carries (xc2 P w) ws rs /\ KV kvs rs
 | [],_,r=>by rw [List.map_nil] at r; cases r; exact ⟨[],True.intro,.nil⟩
 | p :: kvs,_,r=>by
  rw [List.map_cons] at r
  cases r with
  | @cons a b as bs h t =>
   obtain ⟨rs,c,q⟩:=yb5 (P:=P) (w:=w) t
   obtain ⟨b1,b2⟩:=b
   exact ⟨(p.1,b2) :: rs,⟨ye5 h.1,rfl,c⟩,.cons ⟨rfl,h.2⟩ q⟩
def tDisp (trs:List (TE × TE)):TE:=fun σ H Q=>∀ p,H p = none -> yw4 trs σ (upd H p (.dK [])) fun ps H2=>H2 p = some (.dK []) /\ ∃ kvs:List (Key × V),ps = kvs.map (fun kv=>(kV kv.1,kv.2)) /\ kvs.length <= 15 /\ Q (.ref p) (upd H2 p (.dK (yb0 [] kvs)))
theorem pe_disp {X:Cx} {pos:Pos} {keys:List (Option Expr)} {values:List Expr} {trs:List (TE × TE)} (h:PPs X pos keys values trs) (hall:keys.all (·.isSome) = true) (hl:keys.length = values.length) (h0:keys ≠ [])
  (h15:keys.length <= 15):PE X (.Dict keys values pos) (tDisp trs):=by
 intro pins s σ H Q I q
 have hn:=I.hok.fresh (Nat.le_refl s.heap.objs.size)
 have I1:=I.laid (a:=s.heap.objs.size) (o:=.dK []) (h':=s.heap.push { cls:=.type "dict",data:=.dict #[] }) (t':=s.toks) (fun _ _ q=>Heap.get?_push_of_some _ q) (Nat.le_refl _) (yr1 s.heap I.big)
 refine wpAny_Dict_walk (knd:=xc2 X.prog X.w) hall hl h0 h15 (thn (h pins _ σ _ _ I1 (q _ hn)) fun ws s2 ⟨ps,H2,I2,rel,e,kvs,ep,lk,q2⟩=>?_)
 subst ep
 obtain ⟨rs,c,rk⟩:=yb5 (P:=X.prog) (w:=X.w) rel
 obtain ⟨z,hd,vs0,r0,dd⟩:=yn4 I2.hok e
 cases r0
 refine ⟨rs,c,dd,fun h' dd' hs=>⟨.ref s.heap.objs.size,_,?_,rfl,q2⟩⟩
 have hz:(yb0 [] kvs).length <= sizeLine:=by
  have h1:=xq4 kvs []
  rw [List.length_nil] at h1
  rw [sizeLine_eq]; omega
 have he:∃ q,h'.get? s.heap.objs.size = some q:=let ⟨q,_,_,hq,_⟩:=dd'; ⟨q,hq⟩
 exact ye9 I2 (by rw [e]; exact True.intro) hs he (zc9 hz hd (rk.merge .nil) dd')
structure M2 (X:Cx) (o:Expr) (m:Str) (apos:Pos) (e f:Expr) (cpos:Pos):Prop where
 base:attributeBase o m X.env (eval o X.env) = eval o X.env
 few:((backTo cpos (starEach [e,f] X.env)).all (fun x=>!x.1) && (backToKw cpos (keywordEach [] X.env)).all (fun x=>x.1.isSome)
  && decide (([e,f]:List Expr).length + ([]:List Keyword).length + (if ([]:List Keyword).isEmpty then 0 else 1) < 30)) = true
 line:(apos.endLine == cpos.line) = true
 trees:backTo cpos (starEach [e,f] X.env) = [(false,eval e X.env),(false,eval f X.env)]
def IsD (H:Hp) (a:Addr):Prop:=(∃ kvs,Rd H a (.dK kvs)) \/ ∃ kvs,Rd H a (.dT kvs)
theorem isD_at {X:Cx} {pins:List (Addr × Obj)} {σ:St} {H:Hp} {s:Shared} {a:Addr} (I:Inv X pins σ H s) (d:IsD H a) :
  s.TypeIs (.ref a) "dict" /\ (∀ b,Value.ref a = .ref b -> ∃ ob,s.heap.get? b = some ob /\ ob.dict = none) /\ (a == sysModules) = false:=by
 rcases d with ⟨kvs,e⟩ | ⟨kvs,e⟩
 ·obtain ⟨_,hd,vs,_,dd⟩:=yn3 I.hok e
  refine ⟨dd.typeIs,fun b q=>?_,hd⟩
  cases q
  obtain ⟨ob,_,_,h1,h2,_⟩:=dd
  exact ⟨ob,h1,h2.2.1⟩
 ·obtain ⟨_,hd,xs,_,dd⟩:=yn2 I.hok e
  refine ⟨dd.typeIs,fun b q=>?_,hd⟩
  cases q
  obtain ⟨ob,_,_,h1,h2,_⟩:=dd
  exact ⟨ob,h1,h2.2.1⟩
section
variable {X:Cx} {pins:List (Addr × Obj)} {σ:St} {H:Hp} {s:Shared} {a:Addr} {y d:V} {u r:Value} {o:Option V} {A:Around} {E:Value -> Shared -> Prop}
theorem d_get2 {Q:Value -> Shared -> Prop} (hu:A.units + 1 < cLine) (I:Inv X pins σ H s) (g:DGet H a y o) (ry:RelV y u) (rd:RelV d r) (h:∀ w' s',Inv X pins σ H s' -> RelV (o.getD d) w' -> Q w' s') :
  wpAny (model X.prog X.w) A (call (.builtin "dict.get") [.ref a,u,r]) Q E s:=by
 rcases g with ⟨kvs,k,e,ey,l⟩ | ⟨kvs,k,b,e,ey,eb,l⟩
 ·subst ey
  obtain ⟨z,hd,vs,rel,dd⟩:=yn3 I.hok e
  refine call_meetsIn PySem.F.slot_dict_get dd.typeIs PySem.F.entry_dict_get (PySem.F.args_dict_get_3 _ _ _) (meets_dict_get_default (xc2 X.prog X.w) a (ye5 ry) hd r) ⟨_,dd.mapOf,h _ _ (I.tok _) ?_⟩
  rw [l]
  exact (rel.val k).getD rd
 ·subst ey
  cases (show u = Value.ref b from ry)
  obtain ⟨z,hd,xs,rel,dd⟩:=yn2 I.hok e
  refine call_meetsIn PySem.F.slot_dict_get dd.typeIs PySem.F.entry_dict_get (PySem.F.args_dict_get_3 _ _ _) (meetsH_dict_get_default (tupleKind (xc2 X.prog X.w)) a b hd r) ⟨tupleKind_room_in1 hu,k,xs,xs9 I.hok eb,dd,h _ _ (I.tok _) ?_⟩
  rw [l]
  exact (rel.val k).getD rd
end
def tDGet2 (td ty tx:TE):TE:=fun σ H Q=>td σ H fun x H1=>∃ a,x = .ref a /\ IsD H1 a /\ ty σ H1 fun y H2=>tx σ H2 fun z H3=>∃ o,DGet H3 a y o /\ Q (o.getD z) H3
def tDPop2 (td ty tx:TE):TE:=fun σ H Q=>td σ H fun x H1=>∃ a,x = .ref a /\ IsD H1 a /\ ty σ H1 fun y H2=>tx σ H2 fun z H3=>∃ kvs k,H3 a = some (.dK kvs) /\ y = kV k /\
 (∀ v,valV kvs k = some v -> Q v (upd H3 a (.dK (xt6 kvs k)))) /\ (valV kvs k = none -> Q z H3)
section
variable {X:Cx} {o e f:Expr} {apos cpos:Pos} {td ty tx:TE}
theorem xp7 (hu:X.A.units + 1 < cLine) (ho:PE X o td) (he:PE X e ty) (hf:PE X f tx) (m:M2 X o "get" apos e f cpos):PE X (.Call (.Attribute o "get" apos) [e,f] [] cpos) (tDGet2 td ty tx):=by
 intro pins s σ H Q I h
 refine wpAny_Call_method m.base m.few m.line PySem.F.plainAttrs_dict PySem.F.slot_dict_get PySem.F.type_dict_get (thn (ho pins s σ H _ I h) fun u s1 ⟨x,H1,I1,rx,a,ex,d,q1⟩=>?_)
 subst ex
 obtain rfl:u = Value.ref a:=rx
 obtain ⟨t1,t2,_⟩:=isD_at I1 d
 refine ⟨t1,t2,?_⟩
 rw [m.trees]
 refine Calls.callWith_builtin rfl (Calls.evalArgs_plain (Calls.spliced_cons (thn (he pins s1 σ H1 _ I1 q1) fun iv s2 ⟨y,H2,I2,ry,q2⟩ =>
  Calls.spliced_cons (thn (hf pins s2 σ H2 _ I2 q2) fun fv s3 ⟨z,H3,I3,rz,ov,g,q3⟩=>Calls.spliced_nil ?_))))
 exact d_get2 hu I3 g ry rz fun w' s4 I4 rw'=>⟨_,H3,I4,rw',q3⟩
theorem pe_dpop2 (ho:PE X o td) (he:PE X e ty) (hf:PE X f tx) (m:M2 X o "pop" apos e f cpos):PE X (.Call (.Attribute o "pop" apos) [e,f] [] cpos) (tDPop2 td ty tx):=by
 intro pins s σ H Q I h
 refine wpAny_Call_method m.base m.few m.line PySem.F.plainAttrs_dict PySem.F.slot_dict_pop PySem.F.type_dict_pop (thn (ho pins s σ H _ I h) fun u s1 ⟨x,H1,I1,rx,a,ex,d,q1⟩=>?_)
 subst ex
 obtain rfl:u = Value.ref a:=rx
 obtain ⟨t1,t2,_⟩:=isD_at I1 d
 refine ⟨t1,t2,?_⟩
 rw [m.trees]
 refine Calls.callWith_builtin rfl (Calls.evalArgs_plain (Calls.spliced_cons (thn (he pins s1 σ H1 _ I1 q1) fun iv s2 ⟨y,H2,I2,ry,q2⟩ =>
  Calls.spliced_cons (thn (hf pins s2 σ H2 _ I2 q2) fun fv s3 ⟨z,H3,I3,rz,kvs,k,ea,ey,q3,q4⟩=>Calls.spliced_nil ?_))))
 subst ey
 cases l:valV kvs k with
 | some v=>exact d_pop I3 ea ry l (.inr ⟨fv,rfl⟩) fun w' s4 I4 rw'=>⟨v,_,I4,rw',q3 v l⟩
 | none=>exact d_popD I3 ea ry l fun s4 I4=>⟨z,H3,I4,rz,q4 l⟩
end
section
variable {X:Cx} {pins:List (Addr × Obj)} {σ:St} {H:Hp} {s:Shared} {a:Addr} {kvs:List (Key × V)} {A:Around} {E:Value -> Shared -> Prop}
end
section
variable {X:Cx} {pins:List (Addr × Obj)} {σ:St} {H:Hp} {s:Shared} {a:Addr} {y:V} {u:Value} {A:Around} {E:Value -> Shared -> Prop}
end
end L2
namespace LS
open PySem
def Lo (l:List Nat) (j r:Nat):Prop:=r <= l.length /\ (∀ (k v:Nat),k < r -> l[k]? = some v -> v < j) /\ ∀ (k v:Nat),r <= k -> l[k]? = some v -> j <= v
theorem below_go {xs:Array Nat} {j:Nat} (hp:xs.toList.Pairwise (· < ·)):∀ (fuel lo hi:Nat),lo <= hi -> hi <= xs.size -> hi - lo <= fuel ->
  (∀ (k v:Nat),k < lo -> xs.toList[k]? = some v -> v < j) -> (∀ (k v:Nat),hi <= k -> xs.toList[k]? = some v -> j <= v) -> Lo xs.toList j (SetTable.below.go xs j fuel lo hi):=by
 intro fuel
 induction fuel with
 | zero =>
  intro lo hi h1 h2 h3 h4 h5
  unfold SetTable.below.go
  exact ⟨by simp; omega,h4,fun k v hk=>h5 k v (by omega)⟩
 | succ fuel ih =>
  intro lo hi h1 h2 h3 h4 h5
  unfold SetTable.below.go
  by_cases c:lo < hi
  ·rw [if_pos c]
   have hm:(lo + hi) / 2 < xs.size:=by omega
   have eg:xs.toList[(lo + hi) / 2]? = some (xs.getD ((lo + hi) / 2) j):=by
    rw [Array.getD_eq_getD_getElem?,Array.getElem?_eq_getElem hm]
    simp [hm]
   have mono:∀ (a b u v:Nat),a < b -> xs.toList[a]? = some u -> xs.toList[b]? = some v -> u < v:=fun a b u v hab ha hb=>by
    obtain ⟨la,ea⟩:=List.getElem?_eq_some_iff.mp ha
    obtain ⟨lb,eb⟩:=List.getElem?_eq_some_iff.mp hb
    have:=List.pairwise_iff_getElem.mp hp a b la lb hab
    rw [ea,eb] at this
    exact this
   dsimp only
   by_cases d:xs.getD ((lo + hi) / 2) j < j
   ·rw [if_pos d]
    refine ih _ _ (by omega) h2 (by omega) (fun k v hk e=>?_) h5
    by_cases kk:k = (lo + hi) / 2
    ·subst kk; rw [eg] at e; cases e; exact d
    ·exact Nat.lt_trans (mono _ _ _ _ (by omega) e eg) d
   ·rw [if_neg d]
    refine ih _ _ (by omega) (by omega) (by omega) h4 (fun k v hk e=>?_)
    by_cases kk:k = (lo + hi) / 2
    ·subst kk; rw [eg] at e; cases e; omega
    ·have:=mono _ _ _ _ (show (lo + hi) / 2 < k by omega) eg e
     omega
  ·rw [if_neg c]
   exact ⟨by simp; omega,h4,fun k v hk=>h5 k v (by omega)⟩
theorem xu0 {xs:Array Nat} (hp:xs.toList.Pairwise (· < ·)) (j:Nat):Lo xs.toList j (SetTable.below xs j):=by
 unfold SetTable.below
 refine below_go hp _ _ _ (Nat.zero_le _) (Nat.le_refl _) (by omega) (fun k v hk=>absurd hk (by omega)) (fun k v hk e=>?_)
 have:=(List.getElem?_eq_some_iff.mp e).1
 simp at this
 omega
theorem below_at {xs:Array Nat} (hp:xs.toList.Pairwise (· < ·)) {i j:Nat} (h:xs.toList[i]? = some j):SetTable.below xs j = i:=by
 obtain ⟨h1,h2,h3⟩:=xu0 hp j
 rcases Nat.lt_trichotomy (SetTable.below xs j) i with c | c | c
 ·-- the one at r is at least j,the one at i above it
  obtain ⟨li,ei⟩:=List.getElem?_eq_some_iff.mp h
  have lr:SetTable.below xs j < xs.toList.length:=by omega
  have:=h3 _ _ (Nat.le_refl _) (List.getElem?_eq_getElem lr)
  have q:=List.pairwise_iff_getElem.mp hp _ _ lr li c
  omega
 ·exact c
 ·exact absurd (h2 _ _ c h) (by omega)
theorem xu4 {t:SetTable} (hp:t.place.toList.Pairwise (· < ·)) {i j:Nat} (h:t.place.toList[i]? = some j):t.slot j = .live i:=by
 unfold SetTable.slot
 dsimp only
 rw [below_at hp h]
 have:t.place[i]? = some j:=by rw [<- h]; simp
 rw [this]
 simp
theorem yw6 {t:SetTable} (hd:t.dummies = #[]) {j:Nat} (h:j ∉ t.place.toList):t.slot j = .empty:=by
 unfold SetTable.slot
 dsimp only
 have a:(t.place[SetTable.below t.place j]? == some j) = false:=by
  rw [Bool.eq_false_iff]
  intro e
  have e:=eq_of_beq e
  exact h (List.mem_of_getElem? (i:=SetTable.below t.place j) (by rw [<- e]; simp))
 rw [a,hd]
 simp [SetTable.has]
theorem xq7 {α:Type} (xs:Array α) (p:Nat) (x:α) (hp:p <= xs.size):(SetTable.insertAt xs p x).toList = xs.toList.take p ++ x :: xs.toList.drop p:=by
 unfold SetTable.insertAt
 simp [Array.toList_extract]; exact List.take_of_length_le (by simp)
theorem yh7 {l:List Nat} {j r:Nat} (hp:l.Pairwise (· < ·)) (lo:Lo l j r) (hj:j ∉ l):(l.take r ++ j :: l.drop r).Pairwise (· < ·):=by
 obtain ⟨h1,h2,h3⟩:=lo
 have a:∀ x ∈ l.take r,x < j:=fun x hx=>by
  obtain ⟨k,hk⟩:=List.getElem?_of_mem hx
  rw [List.getElem?_take] at hk
  split at hk
  ·exact h2 k x (by assumption) hk
  ·cases hk
 have b:∀ x ∈ l.drop r,j < x:=fun x hx=>by
  obtain ⟨k,hk⟩:=List.getElem?_of_mem hx
  rw [List.getElem?_drop] at hk
  have:=h3 _ x (by omega) hk
  rcases Nat.lt_or_eq_of_le this with z | z
  ·exact z
  ·exact absurd (by rw [z]; exact List.mem_of_getElem? hk) hj
 rw [List.pairwise_append]
 refine ⟨hp.sublist (List.take_sublist _ _),List.pairwise_cons.mpr ⟨fun x hx=>b x hx,hp.sublist (List.drop_sublist _ _)⟩,fun x hx y hy=>?_⟩; rcases List.mem_cons.mp hy with rfl | hy
 ·exact a x hx
 ·exact Nat.lt_trans (a x hx) (b y hy)
def adv (mask:Nat) (p:SetTable.Probe):SetTable.Probe:=SetTable.advance { SetTable.fresh 0 0 false with mask:=mask } p
def advs (mask:Nat) (p:SetTable.Probe):Nat -> SetTable.Probe
 | 0=>p
 | n + 1=>adv mask (advs mask p n)
theorem xr1 (mask:Nat) (p:SetTable.Probe) (n:Nat):∀ m,advs mask (advs mask p n) m = advs mask p (n + m)
 | 0=>rfl
 | m + 1=>by rw [advs,xr1 mask p n m]; rfl
theorem yf5 (mask:Nat) (p:SetTable.Probe):∀ n,n <= p.more -> advs mask p n = { p with j:=p.j + n,more:=p.more - n }
 | 0,_=>rfl
 | n + 1,h=>by
  rw [advs,yf5 mask p n (by omega)]
  unfold adv SetTable.advance; dsimp only
  rw [if_pos (show p.more - n > 0 by omega)]
  congr 1
def at0 (mask i pt:Nat) (d:Option Nat):SetTable.Probe:={ j:=i,more:=SetTable.runEnd mask i - i,i:=i,perturb:=pt,dummy:=d }
theorem run9 (mask i:Nat):SetTable.runEnd mask i - i <= 9:=by
 unfold SetTable.runEnd
 split <;> omega
def xj2 (mask i pt:Nat):Nat -> Nat × Nat
 | 0=>(i,pt)
 | n + 1=>SetTable.leap mask (xj2 mask i pt n).1 (xj2 mask i pt n).2
theorem xy3 (mask:Nat) (p:SetTable.Probe):advs mask p (p.more + 1) = at0 mask (SetTable.leap mask p.i p.perturb).1 (SetTable.leap mask p.i p.perturb).2 p.dummy:=by
 rw [advs,yf5 mask p p.more (Nat.le_refl _)]
 unfold adv SetTable.advance; dsimp only
 rw [if_neg (by simp)]
 rfl
theorem yb9 (mask:Nat) (p:SetTable.Probe) (hm:p.more <= 9):∀ n,∃ k,k <= 10 * (n + 1) /\ advs mask p k = at0 mask (xj2 mask p.i p.perturb (n + 1)).1 (xj2 mask p.i p.perturb (n + 1)).2 p.dummy
 | 0=>⟨p.more + 1,by omega,xy3 mask p⟩
 | n + 1=>by
  obtain ⟨k,hk,e⟩:=yb9 mask p hm n
  generalize hl:xj2 mask p.i p.perturb (n + 1) = l at e
  have:=xy3 mask (at0 mask l.1 l.2 p.dummy)
  refine ⟨k + ((at0 mask l.1 l.2 p.dummy).more + 1),?_,?_⟩
  ·have:=run9 mask l.1
   show k + (SetTable.runEnd mask l.1 - l.1 + 1) <= _
   omega
  ·rw [<- xr1,e,this,xj2,hl]
   rfl
theorem yq0 (mask i pt:Nat):∀ n,(xj2 mask i pt n).2 = pt / 32 ^ n
 | 0=>by simp [xj2]
 | n + 1=>by
  rw [xj2]
  show (xj2 mask i pt n).2 / 32 = _
  rw [yq0 mask i pt n,Nat.div_div_eq_div_mul,Nat.pow_succ]
theorem yu2 (mask i pt:Nat) (h:pt < 2 ^ 64) {n:Nat} (hn:13 <= n):(xj2 mask i pt n).2 = 0:=by
 rw [yq0]
 refine Nat.div_eq_of_lt (Nat.lt_of_lt_of_le h ?_)
 exact Nat.le_trans (show 2 ^ 64 <= 32 ^ 13 by decide) (Nat.pow_le_pow_right (by decide) hn)
def cyc (N i:Nat):Nat -> Nat
 | 0=>i
 | n + 1=>(cyc N i n * 5 + 1) % N
theorem xx4 (N i n:Nat):∀ m,cyc N (cyc N i n) m = cyc N i (n + m)
 | 0=>rfl
 | m + 1=>by rw [cyc,xx4 N i n m]; rfl
theorem xw5 (mask i pt:Nat) (h:pt < 2 ^ 64):∀ n,(xj2 mask i pt (13 + n)).1 = cyc (mask + 1) (xj2 mask i pt 13).1 n
 | 0=>rfl
 | n + 1=>by
  rw [show 13 + (n + 1) = (13 + n) + 1 by omega,xj2,cyc,<- xw5 mask i pt h n]
  show (_ * 5 + 1 + (xj2 mask i pt (13 + n)).2 / 32) % (mask + 1) = _
  rw [yu2 mask i pt h (by omega)]
def xm6 (m:Nat):Prop:=m = 7 \/ m = 15 \/ m = 31 \/ m = 63 \/ m = 127
def yt2 (N:Nat):Nat -> Nat -> List Nat
 | 0,_=>[]
 | n + 1,i=>i :: yt2 N n ((i * 5 + 1) % N)
def xv6 (N:Nat):Bool:=((List.range N).all fun j=>(yt2 N N 0).contains j) && (cyc N 0 N == 0)
theorem orb_all:xv6 8 = true /\ xv6 16 = true /\ xv6 32 = true /\ xv6 64 = true /\ xv6 128 = true:=by decide +kernel
theorem yh8 (N:Nat):∀ (n i k v:Nat),(yt2 N n i)[k]? = some v -> k < n /\ v = cyc N i k
 | 0,i,k,v,h=>by simp [yt2] at h
 | n + 1,i,0,v,h=>by simp [yt2] at h; exact ⟨by omega,h.symm⟩
 | n + 1,i,k + 1,v,h=>by
  simp [yt2] at h
  obtain ⟨h1,h2⟩:=yh8 N n _ k v h
  refine ⟨by omega,?_⟩
  rw [h2,show (i * 5 + 1) % N = cyc N i 1 from rfl,xx4]
  congr 1
  omega
theorem xm6.orb {m:Nat} (h:xm6 m):xv6 (m + 1) = true:=by
 obtain ⟨a,b,c,d,e⟩:=orb_all
 rcases h with rfl | rfl | rfl | rfl | rfl <;> assumption
theorem yj7 {m:Nat} (h:xm6 m) {i j:Nat} (hi:i <= m) (hj:j <= m):∃ n,n <= m /\ cyc (m + 1) i n = j:=by
 have o:=h.orb
 unfold xv6 at o
 rw [Bool.and_eq_true] at o
 have fnd:∀ x,x <= m -> ∃ a,a < m + 1 /\ x = cyc (m + 1) 0 a:=fun x hx=>by
  have:=List.all_eq_true.mp o.1 x (List.mem_range.mpr (by omega))
  rw [List.contains_iff_mem] at this
  obtain ⟨a,ha⟩:=List.getElem?_of_mem this
  exact ⟨a,yh8 _ _ _ _ _ ha⟩
 obtain ⟨a,ha,ea⟩:=fnd i hi
 obtain ⟨b,hb,eb⟩:=fnd j hj
 by_cases c:a <= b
 ·exact ⟨b - a,by omega,by rw [ea,xx4,eb]; congr 1; omega⟩
 ·refine ⟨m + 1 - a + b,by omega,?_⟩
  rw [ea,xx4,show a + (m + 1 - a + b) = (m + 1) + b by omega,<- xx4,eq_of_beq o.2,eb]
theorem cover {m:Nat} (hm:xm6 m) {p:SetTable.Probe} (h9:p.more <= 9) (hp:p.perturb < 2 ^ 64) {j:Nat} (hj:j <= m):∃ n,n < 10 * SetTable.turns m /\ (advs m p n).j = j:=by
 have hi:(xj2 m p.i p.perturb 13).1 <= m:=by
  have:∀ n,(xj2 m p.i p.perturb (n + 1)).1 <= m:=fun n=>Nat.le_of_lt_succ (Nat.mod_lt _ (by omega))
  exact this 12
 obtain ⟨n,hn,e⟩:=yj7 hm hi hj
 obtain ⟨k,hk,ek⟩:=yb9 m p h9 (12 + n)
 refine ⟨k,?_,?_⟩
 ·unfold SetTable.turns
  omega
 ·rw [ek]
  show (xj2 m p.i p.perturb (12 + n + 1)).1 = j
  rw [show 12 + n + 1 = 13 + n by omega,xw5 m _ _ hp,e]
theorem xw1:∀ {l m:List Nat},l.Nodup -> (∀ x ∈ l,x ∈ m) -> l.length <= m.length
 | [],m,_,_=>Nat.zero_le _
 | x :: l,m,hn,hs=>by
  rw [List.nodup_cons] at hn
  have hx:=hs x (by simp)
  have:=xw1 (l:=l) (m:=m.erase x) hn.2 fun y hy=>(List.mem_erase_of_ne (fun e=>hn.1 (by rw [<- e]; exact hy))).mpr (hs y (by simp [hy]))
  rw [List.length_erase_of_mem hx] at this
  have:=List.length_pos_of_mem hx
  simp only [List.length_cons]
  omega
def start (mask:Nat) (h:Int):SetTable.Probe:=at0 mask (SetTable.bits h % (mask + 1)) (SetTable.bits h) none
def pos (mask:Nat) (h:Int) (n:Nat):SetTable.Probe:=advs mask (start mask h) n
structure Good (p:SetTable.Probe):Prop where
 more:p.more <= 9
 pt:p.perturb < 2 ^ 64
 dum:p.dummy = none
theorem Good.adv {mask:Nat} {p:SetTable.Probe} (g:Good p):Good (adv mask p):=by
 unfold LS.adv SetTable.advance; dsimp only
 split
 ·exact ⟨by have:=g.more; show p.more - 1 <= 9; omega,g.pt,g.dum⟩
 ·exact ⟨run9 _ _,Nat.lt_of_le_of_lt (Nat.div_le_self _ _) g.pt,g.dum⟩
theorem good (mask:Nat) (h:Int):∀ n,Good (pos mask h n)
 | 0=>⟨run9 _ _,by
   show SetTable.bits h < _
   unfold SetTable.bits
   have:=Int.emod_lt_of_pos h (show (0:Int) < 2 ^ 64 by decide)
   have:=Int.emod_nonneg h (show (2 ^ 64:Int) ≠ 0 by decide)
   omega,rfl⟩
 | n + 1=>(good mask h n).adv
def Way (mask:Nat) (l:List Nat) (h:Int) (j:Nat):Prop:=∃ n,(pos mask h n).j = j /\ ∀ k,k < n -> (pos mask h k).j ∈ l
theorem Way.more {mask:Nat} {l l':List Nat} {h:Int} {j:Nat} (x:Way mask l h j) (s:∀ y ∈ l,y ∈ l'):Way mask l' h j:=let ⟨n,a,b⟩:=x; ⟨n,a,fun k hk=>s _ (b k hk)⟩
structure Tab (t:SetTable) (hs:List Int):Prop where
 mask:xm6 t.mask
 dum:t.dummies = #[]
 pw:t.place.toList.Pairwise (· < ·)
 le:∀ j ∈ t.place.toList,j <= t.mask
 len:t.place.toList.length = hs.length
 room:hs.length <= t.mask
 way:∀ (i j:Nat) (h:Int),hs[i]? = some h -> t.place.toList[i]? = some j -> Way t.mask t.place.toList h j
theorem Tab.nd {t:SetTable} {hs:List Int} (T:Tab t hs):t.place.toList.Nodup:=T.pw.imp fun h=>Nat.ne_of_lt h
theorem Tab.free {t:SetTable} {hs:List Int} (T:Tab t hs):∃ j,j <= t.mask /\ j ∉ t.place.toList:=by
 apply Classical.byContradiction
 intro no
 have all:∀ x ∈ List.range (t.mask + 1),x ∈ t.place.toList:=fun x hx=>by
  have:=List.mem_range.mp hx
  exact Classical.byContradiction fun n=>no ⟨x,by omega,n⟩
 have:=xw1 List.nodup_range all
 rw [List.length_range,T.len] at this
 have:=T.room
 omega
theorem Tab.first {t:SetTable} {hs:List Int} (T:Tab t hs) (h:Int):∃ e,e < 1420 /\ (pos t.mask h e).j ∉ t.place.toList /\ ∀ k,k < e -> (pos t.mask h k).j ∈ t.place.toList:=by
 obtain ⟨j,hj,hf⟩:=T.free
 obtain ⟨n,hn,e⟩:=cover T.mask (good t.mask h 0).more (good t.mask h 0).pt hj
 have hb:10 * SetTable.turns t.mask <= 1420:=by
  unfold SetTable.turns
  rcases T.mask with z | z | z | z | z <;> omega
 have ex:∃ n,(pos t.mask h n).j ∉ t.place.toList:=⟨n,by rw [show (pos t.mask h n).j = j from e]; exact hf⟩
 have key:∀ n,(pos t.mask h n).j ∉ t.place.toList -> ∃ e,e <= n /\ (pos t.mask h e).j ∉ t.place.toList /\ ∀ k,k < e -> (pos t.mask h k).j ∈ t.place.toList:=by
  intro n
  induction n using Nat.strongRecOn with
  | _ n ih =>
   intro hn
   by_cases c:∃ k,k < n /\ (pos t.mask h k).j ∉ t.place.toList
   ·obtain ⟨k,hk,hk'⟩:=c
    obtain ⟨e,he,r⟩:=ih k hk hk'
    exact ⟨e,by omega,r⟩
   ·exact ⟨n,Nat.le_refl _,hn,fun k hk=>Classical.byContradiction fun z=>c ⟨k,hk,z⟩⟩
 obtain ⟨e',he',r⟩:=key n (by rw [show (pos t.mask h n).j = j from e]; exact hf)
 exact ⟨e',by omega,r⟩
theorem Tab.go {t:SetTable} {hs:List Int} (T:Tab t hs) {hashAt:Nat -> Int} {h:Int}:∀ (fuel n m:Nat),m < fuel -> (pos t.mask h (n + m)).j ∉ t.place.toList ->
  ∃ n1,n <= n1 /\ (∀ k,n <= k -> k < n1 -> ∃ i:Nat,t.place.toList[i]? = some (pos t.mask h k).j /\ hashAt i ≠ h) /\
   (((pos t.mask h n1).j ∉ t.place.toList /\ SetTable.probe.go t hashAt h fuel (pos t.mask h n) = some (.empty (pos t.mask h n1).j none)) \/
    ∃ i:Nat,t.place.toList[i]? = some (pos t.mask h n1).j /\ hashAt i = h /\ SetTable.probe.go t hashAt h fuel (pos t.mask h n) = some (.candidate (pos t.mask h n1).j i (pos t.mask h (n1 + 1)))):=by
 intro fuel
 induction fuel with
 | zero=>intro n m hm; omega
 | succ fuel ih =>
  intro n m hm hf
  unfold SetTable.probe.go
  by_cases c:(pos t.mask h n).j ∈ t.place.toList
  ·obtain ⟨i,hi⟩:=List.getElem?_of_mem c
   rw [xu4 T.pw hi]
   dsimp only
   by_cases d:(hashAt i == h) = true
   ·rw [if_pos d]
    exact ⟨n,Nat.le_refl _,fun k h1 h2=>by omega,.inr ⟨i,hi,eq_of_beq d,rfl⟩⟩
   ·rw [if_neg d]
    cases m with
    | zero=>exact absurd c hf
    | succ m =>
     obtain ⟨n1,h1,h2,h3⟩:=ih (n + 1) m (by omega) (by rw [show n + 1 + m = n + (m + 1) by omega]; exact hf)
     refine ⟨n1,by omega,fun k a b=>?_,h3⟩
     by_cases e:k = n
     ·subst e; exact ⟨i,hi,fun z=>d (by rw [z]; simp)⟩
     ·exact h2 k (by omega) b
  ·rw [yw6 T.dum c]
   refine ⟨n,Nat.le_refl _,fun k h1 h2=>by omega,.inl ⟨c,?_⟩⟩
   dsimp only
   rw [(good t.mask h n).dum]
theorem Tab.probe {t:SetTable} {hs:List Int} (T:Tab t hs) (hashAt:Nat -> Int) (h:Int) (n:Nat) :
  ∃ n1,n <= n1 /\ (∀ k,n <= k -> k < n1 -> ∃ i:Nat,t.place.toList[i]? = some (pos t.mask h k).j /\ hashAt i ≠ h) /\
   (((pos t.mask h n1).j ∉ t.place.toList /\ t.probe hashAt h (pos t.mask h n) = some (.empty (pos t.mask h n1).j none)) \/
    ∃ i:Nat,t.place.toList[i]? = some (pos t.mask h n1).j /\ hashAt i = h /\ t.probe hashAt h (pos t.mask h n) = some (.candidate (pos t.mask h n1).j i (pos t.mask h (n1 + 1)))):=by
 obtain ⟨j,hj,hf⟩:=T.free
 obtain ⟨m,hm,e⟩:=cover T.mask (good t.mask h n).more (good t.mask h n).pt hj
 refine T.go _ n m hm ?_
 rw [show (pos t.mask h (n + m)).j = j by rw [<- e]; unfold pos; rw [xr1]]
 exact hf
theorem Tab.put {t:SetTable} {hs:List Int} (T:Tab t hs) {h:Int} {j:Nat} (hj:j ∉ t.place.toList) (hl:j <= t.mask) (w:Way t.mask t.place.toList h j) (hr:hs.length + 1 <= t.mask) :
  ∃ p,p <= hs.length /\ (t.put j).2 = p /\ Tab (t.put j).1 (hs.take p ++ h :: hs.drop p):=by
 have lo:=xu0 T.pw j
 have hp:SetTable.below t.place j <= t.place.toList.length:=lo.1
 have ep:(t.put j).1.place.toList = t.place.toList.take (SetTable.below t.place j) ++ j :: t.place.toList.drop (SetTable.below t.place j):=xq7 _ _ _ (by simpa using hp)
 have sub:∀ y ∈ t.place.toList,y ∈ (t.put j).1.place.toList:=fun y hy=>by
  rw [ep]
  rw [<- List.take_append_drop (SetTable.below t.place j) t.place.toList] at hy
  rcases List.mem_append.mp hy with z | z
  ·exact List.mem_append.mpr (.inl z)
  ·exact List.mem_append_right _ (by simp [z])
 refine ⟨SetTable.below t.place j,by rw [<- T.len]; exact hp,rfl,?_⟩
 generalize hpp:SetTable.below t.place j = p at *
 have hlen:p <= hs.length:=by rw [<- T.len]; exact hp
 have hsz:t.place.size = t.place.toList.length:=by simp
 refine ⟨T.mask,?_,by rw [ep]; exact yh7 T.pw lo hj,?_,?_,?_,?_⟩
 ·show (if SetTable.has t.dummies j = true then _ else t.dummies) = #[]
  rw [T.dum]
  simp [SetTable.has]
 ·intro y hy
  rw [ep] at hy
  rcases List.mem_append.mp hy with z | z
  ·exact T.le y (List.mem_of_mem_take z)
  ·rcases List.mem_cons.mp z with rfl | z
   ·exact hl
   ·exact T.le y (List.mem_of_mem_drop z)
 ·rw [ep]
  have:=T.len
  simp at this ⊢
  omega
 ·show _ <= t.mask
  simp
  omega
 ·intro i j' h' e1 e2
  show Way t.mask _ h' j'
  rw [ep] at e2
  by_cases c:i < p
  ·rw [List.getElem?_append_left (by simp; omega),List.getElem?_take_of_lt c] at e1
   rw [List.getElem?_append_left (by simp; omega),List.getElem?_take_of_lt c] at e2
   exact (T.way i j' h' e1 e2).more sub
  ·rw [List.getElem?_append_right (by simp; omega)] at e1 e2
   have l1:(hs.take p).length = p:=by simp; omega
   have l2:(t.place.toList.take p).length = p:=by simp; omega
   rw [l1] at e1
   rw [l2] at e2
   by_cases d:i = p
   ·subst d
    rw [Nat.sub_self] at e1 e2
    simp at e1 e2
    subst e1 e2
    exact w.more sub
   ·obtain ⟨q,hq⟩:∃ q,i - p = q + 1:=⟨i - p - 1,by omega⟩
    rw [hq,List.getElem?_cons_succ,List.getElem?_drop] at e1 e2
    exact (T.way _ j' h' e1 e2).more sub
theorem Tab.fresh (f m:Nat) (led:Bool):Tab (SetTable.fresh f m led) [] :=
 ⟨.inl rfl,rfl,List.Pairwise.nil,fun j hj=>by simp [SetTable.fresh] at hj,rfl,Nat.zero_le _,fun i j h e=>by simp at e⟩
def occ (mask:Nat) (owner:Array (Option Nat)):List Nat:=(List.range (mask + 1)).filter fun j=>(owner.getD j none).isSome
theorem xp0 {mask:Nat} {owner:Array (Option Nat)} {j:Nat}:j ∈ occ mask owner ↔ j <= mask /\ ∃ k,owner[j]? = some (some k):=by
 unfold occ
 rw [List.mem_filter,List.mem_range,Array.getD_eq_getD_getElem?]
 constructor
 ·rintro ⟨h1,h2⟩
  refine ⟨by omega,?_⟩
  cases e:owner[j]? with
  | none=>rw [e] at h2; simp at h2
  | some o =>
   cases o with
   | none=>rw [e] at h2; simp at h2
   | some k=>exact ⟨k,rfl⟩
 ·rintro ⟨h1,k,e⟩
  rw [e]
  exact ⟨by omega,rfl⟩
theorem yh1 {mask i:Nat} (h:i <= mask):SetTable.runEnd mask i <= mask:=by
 unfold SetTable.runEnd
 split <;> omega
theorem yh2 (mask i:Nat):i <= SetTable.runEnd mask i:=by
 unfold SetTable.runEnd
 split <;> omega
theorem pos_le {mask:Nat} (hm:xm6 mask) (h:Int) (n:Nat):(pos mask h n).j <= mask:=by
 have key:∀ n,(pos mask h n).j + (pos mask h n).more <= mask:=by
  intro n
  have st:∀ i,i <= mask -> i + (SetTable.runEnd mask i - i) <= mask:=fun i hi=>by
   have:=yh1 hi
   have:=yh2 mask i
   omega
  induction n with
  | zero=>exact st _ (Nat.le_of_lt_succ (Nat.mod_lt _ (by omega)))
  | succ n ih =>
   show (adv mask (pos mask h n)).j + (adv mask (pos mask h n)).more <= mask
   generalize pos mask h n = p at ih ⊢
   unfold adv SetTable.advance; dsimp only
   split
   ·show p.j + 1 + (p.more - 1) <= mask
    omega
   ·exact st _ (Nat.le_of_lt_succ (Nat.mod_lt _ (by omega)))
 have:=key n
 omega
theorem free_go {mask:Nat} {owner:Array (Option Nat)} (hz:owner.size = mask + 1) (h:Int):∀ (fuel L n0 i pt:Nat),L < fuel -> i <= mask -> pos mask h n0 = at0 mask i pt none -> (∀ k,k < n0 -> (pos mask h k).j ∈ occ mask owner) ->
  (xj2 mask i pt L).1 ∉ occ mask owner -> ∃ j,SetTable.layClean.free mask owner fuel i pt = some j /\ j <= mask /\ j ∉ occ mask owner /\ Way mask (occ mask owner) h j:=by
 intro fuel
 induction fuel with
 | zero=>intro L n0 i pt hL; omega
 | succ fuel ih =>
  intro L n0 i pt hL hi hp hw hf
  unfold SetTable.layClean.free
  have hre:=yh1 hi
  have hrg:=yh2 mask i
  have run:∀ k,k <= SetTable.runEnd mask i - i -> (pos mask h (n0 + k)).j = i + k:=fun k hk=>by
   have:pos mask h (n0 + k) = advs mask (pos mask h n0) k:=by unfold pos; rw [xr1]
   rw [this,hp,yf5 _ _ _ (by exact hk)]
   rfl
  have isocc:∀ k,k <= SetTable.runEnd mask i - i -> (owner.getD (i + k) (some 0)).isNone = false -> i + k ∈ occ mask owner:=fun k hk e=>by
   refine xp0.mpr ⟨by omega,?_⟩
   rw [Array.getD_eq_getD_getElem?] at e; have hb:i + k < owner.size:=by omega
   rw [Array.getElem?_eq_getElem hb] at e ⊢
   cases e2:owner[i + k] with
   | none=>rw [e2] at e; simp at e
   | some v=>exact ⟨v,rfl⟩
  cases e:(List.range (SetTable.runEnd mask i + 1 - i)).find? fun k=>(owner.getD (i + k) (some 0)).isNone with
  | some k =>
   dsimp only
   obtain ⟨h1,h2,h3⟩:=List.find?_range_eq_some.mp e
   rw [List.mem_range] at h2
   refine ⟨i + k,rfl,by omega,?_,n0 + k,run k (by omega),fun k' hk'=>?_⟩
   ·intro m
    obtain ⟨_,v,ev⟩:=xp0.mp m
    rw [Array.getD_eq_getD_getElem?,ev] at h1
    simp at h1
   ·by_cases c:k' < n0
    ·exact hw k' c
    ·obtain ⟨q,rfl⟩:∃ q,k' = n0 + q:=⟨k' - n0,by omega⟩
     rw [run q (by omega)]
     refine isocc q (by omega) ?_
     have:=h3 q (by omega)
     simpa using this
  | none =>
   dsimp only
   have all:∀ k,k <= SetTable.runEnd mask i - i -> i + k ∈ occ mask owner:=fun k hk=>by
    refine isocc k hk ?_
    have:=List.find?_eq_none.mp e k (List.mem_range.mpr (by omega))
    exact Bool.eq_false_iff.mpr this
   cases L with
   | zero=>exact absurd (all 0 (by omega)) (by simpa [xj2] using hf)
   | succ L =>
    have step:pos mask h (n0 + (SetTable.runEnd mask i - i + 1)) = at0 mask (SetTable.leap mask i pt).1 (SetTable.leap mask i pt).2 none:=by
     have:pos mask h (n0 + (SetTable.runEnd mask i - i + 1)) = advs mask (pos mask h n0) (SetTable.runEnd mask i - i + 1):=by unfold pos; rw [xr1]
     rw [this,hp]
     exact xy3 mask (at0 mask i pt none)
    refine ih L _ (SetTable.leap mask i pt).1 (SetTable.leap mask i pt).2 (by omega) (Nat.le_of_lt_succ (Nat.mod_lt _ (by omega))) step (fun k hk=>?_) ?_
    ·by_cases c:k < n0
     ·exact hw k c
     ·obtain ⟨q,rfl⟩:∃ q,k = n0 + q:=⟨k - n0,by omega⟩
      rw [run q (by omega)]
      exact all q (by omega)
    ·have sh:∀ n,xj2 mask (SetTable.leap mask i pt).1 (SetTable.leap mask i pt).2 n = xj2 mask i pt (n + 1):=by
      intro n
      induction n with
      | zero=>rfl
      | succ n ihn=>rw [xj2,ihn]; rfl
     rw [sh]
     exact hf
theorem free_at {mask:Nat} (hm:xm6 mask) {owner:Array (Option Nat)} (hz:owner.size = mask + 1) (h:Int) {f:Nat} (hf:f <= mask) (hfo:f ∉ occ mask owner) :
  ∃ j,SetTable.layClean.free mask owner (SetTable.turns mask) (SetTable.bits h % (mask + 1)) (SetTable.bits h) = some j /\ j <= mask /\ j ∉ occ mask owner /\ Way mask (occ mask owner) h j:=by
 have g:=good mask h 0
 have hi:(xj2 mask (SetTable.bits h % (mask + 1)) (SetTable.bits h) 13).1 <= mask:=Nat.le_of_lt_succ (Nat.mod_lt _ (by omega))
 obtain ⟨n,hn,e⟩:=yj7 hm hi hf
 refine free_go hz h _ (13 + n) 0 _ _ (by unfold SetTable.turns; omega) (Nat.le_of_lt_succ (Nat.mod_lt _ (by omega))) rfl (fun k hk=>by omega) ?_
 rw [xw5 mask _ _ (show SetTable.bits h < 2 ^ 64 from g.pt),e]
 exact hfo
structure Own (mask:Nat) (hs:List Int) (owner:Array (Option Nat)):Prop where
 sz:owner.size = mask + 1
 lt:∀ (j k:Nat),owner[j]? = some (some k) -> k < hs.length
 inj:∀ (j j' k:Nat),owner[j]? = some (some k) -> owner[j']? = some (some k) -> j = j'
 at_:∀ (k:Nat) (h:Int),hs[k]? = some h -> ∃ j,owner[j]? = some (some k) /\ Way mask (occ mask owner) h j
theorem Own.free {mask:Nat} {hs:List Int} {owner:Array (Option Nat)} (O:Own mask hs owner) (hl:hs.length <= mask):∃ f,f <= mask /\ f ∉ occ mask owner:=by
 apply Classical.byContradiction
 intro no
 have all:∀ j,j <= mask -> ∃ k,owner[j]? = some (some k):=fun j hj=>by
  have:j ∈ occ mask owner:=Classical.byContradiction fun n=>no ⟨j,hj,n⟩
  exact (xp0.mp this).2
 have nd:((List.range (mask + 1)).map fun j=>(owner.getD j none).getD 0).Nodup:=by
  rw [List.nodup_iff_pairwise_ne,List.pairwise_map]
  refine List.Pairwise.imp_of_mem (R:=(· < ·)) (fun {a b} ha hb hab=>?_) List.pairwise_lt_range
  rw [List.mem_range] at ha hb
  obtain ⟨k,hk⟩:=all a (by omega)
  obtain ⟨k',hk'⟩:=all b (by omega)
  rw [Array.getD_eq_getD_getElem?,Array.getD_eq_getD_getElem?,hk,hk']
  intro e
  have e:k = k':=e
  subst e
  have:=O.inj _ _ _ hk hk'
  omega
 have:=xw1 (m:=List.range hs.length) nd fun x hx=>by
  obtain ⟨j,hj,e⟩:=List.mem_map.mp hx
  rw [List.mem_range] at hj
  obtain ⟨k,hk⟩:=all j (by omega)
  rw [Array.getD_eq_getD_getElem?,hk] at e
  have e:k = x:=e
  subst e
  exact List.mem_range.mpr (O.lt j k hk)
 simp at this
 omega
theorem Own.step {mask:Nat} (hm:xm6 mask) {hs:List Int} {owner:Array (Option Nat)} (O:Own mask hs owner) (hl:hs.length <= mask) (h:Int) :
  ∃ j,SetTable.layClean.free mask owner (SetTable.turns mask) (SetTable.bits h % (mask + 1)) (SetTable.bits h) = some j /\ Own mask (hs ++ [h]) (owner.setIfInBounds j (some hs.length)):=by
 obtain ⟨f,hf,hfo⟩:=O.free hl
 obtain ⟨j,e,hj,hjo,w⟩:=free_at hm O.sz h hf hfo
 have hb:j < owner.size:=by rw [O.sz]; omega
 have get:∀ i,(owner.setIfInBounds j (some hs.length))[i]? = if i = j then some (some hs.length) else owner[i]?:=fun i=>by
  rw [Array.getElem?_setIfInBounds]; by_cases c:j = i
  ·subst c; rw [if_pos rfl,if_pos rfl,if_pos hb]
  ·rw [if_neg c,if_neg (fun z=>c z.symm)]
 have more:∀ y ∈ occ mask owner,y ∈ occ mask (owner.setIfInBounds j (some hs.length)):=fun y hy=>by
  obtain ⟨h1,k,hk⟩:=xp0.mp hy
  refine xp0.mpr ⟨h1,?_⟩
  rw [get]
  split
  ·exact ⟨_,rfl⟩
  ·exact ⟨k,hk⟩
 refine ⟨j,e,⟨by simp [O.sz],fun i k q=>?_,fun i i' k q q'=>?_,fun k h' q=>?_⟩⟩
 ·rw [get] at q
  rw [List.length_append]
  split at q
  ·cases q; simp
  ·have:=O.lt i k q; omega
 ·rw [get] at q q'
  split at q <;> split at q'
  ·omega
  ·cases q; have:=O.lt _ _ q'; omega
  ·cases q'; have:=O.lt _ _ q; omega
  ·exact O.inj _ _ _ q q'
 ·by_cases c:k < hs.length
  ·rw [List.getElem?_append_left c] at q
   obtain ⟨i,hi,wi⟩:=O.at_ k h' q
   refine ⟨i,?_,wi.more more⟩
   rw [get,if_neg ?_]
   ·exact hi
   ·rintro rfl
    exact hjo (xp0.mpr ⟨hj,_,hi⟩)
  ·rw [List.getElem?_append_right (by omega)] at q
   have:k - hs.length = 0:=by
    have:=(List.getElem?_eq_some_iff.mp q).1
    simp at this
    omega
   rw [this] at q
   have q:h = h':=by simpa using q
   subst q
   have:k = hs.length:=by omega
   subst this
   exact ⟨j,by rw [get,if_pos rfl],w.more more⟩
theorem yy0:∀ {l m:List Nat},l.Nodup -> m.Nodup -> (∀ x,x ∈ l ↔ x ∈ m) -> l.Perm m
 | [],m,_,_,h=>by
  cases m with
  | nil=>exact .nil
  | cons x r=>exact absurd ((h x).mpr (by simp)) (by simp)
 | x :: l,m,hl,hm,h=>by
  have hx:x ∈ m:=(h x).mp (by simp)
  rw [List.nodup_cons] at hl
  refine List.Perm.trans (.cons x (yy0 hl.2 (hm.erase x) fun y=>?_)) (List.perm_cons_erase hx).symm
  constructor
  ·intro hy
   exact (List.mem_erase_of_ne (fun e=>hl.1 (by rw [<- e]; exact hy))).mpr ((h y).mp (by simp [hy]))
  ·intro hy
   have hne:y ≠ x:=fun e=>by subst e; exact (hm.not_mem_erase) hy
   have:=(h y).mpr (List.mem_of_mem_erase hy)
   simpa [hne] using this
theorem xu9 {α:Type}:∀ l:List α,(List.range l.length).filterMap (fun k=>l[k]?) = l
 | []=>rfl
 | a :: l=>by
  rw [List.length_cons,List.range_succ_eq_map,List.filterMap_cons]
  simp only [List.getElem?_cons_zero,List.filterMap_map]
  have:((fun k=>(a :: l)[k]?) ∘ Nat.succ) = fun k=>l[k]?:=by funext k; simp
  rw [this,xu9 l]
def layF (mask:Nat) (acc:Option (Array (Option Nat) × Nat)) (h:Int):Option (Array (Option Nat) × Nat):=do
 let (owner,k) <- acc
 let j <- SetTable.layClean.free mask owner (SetTable.turns mask) (SetTable.bits h % (mask + 1)) (SetTable.bits h)
 pure (owner.setIfInBounds j (some k),k + 1)
theorem yq1 {mask:Nat} (hm:xm6 mask):∀ (todo done:List Int) (owner:Array (Option Nat)),Own mask done owner -> (done ++ todo).length <= mask + 1 ->
  ∃ o,todo.foldl (layF mask) (some (owner,done.length)) = some (o,(done ++ todo).length) /\ Own mask (done ++ todo) o
 | [],done,owner,O,_=>⟨owner,by simp,by simpa using O⟩
 | h :: todo,done,owner,O,hl=>by
  simp only [List.length_append,List.length_cons] at hl
  obtain ⟨j,e,O'⟩:=O.step hm (by omega) h
  obtain ⟨o,e2,O2⟩:=yq1 hm todo (done ++ [h]) _ O' (by simp; omega)
  refine ⟨o,?_,by simpa using O2⟩
  rw [List.foldl_cons]
  have:layF mask (some (owner,done.length)) h = some (owner.setIfInBounds j (some done.length),(done ++ [h]).length):=by
   unfold layF
   simp [e]
  rw [this,e2]
  simp
theorem own_nil (mask:Nat):Own mask [] (Array.replicate (mask + 1) none):=by
 have no:∀ j k,(Array.replicate (mask + 1) (none:Option Nat))[j]? ≠ some (some k):=fun j k e=>by
  rw [Array.getElem?_replicate] at e
  split at e <;> cases e
 exact ⟨by simp,fun j k e=>absurd e (no j k),fun j j' k e=>absurd e (no j k),fun k h e=>by simp at e⟩
theorem ym7 {mask:Nat} (hm:xm6 mask) (hs:Array Int) (hl:hs.size <= mask):∃ o,SetTable.layClean mask hs = some o /\ Own mask hs.toList o:=by
 obtain ⟨o,e,O⟩:=yq1 hm hs.toList [] _ (own_nil mask) (by simp; omega)
 refine ⟨o,?_,by simpa using O⟩
 unfold SetTable.layClean
 rw [<- Array.foldl_toList]
 rw [show (hs.toList.foldl _ (some (Array.replicate (mask + 1) none,0))) = some (o,([] ++ hs.toList).length) from e]
 rfl
theorem laid_ok {α:Type} {mask:Nat} (hm:xm6 mask) (es:Array (Int × α)) (hl:es.size <= mask) (f mv:Nat) (led plain:Bool) :
  ∃ t order,SetTable.laid mask f mv led plain (es.map (·.1)) = some (t,order) /\ t.mask = mask /\ t.led = led /\ t.plain = plain /\ t.finger = f /\ t.moves = mv /\
   (order.filterMap (fun k=>es[k]?)).toList.Perm es.toList /\ Tab t ((order.filterMap (fun k=>es[k]?)).toList.map (·.1)):=by
 obtain ⟨o,e,O⟩:=ym7 hm (es.map (·.1)) (by simpa using hl)
 have hlen:(es.map (·.1)).toList.length = es.size:=by simp
 generalize hv:((List.range (mask + 1)).filterMap fun j=>(o.getD j none).map (j,·)) = live
 have mem:∀ j k,(j,k) ∈ live ↔ j <= mask /\ o[j]? = some (some k):=fun j k=>by
  rw [<- hv,List.mem_filterMap]
  constructor
  ·rintro ⟨i,hi,e⟩
   rw [List.mem_range] at hi; rw [Array.getD_eq_getD_getElem?] at e
   cases q:o[i]? with
   | none=>rw [q] at e; simp at e
   | some w =>
    rw [q] at e
    cases w with
    | none=>simp at e
    | some k'=>simp at e; obtain ⟨rfl,rfl⟩:=e; exact ⟨by omega,q⟩
  ·rintro ⟨h1,h2⟩
   refine ⟨j,List.mem_range.mpr (by omega),?_⟩
   rw [Array.getD_eq_getD_getElem?,h2]
   rfl
 have pw:live.Pairwise fun a b=>a.1 < b.1:=by
  rw [<- hv,List.pairwise_filterMap]
  refine List.pairwise_lt_range.imp fun {a b} hab c hc d hd=>?_
  have e1:c.1 = a:=by
   cases q:o.getD a none with
   | none=>rw [q] at hc; simp at hc
   | some k=>rw [q] at hc; simp at hc; rw [<- hc]
  have e2:d.1 = b:=by
   cases q:o.getD b none with
   | none=>rw [q] at hd; simp at hd
   | some k=>rw [q] at hd; simp at hd; rw [<- hd]
  rw [e1,e2]
  exact hab
 have nd2:(live.map (·.2)).Nodup:=by
  rw [List.nodup_iff_pairwise_ne,List.pairwise_map]
  refine List.Pairwise.imp_of_mem (fun {a b} ha hb hab=>?_) pw
  intro z
  have h1:=((mem a.1 a.2).mp ha).2
  have h2:=((mem b.1 b.2).mp hb).2
  rw [<- z] at h2
  have:=O.inj _ _ _ h1 h2
  omega
 have mem2:∀ k,k ∈ live.map (·.2) ↔ k ∈ List.range es.size:=fun k=>by
  rw [List.mem_map,List.mem_range]
  constructor
  ·rintro ⟨⟨j,k'⟩,hj,rfl⟩
   have:=O.lt j k' ((mem j k').mp hj).2
   rw [hlen] at this
   exact this
  ·intro hk
   obtain ⟨j,hj,w⟩:=O.at_ k _ (List.getElem?_eq_getElem (by rw [hlen]; exact hk))
   refine ⟨(j,k),(mem j k).mpr ⟨?_,hj⟩,rfl⟩
   have:=(Array.getElem?_eq_some_iff.mp hj).1
   rw [O.sz] at this
   omega
 have perm:=yy0 nd2 List.nodup_range mem2
 have toL:((live.map (·.2)).toArray.filterMap (fun k=>es[k]?)).toList = (live.map (·.2)).filterMap (fun k=>es.toList[k]?):=by simp
 refine ⟨_,_,by unfold SetTable.laid; rw [e]; simp only [Option.bind_eq_bind,Option.bind_some]; rw [hv]; rfl,rfl,rfl,rfl,rfl,rfl,?_,?_⟩
 ·rw [toL]
  have:=perm.filterMap (fun k=>es.toList[k]?)
  rw [show es.size = es.toList.length by simp,xu9] at this
  exact this
 ·rw [toL]
  have item:∀ p ∈ live,∃ x,es.toList[p.2]? = some x:=fun p hp=>by
   have:=(mem2 p.2).mp (List.mem_map.mpr ⟨p,hp,rfl⟩)
   rw [List.mem_range] at this
   exact ⟨_,List.getElem?_eq_getElem (by simpa using this)⟩
  have row:∀ l:List (Nat × Nat),(∀ p ∈ l,∃ x,es.toList[p.2]? = some x) -> ((l.map (·.2)).filterMap (fun k=>es.toList[k]?)).length = l.length /\
    ∀ (i:Nat) (x:Int × α),((l.map (·.2)).filterMap (fun k=>es.toList[k]?))[i]? = some x -> ∃ p,l[i]? = some p /\ es.toList[p.2]? = some x:=by
   intro l
   induction l with
   | nil=>intro _; exact ⟨rfl,fun i x h=>by simp at h⟩
   | cons p l ih =>
    intro hl
    obtain ⟨y,hy⟩:=hl p (by simp)
    obtain ⟨h1,h2⟩:=ih fun q hq=>hl q (by simp [hq])
    rw [List.map_cons,List.filterMap_cons,hy]
    refine ⟨by rw [List.length_cons,List.length_cons,h1],fun i x h=>?_⟩
    cases i with
    | zero=>simp at h; subst h; exact ⟨p,rfl,hy⟩
    | succ i =>
     rw [List.getElem?_cons_succ] at h
     obtain ⟨q,hq,hx⟩:=h2 i x h
     exact ⟨q,by simpa using hq,hx⟩
  obtain ⟨r1,r2⟩:=row live item
  have ll:live.length = es.size:=by
   have:=perm.length_eq
   simpa using this
  refine ⟨hm,rfl,?_,?_,?_,?_,?_⟩
  ·show (live.map (·.1)).toArray.toList.Pairwise _
   rw [List.toList_toArray,List.pairwise_map]
   exact pw
  ·intro j hj
   have hj:j ∈ live.map (·.1):=by simpa using hj
   obtain ⟨⟨j',k⟩,hp,rfl⟩:=List.mem_map.mp hj
   exact ((mem j' k).mp hp).1
  ·show (live.map (·.1)).toArray.toList.length = _
   rw [List.toList_toArray,List.length_map,List.length_map,r1]
  ·rw [List.length_map,r1,ll]
   exact hl
  ·intro i j h e1 e2
   rw [List.getElem?_map] at e1
   obtain ⟨x,hx,rfl⟩:=Option.map_eq_some_iff.mp e1
   obtain ⟨p,hp,hpx⟩:=r2 i x hx
   have e2:(live.map (·.1))[i]? = some j:=by simpa using e2
   rw [List.getElem?_map,hp] at e2
   have e2:p.1 = j:=by simpa using e2
   have hm2:=(mem p.1 p.2).mp (List.mem_of_getElem? hp)
   obtain ⟨j',hj',w⟩:=O.at_ p.2 x.1 (by
    have:(es.map (·.1)).toList[p.2]? = (es.toList[p.2]?).map (·.1):=by simp
    rw [this,hpx]; rfl)
   have:=O.inj _ _ _ hj' hm2.2
   rw [this,e2] at w
   refine w.more fun y hy=>?_
   obtain ⟨hy1,k,hk⟩:=xp0.mp hy
   show y ∈ (live.map (·.1)).toArray.toList
   rw [List.toList_toArray]
   exact List.mem_map.mpr ⟨(y,k),(mem y k).mpr ⟨hy1,hk⟩,rfl⟩
section
variable {prog:Program} {w:World} {K:Type} [DecidableEq K] {kn:KeyKind prog w K} {A:Around} {E:Value -> Shared -> Prop} {s:Shared}
theorem unseen {ks:List K} {a:Addr} {Q:Bool -> Shared -> Prop} (hk:IsTupleKey kn s.heap ks a) (h:Q false s):wpAny (model prog w) A (ofAClassStatement 8 (.ref a)) Q E s:=by
 have hT:=hk.typeIs
 obtain ⟨o,items,n,ho,hc,hd,hi⟩:=hk
 unfold ofAClassStatement
 refine wpAny_bind (wpAny_typeOf hT ?_); show wpAny _ _ (_ >>= _) _ _ _
 simp only [beq_self_eq_true,if_true]; refine wpAny_bind (wpAny_pure ?_)
 simp only [Bool.not_true,Bool.false_eq_true,if_false]; refine wpAny_bind (wpAny_seqItems ho hd ?_)
 refine wpAny_bind ?_
 show wpAny _ _ (forIn items _ _) _ _ s; rw [<- Array.forIn_toList]; refine wpAny_forIn_list _ (fun rest r s'=>r.1 = none /\ s' = s /\ ∀ v ∈ rest,carriedByValue v = true) _ ?_ ?_ _ _ ⟨rfl,rfl,hi.byValue⟩
 ·rintro v rest r s' ⟨hr,rfl,hall⟩; have hv:=hall v List.mem_cons_self
  have e:ofAClassStatement 7 v = pure false:=by
   cases v with
   | ref b=>simp [carriedByValue] at hv
   | _=>rfl
  rw [e]
  refine wpAny_bind (wpAny_pure ?_); simp only [Bool.false_eq_true,if_false]; exact wpAny_pure ⟨rfl,rfl,fun u hu'=>hall u (List.mem_cons_of_mem _ hu')⟩
 ·rintro ⟨r1,r2⟩ s' ⟨hr,rfl,_⟩; simp only at hr
  subst hr
  exact wpAny_pure h
theorem yf0 {o:Obj} {a:Addr} {items:Array Value} {n:Nat} {Q:Bool -> Shared -> Prop} (ho:s.heap.get? a = some o) (hc:o.cls = .type "tuple") (hd:o.data = .seq items n) (hall:∀ v ∈ items.toList,v.scannable = true)
  (h:Q (items.toList.all plainKind) s):wpAny (model prog w) A (hashByValue 8 (.ref a)) Q E s:=by
 have hT:s.TypeIs (.ref a) "tuple":=⟨o,ho,hc⟩
 unfold hashByValue
 refine wpAny_bind (wpAny_specialOf hT F.slot_tuple_hash.lookup ?_); show wpAny _ _ (seqItems? (.ref a) >>= _) _ _ _
 refine wpAny_bind (wpAny_seqItems ho hd ?_); refine wpAny_bind ?_
 show wpAny _ _ (forIn items _ _) _ _ s; rw [<- Array.forIn_toList]
 refine wpAny_forIn_list _ (fun rest r s'=>s' = s /\ ((r.1 = none /\ (∀ v ∈ rest,v.scannable = true) /\ rest.all plainKind = items.toList.all plainKind))) _ ?_ ?_ _ _ ⟨rfl,rfl,hall,rfl⟩
 ·rintro v rest r s' ⟨rfl,hr,hall,he⟩
  rw [hashByValue_scannable 7 (hall v List.mem_cons_self)]
  refine wpAny_bind (wpAny_pure ?_); rw [List.all_cons] at he
  cases hp:plainKind v with
  | true =>
   simp only [Bool.not_true,Bool.false_eq_true,if_false]; rw [hp,Bool.true_and] at he
   exact wpAny_pure ⟨rfl,rfl,fun u hu'=>hall u (List.mem_cons_of_mem _ hu'),he⟩
  | false =>
   rw [hp,Bool.false_and] at he
   rw [<- he] at h
   simp only [Bool.not_false,if_true]; first | exact wpAny_pure (wpAny_pure h) | exact wpAny_bind (wpAny_pure (wpAny_pure h))
 ·rintro ⟨r1,r2⟩ s' ⟨rfl,hr,_,he⟩
  simp only at hr
  subst hr
  rw [<- he] at h
  exact wpAny_pure h
theorem notSeen {x:Value} {ks:List K} {b:Addr} {Q:Bool -> Shared -> Prop} (hk:IsTupleKey kn s.heap ks b) (l:List Value) (hl:∀ v ∈ l,∃ ks' a,v = .ref a /\ IsTupleKey kn s.heap ks' a) (h:Q false s):wpAny (model prog w) A (searchCouldBeSeen (.ref b) l) Q E s:=by
 unfold searchCouldBeSeen
 refine wpAny_bind ?_
 refine wpAny_forIn_list _ (fun rest r s'=>r.1 = none /\ s' = s /\ ∀ v ∈ rest,∃ ks' a,v = .ref a /\ IsTupleKey kn s.heap ks' a) _ ?_ ?_ _ _ ⟨rfl,rfl,hl⟩
 ·rintro v rest r s' ⟨hr,rfl,hall⟩; obtain ⟨ks',a,rfl,hk'⟩:=hall v List.mem_cons_self
  have hall':∀ v ∈ rest,∃ ks' a,v = .ref a /\ IsTupleKey kn s'.heap ks' a:=fun u hu'=>hall u (List.mem_cons_of_mem _ hu')
  dsimp only
  split
  ·exact wpAny_pure ⟨rfl,rfl,hall'⟩
  ·refine wpAny_bind (wpAny_eqIsQuiet_tuple hk ?_)
   simp only [Bool.not_true,Bool.false_eq_true,if_false]; refine wpAny_bind (wpAny_eqIsQuiet_tuple hk' ?_)
   simp only [Bool.not_true,Bool.false_eq_true,if_false]; refine wpAny_bind (unseen hk ?_)
   simp only [Bool.false_eq_true,if_false]; refine wpAny_bind (unseen hk' ?_)
   simp only [Bool.false_eq_true,if_false]; exact wpAny_pure ⟨rfl,rfl,hall'⟩
 ·rintro ⟨r1,r2⟩ s' ⟨hr,rfl,_⟩; simp only at hr
  subst hr
  exact wpAny_pure h
structure SetAt (kn:KeyKind prog w K) (h:Heap) (xs:List (List K × Addr)) (es:Array (Int × Value)) (t:SetTable):Prop where
 es:es.toList = xs.map fun x=>(tupleKeyHash kn x.1,Value.ref x.2)
 is:∀ x ∈ xs,IsTupleKey kn h x.1 x.2
 nd:(xs.map (·.1)).Nodup
 tab:Tab t (xs.map fun x=>tupleKeyHash kn x.1)
 cap:xs.length * 5 < t.mask * 3
theorem SetAt.size {h:Heap} {xs:List (List K × Addr)} {es:Array (Int × Value)} {t:SetTable} (S:SetAt kn h xs es t):es.size = xs.length:=by
 rw [<- Array.length_toList,S.es,List.length_map]
theorem SetAt.fits {h:Heap} {xs:List (List K × Addr)} {es:Array (Int × Value)} {t:SetTable} (S:SetAt kn h xs es t):t.fits es.size = true:=by
 unfold SetTable.fits SetTable.fill
 have h1:=S.tab.len
 have h2:=S.tab.room
 have h3:=S.size
 rw [S.tab.dum]
 simp only [Array.length_toList,List.length_map] at h1 h2
 simp only [Bool.and_eq_true,beq_iff_eq,decide_eq_true_eq,List.size_toArray,List.length_nil]
 omega
theorem SetAt.odd {h:Heap} {xs:List (List K × Addr)} {es:Array (Int × Value)} {t:SetTable} (S:SetAt kn h xs es t):t.gaveWay = false:=by
 unfold SetTable.gaveWay
 rcases S.tab.mask with e | e | e | e | e <;> rw [e] <;> rfl
theorem SetAt.get {h:Heap} {xs:List (List K × Addr)} {es:Array (Int × Value)} {t:SetTable} (S:SetAt kn h xs es t) {i:Nat} {x:List K × Addr} (e:xs[i]? = some x):es[i]? = some (tupleKeyHash kn x.1,Value.ref x.2):=by
 rw [<- Array.getElem?_toList,S.es,List.getElem?_map,e]
 rfl
theorem yw9 {a b:Addr} {o:Obj} {es:Array (Int × Value)} {ep:Nat} {t:SetTable} {xs:List (List K × Addr)} {k:List K} {adding:Bool} {Q:SetFound -> Shared -> Prop} (hu:A.units < cLine)
  (ho:s.heap.get? a = some o) (hd:o.data = .set es ep t) (S:SetAt kn s.heap xs es t) (hk:IsTupleKey kn s.heap k b) {e:Nat} (he1:(pos t.mask (tupleKeyHash kn k) e).j ∉ t.place.toList) (he2:∀ m,m < e -> (pos t.mask (tupleKeyHash kn k) m).j ∈ t.place.toList)
  (there:k ∈ xs.map (·.1) -> ∀ i,Q (.there i) s) (free:k ∉ xs.map (·.1) -> ∀ j,j <= t.mask -> j ∉ t.place.toList -> Way t.mask t.place.toList (tupleKeyHash kn k) j -> Q (.free j false) s) :
  ∀ (fuel n:Nat) (stand:Option SetTable.Probe),n <= e -> e - n < fuel -> stand.getD (t.probeStart (tupleKeyHash kn k)) = pos t.mask (tupleKeyHash kn k) n ->
   (∀ (m i:Nat) (x:List K × Addr),m < n -> t.place.toList[i]? = some (pos t.mask (tupleKeyHash kn k) m).j -> xs[i]? = some x -> x.1 ≠ k) ->
   wpAny (model prog w) A (setSearchFrom a (.ref b) (tupleKeyHash kn k) adding fuel stand) Q E s:=by
 intro fuel
 induction fuel with
 | zero=>intro n stand _ h; omega
 | succ fuel ih =>
  intro n stand hne hf hst hn
  unfold setSearchFrom
  refine wpAny_bind (wpAny_setState_of ho hd S.fits ?_)
  dsimp only
  rw [S.odd,hst]
  simp only [Bool.false_eq_true,if_false]; generalize hh:tupleKeyHash kn k = h at *
  have hashAt:∀ (i:Nat) (x:List K × Addr),xs[i]? = some x -> ((es[i]?.map (·.1)).getD 0) = tupleKeyHash kn x.1:=fun i x e=>by rw [S.get e]; rfl
  obtain ⟨n1,hn1,mid,end_⟩:=S.tab.probe (fun i=>(es[i]?.map (·.1)).getD 0) h n
  have inx:∀ (i j:Nat),t.place.toList[i]? = some j -> ∃ x,xs[i]? = some x:=fun i j e=>by
   have h1:=(List.getElem?_eq_some_iff.mp e).1
   have h2:=S.tab.len
   rw [List.length_map] at h2
   exact ⟨_,List.getElem?_eq_getElem (by omega)⟩
  rcases end_ with ⟨hem,ep⟩ | ⟨i,hi,hhi,ep⟩
  ·erw [ep]
   dsimp only
   have live:∀ m,m < n1 -> (pos t.mask h m).j ∈ t.place.toList:=fun m hm=>by
    by_cases c:m < n
    ·exact he2 m (by omega)
    ·obtain ⟨i,hi,_⟩:=mid m (by omega) hm
     exact List.mem_of_getElem? hi
   refine wpAny_pure (free (fun hin=>?_) _ ?_ hem ⟨n1,rfl,live⟩)
   ·obtain ⟨x,hx,rfl⟩:=List.mem_map.mp hin
    obtain ⟨i,hi⟩:=List.getElem?_of_mem hx
    have hlen:=S.tab.len
    rw [List.length_map] at hlen
    obtain ⟨j,hj⟩:∃ j,t.place.toList[i]? = some j:=⟨_,List.getElem?_eq_getElem (by have:=(List.getElem?_eq_some_iff.mp hi).1; omega)⟩
    obtain ⟨n',e',l'⟩:=S.tab.way i j h (by rw [List.getElem?_map,hi,<- hh]; rfl) hj
    have lt:n' < n1:=by
     rcases Nat.lt_trichotomy n' n1 with z | z | z
     ·exact z
     ·subst z; rw [e'] at hem; exact absurd (List.mem_of_getElem? hj) hem
     ·exact absurd (l' n1 z) hem
    by_cases c:n' < n
    ·exact hn n' i x c (by rw [e']; exact hj) hi rfl
    ·obtain ⟨i',hi',hne'⟩:=mid n' (by omega) lt
     rw [e'] at hi'
     have:i' = i:=by
      have l1:=(List.getElem?_eq_some_iff.mp hi').1
      exact (List.getElem?_inj l1 S.tab.nd).mp (hi'.trans hj.symm)
     subst this
     exact hne' ((hashAt _ x hi).trans hh)
   ·-- the slot lies in the table
    have key:∀ n,(pos t.mask h n).j <= t.mask:=pos_le S.tab.mask h
    exact key n1
  ·erw [ep]
   dsimp only
   have lt:n1 < e:=by
    rcases Nat.lt_trichotomy n1 e with z | z | z
    ·exact z
    ·subst z; exact absurd (List.mem_of_getElem? hi) he1
    ·obtain ⟨i',hi',_⟩:=mid e (by omega) z
     exact absurd (List.mem_of_getElem? hi') he1
   obtain ⟨x,hx⟩:=inx i _ hi
   have hxk:=S.is x (List.mem_of_getElem? hx)
   have side:∀ v ∈ (es.filter (·.1 == h)).toList.map (·.2),∃ ks' c,v = .ref c /\ IsTupleKey kn s.heap ks' c:=fun v hv=>by
    obtain ⟨en,hen,rfl⟩:=List.mem_map.mp hv
    have hen:en ∈ es.toList:=Array.mem_toList_iff.mpr (Array.mem_filter.mp (Array.mem_toList_iff.mp hen)).1
    rw [S.es] at hen
    obtain ⟨y,hy,rfl⟩:=List.mem_map.mp hen
    exact ⟨y.1,y.2,rfl,S.is y hy⟩
   rcases Bool.eq_false_or_eq_true (!t.led) with cl | cl
   all_goals first
    | rw [if_pos cl]; refine wpAny_bind (notSeen (x:=.none) hk _ side ?_); rw [if_neg Bool.false_ne_true]
    | rw [if_neg (by rw [cl]; exact Bool.false_ne_true)]
   all_goals
    rw [S.get hx]
    dsimp only
    refine wpAny_bind (wpAny_holding (wpAny_eqBool_tuple hu hxk hk ?_))
    refine wpAny_bind (wpAny_setState_of ho hd S.fits ?_)
    dsimp only
    by_cases c:x.1 = k
    ·rw [decide_eq_true c]
     have hin:k ∈ xs.map (·.1):=by rw [<- c]; exact List.mem_map.mpr ⟨x,List.mem_of_getElem? hx,rfl⟩
     cases adding with
     | true=>exact wpAny_pure (there hin none)
     | false =>
      simp only [Bool.false_and,Bool.false_eq_true,if_false]
      have sm:t.sameMemory t.moves t.mask = some true:=by unfold SetTable.sameMemory; simp
      rw [sm]
      dsimp only
      simp only [if_true]
      rw [xu4 S.tab.pw hi]
      dsimp only
      rw [S.get hx]
      dsimp only
      refine wpAny_bind (wpAny_isSame_ref_self ?_)
      simp only [if_true]
      exact wpAny_bind (wpAny_pure (wpAny_pure (there hin _)))
    ·rw [decide_eq_false c,Bool.and_false]
     simp only [Bool.false_eq_true,if_false]; have sm:t.sameMemory t.moves t.mask = some true:=by unfold SetTable.sameMemory; simp
     rw [sm]
     dsimp only
     simp only [if_true]
     rw [xu4 S.tab.pw hi]
     dsimp only
     rw [S.get hx]
     dsimp only
     refine wpAny_bind (wpAny_isSame_ref_self ?_)
     simp only [if_true]
     refine wpAny_bind (wpAny_pure ?_); dsimp only
     refine ih (n1 + 1) _ (by omega) (by omega) rfl fun m i' y hm hi' hy=>?_
     by_cases c1:m < n
     ·exact hn m i' y c1 hi' hy
     ·by_cases c2:m = n1
      ·subst c2
       have:i' = i:=by
        have l1:=(List.getElem?_eq_some_iff.mp hi').1
        exact (List.getElem?_inj l1 S.tab.nd).mp (hi'.trans hi.symm)
       subst this
       rw [hx] at hy
       cases hy
       exact c
      ·obtain ⟨i2,hi2,hne2⟩:=mid m (by omega) (by omega)
       have:i' = i2:=by
        have l1:=(List.getElem?_eq_some_iff.mp hi').1
        exact (List.getElem?_inj l1 S.tab.nd).mp (hi'.trans hi2.symm)
       subst this
       intro z
       exact hne2 ((hashAt _ y hy).trans (by rw [z,hh]))
theorem ys6 {a b:Addr} {o:Obj} {es:Array (Int × Value)} {ep:Nat} {t:SetTable} {xs:List (List K × Addr)} {k:List K} {adding:Bool} {Q:SetFound -> Shared -> Prop} (hu:A.units < cLine)
  (ho:s.heap.get? a = some o) (hd:o.data = .set es ep t) (S:SetAt kn s.heap xs es t) (hk:IsTupleKey kn s.heap k b)
  (there:k ∈ xs.map (·.1) -> ∀ i,Q (.there i) s) (free:k ∉ xs.map (·.1) -> ∀ j,j <= t.mask -> j ∉ t.place.toList -> Way t.mask t.place.toList (tupleKeyHash kn k) j -> Q (.free j false) s) :
  wpAny (model prog w) A (setSearch a (.ref b) (tupleKeyHash kn k) adding) Q E s:=by
 obtain ⟨e,he,h1,h2⟩:=S.tab.first (tupleKeyHash kn k)
 unfold setSearch
 exact yw9 hu ho hd S hk h1 h2 there free _ 0 none (Nat.zero_le _) (by omega) rfl fun m i x hm=>by omega
theorem xn6 {α β:Type} {f:α -> β}:∀ {l:List β} {m:List α},l.Perm (m.map f) -> ∃ l':List α,l = l'.map f /\ l'.Perm m:=by
 intro l m h
 generalize hm:m.map f = m' at h
 induction h generalizing m with
 | nil=>exact ⟨[],rfl,by cases m with | nil=>exact .nil | cons a r=>simp at hm⟩
 | @cons x l1 l2 p ih =>
  cases m with
  | nil=>simp at hm
  | cons a r =>
   rw [List.map_cons] at hm
   obtain ⟨rfl,hr⟩:=List.cons.inj hm
   obtain ⟨l',e,q⟩:=ih hr
   exact ⟨a :: l',by rw [e]; rfl,q.cons a⟩
 | @swap x y l1 =>
  match m,hm with
  | a :: b :: r,hm =>
   simp at hm
   obtain ⟨rfl,rfl,rfl⟩:=hm
   exact ⟨b :: a :: r,rfl,.swap _ _ _⟩
 | @trans l1 l2 l3 p q ih1 ih2 =>
  obtain ⟨l',e,q'⟩:=ih2 hm
  obtain ⟨l'',e2,q2⟩:=ih1 e.symm
  exact ⟨l'',e2,q2.trans q'⟩
def Flags (w:World) (n:Nat) (t:SetTable):Prop:=(n <= 1 \/ t.plain = false) /\ t.led = !(w.params.followText "set-order")
def xo0 (kn:KeyKind prog w K) (h:Heap) (a:Addr) (xs:List (List K × Addr)):Prop:=∃ o es ep t,h.get? a = some o /\ o.ExactSet /\ o.data = .set es ep t /\ SetAt kn h xs es t /\ Flags w xs.length t
theorem yq3 {h h':Heap} {a:Addr} {o:Obj} {es:Array (Int × Value)} {ep:Nat} {t:SetTable} {ks:List K} {b:Addr} (ho:h.get? a = some o) (hd:o.data = .set es ep t) (hs:Heap.SameBut a h h') (k:IsTupleKey kn h ks b):IsTupleKey kn h' ks b:=by
 obtain ⟨o',items,n,h1,h2,h3,h4⟩:=k
 have ne:b ≠ a:=by
  rintro rfl
  rw [ho] at h1
  cases h1
  rw [hd] at h3
  cases h3
 exact ⟨o',items,n,(hs.2 b ne).trans h1,h2,h3,h4⟩
theorem yu7 {n:Nat} (h:n <= 31):xm6 (SetTable.sizeAbove (4 * n) - 1) /\ 4 * n < SetTable.sizeAbove (4 * n) /\ SetTable.sizeAbove (4 * n) <= 128:=by
 have key:(List.range 32).all (fun n=>(decide (SetTable.sizeAbove (4 * n) - 1 = 7 \/ SetTable.sizeAbove (4 * n) - 1 = 15 \/ SetTable.sizeAbove (4 * n) - 1 = 31 \/ SetTable.sizeAbove (4 * n) - 1 = 63 \/ SetTable.sizeAbove (4 * n) - 1 = 127)) && decide (4 * n < SetTable.sizeAbove (4 * n)) && decide (SetTable.sizeAbove (4 * n) <= 128)) = true:=by decide +kernel
 have:=List.all_eq_true.mp key n (List.mem_range.mpr (by omega))
 simp only [Bool.and_eq_true,decide_eq_true_eq] at this
 exact ⟨this.1.1,this.1.2,this.2⟩
theorem stored {h:Heap} {a:Addr} {o:Obj} {es:Array (Int × Value)} {ep:Nat} {t:SetTable} (ho:h.get? a = some o) (hd:o.data = .set es ep t) (es':Array (Int × Value)) (t':SetTable) :
  (h.update a (Obj.putSet es' t')).get? a = some { o with data:=.set es' (ep + 1) t' }:=by
 have:=Heap.get?_update_self (Obj.putSet es' t') ho (by rw [putSet_of es' t' hd]; rfl); rwa [putSet_of es' t' hd] at this
theorem yw8 {a:Addr} {o:Obj} {es:Array (Int × Value)} {ep:Nat} {t:SetTable} {xs:List (List K × Addr)} {wanted:Nat} {Q:Unit -> Shared -> Prop}
  (ho:s.heap.get? a = some o) (hex:o.ExactSet) (hd:o.data = .set es ep t) (hes:es.toList = xs.map fun x=>(tupleKeyHash kn x.1,Value.ref x.2)) (hfit:t.fits es.size = true) (his:∀ x ∈ xs,IsTupleKey kn s.heap x.1 x.2) (hnd:(xs.map (·.1)).Nodup)
  (hm:xm6 (SetTable.sizeAbove wanted - 1)) (hsz:SetTable.sizeAbove wanted <= 128) (hcap:xs.length * 5 < (SetTable.sizeAbove wanted - 1) * 3) (hle:xs.length <= SetTable.sizeAbove wanted - 1)
  (h:∀ h' o' es' ep' t' xs',Heap.SameBut a s.heap h' -> h'.get? a = some o' -> o'.ExactSet -> o'.data = .set es' ep' t' -> xs'.Perm xs -> SetAt kn h' xs' es' t' -> t'.plain = t.plain -> t'.led = t.led -> t'.mask = SetTable.sizeAbove wanted - 1 -> Q () { s with heap:=h' }) :
  wpAny (model prog w) A (setRelay a wanted) Q E s:=by
 have hsize:es.size = xs.length:=by rw [<- Array.length_toList,hes,List.length_map]
 unfold setRelay
 refine wpAny_bind (wpAny_setState_of ho hd hfit ?_)
 dsimp only
 rw [if_neg (Nat.not_lt.mpr (Nat.le_trans hsz (by rw [sizeLine_eq]; decide)))]
 obtain ⟨t',order,e,e1,e2,e3,e4,e5,perm,tab⟩:=laid_ok hm es (by omega) t.finger (t.movedTo (SetTable.sizeAbove wanted - 1)) t.led t.plain
 have e':t.relaid (es.map (·.1)) wanted = some (t',order):=e
 rw [e']
 have hs':(order.filterMap (fun k=>es[k]?)).size = es.size:=by rw [<- Array.length_toList,perm.length_eq,Array.length_toList]
 obtain ⟨xs',px,ex⟩:∃ xs':List (List K × Addr),xs'.Perm xs /\ (order.filterMap (fun k=>es[k]?)).toList = xs'.map fun x=>(tupleKeyHash kn x.1,Value.ref x.2):=by
  rw [hes] at perm
  obtain ⟨l,h1,h2⟩:=xn6 perm
  exact ⟨l,h2,h1⟩
 refine wpAny_bind ?_
 refine wpAny_mono (Q:=fun r s'=>r = (order.filterMap (fun k=>es[k]?),t') /\ s = s') ?_ ?_ (fun _ _ x=>x)
 ·show wpAny _ _ (if ((order.filterMap (fun k=>es[k]?)).size != es.size) = true then _ else _) _ _ _
  rw [if_neg (by rw [hs']; simp)]
  exact wpAny_pure ⟨rfl,rfl⟩
 ·rintro _ _ ⟨rfl,rfl⟩
  dsimp only
  refine wpAny_storeSet_of ho hd ?_ (by rw [hs',hsize,sizeLine_eq]; omega)
  have sb:=Heap.SameBut.update s.heap a (Obj.putSet (order.filterMap (fun k=>es[k]?)) t')
  refine h _ _ _ _ _ xs' sb (stored ho hd _ _) hex rfl px ⟨ex,fun x hx=>yq3 ho hd sb (his x (px.mem_iff.mp hx)),?_,?_,?_⟩ e3 e2 e1
  ·exact (px.map _).nodup_iff.mpr hnd
  ·rw [ex,List.map_map] at tab
   exact tab
  ·rw [px.length_eq,e1]
   exact hcap
end
theorem Tab.plain {t:SetTable} {hs:List Int} (T:Tab t hs) (b:Bool):Tab { t with plain:=b } hs:=⟨T.mask,T.dum,T.pw,T.le,T.len,T.room,T.way⟩
section
variable {prog:Program} {w:World} {K:Type} [DecidableEq K] {kn:KeyKind prog w K} {A:Around} {E:Value -> Shared -> Prop} {s:Shared}
def ze3 (h:Heap) (b:Addr):Prop:=∃ o items n,h.get? b = some o /\ o.cls = .type "tuple" /\ o.data = .seq items n /\ (∀ v ∈ items.toList,v.scannable = true) /\ items.toList.all plainKind = false
theorem set_add {a b:Addr} {xs:List (List K × Addr)} {k:List K} {Q:Bool -> Shared -> Prop} (hu:A.units < cLine) (hS:xo0 kn s.heap a xs) (hk:IsTupleKey kn s.heap k b) (hv:ze3 s.heap b) (hl:xs.length <= 36)
  (h:∀ r h' xs',Heap.SameBut a s.heap h' -> xo0 kn h' a xs' -> (k ∈ xs.map (·.1) -> xs' = xs) -> (k ∉ xs.map (·.1) -> xs'.Perm ((k,b) :: xs)) -> Q r { s with heap:=h' }) :
  wpAny (model prog w) A (setAddHashed a (.ref b) (tupleKeyHash kn k)) Q E s:=by
 obtain ⟨o,es,ep,t,ho,hex,hd,S,hpl⟩:=hS
 unfold setAddHashed setAddHashedIn; refine wpAny_holding (wpAny_bind (wpAny_setState_of ho hd S.fits ?_))
 dsimp only
 have hb:byScan (Value.ref b) es = false:=rfl
 rw [hb]
 simp only [Bool.false_eq_true,if_false]; refine wpAny_bind (ys6 hu ho hd S hk (fun hin i=>?_) fun hnin j hj hjn hway=>?_)
 ·dsimp only
  refine wpAny_pure ?_
  have:=h false s.heap xs (Heap.SameBut.refl a s.heap) ⟨o,es,ep,t,ho,hex,hd,S,hpl⟩ (fun _=>rfl) (fun z=>absurd hin z)
  have e:s = { s with heap:=s.heap }:=(by cases s; rfl); rw [e]; exact this
 ·dsimp only
  refine wpAny_bind (wpAny_setState_of ho hd S.fits ?_)
  dsimp only
  have hcap:=S.cap
  have hlen:=S.tab.len
  rw [List.length_map] at hlen
  have hm7:7 <= t.mask:=by rcases S.tab.mask with z | z | z | z | z <;> omega
  obtain ⟨p,hp,ep2,T1⟩:=S.tab.put hjn hj hway (by rw [List.length_map]; omega)
  rw [List.length_map] at hp
  generalize hput:t.put j = tp at ep2 T1
  obtain ⟨t1,p'⟩:=tp
  dsimp only at ep2 T1 ⊢
  subst ep2
  have hm1:t1.mask = t.mask:=by have:=congrArg (fun q:SetTable × Nat=>q.1.mask) hput; exact this.symm
  have hld1:t1.led = t.led:=by have:=congrArg (fun q:SetTable × Nat=>q.1.led) hput; exact this.symm
  have hp1:t1.plain = t.plain:=by have:=congrArg (fun q:SetTable × Nat=>q.1.plain) hput; exact this.symm
  have hes1:(SetTable.insertAt es p' (tupleKeyHash kn k,Value.ref b)).toList = (xs.take p' ++ (k,b) :: xs.drop p').map fun x=>(tupleKeyHash kn x.1,Value.ref x.2):=by
   rw [xq7 _ _ _ (by rw [S.size]; exact hp),S.es,List.map_append,List.map_cons,List.map_take,List.map_drop]
  have perm:(xs.take p' ++ (k,b) :: xs.drop p').Perm ((k,b) :: xs):=by
   refine List.perm_middle.trans (.cons _ ?_)
   rw [List.take_append_drop]
  have hnd1:((xs.take p' ++ (k,b) :: xs.drop p').map (·.1)).Nodup:=by
   refine (perm.map _).nodup_iff.mpr ?_
   rw [List.map_cons,List.nodup_cons]; exact ⟨hnin,S.nd⟩
  have T2:Tab t1 ((xs.take p' ++ (k,b) :: xs.drop p').map fun x=>tupleKeyHash kn x.1):=by
   rw [List.map_append,List.map_cons,List.map_take,List.map_drop]
   exact T1
  generalize hx1:xs.take p' ++ (k,b) :: xs.drop p' = xs1 at hes1 perm hnd1 T2
  have hl1:xs1.length = xs.length + 1:=by rw [perm.length_eq,List.length_cons]
  have hsz1:(SetTable.insertAt es p' (tupleKeyHash kn k,Value.ref b)).size = xs1.length:=by rw [<- Array.length_toList,hes1,List.length_map]
  have his1:∀ x ∈ xs1,IsTupleKey kn s.heap x.1 x.2:=fun x hx=>by
   rcases List.mem_cons.mp (perm.mem_iff.mp hx) with rfl | z
   ·exact hk
   ·exact S.is x z
  have tail:∀ t2:SetTable,t2.mask = t1.mask -> t2.plain = false -> t2.led = t1.led -> Tab t2 (xs1.map fun x=>tupleKeyHash kn x.1) ->
    wpAny (model prog w) A (do
     storeSet a (SetTable.insertAt es p' (tupleKeyHash kn k,Value.ref b)) t2
     if (!false && t2.tooFull) = true then do
       setRelay a (SetTable.grown (es.size + 1))
       pure true
      else pure true) Q E s:=by
   intro t2 hm2 hp2 hl2 Tt
   have hled:t2.led = !(w.params.followText "set-order"):=by rw [hl2,hld1]; exact hpl.2
   refine wpAny_bind (wpAny_storeSet_of ho hd ?_ (by rw [hsz1,sizeLine_eq]; omega))
   have ho1:=stored ho hd (SetTable.insertAt es p' (tupleKeyHash kn k,Value.ref b)) t2
   have sb:=Heap.SameBut.update s.heap a (Obj.putSet (SetTable.insertAt es p' (tupleKeyHash kn k,Value.ref b)) t2)
   generalize s.heap.update a (Obj.putSet (SetTable.insertAt es p' (tupleKeyHash kn k,Value.ref b)) t2) = h1 at ho1 sb ⊢
   have his2:∀ x ∈ xs1,IsTupleKey kn h1 x.1 x.2:=fun x hx=>yq3 ho hd sb (his1 x hx)
   have hfill:t2.fill = xs1.length:=by
    unfold SetTable.fill
    rw [Tt.dum]
    have:=Tt.len
    rw [List.length_map] at this
    simp at this ⊢
    exact this
   have hfit:t2.fits (SetTable.insertAt es p' (tupleKeyHash kn k,Value.ref b)).size = true:=by
    unfold SetTable.fits
    have h1:=Tt.len
    have h2:=Tt.room
    rw [List.length_map] at h1 h2
    rw [hfill,hsz1]
    simp only [Array.length_toList] at h1
    simp only [Bool.and_eq_true,beq_iff_eq,decide_eq_true_eq]
    exact ⟨h1,h2⟩
   by_cases full:(!false && t2.tooFull) = true
   ·rw [if_pos full]
    have tf:t2.fill * 5 >= t2.mask * 3:=by simpa [SetTable.tooFull] using full
    have mm:t2.mask = t.mask:=hm2.trans hm1
    have sm:xs1.length <= 31:=by
     rw [hfill,mm] at tf
     rcases S.tab.mask with z | z | z | z | z <;> omega
    have gr:SetTable.grown (es.size + 1) = 4 * xs1.length:=by
     unfold SetTable.grown
     rw [S.size,hl1,if_neg (by omega)]
     omega
    obtain ⟨g1,g2,g3⟩:=yu7 (n:=xs1.length) (by omega)
    rw [gr]
    refine wpAny_bind (yw8 (s:={ s with heap:=h1 }) (kn:=kn) (xs:=xs1) ho1 hex rfl hes1 hfit his2 hnd1 g1 g3 (by omega) (by omega) fun h' o' es' ep' t' xs' sb' ho' hex' hd' px S' pl' led' mk'=>wpAny_pure ?_)
    exact h true h' xs' (sb.trans sb') ⟨o',es',ep',t',ho',hex',hd',S',.inr (by rw [pl']; exact hp2),by rw [led']; exact hled⟩ (fun z=>absurd z hnin) (fun _=>px.trans perm)
   ·rw [if_neg full]
    refine wpAny_pure (h true h1 xs1 sb ⟨_,_,_,t2,ho1,hex,rfl,⟨hes1,his2,hnd1,Tt,?_⟩,.inr hp2,hled⟩ (fun z=>absurd z hnin) (fun _=>perm))
    have:¬ (t2.fill * 5 >= t2.mask * 3):=fun z=>full (by unfold SetTable.tooFull; simp [z])
    rw [hfill] at this
    omega
  obtain ⟨ob,items,n,hb1,hb2,hb3,hb4,hb5⟩:=hv
  by_cases cp:t1.plain = true
  ·rw [if_pos cp]
   refine wpAny_bind (yf0 hb1 hb2 hb3 hb4 ?_)
   rw [hb5]
   simp only [Bool.false_eq_true,if_false]; exact tail _ rfl rfl rfl (T2.plain false)
  ·rw [if_neg cp]
   refine wpAny_bind (wpAny_pure ?_); simp only [if_true]
   exact tail t1 rfl (by simpa using cp) rfl T2
end
open PySem PyProof.Rows
abbrev xf9 (led:Bool):Obj:={ cls:=.type "set",dict:=none,data:=.set #[] 0 (.fresh 0 0 led) }
section
variable {w:World} {prog:Program} {A:Around} {E:Value -> Shared -> Prop} {s:Shared}
theorem new_code (x:Value) {Q₁:Value -> Shared -> Prop} (h:Q₁ (.ref s.heap.objs.size) { s with heap:=s.heap.push (xf9 (!(w.params.followText "set-order"))) }) :
  codeAny (model prog w) A (.call (.builtin "set.__new__") ⟨[.type "set",x],[]⟩) (wants Q₁ E) s:=by
 refine codeAny_of_tree ?_
 have step:=PySem.F.newCall_set_1 x
 show wpAny _ A.in1 (checkBuiltinCall "set.__new__" ⟨[.type "set",x],[]⟩ >>= fun _=>again (.builtin "set.__new__" ⟨[.type "set",x],[]⟩)) _ _ s
 refine wpAny_bind (wpAny_of_eq step (wpAny_pure ⟨plainId_quiet PySem.F.plain_set_new _,?_⟩))
 refine codeAny_builtin PySem.F.entry_set_new ?_
 rw [Around.under_plainId PySem.F.plain_set_new _]
 delta Builtin.«set.__new__»; unfold Builtin.Frozenset.newClass
 have self:=sub_set_self
 cases s with
 | mk hp g d tk os =>
  dsimp only at h ⊢
  wp_walk
  refine wpAny_askSetting (wpAny_pure ?_); simp only [newObj]
  exact wpAny_bind (wpAny_alloc (wpAny_pure (wpAny_pure h)))
theorem set_of {x:Value} {Q:Value -> Shared -> Prop}
  (upd:∀ (led:Bool) (A':Around),led = (!(w.params.followText "set-order")) -> A'.units <= A.units + 8 -> A'.handled = A.handled -> wpAny (model prog w) A' (Builtin.Frozenset.updateFrom "set.__init__" s.heap.objs.size x) (fun _ s₂=>Q (.ref s.heap.objs.size) s₂) E { s with heap:=s.heap.push (xf9 led) }) :
  wpAny (model prog w) A (call (.type "set") [x]) Q E s:=by
 obtain ⟨c,tl,hmro⟩:=PySem.F.called_set.mro
 have hmade:=PySem.F.called_set.made
 have hsub:=PySem.F.called_set.sub
 refine wpAny_call (codeAny_of_tree ?_); show wpAny _ _ (callAny (.type "set") _) _ _ _
 refine wpAny_pure ⟨Code.quiet_builtin _ (by decide +kernel),codeAny_builtin PySem.F.entry_type_call ?_⟩
 rw [Around.under_plain (weight_type_call_type "set" [x] []) rfl]
 have h1:=PySem.F.called_set.notType
 have h2:=PySem.F.called_set.canCreate
 have hct:=PySem.F.typeCall_set_1 x
 (repeat (any_goals (first | assumption | wp_step))); refine codeAny_mono (new_code x (E:=E) (Q₁:=fun obj s₁=>∃ led:Bool,led = (!(w.params.followText "set-order")) /\ obj = .ref s.heap.objs.size /\ s₁ = { s with heap:=s.heap.push (xf9 led) }) ⟨_,rfl,rfl,rfl⟩) fun r s₁ hr=>?_
 cases r with
 | error e=>exact hr
 | ok fl =>
  cases fl with
  | ret obj =>
   obtain ⟨led,hled,rfl,rfl⟩:=hr
   have hS:(s.heap.push (xf9 led)).get? s.heap.objs.size = some (xf9 led):=Heap.get?_push_size _ rfl
   have hT:Shared.TypeIs { s with heap:=s.heap.push (xf9 led) } (.ref s.heap.objs.size) "set":=⟨_,hS,rfl⟩
   have hli:=PySem.F.called_set.init.lookup
   have hbi:=PySem.F.called_set.init.bind (.ref s.heap.objs.size)
   (repeat (any_goals (first | assumption | wp_step))); refine codeAny_mono (codeAny_call_builtin (R:=wants (fun r s₂=>r = .none /\ Q (.ref s.heap.objs.size) s₂) E) PySem.F.called_set.init.plain PySem.F.entry_set_init (check_set_init_1 hT ?_)) fun r₂ s₂ hr₂=>?_
   ·unfold Builtin.«set.__init__» noKeywords; generalize hPI:Builtin.Frozenset.updateFrom = PI
    wp_walk
    subst hPI
    exact wpAny_mono (upd led A.in1.in1 hled (by simp [Around.in1_units]) (by simp)) (fun r s' q=>wpAny_pure ⟨rfl,q⟩) (fun e s' x=>x)
   ·cases r₂ with
    | error e=>exact hr₂
    | ok fl₂ =>
     cases fl₂ with
     | ret r =>
      obtain ⟨rfl,hq⟩:=hr₂; repeat (any_goals (first | assumption | wp_step))
     | _=>exact hr₂.elim
  | _=>exact hr.elim
end
section
variable {prog:Program} {w:World} {K:Type} [DecidableEq K] {kn:KeyKind prog w K} {A:Around} {E:Value -> Shared -> Prop} {s:Shared}
end
theorem xj4 {α:Type}:∀ {l:List α} {i:Nat} {x:α},l[i]? = some x -> l.Perm (x :: l.eraseIdx i)
 | [],i,x,h=>by simp at h
 | a :: l,0,x,h=>by simp at h; subst h; exact .refl _
 | a :: l,i + 1,x,h=>by
  have h:l[i]? = some x:=by simpa using h
  exact ((xj4 h).cons a).trans (.swap _ _ _)
section
variable {A:Around} {M:Model} {E:Value -> Shared -> Prop} {s:Shared}
theorem yv4 {src:Source} {n:Nat} {Q:Nat -> Shared -> Prop} (hn:n ≠ 0) (h:∀ i d',i < n -> Q i { s with drawn:=d' }):wpAny M A (choose src n) Q E s :=
 fun Γ p _=>⟨hn,h _ _ (Nat.mod_lt _ (Nat.pos_of_ne_zero hn))⟩
theorem yj6 {α:Type}:∀ (n:Nat) (xs:List α) {s:Shared} {Q:List α -> Shared -> Prop},xs.length <= n -> (∀ l d',l.Perm xs -> Q l { s with drawn:=d' }) -> wpAny M A (drawOrder n xs) Q E s
 | 0,xs,s,Q,hl,h=>by
  have:xs = []:=List.length_eq_zero_iff.mp (by omega)
  subst this
  unfold drawOrder
  exact wpAny_pure (h [] s.drawn (.refl _))
 | n + 1,[],s,Q,hl,h=>by
  unfold drawOrder
  exact wpAny_pure (h [] s.drawn (.refl _))
 | n + 1,x :: xs,s,Q,hl,h=>by
  unfold drawOrder
  refine wpAny_bind (yv4 (by simp) fun i d' hi=>?_)
  obtain ⟨y,hy⟩:∃ y,(x :: xs)[i]? = some y:=⟨_,List.getElem?_eq_getElem hi⟩
  rw [hy]
  dsimp only
  have hlen:((x :: xs).eraseIdx i).length <= n:=by
   have:=(xj4 hy).length_eq
   simp only [List.length_cons] at this hl
   omega
  refine wpAny_bind (yj6 n _ hlen fun l d'' hp=>wpAny_pure ?_)
  exact h (y :: l) d'' ((hp.cons y).trans (xj4 hy).symm)
end
theorem yx5 {α:Type} (next:Nat -> Nat):∀ (fuel k:Nat) (left:List α) (out:Array α),left.length <= fuel -> (pickOrder.go next fuel k left out).toList.Perm (out.toList ++ left)
 | 0,k,left,out,h=>by
  have:left = []:=List.length_eq_zero_iff.mp (by omega)
  subst this
  unfold pickOrder.go
  simp
 | fuel + 1,k,left,out,h=>by
  unfold pickOrder.go
  cases left with
  | nil=>simp
  | cons a r =>
   have hi:next k % (a :: r).length < (a :: r).length:=Nat.mod_lt _ (by simp)
   rw [List.getElem?_eq_getElem hi]
   dsimp only
   have hp:=xj4 (List.getElem?_eq_getElem hi)
   refine (yx5 next fuel (k + 1) _ _ (by have:=hp.length_eq; simp only [List.length_cons] at this h ⊢; omega)).trans ?_
   rw [Array.toList_push,List.append_assoc]
   exact (hp.symm).append_left _
theorem yx4 {α:Type} (next:Nat -> Nat) (xs:Array α):(pickOrder next xs).toList.Perm xs.toList:=by
 have:=yx5 next xs.size 0 xs.toList #[] (by simp)
 simpa [pickOrder] using this
section
variable {prog:Program} {w:World} {K:Type} [DecidableEq K] {kn:KeyKind prog w K} {A:Around} {E:Value -> Shared -> Prop} {s:Shared}
end
section
variable {prog:Program} {w:World} {K:Type} [DecidableEq K] {kn:KeyKind prog w K} {A:Around} {E:Value -> Shared -> Prop} {s:Shared}
end
section
variable {prog:Program} {w:World} {K:Type} [DecidableEq K] {kn:KeyKind prog w K} {A:Around} {E:Value -> Shared -> Prop} {s:Shared}
theorem zb7 {h:Heap} {a:Addr} {led:Bool} (hled:led = !(w.params.followText "set-order")) (e:h.get? a = some (xf9 led)):xo0 kn h a [] :=
 ⟨_,_,_,_,e,⟨rfl,rfl,rfl⟩,rfl,⟨rfl,fun x hx=>by simp at hx,List.nodup_nil,Tab.fresh 0 0 led,by show 0 * 5 < 7 * 3; decide⟩,Or.inl (Nat.zero_le 1),hled⟩
theorem xq2 (h:Heap):h.get? h.objs.size = none:=by
 cases e:h.get? h.objs.size with
 | none=>rfl
 | some o=>exact (Nat.lt_irrefl _ (Heap.lt_size e)).elim
end
theorem xb8:Slot "set_iterator" "__next__" "set_iterator.__next__" :=
 .of (owner:="set_iterator") (n:="__next__") (by rw [typeLookup_type,builtinLookup_eq_fast]; kernel_rfl) (by decide +kernel) (by decide +kernel) (by decide +kernel) (by first | exact .inl (by decide +kernel) | exact .inr (by decide +kernel)) (by rw [isSubtype_type]; kernel_rfl)
theorem xi5:entryFor table "set_iterator.__next__" = some Builtin.«set_iterator.__next__»:=entryFor_of_tree (by kernel_rfl)
theorem xj5 (a:Value):argsOk "set_iterator.__next__" ⟨[a],[]⟩:=by
 unfold argsOk
 first | kernel_rfl | decide +kernel | (simp only []; kernel_rfl)
theorem xp2:Slot "set_iterator" "__iter__" "set_iterator.__iter__" :=
 .of (owner:="set_iterator") (n:="__iter__") (by rw [typeLookup_type,builtinLookup_eq_fast]; kernel_rfl) (by decide +kernel) (by decide +kernel) (by decide +kernel) (by first | exact .inl (by decide +kernel) | exact .inr (by decide +kernel)) (by rw [isSubtype_type]; kernel_rfl)
theorem xz7:entryFor table "set_iterator.__iter__" = some Builtin.«dict_keyiterator.__iter__»:=entryFor_alias (id':="dict_keyiterator.__iter__") (by kernel_rfl) rfl (by decide +kernel) (by kernel_rfl)
theorem yf3 (a:Value):argsOk "set_iterator.__iter__" ⟨[a],[]⟩:=by
 unfold argsOk
 first | kernel_rfl | decide +kernel | (simp only []; kernel_rfl)
abbrev xq6 (first:Value) (i:Nat) (S:Addr) (n ep:Nat):Obj:={ cls:=.type "set_iterator",data:=.fields #[first,.int i 0,.ref S,.int n 0,.int ep 0] }
section
variable {w:World} {prog:Program} {A:Around} {E:Value -> Shared -> Prop} {s:Shared}
theorem za9 {h:Heap} {first:Value} {I S:Addr} {i n ep:Nat} (hI:h.get? I = some (xq6 first i S n ep)):(h.update I (Obj.mapFields fun x=>x.setIfInBounds 1 (rawInt (↑i + 1)))).get? I = some (xq6 first (i + 1) S n ep):=by
 refine (Heap.get?_update_self _ hI (Obj.isFreed_of_fields (Obj.data_mapFields rfl _))).trans ?_
 simp [Obj.mapFields,rawInt]
theorem yt8 {I S T:Addr} {o oT:Obj} {es:Array (Int × Value)} {ep i n place:Nat} {t:SetTable} {items:Array Value} {nn:Nat} {x:Value} {hx:Int} {Q:Option Value -> Shared -> Prop} (hI:s.heap.get? I = some (xq6 (.ref T) i S n ep)) (hS:s.heap.get? S = some o) (hd:o.data = .set es ep t) (hf:t.fits es.size = true) (hn:es.size = n)
  (hT:s.heap.get? T = some oT) (hTd:oT.data = .seq items nn) (hit:items[i]? = some (.int place 0)) (hp:es[place]? = some (hx,x))
  (h:∀ h',h'.get? I = some (xq6 (.ref T) (i + 1) S n ep) -> Heap.SameBut I s.heap h' -> Q (some x) { s with heap:=h' }):wpAny (model prog w) A (pyNext (.ref I)) Q E s:=by
 have hTy:s.TypeIs (.ref I) "set_iterator":=⟨_,hI,rfl⟩
 unfold pyNext
 refine wpAny_bind (wpAny_attempt (wpAny_callSpecial?_slot (name:=Str.ofString "__next__") hTy xb8 (wpAny_call_entry xb8 hTy xi5 ?_ (xj5 _))))
 unfold Builtin.«set_iterator.__next__» slotArgs
 simp only [List.isEmpty_nil,Bool.not_true,Bool.false_eq_true,↓reduceIte,bind_assoc,List.length_nil,bne_self_eq_false]; refine wpAny_bind (wpAny_pure ?_)
 dsimp only
 refine wpAny_bind (wpAny_fieldsOf hI rfl ?_)
 dsimp only
 refine wpAny_bind (wpAny_setEntries_of hS hd hf ?_)
 rw [if_neg (by rw [hn]; simp)]
 refine wpAny_bind (wpAny_seqItems hT hTd ?_)
 simp only [Int.toNat_natCast,hit]
 unfold setNextDrawn
 refine wpAny_bind (wpAny_bind (wpAny_setState_of hS hd hf ?_))
 dsimp only
 rw [if_neg (by simp),hp]
 dsimp only
 refine wpAny_pure ?_
 refine wpAny_bind (wpAny_setField hI rfl (by simp) (wpAny_pure ⟨x,rfl,wpAny_pure (h _ ?_ (Heap.SameBut.update ..))⟩))
 exact za9 hI
theorem ya2 {I S:Addr} {o:Obj} {es:Array (Int × Value)} {ep i n:Nat} {t:SetTable} {slot:Int} {x:Value} {next:Nat} {tk:Tok} {Q:Option Value -> Shared -> Prop} (hI:s.heap.get? I = some (xq6 (.int slot tk) i S n ep)) (hS:s.heap.get? S = some o) (hd:o.data = .set es ep t) (hf:t.fits es.size = true) (hn:es.size = n)
  (hnext:∀ (R:Option (Value × Nat) -> Shared -> Prop) (E':Value -> Shared -> Prop),R (some (x,next)) s -> wpAny (model prog w) A.in1 (setNext S slot.toNat i ep) R E' s)
  (h:∀ h',h'.get? I = some (xq6 (.int next 0) (i + 1) S n ep) -> Heap.SameBut I s.heap h' -> Q (some x) { s with heap:=h' }):wpAny (model prog w) A (pyNext (.ref I)) Q E s:=by
 have hTy:s.TypeIs (.ref I) "set_iterator":=⟨_,hI,rfl⟩
 unfold pyNext
 refine wpAny_bind (wpAny_attempt (wpAny_callSpecial?_slot (name:=Str.ofString "__next__") hTy xb8 (wpAny_call_entry xb8 hTy xi5 ?_ (xj5 _))))
 unfold Builtin.«set_iterator.__next__» slotArgs
 simp only [List.isEmpty_nil,Bool.not_true,Bool.false_eq_true,↓reduceIte,bind_assoc,List.length_nil,bne_self_eq_false]; refine wpAny_bind (wpAny_pure ?_)
 dsimp only
 refine wpAny_bind (wpAny_fieldsOf hI rfl ?_)
 dsimp only
 refine wpAny_bind (wpAny_setEntries_of hS hd hf ?_)
 rw [if_neg (by rw [hn]; simp)]
 simp only [Int.toNat_natCast]
 refine wpAny_bind (hnext _ _ ?_)
 dsimp only
 refine wpAny_bind (wpAny_setField hI rfl (by simp) ?_)
 have hI1:(s.heap.update I (Obj.mapFields fun x=>x.setIfInBounds 0 (rawInt ↑next))).get? I = some (xq6 (.int next 0) i S n ep):=by
  refine (Heap.get?_update_self _ hI (Obj.isFreed_of_fields (Obj.data_mapFields rfl _))).trans ?_
  simp [Obj.mapFields,rawInt]
 have sb1:=Heap.SameBut.update s.heap I (Obj.mapFields fun x=>x.setIfInBounds 0 (rawInt ↑next))
 generalize s.heap.update I (Obj.mapFields fun x=>x.setIfInBounds 0 (rawInt ↑next)) = h1 at hI1 sb1 ⊢
 exact wpAny_bind (wpAny_setField (s:={ s with heap:=h1 }) hI1 rfl (by simp) (wpAny_pure ⟨x,rfl,wpAny_pure (h _ (za9 hI1) (sb1.trans (Heap.SameBut.update ..)))⟩))
theorem za8 {I S:Addr} {first:Value} {i n ep:Nat} {R:PySem.Fin -> Shared -> Prop} {Q:Option Value -> Shared -> Prop} (hh:A.handled = none) (hI:s.heap.get? I = some (xq6 first i S n ep)) (h:∀ h',Heap.ExtBut I s.heap h' -> Q none { s with heap:=h' }) :
  wpAny (model prog w) A.in1 (do
    setField (Value.ref I) 2 Value.none
    let e <- newExc (Value.type "StopIteration") []
    raiseNew e) R (fun e s'=>wpAny (model prog w) A (do
     let b <- isInstance e (Value.type "StopIteration")
     if b = true then pure none else throw e) Q E s') s:=by
 refine wpAny_bind (wpAny_setField hI rfl (by simp) ?_)
 refine wpAny_bind ?_
 simp only [newTuple,newExc]
 refine wpAny_bind (wpAny_newObj_type ?_ (by size_fits)); have none1:firstArgMember (.type "StopIteration") [] = pure Value.none:=by first | rfl | (simp only [firstArgMember]; rfl)
 refine wpAny_bind (wpAny_of_eq none1 ?_)
 refine wpAny_newObj_type ?_ (by size_fits); simp only [raiseNew]
 refine wpAny_bind (wpAny_handled ?_); rw [show A.in1.handled = none from hh]
 refine wpAny_bind (wpAny_pure (wpAny_throw ?_)); have isStop:=isSubtype_stop
 refine wpAny_bind (wpAny_isInstance ⟨_,Heap.get?_push_size _ rfl,rfl⟩ isStop ?_)
 exact wpAny_pure (h _ (((Heap.SameBut.update ..).extBut.push _).push _))
theorem zc7 {I S T:Addr} {o oT:Obj} {es:Array (Int × Value)} {ep i n:Nat} {t:SetTable} {items:Array Value} {nn:Nat} {Q:Option Value -> Shared -> Prop} (hh:A.handled = none) (hI:s.heap.get? I = some (xq6 (.ref T) i S n ep)) (hS:s.heap.get? S = some o) (hd:o.data = .set es ep t) (hf:t.fits es.size = true) (hn:es.size = n)
  (hT:s.heap.get? T = some oT) (hTd:oT.data = .seq items nn) (hit:items[i]? = none)
  (h:∀ h',Heap.ExtBut I s.heap h' -> Q none { s with heap:=h' }):wpAny (model prog w) A (pyNext (.ref I)) Q E s:=by
 have hTy:s.TypeIs (.ref I) "set_iterator":=⟨_,hI,rfl⟩
 unfold pyNext
 refine wpAny_bind (wpAny_attempt (wpAny_callSpecial?_slot (name:=Str.ofString "__next__") hTy xb8 (wpAny_call_entry xb8 hTy xi5 ?_ (xj5 _))))
 unfold Builtin.«set_iterator.__next__» slotArgs
 simp only [List.isEmpty_nil,Bool.not_true,Bool.false_eq_true,↓reduceIte,bind_assoc,List.length_nil,bne_self_eq_false]; refine wpAny_bind (wpAny_pure ?_)
 dsimp only
 refine wpAny_bind (wpAny_fieldsOf hI rfl ?_)
 dsimp only
 refine wpAny_bind (wpAny_setEntries_of hS hd hf ?_)
 rw [if_neg (by rw [hn]; simp)]
 refine wpAny_bind (wpAny_seqItems hT hTd ?_)
 simp only [Int.toNat_natCast,hit]
 refine wpAny_bind (wpAny_setField hI rfl (by simp) ?_)
 have hI1:(s.heap.update I (Obj.mapFields fun x=>x.setIfInBounds 0 (rawInt 0))).get? I = some (xq6 (.int 0 0) i S n ep):=by
  refine (Heap.get?_update_self _ hI (Obj.isFreed_of_fields (Obj.data_mapFields rfl _))).trans ?_
  simp [Obj.mapFields,rawInt]
 have sb1:=Heap.SameBut.update s.heap I (Obj.mapFields fun x=>x.setIfInBounds 0 (rawInt 0))
 generalize s.heap.update I (Obj.mapFields fun x=>x.setIfInBounds 0 (rawInt 0)) = h1 at hI1 sb1 ⊢
 exact za8 (s:={ s with heap:=h1 }) hh hI1 fun h' e=>h h' (sb1.extBut.trans e)
theorem yj5 {I S:Addr} {o:Obj} {es:Array (Int × Value)} {ep i n:Nat} {t:SetTable} {slot:Int} {tk:Tok} {Q:Option Value -> Shared -> Prop} (hh:A.handled = none) (hI:s.heap.get? I = some (xq6 (.int slot tk) i S n ep)) (hS:s.heap.get? S = some o) (hd:o.data = .set es ep t) (hf:t.fits es.size = true) (hn:es.size = n)
  (hnext:∀ (R:Option (Value × Nat) -> Shared -> Prop) (E':Value -> Shared -> Prop),R none s -> wpAny (model prog w) A.in1 (setNext S slot.toNat i ep) R E' s)
  (h:∀ h',Heap.ExtBut I s.heap h' -> Q none { s with heap:=h' }):wpAny (model prog w) A (pyNext (.ref I)) Q E s:=by
 have hTy:s.TypeIs (.ref I) "set_iterator":=⟨_,hI,rfl⟩
 unfold pyNext
 refine wpAny_bind (wpAny_attempt (wpAny_callSpecial?_slot (name:=Str.ofString "__next__") hTy xb8 (wpAny_call_entry xb8 hTy xi5 ?_ (xj5 _))))
 unfold Builtin.«set_iterator.__next__» slotArgs
 simp only [List.isEmpty_nil,Bool.not_true,Bool.false_eq_true,↓reduceIte,bind_assoc,List.length_nil,bne_self_eq_false]; refine wpAny_bind (wpAny_pure ?_)
 dsimp only
 refine wpAny_bind (wpAny_fieldsOf hI rfl ?_)
 dsimp only
 refine wpAny_bind (wpAny_setEntries_of hS hd hf ?_)
 rw [if_neg (by rw [hn]; simp)]
 simp only [Int.toNat_natCast]
 refine wpAny_bind (hnext _ _ ?_)
 dsimp only
 exact za8 hh hI h
def Way3 (w:World) (S T:Addr) (es:Array (Int × Value)) (ep:Nat) (t:SetTable) (vs:List Value) (i:Nat) (first:Value) (h:Heap):Prop :=
 (∃ (oT:Obj) (items:Array Value) (nn:Nat),first = .ref T /\ h.get? T = some oT /\ oT.data = .seq items nn /\ items.size = vs.length /\ ∀ (j:Nat) (x:Value),vs[j]? = some x -> ∃ (place:Nat) (hx:Int),items[j]? = some (Value.int (place:Int) 0) /\ es[place]? = some (hx,x)) \/
 (w.params.followText "set-order" = true /\ (∃ (k:Nat),first = .int k 0) /\ vs = (pickOrder (w.params.setOrder S ep) es).toList.map (·.2)) \/
 (w.params.followText "set-order" = false /\ t.led = true /\ es.size <= 1 /\ vs = es.toList.map (·.2) /\ ∃ (k:Nat),first = .int k 0 /\ (i = 0 -> k = 0) /\ ∀ j,t.place.toList[0]? = some j -> 0 < i -> j < k)
structure ItSt (w:World) (I S T:Addr) (o:Obj) (es:Array (Int × Value)) (ep:Nat) (t:SetTable) (vs:List Value) (i:Nat) (h:Heap):Prop where
 at_:∃ first,h.get? I = some (xq6 first i S es.size ep) /\ Way3 w S T es ep t vs i first h
 set:h.get? S = some o
theorem ya1 {S:Addr} {o:Obj} {es:Array (Int × Value)} {ep:Nat} {t:SetTable} {k i:Nat} {R:Option (Value × Nat) -> Shared -> Prop} (hS:s.heap.get? S = some o) (hd:o.data = .set es ep t) (hf:t.fits es.size = true) (hb:w.params.followText "set-order" = false) (hled:t.led = true) (h1:es.size <= 1)
  (h:R (match es[SetTable.below t.place k]?,t.place[SetTable.below t.place k]? with | some (_,x),some j=>some (x,j + 1) | _,_=>none) s):wpAny (model prog w) A (setNext S k i ep) R E s:=by
 unfold setNext setsByText
 refine wpAny_bind (wpAny_setState_of hS hd hf ?_)
 dsimp only
 refine wpAny_bind (wpAny_bind (wpAny_askSetting (wpAny_pure ?_))); rw [if_neg (by show ¬ w.params.followText "set-order" = true; rw [hb]; decide)]
 show wpAny _ _ (if (!t.plain && decide (es.size > 1)) = true then _ else _) _ _ _
 rw [if_neg (by simp; omega)]
 show wpAny _ _ ((if (!t.led && !es.isEmpty) = true then (unsupported "set:maker-not-led" : Sem Unit) else pure ()) >>= _) _ _ _
 rw [if_neg (by rw [hled]; simp)]
 refine wpAny_bind (wpAny_pure ?_); exact wpAny_pure h
theorem yg4 {S:Addr} {o:Obj} {es:Array (Int × Value)} {ep:Nat} {t:SetTable} {k i:Nat} {R:Option (Value × Nat) -> Shared -> Prop} (hS:s.heap.get? S = some o) (hd:o.data = .set es ep t) (hf:t.fits es.size = true) (hb:w.params.followText "set-order" = true)
  (h:R (((pickOrder (w.params.setOrder S ep) es)[i]?).map fun e=>(e.2,k)) s):wpAny (model prog w) A (setNext S k i ep) R E s:=by
 unfold setNext setsByText
 refine wpAny_bind (wpAny_setState_of hS hd hf ?_)
 dsimp only
 refine wpAny_bind (wpAny_bind (wpAny_askSetting (wpAny_pure ?_))); rw [if_pos (by exact hb),if_neg (by simp)]
 unfold setWalk setsByText
 refine wpAny_bind (wpAny_bind (wpAny_setState_of hS hd hf ?_))
 dsimp only
 refine wpAny_bind (wpAny_bind (wpAny_askSetting (wpAny_pure ?_))); rw [if_pos (by exact hb)]
 refine wpAny_bind (wpAny_askSetting (wpAny_pure ?_))
 exact wpAny_pure h
theorem walk_set {I S T:Addr} {o:Obj} {es:Array (Int × Value)} {ep:Nat} {t:SetTable} {vs:List Value} {fp:List Addr} (hh:A.handled = none) (hd:o.data = .set es ep t) (hf:t.fits es.size = true) (hvl:vs.length = es.size) (hIS:S ≠ I) (hpw:es.size <= 1 -> t.place.toList.Pairwise (· < ·)) (hIf:I ∈ fp) (hSf:S ∈ fp) (hTf:T ∈ fp) (hTI:T ≠ I) :
  WalksS prog w A I fp [I] (fun a b=>b = a) vs.length (fun i v=>vs[i]? = some v) (fun i s=>ItSt w I S T o es ep t vs i s.heap) where
 sub:=fun b hb=>by rw [List.mem_singleton.mp hb]; exact hIf
 grefl:=fun _=>rfl; gtrans:=fun _ _ _ h1 h2=>h2.trans h1
 frame:=fun i s h' tk st _ hk=>by
  obtain ⟨⟨first,h1,h2⟩,h3⟩:=st
  refine ⟨⟨first,hk I hIf _ h1,?_⟩,hk S hSf _ h3⟩
  rcases h2 with ⟨oT,items,nn,rfl,e1,e2⟩ | q | q
  ·exact .inl ⟨oT,items,nn,rfl,hk T hTf _ e1,e2⟩
  ·exact .inr (.inl q)
  ·exact .inr (.inr q)
 item:=fun i s Q E hi st (hQ)=>by
  obtain ⟨⟨first,hI,hw⟩,hS⟩:=st
  have hv:vs[i]? = some vs[i]:=List.getElem?_eq_getElem hi
  have mv:∀ h',Heap.SameBut I s.heap h' -> Moved [I] (fun a b=>b = a) s { s with heap:=h' }:=fun h' sb=>⟨fun b ob hb e=>(sb.2 b (fun z=>hb (by simp [z]))).trans e,rfl,rfl,rfl,Nat.le_refl _⟩
  rcases hw with ⟨oT,items,nn,rfl,e1,e2,e3,e4⟩ | ⟨hb,⟨k,rfl⟩,rfl⟩ | ⟨hb,hled,h1,rfl,k,rfl,hk0,hk1⟩
  ·obtain ⟨place,hx,p1,p2⟩:=e4 i _ hv
   refine yt8 hI hS hd hf rfl e1 e2 p1 p2 fun h' hI' sb=>hQ _ _ hv ⟨⟨_,hI',.inl ⟨oT,items,nn,rfl,(sb.2 T hTI).trans e1,e2,e3,e4⟩⟩,(sb.2 S hIS).trans hS⟩ (mv h' sb)
  ·have hv2:(pickOrder (w.params.setOrder S ep) es)[i]?.map (fun e=>(e.2,k)) = some (((pickOrder (w.params.setOrder S ep) es).toList.map (·.2))[i],k):=by
    rw [List.getElem?_map,Array.getElem?_toList] at hv
    cases q:(pickOrder (w.params.setOrder S ep) es)[i]? with
    | none=>rw [q] at hv; cases hv
    | some e=>rw [q] at hv; simp at hv; simp [hv]
   refine ya2 hI hS hd hf rfl (x:=((pickOrder (w.params.setOrder S ep) es).toList.map (·.2))[i]) (next:=k) (fun R E' r=>yg4 hS hd hf hb (by rw [Int.toNat_natCast,hv2]; exact r)) fun h' hI' sb=>hQ _ _ hv ⟨⟨_,hI',.inr (.inl ⟨hb,⟨k,rfl⟩,rfl⟩)⟩,(sb.2 S hIS).trans hS⟩ (mv h' sb)
  ·simp only [List.length_map,Array.length_toList] at hi
   have i0:i = 0:=by omega
   subst i0
   have k0:=hk0 rfl
   subst k0
   have hfit:=hf
   unfold SetTable.fits at hfit
   simp only [Bool.and_eq_true,beq_iff_eq,decide_eq_true_eq] at hfit
   obtain ⟨j,hj⟩:∃ j,t.place.toList[0]? = some j:=⟨_,List.getElem?_eq_getElem (by simp; omega)⟩
   have hb0:SetTable.below t.place 0 = 0:=by
    obtain ⟨_,l2,_⟩:=xu0 (hpw h1) 0
    apply Classical.byContradiction
    intro z
    have:=l2 0 j (by omega) hj
    omega
   have hj':t.place[0]? = some j:=by rw [<- Array.getElem?_toList]; exact hj
   obtain ⟨e,he⟩:∃ e,es[0]? = some e:=⟨_,Array.getElem?_eq_getElem hi⟩
   have hve:(es.toList.map (·.2))[0]? = some e.2:=by rw [List.getElem?_map,Array.getElem?_toList,he]; rfl
   refine ya2 hI hS hd hf rfl (x:=e.2) (next:=j + 1) (fun R E' r=>ya1 hS hd hf hb hled h1 (by rw [Int.toNat_natCast,hb0,he,hj']; exact r)) fun h' hI' sb=>hQ _ _ hve ⟨⟨_,hI',.inr (.inr ⟨hb,hled,h1,rfl,j + 1,rfl,fun z=>by omega,fun j' hj2 _=>?_⟩)⟩,(sb.2 S hIS).trans hS⟩ (mv h' sb)
   rw [hj] at hj2
   cases hj2
   omega
 done:=fun s Q E st hQ=>by
  obtain ⟨⟨first,hI,hw⟩,hS⟩:=st
  have mv:∀ h',Heap.ExtBut I s.heap h' -> Moved [I] (fun a b=>b = a) s { s with heap:=h' }:=fun h' sb=>⟨fun b ob hb e=>sb b ob (fun z=>hb (by simp [z])) e,rfl,rfl,rfl,Nat.le_refl _⟩
  rcases hw with ⟨oT,items,nn,rfl,e1,e2,e3,e4⟩ | ⟨hb,⟨k,rfl⟩,hvs⟩ | ⟨hb,hled,h1,hvs,k,rfl,hk0,hk1⟩
  ·exact zc7 hh hI hS hd hf rfl e1 e2 (Array.getElem?_eq_none (by omega)) fun h' e=>hQ _ (mv h' e)
  ·refine yj5 hh hI hS hd hf rfl (fun R E' r=>yg4 hS hd hf hb ?_) fun h' e=>hQ _ (mv h' e)
   have:(pickOrder (w.params.setOrder S ep) es).size = vs.length:=by rw [hvs]; simp
   rw [Array.getElem?_eq_none (by omega)]
   exact r
  ·refine yj5 hh hI hS hd hf rfl (fun R E' r=>ya1 hS hd hf hb hled h1 ?_) fun h' e=>hQ _ (mv h' e)
   have hfit:=hf
   unfold SetTable.fits at hfit
   simp only [Bool.and_eq_true,beq_iff_eq,decide_eq_true_eq] at hfit
   have big:es.size <= SetTable.below t.place k:=by
    rcases Nat.eq_zero_or_pos es.size with z | z
    ·omega
    ·have one:es.size = 1:=by omega
     obtain ⟨j,hj⟩:∃ j,t.place.toList[0]? = some j:=⟨_,List.getElem?_eq_getElem (by simp; omega)⟩
     have lt:=hk1 j hj (by omega)
     obtain ⟨_,_,l3⟩:=xu0 (hpw h1) k
     apply Classical.byContradiction
     intro c
     have:=l3 0 j (by omega) hj
     omega
   rw [Int.toNat_natCast,Array.getElem?_eq_none big]
   exact r
 self:=fun i s Q E st hQ=>by
  obtain ⟨⟨first,hI,_⟩,_⟩:=st
  have hTy:s.TypeIs (.ref I) "set_iterator":=⟨_,hI,rfl⟩
  refine wpAny_pyIter_slot hTy xp2 (wpAny_call_entry xp2 hTy xz7 ?_ (yf3 _))
  show wpAny _ _ (ret (.ref I)) _ _ s
  exact wpAny_pure ⟨_,rfl,"set_iterator",_,hTy,xb8.lookup,hQ⟩
end
section
variable {prog:Program} {w:World} {K:Type} [DecidableEq K] {kn:KeyKind prog w K} {A:Around} {E:Value -> Shared -> Prop} {s:Shared}
theorem xz8:entryFor table "set.__iter__" = some Builtin.«frozenset.__iter__»:=entryFor_alias (id':="frozenset.__iter__") (by kernel_rfl) rfl (by decide +kernel) (by kernel_rfl)
theorem rel_list {α β:Type} {f:α -> β} {l:List α} {i:Nat} {y:β} (h:(l.map f)[i]? = some y):∃ x,l[i]? = some x /\ y = f x:=by
 rw [List.getElem?_map] at h
 obtain ⟨x,h1,h2⟩:=Option.map_eq_some_iff.mp h
 exact ⟨x,h1,h2.symm⟩
theorem fm_get {α β:Type} {f:α -> Option β}:∀ l:List α,(∀ k ∈ l,∃ y,f k = some y) -> (l.filterMap f).length = l.length /\ ∀ (j:Nat) (y:β),(l.filterMap f)[j]? = some y -> ∃ k,l[j]? = some k /\ f k = some y
 | [],_=>⟨rfl,fun j y h=>by simp at h⟩
 | a :: l,h=>by
  obtain ⟨y,hy⟩:=h a (by simp)
  obtain ⟨h1,h2⟩:=fm_get l fun k hk=>h k (by simp [hk])
  rw [List.filterMap_cons,hy]
  refine ⟨by rw [List.length_cons,List.length_cons,h1],fun j z hz=>?_⟩
  cases j with
  | zero=>simp at hz; subst hz; exact ⟨a,rfl,hy⟩
  | succ j =>
   rw [List.getElem?_cons_succ] at hz
   obtain ⟨k,q1,q2⟩:=h2 j z hz
   exact ⟨k,by simpa using q1,q2⟩
theorem iter_set {S:Addr} {o:Obj} {es:Array (Int × Value)} {ep:Nat} {t:SetTable} {Q:Value -> Shared -> Prop} (ho:s.heap.get? S = some o) (hex:o.ExactSet) (hd:o.data = .set es ep t) (hf:t.fits es.size = true) (hsz:es.size <= 1000) (hpl:Flags w es.size t)
  (h:∀ h' d' I T vs,(∀ b ob,s.heap.get? b = some ob -> h'.get? b = some ob) -> s.heap.objs.size <= I -> I < h'.objs.size -> (T = S \/ s.heap.objs.size <= T) -> T ≠ I -> vs.Perm (es.toList.map (·.2)) -> ItSt w I S T o es ep t vs 0 h' -> Q (.ref I) { s with heap:=h',drawn:=d' }) :
  wpAny (model prog w) A (pyIter (.ref S)) Q E s:=by
 have hTy:s.TypeIs (.ref S) "set":=⟨o,ho,hex.1⟩
 have hlt:=Heap.lt_size ho
 refine wpAny_pyIter_slot hTy PySem.F.slot_set_iter (wpAny_call_entry PySem.F.slot_set_iter hTy xz8 ?_ (PySem.F.args_set_iter_1 _))
 unfold Builtin.«frozenset.__iter__» Builtin.Frozenset.slot0 slotArgs
 simp only [List.isEmpty_nil,Bool.not_true,Bool.false_eq_true,↓reduceIte,bind_assoc,List.length_nil,bne_self_eq_false]; refine wpAny_bind (wpAny_pure ?_)
 show wpAny _ _ (pure S >>= _) _ _ _
 refine wpAny_bind (wpAny_pure ?_); unfold Builtin.Frozenset.sizeOf
 refine wpAny_bind (wpAny_bind (wpAny_setEntries_of ho hd hf (wpAny_pure ?_)))
 unfold setDrawn setsByText
 refine wpAny_bind (wpAny_bind (wpAny_setState_of ho hd hf ?_))
 dsimp only
 refine wpAny_bind (wpAny_bind (wpAny_askSetting (wpAny_pure ?_))); refine wpAny_pure ?_
 show wpAny _ _ (if (!(w.params.followText "set-order") && (!t.plain && decide (es.size > 1))) = true then _ else _) _ _ _
 by_cases c:(!(w.params.followText "set-order") && (!t.plain && decide (es.size > 1))) = true
 ·rw [if_pos c]
  refine wpAny_bind (yj6 _ _ (by simp) fun order d' hp=>?_)
  simp only [newTuple]
  have hol:order.length = es.size:=by rw [hp.length_eq,List.length_range]
  obtain ⟨fm1,fm2⟩:=fm_get (f:=fun k=>(es.toList.map (·.2))[k]?) order fun k hk=>by
   have:=List.mem_range.mp (hp.mem_iff.mp hk)
   exact ⟨_,List.getElem?_eq_getElem (by simpa using this)⟩
  refine wpAny_bind (wpAny_newObj_type ?_ (by
   show (order.map _).toArray.size <= _
   rw [List.size_toArray,List.length_map,hol,sizeLine_eq]
   omega))
  generalize hob:({ cls:=Value.type "tuple",data:=Data.seq (order.map fun (i:Nat)=>rawInt ↑i).toArray }:Obj) = oT
  have hoT:(s.heap.push oT).get? s.heap.objs.size = some oT:=Heap.get?_push_size _ (by rw [<- hob]; rfl)
  have ho1:(s.heap.push oT).get? S = some o:=Heap.get?_push_of_some _ ho
  refine wpAny_bind (wpAny_setEpoch_of (s:={ s with heap:=s.heap.push oT,drawn:=d' }) ho1 hd hf ?_)
  refine wpAny_bind (wpAny_newObj_type ?_); generalize hoi:({ cls:=Value.type "set_iterator",data:=Data.fields [Value.ref s.heap.objs.size,rawInt 0,Value.ref S,rawInt ↑es.size,rawInt ↑ep].toArray }:Obj) = oI
  have hI:((s.heap.push oT).push oI).get? (s.heap.push oT).objs.size = some (xq6 (.ref s.heap.objs.size) 0 S es.size ep):=(Heap.get?_push_size _ (by rw [<- hoi]; rfl)).trans (by rw [<- hoi]; rfl)
  have hsz:(s.heap.push oT).objs.size = s.heap.objs.size + 1:=Heap.size_push _ _
  have hsz2:((s.heap.push oT).push oI).objs.size = s.heap.objs.size + 2:=by rw [Heap.size_push,hsz]
  refine wpAny_pure ⟨_,rfl,"set_iterator",_,⟨_,hI,rfl⟩,xb8.lookup,?_⟩
  refine h _ d' _ s.heap.objs.size (order.filterMap fun k=>(es.toList.map (·.2))[k]?) (fun b ob e=>Heap.get?_push_of_some _ (Heap.get?_push_of_some _ e)) (by rw [hsz]; exact Nat.le_succ _) (by rw [hsz2,hsz]; exact Nat.lt_succ_self _) (.inr (Nat.le_refl _)) (by rw [hsz]; exact Nat.ne_of_lt (Nat.lt_succ_self _)) ?_ ⟨⟨_,hI,.inl ⟨oT,_,0,rfl,Heap.get?_push_of_some _ hoT,by rw [<- hob],?_,?_⟩⟩,Heap.get?_push_of_some _ ho1⟩
  ·have:=hp.filterMap (fun k=>(es.toList.map (·.2))[k]?)
   refine this.trans ?_
   rw [show es.size = (es.toList.map (·.2)).length by simp,xu9]
  ·rw [List.size_toArray,List.length_map,fm1]
  ·intro j x hx
   obtain ⟨k,hk1,hk2⟩:=fm2 j x hx
   obtain ⟨e,he1,he2⟩:=rel_list hk2
   refine ⟨k,e.1,?_,?_⟩
   ·rw [<- Array.getElem?_toList,List.toList_toArray,List.getElem?_map,hk1]; rfl
   ·rw [<- Array.getElem?_toList,he1,he2]
 ·rw [if_neg c]
  refine wpAny_bind (wpAny_pure ?_); refine wpAny_bind (wpAny_setEpoch_of ho hd hf ?_)
  refine wpAny_bind (wpAny_newObj_type ?_); generalize hoi:({ cls:=Value.type "set_iterator",data:=Data.fields [rawInt 0,rawInt 0,Value.ref S,rawInt ↑es.size,rawInt ↑ep].toArray }:Obj) = oI
  have hI:(s.heap.push oI).get? s.heap.objs.size = some (xq6 (.int ((0:Nat):Int) 0) 0 S es.size ep):=(Heap.get?_push_size _ (by rw [<- hoi]; rfl)).trans (by rw [<- hoi]; rfl)
  refine wpAny_pure ⟨_,rfl,"set_iterator",_,⟨_,hI,rfl⟩,xb8.lookup,?_⟩
  have hS1:(s.heap.push oI).get? S = some o:=Heap.get?_push_of_some _ ho
  have hsz:(s.heap.push oI).objs.size = s.heap.objs.size + 1:=Heap.size_push _ _
  have keep:∀ b ob,s.heap.get? b = some ob -> (s.heap.push oI).get? b = some ob:=fun b ob e=>Heap.get?_push_of_some _ e
  cases hb:w.params.followText "set-order" with
  | true =>
   exact h _ s.drawn _ S ((pickOrder (w.params.setOrder S ep) es).toList.map (·.2)) keep (Nat.le_refl _) (by omega) (.inl rfl) (Nat.ne_of_lt hlt) ((yx4 _ _).map _) ⟨⟨_,hI,.inr (.inl ⟨hb,⟨0,rfl⟩,rfl⟩)⟩,hS1⟩
  | false =>
   have small:es.size <= 1:=by
    apply Classical.byContradiction
    intro z
    rcases hpl.1 with q | q
    ·omega
    ·rw [hb,q] at c; simp at c; omega
   exact h _ s.drawn _ S (es.toList.map (·.2)) keep (Nat.le_refl _) (by omega) (.inl rfl) (Nat.ne_of_lt hlt) (.refl _) ⟨⟨_,hI,.inr (.inr ⟨hb,by rw [hpl.2,hb]; rfl,small,rfl,0,rfl,fun _=>rfl,fun j _ z=>by omega⟩)⟩,hS1⟩
end
section
variable {prog:Program} {w:World} {K:Type} [DecidableEq K] {kn:KeyKind prog w K} {A:Around} {E:Value -> Shared -> Prop} {s:Shared}
theorem yn9 {S:Addr} {o:Obj} {es:Array (Int × Value)} {ep:Nat} {t:SetTable} {Q:List Value -> Shared -> Prop} (hh:A.handled = none) (ho:s.heap.get? S = some o) (hex:o.ExactSet) (hd:o.data = .set es ep t) (hfs:t.fits es.size = true) (hsz:es.size <= 1000) (hpl:Flags w es.size t) (hpw:es.size <= 1 -> t.place.toList.Pairwise (· < ·))
  (h:∀ s' vs,(∀ b ob,s.heap.get? b = some ob -> s'.heap.get? b = some ob) -> s.heap.objs.size <= s'.heap.objs.size -> s'.gens = s.gens -> s'.os = s.os -> vs.Perm (es.toList.map (·.2)) -> Q vs s') :
  wpAny (model prog w) A (collect (.ref S)) Q E s:=by
 have hTy:s.TypeIs (.ref S) "set":=⟨o,ho,hex.1⟩
 have hlt:=Heap.lt_size ho
 unfold collect
 refine wpAny_bind (wpAny_runValue (codeAny_builtin PySem.F.entry_proto_collect ?_))
 rw [Around.under_plainId PySem.F.plain_proto_collect _]; show wpAny _ A.in1 (newList [] >>= fun l=>again (.builtin "list.__iadd__" ⟨[l,.ref S],[]⟩)) _ _ s
 refine wpAny_bind (wpAny_newObj_type ?_); refine wpAny_pure ⟨plainId_quiet PySem.F.plain_list_iadd _,codeAny_builtin PySem.F.entry_list_iadd ?_⟩
 rw [Around.under_plainId PySem.F.plain_list_iadd _]; generalize hL:({ cls:=Value.type "list",data:=Data.seq ([]:List Value).toArray }:Obj) = oL
 have k1:∀ b ob,s.heap.get? b = some ob -> (s.heap.push oL).get? b = some ob:=fun b ob e=>Heap.get?_push_of_some _ e
 have hL1:(s.heap.push oL).get? s.heap.objs.size = some oL:=Heap.get?_push_size _ (by rw [<- hL]; rfl)
 have ho1:=k1 _ _ ho
 have sz1:(s.heap.push oL).objs.size = s.heap.objs.size + 1:=Heap.size_push _ _
 have hTy1:Shared.TypeIs { s with heap:=s.heap.push oL } (.ref S) "set":=⟨o,ho1,hex.1⟩
 show wpAny _ A.in1 (Builtin.List.listExtendWith (.ref s.heap.objs.size) (.ref S) (.ref s.heap.objs.size)) _ _ _
 unfold Builtin.List.listExtendWith; refine wpAny_bind (wpAny_typeOf hTy1 ?_)
 have q1:Builtin.List.listSameRef (.ref s.heap.objs.size) (.ref S) = false:=by
  have:s.heap.objs.size ≠ S:=Nat.ne_of_gt hlt
  simp [Builtin.List.listSameRef,this]
 rw [if_neg (by rw [q1]; decide)]
 refine wpAny_bind (iter_set (s:={ s with heap:=s.heap.push oL }) ho1 hex hd hfs hsz hpl fun h2 d2 I T vs k2 hI1 hI2 hTa hTI hp st=>?_)
 have hI1:s.heap.objs.size + 1 <= I:=by rw [<- sz1]; exact hI1
 have ho2:=k2 _ _ ho1
 have hTy2:Shared.TypeIs { s with heap:=h2,drawn:=d2 } (.ref S) "set":=⟨o,ho2,hex.1⟩
 refine wpAny_bind (wpAny_holding ?_); unfold Builtin.List.listLengthHint
 refine wpAny_bind (wpAny_specialOf hTy2 PySem.F.slot_set_len.lookup ?_)
 generalize hid:("set.__len__" : String) = name0
 wp_delta
 have hsp:splitId name0 = some ("set","__len__"):=by subst hid; decide +kernel
 rw [hsp]
 subst hid
 show wpAny _ _ (isInstance (Value.ref S) (Value.type "set") >>= _) _ _ _
 refine wpAny_bind (wpAny_isInstance hTy2 sub_set_self ?_)
 show wpAny _ _ (typeOf (Value.ref S) >>= _) _ _ _
 refine wpAny_bind (wpAny_typeOf hTy2 ?_)
 refine wpAny_pure ?_
 show wpAny _ A.in1 (rule "list.extend.makes-room" >>= fun _=>Builtin.List.listTouch (.ref s.heap.objs.size) >>= fun _=>again (.builtin "list.extend.loop" ⟨[.ref s.heap.objs.size,.ref I,.ref s.heap.objs.size],[]⟩)) _ _ _
 refine wpAny_bind (wpAny_rule ?_); have hL2:h2.get? s.heap.objs.size = some oL:=k2 _ _ hL1
 refine wpAny_bind ?_
 show wpAny _ A.in1 (updateSeq s.heap.objs.size (·.push .none) >>= fun _=>updateSeq s.heap.objs.size (·.pop)) _ _ _; refine wpAny_bind (wpAny_updateSeq (s:={ s with heap:=h2,drawn:=d2 }) hL2 (by rw [<- hL]) ?_)
 have hL3:=Heap.get?_update_self (Obj.mapSeq (·.push Value.none)) hL2 (by rw [<- hL]; rfl)
 have sb3:=Heap.SameBut.update h2 s.heap.objs.size (Obj.mapSeq (·.push Value.none))
 generalize h2.update s.heap.objs.size (Obj.mapSeq (·.push Value.none)) = h3 at hL3 sb3 ⊢
 refine wpAny_updateSeq (s:={ s with heap:=h3,drawn:=d2 }) hL3 (by rw [<- hL]; rfl) ?_
 have hL4:=Heap.get?_update_self (Obj.mapSeq (·.pop)) hL3 (by rw [<- hL]; rfl)
 have sb4:=Heap.SameBut.update h3 s.heap.objs.size (Obj.mapSeq (·.pop))
 generalize h3.update s.heap.objs.size (Obj.mapSeq (·.pop)) = h4 at hL4 sb4 ⊢
 have sb:=sb3.trans sb4
 have hvl:vs.length = es.size:=by rw [hp.length_eq]; simp
 have hIL:I ≠ s.heap.objs.size:=Nat.ne_of_gt (Nat.lt_of_lt_of_le (Nat.lt_succ_self _) hI1)
 have hSL:S ≠ s.heap.objs.size:=Nat.ne_of_lt hlt
 have hTL:T ≠ s.heap.objs.size:=by
  rcases hTa with z | z
  ·rw [z]; exact hSL
  ·have:s.heap.objs.size + 1 <= T:=by rw [<- sz1]; exact z
   exact Nat.ne_of_gt (Nat.lt_of_lt_of_le (Nat.lt_succ_self _) this)
 have hSI:S ≠ I:=Nat.ne_of_lt (Nat.lt_of_lt_of_le hlt (by omega))
 have W:=walk_set (prog:=prog) (w:=w) (A:=A.in1) (T:=T) (fp:=[I,S,T]) hh hd hfs hvl hSI hpw (by simp) (by simp) (by simp) hTI
 have st4:ItSt w I S T o es ep t vs 0 h4:=W.frame 0 { s with heap:=h2,drawn:=d2 } h4 s.toks st (Nat.le_refl _) fun b hb ob e=>by
  have ne:b ≠ s.heap.objs.size:=by
   simp only [List.mem_cons,List.not_mem_nil,or_false] at hb; rcases hb with rfl | rfl | rfl <;> assumption
  exact (sb.2 b ne).trans e
 subst hL
 have small:es.size <= sizeLine:=by rw [sizeLine_eq]; omega
 refine wpAny_pure ⟨plainId_quiet PySem.F.plain_extend_loop _,codeAny_extend_loopS W (by rw [hvl]; exact small) s.heap.objs.size (by simp only [List.mem_cons,List.not_mem_nil,or_false,not_or]; exact ⟨Ne.symm hIL,Ne.symm hSL,Ne.symm hTL⟩) _ vs.length 0 { s with heap:=h4,drawn:=d2 } #[] _ rfl (Nat.zero_le _) st4 (hL4.trans rfl) (ItemsOf.nil _) fun s' acc c hm hS' hacc=>?_⟩
 show wpAny _ A (load s.heap.objs.size >>= _) _ _ s'; refine wpAny_bind (wpAny_load hS' (wpAny_pure ?_))
 have eacc:acc.toList = vs:=by
  refine List.ext_getElem? fun j=>?_
  by_cases c:j < vs.length
  ·obtain ⟨v,hv⟩:∃ v,acc[j]? = some v:=⟨_,Array.getElem?_eq_getElem (by rw [hacc.1]; exact c)⟩
   rw [Array.getElem?_toList,hv,hacc.2 j v hv]
  ·have l1:acc.toList.length <= j:=by rw [Array.length_toList,hacc.1]; omega
   have l2:vs.length <= j:=by omega
   rw [List.getElem?_eq_none l1,List.getElem?_eq_none l2]
 rw [eacc]
 refine h s' vs (fun b ob e=>?_) (Nat.le_of_lt (Heap.lt_size hS')) hm.gens hm.os ?_
 ·have hb:=Heap.lt_size e
  refine hm.heap b ob ?_ ((sb.2 b (Nat.ne_of_lt hb)).trans (k2 _ _ (k1 _ _ e)))
  simp only [List.mem_cons,List.not_mem_nil,or_false,not_or]
  exact ⟨Nat.ne_of_lt hb,Nat.ne_of_lt (Nat.lt_of_lt_of_le hb (by omega))⟩
 ·exact hp
theorem yn8 {S:Addr} {xs:List (List K × Addr)} {Q:List Value -> Shared -> Prop} (hh:A.handled = none) (hS:xo0 kn s.heap S xs)
  (h:∀ s' vs,(∀ b ob,s.heap.get? b = some ob -> s'.heap.get? b = some ob) -> s.heap.objs.size <= s'.heap.objs.size -> s'.gens = s.gens -> s'.os = s.os -> vs.Perm (xs.map fun x=>Value.ref x.2) -> Q vs s') :
  wpAny (model prog w) A (collect (.ref S)) Q E s:=by
 obtain ⟨o,es,ep,t,ho,hex,hd,Sa,hpl⟩:=hS
 have hz:es.size <= 1000:=by
  rw [Sa.size]
  have:=Sa.cap
  rcases Sa.tab.mask with z | z | z | z | z <;> omega
 refine yn9 hh ho hex hd Sa.fits hz (by rw [Sa.size]; exact hpl) (fun _=>Sa.tab.pw) fun s' vs k1 k2 k3 k4 hp=>h s' vs k1 k2 k3 k4 ?_
 rw [Sa.es,List.map_map] at hp
 exact hp
end
open PySem PySem.W PyProof.Rows
def xs3 {α:Type} (n:Nat) (P:α -> Prop):KasT α -> Prop
 | .ret a=>P a
 | .ask i j k=>i < n /\ j < n /\ ∀ b,xs3 n P (k b)
theorem xm4 {α β:Type} {n:Nat} {P:α -> Prop} {R:β -> Prop} {f:α -> KasT β}:∀ t:KasT α,xs3 n P t -> (∀ a,P a -> xs3 n R (f a)) -> xs3 n R (t.bind f)
 | .ret a,h,hf=>hf a h
 | .ask i j k,h,hf=>⟨h.1,h.2.1,fun b=>xm4 (k b) (h.2.2 b) hf⟩
theorem zc2 {α:Type} {n:Nat} {P:α -> Prop} {cmp:Nat -> Nat -> (Bool -> Shared -> Prop) -> Shared -> Prop} {Q:α -> Shared -> Prop} {s:Shared} (hc:∀ i j C,i < n -> j < n -> (∀ b,C b s) -> cmp i j C s) (hq:∀ a,P a -> Q a s):∀ t:KasT α,xs3 n P t -> t.kasWp cmp Q s
 | .ret a,h=>hq a h
 | .ask i j k,h=>hc i j _ h.1 h.2.1 fun b=>zc2 hc hq (k b) (h.2.2 b)
def xl5 (n:Nat) (p:Array Nat):Prop:=p.Perm (List.range n).toArray
theorem xl5.get {n:Nat} {p:Array Nat} (h:xl5 n p) (hn:0 < n) (i:Nat):p.getD i 0 < n:=by
 by_cases c:i < p.size
 ·have:p[i] ∈ (List.range n).toArray:=h.mem_iff.mp (Array.getElem_mem c)
  simp at this
  simp [Array.getD,c]
  exact this
 ·simp [Array.getD,c]
  exact hn
theorem xl5.rev {n:Nat} {p:Array Nat} (h:xl5 n p) (i j:Nat):xl5 n (kas_rev p i j):=(mirror_perm _ _ _ _).trans h
section
variable {n:Nat} (hn:0 < n)
include hn
theorem ye8 {p:Array Nat} (h:xl5 n p):∀ f m,xs3 n (fun _=>True) (kas_asc p f m)
 | 0,m=>trivial
 | f + 1,m=>⟨h.get hn _,h.get hn _,fun b=>by
  cases b with
  | true=>exact trivial
  | false=>exact ye8 h f (m + 1)⟩
theorem xq9:∀ f p m q,xl5 n p -> xs3 n (fun r=>xl5 n r.1) (kas_desc f p m q)
 | 0,p,m,q,h=>h
 | f + 1,p,m,q,h=>⟨h.get hn _,h.get hn _,fun b=>by
  cases b with
  | true =>
   simp only [if_true]
   split
   ·exact xq9 f _ _ _ (h.rev _ _)
   ·exact xq9 f _ _ _ h
  | false =>
   refine ⟨h.get hn _,h.get hn _,fun d=>?_⟩
   cases d with
   | true=>exact h
   | false=>exact xq9 f _ _ _ h⟩
theorem yb2 {m nrem:Nat} {p:Array Nat} (h:xl5 n p):xs3 n (fun r=>xl5 n r.2) (kas_tail3 m nrem p) :=
 xm4 _ (ye8 hn (h.rev _ _) _ _) fun a _=>h.rev _ _
theorem xq8 {m nrem:Nat} {p:Array Nat} (h:xl5 n p):xs3 n (fun r=>xl5 n r.2) (kas_descPart m nrem p):=by
 refine xm4 _ (xq9 hn _ _ _ _ h) fun r hr=>?_
 split
 ·exact yb2 hn (hr.rev _ _)
 ·exact yb2 hn hr
theorem yu9 {nrem:Nat} {p:Array Nat} (h:xl5 n p):xs3 n (fun r=>xl5 n r.2) (kas_count nrem p):=by
 refine xm4 _ (ye8 hn h _ _) fun m _=>?_
 split
 ·exact h
 ·split
  ·refine ⟨h.get hn _,h.get hn _,fun b=>?_⟩
   cases b with
   | true=>exact h
   | false=>exact xq8 hn (h.rev _ _)
  ·exact xq8 hn h
theorem xs0 {p:Array Nat} (h:xl5 n p) (k:Nat):∀ f l r,xs3 n (fun _=>True) (kas_place p k f l r)
 | 0,l,r=>trivial
 | f + 1,l,r=>by
  unfold kas_place
  split
  ·exact trivial
  ·refine ⟨h.get hn _,h.get hn _,fun b=>?_⟩
   cases b with
   | true=>exact xs0 h k f _ _
   | false=>exact xs0 h k f _ _
theorem yq9:∀ f p k,xl5 n p -> xs3 n (xl5 n) (kas_bin f p k)
 | 0,p,k,h=>h
 | f + 1,p,k,h=>xm4 _ (xs0 hn h k _ _ _) fun l _=>yq9 f _ _ ((bubble_perm _ _ _).trans h)
theorem zc3:xs3 n (xl5 n) (kas_sort n):=by
 refine xm4 _ (yu9 hn (Array.Perm.refl _)) fun r hr=>?_
 split
 ·exact yq9 hn _ _ _ hr
 ·exact hr
end
section
variable {w:World} {prog:Program} {A:Around} {E:Value -> Shared -> Prop} {s:Shared}
def xo6 (h:Heap) (b:Addr):Prop:=∃ o x t r n,h.get? b = some o /\ o.cls = .type "tuple" /\ o.data = .seq (Value.str x t :: r).toArray n /\ ∀ v ∈ r,∃ y u,v = Value.str y u
theorem yz7 {b fin:Bool} {Q:Bool -> Shared -> Prop} (hq:∀ c,Q c s):∀ (l:List (Value × Value)) (i:Nat),(∀ p ∈ l,(∃ x t,p.1 = Value.str x t) /\ ∃ y u,p.2 = Value.str y u) -> KatLex prog w A b fin Q l i s
 | [],i,_=>kat_nil (hq fin)
 | (p,q) :: r,i,h=>by
  obtain ⟨⟨x,t,e1⟩,y,u,e2⟩:=h (p,q) (by simp)
  simp only at e1 e2
  subst e1 e2
  refine kat_cons (wpAny_eqBool_str ?_)
  refine kat_go (fun _=>kat_yes (yz7 hq r (i + 1) fun z hz=>h z (by simp [hz]))) (fun _=>kat_no ?_)
  cases (b && i == 0) with
  | true=>exact oneLt_str (hq _)
  | false=>exact kat_one _ _ (lt_str (hq _))
theorem cmp_any {b:Bool} {x y:Addr} {Q:Bool -> Shared -> Prop} (hx:xo6 s.heap x) (hy:xo6 s.heap y) (hq:∀ c,Q c s):wpAny (model prog w) A (keyLt' (tuples' b) (.ref x) (.ref y)) Q E s:=by
 obtain ⟨o1,x1,t1,r1,n1,a1,a2,a3,a4⟩:=hx
 obtain ⟨o2,x2,t2,r2,n2,b1,b2,b3,b4⟩:=hy
 refine kat_lt a1 a3 b1 b3 (yz7 hq _ _ fun p hp=>?_)
 have h1:=(List.of_mem_zip hp).1
 have h2:=(List.of_mem_zip hp).2
 simp only [List.mem_cons] at h1 h2
 exact ⟨by rcases h1 with z | z; exact ⟨x1,t1,z⟩; exact a4 _ z,by rcases h2 with z | z; exact ⟨x2,t2,z⟩; exact b4 _ z⟩
theorem yw1 {h:Heap}:∀ vs:List Value,(∀ v ∈ vs,∃ b,v = Value.ref b /\ xo6 h b) -> ∃ fs,KatTups h vs fs /\ fs.length = vs.length /\ ∀ f ∈ fs,∃ x t,f = Value.str x t
 | [],_=>⟨[],KatTups.nil,rfl,fun f hf=>by simp at hf⟩
 | v :: vs,hv=>by
  obtain ⟨fs,h1,h2,h3⟩:=yw1 vs fun u hu=>hv u (by simp [hu])
  obtain ⟨b,rfl,o,x,t,r,n,a1,a2,a3,a4⟩:=hv v (by simp)
  refine ⟨Value.str x t :: fs,KatTups.cons a1 a2 a3 (by simp) h1,by simp [h2],fun f hf=>?_⟩
  rcases List.mem_cons.mp hf with rfl | hf
  ·exact ⟨x,t,rfl⟩
  ·exact h3 f hf
theorem yt1 {vs:List Value} {p:Array Nat} (h:xl5 vs.length p):((p.map (kas_item (pairsOf vs))).map (·.2)).toList.Perm vs:=by
 have e:((p.map (kas_item (pairsOf vs))).map (·.2)).toList = p.toList.map fun i=>vs.getD i Value.none:=by
  rw [Array.toList_map,Array.toList_map,List.map_map]
  refine List.map_congr_left fun i _=>?_; show (kas_item (pairsOf vs) i).2 = _
  rw [kas_item_eq]
 rw [e]
 have hp:p.toList.Perm (List.range vs.length):=by simpa using Array.perm_iff_toList_perm.mp h
 refine (hp.map _).trans ?_
 have:(List.range vs.length).map (fun i=>vs.getD i Value.none) = vs:=by
  refine List.ext_getElem (by simp) fun i h1 h2=>?_
  simp at h1
  simp [h1]
 rw [this]
theorem yw5 {a:Addr} {vs:List Value} {n:Nat} {P:PySem.Fin -> Shared -> Prop} (ho:s.heap.get? a = some (seqObj "list" vs.toArray n)) (hv:∀ v ∈ vs,∃ b,v = Value.ref b /\ xo6 s.heap b) (h64:vs.length < 64)
  (h:∀ h' out e,Heap.ExtBut a s.heap h' -> h'.get? a = some (seqObj "list" out e) -> out.toList.Perm vs -> P (.done (.ret .none)) { s with heap:=h' }):wpAny (model prog w) A (Builtin.«list.sort» ⟨[.ref a],[]⟩) P E s:=by
 rw [list_sort_plain]
 have ha:a < s.heap.objs.size:=Heap.lt_size ho; refine wpAny_bind (listItems_at ho rfl ?_)
 refine wpAny_bind (listUpdate_at ho rfl ?_ (by rw [List.size_toArray,sizeLine_eq]; omega) (Nat.zero_le _)); obtain ⟨e1,ho1⟩:∃ e1,(s.heap.update a (Obj.mapSeq fun _=>(#[]:Array Value))).get? a = some (seqObj "list" #[] e1):=⟨_,get?_update_seq ho fun _=>#[]⟩
 have sb1:=Heap.SameBut.update s.heap a (Obj.mapSeq fun _=>(#[]:Array Value))
 generalize s.heap.update a (Obj.mapSeq fun _=>(#[]:Array Value)) = h1 at ho1 sb1 ⊢
 refine wpAny_bind (seqEpoch_at (s:={ s with heap:=h1 }) ho1 rfl ?_)
 refine wpAny_bind (wpAny_newTuple ?_ (by show vs.length <= _; rw [sizeLine_eq]; omega)); refine wpAny_bind (wpAny_newList ?_ (by show 0 <= _; exact Nat.zero_le _))
 refine wpAny_holding ?_
 dsimp only
 generalize hot:({ cls:=Value.type "tuple",data:=Data.seq vs.toArray.toList.toArray }:Obj) = oT
 generalize hol:({ cls:=Value.type "list",data:=Data.seq ([]:List Value).toArray }:Obj) = oL
 have k2:∀ b o,h1.get? b = some o -> ((h1.push oT).push oL).get? b = some o:=fun b o e=>Heap.get?_push_of_some _ (Heap.get?_push_of_some _ e)
 have ho2:=k2 _ _ ho1
 have ext:Heap.ExtBut a s.heap ((h1.push oT).push oL):=fun b o hb e=>k2 b o ((sb1.2 b hb).trans e)
 generalize (h1.push oT).push oL = h2 at k2 ho2 ext ⊢
 have hv2:∀ v ∈ vs,∃ b,v = Value.ref b /\ xo6 h2 b:=fun v hvv=>by
  obtain ⟨b,rfl,o,x,t,r,m,a1,a2,a3,a4⟩:=hv v hvv
  have ne:b ≠ a:=by
   rintro rfl
   rw [ho] at a1
   cases a1
   exact absurd (show Value.type "list" = Value.type "tuple" from a2) (by decide)
  exact ⟨b,rfl,o,x,t,r,m,ext b o ne a1,a2,a3,a4⟩
 have hsz:vs.toArray.size = vs.length:=(by simp); have fin:∀ (st:SortSt),failedOf st = none -> ((arrOf st).map (·.2)).toList.Perm vs -> wpAny (model prog w) A (do
   let ep <- seqEpoch a
   have touched:Bool:=ep != e1
   Builtin.List.listUpdate (Value.ref a) fun _=>(arrOf st).map (·.2)
   if touched = true then do
     rule "list.sort.modified"
     let r <- (raiseErrorWords "ValueError" "list modified during sort" : Sem Unit)
     ret Value.none
    else ret Value.none) P E { s with heap:=h2 }:=by
  intro st hf hp
  refine wpAny_bind (seqEpoch_at (s:={ s with heap:=h2 }) ho2 rfl ?_)
  refine wpAny_bind (listUpdate_at (s:={ s with heap:=h2 }) ho2 rfl ?_ (Nat.zero_le _) (by
   rw [<- Array.length_toList,hp.length_eq,sizeLine_eq]; omega))
  simp only [bne_self_eq_false,Bool.false_eq_true,if_false]; obtain ⟨e3,ho3⟩:∃ e3,(h2.update a (Obj.mapSeq fun _=>(arrOf st).map (·.2))).get? a = some (seqObj "list" ((arrOf st).map (·.2)) e3):=⟨_,get?_update_seq ho2 fun _=>(arrOf st).map (·.2)⟩
  have sb3:=Heap.SameBut.update h2 a (Obj.mapSeq fun _=>(arrOf st).map (·.2))
  exact wpAny_pure (h _ _ e3 (ext.trans sb3.extBut) ho3 hp)
 by_cases h2':vs.toArray.size < 2
 ·rw [if_pos h2']
  refine wpAny_bind (wpAny_pure ?_); rw [if_pos h2',StateT.run_pure]
  refine wpAny_bind (wpAny_pure ?_); dsimp only
  exact fin (SortSt.mk' general' (vs.toArray.zip vs.toArray) #[] 7 none) rfl (by
   show ((vs.toArray.zip vs.toArray).map (·.2)).toList.Perm vs
   have:((vs.toArray.zip vs.toArray).map (·.2)).toList = vs:=by
    rw [Array.toList_map,Array.toList_zip,List.map_snd_zip (by simp)]
   rw [this])
 ·rw [if_neg h2']
  obtain ⟨fs,t1,t2,t3⟩:=yw1 vs hv2
  refine wpAny_bind (kat_kind (s:={ s with heap:=h2 }) (T:=.type "str") t1 (by omega) (fun v hvv=>?_) (by decide) ?_)
  ·obtain ⟨x,t,rfl⟩:=t3 v hvv
   exact Looks.of_pure rfl
  rw [if_neg h2']
  have start:SortSt.mk' (tuples' (Value.type "str" != Value.type "tuple")) (vs.toArray.zip vs.toArray) #[] 7 none = kas_st (tuples' (Value.type "str" != Value.type "tuple")) (pairsOf vs) (List.range vs.length).toArray:=by
   unfold kas_st
   rw [show vs.length = (pairsOf vs).size from (pairsOf_size vs).symm,kas_range]
   rfl
  rw [start]
  refine wpAny_bind (wpAny_mono (kas_runs (Q:=fun _ st s'=>failedOf st = none /\ ((arrOf st).map (·.2)).toList.Perm vs /\ s' = { s with heap:=h2 }) (G:=fun p s'=>xl5 vs.length p /\ s' = { s with heap:=h2 }) (by omega) h64 (fun p st s' _ e1 e2 hg=>⟨e2,by rw [e1]; exact yt1 hg.1,hg.2⟩) ?_) ?_ (fun _ _ x=>x))
  ·refine zc2 (P:=xl5 vs.length) (n:=vs.length) (fun i j C hi hj hC=>?_) (fun p hp=>⟨hp,rfl⟩) _ (zc3 (by omega))
   rw [<- kas_ask_eq]
   unfold kas_ask
   rw [List.getD_eq_getElem?_getD,List.getD_eq_getElem?_getD,List.getElem?_eq_getElem hi,List.getElem?_eq_getElem hj]; obtain ⟨x,ex,hx⟩:=hv2 _ (List.getElem_mem hi)
   obtain ⟨y,ey,hy⟩:=hv2 _ (List.getElem_mem hj)
   show wpAny _ _ (keyLt' _ vs[i] vs[j]) _ _ _
   rw [ex,ey]
   exact cmp_any hx hy hC
  ·rintro ⟨⟨⟩,st⟩ s' ⟨hf,hp,rfl⟩
   dsimp only
   have:=fin st hf hp
   rw [hf]
   exact this
end
section
variable {prog:Program} {w:World} {K:Type} [DecidableEq K] {kn:PySem.KeyKind prog w K} {A:Around} {E:Value -> Shared -> Prop} {s:Shared}
theorem grow_tup {h h':Heap} {a:Addr} (k:∀ b o,h.get? b = some o -> h'.get? b = some o) (hs:xo6 h a):xo6 h' a:=by
 obtain ⟨o,x,t,r,n,a1,a2⟩:=hs
 exact ⟨o,x,t,r,n,k _ _ a1,a2⟩
theorem ys3 {S:Addr} {xs:List (List K × Addr)} {Q:Value -> Shared -> Prop} (hh:A.handled = none) (hS:xo0 kn s.heap S xs) (htt:∀ x ∈ xs,xo6 s.heap x.2) (h64:xs.length < 64)
  (h:∀ s' l out e,(∀ b ob,s.heap.get? b = some ob -> s'.heap.get? b = some ob) -> s'.gens = s.gens -> s'.os = s.os -> s.heap.objs.size <= l -> s'.heap.get? l = some (seqObj "list" out e) -> out.toList.Perm (xs.map fun x=>Value.ref x.2) -> Q (.ref l) s') :
  wpAny (model prog w) A (call (.builtin "sorted") [.ref S]) Q E s:=by
 refine Calls.call_function_entry kind_sorted plain_sorted entry_sorted (args_sorted1 _) ?_; unfold Builtin.«sorted»
 refine wpAny_bind (m:=checkCount "sorted" 1 1 _) (wpAny_pure ?_); refine wpAny_bind (yn8 (A:=A.in1) hh hS fun s1 vs k1 le1 g1 o1 hp=>?_)
 have hvl:vs.length = xs.length:=by rw [hp.length_eq,List.length_map]
 refine wpAny_bind (wpAny_newList ?_ (by rw [hvl,sizeLine_eq]; omega))
 have hoL:(s1.heap.push (seqObj "list" vs.toArray 0)).get? s1.heap.objs.size = some (seqObj "list" vs.toArray 0):=Heap.get?_push_size _ rfl
 have k2:∀ b ob,s.heap.get? b = some ob -> (s1.heap.push (seqObj "list" vs.toArray 0)).get? b = some ob:=fun b ob e=>Heap.get?_push_of_some _ (k1 b ob e)
 have hnone:s.heap.get? s1.heap.objs.size = none:=by
  cases e:s.heap.get? s1.heap.objs.size with
  | none=>rfl
  | some o=>have:=k1 _ _ e; rw [xq2] at this; cases this
 have hv:∀ v ∈ vs,∃ b,v = Value.ref b /\ xo6 (s1.heap.push (seqObj "list" vs.toArray 0)) b:=fun v hvv=>by
  obtain ⟨x,hx,rfl⟩:=List.mem_map.mp (hp.mem_iff.mp hvv)
  exact ⟨x.2,rfl,grow_tup k2 (htt x hx)⟩
 refine wpAny_bind (wpAny_holding (wpAny_call_entry slot_list_sort ⟨_,hoL,rfl⟩ entry_list_sort (yw5 (s:={ s1 with heap:=s1.heap.push (seqObj "list" vs.toArray 0) }) hoL hv (by omega) fun h' out e ext ho' hp'=>⟨_,rfl,?_⟩) (args_list_sort _)))
 refine wpAny_pure ⟨_,rfl,h _ _ out e (fun b ob eb=>?_) g1 o1 le1 ho' (hp'.trans hp)⟩
 have ne:b ≠ s1.heap.objs.size:=by rintro rfl; rw [hnone] at eb; cases eb
 exact ext b ob ne (k2 b ob eb)
end
structure Firsts {K:Type} (zs l:List (List K × Addr)):Prop where
 from_:∀ z ∈ zs,z ∈ l
 keys:∀ k,k ∈ zs.map (·.1) ↔ k ∈ l.map (·.1)
section
variable {prog:Program} {w:World} {K:Type} [DecidableEq K] {kn:PySem.KeyKind prog w K} {A:Around} {E:Value -> Shared -> Prop} {s:Shared} {R:Result -> Shared -> Prop}
theorem zc1 {S I p:Addr} {items:Array Value} {l:List (List K × Addr)} (hi:items.toList = l.map fun x=>Value.ref x.2) (hh:A.handled = none) (hu:A.units + 2 < cLine) (hIp:p ≠ I) (hSI:S ≠ I) (hSp:S ≠ p) (hb:∀ zs:List (List K × Addr),(∀ z ∈ zs,z ∈ l) -> (zs.map (·.1)).Nodup -> zs.length <= 36) :
  ∀ (k i:Nat) (s:Shared) (zs:List (List K × Addr)),l.length - i = k -> i <= l.length -> s.heap.IsListIter I p i /\ s.heap.IsList p items -> xo0 kn s.heap S zs -> Firsts zs (l.take i) -> zs.length <= i -> (∀ x ∈ l,IsTupleKey kn s.heap x.1 x.2 /\ ze3 s.heap x.2 /\ x.2 ≠ I /\ x.2 ≠ S) ->
   (∀ s' zs',(∀ b o,b ≠ S -> b ≠ I -> s.heap.get? b = some o -> s'.heap.get? b = some o) -> s'.gens = s.gens -> s'.os = s.os -> s'.drawn = s.drawn -> xo0 kn s'.heap S zs' -> Firsts zs' l -> R (.ok (.ret .none)) s') ->
   codeAny (model prog w) A (Code.builtin "set.update.loop" ⟨[.ref S,.ref I],[]⟩) R s:=by
 have W:WalksS prog w A.in1 I [I,p] [I] (fun a b=>b = a) items.size (fun i v=>items[i]? = some v) (fun i s=>s.heap.IsListIter I p i /\ s.heap.IsList p items):=(Walks.list (A:=A.in1) hh I p hIp items).toS
 have hn:items.size = l.length:=by rw [<- Array.length_toList,hi,List.length_map]
 intro k
 induction k with
 | zero =>
  intro i s zs hk hil hst hS hF hz hl hR
  have hin:i = l.length:=by omega
  subst hin
  refine codeAny_builtin PyProof.Rows.F.entry_set_update_loop ?_
  rw [Around.under_plainId PyProof.Rows.F.plain_set_update_loop _]
  show wpAny _ A.in1 (pyNext (.ref I) >>= _) _ _ s; refine wpAny_bind (W.done s _ _ (by rw [hn]; exact hst) fun s' hm=>?_)
  refine wpAny_pure (hR s' zs (fun b o _ hb e=>hm.heap b o (by simpa using hb) e) hm.gens hm.os hm.drawn ?_ (by rw [List.take_length] at hF; exact hF))
  obtain ⟨o,es,ep,t,h1,h2,h3,Sa,h5⟩:=hS
  have kp:∀ b o,b ≠ I -> s.heap.get? b = some o -> s'.heap.get? b = some o:=fun b o hb e=>hm.heap b o (by simpa using hb) e
  refine ⟨o,es,ep,t,kp _ _ hSI h1,h2,h3,⟨Sa.es,fun x hx=>?_,Sa.nd,Sa.tab,Sa.cap⟩,h5⟩
  obtain ⟨o',it,n',a1,a2⟩:=Sa.is x hx
  have hx':x ∈ l:=by have:=hF.from_ x hx; rwa [List.take_length] at this
  exact ⟨o',it,n',kp _ _ (hl x hx').2.2.1 a1,a2⟩
 | succ k ih =>
  intro i s zs hk hil hst hS hF hz hl hR
  have hlt:i < l.length:=(by omega); refine codeAny_builtin PyProof.Rows.F.entry_set_update_loop ?_
  rw [Around.under_plainId PyProof.Rows.F.plain_set_update_loop _]
  show wpAny _ A.in1 (pyNext (.ref I) >>= _) _ _ s; refine wpAny_bind (W.item i s _ _ (by omega) hst fun v s' hP hst' hm=>?_)
  have hv:v = Value.ref l[i].2:=by
   have:items.toList[i]? = some v:=by rw [Array.getElem?_toList]; exact hP
   rw [hi,List.getElem?_map,List.getElem?_eq_getElem hlt] at this; exact (Option.some.inj this).symm
  subst hv
  have kp:∀ b o,b ≠ I -> s.heap.get? b = some o -> s'.heap.get? b = some o:=fun b o hb e=>hm.heap b o (by simpa using hb) e
  have hl':∀ x ∈ l,IsTupleKey kn s'.heap x.1 x.2 /\ ze3 s'.heap x.2 /\ x.2 ≠ I /\ x.2 ≠ S:=fun x hx=>by
   obtain ⟨⟨o1,it1,n1,a1,a2⟩,⟨o2,it2,n2,b1,b2⟩,h3,h4⟩:=hl x hx
   exact ⟨⟨o1,it1,n1,kp _ _ h3 a1,a2⟩,⟨o2,it2,n2,kp _ _ h3 b1,b2⟩,h3,h4⟩
  have hS':xo0 kn s'.heap S zs:=by
   obtain ⟨o,es,ep,t,h1,h2,h3,Sa,h5⟩:=hS
   refine ⟨o,es,ep,t,kp _ _ hSI h1,h2,h3,⟨Sa.es,fun x hx=>?_,Sa.nd,Sa.tab,Sa.cap⟩,h5⟩
   obtain ⟨o',it,n',a1,a2⟩:=Sa.is x hx
   exact ⟨o',it,n',kp _ _ (hl x (List.mem_of_mem_take (hF.from_ x hx))).2.2.1 a1,a2⟩
  have hm1:=hl' l[i] (List.getElem_mem hlt)
  show wpAny _ A.in1 (holding [Value.ref l[i].2] (setAdd S (.ref l[i].2)) >>= _) _ _ s'
  refine wpAny_bind (wpAny_holding ?_); unfold setAdd
  refine wpAny_holding ?_
  have hu1:A.in1.units < cLine:=by rw [Around.in1_units]; omega
  refine wpAny_bind (wpAny_pyHash_tuple hu1 hm1.1 ?_)
  obtain ⟨_,_,_,_,_,_,_,Sn,_⟩:=id hS'
  refine set_add (s:={ s' with toks:=s'.toks + (l[i].1.length + 1) }) hu1 hS' hm1.1 hm1.2.1 (hb zs (fun z hz=>List.mem_of_mem_take (hF.from_ z hz)) Sn.nd) fun r h'' zs' sb hz' hin hnin=>?_
  refine wpAny_pure ⟨plainId_quiet PyProof.Rows.F.plain_set_update_loop _,ih (i + 1) _ zs' (by omega) hlt ?_ hz' ?_ ?_ ?_ ?_⟩
  ·exact W.frame (i + 1) s' h'' _ hst' (Nat.le_add_right _ _) fun b hb o e=>by
    have ne:b ≠ S:=by
     simp only [List.mem_cons,List.not_mem_nil,or_false] at hb; rcases hb with rfl | rfl
     ·exact Ne.symm hSI
     ·exact Ne.symm hSp
    exact (sb.2 b ne).trans e
  ·rw [List.take_succ,List.getElem?_eq_getElem hlt,Option.toList_some]
   by_cases c:l[i].1 ∈ zs.map (·.1)
   ·rw [hin c]
    refine ⟨fun z hzz=>List.mem_append_left _ (hF.from_ z hzz),fun k=>?_⟩
    rw [hF.keys k,List.map_append,List.mem_append,List.map_cons,List.map_nil,List.mem_singleton]
    constructor
    ·exact .inl
    ·rintro (q | q)
     ·exact q
     ·subst q; exact (hF.keys _).mp c
   ·have pz:=hnin c
    refine ⟨fun z hzz=>?_,fun k=>?_⟩
    ·rcases List.mem_cons.mp (pz.mem_iff.mp hzz) with q | q
     ·exact List.mem_append_right _ (by rw [q]; simp)
     ·exact List.mem_append_left _ (hF.from_ z q)
    ·rw [(pz.map (·.1)).mem_iff,List.map_cons,List.mem_cons,hF.keys k,List.map_append,List.mem_append,List.map_cons,List.map_nil,List.mem_singleton]
     constructor
     ·rintro (q | q)
      ·exact .inr q
      ·exact .inl q
     ·rintro (q | q)
      ·exact .inr q
      ·exact .inl q
  ·by_cases c:l[i].1 ∈ zs.map (·.1)
   ·rw [hin c]; omega
   ·rw [(hnin c).length_eq,List.length_cons]; omega
  ·intro x hx
   obtain ⟨⟨o1,it1,n1,a1,a2⟩,⟨o2,it2,n2,b1,b2⟩,h3,h4⟩:=hl' x hx
   exact ⟨⟨o1,it1,n1,(sb.2 _ h4).trans a1,a2⟩,⟨o2,it2,n2,(sb.2 _ h4).trans b1,b2⟩,h3,h4⟩
  ·intro s'' zs'' k2 g2 o2 d2 hz2 hf2
   exact hR s'' zs'' (fun b o hb hbI e=>k2 b o hb hbI ((sb.2 b hb).trans (kp b o hbI e))) (g2.trans hm.gens) (o2.trans hm.os) (d2.trans hm.drawn) hz2 hf2
theorem upd_list {p S:Addr} {items:Array Value} {l:List (List K × Addr)} {led:Bool} {Q:Unit -> Shared -> Prop} (hh:A.handled = none) (hu:A.units + 4 < cLine) (hled:led = !(w.params.followText "set-order")) (hS:s.heap.get? S = some (xf9 led)) (hp:s.heap.IsList p items) (hi:items.toList = l.map fun x=>Value.ref x.2) (hb:∀ zs:List (List K × Addr),(∀ z ∈ zs,z ∈ l) -> (zs.map (·.1)).Nodup -> zs.length <= 36)
  (htx:∀ x ∈ l,IsTupleKey kn s.heap x.1 x.2 /\ ze3 s.heap x.2) (h:∀ s' zs,(∀ b o,b ≠ S -> s.heap.get? b = some o -> s'.heap.get? b = some o) -> s'.gens = s.gens -> s'.os = s.os -> s'.drawn = s.drawn -> xo0 kn s'.heap S zs -> Firsts zs l -> Q () s') :
  wpAny (model prog w) A (Builtin.Frozenset.updateFrom "set.__init__" S (.ref p)) Q E s:=by
 have hT:=hp.typeIs
 have hp0:=hp
 obtain ⟨op,hop,hcp,np,hdp⟩:=hp
 have hlt:=Heap.lt_size hop
 have hSlt:=Heap.lt_size hS
 unfold Builtin.Frozenset.updateFrom Builtin.Frozenset.isAnySet
 have q1:=PySem.F.sub_list_set
 have q2:=PySem.F.sub_list_frozenset
 have q3:(Value.type "list" == Value.type "dict") = false:=by decide
 generalize hPI:pyIter = PI
 wp_walk
 subst hPI
 refine wpAny_pyIter_list hp0 ?_
 refine wpAny_bind (wpAny_runValue ?_); generalize hoi:({ cls:=Value.type "list_iterator",data:=Data.fields #[Value.ref p,Value.int 0 0] }:Obj) = oI
 have k1:∀ b o,s.heap.get? b = some o -> (s.heap.push oI).get? b = some o:=fun b o e=>Heap.get?_push_of_some _ e
 have ne:∀ b o,s.heap.get? b = some o -> b ≠ s.heap.objs.size:=fun b o e=>Nat.ne_of_lt (Heap.lt_size e)
 have hSp:S ≠ p:=by
  rintro rfl
  rw [hS] at hop
  cases hop
  cases hdp
 have neS:∀ x ∈ l,x.2 ≠ S:=fun x hx z=>by
  obtain ⟨⟨o1,it1,n1,a1,a2,a3,a4⟩,_⟩:=htx x hx
  rw [z,hS] at a1
  cases a1
  cases a3
 refine zc1 (kn:=kn) (I:=s.heap.objs.size) (p:=p) (items:=items) hi hh (by omega) (Nat.ne_of_lt hlt) (Nat.ne_of_lt hSlt) hSp hb l.length 0 { s with heap:=s.heap.push oI } [] (by omega) (Nat.zero_le _) ⟨⟨oI,Heap.get?_push_size _ (by rw [<- hoi]; rfl),by rw [<- hoi],by rw [<- hoi]; rfl⟩,⟨op,k1 _ _ hop,hcp,np,hdp⟩⟩ (zb7 hled (k1 _ _ hS)) ⟨fun z hz=>by simp at hz,fun k=>by simp⟩ (Nat.zero_le _) (fun x hx=>?_) fun s' zs' kp g o d hz hf=>?_
 ·obtain ⟨⟨o1,it1,n1,a1,a2⟩,⟨o2,it2,n2,b1,b2⟩⟩:=htx x hx
  exact ⟨⟨o1,it1,n1,k1 _ _ a1,a2⟩,⟨o2,it2,n2,k1 _ _ b1,b2⟩,ne _ _ a1,neS x hx⟩
 ·refine wpAny_pure ?_
  exact h s' zs' (fun b ob hb e=>kp b ob hb (ne _ _ e) (k1 _ _ e)) g o d hz hf
end
end LS
namespace L2
open PySem PySem.Spec PyProof.Rows LS
def setO (P:Program) (w:World) (a:Addr) (zs:List (List Key × Addr)):HO:=.ext fun h=>∃ o es ep t,h.get? a = some o /\ o.ExactSet /\ o.data = .set es ep t /\ es.toList = (zs.map fun x=>(tupleKeyHash (xc2 P w) x.1,Value.ref x.2)) /\ (zs.map (·.1)).Nodup /\
 Tab t (zs.map fun x=>tupleKeyHash (xc2 P w) x.1) /\ zs.length * 5 < t.mask * 3 /\ Flags w zs.length t
def xn1 (H:Hp) (zs:List (List Key × Addr)):Prop:=∀ z ∈ zs,H z.2 = some (.tup (z.1.map kV))
def yl1 (k:List Key):Prop:=k ≠ [] /\ ∀ x ∈ k,∃ y:Str,x = Sum.inr y
section
variable {X:Cx} {pins:List (Addr × Obj)} {σ:St} {H:Hp} {s:Shared}
theorem Inv.redrawn (I:Inv X pins σ H s) (d:Drawn):Inv X pins σ H { s with drawn:=d }:=⟨I.ok,I.os,I.bare,I.base,I.loc,I.cell,I.free,I.freeC,I.pin,I.hok,I.len⟩
theorem setO_ok {P:Program} {w:World} {H':Hp} {h:Heap} {a:Addr} {zs:List (List Key × Addr)} (x:xo0 (xc2 P w) h a zs):xe1 P w H' h a (setO P w a zs):=by
 obtain ⟨o,es,ep,t,h1,h2,h3,S,h5⟩:=x
 refine ⟨⟨o,es,ep,t,h1,h2,h3,S.es,S.nd,S.tab,S.cap,h5⟩,⟨o,h1⟩,fun g1 g2 ⟨o',es',ep',t',q1,q⟩ k=>⟨o',es',ep',t',k _ q1,q⟩⟩
theorem setO_is {P:Program} {w:World} {h:Heap} {a:Addr} {zs:List (List Key × Addr)} (ok:HOk P w H h) (e:H a = some (setO P w a zs)) (hk:xn1 H zs):xo0 (xc2 P w) h a zs:=by
 obtain ⟨o,es,ep,t,h1,h2,h3,h4,h5,h6,h7,h8⟩:=(ok _ _ e).1
 exact ⟨o,es,ep,t,h1,h2,h3,⟨h4,fun x hx=>xs9 ok (hk x hx),h5,h6,h7⟩,h8⟩
theorem yo8:∀ {k:List Key} {us:List Value},Vals (k.map kV) us -> (∀ x ∈ k,∃ y:Str,x = Sum.inr y) -> ∀ u ∈ us,∃ y t,u = Value.str y t
 | [],_,r,_=>by rw [List.map_nil] at r; cases r; intro u hu; simp at hu
 | x :: k,_,r,h=>by
  rw [List.map_cons] at r
  cases r with
  | cons h1 t1 =>
   intro u hu
   rcases List.mem_cons.mp hu with rfl | hu
   ·obtain ⟨y,rfl⟩:=h x (by simp)
    obtain ⟨t,e⟩:=(show ∃ t,u = Value.str y t from h1)
    exact ⟨y,t,e⟩
   ·exact yo8 t1 (fun z hz=>h z (by simp [hz])) u hu
theorem yg3 {P:Program} {w:World} {h:Heap} {b:Addr} {k:List Key} (ok:HOk P w H h) (e:H b = some (.tup (k.map kV))) (hk:yl1 k):xo6 h b /\ ze3 h b:=by
 obtain ⟨_,its,r,o,h1,h2,n,h3⟩:=(show xe1 P w H h b (.tup (k.map kV)) from ok b _ e)
 have tx:=yo8 r hk.2
 obtain ⟨u,us,rfl⟩:∃ u us,its = u :: us:=by
  cases its with
  | nil=>have:=r.length; simp at this; exact absurd this hk.1
  | cons u us=>exact ⟨u,us,rfl⟩
 obtain ⟨y,t,rfl⟩:=tx u (by simp)
 refine ⟨⟨o,y,t,us,n,h1,h2,h3,fun v hv=>tx v (by simp [hv])⟩,⟨o,_,n,h1,h2,h3,fun v hv=>?_,?_⟩⟩
 ·obtain ⟨y',t',rfl⟩:=tx v (by simpa using hv)
  rfl
 ·simp [plainKind]
def rSortS (P:Program) (w:World):List V -> Hp -> VK -> Prop:=fun xs H Q=>∃ a zs,xs = [V.ref a] /\ H a = some (setO P w a zs) /\ xn1 H zs /\ (∀ z ∈ zs,yl1 z.1) /\ zs.length < 64 /\ ∀ (p:Addr) (bs:List Addr),H p = none -> bs.Perm (zs.map (·.2)) -> Q (.ref p) (upd H p (.lst (bs.map V.ref)))
theorem refs_of:∀ {vs:List Value} {bs:List Addr},vs.Perm (bs.map Value.ref) -> ∃ cs:List Addr,vs = cs.map Value.ref /\ cs.Perm bs:=fun h=>xn6 h
theorem yg0:∀ cs:List Addr,Vals (cs.map V.ref) (cs.map Value.ref)
 | []=>.nil
 | c :: cs=>.cons rfl (yg0 cs)
theorem yv1 (hc:X.calm = true):xl4 X (.builtin "sorted") (rSortS X.prog X.w):=by
 intro pins s σ H xs us Q I r h
 obtain ⟨a,zs,rfl,ha,ka,ta,hn,q⟩:=h
 obtain ⟨u,rfl,rx⟩:=xt1 r
 cases rx
 refine ys3 (I.ok.hd hc) (setO_is I.hok ha ka) (fun x hx=>(yg3 I.hok (ka x hx) (ta x hx)).1) hn fun s' l out e keep hg hos hl hol hp=>?_
 rw [show (zs.map fun x=>Value.ref x.2) = (zs.map (·.2)).map Value.ref by rw [List.map_map]; rfl] at hp
 obtain ⟨bs,eb,pb⟩:=refs_of hp
 have hlen:bs.length = zs.length:=by rw [pb.length_eq,List.length_map]
 have I1:Inv X pins σ (upd H l (.lst (bs.map V.ref))) { s with heap:=s'.heap,toks:=s'.toks }:=I.laid (t':=s'.toks) keep hl ⟨xg2 (by rw [List.length_map,hlen]; omega),bs.map Value.ref,e,yg0 bs,by
  rw [hol]
  have:out = (bs.map Value.ref).toArray:=by rw [<- eb]
  rw [this]⟩
 have es:s' = { ({ s with heap:=s'.heap,toks:=s'.toks }:Shared) with drawn:=s'.drawn }:=by
  cases s'
  simp only at hg hos ⊢
  rw [hg,hos]
 refine ⟨.ref l,_,?_,rfl,q l bs (I.hok.fresh hl) pb⟩
 rw [es]
 exact I1.redrawn _
end
theorem boot_set:bootBuiltins "set" = Option.some (Value.type "set"):=by decide +kernel
end L2
namespace LS
open PySem
section
variable {w:World} {prog:Program} {A:Around} {E:Value -> Shared -> Prop} {s:Shared}
def RawD (h:Heap) (d:Addr) (es:Array DictEntry) (ep:Nat):Prop:=∃ o,h.get? d = some o /\ o.ExactDict /\ o.data = .dict es ep
theorem RawD.typeIs {d:Addr} {es:Array DictEntry} {ep:Nat} (x:RawD s.heap d es ep):s.TypeIs (.ref d) "dict":=let ⟨o,a,b,_⟩:=x; ⟨o,a,b.1⟩
theorem RawD.keep {h h':Heap} {d:Addr} {es:Array DictEntry} {ep:Nat} (x:RawD h d es ep) (k:∀ o,h.get? d = some o -> h'.get? d = some o):RawD h' d es ep:=let ⟨o,a,b⟩:=x; ⟨o,k o a,b⟩
theorem yq4 {d:Addr} {es:Array DictEntry} {ep:Nat} {Q:Value -> Shared -> Prop} (hd:(d == sysModules) = false) (hm:RawD s.heap d es ep)
  (hQ:Q (.ref s.heap.objs.size) { s with heap:=s.heap.push { cls:=.type "dict_keyiterator",data:=.fields #[.ref d,.int 0 0,.int es.size 0,.int ep 0] } }):wpAny (model prog w) A (pyIter (.ref d)) Q E s:=by
 have hT:=hm.typeIs
 obtain ⟨o,ho,hc,hdat⟩:=hm
 refine wpAny_pyIter_slot hT F.slot_dict_iter (wpAny_call_entry F.slot_dict_iter hT F.entry_dict_iter ?_ (F.args_dict_iter_1 _)); unfold Builtin.«dict.__iter__» Builtin.Dict.dictSlotNone
 refine wpAny_bind (wpAny_bind (wpAny_notOrdered_dict hT ?_))
 show wpAny _ _ (pure (Value.ref d)) _ _ s; refine wpAny_pure ?_
 show wpAny _ _ (Builtin.Dict.showsAll d >>= _) _ _ s; unfold Builtin.Dict.showsAll
 rw [hd,if_neg Bool.false_ne_true]
 refine wpAny_bind (wpAny_pure (wpAny_bind (wpAny_dictEntries ho hdat (wpAny_bind (wpAny_dictEpoch ho hdat ?_)))))
 exact wpAny_bind (wpAny_newObj_type (wpAny_pure ⟨_,rfl,"dict_keyiterator",_,⟨_,Heap.get?_push_size _ rfl,rfl⟩,F.slot_dict_keyiterator_next.lookup,hQ⟩))
theorem yp9 {it d:Addr} {i ep:Nat} {es:Array DictEntry} {e:DictEntry} {Q:Option Value -> Shared -> Prop} (hit:s.heap.IsKeyIter it d i es.size ep) (hm:RawD s.heap d es ep) (hx:es[i]? = some e)
  (hQ:∀ h',h'.IsKeyIter it d (i + 1) es.size ep -> Heap.SameBut it s.heap h' -> Q (some e.key) { s with heap:=h' }):wpAny (model prog w) A (pyNext (.ref it)) Q E s:=by
 have hT:=hit.typeIs
 obtain ⟨o,ho,hc,hd⟩:=id hit; obtain ⟨od,hod,hcd,hdd⟩:=hm
 unfold pyNext
 refine wpAny_bind (wpAny_attempt (wpAny_callSpecial?_slot (name:=Str.ofString "__next__") hT F.slot_dict_keyiterator_next (wpAny_call_entry F.slot_dict_keyiterator_next hT F.entry_dict_keyiterator_next ?_ (F.args_dict_keyiterator_next_1 _))))
 refine wpAny_bind (wpAny_pure (wpAny_bind (wpAny_bind (wpAny_bind (wpAny_typeNameOfWhole_keyiter hT (wpAny_pure (wpAny_bind (wpAny_fieldsOf ho hd ?_))))))))
 simp only [show Builtin.Dict_items.ownsTuple "dict_keyiterator" = false from by decide,Bool.false_eq_true,if_false]
 show wpAny _ _ (if (Value.ref d == Value.none) = true then _ else _) _ _ s; rw [show (Value.ref d == Value.none) = false from rfl,if_neg Bool.false_ne_true]
 refine wpAny_bind (wpAny_pure (wpAny_bind (wpAny_dictEntries hod hdd ?_)))
 rw [if_neg (by simp)]
 refine wpAny_bind (wpAny_pure (wpAny_bind (wpAny_dictEpoch hod hdd ?_)))
 rw [if_neg (by simp)]
 have hlt:i < es.size:=(Array.getElem?_eq_some_iff.mp hx).1
 have he:es[i] = e:=(Array.getElem?_eq_some_iff.mp hx).2
 refine wpAny_pure ?_
 simp only [show ¬ ((i:Int) < 0) from by omega,if_false,Int.toNat_natCast,hx]
 refine wpAny_bind (wpAny_bind (wpAny_typeNameOfWhole_keyiter hT (wpAny_pure (wpAny_bind (wpAny_isOneOf_keyiter hT ?_)))))
 show wpAny _ _ (setField (.ref it) 1 (rawInt ((i:Int) + 1)) >>= _) _ _ s; refine wpAny_bind (wpAny_setField ho hd (by simp) ?_)
 generalize hh:s.heap.update it (Obj.mapFields (·.setIfInBounds 1 (rawInt ((i:Int) + 1)))) = h1
 have hit':h1.IsKeyIter it d (i + 1) es.size ep:=⟨_,by rw [<- hh]; exact Heap.get?_update_self _ ho (Obj.isFreed_of_fields (Obj.data_mapFields hd _)),(Obj.cls_mapFields ..).trans hc,by rw [Obj.data_mapFields hd]; simp [rawInt]⟩
 have sb:Heap.SameBut it s.heap h1:=by rw [<- hh]; exact Heap.SameBut.update ..
 have hT1:Shared.TypeIs { s with heap:=h1 } (.ref it) "dict_keyiterator":=hit'.typeIs
 refine wpAny_bind (wpAny_holding (wpAny_bind (wpAny_isOneOf_keyiter hT1 ?_)))
 show wpAny _ _ (pure e.key) _ _ _; exact wpAny_pure (wpAny_pure ⟨_,rfl,wpAny_pure (hQ h1 hit' sb)⟩)
theorem zc5 {it d:Addr} {i ep:Nat} {es:Array DictEntry} {Q:Option Value -> Shared -> Prop} (hh:A.handled = none) (hit:s.heap.IsKeyIter it d i es.size ep) (hm:RawD s.heap d es ep) (hx:es.size <= i) (hQ:∀ h',Heap.ExtBut it s.heap h' -> Q none { s with heap:=h' }):wpAny (model prog w) A (pyNext (.ref it)) Q E s:=by
 have hT:=hit.typeIs
 obtain ⟨o,ho,hc,hd⟩:=id hit; obtain ⟨od,hod,hcd,hdd⟩:=hm
 unfold pyNext
 refine wpAny_bind (wpAny_attempt (wpAny_callSpecial?_slot (name:=Str.ofString "__next__") hT F.slot_dict_keyiterator_next (wpAny_call_entry F.slot_dict_keyiterator_next hT F.entry_dict_keyiterator_next ?_ (F.args_dict_keyiterator_next_1 _))))
 refine wpAny_bind (wpAny_pure (wpAny_bind (wpAny_bind (wpAny_bind (wpAny_typeNameOfWhole_keyiter hT (wpAny_pure (wpAny_bind (wpAny_fieldsOf ho hd ?_))))))))
 simp only [show Builtin.Dict_items.ownsTuple "dict_keyiterator" = false from by decide,Bool.false_eq_true,if_false]
 show wpAny _ _ (if (Value.ref d == Value.none) = true then _ else _) _ _ s; rw [show (Value.ref d == Value.none) = false from rfl,if_neg Bool.false_ne_true]
 refine wpAny_bind (wpAny_pure (wpAny_bind (wpAny_dictEntries hod hdd ?_)))
 rw [if_neg (by simp)]
 refine wpAny_bind (wpAny_pure (wpAny_bind (wpAny_dictEpoch hod hdd ?_)))
 rw [if_neg (by simp)]
 refine wpAny_pure ?_
 simp only [show ¬ ((i:Int) < 0) from by omega,if_false,Int.toNat_natCast,Array.getElem?_eq_none hx]
 refine wpAny_bind (wpAny_bind (wpAny_typeNameOfWhole_keyiter hT (wpAny_pure ?_)))
 show wpAny _ _ (setField (.ref it) 0 .none >>= _) _ _ s; refine wpAny_bind (wpAny_setField ho hd (by simp) ?_)
 show wpAny _ _ (newExc (.type "StopIteration") [] >>= _) _ _ _; refine wpAny_bind ?_
 simp only [newExc,newTuple]; refine wpAny_bind (wpAny_newObj_type ?_ (by size_fits))
 refine wpAny_bind (m:=firstArgMember _ _) (wpAny_of_eq (a:=Value.none) (by first | rfl | (simp only [firstArgMember]; rfl)) (wpAny_newObj_type ?_ (by size_fits)))
 simp only [raiseNew]; refine wpAny_bind (wpAny_handled ?_); rw [show A.in1.handled = none from hh]
 refine wpAny_bind (wpAny_pure (wpAny_throw ?_)); refine wpAny_bind (wpAny_isInstance (b:=true) (T:="StopIteration") ⟨_,Heap.get?_push_size _ rfl,rfl⟩ isSubtype_stop (wpAny_pure ?_))
 exact hQ _ (((Heap.SameBut.update ..).extBut.push _).push _)
theorem next_val {it d:Addr} {i ep:Nat} {es:Array DictEntry} {e:DictEntry} {Q:Option Value -> Shared -> Prop} (hit:s.heap.IsValIter it d i es.size ep) (hm:RawD s.heap d es ep) (hx:es[i]? = some e)
  (hQ:∀ h',h'.IsValIter it d (i + 1) es.size ep -> Heap.SameBut it s.heap h' -> Q (some e.val) { s with heap:=h' }):wpAny (model prog w) A (pyNext (.ref it)) Q E s:=by
 have hT:=hit.typeIs
 obtain ⟨o,ho,hc,hd⟩:=id hit; obtain ⟨od,hod,hcd,hdd⟩:=hm
 unfold pyNext
 refine wpAny_bind (wpAny_attempt (wpAny_callSpecial?_slot (name:=Str.ofString "__next__") hT F.slot_dict_valueiterator_next (wpAny_call_entry F.slot_dict_valueiterator_next hT F.entry_dict_valueiterator_next ?_ (F.args_dict_valueiterator_next_1 _))))
 refine wpAny_bind (wpAny_pure (wpAny_bind (wpAny_bind (wpAny_bind (wpAny_typeNameOfWhole_valiter hT (wpAny_pure (wpAny_bind (wpAny_fieldsOf ho hd ?_))))))))
 simp only [show Builtin.Dict_items.ownsTuple "dict_valueiterator" = false from by decide,Bool.false_eq_true,if_false]
 show wpAny _ _ (if (Value.ref d == Value.none) = true then _ else _) _ _ s; rw [show (Value.ref d == Value.none) = false from rfl,if_neg Bool.false_ne_true]
 refine wpAny_bind (wpAny_pure (wpAny_bind (wpAny_dictEntries hod hdd ?_)))
 rw [if_neg (by simp)]
 refine wpAny_bind (wpAny_pure (wpAny_bind (wpAny_dictEpoch hod hdd ?_)))
 rw [if_neg (by simp)]
 have hlt:i < es.size:=(Array.getElem?_eq_some_iff.mp hx).1
 have he:es[i] = e:=(Array.getElem?_eq_some_iff.mp hx).2
 refine wpAny_pure ?_
 simp only [show ¬ ((i:Int) < 0) from by omega,if_false,Int.toNat_natCast,hx]
 refine wpAny_bind (wpAny_bind (wpAny_typeNameOfWhole_valiter hT (wpAny_pure (wpAny_bind (wpAny_isOneOf_valiter hT ?_)))))
 show wpAny _ _ (setField (.ref it) 1 (rawInt ((i:Int) + 1)) >>= _) _ _ s; refine wpAny_bind (wpAny_setField ho hd (by simp) ?_)
 generalize hh:s.heap.update it (Obj.mapFields (·.setIfInBounds 1 (rawInt ((i:Int) + 1)))) = h1
 have hit':h1.IsValIter it d (i + 1) es.size ep:=⟨_,by rw [<- hh]; exact Heap.get?_update_self _ ho (Obj.isFreed_of_fields (Obj.data_mapFields hd _)),(Obj.cls_mapFields ..).trans hc,by rw [Obj.data_mapFields hd]; simp [rawInt]⟩
 have sb:Heap.SameBut it s.heap h1:=by rw [<- hh]; exact Heap.SameBut.update ..
 have hT1:Shared.TypeIs { s with heap:=h1 } (.ref it) "dict_valueiterator":=hit'.typeIs
 refine wpAny_bind (wpAny_holding (wpAny_bind (wpAny_isOneOf_valiter hT1 (wpAny_bind (wpAny_isOneOf_valiter hT1 ?_)))))
 show wpAny _ _ (pure e.val) _ _ _; exact wpAny_pure (wpAny_pure ⟨_,rfl,wpAny_pure (hQ h1 hit' sb)⟩)
theorem end_val {it d:Addr} {i ep:Nat} {es:Array DictEntry} {Q:Option Value -> Shared -> Prop} (hh:A.handled = none) (hit:s.heap.IsValIter it d i es.size ep) (hm:RawD s.heap d es ep) (hx:es.size <= i) (hQ:∀ h',Heap.ExtBut it s.heap h' -> Q none { s with heap:=h' }):wpAny (model prog w) A (pyNext (.ref it)) Q E s:=by
 have hT:=hit.typeIs
 obtain ⟨o,ho,hc,hd⟩:=id hit; obtain ⟨od,hod,hcd,hdd⟩:=hm
 unfold pyNext
 refine wpAny_bind (wpAny_attempt (wpAny_callSpecial?_slot (name:=Str.ofString "__next__") hT F.slot_dict_valueiterator_next (wpAny_call_entry F.slot_dict_valueiterator_next hT F.entry_dict_valueiterator_next ?_ (F.args_dict_valueiterator_next_1 _))))
 refine wpAny_bind (wpAny_pure (wpAny_bind (wpAny_bind (wpAny_bind (wpAny_typeNameOfWhole_valiter hT (wpAny_pure (wpAny_bind (wpAny_fieldsOf ho hd ?_))))))))
 simp only [show Builtin.Dict_items.ownsTuple "dict_valueiterator" = false from by decide,Bool.false_eq_true,if_false]
 show wpAny _ _ (if (Value.ref d == Value.none) = true then _ else _) _ _ s; rw [show (Value.ref d == Value.none) = false from rfl,if_neg Bool.false_ne_true]
 refine wpAny_bind (wpAny_pure (wpAny_bind (wpAny_dictEntries hod hdd ?_)))
 rw [if_neg (by simp)]
 refine wpAny_bind (wpAny_pure (wpAny_bind (wpAny_dictEpoch hod hdd ?_)))
 rw [if_neg (by simp)]
 refine wpAny_pure ?_
 simp only [show ¬ ((i:Int) < 0) from by omega,if_false,Int.toNat_natCast,Array.getElem?_eq_none hx]
 refine wpAny_bind (wpAny_bind (wpAny_typeNameOfWhole_valiter hT (wpAny_pure ?_)))
 show wpAny _ _ (setField (.ref it) 0 .none >>= _) _ _ s; refine wpAny_bind (wpAny_setField ho hd (by simp) ?_)
 show wpAny _ _ (newExc (.type "StopIteration") [] >>= _) _ _ _; refine wpAny_bind ?_
 simp only [newExc,newTuple]; refine wpAny_bind (wpAny_newObj_type ?_ (by size_fits))
 refine wpAny_bind (m:=firstArgMember _ _) (wpAny_of_eq (a:=Value.none) (by first | rfl | (simp only [firstArgMember]; rfl)) (wpAny_newObj_type ?_ (by size_fits)))
 simp only [raiseNew]; refine wpAny_bind (wpAny_handled ?_); rw [show A.in1.handled = none from hh]
 refine wpAny_bind (wpAny_pure (wpAny_throw ?_)); refine wpAny_bind (wpAny_isInstance (b:=true) (T:="StopIteration") ⟨_,Heap.get?_push_size _ rfl,rfl⟩ isSubtype_stop (wpAny_pure ?_))
 exact hQ _ (((Heap.SameBut.update ..).extBut.push _).push _)
theorem vals_raw {d:Addr} {es:Array DictEntry} {ep:Nat} {Q:Value -> Shared -> Prop} (hd:(d == sysModules) = false) (hm:RawD s.heap d es ep)
  (h:Q (.ref s.heap.objs.size) { s with heap:=s.heap.push { cls:=.type "dict_values",data:=.fields #[.ref d] } }):wpAny (model prog w) A (call (.builtin "dict.values") [.ref d]) Q E s:=by
 have hT:=hm.typeIs
 refine wpAny_call_entry F.slot_dict_values hT F.entry_dict_values ?_ (F.args_dict_values_1 _)
 refine wpAny_bind ?_; unfold Builtin.Dict.noArgs; refine wpAny_bind (wpAny_notOrdered_dict hT ?_); show wpAny _ _ (pure d) _ _ s
 refine wpAny_pure ?_
 show wpAny _ _ (Builtin.Dict.showsAll d >>= _) _ _ s; unfold Builtin.Dict.showsAll
 rw [hd,if_neg Bool.false_ne_true]
 exact wpAny_bind (wpAny_pure (wpAny_bind (wpAny_newObj_type (wpAny_pure ⟨_,rfl,h⟩))))
theorem za7 {d:Addr} {es:Array DictEntry} {ep:Nat} {Q:Value -> Shared -> Prop} (hd:(d == sysModules) = false) (hm:RawD s.heap d es ep)
  (h:Q (.ref s.heap.objs.size) { s with heap:=s.heap.push { cls:=.type "dict_items",data:=.fields #[.ref d] } }):wpAny (model prog w) A (call (.builtin "dict.items") [.ref d]) Q E s:=by
 have hT:=hm.typeIs
 refine wpAny_call_entry F.slot_dict_items hT F.entry_dict_items ?_ (F.args_dict_items_1 _)
 unfold Builtin.«dict.items» Builtin.Dict.noArgs
 refine wpAny_bind (wpAny_bind (wpAny_notOrdered_dict hT ?_)); show wpAny _ _ (pure d) _ _ s
 refine wpAny_pure ?_
 show wpAny _ _ (Builtin.Dict.showsAll d >>= _) _ _ s; unfold Builtin.Dict.showsAll
 rw [hd,if_neg Bool.false_ne_true]
 exact wpAny_bind (wpAny_pure (wpAny_bind (wpAny_newObj_type (wpAny_pure ⟨_,rfl,h⟩))))
theorem yu3 {v d:Addr} {es:Array DictEntry} {ep:Nat} {Q:Value -> Shared -> Prop} (hv:s.heap.IsItemsView v d) (hm:RawD s.heap d es ep)
  (hQ:Q (.ref s.heap.objs.size) { s with heap:=s.heap.push { cls:=.type "dict_itemiterator",data:=.fields #[.none,.bool false,.ref d,.int 0 0,.int es.size 0,.int ep 0,.none,.none] } }):wpAny (model prog w) A (pyIter (.ref v)) Q E s:=by
 have hT:=hv.typeIs
 obtain ⟨ov,hov,hcv,hdv⟩:=hv
 obtain ⟨o,ho,hc,hdat⟩:=hm
 refine wpAny_pyIter_slot hT F.slot_dict_items_iter (wpAny_call_entry F.slot_dict_items_iter hT F.entry_dict_items_iter ?_ (F.args_dict_items_iter_1 _))
 unfold Builtin.«dict_items.__iter__» Builtin.Dict_items.dictOf
 refine wpAny_bind (wpAny_pure (wpAny_bind (wpAny_bind (wpAny_field hov hdv (x:=.ref d) rfl (wpAny_pure (wpAny_bind ?_))))))
 unfold Builtin.Dict_items.newIterator; refine wpAny_bind (wpAny_dictEntries ho hdat (wpAny_bind (wpAny_dictEpoch ho hdat ?_)))
 simp only [show Builtin.Dict_items.ownsTuple "dict_itemiterator" = true from by decide,if_true]
 refine wpAny_newObj_type (wpAny_pure ⟨_,rfl,"dict_itemiterator",_,⟨_,Heap.get?_push_size _ rfl,rfl⟩,F.slot_dict_itemiterator_next.lookup,?_⟩) (by simp only [sizeOk,Builtin.Dict_items.ownedTupleFields,List.size_toArray,List.length_append,List.length_cons,List.length_nil,sizeLine_eq]; omega)
 exact hQ
theorem yt7 {it d:Addr} {i ep:Nat} {es:Array DictEntry} {e:DictEntry} {ok ov:Value} {Q:Option Value -> Shared -> Prop} (hit:IsItemIter s.heap it d i es.size ep ok ov) (hm:RawD s.heap d es ep) (hx:es[i]? = some e)
  (hQ:∀ h',IsItemIterOut h' it d (i + 1) es.size ep e.key e.val s.heap.objs.size -> h'.get? s.heap.objs.size = some { cls:=.type "tuple",data:=.seq #[e.key,e.val] } -> h'.objs.size = s.heap.objs.size + 1 -> (∀ b o,b ≠ it -> s.heap.get? b = some o -> h'.get? b = some o) -> Q (some (.ref s.heap.objs.size)) { s with heap:=h' }):wpAny (model prog w) A (pyNext (.ref it)) Q E s:=by
 have hT:s.TypeIs (.ref it) "dict_itemiterator":=⟨_,hit,rfl⟩; obtain ⟨od,hod,hcd,hdd⟩:=hm
 unfold pyNext
 refine wpAny_bind (wpAny_attempt (wpAny_callSpecial?_slot (name:=Str.ofString "__next__") hT F.slot_dict_itemiterator_next (wpAny_call_entry F.slot_dict_itemiterator_next hT F.entry_dict_itemiterator_next ?_ (F.args_dict_itemiterator_next_1 _))))
 refine wpAny_bind (wpAny_pure (wpAny_bind (wpAny_bind (wpAny_bind (wpAny_typeNameOfWhole_itemiter hT (wpAny_pure (wpAny_bind (wpAny_fieldsOf hit rfl ?_))))))))
 simp only [show Builtin.Dict_items.ownsTuple "dict_itemiterator" = true from by decide,if_true]
 show wpAny _ _ (if (Value.ref d == Value.none) = true then _ else _) _ _ s; rw [show (Value.ref d == Value.none) = false from rfl,if_neg Bool.false_ne_true]
 refine wpAny_bind (wpAny_pure (wpAny_bind (wpAny_dictEntries hod hdd ?_)))
 rw [if_neg (by simp)]
 refine wpAny_bind (wpAny_pure (wpAny_bind (wpAny_dictEpoch hod hdd ?_)))
 rw [if_neg (by simp)]
 refine wpAny_pure ?_
 simp only [show ¬ ((i:Int) < 0) from by omega,if_false,Int.toNat_natCast,hx]
 refine wpAny_bind (wpAny_bind (wpAny_typeNameOfWhole_itemiter hT (wpAny_pure (wpAny_bind (wpAny_isOneOf_itemiter hT ?_)))))
 show wpAny _ _ (setField (.ref it) 3 (rawInt ((i:Int) + 1)) >>= _) _ _ s
 refine wpAny_bind (wpAny_setField_rec hit (by simp) fun h1 q1 sb1=>?_)
 have e1:IsItemIter h1 it d (i + 1) es.size ep ok ov:=by
  show h1.get? it = _
  rw [show ((i + 1:Nat):Int) = (i:Int) + 1 from by omega]; simpa [rawInt] using q1
 have sb1:Heap.SameBut it s.heap h1:=sb1
 have hT1:Shared.TypeIs { s with heap:=h1 } (.ref it) "dict_itemiterator":=⟨_,e1,rfl⟩
 refine wpAny_bind (wpAny_holding (wpAny_bind (wpAny_isOneOf_itemiter hT1 (wpAny_bind (wpAny_isOneOf_itemiter hT1 ?_)))))
 show wpAny _ _ (Builtin.Dict_items.pairFromOwner (.ref it) 6 e.key e.val) _ _ { s with heap:=h1 }
 unfold Builtin.Dict_items.pairFromOwner Builtin.Dict_items.ownedTupleIsFree
 refine wpAny_bind (wpAny_newTuple ?_); have e2:IsItemIter (h1.push { cls:=.type "tuple",data:=.seq #[e.key,e.val] }) it d (i + 1) es.size ep ok ov:=Heap.get?_push_of_some _ e1
 have z1:h1.objs.size = s.heap.objs.size:=sb1.1
 have t2:(h1.push { cls:=.type "tuple",data:=.seq #[e.key,e.val] }).get? s.heap.objs.size = some { cls:=.type "tuple",data:=.seq #[e.key,e.val] }:=by rw [<- z1]; exact Heap.get?_push_size _ rfl
 have z2:(h1.push { cls:=.type "tuple",data:=.seq #[e.key,e.val] }).objs.size = s.heap.objs.size + 1:=by rw [Heap.size_push,z1]
 have k2:∀ b o,b ≠ it -> s.heap.get? b = some o -> (h1.push { cls:=.type "tuple",data:=.seq #[e.key,e.val] }).get? b = some o:=fun b o hb x=>Heap.get?_push_of_some _ (sb1.extBut b o hb x)
 generalize hh2:h1.push { cls:=.type "tuple",data:=.seq #[e.key,e.val] } = h2 at e2 t2 z2 k2
 have ne:s.heap.objs.size ≠ it:=Nat.ne_of_gt (Heap.lt_size hit)
 dsimp only
 rw [z1]
 refine wpAny_bind (wpAny_bind (wpAny_field e2 rfl (x:=.none) rfl (wpAny_pure ?_)))
 simp only [if_true]
 refine wpAny_bind (wpAny_field e2 rfl (x:=ok) rfl (wpAny_bind (wpAny_field e2 rfl (x:=ov) rfl ?_)))
 refine wpAny_bind (wpAny_setField_rec e2 (by simp) fun h3 q3 sb3=>?_)
 have e3:IsItemIter h3 it d (i + 1) es.size ep e.key ov:=q3
 refine wpAny_bind (wpAny_setField_rec e3 (by simp) fun h4 q4 sb4=>?_)
 have e4:IsItemIter h4 it d (i + 1) es.size ep e.key e.val:=q4
 refine wpAny_bind (wpAny_setField_rec e4 (by simp) fun h5 q5 sb5=>?_)
 have e5:IsItemIterOut h5 it d (i + 1) es.size ep e.key e.val s.heap.objs.size:=q5
 refine wpAny_bind (wpAny_setField_rec e5 (by simp) fun h6 q6 sb6=>?_)
 have all:Heap.SameBut it h2 h6:=((sb3.trans sb4).trans sb5).trans sb6
 refine wpAny_bind (wpAny_letGo (wpAny_pure (wpAny_pure ⟨_,rfl,wpAny_pure (hQ h6 q6 (all.extBut _ _ ne t2) ?_ fun b o hb x=>all.extBut b o hb (k2 b o hb x))⟩)))
 exact all.1.trans z2
theorem zc6 {it d:Addr} {i ep:Nat} {es:Array DictEntry} {ok ov:Value} {Q:Option Value -> Shared -> Prop} (hh:A.handled = none) (hit:IsItemIter s.heap it d i es.size ep ok ov) (hm:RawD s.heap d es ep) (hx:es.size <= i) (hQ:∀ h',Heap.ExtBut it s.heap h' -> Q none { s with heap:=h' }):wpAny (model prog w) A (pyNext (.ref it)) Q E s:=by
 have hT:s.TypeIs (.ref it) "dict_itemiterator":=⟨_,hit,rfl⟩; obtain ⟨od,hod,hcd,hdd⟩:=hm
 unfold pyNext
 refine wpAny_bind (wpAny_attempt (wpAny_callSpecial?_slot (name:=Str.ofString "__next__") hT F.slot_dict_itemiterator_next (wpAny_call_entry F.slot_dict_itemiterator_next hT F.entry_dict_itemiterator_next ?_ (F.args_dict_itemiterator_next_1 _))))
 refine wpAny_bind (wpAny_pure (wpAny_bind (wpAny_bind (wpAny_bind (wpAny_typeNameOfWhole_itemiter hT (wpAny_pure (wpAny_bind (wpAny_fieldsOf hit rfl ?_))))))))
 simp only [show Builtin.Dict_items.ownsTuple "dict_itemiterator" = true from by decide,if_true]
 show wpAny _ _ (if (Value.ref d == Value.none) = true then _ else _) _ _ s; rw [show (Value.ref d == Value.none) = false from rfl,if_neg Bool.false_ne_true]
 refine wpAny_bind (wpAny_pure (wpAny_bind (wpAny_dictEntries hod hdd ?_)))
 rw [if_neg (by simp)]
 refine wpAny_bind (wpAny_pure (wpAny_bind (wpAny_dictEpoch hod hdd ?_)))
 rw [if_neg (by simp)]
 refine wpAny_pure ?_
 simp only [show ¬ ((i:Int) < 0) from by omega,if_false,Int.toNat_natCast,Array.getElem?_eq_none hx]
 refine wpAny_bind (wpAny_bind (wpAny_typeNameOfWhole_itemiter hT (wpAny_pure ?_)))
 show wpAny _ _ (setField (.ref it) 2 .none >>= _) _ _ s; refine wpAny_bind (wpAny_setField hit rfl (by simp) ?_)
 show wpAny _ _ (newExc (.type "StopIteration") [] >>= _) _ _ _; refine wpAny_bind ?_
 simp only [newExc,newTuple]; refine wpAny_bind (wpAny_newObj_type ?_ (by size_fits))
 refine wpAny_bind (m:=firstArgMember _ _) (wpAny_of_eq (a:=Value.none) (by first | rfl | (simp only [firstArgMember]; rfl)) (wpAny_newObj_type ?_ (by size_fits)))
 simp only [raiseNew]; refine wpAny_bind (wpAny_handled ?_); rw [show A.in1.handled = none from hh]
 refine wpAny_bind (wpAny_pure (wpAny_throw ?_)); refine wpAny_bind (wpAny_isInstance (b:=true) (T:="StopIteration") ⟨_,Heap.get?_push_size _ rfl,rfl⟩ isSubtype_stop (wpAny_pure ?_))
 exact hQ _ (((Heap.SameBut.update ..).extBut.push _).push _)
theorem za6 {v d:Addr} {es:Array DictEntry} {ep:Nat} {Q:Value -> Shared -> Prop} (hv:s.heap.IsValuesView v d) (hm:RawD s.heap d es ep)
  (hQ:Q (.ref s.heap.objs.size) { s with heap:=s.heap.push { cls:=.type "dict_valueiterator",data:=.fields #[.ref d,.int 0 0,.int es.size 0,.int ep 0] } }):wpAny (model prog w) A (pyIter (.ref v)) Q E s:=by
 have hT:=hv.typeIs
 obtain ⟨ov,hov,hcv,hdv⟩:=hv
 obtain ⟨o,ho,hc,hdat⟩:=hm
 refine wpAny_pyIter_slot hT F.slot_dict_values_iter (wpAny_call_entry F.slot_dict_values_iter hT F.entry_dict_values_iter ?_ (F.args_dict_values_iter_1 _))
 unfold Builtin.«dict_values.__iter__» Builtin.Dict_items.dictOf
 refine wpAny_bind (wpAny_pure (wpAny_bind (wpAny_bind (wpAny_field hov hdv (x:=.ref d) rfl (wpAny_pure (wpAny_bind ?_))))))
 unfold Builtin.Dict_items.newIterator; refine wpAny_bind (wpAny_dictEntries ho hdat (wpAny_bind (wpAny_dictEpoch ho hdat ?_)))
 simp only [show Builtin.Dict_items.ownsTuple "dict_valueiterator" = false from by decide,Bool.false_eq_true,if_false]
 exact wpAny_newObj_type (wpAny_pure ⟨_,rfl,"dict_valueiterator",_,⟨_,Heap.get?_push_size _ rfl,rfl⟩,F.slot_dict_valueiterator_next.lookup,hQ⟩)
end
end LS
namespace L2
open PySem PySem.Spec PyProof.Rows LS
def held (d:Addr) (o:Obj):HO:=.ext fun h=>h.get? d = some o
def xn3 (n:String) (a d:Addr):HO:=.ext fun h=>∃ o,h.get? a = some o /\ o.cls = .type n /\ o.data = .fields #[.ref d]
structure DIs (P:Program) (w:World) (d:Addr) (o:Obj) (kvs:List (List Key × V)) (xs:List (List Key × Addr × Value)) (es:Array DictEntry) (ep:Nat):Prop where
 len:kvs.length <= sizeLine
 sys:(d == sysModules) = false
 ex:o.ExactDict
 data:o.data = .dict es ep
 es:es.toList = xs.map (entryOfKey (tupleKind (xc2 P w)))
 nd:(xs.map (·.1)).Nodup
theorem ym9 {P:Program} {w:World} {H:Hp} {h:Heap} {d:Addr} {o:Obj} (e:h.get? d = some o):xe1 P w H h d (held d o):=⟨e,⟨o,e⟩,fun h1 h2 q k=>k _ q⟩
theorem xh5 {P:Program} {w:World} {H:Hp} {h:Heap} {d:Addr} {o:Obj} (ok:HOk P w H h) (e:H d = some (held d o)):h.get? d = some o:=(ok d _ e).1
section
variable {X:Cx} {pins:List (Addr × Obj)} {σ:St} {H:Hp} {s:Shared}
theorem zb2 {d:Addr} {kvs:List (List Key × V)} (I:Inv X pins σ H s) (e:H d = some (.dT kvs)):∃ o xs es ep,DIs X.prog X.w d o kvs xs es ep /\ KT H kvs xs /\ Inv X pins σ (upd H d (held d o)) s:=by
 obtain ⟨z1,z2,xs,rel,o,es,ep,h1,h2,h3,h4,h5⟩:=(show xe1 X.prog X.w H s.heap d (.dT kvs) from I.hok d _ e)
 refine ⟨o,xs,es,ep,⟨z1,z2,h2,h3,h4,h5⟩,rel,?_⟩
 have:=I.write (x:=d) (e:=d) (o:=held d o) (t':=s.toks) (h':=s.heap) (by rw [e]; trivial) (.inl rfl) (fun b u _ q=>q) ⟨o,h1⟩ (ym9 h1)
 exact this
theorem yq5 {d:Addr} {o:Obj} {kvs:List (List Key × V)} {xs:List (List Key × Addr × Value)} {es:Array DictEntry} {ep:Nat} (I:Inv X pins σ H s) (e:H d = some (held d o)) (D:DIs X.prog X.w d o kvs xs es ep) (k:KT H kvs xs) :
  Inv X pins σ (upd H d (.dT kvs)) s:=by
 have h1:=xh5 I.hok e
 refine I.write (x:=d) (e:=d) (t':=s.toks) (h':=s.heap) (by rw [e]; trivial) (.inl rfl) (fun b u _ q=>q) ⟨o,h1⟩ ?_
 refine ⟨D.len,D.sys,xs,k.keeps fun b ys q=>?_,o,es,ep,h1,D.ex,D.data,D.es,D.nd⟩
 rw [xa3]
 ·exact q
 ·rintro rfl; rw [e] at q; cases q
def tHold (P:Program) (w:World) (t:TE):TE:=fun σ H Q=>∃ d kvs,H d = some (.dT kvs) /\ ∀ o xs es ep,DIs P w d o kvs xs es ep -> KT H kvs xs -> t σ (upd H d (held d o)) fun v H1=>H1 d = some (held d o) /\ xy4 H H1 /\ Q v (upd H1 d (.dT kvs))
theorem yy1 {e:Expr} {t:TE} (h:PE X e t):PE X e (tHold X.prog X.w t):=by
 intro pins s σ H Q I q
 obtain ⟨d,kvs,hd,q⟩:=q
 obtain ⟨o,xs,es,ep,D,k,I1⟩:=zb2 I hd
 refine thn (h pins s σ _ _ I1 (q o xs es ep D k)) fun u s1 ⟨v,H1,I2,r,e1,ts,q1⟩=>⟨v,_,yq5 I2 e1 D (k.keeps ts),r,q1⟩
def sHold (P:Program) (w:World) (t:TS):TS:=fun D σ H=>∃ d kvs,H d = some (.dT kvs) /\ ∀ o xs es ep,DIs P w d o kvs xs es ep -> KT H kvs xs ->
 t { nx:=fun σ1 H1=>H1 d = some (held d o) /\ xy4 H H1 /\ D.nx σ1 (upd H1 d (.dT kvs)),rt:=fun _ _=>False } σ (upd H d (held d o))
theorem ps_hold {e:Stmt} {t:TS} (h:PS X e t):PS X e (sHold X.prog X.w t):=by
 intro pins s σ H D I q
 obtain ⟨d,kvs,hd,q⟩:=q
 obtain ⟨o,xs,es,ep,Dd,k,I1⟩:=zb2 I hd
 refine thn (h pins s σ _ _ I1 (q o xs es ep Dd k)) fun f s1 sp=>?_
 cases f with
 | next=>obtain ⟨σ1,H1,I2,e1,ts,q1⟩:=sp; exact ⟨σ1,_,yq5 I2 e1 Dd (k.keeps ts),q1⟩
 | brk=>obtain ⟨σ1,H1,I2,e1⟩:=sp; exact e1.elim
 | cont=>obtain ⟨σ1,H1,I2,e1⟩:=sp; exact e1.elim
 | ret u=>obtain ⟨v,σ1,H1,I2,r,e1⟩:=sp; exact e1.elim
end
def Itd (d:Addr) (o:Obj) (vs:List V):It:=⟨fun i H=>H d = some (held d o) /\ i < vs.length,fun i H x H'=>H' = H /\ vs[i]? = some x,fun i H=>H d = some (held d o) /\ vs.length <= i⟩
theorem xr2:∀ {vs:List V} {us:List Value},Vals vs us -> ∀ {i:Nat} {u:Value},us[i]? = some u -> ∃ v,vs[i]? = some v /\ RelV v u
 | _,_,.nil,i,u,e=>by simp at e
 | _,_,.cons r t,0,u,e=>by simp only [List.getElem?_cons_zero,Option.some.injEq] at e; subst e; exact ⟨_,rfl,r⟩
 | _,_,.cons r t,i + 1,u,e=>by simp only [List.getElem?_cons_succ] at e ⊢; exact xr2 t e
theorem turn_key {P:Program} {w:World} {K:Frag} {tg:Expr} {d it:Addr} {o:Obj} {vs:List V} {es:Array DictEntry} {ep:Nat} (hex:o.ExactDict) (hdat:o.data = .dict es ep) (hv:Vals vs (es.toList.map (·.key))) :
  Turn P w K tg (Itd d o vs) [it] it (fun i h=>h.IsKeyIter it d i es.size ep) where
 mem:=by simp
 obj:=fun i h st b hb=>by
  obtain rfl:b = it:=by simpa using hb
  obtain ⟨o,e,c,d⟩:=st
  exact ⟨o,e,fun v z=>by rw [d] at z; cases z⟩
 keep:=fun i h h' st k=>by
  obtain ⟨o,e,c,d⟩:=st
  exact ⟨o,k it (by simp) o e,c,d⟩
 item:=by
  intro X hP hw hK hc i pins s σ H E I hf st hg
  subst hP hw hK
  obtain ⟨hd,hg⟩:=hg
  obtain ⟨f0,f1,f2,f3,f4,f5⟩:=hf it (by simp)
  have hl:vs.length = es.size:=by rw [hv.length,List.length_map,Array.length_toList]
  have hi:i < es.size:=by omega
  obtain ⟨v,hv1,hv2⟩:=xr2 hv (i:=i) (u:=es[i].key) (by simp [hi])
  refine yp9 st ⟨o,xh5 I.hok hd,hex,hdat⟩ (e:=es[i]) (by simp [hi]) fun h' st' sb=>?_
  have I1:Inv X pins σ H { s with heap:=h' }:=I.turned (t':=s.toks) (fun b o hb e=>(sb.2 b hb).trans e) f0 f1 f3 f4 f5
  obtain ⟨o',e1,c,d'⟩:=id st'
  exact ⟨_,rfl,yn1 (s:={ s with heap:=h' }) e1 c d' (by decide) ⟨v,H,I1,hv2,⟨rfl,hv1⟩,st',fun b hb=>(hf b hb).1⟩⟩
 done:=by
  intro X hP hw hK hc i pins s σ H E I hf st hg
  subst hP hw hK
  obtain ⟨hd,hg⟩:=hg
  obtain ⟨f0,f1,f2,f3,f4,f5⟩:=hf it (by simp)
  have hl:vs.length = es.size:=by rw [hv.length,List.length_map,Array.length_toList]
  exact zc5 (I.ok.hd hc) st ⟨o,xh5 I.hok hd,hex,hdat⟩ (by omega) fun h' eb=>⟨rfl,I.turned (t':=s.toks) (fun b o hb e=>eb b o hb e) f0 f1 f3 f4 f5⟩
 self:=fun _ _ _ _ _ st h=>wpAny_pyIter_keyiter st h
theorem turn_val {P:Program} {w:World} {K:Frag} {tg:Expr} {d it:Addr} {o:Obj} {vs:List V} {es:Array DictEntry} {ep:Nat} (hex:o.ExactDict) (hdat:o.data = .dict es ep) (hv:Vals vs (es.toList.map (·.val))) :
  Turn P w K tg (Itd d o vs) [it] it (fun i h=>h.IsValIter it d i es.size ep) where
 mem:=by simp
 obj:=fun i h st b hb=>by
  obtain rfl:b = it:=by simpa using hb
  obtain ⟨o,e,c,d⟩:=st
  exact ⟨o,e,fun v z=>by rw [d] at z; cases z⟩
 keep:=fun i h h' st k=>by
  obtain ⟨o,e,c,d⟩:=st
  exact ⟨o,k it (by simp) o e,c,d⟩
 item:=by
  intro X hP hw hK hc i pins s σ H E I hf st hg
  subst hP hw hK
  obtain ⟨hd,hg⟩:=hg
  obtain ⟨f0,f1,f2,f3,f4,f5⟩:=hf it (by simp)
  have hl:vs.length = es.size:=by rw [hv.length,List.length_map,Array.length_toList]
  have hi:i < es.size:=by omega
  obtain ⟨v,hv1,hv2⟩:=xr2 hv (i:=i) (u:=es[i].val) (by simp [hi])
  refine next_val st ⟨o,xh5 I.hok hd,hex,hdat⟩ (e:=es[i]) (by simp [hi]) fun h' st' sb=>?_
  have I1:Inv X pins σ H { s with heap:=h' }:=I.turned (t':=s.toks) (fun b o hb e=>(sb.2 b hb).trans e) f0 f1 f3 f4 f5
  obtain ⟨o',e1,c,d'⟩:=id st'
  exact ⟨_,rfl,yn1 (s:={ s with heap:=h' }) e1 c d' (by decide) ⟨v,H,I1,hv2,⟨rfl,hv1⟩,st',fun b hb=>(hf b hb).1⟩⟩
 done:=by
  intro X hP hw hK hc i pins s σ H E I hf st hg
  subst hP hw hK
  obtain ⟨hd,hg⟩:=hg
  obtain ⟨f0,f1,f2,f3,f4,f5⟩:=hf it (by simp)
  have hl:vs.length = es.size:=by rw [hv.length,List.length_map,Array.length_toList]
  exact end_val (I.ok.hd hc) st ⟨o,xh5 I.hok hd,hex,hdat⟩ (by omega) fun h' eb=>⟨rfl,I.turned (t':=s.toks) (fun b o hb e=>eb b o hb e) f0 f1 f3 f4 f5⟩
 self:=fun _ _ _ _ _ st h=>wpAny_pyIter_valiter st h
def iKey (tl:TE):TI:=fun σ H R=>tl σ H fun x H1=>∃ d o vs es ep,x = .ref d /\ H1 d = some (held d o) /\ (d == sysModules) = false /\ o.ExactDict /\ o.data = .dict es ep /\ Vals vs (es.toList.map (·.key)) /\ R (Itd d o vs) H1
theorem yx7 {X:Cx} {tg l:Expr} {tl:TE} (hl:PE X l tl):PI X tg l (iKey tl):=by
 intro pins s σ H R I h
 refine thn (hl pins s σ H _ I h) fun v s1 ⟨y,H1,I1,r1,q1⟩=>?_
 obtain ⟨d,o,vs,es,ep,rfl,hd,hs,hex,hdat,hv,q⟩:=q1
 cases r1
 have fp:∀ b ∈ [s1.heap.objs.size],FpOk X pins H1 b:=fun b hb=>by
  obtain rfl:b = s1.heap.objs.size:=by simpa using hb
  exact I1.fpOk (Nat.le_refl _) (I1.hok.fresh (Nat.le_refl _))
 exact yq4 hs ⟨o,xh5 I1.hok hd,hex,hdat⟩ ⟨s1.heap.objs.size,[s1.heap.objs.size],_,_,H1,rfl,I1.kept (t':=s1.toks) fun b o e=>Heap.get?_push_of_some _ e,turn_key hex hdat hv,⟨_,Heap.get?_push_size _ rfl,rfl,rfl⟩,fp,q⟩
def iVal (tl:TE):TI:=fun σ H R=>tl σ H fun x H1=>∃ p d o vs es ep,x = .ref p /\ H1 p = some (xn3 "dict_values" p d) /\ H1 d = some (held d o) /\ o.ExactDict /\ o.data = .dict es ep /\ Vals vs (es.toList.map (·.val)) /\ R (Itd d o vs) H1
theorem pi_val {X:Cx} {tg l:Expr} {tl:TE} (hl:PE X l tl):PI X tg l (iVal tl):=by
 intro pins s σ H R I h
 refine thn (hl pins s σ H _ I h) fun v s1 ⟨y,H1,I1,r1,q1⟩=>?_
 obtain ⟨p,d,o,vs,es,ep,rfl,hp,hd,hex,hdat,hv,q⟩:=q1
 cases r1
 have fp:∀ b ∈ [s1.heap.objs.size],FpOk X pins H1 b:=fun b hb=>by
  obtain rfl:b = s1.heap.objs.size:=by simpa using hb
  exact I1.fpOk (Nat.le_refl _) (I1.hok.fresh (Nat.le_refl _))
 have hvw:s1.heap.IsValuesView p d:=(I1.hok p _ hp).1
 exact za6 hvw ⟨o,xh5 I1.hok hd,hex,hdat⟩ ⟨s1.heap.objs.size,[s1.heap.objs.size],_,_,H1,rfl,I1.kept (t':=s1.toks) fun b o e=>Heap.get?_push_of_some _ e,turn_val hex hdat hv,⟨_,Heap.get?_push_size _ rfl,rfl,rfl⟩,fp,q⟩
section
variable {X:Cx} {o:Expr} {to:TE} {apos cpos:Pos}
def tView (n:String) (to:TE):TE:=fun σ H Q=>to σ H fun x H1=>∃ d o es ep,x = .ref d /\ H1 d = some (held d o) /\ (d == sysModules) = false /\ o.ExactDict /\ o.data = .dict es ep /\ ∀ p,H1 p = none -> Q (.ref p) (upd H1 p (xn3 n p d))
theorem yf7 {pins:List (Addr × Obj)} {σ:St} {H:Hp} {s:Shared} {d:Addr} {n:String} (I:Inv X pins σ H s):Inv X pins σ (upd H s.heap.objs.size (xn3 n s.heap.objs.size d)) { s with heap:=s.heap.push { cls:=.type n,data:=.fields #[.ref d] } } :=
 I.laid (t':=s.toks) (fun b u e=>Heap.get?_push_of_some _ e) (Nat.le_refl _) ⟨⟨_,Heap.get?_push_size _ rfl,rfl,rfl⟩,⟨_,Heap.get?_push_size _ rfl⟩,fun h1 h2 ⟨o,q1,q⟩ k=>⟨o,k _ q1,q⟩⟩
theorem yh6 (ho:PE X o to) (hbase:attributeBase o "values" X.env (eval o X.env) = eval o X.env:=by rfl) (hline:(apos.endLine == cpos.line) = true:=by rfl):PE X (.Call (.Attribute o "values" apos) [] [] cpos) (tView "dict_values" to):=by
 intro pins s σ H Q I h
 refine wpAny_Call_method0_late hbase hline (thn (ho pins s σ H _ I h) fun v s1 ⟨x,H1,I1,r1,d,ob,es,ep,e,hd,hs,hex,hdat,q⟩=>?_)
 subst e
 cases r1
 have h1:=xh5 I1.hok hd
 refine ⟨"dict","dict.values",PySem.F.plainAttrs_dict,PySem.F.slot_dict_values,PySem.F.type_dict_values,⟨ob,h1,hex.1⟩,fun a z=>by cases z; exact ⟨ob,h1,hex.2.1⟩,Calls.callWith_builtin rfl (PySem.evalArgs_none ?_)⟩
 exact vals_raw hs ⟨ob,h1,hex,hdat⟩ ⟨.ref s1.heap.objs.size,_,yf7 I1,rfl,q _ (I1.hok.fresh (Nat.le_refl _))⟩
theorem yp7 (ho:PE X o to) (hbase:attributeBase o "items" X.env (eval o X.env) = eval o X.env:=by rfl) (hline:(apos.endLine == cpos.line) = true:=by rfl):PE X (.Call (.Attribute o "items" apos) [] [] cpos) (tView "dict_items" to):=by
 intro pins s σ H Q I h
 refine wpAny_Call_method0_late hbase hline (thn (ho pins s σ H _ I h) fun v s1 ⟨x,H1,I1,r1,d,ob,es,ep,e,hd,hs,hex,hdat,q⟩=>?_)
 subst e
 cases r1
 have h1:=xh5 I1.hok hd
 refine ⟨"dict","dict.items",PySem.F.plainAttrs_dict,PySem.F.slot_dict_items,PySem.F.type_dict_items,⟨ob,h1,hex.1⟩,fun a z=>by cases z; exact ⟨ob,h1,hex.2.1⟩,Calls.callWith_builtin rfl (PySem.evalArgs_none ?_)⟩
 exact za7 hs ⟨ob,h1,hex,hdat⟩ ⟨.ref s1.heap.objs.size,_,yf7 I1,rfl,q _ (I1.hok.fresh (Nat.le_refl _))⟩
end
theorem Inv.trackF {X:Cx} {pins:List (Addr × Obj)} {σ:St} {H:Hp} {s:Shared} {a:Addr} {o:HO} (I:Inv X pins σ H s) (f:FpOk X pins H a) (hs:X.s₀.heap.objs.size <= a) (new:xe1 X.prog X.w (upd H a o) s.heap a o):Inv X pins σ (upd H a o) s:=by
 obtain ⟨f0,f1,f2,f3,f4,f5⟩:=f
 have ne:∀ {b u},H b = some u -> b ≠ a:=fun e z=>by rw [z,f0] at e; cases e
 refine ⟨I.ok,I.os,I.bare,⟨I.base.keep,I.base.slot,fun b ob q n hx=>?_,I.base.there,fun b xs q=>?_,fun b ob u q=>?_,fun b ps q=>?_⟩,I.loc,I.cell,?_,fun x c e=>?_,fun p hp=>?_,fun b u e=>?_,I.len⟩
 ·rw [xa3 (Nat.ne_of_lt (Nat.lt_of_lt_of_le (Heap.lt_size q) hs))]; exact I.base.free b ob q n hx
 ·have:=I.base.tups b xs q
  rw [xa3 (ne this)]; exact this
 ·have:=I.base.frzs b ob u q
  rw [xa3 (ne this)]; exact this
 ·obtain ⟨m,e⟩:=I.base.tbls b ps q
  exact ⟨m,by rw [xa3 (ne e)]; exact e⟩
 ·rw [xa3 (Ne.symm f1)]; exact I.free
 ·rw [xa3 (f4 x c e)]; exact I.freeC x c e
 ·obtain ⟨p1,p2,p3⟩:=I.pin p hp
  exact ⟨p1,by rw [xa3 (f5 p hp)]; exact p2,p3⟩
 ·by_cases hb:b = a
  ·subst hb; rw [xa1] at e; cases e; exact new
  ·rw [xa3 hb] at e
   exact (I.hok b u e).stay (fun c v _ q=>q) (fun c q=>by rw [xa3 (ne q)]; exact q) fun c xs q=>by rw [xa3 (ne q)]; exact q
theorem xz9:entryFor table "dict_itemiterator.__iter__" = some Builtin.«dict_keyiterator.__iter__»:=entryFor_alias (id':="dict_keyiterator.__iter__") (by kernel_rfl) rfl (by decide +kernel) (by kernel_rfl)
def Itp (d:Addr) (o:Obj) (ks vs:List V):It:=⟨fun i H=>H d = some (held d o) /\ i < ks.length,fun i H x H'=>∃ p k v,x = .ref p /\ H p = none /\ ks[i]? = some k /\ vs[i]? = some v /\ H' = upd H p (.tup [k,v]),fun i H=>H d = some (held d o) /\ ks.length <= i⟩
theorem ys1 {P:Program} {w:World} {K:Frag} {elts:List Expr} {x1} {tpos:Pos} {d it:Addr} {o:Obj} {ks vs:List V} {es:Array DictEntry} {ep:Nat} (hex:o.ExactDict) (hdat:o.data = .dict es ep) (hk:Vals ks (es.toList.map (·.key))) (hv:Vals vs (es.toList.map (·.val))) :
  Turn P w K (.Tuple elts x1 tpos) (Itp d o ks vs) [it] it (fun i h=>∃ ok ov,IsItemIter h it d i es.size ep ok ov) where
 mem:=by simp
 obj:=fun i h st b hb=>by
  obtain rfl:b = it:=by simpa using hb
  obtain ⟨ok,ov,e⟩:=st
  exact ⟨_,e,fun v z=>by cases z⟩
 keep:=fun i h h' st k=>by
  obtain ⟨ok,ov,e⟩:=st
  exact ⟨ok,ov,k it (by simp) _ e⟩
 item:=by
  intro X hP hw hK hc i pins s σ H E I hf st hg
  subst hP hw hK
  obtain ⟨hd,hg⟩:=hg
  obtain ⟨ok,ov,st⟩:=st
  obtain ⟨f0,f1,f2,f3,f4,f5⟩:=hf it (by simp)
  have hl:ks.length = es.size:=by rw [hk.length,List.length_map,Array.length_toList]
  have hi:i < es.size:=by omega
  obtain ⟨k,hk1,hk2⟩:=xr2 hk (i:=i) (u:=es[i].key) (by simp [hi])
  obtain ⟨v,hv1,hv2⟩:=xr2 hv (i:=i) (u:=es[i].val) (by simp [hi])
  refine yt7 st ⟨o,xh5 I.hok hd,hex,hdat⟩ (e:=es[i]) (by simp [hi]) fun h' st' ht hz kp=>?_
  refine ⟨_,rfl,wpAny_letOwnedTupleGo_items (s:={ s with heap:=h' }) st' fun h2 st2 sb2=>?_⟩
  have sb2:Heap.SameBut it h' h2:=sb2
  have nit:s.heap.objs.size ≠ it:=Nat.ne_of_gt (Heap.lt_size st)
  have I1:Inv X pins σ H { s with heap:=h2 }:=I.turned (t':=s.toks) (fun b o hb e=>(sb2.2 b hb).trans (kp b o hb e)) f0 f1 f3 f4 f5
  have ht2:h2.get? s.heap.objs.size = some { cls:=.type "tuple",data:=.seq #[es[i].key,es[i].val] }:=(sb2.2 _ nit).trans ht
  have hn:H s.heap.objs.size = none:=I.hok.fresh (Nat.le_refl _)
  refine ⟨.ref s.heap.objs.size,upd H s.heap.objs.size (.tup [k,v]),?_,rfl,⟨_,k,v,rfl,hn,hk1,hv1,rfl⟩,⟨_,_,st2⟩,fun b hb=>?_⟩
  ·obtain ⟨g0,g1,g2,g3,g4,g5⟩:=I.fpOk (Nat.le_refl _) hn
   refine I1.trackF ⟨g0,g1,g2,g3,g4,g5⟩ (Nat.le_trans I.sz (Nat.le_refl _)) ⟨by show 2 <= sizeLine; decide,[es[i].key,es[i].val],.cons hk2 (.cons hv2 .nil),_,ht2,rfl,_,rfl⟩
  ·obtain rfl:b = it:=by simpa using hb
   rw [xa3 (Ne.symm nit)]; exact f0
 done:=by
  intro X hP hw hK hc i pins s σ H E I hf st hg
  subst hP hw hK
  obtain ⟨hd,hg⟩:=hg
  obtain ⟨ok,ov,st⟩:=st
  obtain ⟨f0,f1,f2,f3,f4,f5⟩:=hf it (by simp)
  have hl:ks.length = es.size:=by rw [hk.length,List.length_map,Array.length_toList]
  exact zc6 (I.ok.hd hc) st ⟨o,xh5 I.hok hd,hex,hdat⟩ (by omega) fun h' eb=>⟨rfl,I.turned (t':=s.toks) (fun b o hb e=>eb b o hb e) f0 f1 f3 f4 f5⟩
 self:=fun _ _ _ _ _ st h=>by
  obtain ⟨ok,ov,st⟩:=st
  have hT:Shared.TypeIs _ (.ref it) "dict_itemiterator":=⟨_,st,rfl⟩
  refine wpAny_pyIter_slot hT F.slot_dict_itemiterator_iter (wpAny_call_entry F.slot_dict_itemiterator_iter hT xz9 ?_ (F.args_dict_itemiterator_iter_1 _))
  show wpAny _ _ (ret (.ref it)) _ _ _; exact wpAny_pure ⟨_,rfl,"dict_itemiterator",_,hT,F.slot_dict_itemiterator_next.lookup,h⟩
def iItems (tl:TE):TI:=fun σ H R=>tl σ H fun x H1=>∃ p d o ks vs es ep,x = .ref p /\ H1 p = some (xn3 "dict_items" p d) /\ H1 d = some (held d o) /\ o.ExactDict /\ o.data = .dict es ep /\ Vals ks (es.toList.map (·.key)) /\ Vals vs (es.toList.map (·.val)) /\ R (Itp d o ks vs) H1
theorem yp6 {X:Cx} {elts:List Expr} {x1} {tpos:Pos} {l:Expr} {tl:TE} (hl:PE X l tl):PI X (.Tuple elts x1 tpos) l (iItems tl):=by
 intro pins s σ H R I h
 refine thn (hl pins s σ H _ I h) fun v s1 ⟨y,H1,I1,r1,q1⟩=>?_
 obtain ⟨p,d,o,ks,vs,es,ep,rfl,hp,hd,hex,hdat,hk,hv,q⟩:=q1
 cases r1
 have fp:∀ b ∈ [s1.heap.objs.size],FpOk X pins H1 b:=fun b hb=>by
  obtain rfl:b = s1.heap.objs.size:=by simpa using hb
  exact I1.fpOk (Nat.le_refl _) (I1.hok.fresh (Nat.le_refl _))
 have hvw:s1.heap.IsItemsView p d:=(I1.hok p _ hp).1
 exact yu3 hvw ⟨o,xh5 I1.hok hd,hex,hdat⟩ ⟨s1.heap.objs.size,[s1.heap.objs.size],_,_,H1,rfl,I1.kept (t':=s1.toks) fun b o e=>Heap.get?_push_of_some _ e,ys1 hex hdat hk hv,⟨.none,.none,Heap.get?_push_size _ rfl⟩,fp,q⟩
theorem yi7 {P:Program} {w:World} {d:Addr} {o:Obj} {kvs:List (List Key × V)} {xs:List (List Key × Addr × Value)} {es:Array DictEntry} {ep:Nat} (D:DIs P w d o kvs xs es ep):Vals (xs.map fun x=>V.ref x.2.1) (es.toList.map (·.key)):=by
 rw [D.es,List.map_map]
 clear D
 induction xs with
 | nil=>exact .nil
 | cons x xs ih=>exact .cons rfl ih
theorem yf8 {P:Program} {w:World} {H:Hp} {d:Addr} {o:Obj} {kvs:List (List Key × V)} {xs:List (List Key × Addr × Value)} {es:Array DictEntry} {ep:Nat} (D:DIs P w d o kvs xs es ep) (k:KT H kvs xs):Vals (kvs.map (·.2)) (es.toList.map (·.val)):=by
 rw [D.es,List.map_map]
 clear D
 induction k with
 | nil=>exact .nil
 | cons hq t ih=>exact .cons hq.2.2 ih
theorem xr0 {d D:Addr} {o:Obj} {vs:List V} {g:TG} {te:TE} {σ0:St} {H1:Hp} {Q:Hp -> Prop} (R:V -> V -> Hp -> Prop) (ok:St -> Prop) (mono:∀ H H' x v,xy4 H H' -> R x v H -> R x v H')
  (hd0:H1 d = some (held d o)) (hD:H1 D = none) (hz:vs.length <= 1000) (h0:ok σ0)
  (hs:∀ x σ' H (N:St -> V -> Hp -> Prop),x ∈ vs -> ok σ' -> Same H1 H -> (∀ σ3 v H4,R x v H4 -> Same H H4 -> ok σ3 -> N σ3 v H4) -> g x σ' H fun σ3 H3=>te σ3 H3 fun v H4=>N σ3 v H4)
  (hd:∀ ys H',Same H1 H' -> H' D = some (.lst ys) -> Paired (fun x v=>R x v H') vs ys -> Q H') :
  ∃ W:Nat -> Nat -> St -> Hp -> Prop,(∃ m,W 0 m σ0 (upd H1 D (.lst []))) /\
   ∀ i m σ' H',W i m σ' H' -> ((Itd d o vs).stop i H' /\ Q H') \/ ((Itd d o vs).go i H' /\ ∀ x H2,(Itd d o vs).yld i H' x H2 -> g x σ' H2 fun σ3 H3=>te σ3 H3 fun v H4=>∃ xs,H4 D = some (.lst xs) /\ xs.length < sizeLine /\ ∃ m',m' < m /\ W (i + 1) m' σ3 (upd H4 D (.lst (xs ++ [v])))):=by
 refine ⟨fun i m σ' H'=>m = vs.length - i /\ i <= vs.length /\ ok σ' /\ Same H1 H' /\ ∃ ys,H' D = some (.lst ys) /\ Paired (fun x v=>R x v H') (vs.take i) ys,⟨vs.length,by simp,Nat.zero_le _,h0,Same.new hD,[],xa1,by rw [List.take_zero]; exact .nil⟩,?_⟩
 rintro i m σ' H' ⟨rfl,hi,hok,hsm,ys,hy,hp⟩
 have hyl:ys.length = i:=by rw [<- Paired.length hp,List.length_take,Nat.min_eq_left hi]
 by_cases hlt:i < vs.length
 ·refine .inr ⟨⟨hsm _ _ hd0,hlt⟩,fun x H2 y=>?_⟩
  obtain ⟨e,hx⟩:=y
  subst e
  refine hs x σ' _ (fun σ3 v H4=>∃ xs',H4 D = some (.lst xs') /\ xs'.length < sizeLine /\ ∃ m',m' < vs.length - i /\ _) (List.mem_of_getElem? hx) hok hsm fun σ3 v H4 r s4 ok3=>?_
  have tD:xy4 H4 (upd H4 D (.lst (ys ++ [v]))):=fun b zs e=>by
   rw [xa3 (ye1 e (s4 _ _ hy) (by intro z; cases z))]; exact e
  refine ⟨ys,s4 _ _ hy,Nat.lt_of_lt_of_le (show ys.length < 1001 by omega) (by decide),vs.length - (i + 1),by omega,rfl,hlt,ok3,(hsm.trans s4).upd hD,ys ++ [v],xa1,?_⟩
  rw [show vs.take (i + 1) = vs.take i ++ [x] by rw [List.take_add_one,hx]; rfl]
  exact Paired.snoc (Paired.mapP hp fun b w q=>mono _ _ _ _ (s4.tup.trans tD) q) (mono _ _ _ _ tD r)
 ·have e:i = vs.length:=by omega
  subst e
  refine .inl ⟨⟨hsm _ _ hd0,Nat.le_refl _⟩,hd ys H' hsm hy (by rw [List.take_length] at hp; exact hp)⟩
section
variable {X:Cx} {tg iter elt tst:Expr} {scope:Scope} {N:List Str} {js:List (Option Nat)} {pos:Pos}
theorem yn7 {prog:Program} {w:World} {A:Around} {R:Result -> Shared -> Prop} {s:Shared} {it acc:Value} {env:Env} (I:Nat -> Shared -> Prop)
  (turn:∀ n s,I n s -> wpAny (model prog w) A (pyNext it) (fun r s1=>match r with
   | none=>R (.ok .next) s1
   | some v=>wpAny (model prog w) A (letOwnedTupleGo tg it v) (fun _ s2=>wpAny (model prog w) A (assign tg env v) (fun _ s3=>wpAny (model prog w) A (isTrue tst env (eval tst env)) (fun b s4=>if b = true then
     wpAny (model prog w) A (eval elt env) (fun x s5=>wpAny (model prog w) A (call (.builtin "list.append") [acc,x]) (fun _ s6=>∃ m,m < n /\ I m s6) (fun _ _=>False) s5) (fun _ _=>False) s4
     else ∃ m,m < n /\ I m s4) (fun _ _=>False) s3) (fun _ _=>False) s2) (fun _ _=>False) s1) (fun _ _=>False) s)
  (n:Nat) (h:I n s):codeAny (model prog w) A (.compLoop (.ListComp elt [⟨tg,iter,[tst],0⟩] scope pos) 0 it acc env) R s:=by
 refine codeAny_loop rfl I (fun n s hI=>?_) n h; show wpAny _ A ((compTurn (.ListComp elt [⟨tg,iter,[tst],0⟩] scope pos) 0 it acc env).onRaise (fun x=>do noteFrame x env; theTreesLotGoes x)) _ _ s
 refine wpAny_noted ?_
 rw [compTurn_list]
 refine wpAny_bind (wpAny_standAt (wpAny_bind (wpAny_mono (turn n s hI) (fun r s1 h1=>?_) fun _ _ h'=>h'.elim)))
 cases r with
 | none=>exact wpAny_pure h1
 | some v =>
  refine wpAny_bind (wpAny_mono h1 (fun _ s2 h2=>wpAny_bind (wpAny_mono h2 (fun _ s3 h3=>wpAny_bind (wpAny_tests_one (wpAny_mono h3 (fun b s4 h4=>?_) fun _ _ h'=>h'.elim))) fun _ _ h'=>h'.elim)) fun _ _ h'=>h'.elim)
  cases b with
  | false=>exact wpAny_pure ⟨rfl,by simpa using h4⟩
  | true =>
   have h4:=by simpa using h4
   exact wpAny_bind (wpAny_bind (wpAny_mono h4 (fun x s5 h5=>wpAny_bind (wpAny_mono h5 (fun _ s6 h6=>wpAny_pure (wpAny_pure ⟨rfl,h6⟩)) fun _ _ h'=>h'.elim)) fun _ _ h'=>h'.elim))
def yl6 (js:List (Option Nat)) (wi:TI) (g:TG) (tt:TT) (te:TE):TE:=fun σ H Q=>wi σ H fun J H1=>∀ D,H1 D = none -> ∃ W:Nat -> Nat -> St -> Hp -> Prop,(∃ m,W 0 m (seen js σ) (upd H1 D (.lst []))) /\
 ∀ i m σ' H',W i m σ' H' -> (J.stop i H' /\ Q (.ref D) H') \/ (J.go i H' /\ ∀ x H2,J.yld i H' x H2 -> g x σ' H2 fun σ3 H3=>tt σ3 H3 fun b H4=>if b = true then te σ3 H4 fun v H5=>∃ xs,H5 D = some (.lst xs) /\ xs.length < sizeLine /\ ∃ m',m' < m /\ W (i + 1) m' σ3 (upd H5 D (.lst (xs ++ [v]))) else ∃ m',m' < m /\ W (i + 1) m' σ3 H4)
theorem xx7 {wi:TI} {g:TG} {tt:TT} {te:TE} {use:Option (Value -> Sem Unit)} {Qv:Value -> Shared -> Prop} (hc:X.calm = true) (hi:PI X tg iter wi) (hk:scope.kind = .function) (hck:xm8 X scope N js = true)
  (hg:∀ fp s H,PG (xe7 X scope N fp s H) tg g) (ht:∀ fp s H,PT (xe7 X scope N fp s H) tst tt) (he:∀ fp s H,PE (xe7 X scope N fp s H) elt te)
  (hs:∀ x,foldedSetIterable iter X.env x = pure x)
  {pins:List (Addr × Obj)} {σ:St} {H:Hp} {s:Shared} {Q:VK} (I:Inv X pins σ H s) (h:yl6 js wi g tt te σ H Q)
  (hend:∀ (D C:Addr) (H':Hp) (s':Shared),Inv X pins σ H' s' -> (∃ m,s'.heap.Ns C m) -> FpOk X pins H' C -> Q (.ref D) H' -> compPost (model X.prog X.w) X.A X.xe use Qv (.ref D) C (.ok .next) s') :
  wpAny (model X.prog X.w) X.A (comprehension (.ListComp elt [⟨tg,iter,[tst],0⟩] scope pos) scope X.env (firstIterPos [⟨tg,iter,[tst],0⟩] pos) (newList []) false (eval iter X.env) use) Qv X.xe s:=by
 have hck':=hck
 unfold xm8 at hck'
 simp only [Bool.and_eq_true] at hck'
 obtain ⟨⟨h1,_⟩,_⟩:=hck'
 have g1:∀ p ∈ scope.names,p.2 ≠ .cell /\ (p.2 = .free -> X.env.kindOf p.1 = some .cell) /\ (p.2 = .local -> scope.names.lookup p.1 = some .local):=fun p hp=>by
  have q:=List.all_eq_true.mp h1 p hp
  simp only [Bool.and_eq_true,bne_iff_ne,ne_eq,Bool.or_eq_true,beq_iff_eq] at q
  exact ⟨q.1.1,fun e=>q.1.2.resolve_left fun z=>z e,fun e=>q.2.resolve_left fun z=>z e⟩
 have hcl:∀ p ∈ scope.names,p.2 = .free -> ∃ c,X.env.cells.lookup p.1 = some c:=fun p hp e=>I.ok.has _ (.inl ((g1 p hp).2.1 e))
 refine wpAny_comprehension_free (use:=use) (g:=⟨tg,iter,[tst],0⟩) (gs:=[]) rfl hs (xt0 hcl) hk (fun p hp e=>(g1 p hp).2.2 e) ?_
 refine thn (hi pins s σ H _ I h) fun v s1 h1=>thn h1 fun itv s2 h2=>?_
 obtain ⟨it,fp,tn,J,H2,e,I2,T,st2,f2,hW⟩:=h2
 subst e
 have hfl:∀ b ∈ fp,b < s2.heap.objs.size:=fun b hb=>by
  obtain ⟨o,ho,_⟩:=T.obj _ _ st2 b hb
  exact Heap.lt_size ho
 have hD:H2 s2.heap.objs.size = none:=I2.hok.fresh (Nat.le_refl _)
 obtain ⟨W,⟨m0,w0⟩,turn⟩:=hW _ hD
 refine wpAny_newObj_type (wpAny_newFunctionEnv (fun x hx=>(g1 x hx).1) (by intro y hy; simp at hy) (fun h₁ hns₁ hsb₁=>?_) hk)
 dsimp only at hns₁ hsb₁ ⊢
 have I3:Inv X pins σ (upd H2 s2.heap.objs.size (.lst [])) { s2 with heap:=s2.heap.push { cls:=.type "list",dict:=none,data:=.seq ([]:List Value).toArray },toks:=s2.toks } :=
  I2.laid (t':=s2.toks) (fun b u e=>Heap.get?_push_of_some _ e) (Nat.le_refl _) ⟨Nat.zero_le _,[],0,.nil,Heap.get?_push_size _ rfl⟩
 generalize hs3:({ s2 with heap:=s2.heap.push { cls:=.type "list",dict:=none,data:=.seq ([]:List Value).toArray },toks:=s2.toks }:Shared) = s3 at I3
 have hh3:s3.heap = s2.heap.push { cls:=.type "list",dict:=none,data:=.seq ([]:List Value).toArray }:=by rw [<- hs3]
 have e3:({ s2 with heap:=h₁,toks:=s2.toks + ([]:List (Str × Value)).length }:Shared) = { s3 with heap:=h₁,toks:=s3.toks }:=by rw [<- hs3]; rfl
 rw [e3]
 rw [<- hh3] at hns₁ hsb₁ ⊢
 generalize hH3:upd H2 s2.heap.objs.size (.lst []) = H3 at I3 w0
 generalize hDs:s2.heap.objs.size = D at *
 have f3:∀ b ∈ fp,FpOk X pins H3 b:=fun b hb=>by
  refine ⟨?_,(f2 b hb).2⟩
  rw [<- hH3,xa3 (Nat.ne_of_lt (hfl b hb))]
  exact (f2 b hb).1
 have szD:s3.heap.objs.size = D + 1:=by rw [hh3,Heap.size_push]; rw [<- hDs]
 have hfl3:∀ b ∈ fp,b < s3.heap.objs.size:=fun b hb=>Nat.lt_of_lt_of_le (hfl b hb) (by rw [szD]; exact Nat.le_succ _)
 have kp:∀ b o,s3.heap.get? b = some o -> h₁.get? b = some o:=fun b o e=>by
  rw [hsb₁.2 b (Nat.ne_of_lt (Heap.lt_size e))]
  exact Heap.get?_push_of_some _ e
 have st3:tn 0 h₁:=T.keep 0 _ _ st2 fun b hb o e=>kp b o (by rw [hh3]; exact Heap.get?_push_of_some _ e)
 have J0:Inv (xe7 X scope N fp s3 H3) [] (seen js σ) H3 { s3 with heap:=h₁,toks:=s3.toks }:=yb3 I3 hk hck f3 hfl3 hns₁ kp
 have fpc:∀ {H':Hp},(∀ b ∈ fp,H' b = none) -> ∀ b ∈ fp,FpOk (xe7 X scope N fp s3 H3) [] H' b:=fun hn b hb =>
  ⟨hn b hb,(J0.ok.exf b hb).1,J0.ok.exfs b hb,.inl hb,(J0.ok.exf b hb).2,fun p hp=>by cases hp⟩
 have lp:codeAny (model X.prog X.w) X.A (.compLoop (.ListComp elt [⟨tg,iter,[tst],0⟩] scope pos) 0 (.ref it) (.ref D) (compEnvC scope (xs2 X.env scope.names []) s3.heap.objs.size X.env))
   (compPost (model X.prog X.w) X.A X.xe use Qv (.ref D) s3.heap.objs.size) { s3 with heap:=h₁,toks:=s3.toks }:=by
  refine yn7 (fun n s'=>∃ i σ' H',Inv (xe7 X scope N fp s3 H3) [] σ' H' s' /\ tn i s'.heap /\ (∀ b ∈ fp,H' b = none) /\ W i n σ' H') ?_ m0 ⟨0,_,H3,J0,st3,fun b hb=>(f3 b hb).1,w0⟩
  rintro n s4 ⟨i,σ4,H4,I4,st4,fr4,w4⟩
  rcases turn i n σ4 H4 w4 with ⟨stop,qn⟩ | ⟨go,step⟩
  ·refine thn (T.done (xe7 X scope N fp s3 H3) rfl rfl rfl hc i [] s4 σ4 H4 (fun _ _=>False) I4 (fpc fr4) st4 stop) fun r s5 ⟨hr,I5⟩=>?_
   subst hr
   have I6:Inv X pins σ H4 s5:=I3.call' (ch:=fp) I5.os I5.base I5.hok I5.bare fun b hb=>⟨(f3 b hb).2.2.2.1,(f3 b hb).2.1,(f3 b hb).2.2.2.2.1,(f3 b hb).2.2.2.2.2⟩
   have fC:FpOk X pins H4 s3.heap.objs.size:=I3.fpOk (Nat.le_refl _) I5.free
   obtain ⟨m,hn,_⟩:=I5.loc
   exact hend D s3.heap.objs.size H4 s5 I6 ⟨m,hn⟩ fC qn
  ·refine thn (T.item (xe7 X scope N fp s3 H3) rfl rfl rfl hc i [] s4 σ4 H4 (fun _ _=>False) I4 (fpc fr4) st4 go) fun r s5 ⟨u,hr,h5⟩=>?_
   subst hr
   refine thn h5 fun _ s6 ⟨x,H6,I6,r6,y6,st6,fr6⟩=>?_
   have I6':=I6.pinned (fpc fr6) (T.obj _ _ st6)
   refine thn (hg fp s3 H3 _ s6 σ4 H6 x u _ I6' r6 (step x H6 y6)) fun _ s7 ⟨σ7,H7,I7,q7⟩=>?_
   refine thn (ht fp s3 H3 _ s7 σ7 H7 _ I7 q7) fun b s7' ⟨H7',I7',q7'⟩=>?_
   cases b with
   | false =>
    obtain ⟨m',hm,w8⟩:=(by simpa using q7':∃ m',m' < n /\ W (i + 1) m' σ7 H7')
    simp only [Bool.false_eq_true,if_false]; refine ⟨m',hm,i + 1,σ7,_,I7'.unpinned,T.keep _ _ _ st6 fun b hb o e=>(I7'.pin (b,o) (List.mem_append_right _ (List.mem_append_right _ (xh1 hb e)))).1,fun b hb=>?_,w8⟩
    obtain ⟨o,e,d⟩:=T.obj _ _ st6 b hb
    exact (I7'.pin (b,o) (List.mem_append_right _ (List.mem_append_right _ (xh1 hb e)))).2.1
   | true =>
   simp only [if_true] at q7' ⊢
   refine thn (he fp s3 H3 _ s7' σ7 H7' _ I7' q7') fun u8 s8 ⟨v8,H8,I8,r8,xs,e8,l8,m',hm,w8⟩=>?_
   refine thn (yi5 _ s8 σ7 H8 (.ref D) [v8] (.ref D) [u8] (fun _ H9=>H9 = upd H8 D (.lst (xs ++ [v8]))) I8 rfl (.cons r8 .nil) ⟨D,xs,v8,rfl,rfl,e8,l8,rfl⟩) fun _ s9 ⟨v9,H9,I9,_,e9⟩=>?_
   subst e9
   refine ⟨m',hm,i + 1,σ7,_,I9.unpinned,T.keep _ _ _ st6 fun b hb o e=>(I9.pin (b,o) (List.mem_append_right _ (List.mem_append_right _ (xh1 hb e)))).1,fun b hb=>?_,w8⟩
   obtain ⟨o,e,d⟩:=T.obj _ _ st6 b hb
   exact (I9.pin (b,o) (List.mem_append_right _ (List.mem_append_right _ (xh1 hb e)))).2.1
 exact codeAny_compStart_list lp (T.self _ 0 _ _ _ st3 lp)
theorem yy2 {wi:TI} {g:TG} {tt:TT} {te:TE} (N:List Str) (js:List (Option Nat)) (hc:X.calm = true) (hi:PI X tg iter wi)
  (hg:∀ fp s H,PG (xe7 X scope N fp s H) tg g) (ht:∀ fp s H,PT (xe7 X scope N fp s H) tst tt) (he:∀ fp s H,PE (xe7 X scope N fp s H) elt te) (hk:scope.kind = .function:=by rfl) (hck:xm8 X scope N js = true:=by rfl)
  (hs:∀ x,foldedSetIterable iter X.env x = pure x:=by intro _; rfl):PE X (.ListComp elt [⟨tg,iter,[tst],0⟩] scope pos) (yl6 js wi g tt te):=by
 intro pins s σ H Q I h
 rw [eval_ListComp]
 refine xx7 (use:=none) hc hi hk hck hg ht he hs I h fun D C H' s' I' hC fC q=>?_
 obtain ⟨m,hn⟩:=hC
 refine ⟨m,hn,fun h' sb=>?_⟩
 obtain ⟨f0,f1,f2,f3,f4,f5⟩:=fC
 exact ⟨.ref D,H',I'.turned (t':=s'.toks) (fun b o hb e=>(sb.2 b hb).trans e) f0 f1 f3 f4 f5,rfl,q⟩
end
section
variable {X:Cx}
theorem yp3:∀ {ks:List (List Key × Addr)} {its:List Value},Vals (ks.map fun x=>V.ref x.2) its -> its = ks.map fun x=>Value.ref x.2
 | [],its,rv=>by rw [List.map_nil] at rv; cases rv; rfl
 | k :: ks,its,rv=>by
  rw [List.map_cons] at rv
  cases rv with
  | cons r1 t1=>cases r1; rw [List.map_cons,yp3 t1]
theorem yv2 (hc:X.calm = true) (hu:X.A.units + 64 < cLine):xl4 X (.type "set") (fun xs H Q=>∃ (l:Addr) (ks:List (List Key × Addr)),xs = [V.ref l] /\ H l = some (.lst (ks.map fun x=>V.ref x.2)) /\ xn1 H ks /\ (∀ z ∈ ks,yl1 z.1) /\ (∀ zs:List (List Key × Addr),(∀ z ∈ zs,z ∈ ks) -> (zs.map (·.1)).Nodup -> zs.length <= 36) /\
  ∀ p zs,H p = none -> Firsts zs ks -> (zs.map (·.1)).Nodup -> Q (.ref p) (upd H p (setO X.prog X.w p zs))):=by
 intro pins s σ H xs us Q I r h
 obtain ⟨l,ks,rfl,hl,hk,ht,hn,q⟩:=h
 obtain ⟨u,rfl,rx⟩:=xt1 r
 cases rx
 refine set_of fun led A' hled hA hH=>?_
 have k0:∀ b o,s.heap.get? b = some o -> (s.heap.push (xf9 led)).get? b = some o:=fun b o e=>Heap.get?_push_of_some _ e
 have hS:(s.heap.push (xf9 led)).get? s.heap.objs.size = some (xf9 led):=Heap.get?_push_size _ rfl
 have I0:Inv X pins σ H { s with heap:=s.heap.push (xf9 led) }:=I.kept (t':=s.toks) k0
 obtain ⟨_,its,n,rv,e1⟩:=(show xe1 X.prog X.w H _ l (.lst (ks.map fun x=>V.ref x.2)) from I0.hok l _ hl)
 have hi:its = ks.map fun x=>Value.ref x.2:=yp3 rv
 refine upd_list (s:={ s with heap:=s.heap.push (xf9 led) }) (kn:=xc2 X.prog X.w) (p:=l) (items:=its.toArray) (l:=ks) (by rw [hH]; exact I.ok.hd hc) (by omega) hled hS ⟨_,e1,rfl,_,rfl⟩ (by simpa using hi) hn (fun x hx=>⟨xs9 I0.hok (hk x hx),(yg3 I0.hok (hk x hx) (ht x hx)).2⟩) fun s' zs kp g o d hz hf=>?_
 have nS:s.heap.get? s.heap.objs.size = none:=xq2 _
 have keep:∀ b o,s.heap.get? b = some o -> s'.heap.get? b = some o:=fun b o e=>kp b o (by rintro rfl; rw [nS] at e; cases e) (k0 b o e)
 have I1:Inv X pins σ (upd H s.heap.objs.size (setO X.prog X.w s.heap.objs.size zs)) { s with heap:=s'.heap,toks:=s'.toks }:=I.laid (t':=s'.toks) keep (Nat.le_refl _) (setO_ok hz)
 have es:s' = { ({ s with heap:=s'.heap,toks:=s'.toks }:Shared) with drawn:=s'.drawn }:=by
  cases s'
  simp only at g o ⊢
  rw [g,o]
 refine ⟨.ref s.heap.objs.size,_,?_,rfl,q _ zs (I.hok.fresh (Nat.le_refl _)) hf ?_⟩
 ·rw [es]
  exact I1.redrawn _
 ·obtain ⟨_,_,_,_,_,_,_,S,_⟩:=hz
  exact S.nd
end
end L2
namespace LS
open PySem PySem.Spec PyProof.Rows L2
def two:Option (Int × Tok) -> Array Value
 | none=>#[]
 | some (m,t)=>#[.int m t,.int m t]
def Best (r:Int -> Int -> Prop):Option Int -> List Int -> Prop
 | none,l=>l = []
 | some m,l=>m ∈ l /\ ∀ a ∈ l,r m a
section
variable {prog:Program} {w:World} {A:Around} {E:Value -> Shared -> Prop} {s:Shared} {R:Result -> Shared -> Prop}
theorem max_go {I p S:Addr} {its:List Value} {ns:List Int} {d:Value} (hv:Vals (ns.map V.int) its) (hh:A.handled = none) (hIp:p ≠ I) (hSI:S ≠ I) (hSp:S ≠ p) :
  ∀ (k i:Nat) (s:Shared) (c:Nat) (best:Option (Int × Tok)),ns.length - i = k -> i <= ns.length -> s.heap.IsListIter I p i /\ s.heap.IsList p its.toArray -> s.heap.get? S = some { cls:=.type "list",dict:=none,data:=.seq (two best) c,slots:=#[] } -> Best (fun a b=>a >= b) (best.map (·.1)) (ns.take i) ->
   (∀ v h' tk,(ns = [] -> v = d) -> (ns ≠ [] -> ∃ m t,v = .int m t /\ m ∈ ns /\ ∀ a ∈ ns,m >= a) -> (∀ b o,b ≠ S -> b ≠ I -> s.heap.get? b = some o -> h'.get? b = some o) -> R (.ok (.ret v)) { s with heap:=h',toks:=tk }) ->
   codeAny (model prog w) A (.builtin "max.loop" ⟨[.ref I,.none,.ref S],[(Str.ofString "default",d)]⟩) R s:=by
 have W:=Walks.list (prog:=prog) (w:=w) (A:=A.in1) hh I p hIp its.toArray
 have hn:its.toArray.size = ns.length:=by rw [List.size_toArray,<- hv.length,List.length_map]
 have hname:(toString "max" ++ toString ".loop" : String) = "max.loop":=(by decide); intro k
 induction k with
 | zero =>
  intro i s c best hk hil hst hS hB hR
  have hin:i = ns.length:=(by omega); refine codeAny_builtin F.entry_max_loop ?_
  rw [Around.under_plainId F.plain_max_loop _]; show wpAny _ A.in1 (seqItems? (.ref S) >>= _) _ _ s
  refine wpAny_bind (wpAny_seqItems hS rfl ?_); show wpAny _ A.in1 (tryCatch (pyNext (.ref I)) _ >>= _) _ _ s
  refine wpAny_bind (wpAny_tryCatch (W.done s _ _ (by rw [hn,<- hin]; exact hst) fun h' tk hk'=>?_))
  have hS':=hk' S _ (by simpa using hSI) hS
  rw [hin,List.take_length] at hB
  cases best with
  | none =>
   have e:ns = []:=hB
   show wpAny _ A.in1 (rule _ >>= _) _ _ _
   refine wpAny_bind (wpAny_rule (wpAny_pure (hR d h' tk (fun _=>rfl) (fun z=>absurd e z) fun b o _ hb x=>hk' b o (by simpa using hb) x)))
  | some mt =>
   obtain ⟨m,t⟩:=mt
   obtain ⟨b1,b2⟩:=(show m ∈ ns /\ ∀ a ∈ ns,m >= a from hB)
   show wpAny _ A.in1 (updateSeq S (fun _=>#[]) >>= _) _ _ _; have hS2:h'.get? S = some { cls:=.type "list",dict:=none,data:=.seq #[.int m t,.int m t] c,slots:=#[] }:=hS'
   refine wpAny_bind (wpAny_updateSeq hS2 rfl (wpAny_bind (wpAny_letGo (wpAny_pure ?_))))
   exact hR _ _ tk (fun z=>by rw [z] at b1; simp at b1) (fun _=>⟨m,t,rfl,b1,b2⟩) fun b o hbS hb x=>(Heap.get?_update_other _ _ (Ne.symm hbS)).trans (hk' b o (by simpa using hb) x)
 | succ k ih =>
  intro i s c best hk hil hst hS hB hR
  have hlt:i < ns.length:=(by omega); refine codeAny_builtin F.entry_max_loop ?_
  rw [Around.under_plainId F.plain_max_loop _]; show wpAny _ A.in1 (seqItems? (.ref S) >>= _) _ _ s
  refine wpAny_bind (wpAny_seqItems hS rfl ?_); show wpAny _ A.in1 (tryCatch (pyNext (.ref I)) _ >>= _) _ _ s
  refine wpAny_bind (wpAny_tryCatch (W.item i s _ _ (by omega) hst fun v h' tk hP hst' hk'=>?_))
  have hS':=hk' S _ (by simpa using hSI) hS
  have hP':its[i]? = some v:=by simpa using hP
  obtain ⟨x,hx1,hx2⟩:=xr2 hv hP'
  obtain ⟨n,hn1,hn2⟩:∃ n,ns[i]? = some n /\ x = V.int n:=by
   rw [List.getElem?_map,List.getElem?_eq_getElem hlt] at hx1
   exact ⟨ns[i],List.getElem?_eq_getElem hlt,(Option.some.inj hx1).symm⟩
  subst hn2
  obtain ⟨t,rfl⟩:=(show ∃ t,v = Value.int n t from hx2)
  have tk1:ns.take (i + 1) = ns.take i ++ [n]:=by rw [List.take_add_one,hn1]; rfl
  have put:∀ c':Nat,(h'.update S (Obj.mapSeq fun _=>#[.int n t,.int n t])).IsListIter I p (i + 1) /\ (h'.update S (Obj.mapSeq fun _=>#[.int n t,.int n t])).IsList p its.toArray:=fun _=>by
   refine W.frame (i + 1) h' _ hst' fun b hb o e=>(Heap.get?_update_other _ _ fun z:S = b=>?_).trans e
   rcases List.mem_cons.mp hb with q | q
   ·exact hSI (z.trans q)
   ·exact hSp (z.trans (by simpa using q))
  cases best with
  | none =>
   show wpAny _ A.in1 (updateSeq S (fun _=>#[Value.int n t,Value.int n t]) >>= _) _ _ _
   refine wpAny_bind (wpAny_updateSeq hS' rfl ?_); rw [hname]
   have e:ns.take i = []:=hB
   refine wpAny_pure ⟨plainId_quiet F.plain_max_loop _,ih (i + 1) _ _ (some (n,t)) (by omega) hlt (put 0) (Heap.get?_update_self _ hS' rfl) ?_ fun v' h2 tk2 g1 g2 g3=>hR v' h2 tk2 g1 g2 fun b o hbS hb x=>g3 b o hbS hb ((Heap.get?_update_other _ _ (Ne.symm hbS)).trans (hk' b o (by simpa using hb) x))⟩
   rw [tk1,e]
   show n ∈ ([] ++ [n]:List Int) /\ ∀ a ∈ ([] ++ [n]:List Int),n >= a
   exact ⟨by simp,fun a ha=>by simp at ha; omega⟩
  | some mt =>
   obtain ⟨m,u⟩:=mt
   obtain ⟨b1,b2⟩:=(show m ∈ ns.take i /\ ∀ a ∈ ns.take i,m >= a from hB)
   have cmp:=CmpOf.ints_gt (prog:=prog) (w:=w) (A:=A.in1) (P:=fun j v=>∃ t,v = Value.int (if j = 0 then n else m) t) (fun j=>if j = 0 then n else m) (fun _ _ z=>z)
   show wpAny _ A.in1 (tryCatch (holding [Value.int n t,Value.int n t] (richCompare .Gt (.int n t) (.int m u) >>= _)) _ >>= _) _ _ _
   refine wpAny_bind (wpAny_tryCatch (wpAny_holding (wpAny_bind (cmp 0 1 (.int n t) (.int m u) _ _ _ ⟨t,rfl⟩ ⟨u,rfl⟩ (wpAny_bind (wpAny_holding (wpAny_truthy_bool (wpAny_bind (wpAny_letGo (wpAny_pure ?_)))))))))) 
   have hS2:h'.get? S = some { cls:=.type "list",dict:=none,data:=.seq #[.int m u,.int m u] c,slots:=#[] }:=hS'
   change wpAny _ _ (if decide (n > m) = true then _ else _) _ _ _
   by_cases hb:n > m
   ·rw [decide_eq_true hb,if_pos rfl]
    refine wpAny_bind (wpAny_updateSeq hS2 rfl (wpAny_bind (wpAny_letGo ?_)))
    rw [hname]
    refine wpAny_pure ⟨plainId_quiet F.plain_max_loop _,ih (i + 1) _ _ (some (n,t)) (by omega) hlt (put 0) (Heap.get?_update_self _ hS' rfl) ?_ fun v' h2 tk2 g1 g2 g3=>hR v' h2 tk2 g1 g2 fun b o hbS hb x=>g3 b o hbS hb ((Heap.get?_update_other _ _ (Ne.symm hbS)).trans (hk' b o (by simpa using hb) x))⟩
    rw [tk1]; show n ∈ ns.take i ++ [n] /\ ∀ a ∈ ns.take i ++ [n],n >= a
    refine ⟨by simp,fun a ha=>?_⟩
    rcases List.mem_append.mp ha with q | q
    ·have:=b2 a q; omega
    ·simp at q; omega
   ·rw [decide_eq_false hb,if_neg Bool.false_ne_true]
    refine wpAny_bind (wpAny_letGo ?_); rw [hname]
    refine wpAny_pure ⟨plainId_quiet F.plain_max_loop _,ih (i + 1) _ c (some (m,u)) (by omega) hlt hst' hS' ?_ fun v' h2 tk2 g1 g2 g3=>hR v' h2 tk2 g1 g2 fun b o hbS hb x=>g3 b o hbS hb (hk' b o (by simpa using hb) x)⟩
    rw [tk1]; show m ∈ ns.take i ++ [n] /\ ∀ a ∈ ns.take i ++ [n],m >= a
    refine ⟨List.mem_append_left _ b1,fun a ha=>?_⟩
    rcases List.mem_append.mp ha with q | q
    ·exact b2 a q
    ·simp at q; omega
theorem ze1 (a v:Value):argsOk "max" ⟨[a],[(Str.ofString "default",v)]⟩:=by unfold argsOk; kernel_rfl
theorem max_def {p:Addr} {its:List Value} {ns:List Int} {d:Value} {Q:Value -> Shared -> Prop} (hv:Vals (ns.map V.int) its) (hh:A.handled = none) (hp:s.heap.IsList p its.toArray)
  (h:∀ v h' tk,(ns = [] -> v = d) -> (ns ≠ [] -> ∃ m t,v = .int m t /\ m ∈ ns /\ ∀ a ∈ ns,m >= a) -> (∀ b o,s.heap.get? b = some o -> h'.get? b = some o) -> Q v { s with heap:=h',toks:=tk }) :
  wpAny (model prog w) A (call (.builtin "max") [.ref p] [(Str.ofString "default",d)]) Q E s:=by
 have hname:(toString "max" ++ toString ".loop" : String) = "max.loop":=(by decide); obtain ⟨op,hop,hrest⟩:=id hp
 have hpl:=Heap.lt_size hop
 refine kmk_tree F.kind_max F.plain_max F.entry_max (ze1 _ _) ?_
 show wpAny _ A.in1 (Builtin.Builtins.bindParams "max" ["key","default"] 0 ⟨[],[(Str.ofString "default",d)]⟩ >>= _) _ _ s
 refine wpAny_bind (wpAny_of_eq (show Builtin.Builtins.bindParams "max" ["key","default"] 0 ⟨[],[(Str.ofString "default",d)]⟩ = pure [none,some d] from rfl) (wpAny_bind (wpAny_pure (wpAny_bind (wpAny_pyIter_list hp (wpAny_bind (wpAny_newList ?_ (Nat.zero_le _))))))))
 rw [hname]
 generalize hoi:({ cls:=Value.type "list_iterator",data:=Data.fields #[Value.ref p,Value.int 0 0] }:Obj) = oI
 have k1:∀ b o,s.heap.get? b = some o -> ((s.heap.push oI).push (seqObj "list" #[] 0)).get? b = some o:=fun b o e=>Heap.get?_push_of_some _ (Heap.get?_push_of_some _ e)
 have z1:(s.heap.push oI).objs.size = s.heap.objs.size + 1:=Heap.size_push ..
 have z2:s.heap.objs.size < (s.heap.push oI).objs.size:=by rw [z1]; exact Nat.lt_succ_self _
 refine wpAny_pure ⟨plainId_quiet F.plain_max_loop _,max_go hv hh (I:=s.heap.objs.size) (S:=(s.heap.push oI).objs.size) (Nat.ne_of_lt hpl) (Nat.ne_of_gt z2) (Nat.ne_of_gt (Nat.lt_trans hpl z2)) ns.length 0 _ 0 none (by omega) (Nat.zero_le _) ⟨⟨oI,Heap.get?_push_of_some _ (Heap.get?_push_size _ (by rw [<- hoi]; rfl)),by rw [<- hoi],by rw [<- hoi]; rfl⟩,⟨op,k1 _ _ hop,hrest⟩⟩ (Heap.get?_push_size _ rfl) rfl fun v h' tk g1 g2 g3=>?_⟩
 exact h v h' tk g1 g2 fun b o e=>g3 b o (Nat.ne_of_lt (Nat.lt_trans (Heap.lt_size e) z2)) (Nat.ne_of_lt (Heap.lt_size e)) (k1 b o e)
end
end LS
namespace L2
open PySem PySem.Spec PyProof.Rows LS
def CallKR (X:Cx) (f:Value) (ks:List Str) (r:List V -> List V -> Hp -> VK -> Prop):Prop :=
 ∀ (pins:List (Addr × Obj)) (s:Shared) (σ:St) (H:Hp) (xs zs:List V) (us ws:List Value) (Q:VK),Inv X pins σ H s -> Vals xs us -> Vals zs ws -> r xs zs H Q -> wpAny (model X.prog X.w) X.A (call f us (ks.zip ws)) (EP X pins σ Q) X.xe s
def tCBK (r:List V -> List V -> Hp -> VK -> Prop) (t tk:TA):TE:=fun σ H Q=>t σ H fun vs H1=>tk σ H1 fun zs H2=>r vs zs H2 Q
section
variable {X:Cx}
theorem yy3 {id:String} {ks:List Str} {r:List V -> List V -> Hp -> VK -> Prop} {x:Str} {p pos:Pos} {e:Expr} {es:List Expr} {kws:List Keyword} {t tk:TA} (hc:CallKR X (.builtin id) ks r) (hg:Gl X x) (hm:X.mg x = none) (hv:bootBuiltins x = some (.builtin id)) (ha:PA X (e :: es) t) (hk:PK X kws tk)
  (hn:x ≠ "__name__":=by decide) (hdb:(x == ("__debug__" : Str)) = false:=by decide) (hks:(backToKw pos (keywordEach kws X.env)).filterMap (·.1) = ks:=by rfl)
  (he:backTo pos (starEach (e :: es) X.env) = (false,eval e X.env) :: backTo pos (starEach es X.env):=by rfl) (hplain:(backTo pos (starEach (e :: es) X.env)).any (·.1) = false:=by rfl)
  (hall:(backToKw pos (keywordEach kws X.env)).all (·.1.isSome) = true:=by rfl) (hkw:(backToKw pos (keywordEach kws X.env)).any (·.1.isNone) = false:=by rfl):PE X (.Call (.Name x p) (e :: es) kws pos) (tCBK r t tk):=by
 intro pins s σ H Q I h
 refine wpAny_Call_Name_kw (xw7 I hg hm hv ?_ hn hdb)
 refine PyProof.Rows.callWith_kw (thn (ha pos pins s σ H _ I h) fun us s1 ⟨vs,H1,I1,r1,q1⟩=>thn (hk pos pins s1 σ H1 _ I1 q1) fun ws s2 ⟨zs,H2,I2,r2,q2⟩=>?_) he hplain hall hkw
 rw [hks]
 exact hc pins s2 σ H2 vs zs us ws Q I2 r1 r2 q2
theorem zd7 (K:Frag) (hc:X.calm = true) (hK:X.K = K:=by rfl):CallKR X (.builtin "max") ["default"] (fun xs zs H Q=>∃ (p:Addr) (ns:List Int) (d:Int),xs = [.ref p] /\ zs = [.int d] /\ SqL K H p (ns.map V.int) /\ ∀ m,(ns = [] -> m = d) -> (ns ≠ [] -> m ∈ ns /\ ∀ a ∈ ns,m >= a) -> Q (.int m) H):=by
 subst hK
 intro pins s σ H xs zs us ws Q I r rz h
 obtain ⟨p,ns,d,rfl,rfl,hq,q⟩:=h
 obtain ⟨u,rfl,rfl⟩:=xt1 r
 obtain ⟨w',rfl,rw'⟩:=xt1 rz
 obtain ⟨t,rfl⟩:=(show ∃ t,w' = Value.int d t from rw')
 obtain ⟨its,rv,pl,hz⟩:=I.list hq
 refine max_def (d:=.int d t) rv (I.ok.hd hc) pl.isList fun v h' tk g1 g2 g3=>?_
 by_cases e:ns = []
 ·rw [g1 e]
  exact ⟨.int d,H,I.kept (t':=tk) g3,⟨t,rfl⟩,q d (fun _=>rfl) (fun z=>absurd e z)⟩
 ·obtain ⟨m,t2,e1,e2,e3⟩:=g2 e
  rw [e1]
  exact ⟨.int m,H,I.kept (t':=tk) g3,⟨t2,rfl⟩,q m (fun z=>absurd z e) fun _=>⟨e2,e3⟩⟩
end
theorem xy2:bootBuiltins "sorted" = Option.some (Value.builtin "sorted"):=by decide +kernel
theorem yb7 {X:Cx} (K:Frag) (hK:X.K = K:=by rfl):xl4 X (.type "list") (fun xs H Q=>∃ p ys,xs = [.ref p] /\ SqL K H p ys /\ ∀ l,H l = none -> Q (.ref l) (upd H l (.lst ys))):=by
 subst hK
 intro pins s σ H xs us Q I r h
 obtain ⟨p,ys,e,hq,q⟩:=h
 exact yk1 pins s σ H xs us Q I r ⟨p,ys,e,.inl hq,q⟩
section
variable {X:Cx} {tg:Expr}
end
open PySem PySem.Spec PyProof.Rows LS PySem.SeqAt
section
variable {X:Cx} {pins:List (Addr × Obj)} {σ:St} {H:Hp} {s:Shared}
end
section
variable {X:Cx} {pins:List (Addr × Obj)} {σ:St} {H:Hp} {s:Shared}
end
theorem px_meth {X:Cx} {k:Nat} {f C:Addr} {fd:FuncData} {ps:List Str} {sp:Sp} {dvs:List V} {ds:List Value} {m:Str} {pos apos:Pos} {e o:Expr} {es:List Expr} {ta:TE} {t:TA} {pl:Sem Bool} (hx:X.ex = []) (he:∀ E,PE (X.wish E) o ta) (c:Cls X.K C) (hm:Meth X.K C m f) (F:FnOk X.prog X.w X.K X.mg X.base (CXE X.prog X.w) k f fd ps sp) (hr:Room k X.A) (hb:xd1 X.K fd ps ds) (hd:Vals dvs ds) (ha:∀ E,PA (X.wish E) (e :: es) t)
  (hst:starEach (e :: es) X.env = (false,eval e X.env) :: starEach es X.env:=by rfl) (hpl:(backTo pos (starEach es X.env)).any (·.1) = false:=by rfl)
  (ht:eval (.Call (.Attribute o m apos) (e :: es) [] pos) X.env = (eval o X.env >>= fun ov=>standAt apos.atName >>= fun _=>holding [ov] (getMethod ov m pl) >>= fun r=>callWith pos r.1 r.2 (backTo pos (starEach (e :: es) X.env)) (backToKw pos (keywordEach [] X.env))):=by rfl) :
  PX X (.Call (.Attribute o m apos) (e :: es) [] pos) (fun E=>tMeth C m sp dvs E ta t):=by
 intro pins s σ H Q E I h
 refine methodCall_KW (pl:=pl) (thn (he (XP X pins σ E) pins s σ H _ (I.wish _) h) fun u s1 ⟨x,H1,I1,rx,a,dx,fs,ex,ea,l,q⟩=>?_) ht
 subst ex
 obtain rfl:u = Value.ref a:=rx
 refine yb1 I1.unwish ea c hm l ?_
 refine callWith_K (first:=[.ref a]) (h₀:=X.base) I.ok.mod.kin hm.kp (thn (ha (XP X pins σ E) pos pins s1 σ H1 _ I1 q) fun us s2 ⟨vs,H2,I2,r,q2⟩=>⟨I2.unwish.kIn,?_⟩) hst hpl
 exact run_fnX (us:=.ref a :: us) (vs:=.ref a :: vs) hx F hr hb hd I2.unwish (.cons rfl r) q2
section
variable {X:Cx}
end
theorem yv0 {D:Addr} {lo:Int} {n:Nat} {g:TG} {tt:TT} {te:TE} {σ0:St} {H1:Hp} {Q:Hp -> Prop} (p:Nat -> Bool) (f:Nat -> V) (ok:St -> Prop)
  (hD:H1 D = none) (hz:n <= 1000) (h0:ok σ0)
  (hs:∀ i σ' H (N:St -> Bool -> V -> Hp -> Prop),i < n -> ok σ' -> Same H1 H -> (∀ σ3 H4,Same H H4 -> ok σ3 -> N σ3 (p i) (f i) H4) -> g (.int (lo + i)) σ' H fun σ3 H3=>tt σ3 H3 fun b H4=>if b = true then te σ3 H4 fun v H5=>N σ3 true v H5 else N σ3 false (f i) H4)
  (hd:∀ H',Same H1 H' -> H' D = some (.lst (((List.range n).filter p).map f)) -> Q H') :
  ∃ W:Nat -> Nat -> St -> Hp -> Prop,(∃ m,W 0 m σ0 (upd H1 D (.lst []))) /\
   ∀ i m σ' H',W i m σ' H' -> ((Itr lo n).stop i H' /\ Q H') \/ ((Itr lo n).go i H' /\ ∀ x H2,(Itr lo n).yld i H' x H2 -> g x σ' H2 fun σ3 H3=>tt σ3 H3 fun b H4=>if b = true then te σ3 H4 fun v H5=>∃ xs,H5 D = some (.lst xs) /\ xs.length < sizeLine /\ ∃ m',m' < m /\ W (i + 1) m' σ3 (upd H5 D (.lst (xs ++ [v]))) else ∃ m',m' < m /\ W (i + 1) m' σ3 H4):=by
 refine ⟨fun i m σ' H'=>m = n - i /\ i <= n /\ ok σ' /\ Same H1 H' /\ H' D = some (.lst (((List.range i).filter p).map f)),⟨n,by simp,Nat.zero_le _,h0,Same.new hD,xa1⟩,?_⟩
 rintro i m σ' H' ⟨rfl,hi,hok,hsm,hy⟩
 by_cases hlt:i < n
 ·refine .inr ⟨hlt,fun x H2 y=>?_⟩
  obtain ⟨e,y⟩:=y
  subst e y
  have sml:(((List.range i).filter p).map f).length < sizeLine:=by
   rw [List.length_map]
   have:=List.length_filter_le p (List.range i)
   rw [List.length_range] at this
   exact Nat.lt_of_lt_of_le (show _ < 1001 by omega) (by decide)
  refine hs i σ' _ (fun σ3 b v H5=>if b = true then ∃ ys,H5 D = some (.lst ys) /\ ys.length < sizeLine /\ ∃ m',m' < n - i /\ (m' = n - (i + 1) /\ i + 1 <= n /\ ok σ3 /\ Same H1 (upd H5 D (.lst (ys ++ [v]))) /\ (upd H5 D (.lst (ys ++ [v]))) D = some (.lst (((List.range (i + 1)).filter p).map f)))
   else ∃ m',m' < n - i /\ (m' = n - (i + 1) /\ i + 1 <= n /\ ok σ3 /\ Same H1 H5 /\ H5 D = some (.lst (((List.range (i + 1)).filter p).map f)))) hlt hok hsm fun σ3 H4 s4 ok3=>?_
  cases hp:p i with
  | true =>
   rw [if_pos rfl]
   refine ⟨_,s4 _ _ hy,sml,n - (i + 1),by omega,rfl,hlt,ok3,(hsm.trans s4).upd hD,?_⟩
   rw [xa1,List.range_succ,List.filter_append,List.map_append]
   simp [hp]
  | false =>
   rw [if_neg Bool.false_ne_true]; refine ⟨n - (i + 1),by omega,rfl,hlt,ok3,hsm.trans s4,?_⟩
   rw [List.range_succ,List.filter_append,List.map_append,s4 _ _ hy]
   simp [hp]
 ·have e:i = n:=by omega
  subst e
  exact .inl ⟨Nat.le_refl _,hd H' hsm hy⟩
theorem hu1 {A:Around} {k:Nat} (hr:Room k A):A.units + 1 < cLine:=Nat.lt_of_le_of_lt (Nat.add_le_add_left (by decide) _) hr.units
end L2
namespace LS
open PySem PySem.Spec PyProof.Rows L2
section
variable {prog:Program} {w:World} {A:Around} {E:Value -> Shared -> Prop} {s:Shared}
end
end LS
namespace L2
open PySem PySem.Spec PyProof.Rows LS
section
variable {X:Cx} {tg iter elt tst:Expr} {scope:Scope} {pos:Pos}
theorem yh3 {wi:TI} {g:TG} {tt:TT} {te:TE} (N:List Str) (js:List (Option Nat)) {i:Nat} {y:Str} {py spos:Pos} (hN:X.N.Nodup) (hi':X.N[i]? = some y) (hx:Loc X.env.scope y) (hc:X.calm = true) (hi:PI X tg iter wi)
  (hg:∀ fp s H,PG (xe7 X scope N fp s H) tg g) (ht:∀ fp s H,PT (xe7 X scope N fp s H) tst tt) (he:∀ fp s H,PE (xe7 X scope N fp s H) elt te) (hk:scope.kind = .function:=by rfl) (hck:xm8 X scope N js = true:=by rfl)
  (hs:∀ x,foldedSetIterable iter X.env x = pure x:=by intro _; rfl)
  (hsw:swapsWith (.ListComp elt [⟨tg,iter,[tst],0⟩] scope pos) (some (.Name y py)) spos.line X.env = pure true:=by rfl)
  (hf:X.fn y = true \/ X.env.scope.names.lookup y = some .local:=by first | exact .inl rfl | exact .inr rfl | assumption) :
  PS X (.Assign [.Name y py] (.ListComp elt [⟨tg,iter,[tst],0⟩] scope pos) spos) (tAsg (yl6 js wi g tt te) (gName i)):=by
 intro pins s σ H D I h
 rw [exec_Assign_Name_used _ _ _ _ hsw]
 refine wpAny_bind (wpAny_standAt (wpAny_bind ?_))
 show wpAny _ X.A (do let _ <- comprehension (.ListComp elt [⟨tg,iter,[tst],0⟩] scope pos) scope X.env _ (newList []) false (eval iter X.env) (some (assign (.Name y py) X.env))) _ _ s
 refine wpAny_bind (wpAny_mono (xx7 (use:=some (assign (.Name y py) X.env)) (Qv:=fun _ s'=>SP X pins D .next s') hc hi hk hck hg ht he hs I h fun D' C H' s' I' hC fC q=>?_) (fun _ s' hq=>wpAny_pure (wpAny_pure hq)) fun _ _ e=>e)
 obtain ⟨m,hn⟩:=hC
 show wpAny _ X.A (assign (.Name y py) X.env (.ref D')) _ _ _
 refine wpAny_assign_Name (yg5 (v:=.ref D') I' hN hi' hx rfl (fun s2 I2 hch=>?_) hf)
 obtain ⟨a,sb,ha⟩:=hch
 obtain ⟨f0,f1,f2,f3,f4,f5⟩:=fC
 have hCa:C ≠ a:=by
  rcases ha with z | z
  ·rw [z]; exact f1
  ·exact (f4 _ _ z).symm
 refine ⟨m,hn.sameBut sb hCa,fun h' sb'=>?_⟩
 exact ⟨_,H',I2.turned (t':=s2.toks) (fun b o hb e=>(sb'.2 b hb).trans e) f0 f1 f3 f4 f5,q⟩
end
end L2
namespace LS
open PySem PySem.W PyProof.Rows
section
variable {prog:Program} {w:World} {A:Around} {E:Value -> Shared -> Prop} {s:Shared}
end
end LS
namespace L2
open PySem PySem.Spec PyProof.Rows LS
section
variable {X:Cx} {pins:List (Addr × Obj)} {σ:St} {H:Hp} {s:Shared}
end
end L2
namespace LS
open PySem PySem.W PyProof.Rows
section
variable {prog:Program} {w:World} {A:Around} {E:Value -> Shared -> Prop} {s:Shared}
end
section
variable {prog:Program} {w:World} {A:Around} {E:Value -> Shared -> Prop} {s:Shared} {R:Result -> Shared -> Prop}
end
end LS
namespace L2
open PySem PySem.Spec PyProof.Rows LS
section
variable {X:Cx}
theorem yf9:∀ {ks:List Str} {its:List Value},StrsAre its ks -> Vals (ks.map V.str) its
 | _,_,.nil=>.nil
 | _,_,.cons x t h=>.cons ⟨t,rfl⟩ (yf9 h)
end
end L2
namespace LS
open PySem PySem.W PyProof.Rows
section
variable {prog:Program} {w:World} {A:Around} {E:Value -> Shared -> Prop} {s:Shared}
end
end LS
namespace L2
open PySem PySem.Spec PyProof.Rows LS
section
variable {X:Cx}
end
theorem for_held {d:Addr} {o:Obj} {vs:List V} {g:TG} {tb:TS} {D:Ends} {σ:St} {H:Hp} (Pv:Nat -> St -> Hp -> Prop) (h0:Pv 0 σ H) (hl:∀ i σ H,i <= vs.length -> Pv i σ H -> H d = some (held d o))
  (hs:∀ i v σ H,vs[i]? = some v -> Pv i σ H -> g v σ H fun σ2 H2=>tb { D with nx:=Pv (i + 1),ct:=Pv (i + 1),bk:=D.nx } σ2 H2) (hd:∀ σ H,Pv vs.length σ H -> D.nx σ H) :
  ∃ W:Nat -> Nat -> St -> Hp -> Prop,(∃ m,W 0 m σ H) /\ ∀ i m σ H,W i m σ H ->
   ((Itd d o vs).stop i H /\ D.nx σ H) \/ ((Itd d o vs).go i H /\ ∃ N:St -> Hp -> Prop,(∀ σ' H',N σ' H' -> ∃ m',m' < m /\ W (i + 1) m' σ' H') /\ ∀ v H',(Itd d o vs).yld i H v H' -> g v σ H' fun σ2 H2=>tb { D with nx:=N,ct:=N,bk:=D.nx } σ2 H2):=by
 refine ⟨fun i m σ H=>m = vs.length - i /\ i <= vs.length /\ Pv i σ H,⟨vs.length,by simp,Nat.zero_le _,h0⟩,?_⟩
 rintro i m σ H ⟨rfl,hi,p⟩
 have qd:=hl i σ H hi p
 by_cases hlt:i < vs.length
 ·refine .inr ⟨⟨qd,hlt⟩,Pv (i + 1),fun σ' H' p'=>⟨vs.length - (i + 1),by omega,rfl,hlt,p'⟩,fun v H' y=>?_⟩
  obtain ⟨e,hv⟩:=y
  subst e
  exact hs i v σ _ hv p
 ·have e:i = vs.length:=by omega
  subst e
  exact .inl ⟨⟨qd,Nat.le_refl _⟩,hd σ H p⟩
theorem zb8 {d:Addr} {o:Obj} {ks vs:List V} {g:TG} {tb:TS} {D:Ends} {σ:St} {H:Hp} (Pv:Nat -> St -> Hp -> Prop) (h0:Pv 0 σ H) (hl:∀ i σ H,i <= ks.length -> Pv i σ H -> H d = some (held d o))
  (hs:∀ i k v p σ H,ks[i]? = some k -> vs[i]? = some v -> Pv i σ H -> H p = none -> g (.ref p) σ (upd H p (.tup [k,v])) fun σ2 H2=>tb { D with nx:=Pv (i + 1),ct:=Pv (i + 1),bk:=D.nx } σ2 H2) (hd:∀ σ H,Pv ks.length σ H -> D.nx σ H) :
  ∃ W:Nat -> Nat -> St -> Hp -> Prop,(∃ m,W 0 m σ H) /\ ∀ i m σ H,W i m σ H ->
   ((Itp d o ks vs).stop i H /\ D.nx σ H) \/ ((Itp d o ks vs).go i H /\ ∃ N:St -> Hp -> Prop,(∀ σ' H',N σ' H' -> ∃ m',m' < m /\ W (i + 1) m' σ' H') /\ ∀ v H',(Itp d o ks vs).yld i H v H' -> g v σ H' fun σ2 H2=>tb { D with nx:=N,ct:=N,bk:=D.nx } σ2 H2):=by
 refine ⟨fun i m σ H=>m = ks.length - i /\ i <= ks.length /\ Pv i σ H,⟨ks.length,by simp,Nat.zero_le _,h0⟩,?_⟩
 rintro i m σ H ⟨rfl,hi,p⟩
 have qd:=hl i σ H hi p
 by_cases hlt:i < ks.length
 ·refine .inr ⟨⟨qd,hlt⟩,Pv (i + 1),fun σ' H' p'=>⟨ks.length - (i + 1),by omega,rfl,hlt,p'⟩,fun v H' y=>?_⟩
  obtain ⟨r,k,v',e,hr,h1,h2,e2⟩:=y
  subst e e2
  exact hs i k v' r σ _ h1 h2 p hr
 ·have e:i = ks.length:=by omega
  subst e
  exact .inl ⟨⟨qd,Nat.le_refl _⟩,hd σ H p⟩
end L2
namespace LS
open PySem PySem.W PyProof.Rows
section
variable {prog:Program} {w:World} {A:Around} {E:Value -> Shared -> Prop} {s:Shared}
end
end LS
namespace L2
open PySem PySem.Spec PyProof.Rows LS
section
variable {X:Cx}
end
section
variable {prog:Program} {w:World} {A:Around} {E:Value -> Shared -> Prop} {s:Shared} {K:Frag} {ea C CL f dx:Addr} {oe:Obj}
end
section
variable {X:Cx} {o e value:Expr} {es:List Expr} {f x:Str} {pos pos' apos np:Pos} {ta tv:TE} {t:TA}
end
section
variable {X:Cx} {CX:CXT} {k:Nat}
end
end L2
namespace LS
open PySem PySem.Spec PySem.Builtin PySem.Builtin.Str PyProof.Rows
section
variable {prog:Program} {w:World} {A:Around} {E:Value -> Shared -> Prop} {s:Shared} {x y:Str} {t u:Tok} {Q:Value -> Shared -> Prop}
end
end LS
namespace L2
open PySem PySem.Spec PyProof.Rows LS
section
variable {X:Cx}
end
section
variable {X:Cx} {e:Expr} {pos:Pos}
end
end L2
namespace LS
open PySem PySem.W PyProof.Rows
section
variable {prog:Program} {w:World} {A:Around}
theorem yv5 (hh:A.handled = none) (I d:Addr) (hne:d ≠ I) (es:Array DictEntry) (ep:Nat) :
  Walks prog w A I [I,d] [I] es.size (fun i v=>∃ e,es[i]? = some e /\ v = e.key) (fun i h=>h.IsKeyIter I d i es.size ep /\ RawD h d es ep) where
 sub:=fun b hb=>by simp at hb; simp [hb]
 frame:=fun _ _ _ st hk=>⟨st.1.at fun o e=>hk I (by simp) o e,st.2.keep fun o e=>hk d (by simp) o e⟩
 item:=fun i s Q E hi st hQ=>by
  obtain ⟨e,hx⟩:∃ e,es[i]? = some e:=⟨es[i],by simp [hi]⟩
  refine yp9 st.1 st.2 hx fun h' hit' hs'=>?_
  exact hQ e.key h' s.toks ⟨e,hx,rfl⟩ ⟨hit',st.2.keep fun o eo=>hs'.extBut d o hne eo⟩ fun b o hb e=>hs'.extBut b o (fun h=>hb (by simp [h])) e
 done:=fun s Q E st hQ=>zc5 hh st.1 st.2 (Nat.le_refl _) fun h' he'=>hQ h' s.toks fun b o hb e=>he' b o (fun h=>hb (by simp [h])) e
 self:=fun _ _ _ _ st hQ=>wpAny_pyIter_keyiter st.1 hQ
theorem kdl_raw {d:Addr} {es:Array DictEntry} {ep:Nat} (lo:(d == sysModules) = false):KdlSrc prog w "dict" d d es.size (fun i v=>∃ e,es[i]? = some e /\ v = e.key) (fun h=>RawD h d es ep) where
 type:=fun _ hm=>hm.typeIs
 there:=fun _ hm=>let ⟨_,ho,_⟩:=hm; ⟨Heap.lt_size ho,Heap.lt_size ho⟩
 keep:=fun _ _ hm hk=>hm.keep fun o e=>hk d (.inl rfl) o e
 notList:=by decide
 notTuple:=by decide
 hint:=fun _ _ _ _ hm hq=>kdl_hint_dict hm.typeIs hq
 iter:=fun _ s hh hm=>⟨_,_,(fun _ _ hq=>yq4 lo hm hq),yv5 hh _ d (Nat.ne_of_lt (let ⟨_,ho,_⟩:=hm; Heap.lt_size ho)) es ep,⟨⟨_,Heap.get?_push_size _ rfl,rfl,rfl⟩,hm.keep fun o e=>Heap.get?_push_of_some _ e⟩⟩
end
theorem yu4 {P:Nat -> Value -> Prop} {acc:Array Value} {vs:List Value} (h:ItemsOf P acc vs.length) (hp:∀ j v,P j v -> vs[j]? = some v):acc.toList = vs:=by
 apply List.ext_getElem?
 intro i
 by_cases c:i < vs.length
 ·have hs:i < acc.size:=by rw [h.1]; exact c
  have e:acc[i]? = some acc[i]:=Array.getElem?_eq_getElem hs
  rw [Array.getElem?_toList,e,hp _ _ (h.2 i _ e)]
 ·rw [List.getElem?_eq_none (by rw [Array.length_toList,h.1]; omega),List.getElem?_eq_none (by omega)]
end LS
namespace L2
open PySem PySem.Spec PyProof.Rows LS
section
variable {X:Cx}
theorem xs4:∀ ks:List (List Key × Addr × Value),Vals (ks.map fun x=>V.ref x.2.1) (ks.map fun x=>Value.ref x.2.1)
 | []=>.nil
 | k :: ks=>.cons rfl (xs4 ks)
theorem yb6 (hc:X.calm = true):xl4 X (.type "list") (fun xs H Q=>∃ d kvs,xs = [V.ref d] /\ H d = some (.dT kvs) /\
  ∀ l (ks:List (List Key × Addr)),H l = none -> ks.map (·.1) = kvs.map (·.1) -> xn1 H ks -> Q (.ref l) (upd H l (.lst (ks.map fun x=>V.ref x.2)))):=by
 intro pins s σ H xs us Q I r h
 obtain ⟨d,kvs,rfl,hd,q⟩:=h
 obtain ⟨u,rfl,rx⟩:=xt1 r
 cases rx
 obtain ⟨z1,z2,ys,rel,o,es,ep,h1,h2,h3,h4,h5⟩:=(show xe1 X.prog X.w H s.heap d (.dT kvs) from I.hok d _ hd)
 have hl:kvs.length = ys.length:=Paired.length rel
 have hsz:es.size = ys.length:=by rw [<- Array.length_toList,h4,List.length_map]
 refine kdl_call (kdl_raw z2) (I.ok.hd hc) ⟨o,h1,h2,h3⟩ (by rw [hsz,<- hl]; exact z1) fun h' tk acc c kp e hacc=>?_
 have ha:acc.toList = ys.map fun x=>Value.ref x.2.1:=by
  refine yu4 (P:=fun i v=>∃ e,es[i]? = some e /\ v = e.key) (by rw [List.length_map,<- hsz]; exact hacc) fun j v ⟨e,he,ev⟩=>?_
  rw [<- Array.getElem?_toList,h4,List.getElem?_map] at he
  obtain ⟨y,hy,rfl⟩:=Option.map_eq_some_iff.mp he
  rw [List.getElem?_map,hy,ev]; rfl
 refine ⟨.ref s.heap.objs.size,_,I.laid (t':=tk) kp (Nat.le_refl _) (show xe1 X.prog X.w _ h' _ (.lst ((ys.map fun x=>(x.1,x.2.1)).map fun x=>V.ref x.2)) from ⟨?_,acc.toList,c,?_,by simpa using e⟩),rfl,q _ _ (I.hok.fresh (Nat.le_refl _)) ?_ ?_⟩
 ·rw [List.length_map,List.length_map,<- hl]; exact z1
 ·rw [ha,List.map_map]; exact xs4 ys
 ·rw [List.map_map]
  clear q hl hsz z1 hacc ha h4 h5 hd
  induction rel with
  | nil=>rfl
  | cons h t ih=>rw [List.map_cons,List.map_cons,ih,h.1]; rfl
 ·intro z hz
  obtain ⟨y,hy,rfl⟩:=List.mem_map.mp hz
  clear q hl hsz z1 hacc ha h4 h5 hd
  induction rel with
  | nil=>cases hy
  | cons h t ih =>
   rcases List.mem_cons.mp hy with rfl | hy
   ·rw [<- h.1]; exact h.2.1
   ·exact ih hy (List.mem_map.mpr ⟨_,hy,rfl⟩)
def xm9 (kvs:List (Key × V)):Prop:=∀ kv ∈ kvs,∃ y:Str,kv.1 = Sum.inr y
def keyS:Key -> Str
 | .inr y=>y
 | .inl _=>Str.ofString ""
def keysOf (kvs:List (Key × V)):List Str:=kvs.map fun kv=>keyS kv.1
theorem za1 {P:Program} {w:World} {y:Str} {v:Value} (h:(xc2 P w).is (.inr y) v = true):∃ t,v = Value.str y t:=by
 rcases xd7 (show ym8 (.inr y) v = true from h) with ⟨i,t,e,rfl⟩ | ⟨x,t,e,rfl⟩
 ·cases e
 ·cases e; exact ⟨t,rfl⟩
theorem za0 {kvs:List (Key × V)} {vs:List (Key × Value)} (r:KV kvs vs) {j:Nat} {k:Key} {x:Value} (h:vs[j]? = some (k,x)):∃ v,kvs[j]? = some (k,v) /\ RelV v x:=by
 induction r generalizing j with
 | nil=>simp at h
 | @cons p q ps qs a t ih =>
  cases j with
  | zero =>
   simp only [List.getElem?_cons_zero,Option.some.injEq] at h
   subst h
   obtain ⟨pk,pv⟩:=p
   obtain ⟨a1,a2⟩:=a
   simp only at a1
   subst a1
   exact ⟨pv,rfl,a2⟩
  | succ j=>simpa using ih (by simpa using h)
theorem ya0 {P:Program} {w:World} {kvs:List (Key × V)} {vs:List (Key × Value)} {acc:Array Value} (r:KV kvs vs) (ht:xm9 kvs) (h:ItemsOf (fun i v=>∃ k x,vs[i]? = some (k,x) /\ (xc2 P w).is k v = true) acc vs.length):Vals ((keysOf kvs).map V.str) acc.toList:=by
 have hl:=KV.length r
 have hs:=h.1
 have al:∀ (ns:List Str) (us:List Value),ns.length = us.length -> (∀ (i:Nat) (n:Str) (u:Value),ns[i]? = some n -> us[i]? = some u -> ∃ t,u = Value.str n t) -> Vals (ns.map V.str) us:=by
  intro ns
  induction ns with
  | nil=>intro us e _; cases us with | nil=>exact .nil | cons a b=>simp at e
  | cons n ns ih =>
   intro us e hh
   cases us with
   | nil=>simp at e
   | cons u us=>exact .cons (hh 0 n u rfl rfl) (ih us (by simpa using e) fun i n' u' a b=>hh (i + 1) n' u' (by simpa using a) (by simpa using b))
 refine al _ _ (by have:acc.toList.length = acc.size:=Array.length_toList; rw [keysOf,List.length_map]; omega) fun i n u hn hu=>?_
 rw [Array.getElem?_toList] at hu
 obtain ⟨k,x,hk,hi⟩:=h.2 i u hu
 obtain ⟨v,hv,_⟩:=za0 r hk
 rw [keysOf,List.getElem?_map,hv] at hn
 obtain ⟨y,ey⟩:=ht _ (List.mem_of_getElem? hv)
 simp only at ey
 subst ey
 simp only [Option.map_some,Option.some.injEq,keyS] at hn
 subst hn
 exact za1 hi
theorem yv3 (hc:X.calm = true):xl4 X (.type "list") (fun xs H Q=>∃ d kvs,xs = [V.ref d] /\ H d = some (.dK kvs) /\ xm9 kvs /\ ∀ l,H l = none -> Q (.ref l) (upd H l (.lst ((keysOf kvs).map V.str)))):=by
 intro pins s σ H xs us Q I r h
 obtain ⟨d,kvs,rfl,hd,ht,q⟩:=h
 obtain ⟨u,rfl,rx⟩:=xt1 r
 cases rx
 obtain ⟨z,lo,vs,rel,dd⟩:=yn4 I.hok hd
 obtain ⟨ep,da⟩:=dd.dictAt
 refine kdl_call (kdl_dict lo) (I.ok.hd hc) da (by rw [<- KV.length rel]; exact z) fun h' tk acc c kp e hacc=>?_
 exact ⟨.ref s.heap.objs.size,_,I.laid (t':=tk) kp (Nat.le_refl _) (show xe1 X.prog X.w _ h' _ (.lst ((keysOf kvs).map V.str)) from ⟨by rw [List.length_map,keysOf,List.length_map]; exact z,acc.toList,c,ya0 rel ht hacc,by simpa using e⟩),rfl,q _ (I.hok.fresh (Nat.le_refl _))⟩
theorem yp0:∀ {ks:List Str} {its:List Value},Vals (ks.map V.str) its -> StrsAre its ks
 | [],its,rv=>by rw [List.map_nil] at rv; cases rv; exact .nil
 | k :: ks,its,rv=>by
  rw [List.map_cons] at rv
  cases rv with
  | cons r1 t1 =>
   obtain ⟨t,e⟩:=r1
   subst e
   exact .cons k t (yp0 t1)
theorem yo0 (hc:X.calm = true):xl4 X (.builtin "sorted") (fun xs H Q=>∃ d kvs,xs = [V.ref d] /\ H d = some (.dK kvs) /\ xm9 kvs /\ kvs.length < 64 /\ ∀ (p:Addr) (ys:List Str),H p = none -> ys.Perm (keysOf kvs) -> Q (.ref p) (upd H p (.lst (ys.map V.str)))):=by
 intro pins s σ H xs us Q I r h
 obtain ⟨d,kvs,rfl,hd,ht,hn,q⟩:=h
 obtain ⟨u,rfl,rx⟩:=xt1 r
 cases rx
 obtain ⟨z,lo,vs,rel,dd⟩:=yn4 I.hok hd
 obtain ⟨ep,da⟩:=dd.dictAt
 have hvl:=KV.length rel
 refine Calls.call_function_entry kind_sorted plain_sorted entry_sorted (args_sorted1 _) ?_; unfold Builtin.«sorted»
 refine wpAny_bind (m:=checkCount "sorted" 1 1 _) (wpAny_pure ?_)
 refine wpAny_bind (kdu_collect (A:=X.A.in1) (kdl_dict lo) (I.ok.hd hc) da (by rw [<- hvl]; exact z) fun h' tk acc kp hacc=>?_)
 have hA:StrsAre acc.toList (keysOf kvs):=yp0 (ya0 rel ht hacc)
 have hal:acc.toList.length = kvs.length:=by rw [Array.length_toList,hacc.1,hvl]
 refine wpAny_bind (wpAny_newList ?_ (by rw [hal,sizeLine_eq]; omega))
 have hoL:(h'.push (seqObj "list" acc.toList.toArray 0)).get? h'.objs.size = some (seqObj "list" acc.toList.toArray 0):=Heap.get?_push_size _ rfl
 have hnone:s.heap.get? h'.objs.size = none:=by
  cases e:s.heap.get? h'.objs.size with
  | none=>rfl
  | some o=>have:=kp _ _ e; rw [xq2] at this; cases this
 refine wpAny_bind (wpAny_holding (wpAny_call_entry slot_list_sort ⟨_,hoL,rfl⟩ entry_list_sort (list_sort_treeK (s:={ s with heap:=h'.push (seqObj "list" acc.toList.toArray 0),toks:=tk }) strKind_oneLt hoL hA.keysOf (fun v₁ v₂ rest e=>keyKind_strs (by rw [<- e]; exact hA)) (by omega) fun st' hp' hs'=>⟨_,rfl,?_⟩) (args_list_sort _)))
 obtain ⟨ss',a1,a2,a3⟩:=sorted_out_str hA hp' hs'
 obtain ⟨e,he⟩:=sortedHeap_at (out:=(arrOf st').map (·.2)) hoL
 have I0:Inv X pins σ H { s with heap:=h',toks:=tk }:=I.kept (t':=tk) kp
 refine wpAny_pure ⟨_,rfl,.ref h'.objs.size,_,I0.laid (o:=.lst (ss'.map V.str)) (t':=tk) (fun b ob eb=>?_) (Nat.le_refl _) ⟨xg2 (by rw [List.length_map,a2.length_eq,keysOf,List.length_map]; omega),((arrOf st').map (·.2)).toList,e,yf9 a1,by rw [he]⟩,rfl,q _ ss' (I0.hok.fresh (Nat.le_refl _)) a2⟩
 have ne:b ≠ h'.objs.size:=by rintro rfl; rw [xq2] at eb; cases eb
 have e1:(h'.push (seqObj "list" acc.toList.toArray 0)).get? b = some ob:=Heap.get?_push_of_some _ eb
 show (sortedHeap _ _ _ _).get? b = some ob
 rw [sortedHeap_old ne (Heap.lt_size e1)]
 exact e1
end
structure DKs (P:Program) (w:World) (d:Addr) (o:Obj) (kvs:List (Key × V)) (es:Array DictEntry) (ep:Nat):Prop where
 sys:(d == sysModules) = false
 ex:o.ExactDict
 data:o.data = .dict es ep
 keys:xm9 kvs -> Vals ((keysOf kvs).map V.str) (es.toList.map (·.key))
 vals:Vals (kvs.map (·.2)) (es.toList.map (·.val))
 back:∀ (H:Hp) (h:Heap),h.get? d = some o -> xe1 P w H h d (.dK kvs)
section
variable {X:Cx} {pins:List (Addr × Obj)} {σ:St} {H:Hp} {s:Shared}
theorem yl4 {α:Type}:∀ {as:List α} {us:List Value} (f:α -> V),as.length = us.length -> (∀ (i:Nat) a u,as[i]? = some a -> us[i]? = some u -> RelV (f a) u) -> Vals (as.map f) us
 | [],[],_,_,_=>.nil
 | [],_ :: _,_,e,_=>by simp at e
 | _ :: _,[],_,e,_=>by simp at e
 | a :: as,u :: us,f,e,h=>.cons (h 0 a u rfl rfl) (yl4 f (by simpa using e) fun i a' u' x y=>h (i + 1) a' u' (by simpa using x) (by simpa using y))
theorem yq6 {d:Addr} {kvs:List (Key × V)} (I:Inv X pins σ H s) (e:H d = some (.dK kvs)):∃ o es ep,DKs X.prog X.w d o kvs es ep /\ Inv X pins σ (upd H d (held d o)) s:=by
 obtain ⟨z,lo,vs,rel,o,es,ep,h1,h2,h3,h4,h5,h6⟩:=yn4 I.hok e
 have hl:es.toList.length = vs.length:=h5.length
 have kl:=KV.length rel
 have at':∀ (i:Nat) (e:DictEntry) (kv:Key × V),es.toList[i]? = some e -> kvs[i]? = some kv -> (xc2 X.prog X.w).is kv.1 e.key = true /\ RelV kv.2 e.val:=by
  intro i e kv he hk
  have hi:i < vs.length:=by have:=(List.getElem?_eq_some_iff.mp he).1; omega
  obtain ⟨k,x,hkx⟩:∃ k x,vs[i]? = some (k,x):=⟨vs[i].1,vs[i].2,by simp [hi]⟩
  obtain ⟨a,b⟩:=h5.get? he hkx
  obtain ⟨v,hv,r⟩:=za0 rel hkx
  rw [hk] at hv
  cases hv
  rw [b]
  exact ⟨a,r⟩
 refine ⟨o,es,ep,⟨lo,h2,h3,fun ht=>?_,?_,fun H' h q=>⟨z,lo,vs,rel,o,es,ep,q,h2,h3,h4,h5,h6⟩⟩,?_⟩
 ·rw [keysOf,List.map_map]
  refine yl4 _ (by rw [List.length_map]; omega) fun i kv u hk hu=>?_
  rw [List.getElem?_map] at hu
  obtain ⟨e,he,rfl⟩:=Option.map_eq_some_iff.mp hu
  obtain ⟨a,_⟩:=at' i e kv he hk
  obtain ⟨y,ey⟩:=ht kv (List.mem_of_getElem? hk)
  rw [ey] at a
  show RelV (V.str (keyS kv.1)) e.key
  rw [ey]
  exact za1 a
 ·refine yl4 _ (by rw [List.length_map]; omega) fun i kv u hk hu=>?_
  rw [List.getElem?_map] at hu
  obtain ⟨e,he,rfl⟩:=Option.map_eq_some_iff.mp hu
  exact (at' i e kv he hk).2
 ·exact I.write (x:=d) (e:=d) (o:=held d o) (t':=s.toks) (h':=s.heap) (by rw [e]; trivial) (.inl rfl) (fun b u _ q=>q) ⟨o,h1⟩ (ym9 h1)
theorem yj1 {d:Addr} {o:Obj} {kvs:List (Key × V)} {es:Array DictEntry} {ep:Nat} (I:Inv X pins σ H s) (e:H d = some (held d o)) (D:DKs X.prog X.w d o kvs es ep):Inv X pins σ (upd H d (.dK kvs)) s:=by
 have h1:=xh5 I.hok e
 exact I.write (x:=d) (e:=d) (t':=s.toks) (h':=s.heap) (by rw [e]; trivial) (.inl rfl) (fun b u _ q=>q) ⟨o,h1⟩ (D.back _ _ h1)
def tHoldK (P:Program) (w:World) (t:TE):TE:=fun σ H Q=>∃ d kvs,H d = some (.dK kvs) /\ ∀ o es ep,DKs P w d o kvs es ep -> t σ (upd H d (held d o)) fun v H1=>H1 d = some (held d o) /\ Q v (upd H1 d (.dK kvs))
theorem yp8 {e:Expr} {t:TE} (h:PE X e t):PE X e (tHoldK X.prog X.w t):=by
 intro pins s σ H Q I q
 obtain ⟨d,kvs,hd,q⟩:=q
 obtain ⟨o,es,ep,D,I1⟩:=yq6 I hd
 exact thn (h pins s σ _ _ I1 (q o es ep D)) fun u s1 ⟨v,H1,I2,r,e1,q1⟩=>⟨v,_,yj1 I2 e1 D,r,q1⟩
def sHoldK (P:Program) (w:World) (t:TS):TS:=fun D σ H=>∃ d kvs,H d = some (.dK kvs) /\ ∀ o es ep,DKs P w d o kvs es ep ->
 t { nx:=fun σ1 H1=>H1 d = some (held d o) /\ D.nx σ1 (upd H1 d (.dK kvs)),rt:=fun _ _=>False } σ (upd H d (held d o))
theorem ps_holdK {e:Stmt} {t:TS} (h:PS X e t):PS X e (sHoldK X.prog X.w t):=by
 intro pins s σ H D I q
 obtain ⟨d,kvs,hd,q⟩:=q
 obtain ⟨o,es,ep,Dd,I1⟩:=yq6 I hd
 refine thn (h pins s σ _ _ I1 (q o es ep Dd)) fun f s1 sp=>?_
 cases f with
 | next=>obtain ⟨σ1,H1,I2,e1,q1⟩:=sp; exact ⟨σ1,_,yj1 I2 e1 Dd,q1⟩
 | brk=>obtain ⟨σ1,H1,I2,e1⟩:=sp; exact e1.elim
 | cont=>obtain ⟨σ1,H1,I2,e1⟩:=sp; exact e1.elim
 | ret u=>obtain ⟨v,σ1,H1,I2,r,e1⟩:=sp; exact e1.elim
end
theorem yj9 {d D:Addr} {o:Obj} {ks vs:List V} {g:TG} {tt:TT} {te:TE} {σ0:St} {H1:Hp} {Q:Hp -> Prop} (p:Nat -> Bool) (f:Nat -> V) (ok:St -> Prop)
  (hd0:H1 d = some (held d o)) (hD:H1 D = none) (hz:ks.length <= 1000) (h0:ok σ0)
  (hs:∀ (i:Nat) k v q σ' H (N:St -> Bool -> V -> Hp -> Prop),ks[i]? = some k -> vs[i]? = some v -> ok σ' -> Same H1 H -> H q = some (.tup [k,v]) -> (∀ σ3 H4,Same H H4 -> ok σ3 -> N σ3 (p i) (f i) H4) -> g (.ref q) σ' H fun σ3 H3=>tt σ3 H3 fun b H4=>if b = true then te σ3 H4 fun v H5=>N σ3 true v H5 else N σ3 false (f i) H4)
  (hd:∀ H',Same H1 H' -> H' D = some (.lst (((List.range ks.length).filter p).map f)) -> Q H') :
  ∃ W:Nat -> Nat -> St -> Hp -> Prop,(∃ m,W 0 m σ0 (upd H1 D (.lst []))) /\
   ∀ i m σ' H',W i m σ' H' -> ((Itp d o ks vs).stop i H' /\ Q H') \/ ((Itp d o ks vs).go i H' /\ ∀ x H2,(Itp d o ks vs).yld i H' x H2 -> g x σ' H2 fun σ3 H3=>tt σ3 H3 fun b H4=>if b = true then te σ3 H4 fun v H5=>∃ xs,H5 D = some (.lst xs) /\ xs.length < sizeLine /\ ∃ m',m' < m /\ W (i + 1) m' σ3 (upd H5 D (.lst (xs ++ [v]))) else ∃ m',m' < m /\ W (i + 1) m' σ3 H4):=by
 refine ⟨fun i m σ' H'=>m = ks.length - i /\ i <= ks.length /\ ok σ' /\ Same H1 H' /\ H' D = some (.lst (((List.range i).filter p).map f)),⟨ks.length,by simp,Nat.zero_le _,h0,Same.new hD,xa1⟩,?_⟩
 rintro i m σ' H' ⟨rfl,hi,hok,hsm,hy⟩
 by_cases hlt:i < ks.length
 ·refine .inr ⟨⟨hsm _ _ hd0,hlt⟩,fun x H2 y=>?_⟩
  obtain ⟨q,k,v,rfl,hq,hk,hv,rfl⟩:=y
  have s1:=Same.new (o:=HO.tup [k,v]) hq
  have sml:(((List.range i).filter p).map f).length < sizeLine:=by
   rw [List.length_map]
   have:=List.length_filter_le p (List.range i)
   rw [List.length_range] at this
   exact Nat.lt_of_lt_of_le (show _ < 1001 by omega) (by decide)
  refine hs i k v q σ' _ (fun σ3 b v H5=>if b = true then ∃ ys,H5 D = some (.lst ys) /\ ys.length < sizeLine /\ ∃ m',m' < ks.length - i /\ (m' = ks.length - (i + 1) /\ i + 1 <= ks.length /\ ok σ3 /\ Same H1 (upd H5 D (.lst (ys ++ [v]))) /\ (upd H5 D (.lst (ys ++ [v]))) D = some (.lst (((List.range (i + 1)).filter p).map f)))
   else ∃ m',m' < ks.length - i /\ (m' = ks.length - (i + 1) /\ i + 1 <= ks.length /\ ok σ3 /\ Same H1 H5 /\ H5 D = some (.lst (((List.range (i + 1)).filter p).map f)))) hk hv hok (hsm.trans s1) xa1 fun σ3 H4 s4 ok3=>?_
  have hy1:=s1 _ _ hy
  cases hp:p i with
  | true =>
   rw [if_pos rfl]
   refine ⟨_,s4 _ _ hy1,sml,ks.length - (i + 1),by omega,rfl,hlt,ok3,((hsm.trans s1).trans s4).upd hD,?_⟩
   rw [xa1,List.range_succ,List.filter_append,List.map_append]
   simp [hp]
  | false =>
   rw [if_neg Bool.false_ne_true]; refine ⟨ks.length - (i + 1),by omega,rfl,hlt,ok3,(hsm.trans s1).trans s4,?_⟩
   rw [List.range_succ,List.filter_append,List.map_append,s4 _ _ hy1]
   simp [hp]
 ·have e:i = ks.length:=by omega
  subst e
  exact .inl ⟨⟨hsm _ _ hd0,Nat.le_refl _⟩,hd H' hsm hy⟩
section
variable {X:Cx} {pins:List (Addr × Obj)} {σ:St}
theorem upd_two {H:Hp} {p:Addr} {o o':HO}:upd (upd H p o) p o' = upd H p o':=by
 funext b
 by_cases c:b = p
 ·rw [c,xa1,xa1]
 ·rw [xa3 c,xa3 c,xa3 c]
end
section
variable {X:Cx}
end
end L2
namespace LS
open PySem PySem.Builtin PySem.Calls PyProof.Rows PySem.SeqAt PySem.MeetsSeq PySem.MeetsSeq2 PySem.MeetsSeq3
section
variable {prog:Program} {w:World}
section
variable {K:Type} [DecidableEq K] {knd:HeapKind prog w K}
end
end
end LS
namespace L2
open PySem PySem.Spec PyProof.Rows LS
theorem yy6 {α β:Type} {R:α -> β -> Prop} {as:List α} {bs:List β} (h:Paired R as bs):∀ {i:Nat} {a:α},as[i]? = some a -> ∃ b,bs[i]? = some b /\ R a b:=by
 induction h with
 | nil=>intro i a e; simp at e
 | cons r t ih =>
  intro i a e
  cases i with
  | zero=>simp only [List.getElem?_cons_zero,Option.some.injEq] at e; subst e; exact ⟨_,rfl,r⟩
  | succ i=>simpa using ih (by simpa using e)
theorem yy5 {α β:Type} {R:α -> β -> Prop} {as:List α} {bs:List β} (h:Paired R as bs):∀ {i:Nat} {b:β},bs[i]? = some b -> ∃ a,as[i]? = some a /\ R a b:=by
 induction h with
 | nil=>intro i a e; simp at e
 | cons r t ih =>
  intro i a e
  cases i with
  | zero=>simp only [List.getElem?_cons_zero,Option.some.injEq] at e; subst e; exact ⟨_,rfl,r⟩
  | succ i=>simpa using ih (by simpa using e)
theorem yv8 {κ:Type} [DecidableEq κ] {kvs:List (κ × V)} {k:κ} {v:V} (h:valV kvs k = some v):∃ j:Nat,kvs[j]? = some (k,v):=by
 unfold valV at h
 obtain ⟨kv,h1,h2⟩:=Option.map_eq_some_iff.mp h
 obtain ⟨j,hj⟩:=List.mem_iff_getElem?.mp (List.mem_of_find?_eq_some h1)
 have:=List.find?_some h1
 simp only [decide_eq_true_eq] at this
 exact ⟨j,by rw [hj,<- this,<- h2]⟩
end L2
namespace LS
open PySem PySem.Calls PyProof.Rows
section
variable {prog:Program} {w:World} {A:Around} {E:Value -> Shared -> Prop} {s:Shared}
end
end LS
namespace L2
open PySem PySem.Spec PyProof.Rows LS
def anyD (d:Addr) (ks:List V):HO:=.ext fun h=>(d == sysModules) = false /\ ∃ o es ep,h.get? d = some o /\ o.ExactDict /\ o.data = .dict es ep /\ Vals ks (es.toList.map (·.key))
theorem anyD_ok {P:Program} {w:World} {H':Hp} {h:Heap} {a:Addr} {ks:List V} (x:(a == sysModules) = false /\ ∃ o es ep,h.get? a = some o /\ o.ExactDict /\ o.data = .dict es ep /\ Vals ks (es.toList.map (·.key))):xe1 P w H' h a (anyD a ks):=by
 obtain ⟨_,o,es,ep,h1,h2⟩:=id x
 exact ⟨x,⟨o,h1⟩,fun g1 g2 ⟨z,o',es',ep',q1,q⟩ k=>⟨z,o',es',ep',k _ q1,q⟩⟩
section
variable {X:Cx}
theorem zd9 (K:Frag) (hK:X.K = K:=by rfl):xl4 X (.builtin "isinstance") (fun xs H Q=>∃ d ks n b,xs = [.ref d,.ty n] /\ H d = some (anyD d ks) /\ kitOne K (.type "dict") (.type n) = some b /\ Q (.bl b) H):=by
 subst hK
 intro pins s σ H xs us Q I r h
 obtain ⟨d,ks,n,b,rfl,hd,hb,q⟩:=h
 obtain ⟨u,w',rfl,r1,r2⟩:=yv7 r
 cases r1
 cases r2
 obtain ⟨_,o,es,ep,h1,h2,_⟩:=(I.hok d _ hd).1
 exact kia_one kitx_dict I.kIn ⟨o,h1,h2.1⟩ hb (fun z=>nomatch z) fun tk=>⟨.bl b,H,I.tok tk,rfl,q⟩
def tHoldN (t:TE):TE:=fun σ H Q=>∃ d ks,H d = some (anyD d ks) /\ ∀ o es ep,(d == sysModules) = false -> o.ExactDict -> o.data = .dict es ep -> Vals ks (es.toList.map (·.key)) -> t σ (upd H d (held d o)) fun v H1=>H1 d = some (held d o) /\ Q v (upd H1 d (anyD d ks))
theorem pe_holdN {e:Expr} {t:TE} (h:PE X e t):PE X e (tHoldN t):=by
 intro pins s σ H Q I q
 obtain ⟨d,ks,hd,q⟩:=q
 obtain ⟨z,o,es,ep,h1,h2,h3,h4⟩:=(I.hok d _ hd).1
 have I1:Inv X pins σ (upd H d (held d o)) s:=I.write (x:=d) (e:=d) (o:=held d o) (t':=s.toks) (h':=s.heap) (by rw [hd]; trivial) (.inl rfl) (fun b u _ q=>q) ⟨o,h1⟩ (ym9 h1)
 refine thn (h pins s σ _ _ I1 (q o es ep z h2 h3 h4)) fun u s1 ⟨v,H1,I2,r,e1,q1⟩=>⟨v,_,?_,r,q1⟩
 have g1:=xh5 I2.hok e1
 exact I2.write (x:=d) (e:=d) (t':=s1.toks) (h':=s1.heap) (by rw [e1]; trivial) (.inl rfl) (fun b u _ q=>q) ⟨o,g1⟩ (anyD_ok ⟨z,o,es,ep,g1,h2,h3,h4⟩)
theorem pe_orE {e:Expr} {t u:TE} (h1:PE X e t) (h2:PE X e u):PE X e (fun σ H Q=>t σ H Q \/ u σ H Q):=fun pins s σ H Q I h=>h.elim (h1 pins s σ H Q I) (h2 pins s σ H Q I)
theorem callOr {f:Value} {r1 r2:List V -> Hp -> VK -> Prop} (h1:xl4 X f r1) (h2:xl4 X f r2):xl4 X f (fun xs H Q=>r1 xs H Q \/ r2 xs H Q):=fun pins s σ H xs us Q I r h=>h.elim (h1 pins s σ H xs us Q I r) (h2 pins s σ H xs us Q I r)
end
section
variable {K:Frag}
end
def Makes (H0:Hp) (S:St -> Prop) (P:Hp -> V -> Prop) (t:TE):Prop:=∀ (σ:St) (H:Hp) (Q:VK),S σ -> Same H0 H -> (∀ y H',Same H H' -> P H' y -> Q y H') -> t σ H Q
def MakesA (H0:Hp) (S:St -> Prop) (P:Nat -> Hp -> V -> Prop) (n:Nat) (t:TA):Prop:=∀ (σ:St) (H:Hp) (Q:List V -> Hp -> Prop),S σ -> Same H0 H -> (∀ ys H',ys.length = n -> Same H H' -> (∀ (j:Nat) y,ys[j]? = some y -> P j H' y) -> Q ys H') -> t σ H Q
def Mono (P:Hp -> V -> Prop):Prop:=∀ (H H':Hp) (y:V),Same H H' -> P H y -> P H' y
structure Itm (C:Cx -> Prop) (H0:Hp) (S:St -> Prop) (P:Hp -> V -> Prop) (e:Expr):Prop where
 ok:∃ te,(∀ X,C X -> PE X e te) /\ Makes H0 S P te
 st:∀ (es:List Expr) (env:Env),starEach (e :: es) env = (false,eval e env) :: starEach es env
def Itms (C:Cx -> Prop) (H0:Hp) (S:St -> Prop) (P:Nat -> Hp -> V -> Prop) (n:Nat) (es:List Expr):Prop:=∃ t,(∀ X,C X -> PA X es t) /\ MakesA H0 S P n t
theorem its_nil {C:Cx -> Prop} {H0:Hp} {S:St -> Prop} {P:Nat -> Hp -> V -> Prop}:Itms C H0 S P 0 []:=⟨_,fun _ _=>xa6,fun σ H Q _ _ k=>k [] H rfl (Same.refl _) (by simp)⟩
theorem its_cons {C:Cx -> Prop} {H0:Hp} {S:St -> Prop} {P:Nat -> Hp -> V -> Prop} {n:Nat} {e:Expr} {es:List Expr} (m:Mono (P 0)) (i:Itm C H0 S (P 0) e) (h:Itms C H0 S (fun j=>P (j + 1)) n es):Itms C H0 S P (n + 1) (e :: es):=by
 obtain ⟨te,p1,m1⟩:=i.ok
 obtain ⟨t,p2,m2⟩:=h
 refine ⟨tCons te t,fun X c=>xa0 (p1 X c) (p2 X c) (i.st es X.env),fun σ H Q hs s k=>m1 σ H _ hs s fun y H1 s1 q1=>m2 σ H1 _ hs (s.trans s1) fun ys H2 l s2 ps=>k (y :: ys) H2 (by rw [List.length_cons,l]) (s1.trans s2) fun j z hz=>?_⟩
 cases j with
 | zero=>rw [List.getElem?_cons_zero] at hz; cases hz; exact m _ _ _ s2 q1
 | succ j=>rw [List.getElem?_cons_succ] at hz; exact ps j z hz
structure Cn (e:Expr) (v:V):Prop where
 pe:∀ X:Cx,PE X e (tC v)
 st:∀ (es:List Expr) (env:Env),starEach (e :: es) env = (false,eval e env) :: starEach es env
theorem yk0 {z:Str} {k:Nat} {pos:Pos}:Cn (.Constant (.str z) k pos) (.str z):=⟨fun _=>xc9,fun _ _=>rfl⟩
inductive Cns:List Expr -> List V -> Prop
 | nil:Cns [] []
 | cons {e:Expr} {v:V} {es:List Expr} {vs:List V} (h:Cn e v) (t:Cns es vs):Cns (e :: es) (v :: vs)
section
variable {C:Cx -> Prop} {H0:Hp} {S:St -> Prop} {P:Hp -> V -> Prop} {pos:Pos} {e:Expr} {v:V}
theorem it_c (c:Cn e v) (h:∀ H,P H v):Itm C H0 S P e:=⟨⟨_,fun X _=>c.pe X,fun _ H _ _ _ k=>k _ H (Same.refl _) (h H)⟩,c.st⟩
theorem its_c:∀ {es:List Expr} {vs:List V},Cns es vs -> Itms C H0 S (fun j _ y=>vs[j]? = some y) vs.length es
 | _,_,.nil=>its_nil
 | _,v :: vs,.cons h t=>its_cons (P:=fun j _ y=>(v :: vs)[j]? = some y) (fun _ _ _ _ z=>z) (it_c h fun _=>rfl) (its_c t)
theorem list_of {ys vs:List V} (l:ys.length = vs.length) (h:∀ (j:Nat) y,ys[j]? = some y -> vs[j]? = some y):ys = vs:=by
 apply List.ext_getElem?
 intro i
 cases e:ys[i]? with
 | some y=>exact (h i y e).symm
 | none=>rw [List.getElem?_eq_none_iff] at e; exact (List.getElem?_eq_none (by omega)).symm
end
end L2
namespace My
open PySem L2
def top (i:Nat):Stmt:=PySem.Challenge.pw_lampcues_k56_groups.main.body.getD i (.Pass ⟨0,0,0,0⟩)
abbrev xj9:Stmt:=(top 7)
abbrev xm1:Stmt:=(top 13)
abbrev xm0:Stmt:=(top 14)
abbrev xl9:Stmt:=(top 15)
abbrev xi2:Stmt:=(top 16)
abbrev xj8:Stmt:=(top 17)
abbrev xf1:Stmt:=(top 18)
abbrev xe3:Stmt:=(top 19)
abbrev xc4:Stmt:=(top 20)
abbrev xk0:Stmt:=(top 23)
abbrev xe4:Stmt:=(top 24)
abbrev xo2:Stmt:=(top 25)
abbrev xl7:Stmt:=(top 26)
abbrev xf2:Stmt:=(top 28)
abbrev xe5:Stmt:=(top 29)
abbrev xf3:Stmt:=(top 33)
abbrev xg9:Stmt:=(xk5 (top 32) 0)
abbrev xh0:Stmt:=(xk5 (top 32) 1)
abbrev xf7:Stmt:=(xk5 (top 32) 2)
abbrev xc8:Stmt:=(xk5 (top 32) 3)
abbrev xg8:Stmt:=(xk5 (top 32) 4)
abbrev xf6:Stmt:=(xk5 (top 32) 7)
abbrev xd9:Stmt:=(xk5 (top 32) 9)
abbrev xd3:Stmt:=(xk5 (top 32) 10)
abbrev xd2:Stmt:=(xk5 (top 32) 11)
abbrev xe0:Stmt:=(xk5 (top 32) 12)
abbrev xc7:Stmt:=(xk5 (top 32) 13)
abbrev xf5:Stmt:=(top 35)
abbrev xi1:Stmt:=(top 36)
abbrev xh8:Stmt:=(top 37)
abbrev xj6:Stmt:=(top 38)
abbrev xh7:Stmt:=(top 39)
abbrev xf4:Stmt:=(top 40)
abbrev xi0:Stmt:=(top 41)
abbrev xg7:Stmt:=(top 42)
abbrev xj7:Stmt:=(top 43)
abbrev xl8:Stmt:=(top 44)
abbrev xh9:Stmt:=(top 45)
abbrev yc9:Stmt:=(top 46)
structure Adr where
 ea:Addr
 eb:FuncData
 ec:Addr
 ed:FuncData
 ee:Addr
 ef:FuncData
 eg:Addr
 eh:FuncData
 ei:Addr
 ej:FuncData
 ek:Addr
 el:FuncData
 em:Addr
 en:FuncData
 eo:Addr
 ep:FuncData
 eq:Addr
 er:FuncData
 es:Addr
 et:FuncData
 eu:Addr
 ev:FuncData
 ew:Addr
 ex:FuncData
 ey:Addr
 ez:FuncData
 ea1:Addr
 eb1:FuncData
 ec1:Addr
 ed1:FuncData
 ee1:Addr
 ef1:FuncData
 eg1:Addr
 eh1:FuncData
 ei1:Addr
 ej1:FuncData
 ek1:Addr
 el1:FuncData
 em1:Addr
 en1:FuncData
 eo1:Addr
 ep1:FuncData
 eq1:Addr
 er1:FuncData
 es1:Addr
 et1:FuncData
 eu1:Addr
 ev1:FuncData
 ew1:Addr
 ex1:FuncData
 ey1:Addr
 ez1:FuncData
 ea2:Addr
 eb2:FuncData
 ec2:Addr
 ed2:FuncData
 ee2:Addr
 ef2:FuncData
 eg2:Addr
 eh2:FuncData
 ei2:Addr
 ej2:FuncData
 ek2:Addr
 el2:FuncData
 em2:Addr
 en2:FuncData
 eo2:Addr
 ep2:FuncData
 eq2:Addr
 er2:FuncData
 es2:Addr
 et2:FuncData
 eu2:Addr
 ev2:FuncData
 ew2:Addr
 ex2:FuncData
 ey2:Addr
 ez2:FuncData
 ea3:Addr
 eb3:Addr
 ec3:Addr
 ed3:Addr
 ee3:Addr
 ef3:Addr
 eg3:Unit
structure Txt (K:Frag) (mg:Str -> Option Value) (A:Adr):Prop where
 ea:Fun K "is_whole" "is_whole" xj9 A.ea A.eb
 eb:xd1 K A.eb ["thing"] []
 ec:mg "is_whole" = some (.ref A.ea)
 ed:Fun K "is_lamp" "is_lamp" xm1 A.ec A.ed
 ee:xd1 K A.ed ["thing"] []
 ef:mg "is_lamp" = some (.ref A.ec)
 eg:Fun K "is_side" "is_side" xm0 A.ee A.ef
 eh:xd1 K A.ef ["thing"] []
 ei:mg "is_side" = some (.ref A.ee)
 ej:Fun K "is_slot" "is_slot" xl9 A.eg A.eh
 ek:xd1 K A.eh ["thing"] []
 el:mg "is_slot" = some (.ref A.eg)
 em:Fun K "is_bright" "is_bright" xi2 A.ei A.ej
 en:xd1 K A.ej ["slot"] []
 eo:mg "is_bright" = some (.ref A.ei)
 ep:Fun K "is_worth" "is_worth" xj8 A.ek A.el
 eq:xd1 K A.el ["thing"] []
 er:mg "is_worth" = some (.ref A.ek)
 es:Fun K "refuse_slot" "refuse_slot" xf1 A.em A.en
 et:xd1 K A.en ["thing"] []
 eu:mg "refuse_slot" = some (.ref A.em)
 ev:Fun K "refuse_worth" "refuse_worth" xe3 A.eo A.ep
 ew:xd1 K A.ep ["thing"] []
 ex:mg "refuse_worth" = some (.ref A.eo)
 ey:Fun K "has_slots_as_keys" "has_slots_as_keys" xc4 A.eq A.er
 ez:xd1 K A.er ["thing"] []
 ea1:mg "has_slots_as_keys" = some (.ref A.eq)
 eb1:Fun K "is_level" "is_level" xk0 A.es A.et
 ec1:xd1 K A.et ["thing"] []
 ed1:mg "is_level" = some (.ref A.es)
 ee1:Fun K "refuse_level" "refuse_level" xe4 A.eu A.ev
 ef1:xd1 K A.ev ["thing"] []
 eg1:mg "refuse_level" = some (.ref A.eu)
 eh1:Fun K "amount" "amount" xo2 A.ew A.ex
 ei1:xd1 K A.ex ["worth","level"] []
 ej1:mg "amount" = some (.ref A.ew)
 ek1:Fun K "lowered" "lowered" xl7 A.ey A.ez
 el1:xd1 K A.ez ["worth","down"] []
 em1:mg "lowered" = some (.ref A.ey)
 en1:Fun K "refuse_name" "refuse_name" xf2 A.ea1 A.eb1
 eo1:xd1 K A.eb1 ["thing"] []
 ep1:mg "refuse_name" = some (.ref A.ea1)
 eq1:Fun K "refuse_lamps" "refuse_lamps" xe5 A.ec1 A.ed1
 er1:xd1 K A.ed1 ["thing"] []
 es1:mg "refuse_lamps" = some (.ref A.ec1)
 et1:Fun K "refuse_look" "refuse_look" xf3 A.ee1 A.ef1
 eu1:xd1 K A.ef1 ["thing"] []
 ev1:mg "refuse_look" = some (.ref A.ee1)
 ew1:Fun K "__init__" "Board.__init__" xg9 A.eg1 A.eh1
 ex1:xd1 K A.eh1 ["self"] []
 ey1:Mk K A.ea3 A.eg1
 ez1:Fun K "fill" "Board.fill" xh0 A.ei1 A.ej1
 ea2:xd1 K A.ej1 ["self","fader","slot","worth"] []
 eb2:Meth K A.ea3 "fill" A.ei1
 ec2:Fun K "group" "Board.group" xf7 A.ek1 A.el1
 ed2:xd1 K A.el1 ["self","name","lamps"] []
 ee2:Meth K A.ea3 "group" A.ek1
 ef2:Fun K "fill_group" "Board.fill_group" xc8 A.em1 A.en1
 eg2:xd1 K A.en1 ["self","fader","name","side","worth"] []
 eh2:Meth K A.ea3 "fill_group" A.em1
 ei2:Fun K "move" "Board.move" xg8 A.eo1 A.ep1
 ej2:xd1 K A.ep1 ["self","fader","level"] []
 ek2:Meth K A.ea3 "move" A.eo1
 el2:Fun K "mixed" "Board.mixed" xf6 A.eq1 A.er1
 em2:xd1 K A.er1 ["self","look"] []
 en2:Meth K A.ea3 "mixed" A.eq1
 eo2:Fun K "winning" "Board.winning" xd9 A.es1 A.et1
 ep2:xd1 K A.et1 ["self","look","slot"] []
 eq2:Meth K A.ea3 "winning" A.es1
 er2:Fun K "brightest" "Board.brightest" xd3 A.eu1 A.ev1
 es2:xd1 K A.ev1 ["self","look","slot"] []
 et2:Meth K A.ea3 "brightest" A.eu1
 eu2:Fun K "number_by" "Board.number_by" xd2 A.ew1 A.ex1
 ev2:xd1 K A.ex1 ["self","fader","look","slot"] []
 ew2:Meth K A.ea3 "number_by" A.ew1
 ex2:Fun K "down_on" "Board.down_on" xe0 A.ey1 A.ez1
 ey2:xd1 K A.ez1 ["self","lamp"] []
 ez2:Meth K A.ea3 "down_on" A.ey1
 ea3:Fun K "slots_with" "Board.slots_with" xc7 A.ea2 A.eb2
 eb3:xd1 K A.eb2 ["self","look"] []
 ec3:Meth K A.ea3 "slots_with" A.ea2
 ed3:Fun K "_law_cell_at" "_law_cell_at" xf5 A.ec2 A.ed2
 ee3:xd1 K A.ed2 ["_law_script","_law_k"] []
 ef3:mg "_law_cell_at" = some (.ref A.ec2)
 eg3:Fun K "_law_drawn" "_law_drawn" xi1 A.ee2 A.ef2
 eh3:xd1 K A.ef2 ["_law_script","_law_k"] []
 ei3:mg "_law_drawn" = some (.ref A.ee2)
 ej3:Fun K "_law_whole" "_law_whole" xh8 A.eg2 A.eh2
 ek3:xd1 K A.eh2 ["_law_found"] []
 el3:mg "_law_whole" = some (.ref A.eg2)
 em3:Fun K "_law_name" "_law_name" xj6 A.ei2 A.ej2
 en3:xd1 K A.ej2 ["_law_number","_law_form"] []
 eo3:mg "_law_name" = some (.ref A.ei2)
 ep3:Fun K "_law_worth" "_law_worth" xh7 A.ek2 A.el2
 eq3:xd1 K A.el2 ["_law_number"] []
 er3:mg "_law_worth" = some (.ref A.ek2)
 es3:Fun K "_law_is_look" "_law_is_look" xf4 A.em2 A.en2
 et3:xd1 K A.en2 ["_law_found"] []
 eu3:mg "_law_is_look" = some (.ref A.em2)
 ev3:Fun K "_law_lamps" "_law_lamps" xi0 A.eo2 A.ep2
 ew3:xd1 K A.ep2 ["_law_number","_law_form"] []
 ex3:mg "_law_lamps" = some (.ref A.eo2)
 ey3:Fun K "_law_untold" "_law_untold" xg7 A.eq2 A.er2
 ez3:xd1 K A.er2 ["_law_board","_law_fader","_law_name_here","_law_side","_law_worth_here"] []
 ea4:mg "_law_untold" = some (.ref A.eq2)
 eb4:Fun K "_law_deed" "_law_deed" xj7 A.es2 A.et2
 ec4:xd1 K A.et2 ["_law_board","_law_groups","_law_held","_law_number","_law_form"] []
 ed4:mg "_law_deed" = some (.ref A.es2)
 ee4:Fun K "_law_due" "_law_due" xl8 A.eu2 A.ev2
 ef4:xd1 K A.ev2 ["_law_slot","_law_held","_law_order"] []
 eg4:mg "_law_due" = some (.ref A.eu2)
 eh4:Fun K "_law_right" "_law_right" xh9 A.ew2 A.ex2
 ei4:xd1 K A.ex2 ["_law_board","_law_held","_law_order","_law_form"] []
 ej4:mg "_law_right" = some (.ref A.ew2)
 ek4:Fun K "law" "law" yc9 A.ey2 A.ez2
 el4:xd1 K A.ez2 ["_law_script"] []
 em4:mg "law" = some (.ref A.ey2)
 en4:Cls K A.ea3
 eo4:mg "Board" = some (.ref A.ea3)
 ep4:xo1 K A.ea3 "filled"
 eq4:xo1 K A.ea3 "levels"
 er4:xo1 K A.ea3 "groups"
 es4:xo1 K A.ea3 "downs"
 et4:xo1 K A.ea3 "spared"
 eu4:mg "LampError" = some (.ref A.eb3)
 ev4:mg "NoSlot" = some (.ref A.ec3)
 ew4:mg "NoWorth" = some (.ref A.ed3)
 ex4:mg "NoName" = some (.ref A.ee3)
 ey4:ExcC K A.ec3
 ez4:XCls K A.ec3
 ea5:exmOne K (.ref A.ec3) (.ref A.eb3) = some true
 eb5:kitOne K (.ref A.ec3) (.type "ValueError") = some true
 ec5:kitOne K (.ref A.ec3) (.ref A.eb3) = some true
 ed5:kitOne K (.ref A.ec3) (.ref A.ec3) = some true
 ee5:kitOne K (.ref A.ec3) (.ref A.ed3) = some false
 ef5:kitOne K (.ref A.ec3) (.ref A.ee3) = some false
 eg5:ExcC K A.ed3
 eh5:XCls K A.ed3
 ei5:exmOne K (.ref A.ed3) (.ref A.eb3) = some true
 ej5:kitOne K (.ref A.ed3) (.type "ValueError") = some true
 ek5:kitOne K (.ref A.ed3) (.ref A.eb3) = some true
 el5:kitOne K (.ref A.ed3) (.ref A.ec3) = some false
 em5:kitOne K (.ref A.ed3) (.ref A.ed3) = some true
 en5:kitOne K (.ref A.ed3) (.ref A.ee3) = some false
 eo5:ExcC K A.ee3
 ep5:XCls K A.ee3
 eq5:exmOne K (.ref A.ee3) (.ref A.eb3) = some true
 er5:kitOne K (.ref A.ee3) (.type "ValueError") = some true
 es5:kitOne K (.ref A.ee3) (.ref A.eb3) = some true
 et5:kitOne K (.ref A.ee3) (.ref A.ec3) = some false
 eu5:kitOne K (.ref A.ee3) (.ref A.ed3) = some false
 ev5:kitOne K (.ref A.ee3) (.ref A.ee3) = some true
 ew5:mg "isinstance" = none
 ex5:mg "int" = none
 ey5:mg "bool" = none
 ez5:mg "str" = none
 ea6:mg "tuple" = none
 eb6:mg "list" = none
 ec6:mg "dict" = none
 ed6:mg "set" = none
 ee6:mg "sorted" = none
 ef6:mg "reversed" = none
 eg6:mg "max" = none
 eh6:mg "len" = none
 ei6:mg "all" = none
 ej6:mg "min" = none
 ek6:mg "range" = none
 el6:mg "ValueError" = none
 em6:∃ t,mg "LETTERS" = some (.str "abcdefghijklmnopqrstuvwxyz" t)
 en6:∃ t,mg "MOST_LETTERS" = some (.int 8 t)
 eo6:∃ t,mg "MOST_WORTH" = some (.int 1000000000 t)
 ep6:∃ t,mg "MOST_LEVEL" = some (.int 1000 t)
 eq6:∃ t,mg "LOOK" = some (.str "" t)
 er6:mg "SIDES" = some (.ref A.ef3)
 es6:∀ H,SqT K H A.ef3 [.str (Str.ofString "blue"),.str (Str.ofString "bright"),.str (Str.ofString "green"),.str (Str.ofString "pan"),.str (Str.ofString "red"),.str (Str.ofString "tilt")]
theorem yl8:FnScope ["thing"] ["thing"] (xa2 xj9):=⟨rfl,rfl,rfl,by decide +kernel,rfl,by decide +kernel,by decide +kernel⟩
theorem yt0:FnScope ["thing"] ["thing"] (xa2 xm1):=⟨rfl,rfl,rfl,by decide +kernel,rfl,by decide +kernel,by decide +kernel⟩
theorem ye2:(["sign"]:List Str).Nodup:=by decide +kernel
theorem ys9:FnScope ["thing"] ["thing"] (xa2 xm0):=⟨rfl,rfl,rfl,by decide +kernel,rfl,by decide +kernel,by decide +kernel⟩
theorem ys8:FnScope ["thing"] ["thing"] (xa2 xl9):=⟨rfl,rfl,rfl,by decide +kernel,rfl,by decide +kernel,by decide +kernel⟩
theorem yh0:FnScope ["slot"] ["slot"] (xa2 xi2):=⟨rfl,rfl,rfl,by decide +kernel,rfl,by decide +kernel,by decide +kernel⟩
theorem yl7:FnScope ["thing"] ["thing"] (xa2 xj8):=⟨rfl,rfl,rfl,by decide +kernel,rfl,by decide +kernel,by decide +kernel⟩
theorem xy6:FnScope ["thing"] ["thing"] (xa2 xf1):=⟨rfl,rfl,rfl,by decide +kernel,rfl,by decide +kernel,by decide +kernel⟩
theorem xu5:FnScope ["thing"] ["thing"] (xa2 xe3):=⟨rfl,rfl,rfl,by decide +kernel,rfl,by decide +kernel,by decide +kernel⟩
theorem xo4:FnScope ["thing"] ["thing"] (xa2 xc4):=⟨rfl,rfl,rfl,by decide +kernel,rfl,by decide +kernel,by decide +kernel⟩
theorem xe2:(["key"]:List Str).Nodup:=by decide +kernel
theorem yl9:FnScope ["thing"] ["thing"] (xa2 xk0):=⟨rfl,rfl,rfl,by decide +kernel,rfl,by decide +kernel,by decide +kernel⟩
theorem xu6:FnScope ["thing"] ["thing"] (xa2 xe4):=⟨rfl,rfl,rfl,by decide +kernel,rfl,by decide +kernel,by decide +kernel⟩
theorem yx1:FnScope ["worth","level"] ["worth","level"] (xa2 xo2):=⟨rfl,rfl,rfl,by decide +kernel,rfl,by decide +kernel,by decide +kernel⟩
theorem ys7:FnScope ["worth","down"] ["worth","down"] (xa2 xl7):=⟨rfl,rfl,rfl,by decide +kernel,rfl,by decide +kernel,by decide +kernel⟩
theorem xy7:FnScope ["thing"] ["thing"] (xa2 xf2):=⟨rfl,rfl,rfl,by decide +kernel,rfl,by decide +kernel,by decide +kernel⟩
theorem xn4:FnScope ["thing","lamp"] ["thing"] (xa2 xe5):=⟨rfl,rfl,rfl,by decide +kernel,rfl,by decide +kernel,by decide +kernel⟩
theorem xy8:FnScope ["thing"] ["thing"] (xa2 xf3):=⟨rfl,rfl,rfl,by decide +kernel,rfl,by decide +kernel,by decide +kernel⟩
theorem xr7:(["worth"]:List Str).Nodup:=by decide +kernel
theorem yc7:FnScope ["self"] ["self"] (xa2 xg9):=⟨rfl,rfl,rfl,by decide +kernel,rfl,by decide +kernel,by decide +kernel⟩
theorem yc8:FnScope ["self","fader","slot","worth"] ["self","fader","slot","worth"] (xa2 xh0):=⟨rfl,rfl,rfl,by decide +kernel,rfl,by decide +kernel,by decide +kernel⟩
theorem xz0:FnScope ["self","name","lamps"] ["self","name","lamps"] (xa2 xf7):=⟨rfl,rfl,rfl,by decide +kernel,rfl,by decide +kernel,by decide +kernel⟩
theorem xk1:FnScope ["self","fader","name","side","worth","lamp"] ["self","fader","name","side","worth"] (xa2 xc8):=⟨rfl,rfl,rfl,by decide +kernel,rfl,by decide +kernel,by decide +kernel⟩
theorem yc6:FnScope ["self","fader","level"] ["self","fader","level"] (xa2 xg8):=⟨rfl,rfl,rfl,by decide +kernel,rfl,by decide +kernel,by decide +kernel⟩
theorem xg3:FnScope ["self","look","mix","slot","worth"] ["self","look"] (xa2 xf6):=⟨rfl,rfl,rfl,by decide +kernel,rfl,by decide +kernel,by decide +kernel⟩
theorem xn0:FnScope ["self","look","slot","fader"] ["self","look","slot"] (xa2 xd9):=⟨rfl,rfl,rfl,by decide +kernel,rfl,by decide +kernel,by decide +kernel⟩
theorem xe6:FnScope ["self","look","slot","best","fader"] ["self","look","slot"] (xa2 xd3):=⟨rfl,rfl,rfl,by decide +kernel,rfl,by decide +kernel,by decide +kernel⟩
theorem xk7:FnScope ["self","fader","look","slot","worth"] ["self","fader","look","slot"] (xa2 xd2):=⟨rfl,rfl,rfl,by decide +kernel,rfl,by decide +kernel,by decide +kernel⟩
theorem xt2:FnScope ["self","lamp"] ["self","lamp"] (xa2 xe0):=⟨rfl,rfl,rfl,by decide +kernel,rfl,by decide +kernel,by decide +kernel⟩
theorem xk4:(["hand","down","lamp","self"]:List Str).Nodup:=by decide +kernel
theorem xg6:FnScope ["self","look","slots","told"] ["self","look"] (xa2 xc7):=⟨rfl,rfl,rfl,by decide +kernel,rfl,by decide +kernel,by decide +kernel⟩
theorem xy9:FnScope ["_law_script","_law_k"] ["_law_script","_law_k"] (xa2 xf5):=⟨rfl,rfl,rfl,by decide +kernel,rfl,by decide +kernel,by decide +kernel⟩
theorem yg9:FnScope ["_law_script","_law_k"] ["_law_script","_law_k"] (xa2 xi1):=⟨rfl,rfl,rfl,by decide +kernel,rfl,by decide +kernel,by decide +kernel⟩
theorem yg8:FnScope ["_law_found"] ["_law_found"] (xa2 xh8):=⟨rfl,rfl,rfl,by decide +kernel,rfl,by decide +kernel,by decide +kernel⟩
theorem xu7:FnScope ["_law_number","_law_form","_law_at"] ["_law_number","_law_form"] (xa2 xj6):=⟨rfl,rfl,rfl,by decide +kernel,rfl,by decide +kernel,by decide +kernel⟩
theorem xs5:FnScope ["_law_number","_law_again"] ["_law_number"] (xa2 xh7):=⟨rfl,rfl,rfl,by decide +kernel,rfl,by decide +kernel,by decide +kernel⟩
theorem xl1:FnScope ["_law_found","_law_slot","_law_worth_here"] ["_law_found"] (xa2 xf4):=⟨rfl,rfl,rfl,by decide +kernel,rfl,by decide +kernel,by decide +kernel⟩
theorem xs6:FnScope ["_law_number","_law_form","_law_lamps_here"] ["_law_number","_law_form"] (xa2 xi0):=⟨rfl,rfl,rfl,by decide +kernel,rfl,by decide +kernel,by decide +kernel⟩
theorem xw2:(["_law_j","_law_form","_law_number"]:List Str).Nodup:=by decide +kernel
theorem xj0:FnScope ["_law_board","_law_fader","_law_name_here","_law_side","_law_worth_here","_law_caught","e"] ["_law_board","_law_fader","_law_name_here","_law_side","_law_worth_here"] (xa2 xg7):=⟨rfl,rfl,rfl,by decide +kernel,rfl,by decide +kernel,by decide +kernel⟩
theorem xe8:FnScope ["_law_board","_law_groups","_law_held","_law_number","_law_form","_law_name_here","_law_fader","_law_side","_law_worth_here","_law_lamps_here","_law_slot","_law_lamp"] ["_law_board","_law_groups","_law_held","_law_number","_law_form"] (xa2 xj7):=⟨rfl,rfl,rfl,by decide +kernel,rfl,by decide +kernel,by decide +kernel⟩
theorem xl6:FnScope ["_law_slot","_law_held","_law_order","_law_found","_law_fader"] ["_law_slot","_law_held","_law_order"] (xa2 xl8):=⟨rfl,rfl,rfl,by decide +kernel,rfl,by decide +kernel,by decide +kernel⟩
theorem xi6:FnScope ["_law_board","_law_held","_law_order","_law_form","_law_found","_law_k","_law_side","_law_slot"] ["_law_board","_law_held","_law_order","_law_form"] (xa2 xh9):=⟨rfl,rfl,rfl,by decide +kernel,rfl,by decide +kernel,by decide +kernel⟩
theorem xp4:FnScope ["_law_script","_law_form","_law_order","_law_board","_law_fader","_law_groups","_law_held","_law_k"] ["_law_script"] (xa2 yc9):=⟨rfl,rfl,rfl,by decide +kernel,rfl,by decide +kernel,by decide +kernel⟩
inductive Wh (K:Frag) (H:Hp):V -> Bool -> Prop
 | int (i:Int):Wh K H (.int i) true
 | other (x:V) (t:String) (b1 b2:Bool) (ty:TyOf K H x (.type t)) (h2:kitOne K (.type t) (.type "int") = some b2) (h1:kitOne K (.type t) (.type "bool") = some b1) (h:(b1 || !b2) = true):Wh K H x false
theorem Wh.keep {K:Frag} {H H':Hp} {x:V} {c:Bool} (h:Wh K H x c) (s:Same H H'):Wh K H' x c:=by
 cases h with
 | int i=>exact .int i
 | other _ t b1 b2 ty h1 h2 h=>exact .other x t b1 b2 (yg2 ty s) h1 h2 h
def spWhK (K:Frag):Sp:=fun vs H Q _=>∃ x c,vs = [x] /\ Wh K H x c /\ Q (.bl c) H
variable {P:Program} {w:World} {K:Frag} {mg:Str -> Option Value} {base:Heap} {A:Adr}
theorem xw0 (T:Txt K mg A):FnOk P w K mg base (CXE P w) 1 A.ea A.eb ["thing"] (spWhK K):=by
 refine T.ea.okN yl8 (fun vs H Q E h=>?_) (fun cdv Ar outer s H vs Q E hr h=>?_)
 ·obtain ⟨x,c,rfl,hk,k⟩:=h
  rfl
 ·obtain ⟨x,c,rfl,hk,k⟩:=h
  refine ⟨_,(xa5 (xb7 (xp8 (xc0 (xf0 K) (by rfl) T.ew5 xb5 (xa0 (pv 0) (xa0 (xv1 (by rfl) T.ex5 yr5) xa6))) (xp5 (pe_not (xc0 (xf0 K) (by rfl) T.ew5 xb5 (xa0 (pv 0) (xa0 (xv1 (by rfl) T.ey5 yk6) xa6)))))))),?_⟩
  cases hk with
  | int i =>
   refine ⟨_,rfl,_,_,_,_,rfl,.int i,xr8 (.inr (.inr (.inl rfl))) (.inl rfl),_,rfl,iteT ?_⟩
   exact ⟨_,rfl,_,_,_,_,rfl,.int i,xr8 (.inr (.inr (.inl rfl))) (.inr (.inl rfl)),_,rfl,k⟩
  | other _ t b1 b2 ty h2 h1 h =>
   refine ⟨_,rfl,_,_,_,_,rfl,ty,h2,_,rfl,?_⟩
   cases b2 with
   | false=>exact iteF k
   | true =>
    have e:b1 = true:=by simpa using h
    subst e
    exact iteT ⟨_,rfl,_,_,_,_,rfl,ty,h1,_,rfl,k⟩
inductive Kd (K:Frag) (m:Int) (H:Hp):V -> Bool -> Prop
 | int (i:Int):Kd K m H (.int i) (decide (0 <= i) && decide (i <= m))
 | other (x:V) (h:Wh K H x false):Kd K m H x false
theorem Kd.keep {K:Frag} {m:Int} {H H':Hp} {x:V} {c:Bool} (h:Kd K m H x c) (s:Same H H'):Kd K m H' x c:=by
 cases h with
 | int i=>exact .int i
 | other _ h=>exact .other x (h.keep s)
theorem Kd.intT {K:Frag} {m:Int} {H:Hp} {i:Int} (h:0 <= i) (h':i <= m):Kd K m H (.int i) true:=by
 have:=Kd.int (K:=K) (m:=m) (H:=H) i
 rw [show (decide (0 <= i) && decide (i <= m)) = true by simp; omega] at this
 exact this
def spIs (K:Frag) (m:Int):Sp:=fun vs H Q _=>∃ x c,vs = [x] /\ Kd K m H x c /\ Q (.bl c) H
theorem xv9 (T:Txt K mg A):FnOk P w K mg base (CXE P w) 2 A.ek A.el ["thing"] (spIs K 1000000000):=by
 have G_is_whole:=xw0 (P:=P) (w:=w) (base:=base) T
 refine T.ep.okN yl7 (fun vs H Q E h=>?_) (fun cdv Ar outer s H vs Q E hr h=>?_)
 ·obtain ⟨x,c,rfl,hk,k⟩:=h
  rfl
 ·obtain ⟨x,c,rfl,hk,k⟩:=h
  refine ⟨_,(xa5 (xb7 (xp8 (xb0 G_is_whole (hr.mono (by decide)) (by rfl) T.ec T.ea.kp T.eb .nil xb6 (xa0 (pv 0) xa6)) (xp5 (yd5 yt3 yt3 xa9 (pv 0) (xr6 (by rfl) T.eo6)))))),?_⟩
  cases hk with
  | int i =>
   refine ⟨_,rfl,_,_,rfl,.int i,_,rfl,iteT ?_⟩
   refine ⟨_,rfl,_,_,rfl,rfl,_,rfl,?_⟩
   by_cases c1:0 <= i
   ·rw [decide_eq_true c1] at k ⊢
    exact iteT ⟨_,_,rfl,rfl,k⟩
   ·rw [decide_eq_false c1] at k ⊢
    exact iteF k
  | other _ h=>exact ⟨_,rfl,_,_,rfl,h,_,rfl,iteF k⟩
theorem ym2 (T:Txt K mg A):FnOk P w K mg base (CXE P w) 2 A.es A.et ["thing"] (spIs K 1000):=by
 have G_is_whole:=xw0 (P:=P) (w:=w) (base:=base) T
 refine T.eb1.okN yl9 (fun vs H Q E h=>?_) (fun cdv Ar outer s H vs Q E hr h=>?_)
 ·obtain ⟨x,c,rfl,hk,k⟩:=h
  rfl
 ·obtain ⟨x,c,rfl,hk,k⟩:=h
  refine ⟨_,(xa5 (xb7 (xp8 (xb0 G_is_whole (hr.mono (by decide)) (by rfl) T.ec T.ea.kp T.eb .nil xb6 (xa0 (pv 0) xa6)) (xp5 (yd5 yt3 yt3 xa9 (pv 0) (xr6 (by rfl) T.ep6)))))),?_⟩
  cases hk with
  | int i =>
   refine ⟨_,rfl,_,_,rfl,.int i,_,rfl,iteT ?_⟩
   refine ⟨_,rfl,_,_,rfl,rfl,_,rfl,?_⟩
   by_cases c1:0 <= i
   ·rw [decide_eq_true c1] at k ⊢
    exact iteT ⟨_,_,rfl,rfl,k⟩
   ·rw [decide_eq_false c1] at k ⊢
    exact iteF k
  | other _ h=>exact ⟨_,rfl,_,_,rfl,h,_,rfl,iteF k⟩
def spNo (K:Frag) (A:Adr) (m:Int):Sp:=fun vs H Q E=>∃ x c,vs = [x] /\ Kd K m H x c /\ (c = true -> Q .non H) /\ (c = false -> E (.ref A.ed3) none H)
theorem xh4 (T:Txt K mg A):FnOk P w K mg base (CXE P w) 3 A.eo A.ep ["thing"] (spNo K A 1000000000):=by
 have G_is_worth:=xv9 (P:=P) (w:=w) (base:=base) T
 refine T.ev.okE xu5 (fun vs H Q E h=>?_) (fun cdv Ar outer s H vs Q E hr h=>?_)
 ·obtain ⟨x,c,rfl,hk,k,e⟩:=h
  rfl
 ·obtain ⟨x,c,rfl,hk,k,e⟩:=h
  refine ⟨_,(xa5 (xg1 (xi8 (xh3 (xb0 G_is_worth (hr.mono (by decide)) (by rfl) T.er T.ep.kp T.eq .nil xb6 (xa0 (pv 0) xa6)))) (xa5 (xj1 T.eg5 (by rfl) T.ew4 (xa0 xc9 xa6))) xb9)),?_⟩
  refine ⟨_,rfl,_,_,rfl,hk,_,rfl,?_⟩
  cases c with
  | true=>exact iteF (k rfl)
  | false=>exact iteT ⟨by decide,e rfl⟩
theorem xk2 (T:Txt K mg A):FnOk P w K mg base (CXE P w) 3 A.eu A.ev ["thing"] (spNo K A 1000):=by
 have G_is_level:=ym2 (P:=P) (w:=w) (base:=base) T
 refine T.ee1.okE xu6 (fun vs H Q E h=>?_) (fun cdv Ar outer s H vs Q E hr h=>?_)
 ·obtain ⟨x,c,rfl,hk,k,e⟩:=h
  rfl
 ·obtain ⟨x,c,rfl,hk,k,e⟩:=h
  refine ⟨_,(xa5 (xg1 (xi8 (xh3 (xb0 G_is_level (hr.mono (by decide)) (by rfl) T.ed1 T.eb1.kp T.ec1 .nil xb6 (xa0 (pv 0) xa6)))) (xa5 (xj1 T.eg5 (by rfl) T.ew4 (xa0 xc9 xa6))) xb9)),?_⟩
  refine ⟨_,rfl,_,_,rfl,hk,_,rfl,?_⟩
  cases c with
  | true=>exact iteF (k rfl)
  | false=>exact iteT ⟨by decide,e rfl⟩
inductive Two (K:Frag) (H:Hp):V -> V -> Option (Int × Int) -> Prop
 | both (w l:Int) (h0:0 <= w) (h1:w <= 1000000000) (h2:0 <= l) (h3:l <= 1000):Two K H (.int w) (.int l) (some (w,l))
 | fst (x y:V) (h:Kd K 1000000000 H x false):Two K H x y none
 | snd (w:Int) (y:V) (h0:0 <= w) (h1:w <= 1000000000) (h:Kd K 1000 H y false):Two K H (.int w) y none
def spTwo (K:Frag) (A:Adr) (f:Int -> Int -> Int):Sp:=fun vs H Q E=>∃ x y r,vs = [x,y] /\ Two K H x y r /\ (∀ w l,r = some (w,l) -> Q (.int (f w l)) H) /\ (r = none -> E (.ref A.ed3) none H)
theorem yz0 (T:Txt K mg A):FnOk P w K mg base (CXE P w) 4 A.ew A.ex ["worth","level"] (spTwo K A (fun w l=>w * l / 1000)):=by
 have G_refuse_level:=xk2 (P:=P) (w:=w) (base:=base) T
 have G_refuse_worth:=xh4 (P:=P) (w:=w) (base:=base) T
 refine T.eh1.okE yx1 (fun vs H Q E h=>?_) (fun cdv Ar outer s H vs Q E hr h=>?_)
 ·obtain ⟨x,y,r,rfl,h,k,e⟩:=h
  rfl
 ·obtain ⟨x,y,r,rfl,h,k,e⟩:=h
  refine ⟨_,(xa4 (xd0 (xb0 G_refuse_worth (hr.mono (by decide)) (by rfl) T.ex T.ev.kp T.ew .nil xn2 (xa0 (pv 0) xa6)))
   (xa4 (xd0 (xb0 G_refuse_level (hr.mono (by decide)) (by rfl) T.eg1 T.ee1.kp T.ef1 .nil xn2 (xa0 (pv 1) xa6)))
   (xa5 (xb7 (xc6 xf8 (xc6 xv7 (pv 0) (pv 1)) (xr6 (by rfl) T.ep6)))))),?_⟩
  cases h with
  | fst _ _ h =>
   refine xa7 (fun _ _=>False) (fun N hN=>?_) (fun _ _ z=>z.elim)
   exact ⟨_,rfl,_,_,rfl,h,(fun z=>by cases z),fun _=>e rfl⟩
  | snd w _ h0 h1 h =>
   refine xa7 (fun σ' H'=>σ' = [some (.int w),some y] /\ H' = H) (fun N hN=>?_) ?_
   ·exact ⟨_,rfl,_,_,rfl,Kd.intT h0 h1,(fun _=>hN _ _ ⟨rfl,rfl⟩),fun z=>by cases z⟩
   rintro σ' H1 ⟨rfl,rfl⟩
   refine xa7 (fun _ _=>False) (fun N hN=>?_) (fun _ _ z=>z.elim)
   exact ⟨_,rfl,_,_,rfl,h,(fun z=>by cases z),fun _=>e rfl⟩
  | both w l h0 h1 h2 h3 =>
   refine xa7 (fun σ' H'=>σ' = [some (.int w),some (.int l)] /\ H' = H) (fun N hN=>?_) ?_
   ·exact ⟨_,rfl,_,_,rfl,Kd.intT h0 h1,(fun _=>hN _ _ ⟨rfl,rfl⟩),fun z=>by cases z⟩
   rintro σ' H1 ⟨rfl,rfl⟩
   refine xa7 (fun σ' H'=>σ' = [some (.int w),some (.int l)] /\ H' = H1) (fun N hN=>?_) ?_
   ·exact ⟨_,rfl,_,_,rfl,Kd.intT h2 h3,(fun _=>hN _ _ ⟨rfl,rfl⟩),fun z=>by cases z⟩
   rintro σ' H2 ⟨rfl,rfl⟩
   exact ⟨_,rfl,_,rfl,_,_,rfl,rfl,.inr ⟨by omega,by omega⟩,_,_,rfl,rfl,⟨by decide,by decide⟩,k w l rfl⟩
theorem yt5 (T:Txt K mg A):FnOk P w K mg base (CXE P w) 4 A.ey A.ez ["worth","down"] (spTwo K A (fun w l=>w * (1000 - l) / 1000)):=by
 have G_refuse_level:=xk2 (P:=P) (w:=w) (base:=base) T
 have G_refuse_worth:=xh4 (P:=P) (w:=w) (base:=base) T
 refine T.ek1.okE ys7 (fun vs H Q E h=>?_) (fun cdv Ar outer s H vs Q E hr h=>?_)
 ·obtain ⟨x,y,r,rfl,h,k,e⟩:=h
  rfl
 ·obtain ⟨x,y,r,rfl,h,k,e⟩:=h
  refine ⟨_,(xa4 (xd0 (xb0 G_refuse_worth (hr.mono (by decide)) (by rfl) T.ex T.ev.kp T.ew .nil xn2 (xa0 (pv 0) xa6)))
   (xa4 (xd0 (xb0 G_refuse_level (hr.mono (by decide)) (by rfl) T.eg1 T.ee1.kp T.ef1 .nil xn2 (xa0 (pv 1) xa6)))
   (xa5 (xb7 (xc6 xf8 (xc6 xv7 (pv 0) (xc6 op_sub (xr6 (by rfl) T.ep6) (pv 1))) (xr6 (by rfl) T.ep6)))))),?_⟩
  cases h with
  | fst _ _ h =>
   refine xa7 (fun _ _=>False) (fun N hN=>?_) (fun _ _ z=>z.elim)
   exact ⟨_,rfl,_,_,rfl,h,(fun z=>by cases z),fun _=>e rfl⟩
  | snd w _ h0 h1 h =>
   refine xa7 (fun σ' H'=>σ' = [some (.int w),some y] /\ H' = H) (fun N hN=>?_) ?_
   ·exact ⟨_,rfl,_,_,rfl,Kd.intT h0 h1,(fun _=>hN _ _ ⟨rfl,rfl⟩),fun z=>by cases z⟩
   rintro σ' H1 ⟨rfl,rfl⟩
   refine xa7 (fun _ _=>False) (fun N hN=>?_) (fun _ _ z=>z.elim)
   exact ⟨_,rfl,_,_,rfl,h,(fun z=>by cases z),fun _=>e rfl⟩
  | both w l h0 h1 h2 h3 =>
   refine xa7 (fun σ' H'=>σ' = [some (.int w),some (.int l)] /\ H' = H) (fun N hN=>?_) ?_
   ·exact ⟨_,rfl,_,_,rfl,Kd.intT h0 h1,(fun _=>hN _ _ ⟨rfl,rfl⟩),fun z=>by cases z⟩
   rintro σ' H1 ⟨rfl,rfl⟩
   refine xa7 (fun σ' H'=>σ' = [some (.int w),some (.int l)] /\ H' = H1) (fun N hN=>?_) ?_
   ·exact ⟨_,rfl,_,_,rfl,Kd.intT h2 h3,(fun _=>hN _ _ ⟨rfl,rfl⟩),fun z=>by cases z⟩
   rintro σ' H2 ⟨rfl,rfl⟩
   exact ⟨_,rfl,_,rfl,_,_,rfl,rfl,_,_,rfl,rfl,.inr ⟨by omega,by omega⟩,_,_,rfl,rfl,⟨by decide,by decide⟩,k w l rfl⟩
def xl2 (z:Str):Bool:=decide ((1:Int) <= (z.length:Int)) && (decide ((z.length:Int) <= 8) && (cs z).all xt5)
inductive Lm (K:Frag) (H:Hp):V -> Bool -> Prop
 | str (z:Str) (h:z.length <= 1000):Lm K H (.str z) (xl2 z)
 | other (x:V) (t:String) (ty:TyOf K H x (.type t)) (h:kitOne K (.type t) (.type "str") = some false):Lm K H x false
theorem Lm.keep {K:Frag} {H H':Hp} {x:V} {c:Bool} (h:Lm K H x c) (s:Same H H'):Lm K H' x c:=by
 cases h with
 | str z h=>exact .str z h
 | other _ t ty h=>exact .other x t (yg2 ty s) h
def spLamp (K:Frag):Sp:=fun vs H Q _=>∃ x c,vs = [x] /\ Lm K H x c /\ ∀ H',Same H H' -> Q (.bl c) H'
theorem ya8 (T:Txt K mg A):FnOk P w K mg base (CXE P w) 1 A.ec A.ed ["thing"] (spLamp K):=by
 refine T.ed.okN yt0 (fun vs H Q E h=>?_) (fun cdv Ar outer s H vs Q E hr h=>?_)
 ·obtain ⟨x,c,rfl,hk,k⟩:=h
  rfl
 ·obtain ⟨x,c,rfl,hk,k⟩:=h
  refine ⟨_,(xa4 (xg1 (xi8 (xh3 (xc0 (xf0 K) (by rfl) T.ew5 xb5 (xa0 (pv 0) (xa0 (xv1 (by rfl) T.ez5 yk4) xa6))))) (xa5 (xb7 xv4)) xb9)
   (xa5 (xb7 (xp8 (yd5 yt3 yt3 xa9 (xc0 yk2 (by rfl) T.eh6 PySem.boot_len (xa0 (pv 0) xa6)) (xr6 (by rfl) T.en6)) (xp5 (xc0 (xy1 K rfl) (by rfl) T.ei6 yf2 (xa0 (xv3 ["sign"] [none] rfl (pi_str (pv 0)) (fun _ _ _=>(xd5 (i:=0) ye2 rfl (Or.inl rfl))) (fun _ _ _=>(yd4 yy7 (pv 0) (yd2 (by rfl) T.em6) (by with_unfolding_all rfl)))) xa6))))))),?_⟩
  cases hk with
  | other _ t ty h =>
   refine xa7 (fun _ _=>False) (fun N hN=>?_) (fun _ _ z=>z.elim)
   exact ⟨_,rfl,_,_,_,_,rfl,ty,h,_,rfl,iteT (k _ (Same.refl _))⟩
  | str z hz =>
   refine xa7 (fun σ' H'=>σ' = [some (.str z)] /\ H' = H) (fun N hN=>?_) ?_
   ·exact ⟨_,rfl,_,_,_,_,rfl,.str z,xr8 (.inr (.inr (.inr rfl))) (.inr (.inr (.inl rfl))),_,rfl,iteF (hN _ _ ⟨rfl,rfl⟩)⟩
   rintro σ' H1 ⟨rfl,rfl⟩
   unfold xl2 at k
   refine ⟨_,rfl,_,rfl,xg2 hz,_,_,rfl,rfl,_,rfl,?_⟩
   by_cases c1:(1:Int) <= (z.length:Int)
   ·rw [decide_eq_true c1] at k ⊢
    refine iteT ⟨_,_,rfl,rfl,_,rfl,?_⟩
    by_cases c2:(z.length:Int) <= 8
    ·rw [decide_eq_true c2] at k ⊢
     refine iteT ?_
     refine ⟨_,rfl,_,rfl,fun D hD=>comp_str xt5 (fun σ=>∃ v,σ = [v]) hD hz ⟨_,rfl⟩ ?_ ?_⟩
     ·rintro c σ' H' N' hc ⟨v,rfl⟩ q
      refine ⟨_,rfl,_,_,rfl,rfl,?_⟩
      rw [show (!(Builtin.Str.occurrences (Str.ofString "abcdefghijklmnopqrstuvwxyz") ⟨#[c]⟩ 0 (Str.ofString "abcdefghijklmnopqrstuvwxyz").length 1).isEmpty) = xt5 c from in_lets c]
      exact q _ ⟨_,rfl⟩
     ·intro H' s' hD'
      refine ⟨D,_,rfl,SqL.of hD',?_⟩
      have ea:((cs z).map xt5).all id = (cs z).all xt5:=by rw [List.all_map]; rfl
      rw [ea]
      exact k _ s'
    ·rw [decide_eq_false c2] at k ⊢
     exact iteF (k _ (Same.refl _))
   ·rw [decide_eq_false c1] at k ⊢
    exact iteF ⟨_,rfl,iteF (k _ (Same.refl _))⟩
abbrev yg7:List V:=[.str (Str.ofString "blue"),.str (Str.ofString "bright"),.str (Str.ofString "green"),.str (Str.ofString "pan"),.str (Str.ofString "red"),.str (Str.ofString "tilt")]
inductive Sd (K:Frag) (H:Hp):V -> Bool -> Prop
 | str (z:Str):Sd K H (.str z) (inV (.str z) yg7)
 | other (x:V) (t:String) (ty:TyOf K H x (.type t)) (h:kitOne K (.type t) (.type "str") = some false):Sd K H x false
theorem Sd.keep {K:Frag} {H H':Hp} {x:V} {c:Bool} (h:Sd K H x c) (s:Same H H'):Sd K H' x c:=by
 cases h with
 | str z=>exact .str z
 | other _ t ty h=>exact .other x t (yg2 ty s) h
def spSideP (K:Frag):Sp:=fun vs H Q _=>∃ x c,vs = [x] /\ Sd K H x c /\ Q (.bl c) H
theorem ya7 (T:Txt K mg A):FnOk P w K mg base (CXE P w) 1 A.ee A.ef ["thing"] (spSideP K):=by
 refine T.eg.okN ys9 (fun vs H Q E h=>?_) (fun cdv Ar outer s H vs Q E hr h=>?_)
 ·obtain ⟨x,c,rfl,hk,k⟩:=h
  rfl
 ·obtain ⟨x,c,rfl,hk,k⟩:=h
  refine ⟨_,(xa5 (xb7 (xp8 (xc0 (xf0 K) (by rfl) T.ew5 xb5 (xa0 (pv 0) (xa0 (xv1 (by rfl) T.ez5 yk4) xa6))) (xp5 (yd4 (yt4 K) (pv 0) (yd3 (v:=V.ref _) (by rfl) T.er6 rfl) (by with_unfolding_all rfl)))))),?_⟩
  cases hk with
  | other _ t ty h=>exact ⟨_,rfl,_,_,_,_,rfl,ty,h,_,rfl,iteF k⟩
  | str z =>
   refine ⟨_,rfl,_,_,_,_,rfl,.str z,xr8 (.inr (.inr (.inr rfl))) (.inr (.inr (.inl rfl))),_,rfl,iteT ?_⟩
   exact ⟨_,rfl,_,_,rfl,.inr (T.es6 _),rfl,rfl,k⟩
inductive Sl (K:Frag) (H:Hp):V -> Bool -> Prop
 | two (a:Addr) (y1 y2:V) (b1 b2:Bool) (h:H a = some (.tup [y1,y2])) (h1:Lm K H y1 b1) (h2:Sd K H y2 b2):Sl K H (.ref a) (b1 && b2)
 | size (a:Addr) (xs:List V) (h:H a = some (.tup xs)) (hn:xs.length ≠ 2):Sl K H (.ref a) false
 | other (x:V) (t:String) (ty:TyOf K H x (.type t)) (h:kitOne K (.type t) (.type "tuple") = some false):Sl K H x false
theorem Sl.keep {K:Frag} {H H':Hp} {x:V} {c:Bool} (h:Sl K H x c) (s:Same H H'):Sl K H' x c:=by
 cases h with
 | two a y1 y2 b1 b2 h h1 h2=>exact .two a y1 y2 b1 b2 (s _ _ h) (h1.keep s) (h2.keep s)
 | size a xs h hn=>exact .size a xs (s _ _ h) hn
 | other _ t ty h=>exact .other x t (yg2 ty s) h
theorem yl5 {K:Frag}:kitOne K (.type "tuple") (.type "tuple") = some true:=by kernel_rfl
def spSlot (K:Frag):Sp:=fun vs H Q _=>∃ x c,vs = [x] /\ Sl K H x c /\ ∀ H',Same H H' -> Q (.bl c) H'
theorem ya6 (T:Txt K mg A):FnOk P w K mg base (CXE P w) 2 A.eg A.eh ["thing"] (spSlot K):=by
 have G_is_lamp:=ya8 (P:=P) (w:=w) (base:=base) T
 have G_is_side:=ya7 (P:=P) (w:=w) (base:=base) T
 refine T.ej.okN ys8 (fun vs H Q E h=>?_) (fun cdv Ar outer s H vs Q E hr h=>?_)
 ·obtain ⟨x,c,rfl,hk,k⟩:=h
  rfl
 ·obtain ⟨x,c,rfl,hk,k⟩:=h
  refine ⟨_,(xa4 (xg1 (PW.pt (pw_or (xi8 (xh3 (xc0 (xf0 K) (by rfl) T.ew5 xb5 (xa0 (pv 0) (xa0 (xv1 (by rfl) T.ea6 yb8) xa6))))) (pw_or1 (xg0 op_ne (xc0 (xy0 K) (by rfl) T.eh6 PySem.boot_len (xa0 (pv 0) xa6)) xa9 (xh6 _))))) (xa5 (xb7 xv4)) xb9)
   (xa5 (xb7 (xp8 (xb0 G_is_lamp (hr.mono (by decide)) (by rfl) T.ef T.ed.kp T.ee .nil xb6 (xa0 (xr5 (xx1 K) (pv 0) xa9 (fun _ _=>rfl)) xa6)) (xp5 (xb0 G_is_side (hr.mono (by decide)) (by rfl) T.ei T.eg.kp T.eh .nil xb6 (xa0 (xr5 (xx1 K) (pv 0) xa9 (fun _ _=>rfl)) xa6))))))),?_⟩
  cases hk with
  | other _ t ty h =>
   refine xa7 (fun _ _=>False) (fun N hN=>?_) (fun _ _ z=>z.elim)
   exact ⟨_,rfl,_,_,_,_,rfl,ty,h,_,rfl,iteT (iteT (k _ (Same.refl _)))⟩
  | size a xs h hn =>
   refine xa7 (fun _ _=>False) (fun N hN=>?_) (fun _ _ z=>z.elim)
   refine ⟨_,rfl,_,_,_,_,rfl,.tup h,yl5,_,rfl,iteF ?_⟩
   refine ⟨_,rfl,a,_,rfl,.inr (SqT.of h),rfl,_,rfl,?_⟩
   rw [decide_eq_false (show ¬ V.int (xs.length:Int) = V.int 2 from fun z=>hn (by have:=V.int.inj z; omega))]
   exact iteT (k _ (Same.refl _))
  | two a y1 y2 b1 b2 h h1 h2 =>
   refine xa7 (fun σ' H'=>σ' = [some (.ref a)] /\ H' = H) (fun N hN=>?_) ?_
   ·refine ⟨_,rfl,_,_,_,_,rfl,.tup h,yl5,_,rfl,iteF ?_⟩
    refine ⟨_,rfl,a,_,rfl,.inr (SqT.of h),rfl,_,rfl,?_⟩
    rw [decide_eq_true (show V.int (([y1,y2]:List V).length:Int) = V.int 2 from rfl)]
    exact iteF (hN _ _ ⟨rfl,rfl⟩)
   rintro σ' H1 ⟨rfl,rfl⟩
   refine ⟨_,rfl,a,_,_,_,rfl,rfl,SqT.of h,atI_0 _ _,_,_,rfl,h1,fun H2 s2=>⟨_,rfl,?_⟩⟩
   cases b1 with
   | false=>exact iteF (k _ s2)
   | true=>exact iteT ⟨_,rfl,a,_,_,_,rfl,rfl,SqT.of (s2 _ _ h),atI_1 _ _ _,_,_,rfl,h2.keep s2,k _ s2⟩
def spBright:Sp:=fun vs H Q _=>∃ (a:Addr) (l sd:Str),vs = [.ref a] /\ H a = some (.tup [.str l,.str sd]) /\ Q (.bl (decide (V.str sd = V.str (Str.ofString "bright")))) H
theorem xn7 (T:Txt K mg A):FnOk P w K mg base (CXE P w) 1 A.ei A.ej ["slot"] (spBright):=by
 refine T.em.okN yh0 (fun vs H Q E h=>?_) (fun cdv Ar outer s H vs Q E hr h=>?_)
 ·obtain ⟨a,l,sd,rfl,h,k⟩:=h
  rfl
 ·obtain ⟨a,l,sd,rfl,h,k⟩:=h
  refine ⟨_,(xa5 (xb7 (yd4 yd6 (xr5 (xx1 K) (pv 0) xa9 (fun _ _=>rfl)) xc9 (xh6 _)))),?_⟩
  exact ⟨_,rfl,a,_,_,_,rfl,rfl,SqT.of h,atI_1 _ _ _,rfl,k⟩
theorem yq2 {K:Frag}:kitOne K (.type "dict") (.type "dict") = some true:=by kernel_rfl
theorem kit_ll {K:Frag}:kitOne K (.type "list") (.type "list") = some true:=by kernel_rfl
def spRn (K:Frag) (A:Adr):Sp:=fun vs H Q E=>∃ x b,vs = [x] /\ Lm K H x b /\ ∀ H',Same H H' -> (b = true -> Q .non H') /\ (b = false -> E (.ref A.ee3) none H')
theorem xg5 (T:Txt K mg A):FnOk P w K mg base (CXE P w) 2 A.ea1 A.eb1 ["thing"] (spRn K A):=by
 have G_is_lamp:=ya8 (P:=P) (w:=w) (base:=base) T
 refine T.en1.okE xy7 (fun vs H Q E h=>?_) (fun cdv Ar outer s H vs Q E hr h=>?_)
 ·obtain ⟨x,b,rfl,hx,k⟩:=h
  rfl
 ·obtain ⟨x,b,rfl,hx,k⟩:=h
  refine ⟨_,(xa5 (xg1 (xi8 (xh3 (xb0 G_is_lamp (hr.mono (by decide)) (by rfl) T.ef T.ed.kp T.ee .nil xb6 (xa0 (pv 0) xa6)))) (xa5 (xj1 T.eo5 (by rfl) T.ex4 (xa0 xc9 xa6))) xb9)),?_⟩
  refine ⟨_,rfl,_,_,rfl,hx,fun H' s=>⟨_,rfl,?_⟩⟩
  cases b with
  | true=>exact iteF ((k H' s).1 rfl)
  | false=>exact iteT ⟨by decide,(k H' s).2 rfl⟩
inductive Ls (K:Frag) (H:Hp):V -> Bool -> Prop
 | good (l:Addr) (xs:List V) (hl:H l = some (.lst xs)) (hg:∀ x ∈ xs,Lm K H x true):Ls K H (.ref l) true
 | item (l:Addr) (xs:List V) (j:Nat) (y:V) (hl:H l = some (.lst xs)) (hj:xs[j]? = some y) (hy:Lm K H y false) (hg:∀ (i:Nat) (x:V),i < j -> xs[i]? = some x -> Lm K H x true):Ls K H (.ref l) false
 | other (x:V) (t:String) (ty:TyOf K H x (.type t)) (h:kitOne K (.type t) (.type "list") = some false):Ls K H x false
theorem Ls.keep {K:Frag} {H H':Hp} {x:V} {b:Bool} (h:Ls K H x b) (s:Same H H'):Ls K H' x b:=by
 cases h with
 | good l xs hl hg=>exact .good l xs (s _ _ hl) fun x hx=>(hg x hx).keep s
 | item l xs j y hl hj hy hg=>exact .item l xs j y (s _ _ hl) hj (hy.keep s) fun i x hi hx=>(hg i x hi hx).keep s
 | other _ t ty h=>exact .other x t (yg2 ty s) h
def spRl (K:Frag) (A:Adr):Sp:=fun vs H Q E=>∃ x b,vs = [x] /\ Ls K H x b /\ ∀ H',Same H H' -> (b = true -> Q .non H') /\ (b = false -> E (.ref A.ee3) none H')
theorem xv8 (T:Txt K mg A):FnOk P w K mg base (CXE P w) 3 A.ec1 A.ed1 ["thing"] (spRl K A):=by
 have G_refuse_name:=xg5 (P:=P) (w:=w) (base:=base) T
 refine T.eq1.okE xn4 (fun vs H Q E h=>?_) (fun cdv Ar outer s H vs Q E hr h=>?_)
 ·obtain ⟨x,b,rfl,hx,k⟩:=h
  rfl
 ·obtain ⟨x,b,rfl,hx,k⟩:=h
  refine ⟨_,(xa4 (xg1 (xi8 (xh3 (xc0 (xf0 K) (by rfl) T.ew5 xb5 (xa0 (pv 0) (xa0 (xv1 (by rfl) T.eb6 xm5) xa6))))) (xa5 (xj1 T.eo5 (by rfl) T.ex4 (xa0 xc9 xa6))) xb9)
   (xa5 (xm2 PassesOwn.leaving rfl (xk8 K (pv 0)) (xd5 (i:=1) xn4.nd rfl (Or.inl rfl)) (xa5 (xd0 (xb0 G_refuse_name (hr.mono (by decide)) (by rfl) T.ep1 T.en1.kp T.eo1 .nil xn2 (xa0 (pv 1) xa6))))))),?_⟩
  cases hx with
  | other _ t ty h =>
   refine xa7 (fun _ _=>False) (fun N hN=>?_) (fun _ _ z=>z.elim)
   exact ⟨_,rfl,_,_,_,_,rfl,ty,h,_,rfl,iteT ⟨by decide,(k _ (Same.refl _)).2 rfl⟩⟩
  | good l xs hl hg =>
   refine xa7 (fun σ' H'=>σ' = [some (.ref l),none] /\ H' = H) (fun N hN=>?_) ?_
   ·exact ⟨_,rfl,_,_,_,true,rfl,.lst hl,kit_ll,true,rfl,iteF (hN _ _ ⟨rfl,rfl⟩)⟩
   rintro σ' H1 ⟨rfl,rfl⟩
   refine ⟨_,rfl,l,rfl,⟨_,SqL.of hl⟩,xj3 (xs:=xs) (fun _ σ' G=>∃ z,σ' = [some (.ref l),z] /\ Same H1 G) ⟨_,rfl,Same.refl _⟩ ?_ ?_ ?_⟩
   ·rintro i σ' G _ ⟨_,_,sm⟩
    exact SqL.of (sm _ _ hl)
   ·rintro i v σ' G hv ⟨z,rfl,sm⟩
    exact ⟨_,rfl,v,true,rfl,(hg v (List.mem_of_getElem? hv)).keep sm,fun G2 s2=>⟨fun _=>⟨_,rfl,sm.trans s2⟩,fun z=>by cases z⟩⟩
   ·rintro σ' G ⟨z,rfl,sm⟩
    exact (k _ sm).1 rfl
  | item l xs j y hl hj hy hg =>
   have hjl:j < xs.length:=(List.getElem?_eq_some_iff.mp hj).1
   refine xa7 (fun σ' H'=>σ' = [some (.ref l),none] /\ H' = H) (fun N hN=>?_) ?_
   ·exact ⟨_,rfl,_,_,_,true,rfl,.lst hl,kit_ll,true,rfl,iteF (hN _ _ ⟨rfl,rfl⟩)⟩
   rintro σ' H1 ⟨rfl,rfl⟩
   refine ⟨_,rfl,l,rfl,⟨_,SqL.of hl⟩,xj3 (xs:=xs) (fun i σ' G=>∃ z,σ' = [some (.ref l),z] /\ Same H1 G /\ i <= j) ⟨_,rfl,Same.refl _,Nat.zero_le _⟩ ?_ ?_ ?_⟩
   ·rintro i σ' G _ ⟨_,_,sm,_⟩
    exact SqL.of (sm _ _ hl)
   ·rintro i v σ' G hv ⟨z,rfl,sm,hij⟩
    by_cases c:i < j
    ·exact ⟨_,rfl,v,true,rfl,(hg i v c hv).keep sm,fun G2 s2=>⟨fun _=>⟨_,rfl,sm.trans s2,c⟩,fun z=>by cases z⟩⟩
    ·obtain rfl:i = j:=by omega
     rw [hj] at hv
     cases hv
     exact ⟨_,rfl,y,false,rfl,hy.keep sm,fun G2 s2=>⟨(fun z=>by cases z),fun _=>(k _ (sm.trans s2)).2 rfl⟩⟩
   ·rintro σ' G ⟨z,rfl,sm,hij⟩
    omega
def spRs (K:Frag) (A:Adr):Sp:=fun vs H Q E=>∃ x b,vs = [x] /\ Sl K H x b /\ ∀ H',Same H H' -> (b = true -> Q .non H') /\ (b = false -> E (.ref A.ec3) none H')
theorem xz1 (T:Txt K mg A):FnOk P w K mg base (CXE P w) 3 A.em A.en ["thing"] (spRs K A):=by
 have G_is_slot:=ya6 (P:=P) (w:=w) (base:=base) T
 refine T.es.okE xy6 (fun vs H Q E h=>?_) (fun cdv Ar outer s H vs Q E hr h=>?_)
 ·obtain ⟨x,b,rfl,hx,k⟩:=h
  rfl
 ·obtain ⟨x,b,rfl,hx,k⟩:=h
  refine ⟨_,(xa5 (xg1 (xi8 (xh3 (xb0 G_is_slot (hr.mono (by decide)) (by rfl) T.el T.ej.kp T.ek .nil xb6 (xa0 (pv 0) xa6)))) (xa5 (xj1 T.ey4 (by rfl) T.ev4 (xa0 xc9 xa6))) xb9)),?_⟩
  refine ⟨_,rfl,_,_,rfl,hx,fun H' s=>⟨_,rfl,?_⟩⟩
  cases b with
  | true=>exact iteF ((k H' s).1 rfl)
  | false=>exact iteT ⟨by decide,(k H' s).2 rfl⟩
def yc2:List Key -> Bool
 | [.inr l,.inr s]=>xl2 l && inV (.str s) yg7
 | _=>false
def xu1 (k:List Key):Prop:=∀ x ∈ k,∃ y:Str,x = .inr y /\ y.length <= 1000
theorem slot_sl {K:Frag} {G:Hp} {q:Addr} {k:List Key} (h:xu1 k) (hq:G q = some (.tup (k.map kV))):Sl K G (.ref q) (yc2 k):=by
 match k,h,hq with
 | [],_,hq=>exact .size q _ hq (by simp)
 | [a],h,hq =>
  obtain ⟨y,rfl,_⟩:=h a (by simp)
  exact .size q _ hq (by simp)
 | [a,b],h,hq =>
  obtain ⟨y,rfl,hy⟩:=h a (by simp)
  obtain ⟨z,rfl,_⟩:=h b (by simp)
  exact .two q _ _ _ _ hq (.str y hy) (.str z)
 | a :: b :: c :: r,h,hq =>
  have:yc2 (a :: b :: c :: r) = false:=by cases a <;> cases b <;> rfl
  rw [this]
  exact .size q _ hq (by simp)
theorem xu3 {H G:Hp} {d:Addr} {o:Obj} {u:HO} (h:H d = some u) (s:Same (upd H d (held d o)) G):Same H (upd G d u):=fun b v e=>by
 by_cases c:b = d
 ·rw [c,xa1]; rw [c,h] at e; exact e
 ·rw [xa3 c]; exact s _ _ (by rw [xa3 c]; exact e)
theorem yw2 {H G:Hp} {d:Addr} {o:Obj} {kvs:List (List Key × V)} (h:H d = some (.dT kvs)) (s:Same (upd H d (held d o)) G):xy4 H G:=fun b ys e=>s _ _ (by
 rw [xa3 (ye1 e h (by intro z; cases z))]; exact e)
theorem all_bl {P:V -> Prop} {ys:List V} {xs:List V} (h:Paired (fun _ v=>v = V.bl false) xs ys):ys = (xs.map fun _=>false).map V.bl:=by
 induction h with
 | nil=>rfl
 | cons q t ih=>rw [List.map_cons,List.map_cons,<- ih,q]
inductive Ks (K:Frag) (H:Hp):V -> Bool -> Prop
 | dT (d:Addr) (kvs:List (List Key × V)) (h:H d = some (.dT kvs)) (hl:kvs.length <= 900) (hk:∀ kv ∈ kvs,xu1 kv.1):Ks K H (.ref d) (kvs.all fun kv=>yc2 kv.1)
 | dK (d:Addr) (kvs:List (Key × V)) (h:H d = some (.dK kvs)) (hl:kvs.length <= 900) (ht:xm9 kvs) (h0:kvs ≠ []):Ks K H (.ref d) false
 | dN (d:Addr) (h:H d = some (anyD d [.non])):Ks K H (.ref d) false
 | other (x:V) (t:String) (ty:TyOf K H x (.type t)) (h:kitOne K (.type t) (.type "dict") = some false):Ks K H x false
def spKs (K:Frag):Sp:=fun vs H Q _=>∃ x b,vs = [x] /\ Ks K H x b /\ ∀ H',Same H H' -> Q (.bl b) H'
theorem ys4 {H:Hp} {f:List Key -> Bool} {kvs:List (List Key × V)} {xs:List (List Key × Addr × Value)} {ys:List V} (kt:KT H kvs xs) {G:Hp} (ts:xy4 H G)
  (h:Paired (fun x v=>∃ q k,x = V.ref q /\ G q = some (.tup (k.map kV)) /\ v = V.bl (f k)) (xs.map fun x=>V.ref x.2.1) ys):ys = (kvs.map fun kv=>f kv.1).map V.bl:=by
 induction kt generalizing ys with
 | nil=>rw [List.map_nil] at h; cases h; rfl
 | @cons p q ps qs a t ih =>
  rw [List.map_cons] at h
  cases h with
  | cons r rs =>
   obtain ⟨q',k,e1,e2,rfl⟩:=r
   cases e1
   rw [ts _ _ a.2.1] at e2
   have:p.1.map kV = k.map kV:=by injection e2 with e2; injection e2
   rw [List.map_cons,List.map_cons,<- ih rs,za4 this]
theorem xo5 (T:Txt K mg A):FnOk P w K mg base (CXE P w) 3 A.eq A.er ["thing"] (spKs K):=by
 have G_is_slot:=ya6 (P:=P) (w:=w) (base:=base) T
 refine T.ey.okN xo4 (fun vs H Q E h=>?_) (fun cdv Ar outer s H vs Q E hr h=>?_)
 ·obtain ⟨x,b,rfl,hx,k⟩:=h
  rfl
 ·obtain ⟨x,b,rfl,hx,k⟩:=h
  refine ⟨_,(xa5 (xb7 (xp8 (xc0 (callOr (xf0 K) (zd9 K)) (by rfl) T.ew5 xb5 (xa0 (pv 0) (xa0 (xv1 (by rfl) T.ec6 yk5) xa6))) (xp5 (xc0 (xy1 K rfl) (by rfl) T.ei6 yf2 (xa0 (pe_orE (yy1 (xv3 ["key"] [none] rfl (yx7 (pv 0)) (fun _ _ _=>(xd5 (i:=0) xe2 rfl (Or.inl rfl))) (fun _ _ _=>(xb0 G_is_slot (hr.mono (by decide)) (by rfl) T.el T.ej.kp T.ek .nil xb6 (xa0 (pv 0) xa6))))) (pe_orE (yp8 (xv3 ["key"] [none] rfl (yx7 (pv 0)) (fun _ _ _=>(xd5 (i:=0) xe2 rfl (Or.inl rfl))) (fun _ _ _=>(xb0 G_is_slot (hr.mono (by decide)) (by rfl) T.el T.ej.kp T.ek .nil xb6 (xa0 (pv 0) xa6))))) (pe_holdN (xv3 ["key"] [none] rfl (yx7 (pv 0)) (fun _ _ _=>(xd5 (i:=0) xe2 rfl (Or.inl rfl))) (fun _ _ _=>(xb0 G_is_slot (hr.mono (by decide)) (by rfl) T.el T.ej.kp T.ek .nil xb6 (xa0 (pv 0) xa6))))))) xa6)))))),?_⟩
  cases hx with
  | other _ t ty h=>exact ⟨_,rfl,.inl ⟨_,_,_,_,rfl,ty,h,_,rfl,iteF (k _ (Same.refl _))⟩⟩
  | dT d kvs hd hl hk =>
   refine ⟨_,rfl,.inl ⟨_,_,_,true,rfl,.dT hd,yq2,true,rfl,iteT ?_⟩⟩
   refine .inl ⟨d,kvs,hd,fun o xs es ep D kt=>?_⟩
   have hv:=yi7 D
   have xl:=Paired.length kt
   refine ⟨_,rfl,d,o,_,es,ep,rfl,xa1,D.sys,D.ex,D.data,hv,fun D' hD'=>?_⟩
   have ne:D' ≠ d:=by rintro rfl; rw [xa1] at hD'; cases hD'
   refine xr0 (fun x v G=>∃ q k,x = V.ref q /\ G q = some (.tup (k.map kV)) /\ v = V.bl (yc2 k)) (fun σ=>∃ z,σ = [z]) (fun G G' x v ts h=>by obtain ⟨q,k,a,b,c⟩:=h; exact ⟨q,k,a,ts _ _ b,c⟩) xa1 hD' (by rw [List.length_map]; omega) ⟨_,rfl⟩ (fun x σ' G N hx ho sm q=>?_) fun ys G sm hl hp=>?_
   ·obtain ⟨z,rfl⟩:=ho
    obtain ⟨y,hy,rfl⟩:=List.mem_map.mp hx
    obtain ⟨i,hi⟩:=List.mem_iff_getElem?.mp hy
    obtain ⟨kv,hkv,e1,e2,_⟩:=yy5 kt hi
    have hG:G y.2.1 = some (.tup (kv.1.map kV)):=sm _ _ (by rw [xa3 (ye1 e2 hd (by intro z; cases z))]; exact e2)
    exact ⟨_,rfl,_,_,rfl,slot_sl (hk kv (List.mem_of_getElem? hkv)) hG,fun G2 s2=>q _ _ _ ⟨_,_,rfl,s2 _ _ hG,rfl⟩ s2 ⟨_,rfl⟩⟩
   ·have ts:=yw2 hd sm
    refine ⟨sm _ _ xa1,ts,?_⟩
    refine ⟨D',_,rfl,SqL.of (xs:=(kvs.map fun kv=>yc2 kv.1).map V.bl) ?_,?_⟩
    ·rw [xa3 ne,hl,ys4 kt ts hp]
    ·rw [show (kvs.map fun kv=>yc2 kv.1).all id = kvs.all fun kv=>yc2 kv.1 by rw [List.all_map]; rfl]
     exact k _ (xu3 hd sm)
  | dK d kvs hd hl ht h0 =>
   refine ⟨_,rfl,.inl ⟨_,_,_,true,rfl,.dK hd,yq2,true,rfl,iteT ?_⟩⟩
   refine .inr (.inl ⟨d,kvs,hd,fun o es ep D=>?_⟩)
   refine ⟨_,rfl,d,o,_,es,ep,rfl,xa1,D.sys,D.ex,D.data,D.keys ht,fun D' hD'=>?_⟩
   have ne:D' ≠ d:=by rintro rfl; rw [xa1] at hD'; cases hD'
   refine xr0 (fun _ v _=>v = V.bl false) (fun σ=>∃ z,σ = [z]) (fun _ _ _ _ _ h=>h) xa1 hD' (by rw [List.length_map,keysOf,List.length_map]; omega) ⟨_,rfl⟩ (fun x σ' G N hx ho sm q=>?_) fun ys G sm hl hp=>?_
   ·obtain ⟨z,rfl⟩:=ho
    obtain ⟨y,hy,rfl⟩:=List.mem_map.mp hx
    exact ⟨_,rfl,_,_,rfl,.other _ "str" (.str y) (by kernel_rfl),fun G2 s2=>q _ _ _ rfl s2 ⟨_,rfl⟩⟩
   ·refine ⟨sm _ _ xa1,?_⟩
    refine ⟨D',_,rfl,SqL.of (xs:=(((keysOf kvs).map V.str).map fun _=>false).map V.bl) ?_,?_⟩
    ·rw [xa3 ne,hl,all_bl (P:=fun _=>True) hp]
    ·cases kvs with
     | nil=>exact absurd rfl h0
     | cons a r=>exact k _ (xu3 hd sm)
  | dN d hd =>
   refine ⟨_,rfl,.inr ⟨d,_,_,true,rfl,hd,yq2,true,rfl,iteT ?_⟩⟩
   refine .inr (.inr ⟨d,_,hd,fun o es ep z1 z2 z3 z4=>?_⟩)
   refine ⟨_,rfl,d,o,_,es,ep,rfl,xa1,z1,z2,z3,z4,fun D' hD'=>?_⟩
   have ne:D' ≠ d:=by rintro rfl; rw [xa1] at hD'; cases hD'
   refine xr0 (fun _ v _=>v = V.bl false) (fun σ=>∃ z,σ = [z]) (fun _ _ _ _ _ h=>h) xa1 hD' (by show 1 <= 1000; decide) ⟨_,rfl⟩ (fun x σ' G N hx ho sm q=>?_) fun ys G sm hl hp=>?_
   ·obtain ⟨z,rfl⟩:=ho
    cases List.mem_singleton.mp hx
    exact ⟨_,rfl,_,_,rfl,.other _ "NoneType" .non (by kernel_rfl),fun G2 s2=>q _ _ _ rfl s2 ⟨_,rfl⟩⟩
   ·refine ⟨sm _ _ xa1,?_⟩
    refine ⟨D',_,rfl,SqL.of (xs:=[false].map V.bl) ?_,k _ (xu3 hd sm)⟩
    rw [xa3 ne,hl,all_bl (P:=fun _=>True) hp]; rfl
def wB:V -> Bool
 | .int i=>(decide (0 <= i) && decide (i <= 1000000000)) && decide (0 < i)
 | _=>false
def PlainW (v:V):Prop:=(∃ i,v = .int i) \/ ∃ b,v = .bl b
inductive Lk (K:Frag) (H:Hp):V -> Nat -> Prop
 | noSlot (x:V) (h:Ks K H x false):Lk K H x 1
 | vals (d:Addr) (kvs:List (List Key × V)) (h:H d = some (.dT kvs)) (hl:kvs.length <= 900) (hk:∀ kv ∈ kvs,xu1 kv.1) (hg:(kvs.all fun kv=>yc2 kv.1) = true) (hv:∀ kv ∈ kvs,PlainW kv.2):Lk K H (.ref d) (if (kvs.all fun kv=>wB kv.2) then 0 else 2)
def spLook (K:Frag) (A:Adr):Sp:=fun vs H Q E=>∃ x r,vs = [x] /\ Lk K H x r /\ ∀ H',Same H H' -> (r = 0 -> Q .non H') /\ (r = 1 -> E (.ref A.ec3) none H') /\ (r = 2 -> E (.ref A.ed3) none H')
theorem yl3 {kvs:List (List Key × V)} {ys:List V} (h:Paired (fun x v=>v = V.bl (wB x)) (kvs.map (·.2)) ys):ys = (kvs.map fun kv=>wB kv.2).map V.bl:=by
 generalize e:kvs.map (·.2) = xs at h
 induction h generalizing kvs with
 | nil=>cases kvs with | nil=>rfl | cons a r=>cases e
 | cons q t ih =>
  cases kvs with
  | nil=>cases e
  | cons a r =>
   rw [List.map_cons] at e
   injection e with e1 e2
   rw [List.map_cons,List.map_cons,<- ih e2,q,<- e1]
theorem xz2 (T:Txt K mg A):FnOk P w K mg base (CXE P w) 4 A.ee1 A.ef1 ["thing"] (spLook K A):=by
 have G_has_slots_as_keys:=xo5 (P:=P) (w:=w) (base:=base) T
 have G_is_worth:=xv9 (P:=P) (w:=w) (base:=base) T
 refine T.et1.okE xy8 (fun vs H Q E h=>?_) (fun cdv Ar outer s H vs Q E hr h=>?_)
 ·obtain ⟨x,r,rfl,hx,k⟩:=h
  rfl
 ·obtain ⟨x,r,rfl,hx,k⟩:=h
  refine ⟨_,(xa4 (xg1 (xi8 (xh3 (xb0 G_has_slots_as_keys (hr.mono (by decide)) (by rfl) T.ea1 T.ey.kp T.ez .nil xb6 (xa0 (pv 0) xa6)))) (xa5 (xj1 T.ey4 (by rfl) T.ev4 (xa0 xc9 xa6))) xb9)
   (xa5 (xg1 (xi8 (xh3 (xc0 (xy1 K rfl) (by rfl) T.ei6 yf2 (xa0 (yy1 (xv3 ["worth"] [none] rfl (pi_val (yh6 (pv 0))) (fun _ _ _=>(xd5 (i:=0) xr7 rfl (Or.inl rfl))) (fun _ _ _=>(xp8 (xb0 G_is_worth (hr.mono (by decide)) (by rfl) T.er T.ep.kp T.eq .nil xb6 (xa0 (pv 0) xa6)) (xp5 (yd4 yy9 (pv 0) xa9 (xh6 _))))))) xa6)))) (xa5 (xj1 T.eg5 (by rfl) T.ew4 (xa0 xc9 xa6))) xb9))),?_⟩
  cases hx with
  | noSlot _ h =>
   refine xa7 (fun _ _=>False) (fun N hN=>?_) (fun _ _ z=>z.elim)
   exact ⟨_,rfl,_,_,rfl,h,fun G s=>⟨_,rfl,iteT ⟨by decide,(k G s).2.1 rfl⟩⟩⟩
  | vals d kvs hd hl hk hg hv =>
   refine xa7 (fun σ' H'=>σ' = [some (.ref d)] /\ Same H H') (fun N hN=>?_) ?_
   ·have:=Ks.dT (K:=K) d kvs hd hl hk
    rw [hg] at this
    exact ⟨_,rfl,_,_,rfl,this,fun G s=>⟨_,rfl,iteF (hN _ _ ⟨rfl,s⟩)⟩⟩
   rintro σ1 H1 ⟨rfl,s1⟩
   have hd1:=s1 _ _ hd
   refine ⟨d,kvs,hd1,fun o xs es ep D kt=>?_⟩
   refine ⟨_,rfl,d,o,es,ep,rfl,xa1,D.sys,D.ex,D.data,fun p hp=>?_⟩
   have npd:p ≠ d:=by rintro rfl; rw [xa1] at hp; cases hp
   have sp:=Same.new (o:=xn3 "dict_values" p d) hp
   refine ⟨p,d,o,_,es,ep,rfl,xa1,sp _ _ xa1,D.ex,D.data,yf8 D kt,fun D' hD'=>?_⟩
   have h0:(upd (upd H1 d (held d o)) p (xn3 "dict_values" p d)) d = some (held d o):=sp _ _ xa1
   have ne:D' ≠ d:=by rintro rfl; rw [h0] at hD'; cases hD'
   refine xr0 (fun x v _=>v = V.bl (wB x)) (fun σ=>∃ z,σ = [z]) (fun _ _ _ _ _ h=>h) h0 hD' (by rw [List.length_map]; omega) ⟨_,rfl⟩ (fun x σ' G N hx ho sm q=>?_) fun ys G sm hl2 hp2=>?_
   ·obtain ⟨z,rfl⟩:=ho
    obtain ⟨kv,hkv,rfl⟩:=List.mem_map.mp hx
    rcases hv kv hkv with ⟨i,e⟩ | ⟨b,e⟩
    ·rw [e] at q ⊢
     refine ⟨_,rfl,_,_,rfl,Kd.int i,_,rfl,?_⟩
     cases c:(decide (0 <= i) && decide (i <= 1000000000)) with
     | false=>exact iteF (q _ _ _ (by show V.bl false = V.bl ((decide (0 <= i) && decide (i <= 1000000000)) && decide (0 < i)); rw [c]; rfl) (Same.refl _) ⟨_,rfl⟩)
     | true=>exact iteT ⟨_,rfl,_,_,rfl,rfl,q _ _ _ (by show V.bl (decide (0 < i)) = V.bl ((decide (0 <= i) && decide (i <= 1000000000)) && decide (0 < i)); rw [c]; rfl) (Same.refl _) ⟨_,rfl⟩⟩
    ·rw [e] at q ⊢
     exact ⟨_,rfl,_,_,rfl,Kd.other _ (.other _ "bool" true true (.bl b) (by kernel_rfl) (by kernel_rfl) rfl),_,rfl,iteF (q _ _ _ rfl (Same.refl _) ⟨_,rfl⟩)⟩
   ·have s2:=sp.trans sm
    refine ⟨sm _ _ h0,yw2 hd1 s2,?_⟩
    refine ⟨D',_,rfl,SqL.of (xs:=(kvs.map fun kv=>wB kv.2).map V.bl) ?_,?_⟩
    ·rw [xa3 ne,hl2,yl3 hp2]
    ·rw [show (kvs.map fun kv=>wB kv.2).all id = kvs.all fun kv=>wB kv.2 by rw [List.all_map]; rfl]
     have s3:=s1.trans (xu3 hd1 s2)
     refine ⟨_,rfl,?_⟩
     cases c:kvs.all fun kv=>wB kv.2 with
     | true=>rw [c] at k; exact iteF ((k _ s3).1 rfl)
     | false=>rw [c] at k; exact iteT ⟨by decide,(k _ s3).2.2 rfl⟩
def yr6 (F L G D S:Addr):List (Str × V):=[("filled",.ref F),("levels",.ref L),("groups",.ref G),("downs",.ref D),("spared",.ref S)]
structure Bd where
 F:Addr
 L:Addr
 G:Addr
 D:Addr
 S:Addr
 fl:List (Str × Addr × List (List Key × V))
 lv:List (Key × V)
 gr:List (Str × Addr × List Str)
 dn:List (Key × V)
 sp:List (List Key × V)
structure BoardAt (A:Adr) (H:Hp) (x:Addr) (b:Bd):Prop where
 obj:∃ dx,H x = some (.ins A.ea3 dx (yr6 b.F b.L b.G b.D b.S))
 fill:H b.F = some (.dK (b.fl.map fun e=>(.inr e.1,.ref e.2.1)))
 inner:∀ e ∈ b.fl,H e.2.1 = some (.dT e.2.2)
 lev:H b.L = some (.dK b.lv)
 grp:H b.G = some (.dK (b.gr.map fun e=>(.inr e.1,.ref e.2.1)))
 lst:∀ e ∈ b.gr,H e.2.1 = some (.lst (e.2.2.map V.str))
 dwn:H b.D = some (.dK b.dn)
 spr:H b.S = some (.dT b.sp)
theorem BoardAt.keep {A:Adr} {H H':Hp} {x:Addr} {b:Bd} (h:BoardAt A H x b) (s:Same H H'):BoardAt A H' x b :=
 ⟨h.obj.imp fun _ e=>s _ _ e,s _ _ h.fill,fun e he=>s _ _ (h.inner e he),s _ _ h.lev,s _ _ h.grp,fun e he=>s _ _ (h.lst e he),s _ _ h.dwn,s _ _ h.spr⟩
structure InitAt (A:Adr) (H G:Hp) (x dx:Addr) (fs:List (Str × V)) (ds:List (Addr × HO)):Prop where
 obj:G x = some (.ins A.ea3 dx fs)
 made:∀ p ∈ ds,H p.1 = none /\ G p.1 = some p.2
 nd:(ds.map (·.1)).Nodup
 nx:∀ p ∈ ds,p.1 ≠ x
 kp:∀ b o,b ≠ x -> H b = some o -> G b = some o
theorem InitAt.step {A:Adr} {H G:Hp} {x dx d:Addr} {fs fs':List (Str × V)} {ds:List (Addr × HO)} {u:HO} {o:HO} (h:InitAt A H G x dx fs ds) (hx:H x = some o) (hd:G d = none):InitAt A H (upd (upd G d u) x (.ins A.ea3 dx fs')) x dx fs' (ds ++ [(d,u)]):=by
 have nx:d ≠ x:=by rintro rfl; rw [h.obj] at hd; cases hd
 have hd0:H d = none:=by
  cases e:H d with
  | none=>rfl
  | some v=>rw [h.kp d v nx e] at hd; cases hd
 refine ⟨xa1,fun p hp=>?_,?_,fun p hp=>?_,fun b v hb e=>?_⟩
 ·rcases List.mem_append.mp hp with hp | hp
  ·refine ⟨(h.made p hp).1,?_⟩
   rw [xa3 (h.nx p hp),xa3 (xb2 (h.made p hp).2 hd)]
   exact (h.made p hp).2
  ·cases List.mem_singleton.mp hp
   exact ⟨hd0,by rw [xa3 nx,xa1]⟩
 ·rw [List.map_append,List.nodup_append]
  refine ⟨h.nd,List.pairwise_singleton _ _,fun a ha b hb=>?_⟩
  obtain ⟨p,hp,rfl⟩:=List.mem_map.mp ha
  rw [List.map_cons,List.map_nil] at hb
  cases List.mem_singleton.mp hb
  exact xb2 (h.made p hp).2 hd
 ·rcases List.mem_append.mp hp with hp | hp
  ·exact h.nx p hp
  ·cases List.mem_singleton.mp hp; exact nx
 ·rw [xa3 hb,xa3 (xb2 e hd0)]
  exact h.kp b v hb e
def spBoard (A:Adr):Sp:=fun vs H Q _=>∃ (x dx:Addr),vs = [.ref x] /\ H x = some (.ins A.ea3 dx []) /\
 ∀ F L G D S H',InitAt A H H' x dx (yr6 F L G D S) [(F,.dK []),(L,.dK []),(G,.dK []),(D,.dK []),(S,.dT [])] -> Q .non H'
theorem yd9 (T:Txt K mg A):FnOk P w K mg base (CXE P w) 1 A.eg1 A.eh1 ["self"] (spBoard A):=by
 refine T.ew1.okN yc7 (fun vs H Q E h=>?_) (fun cdv Ar outer s H vs Q E hr h=>?_)
 ·obtain ⟨x,dx,rfl,hx,k⟩:=h
  rfl
 ·obtain ⟨x,dx,rfl,hx,k⟩:=h
  refine ⟨_,(xa4 (yh4 (pv 0) xp6 rfl)
   (xa4 (yh4 (pv 0) xp6 rfl)
   (xa4 (yh4 (pv 0) xp6 rfl)
   (xa4 (yh4 (pv 0) xp6 rfl)
   (xa5 (yh4 (pv 0) xk9 rfl)))))),?_⟩
  have i0:InitAt A H H x dx [] []:=⟨hx,by simp,List.nodup_nil,by simp,fun _ _ _ e=>e⟩
  refine xa7 (fun σ' G=>∃ F,σ' = [some (.ref x)] /\ InitAt A H G x dx [("filled",.ref F)] [(F,.dK [])]) (fun N hN=>?_) ?_
  ·intro d hd
   exact ⟨_,rfl,x,A.ea3,dx,_,rfl,by rw [xa3 (xb2 i0.obj hd)]; exact i0.obj,T.en4,T.ep4,(by show 0 < 1000; decide),hN _ _ ⟨d,rfl,i0.step hx hd⟩⟩
  rintro σ1 H1 ⟨F,rfl,i1⟩
  refine xa7 (fun σ' G=>∃ L,σ' = [some (.ref x)] /\ InitAt A H G x dx [("filled",.ref F),("levels",.ref L)] [(F,.dK []),(L,.dK [])]) (fun N hN=>?_) ?_
  ·intro d hd
   exact ⟨_,rfl,x,A.ea3,dx,_,rfl,by rw [xa3 (xb2 i1.obj hd)]; exact i1.obj,T.en4,T.eq4,(by show 1 < 1000; decide),hN _ _ ⟨d,rfl,i1.step hx hd⟩⟩
  rintro σ2 H2 ⟨L,rfl,i2⟩
  refine xa7 (fun σ' G=>∃ Gr,σ' = [some (.ref x)] /\ InitAt A H G x dx [("filled",.ref F),("levels",.ref L),("groups",.ref Gr)] [(F,.dK []),(L,.dK []),(Gr,.dK [])]) (fun N hN=>?_) ?_
  ·intro d hd
   exact ⟨_,rfl,x,A.ea3,dx,_,rfl,by rw [xa3 (xb2 i2.obj hd)]; exact i2.obj,T.en4,T.er4,(by show 2 < 1000; decide),hN _ _ ⟨d,rfl,i2.step hx hd⟩⟩
  rintro σ3 H3 ⟨Gr,rfl,i3⟩
  refine xa7 (fun σ' G=>∃ D,σ' = [some (.ref x)] /\ InitAt A H G x dx [("filled",.ref F),("levels",.ref L),("groups",.ref Gr),("downs",.ref D)] [(F,.dK []),(L,.dK []),(Gr,.dK []),(D,.dK [])]) (fun N hN=>?_) ?_
  ·intro d hd
   exact ⟨_,rfl,x,A.ea3,dx,_,rfl,by rw [xa3 (xb2 i3.obj hd)]; exact i3.obj,T.en4,T.es4,(by show 3 < 1000; decide),hN _ _ ⟨d,rfl,i3.step hx hd⟩⟩
  rintro σ4 H4 ⟨D,rfl,i4⟩
  intro d hd
  exact ⟨_,rfl,x,A.ea3,dx,_,rfl,by rw [xa3 (xb2 i4.obj hd)]; exact i4.obj,T.en4,T.et4,(by show 4 < 1000; decide),k F L Gr D d _ (i4.step hx hd)⟩
abbrev ze0:Str:=Str.ofString "bright"
abbrev xb1 (l s:Str):List Key:=[.inr l,.inr s]
def numV:V -> Int
 | .int i=>i
 | _=>0
def nI {κ:Type} [DecidableEq κ] (kvs:List (κ × V)) (k:κ):Int:=numV ((valV kvs k).getD (.int 0))
def Nums {κ:Type} (m:Int) (kvs:List (κ × V)):Prop:=∀ kv ∈ kvs,∃ i:Int,kv.2 = .int i /\ 0 <= i /\ i <= m
theorem Nums.at {κ:Type} [DecidableEq κ] {m:Int} {kvs:List (κ × V)} (h:Nums m kvs) (hm:0 <= m) (k:κ):(valV kvs k).getD (.int 0) = .int (nI kvs k) /\ 0 <= nI kvs k /\ nI kvs k <= m:=by
 unfold nI
 cases e:valV kvs k with
 | none=>exact ⟨rfl,Int.le_refl _,hm⟩
 | some v =>
  obtain ⟨j,hj⟩:=yv8 e
  obtain ⟨i,rfl,h0,h1⟩:=h _ (List.mem_of_getElem? hj)
  exact ⟨rfl,h0,h1⟩
def xa8 (b:Bd) (f:Str):List (List Key × V):=((b.fl.find? fun e=>decide (e.1 = f)).map (·.2.2)).getD []
def isBr (s:Str):Bool:=decide (V.str s = V.str ze0)
def numF (b:Bd) (look:List (List Key × V)) (l s f:Str):Int :=
 if f = Str.ofString "" then nI look (xb1 l s) else if isBr s then nI (xa8 b f) (xb1 l s) * nI b.lv (.inr f) / 1000 else nI (xa8 b f) (xb1 l s)
structure Bd.Ok (b:Bd):Prop where
 few:b.fl.length <= 10
 full:∀ e ∈ b.fl,Nums 1000000000 e.2.2 /\ e.2.2.length <= 40
 levs:Nums 1000 b.lv
theorem yo4 {b:Bd} {f:Str} (h:∃ e ∈ b.fl,e.1 = f):∃ e ∈ b.fl,e.1 = f /\ valV (b.fl.map fun e=>((.inr e.1:Key),V.ref e.2.1)) (.inr f) = some (.ref e.2.1) /\ xa8 b f = e.2.2:=by
 unfold xa8
 obtain ⟨e0,h0,e1⟩:=h
 generalize b.fl = l at h0 ⊢
 induction l with
 | nil=>cases h0
 | cons a r ih =>
  by_cases c:a.1 = f
  ·refine ⟨a,List.mem_cons_self ..,c,?_,?_⟩
   ·rw [List.map_cons,xc3 (by rw [c])]
   ·rw [List.find?_cons,decide_eq_true c]; rfl
  ·have h1:e0 ∈ r:=by
    rcases List.mem_cons.mp h0 with rfl | h
    ·exact absurd e1 c
    ·exact h
   obtain ⟨e,he,a1,a2,a3⟩:=ih h1
   refine ⟨e,List.mem_cons_of_mem _ he,a1,?_,?_⟩
   ·rw [List.map_cons,xc5 (by intro z; injection z with z; exact c z)]; exact a2
   ·rw [List.find?_cons,decide_eq_false c]; exact a3
def spNumBy (A:Adr):Sp:=fun vs H Q _=>∃ (x d q:Addr) (b:Bd) (look:List (List Key × V)) (f l s:Str),vs = [.ref x,.str f,.ref d,.ref q] /\ BoardAt A H x b /\ b.Ok /\ H d = some (.dT look) /\ Nums 1000000000 look /\ H q = some (.tup [.str l,.str s]) /\ (f = Str.ofString "" \/ ∃ e ∈ b.fl,e.1 = f) /\ Q (.int (numF b look l s f)) H
theorem xl0 (T:Txt K mg A):FnOk P w K mg base (CXE P w) 5 A.ew1 A.ex1 ["self","fader","look","slot"] (spNumBy A):=by
 have G_amount:=yz0 (P:=P) (w:=w) (base:=base) T
 have G_is_bright:=xn7 (P:=P) (w:=w) (base:=base) T
 refine T.eu2.okN xk7 (fun vs H Q E h=>?_) (fun cdv Ar outer s H vs Q E hr h=>?_)
 ·obtain ⟨x,d,q,b,look,f,l,s,rfl,hb,ok,hd,hl,hq,hf,k⟩:=h
  rfl
 ·obtain ⟨x,d,q,b,look,f,l,s,rfl,hb,ok,hd,hl,hq,hf,k⟩:=h
  refine ⟨_,(xa4 (xg1 (xg0 yd6 (pv 1) (yd2 (by rfl) T.eq6) (xh6 _)) (xa5 (xb7 (xp7 (hu1 hr) (pv 2) (pv 3) xa9 ⟨rfl,rfl,rfl,rfl⟩))) xb9)
   (xa4 (xd8 (i:=4) xk7.nd rfl (Or.inl rfl) (xp7 (hu1 hr) (xi7 (hu1 hr) (xe9 K (pv 0)) (pv 1) (fun _ _=>rfl)) (pv 3) xa9 ⟨rfl,rfl,rfl,rfl⟩))
   (xa5 (xb7 (pe_ifExp (xh3 (xb0 G_is_bright (hr.mono (by decide)) (by rfl) T.eo T.em.kp T.en .nil xb6 (xa0 (pv 3) xa6))) (xb0 G_amount (hr.mono (by decide)) (by rfl) T.ej1 T.eh1.kp T.ei1 .nil xb6 (xa0 (pv 4) (xa0 (xp7 (hu1 hr) (xe9 K (pv 0)) (pv 1) xa9 ⟨rfl,rfl,rfl,rfl⟩) xa6))) (pv 4)))))),?_⟩
  unfold numF at k
  have kq:H q = some (.tup ((xb1 l s).map kV)):=hq
  by_cases c:f = Str.ofString ""
  ·rw [if_pos c] at k
   refine xa7 (fun _ _=>False) (fun N hN=>?_) (fun _ _ z=>z.elim)
   refine ⟨_,rfl,rfl,_,rfl,?_⟩
   rw [decide_eq_true (by rw [c])]
   refine iteT ⟨_,rfl,d,rfl,.inr ⟨_,.inl hd⟩,_,rfl,_,DGet.t hd kq,?_⟩
   rw [(hl.at (by decide) _).1]
   exact k
  ·rw [if_neg c] at k
   obtain ⟨e,he,e1,e2,e3⟩:=yo4 (hf.resolve_left c)
   obtain ⟨dx,hx⟩:=hb.obj
   have hin:=hb.inner e he
   obtain ⟨w1,w2,w3⟩:=(ok.full e he).1.at (by decide) (xb1 l s)
   rw [e3] at k
   refine xd6 (fun σ' G=>σ' = [some (.ref x),some (.str f),some (.ref d),some (.ref q),some (.int (nI e.2.2 (xb1 l s)))] /\ G = H) (fun N hN=>?_) ?_
   ·refine ⟨_,rfl,rfl,_,rfl,?_⟩
    rw [decide_eq_false (fun z=>c (by injection z))]
    have g1:=DGet.k (k:=.inr f) hb.fill
    rw [e2] at g1
    refine iteF ⟨_,rfl,x,_,_,_,_,rfl,hx,T.en4,T.ep4,rfl,_,rfl,b.F,.ref e.2.1,rfl,g1,e.2.1,rfl,.inr ⟨_,.inl hin⟩,_,rfl,_,DGet.t hin kq,?_⟩
    rw [w1]
    exact hN _ _ ⟨rfl,rfl⟩
   rintro σ1 H1 ⟨rfl,rfl⟩
   obtain ⟨v1,v2,v3⟩:=ok.levs.at (by decide) (.inr f)
   refine ⟨_,rfl,q,l,s,rfl,hq,_,rfl,?_⟩
   show if isBr s = true then _ else _
   cases z:isBr s with
   | false =>
    rw [z] at k
    exact iteF ⟨_,rfl,k⟩
   | true =>
    rw [z] at k
    refine iteT ⟨_,rfl,_,rfl,x,_,_,_,_,rfl,hx,T.en4,T.eq4,rfl,b.L,rfl,.inl ⟨_,.inl hb.lev⟩,_,rfl,_,DGet.k (k:=.inr f) hb.lev,?_⟩
    rw [v1]
    exact ⟨_,_,_,rfl,Two.both _ _ w2 w3 v2 v3,(fun w l e=>by cases e; exact k),fun z=>by cases z⟩
structure Best (b:Bd) (look:List (List Key × V)) (l s f:Str):Prop where
 some:f = Str.ofString "" \/ ∃ e ∈ b.fl,e.1 = f
 all:∀ e ∈ b.fl,numF b look l s e.1 <= numF b look l s f
 own:numF b look l s (Str.ofString "") <= numF b look l s f
 more:f = Str.ofString "" \/ numF b look l s (Str.ofString "") < numF b look l s f
theorem txt_fl {b:Bd}:xm9 (b.fl.map fun e=>((.inr e.1:Key),V.ref e.2.1)):=fun kv h=>by
 obtain ⟨e,_,rfl⟩:=List.mem_map.mp h
 exact ⟨_,rfl⟩
theorem keys_fl {b:Bd}:keysOf (b.fl.map fun e=>((.inr e.1:Key),V.ref e.2.1)) = b.fl.map (·.1):=by
 unfold keysOf
 rw [List.map_map]; rfl
def spBest (K:Frag) (A:Adr):Sp:=fun vs H Q _=>∃ (x d q:Addr) (b:Bd) (look:List (List Key × V)) (l s:Str),vs = [.ref x,.ref d,.ref q] /\ BoardAt A H x b /\ b.Ok /\ H d = some (.dT look) /\ Nums 1000000000 look /\ H q = some (.tup [.str l,.str s]) /\ ∀ f H',Best b look l s f -> Same H H' -> Q (.str f) H'
theorem xq0 (T:Txt K mg A):FnOk P w K mg base (CXE P w) 6 A.eu1 A.ev1 ["self","look","slot"] (spBest K A):=by
 have G_Board_number_by:=xl0 (P:=P) (w:=w) (base:=base) T
 refine T.er2.okN xe6 (fun vs H Q E h=>?_) (fun cdv Ar outer s H vs Q E hr h=>?_)
 ·obtain ⟨x,d,q,b,look,l,s,rfl,hb,ok,hd,hl,hq,k⟩:=h
  rfl
 ·obtain ⟨x,d,q,b,look,l,s,rfl,hb,ok,hd,hl,hq,k⟩:=h
  refine ⟨_,(xa4 (xd8 (i:=3) xe6.nd rfl (Or.inl rfl) (yd2 (by rfl) T.eq6))
   (xa4 (xm2 PassesOwn.never rfl (xk8 K (xc0 (yo0 rfl) (by rfl) T.ee6 xy2 (xa0 (xe9 K (pv 0)) xa6))) (xd5 (i:=4) xe6.nd rfl (Or.inl rfl)) (xa5 (xg1 (xg0 yy9 (xi3 (pv 0) T.en4 T.ew2 G_Board_number_by (hr.mono (by decide)) T.ev2 .nil xb6 (xa0 (pv 4) (xa0 (pv 1) (xa0 (pv 2) xa6)))) (xi3 (pv 0) T.en4 T.ew2 G_Board_number_by (hr.mono (by decide)) T.ev2 .nil xb6 (xa0 (pv 3) (xa0 (pv 1) (xa0 (pv 2) xa6)))) (xh6 _)) (xa5 (xd8 (i:=3) xe6.nd rfl (Or.inl rfl) (pv 4))) xb9)))
   (xa5 (xb7 (pv 3))))),?_⟩
  obtain ⟨dx,hx⟩:=hb.obj
  refine xa7 (fun σ' G=>σ' = [some (.ref x),some (.ref d),some (.ref q),some (.str (Str.ofString "")),none] /\ G = H) (fun N hN=>?_) ?_
  ·exact hN _ _ ⟨rfl,rfl⟩
  rintro σ1 H1 ⟨rfl,rfl⟩
  refine xa7 (fun σ' G=>∃ f v4,σ' = [some (.ref x),some (.ref d),some (.ref q),some (.str f),v4] /\ Same H1 G /\ Best b look l s f) (fun N hN=>?_) ?_
  ·refine ⟨_,rfl,x,_,_,_,_,rfl,hx,T.en4,T.ep4,rfl,b.F,_,rfl,hb.fill,txt_fl,(by rw [List.length_map]; have:=ok.few; omega),fun p ys hp pm=>⟨p,rfl,⟨_,SqL.of xa1⟩,?_⟩⟩
   rw [keys_fl] at pm
   have sp:=Same.new (o:=HO.lst (ys.map V.str)) hp
   have fp:(upd H1 p (HO.lst (ys.map V.str))) p = some (HO.lst (ys.map V.str)):=xa1
   generalize upd H1 p (HO.lst (ys.map V.str)) = H2 at sp fp ⊢
   refine xj3 (K:=K) (a:=p) (xs:=ys.map V.str) (fun i σ' G=>∃ f v4,σ' = [some (.ref x),some (.ref d),some (.ref q),some (.str f),v4] /\ Same H2 G /\ (f = Str.ofString "" \/ ∃ e ∈ b.fl,e.1 = f) /\ (∀ (j:Nat) g,j < i -> ys[j]? = some g -> numF b look l s g <= numF b look l s f) /\ numF b look l s (Str.ofString "") <= numF b look l s f /\ (f = Str.ofString "" \/ numF b look l s (Str.ofString "") < numF b look l s f)) ⟨_,_,rfl,Same.refl _,.inl rfl,(fun j g hj=>absurd hj (Nat.not_lt_zero _)),Int.le_refl _,.inl rfl⟩ ?_ ?_ ?_
   ·rintro i σ' G _ ⟨f,v4,_,sm,_⟩
    exact SqL.of (sm _ _ fp)
   ·rintro i v σ' G hv ⟨f,v4,rfl,sm,h1,h2,h3,h4⟩
    rw [List.getElem?_map] at hv
    obtain ⟨g,hg,rfl⟩:=Option.map_eq_some_iff.mp hv
    have sG:=sp.trans sm
    have gm:∃ e ∈ b.fl,e.1 = g:=by
     have:=pm.mem_iff.mp (List.mem_of_getElem? hg)
     obtain ⟨e,he,rfl⟩:=List.mem_map.mp this
     exact ⟨e,he,rfl⟩
    refine ⟨_,rfl,x,dx,_,rfl,sG _ _ hx,rfl,_,rfl,_,rfl,_,rfl,x,d,q,b,look,g,l,s,rfl,hb.keep sG,ok,sG _ _ hd,hl,sG _ _ hq,.inr gm,?_⟩
    refine ⟨_,rfl,x,dx,_,rfl,sG _ _ hx,rfl,_,rfl,_,rfl,_,rfl,x,d,q,b,look,f,l,s,rfl,hb.keep sG,ok,sG _ _ hd,hl,sG _ _ hq,h1,?_⟩
    refine ⟨_,_,rfl,rfl,_,rfl,?_⟩
    refine ite2 (fun c=>?_) (fun c=>?_)
    ·have lt:numF b look l s f < numF b look l s g:=of_decide_eq_true c
     refine ⟨_,rfl,g,_,rfl,sm,.inr gm,fun j g' hj hg'=>?_,by omega,.inr (by omega)⟩
     by_cases z:j = i
     ·subst z; rw [hg] at hg'; cases hg'; exact Int.le_refl _
     ·have:=h2 j g' (by omega) hg'; omega
    ·have le:¬ numF b look l s f < numF b look l s g:=fun z=>c (decide_eq_true z)
     refine ⟨f,_,rfl,sm,h1,fun j g' hj hg'=>?_,h3,h4⟩
     by_cases z:j = i
     ·subst z; rw [hg] at hg'; cases hg'; omega
     ·exact h2 j g' (by omega) hg'
   ·rintro σ' G ⟨f,v4,rfl,sm,h1,h2,h3,h4⟩
    refine hN _ _ ⟨f,v4,rfl,sp.trans sm,h1,fun e he=>?_,h3,h4⟩
    have:e.1 ∈ ys:=pm.mem_iff.mpr (List.mem_map.mpr ⟨e,he,rfl⟩)
    obtain ⟨j,hj⟩:=List.mem_iff_getElem?.mp this
    exact h2 j _ (by rw [List.length_map]; exact (List.getElem?_eq_some_iff.mp hj).1) hj
  rintro σ2 H2 ⟨f,v4,rfl,sm,hf⟩
  exact ⟨_,rfl,k f _ hf sm⟩
def winN (b:Bd) (l s:Str):Str:=((keysOf b.lv).reverse.find? fun f=>decide (0 < nI b.lv (.inr f)) && (valV (xa8 b f) (xb1 l s)).isSome).getD (Str.ofString "")
theorem zb6 {b:Bd} {f:Str} {k:List Key} (h:(valV (xa8 b f) k).isSome = true):∃ e ∈ b.fl,e.1 = f:=by
 unfold xa8 at h
 cases e:b.fl.find? fun e=>decide (e.1 = f) with
 | none=>rw [e] at h; cases h
 | some a =>
  have:=List.find?_some e
  exact ⟨a,List.mem_of_find?_eq_some e,of_decide_eq_true this⟩
theorem winN_in {b:Bd} {l s:Str}:winN b l s = Str.ofString "" \/ ∃ e ∈ b.fl,e.1 = winN b l s:=by
 unfold winN
 cases e:(keysOf b.lv).reverse.find? fun f=>decide (0 < nI b.lv (.inr f)) && (valV (xa8 b f) (xb1 l s)).isSome with
 | none=>exact .inl rfl
 | some f =>
  have:=List.find?_some e
  simp only [Bool.and_eq_true] at this
  exact .inr (zb6 this.2)
def Win (b:Bd) (look:List (List Key × V)) (l s f:Str):Prop:=if isBr s = true then Best b look l s f else f = winN b l s
theorem Win.some {b:Bd} {look:List (List Key × V)} {l s f:Str} (h:Win b look l s f):f = Str.ofString "" \/ ∃ e ∈ b.fl,e.1 = f:=by
 unfold Win at h
 split at h
 ·exact h.some
 ·rw [h]; exact winN_in
theorem ye7 {b:Bd} {f:Str} (h:¬ ∃ e ∈ b.fl,e.1 = f):valV (b.fl.map fun e=>((.inr e.1:Key),V.ref e.2.1)) (.inr f) = none /\ xa8 b f = []:=by
 unfold xa8
 generalize b.fl = r at h
 induction r with
 | nil=>exact ⟨rfl,rfl⟩
 | cons a r ih =>
  have c:¬ a.1 = f:=fun z=>h ⟨a,List.mem_cons_self ..,z⟩
  obtain ⟨i1,i2⟩:=ih fun ⟨e,he,z⟩=>h ⟨e,List.mem_cons_of_mem _ he,z⟩
  constructor
  ·rw [List.map_cons,xc5 (by intro z; injection z with z; exact c z)]; exact i1
  ·rw [List.find?_cons,decide_eq_false c]; exact i2
structure Bd.Lev (b:Bd):Prop where
 txt:xm9 b.lv
 few:b.lv.length <= 10
theorem lev_at {b:Bd} (h:Nums 1000 b.lv) {f:Str} (hf:f ∈ keysOf b.lv) (ht:xm9 b.lv):valV b.lv (.inr f) = some (.int (nI b.lv (.inr f))):=by
 obtain ⟨kv,hkv,e⟩:=List.mem_map.mp hf
 obtain ⟨y,ey⟩:=ht kv hkv
 rw [ey] at e
 have ef:y = f:=e
 rw [ef] at ey
 cases z:valV b.lv (.inr f) with
 | none =>
  have:=xi9 (.inr f:Key) b.lv
  rw [z] at this
  have t:(b.lv.any fun kv=>decide (kv.1 = Sum.inr f)) = true:=List.any_eq_true.mpr ⟨kv,hkv,decide_eq_true ey⟩
  rw [t] at this
  cases this
 | some v =>
  have:=(h.at (by decide) (.inr f:Key)).1
  rw [z] at this
  rw [<- this]; rfl
def spWin (K:Frag) (A:Adr):Sp:=fun vs H Q _=>∃ (x d q:Addr) (b:Bd) (look:List (List Key × V)) (l s:Str),vs = [.ref x,.ref d,.ref q] /\ BoardAt A H x b /\ b.Ok /\ b.Lev /\ H d = some (.dT look) /\ Nums 1000000000 look /\ H q = some (.tup [.str l,.str s]) /\ ∀ f H',Win b look l s f -> Same H H' -> Q (.str f) H'
theorem xt3 (T:Txt K mg A):FnOk P w K mg base (CXE P w) 7 A.es1 A.et1 ["self","look","slot"] (spWin K A):=by
 have G_Board_brightest:=xq0 (P:=P) (w:=w) (base:=base) T
 have G_is_bright:=xn7 (P:=P) (w:=w) (base:=base) T
 refine T.eo2.okN xn0 (fun vs H Q E h=>?_) (fun cdv Ar outer s H vs Q E hr h=>?_)
 ·obtain ⟨x,d,q,b,look,l,s,rfl,hb,ok,lv,hd,hl,hq,k⟩:=h
  rfl
 ·obtain ⟨x,d,q,b,look,l,s,rfl,hb,ok,lv,hd,hl,hq,k⟩:=h
  refine ⟨_,(xa4 (xg1 (xh3 (xb0 G_is_bright (hr.mono (by decide)) (by rfl) T.eo T.em.kp T.en .nil xb6 (xa0 (pv 2) xa6))) (xa5 (xb7 (xi3 (pv 0) T.en4 T.et2 G_Board_brightest (hr.mono (by decide)) T.es2 .nil xb6 (xa0 (pv 1) (xa0 (pv 2) xa6))))) xb9)
   (xa4 (xm2 PassesOwn.never rfl (pi_rev K (by rfl) T.ef6 (xm3 (yv3 rfl) (by rfl) T.eb6 xm5 (xa0 (xe9 K (pv 0)) xa6))) (xd5 (i:=3) xn0.nd rfl (Or.inl rfl)) (xa5 (xg1 (PW.pt (pw_and (xg0 yy9 (xi7 (hu1 hr) (xe9 K (pv 0)) (pv 3) (fun _ _=>rfl)) xa9 (xh6 _)) (yx2 (ya4 (yy4 (hu1 hr) (pv 2) (xp7 (hu1 hr) (xe9 K (pv 0)) (pv 3) xk9 ⟨rfl,rfl,rfl,rfl⟩)))))) (xa5 (xb7 (pv 3))) xb9)))
   (xa5 (xb7 (yd2 (by rfl) T.eq6))))),?_⟩
  obtain ⟨dx,hx⟩:=hb.obj
  have kq:H q = some (.tup ((xb1 l s).map kV)):=hq
  unfold Win at k
  cases z:isBr s with
  | true =>
   rw [z] at k
   refine xa7 (fun _ _=>False) (fun N hN=>?_) (fun _ _ z=>z.elim)
   refine ⟨_,rfl,q,l,s,rfl,hq,_,rfl,?_⟩
   show if isBr s = true then _ else _
   rw [z]
   exact iteT ⟨_,rfl,x,dx,_,rfl,hx,rfl,_,rfl,_,rfl,x,d,q,b,look,l,s,rfl,hb,ok,hd,hl,hq,fun f G hf sG=>k f G hf sG⟩
  | false =>
   rw [z] at k
   refine xa7 (fun σ' G=>σ' = [some (.ref x),some (.ref d),some (.ref q),none] /\ G = H) (fun N hN=>?_) ?_
   ·refine ⟨_,rfl,q,l,s,rfl,hq,_,rfl,?_⟩
    show if isBr s = true then _ else _
    rw [z]
    exact iteF (hN _ _ ⟨rfl,rfl⟩)
   rintro σ1 H1 ⟨rfl,rfl⟩
   refine xa7 (fun σ' G=>∃ v3,σ' = [some (.ref x),some (.ref d),some (.ref q),v3] /\ Same H1 G /\ winN b l s = Str.ofString "") (fun N hN=>?_) ?_
   ·refine ⟨_,rfl,x,_,_,_,_,rfl,hx,T.en4,T.eq4,rfl,b.L,_,rfl,hb.lev,lv.txt,fun p hp=>⟨p,_,rfl,SqL.of xa1,?_⟩⟩
    have sp:=Same.new (o:=HO.lst ((keysOf b.lv).map V.str)) hp
    have fp:(upd H1 p (HO.lst ((keysOf b.lv).map V.str))) p = some (HO.lst ((keysOf b.lv).map V.str)):=xa1
    generalize upd H1 p (HO.lst ((keysOf b.lv).map V.str)) = H2 at sp fp ⊢
    refine for_rev (K:=K) (a:=p) (xs:=(keysOf b.lv).map V.str) (fun i σ' G=>∃ v3,σ' = [some (.ref x),some (.ref d),some (.ref q),v3] /\ Same H2 G /\ ∀ f ∈ (keysOf b.lv).reverse.take i,(decide (0 < nI b.lv (.inr f)) && (valV (xa8 b f) (xb1 l s)).isSome) = false) ⟨_,rfl,Same.refl _,by simp⟩ ?_ ?_ ?_
    ·rintro i σ' G _ ⟨v3,_,sm,_⟩
     exact SqL.of (sm _ _ fp)
    ·rintro i v σ' G hi hv ⟨v3,rfl,sm,hno⟩
     rw [List.getElem?_map] at hv
     obtain ⟨f,hf,rfl⟩:=Option.map_eq_some_iff.mp hv
     have sG:=sp.trans sm
     rw [List.length_map] at hi hf
     have hr:(keysOf b.lv).reverse[i]? = some f:=by rw [List.getElem?_reverse hi]; exact hf
     have hm:f ∈ keysOf b.lv:=List.mem_of_getElem? hf
     have g1:=DGet.k (k:=.inr f) (sG _ _ hb.lev)
     rw [lev_at ok.levs hm lv.txt] at g1
     have tk:(keysOf b.lv).reverse.take (i + 1) = (keysOf b.lv).reverse.take i ++ [f]:=by rw [List.take_add_one,hr]; rfl
     refine ⟨_,rfl,x,_,_,_,_,rfl,sG _ _ hx,T.en4,T.eq4,rfl,_,rfl,b.L,_,rfl,g1,_,_,rfl,rfl,_,rfl,?_⟩
     have no:(decide (0 < nI b.lv (.inr f)) && (valV (xa8 b f) (xb1 l s)).isSome) = false -> ∀ g ∈ (keysOf b.lv).reverse.take (i + 1),(decide (0 < nI b.lv (.inr g)) && (valV (xa8 b g) (xb1 l s)).isSome) = false:=fun e g hg=>by
      rw [tk] at hg
      rcases List.mem_append.mp hg with hg | hg
      ·exact hno g hg
      ·cases List.mem_singleton.mp hg; exact e
     have yes:(decide (0 < nI b.lv (.inr f)) && (valV (xa8 b f) (xb1 l s)).isSome) = true -> winN b l s = f:=fun e=>by
      unfold winN
      have hlt:i < (keysOf b.lv).reverse.length:=(List.getElem?_eq_some_iff.mp hr).1
      have hat:(keysOf b.lv).reverse[i] = f:=(List.getElem?_eq_some_iff.mp hr).2
      have:(keysOf b.lv).reverse = (keysOf b.lv).reverse.take i ++ f :: (keysOf b.lv).reverse.drop (i + 1):=by
       rw [<- hat,<- List.drop_eq_getElem_cons hlt,List.take_append_drop]
      rw [this,List.find?_append,List.find?_eq_none.mpr (fun g hg=>by rw [hno g hg]; exact Bool.false_ne_true),List.find?_cons,e]
      rfl
     by_cases c:0 < nI b.lv (.inr f)
     ·rw [decide_eq_true c]
      refine iteT ⟨_,rfl,_,rfl,x,_,_,_,_,rfl,sG _ _ hx,T.en4,T.ep4,rfl,b.F,rfl,.inl ⟨_,.inl (sG _ _ hb.fill)⟩,_,rfl,fun p2 hp2=>?_⟩
      have s2:=Same.new (o:=HO.dT []) hp2
      have fp2:(upd G p2 (HO.dT [])) p2 = some (HO.dT []):=xa1
      generalize upd G p2 (HO.dT []) = G2 at s2 fp2 ⊢
      have sG2:=sG.trans s2
      by_cases mem:∃ e ∈ b.fl,e.1 = f
      ·obtain ⟨e,he,e1,e2,e3⟩:=yo4 mem
       have g2:=DGet.k (k:=.inr f) (sG2 _ _ hb.fill)
       rw [e2] at g2
       refine ⟨_,g2,e.2.1,_,rfl,DGet.t (sG2 _ _ (hb.inner e he)) (sG2 _ _ kq),_,rfl,?_⟩
       refine ite2 (fun y=>?_) (fun y=>?_)
       ·exact ⟨_,rfl,k f _ (by rw [if_neg Bool.false_ne_true]; exact (yes (by rw [decide_eq_true c,e3,y]; rfl)).symm) sG2⟩
       ·exact ⟨_,rfl,sm.trans s2,no (by rw [e3]; cases w:(valV e.2.2 (xb1 l s)).isSome with | false=>simp | true=>exact absurd w y)⟩
      ·obtain ⟨e2,e3⟩:=ye7 mem
       have g2:=DGet.k (k:=.inr f) (sG2 _ _ hb.fill)
       rw [e2] at g2
       refine ⟨_,g2,p2,_,rfl,DGet.t fp2 (sG2 _ _ kq),_,rfl,?_⟩
       exact iteF ⟨_,rfl,sm.trans s2,no (by rw [e3]; simp [valV])⟩
     ·rw [decide_eq_false c]
      exact iteF (iteF ⟨_,rfl,sm,no (by rw [decide_eq_false c]; rfl)⟩)
    ·rintro σ' G ⟨v3,rfl,sm,hno⟩
     rw [List.length_map,<- List.length_reverse,List.take_length] at hno
     refine hN _ _ ⟨v3,rfl,sp.trans sm,?_⟩
     unfold winN
     rw [List.find?_eq_none.mpr (fun g hg=>by rw [hno g hg]; exact Bool.false_ne_true)]
     rfl
   rintro σ2 H2 ⟨v3,rfl,sm,hw⟩
   exact k _ _ (by rw [if_neg Bool.false_ne_true]; exact hw.symm) sm
def kvD:Key × V:=(.inl 0,.int 0)
def downs (b:Bd) (lamp:Str):List Int:=(b.dn.filter fun kv=>!(valV b.sp [kv.1,.inr lamp]).isSome).map fun kv=>numV kv.2
structure IsMax (ns:List Int) (m:Int):Prop where
 none:ns = [] -> m = 0
 some:ns ≠ [] -> m ∈ ns /\ ∀ a ∈ ns,a <= m
theorem zc0 {α β:Type} (l:List α) (d:α) (p:α -> Bool) (f:α -> β):((List.range l.length).filter fun i=>p (l.getD i d)).map (fun i=>f (l.getD i d)) = (l.filter p).map f:=by
 have e:l = (List.range l.length).map fun i=>l.getD i d:=by
  apply List.ext_getElem?
  intro i
  by_cases c:i < l.length
  ·simp [c,List.getD]
  ·rw [List.getElem?_eq_none (by omega),List.getElem?_eq_none (by simp; omega)]
 conv=>rhs; rw [e,List.filter_map,List.map_map]
 rfl
structure Bd.Dwn (b:Bd):Prop where
 txt:xm9 b.dn
 few:b.dn.length <= 10
 nums:Nums 1000 b.dn
theorem downs_le {b:Bd} (h:b.Dwn) {lamp:Str} {m:Int} (hm:IsMax (downs b lamp) m):0 <= m /\ m <= 1000:=by
 by_cases c:downs b lamp = []
 ·rw [hm.none c]; omega
 ·have:=(hm.some c).1
  obtain ⟨kv,hk,rfl⟩:=List.mem_map.mp this
  obtain ⟨i,e,h0,h1⟩:=h.nums kv (List.mem_filter.mp hk).1
  rw [e]
  exact ⟨h0,h1⟩
def spDown (K:Frag) (A:Adr):Sp:=fun vs H Q _=>∃ (x:Addr) (lamp:Str) (b:Bd),vs = [.ref x,.str lamp] /\ BoardAt A H x b /\ b.Dwn /\ ∀ m H',IsMax (downs b lamp) m -> Same H H' -> Q (.int m) H'
theorem xt4 (T:Txt K mg A):FnOk P w K mg base (CXE P w) 1 A.ey1 A.ez1 ["self","lamp"] (spDown K A):=by
 refine T.ex2.okN xt2 (fun vs H Q E h=>?_) (fun cdv Ar outer s H vs Q E hr h=>?_)
 ·obtain ⟨x,lamp,b,rfl,hb,dw,k⟩:=h
  rfl
 ·obtain ⟨x,lamp,b,rfl,hb,dw,k⟩:=h
  refine ⟨_,(xa5 (xb7 (yy3 (zd7 K rfl) (by rfl) T.eg6 yr4 (xa0 (yp8 (yy2 ["hand","down","lamp","self"] [none,none,some 1,some 0] rfl (yp6 (yp7 (xe9 K (pv 0)))) (fun _ _ _=>(yx9 (n:=2) K rfl (xt9 (xd5 (i:=0) xk4 rfl (Or.inl rfl)) (xt9 (xd5 (i:=1) xk4 rfl (Or.inl rfl)) yx8)))) (fun _ _ _=>(ya4 (xv5 (hu1 hr) (xv2 (xa0 (pv 0) (xa0 (pv 2) xa6))) (xe9 K (pv 3))))) (fun _ _ _=>(pv 1)))) xa6) (pk_cons xa9 pk_nil)))),?_⟩
  obtain ⟨dx,hx⟩:=hb.obj
  refine ⟨b.D,b.dn,hb.dwn,fun o es ep D=>?_⟩
  have nx:x ≠ b.D:=fun z=>by rw [z,hb.dwn] at hx; cases hx
  have nS:b.S ≠ b.D:=fun z=>by have:=hb.spr; rw [z,hb.dwn] at this; cases this
  have hx1:(upd H b.D (held b.D o)) x = some (.ins A.ea3 dx (yr6 b.F b.L b.G b.D b.S)):=by rw [xa3 nx]; exact hx
  have hs1:(upd H b.D (held b.D o)) b.S = some (.dT b.sp):=by rw [xa3 nS]; exact hb.spr
  refine ⟨_,rfl,x,_,_,_,_,rfl,hx1,T.en4,T.es4,rfl,b.D,o,es,ep,rfl,xa1,D.sys,D.ex,D.data,fun p hp=>?_⟩
  have sp:=Same.new (o:=xn3 "dict_items" p b.D) hp
  have h0:(upd (upd H b.D (held b.D o)) p (xn3 "dict_items" p b.D)) b.D = some (held b.D o):=sp _ _ xa1
  refine ⟨p,b.D,o,_,_,es,ep,rfl,xa1,h0,D.ex,D.data,D.keys dw.txt,D.vals,fun D' hD'=>?_⟩
  have ne:D' ≠ b.D:=by rintro rfl; rw [h0] at hD'; cases hD'
  have kl:((keysOf b.dn).map V.str).length = b.dn.length:=by rw [List.length_map,keysOf,List.length_map]
  refine yj9 (fun i=>!(valV b.sp [(b.dn.getD i kvD).1,.inr lamp]).isSome) (fun i=>V.int (numV (b.dn.getD i kvD).2)) (fun σ=>∃ v0 v1,σ = [v0,v1,some (.str lamp),some (.ref x)]) h0 hD' (by rw [kl]; have:=dw.few; omega) ⟨_,_,rfl⟩ (fun i kk v q σ' G N hk hv ho sm hq q1=>?_) fun G sm hl=>?_
  ·obtain ⟨v0,v1,rfl⟩:=ho
   rw [List.getElem?_map] at hk hv
   obtain ⟨h,hh,rfl⟩:=Option.map_eq_some_iff.mp hk
   obtain ⟨kv,hkv,rfl⟩:=Option.map_eq_some_iff.mp hv
   rw [keysOf,List.getElem?_map,hkv] at hh
   obtain ⟨y,ey⟩:=dw.txt kv (List.mem_of_getElem? hkv)
   obtain ⟨n,en,_,_⟩:=dw.nums kv (List.mem_of_getElem? hkv)
   have eh:y = h:=by
    have z:keyS kv.1 = h:=by simpa using hh
    rw [ey] at z; exact z
   have gd:b.dn.getD i kvD = kv:=by rw [List.getD_eq_getElem?_getD,hkv]; rfl
   rw [gd] at q1
   rw [ey,eh,en] at q1
   rw [en] at hq
   rw [gd,en]
   refine ⟨q,_,rfl,SqT.of hq,rfl,?_⟩
   refine ⟨_,_,rfl,_,_,rfl,rfl,?_⟩
   refine ⟨_,rfl,_,rfl,(by show 2 <= 1000; decide),fun q2 hq2=>?_⟩
   have s2:=Same.new (o:=HO.tup [V.str h,V.str lamp]) hq2
   have f2:(upd G q2 (HO.tup [V.str h,V.str lamp])) q2 = some (HO.tup (([.inr h,.inr lamp]:List Key).map kV)):=xa1
   generalize upd G q2 (HO.tup [V.str h,V.str lamp]) = G2 at s2 f2 ⊢
   have sG:=(sp.trans sm).trans s2
   refine ⟨_,rfl,x,_,_,_,_,rfl,sG _ _ hx1,T.en4,T.et4,rfl,b.S,_,rfl,DGet.t (sG _ _ hs1) f2,_,rfl,?_⟩
   have q2:=q1 [some (.str h),some (.int n),some (.str lamp),some (.ref x)] G2 s2 ⟨_,_,rfl⟩
   cases z:!(valV b.sp [.inr h,.inr lamp]).isSome with
   | true=>rw [z] at q2; exact iteT ⟨_,rfl,q2⟩
   | false=>rw [z] at q2; exact iteF q2
  ·refine ⟨sm _ _ h0,?_⟩
   have s3:=xu3 hb.dwn (sp.trans sm)
   have e:((List.range ((keysOf b.dn).map V.str).length).filter fun i=>!(valV b.sp [(b.dn.getD i kvD).1,.inr lamp]).isSome).map (fun i=>V.int (numV (b.dn.getD i kvD).2)) = (downs b lamp).map V.int:=by
    rw [kl,zc0 b.dn kvD (fun kv=>!(valV b.sp [kv.1,.inr lamp]).isSome) (fun kv=>V.int (numV kv.2))]
    unfold downs
    rw [List.map_map]; rfl
   rw [e] at hl
   exact ⟨D',_,_,rfl,rfl,SqL.of (by rw [xa3 ne]; exact hl),fun m h1 h2=>k m _ ⟨h1,fun z=>⟨(h2 z).1,fun a ha=>(h2 z).2 a ha⟩⟩ s3⟩
def yr8 (kvs:List (List Key × V)):Prop:=∀ kv ∈ kvs,∃ l s,kv.1 = xb1 l s
theorem yo7 (l s:Str):yl1 (xb1 l s):=⟨by simp,fun x hx=>by
 simp only [List.mem_cons,List.not_mem_nil,or_false] at hx
 rcases hx with rfl | rfl
 ·exact ⟨_,rfl⟩
 ·exact ⟨_,rfl⟩⟩
def yw3 (b:Bd):Nat:=(b.fl.map fun e=>e.2.2.length).sum
def InSl (b:Bd) (look:List (List Key × V)) (k:List Key):Prop:=k ∈ look.map (·.1) \/ ∃ e ∈ b.fl,k ∈ e.2.2.map (·.1)
theorem yo9 {α:Type} (f:α -> Nat):∀ (l:List α) (i:Nat),((l.take i).map f).sum <= (l.map f).sum
 | [],i=>by simp
 | a :: r,0=>by simp
 | a :: r,i + 1=>by
  have:=yo9 f r i
  simp only [List.take_succ_cons,List.map_cons,List.sum_cons]
  omega
theorem xx0 {H H':Hp} {ks:List (List Key × Addr)} (h:xn1 H ks) (t:∀ b ys,H b = some (.tup ys) -> H' b = some (.tup ys)):xn1 H' ks:=fun z hz=>t _ _ (h z hz)
structure SlotsAt (b:Bd) (look:List (List Key × V)) (H:Hp) (ws:List (List Key × Addr)):Prop where
 at_:xn1 H ws
 nd:(ws.map (·.1)).Nodup
 mem:∀ k,k ∈ ws.map (·.1) ↔ InSl b look k
 few:ws.length <= 36
def FewS (b:Bd) (look:List (List Key × V)):Prop:=look.length + yw3 b <= 900 /\ ∃ U:List (List Key),U.length <= 36 /\ ∀ k,InSl b look k -> k ∈ U
def spSlots (K:Frag) (A:Adr):Sp:=fun vs H Q _=>∃ (x d:Addr) (b:Bd) (look:List (List Key × V)),vs = [.ref x,.ref d] /\ BoardAt A H x b /\ b.Ok /\ (∀ e ∈ b.fl,yr8 e.2.2) /\ H d = some (.dT look) /\ yr8 look /\ FewS b look /\
 ∀ p ws H',Same H H' -> H' p = some (.lst (ws.map fun z=>V.ref z.2)) -> SlotsAt b look H' ws -> Q (.ref p) H'
theorem xo8 (T:Txt K mg A):FnOk P w K mg base (CXE P w) 1 A.ea2 A.eb2 ["self","look"] (spSlots K A):=by
 refine T.ea3.okN xg6 (fun vs H Q E h=>?_) (fun cdv Ar outer s H vs Q E hr h=>?_)
 ·obtain ⟨x,d,b,look,rfl,hb,ok,hfs,hd,hls,htot,k⟩:=h
  rfl
 ·obtain ⟨x,d,b,look,rfl,hb,ok,hfs,hd,hls,htot,k⟩:=h
  refine ⟨_,(xa4 (xd8 (i:=2) xg6.nd rfl (Or.inl rfl) (xm3 (yb6 rfl) (by rfl) T.eb6 xm5 (xa0 (pv 1) xa6)))
   (xa4 (ps_holdK (xm2 PassesOwn.never rfl (pi_val (yh6 (xe9 K (pv 0)))) (xd5 (i:=3) xg6.nd rfl (Or.inl rfl)) (xa5 (xd0 (pe_bmK K PySem.F.plainAttrs_list PySem.F.slot_list_extend PySem.F.type_list_extend yz4 (pv 2) (xa0 (xm3 (yb6 rfl) (by rfl) T.eb6 xm5 (xa0 (pv 3) xa6)) xa6))))))
   (xa5 (xb7 (xc0 (yv1 rfl) (by rfl) T.ee6 xy2 (xa0 (xm3 (yv2 rfl hr.units) (by rfl) T.ed6 boot_set (xa0 (pv 2) xa6)) xa6)))))),?_⟩
  obtain ⟨dx,hx⟩:=hb.obj
  obtain ⟨htot,U,hU,hin0⟩:=htot
  refine xa7 (fun σ' G=>∃ L ks,σ' = [some (.ref x),some (.ref d),some (.ref L),none] /\ Same H G /\ H L = none /\ G L = some (.lst (ks.map fun z=>V.ref z.2)) /\ xn1 G ks /\ ks.map (·.1) = look.map (·.1)) (fun N hN=>?_) ?_
  ·refine ⟨_,rfl,d,look,rfl,hd,fun L ks hL ek hk=>hN _ _ ⟨L,ks,rfl,Same.new hL,hL,xa1,xx0 hk fun b' ys e=>(Same.new hL) _ _ e,ek⟩⟩
  rintro σ1 H1 ⟨L,ks0,rfl,s1,hL0,gL,kA,ek0⟩
  have hb1:=hb.keep s1
  have l0:ks0.length = look.length:=by have:=congrArg List.length ek0; simpa using this
  refine xa7 (fun σ' G=>∃ v3 ks,σ' = [some (.ref x),some (.ref d),some (.ref L),v3] /\ (∀ b' o,b' ≠ L -> H1 b' = some o -> G b' = some o) /\ G L = some (.lst (ks.map fun z=>V.ref z.2)) /\ xn1 G ks /\ (∀ k,k ∈ ks.map (·.1) ↔ InSl b look k) /\ ks.length <= 900) (fun N hN=>?_) ?_
  ·refine ⟨b.F,_,hb1.fill,fun o es ep D=>?_⟩
   have nx:x ≠ b.F:=fun z=>by rw [z,hb.fill] at hx; cases hx
   have nL:L ≠ b.F:=fun z=>by rw [z,hb.fill] at hL0; cases hL0
   have hx1:(upd H1 b.F (held b.F o)) x = some (.ins A.ea3 dx (yr6 b.F b.L b.G b.D b.S)):=by rw [xa3 nx]; exact s1 _ _ hx
   refine ⟨_,rfl,x,_,_,_,_,rfl,hx1,T.en4,T.ep4,rfl,b.F,o,es,ep,rfl,xa1,D.sys,D.ex,D.data,fun p hp=>?_⟩
   have sp:=Same.new (o:=xn3 "dict_values" p b.F) hp
   have f0:(upd (upd H1 b.F (held b.F o)) p (xn3 "dict_values" p b.F)) p = some (xn3 "dict_values" p b.F):=xa1
   have h0:(upd (upd H1 b.F (held b.F o)) p (xn3 "dict_values" p b.F)) b.F = some (held b.F o):=sp _ _ xa1
   have hin:∀ e ∈ b.fl,(upd (upd H1 b.F (held b.F o)) p (xn3 "dict_values" p b.F)) e.2.1 = some (.dT e.2.2):=fun e he=>sp _ _ (by
    rw [xa3 (fun z=>by have:=hb1.inner e he; rw [z,hb1.fill] at this; cases this)]; exact hb1.inner e he)
   have gL2:(upd (upd H1 b.F (held b.F o)) p (xn3 "dict_values" p b.F)) L = some (.lst (ks0.map fun z=>V.ref z.2)):=sp _ _ (by rw [xa3 nL]; exact gL)
   have kA2:xn1 (upd (upd H1 b.F (held b.F o)) p (xn3 "dict_values" p b.F)) ks0:=xx0 kA fun b' ys e=>sp _ _ (by
    rw [xa3 (ye1 e hb1.fill (by intro z; cases z))]; exact e)
   have base:∀ b' u,b' ≠ b.F -> H1 b' = some u -> (upd (upd H1 b.F (held b.F o)) p (xn3 "dict_values" p b.F)) b' = some u:=fun b' u nb e=>sp _ _ (by rw [xa3 nb]; exact e)
   refine ⟨p,b.F,o,_,es,ep,rfl,f0,h0,D.ex,D.data,D.vals,?_⟩
   generalize upd (upd H1 b.F (held b.F o)) p (xn3 "dict_values" p b.F) = H2 at sp f0 h0 hin gL2 kA2 base ⊢
   rw [List.map_map]
   refine for_held (d:=b.F) (o:=o) (fun i σ' G=>∃ v3 ks,σ' = [some (.ref x),some (.ref d),some (.ref L),v3] /\ (∀ b' o,b' ≠ L -> H2 b' = some o -> G b' = some o) /\ G L = some (.lst (ks.map fun z=>V.ref z.2)) /\ xn1 G ks /\ (∀ k,k ∈ ks.map (·.1) ↔ k ∈ look.map (·.1) \/ ∃ (j:Nat) (e:Str × Addr × List (List Key × V)),j < i /\ b.fl[j]? = some e /\ k ∈ e.2.2.map (·.1)) /\ ks.length = look.length + ((b.fl.take i).map fun e=>e.2.2.length).sum) ⟨_,ks0,rfl,fun _ _ _ e=>e,gL2,kA2,fun k=>by rw [ek0]; exact ⟨.inl,fun z=>z.elim id fun ⟨j,_,h,_⟩=>absurd h (Nat.not_lt_zero _)⟩,by rw [l0]; simp⟩ ?_ ?_ ?_
   ·rintro i σ' G _ ⟨v3,ks,_,kp,_⟩
    exact kp _ _ (Ne.symm nL) h0
   ·rintro i v σ' G hv ⟨v3,ks,rfl,kp,gL3,kA3,hm,hlen⟩
    rw [List.getElem?_map] at hv
    obtain ⟨e,he,rfl⟩:=Option.map_eq_some_iff.mp hv
    have hem:=List.mem_of_getElem? he
    have hi:i < b.fl.length:=(List.getElem?_eq_some_iff.mp he).1
    have tk:b.fl.take (i + 1) = b.fl.take i ++ [e]:=by rw [List.take_add_one,he]; rfl
    have st:=yo9 (fun e:Str × Addr × List (List Key × V)=>e.2.2.length) b.fl (i + 1)
    have ge:G e.2.1 = some (.dT e.2.2):=kp _ _ (fun z=>by have:=hin e hem; rw [z,gL2] at this; cases this) (hin e hem)
    refine ⟨_,rfl,.inl ⟨rfl,_,SqL.of gL3⟩,?_⟩
    refine ⟨_,rfl,e.2.1,e.2.2,rfl,ge,fun p2 ks2 hp2 ek2 kA4=>?_⟩
    have s2:=Same.new (o:=HO.lst (ks2.map fun z=>V.ref z.2)) hp2
    have f2:(upd G p2 (HO.lst (ks2.map fun z=>V.ref z.2))) p2 = some (HO.lst (ks2.map fun z=>V.ref z.2)):=xa1
    have l2:ks2.length = e.2.2.length:=by have:=congrArg List.length ek2; simpa using this
    have sm:((b.fl.take (i + 1)).map fun e=>e.2.2.length).sum = ((b.fl.take i).map fun e=>e.2.2.length).sum + e.2.2.length:=by rw [tk,List.map_append,List.sum_append]; simp
    generalize upd G p2 (HO.lst (ks2.map fun z=>V.ref z.2)) = G2 at s2 f2 ⊢
    have gL4:=s2 _ _ gL3
    refine ⟨L,p2,_,_,rfl,rfl,gL4,f2,Nat.le_trans (show _ <= 1000 by rw [List.length_map,List.length_map]; unfold yw3 at htot; omega) (by rw [sizeLine_eq]; decide),?_⟩
    refine ⟨_,ks ++ ks2,rfl,fun b' u nb e'=>by rw [xa3 nb]; exact s2 _ _ (kp _ _ nb e'),by rw [xa1,List.map_append],fun z hz=>?_,fun k=>?_,by rw [List.length_append,hlen,sm,l2]; omega⟩
    ·have:G2 z.2 = some (.tup (z.1.map kV)):=by
      rcases List.mem_append.mp hz with hz | hz
      ·exact s2 _ _ (kA3 z hz)
      ·exact s2 _ _ (kA4 z hz)
     rw [xa3 (ye1 this gL4 (by intro z; cases z))]; exact this
    ·rw [List.map_append,List.mem_append,hm,ek2]
     constructor
     ·rintro ((h | ⟨j,e',hj,h1,h2⟩) | h)
      ·exact .inl h
      ·exact .inr ⟨j,e',by omega,h1,h2⟩
      ·exact .inr ⟨i,e,by omega,he,h⟩
     ·rintro (h | ⟨j,e',hj,h1,h2⟩)
      ·exact .inl (.inl h)
      ·by_cases z:j = i
       ·subst z; rw [he] at h1; cases h1; exact .inr h2
       ·exact .inl (.inr ⟨j,e',by omega,h1,h2⟩)
   ·rintro σ' G ⟨v3,ks,rfl,kp,gL3,kA3,hm,hlen⟩
    rw [List.length_map] at hm hlen
    rw [List.take_length] at hlen
    have gF:=kp _ _ (Ne.symm nL) h0
    refine ⟨gF,hN _ _ ⟨v3,ks,rfl,fun b' u nb e=>?_,by rw [xa3 nL]; exact gL3,(xx0 kA3 fun b' ys e=>by rw [xa3 (ye1 e gF (by intro z; cases z))]; exact e),fun k=>?_,by unfold yw3 at htot; omega⟩⟩
    ·by_cases c:b' = b.F
     ·rw [c,xa1]; rw [c,hb1.fill] at e; exact e
     ·rw [xa3 c]; exact kp _ _ nb (base _ _ c e)
    ·rw [hm]
     unfold InSl
     constructor
     ·rintro (h | ⟨j,e',hj,h1,h2⟩)
      ·exact .inl h
      ·exact .inr ⟨e',List.mem_of_getElem? h1,h2⟩
     ·rintro (h | ⟨e',h1,h2⟩)
      ·exact .inl h
      ·obtain ⟨j,hj⟩:=List.mem_iff_getElem?.mp h1
       exact .inr ⟨j,e',(List.getElem?_eq_some_iff.mp hj).1,hj,h2⟩
  rintro σ2 H2 ⟨v3,ks,rfl,kp,gL3,kA3,hm,hlen⟩
  have txt:∀ z ∈ ks,yl1 z.1:=fun z hz=>by
   have:=(hm z.1).mp (List.mem_map.mpr ⟨z,hz,rfl⟩)
   rcases this with h | ⟨e,he,h⟩
   ·obtain ⟨kv,hk,e⟩:=List.mem_map.mp h
    obtain ⟨l,s,q⟩:=hls kv hk
    rw [<- e,q]; exact yo7 l s
   ·obtain ⟨kv,hk,e'⟩:=List.mem_map.mp h
    obtain ⟨l,s,q⟩:=hfs e he kv hk
    rw [<- e',q]; exact yo7 l s
  have hbd:∀ zs:List (List Key × Addr),(∀ z ∈ zs,z ∈ ks) -> (zs.map (·.1)).Nodup -> zs.length <= 36:=fun zs hz nd=>by
   have:(zs.map (·.1)).length <= U.length:=nd.length_le_of_subset fun k hk=>by
    obtain ⟨z,hzz,rfl⟩:=List.mem_map.mp hk
    exact hin0 _ ((hm _).mp (List.mem_map.mpr ⟨z,hz z hzz,rfl⟩))
   rw [List.length_map] at this
   omega
  refine ⟨_,rfl,L,ks,rfl,gL3,kA3,txt,hbd,fun p zs hp hf hnd=>?_⟩
  have s3:=Same.new (o:=setO P w p zs) hp
  have zA:xn1 (upd H2 p (setO P w p zs)) zs:=fun z hz=>s3 _ _ (kA3 z (hf.from_ z hz))
  have zl:zs.length <= 36:=hbd zs hf.from_ hnd
  refine ⟨p,zs,rfl,xa1,zA,fun z hz=>txt z (hf.from_ z hz),by omega,fun p2 bs hp2 pm=>?_⟩
  obtain ⟨ws,rfl,pw⟩:=LS.xn6 pm
  have s4:=Same.new (o:=HO.lst ((ws.map (·.2)).map V.ref)) hp2
  have fr:Same H (upd (upd H2 p (setO P w p zs)) p2 (.lst ((ws.map (·.2)).map V.ref))):=fun b' u e=>s4 _ _ (s3 _ _ (kp _ _ (xb2 e hL0) (s1 _ _ e)))
  refine k p2 ws _ fr (by rw [xa1,List.map_map]; rfl) ⟨fun z hz=>s4 _ _ (zA z (pw.mem_iff.mp hz)),(pw.map _).nodup_iff.mpr hnd,fun k=>?_,by rw [pw.length_eq]; exact zl⟩
  rw [(pw.map _).mem_iff,hf.keys,hm]
structure Bd.Good (b:Bd):Prop where
 ok:b.Ok
 lev:b.Lev
 dwn:b.Dwn
 slots:∀ e ∈ b.fl,yr8 e.2.2
structure GoodLook (H:Hp) (d:Addr) (look:List (List Key × V)):Prop where
 at_:H d = some (.dT look)
 few:look.length <= 20
 keys:∀ kv ∈ look,xu1 kv.1 /\ yc2 kv.1 = true /\ ∃ l s,kv.1 = xb1 l s
 vals:∀ kv ∈ look,∃ i:Int,kv.2 = .int i /\ 1 <= i /\ i <= 1000000000
theorem GoodLook.keep {H H':Hp} {d:Addr} {look:List (List Key × V)} (h:GoodLook H d look) (s:Same H H'):GoodLook H' d look:={ h with at_:=s _ _ h.at_ }
theorem GoodLook.lk {K:Frag} {H:Hp} {d:Addr} {look:List (List Key × V)} (h:GoodLook H d look):Lk K H (.ref d) 0:=by
 have:=Lk.vals (K:=K) d look h.at_ (by have:=h.few; omega) (fun kv hk=>(h.keys kv hk).1) (List.all_eq_true.mpr fun kv hk=>(h.keys kv hk).2.1) (fun kv hk=>let ⟨i,e,_⟩:=h.vals kv hk; .inl ⟨i,e⟩)
 rw [show (look.all fun kv=>wB kv.2) = true from List.all_eq_true.mpr fun kv hk=>by
  obtain ⟨i,e,h1,h2⟩:=h.vals kv hk
  rw [e]
  simp only [wB,Bool.and_eq_true,decide_eq_true_eq]
  omega] at this
 exact this
theorem GoodLook.nums {H:Hp} {d:Addr} {look:List (List Key × V)} (h:GoodLook H d look):Nums 1000000000 look:=fun kv hk=>let ⟨i,e,h1,h2⟩:=h.vals kv hk; ⟨i,e,by omega,h2⟩
theorem GoodLook.ks {H:Hp} {d:Addr} {look:List (List Key × V)} (h:GoodLook H d look):yr8 look:=fun kv hk=>(h.keys kv hk).2.2
theorem numF_le {b:Bd} {look:List (List Key × V)} (ok:b.Ok) (hl:Nums 1000000000 look) (l s f:Str):0 <= numF b look l s f /\ numF b look l s f <= 1000000000:=by
 unfold numF
 have hf:Nums 1000000000 (xa8 b f):=by
  unfold xa8
  cases e:b.fl.find? fun e=>decide (e.1 = f) with
  | none=>intro kv h; cases h
  | some a=>exact (ok.full a (List.mem_of_find?_eq_some e)).1
 obtain ⟨_,a1,a2⟩:=hf.at (by decide) (xb1 l s)
 obtain ⟨_,b1,b2⟩:=hl.at (by decide) (xb1 l s)
 obtain ⟨_,c1,c2⟩:=ok.levs.at (by decide) (.inr f:Key)
 split
 ·exact ⟨b1,b2⟩
 ·split
  ·generalize nI (xa8 b f) (xb1 l s) = w at a1 a2
   generalize nI b.lv (.inr f) = v at c1 c2
   have h1:0 <= w * v:=Int.mul_nonneg a1 c1
   have h2:w * v <= w * 1000:=Int.mul_le_mul_of_nonneg_left c2 a1
   omega
  ·exact ⟨a1,a2⟩
def MixN (b:Bd) (look:List (List Key × V)) (l s:Str) (n:Int):Prop:=∃ f,Win b look l s f /\ if isBr s = true then ∃ m,IsMax (downs b l) m /\ n = numF b look l s f * (1000 - m) / 1000 else n = numF b look l s f
structure Mix (b:Bd) (look kvs:List (List Key × V)):Prop where
 nd:(kvs.map (·.1)).Nodup
 has:∀ l s,InSl b look (xb1 l s) -> ∃ n,MixN b look l s n /\ valV kvs (xb1 l s) = if 0 < n then some (.int n) else none
 no:∀ k,¬ InSl b look k -> valV kvs k = none
 few:kvs.length <= 36
theorem yo3 {kvs:List (List Key × V)} {k:List Key} (h:valV kvs k = none):k ∉ kvs.map (·.1):=fun hm=>by
 obtain ⟨kv,hk,e⟩:=List.mem_map.mp hm
 have:=xi9 k kvs
 rw [h] at this
 have t:(kvs.any fun kv=>decide (kv.1 = k)) = true:=List.any_eq_true.mpr ⟨kv,hk,decide_eq_true e⟩
 rw [t] at this
 cases this
def spMixed (K:Frag) (A:Adr):Sp:=fun vs H Q E=>∃ (x:Addr) (v:V),vs = [.ref x,v] /\
  ((∃ (d:Addr) (b:Bd) (look:List (List Key × V)),v = .ref d /\ BoardAt A H x b /\ b.Good /\ GoodLook H d look /\ FewS b look /\ ∀ M kvs H',Same H H' -> H' M = some (.dT kvs) -> H M = none -> Mix b look kvs -> Q (.ref M) H') \/
   ∃ r,Lk K H v r /\ r ≠ 0 /\ ∀ H',Same H H' -> (r = 1 -> E (.ref A.ec3) none H') /\ (r = 2 -> E (.ref A.ed3) none H'))
theorem xz5 (T:Txt K mg A):FnOk P w K mg base (CXE P w) 8 A.eq1 A.er1 ["self","look"] (spMixed K A):=by
 have G_Board_down_on:=xt4 (P:=P) (w:=w) (base:=base) T
 have G_Board_number_by:=xl0 (P:=P) (w:=w) (base:=base) T
 have G_Board_slots_with:=xo8 (P:=P) (w:=w) (base:=base) T
 have G_Board_winning:=xt3 (P:=P) (w:=w) (base:=base) T
 have G_is_bright:=xn7 (P:=P) (w:=w) (base:=base) T
 have G_lowered:=yt5 (P:=P) (w:=w) (base:=base) T
 have G_refuse_look:=xz2 (P:=P) (w:=w) (base:=base) T
 refine T.el2.okE xg3 (fun vs H Q E h=>?_) (fun cdv Ar outer s H vs Q E hr h=>?_)
 ·obtain ⟨x,v,rfl,hv⟩:=h
  rfl
 ·obtain ⟨x,v,rfl,hv⟩:=h
  refine ⟨_,(xa4 (xd0 (xb0 G_refuse_look (hr.mono (by decide)) (by rfl) T.ev1 T.et1.kp T.eu1 .nil xn2 (xa0 (pv 1) xa6)))
   (xa4 (xd8 (i:=2) xg3.nd rfl (Or.inl rfl) xk9)
   (xa4 (xm2 PassesOwn.leaving rfl (xk8 K (xi3 (pv 0) T.en4 T.ec3 G_Board_slots_with (hr.mono (by decide)) T.eb3 .nil xb6 (xa0 (pv 1) xa6))) (xd5 (i:=3) xg3.nd rfl (Or.inl rfl)) (xa4 (xd8 (i:=4) xg3.nd rfl (Or.inl rfl) (xi3 (pv 0) T.en4 T.ew2 G_Board_number_by (hr.mono (by decide)) T.ev2 .nil xb6 (xa0 (xi3 (pv 0) T.en4 T.eq2 G_Board_winning (hr.mono (by decide)) T.ep2 .nil xb6 (xa0 (pv 1) (xa0 (pv 3) xa6))) (xa0 (pv 1) (xa0 (pv 3) xa6)))))
   (xa4 (xg1 (xh3 (xb0 G_is_bright (hr.mono (by decide)) (by rfl) T.eo T.em.kp T.en .nil xb6 (xa0 (pv 3) xa6))) (xa5 (xd8 (i:=4) xg3.nd rfl (Or.inl rfl) (xb0 G_lowered (hr.mono (by decide)) (by rfl) T.em1 T.ek1.kp T.el1 .nil xn2 (xa0 (pv 4) (xa0 (xi3 (pv 0) T.en4 T.ez2 G_Board_down_on (hr.mono (by decide)) T.ey2 .nil xb6 (xa0 (xr5 (xx1 K) (pv 3) xa9 (fun _ _=>rfl)) xa6)) xa6))))) xb9)
   (xa5 (xg1 (xg0 yy9 (pv 4) xa9 (xh6 _)) (xa5 (xn5 (hu1 hr) (pv 2) (pv 3) (pv 4) rfl)) xb9)))))
   (xa5 (xb7 (pv 2)))))),?_⟩
  rcases hv with ⟨d,b,look,rfl,hb,gd,hl,htot,k⟩ | ⟨r,hr1,r0,e⟩
  ·obtain ⟨dx,hx⟩:=hb.obj
   refine xd6 (fun σ' G=>∃ M,σ' = [some (.ref x),some (.ref d),some (.ref M),none,none] /\ Same H G /\ H M = none /\ G M = some (.dT [])) (fun N hN=>?_) ?_
   ·exact ⟨_,rfl,_,0,rfl,hl.lk,fun G sG=>⟨fun _ M hM=>hN _ _ ⟨M,rfl,sG.trans (Same.new hM),sG.free hM,xa1⟩,(fun z=>by cases z),fun z=>by cases z⟩⟩
   rintro σ1 H1 ⟨M,rfl,s1,hM0,gM⟩
   have hb1:=hb.keep s1
   have hl1:=hl.keep s1
   refine xa7 (fun σ' G=>∃ v3 v4 kvs,σ' = [some (.ref x),some (.ref d),some (.ref M),v3,v4] /\ Same H G /\ G M = some (.dT kvs) /\ Mix b look kvs) (fun N hN=>?_) ?_
   ·refine ⟨_,rfl,x,dx,_,rfl,s1 _ _ hx,rfl,_,rfl,x,d,b,look,rfl,hb1,gd.ok,gd.slots,hl1.at_,hl1.ks,htot,fun p ws H2 s2 gp hw=>⟨p,rfl,⟨_,SqL.of gp⟩,?_⟩⟩
    have gM2:=s2 _ _ gM
    have npM:p ≠ M:=fun z=>by rw [z,gM2] at gp; cases gp
    refine xj3 (K:=K) (a:=p) (xs:=ws.map fun z=>V.ref z.2) (fun i σ' G=>∃ v3 v4 kvs,σ' = [some (.ref x),some (.ref d),some (.ref M),v3,v4] /\ (∀ b' o,b' ≠ M -> H2 b' = some o -> G b' = some o) /\ G M = some (.dT kvs) /\ (kvs.map (·.1)).Nodup /\ kvs.length <= i /\
     (∀ (j:Nat) z l s,j < i -> ws[j]? = some z -> z.1 = xb1 l s -> ∃ n,MixN b look l s n /\ valV kvs (xb1 l s) = if 0 < n then some (.int n) else none) /\ ∀ k,(∀ (j:Nat) z,j < i -> ws[j]? = some z -> z.1 ≠ k) -> valV kvs k = none) ⟨_,_,[],rfl,fun _ _ _ e=>e,gM2,List.nodup_nil,Nat.zero_le _,(fun j z l s hj=>absurd hj (Nat.not_lt_zero _)),fun k _=>rfl⟩ ?_ ?_ ?_
    ·rintro i σ' G _ ⟨v3,v4,kvs,_,kp,_⟩
     exact SqL.of (kp _ _ npM gp)
    ·rintro i v σ' G hv ⟨v3,v4,kvs,rfl,kp,gM3,nd,hlen,has,no⟩
     rw [List.getElem?_map] at hv
     obtain ⟨z,hz,rfl⟩:=Option.map_eq_some_iff.mp hv
     have hzm:=List.mem_of_getElem? hz
     have hi:i < ws.length:=(List.getElem?_eq_some_iff.mp hz).1
     obtain ⟨l,s,ez⟩:∃ l s,z.1 = xb1 l s:=by
      rcases (hw.mem z.1).mp (List.mem_map.mpr ⟨z,hzm,rfl⟩) with h | ⟨e,he,h⟩
      ·obtain ⟨kv,hk,e⟩:=List.mem_map.mp h
       rw [<- e]; exact hl.ks kv hk
      ·obtain ⟨kv,hk,e'⟩:=List.mem_map.mp h
       rw [<- e']; exact gd.slots e he kv hk
     have hMn:∀ {o:HO} {b':Addr},H2 b' = some o -> (∀ ys,o ≠ .dT ys) -> b' ≠ M:=fun {o b'} e h q=>by rw [q,gM2] at e; cases e; exact h _ rfl
     have hxn:x ≠ M:=hMn (s2 _ _ (s1 _ _ hx)) (fun _ z=>nomatch z)
     have hdn:d ≠ M:=fun q=>by rw [q] at hl; rw [hl.at_] at hM0; cases hM0
     have sHG:Same H G:=fun b' u e=>kp _ _ (xb2 e hM0) (s2 _ _ (s1 _ _ e))
     have hq:G z.2 = some (.tup [.str l,.str s]):=by
      have:=hw.at_ z hzm
      rw [ez] at this
      exact kp _ _ (hMn this (fun _ z=>nomatch z)) this
     have kq:G z.2 = some (.tup ((xb1 l s).map kV)):=hq
     have gx:=sHG _ _ hx
     have gb:=hb.keep sHG
     have gl:=hl.keep sHG
     refine xd6 (fun σ' G'=>∃ n,σ' = [some (.ref x),some (.ref d),some (.ref M),some (.ref z.2),some (.int n)] /\ Same G G' /\ MixN b look l s n) (fun N hN=>?_) ?_
     ·refine ⟨_,rfl,x,dx,_,rfl,gx,rfl,_,rfl,x,dx,_,rfl,gx,rfl,_,rfl,_,rfl,x,d,z.2,b,look,l,s,rfl,gb,gd.ok,gd.lev,gl.at_,gl.nums,hq,fun f G2 hf sG2=>?_⟩
      refine ⟨_,rfl,_,rfl,x,d,z.2,b,look,f,l,s,rfl,gb.keep sG2,gd.ok,sG2 _ _ gl.at_,gl.nums,sG2 _ _ hq,hf.some,?_⟩
      refine ⟨_,rfl,z.2,l,s,rfl,sG2 _ _ hq,_,rfl,?_⟩
      show if isBr s = true then _ else _
      cases y:isBr s with
      | false=>exact iteF (hN _ _ ⟨_,rfl,sG2,f,hf,by rw [if_neg (by rw [y]; exact Bool.false_ne_true)]⟩)
      | true =>
       refine iteT ⟨_,rfl,_,rfl,x,dx,_,rfl,sG2 _ _ gx,rfl,_,rfl,z.2,_,_,_,rfl,rfl,SqT.of (sG2 _ _ hq),atI_0 _ _,x,l,b,rfl,gb.keep sG2,gd.dwn,fun m G3 hm s3=>?_⟩
       have nb:=numF_le gd.ok gl.nums l s f
       have mb:=downs_le gd.dwn hm
       exact ⟨_,_,_,rfl,Two.both _ _ nb.1 nb.2 mb.1 mb.2,(fun w v e=>by cases e; exact hN _ _ ⟨_,rfl,sG2.trans s3,f,hf,by rw [if_pos y]; exact ⟨m,hm,rfl⟩⟩),fun z=>by cases z⟩
     rintro σ3 G3 ⟨n,rfl,s3,hn⟩
     have gM4:=s3 _ _ gM3
     have new:valV kvs (xb1 l s) = none:=no _ fun j y hj hy e=>by
      have n1:=List.pairwise_iff_getElem.mp hw.nd
      have lj:j < ws.length:=(List.getElem?_eq_some_iff.mp hy).1
      have ej:ws[j] = y:=(List.getElem?_eq_some_iff.mp hy).2
      have ei:ws[i] = z:=(List.getElem?_eq_some_iff.mp hz).2
      exact n1 j i (by rw [List.length_map]; exact lj) (by rw [List.length_map]; exact hi) hj (by rw [List.getElem_map,List.getElem_map,ej,ei,e,ez])
     refine ⟨_,rfl,_,_,rfl,rfl,_,rfl,?_⟩
     refine ite2 (fun c=>?_) (fun c=>?_)
     ·have np:0 < n:=of_decide_eq_true c
      refine ⟨_,rfl,_,rfl,_,rfl,M,_,rfl,DPut.t gM4 (s3 _ _ kq) (xh2 (by have:=hw.few; omega)),?_⟩
      refine ⟨_,_,putK kvs (xb1 l s) (.int n),rfl,fun b' u nb e=>by rw [xa3 nb]; exact s3 _ _ (kp _ _ nb e),xa1,?_,?_,fun j y l' s' hj hy ey=>?_,fun k hk=>?_⟩
      ·rw [xt8 _ new,List.map_append,List.nodup_append]
       refine ⟨nd,List.pairwise_singleton _ _,fun a ha b' hb'=>?_⟩
       rw [List.map_cons,List.map_nil] at hb'
       cases List.mem_singleton.mp hb'
       exact fun e=>yo3 new (by have e':a = xb1 l s:=e; rw [e'] at ha; exact ha)
      ·have:=xi4 kvs (xb1 l s) (.int n); omega
      ·rw [yo5]
       by_cases q:j = i
       ·subst q
        rw [hz] at hy
        cases hy
        rw [ez] at ey
        rw [if_pos ey.symm]
        injection ey with e1 e2
        injection e2 with e2 _
        cases e1
        cases e2
        exact ⟨n,hn,by rw [if_pos np]⟩
       ·obtain ⟨n',h1,h2⟩:=has j y l' s' (by omega) hy ey
        refine ⟨n',h1,?_⟩
        rw [if_neg,h2]
        intro e
        have n1:=List.pairwise_iff_getElem.mp hw.nd
        have lj:j < ws.length:=(List.getElem?_eq_some_iff.mp hy).1
        have ej:ws[j] = y:=(List.getElem?_eq_some_iff.mp hy).2
        have ei:ws[i] = z:=(List.getElem?_eq_some_iff.mp hz).2
        exact n1 j i (by rw [List.length_map]; exact lj) (by rw [List.length_map]; exact hi) (by omega) (by rw [List.getElem_map,List.getElem_map,ej,ei,ey,ez,e])
      ·rw [yo5,if_neg (fun e=>hk i z (by omega) hz (by rw [ez,e]))]
       exact no k fun j y hj hy=>hk j y (by omega) hy
     ·have np:¬ 0 < n:=fun h=>c (decide_eq_true h)
      refine ⟨_,_,kvs,rfl,fun b' u nb e=>s3 _ _ (kp _ _ nb e),gM4,nd,by omega,fun j y l' s' hj hy ey=>?_,fun k hk=>no k fun j y hj hy=>hk j y (by omega) hy⟩
      by_cases q:j = i
      ·subst q
       rw [hz] at hy
       cases hy
       rw [ez] at ey
       injection ey with e1 e2
       injection e2 with e2 _
       cases e1
       cases e2
       exact ⟨n,hn,by rw [if_neg np,new]⟩
      ·exact has j y l' s' (by omega) hy ey
    ·rintro σ' G ⟨v3,v4,kvs,rfl,kp,gM3,nd,hlen,has,no⟩
     rw [List.length_map] at hlen has no
     refine hN _ _ ⟨v3,v4,kvs,rfl,fun b' u e=>kp _ _ (xb2 e hM0) (s2 _ _ (s1 _ _ e)),gM3,nd,fun l s h=>?_,fun k h=>no k fun j z _ hz e=>?_,by have:=hw.few; omega⟩
     ·obtain ⟨z,hz,e⟩:=List.mem_map.mp ((hw.mem _).mpr h)
      obtain ⟨j,hj⟩:=List.mem_iff_getElem?.mp hz
      exact has j z l s (List.getElem?_eq_some_iff.mp hj).1 hj e
     ·exact h ((hw.mem k).mp (List.mem_map.mpr ⟨z,List.mem_of_getElem? hz,e⟩))
   rintro σ2 H2 ⟨v3,v4,kvs,rfl,sm,gM2,hm⟩
   exact ⟨_,rfl,k M kvs _ sm gM2 hM0 hm⟩
  ·refine xa7 (fun _ _=>False) (fun N hN=>?_) (fun _ _ z=>z.elim)
   exact ⟨_,rfl,_,r,rfl,hr1,fun G sG=>⟨fun z=>absurd z r0,(e G sG).1,(e G sG).2⟩⟩
structure Bd.Nd (b:Bd):Prop where
 names:(b.fl.map (·.1)).Nodup
 adrs:(b.fl.map (·.2.1)).Nodup
 notS:∀ e ∈ b.fl,e.2.1 ≠ b.S
 FL:b.F ≠ b.L
 FG:b.F ≠ b.G
 FD:b.F ≠ b.D
 LG:b.L ≠ b.G
 LD:b.L ≠ b.D
 GD:b.G ≠ b.D
def xl3 (fl:List (Str × Addr × List (List Key × V))) (f:Str) (k:List Key) (v:V):List (Str × Addr × List (List Key × V)):=fl.map fun e=>if e.1 = f then (e.1,e.2.1,putK e.2.2 k v) else e
def Stays (b:Bd) (H H':Hp):Prop:=∀ a o,a ≠ b.F -> (∀ e ∈ b.fl,a ≠ e.2.1) -> H a = some o -> H' a = some o
def spFill (K:Frag) (A:Adr):Sp:=fun vs H Q E=>∃ (x:Addr) (u v y:V),vs = [.ref x,u,v,y] /\
  ((∃ (b:Bd) (q:Addr) (f l s:Str) (n:Int),u = .str f /\ v = .ref q /\ y = .int n /\ xl2 f = true /\ f.length <= 1000 /\ Sl K H (.ref q) true /\ H q = some (.tup [.str l,.str s]) /\ 0 <= n /\ n <= 1000000000 /\ BoardAt A H x b /\ b.Nd /\ b.fl.length <= 100 /\ (∀ e ∈ b.fl,e.2.2.length <= 100) /\
      ((∃ e ∈ b.fl,e.1 = f) -> ∀ H',BoardAt A H' x { b with fl:=xl3 b.fl f (xb1 l s) (.int n) } -> Stays b H H' -> Q .non H') /\
      ((¬ ∃ e ∈ b.fl,e.1 = f) -> ∀ p H',H p = none -> BoardAt A H' x { b with fl:=b.fl ++ [(f,p,[(xb1 l s,.int n)])] } -> Stays b H H' -> Q .non H')) \/
   (Lm K H u false /\ ∀ H',Same H H' -> E (.ref A.ee3) none H') \/
   (Lm K H u true /\ Sl K H v false /\ ∀ H',Same H H' -> E (.ref A.ec3) none H') \/
   (Lm K H u true /\ Sl K H v true /\ Kd K 1000000000 H y false /\ ∀ H',Same H H' -> E (.ref A.ed3) none H'))
theorem inner_ne {b:Bd} (nd:b.Nd) {e e':Str × Addr × List (List Key × V)} (h:e ∈ b.fl) (h':e' ∈ b.fl) (ne:e.1 ≠ e'.1):e.2.1 ≠ e'.2.1:=by
 obtain ⟨i,hi⟩:=List.mem_iff_getElem?.mp h
 obtain ⟨j,hj⟩:=List.mem_iff_getElem?.mp h'
 have li:=(List.getElem?_eq_some_iff.mp hi).1
 have lj:=(List.getElem?_eq_some_iff.mp hj).1
 have ei:=(List.getElem?_eq_some_iff.mp hi).2
 have ej:=(List.getElem?_eq_some_iff.mp hj).2
 have n1:=List.pairwise_iff_getElem.mp nd.adrs
 rcases Nat.lt_trichotomy i j with c | c | c
 ·have:=n1 i j (by rw [List.length_map]; exact li) (by rw [List.length_map]; exact lj) c
  rw [List.getElem_map,List.getElem_map,ei,ej] at this
  exact this
 ·subst c; rw [ei] at ej; exact absurd (by rw [ej]) ne
 ·have:=n1 j i (by rw [List.length_map]; exact lj) (by rw [List.length_map]; exact li) c
  rw [List.getElem_map,List.getElem_map,ei,ej] at this
  exact Ne.symm this
theorem map_fill (fl:List (Str × Addr × List (List Key × V))) (f:Str) (k:List Key) (v:V):((xl3 fl f k v).map fun e=>((.inr e.1:Key),V.ref e.2.1)) = fl.map fun e=>(.inr e.1,.ref e.2.1):=by
 unfold xl3
 rw [List.map_map]
 refine List.map_congr_left fun e _=>?_
 show ((Sum.inr (if e.1 = f then (e.1,e.2.1,putK e.2.2 k v) else e).1:Key),V.ref (if e.1 = f then (e.1,e.2.1,putK e.2.2 k v) else e).2.1) = _
 split <;> rfl
theorem xp9 (T:Txt K mg A):FnOk P w K mg base (CXE P w) 4 A.ei1 A.ej1 ["self","fader","slot","worth"] (spFill K A):=by
 have G_refuse_name:=xg5 (P:=P) (w:=w) (base:=base) T
 have G_refuse_slot:=xz1 (P:=P) (w:=w) (base:=base) T
 have G_refuse_worth:=xh4 (P:=P) (w:=w) (base:=base) T
 refine T.ez1.okE yc8 (fun vs H Q E h=>?_) (fun cdv Ar outer s H vs Q E hr h=>?_)
 ·obtain ⟨x,u,v,y,rfl,hv⟩:=h
  rfl
 ·obtain ⟨x,u,v,y,rfl,hv⟩:=h
  refine ⟨_,(xa4 (xd0 (xb0 G_refuse_name (hr.mono (by decide)) (by rfl) T.ep1 T.en1.kp T.eo1 .nil xn2 (xa0 (pv 1) xa6)))
   (xa4 (xd0 (xb0 G_refuse_slot (hr.mono (by decide)) (by rfl) T.eu T.es.kp T.et .nil xn2 (xa0 (pv 2) xa6)))
   (xa4 (xd0 (xb0 G_refuse_worth (hr.mono (by decide)) (by rfl) T.ex T.ev.kp T.ew .nil xn2 (xa0 (pv 3) xa6)))
   (xa4 (xg1 (ya4 (xv5 (hu1 hr) (pv 1) (xe9 K (pv 0)))) (xa5 (xn5 (hu1 hr) (xe9 K (pv 0)) (pv 1) xk9 rfl)) xb9)
   (xa5 (xn5 (hu1 hr) (xi7 (hu1 hr) (xe9 K (pv 0)) (pv 1) (fun _ _=>rfl)) (pv 2) (pv 3) rfl)))))),?_⟩
  rcases hv with ⟨b,q,f,l,s,n,rfl,rfl,rfl,hf,hfl,hs,hq,n0,n1,hb,nd,few,few2,k1,k2⟩ | ⟨hu,e⟩ | ⟨hu,hv,e⟩ | ⟨hu,hv,hy,e⟩
  ·obtain ⟨dx,hx⟩:=hb.obj
   have lm:Lm K H (.str f) true:=by have:=Lm.str (K:=K) (H:=H) f hfl; rw [hf] at this; exact this
   refine xt7 (fun σ' G=>σ' = [some (.ref x),some (.str f),some (.ref q),some (.int n)] /\ Same H G) (fun N hN=>?_) ?_
   ·refine ⟨_,rfl,_,true,rfl,lm,fun G sG=>⟨fun _=>?_,fun z=>by cases z⟩⟩
    refine ⟨_,rfl,_,true,rfl,hs.keep sG,fun G2 s2=>⟨fun _=>?_,fun z=>by cases z⟩⟩
    exact ⟨_,rfl,_,true,rfl,Kd.intT n0 n1,(fun _=>hN _ _ ⟨rfl,sG.trans s2⟩),fun z=>by cases z⟩
   rintro σ1 H1 ⟨rfl,s1⟩
   have hb1:=hb.keep s1
   have hx1:=s1 _ _ hx
   have hq1:H1 q = some (.tup ((xb1 l s).map kV)):=s1 _ _ hq
   by_cases mem:∃ e ∈ b.fl,e.1 = f
   ·obtain ⟨e,he,e1,e2,e3⟩:=yo4 mem
    have g1:=DGet.k (k:=.inr f) hb1.fill
    rw [e2] at g1
    have hin:=hb1.inner e he
    refine xa7 (fun σ' G=>σ' = [some (.ref x),some (.str f),some (.ref q),some (.int n)] /\ G = H1) (fun N hN=>?_) ?_
    ·exact ⟨_,rfl,_,rfl,x,_,_,_,_,rfl,hx1,T.en4,T.ep4,rfl,b.F,_,rfl,g1,_,rfl,iteF (hN _ _ ⟨rfl,rfl⟩)⟩
    rintro σ2 H2 ⟨rfl,rfl⟩
    refine ⟨_,rfl,_,rfl,x,_,_,_,_,rfl,hx1,T.en4,T.ep4,rfl,_,rfl,b.F,_,rfl,g1,_,rfl,e.2.1,_,rfl,DPut.t hin hq1 (xh2 (by have:=few2 e he; omega)),?_⟩
    refine k1 mem _ ⟨⟨dx,?_⟩,?_,fun e' he'=>?_,?_,?_,fun e' he'=>?_,?_,?_⟩ fun a o _ a2 ea=>by rw [xa3 (a2 e he)]; exact s1 _ _ ea
    ·rw [xa3 (fun z=>by rw [z,hin] at hx1; cases hx1)]; exact hx1
    ·rw [xa3 (fun z=>by have:=hb1.fill; rw [z,hin] at this; cases this),hb1.fill,map_fill]
    ·obtain ⟨e0,h0,rfl⟩:=List.mem_map.mp he'
     by_cases c:e0.1 = f
     ·have:e0 = e:=by
       refine Classical.byContradiction fun ne=>?_
       obtain ⟨i,hi⟩:=List.mem_iff_getElem?.mp h0
       obtain ⟨j,hj⟩:=List.mem_iff_getElem?.mp he
       have li:=(List.getElem?_eq_some_iff.mp hi).1
       have lj:=(List.getElem?_eq_some_iff.mp hj).1
       have ei:=(List.getElem?_eq_some_iff.mp hi).2
       have ej:=(List.getElem?_eq_some_iff.mp hj).2
       have p1:=List.pairwise_iff_getElem.mp nd.names
       rcases Nat.lt_trichotomy i j with c' | c' | c'
       ·exact p1 i j (by rw [List.length_map]; exact li) (by rw [List.length_map]; exact lj) c' (by rw [List.getElem_map,List.getElem_map,ei,ej,c,e1])
       ·subst c'; rw [ei] at ej; exact ne ej
       ·exact p1 j i (by rw [List.length_map]; exact lj) (by rw [List.length_map]; exact li) c' (by rw [List.getElem_map,List.getElem_map,ei,ej,c,e1])
      subst this
      rw [if_pos c,xa1]
     ·rw [if_neg c,xa3 (inner_ne nd h0 he (fun z=>c (by rw [z,e1])))]
      exact hb1.inner e0 h0
    ·rw [xa3 (fun z=>by have:=hb1.lev; rw [z,hin] at this; cases this)]; exact hb1.lev
    ·rw [xa3 (fun z=>by have:=hb1.grp; rw [z,hin] at this; cases this)]; exact hb1.grp
    ·rw [xa3 (fun z=>by have:=hb1.lst e' he'; rw [z,hin] at this; cases this)]; exact hb1.lst e' he'
    ·rw [xa3 (fun z=>by have:=hb1.dwn; rw [z,hin] at this; cases this)]; exact hb1.dwn
    ·rw [xa3 (Ne.symm (nd.notS e he))]; exact hb1.spr
   ·obtain ⟨e2,e3⟩:=ye7 mem
    have g1:=DGet.k (k:=.inr f) hb1.fill
    rw [e2] at g1
    have ln:(b.fl.map fun e=>((.inr e.1:Key),V.ref e.2.1)).length = b.fl.length:=List.length_map _
    refine xa7 (fun σ' G=>∃ p,σ' = [some (.ref x),some (.str f),some (.ref q),some (.int n)] /\ H1 p = none /\ G = upd (upd H1 p (.dT [])) b.F (.dK ((b.fl.map fun e=>((.inr e.1:Key),V.ref e.2.1)) ++ [(.inr f,.ref p)]))) (fun N hN=>?_) ?_
    ·refine ⟨_,rfl,_,rfl,x,_,_,_,_,rfl,hx1,T.en4,T.ep4,rfl,b.F,_,rfl,g1,_,rfl,iteT ?_⟩
     intro p hp
     have np:b.F ≠ p:=fun z=>by have:=hb1.fill; rw [z,hp] at this; cases this
     refine ⟨_,rfl,x,_,_,_,_,rfl,by rw [xa3 (xb2 hx1 hp)]; exact hx1,T.en4,T.ep4,rfl,_,rfl,b.F,_,rfl,DPut.k (k:=.inr f) (by rw [xa3 np]; exact hb1.fill) (xh2 (by rw [ln]; omega)),?_⟩
     rw [xt8 _ e2]
     exact hN _ _ ⟨p,rfl,hp,rfl⟩
    rintro σ2 H2 ⟨p,rfl,hp,rfl⟩
    have np:b.F ≠ p:=fun z=>by have:=hb1.fill; rw [z,hp] at this; cases this
    have old:∀ a o,a ≠ b.F -> H1 a = some o -> (upd (upd H1 p (.dT [])) b.F (.dK ((b.fl.map fun e=>((.inr e.1:Key),V.ref e.2.1)) ++ [(.inr f,.ref p)]))) a = some o:=fun a o na ea=>by
     rw [xa3 na,xa3 (xb2 ea hp)]; exact ea
    have fF:(upd (upd H1 p (.dT [])) b.F (.dK ((b.fl.map fun e=>((.inr e.1:Key),V.ref e.2.1)) ++ [(.inr f,.ref p)]))) b.F = some (.dK ((b.fl.map fun e=>((.inr e.1:Key),V.ref e.2.1)) ++ [(.inr f,.ref p)])):=xa1
    have fp:(upd (upd H1 p (.dT [])) b.F (.dK ((b.fl.map fun e=>((.inr e.1:Key),V.ref e.2.1)) ++ [(.inr f,.ref p)]))) p = some (.dT []):=by rw [xa3 (Ne.symm np),xa1]
    generalize upd (upd H1 p (.dT [])) b.F (.dK ((b.fl.map fun e=>((.inr e.1:Key),V.ref e.2.1)) ++ [(.inr f,.ref p)])) = H2 at old fF fp ⊢
    have nF:∀ {a:Addr} {o:HO},H1 a = some o -> (∀ z,o ≠ .dK z) -> a ≠ b.F:=fun {a o} ea h z=>by rw [z,hb1.fill] at ea; cases ea; exact h _ rfl
    have hx2:=old _ _ (nF hx1 (fun _ z=>nomatch z)) hx1
    have g2:=DGet.k (k:=.inr f) fF
    rw [xu2 _ _ _ _ e2,if_pos rfl] at g2
    have hq2:=old _ _ (nF hq1 (fun _ z=>nomatch z)) hq1
    refine ⟨_,rfl,_,rfl,x,_,_,_,_,rfl,hx2,T.en4,T.ep4,rfl,_,rfl,b.F,_,rfl,g2,_,rfl,p,_,rfl,DPut.t fp hq2 (xh2 (by simp)),?_⟩
    have e4:putK ([]:List (List Key × V)) (xb1 l s) (.int n) = [(xb1 l s,.int n)]:=xt8 _ rfl
    rw [e4]
    have keep:∀ a o,a ≠ b.F -> H1 a = some o -> (upd H2 p (.dT [(xb1 l s,.int n)])) a = some o:=fun a o na ea=>by rw [xa3 (xb2 ea hp)]; exact old a o na ea
    refine k2 mem p _ (s1.free hp) ⟨⟨dx,keep _ _ (nF hx1 (fun _ z=>nomatch z)) hx1⟩,?_,fun e he=>?_,keep _ _ (Ne.symm nd.FL) hb1.lev,keep _ _ (Ne.symm nd.FG) hb1.grp,fun e he=>keep _ _ (nF (hb1.lst e he) (fun _ z=>nomatch z)) (hb1.lst e he),keep _ _ (Ne.symm nd.FD) hb1.dwn,keep _ _ (nF hb1.spr (fun _ z=>nomatch z)) hb1.spr⟩ fun a o a1 _ ea=>keep a o a1 (s1 _ _ ea)
    ·show (upd H2 p _) b.F = _
     rw [xa3 np,fF,List.map_append]; rfl
    ·rcases List.mem_append.mp he with he | he
     ·exact keep _ _ (nF (hb1.inner e he) (fun _ z=>nomatch z)) (hb1.inner e he)
     ·cases List.mem_singleton.mp he
      exact xa1
  ·refine xa7 (fun _ _=>False) (fun N hN=>?_) (fun _ _ z=>z.elim)
   exact ⟨_,rfl,_,false,rfl,hu,fun G sG=>⟨(fun z=>by cases z),fun _=>e _ sG⟩⟩
  ·refine xd6 (fun _ _=>False) (fun N hN=>?_) (fun _ _ z=>z.elim)
   refine ⟨_,rfl,_,true,rfl,hu,fun G sG=>⟨fun _=>?_,fun z=>by cases z⟩⟩
   exact ⟨_,rfl,_,false,rfl,hv.keep sG,fun G2 s2=>⟨(fun z=>by cases z),fun _=>e _ (sG.trans s2)⟩⟩
  ·refine xt7 (fun _ _=>False) (fun N hN=>?_) (fun _ _ z=>z.elim)
   refine ⟨_,rfl,_,true,rfl,hu,fun G sG=>⟨fun _=>?_,fun z=>by cases z⟩⟩
   refine ⟨_,rfl,_,true,rfl,hv.keep sG,fun G2 s2=>⟨fun _=>?_,fun z=>by cases z⟩⟩
   exact ⟨_,rfl,_,false,rfl,hy.keep (sG.trans s2),(fun z=>by cases z),fun _=>e _ (sG.trans s2)⟩
theorem xn9 {K:Frag} {H:Hp} {f:Str} (hf:xl2 f = true) (hl:f.length <= 1000):Lm K H (.str f) true:=by have:=Lm.str (K:=K) (H:=H) f hl; rw [hf] at this; exact this
theorem zb5 {b:Bd} {g:Str} (h:¬ ∃ e ∈ b.gr,e.1 = g):valV (b.gr.map fun e=>((.inr e.1:Key),V.ref e.2.1)) (.inr g) = none:=by
 generalize b.gr = r at h
 induction r with
 | nil=>rfl
 | cons a r ih =>
  rw [List.map_cons,xc5 (fun z=>h ⟨a,List.mem_cons_self ..,by injection z⟩)]
  exact ih fun ⟨e,he,z⟩=>h ⟨e,List.mem_cons_of_mem _ he,z⟩
def setG (gr:List (Str × Addr × List Str)) (g:Str) (p:Addr) (zs:List Str):List (Str × Addr × List Str):=if (gr.any fun e=>decide (e.1 = g)) = true then gr.map (fun e=>if e.1 = g then (e.1,p,zs) else e) else gr ++ [(g,p,zs)]
theorem yp1 (gr:List (Str × Addr × List Str)) (g:Str) (p:Addr) (zs:List Str):((setG gr g p zs).map fun e=>((.inr e.1:Key),V.ref e.2.1)) = putK (gr.map fun e=>((.inr e.1:Key),V.ref e.2.1)) (.inr g) (.ref p):=by
 have ea:((gr.map fun e=>((.inr e.1:Key),V.ref e.2.1)).any fun kv=>decide (kv.1 = .inr g)) = gr.any fun e=>decide (e.1 = g):=by
  rw [List.any_map]
  refine congrArg (fun f=>gr.any f) (funext fun e=>?_)
  show decide ((Sum.inr e.1:Key) = .inr g) = decide (e.1 = g)
  by_cases c:e.1 = g
  ·rw [decide_eq_true c,decide_eq_true (by rw [c])]
  ·rw [decide_eq_false c,decide_eq_false (fun z=>c (by injection z))]
 unfold setG putK
 rw [ea]
 split
 ·rw [List.map_map,List.map_map]
  refine List.map_congr_left fun e _=>?_
  show ((Sum.inr (if e.1 = g then (e.1,p,zs) else e).1:Key),V.ref (if e.1 = g then (e.1,p,zs) else e).2.1) = if (Sum.inr e.1:Key) = .inr g then ((Sum.inr e.1:Key),V.ref p) else (Sum.inr e.1,V.ref e.2.1)
  by_cases c:e.1 = g
  ·rw [if_pos c,if_pos (by rw [c])]
  ·rw [if_neg c,if_neg (fun z=>c (by injection z))]
 ·rw [List.map_append]; rfl
theorem xp3 {gr:List (Str × Addr × List Str)} {g:Str} {p:Addr} {zs:List Str} {e:Str × Addr × List Str} (h:e ∈ setG gr g p zs):e ∈ gr \/ (e.1 = g /\ e.2 = (p,zs)):=by
 unfold setG at h
 split at h
 ·obtain ⟨e0,h0,rfl⟩:=List.mem_map.mp h
  by_cases c:e0.1 = g
  ·rw [if_pos c]; exact .inr ⟨c,rfl⟩
  ·rw [if_neg c]; exact .inl h0
 ·rcases List.mem_append.mp h with h | h
  ·exact .inl h
  ·cases List.mem_singleton.mp h; exact .inr ⟨rfl,rfl⟩
theorem setG_len (gr:List (Str × Addr × List Str)) (g:Str) (p:Addr) (zs:List Str):(setG gr g p zs).length <= gr.length + 1:=by
 unfold setG
 split
 ·rw [List.length_map]; omega
 ·rw [List.length_append]; simp
def spGroup (K:Frag) (A:Adr):Sp:=fun vs H Q E=>∃ (x:Addr) (u v:V),vs = [.ref x,u,v] /\
  ((∃ (b:Bd) (g:Str) (m:Addr) (zs:List Str),u = .str g /\ v = .ref m /\ xl2 g = true /\ g.length <= 1000 /\ Ls K H (.ref m) true /\ H m = some (.lst (zs.map V.str)) /\ BoardAt A H x b /\ b.Nd /\ b.gr.length <= 100 /\
      ∀ p H',H p = none -> BoardAt A H' x { b with gr:=setG b.gr g p zs } -> (∀ a o,a ≠ b.G -> H a = some o -> H' a = some o) -> Q .non H') \/
   (Lm K H u false /\ ∀ H',Same H H' -> E (.ref A.ee3) none H') \/
   (Lm K H u true /\ Ls K H v false /\ ∀ H',Same H H' -> E (.ref A.ee3) none H'))
theorem xz6 (T:Txt K mg A):FnOk P w K mg base (CXE P w) 4 A.ek1 A.el1 ["self","name","lamps"] (spGroup K A):=by
 have G_refuse_lamps:=xv8 (P:=P) (w:=w) (base:=base) T
 have G_refuse_name:=xg5 (P:=P) (w:=w) (base:=base) T
 refine T.ec2.okE xz0 (fun vs H Q E h=>?_) (fun cdv Ar outer s H vs Q E hr h=>?_)
 ·obtain ⟨x,u,v,rfl,hv⟩:=h
  rfl
 ·obtain ⟨x,u,v,rfl,hv⟩:=h
  refine ⟨_,(xa4 (xd0 (xb0 G_refuse_name (hr.mono (by decide)) (by rfl) T.ep1 T.en1.kp T.eo1 .nil xn2 (xa0 (pv 1) xa6)))
   (xa4 (xd0 (xb0 G_refuse_lamps (hr.mono (by decide)) (by rfl) T.es1 T.eq1.kp T.er1 .nil xn2 (xa0 (pv 2) xa6)))
   (xa5 (xn5 (hu1 hr) (xe9 K (pv 0)) (pv 1) (xm3 (yb7 K) (by rfl) T.eb6 xm5 (xa0 (pv 2) xa6)) rfl)))),?_⟩
  rcases hv with ⟨b,g,m,zs,rfl,rfl,hg,hgl,hs,hm,hb,nd,few,k⟩ | ⟨hu,e⟩ | ⟨hu,hv,e⟩
  ·obtain ⟨dx,hx⟩:=hb.obj
   refine xd6 (fun σ' G=>σ' = [some (.ref x),some (.str g),some (.ref m)] /\ Same H G) (fun N hN=>?_) ?_
   ·refine ⟨_,rfl,_,true,rfl,xn9 hg hgl,fun G sG=>⟨fun _=>?_,fun z=>by cases z⟩⟩
    exact ⟨_,rfl,_,true,rfl,hs.keep sG,fun G2 s2=>⟨fun _=>hN _ _ ⟨rfl,sG.trans s2⟩,fun z=>by cases z⟩⟩
   rintro σ1 H1 ⟨rfl,s1⟩
   have hb1:=hb.keep s1
   have hx1:=s1 _ _ hx
   refine ⟨_,rfl,m,_,rfl,SqL.of (s1 _ _ hm),fun p hp=>?_⟩
   have sp:=Same.new (o:=HO.lst (zs.map V.str)) hp
   have fp:(upd H1 p (HO.lst (zs.map V.str))) p = some (HO.lst (zs.map V.str)):=xa1
   generalize upd H1 p (HO.lst (zs.map V.str)) = H2 at sp fp ⊢
   have hb2:=hb1.keep sp
   refine ⟨_,rfl,x,_,_,_,_,rfl,sp _ _ hx1,T.en4,T.er4,rfl,_,rfl,b.G,_,rfl,DPut.k (k:=.inr g) hb2.grp (xh2 (by rw [List.length_map]; omega)),?_⟩
   rw [<- yp1 b.gr g p zs]
   have nG:∀ {a:Addr} {o:HO},H2 a = some o -> (∀ z,o ≠ .dK z) -> a ≠ b.G:=fun {a o} ea h z=>by rw [z,hb2.grp] at ea; cases ea; exact h _ rfl
   have kp:∀ a o,a ≠ b.G -> H2 a = some o -> (upd H2 b.G (.dK ((setG b.gr g p zs).map fun e=>((.inr e.1:Key),V.ref e.2.1)))) a = some o:=fun a o na ea=>by rw [xa3 na]; exact ea
   refine k p _ (s1.free hp) ⟨⟨dx,kp _ _ (nG (sp _ _ hx1) (fun _ z=>nomatch z)) (sp _ _ hx1)⟩,kp _ _ nd.FG hb2.fill,fun e he=>kp _ _ (nG (hb2.inner e he) (fun _ z=>nomatch z)) (hb2.inner e he),kp _ _ nd.LG hb2.lev,by show (upd H2 b.G _) b.G = _; rw [xa1],fun e he=>?_,kp _ _ (Ne.symm nd.GD) hb2.dwn,kp _ _ (nG hb2.spr (fun _ z=>nomatch z)) hb2.spr⟩ fun a o na ea=>kp a o na (sp _ _ (s1 _ _ ea))
   rcases xp3 he with he | ⟨_,he⟩
   ·exact kp _ _ (nG (hb2.lst e he) (fun _ z=>nomatch z)) (hb2.lst e he)
   ·rw [he]; exact kp _ _ (nG fp (fun _ z=>nomatch z)) fp
  ·refine xa7 (fun _ _=>False) (fun N hN=>?_) (fun _ _ z=>z.elim)
   exact ⟨_,rfl,_,false,rfl,hu,fun G sG=>⟨(fun z=>by cases z),fun _=>e _ sG⟩⟩
  ·refine xd6 (fun _ _=>False) (fun N hN=>?_) (fun _ _ z=>z.elim)
   refine ⟨_,rfl,_,true,rfl,hu,fun G sG=>⟨fun _=>?_,fun z=>by cases z⟩⟩
   exact ⟨_,rfl,_,false,rfl,hv.keep sG,fun G2 s2=>⟨(fun z=>by cases z),fun _=>e _ (sG.trans s2)⟩⟩
theorem zc8 {kvs:List (Key × V)} {k:Key} (h:valV kvs k = none):xt6 kvs k = kvs:=by
 unfold xt6
 refine List.filter_eq_self.mpr fun kv hk=>decide_eq_true fun e=>?_
 have:=xi9 k kvs
 rw [h] at this
 have t:(kvs.any fun kv=>decide (kv.1 = k)) = true:=List.any_eq_true.mpr ⟨kv,hk,decide_eq_true e⟩
 rw [t] at this
 cases this
def spMove (K:Frag) (A:Adr):Sp:=fun vs H Q E=>∃ (x:Addr) (u v:V),vs = [.ref x,u,v] /\
  ((∃ (b:Bd) (f:Str) (n:Int),u = .str f /\ v = .int n /\ xl2 f = true /\ f.length <= 1000 /\ 0 <= n /\ n <= 1000 /\ BoardAt A H x b /\ b.Nd /\ b.lv.length <= 100 /\
      ∀ H',BoardAt A H' x { b with lv:=putK (xt6 b.lv (.inr f)) (.inr f) (.int n) } -> (∀ a o,a ≠ b.L -> H a = some o -> H' a = some o) -> Q .non H') \/
   (Lm K H u false /\ ∀ H',Same H H' -> E (.ref A.ee3) none H') \/
   (Lm K H u true /\ Kd K 1000 H v false /\ ∀ H',Same H H' -> E (.ref A.ed3) none H'))
theorem yd8 (T:Txt K mg A):FnOk P w K mg base (CXE P w) 4 A.eo1 A.ep1 ["self","fader","level"] (spMove K A):=by
 have G_refuse_level:=xk2 (P:=P) (w:=w) (base:=base) T
 have G_refuse_name:=xg5 (P:=P) (w:=w) (base:=base) T
 refine T.ei2.okE yc6 (fun vs H Q E h=>?_) (fun cdv Ar outer s H vs Q E hr h=>?_)
 ·obtain ⟨x,u,v,rfl,hv⟩:=h
  rfl
 ·obtain ⟨x,u,v,rfl,hv⟩:=h
  refine ⟨_,(xa4 (xd0 (xb0 G_refuse_name (hr.mono (by decide)) (by rfl) T.ep1 T.en1.kp T.eo1 .nil xn2 (xa0 (pv 1) xa6)))
   (xa4 (xd0 (xb0 G_refuse_level (hr.mono (by decide)) (by rfl) T.eg1 T.ee1.kp T.ef1 .nil xn2 (xa0 (pv 2) xa6)))
   (xa4 (xd0 (pe_dpop2 (xe9 K (pv 0)) (pv 1) pe_non ⟨rfl,rfl,rfl,rfl⟩))
   (xa5 (xn5 (hu1 hr) (xe9 K (pv 0)) (pv 1) (pv 2) rfl))))),?_⟩
  rcases hv with ⟨b,f,n,rfl,rfl,hf,hfl,n0,n1,hb,nd,few,k⟩ | ⟨hu,e⟩ | ⟨hu,hv,e⟩
  ·obtain ⟨dx,hx⟩:=hb.obj
   refine xd6 (fun σ' G=>σ' = [some (.ref x),some (.str f),some (.int n)] /\ Same H G) (fun N hN=>?_) ?_
   ·refine ⟨_,rfl,_,true,rfl,xn9 hf hfl,fun G sG=>⟨fun _=>?_,fun z=>by cases z⟩⟩
    exact ⟨_,rfl,_,true,rfl,Kd.intT n0 n1,(fun _=>hN _ _ ⟨rfl,sG⟩),fun z=>by cases z⟩
   rintro σ1 H1 ⟨rfl,s1⟩
   have hb1:=hb.keep s1
   have hx1:=s1 _ _ hx
   have nL:∀ {a:Addr} {o:HO},H1 a = some o -> (∀ z,o ≠ .dK z) -> a ≠ b.L:=fun {a o} ea h z=>by rw [z,hb1.lev] at ea; cases ea; exact h _ rfl
   refine xa7 (fun σ' G=>σ' = [some (.ref x),some (.str f),some (.int n)] /\ G = upd H1 b.L (.dK (xt6 b.lv (.inr f)))) (fun N hN=>?_) ?_
   ·refine ⟨_,rfl,x,_,_,_,_,rfl,hx1,T.en4,T.eq4,rfl,b.L,rfl,.inl ⟨_,.inl hb1.lev⟩,_,rfl,_,.inr f,hb1.lev,rfl,fun v hv=>hN _ _ ⟨rfl,rfl⟩,fun hv=>hN _ _ ⟨rfl,?_⟩⟩
    rw [zc8 hv,upd_id hb1.lev]
   rintro σ2 H2 ⟨rfl,rfl⟩
   have ld:(xt6 b.lv (.inr f:Key)).length <= b.lv.length:=yr0 _ _
   refine ⟨_,rfl,_,rfl,x,_,_,_,_,rfl,by rw [xa3 (nL hx1 (fun _ z=>nomatch z))]; exact hx1,T.en4,T.eq4,rfl,_,rfl,b.L,_,rfl,DPut.k (k:=.inr f) xa1 (xh2 (by omega)),?_⟩
   rw [upd_two]
   have kp:∀ a o,a ≠ b.L -> H1 a = some o -> (upd H1 b.L (.dK (putK (xt6 b.lv (.inr f)) (.inr f) (.int n)))) a = some o:=fun a o na ea=>by rw [xa3 na]; exact ea
   exact k _ ⟨⟨dx,kp _ _ (nL hx1 (fun _ z=>nomatch z)) hx1⟩,kp _ _ nd.FL hb1.fill,fun e he=>kp _ _ (nL (hb1.inner e he) (fun _ z=>nomatch z)) (hb1.inner e he),xa1,kp _ _ (Ne.symm nd.LG) hb1.grp,fun e he=>kp _ _ (nL (hb1.lst e he) (fun _ z=>nomatch z)) (hb1.lst e he),kp _ _ (Ne.symm nd.LD) hb1.dwn,kp _ _ (nL hb1.spr (fun _ z=>nomatch z)) hb1.spr⟩ fun a o na ea=>kp a o na (s1 _ _ ea)
  ·refine xa7 (fun _ _=>False) (fun N hN=>?_) (fun _ _ z=>z.elim)
   exact ⟨_,rfl,_,false,rfl,hu,fun G sG=>⟨(fun z=>by cases z),fun _=>e _ sG⟩⟩
  ·refine xd6 (fun _ _=>False) (fun N hN=>?_) (fun _ _ z=>z.elim)
   refine ⟨_,rfl,_,true,rfl,hu,fun G sG=>⟨fun _=>?_,fun z=>by cases z⟩⟩
   exact ⟨_,rfl,_,false,rfl,hv.keep sG,(fun z=>by cases z),fun _=>e _ sG⟩
def yc0 (f s:Str) (n:Int) (z:Str) (b b':Bd):Prop :=
 ((∃ e ∈ b.fl,e.1 = f) /\ b' = { b with fl:=xl3 b.fl f (xb1 z s) (.int n) }) \/ ((¬ ∃ e ∈ b.fl,e.1 = f) /\ ∃ p,b' = { b with fl:=b.fl ++ [(f,p,[(xb1 z s,.int n)])] })
inductive FillTo (f s:Str) (n:Int) (b:Bd):List Str -> Bd -> Prop
 | nil:FillTo f s n b [] b
 | snoc {zs:List Str} {z:Str} {b1 b2:Bd}:FillTo f s n b zs b1 -> yc0 f s n z b1 b2 -> FillTo f s n b (zs ++ [z]) b2
theorem yz3 {b:Bd} (nd:b.Nd) (f:Str) (k:List Key) (v:V):Bd.Nd { b with fl:=xl3 b.fl f k v }:=by
 have e1:(xl3 b.fl f k v).map (·.1) = b.fl.map (·.1):=by
  unfold xl3; rw [List.map_map]
  refine List.map_congr_left fun e _=>?_
  show (if e.1 = f then (e.1,e.2.1,putK e.2.2 k v) else e).1 = _
  split <;> rfl
 have e2:(xl3 b.fl f k v).map (·.2.1) = b.fl.map (·.2.1):=by
  unfold xl3; rw [List.map_map]
  refine List.map_congr_left fun e _=>?_
  show (if e.1 = f then (e.1,e.2.1,putK e.2.2 k v) else e).2.1 = _
  split <;> rfl
 refine { nd with names:=by show ((xl3 b.fl f k v).map (·.1)).Nodup; rw [e1]; exact nd.names,adrs:=by show ((xl3 b.fl f k v).map (·.2.1)).Nodup; rw [e2]; exact nd.adrs,notS:=fun e he=>?_ }
 have:e.2.1 ∈ (xl3 b.fl f k v).map (·.2.1):=List.mem_map.mpr ⟨e,he,rfl⟩
 rw [e2] at this
 obtain ⟨e',he',q⟩:=List.mem_map.mp this
 rw [<- q]; exact nd.notS e' he'
theorem nd_new {A:Adr} {H:Hp} {x:Addr} {b:Bd} (nd:b.Nd) (hb:BoardAt A H x b) {f:Str} {p:Addr} (hp:H p = none) (no:¬ ∃ e ∈ b.fl,e.1 = f) (c:List (List Key × V)):Bd.Nd { b with fl:=b.fl ++ [(f,p,c)] }:=by
 refine { nd with names:=?_,adrs:=?_,notS:=fun e he=>?_ }
 ·show ((b.fl ++ [(f,p,c)]).map (·.1)).Nodup
  rw [List.map_append,List.nodup_append]
  refine ⟨nd.names,List.pairwise_singleton _ _,fun a ha a' ha' e=>?_⟩
  rw [List.map_cons,List.map_nil] at ha'
  have ea:a' = f:=List.mem_singleton.mp ha'
  obtain ⟨e',he',q⟩:=List.mem_map.mp ha
  exact no ⟨e',he',by rw [q,e,ea]⟩
 ·show ((b.fl ++ [(f,p,c)]).map (·.2.1)).Nodup
  rw [List.map_append,List.nodup_append]
  refine ⟨nd.adrs,List.pairwise_singleton _ _,fun a ha a' ha' e=>?_⟩
  rw [List.map_cons,List.map_nil] at ha'
  have ea:a' = p:=List.mem_singleton.mp ha'
  obtain ⟨e',he',q⟩:=List.mem_map.mp ha
  have:=hb.inner e' he'
  rw [q,e,ea,hp] at this
  cases this
 ·rcases List.mem_append.mp he with he | he
  ·exact nd.notS e he
  ·cases List.mem_singleton.mp he
   exact fun z=>by have:=hb.spr; rw [<- z] at this; rw [hp] at this; cases this
theorem fill_len {fl:List (Str × Addr × List (List Key × V))} {f:Str} {k:List Key} {v:V} {m:Nat} (h:∀ e ∈ fl,e.2.2.length <= m):∀ e ∈ xl3 fl f k v,e.2.2.length <= m + 1:=fun e he=>by
 obtain ⟨e0,h0,rfl⟩:=List.mem_map.mp he
 have:=h e0 h0
 split
 ·have:=xi4 e0.2.2 k v
  show (putK e0.2.2 k v).length <= m + 1
  omega
 ·omega
theorem gr_at {b:Bd} {g:Str} (h:∃ e ∈ b.gr,e.1 = g):∃ e ∈ b.gr,e.1 = g /\ valV (b.gr.map fun e=>((.inr e.1:Key),V.ref e.2.1)) (.inr g) = some (.ref e.2.1):=by
 obtain ⟨e0,h0,e1⟩:=h
 generalize b.gr = l at h0 ⊢
 induction l with
 | nil=>cases h0
 | cons a r ih =>
  by_cases c:a.1 = g
  ·exact ⟨a,List.mem_cons_self ..,c,by rw [List.map_cons,xc3 (by rw [c])]⟩
  ·have h1:e0 ∈ r:=by
    rcases List.mem_cons.mp h0 with rfl | h
    ·exact absurd e1 c
    ·exact h
   obtain ⟨e,he,a1,a2⟩:=ih h1
   exact ⟨e,List.mem_cons_of_mem _ he,a1,by rw [List.map_cons,xc5 (by intro z; injection z with z; exact c z)]; exact a2⟩
def spFillG (K:Frag) (A:Adr):Sp:=fun vs H Q E=>∃ (x:Addr) (u v y t:V),vs = [.ref x,u,v,y,t] /\
  ((∃ (b:Bd) (f g s:Str) (n:Int),u = .str f /\ v = .str g /\ y = .str s /\ t = .int n /\ xl2 f = true /\ f.length <= 1000 /\ xl2 g = true /\ g.length <= 1000 /\ inV (.str s) yg7 = true /\ 0 <= n /\ n <= 1000000000 /\ BoardAt A H x b /\ b.Nd /\ (∃ e ∈ b.gr,e.1 = g) /\ b.fl.length <= 10 /\ (∀ e ∈ b.fl,e.2.2.length <= 40) /\ (∀ e ∈ b.gr,e.1 = g -> e.2.2.length <= 40 /\ ∀ z ∈ e.2.2,xl2 z = true /\ z.length <= 1000) /\
      ∀ e b' H',e ∈ b.gr -> e.1 = g -> FillTo f s n b e.2.2 b' -> b'.Nd -> BoardAt A H' x b' -> (∀ a o,a ≠ b.F -> (∀ e ∈ b.fl,a ≠ e.2.1) -> H a = some o -> H' a = some o) -> (∀ e ∈ b'.fl,(∃ e' ∈ b.fl,e.2.1 = e'.2.1) \/ H e.2.1 = none) -> Q .non H') \/
   (Lm K H u false /\ ∀ H',Same H H' -> E (.ref A.ee3) none H') \/
   (Lm K H u true /\ Lm K H v false /\ ∀ H',Same H H' -> E (.ref A.ee3) none H') \/
   (∃ (b:Bd) (g:Str),Lm K H u true /\ Lm K H v true /\ v = .str g /\ BoardAt A H x b /\ (¬ ∃ e ∈ b.gr,e.1 = g) /\ ∀ H',Same H H' -> E (.ref A.ee3) none H') \/
   (∃ (b:Bd) (g:Str),Lm K H u true /\ Lm K H v true /\ v = .str g /\ BoardAt A H x b /\ (∃ e ∈ b.gr,e.1 = g) /\ Sd K H y false /\ ∀ H',Same H H' -> E (.ref A.ec3) none H') \/
   (∃ (b:Bd) (g:Str),Lm K H u true /\ Lm K H v true /\ v = .str g /\ BoardAt A H x b /\ (∃ e ∈ b.gr,e.1 = g) /\ Sd K H y true /\ Kd K 1000000000 H t false /\ ∀ H',Same H H' -> E (.ref A.ed3) none H'))
theorem xk3 (T:Txt K mg A):FnOk P w K mg base (CXE P w) 5 A.em1 A.en1 ["self","fader","name","side","worth"] (spFillG K A):=by
 have G_Board_fill:=xp9 (P:=P) (w:=w) (base:=base) T
 have G_is_side:=ya7 (P:=P) (w:=w) (base:=base) T
 have G_refuse_name:=xg5 (P:=P) (w:=w) (base:=base) T
 have G_refuse_worth:=xh4 (P:=P) (w:=w) (base:=base) T
 refine T.ef2.okE xk1 (fun vs H Q E h=>?_) (fun cdv Ar outer s H vs Q E hr h=>?_)
 ·obtain ⟨x,u,v,y,t,rfl,hv⟩:=h
  rfl
 ·obtain ⟨x,u,v,y,t,rfl,hv⟩:=h
  refine ⟨_,(xa4 (xd0 (xb0 G_refuse_name (hr.mono (by decide)) (by rfl) T.ep1 T.en1.kp T.eo1 .nil xn2 (xa0 (pv 1) xa6)))
   (xa4 (xd0 (xb0 G_refuse_name (hr.mono (by decide)) (by rfl) T.ep1 T.en1.kp T.eo1 .nil xn2 (xa0 (pv 2) xa6)))
   (xa4 (xg1 (ya4 (xv5 (hu1 hr) (pv 2) (xe9 K (pv 0)))) (xa5 (xj1 T.eo5 (by rfl) T.ex4 (xa0 xc9 xa6))) xb9)
   (xa4 (xg1 (xi8 (xh3 (xb0 G_is_side (hr.mono (by decide)) (by rfl) T.ei T.eg.kp T.eh .nil xb6 (xa0 (pv 3) xa6)))) (xa5 (xj1 T.ey4 (by rfl) T.ev4 (xa0 xc9 xa6))) xb9)
   (xa4 (xd0 (xb0 G_refuse_worth (hr.mono (by decide)) (by rfl) T.ex T.ev.kp T.ew .nil xn2 (xa0 (pv 4) xa6)))
   (xa5 (xm2 PassesOwn.leaving rfl (xk8 K (xi7 (hu1 hr) (xe9 K (pv 0)) (pv 2) (fun _ _=>rfl))) (xd5 (i:=5) xk1.nd rfl (Or.inl rfl)) (xa5 (xd0 (xi3 (pv 0) T.en4 T.eb2 G_Board_fill (hr.mono (by decide)) T.ea2 .nil xn2 (xa0 (pv 1) (xa0 (xv2 (xa0 (pv 5) (xa0 (pv 3) xa6))) (xa0 (pv 4) xa6))))))))))))),?_⟩
  rcases hv with ⟨b,f,g,s,n,rfl,rfl,rfl,rfl,hf,hfl,hg,hgl,hs,n0,n1,hb,nd,hgr,few,few2,hlp,k⟩ | ⟨hu,e⟩ | ⟨hu,hv,e⟩ | ⟨b,g,hu,hv,rfl,hb,no,e⟩ | ⟨b,g,hu,hv,rfl,hb,yes,hy,e⟩ | ⟨b,g,hu,hv,rfl,hb,yes,hy,ht,e⟩
  ·obtain ⟨dx,hx⟩:=hb.obj
   obtain ⟨eg,hem,ee,ev⟩:=gr_at hgr
   obtain ⟨lz,hz⟩:=hlp eg hem ee
   have sd:∀ G,Sd K G (.str s) true:=fun G=>by have:=Sd.str (K:=K) (H:=G) s; rw [hs] at this; exact this
   refine xd6 (fun σ' G=>σ' = [some (.ref x),some (.str f),some (.str g),some (.str s),some (.int n),none] /\ Same H G) (fun N hN=>?_) ?_
   ·refine ⟨_,rfl,_,true,rfl,xn9 hf hfl,fun G sG=>⟨fun _=>?_,fun z=>by cases z⟩⟩
    exact ⟨_,rfl,_,true,rfl,xn9 hg hgl,fun G2 s2=>⟨fun _=>hN _ _ ⟨rfl,sG.trans s2⟩,fun z=>by cases z⟩⟩
   rintro σ1 H1 ⟨rfl,s1⟩
   have hb1:=hb.keep s1
   have hx1:=s1 _ _ hx
   have g1:=DGet.k (k:=.inr g) hb1.grp
   rw [ev] at g1
   refine xt7 (fun σ' G=>σ' = [some (.ref x),some (.str f),some (.str g),some (.str s),some (.int n),none] /\ G = H1) (fun N hN=>?_) ?_
   ·refine ⟨_,rfl,_,rfl,x,_,_,_,_,rfl,hx1,T.en4,T.er4,rfl,b.G,_,rfl,g1,_,rfl,iteF ?_⟩
    refine ⟨_,rfl,_,true,rfl,sd _,_,rfl,iteF ?_⟩
    exact ⟨_,rfl,_,true,rfl,Kd.intT n0 n1,(fun _=>hN _ _ ⟨rfl,rfl⟩),fun z=>by cases z⟩
   rintro σ2 H2 ⟨rfl,rfl⟩
   have hlst:=hb1.lst eg hem
   refine ⟨_,rfl,x,_,_,_,_,rfl,hx1,T.en4,T.er4,rfl,_,rfl,b.G,_,rfl,g1,eg.2.1,rfl,⟨_,SqL.of hlst⟩,?_⟩
   refine xj3 (K:=K) (a:=eg.2.1) (xs:=eg.2.2.map V.str) (fun i σ' G=>∃ v5 b',σ' = [some (.ref x),some (.str f),some (.str g),some (.str s),some (.int n),v5] /\ BoardAt A G x b' /\ b'.Nd /\ FillTo f s n b (eg.2.2.take i) b' /\ b'.F = b.F /\ b'.gr = b.gr /\ (∀ e ∈ b'.fl,(∃ e' ∈ b.fl,e.2.1 = e'.2.1) \/ H2 e.2.1 = none) /\ (∀ a o,a ≠ b.F -> (∀ e ∈ b.fl,a ≠ e.2.1) -> H2 a = some o -> G a = some o) /\ b'.fl.length <= 10 + i /\ ∀ e ∈ b'.fl,e.2.2.length <= 40 + i) ⟨_,b,rfl,hb1,nd,by rw [List.take_zero]; exact .nil,rfl,rfl,fun e he=>.inl ⟨e,he,rfl⟩,fun a o _ _ ea=>ea,by omega,fun e he=>by have:=few2 e he; omega⟩ ?_ ?_ ?_
   ·rintro i σ' G _ ⟨v5,b',_,hbb,_,_,_,egr,_⟩
    exact SqL.of (hbb.lst eg (by rw [egr]; exact hem))
   ·rintro i v σ' G hv ⟨v5,b',rfl,hbb,nd',ft,eF,egr,ad,fr,l1,l2⟩
    rw [List.getElem?_map] at hv
    obtain ⟨z,hzi,rfl⟩:=Option.map_eq_some_iff.mp hv
    have hi:i < eg.2.2.length:=(List.getElem?_eq_some_iff.mp hzi).1
    obtain ⟨lz1,lz2⟩:=hz z (List.mem_of_getElem? hzi)
    have tk:eg.2.2.take (i + 1) = eg.2.2.take i ++ [z]:=by rw [List.take_add_one,hzi]; rfl
    obtain ⟨dx',hx'⟩:=hbb.obj
    refine ⟨_,rfl,x,dx',_,rfl,hx',rfl,_,rfl,_,rfl,_,rfl,(by show 2 <= 1000; decide),fun q hq=>?_⟩
    have sq:=Same.new (o:=HO.tup [V.str z,V.str s]) hq
    have fq:(upd G q (HO.tup [V.str z,V.str s])) q = some (HO.tup [V.str z,V.str s]):=xa1
    generalize upd G q (HO.tup [V.str z,V.str s]) = G2 at sq fq ⊢
    have hb2:=hbb.keep sq
    have sl:Sl K G2 (.ref q) true:=by
     have:=Sl.two (K:=K) q _ _ _ _ fq (xn9 lz1 lz2) (sd G2)
     exact this
    have stay:∀ {a:Addr} {o:HO},a ≠ b.F -> (∀ e ∈ b.fl,a ≠ e.2.1) -> H2 a = some o -> a ≠ b'.F /\ (∀ e ∈ b'.fl,a ≠ e.2.1):=fun {a o} a1 a2 ea=>⟨by rw [eF]; exact a1,fun e he q=>by
     rcases ad e he with ⟨e',he',q'⟩ | h
     ·exact a2 e' he' (by rw [q,q'])
     ·rw [<- q,ea] at h; cases h⟩
    refine ⟨_,rfl,x,_,_,_,rfl,.inl ⟨b',q,f,z,s,n,rfl,rfl,rfl,hf,hfl,sl,fq,n0,n1,hb2,nd',by omega,fun e he=>by have:=l2 e he; omega,fun mem G3 hb3 st=>?_,fun no p G3 hp hb3 st=>?_⟩⟩
    ·refine ⟨_,_,rfl,hb3,yz3 nd' f _ _,by rw [tk]; exact .snoc ft (.inl ⟨mem,rfl⟩),eF,egr,fun e he=>?_,fun a o a1 a2 ea=>st a o (stay a1 a2 ea).1 (stay a1 a2 ea).2 (sq _ _ (fr a o a1 a2 ea)),?_,fun e he=>?_⟩
     ·obtain ⟨e0,h0,rfl⟩:=List.mem_map.mp he
      have:=ad e0 h0
      split <;> exact this
     ·show (xl3 b'.fl f _ _).length <= _
      unfold xl3; rw [List.length_map]; omega
     ·have:=fill_len l2 e he; omega
    ·refine ⟨_,_,rfl,hb3,nd_new nd' hb2 hp no _,by rw [tk]; exact .snoc ft (.inr ⟨no,p,rfl⟩),eF,egr,fun e he=>?_,fun a o a1 a2 ea=>st a o (stay a1 a2 ea).1 (stay a1 a2 ea).2 (sq _ _ (fr a o a1 a2 ea)),?_,fun e he=>?_⟩
     ·rcases List.mem_append.mp he with he | he
      ·exact ad e he
      ·cases List.mem_singleton.mp he
       refine Classical.byCases (fun h:∃ e' ∈ b.fl,p = e'.2.1=>.inl h) fun h=>.inr ?_
       show H2 p = none
       cases w:H2 p with
       | none=>rfl
       | some o =>
        have pF:p ≠ b.F:=fun z=>by have:=hb2.fill; rw [eF,<- z,hp] at this; cases this
        have:=sq _ _ (fr p o pF (fun e' he' q=>h ⟨e',he',q⟩) w)
        rw [hp] at this; cases this
     ·show (b'.fl ++ [_]).length <= _
      rw [List.length_append]; simp only [List.length_cons,List.length_nil]; omega
     ·rcases List.mem_append.mp he with he | he
      ·have:=l2 e he; omega
      ·cases List.mem_singleton.mp he; show 1 <= _; omega
   ·rintro σ' G ⟨v5,b',rfl,hbb,nd',ft,eF,egr,ad,fr,l1,l2⟩
    rw [List.length_map,List.take_length] at ft
    exact k eg b' G hem ee ft nd' hbb (fun a o a1 a2 ea=>fr a o a1 a2 (s1 _ _ ea)) fun e he=>(ad e he).imp id fun h=>s1.free h
  ·refine xa7 (fun _ _=>False) (fun N hN=>?_) (fun _ _ z=>z.elim)
   exact ⟨_,rfl,_,false,rfl,hu,fun G sG=>⟨(fun z=>by cases z),fun _=>e _ sG⟩⟩
  ·refine xd6 (fun _ _=>False) (fun N hN=>?_) (fun _ _ z=>z.elim)
   refine ⟨_,rfl,_,true,rfl,hu,fun G sG=>⟨fun _=>?_,fun z=>by cases z⟩⟩
   exact ⟨_,rfl,_,false,rfl,hv.keep sG,fun G2 s2=>⟨(fun z=>by cases z),fun _=>e _ (sG.trans s2)⟩⟩
  ·obtain ⟨dx,hx⟩:=hb.obj
   refine xd6 (fun σ' G=>σ' = [some (.ref x),some u,some (.str g),some y,some t,none] /\ Same H G) (fun N hN=>?_) ?_
   ·refine ⟨_,rfl,_,true,rfl,hu,fun G sG=>⟨fun _=>?_,fun z=>by cases z⟩⟩
    exact ⟨_,rfl,_,true,rfl,hv.keep sG,fun G2 s2=>⟨fun _=>hN _ _ ⟨rfl,sG.trans s2⟩,fun z=>by cases z⟩⟩
   rintro σ1 H1 ⟨rfl,s1⟩
   have hb1:=hb.keep s1
   have hx1:=s1 _ _ hx
   have g1:=DGet.k (k:=.inr g) hb1.grp
   rw [zb5 no] at g1
   refine xa7 (fun _ _=>False) (fun N hN=>?_) (fun _ _ z=>z.elim)
   exact ⟨_,rfl,_,rfl,x,_,_,_,_,rfl,hx1,T.en4,T.er4,rfl,b.G,_,rfl,g1,_,rfl,iteT ⟨by decide,e _ s1⟩⟩
  ·obtain ⟨dx,hx⟩:=hb.obj
   obtain ⟨eg,hem,ee,ev⟩:=gr_at yes
   refine xd6 (fun σ' G=>σ' = [some (.ref x),some u,some (.str g),some y,some t,none] /\ Same H G) (fun N hN=>?_) ?_
   ·refine ⟨_,rfl,_,true,rfl,hu,fun G sG=>⟨fun _=>?_,fun z=>by cases z⟩⟩
    exact ⟨_,rfl,_,true,rfl,hv.keep sG,fun G2 s2=>⟨fun _=>hN _ _ ⟨rfl,sG.trans s2⟩,fun z=>by cases z⟩⟩
   rintro σ1 H1 ⟨rfl,s1⟩
   have hb1:=hb.keep s1
   have hx1:=s1 _ _ hx
   have g1:=DGet.k (k:=.inr g) hb1.grp
   rw [ev] at g1
   refine xd6 (fun _ _=>False) (fun N hN=>?_) (fun _ _ z=>z.elim)
   refine ⟨_,rfl,_,rfl,x,_,_,_,_,rfl,hx1,T.en4,T.er4,rfl,b.G,_,rfl,g1,_,rfl,iteF ?_⟩
   exact ⟨_,rfl,_,false,rfl,hy.keep s1,_,rfl,iteT ⟨by decide,e _ s1⟩⟩
  ·obtain ⟨dx,hx⟩:=hb.obj
   obtain ⟨eg,hem,ee,ev⟩:=gr_at yes
   refine xd6 (fun σ' G=>σ' = [some (.ref x),some u,some (.str g),some y,some t,none] /\ Same H G) (fun N hN=>?_) ?_
   ·refine ⟨_,rfl,_,true,rfl,hu,fun G sG=>⟨fun _=>?_,fun z=>by cases z⟩⟩
    exact ⟨_,rfl,_,true,rfl,hv.keep sG,fun G2 s2=>⟨fun _=>hN _ _ ⟨rfl,sG.trans s2⟩,fun z=>by cases z⟩⟩
   rintro σ1 H1 ⟨rfl,s1⟩
   have hb1:=hb.keep s1
   have hx1:=s1 _ _ hx
   have g1:=DGet.k (k:=.inr g) hb1.grp
   rw [ev] at g1
   refine xt7 (fun _ _=>False) (fun N hN=>?_) (fun _ _ z=>z.elim)
   refine ⟨_,rfl,_,rfl,x,_,_,_,_,rfl,hx1,T.en4,T.er4,rfl,b.G,_,rfl,g1,_,rfl,iteF ?_⟩
   refine ⟨_,rfl,_,true,rfl,hy.keep s1,_,rfl,iteF ?_⟩
   exact ⟨_,rfl,_,false,rfl,ht.keep s1,(fun z=>by cases z),fun _=>e _ s1⟩
def spCell (K:Frag):Sp:=fun vs H Q _=>∃ (a:Addr) (ns:List Int) (i:Int),vs = [.ref a,.int i] /\ SqL K H a (ns.map V.int) /\ 0 <= i /\ ∀ v,Q (.int v) H
theorem xz4 (T:Txt K mg A):FnOk P w K mg base (CXE P w) 1 A.ec2 A.ed2 ["_law_script","_law_k"] (spCell K):=by
 refine T.ed3.okN xy9 (fun vs H Q E h=>?_) (fun cdv Ar outer s H vs Q E hr h=>?_)
 ·obtain ⟨a,ns,i,rfl,hS,hi,k⟩:=h
  rfl
 ·obtain ⟨a,ns,i,rfl,hS,hi,k⟩:=h
  refine ⟨_,(xa4 (xg1 (xg0 op_lt (pv 1) (xc0 (xy0 K) (by rfl) T.eh6 PySem.boot_len (xa0 (pv 0) xa6)) (xh6 _)) (xa5 (xb7 (xr5 (xq5 K) (pv 0) (pv 1) (fun _ _=>rfl)))) xb9)
   (xa5 (xb7 xa9))),?_⟩
  refine ⟨_,rfl,_,rfl,a,_,rfl,.inl hS,_,_,rfl,rfl,_,rfl,?_⟩
  refine ite2 (fun c=>?_) (fun c=>?_)
  ·have c:=of_decide_eq_true c
   rw [List.length_map] at c
   obtain ⟨v,hv⟩:∃ v,ns[i.toNat]? = some v:=⟨_,List.getElem?_eq_getElem (by omega)⟩
   refine ⟨_,rfl,_,rfl,a,_,_,_,rfl,rfl,hS,?_,k v⟩
   have:=xp1 (xs:=ns.map V.int) (j:=i.toNat) (v:=.int v) (by rw [List.getElem?_map,hv]; rfl)
   rwa [Int.toNat_of_nonneg hi] at this
  ·exact k 0
def spDrawn (K:Frag):Sp:=fun vs H Q _=>∃ (a:Addr) (ns:List Int) (i:Nat),vs = [.ref a,.int (i:Int)] /\ SqL K H a (ns.map V.int) /\ i < ns.length /\ ns.length <= 63 /\ ∀ n,0 <= n -> Q (.int n) H
theorem yi4 (T:Txt K mg A):FnOk P w K mg base (CXE P w) 1 A.ee2 A.ef2 ["_law_script","_law_k"] (spDrawn K):=by
 refine T.eg3.okN yg9 (fun vs H Q E h=>?_) (fun cdv Ar outer s H vs Q E hr h=>?_)
 ·obtain ⟨a,ns,i,rfl,hS,hi,hlen,k⟩:=h
  rfl
 ·obtain ⟨a,ns,i,rfl,hS,hi,hlen,k⟩:=h
  refine ⟨_,(xa4 (xg1 (PW.pt (pw_and (xg0 yd6 (xc6 xg4 (xr5 (xq5 K) (pv 0) xa9 (fun _ _=>rfl)) xa9) xa9 (xh6 _)) (yx2 (xg0 yy9 (xr5 (xq5 K) (pv 0) (pv 1) (fun _ _=>rfl)) (xc6 ym0 xa9 xa9) (xh6 _))))) (xa5 (xb7 (xc6 xg4 (xr5 (xq5 K) (pv 0) (pv 1) (fun _ _=>rfl)) (xc6 ym0 xa9 xa9)))) xb9)
   (xa5 (xb7 (xc6 xg4 (xc6 xv7 (xc6 yh9 (xr5 (xq5 K) (pv 0) (pv 1) (fun _ _=>rfl)) xa9) (xc6 yh9 xa9 (xc6 xv7 (xc6 xv7 xa9 (pv 1)) (pv 1)))) xa9)))),?_⟩
  obtain ⟨v,hv⟩:∃ v,ns[i]? = some v:=⟨_,List.getElem?_eq_getElem hi⟩
  obtain ⟨v0,hv0⟩:∃ v,ns[0]? = some v:=⟨_,List.getElem?_eq_getElem (by omega)⟩
  have ha:atI (ns.map V.int) (i:Int) = some (.int v):=xp1 (by rw [List.getElem?_map,hv]; rfl)
  have ha0:atI (ns.map V.int) ((0:Nat):Int) = some (.int v0):=xp1 (by rw [List.getElem?_map,hv0]; rfl)
  have kk:(i:Int) * i <= 3844:=by
   have:i * i <= 62 * 62:=Nat.mul_le_mul (by omega) (by omega)
   have e:((i * i:Nat):Int) = (i:Int) * i:=by push_cast; rfl
   omega
  have k0:0 <= (i:Int) * i:=Int.mul_nonneg (by omega) (by omega)
  have e3:7919 * (i:Int) * i = 7919 * ((i:Int) * i):=Int.mul_assoc _ _ _
  refine xa7 (fun σ' G=>σ' = [some (.ref a),some (.int (i:Int))] /\ G = H) (fun N hN=>?_) ?_
  ·refine ⟨_,rfl,a,_,_,_,rfl,rfl,hS,ha0,_,_,rfl,rfl,(by show (0:Int) < 2; decide),rfl,_,rfl,?_⟩
   refine ite2 (fun _=>?_) (fun _=>iteF (hN _ _ ⟨rfl,rfl⟩))
   refine ⟨_,rfl,_,rfl,a,_,_,_,rfl,rfl,hS,ha,_,_,rfl,rfl,⟨by decide,by decide,by decide,by decide⟩,_,_,rfl,rfl,_,rfl,?_⟩
   refine ite2 (fun _=>?_) (fun _=>hN _ _ ⟨rfl,rfl⟩)
   exact ⟨_,rfl,_,rfl,a,_,_,_,rfl,rfl,hS,ha,_,_,rfl,rfl,⟨by decide,by decide,by decide,by decide⟩,_,_,rfl,rfl,(by show (0:Int) < 10 ^ (30:Int).toNat; decide),k _ (Int.emod_nonneg _ (by decide))⟩
  rintro σ1 H1 ⟨rfl,rfl⟩
  refine ⟨_,rfl,_,rfl,a,_,_,_,rfl,rfl,hS,ha,_,_,rfl,rfl,_,rfl,_,_,rfl,rfl,.inl ⟨by decide,by decide⟩,_,rfl,_,_,rfl,rfl,.inr ⟨by omega,by omega⟩,_,_,rfl,rfl,_,_,rfl,rfl,.inr ⟨?_,?_⟩,_,_,rfl,rfl,(by show (0:Int) < 2147483629; decide),k _ (Int.emod_nonneg _ (by decide))⟩
  ·show -(2 ^ 64) < 48271 + 7919 * (i:Int) * i
   rw [e3]; omega
  ·show 48271 + 7919 * (i:Int) * i < 2 ^ 64
   rw [e3]; omega
def spWholeT (K:Frag):Sp:=fun vs H Q _=>∃ i:Int,vs = [.int i] /\ Q (.bl true) H
theorem yi1 (T:Txt K mg A):FnOk P w K mg base (CXE P w) 1 A.eg2 A.eh2 ["_law_found"] (spWholeT K):=by
 refine T.ej3.okN yg8 (fun vs H Q E h=>?_) (fun cdv Ar outer s H vs Q E hr h=>?_)
 ·obtain ⟨i,rfl,k⟩:=h
  rfl
 ·obtain ⟨i,rfl,k⟩:=h
  refine ⟨_,(xa5 (xb7 (xp8 (xc0 (xf0 K) (by rfl) T.ew5 xb5 (xa0 (pv 0) (xa0 (xv1 (by rfl) T.ex5 yr5) xa6))) (xp5 (pe_not (xc0 (xf0 K) (by rfl) T.ew5 xb5 (xa0 (pv 0) (xa0 (xv1 (by rfl) T.ey5 yk6) xa6)))))))),?_⟩
  refine ⟨_,rfl,_,_,_,_,rfl,.int i,xr8 (.inr (.inr (.inl rfl))) (.inl rfl),_,rfl,iteT ?_⟩
  exact ⟨_,rfl,_,_,_,_,rfl,.int i,xr8 (.inr (.inr (.inl rfl))) (.inr (.inl rfl)),_,rfl,k⟩
abbrev zT:Str:=Str.ofString "zzzzzzzz"
abbrev kkT:Str:=Str.ofString "kkkkkkkk"
abbrev gT:Str:=Str.ofString "abcdefg"
def xo9 (n f:Int):Str:=if f % 3 = 1 then Txt.slice zT none (some (1 + n % 7)) else Txt.slice kkT none (some (f / 3 % 8)) ++ (⟨#[(cs gT).getD (n % 7).toNat 97]⟩:Str) ++ Txt.slice kkT none (some (f / 24 % (8 - f / 3 % 8)))
theorem yl2:zT.length = 8:=by decide +kernel
theorem xw8:kkT.length = 8:=by decide +kernel
theorem z_let:(cs zT).all xt5 = true:=by decide +kernel
theorem kk_let:(cs kkT).all xt5 = true:=by decide +kernel
theorem g_let:(cs gT).all xt5 = true:=by decide +kernel
theorem g_len:(cs gT).length = 7:=by decide +kernel
theorem yf4 {xs:List Nat} {p:Nat -> Bool} (h:xs.all p = true) (n:Nat):(xs.take n).all p = true:=List.all_eq_true.mpr fun x hx=>List.all_eq_true.mp h x (List.mem_of_mem_take hx)
theorem yz8 {z:Str} (h1:1 <= (cs z).length) (h8:(cs z).length <= 8) (h:(cs z).all xt5 = true):xl2 z = true:=by
 unfold xl2
 rw [h,<- xx5]
 simp only [Bool.and_true,Bool.and_eq_true,decide_eq_true_eq]
 omega
theorem xn8 (n f:Int):xl2 (xo9 n f) = true:=by
 have n0:=Int.emod_nonneg n (show (7:Int) ≠ 0 by decide)
 have n1:=Int.emod_lt_of_pos n (show (0:Int) < 7 by decide)
 unfold xo9
 split
 ·have e:=yc3 (z:=zT) (j:=1 + n % 7) (by omega) (by rw [yl2]; omega)
  have l:(cs zT).length = 8:=by rw [xx5,yl2]
  refine yz8 ?_ ?_ ?_
  ·rw [e,List.length_take]; omega
  ·rw [e,List.length_take]; omega
  ·rw [e]; exact yf4 z_let _
 ·have a0:=Int.emod_nonneg (f / 3) (show (8:Int) ≠ 0 by decide)
  have a1:=Int.emod_lt_of_pos (f / 3) (show (0:Int) < 8 by decide)
  have c0:=Int.emod_nonneg (f / 24) (show (8 - f / 3 % 8:Int) ≠ 0 by omega)
  have c1:=Int.emod_lt_of_pos (f / 24) (show (0:Int) < 8 - f / 3 % 8 by omega)
  have e1:=yc3 (z:=kkT) (j:=f / 3 % 8) (by omega) (by rw [xw8]; omega)
  have e2:=yc3 (z:=kkT) (j:=f / 24 % (8 - f / 3 % 8)) (by omega) (by rw [xw8]; omega)
  have l:(cs kkT).length = 8:=by rw [xx5,xw8]
  have ec:cs (⟨#[(cs gT).getD (n % 7).toNat 97]⟩:Str) = [(cs gT).getD (n % 7).toNat 97]:=rfl
  refine yz8 ?_ ?_ ?_
  ·rw [xx6,xx6,e1,e2,ec,List.length_append,List.length_append,List.length_take,List.length_take]; simp only [List.length_cons,List.length_nil]; omega
  ·rw [xx6,xx6,e1,e2,ec,List.length_append,List.length_append,List.length_take,List.length_take]; simp only [List.length_cons,List.length_nil]; omega
  ·rw [xx6,xx6,e1,e2,ec,List.all_append,List.all_append,yf4 kk_let,yf4 kk_let]
   have:xt5 ((cs gT).getD (n % 7).toNat 97) = true:=List.all_eq_true.mp g_let _ (by
    rw [List.getD_eq_getElem?_getD,List.getElem?_eq_getElem (by rw [g_len]; omega)]; exact List.getElem_mem _)
   rw [List.all_cons,this]; rfl
theorem lt1 {z:Str} (h:xl2 z = true):z.length <= 1000:=by
 unfold xl2 at h
 simp only [Bool.and_eq_true,decide_eq_true_eq] at h
 omega
def spName (K:Frag):Sp:=fun vs H Q _=>∃ n f:Int,vs = [.int n,.int f] /\ Q (.str (xo9 n f)) H
theorem xo7 (T:Txt K mg A):FnOk P w K mg base (CXE P w) 1 A.ei2 A.ej2 ["_law_number","_law_form"] (spName K):=by
 refine T.em3.okN xu7 (fun vs H Q E h=>?_) (fun cdv Ar outer s H vs Q E hr h=>?_)
 ·obtain ⟨n,f,rfl,k⟩:=h
  rfl
 ·obtain ⟨n,f,rfl,k⟩:=h
  refine ⟨_,(xa4 (xg1 (xg0 yd6 (xc6 xg4 (pv 1) xa9) xa9 (xh6 _)) (xa5 (xb7 (xo3 yw7 xc9 xr4 (xr3 (xc6 yh9 xa9 (xc6 xg4 (pv 0) xa9)))))) xb9)
   (xa4 (xd8 (i:=2) xu7.nd rfl (Or.inl rfl) (xc6 xg4 (xc6 xf8 (pv 1) xa9) xa9))
   (xa5 (xb7 (xc6 ya5 (xc6 ya5 (xo3 yw7 xc9 xr4 (xr3 (pv 2))) (xr5 ix_str xc9 (xc6 xg4 (pv 0) xa9) (fun _ _=>rfl))) (xo3 yw7 xc9 xr4 (xr3 (xc6 xg4 (xc6 xf8 (pv 1) xa9) (xc6 op_sub xa9 (pv 2)))))))))),?_⟩
  have n0:=Int.emod_nonneg n (show (7:Int) ≠ 0 by decide)
  have n1:=Int.emod_lt_of_pos n (show (0:Int) < 7 by decide)
  have a0:=Int.emod_nonneg (f / 3) (show (8:Int) ≠ 0 by decide)
  have a1:=Int.emod_lt_of_pos (f / 3) (show (0:Int) < 8 by decide)
  unfold xo9 at k
  by_cases c:f % 3 = 1
  ·rw [if_pos c] at k
   refine xa7 (fun _ _=>False) (fun N hN=>?_) (fun _ _ z=>z.elim)
   refine ⟨_,rfl,_,_,rfl,rfl,(by show (0:Int) < 3; decide),rfl,_,rfl,?_⟩
   rw [decide_eq_true (show V.int (f % 3) = V.int 1 by rw [c])]
   exact iteT ⟨_,rfl,_,_,rfl,rfl,(by show (0:Int) < 7; decide),_,_,rfl,rfl,_,rfl,zT,rfl,xg2 (by rw [yl2]; decide),k⟩
  ·rw [if_neg c] at k
   refine xd6 (fun σ' G=>σ' = [some (.int n),some (.int f),some (.int (f / 3 % 8))] /\ G = H) (fun N hN=>?_) ?_
   ·refine ⟨_,rfl,_,_,rfl,rfl,(by show (0:Int) < 3; decide),rfl,_,rfl,?_⟩
    rw [decide_eq_false (show ¬ V.int (f % 3) = V.int 1 from fun z=>c (V.int.inj z))]
    exact iteF ⟨_,rfl,_,_,rfl,rfl,⟨by decide,by decide⟩,_,_,rfl,rfl,(by show (0:Int) < 8; decide),hN _ _ ⟨rfl,rfl⟩⟩
   rintro σ1 H1 ⟨rfl,rfl⟩
   have hc:atI gT.cps.toList (n % 7) = some ((cs gT).getD (n % 7).toNat 97):=by
    have:=xp1 (xs:=cs gT) (j:=(n % 7).toNat) (v:=(cs gT).getD (n % 7).toNat 97) (by rw [List.getD_eq_getElem?_getD,List.getElem?_eq_getElem (by rw [g_len]; omega)]; rfl)
    rwa [Int.toNat_of_nonneg n0] at this
   have s1:(Txt.slice kkT none (some (f / 3 % 8))).length <= 8:=Nat.le_trans (Txt.slice_le _ _ _) (by rw [xw8]; decide)
   have s2:(Txt.slice kkT none (some (f / 24 % (8 - f / 3 % 8)))).length <= 8:=Nat.le_trans (Txt.slice_le _ _ _) (by rw [xw8]; decide)
   refine ⟨_,rfl,_,rfl,kkT,rfl,xg2 (by rw [xw8]; decide),_,rfl,_,_,rfl,rfl,(by show (0:Int) < 7; decide),gT,_,_,rfl,rfl,xg2 (by decide +kernel),hc,_,_,rfl,rfl,?_,_,rfl,_,_,rfl,rfl,⟨by decide,by decide⟩,_,rfl,_,_,rfl,rfl,_,_,rfl,rfl,(by show (0:Int) < 8 - f / 3 % 8; omega),_,rfl,kkT,rfl,xg2 (by rw [xw8]; decide),_,_,rfl,rfl,?_,k⟩
   ·exact xg2 (by show _ + 1 <= 1000; omega)
   ·rw [app_len]
    exact xg2 (by show _ + 1 + _ <= 1000; omega)
def spWorthL (K:Frag):Sp:=fun vs H Q _=>∃ n:Int,vs = [.int n] /\ ∀ w:Int,0 <= w -> w <= 1000000000 -> Q (.int w) H
theorem yi0 (T:Txt K mg A):FnOk P w K mg base (CXE P w) 1 A.ek2 A.el2 ["_law_number"] (spWorthL K):=by
 refine T.ep3.okN xs5 (fun vs H Q E h=>?_) (fun cdv Ar outer s H vs Q E hr h=>?_)
 ·obtain ⟨n,rfl,k⟩:=h
  rfl
 ·obtain ⟨n,rfl,k⟩:=h
  refine ⟨_,(xa4 (xd8 (i:=1) xs5.nd rfl (Or.inl rfl) (xc6 xg4 (xc6 xv7 (pv 0) xa9) xa9))
   (xa4 (xg1 (xg0 yd6 (xc6 xg4 (pv 1) xa9) xa9 (xh6 _)) (xa5 (xb7 (xc6 xg4 (xc6 xf8 (pv 1) xa9) xa9))) xb9)
   (xa5 (xb7 (xc6 xg4 (pv 1) (xc6 yh9 (xc6 ym0 xa9 xa9) xa9)))))),?_⟩
  refine xa7 (fun σ' G=>σ' = [some (.int n),some (.int (n * 40692 % 2147483399))] /\ G = H) (fun N hN=>?_) ?_
  ·exact ⟨_,rfl,_,_,rfl,rfl,.inr ⟨by decide,by decide⟩,_,_,rfl,rfl,(by show (0:Int) < 2147483399; decide),hN _ _ ⟨rfl,rfl⟩⟩
  rintro σ1 H1 ⟨rfl,rfl⟩
  generalize n * 40692 % 2147483399 = r
  refine xa7 (fun σ' G=>σ' = [some (.int n),some (.int r)] /\ G = H1) (fun N hN=>?_) ?_
  ·refine ⟨_,rfl,_,_,rfl,rfl,(by show (0:Int) < 3; decide),rfl,_,rfl,?_⟩
   refine ite2 (fun _=>?_) (fun _=>hN _ _ ⟨rfl,rfl⟩)
   have:=Int.emod_nonneg (r / 3) (show (1000:Int) ≠ 0 by decide)
   have:=Int.emod_lt_of_pos (r / 3) (show (0:Int) < 1000 by decide)
   exact ⟨_,rfl,_,_,rfl,rfl,⟨by decide,by decide⟩,_,_,rfl,rfl,(by show (0:Int) < 1000; decide),k _ (by omega) (by omega)⟩
  rintro σ2 H2 ⟨rfl,rfl⟩
  have e9:(10:Int) ^ (9:Int).toNat + 1 = 1000000001:=by decide
  have:=Int.emod_nonneg r (show (1000000001:Int) ≠ 0 by decide)
  have:=Int.emod_lt_of_pos r (show (0:Int) < 1000000001 by decide)
  exact ⟨_,rfl,_,_,rfl,rfl,⟨by decide,by decide,by decide,by decide⟩,_,_,rfl,rfl,_,_,rfl,rfl,(by show (0:Int) < 10 ^ (9:Int).toNat + 1; decide),k _ (by rw [e9]; omega) (by rw [e9]; omega)⟩
def spIsLook (K:Frag):Sp:=fun vs H Q _=>∃ (d:Addr) (kvs:List (List Key × V)),vs = [.ref d] /\ H d = some (.dT kvs) /\ (∀ kv ∈ kvs,∃ i:Int,kv.2 = .int i /\ 1 <= i) /\ ∀ H',Same H H' -> Q (.bl true) H'
theorem xz3 (T:Txt K mg A):FnOk P w K mg base (CXE P w) 2 A.em2 A.en2 ["_law_found"] (spIsLook K):=by
 have G_law_whole:=yi1 (P:=P) (w:=w) (base:=base) T
 refine T.es3.okN xl1 (fun vs H Q E h=>?_) (fun cdv Ar outer s H vs Q E hr h=>?_)
 ·obtain ⟨d,kvs,rfl,hd,hv0,k⟩:=h
  rfl
 ·obtain ⟨d,kvs,rfl,hd,hv0,k⟩:=h
  refine ⟨_,(xa4 (xg1 (xi8 (xh3 (xc0 (xf0 K) (by rfl) T.ew5 xb5 (xa0 (pv 0) (xa0 (xv1 (by rfl) T.ec6 yk5) xa6))))) (xa5 (xb7 xv4)) xb9)
   (xa4 (ps_hold (xm2 PassesOwn.never rfl (yp6 (yp7 (pv 0))) (yx9 (n:=2) K rfl (xt9 (xd5 (i:=1) xl1.nd rfl (Or.inl rfl)) (xt9 (xd5 (i:=2) xl1.nd rfl (Or.inl rfl)) yx8))) (xa5 (xg1 (PW.pt (pw_or (xi8 (xh3 (xc0 (xf0 K) (by rfl) T.ew5 xb5 (xa0 (pv 1) (xa0 (xv1 (by rfl) T.ea6 yb8) xa6))))) (pw_or (xi8 (xh3 (xb0 G_law_whole (hr.mono (by decide)) (by rfl) T.el3 T.ej3.kp T.ek3 .nil xb6 (xa0 (pv 2) xa6)))) (pw_or1 (xg0 op_lt (pv 2) xa9 (xh6 _)))))) (xa5 (xb7 xv4)) xb9))))
   (xa5 (xb7 xv4)))),?_⟩
  refine xa7 (fun σ' G=>σ' = [some (.ref d),none,none] /\ G = H) (fun N hN=>?_) ?_
  ·exact ⟨_,rfl,_,_,_,true,rfl,.dT hd,yq2,_,rfl,iteF (hN _ _ ⟨rfl,rfl⟩)⟩
  rintro σ1 H1 ⟨rfl,rfl⟩
  refine xa7 (fun σ' G=>∃ v1 v2,σ' = [some (.ref d),v1,v2] /\ Same H1 G) (fun N hN=>?_) ?_
  ·refine ⟨d,kvs,hd,fun o xs es ep DD kt=>?_⟩
   have hk:=yi7 DD
   have hv:=yf8 DD kt
   refine ⟨_,rfl,d,o,es,ep,rfl,xa1,DD.sys,DD.ex,DD.data,fun p hp=>?_⟩
   have pd:d ≠ p:=by rintro rfl; rw [xa1] at hp; cases hp
   have hp0:H1 p = none:=by rw [xa3 (Ne.symm pd)] at hp; exact hp
   refine ⟨p,d,o,_,_,es,ep,rfl,xa1,by rw [xa3 pd,xa1],DD.ex,DD.data,hk,hv,?_⟩
   refine zb8 (fun i σ' G=>∃ v1 v2:Option V,σ' = [some (.ref d),v1,v2] /\ G d = some (held d o) /\ ∀ b ob,b ≠ d -> H1 b = some ob -> G b = some ob) ⟨_,_,rfl,by rw [xa3 pd,xa1],fun b ob hbd e=>?_⟩ (fun i σ' G _ hq=>?_) (fun i kk v q σ' G hki hvi hq hqn=>?_) fun σ' G hq=>?_
   ·rw [xa3 (xb2 e hp0),xa3 hbd]; exact e
   ·obtain ⟨_,_,_,h,_⟩:=hq; exact h
   ·obtain ⟨v1,v2,rfl,gd,go⟩:=hq
    rw [List.getElem?_map] at hki hvi
    obtain ⟨x,hxi,rfl⟩:=Option.map_eq_some_iff.mp hki
    obtain ⟨kv,hji,rfl⟩:=Option.map_eq_some_iff.mp hvi
    obtain ⟨x',hx',hrel⟩:=yy6 kt hji
    rw [hxi] at hx'
    cases hx'
    obtain ⟨n,en,n1⟩:=hv0 kv (List.mem_of_getElem? hji)
    rw [en]
    have hxt:H1 x.2.1 = some (.tup (kv.1.map kV)):=hrel.2.1
    have xd:x.2.1 ≠ d:=ye1 hxt hd (by intro z; cases z)
    have gx:=go _ _ xd hxt
    have ndq:d ≠ q:=xb2 gd hqn
    have nxq:x.2.1 ≠ q:=xb2 gx hqn
    refine ⟨q,_,rfl,SqT.of xa1,rfl,?_⟩
    refine ⟨_,_,rfl,_,_,rfl,rfl,?_⟩
    refine ⟨_,rfl,_,_,_,true,rfl,.tup (by rw [xa3 nxq]; exact gx),yl5,_,rfl,iteF ?_⟩
    refine ⟨_,rfl,n,rfl,_,rfl,iteF ?_⟩
    refine ⟨_,rfl,_,_,rfl,rfl,_,rfl,?_⟩
    rw [decide_eq_false (show ¬ n < 1 by omega)]
    exact iteF ⟨_,_,rfl,by rw [xa3 ndq]; exact gd,fun b ob hb e=>by rw [xa3 (xb2 (go b ob hb e) hqn)]; exact go b ob hb e⟩
   ·obtain ⟨v1,v2,rfl,gd,go⟩:=hq
    refine ⟨gd,fun b ys e=>go b _ (ye1 e hd (by intro z; cases z)) e,hN _ _ ⟨_,_,rfl,fun b ob e=>?_⟩⟩
    by_cases c:b = d
    ·rw [c,xa1]; rw [c,hd] at e; exact e
    ·rw [xa3 c]; exact go b ob c e
  rintro σ2 H2 ⟨v1,v2,rfl,s2⟩
  exact k _ s2
def yf6 (f:Int) (zs:List Str):Prop:=∀ z ∈ zs,∃ j:Nat,j < 4 /\ z = xo9 (j:Int) f
def spLampsL (K:Frag):Sp:=fun vs H Q _=>∃ n f:Int,vs = [.int n,.int f] /\ 0 <= n /\ ∀ M zs H',H M = none -> Same H H' -> H' M = some (.lst (zs.map V.str)) -> yf6 f zs -> zs.length <= 6 -> Q (.ref M) H'
theorem yi3 (T:Txt K mg A):FnOk P w K mg base (CXE P w) 2 A.eo2 A.ep2 ["_law_number","_law_form"] (spLampsL K):=by
 have G_law_name:=xo7 (P:=P) (w:=w) (base:=base) T
 refine T.ev3.okN xs6 (fun vs H Q E h=>?_) (fun cdv Ar outer s H vs Q E hr h=>?_)
 ·obtain ⟨n,f,rfl,n0,k⟩:=h
  rfl
 ·obtain ⟨n,f,rfl,n0,k⟩:=h
  refine ⟨_,(xa4 (yh3 ["_law_j","_law_form","_law_number"] [none,some 1,some 0] (i:=2) xs6.nd rfl (Or.inl rfl) rfl (yh5 (by rfl) T.ek6 (xa0 xa9 xa6)) (fun _ _ _=>(xd5 (i:=0) xw2 rfl (Or.inl rfl))) (fun _ _ _=>(xg0 yd6 (xc6 xg4 (xc6 xf8 (pv 2) (pe_menu (xa0 xa9 (xa0 xa9 (xa0 xa9 (xa0 xa9 xa6)))) (pv 0) (fun _ _=>rfl))) xa9) xa9 (xh6 _))) (fun _ _ _=>(xb0 G_law_name (hr.mono (by decide)) (by rfl) T.eo3 T.em3.kp T.en3 .nil xb6 (xa0 (pv 0) (xa0 (pv 1) xa6)))))
   (xa5 (xb7 (xc6 op_cat (pv 2) (xo3 (yc5 K) (pv 2) xr4 (xr3 (xc6 xg4 (xc6 xf8 (pv 0) xa9) xa9))))))),?_⟩
  refine xa7 (fun σ' G=>∃ L zs,σ' = [some (.int n),some (.int f),some (.ref L)] /\ Same H G /\ G L = some (.lst (zs.map V.str)) /\ yf6 f zs /\ zs.length <= 4) (fun N hN=>?_) ?_
  ·refine ⟨4,rfl,by decide,by decide,fun D hD=>?_⟩
   refine yv0 (lo:=0) (n:=4) (fun i:Nat=>decide (V.int (n / menu [1,2,4,8] (i:Int) % 2) = V.int 1)) (fun i:Nat=>V.str (xo9 (i:Int) f)) (fun σ=>∃ z,σ = [z,some (.int f),some (.int n)]) hD (by decide) ⟨_,rfl⟩ (fun i σ' G N2 hi ho sm q=>?_) fun G sm hl=>?_
   ·obtain ⟨z,rfl⟩:=ho
    rw [show (0:Int) + (i:Int) = (i:Int) by omega]
    have mm:=menu_all (P:=fun z=>0 < z /\ z <= 8) (ns:=[1,2,4,8]) (k:=(i:Int)) (by simp) (by omega) (by show _ < ((4:Nat):Int); omega)
    refine ⟨_,rfl,(by show 4 <= 1000; decide),_,rfl,_,_,rfl,rfl,by omega,(by show _ < ((4:Nat):Int); omega),(by show ((4:Nat):Int) < 1000; decide),_,_,rfl,rfl,⟨mm.1,Int.lt_of_le_of_lt mm.2 (by decide)⟩,_,_,rfl,rfl,(by show (0:Int) < 2; decide),rfl,_,rfl,?_⟩
    have qq:=q [some (.int (i:Int)),some (.int f),some (.int n)] G (Same.refl _) ⟨_,rfl⟩
    cases c:decide (V.int (n / menu [1,2,4,8] (i:Int) % 2) = V.int 1) with
    | true=>rw [c] at qq; exact iteT ⟨_,rfl,_,rfl,_,f,rfl,qq⟩
    | false=>rw [c] at qq; exact iteF qq
   ·refine hN _ _ ⟨D,((List.range 4).filter fun i:Nat=>decide (V.int (n / menu [1,2,4,8] (i:Int) % 2) = V.int 1)).map fun i:Nat=>xo9 (i:Int) f,rfl,sm,by rw [hl,List.map_map]; rfl,fun z hz=>?_,?_⟩
    ·obtain ⟨i,hi,rfl⟩:=List.mem_map.mp hz
     exact ⟨i,List.mem_range.mp (List.mem_filter.mp hi).1,rfl⟩
    ·rw [List.length_map]
     exact Nat.le_trans (List.length_filter_le _ _) (by rw [List.length_range]; decide)
  rintro σ1 H1 ⟨L,zs,rfl,s1,gL,hz,l4⟩
  have m0:=Int.emod_nonneg (n / 16) (show (3:Int) ≠ 0 by decide)
  have m1:=Int.emod_lt_of_pos (n / 16) (show (0:Int) < 3 by decide)
  refine ⟨_,rfl,_,rfl,_,rfl,_,_,rfl,rfl,⟨by decide,by decide⟩,_,_,rfl,rfl,(by show (0:Int) < 3; decide),_,rfl,L,_,rfl,SqL.of gL,fun p hp=>?_⟩
  have e:cutV (zs.map V.str) none (some (n / 16 % 3)) = (zs.take (n / 16 % 3).toNat).map V.str:=by
   have:=yr2 (zs.map V.str) (n / 16 % 3).toNat
   rw [Int.toNat_of_nonneg m0] at this
   rw [this,List.map_take]
  rw [e]
  have sp:=Same.new (o:=HO.lst ((zs.take (n / 16 % 3).toNat).map V.str)) hp
  have fp:(upd H1 p (HO.lst ((zs.take (n / 16 % 3).toNat).map V.str))) p = some (HO.lst ((zs.take (n / 16 % 3).toNat).map V.str)):=xa1
  generalize upd H1 p (HO.lst ((zs.take (n / 16 % 3).toNat).map V.str)) = G2 at sp fp ⊢
  have lt:(zs.take (n / 16 % 3).toNat).length <= 2:=by rw [List.length_take]; omega
  refine ⟨L,p,_,_,rfl,rfl,sp _ _ gL,fp,Nat.le_trans (show _ <= 100 by rw [List.length_map,List.length_map]; omega) (by rw [sizeLine_eq]; decide),fun M hM=>?_⟩
  have s3:=s1.trans sp
  refine k M (zs ++ zs.take (n / 16 % 3).toNat) _ (s3.free hM) (s3.trans (Same.new hM)) (by rw [xa1,List.map_append]) (fun z hzz=>?_) (by rw [List.length_append]; omega)
  rcases List.mem_append.mp hzz with h | h
  ·exact hz z h
  ·exact hz z (List.mem_of_mem_take h)
abbrev f1T:Str:=Str.ofString "first"
abbrev f2T:Str:=Str.ofString "second"
abbrev f3T:Str:=Str.ofString "third"
def Fdr (f:Str):Prop:=f = f1T \/ f = f2T \/ f = f3T
def xk6:List Str:=[Str.ofString "blue",ze0,Str.ofString "green",Str.ofString "pan",Str.ofString "red",Str.ofString "tilt"]
def ze4 (f:Int) (k:List Key):Prop:=∃ (j:Nat) (s:Str),j < 4 /\ s ∈ xk6 /\ k = xb1 (xo9 (j:Int) f) s
def allS (f:Int):List (List Key):=(List.range 4).flatMap fun j=>xk6.map fun s=>xb1 (xo9 ((j:Nat):Int) f) s
theorem yr7 (f:Int):(allS f).length = 24:=by
 unfold allS
 rw [List.length_flatMap]
 rfl
theorem ze2 {f:Int} {k:List Key} (h:ze4 f k):k ∈ allS f:=by
 obtain ⟨j,s,hj,hs,rfl⟩:=h
 exact List.mem_flatMap.mpr ⟨j,List.mem_range.mpr hj,List.mem_map.mpr ⟨s,hs,rfl⟩⟩
structure Bk (f:Int) (b:Bd):Prop where
 slots:∀ e ∈ b.fl,∀ kv ∈ e.2.2,ze4 f kv.1 /\ ∃ i:Int,kv.2 = .int i /\ 0 <= i /\ i <= 1000000000
 names:∀ e ∈ b.fl,Fdr e.1
 ndk:∀ e ∈ b.fl,(e.2.2.map (·.1)).Nodup
 lv:∃ o1 o2 o3,Fdr o1 /\ Fdr o2 /\ Fdr o3 /\ o1 ≠ o2 /\ o1 ≠ o3 /\ o2 ≠ o3 /\ b.lv = [(.inr o1,.int 1000),(.inr o2,.int 1000),(.inr o3,.int 1000)]
 dn:b.dn = []
 sp:b.sp = []
 gr:∀ e ∈ b.gr,yf6 f e.2.2 /\ e.2.2.length <= 6
theorem put_mem {kvs:List (List Key × V)} {k:List Key} {v:V} {kv:List Key × V} (h:kv ∈ putK kvs k v):kv ∈ kvs \/ kv = (k,v):=by
 unfold putK at h
 split at h
 ·obtain ⟨x,hx,rfl⟩:=List.mem_map.mp h
  by_cases c:x.1 = k
  ·rw [if_pos c]; exact .inr (by rw [c])
  ·rw [if_neg c]; exact .inl hx
 ·rcases List.mem_append.mp h with h | h
  ·exact .inl h
  ·exact .inr (List.mem_singleton.mp h)
theorem put_nd {kvs:List (List Key × V)} {k:List Key} {v:V} (h:(kvs.map (·.1)).Nodup):((putK kvs k v).map (·.1)).Nodup:=by
 unfold putK
 split
 ·have:(kvs.map fun kv=>if kv.1 = k then (kv.1,v) else kv).map (·.1) = kvs.map (·.1):=by
   rw [List.map_map]
   refine List.map_congr_left fun x _=>?_
   show (if x.1 = k then (x.1,v) else x).1 = x.1
   split <;> rfl
  rw [this]; exact h
 ·rename_i c
  rw [List.map_append,List.nodup_append]
  refine ⟨h,List.pairwise_singleton _ _,fun a ha b hb e=>?_⟩
  rw [List.map_cons,List.map_nil] at hb
  have eb:b = k:=List.mem_singleton.mp hb
  obtain ⟨x,hx,q⟩:=List.mem_map.mp ha
  exact c (List.any_eq_true.mpr ⟨x,hx,decide_eq_true (by rw [q,e,eb])⟩)
theorem zb9 (fl:List (Str × Addr × List (List Key × V))) (f g:Str) (k:List Key) (v:V):((xl3 fl f k v).find? fun e=>decide (e.1 = g)) = (fl.find? fun e=>decide (e.1 = g)).map fun e=>if e.1 = f then (e.1,e.2.1,putK e.2.2 k v) else e:=by
 unfold xl3
 rw [List.find?_map]
 congr 1
 refine congrArg (fun p=>fl.find? p) (funext fun e=>?_)
 show decide ((if e.1 = f then (e.1,e.2.1,putK e.2.2 k v) else e).1 = g) = decide (e.1 = g)
 split <;> rfl
theorem full_old {b:Bd} {f:Str} {k:List Key} {v:V} (h:∃ e ∈ b.fl,e.1 = f) (g:Str):xa8 { b with fl:=xl3 b.fl f k v } g = if g = f then putK (xa8 b f) k v else xa8 b g:=by
 unfold xa8
 show ((((xl3 b.fl f k v).find? fun e=>decide (e.1 = g)).map (·.2.2)).getD []) = _
 rw [zb9]
 by_cases c:g = f
 ·subst c
  rw [if_pos rfl]
  cases e:b.fl.find? fun e=>decide (e.1 = g) with
  | none =>
   obtain ⟨x,hx,q⟩:=h
   have:=List.find?_eq_none.mp e x hx
   exact absurd (decide_eq_true q) this
  | some x =>
   have q:x.1 = g:=by have:=List.find?_some e; exact of_decide_eq_true this
   show (Option.map (·.2.2) (some (if x.1 = g then (x.1,x.2.1,putK x.2.2 k v) else x))).getD [] = putK ((some x).map (·.2.2) |>.getD []) k v
   rw [if_pos q]; rfl
 ·rw [if_neg c]
  cases e:b.fl.find? fun e=>decide (e.1 = g) with
  | none=>rfl
  | some x =>
   have q:x.1 = g:=by have:=List.find?_some e; exact of_decide_eq_true this
   show (Option.map (·.2.2) (some (if x.1 = f then (x.1,x.2.1,putK x.2.2 k v) else x))).getD [] = ((some x).map (·.2.2) |>.getD [])
   rw [if_neg (fun z=>c (by rw [<- q,z]))]
theorem full_new {b:Bd} {f:Str} {k:List Key} {v:V} {p:Addr} (h:¬ ∃ e ∈ b.fl,e.1 = f) (g:Str):xa8 { b with fl:=b.fl ++ [(f,p,[(k,v)])] } g = if g = f then putK (xa8 b f) k v else xa8 b g:=by
 have e0:xa8 b f = []:=(ye7 h).2
 rw [e0]
 unfold xa8
 show ((((b.fl ++ [(f,p,[(k,v)])]).find? fun e=>decide (e.1 = g)).map (·.2.2)).getD []) = _
 rw [List.find?_append]
 by_cases c:g = f
 ·subst c
  rw [if_pos rfl]
  have:(b.fl.find? fun e=>decide (e.1 = g)) = none:=List.find?_eq_none.mpr fun x hx q=>h ⟨x,hx,of_decide_eq_true q⟩
  rw [this,List.find?_cons,decide_eq_true (show (g,p,[(k,v)]).1 = g from rfl)]
  exact (xt8 (kvs:=([]:List (List Key × V))) _ rfl).symm
 ·rw [if_neg c,List.find?_cons,decide_eq_false (show ¬ (f,p,[(k,v)]).1 = g from fun z=>c z.symm)]
  cases b.fl.find? fun e=>decide (e.1 = g) <;> rfl
structure FillP (f:Str) (k:List Key) (n:Int) (b b':Bd):Prop where
 full:∀ g,xa8 b' g = if g = f then putK (xa8 b f) k (.int n) else xa8 b g
 F:b'.F = b.F
 L:b'.L = b.L
 G:b'.G = b.G
 D:b'.D = b.D
 S:b'.S = b.S
 lv:b'.lv = b.lv
 gr:b'.gr = b.gr
 dn:b'.dn = b.dn
 sp:b'.sp = b.sp
theorem yq7 {f s z:Str} {n:Int} {b b':Bd} (h:yc0 f s n z b b'):FillP f (xb1 z s) n b b':=by
 rcases h with ⟨h,rfl⟩ | ⟨h,p,rfl⟩
 ·exact ⟨full_old h,rfl,rfl,rfl,rfl,rfl,rfl,rfl,rfl,rfl⟩
 ·exact ⟨full_new h,rfl,rfl,rfl,rfl,rfl,rfl,rfl,rfl,rfl⟩
theorem xx3 {f s z:Str} {n fm:Int} {b b':Bd} (h:yc0 f s n z b b') (bk:Bk fm b) (hf:Fdr f) (hk:ze4 fm (xb1 z s)) (n0:0 <= n) (n1:n <= 1000000000):Bk fm b':=by
 rcases h with ⟨h,rfl⟩ | ⟨h,p,rfl⟩
 ·refine { bk with slots:=fun e he kv hkv=>?_,names:=fun e he=>?_,ndk:=fun e he=>?_ }
  ·obtain ⟨e0,h0,rfl⟩:=List.mem_map.mp he
   by_cases c:e0.1 = f
   ·rw [if_pos c] at hkv
    rcases put_mem hkv with q | rfl
    ·exact bk.slots e0 h0 kv q
    ·exact ⟨hk,n,rfl,n0,n1⟩
   ·rw [if_neg c] at hkv; exact bk.slots e0 h0 kv hkv
  ·obtain ⟨e0,h0,rfl⟩:=List.mem_map.mp he
   have:=bk.names e0 h0
   split <;> exact this
  ·obtain ⟨e0,h0,rfl⟩:=List.mem_map.mp he
   have:=bk.ndk e0 h0
   split
   ·exact put_nd this
   ·exact this
 ·refine { bk with slots:=fun e he kv hkv=>?_,names:=fun e he=>?_,ndk:=fun e he=>?_ }
  ·rcases List.mem_append.mp he with he | he
   ·exact bk.slots e he kv hkv
   ·cases List.mem_singleton.mp he
    cases List.mem_singleton.mp hkv
    exact ⟨hk,n,rfl,n0,n1⟩
  ·rcases List.mem_append.mp he with he | he
   ·exact bk.names e he
   ·cases List.mem_singleton.mp he; exact hf
  ·rcases List.mem_append.mp he with he | he
   ·exact bk.ndk e he
   ·cases List.mem_singleton.mp he; exact List.pairwise_singleton _ _
theorem Bk.len {f:Int} {b:Bd} (bk:Bk f b):∀ e ∈ b.fl,e.2.2.length <= 24:=fun e he=>by
 have:(e.2.2.map (·.1)).length <= (allS f).length:=(bk.ndk e he).length_le_of_subset fun k hk=>by
  obtain ⟨kv,hkv,rfl⟩:=List.mem_map.mp hk
  exact ze2 (bk.slots e he kv hkv).1
 rw [List.length_map,yr7] at this
 exact this
theorem Bk.few {f:Int} {b:Bd} (bk:Bk f b) (nd:b.Nd):b.fl.length <= 3:=by
 have:(b.fl.map (·.1)).length <= [f1T,f2T,f3T].length:=nd.names.length_le_of_subset fun n hn=>by
  obtain ⟨e,he,rfl⟩:=List.mem_map.mp hn
  rcases bk.names e he with h | h | h <;> rw [h] <;> simp
 rw [List.length_map] at this
 exact this
theorem sum_le {α:Type} {g:α -> Nat} {m:Nat}:∀ {l:List α},(∀ e ∈ l,g e <= m) -> (l.map g).sum <= l.length * m
 | [],_=>by simp
 | a :: r,h=>by
  have:=sum_le (l:=r) fun e he=>h e (List.mem_cons_of_mem _ he)
  have:=h a (List.mem_cons_self ..)
  rw [List.map_cons,List.sum_cons,List.length_cons,Nat.succ_mul]
  omega
theorem Bk.fewS {f:Int} {b:Bd} (bk:Bk f b) (nd:b.Nd):FewS b []:=by
 refine ⟨?_,allS f,by rw [yr7]; decide,fun k hk=>?_⟩
 ·have:=sum_le (g:=fun e:Str × Addr × List (List Key × V)=>e.2.2.length) bk.len
  have l3:=bk.few nd
  have:b.fl.length * 24 <= 3 * 24:=Nat.mul_le_mul_right _ l3
  show 0 + yw3 b <= 900
  unfold yw3
  omega
 ·rcases hk with h | ⟨e,he,h⟩
  ·simp at h
  ·obtain ⟨kv,hkv,rfl⟩:=List.mem_map.mp h
   exact ze2 (bk.slots e he kv hkv).1
theorem Bk.good {f:Int} {b:Bd} (bk:Bk f b) (nd:b.Nd):b.Good:=by
 obtain ⟨o1,o2,o3,_,_,_,_,_,_,e⟩:=bk.lv
 refine ⟨⟨Nat.le_trans (bk.few nd) (by decide),fun x hx=>⟨fun kv hk=>(bk.slots x hx kv hk).2,Nat.le_trans (bk.len x hx) (by decide)⟩,?_⟩,⟨?_,?_⟩,⟨?_,?_,?_⟩,fun x hx kv hk=>?_⟩
 ·rw [e]; intro kv hk
  simp only [List.mem_cons,List.not_mem_nil,or_false] at hk
  rcases hk with rfl | rfl | rfl <;> exact ⟨_,rfl,by decide,by decide⟩
 ·rw [e]; intro kv hk
  simp only [List.mem_cons,List.not_mem_nil,or_false] at hk
  rcases hk with rfl | rfl | rfl <;> exact ⟨_,rfl⟩
 ·rw [e]; show 3 <= 10; decide
 ·rw [bk.dn]; intro kv hk; cases hk
 ·rw [bk.dn]; decide
 ·rw [bk.dn]; intro kv hk; cases hk
 ·obtain ⟨j,s,_,_,q⟩:=(bk.slots x hx kv hk).1
  exact ⟨_,s,q⟩
def dueN (b:Bd) (l s:Str):List Str -> Int -> Int
 | [],acc=>acc
 | fd :: r,acc=>dueN b l s r (if (valV (xa8 b fd) (xb1 l s)).isSome = true then (if isBr s = true then (if acc < nI (xa8 b fd) (xb1 l s) then nI (xa8 b fd) (xb1 l s) else acc) else nI (xa8 b fd) (xb1 l s)) else acc)
theorem xq1 {f:Int} {b:Bd} (bk:Bk f b) (g:Str):Nums 1000000000 (xa8 b g):=by
 unfold xa8
 cases e:b.fl.find? fun e=>decide (e.1 = g) with
 | none=>intro kv h; cases h
 | some a=>exact fun kv h=>(bk.slots a (List.mem_of_find?_eq_some e) kv h).2
theorem ym3 {kvs:List (List Key × V)} {k:List Key} (h:¬ (valV kvs k).isSome = true):nI kvs k = 0:=by
 unfold nI
 cases e:valV kvs k with
 | none=>rfl
 | some v=>rw [e] at h; exact absurd rfl h
theorem in_some {b:Bd} {k:List Key} {fd:Str} (h:(valV (xa8 b fd) k).isSome = true):InSl b [] k:=by
 have:=zb6 h
 obtain ⟨e,he,q,_,q2⟩:=yo4 this
 rw [q2,<- xi9] at h
 obtain ⟨kv,hk,z⟩:=List.any_eq_true.mp h
 exact .inr ⟨e,he,List.mem_map.mpr ⟨kv,hk,of_decide_eq_true z⟩⟩
theorem fdr_ne {f:Str} (h:Fdr f):¬ f = Str.ofString "":=by
 rcases h with rfl | rfl | rfl <;> decide +kernel
theorem xm7 {f:Str} (h:Fdr f):xl2 f = true:=by
 rcases h with rfl | rfl | rfl <;> decide +kernel
structure Ord3 (b:Bd) (o1 o2 o3:Str):Prop where
 h1:Fdr o1
 h2:Fdr o2
 h3:Fdr o3
 all:∀ f,Fdr f -> f = o1 \/ f = o2 \/ f = o3
 lv:b.lv = [(.inr o1,.int 1000),(.inr o2,.int 1000),(.inr o3,.int 1000)]
theorem lev3 {b:Bd} {o1 o2 o3 f:Str} (o:Ord3 b o1 o2 o3) (h:Fdr f):nI b.lv (.inr f:Key) = 1000:=by
 unfold nI
 rw [o.lv]
 rcases o.all f h with rfl | rfl | rfl
 ·rw [xc3 rfl]; rfl
 ·by_cases c:(Sum.inr o1:Key) = .inr f
  ·rw [xc3 c]; rfl
  ·rw [xc5 c,xc3 rfl]; rfl
 ·by_cases c:(Sum.inr o1:Key) = .inr f
  ·rw [xc3 c]; rfl
  ·rw [xc5 c]
   by_cases c2:(Sum.inr o2:Key) = .inr f
   ·rw [xc3 c2]; rfl
   ·rw [xc5 c2,xc3 rfl]; rfl
theorem yz2 {b:Bd} {o1 o2 o3 f l s:Str} (o:Ord3 b o1 o2 o3) (h:Fdr f):numF b [] l s f = nI (xa8 b f) (xb1 l s):=by
 unfold numF
 rw [if_neg (fdr_ne h),lev3 o h]
 split <;> omega
theorem due_mix {fm:Int} {b:Bd} {o1 o2 o3 l s:Str} {kvs:List (List Key × V)} (bk:Bk fm b) (nd:b.Nd) (o:Ord3 b o1 o2 o3) (m:Mix b [] kvs):(valV kvs (xb1 l s)).getD (.int 0) = .int (dueN b l s [o1,o2,o3] 0):=by
 obtain ⟨_,a1,_⟩:=(xq1 bk o1).at (by decide) (xb1 l s)
 obtain ⟨_,a2,_⟩:=(xq1 bk o2).at (by decide) (xb1 l s)
 obtain ⟨_,a3,_⟩:=(xq1 bk o3).at (by decide) (xb1 l s)
 have z1:=ym3 (kvs:=xa8 b o1) (k:=xb1 l s)
 have z2:=ym3 (kvs:=xa8 b o2) (k:=xb1 l s)
 have z3:=ym3 (kvs:=xa8 b o3) (k:=xb1 l s)
 by_cases ins:InSl b [] (xb1 l s)
 ·obtain ⟨n,⟨w,hw,hn⟩,e⟩:=m.has l s ins
  have key:n = dueN b l s [o1,o2,o3] 0:=by
   unfold Win at hw
   cases y:isBr s with
   | true =>
    rw [y] at hw hn
    rw [if_pos rfl] at hw hn
    obtain ⟨mm,hm,e1⟩:=hn
    have m0:mm = 0:=hm.none (by unfold downs; rw [bk.dn]; rfl)
    have e2:n = numF b [] l s w:=by rw [e1,m0]; omega
    have n0:numF b [] l s (Str.ofString "") = 0:=by unfold numF; rw [if_pos rfl]; rfl
    have le:∀ f,Fdr f -> nI (xa8 b f) (xb1 l s) <= numF b [] l s w:=fun f hf=>by
     by_cases c:∃ e ∈ b.fl,e.1 = f
     ·obtain ⟨e,he,rfl⟩:=c
      have:=hw.all e he
      rwa [yz2 o hf] at this
     ·have:nI (xa8 b f) (xb1 l s) = 0:=by rw [(ye7 c).2]; rfl
      have:=hw.own
      omega
    have b1:=le o1 o.h1
    have b2:=le o2 o.h2
    have b3:=le o3 o.h3
    have at_:numF b [] l s w = 0 \/ numF b [] l s w = nI (xa8 b o1) (xb1 l s) \/ numF b [] l s w = nI (xa8 b o2) (xb1 l s) \/ numF b [] l s w = nI (xa8 b o3) (xb1 l s):=by
     rcases hw.some with rfl | ⟨e,he,rfl⟩
     ·exact .inl n0
     ·have hf:=bk.names e he
      rw [yz2 o hf]
      rcases o.all _ hf with q | q | q
      ·exact .inr (.inl (by rw [q]))
      ·exact .inr (.inr (.inl (by rw [q])))
      ·exact .inr (.inr (.inr (by rw [q])))
    rw [e2]
    unfold dueN; unfold dueN; unfold dueN; unfold dueN
    rw [y]
    simp only [if_true]
    generalize numF b [] l s w = N at *
    generalize nI (xa8 b o1) (xb1 l s) = w1 at *
    generalize nI (xa8 b o2) (xb1 l s) = w2 at *
    generalize nI (xa8 b o3) (xb1 l s) = w3 at *
    by_cases c1:(valV (xa8 b o1) (xb1 l s)).isSome = true <;> by_cases c2:(valV (xa8 b o2) (xb1 l s)).isSome = true <;> by_cases c3:(valV (xa8 b o3) (xb1 l s)).isSome = true <;> simp only [c1,c2,c3,if_true,if_false] <;> (try have z1:=z1 c1) <;> (try have z2:=z2 c2) <;> (try have z3:=z3 c3) <;> (repeat' split) <;> omega
   | false =>
    rw [y] at hw hn
    rw [if_neg Bool.false_ne_true] at hw hn
    have ek:(keysOf b.lv).reverse = [o3,o2,o1]:=by rw [o.lv]; rfl
    have q1:∀ f,Fdr f -> (decide (0 < nI b.lv (.inr f:Key)) && (valV (xa8 b f) (xb1 l s)).isSome) = (valV (xa8 b f) (xb1 l s)).isSome:=fun f hf=>by rw [lev3 o hf]; rfl
    unfold winN at hw
    rw [ek,List.find?_cons,List.find?_cons,List.find?_cons,q1 _ o.h1,q1 _ o.h2,q1 _ o.h3] at hw
    unfold dueN; unfold dueN; unfold dueN; unfold dueN
    rw [y]
    simp only [Bool.false_eq_true,if_false]
    cases c3:(valV (xa8 b o3) (xb1 l s)).isSome with
    | true=>rw [c3] at hw; rw [hn,show w = o3 from hw,yz2 o o.h3,if_pos rfl]
    | false =>
     rw [c3] at hw
     rw [if_neg Bool.false_ne_true]
     cases c2:(valV (xa8 b o2) (xb1 l s)).isSome with
     | true=>rw [c2] at hw; rw [hn,show w = o2 from hw,yz2 o o.h2,if_pos rfl]
     | false =>
      rw [c2] at hw
      rw [if_neg Bool.false_ne_true]
      cases c1:(valV (xa8 b o1) (xb1 l s)).isSome with
      | true=>rw [c1] at hw; rw [hn,show w = o1 from hw,yz2 o o.h1,if_pos rfl]
      | false =>
       rw [c1] at hw
       rw [if_neg Bool.false_ne_true,hn,show w = Str.ofString "" from hw]
       unfold numF; rw [if_pos rfl]; rfl
  rw [e]
  have nn:0 <= dueN b l s [o1,o2,o3] 0:=by
   unfold dueN; unfold dueN; unfold dueN; unfold dueN
   repeat' split
   all_goals omega
  by_cases c:0 < n
  ·rw [if_pos c,key]; rfl
  ·rw [if_neg c]
   show V.int 0 = _
   rw [<- key]
   congr 1
   omega
 ·have no:∀ f,¬ (valV (xa8 b f) (xb1 l s)).isSome = true:=fun f h=>ins (in_some h)
  rw [m.no _ ins]
  unfold dueN; unfold dueN; unfold dueN; unfold dueN
  rw [if_neg (no o1),if_neg (no o2),if_neg (no o3)]
  rfl
def Kp (H H':Hp):Prop:=∀ a o,H a = some o -> (∀ z,o ≠ .dK z) -> (∀ z,o ≠ .dT z) -> H' a = some o
theorem Kp.refl (H:Hp):Kp H H:=fun _ _ e _ _=>e
theorem Kp.trans {H1 H2 H3:Hp} (h:Kp H1 H2) (h':Kp H2 H3):Kp H1 H3:=fun a o e n1 n2=>h' a o (h a o e n1 n2) n1 n2
theorem Kp.same {H1 H2:Hp} (h:Same H1 H2):Kp H1 H2:=fun a o e _ _=>h a o e
theorem Kp.seq {K:Frag} {H H':Hp} {a:Addr} {xs:List V} (k:Kp H H') (h:SqL K H a xs):SqL K H' a xs:=by
 rcases h with (h | ⟨o,h⟩) | h
 ·exact .inl (.inl (k _ _ h (fun _ z=>nomatch z) (fun _ z=>nomatch z)))
 ·exact .inl (.inr ⟨o,k _ _ h (fun _ z=>nomatch z) (fun _ z=>nomatch z)⟩)
 ·exact .inr h
theorem Kp.lst {H H':Hp} {a:Addr} {xs:List V} (k:Kp H H') (h:H a = some (.lst xs)):H' a = some (.lst xs):=k _ _ h (fun _ z=>nomatch z) (fun _ z=>nomatch z)
theorem Kp.tup {H H':Hp} {a:Addr} {xs:List V} (k:Kp H H') (h:H a = some (.tup xs)):H' a = some (.tup xs):=k _ _ h (fun _ z=>nomatch z) (fun _ z=>nomatch z)
theorem ye4 {A:Adr} {H H':Hp} {x:Addr} {b:Bd} (hb:BoardAt A H x b) (st:∀ a o,a ≠ b.F -> (∀ e ∈ b.fl,a ≠ e.2.1) -> H a = some o -> H' a = some o):Kp H H':=fun a o e n1 n2 =>
 st a o (fun z=>by rw [z,hb.fill] at e; cases e; exact n1 _ rfl) (fun e' he z=>by rw [z,hb.inner e' he] at e; cases e; exact n2 _ rfl) e
theorem yz9 {H H':Hp} {d:Addr} {kvs:List (Key × V)} (hd:H d = some (.dK kvs)) (st:∀ a o,a ≠ d -> H a = some o -> H' a = some o):Kp H H':=fun a o e n1 _=>st a o (fun z=>by rw [z,hd] at e; cases e; exact n1 _ rfl) e
theorem kp_dT {H H':Hp} {d:Addr} {kvs:List (List Key × V)} (hd:H d = some (.dT kvs)) (st:∀ a o,a ≠ d -> H a = some o -> H' a = some o):Kp H H':=fun a o e _ n2=>st a o (fun z=>by rw [z,hd] at e; cases e; exact n2 _ rfl) e
theorem BoardAt.updT {A:Adr} {H:Hp} {x d:Addr} {b:Bd} {kvs w:List (List Key × V)} (hb:BoardAt A H x b) (hd:H d = some (.dT kvs)) (di:∀ e ∈ b.fl,e.2.1 ≠ d) (dS:b.S ≠ d):BoardAt A (upd H d (.dT w)) x b:=by
 have ne:∀ {a:Addr} {o:HO},H a = some o -> (∀ z,o ≠ .dT z) -> (upd H d (.dT w)) a = some o:=fun {a o} e h=>by
  rw [xa3 (fun z=>by rw [z,hd] at e; cases e; exact h _ rfl)]; exact e
 exact ⟨hb.obj.imp fun _ e=>ne e (fun _ z=>nomatch z),ne hb.fill (fun _ z=>nomatch z),fun e he=>by rw [xa3 (di e he)]; exact hb.inner e he,ne hb.lev (fun _ z=>nomatch z),ne hb.grp (fun _ z=>nomatch z),fun e he=>ne (hb.lst e he) (fun _ z=>nomatch z),ne hb.dwn (fun _ z=>nomatch z),by rw [xa3 dS]; exact hb.spr⟩
theorem BoardAt.updK {A:Adr} {H:Hp} {x d:Addr} {b:Bd} {kvs w:List (Key × V)} (hb:BoardAt A H x b) (hd:H d = some (.dK kvs)) (nF:b.F ≠ d) (nL:b.L ≠ d) (nG:b.G ≠ d) (nD:b.D ≠ d):BoardAt A (upd H d (.dK w)) x b:=by
 have ne:∀ {a:Addr} {o:HO},H a = some o -> (∀ z,o ≠ .dK z) -> (upd H d (.dK w)) a = some o:=fun {a o} e h=>by
  rw [xa3 (fun z=>by rw [z,hd] at e; cases e; exact h _ rfl)]; exact e
 exact ⟨hb.obj.imp fun _ e=>ne e (fun _ z=>nomatch z),by rw [xa3 nF]; exact hb.fill,fun e he=>ne (hb.inner e he) (fun _ z=>nomatch z),by rw [xa3 nL]; exact hb.lev,by rw [xa3 nG]; exact hb.grp,fun e he=>ne (hb.lst e he) (fun _ z=>nomatch z),by rw [xa3 nD]; exact hb.dwn,ne hb.spr (fun _ z=>nomatch z)⟩
theorem BoardAt.updL {A:Adr} {H:Hp} {x d:Addr} {b:Bd} {ys w:List V} (hb:BoardAt A H x b) (hd:H d = some (.lst ys)) (ng:∀ e ∈ b.gr,e.2.1 ≠ d):BoardAt A (upd H d (.lst w)) x b:=by
 have ne:∀ {a:Addr} {o:HO},H a = some o -> (∀ z,o ≠ .lst z) -> (upd H d (.lst w)) a = some o:=fun {a o} e h=>by
  rw [xa3 (fun z=>by rw [z,hd] at e; cases e; exact h _ rfl)]; exact e
 exact ⟨hb.obj.imp fun _ e=>ne e (fun _ z=>nomatch z),ne hb.fill (fun _ z=>nomatch z),fun e he=>ne (hb.inner e he) (fun _ z=>nomatch z),ne hb.lev (fun _ z=>nomatch z),ne hb.grp (fun _ z=>nomatch z),fun e he=>by rw [xa3 (ng e he)]; exact hb.lst e he,ne hb.dwn (fun _ z=>nomatch z),ne hb.spr (fun _ z=>nomatch z)⟩
abbrev yu6 (d:Str -> Addr):List (Key × V):=[(.inr f1T,.ref (d f1T)),(.inr f2T,.ref (d f2T)),(.inr f3T,.ref (d f3T))]
theorem yn0 {d:Str -> Addr} {f:Str} (h:Fdr f):valV (yu6 d) (.inr f) = some (.ref (d f)):=by
 rcases h with rfl | rfl | rfl
 ·exact xc3 rfl
 ·rw [xc5 (fun z=>absurd (Sum.inr.inj z) (by decide +kernel))]; exact xc3 rfl
 ·rw [xc5 (fun z=>absurd (Sum.inr.inj z) (by decide +kernel)),xc5 (fun z=>absurd (Sum.inr.inj z) (by decide +kernel))]; exact xc3 rfl
structure W6 (A:Adr) (H:Hp) (fm:Int) (x:Addr) (b:Bd) (GD:Addr) (lg:List (Str × Addr × List Str)) (HD:Addr) (d:Str -> Addr) (c:Str -> List (List Key × V)):Prop where
 bd:BoardAt A H x b
 nd:b.Nd
 bk:Bk fm b
 grd:H GD = some (.dK (lg.map fun e=>((.inr e.1:Key),V.ref e.2.1)))
 grl:∀ e ∈ lg,H e.2.1 = some (.lst (e.2.2.map V.str))
 hld:H HD = some (.dK (yu6 d))
 hd:∀ f,Fdr f -> H (d f) = some (.dT (c f))
 inj:∀ f g,Fdr f -> Fdr g -> d f = d g -> f = g
 dS:∀ f,Fdr f -> b.S ≠ d f
 di:∀ f,Fdr f -> ∀ e ∈ b.fl,e.2.1 ≠ d f
 gF:b.F ≠ GD
 gL:b.L ≠ GD
 gG:b.G ≠ GD
 gD:b.D ≠ GD
 gH:HD ≠ GD
 hF:b.F ≠ HD
 hL:b.L ≠ HD
 hG:b.G ≠ HD
 hD:b.D ≠ HD
theorem W6.keep {A:Adr} {H H':Hp} {fm:Int} {x GD HD:Addr} {b:Bd} {lg:List (Str × Addr × List Str)} {d:Str -> Addr} {c:Str -> List (List Key × V)} (w:W6 A H fm x b GD lg HD d c) (s:Same H H'):W6 A H' fm x b GD lg HD d c :=
 { w with bd:=w.bd.keep s,grd:=s _ _ w.grd,grl:=fun e he=>s _ _ (w.grl e he),hld:=s _ _ w.hld,hd:=fun f hf=>s _ _ (w.hd f hf) }
theorem W6.put {A:Adr} {H:Hp} {fm:Int} {x GD HD:Addr} {b:Bd} {lg:List (Str × Addr × List Str)} {d:Str -> Addr} {c:Str -> List (List Key × V)} (w:W6 A H fm x b GD lg HD d c) {f:Str} (hf:Fdr f) (v:List (List Key × V)):W6 A (upd H (d f) (.dT v)) fm x b GD lg HD d (fun g=>if g = f then v else c g):=by
 have ne:∀ {a:Addr} {o:HO},H a = some o -> (∀ z,o ≠ .dT z) -> (upd H (d f) (.dT v)) a = some o:=fun {a o} e h=>by
  rw [xa3 (fun z=>by rw [z,w.hd f hf] at e; cases e; exact h _ rfl)]; exact e
 refine { w with bd:=w.bd.updT (w.hd f hf) (w.di f hf) (w.dS f hf),grd:=ne w.grd (fun _ z=>nomatch z),grl:=fun e he=>ne (w.grl e he) (fun _ z=>nomatch z),hld:=ne w.hld (fun _ z=>nomatch z),hd:=fun g hg=>?_ }
 by_cases q:g = f
 ·subst q; rw [xa1,if_pos rfl]
 ·rw [xa3 (fun z=>q (w.inj g f hg hf z)),if_neg q]; exact w.hd g hg
theorem W6.eqc {A:Adr} {H:Hp} {fm:Int} {x GD HD:Addr} {b:Bd} {lg:List (Str × Addr × List Str)} {d:Str -> Addr} {c c':Str -> List (List Key × V)} (w:W6 A H fm x b GD lg HD d c) (h:∀ f,Fdr f -> c f = c' f):W6 A H fm x b GD lg HD d c' :=
 { w with hd:=fun f hf=>by rw [<- h f hf]; exact w.hd f hf }
theorem W6.fill {A:Adr} {H H':Hp} {fm:Int} {x GD HD:Addr} {b b':Bd} {lg:List (Str × Addr × List Str)} {d:Str -> Addr} {c:Str -> List (List Key × V)} (w:W6 A H fm x b GD lg HD d c) (hb:BoardAt A H' x b') (nd:b'.Nd) (bk:Bk fm b')
  (eF:b'.F = b.F) (eL:b'.L = b.L) (eG:b'.G = b.G) (eD:b'.D = b.D) (eS:b'.S = b.S) (st:∀ a o,a ≠ b.F -> (∀ e ∈ b.fl,a ≠ e.2.1) -> H a = some o -> H' a = some o) (ad:∀ e ∈ b'.fl,(∃ e' ∈ b.fl,e.2.1 = e'.2.1) \/ H e.2.1 = none):W6 A H' fm x b' GD lg HD d c:=by
 have nI:∀ {a:Addr} {o:HO},H a = some o -> (∀ z,o ≠ .dT z) -> ∀ e ∈ b.fl,a ≠ e.2.1:=fun {a o} e h e' he z=>by rw [z,w.bd.inner e' he] at e; cases e; exact h _ rfl
 have nF:∀ {a:Addr} {o:HO},H a = some o -> (∀ z,o ≠ .dK z) -> a ≠ b.F:=fun {a o} e h z=>by rw [z,w.bd.fill] at e; cases e; exact h _ rfl
 refine { w with bd:=hb,nd:=nd,bk:=bk,grd:=st _ _ (Ne.symm w.gF) (nI w.grd (fun _ z=>nomatch z)) w.grd,grl:=fun e he=>st _ _ (nF (w.grl e he) (fun _ z=>nomatch z)) (nI (w.grl e he) (fun _ z=>nomatch z)) (w.grl e he),hld:=st _ _ (Ne.symm w.hF) (nI w.hld (fun _ z=>nomatch z)) w.hld,hd:=fun f hf=>st _ _ (nF (w.hd f hf) (fun _ z=>nomatch z)) (fun e he z=>w.di f hf e he z.symm) (w.hd f hf),dS:=fun f hf=>by rw [eS]; exact w.dS f hf,di:=fun f hf e he z=>?_,gF:=by rw [eF]; exact w.gF,gL:=by rw [eL]; exact w.gL,gG:=by rw [eG]; exact w.gG,gD:=by rw [eD]; exact w.gD,hF:=by rw [eF]; exact w.hF,hL:=by rw [eL]; exact w.hL,hG:=by rw [eG]; exact w.hG,hD:=by rw [eD]; exact w.hD }
 rcases ad e he with ⟨e',he',q⟩ | q
 ·exact w.di f hf e' he' (by rw [<- q,z])
 ·rw [z,w.hd f hf] at q; cases q
theorem yj4 {f s z:Str} {n:Int} {b b':Bd} {H:Hp} (h:(∃ e ∈ b.fl,e.1 = f) /\ b' = { b with fl:=xl3 b.fl f (xb1 z s) (.int n) } \/ (¬ ∃ e ∈ b.fl,e.1 = f) /\ ∃ p,H p = none /\ b' = { b with fl:=b.fl ++ [(f,p,[(xb1 z s,.int n)])] }):∀ e ∈ b'.fl,(∃ e' ∈ b.fl,e.2.1 = e'.2.1) \/ H e.2.1 = none:=fun e he=>by
 rcases h with ⟨_,rfl⟩ | ⟨_,p,hp,rfl⟩
 ·obtain ⟨e0,h0,rfl⟩:=List.mem_map.mp he
  exact .inl ⟨e0,h0,by split <;> rfl⟩
 ·rcases List.mem_append.mp he with he | he
  ·exact .inl ⟨e,he,rfl⟩
  ·cases List.mem_singleton.mp he; exact .inr hp
def xs8 (s:Str) (n:Int) (kvs:List (List Key × V)) (zs:List Str):List (List Key × V):=zs.foldl (fun acc z=>putK acc (xb1 z s) (.int n)) kvs
theorem xv0 (s:Str) (n:Int) (kvs:List (List Key × V)) (zs:List Str) (z:Str):xs8 s n kvs (zs ++ [z]) = putK (xs8 s n kvs zs) (xb1 z s) (.int n):=by
 unfold xs8; rw [List.foldl_append]; rfl
structure FillsP (f s:Str) (n:Int) (zs:List Str) (b b':Bd):Prop where
 full:∀ g,xa8 b' g = if g = f then xs8 s n (xa8 b f) zs else xa8 b g
 F:b'.F = b.F
 L:b'.L = b.L
 G:b'.G = b.G
 D:b'.D = b.D
 S:b'.S = b.S
 lv:b'.lv = b.lv
 gr:b'.gr = b.gr
theorem fills_p {f s:Str} {n fm:Int} {b b':Bd} {zs:List Str} (h:FillTo f s n b zs b') (hf:Fdr f) (bk:Bk fm b) (hz:∀ z ∈ zs,ze4 fm (xb1 z s)) (n0:0 <= n) (n1:n <= 1000000000):FillsP f s n zs b b' /\ Bk fm b':=by
 induction h with
 | nil =>
  refine ⟨⟨fun g=>?_,rfl,rfl,rfl,rfl,rfl,rfl,rfl⟩,bk⟩
  by_cases c:g = f
  ·rw [if_pos c,c]; rfl
  ·rw [if_neg c]
 | snoc h1 h2 ih =>
  obtain ⟨p,bk1⟩:=ih fun z hz'=>hz z (List.mem_append_left _ hz')
  have q:=yq7 h2
  refine ⟨⟨fun g=>?_,q.F.trans p.F,q.L.trans p.L,q.G.trans p.G,q.D.trans p.D,q.S.trans p.S,q.lv.trans p.lv,q.gr.trans p.gr⟩,xx3 h2 bk1 hf (hz _ (List.mem_append_right _ (List.mem_singleton.mpr rfl))) n0 n1⟩
  rw [q.full g]
  by_cases c:g = f
  ·rw [if_pos c,if_pos c,p.full f,if_pos rfl,xv0]
  ·rw [if_neg c,if_neg c,p.full g,if_neg c]
def spUntold (K:Frag) (A:Adr):Sp:=fun vs H Q _=>∃ (x:Addr) (b:Bd) (f g:Str) (y t:V),vs = [.ref x,.str f,.str g,y,t] /\ BoardAt A H x b /\ xl2 f = true /\ xl2 g = true /\ (¬ ∃ e ∈ b.gr,e.1 = g) /\ ∀ H',Same H H' -> Q (.bl true) H'
theorem yd7 (T:Txt K mg A):FnOk P w K mg base (CXE P w) 6 A.eq2 A.er2 ["_law_board","_law_fader","_law_name_here","_law_side","_law_worth_here"] (spUntold K A):=by
 have G_Board_fill_group:=xk3 (P:=P) (w:=w) (base:=base) T
 refine T.ey3.okN xj0 (fun vs H Q E h=>?_) (fun cdv Ar outer s H vs Q E hr h=>?_)
 ·obtain ⟨x,b,f,g,y,t,rfl,hb,hf,hg,no,k⟩:=h
  rfl
 ·obtain ⟨x,b,f,g,y,t,rfl,hb,hf,hg,no,k⟩:=h
  refine ⟨_,(xa4 (xd8 (i:=5) xj0.nd rfl (Or.inl rfl) pe_non)
   (xa4 (ps_try (i:=6) K rfl rfl rfl (pb_expr (px_meth rfl (fun _=>(pv 0)) T.en4 T.eh2 G_Board_fill_group (hr.mono (by decide)) T.eg2 .nil (fun _=>(xa0 (pv 1) (xa0 (pv 2) (xa0 (pv 3) (xa0 (pv 4) xa6))))))) (by rfl) T.eu4 xj0.nd rfl rfl (fun _=>(xa5 (xd8 (i:=5) xj0.nd rfl (Or.inl rfl) (pv 6)))))
   (xa5 (xb7 (xc0 (call_isx K) (by rfl) T.ew5 xb5 (xa0 (pv 5) (xa0 (yd3 (v:=V.ref _) (by rfl) T.ex4 rfl) xa6))))))),?_⟩
  obtain ⟨dx,hx⟩:=hb.obj
  refine xa7 (fun σ' H'=>σ' = [some (.ref x),some (.str f),some (.str g),some y,some t,some .non,none] /\ H' = H) (fun N hN=>hN _ _ ⟨rfl,rfl⟩) ?_
  rintro σ0 H0 ⟨rfl,rfl⟩
  refine xa7 (fun σ' H'=>∃ ea,σ' = [some (.ref x),some (.str f),some (.str g),some y,some t,some (.ref ea),none] /\ Same H0 H' /\ H' ea = some (excAt ea (.ref A.ee3) none)) (fun N hN=>?_) ?_
  ·exact ⟨_,rfl,x,dx,_,rfl,hx,rfl,_,rfl,_,rfl,_,rfl,_,rfl,x,_,_,_,_,rfl,.inr (.inr (.inr (.inl ⟨b,g,xn9 hf (lt1 hf),xn9 hg (lt1 hg),rfl,hb,no,fun G sG=>⟨T.eq5,fun ea hea=>⟨_,rfl,hN _ _ ⟨ea,rfl,sG.trans (Same.new hea),xa1⟩⟩⟩⟩)))⟩
  rintro σ1 H1 ⟨ea,rfl,s1,fe⟩
  exact ⟨_,rfl,_,_,_,_,_,rfl,fe,T.ep5,rfl,(fun _ z=>z),T.ev5,k _ s1⟩
structure GrE (lg gr:List (Str × Addr × List Str)):Prop where
 eq:(lg.map fun e=>(e.1,e.2.2)) = gr.map fun e=>(e.1,e.2.2)
 nd:(gr.map (·.1)).Nodup
theorem ya9 {α β:Type} {l:List α} {g:α -> β} (h:(l.map g).Nodup) {x y:α} (hx:x ∈ l) (hy:y ∈ l) (e:g x = g y):x = y:=by
 obtain ⟨i,hi⟩:=List.mem_iff_getElem?.mp hx
 obtain ⟨j,hj⟩:=List.mem_iff_getElem?.mp hy
 have li:=(List.getElem?_eq_some_iff.mp hi).1
 have lj:=(List.getElem?_eq_some_iff.mp hj).1
 have ei:=(List.getElem?_eq_some_iff.mp hi).2
 have ej:=(List.getElem?_eq_some_iff.mp hj).2
 have p1:=List.pairwise_iff_getElem.mp h
 rcases Nat.lt_trichotomy i j with c | c | c
 ·exact absurd (by rw [List.getElem_map,List.getElem_map,ei,ej,e]) (p1 i j (by rw [List.length_map]; exact li) (by rw [List.length_map]; exact lj) c)
 ·subst c; rw [ei] at ej; exact ej
 ·exact absurd (by rw [List.getElem_map,List.getElem_map,ei,ej,e]) (p1 j i (by rw [List.length_map]; exact lj) (by rw [List.length_map]; exact li) c)
theorem GrE.same {lg gr:List (Str × Addr × List Str)} (h:GrE lg gr) {e e':Str × Addr × List Str} (he:e ∈ lg) (he':e' ∈ gr) (q:e.1 = e'.1):e.2.2 = e'.2.2:=by
 have:(e.1,e.2.2) ∈ gr.map fun e=>(e.1,e.2.2):=by rw [<- h.eq]; exact List.mem_map.mpr ⟨e,he,rfl⟩
 obtain ⟨x,hx,z⟩:=List.mem_map.mp this
 have z1:x.1 = e.1:=by injection z
 have z2:x.2.2 = e.2.2:=by injection z
 have:=ya9 h.nd hx he' (by rw [z1,q])
 rw [<- z2,this]
theorem GrE.has {lg gr:List (Str × Addr × List Str)} (h:GrE lg gr) {g:Str}:(∃ e ∈ lg,e.1 = g) ↔ ∃ e ∈ gr,e.1 = g:=by
 have go:∀ {l1 l2:List (Str × Addr × List Str)},(l1.map fun e=>(e.1,e.2.2)) = (l2.map fun e=>(e.1,e.2.2)) -> (∃ e ∈ l1,e.1 = g) -> ∃ e ∈ l2,e.1 = g:=fun {l1 l2} q ⟨e,he,z⟩=>by
  have:(e.1,e.2.2) ∈ l2.map fun e=>(e.1,e.2.2):=by rw [<- q]; exact List.mem_map.mpr ⟨e,he,rfl⟩
  obtain ⟨x,hx,w⟩:=List.mem_map.mp this
  exact ⟨x,hx,by rw [<- z]; injection w⟩
 exact ⟨go h.eq,go h.eq.symm⟩
theorem yp2 (l:List (Str × Addr × List Str)) (g:Str) (p:Addr) (zs:List Str):(setG l g p zs).map (fun e=>(e.1,e.2.2)) = if ((l.map fun e=>(e.1,e.2.2)).any fun e=>decide (e.1 = g)) = true then (l.map fun e=>(e.1,e.2.2)).map (fun e=>if e.1 = g then (e.1,zs) else e) else (l.map fun e=>(e.1,e.2.2)) ++ [(g,zs)]:=by
 unfold setG
 rw [List.any_map]
 show List.map _ (if (l.any fun e=>decide (e.1 = g)) = true then _ else _) = if (l.any fun e=>decide (e.1 = g)) = true then _ else _
 split
 ·rw [List.map_map,List.map_map]
  refine List.map_congr_left fun e _=>?_
  show ((if e.1 = g then (e.1,p,zs) else e).1,(if e.1 = g then (e.1,p,zs) else e).2.2) = if e.1 = g then (e.1,zs) else (e.1,e.2.2)
  split <;> rfl
 ·rw [List.map_append]; rfl
theorem GrE.set {lg gr:List (Str × Addr × List Str)} (h:GrE lg gr) (g:Str) (p q:Addr) (zs:List Str):GrE (setG lg g p zs) (setG gr g q zs):=by
 refine ⟨by rw [yp2,yp2,h.eq],?_⟩
 unfold setG
 split
 ·have:(gr.map fun e=>if e.1 = g then (e.1,q,zs) else e).map (·.1) = gr.map (·.1):=by
   rw [List.map_map]
   refine List.map_congr_left fun e _=>?_
   show (if e.1 = g then (e.1,q,zs) else e).1 = e.1
   split <;> rfl
  rw [this]; exact h.nd
 ·rename_i c
  rw [List.map_append,List.nodup_append]
  refine ⟨h.nd,List.pairwise_singleton _ _,fun a ha b hb e=>?_⟩
  rw [List.map_cons,List.map_nil] at hb
  have eb:b = g:=List.mem_singleton.mp hb
  obtain ⟨x,hx,z⟩:=List.mem_map.mp ha
  exact c (List.any_eq_true.mpr ⟨x,hx,decide_eq_true (by rw [z,e,eb])⟩)
theorem side_in {s:Str} (h:s ∈ xk6):inV (.str s) yg7 = true:=by
 simp only [xk6,List.mem_cons,List.not_mem_nil,or_false] at h
 rcases h with rfl | rfl | rfl | rfl | rfl | rfl <;> decide +kernel
theorem sl_true {K:Frag} {H:Hp} {q:Addr} {l s:Str} (h:H q = some (.tup [.str l,.str s])) (hl:xl2 l = true) (hs:inV (.str s) yg7 = true):Sl K H (.ref q) true:=by
 have:=Sl.two (K:=K) q _ _ _ _ h (.str l (lt1 hl)) (.str s)
 rw [hl,hs] at this
 exact this
theorem lg_at {lg:List (Str × Addr × List Str)} {g:Str} (h:∃ e ∈ lg,e.1 = g):∃ e ∈ lg,e.1 = g /\ valV (lg.map fun e=>((.inr e.1:Key),V.ref e.2.1)) (.inr g) = some (.ref e.2.1):=gr_at (b:=⟨0,0,0,0,0,[],[],lg,[],[]⟩) h
theorem lg_none {lg:List (Str × Addr × List Str)} {g:Str} (h:¬ ∃ e ∈ lg,e.1 = g):valV (lg.map fun e=>((.inr e.1:Key),V.ref e.2.1)) (.inr g) = none:=zb5 (b:=⟨0,0,0,0,0,[],[],lg,[],[]⟩) h
theorem pick {xs:List V} {l:Nat} (hl:xs.length = l) (n m:Int) (h:(l:Int) = m) (h0:0 < m):∃ y,atI xs (n % m) = some y /\ xs[(n % m).toNat]? = some y:=by
 have m0:=Int.emod_nonneg n (show m ≠ 0 by omega)
 have m1:=Int.emod_lt_of_pos n h0
 obtain ⟨y,e⟩:∃ y,xs[(n % m).toNat]? = some y:=⟨_,List.getElem?_eq_getElem (by omega)⟩
 refine ⟨y,?_,e⟩
 have:=xp1 e
 rwa [Int.toNat_of_nonneg m0] at this
theorem Bk.fullLen {f:Int} {b:Bd} (bk:Bk f b) (g:Str):(xa8 b g).length <= 24:=by
 unfold xa8
 cases e:b.fl.find? fun e=>decide (e.1 = g) with
 | none=>show 0 <= 24; decide
 | some a=>exact bk.len a (List.mem_of_find?_eq_some e)
theorem ya3 (s:Str) (n:Int):∀ (kvs:List (List Key × V)) (zs:List Str),(xs8 s n kvs zs).length <= kvs.length + zs.length
 | kvs,[]=>Nat.le_refl _
 | kvs,z :: zs=>by
  have h1:=ya3 s n (putK kvs (xb1 z s) (.int n)) zs
  have h2:=xi4 kvs (xb1 z s) (.int n)
  show (xs8 s n (putK kvs (xb1 z s) (.int n)) zs).length <= _
  rw [List.length_cons]
  omega
def spDeed (K:Frag) (A:Adr):Sp:=fun vs H Q _=>∃ (x GD HD:Addr) (n fm:Int) (b:Bd) (lg:List (Str × Addr × List Str)) (d:Str -> Addr) (i:Nat),vs = [.ref x,.ref GD,.ref HD,.int n,.int fm] /\ 0 <= n /\ W6 A H fm x b GD lg HD d (xa8 b) /\ GrE lg b.gr /\ b.gr.length <= i /\ i <= 60 /\
 ∀ b' lg' H',W6 A H' fm x b' GD lg' HD d (xa8 b') -> GrE lg' b'.gr -> b'.gr.length <= i + 1 -> b'.lv = b.lv -> Kp H H' -> Q (.bl true) H'
theorem ym1 (T:Txt K mg A):FnOk P w K mg base (CXE P w) 7 A.es2 A.et2 ["_law_board","_law_groups","_law_held","_law_number","_law_form"] (spDeed K A):=by
 have G_Board_fill:=xp9 (P:=P) (w:=w) (base:=base) T
 have G_Board_fill_group:=xk3 (P:=P) (w:=w) (base:=base) T
 have G_Board_group:=xz6 (P:=P) (w:=w) (base:=base) T
 have G_law_lamps:=yi3 (P:=P) (w:=w) (base:=base) T
 have G_law_name:=xo7 (P:=P) (w:=w) (base:=base) T
 have G_law_untold:=yd7 (P:=P) (w:=w) (base:=base) T
 have G_law_worth:=yi0 (P:=P) (w:=w) (base:=base) T
 refine T.eb4.okN xe8 (fun vs H Q E h=>?_) (fun cdv Ar outer s H vs Q E hr h=>?_)
 ·obtain ⟨x,GD,HD,n,fm,b,lg,d,i,rfl,n0,w,ge,gi,i60,k⟩:=h
  rfl
 ·obtain ⟨x,GD,HD,n,fm,b,lg,d,i,rfl,n0,w,ge,gi,i60,k⟩:=h
  refine ⟨_,(xa4 (xd8 (i:=5) xe8.nd rfl (Or.inl rfl) (xb0 G_law_name (hr.mono (by decide)) (by rfl) T.eo3 T.em3.kp T.en3 .nil xb6 (xa0 (xc6 xg4 (xc6 xf8 (pv 3) xa9) xa9) (xa0 (xc6 yh9 (pv 4) xa9) xa6))))
   (xa4 (xd8 (i:=6) xe8.nd rfl (Or.inl rfl) (xr5 ix_lst (yd1 (xa0 xc9 (xa0 xc9 (xa0 xc9 xa6)))) (xc6 xg4 (xc6 xf8 (pv 3) xa9) xa9) (fun _ _=>rfl)))
   (xa4 (xd8 (i:=7) xe8.nd rfl (Or.inl rfl) (xr5 ix_lst (yd1 (xa0 xc9 (xa0 xc9 (xa0 xc9 (xa0 xc9 (xa0 xc9 (xa0 xc9 xa6))))))) (xc6 xg4 (xc6 xf8 (pv 3) xa9) xa9) (fun _ _=>rfl)))
   (xa4 (xd8 (i:=8) xe8.nd rfl (Or.inl rfl) (xb0 G_law_worth (hr.mono (by decide)) (by rfl) T.er3 T.ep3.kp T.eq3 .nil xb6 (xa0 (pv 3) xa6)))
   (xa4 (xg1 (xg0 yd6 (xc6 xg4 (pv 3) xa9) xa9 (xh6 _)) (xa4 (xd8 (i:=9) xe8.nd rfl (Or.inl rfl) (xb0 G_law_lamps (hr.mono (by decide)) (by rfl) T.ex3 T.ev3.kp T.ew3 .nil xb6 (xa0 (xc6 xf8 (pv 3) xa9) (xa0 (pv 4) xa6))))
   (xa4 (xn5 (hu1 hr) (pv 1) (pv 5) (xm3 (yb7 K) (by rfl) T.eb6 xm5 (xa0 (pv 9) xa6)) rfl)
   (xa4 (xd0 (xi3 (pv 0) T.en4 T.ee2 G_Board_group (hr.mono (by decide)) T.ed2 .nil xb6 (xa0 (pv 5) (xa0 (pv 9) xa6))))
   (xa5 (xd0 (pe_bm0K K PySem.F.plainAttrs_list PySem.F.slot_list_clear PySem.F.type_list_clear mt_clear (pv 9))))))) (xa5 (xg1 (xg0 yd6 (xc6 xg4 (pv 3) xa9) xa9 (xh6 _)) (xa4 (xd8 (i:=10) xe8.nd rfl (Or.inl rfl) (xv2 (xa0 (xb0 G_law_name (hr.mono (by decide)) (by rfl) T.eo3 T.em3.kp T.en3 .nil xb6 (xa0 (xc6 xg4 (xc6 xf8 (pv 3) xa9) xa9) (xa0 (pv 4) xa6))) (xa0 (pv 7) xa6))))
   (xa4 (xd0 (xi3 (pv 0) T.en4 T.eb2 G_Board_fill (hr.mono (by decide)) T.ea2 .nil xb6 (xa0 (pv 6) (xa0 (pv 10) (xa0 (pv 8) xa6)))))
   (xa5 (xn5 (hu1 hr) (xi7 (hu1 hr) (pv 2) (pv 6) (fun _ _=>rfl)) (pv 10) (pv 8) rfl)))) (xa5 (xg1 (ya4 (yy4 (hu1 hr) (pv 5) (pv 1))) (xa4 (xd0 (xi3 (pv 0) T.en4 T.eh2 G_Board_fill_group (hr.mono (by decide)) T.eg2 .nil xb6 (xa0 (pv 6) (xa0 (pv 5) (xa0 (pv 7) (xa0 (pv 8) xa6))))))
   (xa5 (xm2 PassesOwn.never rfl (xk8 K (xi7 (hu1 hr) (pv 1) (pv 5) (fun _ _=>rfl))) (xd5 (i:=11) xe8.nd rfl (Or.inl rfl)) (xa5 (xn5 (hu1 hr) (xi7 (hu1 hr) (pv 2) (pv 6) (fun _ _=>rfl)) (xv2 (xa0 (pv 11) (xa0 (pv 7) xa6))) (pv 8) rfl))))) (xa5 (xb7 (xb0 G_law_untold (hr.mono (by decide)) (by rfl) T.ea4 T.ey3.kp T.ez3 .nil xb6 (xa0 (pv 0) (xa0 (pv 6) (xa0 (pv 5) (xa0 (pv 7) (xa0 (pv 8) xa6)))))))))))))
   (xa5 (xb7 xv4))))))),?_⟩
  have m30:=Int.emod_nonneg (n / 4) (show (3:Int) ≠ 0 by decide)
  have m31:=Int.emod_lt_of_pos (n / 4) (show (0:Int) < 3 by decide)
  refine seq_cut4 (fun σ' G=>∃ g fd s wo,σ' = [some (.ref x),some (.ref GD),some (.ref HD),some (.int n),some (.int fm),some (.str g),some (.str fd),some (.str s),some (.int wo),none,none,none] /\ Same H G /\ xl2 g = true /\ Fdr fd /\ s ∈ xk6 /\ 0 <= wo /\ wo <= 1000000000) (fun N hN=>?_) ?_
  ·refine ⟨_,rfl,_,_,rfl,rfl,⟨by decide,by decide⟩,_,_,rfl,rfl,(by show (0:Int) < 3; decide),_,rfl,_,_,rfl,rfl,_,_,rfl,?_⟩
   refine ⟨(by show 3 <= 1000; decide),fun L hL=>?_⟩
   have s1:=Same.new (o:=HO.lst [V.str f1T,V.str f2T,V.str f3T]) hL
   have g1:(upd H L (HO.lst [V.str f1T,V.str f2T,V.str f3T])) L = some (HO.lst [V.str f1T,V.str f2T,V.str f3T]):=xa1
   generalize upd H L (HO.lst [V.str f1T,V.str f2T,V.str f3T]) = G1 at s1 g1 ⊢
   obtain ⟨y,hy,ey⟩:=pick (xs:=[V.str f1T,V.str f2T,V.str f3T]) (l:=3) rfl (n / 12) 3 rfl (by decide)
   obtain ⟨fd,rfl,hfd⟩:∃ fd,y = .str fd /\ Fdr fd:=by
    have:=List.mem_of_getElem? ey
    simp only [List.mem_cons,List.not_mem_nil,or_false] at this
    rcases this with rfl | rfl | rfl
    ·exact ⟨_,rfl,.inl rfl⟩
    ·exact ⟨_,rfl,.inr (.inl rfl)⟩
    ·exact ⟨_,rfl,.inr (.inr rfl)⟩
   refine ⟨_,rfl,_,_,rfl,rfl,⟨by decide,by decide⟩,_,_,rfl,rfl,(by show (0:Int) < 3; decide),_,_,_,_,rfl,rfl,g1,hy,?_⟩
   refine ⟨(by show 6 <= 1000; decide),fun L2 hL2=>?_⟩
   have s2:=Same.new (o:=HO.lst (xk6.map V.str)) hL2
   have g2:(upd G1 L2 (HO.lst (xk6.map V.str))) L2 = some (HO.lst (xk6.map V.str)):=xa1
   obtain ⟨y,hy,ey⟩:=pick (xs:=xk6.map V.str) (l:=6) rfl (n / 36) 6 rfl (by decide)
   obtain ⟨s,hs,rfl⟩:=List.mem_map.mp (List.mem_of_getElem? ey)
   refine ⟨_,rfl,_,_,rfl,rfl,⟨by decide,by decide⟩,_,_,rfl,rfl,(by show (0:Int) < 6; decide),_,_,_,_,rfl,rfl,g2,hy,?_⟩
   exact ⟨_,rfl,_,rfl,fun wo w0 w1=>hN _ _ ⟨_,fd,s,wo,rfl,s1.trans s2,xn8 _ _,hfd,hs,w0,w1⟩⟩
  rintro σ1 H1 ⟨g,fd,s,wo,rfl,s1,lgp,hfd,hs,w0,w1⟩
  have wH:=w.keep s1
  obtain ⟨dx,hx⟩:=wH.bd.obj
  have hsd:=side_in hs
  have m4:=Int.emod_nonneg n (show (4:Int) ≠ 0 by decide)
  refine xa7 (fun σ' G=>∃ b' lg' v9 v10 v11,σ' = [some (.ref x),some (.ref GD),some (.ref HD),some (.int n),some (.int fm),some (.str g),some (.str fd),some (.str s),some (.int wo),v9,v10,v11] /\ W6 A G fm x b' GD lg' HD d (xa8 b') /\ GrE lg' b'.gr /\ b'.gr.length <= i + 1 /\ b'.lv = b.lv /\ Kp H1 G) (fun N hN=>?_) ?_
  ·refine ⟨_,rfl,_,_,rfl,rfl,(by show (0:Int) < 4; decide),rfl,_,rfl,?_⟩
   refine ite2 (fun _=>?_) (fun _=>?_)
   ·-- a group told
    refine xa7 (fun σ' G=>∃ M zs,σ' = [some (.ref x),some (.ref GD),some (.ref HD),some (.int n),some (.int fm),some (.str g),some (.str fd),some (.str s),some (.int wo),some (.ref M),none,none] /\ H1 M = none /\ Same H1 G /\ G M = some (.lst (zs.map V.str)) /\ yf6 fm zs /\ zs.length <= 6) (fun N2 hN2=>?_) ?_
    ·exact ⟨_,rfl,_,_,rfl,rfl,⟨by decide,by decide⟩,_,rfl,n / 12,fm,rfl,Int.ediv_nonneg n0 (by decide),fun M zs G hM sG gM hz hl=>hN2 _ _ ⟨M,zs,rfl,hM,sG,gM,hz,hl⟩⟩
    rintro σ2 H2 ⟨M,zs,rfl,hM,s2,gM,hz,hl6⟩
    have w2:=wH.keep s2
    have lzs:∀ z ∈ zs,xl2 z = true:=fun z hzz=>by obtain ⟨j,_,rfl⟩:=hz z hzz; exact xn8 _ _
    have nlg:∀ e ∈ lg,e.2.1 ≠ M:=fun e he z=>by have:=wH.grl e he; rw [z,hM] at this; cases this
    have ngr:∀ e ∈ b.gr,e.2.1 ≠ M:=fun e he z=>by have:=wH.bd.lst e he; rw [z,hM] at this; cases this
    refine xa7 (fun σ' G=>∃ p,σ' = [some (.ref x),some (.ref GD),some (.ref HD),some (.int n),some (.int fm),some (.str g),some (.str fd),some (.str s),some (.int wo),some (.ref M),none,none] /\ p ≠ M /\ G M = some (.lst (zs.map V.str)) /\ W6 A G fm x b GD (setG lg g p zs) HD d (xa8 b) /\ Kp H1 G) (fun N2 hN2=>?_) ?_
    ·refine ⟨_,rfl,M,_,rfl,SqL.of gM,fun p hp=>?_⟩
     have sp:=Same.new (o:=HO.lst (zs.map V.str)) hp
     have fp:(upd H2 p (HO.lst (zs.map V.str))) p = some (HO.lst (zs.map V.str)):=xa1
     have npM:p ≠ M:=fun z=>by rw [z,gM] at hp; cases hp
     generalize upd H2 p (HO.lst (zs.map V.str)) = G2 at sp fp ⊢
     have w3:=w2.keep sp
     have ll:lg.length <= 60:=by
      have:=congrArg List.length ge.eq
      rw [List.length_map,List.length_map] at this
      omega
     refine ⟨_,rfl,_,rfl,GD,_,rfl,DPut.k (k:=.inr g) w3.grd (xh2 (by rw [List.length_map]; omega)),?_⟩
     rw [<- yp1 lg g p zs]
     have ne:∀ {a:Addr} {o:HO},G2 a = some o -> (∀ z,o ≠ .dK z) -> (upd G2 GD (.dK ((setG lg g p zs).map fun e=>((.inr e.1:Key),V.ref e.2.1)))) a = some o:=fun {a o} e h=>by
      rw [xa3 (fun z=>by rw [z,w3.grd] at e; cases e; exact h _ rfl)]; exact e
     refine hN2 _ _ ⟨p,rfl,npM,ne (sp _ _ gM) (fun _ z=>nomatch z),{ w3 with bd:=w3.bd.updK w3.grd w3.gF w3.gL w3.gG w3.gD,grd:=xa1,grl:=fun e he=>?_,hld:=by rw [xa3 w3.gH]; exact w3.hld,hd:=fun f hf=>ne (w3.hd f hf) (fun _ z=>nomatch z) },(Kp.same (s2.trans sp)).trans (yz9 w3.grd fun a o na e=>by rw [xa3 na]; exact e)⟩
     rcases xp3 he with he | ⟨_,he⟩
     ·exact ne (w3.grl e he) (fun _ z=>nomatch z)
     ·rw [he]; exact ne fp (fun _ z=>nomatch z)
    rintro σ3 H3 ⟨p,rfl,npM,gM3,w3,k3⟩
    obtain ⟨dx3,hx3⟩:=w3.bd.obj
    refine xa7 (fun σ' G=>∃ q,σ' = [some (.ref x),some (.ref GD),some (.ref HD),some (.int n),some (.int fm),some (.str g),some (.str fd),some (.str s),some (.int wo),some (.ref M),none,none] /\ q ≠ M /\ G M = some (.lst (zs.map V.str)) /\ W6 A G fm x { b with gr:=setG b.gr g q zs } GD (setG lg g p zs) HD d (xa8 b) /\ Kp H1 G) (fun N2 hN2=>?_) ?_
    ·refine ⟨_,rfl,x,dx3,_,rfl,hx3,rfl,_,rfl,_,rfl,x,_,_,rfl,.inl ⟨b,g,M,zs,rfl,rfl,lgp,lt1 lgp,.good M _ gM3 (fun v hv=>?_),gM3,w3.bd,w3.nd,by omega,fun q G hq hb st=>hN2 _ _ ⟨q,rfl,?_,?_,?_,k3.trans (yz9 w3.bd.grp st)⟩⟩⟩
     ·obtain ⟨z,hzz,rfl⟩:=List.mem_map.mp hv
      exact xn9 (lzs z hzz) (lt1 (lzs z hzz))
     ·exact fun z=>by rw [z,gM3] at hq; cases hq
     ·exact (yz9 w3.bd.grp st).lst gM3
     ·have ne:∀ {a:Addr} {o:HO},H3 a = some o -> (∀ z,o ≠ .dK z) -> G a = some o:=fun {a o} e h=>st a o (fun z=>by rw [z,w3.bd.grp] at e; cases e; exact h _ rfl) e
      refine { w3 with bd:=hb,nd:=⟨w3.nd.names,w3.nd.adrs,w3.nd.notS,w3.nd.FL,w3.nd.FG,w3.nd.FD,w3.nd.LG,w3.nd.LD,w3.nd.GD⟩,bk:={ w3.bk with gr:=fun e he=>?_ },grd:=st _ _ (Ne.symm w3.gG) w3.grd,grl:=fun e he=>ne (w3.grl e he) (fun _ z=>nomatch z),hld:=st _ _ (Ne.symm w3.hG) w3.hld,hd:=fun f hf=>ne (w3.hd f hf) (fun _ z=>nomatch z) }
      rcases xp3 he with he | ⟨_,he⟩
      ·exact w3.bk.gr e he
      ·rw [he]; exact ⟨hz,hl6⟩
    rintro σ4 H4 ⟨q,rfl,nqM,gM4,w4,k4⟩
    refine ⟨_,rfl,.inl ⟨rfl,_,SqL.of gM4⟩,M,_,rfl,rfl,gM4,?_⟩
    have ne:∀ {a:Addr} {o:HO},H4 a = some o -> (∀ z,o ≠ .lst z) -> (upd H4 M (.lst [])) a = some o:=fun {a o} e h=>by
     rw [xa3 (fun z=>by rw [z,gM4] at e; cases e; exact h _ rfl)]; exact e
    refine hN _ _ ⟨{ b with gr:=setG b.gr g q zs },setG lg g p zs,_,_,_,rfl,{ w4 with bd:=w4.bd.updL gM4 (fun e he z=>?_),grd:=ne w4.grd (fun _ z=>nomatch z),grl:=fun e he=>?_,hld:=ne w4.hld (fun _ z=>nomatch z),hd:=fun f hf=>ne (w4.hd f hf) (fun _ z=>nomatch z) },ge.set g p q zs,Nat.le_trans (setG_len b.gr g q zs) (by omega),rfl,fun a o e n1 n2=>?_⟩
    ·rcases xp3 he with he | ⟨_,he⟩
     ·exact ngr e he z
     ·rw [he] at z; exact nqM z
    ·rw [xa3 (fun z=>by
      rcases xp3 he with he | ⟨_,he⟩
      ·exact nlg e he z
      ·rw [he] at z; exact npM z)]
     exact w4.grl e he
    ·rw [xa3 (xb2 e hM)]; exact k4 a o e n1 n2
   ·refine ⟨_,rfl,_,_,rfl,rfl,(by show (0:Int) < 4; decide),rfl,_,rfl,?_⟩
    refine ite2 (fun _=>?_) (fun _=>?_)
    ·-- a slot filled
     have j0:=Int.emod_nonneg (n / 216) (show (4:Int) ≠ 0 by decide)
     have j1:=Int.emod_lt_of_pos (n / 216) (show (0:Int) < 4 by decide)
     have ej:n / 216 % 4 = (((n / 216 % 4).toNat:Nat):Int):=(Int.toNat_of_nonneg j0).symm
     have hsl:ze4 fm (xb1 (xo9 (n / 216 % 4) fm) s):=⟨(n / 216 % 4).toNat,s,by omega,hs,by rw [<- ej]⟩
     have lz:=xn8 (n / 216 % 4) fm
     refine xa7 (fun σ' G=>∃ q,σ' = [some (.ref x),some (.ref GD),some (.ref HD),some (.int n),some (.int fm),some (.str g),some (.str fd),some (.str s),some (.int wo),none,some (.ref q),none] /\ Same H1 G /\ G q = some (.tup [.str (xo9 (n / 216 % 4) fm),.str s])) (fun N2 hN2=>?_) ?_
     ·exact ⟨_,rfl,_,_,rfl,rfl,⟨by decide,by decide⟩,_,_,rfl,rfl,(by show (0:Int) < 4; decide),_,rfl,_,_,rfl,_,rfl,(by show 2 <= 1000; decide),fun q hq=>hN2 _ _ ⟨q,rfl,Same.new hq,xa1⟩⟩
     rintro σ2 H2 ⟨q,rfl,s2,gq⟩
     generalize xo9 (n / 216 % 4) fm = z at hsl lz gq
     have w2:=wH.keep s2
     obtain ⟨dx2,hx2⟩:=w2.bd.obj
     refine xa7 (fun σ' G=>∃ b1,σ' = [some (.ref x),some (.ref GD),some (.ref HD),some (.int n),some (.int fm),some (.str g),some (.str fd),some (.str s),some (.int wo),none,some (.ref q),none] /\ yc0 fd s wo z b b1 /\ W6 A G fm x b1 GD lg HD d (xa8 b) /\ Kp H2 G) (fun N2 hN2=>?_) ?_
     ·refine ⟨_,rfl,x,dx2,_,rfl,hx2,rfl,_,rfl,_,rfl,_,rfl,x,_,_,_,rfl,.inl ⟨b,q,fd,z,s,wo,rfl,rfl,rfl,xm7 hfd,lt1 (xm7 hfd),sl_true gq lz hsd,gq,w0,w1,w2.bd,w2.nd,Nat.le_trans (w2.bk.few w2.nd) (by decide),fun e he=>Nat.le_trans (w2.bk.len e he) (by decide),fun mem G hb st=>?_,fun no p G hp hb st=>?_⟩⟩
      ·have fl:yc0 fd s wo z b { b with fl:=xl3 b.fl fd (xb1 z s) (.int wo) }:=.inl ⟨mem,rfl⟩
       exact hN2 _ _ ⟨_,rfl,fl,w2.fill hb (yz3 w2.nd _ _ _) (xx3 fl w2.bk hfd hsl w0 w1) rfl rfl rfl rfl rfl st (yj4 (H:=H2) (.inl ⟨mem,rfl⟩)),ye4 w2.bd st⟩
      ·have fl:yc0 fd s wo z b { b with fl:=b.fl ++ [(fd,p,[(xb1 z s,.int wo)])] }:=.inr ⟨no,p,rfl⟩
       exact hN2 _ _ ⟨_,rfl,fl,w2.fill hb (nd_new w2.nd w2.bd hp no _) (xx3 fl w2.bk hfd hsl w0 w1) rfl rfl rfl rfl rfl st (yj4 (H:=H2) (.inr ⟨no,p,hp,rfl⟩)),ye4 w2.bd st⟩
     rintro σ3 H3 ⟨b1,rfl,fl,w3,k3⟩
     have fp:=yq7 fl
     have g1:=DGet.k (k:=.inr fd) w3.hld
     rw [yn0 hfd] at g1
     refine ⟨_,rfl,_,rfl,_,rfl,HD,_,rfl,g1,_,rfl,d fd,_,rfl,DPut.t (k:=xb1 z s) (w3.hd fd hfd) (k3.tup gq) (xh2 (Nat.le_trans (w.bk.fullLen fd) (by decide))),?_⟩
     refine hN _ _ ⟨b1,lg,_,_,_,rfl,(w3.put hfd _).eqc fun f hf=>(fp.full f).symm,by rw [fp.gr]; exact ge,by rw [fp.gr]; omega,fp.lv,((Kp.same s2).trans k3).trans (kp_dT (w3.hd fd hfd) fun a o na e=>by rw [xa3 na]; exact e)⟩
    ·by_cases ing:∃ e ∈ lg,e.1 = g
     ·-- a group filled
      obtain ⟨eg,heg,ee,ev⟩:=lg_at ing
      have g0:=DGet.k (k:=.inr g) wH.grd
      rw [ev] at g0
      refine ⟨_,rfl,_,rfl,GD,_,rfl,g0,_,rfl,iteT ?_⟩
      refine xa7 (fun σ' G=>∃ b1,σ' = [some (.ref x),some (.ref GD),some (.ref HD),some (.int n),some (.int fm),some (.str g),some (.str fd),some (.str s),some (.int wo),none,none,none] /\ FillsP fd s wo eg.2.2 b b1 /\ W6 A G fm x b1 GD lg HD d (xa8 b) /\ Kp H1 G) (fun N2 hN2=>?_) ?_
      ·refine ⟨_,rfl,x,dx,_,rfl,hx,rfl,_,rfl,_,rfl,_,rfl,_,rfl,x,_,_,_,_,rfl,.inl ⟨b,fd,g,s,wo,rfl,rfl,rfl,rfl,xm7 hfd,lt1 (xm7 hfd),lgp,lt1 lgp,hsd,w0,w1,wH.bd,wH.nd,ge.has.mp ing,Nat.le_trans (wH.bk.few wH.nd) (by decide),fun e he=>Nat.le_trans (wH.bk.len e he) (by decide),fun e he _=>⟨Nat.le_trans (wH.bk.gr e he).2 (by decide),fun z hz=>?_⟩,fun e b1 G he e1 ft nd1 hb1 st ad=>?_⟩⟩
       ·obtain ⟨j,_,rfl⟩:=(wH.bk.gr e he).1 z hz
        exact ⟨xn8 _ _,lt1 (xn8 _ _)⟩
       ·have ez:eg.2.2 = e.2.2:=ge.same heg he (by rw [ee,e1])
        obtain ⟨fp,bk1⟩:=fills_p ft hfd wH.bk (fun z hz=>by obtain ⟨j,hj,rfl⟩:=(wH.bk.gr e he).1 z hz; exact ⟨j,s,hj,hs,rfl⟩) w0 w1
        exact hN2 _ _ ⟨b1,rfl,by rw [ez]; exact fp,wH.fill hb1 nd1 bk1 fp.F fp.L fp.G fp.D fp.S st ad,ye4 wH.bd st⟩
      rintro σ2 H2 ⟨b1,rfl,fp,w2,k2⟩
      have g2:=DGet.k (k:=.inr g) w2.grd
      rw [ev] at g2
      have hlst:=w2.grl eg heg
      have l6:eg.2.2.length <= 6:=by
       obtain ⟨e',he',q⟩:=ge.has.mp ing
       rw [ge.same heg he' (by rw [ee,q])]
       exact (wH.bk.gr e' he').2
      refine ⟨_,rfl,_,rfl,GD,_,rfl,g2,eg.2.1,rfl,⟨_,SqL.of hlst⟩,?_⟩
      refine xj3 (K:=K) (a:=eg.2.1) (xs:=eg.2.2.map V.str) (fun i σ' G=>∃ v11,σ' = [some (.ref x),some (.ref GD),some (.ref HD),some (.int n),some (.int fm),some (.str g),some (.str fd),some (.str s),some (.int wo),none,none,v11] /\ W6 A G fm x b1 GD lg HD d (fun gg=>if gg = fd then xs8 s wo (xa8 b fd) (eg.2.2.take i) else xa8 b gg) /\ Kp H2 G) ⟨_,rfl,w2.eqc fun f hf=>?_,Kp.refl _⟩ ?_ ?_ ?_
      ·by_cases c:f = fd
       ·rw [if_pos c,c]; rfl
       ·rw [if_neg c]
      ·rintro j σ' G _ ⟨v11,_,wG,_⟩
       exact SqL.of (wG.grl eg heg)
      ·rintro j v σ' G hv ⟨v11,rfl,wG,kG⟩
       rw [List.getElem?_map] at hv
       obtain ⟨z,hzi,rfl⟩:=Option.map_eq_some_iff.mp hv
       have tk:eg.2.2.take (j + 1) = eg.2.2.take j ++ [z]:=by rw [List.take_add_one,hzi]; rfl
       have g3:=DGet.k (k:=.inr fd) wG.hld
       rw [yn0 hfd] at g3
       refine ⟨_,rfl,_,rfl,_,rfl,HD,_,rfl,g3,_,rfl,_,rfl,(by show 2 <= 1000; decide),fun q hq=>?_⟩
       have sq:=Same.new (o:=HO.tup [V.str z,V.str s]) hq
       have fq:(upd G q (HO.tup [V.str z,V.str s])) q = some (HO.tup ((xb1 z s).map kV)):=xa1
       generalize upd G q (HO.tup [V.str z,V.str s]) = G2 at sq fq ⊢
       have w3:=wG.keep sq
       have hd3:=w3.hd fd hfd
       rw [if_pos rfl] at hd3
       have lp:(xs8 s wo (xa8 b fd) (eg.2.2.take j)).length <= 100:=by
        have:=ya3 s wo (xa8 b fd) (eg.2.2.take j)
        have:=w.bk.fullLen fd
        rw [List.length_take] at *
        omega
       refine ⟨d fd,_,rfl,DPut.t (k:=xb1 z s) hd3 fq (xh2 (by omega)),?_⟩
       refine ⟨_,rfl,(w3.put hfd _).eqc fun f hf=>?_,(kG.trans (Kp.same sq)).trans (kp_dT hd3 fun a o na e=>by rw [xa3 na]; exact e)⟩
       by_cases c:f = fd
       ·rw [if_pos c,if_pos c,tk,xv0]
       ·rw [if_neg c,if_neg c,if_neg c]
      ·rintro σ' G ⟨v11,rfl,wG,kG⟩
       rw [List.length_map,List.take_length] at wG
       exact hN _ _ ⟨b1,lg,_,_,_,rfl,wG.eqc fun f hf=>(fp.full f).symm,by rw [fp.gr]; exact ge,by rw [fp.gr]; omega,fp.lv,k2.trans kG⟩
     ·-- no such group
      have g0:=DGet.k (k:=.inr g) wH.grd
      rw [lg_none ing] at g0
      refine ⟨_,rfl,_,rfl,GD,_,rfl,g0,_,rfl,iteF ?_⟩
      exact ⟨_,rfl,_,rfl,_,rfl,_,rfl,_,rfl,x,b,fd,g,_,_,rfl,wH.bd,xm7 hfd,lgp,fun h=>ing (ge.has.mpr h),fun G sG=>k b lg G (wH.keep sG) ge (by omega) rfl (Kp.same (s1.trans sG))⟩
  rintro σ2 H2 ⟨b',lg',v9,v10,v11,rfl,w2,ge2,gl2,lv2,k2⟩
  exact k b' lg' H2 w2 ge2 gl2 lv2 ((Kp.same s1).trans k2)
theorem val_int {f:Int} {b:Bd} (bk:Bk f b) {g:Str} {k:List Key} (h:(valV (xa8 b g) k).isSome = true):valV (xa8 b g) k = some (.int (nI (xa8 b g) k)):=by
 have:=((xq1 bk g).at (by decide) k).1
 cases e:valV (xa8 b g) k with
 | none=>rw [e] at h; cases h
 | some v=>rw [e] at this; rw [<- this]; rfl
def spDueL (K:Frag):Sp:=fun vs H Q _=>∃ (q HD O:Addr) (l s o1 o2 o3:Str) (d:Str -> Addr) (b:Bd) (fm:Int),vs = [.ref q,.ref HD,.ref O] /\ H q = some (.tup [.str l,.str s]) /\ H HD = some (.dK (yu6 d)) /\ (∀ f,Fdr f -> H (d f) = some (.dT (xa8 b f))) /\ SqL K H O [.str o1,.str o2,.str o3] /\ Fdr o1 /\ Fdr o2 /\ Fdr o3 /\ Bk fm b /\ Q (.int (dueN b l s [o1,o2,o3] 0)) H
theorem yt6 (T:Txt K mg A):FnOk P w K mg base (CXE P w) 1 A.eu2 A.ev2 ["_law_slot","_law_held","_law_order"] (spDueL K):=by
 refine T.ee4.okN xl6 (fun vs H Q E h=>?_) (fun cdv Ar outer s H vs Q E hr h=>?_)
 ·obtain ⟨q,HD,O,l,s,o1,o2,o3,d,b,fm,rfl,hq,hH,hd,hO,h1,h2,h3,bk,k⟩:=h
  rfl
 ·obtain ⟨q,HD,O,l,s,o1,o2,o3,d,b,fm,rfl,hq,hH,hd,hO,h1,h2,h3,bk,k⟩:=h
  refine ⟨_,(xa4 (xd8 (i:=3) xl6.nd rfl (Or.inl rfl) xa9)
   (xa4 (xm2 PassesOwn.never rfl (xk8 K (pv 2)) (xd5 (i:=4) xl6.nd rfl (Or.inl rfl)) (xa5 (xg1 (ya4 (yy4 (hu1 hr) (pv 0) (xi7 (hu1 hr) (pv 1) (pv 4) (fun _ _=>rfl)))) (xa5 (xg1 (xg0 yd6 (xr5 (xx1 K) (pv 0) xa9 (fun _ _=>rfl)) xc9 (xh6 _)) (xa5 (xd8 (i:=3) xl6.nd rfl (Or.inl rfl) (xc0 (zd8 rfl) (by rfl) T.eg6 yr4 (xa0 (pv 3) (xa0 (xi7 (hu1 hr) (xi7 (hu1 hr) (pv 1) (pv 4) (fun _ _=>rfl)) (pv 0) (fun _ _=>rfl)) xa6))))) (xa5 (xd8 (i:=3) xl6.nd rfl (Or.inl rfl) (xi7 (hu1 hr) (xi7 (hu1 hr) (pv 1) (pv 4) (fun _ _=>rfl)) (pv 0) (fun _ _=>rfl)))))) xb9)))
   (xa5 (xb7 (pv 3))))),?_⟩
  have kq:H q = some (.tup ((xb1 l s).map kV)):=hq
  refine xa7 (fun σ' G=>σ' = [some (.ref q),some (.ref HD),some (.ref O),some (.int 0),none] /\ G = H) (fun N hN=>hN _ _ ⟨rfl,rfl⟩) ?_
  rintro σ1 H1 ⟨rfl,rfl⟩
  refine xa7 (fun σ' G=>∃ v4,σ' = [some (.ref q),some (.ref HD),some (.ref O),some (.int (dueN b l s [o1,o2,o3] 0)),v4] /\ G = H1) (fun N hN=>?_) ?_
  ·refine ⟨_,rfl,O,rfl,⟨_,hO⟩,?_⟩
   refine xj3 (K:=K) (a:=O) (xs:=[V.str o1,V.str o2,V.str o3]) (fun i σ' G=>∃ acc v4,σ' = [some (.ref q),some (.ref HD),some (.ref O),some (.int acc),v4] /\ G = H1 /\ dueN b l s ([o1,o2,o3].drop i) acc = dueN b l s [o1,o2,o3] 0) ⟨0,_,rfl,rfl,rfl⟩ ?_ ?_ ?_
   ·rintro i σ' G _ ⟨acc,v4,_,rfl,_⟩
    exact hO
   ·rintro i v σ' G hv ⟨acc,v4,rfl,rfl,hacc⟩
    obtain ⟨fd,rfl,hfd,hdr⟩:∃ fd,v = .str fd /\ Fdr fd /\ [o1,o2,o3].drop i = fd :: [o1,o2,o3].drop (i + 1):=by
     rcases i with _ | _ | _ | i
     ·cases hv; exact ⟨o1,rfl,h1,rfl⟩
     ·cases hv; exact ⟨o2,rfl,h2,rfl⟩
     ·cases hv; exact ⟨o3,rfl,h3,rfl⟩
     ·cases hv
    rw [hdr] at hacc
    have g1:=DGet.k (k:=.inr fd) hH
    rw [yn0 hfd] at g1
    have g2:=DGet.t (k:=xb1 l s) (hd fd hfd) kq
    refine ⟨_,rfl,_,rfl,_,rfl,HD,_,rfl,g1,d fd,_,rfl,g2,_,rfl,?_⟩
    refine ite2 (fun c=>?_) (fun c=>?_)
    ·have ev:=val_int bk c
     rw [ev] at g2
     have hacc:dueN b l s ([o1,o2,o3].drop (i + 1)) (if (valV (xa8 b fd) (xb1 l s)).isSome = true then (if isBr s = true then (if acc < nI (xa8 b fd) (xb1 l s) then nI (xa8 b fd) (xb1 l s) else acc) else nI (xa8 b fd) (xb1 l s)) else acc) = _:=hacc
     rw [if_pos c] at hacc
     refine ⟨_,rfl,q,_,_,_,rfl,rfl,SqT.of hq,atI_1 _ _ _,rfl,_,rfl,?_⟩
     show if isBr s = true then _ else _
     cases y:isBr s with
     | true =>
      rw [y,if_pos rfl] at hacc
      exact iteT ⟨_,rfl,_,rfl,_,rfl,HD,_,rfl,g1,_,rfl,d fd,_,rfl,g2,_,_,rfl,_,_,rfl,rfl,hacc⟩
     | false =>
      rw [y,if_neg Bool.false_ne_true] at hacc
      exact iteF ⟨_,rfl,_,rfl,HD,_,rfl,g1,_,rfl,d fd,_,rfl,g2,_,_,rfl,rfl,hacc⟩
    ·have hacc:dueN b l s ([o1,o2,o3].drop (i + 1)) (if (valV (xa8 b fd) (xb1 l s)).isSome = true then (if isBr s = true then (if acc < nI (xa8 b fd) (xb1 l s) then nI (xa8 b fd) (xb1 l s) else acc) else nI (xa8 b fd) (xb1 l s)) else acc) = _:=hacc
     rw [if_neg c] at hacc
     exact ⟨acc,_,rfl,rfl,hacc⟩
   ·rintro σ' G ⟨acc,v4,rfl,rfl,hacc⟩
    have:acc = dueN b l s [o1,o2,o3] 0:=hacc
    exact hN _ _ ⟨v4,by rw [this],rfl⟩
  rintro σ2 H2 ⟨v4,rfl,rfl⟩
  exact ⟨_,rfl,k⟩
theorem mix_val {b:Bd} {look kvs:List (List Key × V)} (sl:∀ k,InSl b look k -> ∃ l s,k = xb1 l s) (m:Mix b look kvs):∀ kv ∈ kvs,∃ i:Int,kv.2 = .int i /\ 1 <= i:=fun kv hk=>by
 have v1:valV kvs kv.1 = some kv.2:=by
  cases e:valV kvs kv.1 with
  | none=>exact absurd (List.mem_map.mpr ⟨kv,hk,rfl⟩) (yo3 e)
  | some v =>
   obtain ⟨j,hj⟩:=yv8 e
   have:=ya9 m.nd hk (List.mem_of_getElem? hj) rfl
   rw [this]
 by_cases c:InSl b look kv.1
 ·obtain ⟨l,s,e⟩:=sl _ c
  rw [e] at c v1
  obtain ⟨n,_,q⟩:=m.has l s c
  rw [v1] at q
  by_cases z:0 < n
  ·rw [if_pos z] at q; exact ⟨n,Option.some.inj q,z⟩
  ·rw [if_neg z] at q; cases q
 ·rw [m.no _ c] at v1; cases v1
def spRightL (K:Frag) (A:Adr):Sp:=fun vs H Q _=>∃ (x HD O GD:Addr) (fm:Int) (b:Bd) (lg:List (Str × Addr × List Str)) (d:Str -> Addr) (o1 o2 o3:Str),vs = [.ref x,.ref HD,.ref O,.int fm] /\ W6 A H fm x b GD lg HD d (xa8 b) /\ Ord3 b o1 o2 o3 /\ SqL K H O [.str o1,.str o2,.str o3] /\ ∀ H',Same H H' -> Q (.bl true) H'
theorem yi2 (T:Txt K mg A):FnOk P w K mg base (CXE P w) 9 A.ew2 A.ex2 ["_law_board","_law_held","_law_order","_law_form"] (spRightL K A):=by
 have G_Board_mixed:=xz5 (P:=P) (w:=w) (base:=base) T
 have G_law_due:=yt6 (P:=P) (w:=w) (base:=base) T
 have G_law_is_look:=xz3 (P:=P) (w:=w) (base:=base) T
 have G_law_name:=xo7 (P:=P) (w:=w) (base:=base) T
 refine T.eh4.okN xi6 (fun vs H Q E h=>?_) (fun cdv Ar outer s H vs Q E hr h=>?_)
 ·obtain ⟨x,HD,O,GD,fm,b,lg,d,o1,o2,o3,rfl,w,ord,hO,k⟩:=h
  rfl
 ·obtain ⟨x,HD,O,GD,fm,b,lg,d,o1,o2,o3,rfl,w,ord,hO,k⟩:=h
  refine ⟨_,(xa4 (xd8 (i:=4) xi6.nd rfl (Or.inl rfl) (xi3 (pv 0) T.en4 T.en2 G_Board_mixed (hr.mono (by decide)) T.em2 .nil xb6 (xa0 xk9 xa6)))
   (xa4 (xg1 (xi8 (xh3 (xb0 G_law_is_look (hr.mono (by decide)) (by rfl) T.eu3 T.es3.kp T.et3 .nil xb6 (xa0 (pv 4) xa6)))) (xa5 (xb7 xv4)) xb9)
   (xa4 (xm2 PassesOwn.never rfl (yh5 (by rfl) T.ek6 (xa0 xa9 xa6)) (xd5 (i:=5) xi6.nd rfl (Or.inl rfl)) (xa5 (xm2 PassesOwn.never rfl (xk8 K (yd1 (xa0 xc9 (xa0 xc9 (xa0 xc9 (xa0 xc9 (xa0 xc9 (xa0 xc9 xa6)))))))) (xd5 (i:=6) xi6.nd rfl (Or.inl rfl)) (xa4 (xd8 (i:=7) xi6.nd rfl (Or.inl rfl) (xv2 (xa0 (xb0 G_law_name (hr.mono (by decide)) (by rfl) T.eo3 T.em3.kp T.en3 .nil xb6 (xa0 (pv 5) (xa0 (pv 3) xa6))) (xa0 (pv 6) xa6))))
   (xa5 (xg1 (xg0 op_ne (xp7 (hu1 hr) (pv 4) (pv 7) xa9 ⟨rfl,rfl,rfl,rfl⟩) (xb0 G_law_due (hr.mono (by decide)) (by rfl) T.eg4 T.ee4.kp T.ef4 .nil xb6 (xa0 (pv 7) (xa0 (pv 1) (xa0 (pv 2) xa6)))) (xh6 _)) (xa5 (xb7 xv4)) xb9))))))
   (xa5 (xb7 xv4))))),?_⟩
  obtain ⟨dx,hx⟩:=w.bd.obj
  have gd:=w.bk.good w.nd
  have few:=w.bk.fewS w.nd
  refine xd6 (fun σ' G=>∃ R kvs,σ' = [some (.ref x),some (.ref HD),some (.ref O),some (.int fm),some (.ref R),none,none,none] /\ Same H G /\ G R = some (.dT kvs) /\ Mix b [] kvs) (fun N hN=>?_) ?_
  ·refine ⟨_,rfl,x,dx,_,rfl,hx,rfl,fun e he=>?_⟩
   have s1:=Same.new (o:=HO.dT []) he
   have f1:(upd H e (HO.dT [])) e = some (HO.dT []):=xa1
   generalize upd H e (HO.dT []) = G1 at s1 f1 ⊢
   refine ⟨x,_,rfl,.inl ⟨e,b,[],rfl,w.bd.keep s1,gd,⟨f1,by decide,(fun _ h=>nomatch h),(fun _ h=>nomatch h)⟩,few,fun R kvs G s hR _ mix=>?_⟩⟩
   refine ⟨_,rfl,R,kvs,rfl,hR,mix_val (fun kk hk=>?_) mix,fun G2 s2=>⟨_,rfl,iteF (hN _ _ ⟨R,kvs,rfl,(s1.trans s).trans s2,s2 _ _ hR,mix⟩)⟩⟩
   rcases hk with h | ⟨e,he,h⟩
   ·simp at h
   ·obtain ⟨kv,hkv,rfl⟩:=List.mem_map.mp h
    exact gd.slots e he kv hkv
  rintro σ1 H1 ⟨R,kvs,rfl,s1,gR,mix⟩
  refine xa7 (fun σ' G=>∃ v5 v6 v7,σ' = [some (.ref x),some (.ref HD),some (.ref O),some (.int fm),some (.ref R),v5,v6,v7] /\ Same H1 G) (fun N hN=>?_) ?_
  ·refine ⟨4,rfl,by decide,by decide,?_⟩
   refine yj2 (lo:=0) (n:=4) (fun i σ' G=>∃ v5 v6 v7,σ' = [some (.ref x),some (.ref HD),some (.ref O),some (.int fm),some (.ref R),v5,v6,v7] /\ Same H1 G) ⟨_,_,_,rfl,Same.refl _⟩ ?_ ?_
   ·rintro i σ' G hi ⟨v5,v6,v7,rfl,sG⟩
    rw [show (0:Int) + (i:Int) = (i:Int) by omega]
    refine ⟨(by show 6 <= 1000; decide),fun L hL=>?_⟩
    have s2:=Same.new (o:=HO.lst (xk6.map V.str)) hL
    have g2:(upd G L (HO.lst (xk6.map V.str))) L = some (HO.lst (xk6.map V.str)):=xa1
    refine ⟨L,rfl,⟨_,SqL.of g2⟩,?_⟩
    refine xj3 (K:=K) (a:=L) (xs:=xk6.map V.str) (fun j σ' G'=>∃ v6 v7,σ' = [some (.ref x),some (.ref HD),some (.ref O),some (.int fm),some (.ref R),some (.int (i:Int)),v6,v7] /\ Same (upd G L (HO.lst (xk6.map V.str))) G') ⟨_,_,rfl,Same.refl _⟩ ?_ ?_ ?_
    ·rintro j σ' G' _ ⟨v6,v7,_,sm⟩
     exact SqL.of (sm _ _ g2)
    ·rintro j v σ' G' hv ⟨v6,v7,rfl,sm⟩
     rw [List.getElem?_map] at hv
     obtain ⟨s,hs,rfl⟩:=Option.map_eq_some_iff.mp hv
     have sA:=(sG.trans s2).trans sm
     refine xa7 (fun σ' G2=>∃ q,σ' = [some (.ref x),some (.ref HD),some (.ref O),some (.int fm),some (.ref R),some (.int (i:Int)),some (.str s),some (.ref q)] /\ Same G' G2 /\ G2 q = some (.tup [.str (xo9 (i:Int) fm),.str s])) (fun N2 hN2=>?_) ?_
     ·exact ⟨_,rfl,_,rfl,_,_,rfl,_,rfl,(by show 2 <= 1000; decide),fun q hq=>hN2 _ _ ⟨q,rfl,Same.new hq,xa1⟩⟩
     rintro σ3 G3 ⟨q,rfl,s3,gq⟩
     have sB:=sA.trans s3
     have wB:=w.keep (s1.trans sB)
     refine ⟨_,rfl,R,rfl,.inr ⟨_,.inl (sB _ _ gR)⟩,_,rfl,_,DGet.t (k:=xb1 (xo9 (i:Int) fm) s) (sB _ _ gR) gq,?_⟩
     rw [due_mix w.bk w.nd ord mix]
     refine ⟨_,rfl,_,rfl,_,rfl,q,HD,O,xo9 (i:Int) fm,s,o1,o2,o3,d,b,fm,rfl,gq,wB.hld,wB.hd,(s1.trans sB).seq hO,ord.h1,ord.h2,ord.h3,w.bk,?_⟩
     refine ⟨rfl,_,rfl,?_⟩
     rw [decide_eq_true rfl]
     exact iteF ⟨_,_,rfl,sm.trans s3⟩
    ·rintro σ' G' ⟨v6,v7,rfl,sm⟩
     exact ⟨_,_,_,rfl,(sG.trans s2).trans sm⟩
   ·rintro σ' G ⟨v5,v6,v7,rfl,sG⟩
    exact hN _ _ ⟨_,_,_,rfl,sG⟩
  rintro σ2 H2 ⟨v5,v6,v7,rfl,s2⟩
  exact k _ (s1.trans s2)
def Rot (o1 o2 o3:Str):Prop:=(o1 = f1T /\ o2 = f2T /\ o3 = f3T) \/ (o1 = f2T /\ o2 = f3T /\ o3 = f1T) \/ (o1 = f3T /\ o2 = f1T /\ o3 = f2T)
abbrev lvT (os:List Str):List (Key × V):=os.map fun o=>(.inr o,.int 1000)
theorem lv_step {o1 o2 o3:Str} (h:Rot o1 o2 o3) {i:Nat} {o:Str} (ho:[o1,o2,o3][i]? = some o):putK (xt6 (lvT ([o1,o2,o3].take i)) (.inr o)) (.inr o) (.int 1000) = lvT ([o1,o2,o3].take (i + 1)):=by
 rcases i with _ | _ | _ | i
 ·cases ho
  rcases h with ⟨rfl,rfl,rfl⟩ | ⟨rfl,rfl,rfl⟩ | ⟨rfl,rfl,rfl⟩ <;> kernel_rfl
 ·cases ho
  rcases h with ⟨rfl,rfl,rfl⟩ | ⟨rfl,rfl,rfl⟩ | ⟨rfl,rfl,rfl⟩ <;> kernel_rfl
 ·cases ho
  rcases h with ⟨rfl,rfl,rfl⟩ | ⟨rfl,rfl,rfl⟩ | ⟨rfl,rfl,rfl⟩ <;> kernel_rfl
 ·cases ho
theorem rot_fdr {o1 o2 o3:Str} (h:Rot o1 o2 o3):Fdr o1 /\ Fdr o2 /\ Fdr o3 /\ o1 ≠ o2 /\ o1 ≠ o3 /\ o2 ≠ o3 /\ ∀ f,Fdr f -> f = o1 \/ f = o2 \/ f = o3:=by
 have n12:f1T ≠ f2T:=by decide +kernel
 have n13:f1T ≠ f3T:=by decide +kernel
 have n23:f2T ≠ f3T:=by decide +kernel
 rcases h with ⟨rfl,rfl,rfl⟩ | ⟨rfl,rfl,rfl⟩ | ⟨rfl,rfl,rfl⟩
 ·exact ⟨.inl rfl,.inr (.inl rfl),.inr (.inr rfl),n12,n13,n23,fun f h=>h⟩
 ·exact ⟨.inr (.inl rfl),.inr (.inr rfl),.inl rfl,n23,Ne.symm n12,Ne.symm n13,fun f h=>by rcases h with h | h | h; exact .inr (.inr h); exact .inl h; exact .inr (.inl h)⟩
 ·exact ⟨.inr (.inr rfl),.inl rfl,.inr (.inl rfl),Ne.symm n13,Ne.symm n23,n12,fun f h=>by rcases h with h | h | h; exact .inr (.inl h); exact .inr (.inr h); exact .inl h⟩
theorem Bd.Nd.lv_ {b:Bd} (nd:b.Nd) (lv:List (Key × V)):Bd.Nd { b with lv:=lv }:=⟨nd.names,nd.adrs,nd.notS,nd.FL,nd.FG,nd.FD,nd.LG,nd.LD,nd.GD⟩
def dOf (d1 d2 d3:Addr) (f:Str):Addr:=if f = f1T then d1 else if f = f2T then d2 else d3
theorem d_1 {d1 d2 d3:Addr}:dOf d1 d2 d3 f1T = d1:=if_pos rfl
theorem d_2 {d1 d2 d3:Addr}:dOf d1 d2 d3 f2T = d2:=by unfold dOf; rw [if_neg (by decide +kernel),if_pos rfl]
theorem d_3 {d1 d2 d3:Addr}:dOf d1 d2 d3 f3T = d3:=by unfold dOf; rw [if_neg (by decide +kernel),if_neg (by decide +kernel)]
theorem yu5 {d1 d2 d3:Addr}:yb0 [] [((.inr f1T:Key),V.ref d1),(.inr f2T,V.ref d2),(.inr f3T,V.ref d3)] = yu6 (dOf d1 d2 d3):=by
 unfold yu6
 rw [d_1,d_2,d_3]
 kernel_rfl
def spLaw (K:Frag):Sp:=fun vs H Q _=>∃ (a:Addr) (ns:List Int),vs = [.ref a] /\ SqL K H a (ns.map V.int) /\ ns.length <= 63 /\ ∀ H',Q (.bl true) H'
abbrev CU (X:Cx):Prop:=X.A.units + 1 < cLine
abbrev S0 (_:St):Prop:=True
def passP:Stmt:=.Pass ⟨0,0,0,0⟩
def lwS (i:Nat):Stmt:=(xb3 yc9).getD i passP
def lwL:List Expr:=match lwS 1 with | .Assign _ (.Subscript (.List es _) _ _) _=>es | _=>[]
def lwE:Expr:=match lwS 1 with | .Assign _ (.Subscript _ i _) _=>i | _=>.List [] ⟨0,0,0,0⟩
abbrev five:List V:=[.str f1T,.str f2T,.str f3T,.str f1T,.str f2T]
theorem lw_body:∃ q1 q2 q3 q4,xb3 yc9 = [lwS 0,.Assign [.Name "_law_order" q1] (.Subscript (.List lwL q2) lwE q3) q4,lwS 2,lwS 3,lwS 4,lwS 5,lwS 6,lwS 7,lwS 8]:=⟨_,_,_,_,rfl⟩
theorem lw_L:∃ es,lwL = es /\ Cns es five:=⟨_,rfl,.cons yk0 (.cons yk0 (.cons yk0 (.cons yk0 (.cons yk0 .nil))))⟩
theorem lw_pack (H0:Hp):∃ (l1:List Expr) (t1:TA) (q1 q2 q3 q4:Pos),xb3 yc9 = [lwS 0,.Assign [.Name "_law_order" q1] (.Subscript (.List l1 q2) lwE q3) q4,lwS 2,lwS 3,lwS 4,lwS 5,lwS 6,lwS 7,lwS 8] /\ (∀ X,CU X -> PA X l1 t1) /\ MakesA H0 S0 (fun j _ y=>five[j]? = some y) 5 t1:=by
 obtain ⟨q1,q2,q3,q4,hb⟩:=lw_body
 obtain ⟨t1,p1,m1⟩:Itms CU H0 S0 (fun j _ y=>five[j]? = some y) 5 lwL:=by
  obtain ⟨es,h,c⟩:=lw_L
  rw [h]
  exact its_c c
 generalize lwL = l1 at *
 exact ⟨l1,t1,q1,q2,q3,q4,hb,p1,m1⟩
theorem ok_law (T:Txt K mg A):FnOk P w K mg base (CXE P w) 10 A.ey2 A.ez2 ["_law_script"] (spLaw K):=by
 have G_Board_init:=yd9 (P:=P) (w:=w) (base:=base) T
 have G_Board_move:=yd8 (P:=P) (w:=w) (base:=base) T
 have G_law_cell_at:=xz4 (P:=P) (w:=w) (base:=base) T
 have G_law_deed:=ym1 (P:=P) (w:=w) (base:=base) T
 have G_law_drawn:=yi4 (P:=P) (w:=w) (base:=base) T
 have G_law_right:=yi2 (P:=P) (w:=w) (base:=base) T
 refine T.ek4.okN xp4 (fun vs H Q E h=>?_) (fun cdv Ar outer s H vs Q E hr h=>?_)
 ·obtain ⟨a,ns,rfl,hS,hlen,k⟩:=h
  rfl
 ·obtain ⟨a,ns,rfl,hS,hlen,k⟩:=h
  obtain ⟨l1,t1,q1,q2,q3,q4,hb,hp1,m1⟩:=lw_pack H
  rw [hb]
  refine ⟨_,(xa4 (xd8 (i:=1) xp4.nd rfl (Or.inl rfl) (xb0 G_law_cell_at (hr.mono (by decide)) (by rfl) T.ef3 T.ed3.kp T.ee3 .nil xb6 (xa0 (pv 0) (xa0 xa9 xa6))))
   (xa4 (xd8 (i:=2) xp4.nd rfl (Or.inl rfl) (xo3 (yc5 K) (yd1 (hp1 _ (hu1 hr))) (xr3 (xc6 xg4 (xc6 xf8 (xc6 xv7 (pv 1) xa9) xa9) xa9)) xr4))
   (xa4 (xd8 (i:=2) xp4.nd rfl (Or.inl rfl) (xo3 (yc5 K) (pv 2) xr4 (xr3 xa9)))
   (xa4 (xd8 (i:=3) xp4.nd rfl (Or.inl rfl) (pe_make0 T.ey1 G_Board_init (hr.mono (by decide)) (by rfl) T.eo4 T.ex1 .nil xb6))
   (xa4 (xm2 PassesOwn.never rfl (xk8 K (pv 2)) (xd5 (i:=4) xp4.nd rfl (Or.inl rfl)) (xa5 (xd0 (xi3 (pv 3) T.en4 T.ek2 G_Board_move (hr.mono (by decide)) T.ej2 .nil xb6 (xa0 (pv 4) (xa0 xa9 xa6))))))
   (xa4 (xd8 (i:=5) xp4.nd rfl (Or.inl rfl) xp6)
   (xa4 (xd8 (i:=6) xp4.nd rfl (Or.inl rfl) (pe_disp (yd0 xc9 xk9 (yd0 xc9 xk9 (yd0 xc9 xk9 pps_nil))) rfl rfl (by simp) (by decide)))
   (xa4 (xm2 PassesOwn.never rfl (yx6 (by rfl) T.ek6 (xa0 xa9 (xa0 (xc0 (zd6 rfl) (by rfl) T.ej6 boot_min (xa0 (xc0 (xy0 K) (by rfl) T.eh6 PySem.boot_len (xa0 (pv 0) xa6)) (xa0 xa9 xa6))) xa6))) (xd5 (i:=7) xp4.nd rfl (Or.inl rfl)) (xa4 (xg1 (xi8 (xh3 (xb0 G_law_deed (hr.mono (by decide)) (by rfl) T.ed4 T.eb4.kp T.ec4 .nil xb6 (xa0 (pv 3) (xa0 (pv 5) (xa0 (pv 6) (xa0 (xb0 G_law_drawn (hr.mono (by decide)) (by rfl) T.ei3 T.eg3.kp T.eh3 .nil xb6 (xa0 (pv 0) (xa0 (pv 7) xa6))) (xa0 (pv 1) xa6)))))))) (xa5 (xb7 xv4)) xb9)
   (xa5 (xg1 (xi8 (xh3 (xb0 G_law_right (hr.mono (by decide)) (by rfl) T.ej4 T.eh4.kp T.ei4 .nil xb6 (xa0 (pv 3) (xa0 (pv 6) (xa0 (pv 2) (xa0 (pv 1) xa6))))))) (xa5 (xb7 xv4)) xb9))))
   (xa5 (xb7 (xb0 G_law_right (hr.mono (by decide)) (by rfl) T.ej4 T.eh4.kp T.ei4 .nil xb6 (xa0 (pv 3) (xa0 (pv 6) (xa0 (pv 2) (xa0 (pv 1) xa6))))))))))))))),?_⟩
  refine xa7 (fun σ' G=>∃ fm:Int,σ' = [some (.ref a),some (.int fm),none,none,none,none,none,none] /\ G = H) (fun N hN=>?_) ?_
  ·exact ⟨_,rfl,a,ns,0,rfl,hS,by decide,fun v=>hN _ _ ⟨v,rfl,rfl⟩⟩
  rintro σ1 H1 ⟨fm,rfl,rfl⟩
  refine xa7 (fun σ' G=>∃ L xs o1 o2 o3,σ' = [some (.ref a),some (.int fm),some (.ref L),none,none,none,none,none] /\ Same H1 G /\ G L = some (.lst xs) /\ xs.take 3 = [.str o1,.str o2,.str o3] /\ Rot o1 o2 o3) (fun N hN=>?_) ?_
  ·refine m1 _ _ _ trivial (Same.refl _) fun ys G0 l5 s0 hr5=>⟨by rw [l5]; decide,fun p hp=>?_⟩
   obtain rfl:ys = five:=list_of l5 hr5
   have sp:=s0.trans (Same.new (o:=HO.lst [V.str f1T,V.str f2T,V.str f3T,V.str f1T,V.str f2T]) hp)
   have fp:(upd G0 p (HO.lst [V.str f1T,V.str f2T,V.str f3T,V.str f1T,V.str f2T])) p = some (HO.lst [V.str f1T,V.str f2T,V.str f3T,V.str f1T,V.str f2T]):=xa1
   generalize upd G0 p (HO.lst [V.str f1T,V.str f2T,V.str f3T,V.str f1T,V.str f2T]) = G1 at sp fp ⊢
   refine ⟨_,rfl,_,_,rfl,rfl,.inr ⟨by decide,by decide⟩,_,_,rfl,rfl,⟨by decide,by decide⟩,_,_,rfl,rfl,(by show (0:Int) < 3; decide),_,rfl,p,_,rfl,SqL.of fp,fun M hM=>?_⟩
   have m0:=Int.emod_nonneg (fm * 7919 / 5) (show (3:Int) ≠ 0 by decide)
   have m1:=Int.emod_lt_of_pos (fm * 7919 / 5) (show (0:Int) < 3 by decide)
   have sM:=sp.trans (Same.new (o:=HO.lst (cutV [V.str f1T,V.str f2T,V.str f3T,V.str f1T,V.str f2T] (some (fm * 7919 / 5 % 3)) none)) hM)
   rcases (show fm * 7919 / 5 % 3 = 0 \/ fm * 7919 / 5 % 3 = 1 \/ fm * 7919 / 5 % 3 = 2 by omega) with e | e | e
   ·exact hN _ _ ⟨M,_,f1T,f2T,f3T,rfl,sM,xa1,by rw [e]; rfl,.inl ⟨rfl,rfl,rfl⟩⟩
   ·exact hN _ _ ⟨M,_,f2T,f3T,f1T,rfl,sM,xa1,by rw [e]; rfl,.inr (.inl ⟨rfl,rfl,rfl⟩)⟩
   ·exact hN _ _ ⟨M,_,f3T,f1T,f2T,rfl,sM,xa1,by rw [e]; rfl,.inr (.inr ⟨rfl,rfl,rfl⟩)⟩
  rintro σ2 H2 ⟨L,xs,o1,o2,o3,rfl,s2,gL,tk,rot⟩
  obtain ⟨h1,h2,h3,n12,n13,n23,hall⟩:=rot_fdr rot
  refine xa7 (fun σ' G=>∃ O,σ' = [some (.ref a),some (.int fm),some (.ref O),none,none,none,none,none] /\ Same H1 G /\ G O = some (.lst [.str o1,.str o2,.str o3])) (fun N hN=>?_) ?_
  ·refine ⟨_,rfl,3,rfl,L,_,rfl,SqL.of gL,fun O hO=>hN _ _ ⟨O,rfl,s2.trans (Same.new hO),?_⟩⟩
   rw [xa1,show (3:Int) = ((3:Nat):Int) from rfl,yr2,tk]
  rintro σ3 H3 ⟨O,rfl,s3,gO⟩
  refine xa7 (fun σ' G=>∃ x F L Gr D S,σ' = [some (.ref a),some (.int fm),some (.ref O),some (.ref x),none,none,none,none] /\ Kp H3 G /\ BoardAt A G x ⟨F,L,Gr,D,S,[],[],[],[],[]⟩ /\ Bd.Nd ⟨F,L,Gr,D,S,[],[],[],[],[]⟩) (fun N hN=>?_) ?_
  ·intro x dx hx hdx ne
   refine ⟨x,dx,rfl,xa1,fun F L Gr D S G i=>⟨rfl,hN _ _ ⟨x,F,L,Gr,D,S,rfl,fun b o e _ _=>?_,?_,?_⟩⟩⟩
   ·have n1:b ≠ x:=fun z=>by rw [z,hx] at e; cases e
    have n2:b ≠ dx:=fun z=>by rw [z,hdx] at e; cases e
    exact i.kp _ _ n1 (by rw [xa3 n1,xa3 n2]; exact e)
   ·exact ⟨⟨dx,i.obj⟩,(i.made (F,.dK []) (by simp)).2,(fun e he=>nomatch he),(i.made (L,.dK []) (by simp)).2,(i.made (Gr,.dK []) (by simp)).2,(fun e he=>nomatch he),(i.made (D,.dK []) (by simp)).2,(i.made (S,.dT []) (by simp)).2⟩
   ·have nd:=i.nd
    simp only [List.map_cons,List.map_nil,List.nodup_cons,List.mem_cons,List.not_mem_nil,or_false,not_or] at nd
    exact ⟨List.nodup_nil,List.nodup_nil,(fun e he=>nomatch he),nd.1.1,nd.1.2.1,nd.1.2.2.1,nd.2.1.1,nd.2.1.2.1,nd.2.2.1.1⟩
  rintro σ4 H4 ⟨x,F,L4,Gr,D,S,rfl,k4,hb4,nd4⟩
  refine xa7 (fun σ' G=>∃ v4,σ' = [some (.ref a),some (.int fm),some (.ref O),some (.ref x),v4,none,none,none] /\ Kp H3 G /\ BoardAt A G x ⟨F,L4,Gr,D,S,[],lvT [o1,o2,o3],[],[],[]⟩) (fun N hN=>?_) ?_
  ·refine ⟨_,rfl,O,rfl,⟨_,SqL.of (k4.lst gO)⟩,?_⟩
   refine xj3 (K:=K) (a:=O) (xs:=[V.str o1,V.str o2,V.str o3]) (fun i σ' G=>∃ v4,σ' = [some (.ref a),some (.int fm),some (.ref O),some (.ref x),v4,none,none,none] /\ Kp H3 G /\ BoardAt A G x ⟨F,L4,Gr,D,S,[],lvT ([o1,o2,o3].take i),[],[],[]⟩) ⟨_,rfl,k4,hb4⟩ ?_ ?_ ?_
   ·rintro i σ' G _ ⟨v4,_,kG,_⟩
    exact SqL.of (kG.lst gO)
   ·rintro i v σ' G hv ⟨v4,rfl,kG,hb⟩
    obtain ⟨o,rfl,ho,hf⟩:∃ o,v = .str o /\ [o1,o2,o3][i]? = some o /\ Fdr o:=by
     rcases i with _ | _ | _ | i
     ·cases hv; exact ⟨o1,rfl,rfl,h1⟩
     ·cases hv; exact ⟨o2,rfl,rfl,h2⟩
     ·cases hv; exact ⟨o3,rfl,rfl,h3⟩
     ·cases hv
    obtain ⟨dx,hx⟩:=hb.obj
    refine ⟨_,rfl,x,dx,_,rfl,hx,rfl,_,rfl,x,_,_,rfl,.inl ⟨_,o,1000,rfl,rfl,xm7 hf,lt1 (xm7 hf),by decide,by decide,hb,nd4.lv_ _,?_,fun G2 hb2 st=>⟨_,rfl,kG.trans (yz9 hb.lev st),?_⟩⟩⟩
    ·show (lvT ([o1,o2,o3].take i)).length <= 100
     rw [List.length_map,List.length_take]
     exact Nat.le_trans (Nat.min_le_right _ _) (by show 3 <= 100; decide)
    ·rw [<- lv_step rot ho]; exact hb2
   ·rintro σ' G ⟨v4,rfl,kG,hb⟩
    exact hN _ _ ⟨v4,rfl,kG,hb⟩
  rintro σ5 H5 ⟨v4,rfl,k5,hb5⟩
  refine xd6 (fun σ' G=>∃ GD HD d,σ' = [some (.ref a),some (.int fm),some (.ref O),some (.ref x),v4,some (.ref GD),some (.ref HD),none] /\ Kp H3 G /\ W6 A G fm x ⟨F,L4,Gr,D,S,[],lvT [o1,o2,o3],[],[],[]⟩ GD [] HD d (xa8 ⟨F,L4,Gr,D,S,[],lvT [o1,o2,o3],[],[],[]⟩)) (fun N hN=>?_) ?_
  ·intro GD hG
   have sA:=Same.new (o:=HO.dK []) hG
   have fG:(upd H5 GD (HO.dK [])) GD = some (HO.dK []):=xa1
   have nG:∀ {b':Addr} {o:HO},H5 b' = some o -> b' ≠ GD:=fun {b' o} e z=>by rw [z,hG] at e; cases e
   generalize upd H5 GD (HO.dK []) = G1 at sA fG ⊢
   intro HD hH
   have sB:=Same.new (o:=HO.dK []) hH
   have fH:(upd G1 HD (HO.dK [])) HD = some (HO.dK []):=xa1
   have nH:∀ {b':Addr} {o:HO},G1 b' = some o -> b' ≠ HD:=fun {b' o} e z=>by rw [z,hH] at e; cases e
   generalize upd G1 HD (HO.dK []) = G2 at sB fH ⊢
   intro d1 hd1
   have sC:=Same.new (o:=HO.dT []) hd1
   have f1:(upd G2 d1 (HO.dT [])) d1 = some (HO.dT []):=xa1
   have n1:∀ {b':Addr} {o:HO},G2 b' = some o -> b' ≠ d1:=fun {b' o} e z=>by rw [z,hd1] at e; cases e
   generalize upd G2 d1 (HO.dT []) = G3 at sC f1 ⊢
   intro d2 hd2
   have sD:=Same.new (o:=HO.dT []) hd2
   have f2:(upd G3 d2 (HO.dT [])) d2 = some (HO.dT []):=xa1
   have n2:∀ {b':Addr} {o:HO},G3 b' = some o -> b' ≠ d2:=fun {b' o} e z=>by rw [z,hd2] at e; cases e
   generalize upd G3 d2 (HO.dT []) = G4 at sD f2 ⊢
   intro d3 hd3
   have sE:=Same.new (o:=HO.dT []) hd3
   have f3:(upd G4 d3 (HO.dT [])) d3 = some (HO.dT []):=xa1
   have n3:∀ {b':Addr} {o:HO},G4 b' = some o -> b' ≠ d3:=fun {b' o} e z=>by rw [z,hd3] at e; cases e
   generalize upd G4 d3 (HO.dT []) = G5 at sE f3 ⊢
   have s15:Same G1 G5:=((sB.trans sC).trans sD).trans sE
   have s05:Same H5 G5:=sA.trans s15
   have fH5:G5 HD = some (HO.dK []):=sE _ _ (sD _ _ (sC _ _ fH))
   refine ⟨fH5,[(.inr f1T,V.ref d1),(.inr f2T,V.ref d2),(.inr f3T,V.ref d3)],rfl,(by show 3 <= 15; decide),?_⟩
   rw [yu5]
   have hb:=hb5.keep s05
   have hx:=sA
   have bF:=hb5.fill
   have kp:∀ {b':Addr} {o:HO},b' ≠ HD -> G5 b' = some o -> (upd G5 HD (.dK (yu6 (dOf d1 d2 d3)))) b' = some o:=fun {b' o} n e=>by rw [xa3 n]; exact e
   have nFH:F ≠ HD:=nH (sA _ _ hb5.fill)
   have nLH:L4 ≠ HD:=nH (sA _ _ hb5.lev)
   have nGH:Gr ≠ HD:=nH (sA _ _ hb5.grp)
   have nDH:D ≠ HD:=nH (sA _ _ hb5.dwn)
   have c12:d1 ≠ d2:=n2 f1
   have c13:d1 ≠ d3:=n3 (sD _ _ f1)
   have c23:d2 ≠ d3:=n3 f2
   have nS1:S ≠ d1:=n1 (sB _ _ (sA _ _ hb5.spr))
   have nS2:S ≠ d2:=n2 (sC _ _ (sB _ _ (sA _ _ hb5.spr)))
   have nS3:S ≠ d3:=n3 (sD _ _ (sC _ _ (sB _ _ (sA _ _ hb5.spr))))
   have bk:Bk fm ⟨F,L4,Gr,D,S,[],lvT [o1,o2,o3],[],[],[]⟩:=⟨(fun e he=>nomatch he),(fun e he=>nomatch he),(fun e he=>nomatch he),⟨o1,o2,o3,h1,h2,h3,n12,n13,n23,rfl⟩,rfl,rfl,(fun e he=>nomatch he)⟩
   refine hN _ _ ⟨GD,HD,dOf d1 d2 d3,rfl,(k5.trans (Kp.same s05)).trans (yz9 fH5 fun b' o n e=>kp n e),{ bd:=hb.updK fH5 nFH nLH nGH nDH,nd:=nd4.lv_ _,bk:=bk,grd:=kp (nH fG) (s15 _ _ fG),grl:=(fun e he=>nomatch he),hld:=xa1,hd:=fun f hf=>?_,inj:=fun f g hf hg q=>?_,dS:=fun f hf=>?_,di:=(fun f hf e he=>nomatch he),gF:=nG hb5.fill,gL:=nG hb5.lev,gG:=nG hb5.grp,gD:=nG hb5.dwn,gH:=Ne.symm (nH fG),hF:=nFH,hL:=nLH,hG:=nGH,hD:=nDH }⟩
   ·rcases hf with rfl | rfl | rfl
    ·rw [d_1]; exact kp (Ne.symm (n1 fH)) (sE _ _ (sD _ _ f1))
    ·rw [d_2]; exact kp (Ne.symm (n2 (sC _ _ fH))) (sE _ _ f2)
    ·rw [d_3]; exact kp (Ne.symm (n3 (sD _ _ (sC _ _ fH)))) f3
   ·rcases hf with rfl | rfl | rfl <;> rcases hg with rfl | rfl | rfl <;> simp only [d_1,d_2,d_3] at q <;> first | rfl | exact absurd q c12 | exact absurd q c13 | exact absurd q c23 | exact absurd q.symm c12 | exact absurd q.symm c13 | exact absurd q.symm c23
   ·rcases hf with rfl | rfl | rfl
    ·rw [d_1]; exact nS1
    ·rw [d_2]; exact nS2
    ·rw [d_3]; exact nS3
  rintro σ6 H6 ⟨GD,HD,d,rfl,k6,w6⟩
  have kS:∀ {G:Hp},Kp H6 G -> SqL K G a (ns.map V.int):=fun kG=>((Kp.same s3).trans (k6.trans kG)).seq hS
  have kO:∀ {G:Hp},Kp H6 G -> SqL K G O [.str o1,.str o2,.str o3]:=fun kG=>SqL.of ((k6.trans kG).lst gO)
  have ordOf:∀ {b:Bd},b.lv = lvT [o1,o2,o3] -> Ord3 b o1 o2 o3:=fun e=>⟨h1,h2,h3,hall,e⟩
  refine xa7 (fun σ' G=>∃ v7 b lg,σ' = [some (.ref a),some (.int fm),some (.ref O),some (.ref x),v4,some (.ref GD),some (.ref HD),v7] /\ Kp H6 G /\ W6 A G fm x b GD lg HD d (xa8 b) /\ b.lv = lvT [o1,o2,o3]) (fun N hN=>?_) ?_
  ·refine ⟨_,rfl,a,_,rfl,.inl (kS (Kp.refl _)),_,_,rfl,?_⟩
   obtain ⟨m,hm,m1,m2⟩:∃ m:Nat,(if (49:Int) < ((ns.map V.int).length:Int) then (49:Int) else ((ns.map V.int).length:Int)) = (m:Int) /\ m <= 49 /\ m <= ns.length:=by
    rw [List.length_map]
    by_cases c:(49:Int) < (ns.length:Int)
    ·exact ⟨49,if_pos c,by omega,by omega⟩
    ·exact ⟨ns.length,if_neg c,by omega,by omega⟩
   rw [hm]
   refine ⟨_,_,rfl,⟨by decide,by decide,by omega,by omega⟩,?_⟩
   refine yj2 (lo:=1) (n:=((m:Int) - 1).toNat) (fun i σ' G=>∃ v7 b lg,σ' = [some (.ref a),some (.int fm),some (.ref O),some (.ref x),v4,some (.ref GD),some (.ref HD),v7] /\ Kp H6 G /\ W6 A G fm x b GD lg HD d (xa8 b) /\ b.lv = lvT [o1,o2,o3] /\ GrE lg b.gr /\ b.gr.length <= i) ⟨_,_,_,rfl,Kp.refl _,w6,rfl,⟨rfl,List.nodup_nil⟩,Nat.le_refl _⟩ ?_ ?_
   ·rintro i σ' G hi ⟨v7,b,lg,rfl,kG,wG,lvG,ge,gi⟩
    rw [show (1:Int) + (i:Int) = ((i + 1:Nat):Int) by push_cast; omega]
    refine xa7 (fun σ' G2=>∃ b' lg',σ' = [some (.ref a),some (.int fm),some (.ref O),some (.ref x),v4,some (.ref GD),some (.ref HD),some (.int ((i + 1:Nat):Int))] /\ Kp H6 G2 /\ W6 A G2 fm x b' GD lg' HD d (xa8 b') /\ b'.lv = lvT [o1,o2,o3] /\ GrE lg' b'.gr /\ b'.gr.length <= i + 1) (fun N2 hN2=>?_) ?_
    ·exact ⟨_,rfl,_,rfl,_,rfl,_,rfl,_,rfl,a,ns,i + 1,rfl,kS kG,by omega,hlen,fun n n0=>⟨_,rfl,x,GD,HD,n,fm,b,lg,d,i,rfl,n0,wG,ge,gi,by omega,fun b' lg' G2 w2 ge2 gi2 lv2 kp2=>⟨_,rfl,iteF (hN2 _ _ ⟨b',lg',rfl,kG.trans kp2,w2,lv2.trans lvG,ge2,gi2⟩)⟩⟩⟩
    rintro σ7 G7 ⟨b',lg',rfl,k7,w7,lv7,ge7,gi7⟩
    exact ⟨_,rfl,_,rfl,_,rfl,_,rfl,x,HD,O,GD,fm,b',lg',d,o1,o2,o3,rfl,w7,ordOf lv7,kO k7,fun G8 s8=>⟨_,rfl,iteF ⟨_,b',lg',rfl,k7.trans (Kp.same s8),w7.keep s8,lv7,ge7,gi7⟩⟩⟩
   ·rintro σ' G ⟨v7,b,lg,rfl,kG,wG,lvG,_,_⟩
    exact hN _ _ ⟨v7,b,lg,rfl,kG,wG,lvG⟩
  rintro σ7 H7 ⟨v7,b,lg,rfl,k7,w7,lv7⟩
  exact ⟨_,rfl,_,rfl,_,rfl,_,rfl,x,HD,O,GD,fm,b,lg,d,o1,o2,o3,rfl,w7,ordOf lv7,kO k7,fun G8 _=>k _⟩
theorem all_mk {l:PySem.W.OpenLaw} {w:World} {K:Frag} {h:Heap} {mg:Str -> Option Value} (X:K.In h) (G:h.Ns mainGlobals mg) {C_NoName:Addr} {C_NoWorth:Addr} {C_NoSlot:Addr} {C_LampError:Addr} {C_Board:Addr} {fa:Addr} {f0:Addr} {od0 an0:Option Addr} {sl0:Array (Option Value)} {oc0 kV0 dc0 pm0 cd0 ct0:Value} {f1:Addr} {od1 an1:Option Addr} {sl1:Array (Option Value)} {oc1 kV1 dc1 pm1 cd1 ct1:Value} {f2:Addr} {od2 an2:Option Addr} {sl2:Array (Option Value)} {oc2 kV2 dc2 pm2 cd2 ct2:Value} {f3:Addr} {od3 an3:Option Addr} {sl3:Array (Option Value)} {oc3 kV3 dc3 pm3 cd3 ct3:Value} {f4:Addr} {od4 an4:Option Addr} {sl4:Array (Option Value)} {oc4 kV4 dc4 pm4 cd4 ct4:Value} {f5:Addr} {od5 an5:Option Addr} {sl5:Array (Option Value)} {oc5 kV5 dc5 pm5 cd5 ct5:Value} {f6:Addr} {od6 an6:Option Addr} {sl6:Array (Option Value)} {oc6 kV6 dc6 pm6 cd6 ct6:Value} {f7:Addr} {od7 an7:Option Addr} {sl7:Array (Option Value)} {oc7 kV7 dc7 pm7 cd7 ct7:Value} {f8:Addr} {od8 an8:Option Addr} {sl8:Array (Option Value)} {oc8 kV8 dc8 pm8 cd8 ct8:Value} {f9:Addr} {od9 an9:Option Addr} {sl9:Array (Option Value)} {oc9 kV9 dc9 pm9 cd9 ct9:Value} {f10:Addr} {od10 an10:Option Addr} {sl10:Array (Option Value)} {oc10 kV10 dc10 pm10 cd10 ct10:Value} {f11:Addr} {od11 an11:Option Addr} {sl11:Array (Option Value)} {oc11 kV11 dc11 pm11 cd11 ct11:Value} {f12:Addr} {od12 an12:Option Addr} {sl12:Array (Option Value)} {oc12 kV12 dc12 pm12 cd12 ct12:Value} {f13:Addr} {od13 an13:Option Addr} {sl13:Array (Option Value)} {oc13 kV13 dc13 pm13 cd13 ct13:Value} {f14:Addr} {od14 an14:Option Addr} {sl14:Array (Option Value)} {oc14 kV14 dc14 pm14 cd14 ct14:Value} {f15:Addr} {od15 an15:Option Addr} {sl15:Array (Option Value)} {oc15 kV15 dc15 pm15 cd15 ct15:Value} {f16:Addr} {od16 an16:Option Addr} {sl16:Array (Option Value)} {oc16 kV16 dc16 pm16 cd16 ct16:Value} {f17:Addr} {od17 an17:Option Addr} {sl17:Array (Option Value)} {oc17 kV17 dc17 pm17 cd17 ct17:Value} {f18:Addr} {od18 an18:Option Addr} {sl18:Array (Option Value)} {oc18 kV18 dc18 pm18 cd18 ct18:Value} {f19:Addr} {od19 an19:Option Addr} {sl19:Array (Option Value)} {oc19 kV19 dc19 pm19 cd19 ct19:Value} {f20:Addr} {od20 an20:Option Addr} {sl20:Array (Option Value)} {oc20 kV20 dc20 pm20 cd20 ct20:Value} {f21:Addr} {od21 an21:Option Addr} {sl21:Array (Option Value)} {oc21 kV21 dc21 pm21 cd21 ct21:Value} {f22:Addr} {od22 an22:Option Addr} {sl22:Array (Option Value)} {oc22 kV22 dc22 pm22 cd22 ct22:Value} {f23:Addr} {od23 an23:Option Addr} {sl23:Array (Option Value)} {oc23 kV23 dc23 pm23 cd23 ct23:Value} {f24:Addr} {od24 an24:Option Addr} {sl24:Array (Option Value)} {oc24 kV24 dc24 pm24 cd24 ct24:Value} {f25:Addr} {od25 an25:Option Addr} {sl25:Array (Option Value)} {oc25 kV25 dc25 pm25 cd25 ct25:Value} {f26:Addr} {od26 an26:Option Addr} {sl26:Array (Option Value)} {oc26 kV26 dc26 pm26 cd26 ct26:Value} {f27:Addr} {od27 an27:Option Addr} {sl27:Array (Option Value)} {oc27 kV27 dc27 pm27 cd27 ct27:Value} {f28:Addr} {od28 an28:Option Addr} {sl28:Array (Option Value)} {oc28 kV28 dc28 pm28 cd28 ct28:Value} {f29:Addr} {od29 an29:Option Addr} {sl29:Array (Option Value)} {oc29 kV29 dc29 pm29 cd29 ct29:Value} {f30:Addr} {od30 an30:Option Addr} {sl30:Array (Option Value)} {oc30 kV30 dc30 pm30 cd30 ct30:Value} {f31:Addr} {od31 an31:Option Addr} {sl31:Array (Option Value)} {oc31 kV31 dc31 pm31 cd31 ct31:Value} {f32:Addr} {od32 an32:Option Addr} {sl32:Array (Option Value)} {oc32 kV32 dc32 pm32 cd32 ct32:Value} {f33:Addr} {od33 an33:Option Addr} {sl33:Array (Option Value)} {oc33 kV33 dc33 pm33 cd33 ct33:Value} {f34:Addr} {od34 an34:Option Addr} {sl34:Array (Option Value)} {oc34 kV34 dc34 pm34 cd34 ct34:Value} {f35:Addr} {od35 an35:Option Addr} {sl35:Array (Option Value)} {oc35 kV35 dc35 pm35 cd35 ct35:Value} {f36:Addr} {od36 an36:Option Addr} {sl36:Array (Option Value)} {oc36 kV36 dc36 pm36 cd36 ct36:Value} {f37:Addr} {od37 an37:Option Addr} {sl37:Array (Option Value)} {oc37 kV37 dc37 pm37 cd37 ct37:Value} {f38:Addr} {od38 an38:Option Addr} {sl38:Array (Option Value)} {oc38 kV38 dc38 pm38 cd38 ct38:Value} {tkc_LETTERS:Tok} {tkc_MOST_LETTERS:Tok} {tkc_MOST_WORTH:Tok} {tkc_MOST_LEVEL:Tok} {tkc_LOOK:Tok} {S_SIDES:Addr} {so_SIDES:Option Addr} {sn_SIDES:Nat} {ss_SIDES:Array (Option Value)} {sk_SIDES_0 sk_SIDES_1 sk_SIDES_2 sk_SIDES_3 sk_SIDES_4 sk_SIDES_5:Tok} (hfa:mg "law" = some (.ref fa))
  (aC_LampError:nsIn K mainGlobals "LampError" = some (some (.ref C_LampError)))
  (aC_NoSlot:nsIn K mainGlobals "NoSlot" = some (some (.ref C_NoSlot)))
  (aC_NoWorth:nsIn K mainGlobals "NoWorth" = some (some (.ref C_NoWorth)))
  (aC_NoName:nsIn K mainGlobals "NoName" = some (some (.ref C_NoName)))
  (aC_Board:nsIn K mainGlobals "Board" = some (some (.ref C_Board)))
  (a0:nsIn K mainGlobals "is_whole" = some (some (.ref f0)))
  (l0:K.lookup f0 = some ⟨oc0,od0,.func (fnOf "is_whole" "is_whole" (xb4 xj9) (xb3 xj9) (xa2 xj9) .none kV0 dc0 pm0 an0 cd0 ct0),sl0⟩)
  (c0:codeIn K cd0 "is_whole" = true)
  (k0:keepIn K (.ref f0) = true)
  (a1:nsIn K mainGlobals "is_lamp" = some (some (.ref f1)))
  (l1:K.lookup f1 = some ⟨oc1,od1,.func (fnOf "is_lamp" "is_lamp" (xb4 xm1) (xb3 xm1) (xa2 xm1) .none kV1 dc1 pm1 an1 cd1 ct1),sl1⟩)
  (c1:codeIn K cd1 "is_lamp" = true)
  (k1:keepIn K (.ref f1) = true)
  (a2:nsIn K mainGlobals "is_side" = some (some (.ref f2)))
  (l2:K.lookup f2 = some ⟨oc2,od2,.func (fnOf "is_side" "is_side" (xb4 xm0) (xb3 xm0) (xa2 xm0) .none kV2 dc2 pm2 an2 cd2 ct2),sl2⟩)
  (c2:codeIn K cd2 "is_side" = true)
  (k2:keepIn K (.ref f2) = true)
  (a3:nsIn K mainGlobals "is_slot" = some (some (.ref f3)))
  (l3:K.lookup f3 = some ⟨oc3,od3,.func (fnOf "is_slot" "is_slot" (xb4 xl9) (xb3 xl9) (xa2 xl9) .none kV3 dc3 pm3 an3 cd3 ct3),sl3⟩)
  (c3:codeIn K cd3 "is_slot" = true)
  (k3:keepIn K (.ref f3) = true)
  (a4:nsIn K mainGlobals "is_bright" = some (some (.ref f4)))
  (l4:K.lookup f4 = some ⟨oc4,od4,.func (fnOf "is_bright" "is_bright" (xb4 xi2) (xb3 xi2) (xa2 xi2) .none kV4 dc4 pm4 an4 cd4 ct4),sl4⟩)
  (c4:codeIn K cd4 "is_bright" = true)
  (k4:keepIn K (.ref f4) = true)
  (a5:nsIn K mainGlobals "is_worth" = some (some (.ref f5)))
  (l5:K.lookup f5 = some ⟨oc5,od5,.func (fnOf "is_worth" "is_worth" (xb4 xj8) (xb3 xj8) (xa2 xj8) .none kV5 dc5 pm5 an5 cd5 ct5),sl5⟩)
  (c5:codeIn K cd5 "is_worth" = true)
  (k5:keepIn K (.ref f5) = true)
  (a6:nsIn K mainGlobals "refuse_slot" = some (some (.ref f6)))
  (l6:K.lookup f6 = some ⟨oc6,od6,.func (fnOf "refuse_slot" "refuse_slot" (xb4 xf1) (xb3 xf1) (xa2 xf1) .none kV6 dc6 pm6 an6 cd6 ct6),sl6⟩)
  (c6:codeIn K cd6 "refuse_slot" = true)
  (k6:keepIn K (.ref f6) = true)
  (a7:nsIn K mainGlobals "refuse_worth" = some (some (.ref f7)))
  (l7:K.lookup f7 = some ⟨oc7,od7,.func (fnOf "refuse_worth" "refuse_worth" (xb4 xe3) (xb3 xe3) (xa2 xe3) .none kV7 dc7 pm7 an7 cd7 ct7),sl7⟩)
  (c7:codeIn K cd7 "refuse_worth" = true)
  (k7:keepIn K (.ref f7) = true)
  (a8:nsIn K mainGlobals "has_slots_as_keys" = some (some (.ref f8)))
  (l8:K.lookup f8 = some ⟨oc8,od8,.func (fnOf "has_slots_as_keys" "has_slots_as_keys" (xb4 xc4) (xb3 xc4) (xa2 xc4) .none kV8 dc8 pm8 an8 cd8 ct8),sl8⟩)
  (c8:codeIn K cd8 "has_slots_as_keys" = true)
  (k8:keepIn K (.ref f8) = true)
  (a9:nsIn K mainGlobals "is_level" = some (some (.ref f9)))
  (l9:K.lookup f9 = some ⟨oc9,od9,.func (fnOf "is_level" "is_level" (xb4 xk0) (xb3 xk0) (xa2 xk0) .none kV9 dc9 pm9 an9 cd9 ct9),sl9⟩)
  (c9:codeIn K cd9 "is_level" = true)
  (k9:keepIn K (.ref f9) = true)
  (a10:nsIn K mainGlobals "refuse_level" = some (some (.ref f10)))
  (l10:K.lookup f10 = some ⟨oc10,od10,.func (fnOf "refuse_level" "refuse_level" (xb4 xe4) (xb3 xe4) (xa2 xe4) .none kV10 dc10 pm10 an10 cd10 ct10),sl10⟩)
  (c10:codeIn K cd10 "refuse_level" = true)
  (k10:keepIn K (.ref f10) = true)
  (a11:nsIn K mainGlobals "amount" = some (some (.ref f11)))
  (l11:K.lookup f11 = some ⟨oc11,od11,.func (fnOf "amount" "amount" (xb4 xo2) (xb3 xo2) (xa2 xo2) .none kV11 dc11 pm11 an11 cd11 ct11),sl11⟩)
  (c11:codeIn K cd11 "amount" = true)
  (k11:keepIn K (.ref f11) = true)
  (a12:nsIn K mainGlobals "lowered" = some (some (.ref f12)))
  (l12:K.lookup f12 = some ⟨oc12,od12,.func (fnOf "lowered" "lowered" (xb4 xl7) (xb3 xl7) (xa2 xl7) .none kV12 dc12 pm12 an12 cd12 ct12),sl12⟩)
  (c12:codeIn K cd12 "lowered" = true)
  (k12:keepIn K (.ref f12) = true)
  (a13:nsIn K mainGlobals "refuse_name" = some (some (.ref f13)))
  (l13:K.lookup f13 = some ⟨oc13,od13,.func (fnOf "refuse_name" "refuse_name" (xb4 xf2) (xb3 xf2) (xa2 xf2) .none kV13 dc13 pm13 an13 cd13 ct13),sl13⟩)
  (c13:codeIn K cd13 "refuse_name" = true)
  (k13:keepIn K (.ref f13) = true)
  (a14:nsIn K mainGlobals "refuse_lamps" = some (some (.ref f14)))
  (l14:K.lookup f14 = some ⟨oc14,od14,.func (fnOf "refuse_lamps" "refuse_lamps" (xb4 xe5) (xb3 xe5) (xa2 xe5) .none kV14 dc14 pm14 an14 cd14 ct14),sl14⟩)
  (c14:codeIn K cd14 "refuse_lamps" = true)
  (k14:keepIn K (.ref f14) = true)
  (a15:nsIn K mainGlobals "refuse_look" = some (some (.ref f15)))
  (l15:K.lookup f15 = some ⟨oc15,od15,.func (fnOf "refuse_look" "refuse_look" (xb4 xf3) (xb3 xf3) (xa2 xf3) .none kV15 dc15 pm15 an15 cd15 ct15),sl15⟩)
  (c15:codeIn K cd15 "refuse_look" = true)
  (k15:keepIn K (.ref f15) = true)
  (a16:findIn K (.ref C_Board) "__init__" = some (some (.ref f16)))
  (i16:isFn K (.ref f16) = true)
  (l16:K.lookup f16 = some ⟨oc16,od16,.func (fnOf "__init__" "Board.__init__" (xb4 xg9) (xb3 xg9) (xa2 xg9) .none kV16 dc16 pm16 an16 cd16 ct16),sl16⟩)
  (c16:codeIn K cd16 "Board.__init__" = true)
  (k16:keepIn K (.ref f16) = true)
  (a17:findIn K (.ref C_Board) "fill" = some (some (.ref f17)))
  (i17:isFn K (.ref f17) = true)
  (l17:K.lookup f17 = some ⟨oc17,od17,.func (fnOf "fill" "Board.fill" (xb4 xh0) (xb3 xh0) (xa2 xh0) .none kV17 dc17 pm17 an17 cd17 ct17),sl17⟩)
  (c17:codeIn K cd17 "Board.fill" = true)
  (k17:keepIn K (.ref f17) = true)
  (a18:findIn K (.ref C_Board) "group" = some (some (.ref f18)))
  (i18:isFn K (.ref f18) = true)
  (l18:K.lookup f18 = some ⟨oc18,od18,.func (fnOf "group" "Board.group" (xb4 xf7) (xb3 xf7) (xa2 xf7) .none kV18 dc18 pm18 an18 cd18 ct18),sl18⟩)
  (c18:codeIn K cd18 "Board.group" = true)
  (k18:keepIn K (.ref f18) = true)
  (a19:findIn K (.ref C_Board) "fill_group" = some (some (.ref f19)))
  (i19:isFn K (.ref f19) = true)
  (l19:K.lookup f19 = some ⟨oc19,od19,.func (fnOf "fill_group" "Board.fill_group" (xb4 xc8) (xb3 xc8) (xa2 xc8) .none kV19 dc19 pm19 an19 cd19 ct19),sl19⟩)
  (c19:codeIn K cd19 "Board.fill_group" = true)
  (k19:keepIn K (.ref f19) = true)
  (a20:findIn K (.ref C_Board) "move" = some (some (.ref f20)))
  (i20:isFn K (.ref f20) = true)
  (l20:K.lookup f20 = some ⟨oc20,od20,.func (fnOf "move" "Board.move" (xb4 xg8) (xb3 xg8) (xa2 xg8) .none kV20 dc20 pm20 an20 cd20 ct20),sl20⟩)
  (c20:codeIn K cd20 "Board.move" = true)
  (k20:keepIn K (.ref f20) = true)
  (a21:findIn K (.ref C_Board) "mixed" = some (some (.ref f21)))
  (i21:isFn K (.ref f21) = true)
  (l21:K.lookup f21 = some ⟨oc21,od21,.func (fnOf "mixed" "Board.mixed" (xb4 xf6) (xb3 xf6) (xa2 xf6) .none kV21 dc21 pm21 an21 cd21 ct21),sl21⟩)
  (c21:codeIn K cd21 "Board.mixed" = true)
  (k21:keepIn K (.ref f21) = true)
  (a22:findIn K (.ref C_Board) "winning" = some (some (.ref f22)))
  (i22:isFn K (.ref f22) = true)
  (l22:K.lookup f22 = some ⟨oc22,od22,.func (fnOf "winning" "Board.winning" (xb4 xd9) (xb3 xd9) (xa2 xd9) .none kV22 dc22 pm22 an22 cd22 ct22),sl22⟩)
  (c22:codeIn K cd22 "Board.winning" = true)
  (k22:keepIn K (.ref f22) = true)
  (a23:findIn K (.ref C_Board) "brightest" = some (some (.ref f23)))
  (i23:isFn K (.ref f23) = true)
  (l23:K.lookup f23 = some ⟨oc23,od23,.func (fnOf "brightest" "Board.brightest" (xb4 xd3) (xb3 xd3) (xa2 xd3) .none kV23 dc23 pm23 an23 cd23 ct23),sl23⟩)
  (c23:codeIn K cd23 "Board.brightest" = true)
  (k23:keepIn K (.ref f23) = true)
  (a24:findIn K (.ref C_Board) "number_by" = some (some (.ref f24)))
  (i24:isFn K (.ref f24) = true)
  (l24:K.lookup f24 = some ⟨oc24,od24,.func (fnOf "number_by" "Board.number_by" (xb4 xd2) (xb3 xd2) (xa2 xd2) .none kV24 dc24 pm24 an24 cd24 ct24),sl24⟩)
  (c24:codeIn K cd24 "Board.number_by" = true)
  (k24:keepIn K (.ref f24) = true)
  (a25:findIn K (.ref C_Board) "down_on" = some (some (.ref f25)))
  (i25:isFn K (.ref f25) = true)
  (l25:K.lookup f25 = some ⟨oc25,od25,.func (fnOf "down_on" "Board.down_on" (xb4 xe0) (xb3 xe0) (xa2 xe0) .none kV25 dc25 pm25 an25 cd25 ct25),sl25⟩)
  (c25:codeIn K cd25 "Board.down_on" = true)
  (k25:keepIn K (.ref f25) = true)
  (a26:findIn K (.ref C_Board) "slots_with" = some (some (.ref f26)))
  (i26:isFn K (.ref f26) = true)
  (l26:K.lookup f26 = some ⟨oc26,od26,.func (fnOf "slots_with" "Board.slots_with" (xb4 xc7) (xb3 xc7) (xa2 xc7) .none kV26 dc26 pm26 an26 cd26 ct26),sl26⟩)
  (c26:codeIn K cd26 "Board.slots_with" = true)
  (k26:keepIn K (.ref f26) = true)
  (a27:nsIn K mainGlobals "_law_cell_at" = some (some (.ref f27)))
  (l27:K.lookup f27 = some ⟨oc27,od27,.func (fnOf "_law_cell_at" "_law_cell_at" (xb4 xf5) (xb3 xf5) (xa2 xf5) .none kV27 dc27 pm27 an27 cd27 ct27),sl27⟩)
  (c27:codeIn K cd27 "_law_cell_at" = true)
  (k27:keepIn K (.ref f27) = true)
  (a28:nsIn K mainGlobals "_law_drawn" = some (some (.ref f28)))
  (l28:K.lookup f28 = some ⟨oc28,od28,.func (fnOf "_law_drawn" "_law_drawn" (xb4 xi1) (xb3 xi1) (xa2 xi1) .none kV28 dc28 pm28 an28 cd28 ct28),sl28⟩)
  (c28:codeIn K cd28 "_law_drawn" = true)
  (k28:keepIn K (.ref f28) = true)
  (a29:nsIn K mainGlobals "_law_whole" = some (some (.ref f29)))
  (l29:K.lookup f29 = some ⟨oc29,od29,.func (fnOf "_law_whole" "_law_whole" (xb4 xh8) (xb3 xh8) (xa2 xh8) .none kV29 dc29 pm29 an29 cd29 ct29),sl29⟩)
  (c29:codeIn K cd29 "_law_whole" = true)
  (k29:keepIn K (.ref f29) = true)
  (a30:nsIn K mainGlobals "_law_name" = some (some (.ref f30)))
  (l30:K.lookup f30 = some ⟨oc30,od30,.func (fnOf "_law_name" "_law_name" (xb4 xj6) (xb3 xj6) (xa2 xj6) .none kV30 dc30 pm30 an30 cd30 ct30),sl30⟩)
  (c30:codeIn K cd30 "_law_name" = true)
  (k30:keepIn K (.ref f30) = true)
  (a31:nsIn K mainGlobals "_law_worth" = some (some (.ref f31)))
  (l31:K.lookup f31 = some ⟨oc31,od31,.func (fnOf "_law_worth" "_law_worth" (xb4 xh7) (xb3 xh7) (xa2 xh7) .none kV31 dc31 pm31 an31 cd31 ct31),sl31⟩)
  (c31:codeIn K cd31 "_law_worth" = true)
  (k31:keepIn K (.ref f31) = true)
  (a32:nsIn K mainGlobals "_law_is_look" = some (some (.ref f32)))
  (l32:K.lookup f32 = some ⟨oc32,od32,.func (fnOf "_law_is_look" "_law_is_look" (xb4 xf4) (xb3 xf4) (xa2 xf4) .none kV32 dc32 pm32 an32 cd32 ct32),sl32⟩)
  (c32:codeIn K cd32 "_law_is_look" = true)
  (k32:keepIn K (.ref f32) = true)
  (a33:nsIn K mainGlobals "_law_lamps" = some (some (.ref f33)))
  (l33:K.lookup f33 = some ⟨oc33,od33,.func (fnOf "_law_lamps" "_law_lamps" (xb4 xi0) (xb3 xi0) (xa2 xi0) .none kV33 dc33 pm33 an33 cd33 ct33),sl33⟩)
  (c33:codeIn K cd33 "_law_lamps" = true)
  (k33:keepIn K (.ref f33) = true)
  (a34:nsIn K mainGlobals "_law_untold" = some (some (.ref f34)))
  (l34:K.lookup f34 = some ⟨oc34,od34,.func (fnOf "_law_untold" "_law_untold" (xb4 xg7) (xb3 xg7) (xa2 xg7) .none kV34 dc34 pm34 an34 cd34 ct34),sl34⟩)
  (c34:codeIn K cd34 "_law_untold" = true)
  (k34:keepIn K (.ref f34) = true)
  (a35:nsIn K mainGlobals "_law_deed" = some (some (.ref f35)))
  (l35:K.lookup f35 = some ⟨oc35,od35,.func (fnOf "_law_deed" "_law_deed" (xb4 xj7) (xb3 xj7) (xa2 xj7) .none kV35 dc35 pm35 an35 cd35 ct35),sl35⟩)
  (c35:codeIn K cd35 "_law_deed" = true)
  (k35:keepIn K (.ref f35) = true)
  (a36:nsIn K mainGlobals "_law_due" = some (some (.ref f36)))
  (l36:K.lookup f36 = some ⟨oc36,od36,.func (fnOf "_law_due" "_law_due" (xb4 xl8) (xb3 xl8) (xa2 xl8) .none kV36 dc36 pm36 an36 cd36 ct36),sl36⟩)
  (c36:codeIn K cd36 "_law_due" = true)
  (k36:keepIn K (.ref f36) = true)
  (a37:nsIn K mainGlobals "_law_right" = some (some (.ref f37)))
  (l37:K.lookup f37 = some ⟨oc37,od37,.func (fnOf "_law_right" "_law_right" (xb4 xh9) (xb3 xh9) (xa2 xh9) .none kV37 dc37 pm37 an37 cd37 ct37),sl37⟩)
  (c37:codeIn K cd37 "_law_right" = true)
  (k37:keepIn K (.ref f37) = true)
  (a38:nsIn K mainGlobals "law" = some (some (.ref f38)))
  (l38:K.lookup f38 = some ⟨oc38,od38,.func (fnOf "law" "law" (xb4 yc9) (xb3 yc9) (xa2 yc9) .none kV38 dc38 pm38 an38 cd38 ct38),sl38⟩)
  (c38:codeIn K cd38 "law" = true)
  (k38:keepIn K (.ref f38) = true)
  (pg_Board:plainGet K C_Board Str.empty = true)
  (hd_Board:hasDictIn K C_Board = true)
  (po_Board:plainOver K C_Board = true)
  (sa_Board:findIn K (.ref C_Board) "__setattr__" = some (some (.builtin "object.__setattr__")))
  (mk_Board:makesIn K C_Board = true)
  (kc_Board:keepIn K (.ref C_Board) = true)
  (na_Board_filled:findIn K (.ref C_Board) "filled" = some none)
  (na_Board_levels:findIn K (.ref C_Board) "levels" = some none)
  (na_Board_groups:findIn K (.ref C_Board) "groups" = some none)
  (na_Board_downs:findIn K (.ref C_Board) "downs" = some none)
  (na_Board_spared:findIn K (.ref C_Board) "spared" = some none)
  (x_NoSlot:excIn K C_NoSlot yv6 "ValueError.__new__" = true)
  (xc0_NoSlot:findIn K (.ref C_NoSlot) "__getattribute__" = some (some (.builtin "BaseException.__getattribute__")))
  (xc1_NoSlot:findIn K (.ref C_NoSlot) "__getattr__" = some none)
  (xc2_NoSlot:findIn K (.ref C_NoSlot) "__class__" = some (some (.builtin "object.__class__")))
  (xc3_NoSlot:mroIn K C_NoSlot (.type "object") = some true)
  (xc4_NoSlot:mroIn K C_NoSlot (.type "BaseException") = some true)
  (xm_NoSlot:exmOne K (.ref C_NoSlot) (.ref C_LampError) = some true)
  (xv_NoSlot:kitOne K (.ref C_NoSlot) (.type "ValueError") = some true)
  (xk_NoSlot_LampError:kitOne K (.ref C_NoSlot) (.ref C_LampError) = some true)
  (xk_NoSlot_NoSlot:kitOne K (.ref C_NoSlot) (.ref C_NoSlot) = some true)
  (xk_NoSlot_NoWorth:kitOne K (.ref C_NoSlot) (.ref C_NoWorth) = some false)
  (xk_NoSlot_NoName:kitOne K (.ref C_NoSlot) (.ref C_NoName) = some false)
  (x_NoWorth:excIn K C_NoWorth yv6 "ValueError.__new__" = true)
  (xc0_NoWorth:findIn K (.ref C_NoWorth) "__getattribute__" = some (some (.builtin "BaseException.__getattribute__")))
  (xc1_NoWorth:findIn K (.ref C_NoWorth) "__getattr__" = some none)
  (xc2_NoWorth:findIn K (.ref C_NoWorth) "__class__" = some (some (.builtin "object.__class__")))
  (xc3_NoWorth:mroIn K C_NoWorth (.type "object") = some true)
  (xc4_NoWorth:mroIn K C_NoWorth (.type "BaseException") = some true)
  (xm_NoWorth:exmOne K (.ref C_NoWorth) (.ref C_LampError) = some true)
  (xv_NoWorth:kitOne K (.ref C_NoWorth) (.type "ValueError") = some true)
  (xk_NoWorth_LampError:kitOne K (.ref C_NoWorth) (.ref C_LampError) = some true)
  (xk_NoWorth_NoSlot:kitOne K (.ref C_NoWorth) (.ref C_NoSlot) = some false)
  (xk_NoWorth_NoWorth:kitOne K (.ref C_NoWorth) (.ref C_NoWorth) = some true)
  (xk_NoWorth_NoName:kitOne K (.ref C_NoWorth) (.ref C_NoName) = some false)
  (x_NoName:excIn K C_NoName yv6 "ValueError.__new__" = true)
  (xc0_NoName:findIn K (.ref C_NoName) "__getattribute__" = some (some (.builtin "BaseException.__getattribute__")))
  (xc1_NoName:findIn K (.ref C_NoName) "__getattr__" = some none)
  (xc2_NoName:findIn K (.ref C_NoName) "__class__" = some (some (.builtin "object.__class__")))
  (xc3_NoName:mroIn K C_NoName (.type "object") = some true)
  (xc4_NoName:mroIn K C_NoName (.type "BaseException") = some true)
  (xm_NoName:exmOne K (.ref C_NoName) (.ref C_LampError) = some true)
  (xv_NoName:kitOne K (.ref C_NoName) (.type "ValueError") = some true)
  (xk_NoName_LampError:kitOne K (.ref C_NoName) (.ref C_LampError) = some true)
  (xk_NoName_NoSlot:kitOne K (.ref C_NoName) (.ref C_NoSlot) = some false)
  (xk_NoName_NoWorth:kitOne K (.ref C_NoName) (.ref C_NoWorth) = some false)
  (xk_NoName_NoName:kitOne K (.ref C_NoName) (.ref C_NoName) = some true)
  (xg_get:specialIn K (.builtin "object.__class__") "__get__" = some (some (.builtin "getset_descriptor.__get__")))
  (xg_set:takesIn K (.builtin "object.__class__") = some true)
  (z_isinstance:nsIn K mainGlobals "isinstance" = some none)
  (z_int:nsIn K mainGlobals "int" = some none)
  (z_bool:nsIn K mainGlobals "bool" = some none)
  (z_str:nsIn K mainGlobals "str" = some none)
  (z_tuple:nsIn K mainGlobals "tuple" = some none)
  (z_list:nsIn K mainGlobals "list" = some none)
  (z_dict:nsIn K mainGlobals "dict" = some none)
  (z_set:nsIn K mainGlobals "set" = some none)
  (z_sorted:nsIn K mainGlobals "sorted" = some none)
  (z_reversed:nsIn K mainGlobals "reversed" = some none)
  (z_max:nsIn K mainGlobals "max" = some none)
  (yl2:nsIn K mainGlobals "len" = some none)
  (z_all:nsIn K mainGlobals "all" = some none)
  (z_min:nsIn K mainGlobals "min" = some none)
  (z_range:nsIn K mainGlobals "range" = some none)
  (z_ValueError:nsIn K mainGlobals "ValueError" = some none)
  (gc_LETTERS:nsIn K mainGlobals "LETTERS" = some (some (.str "abcdefghijklmnopqrstuvwxyz" tkc_LETTERS)))
  (gc_MOST_LETTERS:nsIn K mainGlobals "MOST_LETTERS" = some (some (.int 8 tkc_MOST_LETTERS)))
  (gc_MOST_WORTH:nsIn K mainGlobals "MOST_WORTH" = some (some (.int 1000000000 tkc_MOST_WORTH)))
  (gc_MOST_LEVEL:nsIn K mainGlobals "MOST_LEVEL" = some (some (.int 1000 tkc_MOST_LEVEL)))
  (gc_LOOK:nsIn K mainGlobals "LOOK" = some (some (.str "" tkc_LOOK)))
  (gs_SIDES:nsIn K mainGlobals "SIDES" = some (some (.ref S_SIDES)))
  (ls_SIDES:K.lookup S_SIDES = some ⟨.type "tuple",so_SIDES,.seq ([.str "blue" sk_SIDES_0,.str "bright" sk_SIDES_1,.str "green" sk_SIDES_2,.str "pan" sk_SIDES_3,.str "red" sk_SIDES_4,.str "tilt" sk_SIDES_5]:List Value).toArray sn_SIDES,ss_SIDES⟩) :
  ∃ fd:FuncData,(∀ (s:Shared) (v:Value),BindsTo s fd ⟨[v],[]⟩ [("_law_script",v)]) /\ ∀ base:Heap,K.In base -> base.Ns mainGlobals mg -> FnOk l.prog w K mg base (CXE l.prog w) 10 fa fd ["_law_script"] (spLaw K):=by
 have e:=hfa.symm.trans (mg_of X G a38)
 cases e
 have F0:=xc1 (st:=xj9) l0 c0 k0
 have bb0:=F0.binds (ps:=["thing"]) fun _ _ _ _ _ _ us hl=>match us,hl with | [_],_=>rfl
 have F1:=xc1 (st:=xm1) l1 c1 k1
 have bb1:=F1.binds (ps:=["thing"]) fun _ _ _ _ _ _ us hl=>match us,hl with | [_],_=>rfl
 have F2:=xc1 (st:=xm0) l2 c2 k2
 have bb2:=F2.binds (ps:=["thing"]) fun _ _ _ _ _ _ us hl=>match us,hl with | [_],_=>rfl
 have F3:=xc1 (st:=xl9) l3 c3 k3
 have bb3:=F3.binds (ps:=["thing"]) fun _ _ _ _ _ _ us hl=>match us,hl with | [_],_=>rfl
 have F4:=xc1 (st:=xi2) l4 c4 k4
 have bb4:=F4.binds (ps:=["slot"]) fun _ _ _ _ _ _ us hl=>match us,hl with | [_],_=>rfl
 have F5:=xc1 (st:=xj8) l5 c5 k5
 have bb5:=F5.binds (ps:=["thing"]) fun _ _ _ _ _ _ us hl=>match us,hl with | [_],_=>rfl
 have F6:=xc1 (st:=xf1) l6 c6 k6
 have bb6:=F6.binds (ps:=["thing"]) fun _ _ _ _ _ _ us hl=>match us,hl with | [_],_=>rfl
 have F7:=xc1 (st:=xe3) l7 c7 k7
 have bb7:=F7.binds (ps:=["thing"]) fun _ _ _ _ _ _ us hl=>match us,hl with | [_],_=>rfl
 have F8:=xc1 (st:=xc4) l8 c8 k8
 have bb8:=F8.binds (ps:=["thing"]) fun _ _ _ _ _ _ us hl=>match us,hl with | [_],_=>rfl
 have F9:=xc1 (st:=xk0) l9 c9 k9
 have bb9:=F9.binds (ps:=["thing"]) fun _ _ _ _ _ _ us hl=>match us,hl with | [_],_=>rfl
 have F10:=xc1 (st:=xe4) l10 c10 k10
 have bb10:=F10.binds (ps:=["thing"]) fun _ _ _ _ _ _ us hl=>match us,hl with | [_],_=>rfl
 have F11:=xc1 (st:=xo2) l11 c11 k11
 have bb11:=F11.binds (ps:=["worth","level"]) fun _ _ _ _ _ _ us hl=>match us,hl with | [_,_],_=>rfl
 have F12:=xc1 (st:=xl7) l12 c12 k12
 have bb12:=F12.binds (ps:=["worth","down"]) fun _ _ _ _ _ _ us hl=>match us,hl with | [_,_],_=>rfl
 have F13:=xc1 (st:=xf2) l13 c13 k13
 have bb13:=F13.binds (ps:=["thing"]) fun _ _ _ _ _ _ us hl=>match us,hl with | [_],_=>rfl
 have F14:=xc1 (st:=xe5) l14 c14 k14
 have bb14:=F14.binds (ps:=["thing"]) fun _ _ _ _ _ _ us hl=>match us,hl with | [_],_=>rfl
 have F15:=xc1 (st:=xf3) l15 c15 k15
 have bb15:=F15.binds (ps:=["thing"]) fun _ _ _ _ _ _ us hl=>match us,hl with | [_],_=>rfl
 have F16:=xc1 (st:=xg9) l16 c16 k16
 have bb16:=F16.binds (ps:=["self"]) fun _ _ _ _ _ _ us hl=>match us,hl with | [_],_=>rfl
 have F17:=xc1 (st:=xh0) l17 c17 k17
 have bb17:=F17.binds (ps:=["self","fader","slot","worth"]) fun _ _ _ _ _ _ us hl=>match us,hl with | [_,_,_,_],_=>rfl
 have F18:=xc1 (st:=xf7) l18 c18 k18
 have bb18:=F18.binds (ps:=["self","name","lamps"]) fun _ _ _ _ _ _ us hl=>match us,hl with | [_,_,_],_=>rfl
 have F19:=xc1 (st:=xc8) l19 c19 k19
 have bb19:=F19.binds (ps:=["self","fader","name","side","worth"]) fun _ _ _ _ _ _ us hl=>match us,hl with | [_,_,_,_,_],_=>rfl
 have F20:=xc1 (st:=xg8) l20 c20 k20
 have bb20:=F20.binds (ps:=["self","fader","level"]) fun _ _ _ _ _ _ us hl=>match us,hl with | [_,_,_],_=>rfl
 have F21:=xc1 (st:=xf6) l21 c21 k21
 have bb21:=F21.binds (ps:=["self","look"]) fun _ _ _ _ _ _ us hl=>match us,hl with | [_,_],_=>rfl
 have F22:=xc1 (st:=xd9) l22 c22 k22
 have bb22:=F22.binds (ps:=["self","look","slot"]) fun _ _ _ _ _ _ us hl=>match us,hl with | [_,_,_],_=>rfl
 have F23:=xc1 (st:=xd3) l23 c23 k23
 have bb23:=F23.binds (ps:=["self","look","slot"]) fun _ _ _ _ _ _ us hl=>match us,hl with | [_,_,_],_=>rfl
 have F24:=xc1 (st:=xd2) l24 c24 k24
 have bb24:=F24.binds (ps:=["self","fader","look","slot"]) fun _ _ _ _ _ _ us hl=>match us,hl with | [_,_,_,_],_=>rfl
 have F25:=xc1 (st:=xe0) l25 c25 k25
 have bb25:=F25.binds (ps:=["self","lamp"]) fun _ _ _ _ _ _ us hl=>match us,hl with | [_,_],_=>rfl
 have F26:=xc1 (st:=xc7) l26 c26 k26
 have bb26:=F26.binds (ps:=["self","look"]) fun _ _ _ _ _ _ us hl=>match us,hl with | [_,_],_=>rfl
 have F27:=xc1 (st:=xf5) l27 c27 k27
 have bb27:=F27.binds (ps:=["_law_script","_law_k"]) fun _ _ _ _ _ _ us hl=>match us,hl with | [_,_],_=>rfl
 have F28:=xc1 (st:=xi1) l28 c28 k28
 have bb28:=F28.binds (ps:=["_law_script","_law_k"]) fun _ _ _ _ _ _ us hl=>match us,hl with | [_,_],_=>rfl
 have F29:=xc1 (st:=xh8) l29 c29 k29
 have bb29:=F29.binds (ps:=["_law_found"]) fun _ _ _ _ _ _ us hl=>match us,hl with | [_],_=>rfl
 have F30:=xc1 (st:=xj6) l30 c30 k30
 have bb30:=F30.binds (ps:=["_law_number","_law_form"]) fun _ _ _ _ _ _ us hl=>match us,hl with | [_,_],_=>rfl
 have F31:=xc1 (st:=xh7) l31 c31 k31
 have bb31:=F31.binds (ps:=["_law_number"]) fun _ _ _ _ _ _ us hl=>match us,hl with | [_],_=>rfl
 have F32:=xc1 (st:=xf4) l32 c32 k32
 have bb32:=F32.binds (ps:=["_law_found"]) fun _ _ _ _ _ _ us hl=>match us,hl with | [_],_=>rfl
 have F33:=xc1 (st:=xi0) l33 c33 k33
 have bb33:=F33.binds (ps:=["_law_number","_law_form"]) fun _ _ _ _ _ _ us hl=>match us,hl with | [_,_],_=>rfl
 have F34:=xc1 (st:=xg7) l34 c34 k34
 have bb34:=F34.binds (ps:=["_law_board","_law_fader","_law_name_here","_law_side","_law_worth_here"]) fun _ _ _ _ _ _ us hl=>match us,hl with | [_,_,_,_,_],_=>rfl
 have F35:=xc1 (st:=xj7) l35 c35 k35
 have bb35:=F35.binds (ps:=["_law_board","_law_groups","_law_held","_law_number","_law_form"]) fun _ _ _ _ _ _ us hl=>match us,hl with | [_,_,_,_,_],_=>rfl
 have F36:=xc1 (st:=xl8) l36 c36 k36
 have bb36:=F36.binds (ps:=["_law_slot","_law_held","_law_order"]) fun _ _ _ _ _ _ us hl=>match us,hl with | [_,_,_],_=>rfl
 have F37:=xc1 (st:=xh9) l37 c37 k37
 have bb37:=F37.binds (ps:=["_law_board","_law_held","_law_order","_law_form"]) fun _ _ _ _ _ _ us hl=>match us,hl with | [_,_,_,_],_=>rfl
 have F38:=xc1 (st:=yc9) l38 c38 k38
 have bb38:=F38.binds (ps:=["_law_script"]) fun _ _ _ _ _ _ us hl=>match us,hl with | [_],_=>rfl
 have T:Txt K mg ⟨f0,_,f1,_,f2,_,f3,_,f4,_,f5,_,f6,_,f7,_,f8,_,f9,_,f10,_,f11,_,f12,_,f13,_,f14,_,f15,_,f16,_,f17,_,f18,_,f19,_,f20,_,f21,_,f22,_,f23,_,f24,_,f25,_,f26,_,f27,_,f28,_,f29,_,f30,_,f31,_,f32,_,f33,_,f34,_,f35,_,f36,_,f37,_,fa,_,C_Board,C_LampError,C_NoSlot,C_NoWorth,C_NoName,S_SIDES,()⟩:=⟨F0,bb0,mg_of X G a0,F1,bb1,mg_of X G a1,F2,bb2,mg_of X G a2,F3,bb3,mg_of X G a3,F4,bb4,mg_of X G a4,F5,bb5,mg_of X G a5,F6,bb6,mg_of X G a6,F7,bb7,mg_of X G a7,F8,bb8,mg_of X G a8,F9,bb9,mg_of X G a9,F10,bb10,mg_of X G a10,F11,bb11,mg_of X G a11,F12,bb12,mg_of X G a12,F13,bb13,mg_of X G a13,F14,bb14,mg_of X G a14,F15,bb15,mg_of X G a15,F16,bb16,⟨mk_Board,a16,i16,kc_Board⟩,F17,bb17,⟨a17,i17,k17⟩,F18,bb18,⟨a18,i18,k18⟩,F19,bb19,⟨a19,i19,k19⟩,F20,bb20,⟨a20,i20,k20⟩,F21,bb21,⟨a21,i21,k21⟩,F22,bb22,⟨a22,i22,k22⟩,F23,bb23,⟨a23,i23,k23⟩,F24,bb24,⟨a24,i24,k24⟩,F25,bb25,⟨a25,i25,k25⟩,F26,bb26,⟨a26,i26,k26⟩,F27,bb27,mg_of X G a27,F28,bb28,mg_of X G a28,F29,bb29,mg_of X G a29,F30,bb30,mg_of X G a30,F31,bb31,mg_of X G a31,F32,bb32,mg_of X G a32,F33,bb33,mg_of X G a33,F34,bb34,mg_of X G a34,F35,bb35,mg_of X G a35,F36,bb36,mg_of X G a36,F37,bb37,mg_of X G a37,F38,bb38,mg_of X G a38,⟨pg_Board,hd_Board,po_Board,sa_Board⟩,mg_of X G aC_Board,na_Board_filled,na_Board_levels,na_Board_groups,na_Board_downs,na_Board_spared,mg_of X G aC_LampError,mg_of X G aC_NoSlot,mg_of X G aC_NoWorth,mg_of X G aC_NoName,x_NoSlot,⟨xc0_NoSlot,xc1_NoSlot,ic_of xc3_NoSlot,xc2_NoSlot,xg_get,xg_set,xc3_NoSlot,xc4_NoSlot⟩,xm_NoSlot,xv_NoSlot,xk_NoSlot_LampError,xk_NoSlot_NoSlot,xk_NoSlot_NoWorth,xk_NoSlot_NoName,x_NoWorth,⟨xc0_NoWorth,xc1_NoWorth,ic_of xc3_NoWorth,xc2_NoWorth,xg_get,xg_set,xc3_NoWorth,xc4_NoWorth⟩,xm_NoWorth,xv_NoWorth,xk_NoWorth_LampError,xk_NoWorth_NoSlot,xk_NoWorth_NoWorth,xk_NoWorth_NoName,x_NoName,⟨xc0_NoName,xc1_NoName,ic_of xc3_NoName,xc2_NoName,xg_get,xg_set,xc3_NoName,xc4_NoName⟩,xm_NoName,xv_NoName,xk_NoName_LampError,xk_NoName_NoSlot,xk_NoName_NoWorth,xk_NoName_NoName,mg_none_of X G z_isinstance,mg_none_of X G z_int,mg_none_of X G z_bool,mg_none_of X G z_str,mg_none_of X G z_tuple,mg_none_of X G z_list,mg_none_of X G z_dict,mg_none_of X G z_set,mg_none_of X G z_sorted,mg_none_of X G z_reversed,mg_none_of X G z_max,mg_none_of X G yl2,mg_none_of X G z_all,mg_none_of X G z_min,mg_none_of X G z_range,mg_none_of X G z_ValueError,⟨_,mg_of X G gc_LETTERS⟩,⟨_,mg_of X G gc_MOST_LETTERS⟩,⟨_,mg_of X G gc_MOST_WORTH⟩,⟨_,mg_of X G gc_MOST_LEVEL⟩,⟨_,mg_of X G gc_LOOK⟩,mg_of X G gs_SIDES,sqt_of ls_SIDES (by show 6 <= 1000; decide) (.cons ⟨_,rfl⟩ (.cons ⟨_,rfl⟩ (.cons ⟨_,rfl⟩ (.cons ⟨_,rfl⟩ (.cons ⟨_,rfl⟩ (.cons ⟨_,rfl⟩ (.nil)))))))⟩
 refine ⟨_,fun s v=>?_,fun base _ _=>ok_law T⟩
 exact .of_eq rfl
theorem walk {l:PySem.W.OpenLaw} {q:Program} {loose:List Str} {XP:(Str -> Option Value) -> Heap -> Prop} {YP:World -> Heap -> Prop} {d:DefRec} {K:Params -> Frag} (hn:l.most = some 63) (hdf:d.params.defaults = [])
  (hY:∀ (w:World) (h:Heap),YP w h -> (K w.params).In h)
  (F:∀ (w:World) (mg:Str -> Option Value) (fa:Addr) (h:Heap),(K w.params).In h -> h.Ns mainGlobals mg -> mg d.name = some (.ref fa) ->
   ∃ fd:FuncData,(∀ (s:Shared) (u:Value),BindsTo s fd ⟨[u],[]⟩ [("_law_script",u)]) /\ ∀ base:Heap,(K w.params).In base -> base.Ns mainGlobals mg -> FnOk l.prog w (K w.params) mg base (CXE l.prog w) 10 fa fd ["_law_script"] (spLaw (K w.params))) :
  PySem.W.WalkO q loose XP YP l.row.toRowW d [] (fun f vs=>PySem.call f vs) :=
 L2.walk_of (n:=63) (k:=10) (x:="_law_script") (CX:=fun w=>CXE l.prog w) (sp:=fun w=>spLaw (K w.params)) hn (by decide) hdf ⟨rfl,by decide,by decide⟩ hY F (fun _ _ a ns hl _ hS=>⟨a,ns,rfl,hS,hl,fun _=>rfl⟩) fun _ _ _ _ _ ⟨_,_,_,_,_,_,_,_,_,_,_,_,_,_,_,z⟩=>z
end My
namespace PySem.W.Fast
abbrev tw90343872475197607:Type:=PySem.Params
theorem te90343872475197607:PySem.Params = tw90343872475197607:=rfl
end PySem.W.Fast
open PySem PySem.W PyProof.Rows
set_option maxRecDepth 100000 in
set_option maxHeartbeats 0 in
theorem PySem.Challenge.cw_lampcues_k56_groups_holds : PySem.Challenge.rw_lampcues_k56_groups.Holds := by
 w_on; o_law; k_head; (case hw => w_witness2)
 k_fill
 refine My.walk (l := PySem.Challenge.rw_lampcues_k56_groups) rfl rfl (fun w h Y => PySem.W.kIn_of Y) ?F
 case F =>
  intro w mg fa h KX G hmg
  refine' My.all_mk KX G hmg ?aC_LampError ?aC_NoSlot ?aC_NoWorth ?aC_NoName ?aC_Board ?a0 ?l0 ?c0 ?k0 ?a1 ?l1 ?c1 ?k1 ?a2 ?l2 ?c2 ?k2 ?a3 ?l3 ?c3 ?k3 ?a4 ?l4 ?c4 ?k4 ?a5 ?l5 ?c5 ?k5 ?a6 ?l6 ?c6 ?k6 ?a7 ?l7 ?c7 ?k7 ?a8 ?l8 ?c8 ?k8 ?a9 ?l9 ?c9 ?k9 ?a10 ?l10 ?c10 ?k10 ?a11 ?l11 ?c11 ?k11 ?a12 ?l12 ?c12 ?k12 ?a13 ?l13 ?c13 ?k13 ?a14 ?l14 ?c14 ?k14 ?a15 ?l15 ?c15 ?k15 ?a16 ?i16 ?l16 ?c16 ?k16 ?a17 ?i17 ?l17 ?c17 ?k17 ?a18 ?i18 ?l18 ?c18 ?k18 ?a19 ?i19 ?l19 ?c19 ?k19 ?a20 ?i20 ?l20 ?c20 ?k20 ?a21 ?i21 ?l21 ?c21 ?k21 ?a22 ?i22 ?l22 ?c22 ?k22 ?a23 ?i23 ?l23 ?c23 ?k23 ?a24 ?i24 ?l24 ?c24 ?k24 ?a25 ?i25 ?l25 ?c25 ?k25 ?a26 ?i26 ?l26 ?c26 ?k26 ?a27 ?l27 ?c27 ?k27 ?a28 ?l28 ?c28 ?k28 ?a29 ?l29 ?c29 ?k29 ?a30 ?l30 ?c30 ?k30 ?a31 ?l31 ?c31 ?k31 ?a32 ?l32 ?c32 ?k32 ?a33 ?l33 ?c33 ?k33 ?a34 ?l34 ?c34 ?k34 ?a35 ?l35 ?c35 ?k35 ?a36 ?l36 ?c36 ?k36 ?a37 ?l37 ?c37 ?k37 ?a38 ?l38 ?c38 ?k38 ?pg_Board ?hd_Board ?po_Board ?sa_Board ?mk_Board ?kc_Board ?na_Board_filled ?na_Board_levels ?na_Board_groups ?na_Board_downs ?na_Board_spared ?x_NoSlot ?xc0_NoSlot ?xc1_NoSlot ?xc2_NoSlot ?xc3_NoSlot ?xc4_NoSlot ?xm_NoSlot ?xv_NoSlot ?xk_NoSlot_LampError ?xk_NoSlot_NoSlot ?xk_NoSlot_NoWorth ?xk_NoSlot_NoName ?x_NoWorth ?xc0_NoWorth ?xc1_NoWorth ?xc2_NoWorth ?xc3_NoWorth ?xc4_NoWorth ?xm_NoWorth ?xv_NoWorth ?xk_NoWorth_LampError ?xk_NoWorth_NoSlot ?xk_NoWorth_NoWorth ?xk_NoWorth_NoName ?x_NoName ?xc0_NoName ?xc1_NoName ?xc2_NoName ?xc3_NoName ?xc4_NoName ?xm_NoName ?xv_NoName ?xk_NoName_LampError ?xk_NoName_NoSlot ?xk_NoName_NoWorth ?xk_NoName_NoName ?xg_get ?xg_set ?z_isinstance ?z_int ?z_bool ?z_str ?z_tuple ?z_list ?z_dict ?z_set ?z_sorted ?z_reversed ?z_max ?yl2 ?z_all ?z_min ?z_range ?z_ValueError ?gc_LETTERS ?gc_MOST_LETTERS ?gc_MOST_WORTH ?gc_MOST_LEVEL ?gc_LOOK ?gs_SIDES ?ls_SIDES
  (case aC_LampError => k_is)
  (case aC_NoSlot => k_is)
  (case aC_NoWorth => k_is)
  (case aC_NoName => k_is)
  (case aC_Board => k_is)
  (case a0 => k_is)
  (case l0 => k_is)
  (case c0 => k_is)
  (case k0 => k_is)
  (case a1 => k_is)
  (case l1 => k_is)
  (case c1 => k_is)
  (case k1 => k_is)
  (case a2 => k_is)
  (case l2 => k_is)
  (case c2 => k_is)
  (case k2 => k_is)
  (case a3 => k_is)
  (case l3 => k_is)
  (case c3 => k_is)
  (case k3 => k_is)
  (case a4 => k_is)
  (case l4 => k_is)
  (case c4 => k_is)
  (case k4 => k_is)
  (case a5 => k_is)
  (case l5 => k_is)
  (case c5 => k_is)
  (case k5 => k_is)
  (case a6 => k_is)
  (case l6 => k_is)
  (case c6 => k_is)
  (case k6 => k_is)
  (case a7 => k_is)
  (case l7 => k_is)
  (case c7 => k_is)
  (case k7 => k_is)
  (case a8 => k_is)
  (case l8 => k_is)
  (case c8 => k_is)
  (case k8 => k_is)
  (case a9 => k_is)
  (case l9 => k_is)
  (case c9 => k_is)
  (case k9 => k_is)
  (case a10 => k_is)
  (case l10 => k_is)
  (case c10 => k_is)
  (case k10 => k_is)
  (case a11 => k_is)
  (case l11 => k_is)
  (case c11 => k_is)
  (case k11 => k_is)
  (case a12 => k_is)
  (case l12 => k_is)
  (case c12 => k_is)
  (case k12 => k_is)
  (case a13 => k_is)
  (case l13 => k_is)
  (case c13 => k_is)
  (case k13 => k_is)
  (case a14 => k_is)
  (case l14 => k_is)
  (case c14 => k_is)
  (case k14 => k_is)
  (case a15 => k_is)
  (case l15 => k_is)
  (case c15 => k_is)
  (case k15 => k_is)
  (case a16 => k_is)
  (case i16 => k_is)
  (case l16 => k_is)
  (case c16 => k_is)
  (case k16 => k_is)
  (case a17 => k_is)
  (case i17 => k_is)
  (case l17 => k_is)
  (case c17 => k_is)
  (case k17 => k_is)
  (case a18 => k_is)
  (case i18 => k_is)
  (case l18 => k_is)
  (case c18 => k_is)
  (case k18 => k_is)
  (case a19 => k_is)
  (case i19 => k_is)
  (case l19 => k_is)
  (case c19 => k_is)
  (case k19 => k_is)
  (case a20 => k_is)
  (case i20 => k_is)
  (case l20 => k_is)
  (case c20 => k_is)
  (case k20 => k_is)
  (case a21 => k_is)
  (case i21 => k_is)
  (case l21 => k_is)
  (case c21 => k_is)
  (case k21 => k_is)
  (case a22 => k_is)
  (case i22 => k_is)
  (case l22 => k_is)
  (case c22 => k_is)
  (case k22 => k_is)
  (case a23 => k_is)
  (case i23 => k_is)
  (case l23 => k_is)
  (case c23 => k_is)
  (case k23 => k_is)
  (case a24 => k_is)
  (case i24 => k_is)
  (case l24 => k_is)
  (case c24 => k_is)
  (case k24 => k_is)
  (case a25 => k_is)
  (case i25 => k_is)
  (case l25 => k_is)
  (case c25 => k_is)
  (case k25 => k_is)
  (case a26 => k_is)
  (case i26 => k_is)
  (case l26 => k_is)
  (case c26 => k_is)
  (case k26 => k_is)
  (case a27 => k_is)
  (case l27 => k_is)
  (case c27 => k_is)
  (case k27 => k_is)
  (case a28 => k_is)
  (case l28 => k_is)
  (case c28 => k_is)
  (case k28 => k_is)
  (case a29 => k_is)
  (case l29 => k_is)
  (case c29 => k_is)
  (case k29 => k_is)
  (case a30 => k_is)
  (case l30 => k_is)
  (case c30 => k_is)
  (case k30 => k_is)
  (case a31 => k_is)
  (case l31 => k_is)
  (case c31 => k_is)
  (case k31 => k_is)
  (case a32 => k_is)
  (case l32 => k_is)
  (case c32 => k_is)
  (case k32 => k_is)
  (case a33 => k_is)
  (case l33 => k_is)
  (case c33 => k_is)
  (case k33 => k_is)
  (case a34 => k_is)
  (case l34 => k_is)
  (case c34 => k_is)
  (case k34 => k_is)
  (case a35 => k_is)
  (case l35 => k_is)
  (case c35 => k_is)
  (case k35 => k_is)
  (case a36 => k_is)
  (case l36 => k_is)
  (case c36 => k_is)
  (case k36 => k_is)
  (case a37 => k_is)
  (case l37 => k_is)
  (case c37 => k_is)
  (case k37 => k_is)
  (case a38 => k_is)
  (case l38 => k_is)
  (case c38 => k_is)
  (case k38 => k_is)
  (case pg_Board => k_is)
  (case hd_Board => k_is)
  (case po_Board => k_is)
  (case sa_Board => k_is)
  (case mk_Board => k_is)
  (case kc_Board => k_is)
  (case na_Board_filled => k_is)
  (case na_Board_levels => k_is)
  (case na_Board_groups => k_is)
  (case na_Board_downs => k_is)
  (case na_Board_spared => k_is)
  (case x_NoSlot => k_exc)
  (case xc0_NoSlot => k_is)
  (case xc1_NoSlot => k_is)
  (case xc2_NoSlot => k_is)
  (case xc3_NoSlot => k_is)
  (case xc4_NoSlot => k_is)
  (case xm_NoSlot => kts_exm)
  (case xv_NoSlot => kit_is)
  (case xk_NoSlot_LampError => kit_is)
  (case xk_NoSlot_NoSlot => kit_is)
  (case xk_NoSlot_NoWorth => kit_is)
  (case xk_NoSlot_NoName => kit_is)
  (case x_NoWorth => k_exc)
  (case xc0_NoWorth => k_is)
  (case xc1_NoWorth => k_is)
  (case xc2_NoWorth => k_is)
  (case xc3_NoWorth => k_is)
  (case xc4_NoWorth => k_is)
  (case xm_NoWorth => kts_exm)
  (case xv_NoWorth => kit_is)
  (case xk_NoWorth_LampError => kit_is)
  (case xk_NoWorth_NoSlot => kit_is)
  (case xk_NoWorth_NoWorth => kit_is)
  (case xk_NoWorth_NoName => kit_is)
  (case x_NoName => k_exc)
  (case xc0_NoName => k_is)
  (case xc1_NoName => k_is)
  (case xc2_NoName => k_is)
  (case xc3_NoName => k_is)
  (case xc4_NoName => k_is)
  (case xm_NoName => kts_exm)
  (case xv_NoName => kit_is)
  (case xk_NoName_LampError => kit_is)
  (case xk_NoName_NoSlot => kit_is)
  (case xk_NoName_NoWorth => kit_is)
  (case xk_NoName_NoName => kit_is)
  (case xg_get => k_is)
  (case xg_set => k_is)
  (case z_isinstance => k_is)
  (case z_int => k_is)
  (case z_bool => k_is)
  (case z_str => k_is)
  (case z_tuple => k_is)
  (case z_list => k_is)
  (case z_dict => k_is)
  (case z_set => k_is)
  (case z_sorted => k_is)
  (case z_reversed => k_is)
  (case z_max => k_is)
  (case yl2 => k_is)
  (case z_all => k_is)
  (case z_min => k_is)
  (case z_range => k_is)
  (case z_ValueError => k_is)
  (case gc_LETTERS => k_is)
  (case gc_MOST_LETTERS => k_is)
  (case gc_MOST_WORTH => k_is)
  (case gc_MOST_LEVEL => k_is)
  (case gc_LOOK => k_is)
  (case gs_SIDES => k_is)
  (case ls_SIDES => k_is)
