import PyProof.Rows.All
import Wide.All
import OpenK.AllK
import Wide.FinOn
import Lean
import PyProof.EqAt
import PyProof.EqKinds
import PyProof.TupleCall
import PyProof.EnumMake
import PyProof.EnumFor
import PyProof.Draws
import PyProof.DictWalks
import PyProof.ListRange
import PyProof.ZipIter
import PyProof.Rows.SortWalk
import PyProof.Rows.SumAny
import PyProof.TupleIter
import PyProof.MeetsStr2
import PyProof.StrWalks
import Wide.Txt
import PyProof.Rows.SortRuns
import PyProof.Rows.MinMaxN
import PyProof.ExcClass2
import PyProof.NsDelKeeps
import PyProof.ExcArgsOwn
import PyProof.ExcAttrAll.ValueError
import PyProof.ExcBaseAll.ValueError
import PyProof.ExcInit
import PyProof.InstStoreFacts
import PyProof.Rows.MatchSeqLen
import PySem.Challenge.RW_tanglehouse_k05_whole_any_words
open PySem.W (instObj methodObj Frag lookIn handedIn plainGet specialIn kitOne kia_one kitx_list kitx_dict keepIn callWith_K cellsFrom_some fnOf codeIn codeRec_of kitAny nsIn typeIn exmOne readsIn findCls mg_of mg_none_of)
set_option Elab.async false
set_option linter.all false
set_option maxRecDepth 100000
set_option maxHeartbeats 4000000
variable {us:List PySem.Value}
namespace L2
open PySem PySem.Spec PyProof.Rows
abbrev Key:=Sum Int Str
def Qh2:Key->Value->Bool
 | .inl k,v=>Value.isInt k v
 | .inr x,v=>Value.isStrOf x v
def keyH (w:World):Key->Int
 | .inl k=>hashInt k
 | .inr x=>hashStr w x
theorem Yj:∀{k:Key} {v:Value},Qh2 k v=true->(∃i t,k=Sum.inl i/\v=Value.int i t)\/(∃x t,k=Sum.inr x/\v=Value.str x t)
 | .inl i,v,h=>by
  obtain ⟨t,e⟩:=Value.isInt_shape (k:=i) (v:=v) h
  exact .inl ⟨i,t,rfl,e⟩
 | .inr x,v,h=>by
  obtain ⟨t,e⟩:=Value.isStrOf_shape (x:=x) (v:=v) h
  exact .inr ⟨x,t,rfl,e⟩
theorem Qm7 (i:Int) (t:Tok):Qh2 (.inl i) (.int i t)=true:=by simp [Qh2,Value.isInt]
theorem Qm6 (x:Str) (t:Tok):Qh2 (.inr x) (.str x t)=true:=by simp [Qh2,Value.isStrOf]
theorem Qwy (a b:Int):decide ((Sum.inl a:Key)=Sum.inl b)=(a == b):=by
 by_cases e:a=b
 ·subst e;simp
 ·have h:¬(Sum.inl a:Key)=Sum.inl b:=λq=>e (Sum.inl.inj q)
  rw [decide_eq_false h]
  exact (beq_eq_false_iff_ne.mpr e).symm
theorem Qwv (a b:Str):decide ((Sum.inr a:Key)=Sum.inr b)=decide (a=b):=by
 by_cases e:a=b
 ·subst e;simp
 ·have h:¬(Sum.inr a:Key)=Sum.inr b:=λq=>e (Sum.inr.inj q)
  rw [decide_eq_false h,decide_eq_false e]
theorem Qwx (a:Int) (b:Str):decide ((Sum.inl a:Key)=Sum.inr b)=false:=decide_eq_false (λq=>nomatch q)
theorem Qww (a:Str) (b:Int):decide ((Sum.inr a:Key)=Sum.inl b)=false:=decide_eq_false (λq=>nomatch q)
def Ym (prog:Program) (w:World):PySem.KeyKind prog w Key where
 is:=Qh2
 hash:=keyH w
 inj:=λv a b ha hb=>by
  rcases Yj ha with ⟨i,t,rfl,rfl⟩ | ⟨x,t,rfl,rfl⟩
  ·rcases Yj hb with ⟨j,u,rfl,e⟩ | ⟨y,u,rfl,e⟩
   ·injection e with e1 _;rw [e1]
   ·exact nomatch e
  ·rcases Yj hb with ⟨j,u,rfl,e⟩ | ⟨y,u,rfl,e⟩
   ·exact nomatch e
   ·injection e with e1 _;rw [e1]
 byValue:=λk v h=>by
  rcases Yj h with ⟨i,t,rfl,rfl⟩ | ⟨x,t,rfl,rfl⟩ <;> rfl
 pyHash:=λhv h=>by
  rcases Yj hv with ⟨i,t,rfl,rfl⟩ | ⟨x,t,rfl,rfl⟩
  ·exact wpAny_pyHash_int h
  ·exact wpAny_pyHash_str h
 eqBool:=λhu hv h=>by
  rcases Yj hu with ⟨i,t,rfl,rfl⟩ | ⟨x,t,rfl,rfl⟩
  ·rcases Yj hv with ⟨j,u,rfl,rfl⟩ | ⟨y,u,rfl,rfl⟩
   ·rw [Qwy] at h;exact wpAny_eqBool_int h
   ·rw [Qwx] at h;exact SeqAt.EqAt.int_str i t y u _ _ _ _ h
  ·rcases Yj hv with ⟨j,u,rfl,rfl⟩ | ⟨y,u,rfl,rfl⟩
   ·rw [Qww] at h;exact SeqAt.EqAt.str_int x t j u _ _ _ _ h
   ·rw [Qwv] at h;exact wpAny_eqBool_str h
 «strs»:=λk x t v h=>by
  rcases Yj h with ⟨i,u,rfl,e⟩ | ⟨y,u,rfl,e⟩
  ·exact nomatch e
  ·injection e with e1 _
   subst e1
   cases v <;> rfl
theorem Qkm (prog:Program) (w:World) (k:Key) (v:Value):(Ym prog w).is k v=Qh2 k v:=rfl
theorem Qh1 (prog:Program) (w:World) (i:Int) (t:Tok):(Ym prog w).is (.inl i) (.int i t)=true:=Qm7 i t
theorem Qh0 (prog:Program) (w:World) (x:Str) (t:Tok):(Ym prog w).is (.inr x) (.str x t)=true:=Qm6 x t
inductive V where
 | non | bl (b:Bool) | int (i:Int) | str (x:Str) | byt (b:Array UInt8) | flt (b:UInt64) | ref (a:Addr) | ty (n:String)
 deriving DecidableEq
def RelV:V->Value->Prop
 | .non,u=>u=Value.none
 | .bl b,u=>u=Value.bool b
 | .int i,u=>∃t,u=Value.int i t
 | .str x,u=>∃t,u=Value.str x t
 | .byt b,u=>∃t,u=Value.bytes b t
 | .flt b,u=>∃t,u=Value.float b t
 | .ref a,u=>u=Value.ref a
 | .ty n,u=>u=Value.type n
abbrev Vals:List V->List Value->Prop:=Paired RelV
theorem Vals.length {xs:List V} (r:Vals xs us):xs.length=us.length:=Paired.length r
theorem Vals.get:∀{xs:List V} {us:List Value} {i:Nat} {x:V},Vals xs us->xs[i]? = some x->∃u,us[i]? = some u/\RelV x u
 | _,_,_,_,.nil,e=>by simp at e
 | _,_,0,_,.cons r _,e=>by simp at e;subst e;exact ⟨_,rfl,r⟩
 | _,_,i+1,x,.cons _ t,e=>by
  obtain ⟨u,h1,h2⟩:=Vals.get (i:=i) (x:=x) t (by simpa using e)
  exact ⟨u,by simpa using h1,h2⟩
theorem Vals.set {x:V} {u:Value} (r:RelV x u):∀{xs:List V} {us:List Value} (i:Nat),Vals xs us->Vals (xs.set i x) (us.set i u)
 | _,_,_,.nil=>.nil
 | _,_,0,.cons _ t=>.cons r t
 | _,_,i+1,.cons q t=>.cons q (Vals.set r i t)
theorem Vals.append:∀{xs ys:List V} {us ws:List Value},Vals xs us->Vals ys ws->Vals (xs++ys) (us++ws)
 | _,_,_,_,.nil,s=>s
 | _,_,_,_,.cons r t,s=>.cons r (Vals.append t s)
theorem Vals.take:∀{xs:List V} {us:List Value} (n:Nat),Vals xs us->Vals (xs.take n) (us.take n)
 | _,_,0,_=>.nil
 | _,_,_+1,.nil=>.nil
 | _,_,n+1,.cons r t=>.cons r (Vals.take n t)
theorem Vals.drop:∀{xs:List V} {us:List Value} (n:Nat),Vals xs us->Vals (xs.drop n) (us.drop n)
 | _,_,0,r=>r
 | _,_,_+1,.nil=>.nil
 | _,_,n+1,.cons _ t=>Vals.drop n t
def RelO:Option V->Option Value->Prop
 | some v,some u=>RelV v u
 | none,none=>True
 | _,_=>False
def KV {κ:Type}:List (κ × V)->List (κ × Value)->Prop:=Paired λ(p:κ × V) (q:κ × Value)=>p.1=q.1/\RelV p.2 q.2
def kV:Key->V
 | .inl i=>.int i
 | .inr x=>.str x
inductive HO where
 | lst (xs:List V)
 | tup (xs:List V)
 | dK (kvs:List (Key × V)) | dT (kvs:List (List Key × V))
 | set (S:Int->Bool) (n:Nat)
 | ins (C dx:Addr) (fs:List (Str × V))
 | own (x:Addr)
 | xd (fs:List (Str × V))
 | met (f x:Addr)
 | rng (lo hi:Int)
 | frz (o:Obj) (u:HO)
 | tbl (ps:Array Value)
 | ext (φ:Heap->Prop)
abbrev Hp:=Addr->Option HO
end L2
variable {H H' H1 H2:L2.Hp} {a b e:PySem.Addr} {o u ob:L2.HO} {P:PySem.Program} {w:PySem.World} {h h' h1:PySem.Heap} {x:PySem.Str}
namespace L2
open PySem PySem.Spec PyProof.Rows
def upd (H:Hp) (a:Addr) (o:HO):Hp:=λb=>if b=a then some o else H b
theorem Qj:upd H a o a=some o:=by unfold upd;rw [if_pos rfl]
theorem Qm (h:b≠a):upd H a o b=H b:=by unfold upd;rw [if_neg h]
theorem Qyv (h:H a=some o) (h':H b=some u) (d:o≠u):a≠b:=by
 intro e;subst e;rw [h] at h';exact d (Option.some.inj h')
theorem Jw (h:H a=some o) (h':H b=none):a≠b:=by
 intro e;subst e;rw [h] at h';cases h'
section
variable (P:Program) (w:World)
def Yz (H:Hp) (h:Heap) (a:Addr):HO->Prop
 | .lst xs=>xs.length<=sizeLine/\∃(its:List Value) (n:Nat),Vals xs its/\h.get? a=some { cls:=.type "list",data:=.seq its.toArray n }
 | .tup xs=>xs.length<=sizeLine/\∃its:List Value,Vals xs its/\IsTup h a its.toArray
 | .dK kvs=>kvs.length<=sizeLine/\(a == sysModules)=false/\∃vs,KV kvs vs/\h.DictOf (Ym P w) a vs
 | .dT kvs=>kvs.length<=sizeLine/\(a == sysModules)=false/\∃xs:List (List Key × Addr × Value),
   Paired (λ(p:List Key × V) (q:List Key × Addr × Value)=>p.1=q.1/\H q.2.1=some (.tup (p.1.map kV))/\RelV p.2 q.2.2) kvs xs /\
   ∃o es ep,h.get? a=some o/\o.ExactDict/\o.data=.dict es ep/\es.toList=xs.map (entryOfKey (tupleKind (Ym P w)))/\(xs.map (·.1)).Nodup
 | .set S n=>h.SetOf (intKind P w) a S n
 | .ins C dx fs=>H dx=some (.own a)/\fs.length<=1000/\dx≠a/\h.get? a=some (instObj C dx) /\
   ∃mA,h.Ns1 dx mA/\(∀f,RelO (fs.lookup f) (mA f))/\PySem.Within mA (fs.map (·.1))
 | .own _=>∃o,h.get? a=some o
 | .xd fs=>∃mA,h.Ns1 a mA/\∀f,RelO (fs.lookup f) (mA f)
 | .rng lo hi=>∃t u v,h.get? a=some { cls:=.type "range",data:=.fields #[.int lo t,.int hi u,.int 1 v] }
 | .frz o u=>h.get? a=some o/\Yz H h a u
 | .tbl ps=>∃ts:Array Value,h.get? a=some { cls:=.none,data:=.fields ts }/\(ts = #[]\/∃(b:Addr) (oc:Obj) (u:HO) (vs:Array Value) (t:Tok) (q:Str) (t':Tok),ts = #[ps.getD 0 .none,ps.getD 1 .none,.ref b]/\H b=some (.frz oc u)/\oc.data=.fields vs/\ps.getD 2 .none=.str q t'/\vs[1]? = some (.str q t))
 | .met f x=>h.get? a=some (methodObj (.ref f) (.ref x))
 | .ext φ=>φ h/\(∃o,h.get? a=some o)/\∀h1 h2:Heap,φ h1->(∀o,h1.get? a=some o->h2.get? a=some o)->φ h2
def HOk (H:Hp) (h:Heap):Prop:=∀a o,H a=some o->Yz P w H h a o
end
theorem Yz.lt (x:Yz P w H h a o):a<h.objs.size:=by
 cases o with
 | lst xs=>obtain ⟨_,_,_,_,e⟩:=x;exact Heap.lt_size e
 | tup xs=>obtain ⟨_,_,_,p⟩:=x;exact p.lt
 | dK kvs=>obtain ⟨_,_,_,_,o,_,_,e,_⟩:=x;exact Heap.lt_size e
 | dT kvs=>obtain ⟨_,_,_,_,o,_,_,e,_⟩:=x;exact Heap.lt_size e
 | set S n=>obtain ⟨o,_,_,_,e,_⟩:=x;exact Heap.lt_size e
 | ins C dx fs=>obtain ⟨_,_,_,e,_⟩:=x;exact Heap.lt_size e
 | own y=>obtain ⟨_,e⟩:=x;exact Heap.lt_size e
 | xd fs=>obtain ⟨_,⟨_,_,_,e,_⟩,_⟩:=x;exact Heap.lt_size e
 | rng lo hi=>obtain ⟨_,_,_,e⟩:=x;exact Heap.lt_size e
 | frz ob u=>obtain ⟨e,_⟩:=x;exact Heap.lt_size e
 | tbl ps=>obtain ⟨_,e,_⟩:=x;exact Heap.lt_size e
 | met f y=>exact Heap.lt_size (show h.get? a=some _ from x)
 | ext φ=>obtain ⟨_,⟨_,e⟩,_⟩:=x;exact Heap.lt_size e
theorem Paired.mapP {α β:Type} {F G:α->β->Prop}:∀{l₁:List α} {l₂:List β},Paired F l₁ l₂->(∀a b,F a b->G a b)->Paired G l₁ l₂
 | _,_,.nil,_=>.nil
 | _,_,.cons r t,f=>.cons (f _ _ r) (Paired.mapP t f)
theorem Yz.stay (x:Yz P w H h a o) (k:∀b u,(b=a\/H b=some (.own a))->h.get? b=some u->h'.get? b=some u)
  (ho:∀b,H b=some (.own a)->H' b=some (.own a)) (ht:∀b xs,H b=some (.tup xs)->H' b=some (.tup xs)) (hf:∀b u v vs,H b=some (.frz u v)->u.data=.fields vs->H' b=some (.frz u v):=by exact λ_ _ _ _ q _=>q):Yz P w H' h' a o:=by
 induction o with
 | lst xs=>obtain ⟨z,its,n,r,e⟩:=x;exact ⟨z,its,n,r,k _ _ (.inl rfl) e⟩
 | tup xs=>obtain ⟨z,its,r,ob,e,c⟩:=x;exact ⟨z,its,r,ob,k _ _ (.inl rfl) e,c⟩
 | dK kvs=>obtain ⟨z,y,vs,r,ob,es,ep,e,c⟩:=x;exact ⟨z,y,vs,r,ob,es,ep,k _ _ (.inl rfl) e,c⟩
 | dT kvs =>
  obtain ⟨z,y,xs,r,ob,es,ep,e,c⟩:=x
  exact ⟨z,y,xs,Paired.mapP r λp q z=>⟨z.1,ht _ _ z.2.1,z.2.2⟩,ob,es,ep,k _ _ (.inl rfl) e,c⟩
 | set S n=>obtain ⟨ob,es,ep,t,e,c⟩:=x;exact ⟨ob,es,ep,t,k _ _ (.inl rfl) e,c⟩
 | ins C dx fs =>
  obtain ⟨d,z,ne,e,mA,⟨od,es,ep,e2,c⟩,r⟩:=x
  exact ⟨ho _ d,z,ne,k _ _ (.inl rfl) e,mA,⟨od,es,ep,k _ _ (.inr d) e2,c⟩,r⟩
 | own y=>obtain ⟨ob,e⟩:=x;exact ⟨ob,k _ _ (.inl rfl) e⟩
 | xd fs=>obtain ⟨mA,⟨od,es,ep,e,c⟩,r⟩:=x;exact ⟨mA,⟨od,es,ep,k _ _ (.inl rfl) e,c⟩,r⟩
 | rng lo hi=>obtain ⟨t,u,v,e⟩:=x;exact ⟨t,u,v,k _ _ (.inl rfl) e⟩
 | frz ob u ih=>obtain ⟨e,q⟩:=x;exact ⟨k _ _ (.inl rfl) e,ih q⟩
 | tbl ps =>
  obtain ⟨ts,e,r⟩:=x
  exact ⟨ts,k _ _ (.inl rfl) e,r.imp id λ⟨b,oc,u,vs,t,q,t',z1,z2,z3⟩=>⟨b,oc,u,vs,t,q,t',z1,hf _ _ _ _ z2 z3.1,z3⟩⟩
 | met f y =>
  have e:h.get? a=some (methodObj (.ref f) (.ref y)):=x
  show h'.get? a=some (methodObj (.ref f) (.ref y))
  exact k a _ (.inl rfl) e
 | ext φ=>obtain ⟨p,⟨o,e⟩,st⟩:=x;exact ⟨st _ _ p λo q=>k _ _ (.inl rfl) q,⟨o,k _ _ (.inl rfl) e⟩,st⟩
theorem HOk.lt (x:HOk P w H h) (e:H a=some o):a<h.objs.size:=(x a o e).lt
theorem HOk.fresh (x:HOk P w H h) (e:h.objs.size<=a):H a=none:=by
 cases q:H a with
 | none=>rfl
 | some u=>exact absurd (Nat.lt_of_lt_of_le (x.lt q) e) (Nat.lt_irrefl _)
theorem HOk.kept (x:HOk P w H h) (k:∀b u,h.get? b=some u->h'.get? b=some u):HOk P w H h':=λa o e =>
 (x a o e).stay (λb u _ q=>k b u q) (λ_ q=>q) λ_ _ q=>q
theorem HOk.laid (x:HOk P w H h) (k:∀b u,h.get? b=some u->h'.get? b=some u) (hp:h.objs.size<=a) (new:Yz P w (upd H a o) h' a o):HOk P w (upd H a o) h':=λb u e=>by
 have hn:=x.fresh hp
 by_cases hb:b=a
 ·subst hb;rw [Qj] at e;cases e;exact new
 ·rw [Qm hb] at e
  exact (x b u e).stay (λc v _ q=>k c v q) (λc q=>by rw [Qm (Jw q hn)];exact q) (λc xs q=>by rw [Qm (Jw q hn)];exact q) λc _ _ _ q _=>by rw [Qm (Jw q hn)];exact q
def Rd (H:Hp) (a:Addr) (u:HO):Prop:=H a=some u\/∃o,H a=some (.frz o u)
theorem Rd.of (h:H a=some u):Rd H a u:=.inl h
theorem Rd.ok (r:Rd H a u) (x:HOk P w H h):Yz P w H h a u:=by
 rcases r with r | ⟨o,r⟩
 ·exact x a u r
 ·obtain ⟨_,q⟩:=x a _ r
  exact q
def Mut:Option HO->Prop
 | some (.lst _)=>True
 | some (.dK _)=>True
 | some (.dT _)=>True
 | some (.set _ _)=>True
 | some (.ins _ _ _)=>True
 | some (.ext _)=>True
 | _=>False
section
variable {x:Addr} {o':HO}
theorem HOk.write (ok:HOk P w H h) (mu:Mut (H x)) (he:e=x\/H e=some (.own x)) (k:∀b u,b≠e->h.get? b=some u->h'.get? b=some u) (heo:∃u,h'.get? e=some u)
  (new:Yz P w (upd H x o') h' x o'):HOk P w (upd H x o') h':=λb u q=>by
 have nown:∀c y,H c=some (.own y)->c≠x:=λc y r z=>by subst z;rw [r] at mu;exact mu
 have ntup:∀c xs,H c=some (.tup xs)->c≠x:=λc xs r z=>by subst z;rw [r] at mu;exact mu
 have nfrz:∀c o v,H c=some (.frz o v)->c≠x:=λc o v r z=>by subst z;rw [r] at mu;exact mu
 by_cases hb:b=x
 ·subst hb;rw [Qj] at q;cases q;exact new
 ·rw [Qm hb] at q
  by_cases hbe:b=e
  ·have q':H b=some (.own x):=by
    rcases he with z | z
    ·exact absurd (hbe.trans z) hb
    ·rw [hbe];exact z
   rw [q] at q';cases q'
   obtain ⟨v,hv⟩:=heo
   exact ⟨v,by rw [hbe];exact hv⟩
  ·refine (ok b u q).stay (λc v hc r=>k c v ?_ r) (λc r=>by rw [Qm (nown c b r)];exact r) (λc xs r=>by rw [Qm (ntup c xs r)];exact r) λc o v _ r _=>by rw [Qm (nfrz c o v r)];exact r
   rcases hc with rfl | hc
   ·exact hbe
   ·rintro rfl
    rcases he with z | z
    ·exact nown c b hc z
    ·rw [hc] at z;cases z;exact hb rfl
end
structure Un (fs ex:List Addr) (H H':Hp) (h h':Heap):Prop where
 keep:∀b o,h.get? b=some o->H b=none->b∉fs->b∉ex->h'.get? b=some o
 slot:∀b o,h.get? b=some o->H b=none->b∈fs->b∉ex->∃sl,h'.get? b=some { o with slots:=sl }
 free:∀b o,h.get? b=some o->H b=none->b∉ex->H' b=none
 there:∀b o,h.get? b=some o->b∉ex->∃o',h'.get? b=some o'
 tups:∀b xs,H b=some (.tup xs)->H' b=some (.tup xs)
 frzs:∀b o u,H b=some (.frz o u)->H' b=some (.frz o u)
 tbls:∀b ps,H b=some (.tbl ps)->∃more,H' b=some (.tbl (ps++more))
section
variable {fs ex:List Addr} {x:Addr}
theorem Un.any (u:Un fs ex H H1 h h1) {ob:Obj} (q:h.get? b=some ob) (n:H b=none) (hx:b∉ex):∃sl,h1.get? b=some { ob with slots:=sl }:=by
 by_cases hb:b∈fs
 ·exact u.slot b ob q n hb hx
 ·exact ⟨ob.slots,u.keep b ob q n hb hx⟩
theorem Un.kept (k:∀b u,h.get? b=some u->h'.get? b=some u):Un fs ex H H h h' :=
 ⟨λb ob q _ _ _=>k b ob q,λb ob q _ _ _=>⟨ob.slots,k b ob q⟩,λ_ _ _ n _=>n,λb ob q _=>⟨ob,k b ob q⟩,λ_ _ q=>q,λ_ _ _ q=>q,λ_ ps q=>⟨#[],by rw [q];simp⟩⟩
theorem Un.refl:Un fs ex H H h h:=Un.kept λ_ _ q=>q
theorem Un.laid (k:∀b u,h.get? b=some u->h'.get? b=some u) (hp:h.objs.size<=a) (hn:H a=none):Un fs ex H (upd H a o) h h' where
 keep:=λb u q _ _ _=>k b u q
 slot:=λb u q _ _ _=>⟨u.slots,k b u q⟩
 free:=λb u q n _=>by rw [Qm (Nat.ne_of_lt (Nat.lt_of_lt_of_le (Heap.lt_size q) hp))];exact n
 there:=λb u q _=>⟨u,k b u q⟩
 tups:=λb xs q=>by rw [Qm (Jw q hn)];exact q
 frzs:=λb u xs q=>by rw [Qm (Jw q hn)];exact q
 tbls:=λb ps q=>⟨#[],by rw [Qm (Jw q hn),q];simp⟩
theorem Un.write (mu:Mut (H x)) (he:e=x\/H e=some (.own x)) (k:∀b u,b≠e->h.get? b=some u->h'.get? b=some u) (heo:∃u,h'.get? e=some u):Un fs ex H (upd H x o) h h':=by
 have hx:∀b,H b=none->b≠x:=λb n z=>by subst z;rw [n] at mu;exact mu
 have hb:∀b,H b=none->b≠e:=λb n z=>by
  subst z
  rcases he with r | r
  ·exact hx b n r
  ·rw [n] at r;cases r
 have hm:∀b u,H b=some u->¬Mut (some u)->b≠x:=λb u q nm z=>by subst z;rw [q] at mu;exact nm mu
 refine ⟨λb u q n _ _=>k b u (hb b n) q,λb u q n _ _=>⟨u.slots,k b u (hb b n) q⟩,λb u q n _=>by rw [Qm (hx b n)];exact n,λb u q _=>?_,
  λb xs q=>by rw [Qm (hm b _ q λz=>z)];exact q,λb u xs q=>by rw [Qm (hm b _ q λz=>z)];exact q,λb ps q=>⟨#[],by rw [Qm (hm b _ q λz=>z),q];simp⟩⟩
 by_cases hbe:b=e
 ·subst hbe;exact heo
 ·exact ⟨u,k b u hbe q⟩
end
def trk (h:Heap) (H:Hp):List Addr:=(List.range h.objs.size).filter λa=>(H a).isSome
def hidT (h:Heap) (H:Hp):Heap:=PySem.W.hideAll h (trk h H)
theorem Qnl (h:Heap) (H:Hp):(hidT h H).objs.size=h.objs.size:=PySem.W.hideAll_size _ _
theorem Qqc {o:Obj} (e:h.get? b=some o) (n:H b=none):(hidT h H).get? b=some o :=
 PySem.W.hideAll_get _ e λhm=>by
  have q:(H b).isSome=true:=(List.mem_filter.mp hm).2
  rw [n] at q;simp at q
theorem Qty {o:Obj} (e:(hidT h H).get? b=some o):h.get? b=some o/\H b=none:=by
 have e':h.get? b=some o:=PySem.W.of_hideAll (trk h H) e
 refine ⟨e',?_⟩
 cases q:H b with
 | none=>rfl
 | some x =>
  have hm:b∈trk h H:=List.mem_filter.mpr ⟨List.mem_range.mpr (Heap.lt_size e'),by simp [q]⟩
  have z:(hidT h H).get? b=none:=PySem.W.hideAll_none (trk h H) hm
  rw [z] at e;cases e
structure Mod (K:Frag) (mg:Str->Option Value) (base:Heap):Prop where
 kin:K.In base
 glob:base.Ns mainGlobals mg
 blt:∃mb,base.Ns builtinsNs mb/\∀x:Str,x ≠ "__name__" -> mb x=bootBuiltins x
 nolimit:base.NoLimit
structure Cx where
 prog:Program
 w:World
 K:Frag
 mg:Str->Option Value
 base:Heap
 A:Around
 N:List Str
 s₀:Shared
 H₀:Hp
 env:Env
 outer:List Env
 stack:List Env
 ex:List Addr
 fn:Str->Bool
 calm:Bool
 pn:List (Addr × Obj)
 xe:Value->Shared->Prop
end L2
variable {u:PySem.Value} {g':Array PySem.GenState} {t' i j:Nat} {d':PySem.Drawn} {ch:List PySem.Addr} {it:PySem.Addr} {N:List PySem.Str} {A:PySem.Around} {E:PySem.Value->PySem.Shared->Prop} {v:L2.V} {Q:Unit->PySem.Shared->Prop} {s' s:PySem.Shared} {X:L2.Cx} {pins:List (PySem.Addr × PySem.Obj)}
namespace L2
open PySem PySem.Spec PyProof.Rows
def frs (l:List Env):List Addr:=l.filterMap (·.frame)
abbrev Cx.fs (X:Cx):List Addr:=frs X.outer
def Vis (sc:Scope) (x:Str):Prop:=sc.names.lookup x=some .local\/sc.names.lookup x=some .cell\/sc.names.lookup x=some .free
def Loc (sc:Scope) (x:Str):Prop:=sc.names.lookup x=some .local\/sc.names.lookup x=some .cell
def Look (env:Env) (h:Heap) (m:Str->Option Value) (x:Str) (u:Value):Prop :=
 (env.kindOf x=some .local/\m x=some u)\/((env.kindOf x=some .cell\/env.kindOf x=some .free)/\∃c,env.cells.lookup x=some c/\h.IsCell c (some u))
structure Cx.Ok (X:Cx):Prop where
 mod:Mod X.K X.mg X.base
 kind:X.env.scope.kind=.function
 glob:X.env.globals=mainGlobals
 blt:X.env.builtins=builtinsNs
 above:X.s₀.heap.objs.size<=X.env.locals
 inj:∀x y c,X.env.cells.lookup x=some c->X.env.cells.lookup y=some c->x=y
 has:∀x,(X.env.kindOf x=some .cell\/X.env.kindOf x=some .free)->∃c,X.env.cells.lookup x=some c
 cab:∀x c,X.fn x=true->X.env.cells.lookup x=some c->X.s₀.heap.objs.size<=c
 hd:X.calm=true->X.A.handled=none
 frames:X.A.frames=some X.stack
 stk:X.stack=X.outer\/(X.stack=X.env::X.outer/\X.env.frame=some X.env.locals)
 exf:∀b∈X.ex,b≠X.env.locals/\∀x c,X.env.cells.lookup x=some c->c≠b
 bs:∀b o,X.base.get? b=some o->X.s₀.heap.get? b=some o/\X.H₀ b=none
 bsz:X.base.objs.size<=X.s₀.heap.objs.size
 noex:∀b o,X.base.get? b=some o->b∉X.ex
 exfs:∀b∈X.ex,b∉X.fs
 funs:X.s₀.heap.FunFrames X.base X.outer
 frf:∀b∈X.fs,X.H₀ b=none
structure Inv (X:Cx) (pins:List (Addr × Obj)) (σ:List (Option V)) (H:Hp) (s:Shared):Prop where
 ok:X.Ok
 os:s.os=X.s₀.os
 bare:AllBare s.gens
 base:Un X.fs X.ex X.H₀ H X.s₀.heap s.heap
 loc:∃m,s.heap.Ns X.env.locals m/\∀(i:Nat) (x:Str) (v:V),X.N[i]? = some x->σ[i]? = some (some v)->Vis X.env.scope x->∃u,RelV v u/\Look X.env s.heap m x u
 cell:∀x c,X.env.cells.lookup x=some c->∃v,s.heap.IsCell c v
 free:H X.env.locals=none
 freeC:∀x c,X.env.cells.lookup x=some c->H c=none
 pin:∀p∈X.pn++pins,s.heap.get? p.1=some p.2/\H p.1=none/\p.1≠X.env.locals/\p.1∉X.fs/\∀v,p.2.data ≠ .cell v
 hok:HOk X.prog X.w H s.heap
 len:σ.length=X.N.length
section
variable {σ:List (Option V)}
theorem Cx.Ok.nofr (ok:X.Ok) {o:Obj} (e:X.base.get? b=some o):b∉X.fs:=λhb=>by
 have:=(ok.funs.mem hb).1
 rw [e] at this;cases this
theorem Inv.bs (I:Inv X pins σ H s):∀b o,X.base.get? b=some o->s.heap.get? b=some o/\H b=none:=λb o e =>
 ⟨I.base.keep b o (I.ok.bs b o e).1 (I.ok.bs b o e).2 (I.ok.nofr e) (I.ok.noex b o e),I.base.free b o (I.ok.bs b o e).1 (I.ok.bs b o e).2 (I.ok.noex b o e)⟩
theorem Inv.bk (I:Inv X pins σ H s):∀b o,X.base.get? b=some o->s.heap.get? b=some o:=λb o e=>(I.bs b o e).1
theorem Inv.mod (I:Inv X pins σ H s):Mod X.K X.mg X.base:=I.ok.mod
theorem Inv.kIn (I:Inv X pins σ H s):X.K.In s.heap:=I.ok.mod.kin.keeps I.bk
theorem Inv.lt (I:Inv X pins σ H s):X.env.locals<s.heap.objs.size:=let ⟨_,hn,_⟩:=I.loc;hn.lt
theorem Inv.sz (I:Inv X pins σ H s):X.s₀.heap.objs.size<=s.heap.objs.size:=Nat.le_trans I.ok.above (Nat.le_of_lt I.lt)
theorem Inv.nofs (I:Inv X pins σ H s) (h:s.heap.objs.size<=a):a∉X.fs:=λhb=>by
 obtain ⟨_,o,ho,_⟩:=I.ok.funs.mem hb
 exact absurd (Nat.lt_of_lt_of_le (Heap.lt_size ho) (Nat.le_trans I.sz h)) (Nat.lt_irrefl _)
theorem Inv.cne (I:Inv X pins σ H s):∀x c,X.env.cells.lookup x=some c->c≠X.env.locals:=λx c e z=>by
 obtain ⟨v,o,ho,hd⟩:=I.cell x c e
 obtain ⟨m,⟨o',es,ep,ho',hd',_⟩,_⟩:=I.loc
 rw [z,ho'] at ho;cases ho;rw [hd'] at hd;cases hd
theorem Inv.funs (I:Inv X pins σ H s):s.heap.FunFrames X.base X.outer:=by
 have all:∀(l:List Env),(∀b∈frs l,b∈X.fs)->X.s₀.heap.FunFrames X.base l->s.heap.FunFrames X.base l:=by
  intro l
  induction l with
  | nil=>intro _ _;trivial
  | cons env r ih =>
   intro hs hl
   obtain ⟨hk,⟨L,o,hf,hn,ho,hd⟩,hr⟩:=hl
   have hL:L∈X.fs:=hs L (by unfold frs;rw [List.filterMap_cons,hf];exact List.mem_cons_self)
   obtain ⟨sl,e⟩:=I.base.slot L o ho (I.ok.frf L hL) hL λz=>I.ok.exfs L z hL
   exact ⟨hk,⟨L,_,hf,hn,e,hd⟩,ih (λb hb=>hs b (by unfold frs;rw [List.filterMap_cons,hf];exact List.mem_cons_of_mem _ hb)) hr⟩
 exact all X.outer (λ_ hb=>hb) I.ok.funs
theorem Inv.stack (I:Inv X pins σ H s):s.heap.FunFrames X.base X.stack:=by
 rcases I.ok.stk with e | ⟨e,hf⟩
 ·rw [e];exact I.funs
 ·rw [e]
  obtain ⟨m,hn,_⟩:=I.loc
  refine .cons (by rw [I.ok.kind];decide) hf hn ?_ I.funs
  exact Heap.get?_none_of_le (Nat.le_trans I.ok.bsz I.ok.above)
theorem Inv.stkSub (I:Inv X pins σ H s):∀b∈frs X.stack,b∈X.env.locals::X.fs:=λb hb=>by
 rcases I.ok.stk with e | ⟨e,hf⟩
 ·rw [e] at hb;exact List.mem_cons_of_mem _ hb
 ·rw [e] at hb
  unfold frs at hb
  rw [List.filterMap_cons,hf] at hb
  exact hb
theorem Inv.stkFree (I:Inv X pins σ H s):∀b∈frs X.stack,H b=none:=λb hb=>by
 rcases List.mem_cons.mp (I.stkSub b hb) with e | hb
 ·rw [e];exact I.free
 ·obtain ⟨_,o,ho,_⟩:=I.ok.funs.mem hb
  exact I.base.free b o ho (I.ok.frf b hb) λz=>I.ok.exfs b z hb
theorem Inv.step (I:Inv X pins σ H s)
  (hch:∀b∈ch,(b∈X.ex\/X.s₀.heap.objs.size<=b)/\b≠X.env.locals/\(∀x c,X.env.cells.lookup x=some c->c≠b)/\∀p∈X.pn++pins,p.1≠b)
  (keep:∀b o,b≠X.env.locals->b∉X.fs->b∉ch->s.heap.get? b=some o->H b=none->h'.get? b=some o)
  (slot:∀b o,b≠X.env.locals->b∈X.fs->b∉ch->s.heap.get? b=some o->H b=none->∃sl,h'.get? b=some { o with slots:=sl }) (free:∀b o,b∉ch->s.heap.get? b=some o->H b=none->H' b=none)
  (there:∀b o,b∉ch->s.heap.get? b=some o->∃o',h'.get? b=some o')
  (tups:∀b xs,H b=some (.tup xs)->H' b=some (.tup xs)) (frzs:∀b o u,H b=some (.frz o u)->H' b=some (.frz o u)) (tbls:∀b ps,H b=some (.tbl ps)->∃more,H' b=some (.tbl (ps++more)))
  (ns:∀m,s.heap.Ns X.env.locals m->h'.Ns X.env.locals m) (hok:HOk X.prog X.w H' h') (hg:AllBare g') :
  Inv X pins σ H' { s with heap:=h',gens:=g',drawn:=d',toks:=t' }:=by
 have neL:∀b o,X.s₀.heap.get? b=some o->b≠X.env.locals:=λb o e=>Nat.ne_of_lt (Nat.lt_of_lt_of_le (Heap.lt_size e) I.ok.above)
 have neC:∀b o,X.s₀.heap.get? b=some o->b∉X.ex->b∉ch:=λb o e hx hb=>by
  rcases (hch b hb).1 with z | z
  ·exact hx z
  ·exact absurd (Nat.lt_of_lt_of_le (Heap.lt_size e) z) (Nat.lt_irrefl _)
 have cellK:∀x c,X.env.cells.lookup x=some c->∀v,s.heap.IsCell c v->h'.IsCell c v:=λx c e v ⟨o,ho,hd⟩=>by
  have nch:c∉ch:=λz=>(hch c z).2.2.1 x c e rfl
  by_cases hc:c∈X.fs
  ·obtain ⟨sl,q⟩:=slot c o (I.cne x c e) hc nch ho (I.freeC x c e)
   exact ⟨_,q,hd⟩
  ·exact ⟨o,keep c o (I.cne x c e) hc nch ho (I.freeC x c e),hd⟩
 refine ⟨I.ok,I.os,hg,⟨λb o e n hb hx=>?_,λb o e n hb hx=>?_,λb o e n hx=>?_,λb o e hx=>?_,λb xs e=>tups b xs (I.base.tups b xs e),λb o xs e=>frzs b o xs (I.base.frzs b o xs e),λb ps e=>?_⟩,?_,λx c e=>?_,?_,λx c e=>?_,λp hp=>?_,hok,I.len⟩
 ·exact keep b o (neL b o e) hb (neC b o e hx) (I.base.keep b o e n hb hx) (I.base.free b o e n hx)
 ·obtain ⟨sl,e1⟩:=I.base.slot b o e n hb hx
  obtain ⟨sl',e2⟩:=slot b _ (neL b o e) hb (neC b o e hx) e1 (I.base.free b o e n hx)
  exact ⟨sl',e2⟩
 ·obtain ⟨o',e1⟩:=I.base.there b o e hx
  exact free b o' (neC b o e hx) e1 (I.base.free b o e n hx)
 ·obtain ⟨o',e1⟩:=I.base.there b o e hx
  exact there b o' (neC b o e hx) e1
 ·obtain ⟨m1,e1⟩:=I.base.tbls b ps e
  obtain ⟨m2,e2⟩:=tbls b _ e1
  exact ⟨m1++m2,by rw [e2,Array.append_assoc]⟩
 ·obtain ⟨m,hn,hl⟩:=I.loc
  refine ⟨m,ns m hn,λi x v e1 e2 e3=>?_⟩
  obtain ⟨u,r,l⟩:=hl i x v e1 e2 e3
  refine ⟨u,r,?_⟩
  rcases l with l | ⟨k,c,e,z⟩
  ·exact .inl l
  ·exact .inr ⟨k,c,e,cellK x c e _ z⟩
 ·obtain ⟨v,z⟩:=I.cell x c e
  exact ⟨v,cellK x c e v z⟩
 ·obtain ⟨m,⟨o,_,_,ho,_⟩,_⟩:=I.loc
  exact free _ o (λz=>(hch _ z).2.1 rfl) ho I.free
 ·obtain ⟨v,o,ho,hd⟩:=I.cell x c e
  exact free c o (λz=>(hch c z).2.2.1 x c e rfl) ho (I.freeC x c e)
 ·obtain ⟨e,n,ne,nf,d⟩:=I.pin p hp
  have nch:p.1∉ch:=λz=>(hch p.1 z).2.2.2 p hp rfl
  exact ⟨keep p.1 p.2 ne nf nch e n,free p.1 p.2 nch e n,ne,nf,d⟩
theorem Inv.un (I:Inv X pins σ H s) (u:Un X.fs [] H H' s.heap h') (hok:HOk X.prog X.w H' h'):Inv X pins σ H' { s with heap:=h',toks:=t' }:=by
 obtain ⟨m,⟨o,es,ep,ho,r⟩,_⟩:=id I.loc
 obtain ⟨sl,hL⟩:=u.any ho I.free (by simp)
 exact I.step (g':=s.gens) (d':=s.drawn) (ch:=[]) (λ_ z=>nomatch z) (λb o _ hb _ e n=>u.keep b o e n hb (by simp)) (λb o _ hb _ e n=>u.slot b o e n hb (by simp)) (λb o _ e n=>u.free b o e n (by simp)) (λb o _ e=>u.there b o e (by simp)) u.tups u.frzs u.tbls (λm' hm=>by
  obtain ⟨o',es',ep',ho',r'⟩:=hm
  rw [ho] at ho';cases ho'
  exact ⟨_,es',ep',hL,r'⟩) hok I.bare
theorem Inv.call (I:Inv X pins σ H s) (u:Un (frs X.stack) ch H H' s.heap h') (hok:HOk X.prog X.w H' h') (hg:AllBare g')
  (hch:∀b∈ch,(b∈X.ex\/X.s₀.heap.objs.size<=b)/\b≠X.env.locals/\(∀x c,X.env.cells.lookup x=some c->c≠b)/\∀p∈X.pn++pins,p.1≠b) :
  Inv X pins σ H' { s with heap:=h',gens:=g',drawn:=d',toks:=t' }:=by
 obtain ⟨m,⟨o,es,ep,ho,r⟩,_⟩:=id I.loc
 obtain ⟨sl,hL⟩:=u.any ho I.free λz=>(hch _ z).2.1 rfl
 exact I.step (ch:=ch) hch (λb o hL hb hc e n=>u.keep b o e n (λz=>(List.mem_cons.mp (I.stkSub b z)).elim hL hb) hc) (λb o _ _ hc e n=>u.any e n hc) (λb o hc e n=>u.free b o e n hc) (λb o hc e=>u.there b o e hc) u.tups u.frzs u.tbls (λm' hm=>by
  obtain ⟨o',es',ep',ho',r'⟩:=hm
  rw [ho] at ho';cases ho'
  exact ⟨_,es',ep',hL,r'⟩) hok hg
theorem Inv.turned (I:Inv X pins σ H s) (k:∀b o,b≠it->s.heap.get? b=some o->h'.get? b=some o) (hn:H it=none) (hL:it≠X.env.locals)
  (h1:it∈X.ex\/X.s₀.heap.objs.size<=it) (h2:∀x c,X.env.cells.lookup x=some c->c≠it) (h3:∀p∈X.pn++pins,p.1≠it):Inv X pins σ H { s with heap:=h',toks:=t' }:=by
 have nit:∀b u,H b=some u->b≠it:=λb u e z=>by rw [z,hn] at e;cases e
 refine I.step (g':=s.gens) (d':=s.drawn) (ch:=[it]) (λb hb=>?_) (λb o _ _ hc e _=>k b o (λz=>hc (by simp [z])) e) (λb o _ _ hc e _=>⟨o.slots,k b o (λz=>hc (by simp [z])) e⟩) (λ_ _ _ _ n=>n)
  (λb o hc e=>⟨o,k b o (λz=>hc (by simp [z])) e⟩) (λ_ _ e=>e) (λ_ _ _ e=>e) (λb ps e=>⟨#[],by rw [e];simp⟩) (λm hm=>?_) (λb u e=>?_) I.bare
 ·have e:b=it:=by simpa using hb
  subst e
  exact ⟨h1,hL,h2,h3⟩
 ·obtain ⟨o,es,ep,ho,r⟩:=hm
  exact ⟨o,es,ep,k _ o (Ne.symm hL) ho,r⟩
 ·refine (I.hok b u e).stay (λc v hc q=>k c v ?_ q) (λ_ q=>q) λ_ _ q=>q
  rcases hc with z | z
  ·rw [z];exact nit b u e
  ·exact nit c _ z
theorem Inv.tok (I:Inv X pins σ H s) (t:Nat):Inv X pins σ H { s with toks:=t }:=I.un (h':=s.heap) (t':=t) Un.refl I.hok
theorem Inv.kept (I:Inv X pins σ H s) (k:∀b u,s.heap.get? b=some u->h'.get? b=some u):Inv X pins σ H { s with heap:=h',toks:=t' }:=I.un (Un.kept k) (I.hok.kept k)
theorem Inv.laid (I:Inv X pins σ H s) (k:∀b u,s.heap.get? b=some u->h'.get? b=some u) (hp:s.heap.objs.size<=a) (new:Yz X.prog X.w (upd H a o) h' a o) :
  Inv X pins σ (upd H a o) { s with heap:=h',toks:=t' }:=I.un (Un.laid k hp (I.hok.fresh hp)) (I.hok.laid k hp new)
theorem Inv.write {x:Addr} (I:Inv X pins σ H s) (mu:Mut (H x)) (he:e=x\/H e=some (.own x)) (k:∀b u,b≠e->s.heap.get? b=some u->h'.get? b=some u) (heo:∃u,h'.get? e=some u)
  (new:Yz X.prog X.w (upd H x o) h' x o):Inv X pins σ (upd H x o) { s with heap:=h',toks:=t' }:=I.un (Un.write mu he k heo) (I.hok.write mu he k heo new)
theorem Inv.pins_of {pins':List (Addr × Obj)} (I:Inv X pins σ H s) (h:∀p∈pins',s.heap.get? p.1=some p.2/\H p.1=none/\p.1≠X.env.locals/\p.1∉X.fs/\∀v,p.2.data ≠ .cell v):Inv X pins' σ H s :=
 ⟨I.ok,I.os,I.bare,I.base,I.loc,I.cell,I.free,I.freeC,λp hp=>(List.mem_append.mp hp).elim (λz=>I.pin p (List.mem_append_left _ z)) (h p),I.hok,I.len⟩
theorem Qe2 (hN:N.Nodup) (a:N[i]? = some x) (b:N[j]? = some x):i=j:=by
 obtain ⟨h1,e1⟩:=List.getElem?_eq_some_iff.mp a
 obtain ⟨h2,e2⟩:=List.getElem?_eq_some_iff.mp b
 exact (List.getElem_inj hN).mp (e1.trans e2.symm)
theorem Qcf {M:Model} (I:Inv X pins σ H s) (hN:X.N.Nodup) (hi:X.N[i]? = some x) (hx:Loc X.env.scope x) (r:RelV v u)
  (h:∀s',Inv X pins (σ.set i (some v)) H s'->(∃a,Heap.SameBut a s.heap s'.heap/\(a=X.env.locals\/X.env.cells.lookup x=some a))->Q () s') (hf:X.fn x=true\/X.env.scope.names.lookup x=some .local:=by first | exact .inl rfl | exact .inr rfl | assumption):wpAny M A (storeName X.env x u) Q E s:=by
 obtain ⟨m,hn,hl⟩:=id I.loc
 have hcls:(X.env.scope.kind == .class || (X.env.scope.kind == .module && X.env.locals != X.env.globals))=false:=by rw [I.ok.kind];rfl
 have hiσ:i<σ.length:=by rw [I.len];exact (List.getElem?_eq_some_iff.mp hi).1
 have cne:=I.cne
 have tracked:∀{a:Addr} {h':Heap},(∃o,s.heap.get? a=some o/\H a=none)->Heap.SameBut a s.heap h'->HOk X.prog X.w H h':=λ{a h'} ha hs b ob e=>by
  obtain ⟨_,_,hfree⟩:=ha
  refine (I.hok b ob e).stay (λc w' hc q=>(hs.2 c ?_).trans q) (λ_ q=>q) λ_ _ q=>q
  rintro rfl
  rcases hc with rfl | hc
  ·rw [hfree] at e;cases e
  ·rw [hfree] at hc;cases hc
 rcases hx with hk | hk
 ·refine wpAny_storeName_local hk hn (λh' hn' hs=>?_) hcls
  obtain ⟨oL,_,_,hoL,_⟩:=id hn
  refine h _ ⟨I.ok,I.os,I.bare,⟨λb o e n hb hx=>?_,λb o e n hb hx=>?_,I.base.free,λb o e hx=>?_,I.base.tups,I.base.frzs,I.base.tbls⟩,⟨_,hn',λj y v' e1 e2 e3=>?_⟩,λy c e=>?_,I.free,I.freeC,λp hp=>?_,tracked ⟨oL,hoL,I.free⟩ hs,by simpa using I.len⟩ ⟨_,hs,.inl rfl⟩
  ·exact (hs.2 b (Nat.ne_of_lt (Nat.lt_of_lt_of_le (Heap.lt_size e) I.ok.above))).trans (I.base.keep b o e n hb hx)
  ·obtain ⟨sl,e1⟩:=I.base.slot b o e n hb hx
   exact ⟨sl,(hs.2 b (Nat.ne_of_lt (Nat.lt_of_lt_of_le (Heap.lt_size e) I.ok.above))).trans e1⟩
  ·obtain ⟨o',e1⟩:=I.base.there b o e hx
   exact ⟨o',(hs.2 b (Nat.ne_of_lt (Nat.lt_of_lt_of_le (Heap.lt_size e) I.ok.above))).trans e1⟩
  ·by_cases hj:j=i
   ·subst hj
    rw [hi] at e1;cases e1
    rw [List.getElem?_set_self hiσ] at e2
    cases e2
    exact ⟨u,r,.inl ⟨hk,by simp⟩⟩
   ·rw [List.getElem?_set_ne (Ne.symm hj)] at e2
    obtain ⟨u',r',q⟩:=hl j y v' e1 e2 e3
    refine ⟨u',r',?_⟩
    rcases q with ⟨k,e⟩ | ⟨k,c,e,z⟩
    ·refine .inl ⟨k,?_⟩
     have:y≠x:=λe=>hj (Qe2 hN e1 (e ▸ hi))
     simp [this,e]
    ·exact .inr ⟨k,c,e,z.sameBut hs (cne y c e)⟩
  ·obtain ⟨w',z⟩:=I.cell y c e
   exact ⟨w',z.sameBut hs (cne y c e)⟩
  ·obtain ⟨e,n,ne,nf,d⟩:=I.pin p hp
   exact ⟨(hs.2 p.1 ne).trans e,n,ne,nf,d⟩
 ·have hfn:X.fn x=true:=by
   rcases hf with z | z
   ·exact z
   ·rw [z] at hk;cases hk
  obtain ⟨c,hc⟩:=I.ok.has x (.inl hk)
  obtain ⟨w',z⟩:=I.cell x c hc
  refine wpAny_storeName_cell I.ok.kind hk hc z (λh' hc' hs=>?_)
  obtain ⟨oc,hoc,hocd⟩:=id z
  refine h { s with heap:=h' } ⟨I.ok,I.os,I.bare,⟨λb o e n hb hx=>?_,λb o e n hb hx=>?_,I.base.free,λb o e hx=>?_,I.base.tups,I.base.frzs,I.base.tbls⟩,⟨m,hn.sameBut hs (Ne.symm (cne x c hc)),λj y v' e1 e2 e3=>?_⟩,λy c' e=>?_,I.free,I.freeC,λp hp=>?_,tracked ⟨oc,hoc,I.freeC x c hc⟩ hs,by simpa using I.len⟩ ⟨c,hs,.inr hc⟩
  ·exact (hs.2 b (Nat.ne_of_lt (Nat.lt_of_lt_of_le (Heap.lt_size e) (I.ok.cab x c hfn hc)))).trans (I.base.keep b o e n hb hx)
  ·obtain ⟨sl,e1⟩:=I.base.slot b o e n hb hx
   exact ⟨sl,(hs.2 b (Nat.ne_of_lt (Nat.lt_of_lt_of_le (Heap.lt_size e) (I.ok.cab x c hfn hc)))).trans e1⟩
  ·obtain ⟨o',e1⟩:=I.base.there b o e hx
   exact ⟨o',(hs.2 b (Nat.ne_of_lt (Nat.lt_of_lt_of_le (Heap.lt_size e) (I.ok.cab x c hfn hc)))).trans e1⟩
  ·by_cases hj:j=i
   ·subst hj
    rw [hi] at e1;cases e1
    rw [List.getElem?_set_self hiσ] at e2
    cases e2
    exact ⟨u,r,.inr ⟨.inl hk,c,hc,hc'⟩⟩
   ·rw [List.getElem?_set_ne (Ne.symm hj)] at e2
    obtain ⟨u',r',q⟩:=hl j y v' e1 e2 e3
    refine ⟨u',r',?_⟩
    rcases q with q | ⟨k,c',e,z'⟩
    ·exact .inl q
    ·refine .inr ⟨k,c',e,z'.sameBut hs ?_⟩
     rintro rfl
     exact hj (Qe2 hN e1 (I.ok.inj _ _ _ e hc ▸ hi))
  ·by_cases hcc:c'=c
   ·subst hcc;exact ⟨_,hc'⟩
   ·obtain ⟨w2,z2⟩:=I.cell y c' e
    exact ⟨w2,z2.sameBut hs hcc⟩
  ·obtain ⟨e,n,ne,nf,d⟩:=I.pin p hp
   refine ⟨(hs.2 p.1 ?_).trans e,n,ne,nf,d⟩
   intro q
   rw [q,hoc] at e
   have q':oc=p.2:=Option.some.inj e
   exact d w' (by rw [← q'];exact hocd)
theorem Qbq {M:Model} (I:Inv X pins σ H s) (hN:X.N.Nodup) (hi:X.N[i]? = some x) (hx:Loc X.env.scope x) (r:RelV v u)
  (h:∀s',Inv X pins (σ.set i (some v)) H s'->Q () s') (hf:X.fn x=true\/X.env.scope.names.lookup x=some .local:=by first | exact .inl rfl | exact .inr rfl | assumption):wpAny M A (storeName X.env x u) Q E s :=
 Qcf I hN hi hx r (λs' I' _=>h s' I') hf
theorem Inv.call' (I:Inv X pins σ H s) (ho:s'.os=s.os) (u:Un (frs X.stack) ch H H' s.heap s'.heap) (hok:HOk X.prog X.w H' s'.heap) (hg:AllBare s'.gens)
  (hch:∀b∈ch,(b∈X.ex\/X.s₀.heap.objs.size<=b)/\b≠X.env.locals/\(∀x c,X.env.cells.lookup x=some c->c≠b)/\∀p∈X.pn++pins,p.1≠b):Inv X pins σ H' s':=by
 obtain ⟨h',g',d',t',o'⟩:=s'
 have e:o'=s.os:=ho
 subst e
 exact I.call (g':=g') (t':=t') (d':=d') u hok hg hch
end
abbrev XK:=Value->Option Addr->Hp->Prop
abbrev St:=List (Option V)
abbrev VK:=V->Hp->Prop
abbrev TE:=St->Hp->VK->Prop
abbrev TT:=St->Hp->(Bool->Hp->Prop)->Prop
abbrev TA:=St->Hp->(List V->Hp->Prop)->Prop
structure Ends where
 nx:St->Hp->Prop
 rt:VK
 bk:St->Hp->Prop:=λ_ _=>False
 ct:St->Hp->Prop:=λ_ _=>False
abbrev TS:=Ends->St->Hp->Prop
end L2
variable {xs ys:List L2.V} {e c:PySem.Expr} {Q:PySem.Value->PySem.Shared->Prop} {pos:PySem.Pos} {σ:L2.St} {y:L2.V} {K:Frag} {f:PySem.Value->PySem.Value->PySem.Sem PySem.Value} {st:PySem.Stmt} {tc:L2.TT} {te tb ta:L2.TE} {rest:List PySem.Expr}
namespace L2
open PySem PySem.Spec PyProof.Rows
def EP (X:Cx) (pins:List (Addr × Obj)) (σ:St) (Q:VK) (u:Value) (s':Shared):Prop:=∃v H',Inv X pins σ H' s'/\RelV v u/\Q v H'
def TP (X:Cx) (pins:List (Addr × Obj)) (σ:St) (Q:Bool->Hp->Prop) (b:Bool) (s':Shared):Prop:=∃H',Inv X pins σ H' s'/\Q b H'
def AP (X:Cx) (pins:List (Addr × Obj)) (σ:St) (Q:List V->Hp->Prop) (us:List Value) (s':Shared):Prop:=∃vs H',Inv X pins σ H' s'/\Vals vs us/\Q vs H'
def SP (X:Cx) (pins:List (Addr × Obj)) (D:Ends) (f:Flow) (s':Shared):Prop :=
 match f with
 | .next=>∃σ' H',Inv X pins σ' H' s'/\D.nx σ' H'
 | .brk=>∃σ' H',Inv X pins σ' H' s'/\D.bk σ' H'
 | .cont=>∃σ' H',Inv X pins σ' H' s'/\D.ct σ' H'
 | .ret u=>∃v σ' H',Inv X pins σ' H' s'/\RelV v u/\D.rt v H'
def PE (X:Cx) (e:Expr) (t:TE):Prop :=
 ∀(pins:List (Addr × Obj)) (s:Shared) (σ:St) (H:Hp) (Q:VK),Inv X pins σ H s->t σ H Q->wpAny (model X.prog X.w) X.A (eval e X.env) (EP X pins σ Q) X.xe s
def PT (X:Cx) (e:Expr) (t:TT):Prop :=
 ∀(pins:List (Addr × Obj)) (s:Shared) (σ:St) (H:Hp) (Q:Bool->Hp->Prop),Inv X pins σ H s->t σ H Q->wpAny (model X.prog X.w) X.A (isTrue e X.env (eval e X.env)) (TP X pins σ Q) X.xe s
def PW (X:Cx) (e:Expr) (t:TT):Prop :=
 ∀(whole:Sem Value) (pins:List (Addr × Obj)) (s:Shared) (σ:St) (H:Hp) (Q:Bool->Hp->Prop),Inv X pins σ H s->t σ H Q->wpAny (model X.prog X.w) X.A (isTrue e X.env whole) (TP X pins σ Q) X.xe s
theorem PW.pt {t:TT} (h:PW X e t):PT X e t:=h _
def PA (X:Cx) (es:List Expr) (t:TA):Prop :=
 ∀(pos:Pos) (pins:List (Addr × Obj)) (s:Shared) (σ:St) (H:Hp) (Q:List V->Hp->Prop),Inv X pins σ H s->t σ H Q->wpAny (model X.prog X.w) X.A (spliced (backTo pos (starEach es X.env))) (AP X pins σ Q) X.xe s
def PS (X:Cx) (st:Stmt) (t:TS):Prop :=
 ∀(pins:List (Addr × Obj)) (s:Shared) (σ:St) (H:Hp) (D:Ends),Inv X pins σ H s->t D σ H->wpAny (model X.prog X.w) X.A (exec st X.env) (SP X pins D) X.xe s
def PSs (X:Cx) (st:List Stmt) (t:TS):Prop :=
 ∀(pins:List (Addr × Obj)) (s:Shared) (σ:St) (H:Hp) (D:Ends),Inv X pins σ H s->t D σ H->wpAny (model X.prog X.w) X.A (execs st X.env) (SP X pins D) X.xe s
theorem thn {α:Type} {t:Sem α} {Q Q':α->Shared->Prop} {M:Model} (h:wpAny M A t Q E s) (hQ:∀a s,Q a s->Q' a s):wpAny M A t Q' E s:=wpAny_mono h hQ λ_ _ x=>x
def tVar (i:Nat):TE:=λσ H Q=>∃v,σ[i]? = some (some v)/\Q v H
def tC (v:V):TE:=λ_ H Q=>Q v H
theorem Vt (hN:X.N[i]? = some x) (hv:Vis X.env.scope x) (hd:(x == ("__debug__" : Str))=false:=by decide) (hcd:(x == ("__classdict__" : Str))=false:=by decide):PE X (.Name x pos) (tVar i):=by
 intro pins s σ H Q I h
 obtain ⟨v,e,h⟩:=h
 obtain ⟨m,hn,hl⟩:=I.loc
 obtain ⟨u,r,l⟩:=hl i x v hN e hv
 have fin:EP X pins σ Q u s:=⟨v,H,I,r,h⟩
 rcases l with ⟨hk,hm⟩ | ⟨hk,c,hc,hcell⟩
 ·exact wpAny_Name (wpAny_loadName_local I.ok.kind hk hn hm fin) hd
 ·rcases hk with hk | hk
  ·exact wpAny_Name (wpAny_loadName_cell I.ok.kind hk hc hcell fin) hd
  ·exact wpAny_Name (wpAny_loadName_free I.ok.kind hk hc hcell fin hcd) hd
theorem Qrp {i j pos}:PE X (.Constant (.int i) j pos) (tC (.int i)):=λ_ _ _ H _ I h=>wpAny_Constant_int ⟨.int i,H,I.tok _,⟨_,rfl⟩,h⟩
theorem Qyn {b j pos}:PE X (.Constant (.bool b) j pos) (tC (.bl b)):=λ_ _ _ H _ I h=>Constant_bool ⟨.bl b,H,I,rfl,h⟩
theorem Qv5 {j pos}:PE X (.Constant .none j pos) (tC .non):=λ_ _ _ H _ I h=>Constant_none ⟨.non,H,I,rfl,h⟩
theorem Qml {x j pos}:PE X (.Constant (.str x) j pos) (tC (.str x)):=λ_ _ _ H _ I h=>Calls.Constant_str ⟨.str x,H,I.tok _,⟨_,rfl⟩,h⟩
def Gl (X:Cx) (x:Str):Prop:=X.env.kindOf x=some .globalImplicit
theorem Xs (I:Inv X pins σ H s) (hg:Gl X x) (hm:X.mg x=some u) (h:Q u s)
  (hd:(x == ("__debug__" : Str))=false:=by decide):wpAny (model X.prog X.w) X.A (eval (.Name x pos) X.env) Q E s :=
 Calls.Name_function_global I.ok.kind hg (Calls.loadGlobal_global (by rw [I.ok.glob];exact I.mod.glob.keeps I.bk) hm h) hd
theorem Qba (I:Inv X pins σ H s) (hg:Gl X x) (hm:X.mg x=none) (hv:bootBuiltins x=some u) (h:Q u s)
  (hn:x ≠ "__name__":=by decide) (hd:(x == ("__debug__" : Str))=false:=by decide):wpAny (model X.prog X.w) X.A (eval (.Name x pos) X.env) Q E s:=by
 obtain ⟨mb,h1,h2⟩:=I.mod.blt
 exact Calls.Name_function_global I.ok.kind hg (Calls.loadGlobal_builtin (by rw [I.ok.glob];exact I.mod.glob.keeps I.bk) hm (by rw [I.ok.blt];exact h1.keeps I.bk) ((h2 x hn).trans hv) h) hd
theorem Zp (hg:Gl X x) (hm:X.mg x=some u) (r:RelV v u) (hd:(x == ("__debug__" : Str))=false:=by decide):PE X (.Name x pos) (tC v) :=
 λ_ _ _ H _ I h=>Xs I hg hm ⟨v,H,I,r,h⟩ hd
theorem Qmn (hg:Gl X x) (hm:X.mg x=none) (hv:bootBuiltins x=some u) (r:RelV v u) (hn:x ≠ "__name__":=by decide) (hd:(x == ("__debug__" : Str))=false:=by decide):PE X (.Name x pos) (tC v) :=
 λ_ _ _ H _ I h=>Qba I hg hm hv ⟨v,H,I,r,h⟩ hn hd
section
variable {a b:Expr} {tA tB':TT}
def tAnd (t u:TT):TT:=λσ H Q=>t σ H λc H1=>if c=true then u σ H1 Q else Q false H1
def tOr (t u:TT):TT:=λσ H Q=>t σ H λc H1=>if c=true then Q true H1 else u σ H1 Q
def tNot (t:TT):TT:=λσ H Q=>t σ H λc H1=>Q (!c) H1
theorem Qtd (ha:PT X a tA):PW X (.BoolOp .And [a] pos) tA:=by
 intro wh pins s σ H Q I h
 refine isTrue_and (thn (ha pins s σ H Q I h) λc s1 e=>?_)
 cases c with
 | true=>exact isTrue_and_nil e
 | false=>exact e
theorem Qvv (ha:PT X a tA):PW X (.BoolOp .Or [a] pos) tA:=by
 intro wh pins s σ H Q I h
 refine isTrue_or (thn (ha pins s σ H Q I h) λc s1 e=>?_)
 cases c with
 | false=>exact isTrue_or_nil e
 | true=>exact e
theorem Qvw (ha:PT X a tA) (hb:PW X (.BoolOp .And (b::rest) pos) tB'):PW X (.BoolOp .And (a::b::rest) pos) (tAnd tA tB'):=by
 intro wh pins s σ H Q I h
 refine isTrue_and (thn (ha pins s σ H _ I h) λc s1 ⟨H1,I1,q1⟩=>?_)
 cases c with
 | true=>exact hb wh pins s1 σ H1 Q I1 q1
 | false=>exact ⟨H1,I1,q1⟩
theorem Qyj (ha:PT X a tA) (hb:PW X (.BoolOp .Or (b::rest) pos) tB'):PW X (.BoolOp .Or (a::b::rest) pos) (tOr tA tB'):=by
 intro wh pins s σ H Q I h
 refine isTrue_or (thn (ha pins s σ H _ I h) λc s1 ⟨H1,I1,q1⟩=>?_)
 cases c with
 | true=>exact ⟨H1,I1,q1⟩
 | false=>exact hb wh pins s1 σ H1 Q I1 q1
theorem Qvx (ha:PT X a tA):PT X (.UnaryOp .Not a pos) (tNot tA):=by
 intro pins s σ H Q I h
 exact isTrue_not (ha pins s σ H (λc H1=>Q (!c) H1) I h)
def Qx6 (ta tb:TE):TE:=λσ H Q=>ta σ H λx H1=>∃c,x=.bl c/\if c=true then tb σ H1 Q else Q (.bl false) H1
def tOrV (ta tb:TE):TE:=λσ H Q=>ta σ H λx H1=>∃c,x=.bl c/\if c=true then Q (.bl true) H1 else tb σ H1 Q
def Qx2 (ta:TE):TE:=λσ H Q=>ta σ H λx H1=>∃c,x=.bl c/\Q (.bl (!c)) H1
theorem Qv3 {op} {t:TE} (h:PE X a t):PE X (.BoolOp op [a] pos) t:=λpins s σ H Q I hw=>BoolOp_one (h pins s σ H Q I hw)
theorem Qv7 (ha:PE X a ta) (hb:PE X (.BoolOp .And (b::rest) pos) tb):PE X (.BoolOp .And (a::b::rest) pos) (Qx6 ta tb):=by
 intro pins s σ H Q I h
 refine BoolOp_and (thn (ha pins s σ H _ I h) λv s1 ⟨x,H1,I1,r1,q1⟩=>?_)
 obtain ⟨c,rfl,q1⟩:=q1
 cases r1
 refine wpAny_truthy_bool ?_
 cases c with
 | true=>exact hb pins s1 σ H1 Q I1 q1
 | false=>exact ⟨.bl false,H1,I1,rfl,q1⟩
theorem Qym (ha:PE X a ta) (hb:PE X (.BoolOp .Or (b::rest) pos) tb):PE X (.BoolOp .Or (a::b::rest) pos) (tOrV ta tb):=by
 intro pins s σ H Q I h
 refine BoolOp_or (thn (ha pins s σ H _ I h) λv s1 ⟨x,H1,I1,r1,q1⟩=>?_)
 obtain ⟨c,rfl,q1⟩:=q1
 cases r1
 refine wpAny_truthy_bool ?_
 cases c with
 | false=>exact hb pins s1 σ H1 Q I1 q1
 | true=>exact ⟨.bl true,H1,I1,rfl,q1⟩
theorem Qv4 (ha:PE X a ta):PE X (.UnaryOp .Not a pos) (Qx2 ta):=by
 intro pins s σ H Q I h
 refine UnaryOp_ (thn (ha pins s σ H _ I h) λv s1 ⟨x,H1,I1,r1,q1⟩=>?_)
 obtain ⟨c,rfl,q1⟩:=q1
 cases r1
 exact not_of (wpAny_truthy_bool ⟨.bl (!c),H1,I1,rfl,q1⟩)
end
def SqL (K:Frag) (H:Hp) (a:Addr) (xs:List V):Prop :=
 Rd H a (.lst xs) \/
  ∃(o:Obj) (its:Array Value) (n:Nat),K.lookup a=some o/\o.cls=.type "list" /\ o.dict=none/\o.data=.seq its n/\its.size<=sizeLine/\Vals xs its.toList
def SqT (K:Frag) (H:Hp) (a:Addr) (xs:List V):Prop :=
 Rd H a (.tup xs) \/
  ∃(o:Obj) (its:Array Value) (n:Nat),K.lookup a=some o/\o.cls=.type "tuple" /\ o.data=.seq its n/\its.size<=sizeLine/\Vals xs its.toList
def absV:Value->Option V
 | .none=>some .non
 | .bool b=>some (.bl b)
 | .int i _=>some (.int i)
 | .str x _=>some (.str x)
 | .bytes b _=>some (.byt b)
 | .float b _=>some (.flt b)
 | .ref a=>some (.ref a)
 | .type n=>some (.ty n)
 | _=>none
theorem RelV.abs {x:V} (r:RelV x u):absV u=some x:=by
 cases x with
 | non=>cases r;rfl
 | bl _=>cases r;rfl
 | int _=>obtain ⟨t,rfl⟩:=r;rfl
 | str _=>obtain ⟨t,rfl⟩:=r;rfl
 | byt _=>obtain ⟨t,rfl⟩:=r;rfl
 | flt _=>obtain ⟨t,rfl⟩:=r;rfl
 | ref _=>cases r;rfl
 | ty _=>cases r;rfl
theorem RelV.inj {x:V} (r:RelV x u) (q:RelV y u):x=y:=Option.some.inj (r.abs.symm.trans q.abs)
theorem Vals.inj:∀{xs ys:List V} {us:List Value},Vals xs us->Vals ys us->xs=ys
 | _,_,_,.nil,.nil=>rfl
 | _,_,_,.cons r t,.cons r' t'=>by rw [r.inj r',Vals.inj t t']
theorem SqL.of (h:H a=some (.lst xs)):SqL K H a xs:=.inl (.inl h)
theorem SqT.of (h:H a=some (.tup xs)):SqT K H a xs:=.inl (.inl h)
theorem Inv.list (I:Inv X pins σ H s) (h:SqL X.K H a xs):∃its:List Value,Vals xs its/\PlainL s.heap a its.toArray/\xs.length<=sizeLine:=by
 rcases h with h | ⟨o,its,n,hk,hc,hd,hs,hz,r⟩
 ·obtain ⟨z,its,n,r,e⟩:=h.ok I.hok
  exact ⟨its,r,⟨_,n,e,rfl,rfl,rfl⟩,z⟩
 ·refine ⟨its.toList,r,⟨o,n,I.kIn a o hk,hc,hd,by simpa using hs⟩,?_⟩
  have e:=r.length
  simp only [Array.length_toList] at e
  omega
theorem Inv.tuple (I:Inv X pins σ H s) (h:SqT X.K H a xs):∃its:List Value,Vals xs its/\IsTup s.heap a its.toArray/\xs.length<=sizeLine:=by
 rcases h with h | ⟨o,its,n,hk,hc,hs,hz,r⟩
 ·obtain ⟨z,its,r,p⟩:=h.ok I.hok
  exact ⟨its,r,p,z⟩
 ·refine ⟨its.toList,r,⟨o,I.kIn a o hk,hc,n,by simpa using hs⟩,?_⟩
  have e:=r.length
  simp only [Array.length_toList] at e
  omega
theorem Inv.list_inj (I:Inv X pins σ H s) (h:SqL X.K H a xs) (h':SqL X.K H a ys):xs=ys:=by
 obtain ⟨its,r,⟨o,n,e,_,_,d⟩,_⟩:=I.list h
 obtain ⟨its',r',⟨o',n',e',_,_,d'⟩,_⟩:=I.list h'
 rw [e] at e';cases e'
 rw [d] at d'
 injection d' with d1 _
 have:its=its':=by simpa using congrArg Array.toList d1
 subst this
 exact r.inj r'
theorem Inv.tuple_inj (I:Inv X pins σ H s) (h:SqT X.K H a xs) (h':SqT X.K H a ys):xs=ys:=by
 obtain ⟨its,r,⟨o,e,_,n,d⟩,_⟩:=I.tuple h
 obtain ⟨its',r',⟨o',e',_,n',d'⟩,_⟩:=I.tuple h'
 rw [e] at e';cases e'
 rw [d] at d'
 injection d' with d1 _
 have:its=its':=by simpa using congrArg Array.toList d1
 subst this
 exact r.inj r'
abbrev Cx.wish (X:Cx) (E:Value->Shared->Prop):Cx:={ X with xe:=E }
abbrev Cx.nox (X:Cx):Cx:=X.wish λ_ _=>False
theorem Cx.Ok.wish (ok:X.Ok) (E:Value->Shared->Prop):(X.wish E).Ok :=
 ⟨ok.mod,ok.kind,ok.glob,ok.blt,ok.above,ok.inj,ok.has,ok.cab,ok.hd,ok.frames,ok.stk,ok.exf,ok.bs,ok.bsz,ok.noex,ok.exfs,ok.funs,ok.frf⟩
theorem Cx.Ok.unwish (ok:(X.wish E).Ok):X.Ok :=
 ⟨ok.mod,ok.kind,ok.glob,ok.blt,ok.above,ok.inj,ok.has,ok.cab,ok.hd,ok.frames,ok.stk,ok.exf,ok.bs,ok.bsz,ok.noex,ok.exfs,ok.funs,ok.frf⟩
theorem Inv.wish (I:Inv X pins σ H s) (E:Value->Shared->Prop):Inv (X.wish E) pins σ H s:=⟨I.ok.wish E,I.os,I.bare,I.base,I.loc,I.cell,I.free,I.freeC,I.pin,I.hok,I.len⟩
theorem Inv.unwish (I:Inv (X.wish E) pins σ H s):Inv X pins σ H s:=⟨I.ok.unwish,I.os,I.bare,I.base,I.loc,I.cell,I.free,I.freeC,I.pin,I.hok,I.len⟩
theorem SP.unwish {D:Ends} {f:Flow} (h:SP (X.wish E) pins D f s'):SP X pins D f s':=by
 cases f with
 | next=>obtain ⟨σ',H',I,q⟩:=h;exact ⟨σ',H',I.unwish,q⟩
 | brk=>obtain ⟨σ',H',I,q⟩:=h;exact ⟨σ',H',I.unwish,q⟩
 | cont=>obtain ⟨σ',H',I,q⟩:=h;exact ⟨σ',H',I.unwish,q⟩
 | ret u=>obtain ⟨v,σ',H',I,r,q⟩:=h;exact ⟨v,σ',H',I.unwish,r,q⟩
theorem PE.nox {t:TE} (h:PE X.nox e t):PE X e t:=λpins s σ H Q I hw =>
 wpAny_mono (h pins s σ H Q (I.wish _) hw) (λ_ _ ⟨v,H',I',r,q⟩=>⟨v,H',I'.unwish,r,q⟩) λ_ _ z=>False.elim z
theorem PSs.nox {st:List Stmt} {t:TS} (h:PSs X.nox st t):PSs X st t:=λpins s σ H D I hw =>
 wpAny_mono (h pins s σ H D (I.wish _) hw) (λ_ _ q=>q.unwish) λ_ _ z=>False.elim z
section
variable {rest:List Stmt} {t u:TS}
def Qx3:TS:=λD σ H=>D.nx σ H
def tSeq (t u:TS):TS:=λD σ H=>t { D with nx:=u D } σ H
theorem Qti:PSs X [] Qx3:=λ_ _ σ H _ I h=>wpAny_execs_nil ⟨σ,H,I,h⟩
theorem Qbs (h1:PS X st t) (h2:PSs X rest u):PSs X (st::rest) (tSeq t u):=by
 intro pins s σ H D I h
 refine wpAny_execs_cons (thn (h1 pins s σ H { D with nx:=u D } I h) λf s1 q=>?_)
 cases f with
 | next =>
  obtain ⟨σ',H',I',q⟩:=q
  exact h2 pins s1 σ' H' D I' q
 | ret v=>exact q
 | brk=>exact q
 | cont=>exact q
theorem Qhm (h1:PS X st t):PSs X [st] t:=by
 intro pins s σ H D I h
 refine wpAny_execs_cons (thn (h1 pins s σ H D I h) λf s1 q=>?_)
 cases f with
 | next=>exact wpAny_execs_nil q
 | ret v=>exact q
 | brk=>exact q
 | cont=>exact q
theorem Inv.quiet (I:Inv X pins σ H s):interactive X.env=false:=by simp [interactive,I.ok.kind]
def Qx4 (te:TE):TS:=λD σ H=>te σ H λ_ H1=>D.nx σ H1
theorem Qeu (he:PE X e te) (hs:swapsWith e none pos.line X.env=pure false:=by rfl):PS X (.Expr e pos) (Qx4 te):=by
 intro pins s σ H D I h
 exact wpAny_Expr_any (thn (he pins s σ H _ I h) λv s1 ⟨x,H1,I1,r1,q1⟩=>⟨σ,H1,I1,q1⟩) I.quiet hs
def tRet (te:TE):TS:=λD σ H=>te σ H D.rt
theorem Qrm (he:PE X e te):PS X (.Return (some e) pos) (tRet te):=by
 intro pins s σ H D I h
 exact wpAny_Return_some (thn (he pins s σ H _ I h) λv s1 ⟨x,H1,I1,r1,q1⟩=>⟨x,σ,H1,I1,r1,q1⟩)
def tIfS (c:TT) (t u:TS):TS:=λD σ H=>c σ H λb H1=>if b=true then t D σ H1 else u D σ H1
theorem Qyk {a b:List Stmt} (hc:PT X c tc) (ha:PSs X a t) (hb:PSs X b u):PS X (.If c a b pos) (tIfS tc t u):=by
 intro pins s σ H D I h
 refine wpAny_If (thn (hc pins s σ H _ I h) λd s1 ⟨H1,I1,q1⟩=>?_)
 cases d with
 | true=>exact ha pins s1 σ H1 D I1 q1
 | false=>exact hb pins s1 σ H1 D I1 q1
end
abbrev TG:=V->St->Hp->(St->Hp->Prop)->Prop
abbrev TGs:=List V->St->Hp->(St->Hp->Prop)->Prop
def PG (X:Cx) (target:Expr) (t:TG):Prop :=
 ∀(pins:List (Addr × Obj)) (s:Shared) (σ:St) (H:Hp) (v:V) (u:Value) (Q:St->Hp->Prop),Inv X pins σ H s->RelV v u->t v σ H Q ->
  wpAny (model X.prog X.w) X.A (assign target X.env u) (λ_ s'=>∃σ' H',Inv X pins σ' H' s'/\Q σ' H') X.xe s
def PGs (X:Cx) (ts:List Expr) (t:TGs):Prop :=
 ∀(pins:List (Addr × Obj)) (s:Shared) (σ:St) (H:Hp) (vs:List V) (us:List Value) (Q:St->Hp->Prop),Inv X pins σ H s->Vals vs us->t vs σ H Q ->
  wpAny (model X.prog X.w) X.A (assignInOrder ((assignEach ts X.env).map (·.2)) us) (λ_ s'=>∃σ' H',Inv X pins σ' H' s'/\Q σ' H') X.xe s
abbrev TSet:=V->V->V->Hp->(Hp->Prop)->Prop
end L2
variable {o:PySem.Obj} {es:List PySem.Expr} {n:Nat} {to:L2.TE} {tg:PySem.Expr} {g:L2.TG} {pos':PySem.Pos} {body:List PySem.Stmt}
namespace L2
open PySem PySem.Spec PyProof.Rows
def PSet (X:Cx) (t:TSet):Prop :=
 ∀(pins:List (Addr × Obj)) (s:Shared) (σ:St) (H:Hp) (o i v:V) (ov iv u:Value) (Q:Hp->Prop),Inv X pins σ H s->RelV o ov->RelV i iv->RelV v u->t o i v H Q ->
  wpAny (model X.prog X.w) X.A (setItem ov iv u) (λ_ s'=>∃H',Inv X pins σ H' s'/\Q H') X.xe s
def Qdi (i:Nat):TG:=λv σ H Q=>Q (σ.set i (some v)) H
theorem Qcl (hN:X.N.Nodup) (hi:X.N[i]? = some x) (hx:Loc X.env.scope x) (hf:X.fn x=true\/X.env.scope.names.lookup x=some .local:=by first | exact .inl rfl | exact .inr rfl | assumption):PG X (.Name x pos) (Qdi i):=by
 intro pins s σ H v u Q I r h
 exact wpAny_assign_Name (Qbq I hN hi hx r (λs' I'=>⟨_,H,I',h⟩) hf)
def gNil:TGs:=λvs σ H Q=>vs=[]/\Q σ H
def Qua (t:TG) (u:TGs):TGs:=λvs σ H Q=>∃v r,vs=v::r/\t v σ H λσ' H'=>u r σ' H' Q
theorem Qmk:PGs X [] gNil:=by
 intro pins s σ H vs us Q I r h
 obtain ⟨e,h⟩:=h
 subst e
 cases r
 exact assignInOrder_nil ⟨σ,H,I,h⟩
theorem Qew {t:TG} {u:TGs} (h1:PG X e t) (h2:PGs X es u)
  (hs:(assignEach (e::es) X.env).map (·.2)=assign e X.env::(assignEach es X.env).map (·.2):=by rfl):PGs X (e::es) (Qua t u):=by
 intro pins s σ H vs us Q I r h
 obtain ⟨v,vr,e1,h⟩:=h
 subst e1
 cases r with
 | cons r rr =>
  rw [hs]
  refine assignInOrder_cons (thn (h1 pins s σ H _ _ _ I r h) λ_ s1 ⟨σ1,H1,I1,q1⟩=>?_)
  exact h2 pins s1 σ1 H1 _ _ Q I1 rr q1
def gTup (K:Frag) (n:Nat) (t:TGs):TG:=λv σ H Q=>∃a xs,v=.ref a/\SqT K H a xs/\xs.length=n/\t xs σ H Q
theorem Qro {k:Nat} {t:TGs} (hc:X.calm=true) (h:PGs X es t)
  (hn:(assignEach es X.env).length=n:=by rfl) (hst:(assignEach es X.env).findIdx? (·.1)=none:=by rfl):PG X (.Tuple es k pos) (gTup X.K n t):=by
 intro pins s σ H v u Q I r hw
 obtain ⟨a,xs,e1,hq,hl,hw⟩:=hw
 subst e1
 cases r
 obtain ⟨its,rv,ht,hz⟩:=I.tuple hq
 refine assign_Tuple_tuple (I.ok.hd hc) ht (by simp [hn,← hl,rv.length]) hst λh' hx=>?_
 have I1:Inv X pins σ H { s with heap:=h' }:=I.kept (t':=s.toks) λb o e=>hx b o (Nat.ne_of_lt (Heap.lt_size e)) e
 exact h pins _ σ H xs _ Q I1 (by simpa using rv) hw
def gSub (to ti:TE) (t:TSet):TG:=λv σ H Q=>to σ H λo H1=>ti σ H1 λi H2=>t o i v H2 λH3=>Q σ H3
theorem Qv1 {o i:Expr} {ti:TE} {t:TSet} (ho:PE X o to) (hi:PE X i ti) (hs:PSet X t)
  (ha:∀v,assign (.Subscript o i pos) X.env v=(do
   let ov ← holding [v] (eval o X.env)
   let iv ← holding [v,ov] (eval i X.env)
   standAt pos
   holding [v,ov,iv] (setItem ov iv v)
   release [v,ov,iv] []):=by intro _;rfl):PG X (.Subscript o i pos) (gSub to ti t):=by
 intro pins s σ H v u Q I r h
 rw [ha]
 refine wpAny_bind (wpAny_holding (thn (ho pins s σ H _ I h) λov s1 ⟨x,H1,I1,r1,q1⟩=>?_))
 refine wpAny_bind (wpAny_holding (thn (hi pins s1 σ H1 _ I1 q1) λiv s2 ⟨y,H2,I2,r2,q2⟩=>?_))
 refine wpAny_bind (wpAny_standAt (wpAny_bind (wpAny_holding (thn (hs pins s2 σ H2 x y v ov iv u _ I2 r1 r2 r q2) λ_ s3 ⟨H3,I3,q3⟩=>?_))))
 exact wpAny_release ⟨σ,H3,I3,q3⟩
def tAsg (te:TE) (g:TG):TS:=λD σ H=>te σ H λx H1=>g x σ H1 D.nx
theorem Qrn (he:PE X e te) (hg:PG X tg g) (hs:swapsWithSole [tg] e pos.line X.env=pure false:=by rfl) (hw:swappedStores [tg] e X.env=pure none:=by rfl)
  (h1:(assignEach [tg] X.env).map (·.2)=[assign tg X.env]:=by rfl):PS X (.Assign [tg] e pos) (tAsg te g):=by
 intro pins s σ H D I h
 refine wpAny_Assign_stores (thn (he pins s σ H _ I h) λv s1 ⟨x,H1,I1,r1,q1⟩=>?_) hs hw
 rw [h1]
 exact thn (hg pins s1 σ H1 x v _ I1 r1 q1) λ_ s2 q=>q
theorem Qmc (hN:X.N.Nodup) (hi:X.N[i]? = some x) (hx:Loc X.env.scope x) (he:PE X e te) (hs:swapsWith e (some (.Name x pos')) pos.line X.env=pure false:=by rfl) (hf:X.fn x=true\/X.env.scope.names.lookup x=some .local:=by first | exact .inl rfl | exact .inr rfl | assumption) :
  PS X (.Assign [.Name x pos'] e pos) (tAsg te (Qdi i)):=by
 intro pins s σ H D I h
 refine wpAny_Assign_Name (thn (he pins s σ H _ I h) λv s1 ⟨y,H1,I1,r1,q1⟩=>?_) hs
 exact Qbq I1 hN hi hx r1 (λs2 I2=>⟨_,H1,I2,q1⟩) hf
def Qu3 (c:TT) (tb:TS):TS:=λD σ H=>∃W:Nat->St->Hp->Prop,(∃m,W m σ H)/\∀m σ H,W m σ H ->
 c σ H λb H1=>if b=true then ∃N:St->Hp->Prop,(∀σ' H',N σ' H'->∃m',m' < m/\W m' σ' H')/\tb { D with nx:=N,ct:=N,bk:=D.nx } σ H1 else D.nx σ H1
theorem Qpi {tb:TS} (hp:PassesOwn (model X.prog X.w) X.A X.env X.xe) (hc:PT X c tc) (hb:PSs X body tb):PS X (.While c body [] pos) (Qu3 tc tb):=by
 intro pins s σ H D I h
 obtain ⟨W,⟨m0,w0⟩,turn⟩:=h
 refine wpAny_While (codeAny_whileLoop (λn s'=>∃σ' H',Inv X pins σ' H' s'/\W n σ' H') ?_ m0 ⟨σ,H,I,w0⟩)
 rintro n s1 ⟨σ1,H1,I1,w1⟩
 refine wpAny_passesOwn hp (thn (hc pins s1 σ1 H1 _ I1 (turn n σ1 H1 w1)) λb s2 ⟨H2,I2,q2⟩=>?_)
 cases b with
 | true =>
  obtain ⟨N,hN,q2⟩:=q2
  rw [if_pos rfl]
  refine wpAny_passesOwn hp (thn (hb pins s2 σ1 H2 _ I2 q2) λf s3 q3=>?_)
  cases f with
  | next =>
   obtain ⟨σ3,H3,I3,n3⟩:=q3
   obtain ⟨m',hm,w3⟩:=hN σ3 H3 n3
   exact ⟨m',hm,σ3,H3,I3,w3⟩
  | cont =>
   obtain ⟨σ3,H3,I3,n3⟩:=q3
   obtain ⟨m',hm,w3⟩:=hN σ3 H3 n3
   exact ⟨m',hm,σ3,H3,I3,w3⟩
  | brk=>exact q3
  | ret v=>exact q3
 | false =>
  rw [if_neg Bool.false_ne_true]
  exact wpAny_execs_nil ⟨σ1,H2,I2,q2⟩
structure It where
 go:Nat->Hp->Prop
 yld:Nat->Hp->V->Hp->Prop
 stop:Nat->Hp->Prop
def FpOk (X:Cx) (pins:List (Addr × Obj)) (H:Hp) (b:Addr):Prop :=
 H b=none/\b≠X.env.locals/\b∉X.fs/\(b∈X.ex\/X.s₀.heap.objs.size<=b)/\(∀x c,X.env.cells.lookup x=some c->c≠b)/\∀p∈X.pn++pins,p.1≠b
theorem Inv.fpOk (I:Inv X pins σ H s) (hb:s.heap.objs.size<=b) (hn:H' b=none):FpOk X pins H' b:=by
 refine ⟨hn,Nat.ne_of_gt (Nat.lt_of_lt_of_le I.lt hb),I.nofs hb,.inr (Nat.le_trans I.sz hb),λx c e z=>?_,λp hp z=>?_⟩
 ·obtain ⟨v,q⟩:=I.cell x c e
  exact absurd (Nat.lt_of_lt_of_le q.lt (by rw [z];exact hb)) (Nat.lt_irrefl _)
 ·exact absurd (Nat.lt_of_lt_of_le (Heap.lt_size (I.pin p hp).1) (by rw [z];exact hb)) (Nat.lt_irrefl _)
structure Turn (P:Program) (w:World) (K:Frag) (tg:Expr) (J:It) (fp:List Addr) (it:Addr) (tn:Nat->Heap->Prop):Prop where
 mem:it∈fp
 obj:∀i h,tn i h->∀b∈fp,∃o,h.get? b=some o/\∀v,o.data ≠ .cell v
 keep:∀i h h',tn i h->(∀b∈fp,∀o,h.get? b=some o->h'.get? b=some o)->tn i h'
 item:∀(X:Cx),X.prog=P->X.w=w->X.K=K->X.calm=true->∀(i:Nat) (pins:List (Addr × Obj)) (s:Shared) (σ:St) (H:Hp) (E:Value->Shared->Prop),Inv X pins σ H s->(∀b∈fp,FpOk X pins H b)->tn i s.heap->J.go i H ->
  wpAny (model P w) X.A (pyNext (.ref it)) (λr s1=>∃u,r=some u /\
   wpAny (model P w) X.A (letOwnedTupleGo tg (.ref it) u) (λ_ s2=>∃x H',Inv X pins σ H' s2/\RelV x u/\J.yld i H x H'/\tn (i+1) s2.heap/\∀b∈fp,H' b=none) E s1) E s
 done:∀(X:Cx),X.prog=P->X.w=w->X.K=K->X.calm=true->∀(i:Nat) (pins:List (Addr × Obj)) (s:Shared) (σ:St) (H:Hp) (E:Value->Shared->Prop),Inv X pins σ H s->(∀b∈fp,FpOk X pins H b)->tn i s.heap->J.stop i H ->
  wpAny (model P w) X.A (pyNext (.ref it)) (λr s1=>r=none/\Inv X pins σ H s1) E s
 self:∀(A:Around) (i:Nat) (s:Shared) (Q:Value->Shared->Prop) (E:Value->Shared->Prop),tn i s.heap->Q (.ref it) s->wpAny (model P w) A (pyIter (.ref it)) Q E s
abbrev TI:=St->Hp->(It->Hp->Prop)->Prop
end L2
variable {vs:List L2.V} {R:PySem.Result->PySem.Shared->Prop} {lo hi:Option Int} {tk:Nat} {p:PySem.Pos} {fp:List PySem.Addr} {iter:PySem.Expr} {wi:L2.TI}
namespace L2
open PySem PySem.Spec PyProof.Rows
def PIE (X:Cx) (pins:List (Addr × Obj)) (σ:St) (tg:Expr) (R:It->Hp->Prop) (itv:Value) (s2:Shared):Prop :=
 ∃(it:Addr) (fp:List Addr) (tn:Nat->Heap->Prop) (J:It) (H':Hp),itv=.ref it/\Inv X pins σ H' s2/\Turn X.prog X.w X.K tg J fp it tn/\tn 0 s2.heap/\(∀b∈fp,FpOk X pins H' b)/\R J H'
def PI (X:Cx) (tg iter:Expr) (wi:TI):Prop :=
 ∀(pins:List (Addr × Obj)) (s:Shared) (σ:St) (H:Hp) (R:It->Hp->Prop),Inv X pins σ H s->wi σ H R ->
  wpAny (model X.prog X.w) X.A (eval iter X.env) (λv s1=>wpAny (model X.prog X.w) X.A (pyIter v) (PIE X pins σ tg R) X.xe s1) X.xe s
theorem Qkx {M:Model} {n:String} {vs:Array Value} {Q:Unit->Shared->Prop} (ho:s.heap.get? it=some o) (hc:o.cls=.type n) (hd:o.data=.fields vs)
    (hn:["enumerate","zip","dict_itemiterator","dict_reverseitemiterator","odict_iterator","itertools.zip_longest","itertools.pairwise"].contains n=false) (hQ:Q () s):wpAny M A (letOwnedTupleGo tg (.ref it) u) Q E s:=by
  unfold letOwnedTupleGo
  cases tg <;> first
    | exact wpAny_pure hQ
    | (cases u <;> first
        | exact wpAny_pure hQ
        | (refine wpAny_bind (wpAny_load ho ?_)
           rw [hc,hd]
           show wpAny M A (if (["enumerate","zip","dict_itemiterator","dict_reverseitemiterator","odict_iterator","itertools.zip_longest","itertools.pairwise"].contains n && vs[0]? == some (rawInt _))=true then _ else _) Q E s
           rw [if_neg (by intro h;rw [hn,Bool.false_and] at h;cases h)]
           exact wpAny_pure hQ))
def Itl (K:Frag) (a:Addr):It :=
 ⟨λi H=>∃xs x,SqL K H a xs/\xs[i]? = some x,λi H x H'=>H'=H/\∀xs,SqL K H a xs->xs[i]? = some x,λi H=>∃xs,SqL K H a xs/\xs.length<=i⟩
def Itt (K:Frag) (a:Addr):It :=
 ⟨λi H=>∃xs x,SqT K H a xs/\xs[i]? = some x,λi H x H'=>H'=H/\∀xs,SqT K H a xs->xs[i]? = some x,λi H=>∃xs,SqT K H a xs/\xs.length<=i⟩
def Itr (lo:Int) (n:Nat):It:=⟨λi _=>i<n,λi H x H'=>H'=H/\x=.int (lo+i),λi _=>n<=i⟩
theorem Qfn (a it:Addr):Turn P w K tg (Itl K a) [it] it (λi h=>h.IsListIter it a i) where
 mem:=by simp
 obj:=λi h st b hb=>by
  have e:b=it:=by simpa using hb
  subst e
  obtain ⟨o,e,c,d⟩:=st
  exact ⟨o,e,λv z=>by rw [d] at z;cases z⟩
 keep:=λi h h' st k=>st.at λo e=>k it (by simp) o e
 item:=by
  intro X hP hw hK hc i pins s σ H E I hf st hg
  subst hP hw hK
  obtain ⟨xs,x,hq,hx⟩:=hg
  obtain ⟨its,rv,p,hz⟩:=I.list hq
  obtain ⟨u,hu,ru⟩:=rv.get hx
  obtain ⟨f0,f1,f2,f3,f4,f5⟩:=hf it (by simp)
  refine wpAny_pyNext_list_item st p.isList (x:=u) (by simpa using hu) λh' st' sb=>?_
  have I1:Inv X pins σ H { s with heap:=h' }:=I.turned (t':=s.toks) (λb o hb e=>(sb.2 b hb).trans e) f0 f1 f3 f4 f5
  obtain ⟨o,e,c,d⟩:=id st'
  exact ⟨u,rfl,Qkx (s:={ s with heap:=h' }) e c d (by decide) ⟨x,H,I1,ru,⟨rfl,λys hy=>by rw [I.list_inj hy hq];exact hx⟩,st',λb hb=>(hf b hb).1⟩⟩
 done:=by
  intro X hP hw hK hc i pins s σ H E I hf st hg
  subst hP hw hK
  obtain ⟨xs,hq,hx⟩:=hg
  obtain ⟨its,rv,p,hz⟩:=I.list hq
  obtain ⟨f0,f1,f2,f3,f4,f5⟩:=hf it (by simp)
  have hl:=rv.length
  exact wpAny_pyNext_list_end (I.ok.hd hc) st p.isList (by simp;omega) λh' eb=>⟨rfl,I.turned (t':=s.toks) (λb o hb e=>eb b o hb e) f0 f1 f3 f4 f5⟩
 self:=λ_ _ _ _ _ st h=>wpAny_pyIter_listiter st h
theorem Qj9 (a it:Addr):Turn P w K tg (Itt K a) [it] it (λi h=>h.IsTupleIter it a i) where
 mem:=by simp
 obj:=λi h st b hb=>by
  have e:b=it:=by simpa using hb
  subst e
  obtain ⟨o,e,c,d⟩:=st
  exact ⟨o,e,λv z=>by rw [d] at z;cases z⟩
 keep:=λi h h' st k=>st.at λo e=>k it (by simp) o e
 item:=by
  intro X hP hw hK hc i pins s σ H E I hf st hg
  subst hP hw hK
  obtain ⟨xs,x,hq,hx⟩:=hg
  obtain ⟨its,rv,p,hz⟩:=I.tuple hq
  obtain ⟨u,hu,ru⟩:=rv.get hx
  obtain ⟨f0,f1,f2,f3,f4,f5⟩:=hf it (by simp)
  refine wpAny_pyNext_tuple_item st (show s.heap.IsTuple a its.toArray from p) (x:=u) (by simpa using hu) λh' st' sb=>?_
  have I1:Inv X pins σ H { s with heap:=h' }:=I.turned (t':=s.toks) (λb o hb e=>(sb.2 b hb).trans e) f0 f1 f3 f4 f5
  obtain ⟨o,e,c,d⟩:=id st'
  exact ⟨u,rfl,Qkx (s:={ s with heap:=h' }) e c d (by decide) ⟨x,H,I1,ru,⟨rfl,λys hy=>by rw [I.tuple_inj hy hq];exact hx⟩,st',λb hb=>(hf b hb).1⟩⟩
 done:=by
  intro X hP hw hK hc i pins s σ H E I hf st hg
  subst hP hw hK
  obtain ⟨xs,hq,hx⟩:=hg
  obtain ⟨its,rv,p,hz⟩:=I.tuple hq
  obtain ⟨f0,f1,f2,f3,f4,f5⟩:=hf it (by simp)
  have hl:=rv.length
  exact wpAny_pyNext_tuple_end (I.ok.hd hc) st (show s.heap.IsTuple a its.toArray from p) (by simp;omega) λh' eb=>⟨rfl,I.turned (t':=s.toks) (λb o hb e=>eb b o hb e) f0 f1 f3 f4 f5⟩
 self:=λ_ _ _ _ _ st h=>wpAny_pyIter_tupleiter st h
theorem Qka (it:Addr) (lo:Int) (n:Nat):Turn P w K tg (Itr lo n) [it] it (λi h=>IsRangeIter h it (lo+(i:Nat)*1) ((n:Int)-(i:Nat)) 1) where
 mem:=by simp
 obj:=λi h st b hb=>by
  have e:b=it:=by simpa using hb
  subst e
  exact ⟨_,st,λv z=>by
   have z':Data.fields _=Data.cell v:=z
   cases z'⟩
 keep:=λi h h' st k=>k it (by simp) _ st
 item:=by
  intro X hP hw hK hc i pins s σ H E I hf st hg
  subst hP hw hK
  obtain ⟨f0,f1,f2,f3,f4,f5⟩:=hf it (by simp)
  have W:=Walks.range (prog:=X.prog) (w:=X.w) (I.ok.hd hc) it lo 1 n
  refine W.item i s _ _ hg st λv h' tk hv st' kk=>?_
  obtain ⟨t,rfl⟩:=hv
  have I1:Inv X pins σ H { s with heap:=h',toks:=tk }:=I.turned (λb o hb e=>kk b o (by simpa using hb) e) f0 f1 f3 f4 f5
  refine ⟨_,rfl,Qkx (s:={ s with heap:=h',toks:=tk }) (n:="range_iterator") st' rfl rfl (by decide) ⟨.int (lo+i),H,I1,⟨t,?_⟩,⟨rfl,rfl⟩,st',λb hb=>(hf b hb).1⟩⟩
  rw [Int.mul_one]
 done:=by
  intro X hP hw hK hc i pins s σ H E I hf st hg
  subst hP hw hK
  obtain ⟨f0,f1,f2,f3,f4,f5⟩:=hf it (by simp)
  exact wpAny_pyNext_range_end (I.ok.hd hc) st (by have:n<=i:=hg;omega) λh' eb=>⟨rfl,I.turned (t':=s.toks) (λb o hb e=>eb b o hb e) f0 f1 f3 f4 f5⟩
 self:=λ_ _ _ _ _ st h=>wpAny_pyIter_rangeiter st h
theorem Qi2 {R:It->Hp->Prop} {lo hi:Int} {t u v:Tok} (I:Inv X pins σ H s) (h1:-(2 ^ 62)<=lo) (h2:lo<2 ^ 62) (h3:-(2 ^ 62)<=hi) (h4:hi<2 ^ 62)
  (q:R (Itr lo (hi-lo).toNat) H):wpAny (model X.prog X.w) X.A (pyIter (.ref s.heap.objs.size)) (PIE X pins σ tg R) E { s with heap:=s.heap.push { cls:=.type "range",data:=.fields #[.int lo t,.int hi u,.int 1 v] },toks:=tk }:=by
 refine wpAny_pyIter_range (IsRange.new ..) (small_one h1 h2 h3 h4) ?_
 have I1:Inv X pins σ H { s with heap:=s.heap.push { cls:=.type "range",data:=.fields #[.int lo t,.int hi u,.int 1 v] },toks:=tk }:=I.kept λb o e=>Heap.get?_push_of_some _ e
 refine ⟨(s.heap.push { cls:=.type "range",data:=.fields #[.int lo t,.int hi u,.int 1 v] }).objs.size,[(s.heap.push { cls:=.type "range",data:=.fields #[.int lo t,.int hi u,.int 1 v] }).objs.size],_,_,H,rfl,
  I1.kept (t':=tk) λb o e=>Heap.get?_push_of_some _ e,Qka _ lo (hi-lo).toNat,?_,λb hb=>?_,q⟩
 ·have e1:lo+((0:Nat):Int)*1=lo:=by simp
  have e2:(((hi-lo).toNat:Nat):Int)-((0:Nat):Int)=Builtin.Range.rangeSize lo hi 1:=by rw [rangeSize_one];split <;> omega
  show IsRangeIter _ _ (lo+((0:Nat):Int)*1) ((((hi-lo).toNat:Nat):Int)-((0:Nat):Int)) 1
  rw [e1,e2]
  exact Heap.get?_push_size _ rfl
 ·have e:b=(s.heap.push { cls:=.type "range",data:=.fields #[.int lo t,.int hi u,.int 1 v] }).objs.size:=by simpa using hb
  subst e
  exact I1.fpOk (Nat.le_refl _) (I1.hok.fresh (Nat.le_refl _))
def Qy2 (ta:TA):TI:=λσ H R=>ta σ H λvs H1=>∃j:Int,vs=[.int j] /\ -(2 ^ 62)<=j/\j<2 ^ 62/\R (Itr 0 j.toNat) H1
def Qy1 (ta:TA):TI:=λσ H R=>ta σ H λvs H1=>∃i j:Int,vs=[.int i,.int j]/\(-(2 ^ 62)<=i/\i<2 ^ 62 /\ -(2 ^ 62)<=j/\j<2 ^ 62)/\R (Itr i (j-i).toNat) H1
theorem Qmj {a:Expr} {ta:TA} (hg:Gl X "range") (hm:X.mg "range" = none) (ha:PA X [a] ta) (hs:starEach [a] X.env=[(false,eval a X.env)]:=by rfl):PI X tg (.Call (.Name "range" p) [a] [] pos) (Qy2 ta):=by
 intro pins s σ H R I h
 refine Call_ (Qba I hg hm boot_range (PyProof.Rows.callWith_type1 (thn (ha pos pins s σ H _ I h) λus s1 ⟨vs,H1,I1,r1,q1⟩=>?_) hs rfl))
 obtain ⟨j,e,q1,q2,q⟩:=q1
 subst e
 cases r1 with
 | cons r rr =>
  cases rr
  obtain ⟨t,rfl⟩:=r
  exact call_range_1 (Qi2 I1 (by omega) (by omega) q1 q2 (by simpa using q))
theorem Qmi {a b:Expr} {ta:TA} (hg:Gl X "range") (hm:X.mg "range" = none) (ha:PA X [a,b] ta) (hs:starEach [a,b] X.env=[(false,eval a X.env),(false,eval b X.env)]:=by rfl) (hs2:starEach [b] X.env=[(false,eval b X.env)]:=by rfl) :
  PI X tg (.Call (.Name "range" p) [a,b] [] pos) (Qy1 ta):=by
 intro pins s σ H R I h
 refine Call_ (Qba I hg hm boot_range (PyProof.Rows.callWith_type1 (thn (ha pos pins s σ H _ I h) λus s1 ⟨vs,H1,I1,r1,q1⟩=>?_) (by rw [hs,hs2]) (by rw [hs2];rfl)))
 obtain ⟨i,j,e,⟨q1,q2,q3,q4⟩,q⟩:=q1
 subst e
 cases r1 with
 | cons r rr =>
  cases rr with
  | cons r' rr =>
   cases rr
   obtain ⟨t,rfl⟩:=r
   obtain ⟨t',rfl⟩:=r'
   exact call_range_2 (Qi2 I1 q1 q2 q3 q4 q)
def tFor (wi:TI) (g:TG) (tb:TS):TS:=λD σ H=>wi σ H λJ H1=>∃W:Nat->Nat->St->Hp->Prop,(∃m,W 0 m σ H1)/\∀i m σ H,W i m σ H ->
 (J.stop i H/\D.nx σ H)\/(J.go i H/\∃N:St->Hp->Prop,(∀σ' H',N σ' H'->∃m',m' < m/\W (i+1) m' σ' H')/\∀x H',J.yld i H x H'->g x σ H' λσ2 H2=>tb { D with nx:=N,ct:=N,bk:=D.nx } σ2 H2)
def Qd5 (fp:List Addr) (h:Heap):List (Addr × Obj):=fp.filterMap λb=>(h.get? b).map λo=>(b,o)
theorem Vk (hb:b∈fp) (e:h.get? b=some o):(b,o)∈Qd5 fp h:=List.mem_filterMap.mpr ⟨b,hb,by rw [e];rfl⟩
theorem Qmu {p:Addr × Obj} (hp:p∈Qd5 fp h):p.1∈fp/\h.get? p.1=some p.2:=by
 obtain ⟨b,hb,e⟩:=List.mem_filterMap.mp hp
 cases q:h.get? b with
 | none=>rw [q] at e;cases e
 | some o =>
  rw [q] at e
  have e':(b,o)=p:=Option.some.inj e
  subst e'
  exact ⟨hb,q⟩
theorem Inv.pinned (I:Inv X pins σ H s) (hf:∀b∈fp,FpOk X pins H b) (ho:∀b∈fp,∃o,s.heap.get? b=some o/\∀v,o.data ≠ .cell v):Inv X (pins++Qd5 fp s.heap) σ H s :=
 I.pins_of λp hp=>(List.mem_append.mp hp).elim (λz=>I.pin p (List.mem_append_right _ z)) λz=>by
  obtain ⟨hb,e⟩:=Qmu z
  obtain ⟨f0,f1,f2,_⟩:=hf p.1 hb
  obtain ⟨o,e',d⟩:=ho p.1 hb
  rw [e] at e';cases e'
  exact ⟨e,f0,f1,f2,d⟩
theorem Inv.unpinned {pl:List (Addr × Obj)} (I:Inv X (pins++pl) σ H s):Inv X pins σ H s:=I.pins_of λp hp=>I.pin p (List.mem_append_right _ (List.mem_append_left _ hp))
theorem Qvy {tb:TS} (hp:PassesOwn (model X.prog X.w) X.A X.env X.xe) (hc:X.calm=true) (hi:PI X tg iter wi) (hg:PG X tg g) (hb:PSs X body tb)
  (hs:∀x,foldedSetIterable iter X.env x=pure x:=by intro _;rfl):PS X (.For tg iter body [] pos) (tFor wi g tb):=by
 intro pins s σ H D I h
 refine wpAny_For (thn (hi pins s σ H _ I h) λv s1 h1=>thn h1 λitv s2 h2=>?_) hs
 obtain ⟨it,fp,tn,J,H2,e,I2,T,st2,f2,W,⟨m0,w0⟩,turn⟩:=h2
 subst e
 -- what stays true of the iterator's objects through the loop
 have stat:∀{H':Hp},(∀b∈fp,H' b=none)->∀b∈fp,FpOk X pins H' b:=λhn b hb=>⟨hn b hb,(f2 b hb).2⟩
 refine codeAny_forLoop_any (λn s'=>∃i σ' H',Inv X pins σ' H' s'/\tn i s'.heap/\(∀b∈fp,H' b=none)/\W i n σ' H') ?_ m0 ⟨0,σ,H2,I2,st2,λb hb=>(f2 b hb).1,w0⟩
 rintro n s3 ⟨i,σ3,H3,I3,st3,fr3,w3⟩
 rcases turn i n σ3 H3 w3 with ⟨stop,qn⟩ | ⟨go,N,hN,step⟩
 ·refine wpAny_passesOwn hp (thn (T.done X rfl rfl rfl hc i pins s3 σ3 H3 X.xe I3 (stat fr3) st3 stop) λr s4 ⟨hr,I4⟩=>?_)
  subst hr
  exact wpAny_execs_nil ⟨σ3,H3,I4,qn⟩
 ·refine wpAny_passesOwn hp (thn (T.item X rfl rfl rfl hc i pins s3 σ3 H3 X.xe I3 (stat fr3) st3 go) λr s4 ⟨u,hr,h4⟩=>?_)
  subst hr
  refine wpAny_passesOwn hp (thn h4 λ_ s5 ⟨x,H5,I5,r5,y5,st5,fr5⟩=>?_)
  have I5':=I5.pinned (stat fr5) (T.obj _ _ st5)
  refine wpAny_passesOwn hp (thn (hg _ s5 σ3 H5 x u _ I5' r5 (step x H5 y5)) λ_ s6 ⟨σ6,H6,I6,q6⟩=>?_)
  refine wpAny_passesOwn hp (thn (hb _ s6 σ6 H6 _ I6 q6) λf s7 q7=>?_)
  have again:∀{σ7:St} {H7:Hp},Inv X (pins++Qd5 fp s5.heap) σ7 H7 s7->N σ7 H7->∃m,m<n/\∃i σ' H',Inv X pins σ' H' s7/\tn i s7.heap/\(∀b∈fp,H' b=none)/\W i m σ' H':=λ{σ7 H7} I7 n7=>by
   obtain ⟨m',hm,w7⟩:=hN σ7 H7 n7
   refine ⟨m',hm,i+1,σ7,H7,I7.unpinned,T.keep _ _ _ st5 λb hb o e=>(I7.pin (b,o) (List.mem_append_right _ (List.mem_append_right _ (Vk hb e)))).1,λb hb=>?_,w7⟩
   obtain ⟨o,e,d⟩:=T.obj _ _ st5 b hb
   exact (I7.pin (b,o) (List.mem_append_right _ (List.mem_append_right _ (Vk hb e)))).2.1
  cases f with
  | next=>obtain ⟨σ7,H7,I7,n7⟩:=q7;exact again I7 n7
  | cont=>obtain ⟨σ7,H7,I7,n7⟩:=q7;exact again I7 n7
  | brk=>obtain ⟨σ7,H7,I7,q7⟩:=q7;exact ⟨σ7,H7,I7.unpinned,q7⟩
  | ret v=>obtain ⟨x7,σ7,H7,I7,r7,q7⟩:=q7;exact ⟨x7,σ7,H7,I7.unpinned,r7,q7⟩
abbrev R2:=V->V->Hp->VK->Prop
end L2
variable {o:Option L2.V} {i:Int} {g:Int->Int->Int} {op:PySem.CmpOp} {r:L2.R2} {C dx:PySem.Addr} {its:List PySem.Value} {mA:PySem.Str->Option PySem.Value} {prog:PySem.Program} {env:PySem.Env} {kw:List (PySem.Str × PySem.Value)} {fs:List (PySem.Str × L2.V)}
namespace L2
open PySem PySem.Spec PyProof.Rows
def OpR (X:Cx) (f:Value->Value->Sem Value) (r:R2):Prop :=
 ∀(pins:List (Addr × Obj)) (s:Shared) (σ:St) (H:Hp) (x y:V) (v u:Value) (Q:VK),Inv X pins σ H s->RelV x v->RelV y u->r x y H Q ->
  wpAny (model X.prog X.w) X.A (f v u) (EP X pins σ Q) X.xe s
def UnR (X:Cx) (f:Value->Sem Value) (r:V->Hp->VK->Prop):Prop :=
 ∀(pins:List (Addr × Obj)) (s:Shared) (σ:St) (H:Hp) (x:V) (v:Value) (Q:VK),Inv X pins σ H s->RelV x v->r x H Q ->
  wpAny (model X.prog X.w) X.A (f v) (EP X pins σ Q) X.xe s
def V0 (X:Cx) (f:Value) (r:List V->Hp->VK->Prop):Prop :=
 ∀(pins:List (Addr × Obj)) (s:Shared) (σ:St) (H:Hp) (xs:List V) (us:List Value) (Q:VK),Inv X pins σ H s->Vals xs us->r xs H Q ->
  wpAny (model X.prog X.w) X.A (call f us) (EP X pins σ Q) X.xe s
def TruR (X:Cx) (r:V->Hp->(Bool->Hp->Prop)->Prop):Prop :=
 ∀(pins:List (Addr × Obj)) (s:Shared) (σ:St) (H:Hp) (x:V) (v:Value) (Q:Bool->Hp->Prop),Inv X pins σ H s->RelV x v->r x H Q ->
  wpAny (model X.prog X.w) X.A (truthy v) (TP X pins σ Q) X.xe s
def tOp (r:R2) (ta tb:TE):TE:=λσ H Q=>ta σ H λx H1=>tb σ H1 λy H2=>r x y H2 Q
def tUn (r:V->Hp->VK->Prop) (ta:TE):TE:=λσ H Q=>ta σ H λx H1=>r x H1 Q
def rI (C:Int->Int->Prop) (g:Int->Int->V):R2:=λx y H Q=>∃i j,x=.int i/\y=.int j/\C i j/\Q (g i j) H
def rI0 (g:Int->Int->V):R2:=λx y H Q=>∃i j,x=.int i/\y=.int j/\Q (g i j) H
def rU (g:Int->V):V->Hp->VK->Prop:=λx H Q=>∃i,x=.int i/\Q (g i) H
section
variable {a b:Expr}
theorem binT (ha:PE X a ta) (hb:PE X b tb) {R:V->V->Hp->Prop} (I:Inv X pins σ H s)
  (h:ta σ H λx H1=>tb σ H1 λy H2=>R x y H2)
  (hf:∀v u s2 x y H2,Inv X pins σ H2 s2->RelV x v->RelV y u->R x y H2->wpAny (model X.prog X.w) X.A (f v u) Q X.xe s2) :
  wpAny (model X.prog X.w) X.A (eval a X.env) (λv s₁=>wpAny (model X.prog X.w) X.A (eval b X.env) (λu s₂=>wpAny (model X.prog X.w) X.A (f v u) Q X.xe s₂) X.xe s₁) X.xe s:=by
 refine thn (ha pins s σ H _ I h) λv s1 ⟨x,H1,I1,r1,q1⟩=>?_
 refine thn (hb pins s1 σ H1 _ I1 q1) λu s2 ⟨y,H2,I2,r2,q2⟩=>?_
 exact hf v u s2 x y H2 I2 r1 r2 q2
theorem Qv2 {op:Operator} (ho:OpR X (binaryOp op) r) (ha:PE X a ta) (hb:PE X b tb):PE X (.BinOp a op b pos) (tOp r ta tb):=by
 intro pins s σ H Q I h
 exact wpAny_BinOp (binT ha hb I h λv u s2 x y H2 I2 rx ry q=>ho pins s2 σ H2 x y v u Q I2 rx ry q)
theorem Qyl {op:UnaryOp} {r:V->Hp->VK->Prop} (ho:UnR X (unaryOp op) r) (ha:PE X a ta):PE X (.UnaryOp op a pos) (tUn r ta):=by
 intro pins s σ H Q I h
 exact UnaryOp_ (thn (ha pins s σ H _ I h) λv s1 ⟨x,H1,I1,r1,q1⟩=>ho pins s1 σ H1 x v Q I1 r1 q1)
theorem opI {C:Int->Int->Prop}
  (rule:∀(i j:Int) (t u:Tok) (s:Shared) (Q:Value->Shared->Prop) (E:Value->Shared->Prop),C i j->Q (.int (g i j) s.toks) { s with toks:=s.toks+1 }->wpAny (model X.prog X.w) X.A (f (.int i t) (.int j u)) Q E s) :
  OpR X f (rI C λi j=>.int (g i j)):=by
 intro pins s σ H x y v u Q I rx ry h
 obtain ⟨i,j,rfl,rfl,hc,q⟩:=h
 obtain ⟨t,rfl⟩:=rx
 obtain ⟨t',rfl⟩:=ry
 exact rule i j t t' s _ _ hc ⟨.int (g i j),H,I.tok _,⟨_,rfl⟩,q⟩
theorem opI0
  (rule:∀(i j:Int) (t u:Tok) (s:Shared) (Q:Value->Shared->Prop) (E:Value->Shared->Prop),Q (.int (g i j) s.toks) { s with toks:=s.toks+1 }->wpAny (model X.prog X.w) X.A (f (.int i t) (.int j u)) Q E s) :
  OpR X f (rI0 λi j=>.int (g i j)):=by
 intro pins s σ H x y v u Q I rx ry h
 obtain ⟨i,j,rfl,rfl,q⟩:=h
 obtain ⟨t,rfl⟩:=rx
 obtain ⟨t',rfl⟩:=ry
 exact rule i j t t' s _ _ ⟨.int (g i j),H,I.tok _,⟨_,rfl⟩,q⟩
theorem opB0 {g:Int->Int->Bool}
  (rule:∀(i j:Int) (t u:Tok) (s:Shared) (Q:Value->Shared->Prop) (E:Value->Shared->Prop),Q (.bool (g i j)) s->wpAny (model X.prog X.w) X.A (f (.int i t) (.int j u)) Q E s) :
  OpR X f (rI0 λi j=>.bl (g i j)):=by
 intro pins s σ H x y v u Q I rx ry h
 obtain ⟨i,j,rfl,rfl,q⟩:=h
 obtain ⟨t,rfl⟩:=rx
 obtain ⟨t',rfl⟩:=ry
 exact rule i j t t' s _ _ ⟨.bl (g i j),H,I,rfl,q⟩
def CDiv (i j:Int):Prop:=0<j/\j<1073741824
def Qzf (i j:Int):Prop:=j≠0/\j.natAbs<1073741824
def CPow (i j:Int):Prop:=0<=j/\j<=1000000/\i.natAbs<2 ^ 64
def CMul (i j:Int):Prop:=(-(2 ^ 64)<i/\i<2 ^ 64)\/(-(2 ^ 64)<j/\j<2 ^ 64)
theorem CMul.ok {j:Int} (h:CMul i j):IntMulOk i j:=by
 rcases h with ⟨h1,h2⟩ | ⟨h1,h2⟩
 ·exact .of_left (intBits_le_64 h1 h2)
 ·exact .of_right (intBits_le_64 h1 h2)
theorem Qwg:OpR X (binaryOp .Add) (rI0 λi j=>.int (i+j)):=opI0 λ_ _ _ _ _ _ _ q=>add_int q
theorem Qv8:OpR X (binaryOp .Sub) (rI0 λi j=>.int (i-j)):=opI0 λ_ _ _ _ _ _ _ q=>sub_int q
theorem Qwc:OpR X (binaryOp .Mult) (rI CMul λi j=>.int (i*j)):=opI λ_ _ _ _ _ _ _ hc q=>mul_int q hc.ok
theorem Qtt:OpR X (binaryOp .FloorDiv) (rI CDiv λi j=>.int (i / j)):=opI λi j _ _ _ _ _ hc q=>by
 have h1:(0:Int)<j:=hc.1
 have h2:j<1073741824:=hc.2
 exact floordiv_int (by omega) (by rw [Int.fdiv_eq_ediv_of_nonneg i (by omega)];exact q) (.inl (PyProof.noPylong_small (by omega)))
theorem Qpw:OpR X (binaryOp .FloorDiv) (rI Qzf λi j=>.int (i.fdiv j)):=opI λ_ _ _ _ _ _ _ hc q=>floordiv_int hc.1 q (.inl (PyProof.noPylong_small hc.2))
theorem Qwd:OpR X (binaryOp .Mod) (rI (λ_ j=>0<j) λi j=>.int (i % j)):=opI λi j _ _ _ _ _ hc q=>by
 have h1:(0:Int)<j:=hc
 exact mod_int' (by omega) (by rw [Int.fmod_eq_emod_of_nonneg i (by omega)];exact q)
theorem Qts:OpR X (binaryOp .Mod) (rI (λ_ j=>j≠0) λi j=>.int (i.fmod j)):=opI λ_ _ _ _ _ _ _ hc q=>mod_int' hc q
theorem Qwa:OpR X (binaryOp .Pow) (rI CPow λi j=>.int (i ^ j.toNat)):=opI λ_ _ _ _ _ _ _ hc q=>pow_int_small hc.1 hc.2.1 hc.2.2 q
theorem unI {f:Value->Sem Value} {g:Int->Int}
  (rule:∀(i:Int) (t:Tok) (s:Shared) (Q:Value->Shared->Prop) (E:Value->Shared->Prop),Q (.int (g i) s.toks) { s with toks:=s.toks+1 }->wpAny (model X.prog X.w) X.A (f (.int i t)) Q E s) :
  UnR X f (rU λi=>.int (g i)):=by
 intro pins s σ H x v Q I rx h
 obtain ⟨i,rfl,q⟩:=h
 obtain ⟨t,rfl⟩:=rx
 exact rule i t s _ _ ⟨.int (g i),H,I.tok _,⟨_,rfl⟩,q⟩
theorem Quy:UnR X (unaryOp .USub) (rU λi=>.int (-i)):=unI λ_ _ _ _ _ q=>neg_int q
end
def scal:V->V->Bool
 | .non,.non=>true | .non,.int _=>true | .int _,.non=>true | .non,.bl _=>true | .bl _,.non=>true | .non,.str _=>true | .str _,.non=>true
 | .int _,.int _=>true | .bl _,.bl _=>true | .str _,.str _=>true | .byt _,.byt _=>true
 | .int _,.str _=>true | .str _,.int _=>true | .bl _,.str _=>true | .str _,.bl _=>true
 | _,_=>false
def rEq:R2:=λx y H Q=>scal x y=true/\Q (.bl (decide (x=y))) H
def rNe:R2:=λx y H Q=>scal x y=true/\Q (.bl (!decide (x=y))) H
theorem Qn7 {j:Int}:decide (V.int i=V.int j)=(i == j):=by
 rw [Bool.eq_iff_iff]
 simp
theorem Qjw {i j:Bool}:decide (V.bl i=V.bl j)=(i == j):=by
 rw [Bool.eq_iff_iff]
 simp
theorem Qn6 {i j:Str}:decide (V.str i=V.str j)=(i == j):=by
 rw [Bool.eq_iff_iff]
 simp
theorem Qn8 {i j:Array UInt8}:decide (V.byt i=V.byt j)=(i.toList == j.toList):=by
 rw [Bool.eq_iff_iff]
 cases i
 cases j
 simp
section
variable {a b:Expr}
theorem Yd {Q:VK} {k k':Bool} (I:Inv X pins σ H s) (q:Q (.bl k) H) (e:k=k'):EP X pins σ Q (.bool k') s:=by
 subst e
 exact ⟨.bl k,H,I,rfl,q⟩
theorem Qys:OpR X (compareOp .Eq) rEq:=by
 intro pins s σ H x y v u Q I rx ry h
 obtain ⟨hs,q⟩:=h
 cases x with
 | non =>
  cases rx
  cases y with
  | non=>cases ry;exact PySem.EqNone.eq_none_none (Yd I q (by simp))
  | bl j=>cases ry;exact PySem.EqNone.eq_none_bool (Yd I q (by simp))
  | int j=>obtain ⟨t',rfl⟩:=ry;exact PySem.EqNone.eq_none_int (Yd I q (by simp))
  | str j=>obtain ⟨t',rfl⟩:=ry;exact PySem.EqNone.eq_none_str (Yd I q (by simp))
  | _=>exact absurd (show false=true from hs) Bool.false_ne_true
 | bl i =>
  cases rx
  cases y with
  | non=>cases ry;exact PySem.EqNone.eq_bool_none (Yd I q (by simp))
  | bl j=>cases ry;exact eq_bool (Yd I q Qjw)
  | str j=>obtain ⟨t',rfl⟩:=ry;exact PySem.EqMixed.eq_bool_str (Yd I q (by simp))
  | _=>exact absurd (show false=true from hs) Bool.false_ne_true
 | int i =>
  obtain ⟨t,rfl⟩:=rx
  cases y with
  | non=>cases ry;exact PySem.EqNone.eq_int_none (Yd I q (by simp))
  | int j=>obtain ⟨t',rfl⟩:=ry;exact eq_int (Yd I q Qn7)
  | str j=>obtain ⟨t',rfl⟩:=ry;exact PySem.EqMixed.eq_int_str (Yd I q (by simp))
  | _=>exact absurd (show false=true from hs) Bool.false_ne_true
 | str i =>
  obtain ⟨t,rfl⟩:=rx
  cases y with
  | non=>cases ry;exact PySem.EqNone.eq_str_none (Yd I q (by simp))
  | bl j=>cases ry;exact PySem.EqMixed.eq_str_bool (Yd I q (by simp))
  | int j=>obtain ⟨t',rfl⟩:=ry;exact PySem.EqMixed.eq_str_int (Yd I q (by simp))
  | str j=>obtain ⟨t',rfl⟩:=ry;exact eq_str (Yd I q Qn6)
  | _=>exact absurd (show false=true from hs) Bool.false_ne_true
 | byt i =>
  obtain ⟨t,rfl⟩:=rx
  cases y with
  | byt j=>obtain ⟨t',rfl⟩:=ry;exact PySem.W.eq_bytes (Yd I q Qn8)
  | _=>exact absurd (show false=true from hs) Bool.false_ne_true
 | _=>cases y <;> exact absurd (show false=true from hs) Bool.false_ne_true
theorem Qyo:OpR X (compareOp .NotEq) rNe:=by
 intro pins s σ H x y v u Q I rx ry h
 obtain ⟨hs,q⟩:=h
 cases x with
 | non =>
  cases rx
  cases y with
  | non=>cases ry;exact PySem.EqNone.ne_none_none (Yd I q (by simp))
  | bl j=>cases ry;exact PySem.EqNone.ne_none_bool (Yd I q (by simp))
  | int j=>obtain ⟨t',rfl⟩:=ry;exact PySem.EqNone.ne_none_int (Yd I q (by simp))
  | str j=>obtain ⟨t',rfl⟩:=ry;exact PySem.EqNone.ne_none_str (Yd I q (by simp))
  | _=>exact absurd (show false=true from hs) Bool.false_ne_true
 | bl i =>
  cases rx
  cases y with
  | non=>cases ry;exact PySem.EqNone.ne_bool_none (Yd I q (by simp))
  | bl j=>cases ry;exact ne_bool (Yd I q (congrArg not Qjw))
  | str j=>obtain ⟨t',rfl⟩:=ry;exact PySem.EqMixed.ne_bool_str (Yd I q (by simp))
  | _=>exact absurd (show false=true from hs) Bool.false_ne_true
 | int i =>
  obtain ⟨t,rfl⟩:=rx
  cases y with
  | non=>cases ry;exact PySem.EqNone.ne_int_none (Yd I q (by simp))
  | int j=>obtain ⟨t',rfl⟩:=ry;exact ne_int (Yd I q (congrArg not Qn7))
  | str j=>obtain ⟨t',rfl⟩:=ry;exact PySem.EqMixed.ne_int_str (Yd I q (by simp))
  | _=>exact absurd (show false=true from hs) Bool.false_ne_true
 | str i =>
  obtain ⟨t,rfl⟩:=rx
  cases y with
  | non=>cases ry;exact PySem.EqNone.ne_str_none (Yd I q (by simp))
  | bl j=>cases ry;exact PySem.EqMixed.ne_str_bool (Yd I q (by simp))
  | int j=>obtain ⟨t',rfl⟩:=ry;exact PySem.EqMixed.ne_str_int (Yd I q (by simp))
  | str j=>obtain ⟨t',rfl⟩:=ry;exact ne_str (Yd I q (congrArg not Qn6))
  | _=>exact absurd (show false=true from hs) Bool.false_ne_true
 | byt i =>
  obtain ⟨t,rfl⟩:=rx
  cases y with
  | byt j=>obtain ⟨t',rfl⟩:=ry;exact PySem.W.ne_bytes (Yd I q (congrArg not Qn8))
  | _=>exact absurd (show false=true from hs) Bool.false_ne_true
 | _=>cases y <;> exact absurd (show false=true from hs) Bool.false_ne_true
theorem Qyp:OpR X (compareOp .Lt) (rI0 λi j=>.bl (decide (i<j))):=opB0 λ_ _ _ _ _ _ _ q=>lt_int q
theorem Qyq:OpR X (compareOp .Gt) (rI0 λi j=>.bl (decide (j<i))):=opB0 λ_ _ _ _ _ _ _ q=>gt_int q
theorem Qyr:OpR X (compareOp .GtE) (rI0 λi j=>.bl (decide (j<=i))):=opB0 λ_ _ _ _ _ _ _ q=>ge_int q
theorem Qmp:OpR X (compareOp .In) (λx y H Q=>∃i j,x=.str i/\y=.str j/\Q (.bl (!(Builtin.Str.occurrences j i 0 j.length 1).isEmpty)) H):=by
 intro pins s σ H x y v u Q I rx ry h
 obtain ⟨i,j,rfl,rfl,q⟩:=h
 obtain ⟨t,rfl⟩:=rx
 obtain ⟨t',rfl⟩:=ry
 exact in_str (Yd I q rfl)
theorem OpR.or {r':R2} (h:OpR X f r) (h':OpR X f r'):OpR X f (λx y H Q=>r x y H Q\/r' x y H Q):=by
 intro pins s σ H x y v u Q I rx ry q
 rcases q with q | q
 ·exact h pins s σ H x y v u Q I rx ry q
 ·exact h' pins s σ H x y v u Q I rx ry q
theorem Qrv (b:Expr) (h:op ≠ .In:=by decide) (h2:op ≠ .NotIn:=by decide):behindInMarks op b=false:=by
 have e1:(op == CmpOp.In)=false:=by cases op <;> first | rfl | exact absurd rfl h
 have e2:(op == CmpOp.NotIn)=false:=by cases op <;> first | rfl | exact absurd rfl h2
 cases b <;> simp [behindInMarks,e1,e2]
theorem Qtq (ho:OpR X (compareOp op) r) (ha:PE X a ta) (hb:PE X b tb) (hm:behindInMarks op b=false):PE X (.Compare a [op] [b] pos) (tOp r ta tb):=by
 intro pins s σ H Q I h
 exact wpAny_Compare1 (binT ha hb I h λv u s2 x y H2 I2 rx ry q=>ho pins s2 σ H2 x y v u Q I2 rx ry q) hm
def Qx0 (t:TE):TT:=λσ H Q=>t σ H λx H'=>∃k,x=.bl k/\Q k H'
theorem Qth (ho:OpR X (compareOp op) r) (ha:PE X a ta) (hb:PE X b tb) (hm:behindInMarks op b=false):PT X (.Compare a [op] [b] pos) (Qx0 (tOp r ta tb)):=by
 intro pins s σ H Q I h
 refine wpAny_isTrue_Compare1 (thn (ha pins s σ H _ I h) λv s1 ⟨x,H1,I1,r1,q1⟩=>thn (hb pins s1 σ H1 _ I1 q1) λu s2 ⟨y,H2,I2,r2,q2⟩ =>
  thn (ho pins s2 σ H2 x y v u _ I2 r1 r2 q2) λc s3 ⟨z,H3,I3,r3,k,e,q3⟩=>?_) hm
 subst e
 cases r3
 exact wpAny_truthy_bool ⟨H3,I3,q3⟩
def TruV (K:Frag) (x:V) (H:Hp) (k:Bool):Prop :=
 match x with
 | .non=>k=false
 | .bl b=>k=b
 | .int i=>k=(i != 0)
 | .str y=>y.length<=sizeLine/\k=((y.length:Int) != 0)
 | .byt y=>y.size<=sizeLine/\k=((y.size:Int) != 0)
 | .ref p=>(∃xs,SqL K H p xs/\k = !xs.isEmpty)\/(∃xs,SqT K H p xs/\k = !xs.isEmpty)\/∃kvs,H p=some (.dK kvs)/\k = !kvs.isEmpty
 | _=>False
theorem Qkv {κ:Type} {kvs:List (κ × V)} {vs:List (κ × Value)} (r:KV kvs vs):(!vs.isEmpty) = !kvs.isEmpty:=by
 cases r <;> rfl
theorem Qeb (r:Vals xs its):(!its.toArray.isEmpty) = !xs.isEmpty:=by
 cases r <;> simp
theorem Qd8:(sizeLine:Nat)<2 ^ 63:=by rw [sizeLine_eq];decide
theorem Qu0:TruR X (λx H Q=>∃k,TruV X.K x H k/\Q k H):=by
 intro pins s σ H x v Q I rx h
 obtain ⟨k,e,q⟩:=h
 have hl:=Qd8
 have hs:sizeLine=16777216:=sizeLine_eq
 cases x with
 | non =>
  cases rx
  have e':k=false:=e
  subst e'
  exact truthy_none ⟨H,I,q⟩
 | bl b =>
  cases rx
  have e':k=b:=e
  subst e'
  exact wpAny_truthy_bool ⟨H,I,q⟩
 | int i =>
  obtain ⟨t,rfl⟩:=rx
  have e':k=(i != 0):=e
  subst e'
  exact PySem.P.truthy_int ⟨H,I,q⟩
 | str y =>
  obtain ⟨t,rfl⟩:=rx
  obtain ⟨hy,e'⟩:y.length<=sizeLine/\k=((y.length:Int) != 0):=e
  subst e'
  exact PySem.P.truthy_str (by omega) ⟨H,I.tok _,q⟩
 | byt y =>
  obtain ⟨t,rfl⟩:=rx
  obtain ⟨hy,e'⟩:y.size<=sizeLine/\k=((y.size:Int) != 0):=e
  subst e'
  exact PySem.W.truthy_bytes (by omega) ⟨H,I.tok _,q⟩
 | ref p =>
  cases rx
  have e':(∃xs,SqL X.K H p xs/\k = !xs.isEmpty)\/(∃xs,SqT X.K H p xs/\k = !xs.isEmpty)\/∃kvs,H p=some (.dK kvs)/\k = !kvs.isEmpty:=e
  rcases e' with ⟨xs,hx,e'⟩ | ⟨xs,hx,e'⟩ | ⟨kvs,hx,e'⟩
  ·subst e'
   obtain ⟨its,r,pl,hz⟩:=I.list hx
   have hlen:=r.length
   exact wpAny_truthy_list pl.isList (by simp only [List.size_toArray];omega) ⟨H,I.tok _,by rw [Qeb r];exact q⟩
  ·subst e'
   obtain ⟨its,r,pl,hz⟩:=I.tuple hx
   have hlen:=r.length
   exact truthy_tuple pl (by simp only [List.size_toArray];omega) ⟨H,I.tok _,by rw [Qeb r];exact q⟩
  ·subst e'
   obtain ⟨hz,hS,vs,r,m⟩:kvs.length<=sizeLine/\(p == sysModules)=false/\∃vs,KV kvs vs/\s.heap.DictOf (Ym X.prog X.w) p vs:=I.hok p _ hx
   have hlen:kvs.length=vs.length:=Paired.length r
   exact wpAny_truthy_dict hS m (by omega) ⟨H,I.tok _,by rw [Qkv r];exact q⟩
 | _=>exact (show False from e).elim
theorem Qph (ha:PE X a ta) (he:∀whole,isTrue a X.env whole=(do let v ← whole;standAt a.pos;holding [v] (truthy v))) :
  PT X a (λσ H Q=>ta σ H λx H'=>∃k,TruV X.K x H' k/\Q k H'):=by
 intro pins s σ H Q I h
 exact isTrue_plain (thn (ha pins s σ H _ I h) λv s1 ⟨x,H1,I1,r1,q1⟩=>Qu0 pins s1 σ H1 x v Q I1 r1 q1) (he _)
theorem Qkk:OpR X (binaryOp .Add) (λx y H Q=>∃i j,x=.str i/\y=.str j/\i.length+j.length<=sizeLine/\Q (.str (i++j)) H):=by
 intro pins s σ H x y v u Q I rx ry h
 obtain ⟨i,j,rfl,rfl,hz,q⟩:=h
 obtain ⟨t,rfl⟩:=rx
 obtain ⟨t',rfl⟩:=ry
 exact add_str (λt' tk=>⟨.str (i++j),H,I.tok _,⟨_,rfl⟩,q⟩) hz
theorem Qal {x:V} (r:Vals [x] us):∃u,us=[u]/\RelV x u:=by
 cases r with
 | cons r1 r2=>cases r2;exact ⟨_,rfl,r1⟩
theorem Qlk {x:V} (r:Vals [x,y] us):∃u w',us=[u,w']/\RelV x u/\RelV y w':=by
 cases r with
 | cons r1 r2 =>
  cases r2 with
  | cons r3 r4=>cases r4;exact ⟨_,_,rfl,r1,r3⟩
theorem Qoq:V0 X (.type "int") (λxs H Q=>(∃i,xs=[.int i]/\Q (.int i) H)\/∃k,xs=[.bl k]/\Q (.int (if k then 1 else 0)) H):=by
 intro pins s σ H xs us Q I r h
 rcases h with ⟨i,rfl,q⟩ | ⟨k,rfl,q⟩
 ·obtain ⟨u,rfl,t,rfl⟩:=Qal r
  exact call_int_int ⟨.int i,H,I,⟨_,rfl⟩,q⟩
 ·obtain ⟨u,rfl,r1⟩:=Qal r
  cases r1
  exact call_int_bool ⟨.int (if k then 1 else 0),H,I.tok _,⟨_,rfl⟩,q⟩
theorem Qgr:V0 X (.type "str") (λxs H Q=>∃i,xs=[.int i]/\i.natAbs.log2<1920/\Q (.str (toString i)) H):=by
 intro pins s σ H xs us Q I r h
 obtain ⟨i,rfl,hz,q⟩:=h
 obtain ⟨u,rfl,t,rfl⟩:=Qal r
 exact PySem.P.str_of_int hz ⟨.str _,H,I.tok _,⟨_,rfl⟩,q⟩
def LenV (K:Frag) (x:V) (H:Hp) (n:Nat):Prop :=
 match x with
 | .str y=>y.length<=sizeLine/\n=y.length
 | .byt y=>y.size<=sizeLine/\n=y.size
 | .ref p=>(∃xs,SqL K H p xs/\n=xs.length)\/∃xs,SqT K H p xs/\n=xs.length
 | _=>False
theorem Qqv:V0 X (.builtin "len") (λxs H Q=>∃x n,xs=[x]/\LenV X.K x H n/\Q (.int n) H):=by
 intro pins s σ H xs us Q I r h
 obtain ⟨x,n,rfl,e,q⟩:=h
 obtain ⟨u,rfl,rx⟩:=Qal r
 have hl:=Qd8
 have hs:sizeLine=16777216:=sizeLine_eq
 cases x with
 | str y =>
  obtain ⟨t,rfl⟩:=rx
  obtain ⟨hy,e'⟩:y.length<=sizeLine/\n=y.length:=e
  subst e'
  exact len_str (by omega) ⟨.int _,H,I.tok _,⟨_,rfl⟩,q⟩
 | byt y =>
  obtain ⟨t,rfl⟩:=rx
  obtain ⟨hy,e'⟩:y.size<=sizeLine/\n=y.size:=e
  subst e'
  exact PySem.W.len_bytes (by omega) ⟨.int _,H,I.tok _,⟨_,rfl⟩,q⟩
 | ref p =>
  cases rx
  have e':(∃xs,SqL X.K H p xs/\n=xs.length)\/∃xs,SqT X.K H p xs/\n=xs.length:=e
  rcases e' with ⟨xs,hx,e'⟩ | ⟨xs,hx,e'⟩
  ·subst e'
   obtain ⟨its,r',pl,hz⟩:=I.list hx
   have hlen:=r'.length
   exact Calls.call_len_list pl.isList (by simp only [List.size_toArray];omega) ⟨.int xs.length,H,I.tok _,⟨_,by simp only [List.size_toArray];rw [hlen]⟩,q⟩
  ·subst e'
   obtain ⟨its,r',pl,hz⟩:=I.tuple hx
   have hlen:=r'.length
   exact len_tuple pl (by simp only [List.size_toArray];omega) ⟨.int xs.length,H,I.tok _,⟨_,by simp only [List.size_toArray];rw [hlen]⟩,q⟩
 | _=>exact (show False from e).elim
end
structure ObjM (h:Heap) (x dx C:Addr) (mA:Str->Option Value):Prop where
 obj:h.get? x=some (instObj C dx)
 ns:h.Ns1 dx mA
 ne:dx≠x
theorem Qm2 (n:h.Ns1 dx mA):∃od,h.get? dx=some od/\∀name,lookIn name od=some (mA name):=by
 obtain ⟨o,es,ep,ho,hd,hk,_,hm⟩:=n
 refine ⟨o,ho,λname=>?_⟩
 have e:=hm name
 unfold nsFind findBy at e
 rw [← Array.find?_toList] at e
 unfold lookIn
 rw [hd]
 dsimp only
 split
 ·rename_i y q
  rw [q] at e
  exact congrArg some e
 ·rename_i q
  rw [q] at e
  have a:es.toList.any (·.refKey)=false:=by
   rw [List.any_eq_false]
   intro y hy
   obtain ⟨z,t,hkey⟩:=hk y (Array.mem_toList_iff.mp hy)
   simp [DictEntry.refKey,hkey]
  have a':¬es.toList.any (·.refKey)=true:=by rw [a];exact Bool.false_ne_true
  rw [if_neg a']
  exact congrArg some e
theorem ObjM.look {x:Addr} (I:ObjM h x dx C mA):∃od,PySem.W.InstAt h x (instObj C dx) C (some od)/\∀name,lookIn name od=some (mA name) :=
 let ⟨od,ho,hl⟩:=Qm2 I.ns
 ⟨od,⟨I.obj,rfl,rfl,ho⟩,hl⟩
theorem RelO.some_of {o:Option Value} (r:RelO (some v) o):∃u,o=some u/\RelV v u:=by
 cases o with
 | none=>exact (show False from r).elim
 | some u=>exact ⟨u,rfl,r⟩
theorem Qnm (r:RelV v u):handedIn u=true:=by
 cases v with
 | non=>cases (show u=Value.none from r);rfl
 | bl b=>cases (show u=Value.bool b from r);rfl
 | int i=>obtain ⟨t,e⟩:=(show ∃t,u=Value.int i t from r);cases e;rfl
 | str x=>obtain ⟨t,e⟩:=(show ∃t,u=Value.str x t from r);cases e;rfl
 | byt b=>obtain ⟨t,e⟩:=(show ∃t,u=Value.bytes b t from r);cases e;rfl
 | flt b=>obtain ⟨t,e⟩:=(show ∃t,u=Value.float b t from r);cases e;rfl
 | ref a=>cases (show u=Value.ref a from r);rfl
 | ty n=>cases (show u=Value.type n from r);rfl
theorem Qt8 (hok:HOk P w H h) (e:H a=some (.ins C dx fs)):∃mA,ObjM h a dx C mA/\(∀f,RelO (fs.lookup f) (mA f))/\PySem.Within mA (fs.map (·.1))/\fs.length<=1000/\H dx=some (.own a):=by
 obtain ⟨d,z,ne,ob,mA,n,r,q⟩:=(show Yz P w H h a (.ins C dx fs) from hok a _ e)
 exact ⟨mA,⟨ob,n,ne⟩,r,q,z,d⟩
structure Cls (K:Frag) (C:Addr):Prop where
 pg:plainGet K C Str.empty=true
 hd:PySem.W.hasDictIn K C=true
 po:PySem.W.plainOver K C=true
 sa:PySem.W.findIn K (.ref C) "__setattr__" = some (some (.builtin "object.__setattr__"))
theorem Cls.get (c:Cls K C) (f:Str):plainGet K C f=true:=c.pg
section
variable {f:Str}
theorem Qut {f:Str} (hb:attributeBase e f env (eval e env)=eval e env)
  (h:wpAny (model prog w) A (eval e env) (λo s₁=>wpAny (model prog w) A (getAttr o f true) Q E s₁) E s):wpAny (model prog w) A (eval (.Attribute e f pos) env) Q E s :=
 Attribute_any_ h (by rw [arm_eval_Attribute,hb])
end
section
variable {c:Value} {b:Bool}
inductive TyOf (K:Frag) (H:Hp):V->Value->Prop where
 | non:TyOf K H .non (.type "NoneType")
 | bl (x:Bool):TyOf K H (.bl x) (.type "bool")
 | int (i:Int):TyOf K H (.int i) (.type "int")
 | str (x:Str):TyOf K H (.str x) (.type "str")
 | flt (x:UInt64):TyOf K H (.flt x) (.type "float")
 | lst {a:Addr} {xs:List V} (e:H a=some (.lst xs)):TyOf K H (.ref a) (.type "list")
 | frz {a:Addr} {o:Obj} {xs:List V} (e:H a=some (.frz o (.lst xs))):TyOf K H (.ref a) (.type "list")
 | tup {a:Addr} {xs:List V} (e:H a=some (.tup xs)):TyOf K H (.ref a) (.type "tuple")
 | dK {a:Addr} {kvs:List (Key × V)} (e:H a=some (.dK kvs)):TyOf K H (.ref a) (.type "dict")
 | dT {a:Addr} {kvs:List (List Key × V)} (e:H a=some (.dT kvs)):TyOf K H (.ref a) (.type "dict")
 | ins {a C dx:Addr} {fs:List (Str × V)} (e:H a=some (.ins C dx fs)) (cl:Cls K C) (ha:PySem.W.findIn K (.ref C) "__class__" = some (some (.builtin "object.__class__")))
   (hn:specialIn K (.builtin "object.__class__") "__get__" = some (some (.builtin "getset_descriptor.__get__"))) (htk:PySem.W.takesIn K (.builtin "object.__class__")=some true)
   (hm:PySem.W.mroIn K C (.type "object")=some true):TyOf K H (.ref a) (.ref C)
theorem Qng {x:V} {t:Value} (I:Inv X pins σ H s) (rx:RelV x u) (ty:TyOf X.K H x t) (e:kitOne X.K t c=some b) (h:∀tk,Q (.bool b) { s with toks:=tk }) :
  wpAny (model X.prog X.w) A (call (.builtin "isinstance") [u,c]) Q E s:=by
 cases ty with
 | non=>cases (show u=Value.none from rx);exact kia_one PySem.W.kitx_none I.kIn True.intro e (λz=>nomatch z) h
 | bl y=>cases (show u=Value.bool y from rx);exact kia_one PySem.W.kitx_bool I.kIn True.intro e (λz=>nomatch z) h
 | int i=>obtain ⟨t,q⟩:=(show ∃t,u=Value.int i t from rx);cases q;exact kia_one PySem.W.kitx_int I.kIn True.intro e (λz=>nomatch z) h
 | str y=>obtain ⟨t,q⟩:=(show ∃t,u=Value.str y t from rx);cases q;exact kia_one PySem.W.kitx_str I.kIn True.intro e (λz=>nomatch z) h
 | flt y=>obtain ⟨t,q⟩:=(show ∃t,u=Value.float y t from rx);cases q;exact kia_one PySem.W.kitx_float I.kIn True.intro e (λz=>nomatch z) h
 | @lst a xs ea =>
  cases (show u=Value.ref a from rx)
  obtain ⟨_,_,n,_,h1⟩:=(show Yz X.prog X.w H s.heap a (.lst xs) from I.hok a _ ea)
  exact kia_one kitx_list I.kIn ⟨_,h1,rfl⟩ e (λz=>nomatch z) h
 | @frz a ob xs ea =>
  cases (show u=Value.ref a from rx)
  obtain ⟨_,_,_,n,_,h1⟩:=(show Yz X.prog X.w H s.heap a (.frz ob (.lst xs)) from I.hok a _ ea)
  exact kia_one kitx_list I.kIn ⟨_,h1,rfl⟩ e (λz=>nomatch z) h
 | @tup a xs ea =>
  cases (show u=Value.ref a from rx)
  obtain ⟨_,_,_,p⟩:=(show Yz X.prog X.w H s.heap a (.tup xs) from I.hok a _ ea)
  obtain ⟨o,h1,h2,_⟩:=p
  exact kia_one PySem.W.kitx_tuple I.kIn ⟨o,h1,h2⟩ e (λz=>nomatch z) h
 | @dK a kvs ea =>
  cases (show u=Value.ref a from rx)
  obtain ⟨_,_,vs,_,p⟩:=(show Yz X.prog X.w H s.heap a (.dK kvs) from I.hok a _ ea)
  obtain ⟨o,es,ep,h1,h2,_⟩:=p
  exact kia_one kitx_dict I.kIn ⟨o,h1,h2.1⟩ e (λz=>nomatch z) h
 | @dT a kvs ea =>
  cases (show u=Value.ref a from rx)
  obtain ⟨_,_,xs,_,o,es,ep,h1,h2,_⟩:=(show Yz X.prog X.w H s.heap a (.dT kvs) from I.hok a _ ea)
  exact kia_one kitx_dict I.kIn ⟨o,h1,h2.1⟩ e (λz=>nomatch z) h
 | @ins a C dx fs ea cl ha hn htk hm =>
  cases (show u=Value.ref a from rx)
  obtain ⟨mA,O,_⟩:=Qt8 I.hok ea
  obtain ⟨od,J,_⟩:=O.look
  exact kia_one (PySem.W.kitx_own (cl.get _) cl.hd ha hn htk hm) I.kIn J e (λz=>nomatch z) h
end
structure Room (k:Nat) (A:Around):Prop where
 hd:A.handled=none
 dp:A.depth+3*k+5<recursionLimit
 un:A.units+16*k+200<cLine
theorem Room.mono {k:Nat} (r:Room k A) (h:j<=k):Room j A:=⟨r.hd,by have:=r.dp;omega,by have:=r.un;omega⟩
theorem Room.deeper {k:Nat} (r:Room (k+1) A) (env:Env):Room k (A.deeper env) :=
 ⟨r.hd,by have:=r.dp;show A.depth+1+3*k+5<_;omega,by have:=r.un;show A.units+3+16*k+200<_;omega⟩
theorem Qkp:(A.under (.builtin "type.__call__" ⟨.ref C::us,kw⟩)).depth=A.depth+1:=by
 first | rfl | simp [Around.under,Code.weight,Code.isCreation,Code.isGuard,Code.isCaller,Code.frames,Code.isFrame,guardIds]
theorem Qko:(A.under (.builtin "type.__call__" ⟨.ref C::us,kw⟩)).units=A.units+1:=by
 first | rfl | simp [Around.under,Code.cUnits,Code.frames,Code.isFrame]
theorem Room.make {k:Nat} (r:Room (k+1) A) (C:Addr) (us:List Value) (kw:List (Str × Value)):Room k (A.under (.builtin "type.__call__" ⟨.ref C::us,kw⟩)) :=
 ⟨r.hd,by have:=r.dp;rw [Qkp];omega,by have:=r.un;rw [Qko];omega⟩
theorem Room.depth {k:Nat} (r:Room k A):A.depth<recursionLimit:=by have:=r.dp;omega
theorem Room.units {k:Nat} (r:Room k A):A.units+64<cLine:=by have:=r.un;omega
def tNil:TA:=λ_ H Q=>Q [] H
def Qu5 (ta:TE) (tr:TA):TA:=λσ H Q=>ta σ H λx H1=>tr σ H1 λxs H2=>Q (x::xs) H2
section
variable {t:TA}
theorem Vu:PA X [] tNil:=λ_ _ _ _ H Q I h=>Calls.spliced_nil ⟨[],H,I,.nil,h⟩
theorem Js (ha:PE X e te) (hr:PA X es t) (hs:starEach (e::es) X.env=(false,eval e X.env)::starEach es X.env:=by rfl):PA X (e::es) (Qu5 te t):=by
 intro pos pins s σ H Q I h
 rw [hs]
 show wpAny _ _ (spliced ((false,eval e X.env)::backTo pos (starEach es X.env))) _ _ s
 refine Calls.spliced_cons (thn (ha pins s σ H _ I h) λu s1 ⟨x,H1,I1,r1,q1⟩=>?_)
 exact thn (hr pos pins s1 σ H1 _ I1 q1) λus s2 ⟨xs,H2,I2,r2,q2⟩=>⟨x::xs,H2,I2,.cons r1 r2,q2⟩
def tTup (t:TA):TE:=λσ H Q=>t σ H λxs H1=>xs.length<=sizeLine/\∀p,H1 p=none->Q (.ref p) (upd H1 p (.tup xs))
def tLst (t:TA):TE:=λσ H Q=>t σ H λxs H1=>xs.length<=sizeLine/\∀p,H1 p=none->Q (.ref p) (upd H1 p (.lst xs))
theorem Qi9 {x1} (h:PA X es t):PE X (.Tuple es x1 pos) (tTup t):=by
 intro pins s σ H Q I hq
 refine wpAny_Tuple_spliced (thn (h pos pins s σ H _ I hq) λus s1 ⟨xs,H1,I1,r,z,q⟩=>⟨by rw [← r.length];exact z,?_⟩)
 have hf:H1 s1.heap.objs.size=none:=I1.hok.fresh (Nat.le_refl _)
 refine ⟨.ref s1.heap.objs.size,upd H1 s1.heap.objs.size (.tup xs),I1.laid (t':=s1.toks) (λb u e=>Heap.get?_push_of_some _ e) (Nat.le_refl _) ?_,rfl,q _ hf⟩
 exact ⟨z,us,r,⟨_,Heap.get?_push_size _ rfl,rfl,_,rfl⟩⟩
theorem Qmm (h:PA X es t):PE X (.List es pos) (tLst t):=by
 intro pins s σ H Q I hq
 refine wpAny_List_spliced (thn (h pos pins s σ H _ I hq) λus s1 ⟨xs,H1,I1,r,z,q⟩=>⟨by rw [← r.length];exact z,?_⟩)
 have hf:H1 s1.heap.objs.size=none:=I1.hok.fresh (Nat.le_refl _)
 refine ⟨.ref s1.heap.objs.size,upd H1 s1.heap.objs.size (.lst xs),I1.laid (t':=s1.toks) (λb u e=>Heap.get?_push_of_some _ e) (Nat.le_refl _) ?_,rfl,q _ hf⟩
 exact ⟨z,us,0,r,Heap.get?_push_size _ rfl⟩
end
abbrev Sp:=List V->Hp->VK->XK->Prop
abbrev CXT:=List Env->Hp->Shared->XK->Value->Shared->Prop
end L2
variable {f:PySem.Addr} {r:L2.V->List L2.V->L2.Hp->L2.VK->Prop} {mg:PySem.Str->Option PySem.Value} {base:PySem.Heap} {outer:List PySem.Env} {fd:PySem.FuncData} {ps:List PySem.Str} {CX:L2.CXT} {qual name:PySem.Str} {scope:PySem.Scope} {cd:PySem.ClassData} {params:PySem.Arguments} {oc:PySem.Value} {osl:Array (Option PySem.Value)} {T:String} {apos:PySem.Pos} {m:Bool}
namespace L2
open PySem PySem.Spec PyProof.Rows
structure Env0 (P:Program) (w:World) (K:Frag) (mg:Str->Option Value) (base:Heap) (A:Around) (outer:List Env) (s:Shared) (H:Hp):Prop where
 frames:A.frames=some outer
 mod:Mod K mg base
 bs:∀b o,base.get? b=some o->s.heap.get? b=some o/\H b=none
 bsz:base.objs.size<=s.heap.objs.size
 funs:s.heap.FunFrames base outer
 frf:∀b∈frs outer,H b=none
 hok:HOk P w H s.heap
 bare:AllBare s.gens
def CE (outer:List Env) (P:Program) (w:World) (H:Hp) (s:Shared) (Q:VK) (u:Value) (s':Shared):Prop :=
 ∃v H',s'.os=s.os/\AllBare s'.gens/\Un (frs outer) [] H H' s.heap s'.heap/\HOk P w H' s'.heap/\RelV v u/\Q v H'
def CR (CX:CXT) (outer:List Env) (P:Program) (w:World) (H:Hp) (s:Shared) (Q:VK) (E:XK) (r:Result) (s':Shared):Prop :=
 match r with
 | .ok (.ret u)=>CE outer P w H s Q u s'
 | .ok _=>False
 | .error e=>CX outer H s E e s'
structure FnOk (P:Program) (w:World) (K:Frag) (mg:Str->Option Value) (base:Heap) (CX:CXT) (k:Nat) (f:Addr) (fd:FuncData) (ps:List Str) (sp:Sp):Prop where
 len:∀vs H Q E,sp vs H Q E->vs.length=ps.length
 run:∀(A:Around) (outer:List Env) (s:Shared) (H:Hp) (args:Args) (us:List Value) (vs:List V) (Q:VK) (E:XK),Room k A->Env0 P w K mg base A outer s H->BindsTo s fd args (ps.zip us)->Vals vs us->sp vs H Q E ->
  codeAny (model P w) A (.call (.ref f) args) (CR CX outer P w H s Q E) s
theorem Env0.make (e:Env0 P w K mg base A outer s H) (C:Addr) (us:List Value) (kw:List (Str × Value)) :
  Env0 P w K mg base (A.under (.builtin "type.__call__" ⟨.ref C::us,kw⟩)) outer s H:=⟨by first | exact e.frames | (simpa [Around.under,Code.envs,Code.isFrame,pushEnvs] using e.frames),e.mod,e.bs,e.bsz,e.funs,e.frf,e.hok,e.bare⟩
theorem Inv.env0 (I:Inv X pins σ H s):Env0 X.prog X.w X.K X.mg X.base X.A X.stack s H :=
 ⟨I.ok.frames,I.ok.mod,I.bs,Nat.le_trans I.ok.bsz I.sz,I.stack,I.stkFree,I.hok,I.bare⟩
theorem Inv.after {Q:VK} (I:Inv X pins σ H s) (h:CE X.stack X.prog X.w H s Q u s'):EP X pins σ Q u s':=by
 obtain ⟨v,H',os,bare,un,hok,r,q⟩:=h
 obtain ⟨hh,g,d,t,os'⟩:=s'
 obtain rfl:os'=s.os:=os
 exact ⟨v,H',I.call (h':=hh) (g':=g) (d':=d) (t':=t) (ch:=[]) un hok bare (λb z=>absurd z (by simp)),r,q⟩
def Qx5 (sp:Sp) (dvs:List V) (E:XK) (t:TA):TE:=λσ H Q=>t σ H λvs H1=>sp (vs++dvs) H1 Q E
def X1 (K:Frag) (fd:FuncData) (ps:List Str) (ds:List Value):Prop :=
 ∀(s:Shared) (us:List Value),K.In s.heap->(us++ds).length=ps.length->BindsTo s fd ⟨us,[]⟩ (ps.zip (us++ds))
theorem X1.all (h:∀us:List Value,us.length=ps.length->bindArgs fd ⟨us,[]⟩=pure (ps.zip us)):X1 K fd ps []:=λs us _ hl=>by
 rw [List.append_nil] at hl ⊢
 exact .of_eq (h us hl)
def Qoy (CX:CXT) (X:Cx) (E:XK):Prop:=∀(pins:List (Addr × Obj)) (σ:St) (H:Hp) (s:Shared) (e:Value) (s':Shared),Inv X pins σ H s->CX X.stack H s E e s'->X.xe e s'
section
variable {k:Nat} {sp:Sp} {dvs:List V} {ds:List Value} {E:XK} {t:TA}
theorem Qvg {Q:VK} (F:FnOk X.prog X.w X.K X.mg X.base CX k f fd ps sp) (hr:Room k X.A) (hb:X1 X.K fd ps ds) (hd:Vals dvs ds) (hx:Qoy CX X E)
  (I:Inv X pins σ H s) (r:Vals vs us) (h:sp (vs++dvs) H Q E):wpAny (model X.prog X.w) X.A (call (.ref f) us) (EP X pins σ Q) X.xe s:=by
 have r2:Vals (vs++dvs) (us++ds):=r.append hd
 have hl:(us++ds).length=ps.length:=by rw [← r2.length];exact F.len _ _ _ _ h
 refine wpAny_call (codeAny_mono (F.run X.A X.stack s H ⟨us,[]⟩ (us++ds) (vs++dvs) Q E hr I.env0 (hb s us I.kIn hl) r2 h) λr s' hq=>?_)
 cases r with
 | error e=>exact hx pins σ H s e s' I hq
 | ok fl =>
  cases fl with
  | ret u=>exact I.after hq
  | next=>exact False.elim hq
  | brk=>exact False.elim hq
  | cont=>exact False.elim hq
theorem Qho (F:FnOk X.prog X.w X.K X.mg X.base CX k f fd ps sp) (hr:Room k X.A) (hg:Gl X x) (hm:X.mg x=some (.ref f)) (hk:keepIn X.K (.ref f)=true) (hb:X1 X.K fd ps ds) (hd:Vals dvs ds) (hx:Qoy CX X E)
  (ha:PA X (e::es) t) (hdb:(x == ("__debug__" : Str))=false:=by decide) (he:starEach (e::es) X.env=(false,eval e X.env)::starEach es X.env:=by rfl) (hpl:(backTo pos (starEach es X.env)).any (·.1)=false:=by rfl) :
  PE X (.Call (.Name x p) (e::es) [] pos) (Qx5 sp dvs E t):=by
 intro pins s σ H Q I h
 refine wpAny_Call_Name_kw (Xs I hg hm ?_ hdb)
 refine callWith_K (h₀:=X.base) I.ok.mod.kin hk (thn (ha pos pins s σ H _ I h) λus s1 ⟨vs,H1,I1,r,q⟩=>⟨I1.kIn,?_⟩) he hpl
 exact Qvg F hr hb hd hx I1 r q
end
structure FnScope (N P:List Str) (sc:Scope):Prop where
 kind:sc.kind=.function
 co:sc.isCoroutine=false
 gen:sc.isGenerator=false
 nd:N.Nodup
 pre:N.take P.length=P
 par:∀x∈P,sc.names.lookup x=some .local\/sc.names.lookup x=some .cell
 nofree:∀y∈sc.names,y.2 ≠ .free
theorem Qgt {kindOf:Str->Option NameKind} {x:Str}:∀{binds:List (Str × Value)} {m:Str->Option Value},(∀v,(x,v)∉binds)->bindL kindOf binds m x=m x
 | [],_,_=>rfl
 | (n,v)::r,m,h=>by
  unfold bindL
  rw [Qgt λw hw=>h w (List.mem_cons_of_mem _ hw)]
  split
  ·have:x≠n:=by rintro rfl;exact h v List.mem_cons_self
   simp [this]
  ·rfl
theorem Qgv {kindOf:Str->Option NameKind} {x:Str}:∀{binds:List (Str × Value)} {m:Str->Option Value},(∀v,(x,v)∉binds)->bindC kindOf binds m x=m x
 | [],_,_=>rfl
 | (n,v)::r,m,h=>by
  unfold bindC
  rw [Qgv λw hw=>h w (List.mem_cons_of_mem _ hw)]
  split
  ·rfl
  ·have:x≠n:=by rintro rfl;exact h v List.mem_cons_self
   simp [this]
theorem Qgu {kindOf:Str->Option NameKind} {x:Str} {v:Value}:∀{P:List Str} {vs:List Value} {i:Nat} {m:Str->Option Value},P.Nodup->P[i]? = some x->vs[i]? = some v->kindOf x=some .local ->
  bindL kindOf (P.zip vs) m x=some v
 | [],_,_,_,_,h,_,_=>by simp at h
 | _::_,[],_,_,_,_,h,_=>by simp at h
 | p::P,w::vs,0,m,nd,h1,h2,hk=>by
  simp at h1 h2;subst h1;subst h2
  show bindL kindOf ((p,w)::P.zip vs) m p=_
  unfold bindL
  rw [Qgt λv hv=>(List.nodup_cons.mp nd).1 (List.of_mem_zip hv).1,if_pos hk]
  simp
 | p::P,w::vs,i+1,m,nd,h1,h2,hk=>by
  show bindL kindOf ((p,w)::P.zip vs) m x=_
  unfold bindL
  exact Qgu (i:=i) (List.nodup_cons.mp nd).2 (by simpa using h1) (by simpa using h2) hk
theorem Qgw {kindOf:Str->Option NameKind} {x:Str} {v:Value}:∀{P:List Str} {vs:List Value} {i:Nat} {m:Str->Option Value},P.Nodup->P[i]? = some x->vs[i]? = some v->kindOf x≠some .local ->
  bindC kindOf (P.zip vs) m x=some v
 | [],_,_,_,_,h,_,_=>by simp at h
 | _::_,[],_,_,_,_,h,_=>by simp at h
 | p::P,w::vs,0,m,nd,h1,h2,hk=>by
  simp at h1 h2;subst h1;subst h2
  show bindC kindOf ((p,w)::P.zip vs) m p=_
  unfold bindC
  rw [Qgv λv hv=>(List.nodup_cons.mp nd).1 (List.of_mem_zip hv).1,if_neg hk]
  simp
 | p::P,w::vs,i+1,m,nd,h1,h2,hk=>by
  show bindC kindOf ((p,w)::P.zip vs) m x=_
  unfold bindC
  exact Qgw (i:=i) (List.nodup_cons.mp nd).2 (by simpa using h1) (by simpa using h2) hk
def Vz (N:List Str) (vs:List V):St:=vs.map some++List.replicate (N.length-vs.length) none
def cxOf (CX:CXT) (P:Program) (w:World) (K:Frag) (mg:Str->Option Value) (base:Heap) (N:List Str) (qual:Str) (scope:Scope) (f:Addr) (cd:Value) (A:Around) (outer:List Env) (s:Shared) (H:Hp) (E:XK):Cx where
 prog:=P
 w:=w
 K:=K
 mg:=mg
 base:=base
 A:=A.deeper (envOfC qual scope s.heap.objs.size f cd)
 N:=N
 s₀:=s
 H₀:=H
 env:=envOfC qual scope s.heap.objs.size f cd
 outer:=outer
 stack:=envOfC qual scope s.heap.objs.size f cd::outer
 ex:=[]
 calm:=true
 fn:=λ_=>true
 pn:=[]
 xe:=λe s'=>wpAny (model P w) (A.deeper (envOfC qual scope s.heap.objs.size f cd)) (leaving (envOfC qual scope s.heap.objs.size f cd) e) (λ_ s''=>CX outer H s E e s'') (λe' s''=>CX outer H s E e' s'') s'
theorem Qj2 {sc:Scope} (h:sc.names.lookup x=some .cell):∃c,(cellsFrom n sc.names []).lookup x=some c:=by
 have q:=cellsFrom_some sc.names n [] (.inl h)
 exact Option.isSome_iff_exists.mp q
theorem Qgd {cd:Value} {s1:Shared} {E:XK}
  (S:FnScope N ps scope) (hd:A.handled=none) (e0:Env0 P w K mg base A outer s H) (hl:vs.length=ps.length) (r:Vals vs us)
  (x:InCallC s s.heap.objs.size (bindL (envOfC qual scope s.heap.objs.size f cd).kindOf (ps.zip us) λ_=>none) (cellsFrom (s.heap.objs.size+1) scope.names []) (bindC (envOfC qual scope s.heap.objs.size f cd).kindOf (ps.zip us) λ_=>none) s1) :
  Inv (cxOf CX P w K mg base N qual scope f cd A outer s H E) [] (Vz N vs) H s1:=by
 have hpl:ps.length<=N.length:=by have:=congrArg List.length S.pre;rw [List.length_take] at this;omega
 obtain ⟨h1,tk,rfl,hk⟩:=x.done
 have noA:∀b:Addr,b∉(cxOf CX P w K mg base N qual scope f cd A outer s H E).ex:=λb z=>absurd (show b∈([]:List Addr) from z) (by simp)
 refine ⟨⟨e0.mod,S.kind,rfl,rfl,Nat.le_refl _,λy z c h1 h2=>?_,λy hy=>?_,λy c _ h=>?_,λ_=>hd,Around.frames_deeper e0.frames,.inr ⟨rfl,rfl⟩,λb z=>absurd z (noA b),e0.bs,e0.bsz,λb _ _=>noA b,λb z=>absurd z (noA b),e0.funs,e0.frf⟩,
  rfl,e0.bare,Un.kept hk,⟨_,x.toInCall.ns,λi y v h1 h2 h3=>?_⟩,λy c h=>⟨_,x.cell y c h⟩,e0.hok.fresh (Nat.le_refl _),λy c h=>?_,λp hp=>absurd (show p∈([]:List (Addr × Obj)) from hp) (by simp),e0.hok.kept hk,?_⟩
 ·exact name_of_addr x.apart (PySem.mem_of_lookup h1) (PySem.mem_of_lookup h2)
 ·have hy:scope.names.lookup y=some .cell\/scope.names.lookup y=some .free:=hy
  rcases hy with hy | hy
  ·exact Qj2 hy
  ·exact absurd rfl (S.nofree _ (PySem.mem_of_lookup hy))
 ·exact Nat.le_of_lt (x.above y c (PySem.mem_of_lookup h))
 ·have hi:i<vs.length:=by
   unfold Vz at h2
   by_cases hi:i<vs.length
   ·exact hi
   ·rw [List.getElem?_append_right (by simpa using hi)] at h2
    rw [List.getElem?_replicate] at h2
    split at h2 <;> cases h2
  have ha:vs[i]? = some v:=by
   unfold Vz at h2
   rw [List.getElem?_append_left (by simpa using hi),List.getElem?_map] at h2
   cases e:vs[i]? with
   | none=>rw [e] at h2;cases h2
   | some a=>rw [e] at h2;cases h2;rfl
  obtain ⟨u,hu,rv⟩:=r.get ha
  have hp:ps[i]? = some y:=by
   rw [← S.pre,List.getElem?_take_of_lt (by omega)];exact h1
  have ndP:ps.Nodup:=by rw [← S.pre];exact S.nd.sublist (List.take_sublist _ _)
  refine ⟨u,rv,?_⟩
  rcases S.par y (List.mem_of_getElem? hp) with k | k
  ·exact .inl ⟨k,Qgu ndP hp hu k⟩
  ·obtain ⟨c,e⟩:=Qj2 (n:=s.heap.objs.size+1) k
   refine .inr ⟨.inl k,c,e,?_⟩
   have q:=x.cell y c e
   rw [Qgw ndP hp hu (by show scope.names.lookup y≠_;rw [k];decide)] at q
   exact q
 ·exact e0.hok.fresh (Nat.le_of_lt (x.above y c (PySem.mem_of_lookup h)))
 ·unfold Vz
  show _=N.length
  rw [List.length_append,List.length_map,List.length_replicate]
  omega
theorem Qxb {k:Nat} {dV kV doc pm cdv ct:Value} {an od:Option Addr} {sp:Sp} (lk:K.lookup f=some ⟨oc,od,.func (fnOf name qual params body scope dV kV doc pm an cdv ct),osl⟩) (hcd:codeIn K cdv qual=true) (S:FnScope N ps scope)
  (len:∀vs H Q E,sp vs H Q E->vs.length=ps.length)
  (hbody:∀(A:Around) (outer:List Env) (s:Shared) (H:Hp) (vs:List V) (Q:VK) (E:XK),Room k (A.deeper (envOfC qual scope s.heap.objs.size f cdv))->sp vs H Q E ->
   ∃t,PSs (cxOf CX P w K mg base N qual scope f cdv A outer s H E) body t/\t { nx:=λ_ H'=>Q .non H',rt:=Q } (Vz N vs) H) :
  FnOk P w K mg base CX (k+1) f (fnOf name qual params body scope dV kV doc pm an cdv ct) ps sp:=by
 refine ⟨len,λA outer s H args us vs Q E hr e0 hb r hsp=>?_⟩
 have hl:=len _ _ _ _ hsp
 have KX:K.In s.heap:=e0.mod.kin.keeps λb o e=>(e0.bs b o e).1
 have lim:s.heap.NoLimit:=e0.mod.nolimit.keeps λb o e=>(e0.bs b o e).1
 have hkind:∀y∈ps.zip us,scope.names.lookup y.1=some .local\/(scope.names.lookup y.1=some .cell/\((cellsFrom (s.heap.objs.size+1) scope.names []).lookup y.1).isSome=true):=λ⟨n,v⟩ hy=>by
  rcases S.par n (List.of_mem_zip hy).1 with q | q
  ·exact .inl q
  ·exact .inr ⟨q,cellsFrom_some _ _ _ (.inl q)⟩
 refine codeAny_call_function hr.depth (KX _ _ lk) rfl S.co S.gen rfl (codeRec_of KX hcd) (hb _ _ _ _ ?_)
 refine wpAny_newFunctionEnv_cells S.kind hkind λenv he s1 x=>?_
 subst he
 refine ⟨lim.keeps x.toInCall.keep,codeAny_func ?_⟩
 obtain ⟨t,ht,hq⟩:=hbody A outer s H vs Q E (hr.deeper _) hsp
 have I:Inv (cxOf CX P w K mg base N qual scope f cdv A outer s H E) [] (Vz N vs) H s1:=Qgd S hr.hd e0 hl r x
 refine wpAny_mono (ht [] s1 (Vz N vs) H _ I hq) (λfl s' hs=>?_) λe s' hs=>hs
 have fin:∀{σ':St} {H':Hp} {v:V} {u:Value},Inv (cxOf CX P w K mg base N qual scope f cdv A outer s H E) [] σ' H' s'->RelV v u->Q v H'->CE outer P w H s Q u s' :=
  λ{σ' H' v u} J rv q=>⟨v,H',J.os,J.bare,J.base,J.hok,rv,q⟩
 cases fl with
 | ret u =>
  obtain ⟨v,σ',H',J,rv,q⟩:=hs
  exact fin J rv q
 | next =>
  obtain ⟨σ',H',J,q⟩:=hs
  exact fin (v:=V.non) (u:=Value.none) J rfl q
 | brk =>
  obtain ⟨_,_,_,q⟩:=hs
  exact False.elim q
 | cont =>
  obtain ⟨_,_,_,q⟩:=hs
  exact False.elim q
section
variable {t:TA} {id:String} {r:List V->Hp->VK->Prop}
def tCB (r:List V->Hp->VK->Prop) (t:TA):TE:=λσ H Q=>t σ H λvs H1=>r vs H1 Q
theorem Qex (hc:V0 X (.builtin id) r) (hg:Gl X x) (hm:X.mg x=none) (hv:bootBuiltins x=some (.builtin id)) (ha:PA X (e::es) t) (hn:x ≠ "__name__":=by decide) (hdb:(x == ("__debug__" : Str))=false:=by decide)
  (he:starEach (e::es) X.env=(false,eval e X.env)::starEach es X.env:=by rfl) (hpl:(backTo pos (starEach es X.env)).any (·.1)=false:=by rfl):PE X (.Call (.Name x p) (e::es) [] pos) (tCB r t):=by
 intro pins s σ H Q I h
 refine wpAny_Call_Name_kw (Qba I hg hm hv ?_ hn hdb)
 exact PyProof.Rows.callWith_builtin1 (thn (ha pos pins s σ H _ I h) λus s1 ⟨vs,H1,I1,r1,q1⟩=>hc pins s1 σ H1 vs us Q I1 r1 q1) he hpl
theorem Qf0 (hc:V0 X (.type T) r) (hg:Gl X x) (hm:X.mg x=none) (hv:bootBuiltins x=some (.type T)) (ha:PA X (e::es) t) (hn:x ≠ "__name__":=by decide) (hdb:(x == ("__debug__" : Str))=false:=by decide)
  (he:starEach (e::es) X.env=(false,eval e X.env)::starEach es X.env:=by rfl) (hpl:(backTo pos (starEach es X.env)).any (·.1)=false:=by rfl):PE X (.Call (.Name x p) (e::es) [] pos) (tCB r t):=by
 intro pins s σ H Q I h
 refine wpAny_Call_Name_kw (Qba I hg hm hv ?_ hn hdb)
 exact PyProof.Rows.callWith_type1 (thn (ha pos pins s σ H _ I h) λus s1 ⟨vs,H1,I1,r1,q1⟩=>hc pins s1 σ H1 vs us Q I1 r1 q1) he hpl
end
end L2
variable {vs ws:List PySem.Value} {sl:PySem.Addr} {vl vu:PySem.Value} {items:Array PySem.Value}
namespace HT
open PySem PyProof.Rows
theorem Quq {t:Addr} (ht:IsTup s.heap t vs.toArray) (hb:IsTup s.heap b ws.toArray) (hv:vs≠[])
  (h1:ws=[]->Q (.ref t) s) (h2:ws≠[]->Q (.ref s.heap.objs.size) { s with heap:=s.heap.push { cls:=.type "tuple",data:=.seq (vs++ws).toArray } })
  (hsz:vs.length+ws.length<=sizeLine):wpAny (model prog w) A (binaryOp .Add (.ref t) (.ref b)) Q E s:=by
 obtain ⟨⟨cls,dd,data,sl⟩,ho,hc,n,hd⟩:=id ht
 obtain ⟨⟨cls2,dd2,data2,sl2⟩,ho2,hc2,n2,hd2⟩:=id hb
 simp only at hc hd hc2 hd2
 subst hc hd hc2 hd2
 have e:vs.toArray++ws.toArray=(vs++ws).toArray:=by simp
 by_cases hw:ws=[]
 ·exact concat_meets ⟨_,ho,rfl⟩ ⟨_,ho2,rfl⟩ noFill_tuple_add seq_tuple_add PySem.F.slot_tuple_add PySem.F.entry_tuple_add (PySem.F.args_tuple_add_2 _ _)
   (tuple_addW1 t b vs.toArray ws.toArray n n2 dd dd2 sl sl2 (by simpa using hv) (by simp [hw])) ⟨ho,ho2,h1 hw⟩
 ·refine concat_meets ⟨_,ho,rfl⟩ ⟨_,ho2,rfl⟩ noFill_tuple_add seq_tuple_add PySem.F.slot_tuple_add PySem.F.entry_tuple_add (PySem.F.args_tuple_add_2 _ _)
   (tuple_addW2 t b vs.toArray ws.toArray n n2 dd dd2 sl sl2 (by simpa using hv) (by simpa using hw) (by rw [List.size_toArray,List.size_toArray];exact hsz)) ⟨ho,ho2,?_⟩
  rw [e]
  exact h2 hw
def sIx (n d:Nat):Option Int->Nat
 | none=>d
 | some v=>if v<0 then (v+(n:Int)).toNat else min v.toNat n
theorem Qvf (n d:Nat) (hd:d<=n) (o:Option Int):sIx n d o<=n:=by
 cases o with
 | none=>exact hd
 | some v =>
  show (if v<0 then (v+(n:Int)).toNat else min v.toNat n)<=n
  by_cases hv:v<0
  ·rw [if_pos hv];omega
  ·rw [if_neg hv];exact Nat.min_le_right _ _
theorem Qog (v:Int) (n d:Nat):(if v<0 then max (v+(n:Int)) 0 else min v (n:Int))=((sIx n d (some v):Nat):Int):=by
 show (if v<0 then max (v+(n:Int)) 0 else min v (n:Int))=(((if v<0 then (v+(n:Int)).toNat else min v.toNat n):Nat):Int)
 by_cases hv:v<0
 ·simp only [if_pos hv];omega
 ·simp only [if_neg hv];omega
theorem Qlc (lo hi:Option Int) (n:Nat):Builtin.Slice.sliceAdjust lo hi 1 (n:Int)=(((sIx n 0 lo:Nat):Int),((sIx n n hi:Nat):Int)):=by
 have h1:¬((1:Int)<0):=by omega
 unfold Builtin.Slice.sliceAdjust
 simp only [h1,if_false]
 refine Prod.ext ?_ ?_
 ·cases lo with
  | none=>rfl
  | some v=>exact Qog v n 0
 ·cases hi with
  | none=>rfl
  | some v=>exact Qog v n n
theorem Qkj (i j:Nat):Builtin.Slice.slicePlaces (i:Int) (j:Int) 1=j-i:=by
 unfold Builtin.Slice.slicePlaces
 have h1:(1:Int) > 0:=by omega
 simp only [h1,if_true,Int.ediv_one]
 split <;> omega
theorem Qd2 {v:Value} {o:Option Int} {Q:Option Int->Shared->Prop} (p:IsPart v o) (h:Q o s):wpAny (model prog w) A (Builtin.Slice.slicePartIndex v) Q E s:=by
 cases p with
 | none=>exact slicePart_none h
 | int i t=>exact slicePart_int h
theorem U0 {Q:Int × Int × Nat->Shared->Prop} (hs:s.heap.IsSliceOf sl vl vu .none) (pl:IsPart vl lo) (pu:IsPart vu hi)
  (h:Q (((sIx n 0 lo:Nat):Int),1,sIx n n hi-sIx n 0 lo) s):wpAny (model prog w) A (Builtin.Slice.sliceApplied (.ref sl) (pure (n:Int))) Q E s:=by
 obtain ⟨os,hos,hcs,hds⟩:=id hs
 unfold Builtin.Slice.sliceApplied Builtin.Slice.sliceFields
 refine wpAny_bind (wpAny_bind (wpAny_field hos hds (x:=vl) rfl (wpAny_bind (wpAny_field hos hds (x:=vu) rfl (wpAny_bind (wpAny_field hos hds (x:=.none) rfl (wpAny_pure ?_)))))))
 refine wpAny_bind (slicePart_none ?_)
 show wpAny _ _ (if ((1:Int) == 0)=true then _ else _) _ _ s
 rw [if_neg (by decide)]
 refine wpAny_bind (Qd2 pl (wpAny_bind (Qd2 pu (wpAny_bind (wpAny_pure ?_)))))
 show wpAny _ _ (match Builtin.Slice.sliceAdjust lo hi 1 (n:Int) with | (lo,hi)=>pure (lo,(1:Int),Builtin.Slice.slicePlaces lo hi 1)) _ _ s
 rw [Qlc lo hi n]
 show wpAny _ _ (pure (((sIx n 0 lo:Nat):Int),(1:Int),Builtin.Slice.slicePlaces ((sIx n 0 lo:Nat):Int) ((sIx n n hi:Nat):Int) 1)) _ _ s
 rw [Qkj]
 exact wpAny_pure h
theorem Qpm (xs:Array Value) (i k:Nat):((List.range k).filterMap λ(m:Nat)=>xs[((i:Int)+(m:Int)*1).toNat]?).toArray=((xs.toList.drop i).take k).toArray:=by
 have e:(λ(m:Nat)=>xs[((i:Int)+(m:Int)*1).toNat]?)=λm=>xs[i+m]?:=by
  funext m
  have:((i:Int)+(m:Int)*1).toNat=i+m:=by omega
  rw [this]
 rw [e]
 have:=pick_run xs i k
 rw [List.filterMap_map] at this
 have e2:((λx=>xs[x]?) ∘ λx=>i+x)=λm=>xs[i+m]?:=rfl
 rw [e2] at this
 rw [this]
theorem Qa0 {t:Addr} (ht:IsTup s.heap t items) (hs:s.heap.IsSliceOf sl vl vu .none) (pl:IsPart vl lo) (pu:IsPart vu hi)
  (hw:¬(sIx items.size 0 lo=0/\sIx items.size items.size hi=items.size))
  (h:Q (.ref s.heap.objs.size) { s with heap:=s.heap.push { cls:=.type "tuple",data:=.seq ((items.toList.drop (sIx items.size 0 lo)).take (sIx items.size items.size hi-sIx items.size 0 lo)).toArray } })
  (hsz:items.size<=sizeLine):wpAny (model prog w) A (getItem (.ref t) (.ref sl)) Q E s:=by
 have htake:sizeOk (.seq ((items.toList.drop (sIx items.size 0 lo)).take (sIx items.size items.size hi-sIx items.size 0 lo)).toArray):=by
  show ((items.toList.drop (sIx items.size 0 lo)).take (sIx items.size items.size hi-sIx items.size 0 lo)).toArray.size<=sizeLine
  rw [List.size_toArray,List.length_take,List.length_drop,Array.length_toList]
  omega
 have hj:sIx items.size items.size hi<=items.size:=Qvf _ _ (Nat.le_refl _) hi
 obtain ⟨os,hos,hcs,hds⟩:=id hs
 have hTs:s.TypeIs (.ref sl) "slice":=⟨os,hos,hcs⟩
 unfold getItem
 try with_reducible refine wpAny_holding ?_
 first | refine wpAny_bind (wpAny_pure ?_) | skip
 refine wpAny_bind (wpAny_sequenceKey ht.typeIs (by decide) ?_)
 refine wpAny_bind (wpAny_callSpecial?_slot (name:=Str.ofString "__getitem__") ht.typeIs PyProof.Rows.slot_tuple_getitem
  (wpAny_call_entry PyProof.Rows.slot_tuple_getitem ht.typeIs entry_tuple_getitem ?_ (args_tuple_getitem _ _)))
 show wpAny _ _ (Builtin.Tuple.tupleItemsOf (.ref t) >>= _) _ _ s
 refine wpAny_bind (tupleItemsOf_ ht ?_)
 refine wpAny_bind (wpAny_typeOf hTs ?_)
 rw [if_pos (by decide)]
 refine wpAny_bind (U0 hs pl pu ?_)
 have hno:¬((((sIx items.size 0 lo:Nat):Int) == 0 && (1:Int) == 1 && (sIx items.size items.size hi-sIx items.size 0 lo) == items.size)=true):=by
  intro q
  rw [Bool.and_eq_true,Bool.and_eq_true] at q
  have q1:((sIx items.size 0 lo:Nat):Int)=0:=eq_of_beq q.1.1
  have q2:sIx items.size items.size hi-sIx items.size 0 lo=items.size:=eq_of_beq q.2
  exact hw ⟨by omega,by omega⟩
 show wpAny _ _ (if (((sIx items.size 0 lo:Nat):Int) == 0 && (1:Int) == 1 && (sIx items.size items.size hi-sIx items.size 0 lo) == items.size)=true then _ else _) _ _ s
 rw [if_neg hno,Qpm]
 first
  | exact wpAny_bind (m:=Builtin.Tuple.tupleExact _) (wpAny_newObj_type (wpAny_pure ⟨_,rfl,wpAny_pure h⟩) htake)
  | exact wpAny_bind (m:=Builtin.Tuple.tupleExact _) (wpAny_newObj_type (wpAny_bind (wpAny_pure (wpAny_pure ⟨_,rfl,wpAny_pure h⟩))) htake)
  | exact wpAny_bind (wpAny_bind (m:=Builtin.Tuple.tupleExact _) (wpAny_newObj_type (wpAny_pure (wpAny_pure ⟨_,rfl,wpAny_pure h⟩)) htake))
  | exact wpAny_bind (wpAny_bind (m:=Builtin.Tuple.tupleExact _) (wpAny_newObj_type (wpAny_pure ⟨_,rfl,wpAny_pure h⟩) htake))
end HT
namespace L2
open PySem PySem.Spec PyProof.Rows
abbrev TO:=St->Hp->(Option Int->Hp->Prop)->Prop
end L2
variable {xs:List (List L2.Key × PySem.Addr × PySem.Value)} {ns:List Int} {kvs:List (List L2.Key × L2.V)} {l:PySem.W.OpenLaw} {cpos p2:PySem.Pos} {th:L2.TS}
namespace L2
open PySem PySem.Spec PyProof.Rows
def PO (X:Cx) (e:Option Expr) (t:TO):Prop :=
 ∀(pins:List (Addr × Obj)) (s:Shared) (σ:St) (H:Hp) (Q:Option Int->Hp->Prop),Inv X pins σ H s->t σ H Q ->
  wpAny (model X.prog X.w) X.A (evalPart e X.env) (λu s'=>∃o H',Inv X pins σ H' s'/\IsPart u o/\Q o H') X.xe s
def Qx1 (t:TE):TO:=λσ H Q=>t σ H λx H1=>∃i,x=.int i/\Q (some i) H1
theorem Qkw:∀{us:List Value},Vals (ns.map V.int) us->IntsAre us ns:=by
 induction ns with
 | nil=>intro us r;rw [List.map_nil] at r;cases r;exact .nil
 | cons n ns ih =>
  intro us r
  rw [List.map_cons] at r
  cases r with
  | cons r1 r2 =>
   obtain ⟨t,e⟩:=r1
   subst e
   exact .cons n t (ih r2)
section
variable {lo hi:Option Expr} {tl th:TO}
theorem Qtm (h:PE X e te):PO X (some e) (Qx1 te):=by
 intro pins s σ H Q I hw
 rw [evalPart_some]
 refine thn (h pins s σ H _ I hw) λu s1 ⟨x,H1,I1,r1,q1⟩=>?_
 obtain ⟨i,rfl,q⟩:=q1
 obtain ⟨t,rfl⟩:=r1
 exact ⟨some i,H1,I1,.int i t,q⟩
def SlR (X:Cx) (r:V->Option Int->Option Int->Hp->VK->Prop):Prop :=
 ∀(pins:List (Addr × Obj)) (s:Shared) (σ:St) (H:Hp) (x:V) (v vl vu:Value) (lo hi:Option Int) (sl:Addr) (Q:VK),Inv X pins σ H s->RelV x v->s.heap.IsSliceOf sl vl vu .none->IsPart vl lo->IsPart vu hi->r x lo hi H Q ->
  ∃T id,typeLookup (.type T) "__getitem__" = pure (some (.builtin id))/\s.TypeIs v T/\wpAny (model X.prog X.w) X.A (getItem v (.ref sl)) (EP X pins σ Q) X.xe s
theorem SlR.or {r r':V->Option Int->Option Int->Hp->VK->Prop} (h:SlR X r) (h':SlR X r'):SlR X (λx lo hi H Q=>r x lo hi H Q\/r' x lo hi H Q):=by
 intro pins s σ H x v vl vu lo hi sl Q I rx hs pl pu q
 rcases q with q | q
 ·exact h pins s σ H x v vl vu lo hi sl Q I rx hs pl pu q
 ·exact h' pins s σ H x v vl vu lo hi sl Q I rx hs pl pu q
def tSl (r:V->Option Int->Option Int->Hp->VK->Prop) (te:TE) (tl th:TO):TE:=λσ H Q=>te σ H λx H1=>tl σ H1 λl H2=>th σ H2 λu H3=>r x l u H3 Q
theorem Qpp {r:V->Option Int->Option Int->Hp->VK->Prop} (hr:SlR X r) (he:PE X e te) (hl:PO X lo tl) (hu:PO X hi th):PE X (.Subscript e (.Slice lo hi none p2) pos) (tSl r te tl th):=by
 intro pins s σ H Q I h
 refine Subscript_ (thn (he pins s σ H _ I h) λv s1 ⟨x,H1,I1,r1,q1⟩=>?_)
 refine wpAny_Slice (thn (hl pins s1 σ H1 _ I1 q1) λvl s2 ⟨l,H2,I2,pl,q2⟩=>thn (hu pins s2 σ H2 _ I2 q2) λvu s3 ⟨u,H3,I3,pu,q3⟩=>?_)
 rw [evalPart_none]
 refine wpAny_pure ?_
 have I4:Inv X pins σ H3 { s3 with heap:=s3.heap.push { cls:=.type "slice",data:=.fields #[vl,vu,.none] } }:=I3.kept (t':=s3.toks) λb ob q=>Heap.get?_push_of_some _ q
 obtain ⟨T,id,hT,ht,hg⟩:=hr pins { s3 with heap:=s3.heap.push { cls:=.type "slice",data:=.fields #[vl,vu,.none] } } σ H3 x v vl vu l u s3.heap.objs.size Q I4 r1 (Heap.IsSliceOf.new ..) pl pu q3
 show wpAny (model X.prog X.w) X.A (subscriptTail e (.Slice lo hi none p2) v (.ref s3.heap.objs.size)) (EP X pins σ Q) X.xe { s3 with heap:=s3.heap.push { cls:=.type "slice",data:=.fields #[vl,vu,.none] } }
 exact tail_any (ops:=[.ref s3.heap.objs.size,v]) ht hT hg (by with_unfolding_all rfl)
def cutV (xs:List V) (lo hi:Option Int):List V:=(xs.drop (HT.sIx xs.length 0 lo)).take (HT.sIx xs.length xs.length hi-HT.sIx xs.length 0 lo)
theorem Qc3 (xs:List V) (lo hi:Option Int):(cutV xs lo hi).length<=xs.length:=by
 unfold cutV
 rw [List.length_take,List.length_drop]
 omega
def rSlT (K:Frag):V->Option Int->Option Int->Hp->VK->Prop:=λx lo hi H Q=>∃a xs,x=.ref a/\SqT K H a xs /\
 ¬(HT.sIx xs.length 0 lo=0/\HT.sIx xs.length xs.length hi=xs.length)/\∀p,H p=none->Q (.ref p) (upd H p (.tup (cutV xs lo hi)))
theorem Qvb:SlR X (rSlT X.K):=by
 intro pins s σ H x v vl vu lo hi sl Q I rx hs pl pu h
 obtain ⟨a,xs,rfl,hx,hw,q⟩:=h
 cases rx
 obtain ⟨its,r,ht,hz⟩:=I.tuple hx
 have hlen:its.toArray.size=xs.length:=by rw [List.size_toArray];exact r.length.symm
 refine ⟨"tuple",_,PyProof.Rows.slot_tuple_getitem.lookup,ht.typeIs,?_⟩
 refine HT.Qa0 ht hs pl pu (by rw [hlen];exact hw) ?_ (by rw [hlen];exact hz)
 rw [hlen]
 refine ⟨.ref s.heap.objs.size,_,I.laid (t':=s.toks) (o:=.tup (cutV xs lo hi)) (λb ob q=>Heap.get?_push_of_some _ q) (Nat.le_refl _) ?_,rfl,q _ (I.hok.fresh (Nat.le_refl _))⟩
 exact ⟨Nat.le_trans (Qc3 xs lo hi) hz,_,(r.drop (HT.sIx xs.length 0 lo)).take (HT.sIx xs.length xs.length hi-HT.sIx xs.length 0 lo),IsTup.new _ _⟩
def Qyh (K:Frag):R2:=λx y H Q=>∃a b xs ys,x=.ref a/\y=.ref b/\SqT K H a xs/\SqT K H b ys/\xs≠[]/\xs.length+ys.length<=sizeLine /\
 (ys=[]->Q (.ref a) H)/\(ys≠[]->∀p,H p=none->Q (.ref p) (upd H p (.tup (xs++ys))))
theorem Vals.nil_iff {xs:List V} (r:Vals xs us):us=[]↔xs=[]:=by
 cases r with
 | nil=>simp
 | cons _ _=>simp
theorem Qtv:OpR X (binaryOp .Add) (Qyh X.K):=by
 intro pins s σ H x y v u Q I rx ry h
 obtain ⟨a,b,xs,ys,rfl,rfl,ha,hb,hx,hz,q1,q2⟩:=h
 cases rx
 cases ry
 obtain ⟨its,r1,p1,_⟩:=I.tuple ha
 obtain ⟨its2,r2,p2,_⟩:=I.tuple hb
 refine HT.Quq p1 p2 (λz=>hx (r1.nil_iff.mp z)) (λz=>⟨.ref a,H,I,rfl,q1 (r2.nil_iff.mp z)⟩) (λz=>?_) (by rw [← r1.length,← r2.length];exact hz)
 refine ⟨.ref s.heap.objs.size,_,I.laid (t':=s.toks) (o:=.tup (xs++ys)) (λb ob q=>Heap.get?_push_of_some _ q) (Nat.le_refl _) ?_,rfl,q2 (λw=>z (r2.nil_iff.mpr w)) _ (I.hok.fresh (Nat.le_refl _))⟩
 exact ⟨by rw [List.length_append];exact hz,_,r1.append r2,IsTup.new _ _⟩
end
def ixN (n:Nat) (i:Int):Option Nat:=if 0<=i then (if i<n then some i.toNat else none) else if -(n:Int)<=i then some (i+n).toNat else none
def atI {α:Type} (xs:List α) (i:Int):Option α:=(ixN xs.length i).bind λj=>xs[j]?
theorem Qh4 (h:ixN n i=some j):seqIndex? i n=some j/\j<n /\ -(n:Int)<=i/\i<n:=by
 unfold ixN at h
 by_cases h0:0<=i
 ·rw [if_pos h0] at h
  by_cases h1:i<n
  ·rw [if_pos h1] at h
   have e:i.toNat=j:=Option.some.inj h
   exact ⟨by rw [seqIndex_of h0 h1,e],by omega,by omega,h1⟩
  ·rw [if_neg h1] at h;cases h
 ·rw [if_neg h0] at h
  by_cases h1:-(n:Int)<=i
  ·rw [if_pos h1] at h
   have e:(i+n).toNat=j:=Option.some.inj h
   exact ⟨by rw [seqIndex_neg (by omega) h1,e],by omega,h1,by omega⟩
  ·rw [if_neg h1] at h;cases h
theorem Qik {α:Type} {xs:List α} {v:α} (h:atI xs i=some v):∃j,seqIndex? i xs.length=some j/\xs[j]? = some v/\j<xs.length /\ -(xs.length:Int)<=i/\i<xs.length:=by
 unfold atI at h
 cases e:ixN xs.length i with
 | none=>rw [e] at h;cases h
 | some j =>
  rw [e] at h
  obtain ⟨h1,h2,h3,h4⟩:=Qh4 e
  exact ⟨j,h1,h,h2,h3,h4⟩
def Qil (b:Expr):Prop:=∀o i,subscripted b false o i=operate [o,i] (getItem o i)
def IxR (X:Cx) (r:R2):Prop :=
 ∀(value slice:Expr) (pins:List (Addr × Obj)) (s:Shared) (σ:St) (H:Hp) (x y:V) (v u:Value) (Q:VK),Inv X pins σ H s->RelV x v->RelV y u->r x y H Q ->
  subscripted slice false v u=operate [v,u] (getItem v u)->wpAny (model X.prog X.w) X.A (subscriptTail value slice v u) (EP X pins σ Q) X.xe s
def MtR (X:Cx) (id:String) (r:V->List V->Hp->VK->Prop):Prop :=
 ∀(pins:List (Addr × Obj)) (s:Shared) (σ:St) (H:Hp) (x:V) (xs:List V) (v:Value) (us:List Value) (Q:VK),Inv X pins σ H s->RelV x v->Vals xs us->r x xs H Q ->
  wpAny (model X.prog X.w) X.A (call (.builtin id) (v::us)) (EP X pins σ Q) X.xe s
section
variable {a b:Expr}
theorem IxR.or {r r':R2} (h:IxR X r) (h':IxR X r'):IxR X (λx y H Q=>r x y H Q\/r' x y H Q):=by
 intro value slice pins s σ H x y v u Q I rx ry q hs
 rcases q with q | q
 ·exact h value slice pins s σ H x y v u Q I rx ry q hs
 ·exact h' value slice pins s σ H x y v u Q I rx ry q hs
theorem Qv6 {r:R2} (hr:IxR X r) (ha:PE X a ta) (hb:PE X b tb) (hs:Qil b):PE X (.Subscript a b pos) (tOp r ta tb):=by
 intro pins s σ H Q I h
 exact Subscript_ (binT ha hb I h λv u s2 x y H2 I2 rx ry q=>hr a b pins s2 σ H2 x y v u Q I2 rx ry q (hs _ _))
def rIxL (K:Frag):R2:=λx y H Q=>∃p xs i v,x=.ref p/\y=.int i/\SqL K H p xs/\atI xs i=some v/\Q v H
def rIxT (K:Frag):R2:=λx y H Q=>∃p xs i v,x=.ref p/\y=.int i/\SqT K H p xs/\atI xs i=some v/\Q v H
def rIxS:R2:=λx y H Q=>∃z i c,x=.str z/\y=.int i/\z.length<=sizeLine/\atI z.cps.toList i=some c/\Q (.str ⟨#[c]⟩) H
theorem Qnc:IxR X (rIxL X.K):=by
 intro value slice pins s σ H x y v u Q I rx ry h hs
 obtain ⟨p,xs,i,z,rfl,rfl,hq,he,q⟩:=h
 cases rx
 obtain ⟨t,rfl⟩:=ry
 obtain ⟨its,r,pl,hz⟩:=I.list hq
 obtain ⟨j,h1,h2,h3,h4,h5⟩:=Qik he
 obtain ⟨w,ew,rw'⟩:=r.get h2
 have hl:=r.length
 have hn:=Qd8
 have fin:EP X pins σ Q w s:=⟨z,H,I,rw',q⟩
 by_cases h0:0<=i
 ·have hj:i.toNat=j:=by
   rw [seqIndex_of h0 h5] at h1
   exact Option.some.inj h1
  exact item_listR pl.isList h0 (by omega) (by rw [hj];simpa using ew) fin hs
 ·have hj:(i+(its.toArray.size:Int)).toNat=j:=by
   rw [seqIndex_neg (by omega) h4] at h1
   rw [List.size_toArray,← hl]
   exact Option.some.inj h1
  exact subscriptTail_builtinR (x:=w) pl.isList.typeIs slot_list_getitem.lookup
   (wpAny_getItem_list_neg (Q:=λr s'=>r=w/\EP X pins σ Q r s') pl.isList (by omega) (by rw [List.size_toArray] <;> omega) (by omega) (by rw [hj];simpa using ew) ⟨rfl,fin⟩) hs
theorem Qw0:IxR X (rIxT X.K):=by
 intro value slice pins s σ H x y v u Q I rx ry h hs
 obtain ⟨p,xs,i,z,rfl,rfl,hq,he,q⟩:=h
 cases rx
 obtain ⟨t,rfl⟩:=ry
 obtain ⟨its,r,pl,hz⟩:=I.tuple hq
 obtain ⟨j,h1,h2,h3,h4,h5⟩:=Qik he
 obtain ⟨w,ew,rw'⟩:=r.get h2
 have hl:=r.length
 have hn:=Qd8
 have fin:EP X pins σ Q w s:=⟨z,H,I,rw',q⟩
 exact subscriptTail_builtinR (x:=w) pl.typeIs slot_tuple_getitem.lookup
  (getItem_tuple (j:=j) (Q:=λr s'=>r=w/\EP X pins σ Q r s') pl (by omega) (by omega) (by rw [List.size_toArray,← hl];exact h1) (by simpa using ew) ⟨rfl,fin⟩) hs
theorem Qw1:IxR X rIxS:=by
 intro value slice pins s σ H x y v u Q I rx ry h hs
 obtain ⟨z,i,c,rfl,rfl,hz,he,q⟩:=h
 obtain ⟨t,rfl⟩:=rx
 obtain ⟨t',rfl⟩:=ry
 obtain ⟨j,h1,h2,h3,h4,h5⟩:=Qik he
 have hl:z.cps.toList.length=z.length:=by simp [Str.length]
 rw [hl] at h1 h4 h5
 have hn:=Qd8
 exact tail_any (typeIs_str s z t) slot_str_getitem.lookup (getItem_str (c:=c) (by
  have e1:decide (i < -(2 ^ 63:Int))=false:=decide_eq_false (by omega)
  have e2:decide (i ≥ 2 ^ 63)=false:=decide_eq_false (by omega)
  rw [e1,e2,Bool.or_false]) (by rw [h1];simpa using h2) ⟨.str ⟨#[c]⟩,H,I.tok _,⟨_,rfl⟩,q⟩) hs
def rIx (K:Frag):R2:=λx y H Q=>rIxL K x y H Q\/rIxT K x y H Q\/rIxS x y H Q
theorem Qw2:IxR X (rIx X.K):=Qnc.or (Qw0.or Qw1)
theorem Qkn (its:List Value) (n j:Nat) (u:Value):Obj.mapSeq (·.setIfInBounds j u) { cls:=.type "list",data:=.seq its.toArray n }={ cls:=.type "list",data:=.seq (its.set j u).toArray n }:=by
 simp [Obj.mapSeq]
theorem Inv.lst {pins:List (Addr × Obj)} {σ:St} {H:Hp} {s:Shared} {p:Addr} {xs:List V} (I:Inv X pins σ H s) (h:H p=some (.lst xs)) :
  ∃(its:List Value) (n:Nat),Vals xs its/\s.heap.get? p=some { cls:=.type "list",data:=.seq its.toArray n }/\xs.length<=sizeLine:=by
 obtain ⟨z,its,n,r,e⟩:=I.hok p _ h
 exact ⟨its,n,r,e,z⟩
theorem Inv.lstUpd {p:Addr} {xs:List V} {its':List Value} {n':Nat} {f:Obj->Obj} (I:Inv X pins σ H s) (h:H p=some (.lst xs))
  (ho:s.heap.get? p=some { cls:=.type "list",data:=.seq its.toArray n }) (hf:f { cls:=.type "list",data:=.seq its.toArray n }={ cls:=.type "list",data:=.seq its'.toArray n' }) (r:Vals ys its') (hz:ys.length<=sizeLine) (t:Nat) :
  Inv X pins σ (upd H p (.lst ys)) { s with heap:=s.heap.update p f,toks:=t }:=by
 have e:(s.heap.update p f).get? p=some { cls:=.type "list",data:=.seq its'.toArray n' }:=by
  rw [Heap.get?_update_self f ho (by rw [hf] <;> rfl),hf]
 refine I.write (x:=p) (e:=p) (by rw [h];trivial) (.inl rfl) (λb u hb q=>(Heap.get?_update_other _ _ (Ne.symm hb)).trans q) ⟨_,e⟩ ?_
 exact ⟨hz,its',n',r,e⟩
def Qye:V->V->V->Hp->(Hp->Prop)->Prop:=λo i v H Q=>∃p xs k j,o=.ref p/\i=.int k/\H p=some (.lst xs)/\ixN xs.length k=some j/\Q (upd H p (.lst (xs.set j v)))
theorem Qpb:PSet X Qye:=by
 intro pins s σ H o i v ov iv u Q I ro ri rv h
 obtain ⟨p,xs,k,j,rfl,rfl,hp,hj,q⟩:=h
 cases ro
 obtain ⟨t,rfl⟩:=ri
 obtain ⟨its,n,r,ho,hz⟩:=I.lst hp
 obtain ⟨h1,h2,h3,h4⟩:=Qh4 hj
 have hl:=r.length
 have hn:=Qd8
 have I':Inv X pins σ (upd H p (.lst (xs.set j v))) { s with heap:=s.heap.update p (Obj.mapSeq (·.setIfInBounds j u)) } :=
  I.lstUpd hp ho (Qkn its n j u) (r.set rv j) (by rw [List.length_set];exact hz) s.toks
 by_cases h0:0<=k
 ·have hk:k.toNat=j:=by
   rw [seqIndex_of h0 h4] at h1
   exact Option.some.inj h1
  exact PySem.W.ki_setAt ho h0 (by omega) (by rw [List.size_toArray,← hl];exact h4) (by rw [hk];exact ⟨_,I',q⟩)
 ·have hk:(k+(its.toArray.size:Int)).toNat=j:=by
   rw [seqIndex_neg (by omega) h3] at h1
   rw [List.size_toArray,← hl]
   exact Option.some.inj h1
  exact PySem.W.ki_setBack ho (by omega) (by rw [List.size_toArray,← hl];exact h3) (by omega) (by rw [hk];exact ⟨_,I',q⟩)
theorem Qfp (lo hi:Option Int) (n:Nat):(sliceBounds lo hi none n).1=((HT.sIx n 0 lo:Nat):Int)/\(sliceBounds lo hi none n).2.1=((HT.sIx n n hi:Nat):Int)/\(sliceBounds lo hi none n).2.2=1:=by
 refine ⟨?_,?_,rfl⟩
 ·cases lo with
  | none=>simp [sliceBounds,HT.sIx]
  | some i =>
   simp only [sliceBounds,HT.sIx,Option.getD_none,show (1:Int) > 0 by decide,if_true]
   by_cases h:i<0
   ·simp only [h,if_true] <;> omega
   ·simp only [h,if_false] <;> omega
 ·cases hi with
  | none=>simp [sliceBounds,HT.sIx]
  | some i =>
   simp only [sliceBounds,HT.sIx,Option.getD_none,show (1:Int) > 0 by decide,if_true]
   by_cases h:i<0
   ·simp only [h,if_true] <;> omega
   ·simp only [h,if_false] <;> omega
theorem Qen (its:List Value) (lo hi:Option Int):slicePick its.toArray lo hi none=((its.drop (HT.sIx its.length 0 lo)).take (HT.sIx its.length its.length hi-HT.sIx its.length 0 lo)).toArray:=by
 obtain ⟨h1,h2,h3⟩:=Qfp lo hi its.toArray.size
 unfold slicePick
 rw [h1,h2,h3]
 simp only [sliceRange_one,pick_run,List.size_toArray] <;> rfl
def rSlL (K:Frag):V->Option Int->Option Int->Hp->VK->Prop:=λx lo hi H Q=>∃a xs,x=.ref a/\SqL K H a xs/\∀p,H p=none->Q (.ref p) (upd H p (.lst (cutV xs lo hi)))
theorem Qs1:SlR X (rSlL X.K):=by
 intro pins s σ H x v vl vu lo hi sl Q I rx hs pl pu h
 obtain ⟨a,xs,rfl,hx,q⟩:=h
 cases rx
 obtain ⟨its,r,ht,hz⟩:=I.list hx
 have hlen:=r.length
 refine ⟨"list",_,slot_list_getitem.lookup,ht.isList.typeIs,?_⟩
 refine wpAny_getItem_list_slice ht.isList hs pl pu .none (by simp) ?_ (by rw [List.size_toArray] <;> omega)
 rw [Qen,← hlen]
 refine ⟨.ref s.heap.objs.size,_,I.laid (t':=s.toks) (o:=.lst (cutV xs lo hi)) (λb ob q=>Heap.get?_push_of_some _ q) (Nat.le_refl _) ?_,rfl,q _ (I.hok.fresh (Nat.le_refl _))⟩
 exact ⟨Nat.le_trans (Qc3 xs lo hi) hz,_,0,(r.drop (HT.sIx xs.length 0 lo)).take (HT.sIx xs.length xs.length hi-HT.sIx xs.length 0 lo),Heap.get?_push_size _ rfl⟩
def Qdj:V->Bool
 | .non=>true
 | .bl _=>true
 | .int _=>true
 | .str _=>true
 | _=>false
def eqV:V->V->Bool
 | .non,.non=>true
 | .bl a,.bl b=>a == b
 | .bl a,.int b=>(if a then 1 else 0) == b
 | .int a,.bl b=>a == (if b then 1 else 0)
 | .int a,.int b=>a == b
 | .str a,.str b=>a == b
 | _,_=>false
theorem Qxk {x:V} {v:Value} (ry:RelV y u) (rx:RelV x v) (fy:Qdj y=true) (fx:Qdj x=true):SeqAt.EqAt A s u v (eqV y x):=by
 cases y with
 | non =>
  cases ry
  cases x with
  | non=>cases rx;exact SeqAt.EqAt.same _
  | bl b=>cases rx;exact SeqAt.EqAt.none_bool b
  | int b=>obtain ⟨t,rfl⟩:=rx;exact SeqAt.EqAt.none_int b t
  | str b=>obtain ⟨t,rfl⟩:=rx;exact SeqAt.EqAt.none_str b t
  | _=>exact absurd (show false=true from fx) Bool.false_ne_true
 | bl a =>
  cases ry
  cases x with
  | non=>cases rx;exact SeqAt.EqAt.bool_none a
  | bl b=>cases rx;exact SeqAt.EqAt.bool_bool a b
  | int b=>obtain ⟨t,rfl⟩:=rx;exact SeqAt.EqAt.bool_int a b t
  | str b=>obtain ⟨t,rfl⟩:=rx;exact SeqAt.EqAt.bool_str a b t
  | _=>exact absurd (show false=true from fx) Bool.false_ne_true
 | int a =>
  obtain ⟨t',rfl⟩:=ry
  cases x with
  | non=>cases rx;exact SeqAt.EqAt.int_none a t'
  | bl b=>cases rx;exact SeqAt.EqAt.int_bool a t' b
  | int b=>obtain ⟨t,rfl⟩:=rx;exact SeqAt.EqAt.int_int a t' b t
  | str b=>obtain ⟨t,rfl⟩:=rx;exact SeqAt.EqAt.int_str a t' b t
  | _=>exact absurd (show false=true from fx) Bool.false_ne_true
 | str a =>
  obtain ⟨t',rfl⟩:=ry
  cases x with
  | non=>cases rx;exact SeqAt.EqAt.str_none a t'
  | bl b=>cases rx;exact SeqAt.EqAt.str_bool a t' b
  | int b=>obtain ⟨t,rfl⟩:=rx;exact SeqAt.EqAt.str_int a t' b t
  | str b=>obtain ⟨t,rfl⟩:=rx;exact SeqAt.EqAt.str_str a t' b t
  | _=>exact absurd (show false=true from fx) Bool.false_ne_true
 | _=>exact absurd (show false=true from fy) Bool.false_ne_true
def eqU (x:V) (u:Value):Bool:=match u with
 | .none=>eqV .non x
 | .bool b=>eqV (.bl b) x
 | .int i _=>eqV (.int i) x
 | .str z _=>eqV (.str z) x
 | _=>false
theorem Qr9 {x:V} (r:RelV y u) (f:Qdj y=true):eqU x u=eqV y x:=by
 cases y with
 | non=>cases r;rfl
 | bl b=>cases r;rfl
 | int i=>obtain ⟨t,rfl⟩:=r;rfl
 | str z=>obtain ⟨t,rfl⟩:=r;rfl
 | _=>exact absurd (show false=true from f) Bool.false_ne_true
theorem Qc9 {x:V}:∀{xs:List V} {us:List Value},Vals xs us->xs.all Qdj=true->us.any (eqU x)=xs.any λy=>eqV y x
 | _,_,.nil,_=>rfl
 | y::xs,u::us,.cons r t,f=>by
  rw [List.all_cons,Bool.and_eq_true] at f
  rw [List.any_cons,List.any_cons,Qr9 r f.1,Qc9 t f.2]
theorem Qag {A:Around} {s:Shared} {x:V} {v:Value} (rx:RelV x v) (fx:Qdj x=true):∀{xs:List V} {us:List Value},Vals xs us->xs.all Qdj=true->∀u∈us,SeqAt.EqAt A s u v (eqU x u)
 | _,_,.nil,_=>λu hu=>by cases hu
 | y::xs,u::us,.cons r t,f=>λu' hu=>by
  rw [List.all_cons,Bool.and_eq_true] at f
  rcases List.mem_cons.mp hu with rfl | hu
  ·rw [Qr9 r f.1];exact Qxk r rx f.1 fx
  ·exact Qag rx fx t f.2 u' hu
def inV (x:V) (xs:List V):Bool:=xs.any λy=>eqV y x
def rIn (K:Frag) (neg:Bool):R2:=λx y H Q=>∃p xs,y=.ref p/\(SqL K H p xs\/SqT K H p xs)/\Qdj x=true/\xs.all Qdj=true/\Q (.bl (if neg then !inV x xs else inV x xs)) H
theorem Qmq:OpR X (compareOp .In) (rIn X.K false):=by
 intro pins s σ H x y v u Q I rx ry h
 obtain ⟨p,xs,rfl,hq,fx,fs,q⟩:=h
 cases ry
 rcases hq with hq | hq
 ·obtain ⟨its,r,pl,hz⟩:=I.list hq
  refine SeqAt.in_listAt (eqU x) pl.isList (λw hw=>Qag rx fx r fs w (by simpa using hw)) ⟨.bl _,H,I,rfl,?_⟩
  rw [show its.toArray.any (eqU x)=its.any (eqU x) by simp,Qc9 r fs]
  exact q
 ·obtain ⟨its,r,pl,hz⟩:=I.tuple hq
  refine SeqAt.in_tupleAt (eqU x) pl (λw hw=>Qag rx fx r fs w (by simpa using hw)) ⟨.bl _,H,I,rfl,?_⟩
  rw [show its.toArray.any (eqU x)=its.any (eqU x) by simp,Qc9 r fs]
  exact q
theorem Qf2:OpR X (compareOp .NotIn) (rIn X.K true):=by
 intro pins s σ H x y v u Q I rx ry h
 obtain ⟨p,xs,rfl,hq,fx,fs,q⟩:=h
 cases ry
 rcases hq with hq | hq
 ·obtain ⟨its,r,pl,hz⟩:=I.list hq
  refine SeqAt.notIn_listAt (eqU x) pl.isList (λw hw=>Qag rx fx r fs w (by simpa using hw)) ⟨.bl _,H,I,rfl,?_⟩
  rw [show its.toArray.any (eqU x)=its.any (eqU x) by simp,Qc9 r fs]
  exact q
 ·obtain ⟨its,r,pl,hz⟩:=I.tuple hq
  refine SeqAt.notIn_tupleAt (eqU x) pl (λw hw=>Qag rx fx r fs w (by simpa using hw)) ⟨.bl _,H,I,rfl,?_⟩
  rw [show its.toArray.any (eqU x)=its.any (eqU x) by simp,Qc9 r fs]
  exact q
theorem Qf1:OpR X (compareOp .NotIn) (λx y H Q=>∃i j,x=.str i/\y=.str j/\Q (.bl (!(!(Builtin.Str.occurrences j i 0 j.length 1).isEmpty))) H):=by
 intro pins s σ H x y v u Q I rx ry h
 obtain ⟨i,j,rfl,rfl,q⟩:=h
 obtain ⟨t,rfl⟩:=rx
 obtain ⟨t',rfl⟩:=ry
 exact notIn_str ⟨.bl _,H,I,rfl,q⟩
theorem V0.or {f:Value} {r r':List V->Hp->VK->Prop} (h:V0 X f r) (h':V0 X f r'):V0 X f (λxs H Q=>r xs H Q\/r' xs H Q):=by
 intro pins s σ H xs us Q I rs q
 rcases q with q | q
 ·exact h pins s σ H xs us Q I rs q
 ·exact h' pins s σ H xs us Q I rs q
theorem Qgs:V0 X (.type "list") (λxs H Q=>∃p ys,xs=[.ref p]/\(SqL X.K H p ys\/SqT X.K H p ys)/\∀l,H l=none->Q (.ref l) (upd H l (.lst ys))):=by
 intro pins s σ H xs us Q I r h
 obtain ⟨p,ys,rfl,hq,q⟩:=h
 obtain ⟨u,rfl,rx⟩:=Qal r
 cases rx
 have fin:∀(its:List Value),Vals ys its->ys.length<=sizeLine->∀(h':Heap) (c':Nat),(∀b o',s.heap.get? b=some o'->h'.get? b=some o') ->
   h'.get? s.heap.objs.size=some { cls:=.type "list",dict:=none,data:=.seq its.toArray c',slots:=#[] }->EP X pins σ Q (.ref s.heap.objs.size) { s with heap:=h' }:=λits r' hz h' c' kp e =>
  ⟨.ref s.heap.objs.size,_,I.laid (t':=s.toks) kp (Nat.le_refl _) (show Yz X.prog X.w _ h' _ (.lst ys) from ⟨hz,its,c',r',e⟩),rfl,q _ (I.hok.fresh (Nat.le_refl _))⟩
 rcases hq with hq | hq
 ·obtain ⟨its,r',pl,hz⟩:=I.list hq
  have hlen:=r'.length
  obtain ⟨o,ho,hc,n,hd⟩:=pl.isList
  exact call_list_seq p (.inl rfl) ho hc hd (λh' c' kp e=>fin its r' hz h' c' kp e) (by simp only [List.size_toArray] <;> omega)
 ·obtain ⟨its,r',pl,hz⟩:=I.tuple hq
  have hlen:=r'.length
  obtain ⟨o,ho,hc,n,hd⟩:=pl
  exact call_list_seq p (.inr rfl) ho hc hd (λh' c' kp e=>fin its r' hz h' c' kp e) (by simp only [List.size_toArray] <;> omega)
theorem Qfa:V0 X (.type "tuple") (λxs H Q=>∃p ys,xs=[.ref p]/\((SqL X.K H p ys/\∀l,H l=none->Q (.ref l) (upd H l (.tup ys)))\/(SqT X.K H p ys/\Q (.ref p) H))):=by
 intro pins s σ H xs us Q I r h
 obtain ⟨p,ys,rfl,h⟩:=h
 obtain ⟨u,rfl,rx⟩:=Qal r
 cases rx
 rcases h with ⟨hq,q⟩ | ⟨hq,q⟩
 ·obtain ⟨its,r',pl,hz⟩:=I.list hq
  have hlen:=r'.length
  refine call_tuple_list pl.isList (λh' kp=>?_) (by simp only [List.size_toArray] <;> omega)
  have I1:Inv X pins σ H { s with heap:=h' }:=I.kept (t':=s.toks) kp
  have I2:Inv X pins σ (upd H h'.objs.size (.tup ys)) { s with heap:=h'.push { cls:=.type "tuple",data:=.seq its.toArray } } :=
   I1.laid (t':=s.toks) (λb o e=>Heap.get?_push_of_some _ e) (Nat.le_refl _) (show Yz X.prog X.w _ _ _ (.tup ys) from ⟨hz,its,r',IsTup.new _ _⟩)
  exact ⟨.ref h'.objs.size,_,I2,rfl,q _ (I1.hok.fresh (Nat.le_refl _))⟩
 ·obtain ⟨its,r',pl,hz⟩:=I.tuple hq
  exact call_tuple_same pl ⟨.ref p,H,I,rfl,q⟩
def tyV (K:Frag) (T:String) (x:V) (H:Hp):Prop:=match x with
 | .str _=>T = "str"
 | .int _=>T = "int"
 | .ref p=>(T = "list" /\ ∃xs,SqL K H p xs)\/(T = "tuple" /\ ∃o,K.lookup p=some o/\o.cls=.type "tuple" /\ o.dict=none) \/
   (T = "dict" /\ ((∃kvs,H p=some (.dK kvs))\/∃kvs,H p=some (.dT kvs)))\/(T = "set" /\ ∃S n,H p=some (.set S n))\/∃φ,H p=some (.ext φ)/\∀h,φ h->∃o,h.get? p=some o/\o.cls=.type T/\o.dict=none
 | _=>False
theorem Qq8 {x:V} {v:Value} (I:Inv X pins σ H s) (r:RelV x v) (ty:tyV X.K T x H) :
  s.TypeIs v T/\∀a,v=.ref a->∃ob,s.heap.get? a=some ob/\ob.dict=none:=by
 cases x with
 | str z =>
  obtain ⟨t,rfl⟩:=r
  cases (show T = "str" from ty)
  exact ⟨typeIs_str s z t,λ_ e=>nomatch e⟩
 | int i =>
  obtain ⟨t,rfl⟩:=r
  cases (show T = "int" from ty)
  exact ⟨typeIs_int s i t,λ_ e=>nomatch e⟩
 | ref p =>
  cases r
  rcases ty with ⟨rfl,xs,hq⟩ | ⟨rfl,o,hk,hc,hd⟩ | ⟨rfl,hk⟩ | ⟨rfl,S,n,hk⟩ | ⟨φ,hk,hf⟩
  ·obtain ⟨its,_,pl,_⟩:=I.list hq
   refine ⟨pl.isList.typeIs,λa e=>?_⟩
   cases e
   obtain ⟨o,n,e,c,hd,_⟩:=pl
   exact ⟨o,e,hd⟩
  ·refine ⟨⟨o,I.kIn p o hk,hc⟩,λa e=>?_⟩
   cases e
   exact ⟨o,I.kIn _ o hk,hd⟩
  ·have z:∃o,s.heap.get? p=some o/\o.ExactDict:=by
    rcases hk with ⟨kvs,hk⟩ | ⟨kvs,hk⟩
    ·obtain ⟨_,_,_,_,o,_,_,e,ex,_⟩:=I.hok p _ hk
     exact ⟨o,e,ex⟩
    ·obtain ⟨_,_,_,_,o,_,_,e,ex,_⟩:=I.hok p _ hk
     exact ⟨o,e,ex⟩
   obtain ⟨o,e,ex⟩:=z
   refine ⟨⟨o,e,ex.1⟩,λa e2=>?_⟩
   cases e2
   exact ⟨o,e,ex.2.1⟩
  ·obtain ⟨o,_,_,_,e,ex,_⟩:=I.hok p _ hk
   refine ⟨⟨o,e,ex.1⟩,λa e2=>?_⟩
   cases e2
   exact ⟨o,e,ex.2.1⟩
  ·obtain ⟨h1,_⟩:=I.hok p _ hk
   obtain ⟨o,e,c,d⟩:=hf _ h1
   refine ⟨⟨o,e,c⟩,λa e2=>?_⟩
   cases e2
   exact ⟨o,e,d⟩
 | _=>exact False.elim ty
def tBM (K:Frag) (T:String) (r:V->List V->Hp->VK->Prop) (to:TE) (t:TA):TE:=λσ H Q=>to σ H λx H1=>tyV K T x H1/\t σ H1 λxs H2=>r x xs H2 Q
end
section
variable {o:Expr} {t:TA} {id:String}
theorem Qhp (pa:PlainAttrs T) (slot:Slot T name id) (hty:typeOf (.builtin id)=pure (.type "method_descriptor")) (hm:MtR X id r) (ho:PE X o to) (ha:PA X (e::es) t)
  (hbase:attributeBase o name X.env (eval o X.env)=eval o X.env:=by rfl)
  (hfew:((backTo cpos (starEach (e::es) X.env)).all (λx=>!x.1) && (backToKw cpos (keywordEach [] X.env)).all (λx=>x.1.isSome)
   && decide ((e::es).length+([]:List Keyword).length+(if ([]:List Keyword).isEmpty then 0 else 1)<30))=true:=by rfl)
  (hline:(apos.endLine == cpos.line)=true:=by rfl) (hs:starEach (e::es) X.env=(false,eval e X.env)::starEach es X.env:=by rfl) (hplain:(backTo cpos (starEach es X.env)).any (·.1)=false:=by rfl) :
  PE X (.Call (.Attribute o name apos) (e::es) [] cpos) (tBM X.K T r to t):=by
 intro pins s σ H Q I h
 refine wpAny_Call_method_late hbase hfew hline rfl (thn (ho pins s σ H _ I h) λv s1 ⟨x,H1,I1,r1,ty,q1⟩=>?_)
 obtain ⟨h1,h2⟩:=Qq8 I1 r1 ty
 refine ⟨T,id,pa,slot,hty,h1,h2,?_⟩
 have hA:=ha cpos pins s1 σ H1 _ I1 q1
 rw [hs] at hA ⊢
 refine Calls.callWith_builtin (by show (false || (backTo cpos (starEach es X.env)).any (·.1))=false;rw [hplain] <;> rfl) (Calls.evalArgs_plain ?_)
 exact thn hA λus s2 ⟨vs,H2,I2,r2,q2⟩=>hm pins s2 σ H2 x vs v us Q I2 r1 r2 q2
end
def MtM (X:Cx) (id:String) (r:V->List V->Hp->VK->Prop):Prop :=
 ∀(pins:List (Addr × Obj)) (s:Shared) (σ:St) (H:Hp) (x:V) (xs:List V) (v:Value) (us:List Value) (Q:VK),Inv X pins σ H s->RelV x v->Vals xs us->r x xs H Q ->
  wpAny (model X.prog X.w) X.A (call (.builtin id) (v::us)) (EP X pins σ Q) X.xe s
theorem Vals.one:∀{x:V} {us:List Value},Vals [x] us->∃u,us=[u]/\RelV x u
 | _,_,.cons r .nil=>⟨_,rfl,r⟩
theorem Vals.two:∀{x y:V} {us:List Value},Vals [x,y] us->∃u v,us=[u,v]/\RelV x u/\RelV y v
 | _,_,_,.cons r (.cons q .nil)=>⟨_,_,rfl,r,q⟩
theorem Vals.rep {xs:List V} {us:List Value} (h:Vals xs us):∀k:Nat,Vals (List.replicate k xs).flatten (List.replicate k us).flatten
 | 0=>.nil
 | k+1=>by
  rw [List.replicate_succ,List.replicate_succ,List.flatten_cons,List.flatten_cons]
  exact Vals.append h (Vals.rep h k)
theorem Qgg (its:List Value):∀(k:Nat) (acc:List Value),
  List.foldl (λx1 x2=>x1++x2) acc.toArray (List.replicate k its.toArray)=(acc++(List.replicate k its).flatten).toArray
 | 0,acc=>by simp
 | k+1,acc=>by
  have e:acc.toArray++its.toArray=(acc++its).toArray:=by simp
  have e2:(acc++its)++(List.replicate k its).flatten=acc++(List.replicate (k+1) its).flatten:=by
   rw [List.replicate_succ,List.flatten_cons,List.append_assoc]
  rw [← e2,← Qgg its k (acc++its),← e,List.replicate_succ,List.foldl_cons]
section
variable {l:Addr} {xs:List V}
theorem Inv.lset {its':List Value} {f:Array Value->Array Value} (I:Inv X pins σ H s) (hH:H l=some (.lst xs))
  (e:s.heap.get? l=some { cls:=.type "list",data:=.seq its.toArray n }) (hf:f its.toArray=its'.toArray) (hv:Vals ys its') (hz:ys.length<=sizeLine) :
  Inv X pins σ (upd H l (.lst ys)) { s with heap:=s.heap.update l (Obj.mapSeq f),toks:=t' }:=by
 have q:=PySem.IsL.update e f
 rw [hf] at q
 refine I.write (x:=l) (e:=l) (by rw [hH];exact trivial) (.inl rfl) (λb' u hb hu=>(Heap.get?_update_other s.heap (Obj.mapSeq f) (Ne.symm hb)).trans hu) ⟨_,q⟩ ?_
 exact ⟨hz,its',_,hv,q⟩
theorem Inv.lnew (I:Inv X pins σ H s) (hv:Vals ys its) (hz:ys.length<=sizeLine) :
  Inv X pins σ (upd H s.heap.objs.size (.lst ys)) { s with heap:=s.heap.push { cls:=.type "list",data:=.seq its.toArray },toks:=t' } :=
 I.laid (λ_ _ q=>Heap.get?_push_of_some _ q) (Nat.le_refl _) ⟨hz,its,0,hv,Heap.get?_push_size _ rfl⟩
theorem Inv.fresh (I:Inv X pins σ H s):H s.heap.objs.size=none:=I.hok.fresh (Nat.le_refl _)
theorem Inv.lstM (I:Inv X pins σ H s) (hH:H l=some (.lst xs)):xs.length<=sizeLine/\∃(its:List Value) (n:Nat),Vals xs its/\xs.length=its.length/\s.heap.get? l=some { cls:=.type "list",data:=.seq its.toArray n }:=by
 obtain ⟨z,its,n,r,e⟩:=I.hok l _ hH
 exact ⟨z,its,n,r,r.length,e⟩
theorem Qjf (h:n<=sizeLine):Builtin.List.listTooLong n=false:=by
 unfold Builtin.List.listTooLong
 exact decide_eq_false (by omega)
end
def Ql7:V->List V->Hp->VK->Prop:=λx vs H Q=>∃l xs y,x=.ref l/\vs=[y]/\H l=some (.lst xs)/\xs.length<sizeLine/\Q .non (upd H l (.lst (xs++[y])))
theorem Qcq:MtM X "list.append" Ql7:=by
 intro pins s σ H x vs v us Q I rx rv h
 obtain ⟨l,xs,y,rfl,rfl,hH,hz,q⟩:=h
 cases rx
 obtain ⟨u,rfl,ru⟩:=rv.one
 obtain ⟨z,its,n,r,hl,e⟩:=I.lstM hH
 refine call_meets F.slot_list_append ⟨_,e,rfl⟩ F.entry_list_append (F.args_list_append_2 _ _) (PySem.list_append l its.toArray n u (by rw [List.size_toArray];omega)) ⟨e,?_⟩
 refine ⟨.non,_,I.lset (its':=its++[u]) hH e (by simp) (r.append (.cons ru .nil)) ?_,rfl,q⟩
 rw [List.length_append,List.length_singleton]
 omega
def Qtb:V->List V->Hp->VK->Prop:=λx vs H Q=>∃l b xs zs,x=.ref l/\vs=[.ref b]/\H l=some (.lst xs)/\H b=some (.lst zs)/\xs.length+zs.length<=sizeLine/\Q .non (upd H l (.lst (xs++zs)))
theorem Qm0:MtM X "list.extend" Qtb:=by
 intro pins s σ H x vs v us Q I rx rv h
 obtain ⟨l,b,xs,zs,rfl,rfl,hH,hB,hz,q⟩:=h
 cases rx
 obtain ⟨u,rfl,ru⟩:=rv.one
 cases ru
 obtain ⟨z,its,n,r,hl,e⟩:=I.lstM hH
 obtain ⟨z2,its2,n2,r2,hl2,e2⟩:=I.lstM hB
 have hsz:its.toArray.size+its2.toArray.size<=sizeLine:=by rw [List.size_toArray,List.size_toArray];omega
 have hlong:¬(!its.toArray.isEmpty && Builtin.List.listTooLong (its.toArray.size+its2.toArray.size))=true:=by
  rw [Qjf hsz,Bool.and_false]
  exact Bool.false_ne_true
 refine call_meets F.slot_list_extend ⟨_,e,rfl⟩ F.entry_list_extend (F.args_list_extend_2 _ _)
  (AutoSeq1.list_extend_list_list_0 l its.toArray n b its2.toArray n2 hlong (by rw [List.size_toArray];omega) (by omega)) ⟨e,e2,?_⟩
 refine ⟨.non,_,I.lset (its':=its++its2) hH e (by simp) (r.append r2) ?_,rfl,q⟩
 rw [List.length_append]
 omega
def rCat:R2:=λx y H Q=>∃l b xs zs,x=.ref l/\y=.ref b/\H l=some (.lst xs)/\H b=some (.lst zs)/\xs.length+zs.length<=sizeLine/\∀p,H p=none->Q (.ref p) (upd H p (.lst (xs++zs)))
theorem Qwf:OpR X (binaryOp .Add) rCat:=by
 intro pins s σ H x y v u Q I rx ry h
 obtain ⟨l,b,xs,zs,rfl,rfl,hH,hB,hz,q⟩:=h
 cases rx
 cases ry
 obtain ⟨z,its,n,r,hl,e⟩:=I.lstM hH
 obtain ⟨z2,its2,n2,r2,hl2,e2⟩:=I.lstM hB
 refine PySem.P.add_list e e2 ?_ (by rw [List.size_toArray,List.size_toArray];omega)
 have ea:its.toArray++its2.toArray=(its++its2).toArray:=by simp
 rw [ea]
 exact ⟨.ref _,_,I.lnew (t':=s.toks) (r.append r2) (by rw [List.length_append];omega),rfl,q _ I.fresh⟩
def rRep:R2:=λx y H Q=>∃l k xs,x=.ref l/\y=.int k/\H l=some (.lst xs) /\ -(2 ^ 63)<=k/\k<2 ^ 63/\xs.length*k.toNat<=sizeLine /\
 ∀p,H p=none->Q (.ref p) (upd H p (.lst (List.replicate k.toNat xs).flatten))
theorem Qt0 {α:Type} (xs:List α) (k:Nat):(List.replicate k xs).flatten.length=k*xs.length:=by
 induction k with
 | zero=>simp
 | succ k ih=>rw [List.replicate_succ,List.flatten_cons,List.length_append,ih,Nat.succ_mul,Nat.add_comm]
theorem Qv9:OpR X (binaryOp .Mult) rRep:=by
 intro pins s σ H x y v u Q I rx ry h
 obtain ⟨l,k,xs,rfl,rfl,hH,h1,h2,hz,q⟩:=h
 cases rx
 obtain ⟨t,rfl⟩:=ry
 obtain ⟨z,its,n,r,hl,e⟩:=I.lstM hH
 have hlen:its.toArray.size*k.toNat<=sizeLine:=by rw [List.size_toArray,← hl];exact hz
 have hcap:¬its.toArray.size*k.toNat > (2 ^ 63-1) / 8:=by
  have:(sizeLine:Nat)<=(2 ^ 63-1) / 8:=by decide
  omega
 have hfit:¬(!Builtin.List.listFitsIndex k)=true:=by
  rw [fitsIndex_both h1 h2]
  exact Bool.false_ne_true
 have hlong:¬Builtin.List.listTooLong (its.toArray.size*k.toNat)=true:=by
  rw [Qjf hlen]
  exact Bool.false_ne_true
 have hnew:List.foldl (λx1 x2=>x1++x2) #[] (List.replicate (if its.toArray.isEmpty=true then 0 else k.toNat) its.toArray)=(List.replicate k.toNat its).flatten.toArray:=by
  have f0:∀m:Nat,List.foldl (λx1 x2=>x1++x2) #[] (List.replicate m its.toArray)=(List.replicate m its).flatten.toArray:=λm=>by
   have:=Qgg its m []
   rw [List.nil_append] at this
   exact this
  rw [f0]
  cases its with
  | nil=>simp
  | cons a r'=>rw [if_neg (by simp)]
 refine wpAny_binaryOp_repeat_ref (T:="list") (U:="int") (by decide) ⟨_,e,rfl⟩ (λs'=>typeIs_int s' k t) noFill_list_mul F.fills_int_mul F.slot_int_rmul repeat_list F.slot_int_index.lookup
  (call_meets F.slot_int_rmul (typeIs_int s k t) F.entry_int_rmul (F.args_int_rmul_2 _ _) (int___rmul___int_list k t l its.toArray n)
   ⟨e,rfl,⟨_,e,rfl⟩,call_meets F.slot_list_mul ⟨_,e,rfl⟩ F.entry_list_mul (F.args_list_mul_2 _ _) (AutoListH.list___mul___list_int_3 l its.toArray n k t hfit hcap hlong) ⟨e,?_⟩⟩)
 rw [hnew]
 exact ⟨.ref _,_,I.lnew (t':=s.toks) (r.rep k.toNat) (by rw [Qt0,Nat.mul_comm];exact hz),rfl,q _ I.fresh⟩
section
variable {κ:Type} [DecidableEq κ]
def valV (kvs:List (κ × V)) (k:κ):Option V:=(kvs.find? λkv=>decide (kv.1=k)).map (·.2)
def putK (kvs:List (κ × V)) (k:κ) (v:V):List (κ × V) :=
 if (kvs.any λkv=>decide (kv.1=k))=true then kvs.map (λkv=>if kv.1=k then (kv.1,v) else kv) else kvs++[(k,v)]
theorem Yw {p:κ × V} {r:List (κ × V)} {k:κ} (e:p.1=k):valV (p::r) k=some p.2:=by simp [valV,List.find?_cons,e]
theorem Yx {p:κ × V} {r:List (κ × V)} {k:κ} (e:¬p.1=k):valV (p::r) k=valV r k:=by simp [valV,List.find?_cons,e]
theorem X5 (k:κ):∀kvs:List (κ × V),(kvs.any λkv=>decide (kv.1=k))=(valV kvs k).isSome
 | []=>rfl
 | p::r=>by
  rw [List.any_cons]
  by_cases e:p.1=k
  ·simp only [Yw e,decide_eq_true e,Bool.true_or,Option.isSome_some]
  ·rw [Yx e,decide_eq_false e,Bool.false_or];exact X5 k r
theorem Qis (k j:κ) (y:V):∀kvs:List (κ × V),valV (kvs.map λkv=>if kv.1=k then (kv.1,y) else kv) j=(valV kvs j).map λx=>if j=k then y else x
 | []=>rfl
 | p::r=>by
  have ih:=Qis k j y r
  rw [List.map_cons]
  by_cases h:p.1=k
  ·rw [if_pos h]
   by_cases e:p.1=j
   ·rw [Yw (p:=(p.1,y)) e,Yw e,Option.map_some,if_pos (e.symm.trans h)]
   ·rw [Yx (p:=(p.1,y)) e,Yx e,ih]
  ·rw [if_neg h]
   by_cases e:p.1=j
   ·rw [Yw (p:=p) e,Yw e,Option.map_some,if_neg (λz=>h (e.trans z))]
   ·rw [Yx (p:=p) e,Yx e,ih]
theorem Qfl (k j:κ) (y:V):∀kvs:List (κ × V),valV kvs k=none->valV (kvs++[(k,y)]) j=if j=k then some y else valV kvs j
 | [],_=>by
  by_cases e:k=j
  ·rw [if_pos e.symm];exact Yw (p:=(k,y)) e
  ·rw [if_neg (λz=>e z.symm)];exact Yx (p:=(k,y)) e
 | p::r,hn=>by
  rw [List.cons_append]
  have hk:¬p.1=k:=λz=>by rw [Yw z] at hn;cases hn
  rw [Yx hk] at hn
  have ih:=Qfl k j y r hn
  by_cases e:p.1=j
  ·rw [Yw e,Yw e,if_neg (λz=>hk (e.trans z))]
  ·rw [Yx e,Yx e,ih]
theorem Qo5 (kvs:List (κ × V)) (k j:κ) (y:V):valV (putK kvs k y) j=if j=k then some y else valV kvs j:=by
 unfold putK
 by_cases a:(kvs.any λkv=>decide (kv.1=k))=true
 ·rw [if_pos a,Qis]
  rw [X5] at a
  by_cases e:j=k
  ·obtain ⟨x,hx⟩:=Option.isSome_iff_exists.mp a
   rw [if_pos e,e,hx,Option.map_some,if_pos rfl]
  ·rw [if_neg e]
   cases valV kvs j with
   | none=>rfl
   | some x=>rw [Option.map_some,if_neg e]
 ·rw [if_neg a]
  refine Qfl k j y kvs ?_
  rw [X5] at a
  cases q:valV kvs k with
  | none=>rfl
  | some x=>rw [q] at a;exact (a rfl).elim
theorem Xr (kvs:List (κ × V)) (k:κ) (v:V):(putK kvs k v).length<=kvs.length+1:=by
 unfold putK
 split
 ·rw [List.length_map];omega
 ·rw [List.length_append,List.length_cons,List.length_nil];omega
theorem Qpg {kvs:List (κ × V)} {k:κ} (v:V) (h:valV kvs k=none):putK kvs k v=kvs++[(k,v)]:=by
 unfold putK
 rw [X5,h]
 exact if_neg (by decide)
theorem RelO.isSome_eq {u:Option Value} (r:RelO o u):o.isSome=u.isSome:=by
 cases o with
 | none=>cases u with
  | none=>rfl
  | some _=>exact (show False from r).elim
 | some _=>cases u with
  | none=>exact (show False from r).elim
  | some _=>rfl
theorem KV.val {kvs:List (κ × V)} {vs:List (κ × Value)} (r:KV kvs vs) (k:κ):RelO (valV kvs k) (valueAt vs k):=by
 unfold KV at r
 induction r with
 | nil=>exact True.intro
 | @cons p q ps qs h t ih =>
  obtain ⟨h1,h2⟩:=h
  by_cases e:p.1=k
  ·have e':q.1=k:=h1.symm.trans e
   have b:valueAt (q::qs) k=some q.2:=by simp [valueAt,List.find?_cons,e']
   rw [Yw e,b];exact h2
  ·have e':¬q.1=k:=λz=>e (h1.trans z)
   have b:valueAt (q::qs) k=valueAt qs k:=by simp [valueAt,List.find?_cons,e']
   rw [Yx e,b];exact ih
theorem KV.any {kvs:List (κ × V)} {vs:List (κ × Value)} (r:KV kvs vs) (k:κ):(kvs.any λkv=>decide (kv.1=k))=vs.any λkv=>decide (kv.1=k):=by
 unfold KV at r
 induction r with
 | nil=>rfl
 | cons h t ih=>rw [List.any_cons,List.any_cons,ih,h.1]
theorem KV.repl {kvs:List (κ × V)} {vs:List (κ × Value)} (r:KV kvs vs) (k:κ) (ry:RelV y u) :
  KV (kvs.map λkv=>if kv.1=k then (kv.1,y) else kv) (vs.map λkv=>if kv.1=k then (kv.1,u) else kv):=by
 unfold KV at r ⊢
 induction r with
 | nil=>exact .nil
 | @cons p q ps qs h t ih =>
  rw [List.map_cons,List.map_cons]
  refine .cons ?_ ih
  obtain ⟨h1,h2⟩:=h
  by_cases e:p.1=k
  ·rw [if_pos e,if_pos (h1.symm.trans e)];exact ⟨h1,ry⟩
  ·rw [if_neg e,if_neg (λz=>e (h1.trans z))];exact ⟨h1,h2⟩
theorem KV.put {kvs:List (κ × V)} {vs:List (κ × Value)} (r:KV kvs vs) (k:κ) (ry:RelV y u):KV (putK kvs k y) (stored vs k u):=by
 unfold putK stored
 rw [r.any k]
 by_cases e:(vs.any λkv=>decide (kv.1=k))=true
 ·rw [if_pos e,if_pos e];exact r.repl k ry
 ·rw [if_neg e,if_neg e];exact Paired.snoc r ⟨rfl,ry⟩
theorem KV.length {kvs:List (κ × V)} {vs:List (κ × Value)} (r:KV kvs vs):kvs.length=vs.length:=Paired.length r
end
theorem Qku {k:Key} (r:RelV (kV k) u):(Ym P w).is k u=true:=by
 cases k with
 | inl i=>obtain ⟨t,e⟩:=(show ∃t,u=Value.int i t from r);subst e;exact Qh1 P w i t
 | inr x=>obtain ⟨t,e⟩:=(show ∃t,u=Value.str x t from r);subst e;exact Qh0 P w x t
theorem Qgc {P:Program} {w:World}:∀{ks:List Key} {us:List Value},Vals (ks.map kV) us->ItemsAre (Ym P w) ks us
 | [],_,r=>by rw [List.map_nil] at r;cases r;exact .nil
 | k::ks,_,r=>by
  rw [List.map_cons] at r
  cases r with
  | cons h t=>exact .cons (Qku h) (Qgc t)
abbrev KT (H:Hp):List (List Key × V)->List (List Key × Addr × Value)->Prop:=Paired λp q=>p.1=q.1/\H q.2.1=some (.tup (p.1.map kV))/\RelV p.2 q.2.2
theorem KT.val (r:KT H kvs xs) (k:List Key):RelO (valV kvs k) ((atKey xs k).map (·.2)):=by
 induction r with
 | nil=>exact True.intro
 | @cons p q ps qs h t ih =>
  obtain ⟨h1,_,h2⟩:=h
  by_cases e:p.1=k
  ·have e':q.1=k:=h1.symm.trans e
   have b:atKey (q::qs) k=some q.2:=by simp [atKey,List.find?_cons,e']
   rw [Yw e,b];exact h2
  ·have e':¬q.1=k:=λz=>e (h1.trans z)
   have b:atKey (q::qs) k=atKey qs k:=by simp [atKey,List.find?_cons,e']
   rw [Yx e,b];exact ih
theorem KT.repl (r:KT H kvs xs) (k:List Key) (ry:RelV y u) :
  KT H (kvs.map λkv=>if kv.1=k then (kv.1,y) else kv) (xs.map (putAt k u)):=by
 induction r with
 | nil=>exact .nil
 | @cons p q ps qs h t ih =>
  rw [List.map_cons,List.map_cons]
  refine .cons ?_ ih
  obtain ⟨h1,h2,h3⟩:=h
  unfold putAt
  by_cases e:p.1=k
  ·rw [if_pos e,if_pos (h1.symm.trans e)];exact ⟨h1,h2,ry⟩
  ·rw [if_neg e,if_neg (λz=>e (h1.trans z))];exact ⟨h1,h2,h3⟩
theorem KT.put (r:KT H kvs xs) (k:List Key) (hb:H b=some (.tup (k.map kV))) (ry:RelV y u) :
  KT H (putK kvs k y) (storedH xs k b u):=by
 have e:(kvs.any λkv=>decide (kv.1=k))=(atKey xs k).isSome:=by
  rw [X5,(r.val k).isSome_eq,Option.isSome_map]
 unfold putK storedH
 rw [e]
 by_cases q:(atKey xs k).isSome=true
 ·rw [if_pos q,if_pos q];exact r.repl k ry
 ·rw [if_neg q,if_neg q];exact Paired.snoc r ⟨rfl,hb,ry⟩
theorem KT.keeps (r:KT H kvs xs) (ht:∀b ys,H b=some (.tup ys)->H' b=some (.tup ys)):KT H' kvs xs :=
 Paired.mapP r λ_ _ z=>⟨z.1,ht _ _ z.2.1,z.2.2⟩
theorem Qvj {u:HO} (ok:HOk P w H h) (e:Rd H a u):Yz P w H h a u:=e.ok ok
theorem Qk3 {kvs:List (Key × V)} (ok:HOk P w H h) (e:Rd H a (.dK kvs)):kvs.length<=sizeLine/\(a == sysModules)=false/\∃vs,KV kvs vs/\h.DictOf (Ym P w) a vs :=
 show Yz P w H h a (.dK kvs) from Qvj ok e
theorem Quk {kvs:List (Key × V)} (ok:HOk P w H h) (e:H a=some (.dK kvs)):kvs.length<=sizeLine/\(a == sysModules)=false/\∃vs,KV kvs vs/\h.DictOf (Ym P w) a vs:=Qk3 ok (.inl e)
theorem Qga {ks:List Key} (ok:HOk P w H h) (e:H a=some (.tup (ks.map kV))):(tupleKind (Ym P w)).is h ks a:=by
 obtain ⟨_,its,r,o,h1,h2,n,h3⟩:=(show Yz P w H h a (.tup (ks.map kV)) from ok a _ e)
 exact ⟨o,its.toArray,n,h1,h2,h3,by simpa using Qgc r⟩
theorem Qn5 (ok:HOk P w H h) (e:Rd H a (.dT kvs)):kvs.length<=sizeLine/\(a == sysModules)=false /\
  ∃xs,KT H kvs xs/\h.DictOfH (tupleKind (Ym P w)) a xs:=by
 obtain ⟨z,y,xs,r,o,es,ep,h1,h2,h3,h4,h5⟩:=(show Yz P w H h a (.dT kvs) from Qvj ok e)
 refine ⟨z,y,xs,r,o,es,ep,h1,h2,h3,h4,λx hx=>?_,h5⟩
 have all:∀{l:List (List Key × V)} {m:List (List Key × Addr × Value)},KT H l m->∀x∈m,(tupleKind (Ym P w)).is h x.1 x.2.1:=by
  intro l m q
  induction q with
  | nil=>intro x hx;exact nomatch hx
  | @cons p q ps qs hq t ih =>
   intro x hx
   rcases List.mem_cons.mp hx with e | hx
   ·subst e
    exact Qga ok (by rw [← hq.1];exact hq.2.1)
   ·exact ih x hx
 exact all r x hx
theorem Qy8 (ok:HOk P w H h) (e:H a=some (.dT kvs)):kvs.length<=sizeLine/\(a == sysModules)=false /\
  ∃xs,KT H kvs xs/\h.DictOfH (tupleKind (Ym P w)) a xs:=Qn5 ok (.inl e)
def DGet (H:Hp) (a:Addr) (y:V) (r:Option V):Prop :=
 (∃kvs k,Rd H a (.dK kvs)/\y=kV k/\r=valV kvs k)\/∃kvs k b,Rd H a (.dT kvs)/\y=.ref b/\H b=some (.tup (k.map kV))/\r=valV kvs k
def DPut (H:Hp) (a:Addr) (y v:V) (H':Hp):Prop :=
 (∃kvs k,H a=some (.dK kvs)/\y=kV k/\kvs.length<sizeLine/\H'=upd H a (.dK (putK kvs k v))) \/
 ∃kvs k b,H a=some (.dT kvs)/\y=.ref b/\H b=some (.tup (k.map kV))/\kvs.length<sizeLine/\H'=upd H a (.dT (putK kvs k v))
theorem DGet.k {H:Hp} {a:Addr} {kvs:List (Key × V)} {k:Key} (e:H a=some (.dK kvs)):DGet H a (kV k) (valV kvs k):=.inl ⟨kvs,k,.inl e,rfl,rfl⟩
theorem DGet.t {k:List Key} (e:H a=some (.dT kvs)) (eb:H b=some (.tup (k.map kV))):DGet H a (.ref b) (valV kvs k):=.inr ⟨kvs,k,b,.inl e,rfl,eb,rfl⟩
theorem DPut.k {H:Hp} {a:Addr} {kvs:List (Key × V)} {k:Key} {v:V} (e:H a=some (.dK kvs)) (hl:kvs.length<sizeLine):DPut H a (kV k) v (upd H a (.dK (putK kvs k v))):=.inl ⟨kvs,k,e,rfl,hl,rfl⟩
theorem DPut.t {k:List Key} (e:H a=some (.dT kvs)) (eb:H b=some (.tup (k.map kV))) (hl:kvs.length<sizeLine) :
  DPut H a (.ref b) v (upd H a (.dT (putK kvs k v))):=.inr ⟨kvs,k,b,e,rfl,eb,hl,rfl⟩
section
variable {r:Value}
theorem Inv.big (I:Inv X pins σ H s):sysModules<s.heap.objs.size:=by
 have h:mainGlobals<s.heap.objs.size:=(I.mod.glob.keeps I.bk).lt
 exact Nat.lt_trans (by decide) h
theorem Qob (hu:A.units+1<cLine) (I:Inv X pins σ H s) (g:DGet H a y (some v)) (ry:RelV y u) (h:∀w' s',Inv X pins σ H s'->RelV v w'->Q w' s') :
  wpAny (model X.prog X.w) A (getItem (.ref a) u) Q E s:=by
 rcases g with ⟨kvs,k,e,ey,l⟩ | ⟨kvs,k,b,e,ey,eb,l⟩
 ·subst ey
  obtain ⟨z,hd,vs,rel,dd⟩:=Qk3 I.hok e
  obtain ⟨w',hw,rw'⟩:=RelO.some_of (v:=v) (o:=valueAt vs k) (by rw [l];exact rel.val k)
  exact wpAny_getItem_of (Qku ry) dd.mapOf hw (h w' _ (I.tok _) rw')
 ·subst ey
  cases (show u=Value.ref b from ry)
  obtain ⟨z,hd,xs,rel,dd⟩:=Qn5 I.hok e
  obtain ⟨w',hw,rw'⟩:=RelO.some_of (v:=v) (o:=(atKey xs k).map (·.2)) (by rw [l];exact rel.val k)
  obtain ⟨p,hp,hp2⟩:=Option.map_eq_some_iff.mp hw
  refine wpAny_getItem_heap (tupleKind_room_in1 hu) (Qga I.hok eb) dd hp ?_
  rw [hp2]
  exact h w' _ (I.tok _) rw'
theorem d_in (hu:A.units+1<cLine) (I:Inv X pins σ H s) (g:DGet H a y o) (ry:RelV y u) (h:∀s',Inv X pins σ H s'->Q (.bool o.isSome) s') :
  wpAny (model X.prog X.w) A (compareOp .In u (.ref a)) Q E s:=by
 rcases g with ⟨kvs,k,e,ey,l⟩ | ⟨kvs,k,b,e,ey,eb,l⟩
 ·subst ey
  obtain ⟨z,hd,vs,rel,dd⟩:=Qk3 I.hok e
  refine wpAny_in_of (Qku ry) hd dd.mapOf ?_
  rw [← (rel.val k).isSome_eq,← l]
  exact h _ (I.tok _)
 ·subst ey
  cases (show u=Value.ref b from ry)
  obtain ⟨z,hd,xs,rel,dd⟩:=Qn5 I.hok e
  refine wpAny_in_heap (tupleKind_room_in1 hu) (Qga I.hok eb) hd dd ?_
  have q:=(rel.val k).isSome_eq
  rw [Option.isSome_map] at q
  rw [← q,← l]
  exact h _ (I.tok _)
theorem Qum (hu:A.units+1<cLine) (I:Inv X pins σ H s) (g:DGet H a y o) (ry:RelV y u) (h:∀s',Inv X pins σ H s'->Q (.bool (!o.isSome)) s') :
  wpAny (model X.prog X.w) A (compareOp .NotIn u (.ref a)) Q E s:=by
 rcases g with ⟨kvs,k,e,ey,l⟩ | ⟨kvs,k,b,e,ey,eb,l⟩
 ·subst ey
  obtain ⟨z,hd,vs,rel,dd⟩:=Qk3 I.hok e
  refine wpAny_notIn_of (Qku ry) hd dd.mapOf ?_
  rw [← (rel.val k).isSome_eq,← l]
  exact h _ (I.tok _)
 ·subst ey
  cases (show u=Value.ref b from ry)
  obtain ⟨z,hd,xs,rel,dd⟩:=Qn5 I.hok e
  refine wpAny_notIn_heap (tupleKind_room_in1 hu) (Qga I.hok eb) hd dd ?_
  have q:=(rel.val k).isSome_eq
  rw [Option.isSome_map] at q
  rw [← q,← l]
  exact h _ (I.tok _)
theorem Qh9 (I:Inv X pins σ H s) (mu:Mut (H a)) (hs:Heap.SameBut a s.heap h') (he:∃q,h'.get? a=some q) (new:Yz X.prog X.w (upd H a ob) h' a ob) :
  Inv X pins σ (upd H a ob) { s with heap:=h',toks:=t' } :=
 I.write (x:=a) (e:=a) mu (.inl rfl) (λb q hb z=>(hs.2 b hb).trans z) he new
theorem Qsb {kvs:List (Key × V)} {vs:List (Key × Value)} (z:kvs.length<=sizeLine) (hd:(a == sysModules)=false) (rel:KV kvs vs) (dd:h'.DictOf (Ym P w) a vs) :
  Yz P w H' h' a (.dK kvs):=⟨z,hd,vs,rel,dd⟩
theorem Qoa {Q:Unit->Shared->Prop} (hu:A.units+1<cLine) (I:Inv X pins σ H s) (g:DPut H a y v H') (ry:RelV y u) (rv:RelV v r) (h:∀s',Inv X pins σ H' s'->Q () s') :
  wpAny (model X.prog X.w) A (setItem (.ref a) u r) Q E s:=by
 rcases g with ⟨kvs,k,e,ey,l,eH⟩ | ⟨kvs,k,b,e,ey,eb,l,eH⟩
 ·subst ey eH
  obtain ⟨z,hd,vs,rel,dd⟩:=Quk I.hok e
  have hz:vs.length<=sizeLine:=by rw [← rel.length];exact z
  have hl:(putK kvs k v).length<=sizeLine:=by have:=Xr kvs k v;omega
  refine wpAny_setItem_pairs (hsz:=hz) (Qku ry) dd λh' dd' hs=>h _ ?_
  have he:∃q,h'.get? a=some q:=let ⟨q,_,_,hq,_⟩:=dd';⟨q,hq⟩
  exact Qh9 I (by rw [e];exact True.intro) hs he (Qsb hl hd (rel.put k rv) dd')
 ·subst ey eH
  cases (show u=Value.ref b from ry)
  obtain ⟨z,hd,xs,rel,dd⟩:=Qy8 I.hok e
  have hz:xs.length<=sizeLine:=by rw [← Paired.length rel];exact z
  have hl:(putK kvs k v).length<=sizeLine:=by have:=Xr kvs k v;omega
  refine wpAny_setItem_heap (hsz:=hz) (tupleKind_room_in1 hu) (Qga I.hok eb) dd λh' dd' hs=>h _ ?_
  obtain ⟨q,es,ep,hq,h2,h3,h4,_,h5⟩:=dd'
  refine Qh9 I (by rw [e];exact True.intro) hs ⟨q,hq⟩ ⟨hl,hd,_,(rel.put k eb rv).keeps λc ys ec=>?_,q,es,ep,hq,h2,h3,h4,h5⟩
  rw [Qm (Qyv ec e (λz=>nomatch z))]
  exact ec
end
section
variable {kvs:List (Key × V)}
theorem Qza (I:Inv X pins σ H s) (e:Rd H a (.dK kvs)) (h:∀t s',Inv X pins σ H s'->Q (.int kvs.length t) s'):wpAny (model X.prog X.w) A (call (.builtin "len") [.ref a]) Q E s:=by
 obtain ⟨z,hd,vs,rel,dd⟩:=Qk3 I.hok e
 refine call_len_dict hd dd (by rw [← rel.length];rw [sizeLine_eq] at z;omega) ?_
 rw [← rel.length]
 exact h _ _ (I.tok _)
end
theorem Qh8 (I:Inv X pins σ H s) (g:DGet H a y o):s.TypeIs (.ref a) "dict":=by
 rcases g with ⟨kvs,k,e,_,_⟩ | ⟨kvs,k,b,e,_,_,_⟩
 ·obtain ⟨_,_,vs,_,dd⟩:=Qk3 I.hok e
  exact dd.typeIs
 ·obtain ⟨_,_,xs,_,dd⟩:=Qn5 I.hok e
  exact dd.typeIs
theorem Qql (h:Heap) (hb:sysModules<h.objs.size):Yz P w H (h.push { cls:=.type "dict",data:=.dict #[] }) h.objs.size (.dK []) :=
 ⟨Nat.zero_le _,beq_eq_false_iff_ne.mpr (Ne.symm (Nat.ne_of_lt hb)),[],.nil,Heap.DictOf.new h⟩
def Qu4:TE:=λ_ H Q=>∀p,H p=none->Q (.ref p) (upd H p (.dK []))
theorem Qpr:PE X (.Dict [] [] pos) Qu4:=λpins s σ H Q I h =>
 wpAny_Dict_empty ⟨.ref s.heap.objs.size,_,I.laid (a:=s.heap.objs.size) (o:=.dK []) (t':=s.toks) (λ_ _ q=>Heap.get?_push_of_some _ q) (Nat.le_refl _) (Qql s.heap I.big),rfl,h _ (I.hok.fresh (Nat.le_refl _))⟩
end L2
variable {q:PySem.Program} {loose:List PySem.Str} {XP:(PySem.Str->Option PySem.Value)->PySem.Heap->Prop} {YP:PySem.World->PySem.Heap->Prop} {d:PySem.DefRec}
namespace Att
open PySem PySem.W PySem.Calls PyProof.Rows
theorem Qcx {P:Params}:∀(ns:List Int) (vs:List Value),WellAll P h vs (ns.map WData.int)->IntsAre vs ns:=by
 intro ns
 induction ns with
 | nil =>
  intro vs w
  rw [List.map_nil] at w
  cases w
  exact .nil
 | cons n ns ih =>
  intro vs w
  rw [List.map_cons] at w
  cases w with
  | cons a b =>
   cases a
   exact .cons _ _ (ih _ b)
theorem Qlv (hn:l.most=some n) {P:Params} {args:List WData} {vals:List Value}
  (hpre:l.row.toRowW.claim.pre args=true) (hwl:WellAll P h vals args) :
  ∃a vs ns,vals=[Value.ref a]/\args=[WData.list (ns.map WData.int)]/\h.get? a=some { cls:=.type "list",data:=.seq vs.toArray }/\IntsAre vs ns/\ns.length<=n:=by
 have hsh:WShape.hasAll [] args [.list .int]=true:=(pre_splitW hpre).1
 have hc:l.pre.holds [] { args:=args }=true:=(pre_splitW hpre).2
 obtain ⟨d,r,rfl,h1,h2⟩:=hasAllW_cons hsh
 obtain rfl:=hasAllW_nil h2
 obtain ⟨xs,rfl,h3⟩:=hasW_list h1
 obtain ⟨ns,rfl⟩:=items_int h3
 have hlen:ns.length<=n:=by
  unfold OpenLaw.pre at hc
  have h4:(WTm.not (.lt (.lit (.int (n:Int))) (.len (.arg 0)))).holds [] { args:=[.list (ns.map .int)] }=true:=by
   have h4:=(holds_andW hc).1
   rw [hn] at h4
   exact h4
  have h5:=condW_of h4 (w_not (w_lt w_lit (w_len_list (w_arg rfl))))
  rw [List.length_map] at h5
  refine Nat.le_of_not_lt λq=>?_
  have q':(n:Int)<((ns.length:Nat):Int):=by omega
  first
   | (rw [decide_eq_true q'] at h5;exact absurd h5 (by decide))
   | (simp at h5;omega)
 cases hwl with
 | cons w1 w2 =>
  cases w2
  cases w1 with
  | list ho hall=>exact ⟨_,_,ns,rfl,rfl,ho,Qcx ns _ hall,hlen⟩
theorem Qme (l:OpenLaw) (args:List WData):l.row.toRowW.claim.post args (.bool true) args=true :=
 postW_of (r:=l.row.toRowW) (X:=(true == true))
  (show WShape.has [] (.bool true) .bool=true by first | rfl | decide | simp [WShape.has,WShape.arms,WShape.armsAll])
  (show (WTm.eq .res (.lit (.bool true))).value [] { args:=args,res:=some (.bool true),after:=args }=some (.bool (true == true)) from w_eq_bool (w_res rfl) w_lit) rfl
theorem Qij
  (hn:l.most=some n) (hdf:d.params.defaults=[])
  (call:∀(w:World) (s₀ s₁:Shared) (mg mb:Str->Option Value) (fa:Addr) (o:Obj) (pm cd doc:Value) (a:Addr) (vs:List Value) (ns:List Int),
   Ground q loose [] XP w s₀ mg mb s₁.heap->YP w s₁.heap ->
   s₁.heap.get? fa=some o->o.data=.func (docDef d.name d.params d.body d.scope pm cd doc)->s₁.heap.CodeRec cd d.name->mg d.name=some (.ref fa) ->
   s₁.heap.get? a=some { cls:=.type "list",data:=.seq vs.toArray }->IntsAre vs ns->ns.length<=n->s₁.gens = #[] ->
   codeAny (model l.prog w) callerA (.call (.ref fa) ⟨[.ref a],[]⟩) (λr s'=>r=.ok (.ret (.bool true))/\OldK s₁.heap s'.heap/\s'.os=s₁.os/\AllBare s'.gens) s₁) :
  WalkO q loose XP YP l.row.toRowW d [] (λf vs=>PySem.call f vs):=by
 intro w s₀ s₁ mg mb G Y fa o pm cd doc dV kV ho hd hcd hD hmg hg args vals as hpre hlay hrd hwl hlo
 obtain rfl:dV=.none:=Dflts.none hD hdf
 obtain rfl:kV=.none:=Dflts.noKw hD
 obtain ⟨a,vs,ns,rfl,rfl,hobj,hints,hlen⟩:=Qlv hn hpre hwl
 refine enter_call (codeAny_mono (call w s₀ s₁ mg mb fa o pm cd doc a vs ns G Y ho (fd_plain hd) hcd hmg hobj hints hlen hg) λr s' hq=>?_)
 obtain ⟨rfl,h2,h3,h4⟩:=hq
 exact ⟨.inl ⟨.bool true,.bool true,[],rfl,λ_=>rfl,.bool true,Qme l _,λ_=>⟨List.Pairwise.nil,λ_ hm=>(nomatch hm)⟩⟩,h2,h3,h4⟩
end Att
variable {o:L2.HO} {i k kt:Nat} {t fa:PySem.Addr} {y:PySem.Str} {ta:L2.TA} {tt:L2.TT} {cl:List (PySem.Str × PySem.Addr)} {elt:PySem.Expr} {ifs:List PySem.Expr} {ts:List PySem.Str} {gt:L2.TG} {ix:List Nat} {J:L2.It} {tn:Nat->PySem.Heap->Prop} {RR:PySem.Value->PySem.Addr->PySem.Result->PySem.Shared->Prop} {G:List L2.V->L2.Hp->Prop} {px py spos pt:PySem.Pos}
namespace L2
open PySem PySem.Spec PyProof.Rows
theorem Qfk:∀{vs:List Value} {ns:List Int},IntsAre vs ns->Vals (ns.map V.int) vs
 | _,_,.nil=>.nil
 | _,_,.cons n t h=>.cons ⟨t,rfl⟩ (Qfk h)
def Only (H:Hp):Prop:=∀b,H b=none\/∃o xs,H b=some (.frz o (.lst xs))
theorem Qp3 {mb:Str->Option Value} {sp:Sp} {s₁:Shared}
  (KX:K.In s₁.heap) (hns:s₁.heap.Ns mainGlobals mg) (hb:s₁.heap.Ns builtinsNs mb) (hbb:∀x:Str,x ≠ "__name__" -> mb x=bootBuiltins x) (hlim:s₁.heap.NoLimit) (hg:s₁.gens = #[])
  (ha:s₁.heap.get? a=some { cls:=.type "list",data:=.seq vs.toArray }) (hi:IntsAre vs ns) (hl:ns.length<=sizeLine) (hr:Room k callerA)
  (F:∀base:Heap,K.In base->base.Ns mainGlobals mg->FnOk P w K mg base CX k fa fd [x] sp) (hbind:∀(s:Shared) (u:Value),BindsTo s fd ⟨[u],[]⟩ [(x,u)])
  (hsp:∀H:Hp,Only H->SqL K H a (ns.map V.int)->sp [.ref a] H (λv _=>v=.bl true) λ_ _ _=>False)
  (hCX:∀H e s',CX [] H s₁ (λ_ _ _=>False) e s'->False) :
  codeAny (model P w) callerA (.call (.ref fa) ⟨[.ref a],[]⟩) (λr s'=>r=.ok (.ret (.bool true))/\OldK s₁.heap s'.heap/\s'.os=s₁.os/\AllBare s'.gens) s₁:=by
 have rv:=Qfk hi
 have lenV:=hi.length
 -- from an abstract heap in which nothing but the script may be tracked
 have core:∀H:Hp,Only H->SqL K H a (ns.map V.int)->HOk P w H s₁.heap->(∀b,H b≠none->b=a)->(H a≠none->K.lookup a=none) ->
   codeAny (model P w) callerA (.call (.ref fa) ⟨[.ref a],[]⟩) (λr s'=>r=.ok (.ret (.bool true))/\OldK s₁.heap s'.heap/\s'.os=s₁.os/\AllBare s'.gens) s₁:=by
  intro H hO hS hok hA hK
  have base_of:∀{b:Addr} {o:Obj},s₁.heap.get? b=some o->H b=none->(hidT s₁.heap H).get? b=some o:=λe n=>Qqc e n
  have noA:∀{b:Addr} {o:Obj} {es:Array DictEntry} {ep:Nat},s₁.heap.get? b=some o->o.data=.dict es ep->H b=none:=λ{b o es ep} e d=>by
   cases q:H b with
   | none=>rfl
   | some u =>
    have e':b=a:=hA b (by rw [q];simp)
    subst e'
    rw [ha] at e;cases e
    have d':Data.seq vs.toArray _=Data.dict es ep:=d
    cases d'
  have nsK:∀{b:Addr} {m:Str->Option Value},s₁.heap.Ns b m->(hidT s₁.heap H).Ns b m:=λ{b m} ⟨o,es,ep,e,d,r⟩=>⟨o,es,ep,base_of e (noA e d),d,r⟩
  have hKb:K.In (hidT s₁.heap H):=λb o e=>base_of (KX b o e) (by
   cases q:H b with
   | none=>rfl
   | some u =>
    have e':b=a:=hA b (by rw [q];simp)
    subst e'
    rw [hK (by rw [q];simp)] at e;cases e)
  have hM:Mod K mg (hidT s₁.heap H):=⟨hKb,nsK hns,⟨mb,nsK hb,hbb⟩,let ⟨mc,h1,h2⟩:=hlim;⟨mc,nsK h1,h2⟩⟩
  have e0:Env0 P w K mg (hidT s₁.heap H) callerA [] s₁ H:=⟨rfl,hM,λb o e=>Qty e,Nat.le_of_eq (Qnl _ _),trivial,λb hb=>absurd (show b∈([]:List Addr) from hb) (by simp),hok,.of_eq hg⟩
  refine codeAny_mono ((F _ hKb (nsK hns)).run callerA [] s₁ H ⟨[.ref a],[]⟩ [.ref a] [.ref a] _ _ hr e0 (hbind s₁ (.ref a)) (.cons rfl .nil) (hsp H hO hS)) λr s' h=>?_
  cases r with
  | error e=>exact (hCX H e s' h).elim
  | ok fl =>
   cases fl with
   | next=>exact False.elim h
   | brk=>exact False.elim h
   | cont=>exact False.elim h
   | ret u =>
    obtain ⟨v,H',os,bare,un,hok',r',q⟩:=h
    have q':v=.bl true:=q
    subst q'
    obtain rfl:u=Value.bool true:=r'
    refine ⟨rfl,OldK.of_keep λb o e=>?_,os,bare⟩
    cases q:H b with
    | none=>exact un.keep b o e q (by intro z;exact absurd (show b∈([]:List Addr) from z) (by simp)) (by simp)
    | some u =>
     rcases hO b with z | ⟨ob,xs,z⟩
     ·rw [q] at z;cases z
     ·have z2:=un.frzs b ob _ z
      obtain ⟨e1,_⟩:=hok b _ z
      obtain ⟨e2,_⟩:=hok' b _ z2
      rw [e] at e1;cases e1
      exact e2
 cases hk:K.lookup a with
 | some o =>
  -- the script is one of the module's own objects
  have e:=KX a o hk
  rw [ha] at e
  cases e
  refine core (λ_=>none) (λ_=>.inl rfl) (.inr ⟨_,vs.toArray,_,hk,rfl,rfl,rfl,by rw [List.size_toArray,lenV];exact hl,by simpa using rv⟩) (λb u z=>by have z':(none:Option HO)=some u:=z;cases z') (λb z=>absurd rfl z) λz=>absurd rfl z
 | none =>
  refine core (λb=>if b=a then some (.frz { cls:=.type "list",data:=.seq vs.toArray } (.lst (ns.map V.int))) else none) (λb=>?_) (.inl (.inr ⟨{ cls:=.type "list",data:=.seq vs.toArray },if_pos rfl⟩)) (λb u z=>?_) (λb z=>?_) λ_=>hk
  ·by_cases hb:b=a
   ·exact .inr ⟨_,_,if_pos hb⟩
   ·exact .inl (if_neg hb)
  ·by_cases hb:b=a
   ·have z':=(if_pos hb).symm.trans z
    cases z'
    subst hb
    exact ⟨ha,by rw [List.length_map];exact hl,vs,_,rv,ha⟩
   ·have z':=(if_neg hb).symm.trans z
    cases z'
  ·by_cases hb:b=a
   ·exact hb
   ·exact absurd (if_neg hb) z
theorem Qsn {K:Params->Frag} {CX:World->CXT} {sp:World->Sp}
  (hn:l.most=some n) (hn2:n<=sizeLine) (hdf:d.params.defaults=[]) (hr:Room k callerA)
  (hY:∀(w:World) (h:Heap),YP w h->(K w.params).In h)
  (F:∀(w:World) (mg:Str->Option Value) (fa:Addr) (h:Heap),(K w.params).In h->h.Ns mainGlobals mg->mg d.name=some (.ref fa) ->
   ∃fd:FuncData,(∀(s:Shared) (u:Value),BindsTo s fd ⟨[u],[]⟩ [(x,u)]) /\
    ∀base:Heap,(K w.params).In base->base.Ns mainGlobals mg->FnOk l.prog w (K w.params) mg base (CX w) k fa fd [x] (sp w))
  (hsp:∀(w:World) (H:Hp) (a:Addr) (ns:List Int),ns.length<=n->Only H->SqL (K w.params) H a (ns.map V.int)->sp w [.ref a] H (λv _=>v=.bl true) λ_ _ _=>False)
  (hCX:∀(w:World) (H:Hp) (s:Shared) (e:Value) (s':Shared),CX w [] H s (λ_ _ _=>False) e s'->False) :
  PySem.W.WalkO q loose XP YP l.row.toRowW d [] (λf vs=>PySem.call f vs):=by
 refine Att.Qij hn hdf λw s₀ s₁ mg mb fa o pm cd doc a vs ns G Y ho hd hcd hmg hobj hints hlen hg=>?_
 have KX:=hY w _ Y
 obtain ⟨fd,hb,hF⟩:=F w mg fa _ KX G.T.g hmg
 exact Qp3 KX G.T.g G.T.b G.T.builtins G.T.nolimit hg hobj hints (Nat.le_trans hlen hn2) hr hF hb (λH hO hS=>hsp w H a ns hlen hO hS) λH e s'=>hCX w H s₁ e s'
def Ur (s:Stmt):Arguments:=match s with
 | .FunctionDef _ a _ _ _ _ _ _ _ _=>a
 | _=>{ posonlyargs:=[],args:=[],vararg:=none,kwonlyargs:=[],kw_defaults:=[],kwarg:=none,defaults:=[] }
def Qr (s:Stmt):List Stmt:=match s with
 | .FunctionDef _ _ b _ _ _ _ _ _ _=>b
 | _=>[]
def Qb (s:Stmt):Scope:=match s with
 | .FunctionDef _ _ _ _ _ _ sc _ _ _=>sc
 | _=>{ kind:=.function,names:=[],isGenerator:=false,isCoroutine:=false }
abbrev CX0:CXT:=λ_ _ _ _ _ _=>False
abbrev E0:XK:=λ_ _ _=>False
theorem Qtr:Qoy CX0 X E0:=λ_ _ _ _ _ _ _ h=>h.elim
structure Fun (K:Frag) (x qual:Str) (st:Stmt) (f:Addr) (fd:FuncData):Prop where
 ex:∃(oc:Value) (od:Option Addr) (kV doc pm:Value) (an:Option Addr) (cdv ct:Value) (osl:Array (Option Value)),
  fd=fnOf x qual (Ur st) (Qr st) (Qb st) .none kV doc pm an cdv ct/\K.lookup f=some ⟨oc,od,.func fd,osl⟩/\codeIn K cdv qual=true
 kp:keepIn K (.ref f)=true
theorem Fun.ok {sp:Sp} (F:Fun K x qual st f fd) (S:FnScope N ps (Qb st)) (len:∀vs H Q E,sp vs H Q E->vs.length=ps.length)
  (hbody:∀(cdv:Value) (A:Around) (outer:List Env) (s:Shared) (H:Hp) (vs:List V) (Q:VK) (E:XK),Room k (A.deeper (envOfC qual (Qb st) s.heap.objs.size f cdv))->sp vs H Q E ->
   ∃t,PSs (cxOf CX0 P w K mg base N qual (Qb st) f cdv A outer s H E).nox (Qr st) t/\t { nx:=λ_ H'=>Q .non H',rt:=Q } (Vz N vs) H):FnOk P w K mg base CX0 (k+1) f fd ps sp:=by
 obtain ⟨oc,od,kV,doc,pm,an,cdv,ct,osl,rfl,lk,hcd⟩:=F.ex
 refine Qxb lk hcd S len λA outer s H vs Q E hr hsp=>?_
 obtain ⟨t,h,q⟩:=hbody cdv A outer s H vs Q E hr hsp
 exact ⟨t,h.nox,q⟩
theorem Fun.binds (F:Fun K x qual st f fd)
  (h:∀(kV doc pm:Value) (an:Option Addr) (cdv ct:Value) (us:List Value),us.length=ps.length->bindArgs (fnOf x qual (Ur st) (Qr st) (Qb st) .none kV doc pm an cdv ct) ⟨us,[]⟩=pure (ps.zip us)):X1 K fd ps []:=by
 obtain ⟨oc,od,kV,doc,pm,an,cdv,ct,osl,rfl,lk,hcd⟩:=F.ex
 exact .all (h kV doc pm an cdv ct)
theorem Qec {od an:Option Addr} {kV doc pm cdv ct:Value} (l:K.lookup f=some ⟨oc,od,.func (fnOf x qual (Ur st) (Qr st) (Qb st) .none kV doc pm an cdv ct),osl⟩)
  (c:codeIn K cdv qual=true) (k:keepIn K (.ref f)=true):Fun K x qual st f (fnOf x qual (Ur st) (Qr st) (Qb st) .none kV doc pm an cdv ct):=⟨⟨oc,od,kV,doc,pm,an,cdv,ct,osl,rfl,l,c⟩,k⟩
theorem Yk (hr:Room k A):A.units+1<cLine:=Nat.lt_of_le_of_lt (Nat.add_le_add_left (by decide:1<=64) _) hr.units
theorem pv (i:Nat) (hN:X.N[i]? = some x:=by rfl) (hv:Vis X.env.scope x:=by first | exact Or.inl rfl | exact Or.inr (Or.inl rfl) | exact Or.inr (Or.inr rfl)) (hd:(x == ("__debug__" : Str))=false:=by decide)
  (hcd:(x == ("__classdict__" : Str))=false:=by decide):PE X (.Name x pos) (tVar i):=Vt hN hv hd hcd
theorem Qom:V0 X (.builtin "len") (λxs H Q=>∃a kvs,xs=[V.ref a]/\H a=some (.dK kvs)/\Q (.int kvs.length) H):=by
 intro pins s σ H xs us Q I r h
 obtain ⟨a,kvs,rfl,ha,q⟩:=h
 obtain ⟨u,rfl,ru⟩:=Qal r
 cases ru
 exact Qza I (.inl ha) λt s' I'=>⟨.int kvs.length,H,I',⟨t,rfl⟩,q⟩
def Same (H H':Hp):Prop:=∀b o,H b=some o->H' b=some o
theorem Same.refl (H:Hp):Same H H:=λ_ _ h=>h
theorem Same.trans (a:Same H H1) (b:Same H1 H2):Same H H2:=λc o h=>b c o (a c o h)
theorem Same.free (e:Same H H') {l:Addr} (h:H' l=Option.none):H l=Option.none:=by
 cases q:H l with
 | none=>rfl
 | some o =>
  rw [e l o q] at h
  cases h
theorem Xw {env:Env}:∀(names:List (Str × NameKind)) (acc:List (Str × Addr)),
  (∀x∈names,x.2=.free->∃c,env.cells.lookup x.1=some c)->(∀y c,acc.lookup y=some c->env.cells.lookup y=some c) ->
  ∃cl:List (Str × Addr),(forIn names acc (λ(x:Str × NameKind) (cs:List (Str × Addr)) =>
    if (x.2 == NameKind.free)=true then do
     let c ← cellOf env x.1
     pure (ForInStep.yield ((x.1,c)::cs))
    else pure (ForInStep.yield cs)):Sem (List (Str × Addr)))=pure cl /\
   (∀y c,cl.lookup y=some c->env.cells.lookup y=some c)/\(∀y,(acc.lookup y).isSome=true->(cl.lookup y).isSome=true) /\
   ∀x∈names,x.2=.free->(cl.lookup x.1).isSome=true
 | [],acc,_,ha=>⟨acc,by rw [List.forIn_nil],ha,λ_ h=>h,λ_ h=>nomatch h⟩
 | (n,k)::r,acc,hn,ha=>by
  rw [List.forIn_cons]
  by_cases hk:k=.free
  ·subst hk
   obtain ⟨c,hc⟩:=hn (n,.free) List.mem_cons_self rfl
   have hc':env.cells.lookup n=some c:=hc
   obtain ⟨cl,e,h1,h2,h3⟩:=Xw r ((n,c)::acc) (λx hx=>hn x (List.mem_cons_of_mem _ hx)) (λy c' h=>by
    rw [List.lookup_cons] at h
    cases q:y == n with
    | true=>rw [q] at h;cases h;rw [beq_iff_eq.mp q];exact hc'
    | false=>rw [q] at h;exact ha y c' h)
   refine ⟨cl,?_,h1,λy hy=>h2 y ?_,λx hx hf=>?_⟩
   ·have e0:cellOf env n=pure c:=by unfold cellOf;rw [hc']
    show ((if ((NameKind.free == NameKind.free)=true) then (cellOf env n >>= λc=>pure (ForInStep.yield ((n,c)::acc))) else pure (ForInStep.yield acc)) >>= _)=_
    rw [if_pos (by decide),e0]
    exact e
   ·rw [List.lookup_cons]
    cases q:y == n with
    | true=>rfl
    | false=>exact hy
   ·rcases List.mem_cons.mp hx with rfl | hx
    ·exact h2 n (by simp [List.lookup_cons])
    ·exact h3 x hx hf
  ·obtain ⟨cl,e,h1,h2,h3⟩:=Xw r acc (λx hx=>hn x (List.mem_cons_of_mem _ hx)) ha
   refine ⟨cl,?_,h1,h2,λx hx hf=>?_⟩
   ·show ((if ((k == NameKind.free)=true) then (cellOf env n >>= λc=>pure (ForInStep.yield ((n,c)::acc))) else pure (ForInStep.yield acc)) >>= _)=_
    rw [if_neg (by simpa using hk)]
    exact e
   ·rcases List.mem_cons.mp hx with rfl | hx
    ·exact absurd hf hk
    ·exact h3 x hx hf
theorem Us (h:∀x∈scope.names,x.2=.free->∃c,env.cells.lookup x.1=some c) :
  ∃cl,closureFor scope env=pure cl/\(∀y c,cl.lookup y=some c->env.cells.lookup y=some c)/\∀x∈scope.names,x.2=.free->∃c,cl.lookup x.1=some c:=by
 obtain ⟨cl,e,h1,_,h3⟩:=Xw scope.names [] h (λy c q=>by simp at q)
 refine ⟨cl,?_,h1,λx hx hf=>Option.isSome_iff_exists.mp (h3 x hx hf)⟩
 simp only [closureFor]
 show (forIn scope.names [] _ >>= λr=>pure r)=_
 rw [e]
 rfl
theorem Vv {env:Env} {x:Str}:∀{names:List (Str × NameKind)},names.lookup x=some .free ->
  (names.map λ(n,k)=>if (k == NameKind.free && env.scope.kind == .function && env.kindOf n == some .cell) then (n,NameKind.cell) else (n,k)).lookup x=some .cell \/
  (names.map λ(n,k)=>if (k == NameKind.free && env.scope.kind == .function && env.kindOf n == some .cell) then (n,NameKind.cell) else (n,k)).lookup x=some .free
 | [],h=>by simp at h
 | (n,k)::r,h=>by
  have ih:=@Vv env x r
  show List.lookup x ((if (k == NameKind.free && env.scope.kind == .function && env.kindOf n == some .cell)=true then (n,NameKind.cell) else (n,k))::_)=_\/List.lookup x ((if (k == NameKind.free && env.scope.kind == .function && env.kindOf n == some .cell)=true then (n,NameKind.cell) else (n,k))::_)=_
  cases hx:x == n with
  | true =>
   simp only [List.lookup_cons,hx] at h
   cases h
   by_cases hc:(NameKind.free == NameKind.free && env.scope.kind == .function && env.kindOf n == some .cell)=true
   ·rw [if_pos hc];left;simp only [List.lookup_cons,hx]
   ·rw [if_neg hc];right;simp only [List.lookup_cons,hx]
  | false =>
   simp only [List.lookup_cons,hx] at h
   by_cases hc:(k == NameKind.free && env.scope.kind == .function && env.kindOf n == some .cell)=true
   ·rw [if_pos hc];simp only [List.lookup_cons,hx];exact ih h
   ·rw [if_neg hc];simp only [List.lookup_cons,hx];exact ih h
theorem V5 {env:Env} {x:Str} {q:NameKind}:∀{names:List (Str × NameKind)},(∀y∈names,y.2 ≠ .cell)->q=.cell\/q=.free ->
  (names.map λ(n,k)=>if (k == NameKind.free && env.scope.kind == .function && env.kindOf n == some .cell) then (n,NameKind.cell) else (n,k)).lookup x=some q->(x,NameKind.free)∈names
 | [],_,_,h=>by simp at h
 | (n,k)::r,hn,hq,h=>by
  have h:List.lookup x ((if (k == NameKind.free && env.scope.kind == .function && env.kindOf n == some .cell)=true then (n,NameKind.cell) else (n,k))::(r.map λ(n,k)=>if (k == NameKind.free && env.scope.kind == .function && env.kindOf n == some .cell) then (n,NameKind.cell) else (n,k)))=some q:=h
  by_cases hc:(k == NameKind.free && env.scope.kind == .function && env.kindOf n == some .cell)=true
  ·rw [if_pos hc] at h
   cases hx:x == n with
   | true =>
    have hk:k=.free:=by
     cases k <;> first | rfl | (simp at hc)
    rw [beq_iff_eq.mp hx,hk]
    exact List.mem_cons_self
   | false =>
    simp only [List.lookup_cons,hx] at h
    exact List.mem_cons_of_mem _ (V5 (λy hy=>hn y (List.mem_cons_of_mem _ hy)) hq h)
  ·rw [if_neg hc] at h
   cases hx:x == n with
   | true =>
    simp only [List.lookup_cons,hx] at h
    have hk:k=q:=Option.some.inj h
    have hk2:k=.free:=by
     rcases hq with rfl | rfl
     ·exact absurd hk (hn (n,k) List.mem_cons_self)
     ·exact hk
    rw [beq_iff_eq.mp hx,hk2]
    exact List.mem_cons_self
   | false =>
    simp only [List.lookup_cons,hx] at h
    exact List.mem_cons_of_mem _ (V5 (λy hy=>hn y (List.mem_cons_of_mem _ hy)) hq h)
def Yn (X:Cx) (scope:Scope) (cl:List (Str × Addr)) (C:Addr) (N:List Str) (s₀:Shared) (H₀:Hp) (fp:List Addr):Cx :=
 { X with N:=N,s₀:=s₀,H₀:=H₀,env:=compEnvC scope cl C X.env,outer:=X.stack,stack:=X.stack,ex:=fp,fn:=λ_=>false,pn:=[],xe:=λ_ _=>False }
structure BlkScope (env:Env) (scope:Scope) (x:Str):Prop where
 kind:scope.kind=.function
 cells:∀y∈scope.names,y.2 ≠ .cell
 names:∀y∈scope.names,y.2=.local->scope.names.lookup y.1=some .local
 lx:scope.names.lookup x=some .local
 free:∀y∈scope.names,y.2=.free->env.kindOf y.1=some .cell\/env.kindOf y.1=some .free
def bN (N:List Str) (x:Str) (ix:List Nat):List Str:=x::ix.map λi=>N.getD i Str.empty
def bS (σ:St) (o:Option V) (ix:List Nat):St:=o::ix.map λi=>(σ[i]?).getD none
def PIfs (X:Cx) (ifs:List Expr) (tt:TT):Prop :=
 ∀(pins:List (Addr × Obj)) (s:Shared) (σ:St) (H:Hp) (Q:Bool->Hp->Prop),Inv X pins σ H s->tt σ H Q ->
  wpAny (model X.prog X.w) X.A (forIn ifs true λc r=>if r=true then do let ok ← isTrue c X.env (eval c X.env);pure (ForInStep.yield ok) else pure (ForInStep.yield r)) (TP X pins σ Q) X.xe s
def tAll:TT:=λ_ H Q=>Q true H
theorem Qi7:PIfs X [] tAll:=by
 intro pins s σ H Q I h
 rw [List.forIn_nil]
 exact wpAny_pure ⟨H,I,h⟩
theorem Qpl (h:PT X c tt):PIfs X [c] tt:=by
 intro pins s σ H Q I hw
 rw [List.forIn_cons]
 refine wpAny_bind ?_
 rw [if_pos rfl]
 refine wpAny_bind (thn (h pins s σ H _ I hw) λok s1 q=>wpAny_pure ?_)
 show wpAny _ _ (forIn [] ok _) _ _ s1
 rw [List.forIn_nil]
 exact wpAny_pure q
theorem Qxo (I:Inv X pins σ H s) (B:BlkScope X.env scope x)
  (h1:∀y c,cl.lookup y=some c->X.env.cells.lookup y=some c) (h3:∀y∈scope.names,y.2=.free->∃c,cl.lookup y.1=some c) (hC:s.heap.objs.size<=C) (hf:∀b∈fp,FpOk X pins H b) (hl:∀b∈fp,b<s.heap.objs.size) :
  (Yn X scope cl C N s H fp).Ok where
 mod:=I.ok.mod
 kind:=by show (relabel scope X.env).kind=_;exact B.kind
 glob:=I.ok.glob
 blt:=I.ok.blt
 above:=hC
 inj:=λy z c q r=>I.ok.inj y z c (h1 y c q) (h1 z c r)
 has:=λy hy=>by
  have hy:(relabel scope X.env).names.lookup y=some .cell\/(relabel scope X.env).names.lookup y=some .free:=hy
  have m:(y,NameKind.free)∈scope.names:=by
   rcases hy with q | q
   ·exact V5 B.cells (.inl rfl) q
   ·exact V5 B.cells (.inr rfl) q
  exact h3 _ m rfl
 cab:=λy c q=>by cases (show false=true from q)
 hd:=I.ok.hd
 frames:=I.ok.frames
 stk:=.inl rfl
 exf:=λb hb=>⟨Nat.ne_of_lt (Nat.lt_of_lt_of_le (hl b hb) hC),λy c q=>(hf b hb).2.2.2.2.1 y c (h1 y c q)⟩
 bs:=I.bs
 bsz:=Nat.le_trans I.ok.bsz I.sz
 noex:=λb o e hb=>by
  rcases (hf b hb).2.2.2.1 with z | z
  ·exact I.ok.noex b o e z
  ·exact absurd (Nat.lt_of_lt_of_le (Heap.lt_size e) (Nat.le_trans I.ok.bsz z)) (Nat.lt_irrefl _)
 exfs:=λb hb z=>by
  have z':=I.stkSub b z
  rcases List.mem_cons.mp z' with q | q
  ·exact (hf b hb).2.1 q
  ·exact (hf b hb).2.2.1 q
 funs:=I.stack
 frf:=I.stkFree
theorem HOk.add (x:HOk P w H h) (hn:H a=none) (new:Yz P w (upd H a o) h a o):HOk P w (upd H a o) h:=λb u e=>by
 by_cases hb:b=a
 ·subst hb;rw [Qj] at e;cases e;exact new
 ·rw [Qm hb] at e
  exact (x b u e).stay (λc v _ q=>q) (λc q=>by rw [Qm (Jw q hn)];exact q) (λc xs q=>by rw [Qm (Jw q hn)];exact q) λc _ _ _ q _=>by rw [Qm (Jw q hn)];exact q
theorem Un.add {fs ex:List Addr} (u:Un fs ex H H' h h') (hn:h.get? a=none) (hH:H a=none):Un fs ex H (upd H' a o) h h' where
 keep:=u.keep
 slot:=u.slot
 free:=λb ob e n hx=>by
  have:b≠a:=λz=>by rw [z,hn] at e;cases e
  rw [Qm this];exact u.free b ob e n hx
 there:=u.there
 tups:=λb xs e=>by rw [Qm (Jw e hH)];exact u.tups b xs e
 frzs:=λb ob w e=>by rw [Qm (Jw e hH)];exact u.frzs b ob w e
 tbls:=λb ps e=>by rw [Qm (Jw e hH)];exact u.tbls b ps e
theorem Qdk {target:Expr} {it acc:Value} (I:Nat->Shared->Prop)
  (turn:∀n s,I n s->wpAny (model prog w) A (pyNext it) (λr s₁=>match r with
   | none=>R (.ok .next) s₁
   | some v=>wpAny (model prog w) A (letOwnedTupleGo target it v) (λ_ s₀=>wpAny (model prog w) A (assign target env v) (λ_ s₂ =>
     wpAny (model prog w) A (forIn ifs true λc r=>if r=true then do let ok ← isTrue c env (eval c env);pure (ForInStep.yield ok) else pure (ForInStep.yield r)) (λok s₃ =>
      if ok=true then wpAny (model prog w) A (eval elt env) (λx s₄ =>
       wpAny (model prog w) A (call (.builtin "list.append") [acc,x]) (λ_ s₅=>∃m,m<n/\I m s₅) (notedBy (model prog w) A env λe s'=>R (.error e) s') s₄) (notedBy (model prog w) A env λe s'=>R (.error e) s') s₃
      else ∃m,m<n/\I m s₃) (notedBy (model prog w) A env λe s'=>R (.error e) s') s₂) (notedBy (model prog w) A env λe s'=>R (.error e) s') s₀) (notedBy (model prog w) A env λe s'=>R (.error e) s') s₁) (notedBy (model prog w) A env λe s'=>R (.error e) s') s)
  (n:Nat) (h:I n s):codeAny (model prog w) A (.compLoop (.ListComp elt [⟨target,iter,ifs,0⟩] scope pos) 0 it acc env) R s:=by
 refine codeAny_loop rfl I (λn s hI=>?_) n h
 show wpAny _ A ((compTurn (.ListComp elt [⟨target,iter,ifs,0⟩] scope pos) 0 it acc env).onRaise (λx=>do noteFrame x env;theTreesLotGoes x)) _ _ s
 refine wpAny_noted ?_
 rw [compTurn_list]
 refine wpAny_bind (wpAny_standAt (wpAny_bind (wpAny_mono (turn n s hI) (λr s₁ h₁=>?_) λ_ _ h'=>h')))
 cases r with
 | none=>exact wpAny_pure h₁
 | some v =>
  refine wpAny_bind (wpAny_mono h₁ (λ_ s₀ h₀=>?_) λ_ _ h'=>h')
  refine wpAny_bind (wpAny_mono h₀ (λ_ s₂ h₂=>wpAny_bind (wpAny_mono h₂ (λok s₃ h₃=>?_) λ_ _ h'=>h')) λ_ _ h'=>h')
  cases ok with
  | false=>exact wpAny_pure ⟨rfl,h₃⟩
  | true =>
   exact wpAny_bind (wpAny_bind (wpAny_mono h₃ (λx s₄ h₄=>wpAny_bind (wpAny_mono h₄ (λ_ s₅ h₅=>wpAny_pure (wpAny_pure ⟨rfl,h₅⟩)) λ_ _ h'=>h')) λ_ _ h'=>h'))
def bN2 (N:List Str) (ts:List Str) (ix:List Nat):List Str:=ts++ix.map λi=>N.getD i Str.empty
def bS2 (σ:St) (o:List (Option V)) (ix:List Nat):St:=o++ix.map λi=>(σ[i]?).getD none
theorem Qgj {RR:Value->PySem.Env->Result->Shared->Prop} {Px:Hp->Shared->Value->Shared->Prop}
  (I:Inv X pins σ H s) (hc:X.calm=true) (B:BlkScope X.env scope x) (h1:∀y c,cl.lookup y=some c->X.env.cells.lookup y=some c) (h3:∀y∈scope.names,y.2=.free->∃c,cl.lookup y.1=some c)
  (hix:∀i∈ix,∃y,X.N[i]? = some y/\scope.names.lookup y=some .free) (hN:(bN2 X.N ts ix).Nodup)
  (T:Turn X.prog X.w X.K tg J fp it tn) (st:tn 0 s.heap) (hf:∀b∈fp,FpOk X pins H b)
  (hg:∀cl C s₀ H₀ fp,PG (Yn X scope cl C (bN2 X.N ts ix) s₀ H₀ fp) tg gt)
  (he:∀cl C s₀ H₀ fp xe,(∀pins σ' H s e s',Inv (Yn X scope cl C (bN2 X.N ts ix) s₀ H₀ fp) pins σ' H s->Px H s e s'->xe e s')->PE ((Yn X scope cl C (bN2 X.N ts ix) s₀ H₀ fp).wish xe) elt te)
  (hi:∀cl C s₀ H₀ fp,PIfs (Yn X scope cl C (bN2 X.N ts ix) s₀ H₀ fp) ifs tt)
  (W:Nat->Nat->List V->Hp->Prop) (m₀:Nat) (w0:W 0 m₀ [] H)
  (turn:∀i m ys H,W i m ys H->(J.stop i H/\ys.length<=sizeLine/\G ys H)\/(J.go i H/\ys.length<sizeLine/\∀v H',J.yld i H v H'->∀o:List (Option V),o.length=ts.length->gt v (bS2 σ o ix) H' λσ2 H2=>∃o2:List (Option V),σ2=bS2 σ o2 ix/\o2.length=ts.length /\
    tt σ2 H2 λb H1=>if b=true then te σ2 H1 λy H2=>∃m',m' < m/\W (i+1) m' (ys++[y]) H2 else ∃m',m' < m/\W (i+1) m' ys H1))
  (hRR:∀D C cenv s' ys H',cenv.locals=C->Inv X pins σ (upd H' D (.lst ys)) s'->H' D=none->H' C=none->(∃m,s'.heap.Ns C m)->s.heap.objs.size<=C->D≠C->G ys H'->RR (.ref D) cenv (.ok .next) s')
  (hXX:∀D C cenv s' H' e s'',cenv.locals=C->cenv.frame=X.env.frame->Inv X pins σ H' s'->H' C=none->(∃m,s'.heap.Ns C m)->s.heap.objs.size<=C->C∉frs X.stack->Px H' s' e s''->notedBy (model X.prog X.w) X.A (compEnvC scope cl C X.env) (λe s'=>RR (.ref D) cenv (.error e) s') e s'') :
  wpAny (model X.prog X.w) X.A (newList []) (λacc s₃=>wpAny (model X.prog X.w) X.A (newFunctionEnv scope X.env.globals cl [] X.env.qual none .none (some X.env)) (λcenv s₄ =>
   codeAny (model X.prog X.w) X.A (.compStart (.ListComp elt [⟨tg,iter,ifs,0⟩] scope pos) 0 (.ref it) acc { cenv with scope:=relabel scope X.env }) (RR acc { cenv with scope:=relabel scope X.env }) s₄) E s₃) E s:=by
 have hl:∀b∈fp,b<s.heap.objs.size:=λb hb=>by obtain ⟨o,e,_⟩:=T.obj 0 _ st b hb;exact Heap.lt_size e
 refine wpAny_newObj_type (wpAny_newFunctionEnv B.cells (by intro y hy;simp at hy) (λh₁ hns₁ hsb₁=>?_) B.kind)
 dsimp only at hns₁ hsb₁ ⊢
 generalize hH2:s.heap.push { cls:=.type "list",dict:=none,data:=.seq ([]:List Value).toArray }=H2 at hns₁ hsb₁ ⊢
 have hC:H2.objs.size=s.heap.objs.size+1:=by rw [← hH2,Heap.size_push]
 generalize hD:s.heap.objs.size=D at hC hl hRR hXX ⊢
 generalize hCC:H2.objs.size=C at hC hns₁ hsb₁ ⊢
 have hDC:D≠C:=by omega
 have old:∀b o,s.heap.get? b=some o->h₁.get? b=some o:=λb o e=>hsb₁.extBut b o (Nat.ne_of_lt (by have z:=Heap.lt_size e;rw [hD] at z;exact Nat.lt_of_lt_of_le z (by rw [hC];exact Nat.le_succ _))) (Heap.get?_push_of_some _ (hH2 ▸ Heap.get?_push_of_some _ e))
 have hacc:h₁.get? D=some { cls:=.type "list",data:=.seq ([]:List Value).toArray 0 }:=hsb₁.extBut _ _ hDC (Heap.get?_push_of_some _ (hH2 ▸ (by rw [← hD];exact Heap.get?_push_size _ rfl)))
 have hfr:∀a,D<=a->s.heap.get? a=none:=λa ha=>by
  cases e:s.heap.get? a with
  | none=>rfl
  | some o=>exact absurd (Heap.lt_size e) (by rw [hD];exact Nat.not_lt.mpr ha)
 have hHn:∀a,D<=a->H a=none:=λa ha=>I.hok.fresh (by omega)
 have ok:(Yn X scope cl C (bN2 X.N ts ix) s H fp).Ok:=Qxo I B h1 h3 (by omega) hf (by rw [hD];exact hl)
 generalize hK:Yn X scope cl C (bN2 X.N ts ix) s H fp=K at ok
 have kp:K.prog=X.prog:=by rw [← hK];rfl
 have kw:K.w=X.w:=by rw [← hK];rfl
 have kK:K.K=X.K:=by rw [← hK];rfl
 have kA:K.A=X.A:=by rw [← hK];rfl
 have kc:K.calm=true:=by rw [← hK];exact hc
 have kN:K.N=bN2 X.N ts ix:=by rw [← hK];rfl
 have kenv:K.env=compEnvC scope cl C X.env:=by rw [← hK];rfl
 have kloc:K.env.locals=C:=by rw [← hK];rfl
 have kfs:K.fs=frs X.stack:=by rw [← hK];rfl
 have kex:K.ex=fp:=by rw [← hK];rfl
 have kpn:K.pn=[]:=by rw [← hK];rfl
 have ks:K.s₀=s:=by rw [← hK];rfl
 have kH:K.H₀=H:=by rw [← hK];rfl
 have kx:K.xe=λ_ _=>False:=by rw [← hK];rfl
 have kcl:K.env.cells=cl:=by rw [← hK];rfl
 have cellLt:∀y c,cl.lookup y=some c->c<D:=λy c q=>by obtain ⟨v,z⟩:=I.cell y c (h1 y c q);rw [← hD];exact z.lt
 have stkLt:∀b∈frs X.stack,b<D:=λb hb=>by
  rcases List.mem_cons.mp (I.stkSub b hb) with q | q
  ·rw [q,← hD];exact I.lt
  ·rcases Nat.lt_or_ge b D with z | z
   ·exact z
   ·exact absurd q (I.nofs (by omega))
 -- the state at the block's begin
 have I0:∀tk,Inv K [(D,{ cls:=.type "list",data:=.seq ([]:List Value).toArray 0 })] (bS2 σ (ts.map λ_=>none) ix) H { s with heap:=h₁,toks:=tk }:=λtk=>by
  refine ⟨ok,by rw [ks],I.bare,by rw [ks,kH];exact Un.kept old,?_,?_,?_,?_,?_,by rw [kp,kw];exact I.hok.kept old,?_⟩
  ·refine ⟨_,by rw [kloc];exact hns₁,λi y v e1 e2 e3=>?_⟩
   rw [kN] at e1
   by_cases hlt:i<ts.length
   ·unfold bS2 at e2
    rw [List.getElem?_append_left (by simpa using hlt),List.getElem?_map] at e2
    cases hts:ts[i]? with
    | none=>rw [hts] at e2;cases e2
    | some y'=>rw [hts] at e2;have e2:(some (none:Option V))=some (some v):=e2;cases e2
   ·obtain ⟨i,rfl⟩:∃i',i=ts.length+i':=⟨i-ts.length,by omega⟩
    have e1':(ix.map λi=>X.N.getD i Str.empty)[i]? = some y:=by
     unfold bN2 at e1
     rw [List.getElem?_append_right (by omega),show ts.length+i-ts.length=i by omega] at e1
     exact e1
    have e2':(ix.map λi=>(σ[i]?).getD none)[i]? = some (some v):=by
     unfold bS2 at e2
     rw [List.getElem?_append_right (by rw [List.length_map];omega),List.length_map,show ts.length+i-ts.length=i by omega] at e2
     exact e2
    rw [List.getElem?_map] at e1' e2'
    cases q:ix[i]? with
    | none=>rw [q] at e1';cases e1'
    | some j =>
     rw [q] at e1' e2'
     obtain ⟨y',a1,a2⟩:=hix j (List.mem_of_getElem? q)
     have a3:X.N.getD j Str.empty=y':=by simp [List.getD,a1]
     have ey:y'=y:=by rw [← a3];exact Option.some.inj e1'
     subst ey
     have es:σ[j]? = some (some v):=by
      have z:(σ[j]?).getD none=some v:=Option.some.inj e2'
      cases w:σ[j]? with
      | none=>rw [w] at z;cases z
      | some o=>rw [w] at z;have z':o=some v:=z;rw [z']
     obtain ⟨m,hn,hlk⟩:=I.loc
     have hk:=B.free (y',.free) (PySem.mem_of_lookup a2) rfl
     have hk:X.env.kindOf y'=some .cell\/X.env.kindOf y'=some .free:=hk
     have vis:Vis X.env.scope y':=hk.elim (λz=>.inr (.inl z)) λz=>.inr (.inr z)
     obtain ⟨u,ru,lk⟩:=hlk j y' v a1 es vis
     refine ⟨u,ru,?_⟩
     rcases lk with ⟨k,_⟩ | ⟨_,c,ec,ce⟩
     ·rcases hk with z | z <;> (rw [k] at z;cases z)
     ·obtain ⟨c',ec'⟩:=h3 (y',.free) (PySem.mem_of_lookup a2) rfl
      have ec':cl.lookup y'=some c':=ec'
      have:c'=c:=Option.some.inj ((h1 y' c' ec').symm.trans ec)
      subst this
      refine .inr ⟨?_,c',by rw [kcl];exact ec',?_⟩
      ·show K.env.scope.names.lookup y'=_\/K.env.scope.names.lookup y'=_
       rw [kenv]
       exact Vv a2
      ·obtain ⟨oc,hoc,r⟩:=ce
       exact ⟨oc,old _ _ hoc,r⟩
  ·intro y c q
   rw [kcl] at q
   obtain ⟨v,oc,hoc,r⟩:=I.cell y c (h1 y c q)
   exact ⟨v,oc,old _ _ hoc,r⟩
  ·rw [kloc];exact hHn _ (by omega)
  ·intro y c q
   rw [kcl] at q
   exact I.freeC y c (h1 y c q)
  ·intro p hp
   rw [kpn] at hp
   have e:p=(D,{ cls:=.type "list",data:=.seq ([]:List Value).toArray 0 }):=by simpa using hp
   subst e
   refine ⟨hacc,hHn _ (Nat.le_refl _),by rw [kloc];exact hDC,?_,λv z=>?_⟩
   ·rw [kfs];intro z;exact absurd (stkLt D z) (Nat.lt_irrefl _)
   ·have z':Data.seq _ _=Data.cell v:=z
    cases z'
  ·rw [kN];simp [bS2,bN2]
 have stat:∀{H':Hp} {ob:Obj},(∀b∈fp,H' b=none)->∀b∈fp,FpOk K [(D,ob)] H' b:=λ{H' ob} hn b hb=>by
  refine ⟨hn b hb,?_,?_,.inl (by rw [kex];exact hb),?_,?_⟩
  ·rw [kloc];exact Nat.ne_of_lt (Nat.lt_of_lt_of_le (hl b hb) (by rw [hC];exact Nat.le_succ _))
  ·rw [kfs];intro z
   rcases List.mem_cons.mp (I.stkSub b z) with q | q
   ·exact (hf b hb).2.1 q
   ·exact (hf b hb).2.2.1 q
  ·intro y c q;rw [kcl] at q;exact (hf b hb).2.2.2.2.1 y c (h1 y c q)
  ·intro p hp;rw [kpn] at hp
   have e:p=(D,ob):=by simpa using hp
   subst e
   exact Nat.ne_of_gt (hl b hb)
 have st₁:tn 0 h₁:=T.keep _ _ _ st λb hb o e=>old b o e
 have loop:∀tk,codeAny (model X.prog X.w) X.A (.compLoop (.ListComp elt [⟨tg,iter,ifs,0⟩] scope pos) 0 (.ref it) (.ref D) (compEnvC scope cl C X.env)) (RR (.ref D) (compEnvC scope cl C X.env)) { s with heap:=h₁,toks:=tk }:=by
  intro tk
  refine Qdk (λn s'=>∃i o H' ys its c,o.length=ts.length/\Inv K [(D,{ cls:=.type "list",data:=.seq (its:List Value).toArray c })] (bS2 σ o ix) H' s'/\Vals ys its/\tn i s'.heap/\(∀b∈fp,H' b=none)/\W i n ys H') ?_ m₀
   ⟨0,ts.map (λ_=>none),H,[],[],0,by simp,I0 tk,.nil,st₁,λb hb=>(hf b hb).1,w0⟩
  rintro n s1 ⟨i,o,H1,ys,its,c,ol,I1,rv,t1,f1,w1⟩
  rcases turn i n ys H1 w1 with ⟨stop,hz,g⟩ | ⟨go,hz,step⟩
  ·have dn:=T.done K kp kw kK kc i _ s1 _ H1 (notedBy (model X.prog X.w) X.A (compEnvC scope cl C X.env) λe s'=>RR (.ref D) (compEnvC scope cl C X.env) (.error e) s') I1 (stat f1) t1 stop
   rw [kA] at dn
   refine thn dn λr s2 ⟨hr,I2⟩=>?_
   subst hr
   obtain ⟨p1,p2,p3,p4,p5⟩:=I2.pin (D,{ cls:=.type "list",data:=.seq its.toArray c }) (List.mem_append_right _ (List.mem_singleton.mpr rfl))
   have u2:=I2.base
   rw [kfs,kex,kH,ks] at u2
   refine hRR D C (compEnvC scope cl C X.env) s2 ys H1 rfl ?_ p2 (by rw [← kloc];exact I2.free) (by obtain ⟨m,hm,_⟩:=I2.loc;rw [kloc] at hm;exact ⟨m,hm⟩) (by omega) hDC g
   have hk2:HOk X.prog X.w H1 s2.heap:=by have:=I2.hok;rw [kp,kw] at this;exact this
   refine I.call' (ch:=fp) (by have:=I2.os;rw [ks] at this;exact this) (u2.add (hfr D (Nat.le_refl _)) (hHn D (Nat.le_refl _))) (hk2.add p2 ⟨hz,its,c,rv,p1⟩) I2.bare λb hb=>?_
   exact ⟨(hf b hb).2.2.2.1,(hf b hb).2.1,(hf b hb).2.2.2.2.1,(hf b hb).2.2.2.2.2⟩
  ·have im:=T.item K kp kw kK kc i _ s1 _ H1 (notedBy (model X.prog X.w) X.A (compEnvC scope cl C X.env) λe s'=>RR (.ref D) (compEnvC scope cl C X.env) (.error e) s') I1 (stat f1) t1 go
   rw [kA] at im
   refine thn im λr s2 ⟨u,hr,h2⟩=>?_
   subst hr
   refine thn h2 λ_ s3 ⟨v,H3,I3,r3,y3,t3,f3⟩=>?_
   have q3:=step v H3 y3 o ol
   have I3':=I3.pinned (stat f3) (T.obj _ _ t3)
   have hg':=hg cl C s H fp
   rw [hK] at hg'
   have hgv:=hg' _ s3 _ H3 v u _ I3' r3 q3
   rw [kx,kp,kw,kA,kenv] at hgv
   refine wpAny_mono hgv (λ_ s4 ⟨σ4,H4,I4,o4,e4,l4,q4⟩=>?_) λ_ _ z=>z.elim
   subst e4
   have hi':=hi cl C s H fp
   rw [hK] at hi'
   have hiv:=hi' _ s4 _ H4 _ I4 q4
   rw [kx,kp,kw,kA,kenv] at hiv
   refine wpAny_mono hiv (λok s5 ⟨H5,I5,q5⟩=>?_) λ_ _ z=>z.elim
   have back:∀{H7:Hp} {s7:Shared} {o7:List (Option V)},Inv K ([(D,{ cls:=.type "list",data:=.seq its.toArray c })]++Qd5 fp s3.heap) (bS2 σ o7 ix) H7 s7->tn (i+1) s7.heap/\∀b∈fp,H7 b=none:=λ{H7 s7 o7} I7=>by
    refine ⟨T.keep _ _ _ t3 λb hb o e=>(I7.pin (b,o) (List.mem_append_right _ (List.mem_append_right _ (Vk hb e)))).1,λb hb=>?_⟩
    obtain ⟨ob,e,d⟩:=T.obj _ _ t3 b hb
    exact (I7.pin (b,ob) (List.mem_append_right _ (List.mem_append_right _ (Vk hb e)))).2.1
   cases ok with
   | false =>
    rw [if_neg Bool.false_ne_true]
    have q5:∃m',m' < n/\W (i+1) m' ys H5:=q5
    obtain ⟨m',hm,w5⟩:=q5
    obtain ⟨b1,b2⟩:=back I5
    exact ⟨m',hm,i+1,o4,H5,ys,its,c,l4,I5.unpinned,rv,b1,b2,w5⟩
   | true =>
    rw [if_pos rfl]
    have q5:te (bS2 σ o4 ix) H5 λy H2=>∃m',m' < n/\W (i+1) m' (ys++[y]) H2:=q5
    have hxe:∀pins' σ' H5 s5 e s',Inv K pins' σ' H5 s5->Px H5 s5 e s'->notedBy (model X.prog X.w) X.A (compEnvC scope cl C X.env) (λe s'=>RR (.ref D) (compEnvC scope cl C X.env) (.error e) s') e s':=by
     intro pins' σ' H5 s5 e s' J5 q
     have u5:=J5.base
     rw [kfs,kex,kH,ks] at u5
     refine hXX D C _ s5 H5 e s' rfl rfl ?_ (by rw [← kloc];exact J5.free) (by obtain ⟨m,hm,_⟩:=J5.loc;rw [kloc] at hm;exact ⟨m,hm⟩) (by omega) (λz=>Nat.lt_irrefl C (Nat.lt_trans (stkLt C z) (by omega))) q
     exact I.call' (ch:=fp) (by have:=J5.os;rw [ks] at this;exact this) u5 (by have:=J5.hok;rw [kp,kw] at this;exact this) J5.bare λb hb=>⟨(hf b hb).2.2.2.1,(hf b hb).2.1,(hf b hb).2.2.2.2.1,(hf b hb).2.2.2.2.2⟩
    have he':=he cl C s H fp _ (hK ▸ hxe)
    rw [hK] at he'
    have hev:=he' _ s5 _ H5 _ (I5.wish _) q5
    change wpAny (model K.prog K.w) K.A (eval elt K.env) _ _ s5 at hev
    rw [kp,kw,kA,kenv] at hev
    refine wpAny_mono hev (λy s6 ⟨yv,H6,I6,r6,m',hm,w6⟩=>?_) λ_ _ z=>z
    have I6:=I6.unwish
    obtain ⟨b1,b2⟩:=back I6
    have I6':=I6.unpinned
    obtain ⟨p1,p2,p3,p4,p5⟩:=I6'.pin (D,{ cls:=.type "list",data:=.seq its.toArray c }) (List.mem_append_right _ (List.mem_singleton.mpr rfl))
    have hlen:=rv.length
    refine call_meets F.slot_list_append ⟨_,p1,rfl⟩ F.entry_list_append (F.args_list_append_2 _ _) (PySem.list_append D its.toArray c y (by rw [List.size_toArray];omega)) ⟨p1,?_⟩
    have ea:its.toArray.push y=(its++[y]).toArray:=by simp
    obtain ⟨c',q⟩:∃c',(s6.heap.update D (Obj.mapSeq (·.push y))).get? D=some { cls:=.type "list",data:=.seq (its++[y]).toArray c' }:=⟨_,by rw [← ea];exact PySem.IsL.update p1 (·.push y)⟩
    refine ⟨m',hm,i+1,o4,H6,ys++[yv],its++[y],c',l4,?_,rv.append (.cons r6 .nil),T.keep _ _ _ b1 λb hb o e=>?_,b2,w6⟩
    ·have Id:Inv K [] (bS2 σ o4 ix) H6 s6:=I6'.pins_of λp hp=>by simp at hp
     have It:Inv K [] (bS2 σ o4 ix) H6 { s6 with heap:=s6.heap.update D (Obj.mapSeq (·.push y)) }:=Id.turned (t':=s6.toks) (it:=D) (λb o hb e=>(Heap.get?_update_other _ _ (Ne.symm hb)).trans e) p2 p3
      (.inr (by rw [ks];omega)) (λy' c' e=>by rw [kcl] at e;exact Nat.ne_of_lt (cellLt y' c' e)) (λp hp=>by rw [kpn] at hp;simp at hp)
     refine It.pins_of λp hp=>?_
     obtain rfl:p=(D,{ cls:=.type "list",data:=.seq (its++[y]).toArray c' }):=by simpa using hp
     refine ⟨q,p2,p3,p4,λv z=>?_⟩
     have z':Data.seq _ _=Data.cell v:=z
     cases z'
    ·exact (Heap.get?_update_other _ _ (Nat.ne_of_gt (hl b hb))).trans e
 have selfs:wpAny (model X.prog X.w) X.A (pyIter (.ref it)) (λit' s'=>codeAny (model X.prog X.w) X.A (.compLoop (.ListComp elt [⟨tg,iter,ifs,0⟩] scope pos) 0 it' (.ref D) (compEnvC scope cl C X.env)) (RR (.ref D) (compEnvC scope cl C X.env)) s')
   (notedBy (model X.prog X.w) X.A (compEnvC scope cl C X.env) λe s'=>RR (.ref D) (compEnvC scope cl C X.env) (.error e) s') { s with heap:=h₁,toks:=s.toks+([]:List (Str × Value)).length }:=T.self X.A 0 _ _ _ st₁ (loop _)
 exact codeAny_compStart_list (loop _) selfs
theorem Qgk
  (I:Inv X pins σ H s) (hc:X.calm=true) (B:BlkScope X.env scope x) (h1:∀y c,cl.lookup y=some c->X.env.cells.lookup y=some c) (h3:∀y∈scope.names,y.2=.free->∃c,cl.lookup y.1=some c)
  (hix:∀i∈ix,∃y,X.N[i]? = some y/\scope.names.lookup y=some .free) (hN:(bN2 X.N ts ix).Nodup)
  (T:Turn X.prog X.w X.K tg J fp it tn) (st:tn 0 s.heap) (hf:∀b∈fp,FpOk X pins H b)
  (hg:∀cl C s₀ H₀ fp,PG (Yn X scope cl C (bN2 X.N ts ix) s₀ H₀ fp) tg gt)
  (he:∀cl C s₀ H₀ fp,PE (Yn X scope cl C (bN2 X.N ts ix) s₀ H₀ fp) elt te)
  (hi:∀cl C s₀ H₀ fp,PIfs (Yn X scope cl C (bN2 X.N ts ix) s₀ H₀ fp) ifs tt)
  (W:Nat->Nat->List V->Hp->Prop) (m₀:Nat) (w0:W 0 m₀ [] H)
  (turn:∀i m ys H,W i m ys H->(J.stop i H/\ys.length<=sizeLine/\G ys H)\/(J.go i H/\ys.length<sizeLine/\∀v H',J.yld i H v H'->∀o:List (Option V),o.length=ts.length->gt v (bS2 σ o ix) H' λσ2 H2=>∃o2:List (Option V),σ2=bS2 σ o2 ix/\o2.length=ts.length /\
    tt σ2 H2 λb H1=>if b=true then te σ2 H1 λy H2=>∃m',m' < m/\W (i+1) m' (ys++[y]) H2 else ∃m',m' < m/\W (i+1) m' ys H1))
  (hRR:∀D C s' ys H',Inv X pins σ (upd H' D (.lst ys)) s'->H' D=none->H' C=none->(∃m,s'.heap.Ns C m)->s.heap.objs.size<=C->D≠C->G ys H'->RR (.ref D) C (.ok .next) s') :
  wpAny (model X.prog X.w) X.A (newList []) (λacc s₃=>wpAny (model X.prog X.w) X.A (newFunctionEnv scope X.env.globals cl [] X.env.qual none .none (some X.env)) (λcenv s₄ =>
   codeAny (model X.prog X.w) X.A (.compStart (.ListComp elt [⟨tg,iter,ifs,0⟩] scope pos) 0 (.ref it) acc { cenv with scope:=relabel scope X.env }) (RR acc cenv.locals) s₄) E s₃) E s :=
 Qgj (RR:=λacc cenv r s=>RR acc cenv.locals r s) (Px:=λ_ _ _ _=>False) I hc B h1 h3 hix hN T st hf hg (λcl C s₀ H₀ fp xe _=>PE.nox (he cl C s₀ H₀ fp)) hi W m₀ w0 turn (λD C cenv s' ys H' e=>by subst e;exact hRR _ _ _ _ _) λ_ _ _ _ _ _ _ _ _ _ _ _ _ _ z=>z.elim
theorem Qj0
  (I:Inv X pins σ H s) (hc:X.calm=true) (B:BlkScope X.env scope x) (h1:∀y c,cl.lookup y=some c->X.env.cells.lookup y=some c) (h3:∀y∈scope.names,y.2=.free->∃c,cl.lookup y.1=some c)
  (hix:∀i∈ix,∃y,X.N[i]? = some y/\scope.names.lookup y=some .free) (hN:(bN X.N x ix).Nodup)
  (T:Turn X.prog X.w X.K (.Name x px) J fp it tn) (st:tn 0 s.heap) (hf:∀b∈fp,FpOk X pins H b)
  (he:∀cl C s₀ H₀ fp,PE (Yn X scope cl C (bN X.N x ix) s₀ H₀ fp) elt te)
  (hi:∀cl C s₀ H₀ fp,PIfs (Yn X scope cl C (bN X.N x ix) s₀ H₀ fp) ifs tt)
  (W:Nat->Nat->List V->Hp->Prop) (m₀:Nat) (w0:W 0 m₀ [] H)
  (turn:∀i m ys H,W i m ys H->(J.stop i H/\ys.length<=sizeLine/\G ys H)\/(J.go i H/\ys.length<sizeLine/\∀v H',J.yld i H v H' ->
    tt (bS σ (some v) ix) H' λb H1=>if b=true then te (bS σ (some v) ix) H1 λy H2=>∃m',m' < m/\W (i+1) m' (ys++[y]) H2 else ∃m',m' < m/\W (i+1) m' ys H1))
  (hRR:∀D C s' ys H',Inv X pins σ (upd H' D (.lst ys)) s'->H' D=none->H' C=none->(∃m,s'.heap.Ns C m)->s.heap.objs.size<=C->D≠C->G ys H'->RR (.ref D) C (.ok .next) s') :
  wpAny (model X.prog X.w) X.A (newList []) (λacc s₃=>wpAny (model X.prog X.w) X.A (newFunctionEnv scope X.env.globals cl [] X.env.qual none .none (some X.env)) (λcenv s₄ =>
   codeAny (model X.prog X.w) X.A (.compStart (.ListComp elt [⟨.Name x px,iter,ifs,0⟩] scope pos) 0 (.ref it) acc { cenv with scope:=relabel scope X.env }) (RR acc cenv.locals) s₄) E s₃) E s :=
 Qgk (ts:=[x]) (gt:=Qdi 0) I hc B h1 h3 hix hN T st hf (λcl C s₀ H₀ fp=>Qcl hN rfl (.inl (lookup_relabel_local B.lx)) (.inr (lookup_relabel_local B.lx))) he hi W m₀ w0 (λi m ys H hw=>(turn i m ys H hw).imp id λ⟨a,b,c⟩=>⟨a,b,λv H' hy o ho=>by
  match o,ho with
  | [o],_=>exact ⟨[some v],rfl,rfl,c v H' hy⟩⟩) hRR
def Qsw (wi:TI) (tt:TT) (te:TE) (ix:List Nat):TE:=λσ H Q=>wi σ H λJ H1=>∃(W:Nat->Nat->List V->Hp->Prop) (m₀:Nat),W 0 m₀ [] H1 /\
 ∀i m ys H,W i m ys H->(J.stop i H/\ys.length<=sizeLine/\∀l,H l=none->Q (.ref l) (upd H l (.lst ys)))\/(J.go i H/\ys.length<sizeLine/\∀v H',J.yld i H v H' ->
  tt (bS σ (some v) ix) H' λb H1=>if b=true then te (bS σ (some v) ix) H1 λy H2=>∃m',m' < m/\W (i+1) m' (ys++[y]) H2 else ∃m',m' < m/\W (i+1) m' ys H1)
theorem Qbu (I:Inv X pins σ H s) (B:BlkScope X.env scope x):∀y∈scope.names,y.2=.free->∃c,X.env.cells.lookup y.1=some c :=
 λy hy hf=>I.ok.has y.1 (B.free y hy hf)
theorem Inv.blkGone {s₀:Shared} {H₀:Hp} {σ₀:St} (I₀:Inv X pins σ₀ H₀ s₀) (I:Inv X pins σ H s) (hC:s₀.heap.objs.size<=C) (hn:H C=none) (hs:Heap.SameBut C s.heap h'):Inv X pins σ H { s with heap:=h' } :=
 I.turned (t':=s.toks) (it:=C) (λb o hb e=>(hs.2 b hb).trans e) hn (Nat.ne_of_gt (Nat.lt_of_lt_of_le I₀.lt hC)) (.inr (Nat.le_trans I₀.sz hC))
  (λx c e=>by obtain ⟨v,z⟩:=I₀.cell x c e;exact Nat.ne_of_lt (Nat.lt_of_lt_of_le z.lt hC)) (λp hp=>Nat.ne_of_lt (Nat.lt_of_lt_of_le (Heap.lt_size (I₀.pin p hp).1) hC))
theorem Qtp (ix:List Nat) (hc:X.calm=true) (B:BlkScope X.env scope x)
  (hix:∀i∈ix,∃y,X.N[i]? = some y/\scope.names.lookup y=some .free) (hN:(bN X.N x ix).Nodup) (hi:PI X (.Name x px) iter wi)
  (ht:∀cl C s₀ H₀ fp,PIfs (Yn X scope cl C (bN X.N x ix) s₀ H₀ fp) ifs tt)
  (he:∀cl C s₀ H₀ fp,PE (Yn X scope cl C (bN X.N x ix) s₀ H₀ fp) elt te)
  (hs:∀x,foldedSetIterable iter X.env x=pure x:=by intro _;rfl) :
  PE X (.ListComp elt [⟨.Name x px,iter,ifs,0⟩] scope pos) (Qsw wi tt te ix):=by
 intro pins s σ H Q I h
 obtain ⟨cl,hcl,h1,h3⟩:=Us (Qbu I B)
 rw [eval_ListComp]
 refine wpAny_comprehension_free (use:=none) rfl hs hcl B.kind B.names (thn (hi pins s σ H _ I h) λv s1 h1'=>thn h1' λitv s2 h2=>?_)
 obtain ⟨it,fp,tn,J,H2,e,I2,T,st2,f2,W,m0,w0,turn⟩:=h2
 subst e
 refine Qj0 (G:=λys H'=>∀l,H' l=none->Q (.ref l) (upd H' l (.lst ys))) I2 hc B h1 h3 hix hN T st2 f2 he ht W m0 w0 turn λD C s' ys H' I' hD hC hm hCs hDC g=>?_
 obtain ⟨m,hm⟩:=hm
 refine ⟨m,hm,λh' hsb=>⟨.ref D,upd H' D (.lst ys),I2.blkGone I' hCs (by rw [Qm (Ne.symm hDC)];exact hC) hsb,rfl,g D hD⟩⟩
theorem Qtl (ix:List Nat) (hc:X.calm=true) (B:BlkScope X.env scope x)
  (hNd:X.N.Nodup) (hj:X.N[j]? = some y) (hy:Loc X.env.scope y)
  (hsw:swapsWith (.ListComp elt [⟨.Name x px,iter,ifs,0⟩] scope pos) (some (.Name y py)) spos.line X.env=pure true)
  (hix:∀i∈ix,∃y,X.N[i]? = some y/\scope.names.lookup y=some .free) (hN:(bN X.N x ix).Nodup) (hi:PI X (.Name x px) iter wi)
  (ht:∀cl C s₀ H₀ fp,PIfs (Yn X scope cl C (bN X.N x ix) s₀ H₀ fp) ifs tt)
  (he:∀cl C s₀ H₀ fp,PE (Yn X scope cl C (bN X.N x ix) s₀ H₀ fp) elt te)
  (hf:X.fn y=true\/X.env.scope.names.lookup y=some .local:=by first | exact .inl rfl | exact .inr rfl | assumption)
  (hs:∀x,foldedSetIterable iter X.env x=pure x:=by intro _;rfl) :
  PS X (.Assign [.Name y py] (.ListComp elt [⟨.Name x px,iter,ifs,0⟩] scope pos) spos) (tAsg (Qsw wi tt te ix) (Qdi j)):=by
 intro pins s σ H D0 I h
 obtain ⟨cl,hcl,h1,h3⟩:=Us (Qbu I B)
 rw [exec_Assign_Name_used _ _ _ _ hsw]
 refine wpAny_bind (wpAny_standAt (wpAny_bind ?_))
 show wpAny _ X.A (do let _ ← comprehension (.ListComp elt [⟨.Name x px,iter,ifs,0⟩] scope pos) scope X.env _ (newList []) false (eval iter X.env) (some (assign (.Name y py) X.env))) _ _ s
 refine wpAny_bind (wpAny_mono (wpAny_comprehension_free (use:=some (assign (.Name y py) X.env)) (Q:=λ_ s'=>SP X pins D0 .next s') rfl hs hcl B.kind B.names
  (thn (hi pins s σ H _ I h) λv s1 h1'=>thn h1' λitv s2 h2=>?_)) (λ_ s' hq=>wpAny_pure (wpAny_pure hq)) λ_ _ e=>e)
 obtain ⟨it,fp,tn,J,H2,e,I2,T,st2,f2,W,m0,w0,turn⟩:=h2
 subst e
 refine Qj0 (G:=λys H'=>∀l,H' l=none->Qdi j (.ref l) σ (upd H' l (.lst ys)) D0.nx) I2 hc B h1 h3 hix hN T st2 f2 he ht W m0 w0 turn λD C s' ys H' I' hD hC hm hCs hDC g=>?_
 obtain ⟨m,hm⟩:=hm
 have hCn:upd H' D (.lst ys) C=none:=by rw [Qm (Ne.symm hDC)];exact hC
 show wpAny _ _ (assign (.Name y py) X.env (.ref D)) _ _ s'
 refine wpAny_assign_Name (Qcf I' hNd hj hy (show RelV (.ref D) (.ref D) from rfl) (λs3 I3 ⟨a,hsa,ha⟩=>?_) hf)
 have hCa:C≠a:=by
  rcases ha with z | z
  ·rw [z];exact Nat.ne_of_gt (Nat.lt_of_lt_of_le I2.lt hCs)
  ·obtain ⟨v,q⟩:=I2.cell y a z;exact Nat.ne_of_gt (Nat.lt_of_lt_of_le q.lt hCs)
 exact ⟨m,hm.sameBut hsa hCa,λh' hsb=>⟨_,_,I2.blkGone I3 hCs hCn hsb,g D hD⟩⟩
theorem Inv.turnNew {T:Addr} (I:Inv X pins σ H s) (hT:s.heap.objs.size<=T)
  (k:∀b u,b∉ch->s.heap.get? b=some u->h'.get? b=some u) (hch:∀b∈ch,FpOk X pins H b) (new:Yz X.prog X.w (upd H T o) h' T o):Inv X pins σ (upd H T o) { s with heap:=h',toks:=t' }:=by
 have hn:H T=none:=I.hok.fresh hT
 have hg:s.heap.get? T=none:=by
  cases e:s.heap.get? T with
  | none=>rfl
  | some u=>exact absurd (Heap.lt_size e) (Nat.not_lt.mpr hT)
 have u:Un (frs X.stack) ch H H s.heap h':=⟨λb q e _ _ hx=>k b q hx e,λb q e _ _ hx=>⟨q.slots,k b q hx e⟩,λb q e n _=>n,λb q e hx=>⟨q,k b q hx e⟩,λ_ _ e=>e,λ_ _ _ e=>e,λb ps e=>⟨#[],by rw [Array.append_empty];exact e⟩⟩
 have hok:HOk X.prog X.w H h':=λb q e=>(I.hok b q e).stay (λc v hc z=>k c v (λm=>by
  have q1:=(hch c m).1
  rcases hc with rfl | hc
  ·rw [q1] at e;cases e
  ·rw [q1] at hc;cases hc) z) (λ_ z=>z) λ_ _ z=>z
 exact I.call' (s':={ s with heap:=h',toks:=t' }) rfl (u.add hg hn) (hok.add hn new) I.bare λb hb=>⟨(hch b hb).2.2.2.1,(hch b hb).2.1,(hch b hb).2.2.2.2.1,(hch b hb).2.2.2.2.2⟩
theorem Inv.turnAll (I:Inv X pins σ H s)
  (k:∀b u,b∉ch->s.heap.get? b=some u->h'.get? b=some u) (hch:∀b∈ch,FpOk X pins H b):Inv X pins σ H { s with heap:=h',toks:=t' }:=by
 have u:Un (frs X.stack) ch H H s.heap h':=⟨λb q e _ _ hx=>k b q hx e,λb q e _ _ hx=>⟨q.slots,k b q hx e⟩,λb q e n _=>n,λb q e hx=>⟨q,k b q hx e⟩,λ_ _ e=>e,λ_ _ _ e=>e,λb ps e=>⟨#[],by rw [Array.append_empty];exact e⟩⟩
 have hok:HOk X.prog X.w H h':=λb q e=>(I.hok b q e).stay (λc v hc z=>k c v (λm=>by
  have q1:=(hch c m).1
  rcases hc with rfl | hc
  ·rw [q1] at e;cases e
  ·rw [q1] at hc;cases hc) z) (λ_ z=>z) λ_ _ z=>z
 exact I.call' (s':={ s with heap:=h',toks:=t' }) rfl u hok I.bare λb hb=>⟨(hch b hb).2.2.2.1,(hch b hb).2.1,(hch b hb).2.2.2.2.1,(hch b hb).2.2.2.2.2⟩
theorem Qsu {x:Value} (hit:s.heap.IsTupleIter it t i) (ht:s.heap.IsTuple t items) (hx:items[i]? = some x)
  (hQ:∀h',h'.IsTupleIter it t (i+1)->Heap.SameBut it s.heap h'->Q x { s with heap:=h' }):wpAny (model prog w) A (Builtin.SmallTypes.nextOf (.ref it)) Q E s:=by
 obtain ⟨o,ho,hc,hd⟩:=id hit
 obtain ⟨ol,hol,_,nl,hdl⟩:=ht
 unfold Builtin.SmallTypes.nextOf
 refine wpAny_bind (wpAny_callSpecial?_slot (name:=Str.ofString "__next__") hit.typeIs F.slot_tuple_iterator_next (wpAny_call_entry F.slot_tuple_iterator_next hit.typeIs F.entry_tuple_iterator_next ?_ (F.args_tuple_iterator_next_1 _)))
 show wpAny _ _ (field (.ref it) 0 >>= _) _ _ s;refine wpAny_bind (wpAny_field ho hd (x:=.ref t) rfl ?_)
 show wpAny _ _ (if (Value.ref t == Value.none)=true then _ else _) _ _ s;rw [if_neg (show ¬((Value.ref t == Value.none)=true) from Bool.false_ne_true)]
 show wpAny _ _ (field (.ref it) 1 >>= _) _ _ s;refine wpAny_bind (wpAny_field ho hd (x:=.int i 0) rfl ?_)
 show wpAny _ _ (seqItems? (.ref t) >>= _) _ _ s;refine wpAny_bind (wpAny_seqItems hol hdl ?_)
 simp only [Int.toNat_natCast,hx]
 refine wpAny_bind (wpAny_setField ho hd (by simp) (wpAny_pure ⟨x,rfl,wpAny_pure (hQ _ ⟨_,Heap.get?_update_self _ ho (Obj.isFreed_of_fields (Obj.data_mapFields hd _)),(Obj.cls_mapFields ..).trans hc,by rw [Obj.data_mapFields hd];simp [rawInt]⟩ (Heap.SameBut.update ..))⟩))
theorem Qq9 (hh:A.handled=none) (hit:s.heap.IsTupleIter it t i) (ht:s.heap.IsTuple t items) (hx:items[i]? = none)
  (hE:∀h' e,Heap.ExtBut it s.heap h'->(∃o,h'.get? e=some o/\o.cls=.type "StopIteration")->E (.ref e) { s with heap:=h' }):wpAny (model prog w) A (Builtin.SmallTypes.nextOf (.ref it)) Q E s:=by
 obtain ⟨o,ho,hc,hd⟩:=id hit
 obtain ⟨ol,hol,_,nl,hdl⟩:=ht
 unfold Builtin.SmallTypes.nextOf
 refine wpAny_bind (wpAny_callSpecial?_slot (name:=Str.ofString "__next__") hit.typeIs F.slot_tuple_iterator_next (wpAny_call_entry F.slot_tuple_iterator_next hit.typeIs F.entry_tuple_iterator_next ?_ (F.args_tuple_iterator_next_1 _)))
 show wpAny _ _ (field (.ref it) 0 >>= _) _ _ s;refine wpAny_bind (wpAny_field ho hd (x:=.ref t) rfl ?_)
 show wpAny _ _ (if (Value.ref t == Value.none)=true then _ else _) _ _ s;rw [if_neg (show ¬((Value.ref t == Value.none)=true) from Bool.false_ne_true)]
 show wpAny _ _ (field (.ref it) 1 >>= _) _ _ s;refine wpAny_bind (wpAny_field ho hd (x:=.int i 0) rfl ?_)
 show wpAny _ _ (seqItems? (.ref t) >>= _) _ _ s;refine wpAny_bind (wpAny_seqItems hol hdl ?_)
 simp only [Int.toNat_natCast,hx]
 refine wpAny_bind (wpAny_rule (wpAny_bind (wpAny_setField ho hd (by simp) ?_)))
 show wpAny _ _ (newExc (.type "StopIteration") [] >>= _) _ _ _;refine wpAny_bind ?_
 simp only [newExc,newTuple]
 refine wpAny_bind (wpAny_newObj_type ?_ (by size_fits));refine wpAny_bind (m:=firstArgMember _ _) (wpAny_of_eq (a:=Value.none) (by first | rfl | (simp only [firstArgMember];rfl)) ?_)
 refine wpAny_newObj_type ?_ (by size_fits);simp only [raiseNew]
 refine wpAny_bind (wpAny_handled ?_)
 first | rw [show A.in1.handled=none from hh] | rw [hh]
 refine wpAny_bind (wpAny_pure (wpAny_throw (hE _ _ (((Heap.SameBut.update ..).extBut.push _).push _) ⟨_,Heap.get?_push_size _ rfl,rfl⟩)))
theorem Qqk (hh:A.handled=none) (it t:Addr) (hne:t≠it) (items:Array Value) :
  Draws prog w A it [it,t] items.size (λi v=>items[i]? = some v) (λi h=>h.IsTupleIter it t i/\h.IsTuple t items) where
 live:=λ_ _ st=>let ⟨o,ho,_⟩:=st.1;⟨o,ho⟩
 frame:=λ_ _ _ st hk=>⟨st.1.at λo e=>hk it (by simp) o e,let ⟨o,ho,r⟩:=st.2;⟨o,hk t (by simp) o ho,r⟩⟩
 item:=λi s Q E hi st hQ=>Qsu st.1 st.2 (x:=items[i]) (by simp [hi]) λh' hit' hs'=>hQ _ h' s.toks (by simp [hi]) ⟨hit',st.2.extBut hs'.extBut hne⟩ hs'
 done:=λs Q E st hE=>Qq9 hh st.1 st.2 (by simp) hE
open AutoSeq1 (wpAny_loadPart') in
theorem Qqj (l:Addr) (items:Array Value) (n:Nat) (dct:Option Addr) (sl:Array (Option Value)) :
  Meets (Builtin.«enumerate.__new__» ⟨[.type "enumerate",.ref l],[]⟩) (λ_ R s=>s.heap.get? l=some { cls:=.type "tuple",dict:=dct,data:=.seq items n,slots:=sl } /\
   R (.ok (.ret (.ref (s.heap.push { cls:=.type "tuple_iterator",data:=.fields #[.ref l,.int 0 0] }).objs.size)))
    { s with heap:=(s.heap.push { cls:=.type "tuple_iterator",data:=.fields #[.ref l,.int 0 0] }).push { cls:=.type "enumerate",data:=.fields #[.none,.bool false,.ref s.heap.objs.size,rawInt 0,.none,.none] } }) :=
 .of_wp λprog w A R s h=>by
  obtain ⟨hp,g,d,tk,os⟩:=s;obtain ⟨hl,h⟩:=h
  have hsub:=sub_enumerate
  have hL:Heap.IsTuple (Shared.heap ⟨hp,g,d,tk,os⟩) l items:=⟨_,hl,rfl,n,rfl⟩
  wp_walk using wpAny_loadPart' hl
  refine wpAny_stack_any λst=>wpAny_pure ?_
  split
  ·rename_i c _ _ _ _ _
   cases (c == Value.type "enumerate")
   ·wp_walk using wpAny_loadPart' hl,wpAny_pyIter_tuple hL
    exact ⟨_,rfl,h⟩
   ·wp_walk using wpAny_loadPart' hl,wpAny_pyIter_tuple hL
    exact ⟨_,rfl,h⟩
  ·wp_walk using wpAny_loadPart' hl,wpAny_pyIter_tuple hL
   exact ⟨_,rfl,h⟩
theorem Qos {l:Addr} (hL:s.heap.IsTuple l items)
  (h:∀h',IsEnum h' (s.heap.objs.size+1) s.heap.objs.size 0 .none->h'.IsTupleIter s.heap.objs.size l 0->h'.objs.size=s.heap.objs.size+2->(∀b o,s.heap.get? b=some o->h'.get? b=some o)->Q (.ref (s.heap.objs.size+1)) { s with heap:=h' }) :
  wpAny (model prog w) A (call (.type "enumerate") [.ref l]) Q E s:=by
 obtain ⟨⟨c,dct,dt,sl⟩,hl,hc,n,hd⟩:=hL
 obtain rfl:c=.type "tuple":=hc
 obtain rfl:dt=.seq items n:=hd
 refine callType_new F.called_enumerate (by decide) (F.typeCall_enumerate_1 _) (F.newCall_enumerate_1 _) (λobj=>F.args_object_init_2 obj _) F.entry_enumerate_new (Qqj l items n dct sl) ⟨hl,?_⟩
 have hz:(s.heap.push { cls:=.type "tuple_iterator",data:=.fields #[.ref l,.int 0 0] }).objs.size=s.heap.objs.size+1:=Heap.size_push ..
 show _/\_
 rw [hz]
 have he:IsEnum ((s.heap.push { cls:=.type "tuple_iterator",data:=.fields #[.ref l,.int 0 0] }).push
   { cls:=.type "enumerate",data:=.fields #[.none,.bool false,.ref s.heap.objs.size,rawInt 0,.none,.none] }) (s.heap.objs.size+1) s.heap.objs.size 0 .none:=by
  have q:=Heap.get?_push_size (s.heap.push { cls:=.type "tuple_iterator",data:=.fields #[.ref l,.int 0 0] }) (o:={ cls:=.type "enumerate",data:=.fields #[.none,.bool false,.ref s.heap.objs.size,rawInt 0,.none,.none] }) rfl
  rw [hz] at q;exact q
 exact ⟨⟨_,he,rfl⟩,h _ he ⟨_,Heap.get?_push_of_some _ (Heap.get?_push_size _ rfl),rfl,rfl⟩ (by rw [Heap.size_push,hz]) λb o x=>Heap.get?_push_of_some _ (Heap.get?_push_of_some _ x)⟩
def Ite (K:Frag) (a:Addr):It :=
 ⟨λi H=>∃xs x,SqT K H a xs/\xs[i]? = some x,λi H v H'=>∀xs,SqT K H a xs->∃x p,xs[i]? = some x/\v=.ref p/\H p=none/\H'=upd H p (.tup [.int i,x]),λi H=>∃xs,SqT K H a xs/\xs.length<=i⟩
theorem Qlm (a e it:Addr) (hei:e≠it):Turn P w K (.Tuple es kt pt) (Ite K a) [e,it] e (λi h=>(∃old,IsEnum h e it i old)/\h.IsTupleIter it a i) where
 mem:=by simp
 obj:=λi h st b hb=>by
  obtain ⟨⟨old,h1⟩,o,h2,c,d⟩:=st
  rcases List.mem_cons.mp hb with z | z
  ·subst z;exact ⟨_,h1,λv z=>by have z':Data.fields _=Data.cell v:=z;cases z'⟩
  ·have z':b=it:=by simpa using z
   subst z';exact ⟨o,h2,λv z=>by rw [d] at z;cases z⟩
 keep:=λi h h' st k=>⟨let ⟨old,h1⟩:=st.1;⟨old,k e (by simp) _ h1⟩,st.2.at λo q=>k it (by simp) o q⟩
 item:=by
  intro X hP hw hK hc i pins s σ H E I hf st hg
  subst hP hw hK
  obtain ⟨⟨old,he⟩,hit⟩:=st
  obtain ⟨xs,x,hq,hx⟩:=hg
  obtain ⟨its,rv,p,hz⟩:=I.tuple hq
  have hlen:=rv.length
  have hi:i<its.toArray.size:=by rw [List.size_toArray,← hlen];exact (List.getElem?_eq_some_iff.mp hx).1
  have hai:a≠it:=λz=>by
   obtain ⟨o,h1,h2,_⟩:=p
   obtain ⟨o',h1',h2',_⟩:=hit
   rw [z,h1'] at h1;cases h1;rw [h2'] at h2;exact absurd h2 (by decide)
  have hae:e∉[it,a]:=λz=>by
   rcases List.mem_cons.mp z with q | q
   ·exact hei q
   ·have q':e=a:=by simpa using q
    obtain ⟨o,h1,h2,_⟩:=p
    rw [← q',he] at h1;cases h1;exact absurd h2 (by show ¬(Value.type "enumerate" = Value.type "tuple");decide)
  refine wpAny_pyNext_enum_itemD (Qqk (A:=X.A.in1) (I.ok.hd hc) it a hai its.toArray) he ⟨hit,show s.heap.IsTuple a its.toArray from p⟩ hi hei hae λu h' tk hu ho hst' hT hsz hk=>?_
  refine ⟨_,rfl,wpAny_letOwnedTupleGo_enum ho λh2 he2 hs2=>?_⟩
  obtain ⟨u',hu',ru⟩:=rv.get hx
  have euu:u'=u:=by
   have z:its.toArray[i]? = some u:=hu
   have z2:its[i]? = some u:=by simpa using z
   rw [hu'] at z2;exact Option.some.inj z2
  subst euu
  have hTe:s.heap.objs.size≠e:=Nat.ne_of_gt (Heap.lt_size he)
  have hT2:h2.get? s.heap.objs.size=some { cls:=.type "tuple",data:=.seq #[.int i tk,u'] }:=(hs2.2 _ hTe).trans hT
  have hn:H s.heap.objs.size=none:=I.hok.fresh (Nat.le_refl _)
  refine ⟨.ref s.heap.objs.size,upd H s.heap.objs.size (.tup [.int i,x]),I.turnNew (ch:=[e,it]) (t':=tk+1) (Nat.le_refl _) (λb o hb q=>?_) hf ?_,rfl,λys hy=>?_,⟨⟨_,he2⟩,hst'.1.at λo q=>?_⟩,λb hb=>?_⟩
  ·have h1:b≠e:=λz=>hb (by simp [z])
   have h2':b≠it:=λz=>hb (by simp [z])
   exact (hs2.2 b h1).trans (hk b o h1 h2' q)
  ·exact ⟨by show 2<=sizeLine;decide,[.int i tk,u'],.cons ⟨_,rfl⟩ (.cons ru .nil),⟨_,hT2,rfl,_,rfl⟩⟩
  ·rw [I.tuple_inj hy hq]
   exact ⟨x,_,hx,rfl,hn,rfl⟩
  ·exact (hs2.2 it (Ne.symm hei)).trans q
  ·obtain ⟨o,q,_⟩:∃o,s.heap.get? b=some o/\True:=by
    rcases List.mem_cons.mp hb with z | z
    ·exact ⟨_,z ▸ he,trivial⟩
    ·have z':b=it:=by simpa using z
     obtain ⟨o,q,_⟩:=hit
     exact ⟨o,z' ▸ q,trivial⟩
   rw [Qm (Nat.ne_of_lt (Heap.lt_size q))]
   exact (hf b hb).1
 done:=by
  intro X hP hw hK hc i pins s σ H E I hf st hg
  subst hP hw hK
  obtain ⟨⟨old,he⟩,hit⟩:=st
  obtain ⟨xs,hq,hx⟩:=hg
  obtain ⟨its,rv,p,hz⟩:=I.tuple hq
  have hlen:=rv.length
  have hT:s.TypeIs (.ref e) "enumerate":=⟨_,he,rfl⟩
  unfold pyNext
  refine wpAny_bind (wpAny_attempt (wpAny_callSpecial?_slot (name:=Str.ofString "__next__") hT F.slot_enumerate_next (wpAny_call_entry F.slot_enumerate_next hT F.entry_enumerate_next ?_ (F.args_enumerate_next_1 _))))
  show wpAny _ _ (field (.ref e) 2 >>= _) _ _ _;refine wpAny_bind (wpAny_field he rfl (x:=.ref it) rfl ?_)
  refine wpAny_bind (Qq9 (I.ok.hd hc) hit (show s.heap.IsTuple a its.toArray from p) (by simp;omega) λh' x he' hx'=>?_)
  obtain ⟨o,ho,hc⟩:=hx'
  refine wpAny_bind (wpAny_isInstance (T:="StopIteration") (b:=true) ⟨o,ho,hc⟩ isSubtype_stop ?_)
  exact wpAny_pure ⟨rfl,I.turnAll (ch:=[e,it]) (t':=s.toks) (λb u hb q=>he' b u (λz=>hb (by simp [z])) q) hf⟩
 self:=λ_ _ _ _ _ st h=>by
  obtain ⟨⟨old,q⟩,_⟩:=st
  exact wpAny_pyIter_enum q h
def Qy3 (K:Frag) (ta:TA):TI:=λσ H R=>ta σ H λvs H1=>∃a,vs=[.ref a]/\(∃xs,SqT K H1 a xs)/\R (Ite K a) H1
theorem Qtn {a:Expr} (hg:Gl X "enumerate") (hm:X.mg "enumerate" = none) (ha:PA X [a] ta) (hs:starEach [a] X.env=[(false,eval a X.env)]:=by rfl) :
  PI X (.Tuple es kt pt) (.Call (.Name "enumerate" p) [a] [] pos) (Qy3 X.K ta):=by
 intro pins s σ H R I h
 refine Call_ (Qba I hg hm boot_enumerate (PyProof.Rows.callWith_type1 (thn (ha pos pins s σ H _ I h) λus s1 ⟨vs,H1,I1,r1,q1⟩=>?_) hs rfl))
 obtain ⟨x,e,⟨xs,hq⟩,q⟩:=q1
 subst e
 obtain ⟨u,rfl,ru⟩:=Qal r1
 cases ru
 obtain ⟨its,rv,pl,hz⟩:=I1.tuple hq
 refine Qos (show s1.heap.IsTuple x its.toArray from pl) λh' he hit hz kp=>?_
 have I2:Inv X pins σ H1 { s1 with heap:=h' }:=I1.kept (t':=s1.toks) kp
 refine wpAny_pyIter_enum he ⟨s1.heap.objs.size+1,[s1.heap.objs.size+1,s1.heap.objs.size],_,_,H1,rfl,I2,Qlm x _ _ (Nat.ne_of_gt (Nat.lt_succ_self _)),⟨⟨_,he⟩,hit⟩,λb hb=>?_,q⟩
 have hb':s1.heap.objs.size<=b:=by
  rcases List.mem_cons.mp hb with z | z
  ·rw [z];exact Nat.le_succ _
  ·have z':b=s1.heap.objs.size:=by simpa using z
   rw [z'];exact Nat.le_refl _
 exact I1.fpOk hb' (I1.hok.fresh hb')
def Qyf:V->List V->Hp->VK->Prop:=λx vs H Q=>∃a kvs k v,x=.ref a/\vs=[kV k,v]/\H a=some (.dK kvs)/\kvs.length<sizeLine /\
 (∀y,valV kvs k=some y->Q y H)/\(valV kvs k=none->Q v (upd H a (.dK (putK kvs k v))))
theorem Qe3:MtM X "dict.setdefault" Qyf:=by
 intro pins s σ H x vs v us Q I rx rv h
 obtain ⟨a,kvs,k,y,rfl,rfl,hH,hz,q1,q2⟩:=h
 cases rx
 obtain ⟨ku,vu,rfl,rk,ry⟩:=rv.two
 obtain ⟨z,hd,xs,rel,dd⟩:=Quk I.hok hH
 have hl:xs.length<=sizeLine:=by rw [← rel.length];exact z
 refine call_meetsIn PySem.F.slot_dict_setdefault dd.typeIs PySem.F.entry_dict_setdefault (PySem.F.args_dict_setdefault_3 _ _ _) (kt_meets_setdefault (Ym X.prog X.w) a (Qku rk) hd vu) ⟨xs,dd,hl,λw hw=>?_,λhn h' dd' hs=>?_⟩
 ·have ro:=rel.val k
  rw [hw] at ro
  cases e:valV kvs k with
  | none=>rw [e] at ro;exact ro.elim
  | some b=>rw [e] at ro;exact ⟨b,H,I.tok _,ro,q1 b e⟩
 ·have ro:=rel.val k
  rw [hn] at ro
  cases e:valV kvs k with
  | some b=>rw [e] at ro;exact ro.elim
  | none =>
   have hlp:(putK kvs k y).length<=sizeLine:=by have:=Xr kvs k y;omega
   refine ⟨y,upd H a (.dK (putK kvs k y)),Qh9 (t':=s.toks+1) I (by rw [hH];trivial) hs ?_ (Qsb hlp hd (rel.put k ry) dd'),ry,q2 e⟩
   obtain ⟨o,_,_,e',_⟩:=dd'
   exact ⟨o,e'⟩
theorem Qja {α β:Type} {F:α->β->Prop}:∀{l₁:List α} {l₂:List β} {i:Nat} {a:α} {b:β},Paired F l₁ l₂->l₁[i]? = some a->l₂[i]? = some b->F a b
 | _,_,_,_,_,.nil,e,_=>by simp at e
 | _,_,0,_,_,.cons r _,e,e'=>by simp at e e';subst e;subst e';exact r
 | _,_,i+1,_,_,.cons _ t,e,e'=>Qja (i:=i) t (by simpa using e) (by simpa using e')
end L2
namespace L2
open PySem PySem.Spec PyProof.Rows
open PySem.W (Dat kqdP kqdPs kqdOk)
mutual
inductive DV (H:Hp):V->Dat->Prop
 | non:DV H .non .none
 | int (i:Int):DV H (.int i) (.int i)
 | str (x:Str):DV H (.str x) (.str x)
 | tup {a:Addr} {xs:List V} {ds:List Dat} (e:H a=some (.tup xs)) (r:DVs H xs ds):DV H (.ref a) (.tuple ds)
 | lst {a:Addr} {xs:List V} {ds:List Dat} (e:H a=some (.lst xs)) (r:DVs H xs ds):DV H (.ref a) (.list ds)
inductive DVs (H:Hp):List V->List Dat->Prop
 | nil:DVs H [] []
 | cons {x:V} {d:Dat} {xs:List V} {ds:List Dat} (h:DV H x d) (r:DVs H xs ds):DVs H (x::xs) (d::ds)
end
mutual
theorem DV.reads {P:Program} {w:World} {H:Hp} {h:Heap} (ok:HOk P w H h):∀{x:V} {d:Dat} {u:Value},DV H x d->RelV x u->∃as,Reads h u (kqdP d) as
 | _,_,_,.non,r=>by cases r;exact ⟨_,by rw [kqdP];exact Reads.none⟩
 | _,_,_,.int i,r=>by obtain ⟨t,rfl⟩:=r;exact ⟨_,by rw [kqdP];exact Reads.int i t⟩
 | _,_,_,.str x,r=>by obtain ⟨t,rfl⟩:=r;exact ⟨_,by rw [kqdP];exact Reads.str x t⟩
 | _,_,_,.tup (a:=a) e q,r=>by
  cases r
  obtain ⟨_,its,rv,o,h1,h2,n,h3⟩:=ok a _ e
  obtain ⟨as,z⟩:=DVs.reads ok q rv
  rw [kqdP]
  exact ⟨as,reads_tuple_at h1 h2 h3 (by simpa using z)⟩
 | _,_,_,.lst (a:=a) e q,r=>by
  cases r
  obtain ⟨_,its,n,rv,h1⟩:=ok a _ e
  obtain ⟨as,z⟩:=DVs.reads ok q rv
  rw [kqdP]
  exact ⟨_,reads_list_at h1 rfl rfl (by simpa using z)⟩
theorem DVs.reads {P:Program} {w:World} {H:Hp} {h:Heap} (ok:HOk P w H h):∀{xs:List V} {ds:List Dat} {us:List Value},DVs H xs ds->Vals xs us->∃as,ReadsAll h us (kqdPs ds) as
 | _,_,_,.nil,r=>by cases r;exact ⟨_,by rw [kqdPs];exact ReadsAll.nil⟩
 | _,_,_,.cons p q,r=>by
  cases r with
  | cons r1 r2 =>
   obtain ⟨as,z⟩:=DV.reads ok p r1
   obtain ⟨bs,y⟩:=DVs.reads ok q r2
   rw [kqdPs]
   exact ⟨_,ReadsAll.cons z y⟩
end
theorem Xc {d:Dat} (h:kqdOk n d=true) (hn:n<=9):SeqAt.shaped (kqdP d)=true:=by
 have l:=PySem.W.kqd_lay n d h
 unfold SeqAt.shaped
 rw [l.1,Bool.true_and]
 exact decide_eq_true (Nat.le_trans l.2 (Nat.le_trans hn (by decide)))
open Classical in
theorem Qn9 {d e:Dat} (h:kqdOk n d=true) (h':kqdOk k e=true):PyData.eqv (kqdP d) (kqdP e)=decide (d=e):=by
 have q:=PySem.W.kqd_eqv n d e k h h'
 by_cases hq:d=e
 ·rw [decide_eq_true hq];exact q.mpr hq
 ·rw [decide_eq_false hq];exact Bool.eq_false_iff.mpr λx=>hq (q.mp x)
def rDat (neg:Bool):R2:=λx y H Q=>∃d e n,DV H x d/\DV H y e/\kqdOk n d=true/\kqdOk n e=true/\n<=9/\((d=e->Q (.bl (!neg)) H)/\(d≠e->Q (.bl neg) H))
theorem Qwe (hu:X.A.units+64<cLine):OpR X (compareOp .Eq) (rDat false):=by
 classical
 intro pins s σ H x y v u Q I rx ry h
 obtain ⟨d,e,n,dx,dy,hd,he,hn,q1,q2⟩:=h
 obtain ⟨as,ra⟩:=dx.reads I.hok rx
 obtain ⟨bs,rb⟩:=dy.reads I.hok ry
 refine eq_dataH ra rb (Xc hd hn) (Xc he hn) hu ?_
 rw [Qn9 hd he]
 by_cases hq:d=e
 ·rw [decide_eq_true hq];exact ⟨.bl true,H,I,rfl,q1 hq⟩
 ·rw [decide_eq_false hq];exact ⟨.bl false,H,I,rfl,q2 hq⟩
theorem Qwb (hu:X.A.units+64<cLine):OpR X (compareOp .NotEq) (rDat true):=by
 classical
 intro pins s σ H x y v u Q I rx ry h
 obtain ⟨d,e,n,dx,dy,hd,he,hn,q1,q2⟩:=h
 obtain ⟨as,ra⟩:=dx.reads I.hok rx
 obtain ⟨bs,rb⟩:=dy.reads I.hok ry
 refine ne_dataH ra rb (Xc hd hn) (Xc he hn) hu ?_
 rw [Qn9 hd he]
 by_cases hq:d=e
 ·rw [decide_eq_true hq];exact ⟨.bl false,H,I,rfl,q1 hq⟩
 ·rw [decide_eq_false hq];exact ⟨.bl true,H,I,rfl,q2 hq⟩
theorem Qib:V0 X (.builtin "isinstance") (λxs H Q=>∃x T t b,xs=[x,.ty T]/\TyOf X.K H x (.type t)/\kitOne X.K (.type t) (.type T)=some b/\Q (.bl b) H):=by
 intro pins s σ H xs us Q I r h
 obtain ⟨x,T,t,b,rfl,ty,e,q⟩:=h
 obtain ⟨u,c,rfl,ru,rc⟩:=Qlk r
 cases (show c=Value.type T from rc)
 exact Qng I ru ty e λtk=>⟨.bl b,H,I.tok _,rfl,q⟩
end L2
namespace SortT
open PySem PySem.W PyProof.Rows
structure Ord (f:Nat->Nat->Bool):Prop where
 asym:∀i j,f i j=true->f j i=false
 tr:∀i j k,f j i=false->f k j=false->f k i=false
section
variable {f:Nat->Nat->Bool} (O:Ord f)
include O in
abbrev at_ (p:Array Nat) (i:Nat):Nat:=p.getD i 0
end
end SortT
variable {k:L2.Key}
namespace L2
open PySem PySem.Spec PyProof.Rows
theorem Yz.there (x:Yz P w H h a o):∃ob,h.get? a=some ob:=by
 cases o with
 | lst xs=>obtain ⟨_,_,_,_,e⟩:=x;exact ⟨_,e⟩
 | tup xs=>obtain ⟨_,_,_,o,e,_⟩:=x;exact ⟨_,e⟩
 | dK kvs=>obtain ⟨_,_,_,_,o,_,_,e,_⟩:=x;exact ⟨_,e⟩
 | dT kvs=>obtain ⟨_,_,_,_,o,_,_,e,_⟩:=x;exact ⟨_,e⟩
 | set S n=>obtain ⟨o,_,_,_,e,_⟩:=x;exact ⟨_,e⟩
 | ins C dx fs=>obtain ⟨_,_,_,e,_⟩:=x;exact ⟨_,e⟩
 | own y=>exact x
 | xd fs=>obtain ⟨_,⟨_,_,_,e,_⟩,_⟩:=x;exact ⟨_,e⟩
 | rng lo hi=>obtain ⟨_,_,_,e⟩:=x;exact ⟨_,e⟩
 | frz ob u=>obtain ⟨e,_⟩:=x;exact ⟨_,e⟩
 | tbl ps=>obtain ⟨_,e,_⟩:=x;exact ⟨_,e⟩
 | met f y=>exact ⟨_,(show h.get? a=some _ from x)⟩
 | ext φ=>obtain ⟨_,e,_⟩:=x;exact e
theorem Qt5 (h:(Ym P w).is k u=true):RelV (kV k) u:=by
 rw [Qkm] at h
 rcases Yj h with ⟨i,t,rfl,rfl⟩ | ⟨x,t,rfl,rfl⟩
 ·exact ⟨t,rfl⟩
 ·exact ⟨t,rfl⟩
end L2
namespace HT
open PySem PySem.Spec PyProof.Rows L2
theorem Qqu (ht:IsTup s.heap t ([]:List Value).toArray) (hb:IsTup s.heap b ws.toArray) (h1:Q (.ref b) s):wpAny (model prog w) A (binaryOp .Add (.ref t) (.ref b)) Q E s:=by
 obtain ⟨⟨cls,dd,data,sl⟩,ho,hc,n,hd⟩:=id ht
 obtain ⟨⟨cls2,dd2,data2,sl2⟩,ho2,hc2,n2,hd2⟩:=id hb
 simp only at hc hd hc2 hd2
 subst hc hd hc2 hd2
 exact concat_meets ⟨_,ho,rfl⟩ ⟨_,ho2,rfl⟩ noFill_tuple_add seq_tuple_add PySem.F.slot_tuple_add PySem.F.entry_tuple_add (PySem.F.args_tuple_add_2 _ _)
   (tuple_addW0 t b ([]:List Value).toArray ws.toArray n n2 dd dd2 sl sl2 rfl) ⟨ho,ho2,h1⟩
theorem Xt (ht:IsTup s.heap t items) (hs:s.heap.IsSliceOf sl vl vu .none) (pl:IsPart vl lo) (pu:IsPart vu hi)
  (hw:sIx items.size 0 lo=0/\sIx items.size items.size hi=items.size)
  (h:Q (.ref t) s):wpAny (model prog w) A (getItem (.ref t) (.ref sl)) Q E s:=by
 obtain ⟨os,hos,hcs,hds⟩:=id hs
 have hTs:s.TypeIs (.ref sl) "slice":=⟨os,hos,hcs⟩
 unfold getItem
 try with_reducible refine wpAny_holding ?_
 first | refine wpAny_bind (wpAny_pure ?_) | skip
 refine wpAny_bind (wpAny_sequenceKey ht.typeIs (by decide) ?_)
 refine wpAny_bind (wpAny_callSpecial?_slot (name:=Str.ofString "__getitem__") ht.typeIs PyProof.Rows.slot_tuple_getitem
  (wpAny_call_entry PyProof.Rows.slot_tuple_getitem ht.typeIs entry_tuple_getitem ?_ (args_tuple_getitem _ _)))
 show wpAny _ _ (Builtin.Tuple.tupleItemsOf (.ref t) >>= _) _ _ s
 refine wpAny_bind (tupleItemsOf_ ht ?_)
 refine wpAny_bind (wpAny_typeOf hTs ?_)
 rw [if_pos (by decide)]
 refine wpAny_bind (U0 hs pl pu ?_)
 have hyes:(((sIx items.size 0 lo:Nat):Int) == 0 && (1:Int) == 1 && (sIx items.size items.size hi-sIx items.size 0 lo) == items.size)=true:=by
  rw [hw.1,hw.2];simp
 show wpAny _ _ (if (((sIx items.size 0 lo:Nat):Int) == 0 && (1:Int) == 1 && (sIx items.size items.size hi-sIx items.size 0 lo) == items.size)=true then _ else _) _ _ s
 rw [if_pos hyes]
 refine wpAny_bind (wpAny_bind (wpAny_typeOf ht.typeIs (wpAny_pure ?_)))
 rw [if_pos (by decide)]
 refine wpAny_bind (wpAny_rule ?_)
 first
  | exact wpAny_bind (wpAny_pure (wpAny_pure ⟨_,rfl,wpAny_pure h⟩))
  | exact wpAny_pure ⟨_,rfl,wpAny_pure h⟩
  | exact wpAny_bind (wpAny_pure ⟨_,rfl,wpAny_pure h⟩)
end HT
variable {o:PySem.Obj}
namespace L2
open PySem PySem.Spec PyProof.Rows
def Qyi (K:Frag):R2:=λx y H Q=>∃a b ys,x=.ref a/\y=.ref b/\SqT K H a []/\SqT K H b ys/\Q (.ref b) H
theorem Qtw:OpR X (binaryOp .Add) (Qyi X.K):=by
 intro pins s σ H x y v u Q I rx ry h
 obtain ⟨a,b,ys,rfl,rfl,ha,hb,q⟩:=h
 cases rx
 cases ry
 obtain ⟨its,r1,p1,_⟩:=I.tuple ha
 obtain ⟨its2,r2,p2,_⟩:=I.tuple hb
 have:its=[]:=by cases r1;rfl
 subst this
 exact HT.Qqu p1 p2 ⟨.ref b,H,I,rfl,q⟩
def rSlW (K:Frag):V->Option Int->Option Int->Hp->VK->Prop:=λx lo hi H Q=>∃a xs,x=.ref a/\SqT K H a xs /\
 (HT.sIx xs.length 0 lo=0/\HT.sIx xs.length xs.length hi=xs.length)/\Q (.ref a) H
theorem Qs0:SlR X (rSlW X.K):=by
 intro pins s σ H x v vl vu lo hi sl Q I rx hs pl pu h
 obtain ⟨a,xs,rfl,hx,hw,q⟩:=h
 cases rx
 obtain ⟨its,r,ht,hz⟩:=I.tuple hx
 have hlen:its.toArray.size=xs.length:=by rw [List.size_toArray];exact r.length.symm
 refine ⟨"tuple",_,PyProof.Rows.slot_tuple_getitem.lookup,ht.typeIs,?_⟩
 exact HT.Xt ht hs pl pu (by rw [hlen];exact hw) ⟨.ref a,H,I,rfl,q⟩
theorem Qjn:∀{ns:List Int} {its:List Value},Vals (ns.map V.int) its->IntsAre its ns
 | [],_,r=>by rw [List.map_nil] at r;cases r;exact .nil
 | n::ns,_,r=>by
  rw [List.map_cons] at r
  cases r with
  | cons h t=>obtain ⟨tk,rfl⟩:=h;exact .cons n tk (Qjn t)
section
variable {t:TA}
def isN (n:Int):Value->Bool
 | .int m _=>m == n
 | _=>false
theorem Qc4 {n:Int}:∀{its:List Value} {ns:List Int},IntsAre its ns->its.countP (isN n)=ns.count n
 | _,_,.nil=>rfl
 | _,_,.cons m t h=>by
  rw [List.countP_cons,List.count_cons,Qc4 h]
  rfl
theorem Qnh (h:IntsAre its ns):∀v∈its,∃m t,v=Value.int m t:=by
 induction h with
 | nil=>intro v hv;cases hv
 | cons n t h ih =>
  intro v hv
  rcases List.mem_cons.mp hv with rfl | hv
  ·exact ⟨n,t,rfl⟩
  ·exact ih v hv
end
def Qlq (ts:List Str) (wi:TI) (gt:TG) (tt:TT) (te:TE) (ix:List Nat):TE:=λσ H Q=>wi σ H λJ H1=>∃(W:Nat->Nat->List V->Hp->Prop) (m₀:Nat),W 0 m₀ [] H1 /\
 ∀i m ys H,W i m ys H->(J.stop i H/\ys.length<=sizeLine/\∀l,H l=none->Q (.ref l) (upd H l (.lst ys)))\/(J.go i H/\ys.length<sizeLine/\∀v H',J.yld i H v H'->∀o:List (Option V),o.length=ts.length->gt v (bS2 σ o ix) H' λσ2 H2=>∃o2:List (Option V),σ2=bS2 σ o2 ix/\o2.length=ts.length /\
  tt σ2 H2 λb H1=>if b=true then te σ2 H1 λy H2=>∃m',m' < m/\W (i+1) m' (ys++[y]) H2 else ∃m',m' < m/\W (i+1) m' ys H1)
theorem Qpj (ix:List Nat) (hc:X.calm=true) (B:BlkScope X.env scope x)
  (hNd:X.N.Nodup) (hj:X.N[j]? = some y) (hy:Loc X.env.scope y)
  (hsw:swapsWith (.ListComp elt [⟨tg,iter,ifs,0⟩] scope pos) (some (.Name y py)) spos.line X.env=pure true)
  (hix:∀i∈ix,∃y,X.N[i]? = some y/\scope.names.lookup y=some .free) (hN:(bN2 X.N ts ix).Nodup) (hi:PI X tg iter wi)
  (hg:∀cl C s₀ H₀ fp,PG (Yn X scope cl C (bN2 X.N ts ix) s₀ H₀ fp) tg gt)
  (ht:∀cl C s₀ H₀ fp,PIfs (Yn X scope cl C (bN2 X.N ts ix) s₀ H₀ fp) ifs tt)
  (he:∀cl C s₀ H₀ fp,PE (Yn X scope cl C (bN2 X.N ts ix) s₀ H₀ fp) elt te)
  (hf:X.fn y=true\/X.env.scope.names.lookup y=some .local:=by first | exact .inl rfl | exact .inr rfl | assumption)
  (hs:∀x,foldedSetIterable iter X.env x=pure x:=by intro _;rfl) :
  PS X (.Assign [.Name y py] (.ListComp elt [⟨tg,iter,ifs,0⟩] scope pos) spos) (tAsg (Qlq ts wi gt tt te ix) (Qdi j)):=by
 intro pins s σ H D0 I h
 obtain ⟨cl,hcl,h1,h3⟩:=Us (Qbu I B)
 rw [exec_Assign_Name_used _ _ _ _ hsw]
 refine wpAny_bind (wpAny_standAt (wpAny_bind ?_))
 show wpAny _ X.A (do let _ ← comprehension (.ListComp elt [⟨tg,iter,ifs,0⟩] scope pos) scope X.env _ (newList []) false (eval iter X.env) (some (assign (.Name y py) X.env))) _ _ s
 refine wpAny_bind (wpAny_mono (wpAny_comprehension_free (use:=some (assign (.Name y py) X.env)) (Q:=λ_ s'=>SP X pins D0 .next s') rfl hs hcl B.kind B.names
  (thn (hi pins s σ H _ I h) λv s1 h1'=>thn h1' λitv s2 h2=>?_)) (λ_ s' hq=>wpAny_pure (wpAny_pure hq)) λ_ _ e=>e)
 obtain ⟨it,fp,tn,J,H2,e,I2,T,st2,f2,W,m0,w0,turn⟩:=h2
 subst e
 refine Qgk (G:=λys H'=>∀l,H' l=none->Qdi j (.ref l) σ (upd H' l (.lst ys)) D0.nx) I2 hc B h1 h3 hix hN T st2 f2 hg he ht W m0 w0 turn λD C s' ys H' I' hD hC hm hCs hDC g=>?_
 obtain ⟨m,hm⟩:=hm
 have hCn:upd H' D (.lst ys) C=none:=by rw [Qm (Ne.symm hDC)];exact hC
 show wpAny _ _ (assign (.Name y py) X.env (.ref D)) _ _ s'
 refine wpAny_assign_Name (Qcf I' hNd hj hy (show RelV (.ref D) (.ref D) from rfl) (λs3 I3 ⟨a,hsa,ha⟩=>?_) hf)
 have hCa:C≠a:=by
  rcases ha with z | z
  ·rw [z];exact Nat.ne_of_gt (Nat.lt_of_lt_of_le I2.lt hCs)
  ·obtain ⟨v,q⟩:=I2.cell y a z;exact Nat.ne_of_gt (Nat.lt_of_lt_of_le q.lt hCs)
 exact ⟨m,hm.sameBut hsa hCa,λh' hsb=>⟨_,_,I2.blkGone I3 hCs hCn hsb,g D hD⟩⟩
theorem Qdv:∀{bs:List Bool} {its:List Value},Vals (bs.map V.bl) its->its=bs.map Value.bool
 | [],_,r=>by rw [List.map_nil] at r;cases r;rfl
 | b::bs,_,r=>by
  rw [List.map_cons] at r
  cases r with
  | cons h t=>rw [Qdv t];cases h;rfl
def rAll:List V->Hp->VK->Prop:=λxs H Q=>∃(l:Addr) (bs:List Bool),xs=[.ref l]/\H l=some (.lst (bs.map V.bl))/\Q (.bl (bs.all id)) H
theorem Qqx (hc:X.calm=true):V0 X (.builtin "all") rAll:=by
 intro pins s σ H xs us Q I r h
 obtain ⟨l,bs,rfl,hl,q⟩:=h
 obtain ⟨u,rfl,ru⟩:=Qal r
 cases ru
 obtain ⟨z,its,n,rv,e⟩:=I.hok l _ hl
 have eits:=Qdv rv
 subst eits
 have hlist:s.heap.IsList l (bs.map Value.bool).toArray:=⟨_,e,rfl,n,rfl⟩
 refine call_all_walk (wpAny_pyIter_list hlist ?_)
 have hlt:l<s.heap.objs.size:=Heap.lt_size e
 refine ⟨_,_,_,_,_,_,λi=>bs.getD i false,rfl,Walks.list (A:=X.A.in1) (I.ok.hd hc) _ l (Nat.ne_of_lt hlt) (bs.map Value.bool).toArray,⟨⟨_,Heap.get?_push_size _ rfl,rfl,rfl⟩,hlist.push _⟩,?_,λh' tk hk=>?_⟩
 ·intro i v A' s' Q' hP hQ
  have hv:(bs.map Value.bool)[i]? = some v:=by simpa using hP
  rw [List.getElem?_map] at hv
  cases hb:bs[i]? with
  | none=>rw [hb] at hv;cases hv
  | some b =>
   rw [hb] at hv
   cases hv
   have:bs.getD i false=b:=by simp [List.getD_eq_getElem?_getD,hb]
   have hQ:s' (bs.getD i false) A':=hQ
   rw [this] at hQ
   exact wpAny_pure hQ
 ·refine ⟨.bl (bs.all id),H,I.kept (t':=tk) λb o eb=>hk b o (λhm=>?_) (Heap.get?_push_of_some _ eb),?_,q⟩
  ·rw [List.mem_singleton.mp hm] at eb
   exact absurd (Heap.lt_size eb) (Nat.lt_irrefl _)
  ·show Value.bool _=Value.bool _
   congr 1
   rw [List.size_toArray,List.length_map]
   rw [show (List.range bs.length).all (λi=>bs.getD i false)=((List.range bs.length).map λi=>bs.getD i false).all id by rw [List.all_map];rfl]
   congr 1
   apply List.ext_getElem
   ·simp
   ·intro i h1 h2
    simp only [List.length_map,List.length_range] at h1
    simp [List.getD_eq_getElem?_getD,h1]
end L2
variable {l:PySem.Addr}
namespace L2
open PySem PySem.Spec PyProof.Rows
open Builtin.Str (glued partsBetween occurrences tooLong strSub)
theorem Qfj:∀{ws:List Str} {its:List Value},Vals (ws.map V.str) its->∃l:List (Str × Tok),its=strValues l/\l.map (·.1)=ws
 | [],_,r=>by rw [List.map_nil] at r;cases r;exact ⟨[],rfl,rfl⟩
 | w::ws,_,r=>by
  rw [List.map_cons] at r
  cases r with
  | cons h t =>
   obtain ⟨tk,rfl⟩:=h
   obtain ⟨l,rfl,e⟩:=Qfj t
   exact ⟨(w,tk)::l,rfl,by rw [List.map_cons,e]⟩
theorem Qaa:∀(ws:List Str) (tk:Nat),Vals (ws.map V.str) (strsFrom tk ws)
 | [],_=>.nil
 | w::ws,tk=>.cons ⟨tk,rfl⟩ (Qaa ws (tk+1))
def Qyg (K:Frag):V->List V->Hp->VK->Prop:=λx vs H Q=>∃(sep:Str) (l:Addr) (ws:List Str),x=.str sep/\vs=[.ref l]/\SqL K H l (ws.map V.str) /\
 tooLong (ws.toArray.foldl (λn w=>n+w.length+sep.length) 0)=false/\(glued sep ws).length<=sizeLine/\Q (.str (glued sep ws)) H
theorem Qtz:MtM X "str.join" (Qyg X.K):=by
 intro pins s σ H x vs v us Q I rx rv h
 obtain ⟨sep,l,ws,rfl,rfl,hl,hz,hz2,q⟩:=h
 obtain ⟨t,rfl⟩:=rx
 obtain ⟨u,rfl,ru⟩:=rv.one
 cases ru
 obtain ⟨its,r',pl,_⟩:=I.list hl
 obtain ⟨lv,rfl,hlv⟩:=Qfj r'
 refine call_meets PySem.F.slot_str_join (typeIs_str s sep t) PySem.F.entry_str_join (PySem.F.args_str_join_2 _ _) (meets_str_join_list sep t l lv (by rw [hlv];exact hz)) ⟨pl.isList,?_⟩
 match lv,hlv with
 | [],hlv =>
  subst hlv
  exact ⟨hz2,.str (glued sep []),H,I.tok _,⟨_,rfl⟩,q⟩
 | [p],hlv =>
  subst hlv
  exact ⟨.str p.1,H,I,⟨_,rfl⟩,q⟩
 | p::p'::r,hlv =>
  subst hlv
  exact ⟨hz2,.str (glued sep _),H,I.tok _,⟨_,rfl⟩,q⟩
def Uf (x sep:Str):List Str:=partsBetween x (occurrences x sep 0 x.length (x.length+1)) sep.length
def Qvt:V->List V->Hp->VK->Prop:=λx vs H Q=>∃(y sep:Str),x=.str y/\vs=[.str sep]/\sep.length=1/\Builtin.Str.strKind sep=1/\0<y.length/\y.length<=sizeLine/\(Uf y sep).length<=sizeLine /\
 ∀l,H l=none->Q (.ref l) (upd H l (.lst ((Uf y sep).map V.str)))
theorem Qp4 (x:Str):1<=Builtin.Str.strKind x:=by
 unfold Builtin.Str.strKind
 split
 ·decide
 ·split <;> decide
theorem Qp1:MtM X "str.split" Qvt:=by
 intro pins s σ H x vs v us Q I rx rv h
 obtain ⟨y,sep,rfl,rfl,h1,hk,hy,hz,hn,q⟩:=h
 obtain ⟨t,rfl⟩:=rx
 obtain ⟨u,rfl,tu,rfl⟩:=rv.one
 have hc:(decide (y.length<sep.length) || decide (Builtin.Str.strKind y<Builtin.Str.strKind sep))=false:=by
  have:=Qp4 y
  rw [hk,h1]
  simp;omega
 have h0:(sep.length == 0)=false:=by rw [h1];rfl
 have fin:∀(its:List Value) (h':Heap) (tk:Nat),h'=s.heap.push { cls:=.type "list",data:=.seq its.toArray }->Vals ((Uf y sep).map V.str) its->EP X pins σ Q (.ref s.heap.objs.size) { s with heap:=h',toks:=tk }:=λits h' tk eh rv=>by
  subst eh
  refine ⟨.ref s.heap.objs.size,_,I.laid (o:=.lst ((Uf y sep).map V.str)) (t':=tk) (λb o e=>Heap.get?_push_of_some _ e) (Nat.le_refl _) ?_,rfl,q _ (I.hok.fresh (Nat.le_refl _))⟩
  exact ⟨by rw [List.length_map];exact hn,its,0,rv,Heap.get?_push_size _ rfl⟩
 cases he:(occurrences y sep 0 y.length (y.length+1)).isEmpty with
 | true =>
  have e:Uf y sep=[y]:=by
   unfold Uf
   rw [List.isEmpty_iff.mp he]
   simp [partsBetween,strSub_whole]
  refine call_meets PySem.F.slot_str_split (typeIs_str s y t) PySem.F.entry_str_split (PySem.F.args_str_split_2 _ _) (meets_str_split_not_found y sep t tu hc h0 he) ?_
  exact fin [.str y t] _ s.toks rfl (by rw [e];exact .cons ⟨t,rfl⟩ .nil)
 | false =>
  refine call_meets PySem.F.slot_str_split (typeIs_str s y t) PySem.F.entry_str_split (PySem.F.args_str_split_2 _ _) (meets_str_split_sep y sep t tu hc h0 he hz hn) ?_
  exact fin (strsFrom s.toks (Uf y sep)) _ _ rfl (Qaa _ _)
theorem Qop:V0 X (.type "int") (λxs H Q=>∃x n,xs=[.str x]/\PySem.intText? x=some n/\x.length<=640/\Q (.int n) H):=by
 intro pins s σ H xs us Q I r h
 obtain ⟨x,n,rfl,hn,hl,q⟩:=h
 obtain ⟨u,rfl,t,rfl⟩:=Qal r
 exact PySem.W.KIN.call_text hn hl ⟨.int n,H,I.tok _,⟨_,rfl⟩,q⟩
def Its (x:Str):It:=⟨λi _=>i<x.cps.size,λi H v H'=>H'=H/\∃c,x.cps[i]? = some c/\v=.str ⟨#[c]⟩,λi _=>x.cps.size<=i⟩
theorem Qw3 {ty:String} {t:Tok} (y:h.IsStrIter a ty x t i) (k:∀o,h.get? a=some o->h'.get? a=some o):h'.IsStrIter a ty x t i:=let ⟨o,ho,r⟩:=y;⟨o,k o ho,r⟩
theorem Qo7 (x:Str) (t:Tok) (it:Addr):Turn P w K tg (Its x) [it] it (λi h=>h.IsStrIter it "str_ascii_iterator" x t i) where
 mem:=by simp
 obj:=λi h st b hb=>by
  have e:b=it:=by simpa using hb
  subst e
  obtain ⟨o,e,c,d⟩:=st
  exact ⟨o,e,λv z=>by rw [d] at z;cases z⟩
 keep:=λi h h' st k=>Qw3 st λo e=>k it (by simp) o e
 item:=by
  intro X hP hw hK hc i pins s σ H E I hf st hg
  subst hP hw hK
  have hx:x.cps[i]? = some x.cps[i]:=Array.getElem?_eq_getElem hg
  obtain ⟨f0,f1,f2,f3,f4,f5⟩:=hf it (by simp)
  refine wpAny_pyNext_ascii_item st hx λh' st' sb=>?_
  have I1:Inv X pins σ H { s with heap:=h',toks:=s.toks+1 }:=I.turned (t':=s.toks+1) (λb o hb e=>(sb.2 b hb).trans e) f0 f1 f3 f4 f5
  obtain ⟨o,e,c,d⟩:=id st'
  exact ⟨_,rfl,Qkx (s:={ s with heap:=h',toks:=s.toks+1 }) e c d (by decide) ⟨.str ⟨#[x.cps[i]]⟩,H,I1,⟨_,rfl⟩,⟨rfl,_,hx,rfl⟩,st',λb hb=>(hf b hb).1⟩⟩
 done:=by
  intro X hP hw hK hc i pins s σ H E I hf st hg
  subst hP hw hK
  obtain ⟨f0,f1,f2,f3,f4,f5⟩:=hf it (by simp)
  exact wpAny_pyNext_ascii_end (I.ok.hd hc) st (Array.getElem?_eq_none hg) λh' eb=>⟨rfl,I.turned (t':=s.toks) (λb o hb e=>eb b o hb e) f0 f1 f3 f4 f5⟩
 self:=λ_ _ _ _ _ st h=>wpAny_pyIter_striter_ascii st h
theorem Qvz {l:Expr} {tl:TE} (hl:PE X l tl):PI X tg l (λσ H R=>tl σ H λv H1=>∃x,v=.str x/\x.cps.all (· < 128)=true/\R (Its x) H1):=by
 intro pins s σ H R I h
 refine thn (hl pins s σ H _ I h) λv s1 ⟨u,H1,I1,r1,q1⟩=>?_
 obtain ⟨x,rfl,ha,q⟩:=q1
 obtain ⟨t,rfl⟩:=r1
 refine wpAny_pyIter_ascii ha ?_
 refine ⟨s1.heap.objs.size,[s1.heap.objs.size],_,_,H1,rfl,I1.kept (t':=s1.toks) λb o e=>Heap.get?_push_of_some _ e,Qo7 x t _,⟨_,Heap.get?_push_size _ rfl,rfl,rfl⟩,λb hb=>?_,q⟩
 have e:b=s1.heap.objs.size:=by simpa using hb
 subst e
 exact I1.fpOk (Nat.le_refl _) (I1.hok.fresh (Nat.le_refl _))
end L2
namespace L2
open PySem PySem.Spec PyProof.Rows
def Iti (d:Addr) (o:Obj) (kvs:List (Key × V)):It :=
 ⟨λi H=>H d=some (.frz o (.dK kvs))/\i<kvs.length,λi H v H'=>∃k y p,kvs[i]? = some (k,y)/\v=.ref p/\H p=none/\H'=upd H p (.tup [kV k,y]),λi H=>H d=some (.frz o (.dK kvs))/\kvs.length<=i⟩
theorem Qkb (d it:Addr) (ob:Obj) (kvs:List (Key × V)) (vs:List (Key × Value)) (ep:Nat) (rel:KV kvs vs) (hdi:d≠it)
  (hd:∀h:Heap,h.get? d=some ob->h.DictAt (Ym P w) d vs ep) :
  Turn P w K (.Tuple es kt pt) (Iti d ob kvs) [it] it (λi h=>∃ok ov,IsItemIter h it d i vs.length ep ok ov) where
 mem:=by simp
 obj:=λi h st b hb=>by
  have e:b=it:=by simpa using hb
  subst e
  obtain ⟨ok,ov,st⟩:=st
  exact ⟨_,st,λv z=>by have z':Data.fields _=Data.cell v:=z;cases z'⟩
 keep:=λi h h' st k=>by
  obtain ⟨ok,ov,st⟩:=st
  exact ⟨ok,ov,k it (by simp) _ st⟩
 item:=by
  intro X hP hw hK hc i pins s σ H E I hf st hg
  subst hP hw hK
  obtain ⟨ok,ov,st⟩:=st
  obtain ⟨hH,hlt⟩:=hg
  obtain ⟨e1,_⟩:=I.hok d _ hH
  obtain ⟨⟨k,y⟩,hk⟩:∃p,kvs[i]? = some p:=⟨kvs[i],by simp [hlt]⟩
  have hlen:kvs.length=vs.length:=Paired.length rel
  obtain ⟨⟨k',u⟩,hu⟩:∃p,vs[i]? = some p:=⟨vs[i]'(by omega),by simp [show i<vs.length by omega]⟩
  obtain ⟨rk,ry⟩:=Qja rel hk hu
  have rk:k=k':=rk
  subst rk
  have hlti:it<s.heap.objs.size:=Heap.lt_size st
  refine wpAny_pyNext_items_item st (hd _ e1) hu λkey h' hkey ho hT hsz kp=>⟨_,rfl,wpAny_letOwnedTupleGo_items ho λh2 he2 hs2=>?_⟩
  have hn:H s.heap.objs.size=none:=I.hok.fresh (Nat.le_refl _)
  have hT2:=hs2.extBut _ _ (Nat.ne_of_gt hlti) hT
  refine ⟨.ref s.heap.objs.size,upd H s.heap.objs.size (.tup [kV k,y]),I.turnNew (ch:=[it]) (t':=s.toks) (Nat.le_refl _) (λb o hb q=>?_) hf ?_,rfl,⟨k,y,_,hk,rfl,hn,rfl⟩,⟨_,_,he2⟩,λb hb=>?_⟩
  ·have hb':b≠it:=λz=>hb (by simp [z])
   exact hs2.extBut _ _ hb' (kp b o hb' q)
  ·exact ⟨by show 2<=sizeLine;decide,[key,u],.cons (Qt5 hkey) (.cons ry .nil),⟨_,hT2,rfl,_,rfl⟩⟩
  ·have e:b=it:=by simpa using hb
   subst e
   rw [Qm (Nat.ne_of_lt hlti)]
   exact (hf b hb).1
 done:=by
  intro X hP hw hK hc i pins s σ H E I hf st hg
  subst hP hw hK
  obtain ⟨ok,ov,st⟩:=st
  obtain ⟨hH,hge⟩:=hg
  obtain ⟨e1,_⟩:=I.hok d _ hH
  have hlen:kvs.length=vs.length:=Paired.length rel
  obtain ⟨f0,f1,f2,f3,f4,f5⟩:=hf it (by simp)
  exact wpAny_pyNext_items_end (I.ok.hd hc) st (hd _ e1) (List.getElem?_eq_none (by omega)) λh' eb=>⟨rfl,I.turned (t':=s.toks) (λb o hb e=>eb b o hb e) f0 f1 f3 f4 f5⟩
 self:=λA i s Q E st h=>by
  obtain ⟨ok,ov,st⟩:=st
  have hT:s.TypeIs (.ref it) "dict_itemiterator":=⟨_,st,rfl⟩
  refine wpAny_pyIter_slot hT PySem.F.slot_dict_itemiterator_iter (wpAny_call_entry PySem.F.slot_dict_itemiterator_iter hT PySem.W.kcp_entry ?_ (PySem.F.args_dict_itemiterator_iter_1 _))
  show wpAny _ _ (ret (.ref it)) _ _ s
  exact wpAny_pure ⟨_,rfl,"dict_itemiterator",_,hT,PySem.F.slot_dict_itemiterator_next.lookup,h⟩
def Qw6 (to:TE):TI:=λσ H R=>to σ H λx H1=>∃d kvs,x=.ref d/\H1 d=some (.dK kvs)/\∀o,R (Iti d o kvs) (upd H1 d (.frz o (.dK kvs)))
theorem Qpn {o:Expr} (ho:PE X o to) (hbase:attributeBase o "items" X.env (eval o X.env)=eval o X.env:=by rfl) (hline:(apos.endLine == cpos.line)=true:=by rfl) :
  PI X (.Tuple es kt pt) (.Call (.Attribute o "items" apos) [] [] cpos) (Qw6 to):=by
 intro pins s σ H R I h
 refine wpAny_Call_method0_late hbase hline (thn (ho pins s σ H _ I h) λv s1 ⟨x,H1,I1,r1,d,kvs,e,hd,q⟩=>?_)
 subst e
 cases r1
 obtain ⟨h1,h2⟩:=Qq8 (T:="dict") I1 (show RelV (.ref d) (.ref d) from rfl) (.inr (.inr (.inl ⟨rfl,.inl ⟨kvs,hd⟩⟩)))
 refine ⟨"dict",_,PySem.F.plainAttrs_dict,PySem.F.slot_dict_items,PySem.F.type_dict_items,h1,h2,Calls.callWith_builtin rfl (PySem.evalArgs_none ?_)⟩
 obtain ⟨z,hs,vs,rel,dd⟩:=Quk I1.hok hd
 refine call_meetsIn PySem.F.slot_dict_items dd.typeIs PySem.F.entry_dict_items (PySem.F.args_dict_items_1 _) (meets_dict_items (Ym X.prog X.w) d hs) ⟨⟨vs,dd⟩,?_⟩
 have I2:Inv X pins σ H1 { s1 with heap:=s1.heap.push { cls:=.type "dict_items",data:=.fields #[.ref d] } }:=I1.kept (t':=s1.toks) λb u e=>Heap.get?_push_of_some _ e
 obtain ⟨ep,da⟩:=dd.dictAt
 obtain ⟨ob,es',hob,dr⟩:=id da
 have hob2:(s1.heap.push { cls:=.type "dict_items",data:=.fields #[.ref d] }).get? d=some ob:=Heap.get?_push_of_some _ hob
 refine wpAny_pyIter_items (knd:=Ym X.prog X.w) (d:=d) (kvs:=vs) (ep:=ep) ⟨_,Heap.get?_push_size _ rfl,rfl,rfl⟩ ⟨ob,es',hob2,dr⟩ ?_
 have I3:=I2.kept (h':=(s1.heap.push { cls:=.type "dict_items",data:=.fields #[.ref d] }).push { cls:=.type "dict_itemiterator",data:=.fields #[.none,.bool false,.ref d,.int 0 0,.int vs.length 0,.int ep 0,.none,.none] }) (t':=s1.toks) λb u e=>Heap.get?_push_of_some _ e
 have hob3:=Heap.get?_push_of_some (h:=s1.heap.push { cls:=.type "dict_items",data:=.fields #[.ref d] }) { cls:=.type "dict_itemiterator",data:=.fields #[.none,.bool false,.ref d,.int 0 0,.int vs.length 0,.int ep 0,.none,.none] } hob2
 have I4:=I3.write (x:=d) (e:=d) (o:=.frz ob (.dK kvs)) (t':=s1.toks) (by rw [hd];trivial) (.inl rfl) (λb u _ q=>q) ⟨_,hob3⟩
  (show Yz X.prog X.w _ _ d (.frz ob (.dK kvs)) from ⟨hob3,z,hs,vs,rel,ob,es',ep,hob3,dr⟩)
 have hlt:d<(s1.heap.push { cls:=.type "dict_items",data:=.fields #[.ref d] }).objs.size:=Heap.lt_size hob2
 refine ⟨(s1.heap.push { cls:=.type "dict_items",data:=.fields #[.ref d] }).objs.size,[(s1.heap.push { cls:=.type "dict_items",data:=.fields #[.ref d] }).objs.size],_,_,_,rfl,I4,
  Qkb d _ ob kvs vs ep rel (Nat.ne_of_lt hlt) (λh e=>⟨ob,es',e,dr⟩),⟨_,_,Heap.get?_push_size _ rfl⟩,λb hb=>?_,q ob⟩
 have e:b=(s1.heap.push { cls:=.type "dict_items",data:=.fields #[.ref d] }).objs.size:=by simpa using hb
 subst e
 exact I2.fpOk (Nat.le_refl _) (by rw [Qm (Nat.ne_of_gt hlt)];exact I2.hok.fresh (Nat.le_refl _))
end L2
namespace Srt
open PySem PyProof.Rows PySem.SeqAt
open PySem.AutoSeq1 (wpAny_loadPart')
open PySem.MeetsSeq PySem.MeetsSeq2 PySem.MeetsSeq3
theorem Qnh (h:IntsAre vs ns):∀{i:Nat} (hi:i<ns.length),∃t,vs[i]? = some (.int ns[i] t):=by
 induction h with
 | nil=>intro i hi;exact absurd hi (Nat.not_lt_zero _)
 | cons n t _ ih =>
  intro i hi
  cases i with
  | zero=>exact ⟨t,rfl⟩
  | succ i=>obtain ⟨u,hu⟩:=ih (i:=i) (by simpa using hi);exact ⟨u,by simpa using hu⟩
end Srt
namespace L2
open PySem PySem.Spec PyProof.Rows
def ItrS (lo c:Int) (n:Nat):It:=⟨λi _=>i<n,λi H x H'=>H'=H/\x=.int (lo+(i:Int)*c),λi _=>n<=i⟩
theorem Qg9 (it:Addr) (lo c:Int) (n:Nat):Turn P w K tg (ItrS lo c n) [it] it (λi h=>IsRangeIter h it (lo+(i:Nat)*c) ((n:Int)-(i:Nat)) c) where
 mem:=by simp
 obj:=λi h st b hb=>by
  have e:b=it:=by simpa using hb
  subst e
  exact ⟨_,st,λv z=>by
   have z':Data.fields _=Data.cell v:=z
   cases z'⟩
 keep:=λi h h' st k=>k it (by simp) _ st
 item:=by
  intro X hP hw hK hc i pins s σ H E I hf st hg
  subst hP hw hK
  obtain ⟨f0,f1,f2,f3,f4,f5⟩:=hf it (by simp)
  have W:=Walks.range (prog:=X.prog) (w:=X.w) (I.ok.hd hc) it lo c n
  refine W.item i s _ _ hg st λv h' tk hv st' kk=>?_
  obtain ⟨t,rfl⟩:=hv
  have I1:Inv X pins σ H { s with heap:=h',toks:=tk }:=I.turned (λb o hb e=>kk b o (by simpa using hb) e) f0 f1 f3 f4 f5
  exact ⟨_,rfl,Qkx (s:={ s with heap:=h',toks:=tk }) (n:="range_iterator") st' rfl rfl (by decide) ⟨.int (lo+(i:Int)*c),H,I1,⟨t,rfl⟩,⟨rfl,rfl⟩,st',λb hb=>(hf b hb).1⟩⟩
 done:=by
  intro X hP hw hK hc i pins s σ H E I hf st hg
  subst hP hw hK
  obtain ⟨f0,f1,f2,f3,f4,f5⟩:=hf it (by simp)
  exact wpAny_pyNext_range_end (I.ok.hd hc) st (by have:n<=i:=hg;omega) λh' eb=>⟨rfl,I.turned (t':=s.toks) (λb o hb e=>eb b o hb e) f0 f1 f3 f4 f5⟩
 self:=λ_ _ _ _ _ st h=>wpAny_pyIter_rangeiter st h
def stepN (lo hi c:Int):Nat:=if lo<hi then ((hi-lo-1) / c+1).toNat else 0
theorem Qlx {R:It->Hp->Prop} {lo hi c:Int} {t u v:Tok} (I:Inv X pins σ H s) (h1:-(2 ^ 60)<=lo) (h2:lo<2 ^ 60) (h3:-(2 ^ 60)<=hi) (h4:hi<2 ^ 60)
  (hc:c=2\/c=3) (q:R (ItrS lo c (stepN lo hi c)) H):wpAny (model X.prog X.w) X.A (pyIter (.ref s.heap.objs.size)) (PIE X pins σ tg R) E { s with heap:=s.heap.push { cls:=.type "range",data:=.fields #[.int lo t,.int hi u,.int c v] },toks:=tk }:=by
 have hsm:Builtin.Range.small lo hi c=true:=by
  unfold Builtin.Range.small Builtin.Range.rangeSize
  rcases hc with rfl | rfl
  ·simp only [Builtin.Range.rangeFitsLong,Bool.and_eq_true,Bool.or_eq_true,decide_eq_true_eq,beq_iff_eq,show (2:Int) > 0 by decide,if_true]
   split <;> omega
  ·simp only [Builtin.Range.rangeFitsLong,Bool.and_eq_true,Bool.or_eq_true,decide_eq_true_eq,beq_iff_eq,show (3:Int) > 0 by decide,if_true]
   split <;> omega
 have hsz:Builtin.Range.rangeSize lo hi c=((stepN lo hi c:Nat):Int):=by
  unfold Builtin.Range.rangeSize stepN
  rcases hc with rfl | rfl
  ·rw [if_pos (by decide)]
   split <;> omega
  ·rw [if_pos (by decide)]
   split <;> omega
 refine wpAny_pyIter_range (IsRange.new ..) hsm ?_
 have I1:Inv X pins σ H { s with heap:=s.heap.push { cls:=.type "range",data:=.fields #[.int lo t,.int hi u,.int c v] },toks:=tk }:=I.kept λb o e=>Heap.get?_push_of_some _ e
 refine ⟨(s.heap.push { cls:=.type "range",data:=.fields #[.int lo t,.int hi u,.int c v] }).objs.size,[(s.heap.push { cls:=.type "range",data:=.fields #[.int lo t,.int hi u,.int c v] }).objs.size],_,_,H,rfl,
  I1.kept (t':=tk) λb o e=>Heap.get?_push_of_some _ e,Qg9 _ lo c (stepN lo hi c),?_,λb hb=>?_,q⟩
 ·have e1:lo+((0:Nat):Int)*c=lo:=by simp
  have e2:((stepN lo hi c:Nat):Int)-((0:Nat):Int)=Builtin.Range.rangeSize lo hi c:=by rw [hsz];omega
  show IsRangeIter _ _ (lo+((0:Nat):Int)*c) (((stepN lo hi c:Nat):Int)-((0:Nat):Int)) c
  rw [e1,e2]
  exact Heap.get?_push_size _ rfl
 ·have e:b=(s.heap.push { cls:=.type "range",data:=.fields #[.int lo t,.int hi u,.int c v] }).objs.size:=by simpa using hb
  subst e
  exact I1.fpOk (Nat.le_refl _) (I1.hok.fresh (Nat.le_refl _))
def Qy0 (ta:TA):TI:=λσ H R=>ta σ H λvs H1=>∃i j c:Int,vs=[.int i,.int j,.int c]/\(-(2 ^ 60)<=i/\i<2 ^ 60 /\ -(2 ^ 60)<=j/\j<2 ^ 60)/\(c=2\/c=3)/\R (ItrS i c (stepN i j c)) H1
theorem Qmh {a b:Expr} (hg:Gl X "range") (hm:X.mg "range" = none) (ha:PA X [a,b,c] ta) (hs:starEach [a,b,c] X.env=[(false,eval a X.env),(false,eval b X.env),(false,eval c X.env)]:=by rfl) (hs2:starEach [b,c] X.env=[(false,eval b X.env),(false,eval c X.env)]:=by rfl) :
  PI X tg (.Call (.Name "range" p) [a,b,c] [] pos) (Qy0 ta):=by
 intro pins s σ H R I h
 refine Call_ (Qba I hg hm boot_range (PyProof.Rows.callWith_type1 (thn (ha pos pins s σ H _ I h) λus s1 ⟨vs,H1,I1,r1,q1⟩=>?_) (by rw [hs,hs2]) (by rw [hs2];rfl)))
 obtain ⟨i,j,c,e,⟨q1,q2,q3,q4⟩,hc,q⟩:=q1
 subst e
 cases r1 with
 | cons r rr =>
  cases rr with
  | cons r' rr =>
   cases rr with
   | cons r'' rr =>
    cases rr
    obtain ⟨t,rfl⟩:=r
    obtain ⟨t',rfl⟩:=r'
    obtain ⟨t'',rfl⟩:=r''
    exact call_range_3 (by rcases hc with rfl | rfl <;> decide) (Qlx I1 q1 q2 q3 q4 hc q) (.inl (PyProof.noPylong_small (by rcases hc with rfl | rfl <;> decide)))
end L2
namespace Mx
open PySem PySem.Spec L2
abbrev MI:=Int ⊕ List Int
def Qy4:MI->Int
 | .inl i=>hashInt i
 | .inr l=>reduceHash (Builtin.Tuple.tupleHashOf (l.map hashInt))
abbrev KVM:=List (MI × V × V)
abbrev VM:=List (MI × Value × Value)
def RelE (p:MI × V × V) (q:MI × Value × Value):Prop:=p.1=q.1/\RelV p.2.1 q.2.1/\RelV p.2.2 q.2.2
def entI (q:MI × Value × Value):DictEntry:={ hash:=Qy4 q.1,key:=q.2.1,val:=q.2.2 }
def phi (a:Addr) (kvs:KVM) (h:Heap):Prop:=(a == sysModules)=false/\kvs.length<=sizeLine/\(kvs.map (·.1)).Nodup/\∃vs:VM,Paired RelE kvs vs/\∃o es ep,h.get? a=some o/\o.ExactDict/\o.data=.dict es ep/\es.toList=vs.map entI
def mixO (a:Addr) (kvs:KVM):HO:=.ext (phi a kvs)
def Qze (H:Hp):MI->V->Prop
 | .inl i,y=>y=.int i
 | .inr l,y=>∃b,y=.ref b/\H b=some (.tup (l.map V.int))
def Keys (H:Hp) (kvs:KVM):Prop:=∀p∈kvs,Qze H p.1 p.2.1
end Mx
variable {B h'':PySem.Heap} {ea:PySem.Addr}
namespace L2
open PySem PySem.Spec PyProof.Rows
open PySem.W (hideAll of_hideAll hideAll_get hideAll_none funFrames_hide)
structure Fly (P:Program) (w:World) (base B:Heap) (l:List PySem.Env) (H:Hp) (s:Shared) (C ea t:Addr) (H':Hp) (s':Shared):Prop where
 os:s'.os=s.os
 bare:AllBare s'.gens
 un:Un (frs l) [] H H' s.heap s'.heap
 hok:HOk P w H' s'.heap
 bb:base.StaysIn B
 dom:∀b o,H' b=some o->∃ob,B.get? b=some ob
 kp:∀b ob,s.heap.get? b=some ob->H b=none->b∉frs l->B.get? b=some ob
 th:∀b ob,s.heap.get? b=some ob->b∉frs l->∃o',B.get? b=some o'
 fly:Heap.FlyingW B l ea (.ref C) (.ref t) s'.heap
 new:s.heap.get? ea=none
theorem Qjo (ok:HOk P w H' h) (dom:∀b o,H' b=some o->∃ob,B.get? b=some ob) (k1:B.StaysIn h) (k2:B.StaysIn h''):HOk P w H' h'':=λa o e =>
 (ok a o e).stay (λb u hb q=>by
  have:∃o',H' b=some o':=by
   rcases hb with rfl | hb
   ·exact ⟨_,e⟩
   ·exact ⟨_,hb⟩
  obtain ⟨o',e'⟩:=this
  obtain ⟨ob,eb⟩:=dom b o' e'
  have:=k1 b ob eb
  rw [q] at this
  cases this
  exact k2 b _ eb) (λ_ q=>q) λ_ _ q=>q
section
variable {l:List PySem.Env}
theorem Fly.on (f:Fly P w base B l H s C ea t H' s') (hf:Heap.FlyingW B l ea (.ref C) (.ref t) h'') (hu:s'.heap.UpToSlots h''):Fly P w base B l H s C ea t H' { s' with heap:=h'' } where
 os:=f.os
 bare:=f.bare
 un:=by
  refine ⟨λb o e n nf _=>hf.1 b o (f.kp b o e n nf),λb o e n hb _=>?_,f.un.free,λb o e _=>?_,f.un.tups,f.un.frzs,f.un.tbls⟩
  ·obtain ⟨sl,e1⟩:=f.un.slot b o e n hb (by simp)
   obtain ⟨_,o',e2,nd⟩:=f.fly.2.2.1.mem hb
   have z:some { o with slots:=sl }=some o':=e1.symm.trans e2
   cases z
   obtain ⟨sl',e4⟩:=hu b { o with slots:=sl } e1 nd
   exact ⟨sl',e4⟩
  ·by_cases hb:b∈frs l
   ·obtain ⟨_,o',e2,nd⟩:=f.fly.2.2.1.mem hb
    obtain ⟨sl,e3⟩:=hu b _ e2 nd
    exact ⟨_,e3⟩
   ·obtain ⟨o',e1⟩:=f.th b o e hb
    exact ⟨_,hf.1 b o' e1⟩
 hok:=Qjo f.hok f.dom f.fly.1 hf.1
 bb:=f.bb
 dom:=f.dom
 kp:=f.kp
 th:=f.th
 fly:=hf
 new:=f.new
end
structure Cx.Plain (X:Cx):Prop where
 ex:X.ex=[]
 stk:X.stack=X.env::X.outer
 frame:X.env.frame=some X.env.locals
theorem Cx.Plain.mem (p:X.Plain):b∈frs X.stack↔b=X.env.locals\/b∈frs X.outer:=by
 rw [p.stk]
 unfold frs
 rw [List.filterMap_cons,p.frame]
 exact List.mem_cons
theorem Inv.old (I:Inv X pins σ H s) (e:X.s₀.heap.get? b=some o):b≠X.env.locals:=Nat.ne_of_lt (Nat.lt_of_lt_of_le (Heap.lt_size e) I.ok.above)
theorem Fly.out (p:X.Plain) (I:Inv X pins σ H s) (f:Fly X.prog X.w X.base B X.stack H s C ea t H' s') (hf:Heap.FlyingW B X.outer ea (.ref C) (.ref t) h'') (hu:s'.heap.UpToSlots h''):Fly X.prog X.w X.base B X.outer X.H₀ X.s₀ C ea t H' { s' with heap:=h'' }:=by
 have hex:∀b,b∉X.ex:=λb=>by rw [p.ex];simp
 have nst:∀b o,X.s₀.heap.get? b=some o->b∉frs X.outer->b∉frs X.stack:=λb o e nf z=>(p.mem.mp z).elim (I.old e) nf
 have kp:∀b ob,X.s₀.heap.get? b=some ob->X.H₀ b=none->b∉frs X.outer->B.get? b=some ob:=λb o e n nf=>f.kp b o (I.base.keep b o e n nf (hex b)) (I.base.free b o e n (hex b)) (nst b o e nf)
 have th:∀b ob,X.s₀.heap.get? b=some ob->b∉frs X.outer->∃o',B.get? b=some o':=λb o e nf=>by
  obtain ⟨o1,e1⟩:=I.base.there b o e (hex b)
  exact f.th b o1 e1 (nst b o e nf)
 refine ⟨f.os.trans I.os,f.bare,⟨λb o e n nf _=>hf.1 b o (kp b o e n nf),λb o e n hb _=>?_,λb o e n _=>?_,λb o e _=>?_,λb xs e=>f.un.tups b xs (I.base.tups b xs e),λb o u e=>f.un.frzs b o u (I.base.frzs b o u e),λb ps e=>?_⟩,Qjo f.hok f.dom f.fly.1 hf.1,f.bb,f.dom,kp,th,hf,?_⟩
 ·obtain ⟨sl,e1⟩:=I.base.slot b o e n hb (hex b)
  obtain ⟨sl2,e2⟩:=f.un.slot b _ e1 (I.base.free b o e n (hex b)) (p.mem.mpr (.inr hb)) (by simp)
  obtain ⟨_,o',e3,nd⟩:=f.fly.2.2.1.mem (p.mem.mpr (.inr hb))
  have z:=e2.symm.trans e3
  cases z
  obtain ⟨sl',e4⟩:=hu b { o with slots:=sl2 } e2 nd
  exact ⟨sl',e4⟩
 ·obtain ⟨sl,e1⟩:=I.base.any e n (hex b)
  exact f.un.free b _ e1 (I.base.free b o e n (hex b)) (by simp)
 ·by_cases hb:b∈frs X.outer
  ·obtain ⟨_,o',e3,nd⟩:=f.fly.2.2.1.mem (p.mem.mpr (.inr hb))
   obtain ⟨sl,e4⟩:=hu b _ e3 nd
   exact ⟨_,e4⟩
  ·obtain ⟨o',e1⟩:=th b o e hb
   exact ⟨_,hf.1 b o' e1⟩
 ·obtain ⟨m1,e1⟩:=I.base.tbls b ps e
  obtain ⟨m2,e2⟩:=f.un.tbls b _ e1
  exact ⟨m1++m2,by rw [e2,Array.append_assoc]⟩
 ·cases q:X.s₀.heap.get? ea with
  | none=>rfl
  | some o =>
   obtain ⟨o1,e1⟩:=I.base.there ea o q (hex ea)
   rw [f.new] at e1
   cases e1
end L2
variable {e₀:PySem.Expr} {cx:PySem.Str} {C0:PySem.Addr} {b₀:PySem.Stmt} {suite:List PySem.Stmt} {np hpos:PySem.Pos}
namespace L2
open PySem PySem.Spec PyProof.Rows
theorem X6 {M:Model} {n:Str} {Q:Unit->Shared->Prop} (I:Inv X pins σ H s) (hN:X.N.Nodup) (hj:X.N[j]? = some n) (hl:X.env.kindOf n=some .local)
  (h:∀s',Inv X pins (σ.set j none) H s'->Q () s'):wpAny M A (do bindName X.env n .none;unbindBehindTheSuite X.env n pos) Q E s:=by
 obtain ⟨m,hn,hlo⟩:=id I.loc
 have hp:(X.env.scope.kind == .class || (X.env.scope.kind == .module && X.env.locals != X.env.globals))=false:=by rw [I.ok.kind];rfl
 refine wpAny_bind (wpAny_bindName (wpAny_storeName_local hl hn (λh₁ hn₁ hs₁=>?_) hp))
 unfold unbindBehindTheSuite
 refine wpAny_onRaise ?_
 unfold unbindName
 refine wpAny_bind (wpAny_point (wpAny_bind ?_))
 unfold deleteName
 simp only [hl,hp]
 rw [if_neg (by decide)]
 refine wpAny_bind (wpAny_nsDel_keeps hn₁ λh₂ v hn₂ hs₂=>?_)
 simp only [if_true,Option.isSome_some,Bool.not_true,Bool.false_eq_true,if_false]
 refine wpAny_pure (wpAny_point (h _ ?_))
 have hs:=hs₁.trans hs₂
 have hiσ:j<σ.length:=by rw [I.len];exact (List.getElem?_eq_some_iff.mp hj).1
 refine ⟨I.ok,I.os,I.bare,⟨λb o e n hb hx=>?_,λb o e n hb hx=>?_,I.base.free,λb o e hx=>?_,I.base.tups,I.base.frzs,I.base.tbls⟩,⟨_,hn₂,λi y v' e1 e2 e3=>?_⟩,λy c e=>?_,I.free,I.freeC,λp hp=>?_,λb ob e=>?_,by simpa using I.len⟩
 ·exact (hs.2 b (I.old e)).trans (I.base.keep b o e n hb hx)
 ·obtain ⟨sl,e1⟩:=I.base.slot b o e n hb hx
  exact ⟨sl,(hs.2 b (I.old e)).trans e1⟩
 ·obtain ⟨o',e1⟩:=I.base.there b o e hx
  exact ⟨o',(hs.2 b (I.old e)).trans e1⟩
 ·by_cases hij:i=j
  ·subst hij
   rw [List.getElem?_set_self hiσ] at e2
   cases e2
  ·rw [List.getElem?_set_ne (Ne.symm hij)] at e2
   obtain ⟨u',r',q⟩:=hlo i y v' e1 e2 e3
   refine ⟨u',r',?_⟩
   rcases q with ⟨k,e⟩ | ⟨k,c,e,z⟩
   ·refine .inl ⟨k,?_⟩
    have:y≠n:=λe=>hij (Qe2 hN e1 (e ▸ hj))
    simp [this,e]
   ·exact .inr ⟨k,c,e,z.sameBut hs (I.cne y c e)⟩
 ·obtain ⟨w',z⟩:=I.cell y c e
  exact ⟨w',z.sameBut hs (I.cne y c e)⟩
 ·obtain ⟨e,n,ne,nf,d⟩:=I.pin p hp
  exact ⟨(hs.2 p.1 ne).trans e,n,ne,nf,d⟩
 ·refine (I.hok b ob e).stay (λc w' hc q=>(hs.2 c ?_).trans q) (λ_ q=>q) λ_ _ q=>q
  rintro rfl
  rcases hc with rfl | hc
  ·rw [I.free] at e;cases e
  ·rw [I.free] at hc;cases hc
def Cx.han (X:Cx) (ea:Addr):Cx:={ X with A:=X.A.mark (some (.ref ea)),calm:=false,xe:=λ_ _=>False }
theorem Cx.Ok.han (ok:X.Ok) (ea:Addr):(X.han ea).Ok :=
 ⟨ok.mod,ok.kind,ok.glob,ok.blt,ok.above,ok.inj,ok.has,ok.cab,λz=>(Bool.noConfusion z),ok.frames,ok.stk,ok.exf,ok.bs,ok.bsz,ok.noex,ok.exfs,ok.funs,ok.frf⟩
theorem Inv.han (I:Inv X pins σ H s) (ea:Addr):Inv (X.han ea) pins σ H s:=⟨I.ok.han ea,I.os,I.bare,I.base,I.loc,I.cell,I.free,I.freeC,I.pin,I.hok,I.len⟩
theorem Inv.unhan (ok:X.Ok) (I:Inv (X.han ea) pins σ H s):Inv X pins σ H s:=⟨ok,I.os,I.bare,I.base,I.loc,I.cell,I.free,I.freeC,I.pin,I.hok,I.len⟩
theorem Fly.landed (I:Inv X pins σ H s) (f:Fly X.prog X.w X.base B X.stack H s C ea t H' s'):∃(ob:Obj) (φ:Heap->Prop),ob.cls=.ref C/\H' ea=none/\Inv X pins σ (upd H' ea (.frz ob (.ext φ))) s':=by
 obtain ⟨ob,e,hc⟩:=f.fly.there
 have hn:H' ea=none:=by
  cases q:H' ea with
  | none=>rfl
  | some o =>
   obtain ⟨o1,e1⟩:=f.dom ea o q
   rw [f.fly.2.1] at e1
   cases e1
 refine ⟨ob,λh=>h.get? ea=some ob,hc,hn,I.call' (ch:=[]) f.os ?_ ?_ f.bare λb z=>nomatch z⟩
 ·refine ⟨f.un.keep,f.un.slot,λb o e1 n hx=>?_,f.un.there,λb xs e1=>?_,λb o u e1=>?_,λb ps e1=>?_⟩
  ·rw [Qm (λz=>by rw [z,f.new] at e1;cases e1)]
   exact f.un.free b o e1 n hx
  ·have:=f.un.tups b xs e1
   rw [Qm (λz=>by rw [z,hn] at this;cases this)];exact this
  ·have:=f.un.frzs b o u e1
   rw [Qm (λz=>by rw [z,hn] at this;cases this)];exact this
  ·obtain ⟨more,this⟩:=f.un.tbls b ps e1
   exact ⟨more,by rw [Qm (λz=>by rw [z,hn] at this;cases this)];exact this⟩
 ·intro a o e1
  by_cases ha:a=ea
  ·subst ha
   rw [Qj] at e1
   cases e1
   exact ⟨e,e,⟨ob,e⟩,λh1 h2 z k=>k ob z⟩
  ·rw [Qm ha] at e1
   refine (f.hok a o e1).stay (λb u _ q=>q) (λb q=>?_) (λb xs q=>?_) λb u v _ q _=>?_
   ·rw [Qm (λz=>by rw [z,hn] at q;cases q)];exact q
   ·rw [Qm (λz=>by rw [z,hn] at q;cases q)];exact q
   ·rw [Qm (λz=>by rw [z,hn] at q;cases q)];exact q
def Ends.un (D:Ends) (j:Nat):Ends:={ nx:=λσ' H''=>D.nx (σ'.set j none) H'',rt:=D.rt,bk:=λσ' H''=>D.bk (σ'.set j none) H'',ct:=λσ' H''=>D.ct (σ'.set j none) H'' }
end L2
variable {tk:PySem.Tok} {Bx:String} {bmB:List PySem.Value} {os:PySem.OsState}
namespace L2
open PySem PySem.Spec PyProof.Rows
open PySem.W (findIn subIn mroIn clsIn Looks looks_findIn looks_subIn InstAt KitX)
structure ExcQ (K:Frag) (C:Addr):Prop where
 ga:findIn K (.ref C) "__getattribute__" = some (some (.builtin "BaseException.__getattribute__"))
 gt:findIn K (.ref C) "__getattr__" = some none
 cl:findIn K (.ref C) "__class__" = some (some (.builtin "object.__class__"))
 so:subIn K (.ref C) (.type "object")=some true
 sb:subIn K (.ref C) (.type "BaseException")=some true
 kc:(clsIn K C).isSome=true
section
variable {g:Array GenState} {d:Drawn} {t:Nat}
theorem Qgh {M:Model} {nameV:Value} {Q:Unit->Shared->Prop} (X:K.In h) (q:ExcQ K C) (hx:h.get? a=some o) (hc:o.cls=.ref C) (hq:Q () ⟨h,g,d,t,os⟩):wpAny M A (checkBuiltinCall "BaseException.__getattribute__" ⟨[.ref a,nameV],[]⟩) Q E ⟨h,g,d,t,os⟩:=by
 have k1:builtinKind "BaseException.__getattribute__" = some .slot:=by decide +kernel
 have k2:splitId "BaseException.__getattribute__" = some ("BaseException","__getattribute__"):=by decide +kernel
 have L1:=looks_subIn (M:=M) X q.sb
 have ha:=F.args_bexc_ga (.ref a) nameV
 simp only [checkBuiltinCall,k1,k2]
 refine wpAny_bind ?_
 unfold isInstance
 repeat (first | (with_reducible refine wpAny_loadPart_at hx ?_;rw [hc]) | with_reducible refine L1.at ?_ | wp_step)
 exact hq
theorem Quc (X:K.In h) (q:ExcQ K C) (hx:h.get? a=some o) (hc:o.cls=.ref C) (hq:R (.ok (.ret (.ref C))) ⟨h,g,d,t,os⟩) :
  codeAny (model prog w) A (.call (.builtin "getset_descriptor.__get__") ⟨[.builtin "object.__class__",.ref a,.ref C],[]⟩) R ⟨h,g,d,t,os⟩:=by
 have ty5:(⟨h,g,d,t,os⟩:Shared).TypeIs (.builtin "object.__class__") "getset_descriptor":=F.typeOf_object_class
 have L1:=looks_subIn (M:=model prog w) X q.so
 rw [← F.owner_object_class] at L1
 refine codeAny_call_builtin F.slot_gs_get.plain F.entry_gs_get (F.slot_gs_get.check _ _ _ _ _ _ _ _ ty5 (F.args_gs_get _ _ _) ?_)
 repeat (any_goals (first | assumption | (with_reducible refine wpAny_loadPart_at hx ?_;rw [hc]) | with_reducible refine L1.at ?_ | wp_step))
 refine ⟨Code.quiet_builtin _ (by decide +kernel),codeAny_builtin F.entry_object_class ?_⟩
 repeat (any_goals (first | assumption | (with_reducible refine wpAny_loadPart_at hx ?_;rw [hc]) | wp_step))
theorem Qnt {Q:Fin->Shared->Prop} (X:K.In h) (q:ExcQ K C) (hx:h.get? a=some o) (hc:o.cls=.ref C) (hq:Q (.done (.ret (.ref C))) ⟨h,g,d,t,os⟩) :
  wpAny (model prog w) A (Builtin.«object.__getattribute__» ⟨[.ref a,.str "__class__" tk],[]⟩) Q E ⟨h,g,d,t,os⟩:=by
 have ty5:(⟨h,g,d,t,os⟩:Shared).TypeIs (.builtin "object.__class__") "getset_descriptor":=F.typeOf_object_class
 have f5:=F.typeOf_object_class
 have f6:=F.slot_gs_get.lookup
 have f7:=F.slot_gs_set.lookup
 have L1:=looks_findIn (M:=model prog w) X q.cl
 repeat (any_goals (first | assumption | (with_reducible refine wpAny_loadPart_at hx ?_;rw [hc]) | with_reducible refine L1.at ?_ | wp_step))
 refine Quc X q hx hc ?_
 repeat (any_goals (first | assumption | wp_step))
theorem Qxe (FB:ExcAttrBase Bx bmB) (X:K.In h) (q:ExcQ K C) (hx:h.get? a=some o) (hc:o.cls=.ref C) (hq:Q (.ref C) ⟨h,g,d,t,os⟩) :
  wpAny (model prog w) A (getAttrBy (.ref a) (.str "__class__" tk) false) Q E ⟨h,g,d,t,os⟩:=by
 have f3:=FB.ga.bind (.ref a)
 have hx2:(Value.builtin "BaseException.__getattribute__" == Value.builtin "object.__getattribute__")=false:=by decide +kernel
 have hx1:(onTheHeap (Value.ref C) && Value.builtin "BaseException.__getattribute__" == Value.builtin "object.__getattribute__")=false:=by rw [hx2];rfl
 have L1:=looks_findIn (M:=model prog w) X q.ga
 have L2:=looks_findIn (M:=model prog w) X q.gt
 repeat (any_goals (first | assumption | (with_reducible refine wpAny_loadPart_at hx ?_;rw [hc]) | with_reducible refine L1.at ?_ | with_reducible refine L2.at ?_ | wp_step))
 refine codeAny_call_builtin FB.ga.plain F.entry_bexc_ga (Qgh X q hx hc (Qnt X q hx hc ?_))
 repeat (any_goals (first | assumption | wp_step))
theorem Qnu {Q:Option Value->Shared->Prop} (FB:ExcAttrBase Bx bmB) (X:K.In h) (q:ExcQ K C) (hx:h.get? a=some o) (hc:o.cls=.ref C) (hq:Q (some (.ref C)) ⟨h,g,d,t+1,os⟩):wpAny (model prog w) A (getAttr? (.ref a) "__class__") Q E ⟨h,g,d,t,os⟩:=by
 unfold getAttr? getAttrBy?
 repeat (any_goals (first | assumption | with_reducible apply Qxe FB X q hx hc | wp_step))
theorem Qjh (FB:ExcAttrBase Bx bmB) (q:ExcQ K C):KitX K (.ref a) (.ref C) (λh=>h.get? a=some o/\o.cls=.ref C) where
 ty:=λM h X p=>by
  rw [← p.2]
  exact (Looks.ld p.1).andThen .now
 it:=λM h X p=>by
  have z:=q.kc
  unfold clsIn at z
  split at z
  ·rename_i c' d' cd' sl' ho
   intro A' Q' E' s' k qq
   unfold isType loadHead
   exact wpAny_bind (wpAny_loadPart (k _ _ (X _ _ ho)) (wpAny_pure qq))
  ·cases z
 ne:=λh tp dd its n sl X htp=>by
  refine Bool.eq_false_iff.mpr λqq=>?_
  have e:C=tp:=Value.ref.inj (beq_iff_eq.mp qq)
  subst e
  have z:=q.kc
  unfold clsIn at z
  split at z
  ·rename_i c' d' cd' sl' ho
   have y:=(X _ _ ho).symm.trans htp
   cases y
  ·cases z
 ca:=λ{prog w A E Q s} X p k=>by
  obtain ⟨h,g,d,t,os⟩:=s
  exact Qnu FB X q p.1 p.2 k
end
def clsV:V->Option Value
 | .ref c=>some (.ref c)
 | .ty n=>some (.type n)
 | _=>none
theorem Qj1 {c:Value} (r:RelV v u) (h:clsV v=some c):u=c:=by
 cases v with
 | ref a=>cases h;exact r
 | ty n=>cases h;exact r
 | _=>cases h
theorem Qgn:∀{vs:List V} {us cs:List Value},Vals vs us->vs.mapM clsV=some cs->us=cs
 | [],_,cs,.nil,h=>by
  have:some ([]:List Value)=some cs:=h
  cases this;rfl
 | v::vs,_,cs,.cons r rs,h=>by
  rw [List.mapM_cons] at h
  cases h1:clsV v with
  | none=>rw [h1] at h;cases h
  | some c =>
   rw [h1] at h
   cases h2:vs.mapM clsV with
   | none=>rw [h2] at h;cases h
   | some ds =>
    rw [h2] at h
    have:some (c::ds)=some cs:=h
    cases this
    rw [Qj1 r h1,Qgn rs h2]
theorem Qqw (FB:ExcAttrBase Bx bmB):V0 X (.builtin "isinstance") (λxs H Q=>∃a o φ C v c b,xs=[.ref a,v]/\H a=some (.frz o (.ext φ))/\o.cls=.ref C/\ExcQ X.K C/\clsV v=some c/\kitOne X.K (.ref C) c=some b/\Q (.bl b) H):=by
 intro pins s σ H xs us Q I r h
 obtain ⟨a,o,φ,C,v,c,b,rfl,ha,hc,q,hv,hk,hq⟩:=h
 obtain ⟨u,u2,rfl,ru,ru2⟩:=Qlk r
 cases ru
 rw [Qj1 ru2 hv]
 obtain ⟨e,_⟩:=I.hok a _ ha
 exact kia_one (Qjh FB q) I.kIn ⟨e,hc⟩ hk (by intro z;cases z) λtk=>⟨.bl b,H,I.tok _,rfl,hq⟩
theorem Qon (FB:ExcAttrBase Bx bmB):V0 X (.builtin "isinstance") (λxs H Q=>∃a o φ C tp vs cs b,xs=[.ref a,.ref tp]/\H a=some (.frz o (.ext φ))/\o.cls=.ref C/\ExcQ X.K C/\H tp=some (.tup vs)/\vs.mapM clsV=some cs/\kitAny X.K (.ref C) cs=some b/\Q (.bl b) H):=by
 intro pins s σ H xs us Q I r h
 obtain ⟨a,o,φ,C,tp,vs,cs,b,rfl,ha,hc,q,ht,hv,hk,hq⟩:=h
 obtain ⟨u,u2,rfl,ru,ru2⟩:=Qlk r
 cases ru
 cases ru2
 obtain ⟨e,_⟩:=I.hok a _ ha
 obtain ⟨_,its,rv,⟨oc,od,oda,osl⟩,eo,ec,n,edt⟩:=I.hok tp _ ht
 dsimp only at ec edt
 subst ec edt
 have:=Qgn rv hv
 subst this
 exact PySem.W.kia_tup (Qjh FB q) I.kIn ⟨e,hc⟩ eo hk (by intro z;cases z) λtk=>⟨.bl b,H,I.tok _,rfl,hq⟩
end L2
namespace L2
open PySem PySem.Spec PyProof.Rows
def Itel (K:Frag) (a:Addr):It :=
 ⟨λi H=>∃xs x,SqL K H a xs/\xs[i]? = some x,λi H v H'=>∀xs,SqL K H a xs->∃x p,xs[i]? = some x/\v=.ref p/\H p=none/\H'=upd H p (.tup [.int i,x]),λi H=>∃xs,SqL K H a xs/\xs.length<=i⟩
theorem Qkc (a e it:Addr) (hei:e≠it):Turn P w K (.Tuple es kt pt) (Itel K a) [e,it] e (λi h=>(∃old,IsEnum h e it i old)/\h.IsListIter it a i) where
 mem:=by simp
 obj:=λi h st b hb=>by
  obtain ⟨⟨old,h1⟩,o,h2,c,d⟩:=st
  rcases List.mem_cons.mp hb with z | z
  ·subst z;exact ⟨_,h1,λv z=>by have z':Data.fields _=Data.cell v:=z;cases z'⟩
  ·have z':b=it:=by simpa using z
   subst z';exact ⟨o,h2,λv z=>by rw [d] at z;cases z⟩
 keep:=λi h h' st k=>⟨let ⟨old,h1⟩:=st.1;⟨old,k e (by simp) _ h1⟩,st.2.at λo q=>k it (by simp) o q⟩
 item:=by
  intro X hP hw hK hc i pins s σ H E I hf st hg
  subst hP hw hK
  obtain ⟨⟨old,he⟩,hit⟩:=st
  obtain ⟨xs,x,hq,hx⟩:=hg
  obtain ⟨its,rv,⟨ol,nl,g1,g2,g3,g4⟩,hz⟩:=I.list hq
  have p:s.heap.IsList a its.toArray:=⟨ol,g1,g2,nl,g4⟩
  obtain ⟨u',hu',ru⟩:=rv.get hx
  refine wpAny_pyNext_enum_item he hit p (x:=u') (by simpa using hu') hei λh' ho hst' hT hsz hk=>?_
  refine ⟨_,rfl,wpAny_letOwnedTupleGo_enum ho λh2 he2 hs2=>?_⟩
  have hTe:s.heap.objs.size≠e:=Nat.ne_of_gt (Heap.lt_size he)
  have hT2:h2.get? s.heap.objs.size=some { cls:=.type "tuple",data:=.seq #[.int i s.toks,u'] }:=(hs2.2 _ hTe).trans hT
  have hn:H s.heap.objs.size=none:=I.hok.fresh (Nat.le_refl _)
  refine ⟨.ref s.heap.objs.size,upd H s.heap.objs.size (.tup [.int i,x]),I.turnNew (ch:=[e,it]) (t':=s.toks+1) (Nat.le_refl _) (λb o hb q=>?_) hf ?_,rfl,λys hy=>?_,⟨⟨_,he2⟩,hst'.at λo q=>?_⟩,λb hb=>?_⟩
  ·have h1:b≠e:=λz=>hb (by simp [z])
   have h2':b≠it:=λz=>hb (by simp [z])
   exact (hs2.2 b h1).trans (hk b o h1 h2' q)
  ·exact ⟨by show 2<=sizeLine;decide,[.int i s.toks,u'],.cons ⟨_,rfl⟩ (.cons ru .nil),⟨_,hT2,rfl,_,rfl⟩⟩
  ·rw [I.list_inj hy hq]
   exact ⟨x,_,hx,rfl,hn,rfl⟩
  ·exact (hs2.2 it (Ne.symm hei)).trans q
  ·obtain ⟨o,q,_⟩:∃o,s.heap.get? b=some o/\True:=by
    rcases List.mem_cons.mp hb with z | z
    ·exact ⟨_,z ▸ he,trivial⟩
    ·have z':b=it:=by simpa using z
     obtain ⟨o,q,_⟩:=hit
     exact ⟨o,z' ▸ q,trivial⟩
   rw [Qm (Nat.ne_of_lt (Heap.lt_size q))]
   exact (hf b hb).1
 done:=by
  intro X hP hw hK hc i pins s σ H E I hf st hg
  subst hP hw hK
  obtain ⟨⟨old,he⟩,hit⟩:=st
  obtain ⟨xs,hq,hx⟩:=hg
  obtain ⟨its,rv,⟨ol,nl,g1,g2,g3,g4⟩,hz⟩:=I.list hq
  have p:s.heap.IsList a its.toArray:=⟨ol,g1,g2,nl,g4⟩
  have hlen:=rv.length
  refine wpAny_pyNext_enum_end (I.ok.hd hc) he hit p (by simp;omega) λh' he'=>?_
  exact ⟨rfl,I.turnAll (ch:=[e,it]) (t':=s.toks) (λb u hb q=>he' b u (λz=>hb (by simp [z])) q) hf⟩
 self:=λ_ _ _ _ _ st h=>by
  obtain ⟨⟨old,q⟩,_⟩:=st
  exact wpAny_pyIter_enum q h
def Qw7 (K:Frag) (ta:TA):TI:=λσ H R=>ta σ H λvs H1=>∃a,vs=[.ref a]/\(∃xs,SqL K H1 a xs)/\R (Itel K a) H1
theorem Qi8 {a:Expr} (hg:Gl X "enumerate") (hm:X.mg "enumerate" = none) (ha:PA X [a] ta) (hs:starEach [a] X.env=[(false,eval a X.env)]:=by rfl) :
  PI X (.Tuple es kt pt) (.Call (.Name "enumerate" p) [a] [] pos) (Qw7 X.K ta):=by
 intro pins s σ H R I h
 refine Call_ (Qba I hg hm boot_enumerate (PyProof.Rows.callWith_type1 (thn (ha pos pins s σ H _ I h) λus s1 ⟨vs,H1,I1,r1,q1⟩=>?_) hs rfl))
 obtain ⟨x,e,⟨xs,hq⟩,q⟩:=q1
 subst e
 obtain ⟨u,rfl,ru⟩:=Qal r1
 cases ru
 obtain ⟨its,rv,⟨ol,nl,g1,g2,g3,g4⟩,hz⟩:=I1.list hq
 refine call_enumerate_list (show s1.heap.IsList x its.toArray from ⟨ol,g1,g2,nl,g4⟩) λh' he hit hz kp=>?_
 have I2:Inv X pins σ H1 { s1 with heap:=h' }:=I1.kept (t':=s1.toks) kp
 refine wpAny_pyIter_enum he ⟨s1.heap.objs.size+1,[s1.heap.objs.size+1,s1.heap.objs.size],_,_,H1,rfl,I2,Qkc x _ _ (Nat.ne_of_gt (Nat.lt_succ_self _)),⟨⟨_,he⟩,hit⟩,λb hb=>?_,q⟩
 have hb':s1.heap.objs.size<=b:=by
  rcases List.mem_cons.mp hb with z | z
  ·rw [z];exact Nat.le_succ _
  ·have z':b=s1.heap.objs.size:=by simpa using z
   rw [z'];exact Nat.le_refl _
 exact I1.fpOk hb' (I1.hok.fresh hb')
end L2
namespace M
def sp (m i:Nat):Int × Int:=if i<4*m then (((i / 4:Nat):Int),((i % 4:Nat):Int)) else (-1,((i-4*m:Nat):Int))
theorem Qx7 {m k:Nat} (hk:k<m) (hj:j<4):sp m (4*k+j)=((k:Int),(j:Int)):=by
 unfold sp
 rw [if_pos (by omega)]
 congr 1 <;> omega
theorem Qva (m j:Nat):sp m (4*m+j)=(-1,(j:Int)):=by
 unfold sp
 rw [if_neg (by omega)]
 congr 1;omega
def addP (P:List (Int × List Nat)) (a:Int) (i:Nat):List (Int × List Nat) :=
 if (P.any λe=>decide (e.1=a))=true then P.map (λe=>if e.1=a then (e.1,e.2++[i]) else e) else P++[(a,[i])]
def plc (A:Nat->Int) (t:Nat):List (Int × List Nat):=(List.range t).foldl (λP i=>addP P (A i) i) []
theorem Qev (A:Nat->Int) (t:Nat):plc A (t+1)=addP (plc A t) (A t) t:=by
 unfold plc;rw [List.range_succ,List.foldl_append];rfl
theorem Qg1 (P:List (Int × List Nat)) (a:Int) (i:Nat):(addP P a i).map (·.1)=if (P.any λe=>decide (e.1=a))=true then P.map (·.1) else P.map (·.1)++[a]:=by
 unfold addP
 by_cases h:(P.any λe=>decide (e.1=a))=true
 ·rw [if_pos h,if_pos h,List.map_map]
  apply List.map_congr_left
  intro e _
  show (if e.1=a then (e.1,e.2++[i]) else e).1=e.1
  split <;> rfl
 ·rw [if_neg h,if_neg h,List.map_append];rfl
theorem Qmf (A:Nat->Int):∀t,((plc A t).map (·.1)).Nodup/\(∀e∈plc A t,e.2=(List.range t).filter (λi=>decide (A i=e.1))/\e.2≠[])/\∀i,i<t->∃e∈plc A t,e.1=A i:=by
 intro t
 induction t with
 | zero=>exact ⟨List.nodup_nil,(λe h=>by cases h),λi h=>absurd h (Nat.not_lt_zero _)⟩
 | succ t ih =>
  obtain ⟨h1,h2,h3⟩:=ih
  rw [Qev]
  have hr:∀(p:Nat->Bool),(List.range (t+1)).filter p=(List.range t).filter p++if p t then [t] else []:=λp=>by
   rw [List.range_succ,List.filter_append]
   congr 1
   by_cases hp:p t=true
   ·simp [hp]
   ·simp [hp]
  by_cases h:((plc A t).any λe=>decide (e.1=A t))=true
  ·refine ⟨by rw [Qg1,if_pos h];exact h1,λe he=>?_,λi hi=>?_⟩
   ·unfold addP at he
    rw [if_pos h] at he
    obtain ⟨e',he',rfl⟩:=List.mem_map.mp he
    obtain ⟨a1,a2⟩:=h2 e' he'
    by_cases hk:e'.1=A t
    ·rw [if_pos hk]
     refine ⟨?_,by simp⟩
     show e'.2++[t]=_
     rw [hr,← a1,if_pos (by simp [hk])]
    ·rw [if_neg hk]
     refine ⟨?_,a2⟩
     rw [hr,← a1,if_neg (by simp;exact λz=>hk z.symm),List.append_nil]
   ·have hmem:∀e∈plc A t,∃e'∈addP (plc A t) (A t) t,e'.1=e.1:=λe he=>by
     have:e.1∈(addP (plc A t) (A t) t).map (·.1):=by rw [Qg1,if_pos h];exact List.mem_map.mpr ⟨e,he,rfl⟩
     obtain ⟨e',h1',h2'⟩:=List.mem_map.mp this
     exact ⟨e',h1',h2'⟩
    by_cases hit:i<t
    ·obtain ⟨e,he,q⟩:=h3 i hit
     obtain ⟨e',a1,a2⟩:=hmem e he
     exact ⟨e',a1,a2.trans q⟩
    ·have:i=t:=by omega
     subst this
     obtain ⟨e,he,q⟩:=List.any_eq_true.mp h
     obtain ⟨e',a1,a2⟩:=hmem e he
     exact ⟨e',a1,a2.trans (of_decide_eq_true q)⟩
  ·have hno:∀e∈plc A t,e.1≠A t:=λe he z=>h (List.any_eq_true.mpr ⟨e,he,decide_eq_true z⟩)
   have hadd:addP (plc A t) (A t) t=plc A t++[(A t,[t])]:=by unfold addP;rw [if_neg h]
   rw [hadd]
   refine ⟨?_,λe he=>?_,λi hi=>?_⟩
   ·rw [List.map_append]
    refine List.nodup_append.mpr ⟨h1,by simp,λa ha b hb=>?_⟩
    obtain ⟨e,he,rfl⟩:=List.mem_map.mp ha
    have:b=A t:=by simpa using hb
    rw [this];exact hno e he
   ·rcases List.mem_append.mp he with he | he
    ·obtain ⟨a1,a2⟩:=h2 e he
     refine ⟨?_,a2⟩
     rw [hr,← a1,if_neg (by simp;exact λz=>hno e he z.symm),List.append_nil]
    ·have ee:e=(A t,[t]):=by simpa using he
     subst ee
     refine ⟨?_,by simp⟩
     rw [hr,if_pos (by simp)]
     have:(List.range t).filter (λi=>decide (A i=A t))=[]:=by
      rw [List.filter_eq_nil_iff]
      intro i hi
      have hi':i<t:=List.mem_range.mp hi
      obtain ⟨e,he,q⟩:=h3 i hi'
      simp
      intro z
      exact hno e he (q.trans z)
     show [t]=List.filter (λi=>decide (A i=A t)) (List.range t)++[t]
     rw [this];rfl
   ·by_cases hit:i<t
    ·obtain ⟨e,he,q⟩:=h3 i hit
     exact ⟨e,List.mem_append_left _ he,q⟩
    ·have:i=t:=by omega
     subst this
     exact ⟨_,List.mem_append_right _ (List.mem_singleton.mpr rfl),rfl⟩
end M
variable {xs:List L2.V}
namespace L2
open PySem PySem.Spec PyProof.Rows
structure Lam where
 qual:Str
 args:Arguments
 body:Expr
 scope:Scope
 names:List Str
abbrev anyO:HO:=.ext λ_=>True
abbrev Lam.obj (L:Lam) (cl:List (Str × Addr)) (pm:Value) (c':Addr) (ctv:Value):Obj:=PySem.W.kla_obj "<lambda>" L.qual L.args L.body L.scope cl pm c' ctv
def Qj6 (H:Hp) (L:Lam) (a:Addr) (cl:List (Str × Addr)):Prop :=
 ∃(c':Addr) (oc:Obj) (vs:Array Value) (t:Tok) (pm ctv:Value) (u:HO),H a=some (.frz (L.obj cl pm c' ctv) anyO)/\H c'=some (.frz oc u)/\oc.data=.fields vs/\vs[1]? = some (.str L.qual t)
def Qa3 (H:Hp):List (Str × Addr)->List V->Prop
 | [],[]=>True
 | p::cl,x::xs=>(∃oo v,H p.2=some (.frz oo anyO)/\oo.data=.cell (some v)/\RelV x v)/\Qa3 H cl xs
 | _,_=>False
def Qq5 (H:Hp) (L:Lam) (a:Addr) (xs:List V):Prop :=
 ∃cl:List (Str × Addr),Qj6 H L a cl/\cl.map (·.1)=L.names/\(cl.map (·.2)).Nodup/\Qa3 H cl xs
section
variable {L:Lam}
theorem Qj6.keeps (hi:∀b o u,H b=some (.frz o u)->H' b=some (.frz o u)) (x:Qj6 H L a cl):Qj6 H' L a cl:=by
 obtain ⟨c',oc,vs,t,pm,ctv,u,h1,h2,r⟩:=x
 exact ⟨c',oc,vs,t,pm,ctv,u,hi _ _ _ h1,hi _ _ _ h2,r⟩
theorem Qa3.keeps (hi:∀b o u,H b=some (.frz o u)->H' b=some (.frz o u)):∀{cl:List (Str × Addr)} {xs:List V},Qa3 H cl xs->Qa3 H' cl xs
 | [],[],_=>trivial
 | p::cl,x::xs,⟨⟨oo,v,h1,r⟩,q⟩=>⟨⟨oo,v,hi _ _ _ h1,r⟩,Qa3.keeps hi q⟩
 | [],_::_,h=>h.elim
 | _::_,[],h=>h.elim
theorem Qq5.keeps (hi:∀b o u,H b=some (.frz o u)->H' b=some (.frz o u)) (x:Qq5 H L a xs):Qq5 H' L a xs:=by
 obtain ⟨cl,h1,h2,h3,h4⟩:=x
 exact ⟨cl,h1.keeps hi,h2,h3,h4.keeps hi⟩
end
end L2
namespace PV
open PySem PySem.Spec L2
inductive Ty where
 | int | bool | str | tuple | list | dict
 deriving DecidableEq
def Ty.nm:Ty->String
 | .int=>"int" | .bool=>"bool" | .str=>"str" | .tuple=>"tuple" | .list=>"list" | .dict=>"dict"
inductive KC where
 | any (a:Addr)
 | fn (x:Str)
 | int (i:Int)
 | tup (ks:List KC)
mutual
inductive IsKC (K:Frag):KC->V->Prop
 | any (a:Addr):IsKC K (.any a) (.ref a)
 | fn {x:Str} {f:Addr} (h:nsIn K mainGlobals x=some (some (.ref f))):IsKC K (.fn x) (.ref f)
 | int (i:Int):IsKC K (.int i) (.int i)
 | tup {a:Addr} {xs:List V} {ks:List KC} {o:Obj} {its:Array Value} {n:Nat} (h1:K.lookup a=some o) (h2:o.cls=.type "tuple") (h3:o.data=.seq its n) (h4:its.size<=sizeLine) (h5:Vals xs its.toList) (r:AreKC K ks xs):IsKC K (.tup ks) (.ref a)
inductive AreKC (K:Frag):List KC->List V->Prop
 | nil:AreKC K [] []
 | cons {c:KC} {v:V} {cs:List KC} {vs:List V} (h:IsKC K c v) (r:AreKC K cs vs):AreKC K (c::cs) (v::vs)
end
inductive D where
 | non
 | bl (b:Bool)
 | int (i:Int)
 | str (x:Str)
 | tup (xs:List D)
 | lst (xs:List D)
 | dik (kvs:List (Key × D))
 | dit (kvs:List (List Key × D))
 | kls (xs:List D)
 | ty (t:Ty)
 | fdk (kvs:List (Key × D))
 | ftp (xs:List D)
 | fls (xs:List D)
 | fdt (kvs:List (List Key × D))
 | obj (x:Str) (fs:List (Str × Int))
 | clo (L:Lam) (ds:List D)
 | kc (c:KC)
 | dmx (kvs:List (Mx.MI × D))
 | fmx (kvs:List (Mx.MI × D))
end PV
variable {o:Option PV.D} {vs:List L2.V} {ks:List PV.KC} {d:PV.D} {G F:List PySem.Addr} {ds:List (L2.Key × PV.D)} {cs:List PySem.Value}
namespace PV
open PySem PySem.Spec L2
def imm:HO->Bool
 | .tup _=>true
 | .frz _ _=>true
 | _=>false
def FzL (K:Frag) (H:Hp) (a:Addr) (xs:List V):Prop :=
 (∃o,H a=some (.frz o (.lst xs))) \/
  ∃(o:Obj) (its:Array Value) (n:Nat),K.lookup a=some o/\o.cls=.type "list" /\ o.dict=none/\o.data=.seq its n/\its.size<=sizeLine/\Vals xs its.toList
theorem FzL.sq (h:FzL K H a xs):SqL K H a xs:=by
 rcases h with h | h
 ·exact .inl (.inr h)
 ·exact .inr h
mutual
inductive Rep (K:Frag) (H:Hp):D->V->List Addr->Prop
 | non:Rep K H .non .non []
 | bl (b:Bool):Rep K H (.bl b) (.bl b) []
 | int (i:Int):Rep K H (.int i) (.int i) []
 | str (x:Str):Rep K H (.str x) (.str x) []
 | tup {a:Addr} {xs:List V} {ds:List D} {F:List Addr} (e:H a=some (.tup xs)) (r:Reps K H ds xs F):Rep K H (.tup ds) (.ref a) F
 | lst {a:Addr} {xs:List V} {ds:List D} {F:List Addr} (e:H a=some (.lst xs)) (r:Reps K H ds xs F):Rep K H (.lst ds) (.ref a) (a::F)
 | dik {a:Addr} {kvs:List (Key × V)} {ds:List (Key × D)} {F:List Addr} (e:H a=some (.dK kvs)) (r:RepK K H ds kvs F):Rep K H (.dik ds) (.ref a) (a::F)
 | dit {a:Addr} {kvs:List (List Key × V)} {ds:List (List Key × D)} {F:List Addr} (e:H a=some (.dT kvs)) (r:RepT K H ds kvs F):Rep K H (.dit ds) (.ref a) (a::F)
 | kls {a:Addr} {xs:List V} {ds:List D} (e:FzL K H a xs) (r:Reps K H ds xs []):Rep K H (.kls ds) (.ref a) []
 | ty (t:Ty):Rep K H (.ty t) (.ty t.nm) []
 | fdk {a:Addr} {o:Obj} {kvs:List (Key × V)} {ds:List (Key × D)} {F:List Addr} (e:H a=some (.frz o (.dK kvs))) (r:RepK K H ds kvs F):Rep K H (.fdk ds) (.ref a) F
 | ftp {a:Addr} {o:Obj} {xs:List V} {ds:List D} (e:H a=some (.frz o (.tup xs))) (hd:o.dict=none) (r:Reps K H ds xs []):Rep K H (.ftp ds) (.ref a) []
 | fls {a:Addr} {o:Obj} {xs:List V} {ds:List D} (e:H a=some (.frz o (.lst xs))) (r:Reps K H ds xs []):Rep K H (.fls ds) (.ref a) []
 | fdt {a:Addr} {o:Obj} {kvs:List (List Key × V)} {ds:List (List Key × D)} {F:List Addr} (e:H a=some (.frz o (.dT kvs))) (r:RepT K H ds kvs F):Rep K H (.fdt ds) (.ref a) F
 | obj {a:Addr} {x:Str} {o:Obj} {φ:Heap->Prop} {fs:List (Str × Int)} (e:H a=some (.frz o (.ext φ))) (hc:∃C,o.cls=.ref C/\nsIn K mainGlobals x=some (some (.ref C))) (hf:fs=[]\/∃dx od vs,o.dict=some dx/\o.data=.fields vs/\H dx=some (.frz od (.xd (fs.map λp=>(p.1,V.int p.2))))):Rep K H (.obj x fs) (.ref a) []
 | clo {a:Addr} {L:Lam} {xs:List V} {ds:List D} {F:List Addr} (e:Qq5 H L a xs) (r:Reps K H ds xs F):Rep K H (.clo L ds) (.ref a) F
 | kc {c:KC} {v:V} (h:IsKC K c v):Rep K H (.kc c) v []
 | dmx {a:Addr} {kvs:Mx.KVM} {ds:List (Mx.MI × D)} (e:H a=some (Mx.mixO a kvs)) (hk:Mx.Keys H kvs) (hm:kvs.map (·.1)=ds.map (·.1)) (r:Reps K H (ds.map (·.2)) (kvs.map (·.2.2)) []):Rep K H (.dmx ds) (.ref a) [a]
 | fmx {a:Addr} {o:Obj} {kvs:Mx.KVM} {ds:List (Mx.MI × D)} (e:H a=some (.frz o (Mx.mixO a kvs))) (hk:Mx.Keys H kvs) (hm:kvs.map (·.1)=ds.map (·.1)) (r:Reps K H (ds.map (·.2)) (kvs.map (·.2.2)) []):Rep K H (.fmx ds) (.ref a) []
inductive Reps (K:Frag) (H:Hp):List D->List V->List Addr->Prop
 | nil:Reps K H [] [] []
 | cons {d:D} {v:V} {ds:List D} {vs:List V} {F G:List Addr} (h:Rep K H d v F) (r:Reps K H ds vs G):Reps K H (d::ds) (v::vs) (F++G)
inductive RepK (K:Frag) (H:Hp):List (Key × D)->List (Key × V)->List Addr->Prop
 | nil:RepK K H [] [] []
 | cons {k:Key} {d:D} {v:V} {ds:List (Key × D)} {vs:List (Key × V)} {F G:List Addr} (h:Rep K H d v F) (r:RepK K H ds vs G):RepK K H ((k,d)::ds) ((k,v)::vs) (F++G)
inductive RepT (K:Frag) (H:Hp):List (List Key × D)->List (List Key × V)->List Addr->Prop
 | nil:RepT K H [] [] []
 | cons {k:List Key} {d:D} {v:V} {ds:List (List Key × D)} {vs:List (List Key × V)} {F G:List Addr} (h:Rep K H d v F) (r:RepT K H ds vs G):RepT K H ((k,d)::ds) ((k,v)::vs) (F++G)
end
def ImmK (H H':Hp):Prop:=∀b ob,H b=some ob->imm ob=true->H' b=some ob
theorem ImmK.fzL (hi:ImmK H H') (e:FzL K H a xs):FzL K H' a xs:=by
 rcases e with ⟨o,e⟩ | e
 ·exact .inl ⟨o,hi _ _ e rfl⟩
 ·exact .inr e
theorem ImmK.keys {H H':Hp} (hi:ImmK H H') {kvs:Mx.KVM} (h:Mx.Keys H kvs):Mx.Keys H' kvs:=λp hp=>by
 have:=h p hp
 revert this
 cases p.1 with
 | inl i=>exact id
 | inr l=>exact λ⟨b,e1,e2⟩=>⟨b,e1,hi _ _ e2 rfl⟩
theorem Rep.frame (hi:ImmK H H') (r:Rep K H d v F):(∀a∈F,H' a=H a)->Rep K H' d v F:=by
 refine Rep.rec (motive_1:=λd v F _=>(∀a∈F,H' a=H a)->Rep K H' d v F) (motive_2:=λd v F _=>(∀a∈F,H' a=H a)->Reps K H' d v F) (motive_3:=λd v F _=>(∀a∈F,H' a=H a)->RepK K H' d v F) (motive_4:=λd v F _=>(∀a∈F,H' a=H a)->RepT K H' d v F) ?_ ?_ ?_ ?_ ?_ ?_ ?_ ?_ ?_ ?_ ?_ ?_ ?_ ?_ ?_ ?_ ?_ ?_ ?_ ?_ ?_ ?_ ?_ ?_ ?_ r
 ·exact λ_=>.non
 ·exact λb _=>.bl b
 ·exact λb _=>.int b
 ·exact λb _=>.str b
 ·exact λe _ ih k=>.tup (hi _ _ e rfl) (ih k)
 ·exact λe _ ih k=>.lst ((k _ (List.mem_cons_self)).trans e) (ih λa h=>k a (List.mem_cons_of_mem _ h))
 ·exact λe _ ih k=>.dik ((k _ (List.mem_cons_self)).trans e) (ih λa h=>k a (List.mem_cons_of_mem _ h))
 ·exact λe _ ih k=>.dit ((k _ (List.mem_cons_self)).trans e) (ih λa h=>k a (List.mem_cons_of_mem _ h))
 ·exact λe _ ih k=>.kls (hi.fzL e) (ih k)
 ·exact λt _=>.ty t
 ·exact λe _ ih k=>.fdk (hi _ _ e rfl) (ih k)
 ·exact λe hd _ ih k=>.ftp (hi _ _ e rfl) hd (ih k)
 ·exact λe _ ih k=>.fls (hi _ _ e rfl) (ih k)
 ·exact λe _ ih k=>.fdt (hi _ _ e rfl) (ih k)
 ·exact λe hc hf _=>.obj (hi _ _ e rfl) hc (hf.imp id λ⟨dx,od,vs,h1,h0,h2⟩=>⟨dx,od,vs,h1,h0,hi _ _ h2 rfl⟩)
 ·exact λe _ ih k=>.clo (e.keeps λ_ _ _ q=>hi _ _ q rfl) (ih k)
 ·exact λh _=>.kc h
 ·exact λe hk hm _ ih k=>.dmx ((k _ (List.mem_cons_self)).trans e) (hi.keys hk) hm (ih λa h=>nomatch h)
 ·exact λe hk hm _ ih k=>.fmx (hi _ _ e rfl) (hi.keys hk) hm (ih λa h=>nomatch h)
 ·exact λ_=>.nil
 ·exact λ_ _ ih1 ih2 k=>.cons (ih1 λa q=>k a (List.mem_append.mpr (.inl q))) (ih2 λa q=>k a (List.mem_append.mpr (.inr q)))
 ·exact λ_=>.nil
 ·exact λ_ _ ih1 ih2 k=>.cons (ih1 λa q=>k a (List.mem_append.mpr (.inl q))) (ih2 λa q=>k a (List.mem_append.mpr (.inr q)))
 ·exact λ_=>.nil
 ·exact λ_ _ ih1 ih2 k=>.cons (ih1 λa q=>k a (List.mem_append.mpr (.inl q))) (ih2 λa q=>k a (List.mem_append.mpr (.inr q)))
theorem Reps.frame (hi:ImmK H H') {d:List D} {v:List V} (r:Reps K H d v F) (k:∀a∈F,H' a=H a):Reps K H' d v F:=by
 induction d generalizing v F with
 | nil=>cases r;exact .nil
 | cons d ds ih=>cases r with | cons h r=>exact .cons (Rep.frame hi h λa q=>k a (List.mem_append.mpr (.inl q))) (ih r λa q=>k a (List.mem_append.mpr (.inr q)))
theorem RepK.frame (hi:ImmK H H') {d:List (Key × D)} {v:List (Key × V)} (r:RepK K H d v F) (k:∀a∈F,H' a=H a):RepK K H' d v F:=by
 induction d generalizing v F with
 | nil=>cases r;exact .nil
 | cons d ds ih=>cases r with | cons h r=>exact .cons (Rep.frame hi h λa q=>k a (List.mem_append.mpr (.inl q))) (ih r λa q=>k a (List.mem_append.mpr (.inr q)))
theorem RepT.frame (hi:ImmK H H') {d:List (List Key × D)} {v:List (List Key × V)} (r:RepT K H d v F) (k:∀a∈F,H' a=H a):RepT K H' d v F:=by
 induction d generalizing v F with
 | nil=>cases r;exact .nil
 | cons d ds ih=>cases r with | cons h r=>exact .cons (Rep.frame hi h λa q=>k a (List.mem_append.mpr (.inl q))) (ih r λa q=>k a (List.mem_append.mpr (.inr q)))
theorem Rep.dom (r:Rep K H d v F):∀a∈F,∃ob,H a=some ob/\imm ob=false:=by
 have cn:∀{b:Addr} {F:List Addr} {ob:HO},H b=some ob->imm ob=false->(∀a∈F,∃ob,H a=some ob/\imm ob=false)->∀a∈b::F,∃ob,H a=some ob/\imm ob=false:=λe hb ih a m=>(List.mem_cons.mp m).elim (λz=>z ▸ ⟨_,e,hb⟩) (ih a)
 have ap:∀{F G:List Addr},(∀a∈F,∃ob,H a=some ob/\imm ob=false)->(∀a∈G,∃ob,H a=some ob/\imm ob=false)->∀a∈F++G,∃ob,H a=some ob/\imm ob=false:=λih1 ih2 a m=>(List.mem_append.mp m).elim (ih1 a) (ih2 a)
 have no:∀a∈([]:List Addr),∃ob,H a=some ob/\imm ob=false:=λ_ m=>nomatch m
 refine Rep.rec (motive_1:=λ_ _ F _=>∀a∈F,∃ob,H a=some ob/\imm ob=false) (motive_2:=λ_ _ F _=>∀a∈F,∃ob,H a=some ob/\imm ob=false) (motive_3:=λ_ _ F _=>∀a∈F,∃ob,H a=some ob/\imm ob=false) (motive_4:=λ_ _ F _=>∀a∈F,∃ob,H a=some ob/\imm ob=false) no (λ_=>no) (λ_=>no) (λ_=>no) (λ_ _ ih=>ih) (λe _ ih=>cn e rfl ih) (λe _ ih=>cn e rfl ih) (λe _ ih=>cn e rfl ih) (λ_ _ _=>no) (λ_=>no) (λ_ _ ih=>ih) (λ_ _ _ _=>no) (λ_ _ _=>no) (λ_ _ ih=>ih) (λ_ _ _=>no) (λ_ _ ih=>ih) (λ_=>no) (λe _ _ _ _=>cn e rfl no) (λ_ _ _ _ _=>no) no (λ_ _=>ap) no (λ_ _=>ap) no (λ_ _=>ap) r
theorem Reps.dom {d:List D} {v:List V} (r:Reps K H d v F):∀a∈F,∃ob,H a=some ob/\imm ob=false:=by
 induction d generalizing v F with
 | nil=>cases r;exact λ_ m=>nomatch m
 | cons d ds ih=>cases r with | cons h r=>exact λa m=>(List.mem_append.mp m).elim (Rep.dom h a) (ih r a)
mutual
def D.pure:D->Bool
 | .tup xs=>Qo xs
 | .lst _=>false
 | .dik _=>false
 | .dit _=>false
 | .kls _=>true
 | .non=>true
 | .bl _=>true
 | .int _=>true
 | .str _=>true
 | .ty _=>true
 | .fdk kvs=>kvs.isEmpty
 | .ftp _=>true
 | .fls _=>true
 | .fdt _=>false
 | .obj _ _=>true
 | .clo _ _=>false
 | .kc _=>true
 | .dmx _=>false
 | .fmx _=>false
def Qo:List D->Bool
 | []=>true
 | d::r=>d.pure && Qo r
end
theorem Qaf {xs:List D}:Qo xs=true↔∀x∈xs,x.pure=true:=by
 induction xs with
 | nil=>simp [Qo]
 | cons d r ih=>simp only [Qo,Bool.and_eq_true,ih,List.mem_cons,forall_eq_or_imp]
theorem Rep.pure (r:Rep K H d v F):d.pure=true->F=[]/\Rep K H d v []:=by
 have no:∀{P:Prop} {b:Bool},b=false->b=true->P:=λh h'=>absurd (h.symm.trans h') (by simp)
 refine Rep.rec (motive_1:=λd v F _=>d.pure=true->F=[]/\Rep K H d v []) (motive_2:=λd v F _=>Qo d=true->F=[]/\Reps K H d v []) (motive_3:=λ_ _ _ _=>True) (motive_4:=λ_ _ _ _=>True) ?_ ?_ ?_ ?_ ?_ ?_ ?_ ?_ ?_ ?_ ?_ ?_ ?_ ?_ ?_ ?_ ?_ ?_ ?_ ?_ ?_ trivial (λ_ _ _ _=>trivial) trivial (λ_ _ _ _=>trivial) r
 ·exact λ_=>⟨rfl,.non⟩
 ·exact λb _=>⟨rfl,.bl b⟩
 ·exact λb _=>⟨rfl,.int b⟩
 ·exact λb _=>⟨rfl,.str b⟩
 ·exact λe _ ih p=>⟨(ih (by rw [D.pure] at p;exact p)).1,.tup e (ih (by rw [D.pure] at p;exact p)).2⟩
 ·exact λ_ _ _=>no (by rw [D.pure])
 ·exact λ_ _ _=>no (by rw [D.pure])
 ·exact λ_ _ _=>no (by rw [D.pure])
 ·exact λe r _ _=>⟨rfl,.kls e r⟩
 ·exact λb _=>⟨rfl,.ty b⟩
 ·intro a o kvs ds F e r _ p
  have hd:ds=[]:=by rw [D.pure] at p;exact List.isEmpty_iff.mp p
  subst hd
  cases r
  exact ⟨rfl,.fdk e .nil⟩
 ·exact λe hd r _ _=>⟨rfl,.ftp e hd r⟩
 ·exact λe r _ _=>⟨rfl,.fls e r⟩
 ·exact λ_ _ _=>no (by rw [D.pure])
 ·exact λe hc hf _=>⟨rfl,.obj e hc hf⟩
 ·exact λ_ _ _=>no (by rw [D.pure])
 ·exact λh _=>⟨rfl,.kc h⟩
 ·exact λ_ _ _ _ _=>no (by rw [D.pure])
 ·exact λ_ _ _ _ _=>no (by rw [D.pure])
 ·exact λ_=>⟨rfl,.nil⟩
 ·intro _ _ _ _ _ _ _ _ ih1 ih2 p
  rw [Qo,Bool.and_eq_true] at p
  obtain ⟨e1,r1⟩:=ih1 p.1
  obtain ⟨e2,r2⟩:=ih2 p.2
  subst e1 e2
  exact ⟨rfl,.cons (F:=[]) (G:=[]) r1 r2⟩
theorem Reps.pure {d:List D} {v:List V} (r:Reps K H d v F) (p:Qo d=true):F=[]/\Reps K H d v []:=by
 induction d generalizing v F with
 | nil=>cases r;exact ⟨rfl,.nil⟩
 | cons d ds ih =>
  cases r with
  | cons h r =>
   rw [Qo,Bool.and_eq_true] at p
   obtain ⟨e1,r1⟩:=h.pure p.1
   obtain ⟨e2,r2⟩:=ih r p.2
   subst e1 e2
   exact ⟨rfl,.cons (F:=[]) (G:=[]) r1 r2⟩
theorem Reps.length {ds:List D} (r:Reps K H ds xs F):xs.length=ds.length:=by
 induction ds generalizing xs F with
 | nil=>cases r;rfl
 | cons d ds ih=>cases r with | cons h r=>simp [ih r]
theorem Reps.append {ds es:List D} (r:Reps K H ds xs F) (q:Reps K H es ys G):Reps K H (ds++es) (xs++ys) (F++G):=by
 induction ds generalizing xs F with
 | nil=>cases r;exact q
 | cons d ds ih=>cases r with | cons h r=>rw [List.append_assoc];exact .cons h (ih r)
theorem Reps.one {x:V} (h:Rep K H d x F):Reps K H [d] [x] F:=by
 have:=Reps.cons h (Reps.nil (K:=K) (H:=H))
 rwa [List.append_nil] at this
theorem Reps.snoc {ds:List D} {x:V} (r:Reps K H ds xs F) (h:Rep K H d x G):Reps K H (ds++[d]) (xs++[x]) (F++G):=r.append (.one h)
theorem Reps.split {ds:List D} (r:Reps K H ds xs F) (h:ds[i]? = some d) :
  ∃x A B C,xs[i]? = some x/\F=A++B++C/\Rep K H d x B/\Reps K H (ds.take i) (xs.take i) A/\Reps K H (ds.drop (i+1)) (xs.drop (i+1)) C:=by
 induction ds generalizing xs F i with
 | nil=>simp at h
 | cons e ds ih =>
  cases r with
  | @cons _ v _ vs F G p r =>
   cases i with
   | zero =>
    simp at h
    subst h
    exact ⟨v,[],F,G,rfl,by simp,p,.nil,by simpa using r⟩
   | succ i =>
    obtain ⟨x,A,B,C,h1,h2,h3,h4,h5⟩:=ih r (i:=i) (by simpa using h)
    exact ⟨x,F++A,B,C,by simpa using h1,by rw [h2];simp,h3,by simpa using Reps.cons p h4,by simpa using h5⟩
theorem Reps.get {ds:List D} (r:Reps K H ds xs F) (h:ds[i]? = some d):∃x B,xs[i]? = some x/\Rep K H d x B/\B.Sublist F:=by
 obtain ⟨x,A,B,C,h1,h2,h3,_⟩:=r.split h
 exact ⟨x,B,h1,h3,h2 ▸ (List.sublist_append_right A B).trans (List.sublist_append_left _ C)⟩
theorem X7 {α:Type} {l:List α} {a:α} (h:i<l.length):l.set i a=l.take i++a::l.drop (i+1):=by
 rw [List.set_eq_take_append_cons_drop,if_pos h]
theorem Reps.take {ds:List D} (i:Nat) (r:Reps K H ds xs F):∃G,Reps K H (ds.take i) (xs.take i) G/\G.Sublist F:=by
 induction ds generalizing xs F i with
 | nil=>cases r;exact ⟨[],by simpa using Reps.nil,List.Sublist.slnil⟩
 | cons d ds ih =>
  cases r with
  | @cons _ v _ vs F G p r =>
   cases i with
   | zero=>exact ⟨[],by simpa using Reps.nil,List.nil_sublist _⟩
   | succ i =>
    obtain ⟨G',q,s⟩:=ih i r
    exact ⟨F++G',by simpa using Reps.cons p q,List.Sublist.append (List.Sublist.refl _) s⟩
theorem Reps.drop {ds:List D} (i:Nat) (r:Reps K H ds xs F):∃G,Reps K H (ds.drop i) (xs.drop i) G/\G.Sublist F:=by
 induction ds generalizing xs F i with
 | nil=>cases r;exact ⟨[],by simpa using Reps.nil,List.Sublist.slnil⟩
 | cons d ds ih =>
  cases i with
  | zero=>exact ⟨F,by simpa using r,List.Sublist.refl _⟩
  | succ i =>
   cases r with
   | @cons _ v _ vs F G p r =>
    obtain ⟨G',q,s⟩:=ih i r
    exact ⟨G',by simpa using q,s.trans (List.sublist_append_right _ _)⟩
theorem Reps.ints (ns:List Int):Reps K H (ns.map D.int) (ns.map V.int) []:=by
 induction ns with
 | nil=>exact .nil
 | cons n ns ih=>exact .cons (F:=[]) (G:=[]) (.int n) ih
theorem Reps.of_ints (r:Reps K H (ns.map D.int) xs F):xs=ns.map V.int/\F=[]:=by
 induction ns generalizing xs F with
 | nil=>cases r;exact ⟨rfl,rfl⟩
 | cons n ns ih =>
  cases r with
  | cons h r =>
   cases h
   obtain ⟨e1,e2⟩:=ih r
   exact ⟨by rw [e1];rfl,by rw [e2];rfl⟩
def kcD:KC->D
 | .int i=>.int i
 | .any a=>.kc (.any a)
 | .fn x=>.kc (.fn x)
 | .tup ks=>.kc (.tup ks)
theorem IsKC.rep {c:KC} (h:IsKC K c v):Rep K H (kcD c) v []:=by
 cases h with
 | int i=>exact .int i
 | any a=>exact .kc (.any a)
 | fn h=>exact .kc (.fn h)
 | tup h1 h2 h3 h4 h5 r=>exact .kc (.tup h1 h2 h3 h4 h5 r)
theorem AreKC.reps {cs:List KC} (h:AreKC K cs vs):Reps K H (cs.map kcD) vs []:=by
 induction cs generalizing vs with
 | nil=>cases h;exact .nil
 | cons c cs ih=>cases h with | cons h r=>exact .cons (F:=[]) (G:=[]) h.rep (ih r)
theorem IsKC.sqT (h:IsKC K (.tup ks) v):∃a xs,v=.ref a/\(∀H,SqT K H a xs)/\AreKC K ks xs:=by
 cases h with
 | tup h1 h2 h3 h4 h5 r=>exact ⟨_,_,rfl,λH=>.inr ⟨_,_,_,h1,h2,h3,h4,h5⟩,r⟩
theorem Rep.iInt {i:Int} (r:Rep K H (.int i) v F):v=.int i:=by cases r;rfl
theorem Rep.iStr {i:Str} (r:Rep K H (.str i) v F):v=.str i:=by cases r;rfl
theorem Rep.iBl {i:Bool} (r:Rep K H (.bl i) v F):v=.bl i:=by cases r;rfl
theorem Rep.iTup {ds:List D} (r:Rep K H (.tup ds) v F):∃a xs,v=.ref a/\H a=some (.tup xs)/\Reps K H ds xs F:=by cases r with | tup e r=>exact ⟨_,_,rfl,e,r⟩
theorem Rep.iLst {ds:List D} (r:Rep K H (.lst ds) v F):∃a xs G,v=.ref a/\F=a::G/\H a=some (.lst xs)/\Reps K H ds xs G:=by cases r with | lst e r=>exact ⟨_,_,_,rfl,rfl,e,r⟩
theorem Rep.iDik (r:Rep K H (.dik ds) v F):∃a xs G,v=.ref a/\F=a::G/\H a=some (.dK xs)/\RepK K H ds xs G:=by cases r with | dik e r=>exact ⟨_,_,_,rfl,rfl,e,r⟩
theorem Rep.iDit {ds:List (List Key × D)} (r:Rep K H (.dit ds) v F):∃a xs G,v=.ref a/\F=a::G/\H a=some (.dT xs)/\RepT K H ds xs G:=by cases r with | dit e r=>exact ⟨_,_,_,rfl,rfl,e,r⟩
theorem Rep.iKls {ds:List D} (r:Rep K H (.kls ds) v F):∃a xs,v=.ref a/\F=[]/\FzL K H a xs/\Reps K H ds xs []:=by cases r with | kls e r=>exact ⟨_,_,rfl,rfl,e,r⟩
theorem Rep.iFdk (r:Rep K H (.fdk ds) v F):∃a o xs,v=.ref a/\H a=some (.frz o (.dK xs))/\RepK K H ds xs F:=by cases r with | fdk e r=>exact ⟨_,_,_,rfl,e,r⟩
section
variable {κ:Type} [DecidableEq κ]
def valD (kvs:List (κ × D)) (k:κ):Option D:=(kvs.find? λkv=>decide (kv.1=k)).map (·.2)
def putD (kvs:List (κ × D)) (k:κ) (v:D):List (κ × D) :=
 if (kvs.any λkv=>decide (kv.1=k))=true then kvs.map (λkv=>if kv.1=k then (kv.1,v) else kv) else kvs++[(k,v)]
def Qy9 (kvs:List (κ × D)) (k:κ):List (κ × D):=kvs.filter λkv=>decide (kv.1≠k)
theorem Qo6 {k:κ}:valD ([]:List (κ × D)) k=none:=rfl
theorem Va {p:κ × D} {r:List (κ × D)} {k:κ}:valD (p::r) k=if p.1=k then some p.2 else valD r k:=by
 unfold valD
 by_cases h:p.1=k
 ·rw [List.find?_cons_of_pos (by simpa using h),if_pos h];rfl
 ·rw [List.find?_cons_of_neg (by simpa using h),if_neg h]
theorem Qfd (k:κ):∀kvs:List (κ × D),(kvs.any λkv=>decide (kv.1=k))=(valD kvs k).isSome
 | []=>rfl
 | p::r=>by
  rw [List.any_cons,Va,Qfd k r]
  by_cases h:p.1=k <;> simp [h]
theorem Qfm (k j:κ) (y:D):∀kvs:List (κ × D),valD (kvs++[(k,y)]) j=if (valD kvs j).isSome then valD kvs j else if k=j then some y else none
 | []=>by simp [Va,Qo6]
 | p::r=>by
  rw [List.cons_append,Va,Va,Qfm k j y r]
  by_cases h:p.1=j <;> simp [h]
end
theorem RepK.length {xs:List (Key × V)} (r:RepK K H ds xs F):xs.length=ds.length:=by
 induction ds generalizing xs F with
 | nil=>cases r;rfl
 | cons d ds ih=>cases r with | cons h r=>simp [ih r]
theorem RepK.keys {xs:List (Key × V)} (r:RepK K H ds xs F):xs.map (·.1)=ds.map (·.1):=by
 induction ds generalizing xs F with
 | nil=>cases r;rfl
 | cons d ds ih=>cases r with | cons h r=>simp [ih r]
theorem RepK.val {xs:List (Key × V)} (r:RepK K H ds xs F) (k:Key) :
  (valD ds k=none/\valV xs k=none)\/∃d v B,valD ds k=some d/\valV xs k=some v/\Rep K H d v B/\B.Sublist F:=by
 induction ds generalizing xs F with
 | nil=>cases r;exact .inl ⟨rfl,rfl⟩
 | cons d ds ih =>
  cases r with
  | @cons j d v _ vs F G h r =>
   rw [Va]
   by_cases e:j=k
   ·rw [Yw e,if_pos e]
    exact .inr ⟨d,v,F,rfl,rfl,h,List.sublist_append_left _ _⟩
   ·rw [Yx e,if_neg e]
    rcases ih r with q | ⟨d',v',B,h1,h2,h3,h4⟩
    ·exact .inl q
    ·exact .inr ⟨d',v',B,h1,h2,h3,h4.trans (List.sublist_append_right _ _)⟩
theorem RepK.append {es:List (Key × D)} {xs ys:List (Key × V)} (r:RepK K H ds xs F) (q:RepK K H es ys G):RepK K H (ds++es) (xs++ys) (F++G):=by
 induction ds generalizing xs F with
 | nil=>cases r;exact q
 | cons d ds ih=>cases r with | cons h r=>rw [List.append_assoc];exact .cons h (ih r)
theorem RepK.put {xs:List (Key × V)} (r:RepK K H ds xs F) (h:Rep K H d v []):∃G,RepK K H (putD ds k d) (putK xs k v) G/\G.Sublist F:=by
 have hk:(xs.any λkv=>decide (kv.1=k))=(ds.any λkv=>decide (kv.1=k)):=by
  have e:=r.keys
  rw [show (xs.any λkv=>decide (kv.1=k))=(xs.map (·.1)).any (λj=>decide (j=k)) by rw [List.any_map];rfl,e,List.any_map];rfl
 unfold putD putK
 rw [hk]
 split
 ·clear hk
  rename_i hc
  clear hc
  induction ds generalizing xs F with
  | nil=>cases r;exact ⟨[],.nil,List.Sublist.slnil⟩
  | cons e ds ih =>
   cases r with
   | @cons j e u _ us F G p r =>
    obtain ⟨G',q,s⟩:=ih r
    by_cases ej:j=k
    ·exact ⟨[]++G',by simpa [ej] using RepK.cons (k:=k) h q,s.trans (List.sublist_append_right _ _)⟩
    ·exact ⟨F++G',by simpa [ej] using RepK.cons (k:=j) p q,List.Sublist.append (List.Sublist.refl _) s⟩
 ·refine ⟨F++[],r.append ?_,by simp⟩
  exact RepK.cons (F:=[]) (G:=[]) h .nil
theorem RepT.length {ds:List (List Key × D)} {xs:List (List Key × V)} (r:RepT K H ds xs F):xs.length=ds.length:=by
 induction ds generalizing xs F with
 | nil=>cases r;rfl
 | cons d ds ih=>cases r with | cons h r=>simp [ih r]
theorem RepT.keys {ds:List (List Key × D)} {xs:List (List Key × V)} (r:RepT K H ds xs F):xs.map (·.1)=ds.map (·.1):=by
 induction ds generalizing xs F with
 | nil=>cases r;rfl
 | cons d ds ih=>cases r with | cons h r=>simp [ih r]
theorem RepT.val {ds:List (List Key × D)} {xs:List (List Key × V)} (r:RepT K H ds xs F) (k:List Key) :
  (valD ds k=none/\valV xs k=none)\/∃d v B,valD ds k=some d/\valV xs k=some v/\Rep K H d v B/\B.Sublist F:=by
 induction ds generalizing xs F with
 | nil=>cases r;exact .inl ⟨rfl,rfl⟩
 | cons d ds ih =>
  cases r with
  | @cons j d v _ vs F G h r =>
   rw [Va]
   by_cases e:j=k
   ·rw [Yw e,if_pos e]
    exact .inr ⟨d,v,F,rfl,rfl,h,List.sublist_append_left _ _⟩
   ·rw [Yx e,if_neg e]
    rcases ih r with q | ⟨d',v',B,h1,h2,h3,h4⟩
    ·exact .inl q
    ·exact .inr ⟨d',v',B,h1,h2,h3,h4.trans (List.sublist_append_right _ _)⟩
theorem RepT.append {ds es:List (List Key × D)} {xs ys:List (List Key × V)} (r:RepT K H ds xs F) (q:RepT K H es ys G):RepT K H (ds++es) (xs++ys) (F++G):=by
 induction ds generalizing xs F with
 | nil=>cases r;exact q
 | cons d ds ih=>cases r with | cons h r=>rw [List.append_assoc];exact .cons h (ih r)
theorem RepT.put {ds:List (List Key × D)} {xs:List (List Key × V)} {k:List Key} (r:RepT K H ds xs F) (h:Rep K H d v []):∃G,RepT K H (putD ds k d) (putK xs k v) G/\G.Sublist F:=by
 have hk:(xs.any λkv=>decide (kv.1=k))=(ds.any λkv=>decide (kv.1=k)):=by
  have e:=r.keys
  rw [show (xs.any λkv=>decide (kv.1=k))=(xs.map (·.1)).any (λj=>decide (j=k)) by rw [List.any_map];rfl,e,List.any_map];rfl
 unfold putD putK
 rw [hk]
 split
 ·clear hk
  rename_i hc
  clear hc
  induction ds generalizing xs F with
  | nil=>cases r;exact ⟨[],.nil,List.Sublist.slnil⟩
  | cons e ds ih =>
   cases r with
   | @cons j e u _ us F G p r =>
    obtain ⟨G',q,s⟩:=ih r
    by_cases ej:j=k
    ·exact ⟨[]++G',by simpa [ej] using RepT.cons (k:=k) h q,s.trans (List.sublist_append_right _ _)⟩
    ·exact ⟨F++G',by simpa [ej] using RepT.cons (k:=j) p q,List.Sublist.append (List.Sublist.refl _) s⟩
 ·refine ⟨F++[],r.append ?_,by simp⟩
  exact RepT.cons (F:=[]) (G:=[]) h .nil
abbrev Env:=List (Option D)
def look:Env->Nat->Option D
 | [],_=>none
 | a::_,0=>a
 | _::r,n+1=>look r n
theorem Qe5:∀{ρ:Env} {i:Nat} {d:D},look ρ i=some d->ρ[i]? = some (some d)
 | _::_,0,_,h=>by simpa [look] using h
 | _::r,n+1,_,h=>by simpa using Qe5 (ρ:=r) (i:=n) (by simpa [look] using h)
theorem Qcs {ρ:Env} (h:look ρ i=some d):i<ρ.length:=by
 have:=Qe5 h
 exact (List.getElem?_eq_some_iff.mp this).1
theorem Gz {o:Option D}:∀{ρ:Env} {i j:Nat},look (ρ.set i o) j=if j=i/\i<ρ.length then o else look ρ j
 | [],i,j=>by simp [look]
 | a::r,0,0=>by simp [look]
 | a::r,0,j+1=>by simp [look]
 | a::r,i+1,0=>by simp [look]
 | a::r,i+1,j+1=>by
  have:=Gz (o:=o) (ρ:=r) (i:=i) (j:=j)
  simp only [List.set_cons_succ,look,this,List.length_cons,Nat.add_right_cancel_iff,Nat.add_lt_add_iff_right]
theorem Qah {ρ:Env} (h:i<ρ.length):look (ρ.set i o) i=o:=by rw [Gz,if_pos ⟨rfl,h⟩]
theorem Yb {ρ:Env} (h:j≠i):look (ρ.set i o) j=look ρ j:=by rw [Gz,if_neg (λz=>h z.1)]
structure Tg where
 own:Nat->Bool
 io:List Nat
 xe:D->St->Hp->Prop:=λ_ _ _=>False
end PV
variable {R W1 W2 W':PySem.Addr->Prop} {T:PV.Tg} {ρ:PV.Env} {z:Nat->L2.V}
namespace PV
open PySem PySem.Spec L2
structure SR0 (K:Frag) (T:Tg) (z:Nat->V) (R:Addr->Prop) (H:Hp) (W:Addr->Prop) (σ:St) (ρ:Env) (fp:Nat->List Addr):Prop where
 len:ρ.length=σ.length
 wd:∀a,W a->∃ob,H a=some ob/\imm ob=false
 at_:∀i d,look ρ i=some d->∃v,σ[i]? = some (some v)/\Rep K H d v (fp i)
 own:∀i d,look ρ i=some d->T.own i=true->(fp i).Nodup/\∀a∈fp i,W a
 ro:∀i d,look ρ i=some d->T.own i=false->∀a∈fp i,R a
 wr:∀a,W a->¬R a
 rd:∀a,R a->∃ob,H a=some ob/\imm ob=false
 dis:∀i j d e,look ρ i=some d->look ρ j=some e->T.own i=true->T.own j=true->i≠j->∀a∈fp i,a∉fp j
 fix:∀i∈T.io,σ[i]? = some (some (z i))
def SR (K:Frag) (T:Tg) (z:Nat->V) (R:Addr->Prop) (H:Hp) (W:Addr->Prop) (σ:St) (ρ:Env):Prop:=∃fp,SR0 K T z R H W σ ρ fp
structure FrW (H:Hp) (W:Addr->Prop) (H':Hp) (W':Addr->Prop):Prop where
 keep:∀b ob,H b=some ob->¬W b->H' b=some ob
 dom:∀b,H' b=none->H b=none
 imm:ImmK H H'
 new:∀b,W' b->W b\/H b=none
theorem FrW.refl (H:Hp) (W:Addr->Prop):FrW H W H W:=⟨λ_ _ h _=>h,λ_ h=>h,λ_ _ h _=>h,λ_ h=>.inl h⟩
theorem FrW.trans {W:Addr->Prop} (a:FrW H W H1 W1) (b:FrW H1 W1 H2 W2):FrW H W H2 W2 where
 keep:=λc ob h n=>b.keep c ob (a.keep c ob h n) λw=>by
  rcases a.new c w with w | w
  ·exact n w
  ·rw [w] at h;cases h
 dom:=λc h=>a.dom c (b.dom c h)
 imm:=λc ob h i=>b.imm c ob (a.imm c ob h i) i
 new:=λc h=>by
  rcases b.new c h with w | w
  ·exact a.new c w
  ·exact .inr (a.dom c w)
theorem Same.imm (s:Same H H'):ImmK H H':=λb ob h _=>s b ob h
theorem FrW.same (W:Addr->Prop) (s:Same H H'):FrW H W H' W:=⟨λb ob h _=>s b ob h,λb h=>s.free h,Same.imm s,λ_ h=>.inl h⟩
theorem Rep.same (r:Rep K H d v F) (s:Same H H'):Rep K H' d v F :=
 r.frame (Same.imm s) λa m=>by
  obtain ⟨ob,h,_⟩:=r.dom a m
  rw [h];exact s _ _ h
theorem Reps.same {d:List D} {v:List V} (r:Reps K H d v F) (s:Same H H'):Reps K H' d v F :=
 r.frame (Same.imm s) λa m=>by
  obtain ⟨ob,h,_⟩:=r.dom a m
  rw [h];exact s _ _ h
theorem Rep.keep {W:Addr->Prop} (r:Rep K H d v F) (f:FrW H W H' W') (n:∀a∈F,¬W a):Rep K H' d v F :=
 r.frame f.imm λa m=>by
  obtain ⟨ob,h,_⟩:=r.dom a m
  rw [h];exact f.keep _ _ h (n a m)
section
variable {W:Addr->Prop}
theorem SR.same (s:SR K T z R H W σ ρ) (k:Same H H'):SR K T z R H' W σ ρ:=by
 obtain ⟨fp,r⟩:=s
 exact ⟨fp,r.len,λa h=>(r.wd a h).imp λob q=>⟨k _ _ q.1,q.2⟩,λi d h=>(r.at_ i d h).imp λv q=>⟨q.1,q.2.same k⟩,r.own,r.ro,r.wr,λa h=>(r.rd a h).imp λob q=>⟨k _ _ q.1,q.2⟩,r.dis,r.fix⟩
theorem SR.wd (s:SR K T z R H W σ ρ):∀a,W a->∃ob,H a=some ob/\imm ob=false:=by obtain ⟨fp,r⟩:=s;exact r.wd
theorem SR.rd (s:SR K T z R H W σ ρ):∀a,R a->∃ob,H a=some ob/\imm ob=false:=by obtain ⟨fp,r⟩:=s;exact r.rd
theorem SR.nr (s:SR K T z R H W σ ρ) (h:H a=none):¬R a:=λw=>by
 obtain ⟨ob,q,_⟩:=s.rd a w
 rw [h] at q;cases q
theorem SR.nw (s:SR K T z R H W σ ρ) (h:H a=none):¬W a:=λw=>by
 obtain ⟨ob,q,_⟩:=s.wd a w
 rw [h] at q;cases q
end
abbrev WE:=Env->(D->Env->Prop)->Prop
end PV
variable {a b d1:PV.D} {o o1 o2 m1 m2:Bool} {i:Int} {t:PySem.Tok} {ρ1 ρ2:PV.Env} {F1 F2:List PySem.Addr} {wa wb:PV.WE}
namespace PV
open PySem PySem.Spec L2
structure Post (K:Frag) (T:Tg) (z:Nat->V) (R:Addr->Prop) (m o:Bool) (H:Hp) (W:Addr->Prop) (σ:St) (ρ:Env) (H':Hp) (W':Addr->Prop) (ρ':Env) (d:D) (v:V) (F:List Addr):Prop where
 sr:SR K T z R H' W' σ ρ'
 fr:FrW H W H' W'
 calm:m=false->Same H H'/\W'=W/\ρ'=ρ
 rep:Rep K H' d v F
 own:o=true->F.Nodup/\∀a∈F,H a=none/\¬W' a
def EV (X:Cx) (T:Tg) (m o:Bool) (e:Expr) (w:WE):Prop :=
 ∃te,PE X e te/\∀(z:Nat->V) (R:Addr->Prop) (σ:St) (H:Hp) (W:Addr->Prop) (ρ:Env) (Q:D->Env->Prop) (Q':VK),SR X.K T z R H W σ ρ->w ρ Q ->
  (∀v H' W' d ρ' F,Post X.K T z R m o H W σ ρ H' W' ρ' d v F->Q d ρ'->Q' v H')->te σ H Q'
section
variable {W:Addr->Prop} {d2:D} {v1 v2:V}
theorem Post.first (p:Post K T z R m1 o1 H W σ ρ H1 W1 ρ1 d1 v1 F1) (q:Post K T z R m2 o2 H1 W1 σ ρ1 H2 W2 ρ2 d2 v2 F2) (hc:o1=true\/m2=false):Rep K H2 d1 v1 F1:=by
 rcases hc with hc | hc
 ·exact p.rep.keep q.fr λa h=>((p.own hc).2 a h).2
 ·exact p.rep.same (q.calm hc).1
theorem Post.firstOwn (p:Post K T z R m1 o1 H W σ ρ H1 W1 ρ1 d1 v1 F1) (q:Post K T z R m2 o2 H1 W1 σ ρ1 H2 W2 ρ2 d2 v2 F2) (h:o1=true):F1.Nodup/\∀a∈F1,H a=none/\¬W2 a:=by
 obtain ⟨h1,h2⟩:=p.own h
 refine ⟨h1,λa m=>⟨(h2 a m).1,λw=>?_⟩⟩
 rcases q.fr.new a w with w | w
 ·exact (h2 a m).2 w
 ·obtain ⟨ob,e,_⟩:=p.rep.dom a m
  rw [e] at w;cases w
theorem Post.lastOwn (p:Post K T z R m1 o1 H W σ ρ H1 W1 ρ1 d1 v1 F1) (q:Post K T z R m2 o2 H1 W1 σ ρ1 H2 W2 ρ2 d2 v2 F2) (h:o2=true):F2.Nodup/\∀a∈F2,H a=none/\¬W2 a:=by
 obtain ⟨h1,h2⟩:=q.own h
 exact ⟨h1,λa m=>⟨p.fr.dom a (h2 a m).1,(h2 a m).2⟩⟩
theorem Post.calm2 (p:Post K T z R m1 o1 H W σ ρ H1 W1 ρ1 d1 v1 F1) (q:Post K T z R m2 o2 H1 W1 σ ρ1 H2 W2 ρ2 d2 v2 F2) (h:(m1 || m2)=false):Same H H2/\W2=W/\ρ2=ρ:=by
 rw [Bool.or_eq_false_iff] at h
 obtain ⟨a1,a2,a3⟩:=p.calm h.1
 obtain ⟨b1,b2,b3⟩:=q.calm h.2
 exact ⟨a1.trans b1,b2.trans a2,b3.trans a3⟩
theorem Post.fin (s:SR K T z R H1 W1 σ ρ1) (f:FrW H W H1 W1) (c:m=false->Same H H1/\W1=W/\ρ1=ρ) (k:Same H1 H2) (r:Rep K H2 d v F) (nd:F.Nodup) (nw:∀a∈F,H1 a=none) :
  Post K T z R m true H W σ ρ H2 W1 ρ1 d v F where
 sr:=s.same k
 fr:=f.trans (FrW.same W1 k)
 calm:=λh=>⟨(c h).1.trans k,(c h).2⟩
 rep:=r
 own:=λ_=>⟨nd,λa m=>⟨f.dom a (nw a m),s.nw (nw a m)⟩⟩
theorem Post.flat (s:SR K T z R H1 W1 σ ρ1) (f:FrW H W H1 W1) (c:m=false->Same H H1/\W1=W/\ρ1=ρ) (r:Rep K H1 d v []):Post K T z R m true H W σ ρ H1 W1 ρ1 d v [] where
 sr:=s
 fr:=f
 calm:=c
 rep:=r
 own:=λ_=>⟨List.nodup_nil,λa m=>nomatch m⟩
end
section
variable {a b:Expr} {w:WE}
theorem EV.lift (h:EV X T m o e w):EV X T m true e (λρ Q=>w ρ λd ρ'=>d.pure=true/\Q d ρ'):=by
 obtain ⟨te,p,g⟩:=h
 refine ⟨te,p,λz R σ H W ρ Q Q' s hw k=>g z R σ H W ρ _ Q' s hw λv H' W' d ρ' F q ⟨hp,hq⟩=>?_⟩
 obtain ⟨e,r⟩:=q.rep.pure hp
 exact k v H' W' d ρ' [] ⟨q.sr,q.fr,q.calm,r,λ_=>⟨List.nodup_nil,λa m=>nomatch m⟩⟩ hq
def wVar (i:Nat):WE:=λρ Q=>match look ρ i with
 | some d=>Q d ρ
 | none=>False
def wC (d:D):WE:=λρ Q=>Q d ρ
theorem Qy5 (i:Nat) (h:PE X e (tVar i)):EV X T false false e (wVar i):=by
 refine ⟨_,h,λz R σ H W ρ Q Q' s hw k=>?_⟩
 unfold wVar at hw
 cases hl:look ρ i with
 | none=>rw [hl] at hw;exact hw.elim
 | some d =>
  rw [hl] at hw
  obtain ⟨fp,r⟩:=s
  obtain ⟨v,h1,h2⟩:=r.at_ i d hl
  exact ⟨v,h1,k v H W d ρ (fp i) ⟨⟨fp,r⟩,FrW.refl H W,λ_=>⟨Same.refl H,rfl,rfl⟩,h2,λh=>nomatch h⟩ hw⟩
theorem Qc (i:Nat) (hN:X.N[i]? = some x:=by rfl) (hv:Vis X.env.scope x:=by first | exact Or.inl rfl | exact Or.inr (Or.inl rfl) | exact Or.inr (Or.inr rfl)) (hd:(x == ("__debug__" : Str))=false:=by decide)
  (hcd:(x == ("__classdict__" : Str))=false:=by decide):EV X T false false (.Name x pos) (wVar i):=Qy5 i (Vt hN hv hd hcd)
theorem Up (h:PE X e (tC v)) (r:∀H,Rep X.K H d v []):EV X T false true e (wC d) :=
 ⟨_,h,λz R σ H W ρ Q Q' s hw k=>k v H W d ρ [] (Post.flat s (FrW.refl H W) (λ_=>⟨Same.refl H,rfl,rfl⟩) (r H)) hw⟩
theorem Qg {j pos}:EV X T false true (.Constant (.int i) j pos) (wC (.int i)):=Up Qrp λ_=>.int i
theorem Qn1 {i:Bool} {j pos}:EV X T false true (.Constant (.bool i) j pos) (wC (.bl i)):=Up Qyn λ_=>.bl i
theorem Qq {i:Str} {j pos}:EV X T false true (.Constant (.str i) j pos) (wC (.str i)):=Up Qml λ_=>.str i
theorem Qr8 {j pos}:EV X T false true (.Constant .none j pos) (wC .non):=Up Qv5 λ_=>.non
theorem Qnz (hm:X.mg x=some (.int i t)) (hg:Gl X x:=by rfl) (hd:(x == ("__debug__" : Str))=false:=by decide):EV X T false true (.Name x pos) (wC (.int i)) :=
 Up (Zp hg hm (v:=.int i) ⟨t,rfl⟩ hd) λ_=>.int i
theorem Qug {i:Str} (hm:X.mg x=some (.str i t)) (hg:Gl X x:=by rfl) (hd:(x == ("__debug__" : Str))=false:=by decide):EV X T false true (.Name x pos) (wC (.str i)) :=
 Up (Zp hg hm (v:=.str i) ⟨t,rfl⟩ hd) λ_=>.str i
abbrev G2:=D->D->(D->Prop)->Prop
structure Fin (K:Frag) (H H':Hp) (d:D) (v:V) (F:List Addr):Prop where
 same:Same H H'
 rep:Rep K H' d v F
 nd:F.Nodup
 new:∀a∈F,H a=none
theorem Fin.flat (r:Rep K H d v []):Fin K H H d v []:=⟨Same.refl H,r,List.nodup_nil,λ_ m=>nomatch m⟩
theorem Qi {p:Addr} (h:H p=none):Same H (upd H p ob):=λb u e=>by rw [Qm (Jw e h)];exact e
def OpD (X:Cx) (f:Value->Value->Sem Value) (g:G2):Prop :=
 ∃r,OpR X f r/\∀(H:Hp) (a b:D) (x y:V) (F1 F2:List Addr) (k:D->Prop) (Q:VK),Rep X.K H a x F1->Rep X.K H b y F2->g a b k ->
  (∀v H' d F,Fin X.K H H' d v F->k d->Q v H')->r x y H Q
def wBin (g:G2) (wa wb:WE):WE:=λρ Q=>wa ρ λx ρ1=>wb ρ1 λy ρ2=>g x y λd=>Q d ρ2
theorem two {ta:TE} {W:Addr->Prop} {RR:V->V->Hp->Prop} {Q2:D->D->Env->Prop}
  (ga:∀(z:Nat->V) (R:Addr->Prop) (σ:St) (H:Hp) (W:Addr->Prop) (ρ:Env) (Q:D->Env->Prop) (Q':VK),SR X.K T z R H W σ ρ->wa ρ Q->(∀v H' W' d ρ' F,Post X.K T z R m1 o1 H W σ ρ H' W' ρ' d v F->Q d ρ'->Q' v H')->ta σ H Q')
  (gb:∀(z:Nat->V) (R:Addr->Prop) (σ:St) (H:Hp) (W:Addr->Prop) (ρ:Env) (Q:D->Env->Prop) (Q':VK),SR X.K T z R H W σ ρ->wb ρ Q->(∀v H' W' d ρ' F,Post X.K T z R m2 o2 H W σ ρ H' W' ρ' d v F->Q d ρ'->Q' v H')->tb σ H Q')
  (hc:o1=true\/m2=false) (s:SR X.K T z R H W σ ρ) (hw:wa ρ λx ρ1=>wb ρ1 λy ρ2=>Q2 x y ρ2)
  (k:∀x y H2 W2 d1 d2 ρ2 F1 F2,SR X.K T z R H2 W2 σ ρ2->FrW H W H2 W2->((m1 || m2)=false->Same H H2/\W2=W/\ρ2=ρ)->Rep X.K H2 d1 x F1->Rep X.K H2 d2 y F2 ->
   (o1=true->F1.Nodup/\∀a∈F1,H a=none/\¬W2 a)->(o2=true->F2.Nodup/\∀a∈F2,H a=none/\¬W2 a)->(o2=true->∀a∈F1,a∉F2)->Q2 d1 d2 ρ2->RR x y H2) :
  ta σ H λx H1=>tb σ H1 λy H2=>RR x y H2:=by
 refine ga z R σ H W ρ _ _ s hw λv1 H1 W1 d1 ρ1 F1 p q1=>?_
 refine gb z R σ H1 W1 ρ1 _ _ p.sr q1 λv2 H2 W2 d2 ρ2 F2 q q2=>?_
 refine k v1 v2 H2 W2 d1 d2 ρ2 F1 F2 q.sr (p.fr.trans q.fr) (p.calm2 q) (p.first q hc) q.rep (p.firstOwn q) (p.lastOwn q) (λh a m1 m2=>?_) q2
 obtain ⟨ob,e,_⟩:=p.rep.dom a m1
 rw [((q.own h).2 a m2).1] at e
 cases e
theorem Jn {op:Operator} {g:G2} (ho:OpD X (binaryOp op) g) (ha:EV X T m1 o1 a wa) (hb:EV X T m2 o2 b wb) (hc:o1=true\/m2=false:=by first | exact .inl rfl | exact .inr rfl) :
  EV X T (m1 || m2) true (.BinOp a op b pos) (wBin g wa wb):=by
 obtain ⟨r,ro,gr⟩:=ho
 obtain ⟨ta,pa,ga⟩:=ha
 obtain ⟨tb,pb,gb⟩:=hb
 refine ⟨_,Qv2 ro pa pb,λz R σ H W ρ Q Q' s hw k=>?_⟩
 refine two ga gb hc s hw λx y H2 W2 d1 d2 ρ2 F1 F2 s2 f2 c2 r1 r2 _ _ _ q2=>?_
 exact gr H2 d1 d2 x y F1 F2 _ Q' r1 r2 q2 λv H' d F fi hk=>k v H' W2 d ρ2 F (Post.fin s2 f2 c2 fi.same fi.rep fi.nd fi.new) hk
theorem U2 {g:G2} (ho:OpD X (compareOp op) g) (ha:EV X T m1 o1 a wa) (hb:EV X T m2 o2 b wb) (hc:o1=true\/m2=false:=by first | exact .inl rfl | exact .inr rfl)
  (hm:behindInMarks op b=false:=by first | exact Qrv _ | with_unfolding_all rfl):EV X T (m1 || m2) true (.Compare a [op] [b] pos) (wBin g wa wb):=by
 obtain ⟨r,ro,gr⟩:=ho
 obtain ⟨ta,pa,ga⟩:=ha
 obtain ⟨tb,pb,gb⟩:=hb
 refine ⟨_,Qtq ro pa pb hm,λz R σ H W ρ Q Q' s hw k=>?_⟩
 refine two ga gb hc s hw λx y H2 W2 d1 d2 ρ2 F1 F2 s2 f2 c2 r1 r2 _ _ _ q2=>?_
 exact gr H2 d1 d2 x y F1 F2 _ Q' r1 r2 q2 λv H' d F fi hk=>k v H' W2 d ρ2 F (Post.fin s2 f2 c2 fi.same fi.rep fi.nd fi.new) hk
abbrev WT:=Env->(Bool->Env->Prop)->Prop
structure PostT (K:Frag) (T:Tg) (z:Nat->V) (R:Addr->Prop) (m:Bool) (H:Hp) (W:Addr->Prop) (σ:St) (ρ:Env) (H':Hp) (W':Addr->Prop) (ρ':Env):Prop where
 sr:SR K T z R H' W' σ ρ'
 fr:FrW H W H' W'
 calm:m=false->Same H H'/\W'=W/\ρ'=ρ
def TV (X:Cx) (T:Tg) (m:Bool) (e:Expr) (w:WT):Prop :=
 ∃tt,PT X e tt/\∀(z:Nat->V) (R:Addr->Prop) (σ:St) (H:Hp) (W:Addr->Prop) (ρ:Env) (Q:Bool->Env->Prop) (Q':Bool->Hp->Prop),SR X.K T z R H W σ ρ->w ρ Q ->
  (∀b H' W' ρ',PostT X.K T z R m H W σ ρ H' W' ρ'->Q b ρ'->Q' b H')->tt σ H Q'
def truD:D->Option Bool
 | .non=>some false
 | .bl b=>some b
 | .int i=>some (i != 0)
 | .str y=>if y.length<=sizeLine then some ((y.length:Int) != 0) else none
 | .lst xs=>some (!xs.isEmpty)
 | .tup xs=>some (!xs.isEmpty)
 | .dik kvs=>some (!kvs.isEmpty)
 | .kls xs=>some (!xs.isEmpty)
 | .dit _=>none
 | .ty _=>none
 | .fdk _=>none
 | .ftp _=>none
 | .fls _=>none
 | .fdt _=>none
 | .obj _ _=>none
 | .clo _ _=>none
 | .kc _=>none
 | .dmx _=>none
 | .fmx _=>none
def wTru (wa:WE):WT:=λρ Q=>wa ρ λd ρ'=>match truD d with
 | some b=>Q b ρ'
 | none=>False
theorem Reps.emp {ds:List D} (r:Reps K H ds xs F):ds.isEmpty=xs.isEmpty:=by
 have:=r.length
 cases ds <;> cases xs <;> simp at this <;> rfl
theorem RepK.emp {xs:List (Key × V)} (r:RepK K H ds xs F):ds.isEmpty=xs.isEmpty:=by
 have:=r.length
 cases ds <;> cases xs <;> simp at this <;> rfl
theorem Qsv {x:V} {b:Bool} (r:Rep K H d x F) (h:truD d=some b):TruV K x H b:=by
 cases r with
 | non=>exact (Option.some.inj h).symm
 | bl c=>exact (Option.some.inj h).symm
 | int c=>exact (Option.some.inj h).symm
 | str y =>
  have h:(if y.length<=sizeLine then some ((y.length:Int) != 0) else none)=some b:=h
  split at h
  ·rename_i hl;exact ⟨hl,(Option.some.inj h).symm⟩
  ·cases h
 | tup e r =>
  refine .inr (.inl ⟨_,.of e,?_⟩)
  rw [← Option.some.inj h,r.emp]
 | lst e r =>
  refine .inl ⟨_,.of e,?_⟩
  rw [← Option.some.inj h,r.emp]
 | kls e r =>
  refine .inl ⟨_,e.sq,?_⟩
  rw [← Option.some.inj h,r.emp]
 | dik e r =>
  refine .inr (.inr ⟨_,e,?_⟩)
  rw [← Option.some.inj h,r.emp]
 | dit e r=>cases h
 | ty t=>cases h
 | fdk e r=>cases h
 | ftp e hd r=>cases h
 | fls e r=>cases h
 | fdt e r=>cases h
 | obj e hc hf=>cases h
 | clo e r=>cases h
 | kc a=>cases h
 | dmx e hk hm r=>cases h
 | fmx e hk hm r=>cases h
theorem Zw (ha:EV X T m o a wa) (he:∀whole,isTrue a X.env whole=(do let v ← whole;standAt a.pos;holding [v] (truthy v)):=by intro _;rfl):TV X T m a (wTru wa):=by
 obtain ⟨ta,pa,ga⟩:=ha
 refine ⟨_,Qph pa he,λz R σ H W ρ Q Q' s hw k=>?_⟩
 refine ga z R σ H W ρ _ _ s hw λv1 H1 W1 d1 ρ1 F1 p q1=>?_
 cases ht:truD d1 with
 | none=>rw [ht] at q1;exact q1.elim
 | some b =>
  rw [ht] at q1
  exact ⟨b,Qsv p.rep ht,k b H1 W1 ρ1 ⟨p.sr,p.fr,p.calm⟩ q1⟩
def wBl (wa:WE):WT:=λρ Q=>wa ρ λd ρ'=>match d with
 | .bl b=>Q b ρ'
 | _=>False
theorem Qfs {b:Bool} {x:V} (r:Rep K H (.bl b) x F):x=.bl b:=by cases r;rfl
theorem Qy {g:G2} (ho:OpD X (compareOp op) g) (ha:EV X T m1 o1 a wa) (hb:EV X T m2 o2 b wb) (hc:o1=true\/m2=false:=by first | exact .inl rfl | exact .inr rfl)
  (hm:behindInMarks op b=false:=by first | exact Qrv _ | with_unfolding_all rfl):TV X T (m1 || m2) (.Compare a [op] [b] pos) (wBl (wBin g wa wb)):=by
 obtain ⟨r,ro,gr⟩:=ho
 obtain ⟨ta,pa,ga⟩:=ha
 obtain ⟨tb,pb,gb⟩:=hb
 refine ⟨_,Qth ro pa pb hm,λz R σ H W ρ Q Q' s hw k=>?_⟩
 refine two ga gb hc s hw λx y H2 W2 d1 d2 ρ2 F1 F2 s2 f2 c2 r1 r2 _ _ _ q2=>?_
 refine gr H2 d1 d2 x y F1 F2 _ _ r1 r2 q2 λv H' d F fi hk=>?_
 cases d with
 | bl b=>exact ⟨b,Qfs fi.rep,k b H' W2 ρ2 ⟨s2.same fi.same,f2.trans (FrW.same W2 fi.same),λh=>⟨(c2 h).1.trans fi.same,(c2 h).2⟩⟩ hk⟩
 | _=>exact hk.elim
end
section
variable {a b:Expr} {w:WE} {wt wu:WT}
def wNot (wt:WT):WT:=λρ Q=>wt ρ λb ρ'=>Q (!b) ρ'
def wAnd (wt wu:WT):WT:=λρ Q=>wt ρ λb ρ'=>if b=true then wu ρ' Q else Q false ρ'
def wOr (wt wu:WT):WT:=λρ Q=>wt ρ λb ρ'=>if b=true then Q true ρ' else wu ρ' Q
theorem Xi (ha:TV X T m a wt):TV X T m (.UnaryOp .Not a pos) (wNot wt):=by
 obtain ⟨ta,pa,ga⟩:=ha
 exact ⟨_,Qvx pa,λz R σ H W ρ Q Q' s hw k=>ga z R σ H W ρ _ _ s hw λb H1 W1 ρ1 p q1=>k (!b) H1 W1 ρ1 p q1⟩
def BV (X:Cx) (T:Tg) (m:Bool) (e:Expr) (w:WT):Prop :=
 ∃tt,PW X e tt/\∀(z:Nat->V) (R:Addr->Prop) (σ:St) (H:Hp) (W:Addr->Prop) (ρ:Env) (Q:Bool->Env->Prop) (Q':Bool->Hp->Prop),SR X.K T z R H W σ ρ->w ρ Q ->
  (∀b H' W' ρ',PostT X.K T z R m H W σ ρ H' W' ρ'->Q b ρ'->Q' b H')->tt σ H Q'
theorem PostT.seq {W:Addr->Prop} (p:PostT K T z R m1 H W σ ρ H1 W1 ρ1) (q:PostT K T z R m2 H1 W1 σ ρ1 H2 W2 ρ2):PostT K T z R (m1 || m2) H W σ ρ H2 W2 ρ2 where
 sr:=q.sr
 fr:=p.fr.trans q.fr
 calm:=λh=>by
  rw [Bool.or_eq_false_iff] at h
  obtain ⟨a1,a2,a3⟩:=p.calm h.1
  obtain ⟨b1,b2,b3⟩:=q.calm h.2
  exact ⟨a1.trans b1,b2.trans a2,b3.trans a3⟩
theorem PostT.left {W:Addr->Prop} (p:PostT K T z R m1 H W σ ρ H1 W1 ρ1):PostT K T z R (m1 || m2) H W σ ρ H1 W1 ρ1 :=
 ⟨p.sr,p.fr,λh=>p.calm (Bool.or_eq_false_iff.mp h).1⟩
theorem Xx (ha:TV X T m a wt):BV X T m (.BoolOp .And [a] pos) wt:=by
 obtain ⟨ta,pa,ga⟩:=ha
 exact ⟨_,Qtd pa,ga⟩
theorem Qbf (ha:TV X T m a wt):BV X T m (.BoolOp .Or [a] pos) wt:=by
 obtain ⟨ta,pa,ga⟩:=ha
 exact ⟨_,Qvv pa,ga⟩
theorem Qc6 (ha:TV X T m1 a wt) (hb:BV X T m2 (.BoolOp .And (b::rest) pos) wu):BV X T (m1 || m2) (.BoolOp .And (a::b::rest) pos) (wAnd wt wu):=by
 obtain ⟨ta,pa,ga⟩:=ha
 obtain ⟨tb,pb,gb⟩:=hb
 refine ⟨_,Qvw pa pb,λz R σ H W ρ Q Q' s hw k=>ga z R σ H W ρ _ _ s hw λc H1 W1 ρ1 p q1=>?_⟩
 cases c with
 | true=>exact gb z R σ H1 W1 ρ1 Q Q' p.sr q1 λb H2 W2 ρ2 q q2=>k b H2 W2 ρ2 (p.seq q) q2
 | false=>exact k false H1 W1 ρ1 p.left q1
theorem Qdl (ha:TV X T m1 a wt) (hb:BV X T m2 (.BoolOp .Or (b::rest) pos) wu):BV X T (m1 || m2) (.BoolOp .Or (a::b::rest) pos) (wOr wt wu):=by
 obtain ⟨ta,pa,ga⟩:=ha
 obtain ⟨tb,pb,gb⟩:=hb
 refine ⟨_,Qyj pa pb,λz R σ H W ρ Q Q' s hw k=>ga z R σ H W ρ _ _ s hw λc H1 W1 ρ1 p q1=>?_⟩
 cases c with
 | false=>exact gb z R σ H1 W1 ρ1 Q Q' p.sr q1 λb H2 W2 ρ2 q q2=>k b H2 W2 ρ2 (p.seq q) q2
 | true=>exact k true H1 W1 ρ1 p.left q1
theorem Zf (h:BV X T m e wt):TV X T m e wt:=by
 obtain ⟨ta,pa,ga⟩:=h
 exact ⟨_,pa.pt,ga⟩
end
end PV
variable {k:PV.D->Prop} {neg:Bool}
namespace PV
open PySem PySem.Spec L2
open PySem.W (Dat kqdP kqdPs kqdOk)
mutual
def Zz:D->Dat
 | .non=>.none
 | .bl b=>.bool b
 | .int i=>.int i
 | .str x=>.str x
 | .tup xs=>.tuple (V2 xs)
 | .lst xs=>.list (V2 xs)
 | .dik _=>.none
 | .dit _=>.none
 | .kls _=>.none
 | .ty _=>.none
 | .fdk _=>.none
 | .ftp _=>.none
 | .fls _=>.none
 | .fdt _=>.none
 | .obj _ _=>.none
 | .clo _ _=>.none
 | .kc _=>.none
 | .dmx _=>.none
 | .fmx _=>.none
def V2:List D->List Dat
 | []=>[]
 | d::r=>Zz d::V2 r
end
mutual
def eqOk:Nat->D->Bool
 | _,.non=>true
 | _,.int _=>true
 | _,.str x=>PyData.strOk x
 | n+1,.tup xs=>Xg n xs
 | n+1,.lst xs=>Xg n xs
 | _,_=>false
def Xg:Nat->List D->Bool
 | _,[]=>true
 | n,d::r=>eqOk n d && Xg n r
end
theorem Qn3 {xs:List D}:Xg n xs=true↔∀x∈xs,eqOk n x=true:=by
 induction xs with
 | nil=>simp [Xg]
 | cons d r ih=>simp only [Xg,Bool.and_eq_true,ih,List.mem_cons,forall_eq_or_imp]
mutual
theorem Qe7:∀(n:Nat) (d:D),eqOk n d=true->kqdOk n (Zz d)=true
 | _,.non,_=>by simp [Zz,kqdOk]
 | _,.bl _,h=>by cases ‹Nat› <;> simp [eqOk] at h
 | _,.int _,_=>by simp [Zz,kqdOk]
 | _,.str x,h=>by
  cases ‹Nat› <;> (simp only [eqOk] at h;simpa [Zz,kqdOk] using h)
 | 0,.tup _,h=>by simp [eqOk] at h
 | 0,.lst _,h=>by simp [eqOk] at h
 | n+1,.tup xs,h=>by
  simp only [eqOk] at h
  rw [Zz];simp only [kqdOk]
  exact Qc2 n xs h
 | n+1,.lst xs,h=>by
  simp only [eqOk] at h
  rw [Zz];simp only [kqdOk]
  exact Qc2 n xs h
 | n,.dik _,h=>by cases n <;> simp [eqOk] at h
 | n,.dit _,h=>by cases n <;> simp [eqOk] at h
 | n,.kls _,h=>by cases n <;> simp [eqOk] at h
 | n,.ty _,h=>by cases n <;> simp [eqOk] at h
 | n,.fdk _,h=>by cases n <;> simp [eqOk] at h
 | n,.ftp _,h=>by cases n <;> simp [eqOk] at h
 | n,.fls _,h=>by cases n <;> simp [eqOk] at h
 | n,.fdt _,h=>by cases n <;> simp [eqOk] at h
 | n,.obj _ _,h=>by cases n <;> simp [eqOk] at h
 | n,.clo _ _,h=>by cases n <;> simp [eqOk] at h
 | n,.kc _,h=>by cases n <;> simp [eqOk] at h
theorem Qc2:∀(n:Nat) (xs:List D),Xg n xs=true->(V2 xs).all (kqdOk n)=true
 | _,[],_=>by simp [V2]
 | n,d::r,h=>by
  simp only [Xg,Bool.and_eq_true] at h
  rw [V2,List.all_cons,Qe7 n d h.1,Qc2 n r h.2];rfl
end
mutual
theorem Qfo:∀(n k:Nat) (a b:D),eqOk n a=true->eqOk k b=true->Zz a=Zz b->a=b
 | n,k,a,b,ha,hb,h=>by
  cases a with
  | non=>cases b <;> first | rfl | (simp [Zz] at h;done) | (cases k <;> simp [eqOk] at hb)
  | bl x=>cases n <;> simp [eqOk] at ha
  | int x=>cases b <;> first | (simp [Zz] at h;rw [h]) | (simp [Zz] at h)
  | str x=>cases b <;> first | (simp [Zz] at h;rw [h]) | (simp [Zz] at h)
  | tup xs =>
   cases b with
   | tup ys =>
    cases n with
    | zero=>simp [eqOk] at ha
    | succ n =>
     cases k with
     | zero=>simp [eqOk] at hb
     | succ k =>
      simp only [eqOk] at ha hb
      simp only [Zz,Dat.tuple.injEq] at h
      rw [Qam n k xs ys ha hb h]
   | _=>simp [Zz] at h
  | lst xs =>
   cases b with
   | lst ys =>
    cases n with
    | zero=>simp [eqOk] at ha
    | succ n =>
     cases k with
     | zero=>simp [eqOk] at hb
     | succ k =>
      simp only [eqOk] at ha hb
      simp only [Zz,Dat.list.injEq] at h
      rw [Qam n k xs ys ha hb h]
   | _=>simp [Zz] at h
  | dik x=>cases n <;> simp [eqOk] at ha
  | dit x=>cases n <;> simp [eqOk] at ha
  | kls x=>cases n <;> simp [eqOk] at ha
  | ty x=>cases n <;> simp [eqOk] at ha
  | fdk x=>cases n <;> simp [eqOk] at ha
  | ftp x=>cases n <;> simp [eqOk] at ha
  | fls x=>cases n <;> simp [eqOk] at ha
  | fdt x=>cases n <;> simp [eqOk] at ha
  | obj x y=>cases n <;> simp [eqOk] at ha
  | clo x y=>cases n <;> simp [eqOk] at ha
  | kc x=>cases n <;> simp [eqOk] at ha
  | dmx x=>cases n <;> simp [eqOk] at ha
  | fmx x=>cases n <;> simp [eqOk] at ha
theorem Qam:∀(n k:Nat) (a b:List D),Xg n a=true->Xg k b=true->V2 a=V2 b->a=b
 | n,k,[],b,ha,hb,h=>by
  cases b with
  | nil=>rfl
  | cons=>simp [V2] at h
 | n,k,x::a,b,ha,hb,h=>by
  cases b with
  | nil=>simp [V2] at h
  | cons y b =>
   simp only [V2,List.cons.injEq] at h
   simp only [Xg,Bool.and_eq_true] at ha hb
   rw [Qfo n k x y ha.1 hb.1 h.1,Qam n k a b ha.2 hb.2 h.2]
end
theorem Rep.dv (n:Nat) (r:Rep K H d v F):eqOk n d=true->DV H v (Zz d):=by
 have no:∀{P:Prop} {n:Nat} {d:D},(∀n,eqOk n d=false)->eqOk n d=true->P:=λh h'=>absurd ((h _).symm.trans h') (by simp)
 refine Rep.rec (motive_1:=λd v _ _=>∀n,eqOk n d=true->DV H v (Zz d)) (motive_2:=λd v _ _=>∀n,Xg n d=true->DVs H v (V2 d)) (motive_3:=λ_ _ _ _=>True) (motive_4:=λ_ _ _ _=>True) ?_ ?_ ?_ ?_ ?_ ?_ ?_ ?_ ?_ ?_ ?_ ?_ ?_ ?_ ?_ ?_ ?_ ?_ ?_ ?_ ?_ trivial (λ_ _ _ _=>trivial) trivial (λ_ _ _ _=>trivial) r n
 ·exact λ_ _=>by rw [Zz];exact .non
 ·exact λb n=>no λn=>by cases n <;> rfl
 ·exact λi _ _=>by rw [Zz];exact .int i
 ·exact λi _ _=>by rw [Zz];exact .str i
 ·intro _ _ _ _ e _ ih n h
  cases n with
  | zero=>simp [eqOk] at h
  | succ n=>rw [eqOk] at h;rw [Zz];exact .tup e (ih n h)
 ·intro _ _ _ _ e _ ih n h
  cases n with
  | zero=>simp [eqOk] at h
  | succ n=>rw [eqOk] at h;rw [Zz];exact .lst e (ih n h)
 ·exact λ_ _ _ n=>no λn=>by cases n <;> rfl
 ·exact λ_ _ _ n=>no λn=>by cases n <;> rfl
 ·exact λ_ _ _ n=>no λn=>by cases n <;> rfl
 ·exact λ_ n=>no λn=>by cases n <;> rfl
 ·exact λ_ _ _ n=>no λn=>by cases n <;> rfl
 ·exact λ_ _ _ _ n=>no λn=>by cases n <;> rfl
 ·exact λ_ _ _ n=>no λn=>by cases n <;> rfl
 ·exact λ_ _ _ n=>no λn=>by cases n <;> rfl
 ·exact λ_ _ _ n=>no λn=>by cases n <;> rfl
 ·exact λ_ _ _ n=>no λn=>by cases n <;> rfl
 ·exact λ_ n=>no λn=>by cases n <;> rfl
 ·exact λ_ _ _ _ _ n=>no λn=>by cases n <;> rfl
 ·exact λ_ _ _ _ _ n=>no λn=>by cases n <;> rfl
 ·exact λ_ _=>by rw [V2];exact .nil
 ·intro _ _ _ _ _ _ _ _ ih1 ih2 n q
  rw [Xg,Bool.and_eq_true] at q
  rw [V2];exact .cons (ih1 n q.1) (ih2 n q.2)
def dAdd:G2
 | .int i,.int j,k=>k (.int (i+j))
 | .str x,.str y,k=>x.length+y.length<=sizeLine/\k (.str (x++y))
 | .tup xs,.tup ys,k=>Qo xs=true/\Qo ys=true/\xs≠[]/\xs.length+ys.length<=sizeLine/\k (.tup (xs++ys))
 | .lst xs,.lst ys,k=>Qo xs=true/\Qo ys=true/\xs.length+ys.length<=sizeLine/\k (.lst (xs++ys))
 | _,_,_=>False
def dSub:G2
 | .int i,.int j,k=>k (.int (i-j))
 | _,_,_=>False
def dMul:G2
 | .int i,.int j,k=>CMul i j/\k (.int (i*j))
 | .lst xs,.int n,k=>Qo xs=true /\ -(2 ^ 63)<=n/\n<2 ^ 63/\xs.length*n.toNat<=sizeLine/\k (.lst (List.replicate n.toNat xs).flatten)
 | _,_,_=>False
def dDiv:G2
 | .int i,.int j,k=>(0<j/\j<1073741824/\k (.int (i / j)))\/(j<0/\j.natAbs<1073741824/\k (.int (i.fdiv j)))
 | _,_,_=>False
def dMod:G2
 | .int i,.int j,k=>(0<j/\k (.int (i % j)))\/(j<0/\k (.int (i.fmod j)))
 | _,_,_=>False
def dPow:G2
 | .int i,.int j,k=>CPow i j/\k (.int (i ^ j.toNat))
 | _,_,_=>False
def dEq:G2
 | .int i,.int j,k=>k (.bl (decide (i=j)))
 | .bl i,.bl j,k=>k (.bl (i == j))
 | .str i,.str j,k=>k (.bl (decide (i=j)))
 | a,b,k=>eqOk 9 a=true/\eqOk 9 b=true/\(a=b->k (.bl true))/\(a≠b->k (.bl false))
def dNe:G2
 | .int i,.int j,k=>k (.bl (!decide (i=j)))
 | .bl i,.bl j,k=>k (.bl (!(i == j)))
 | .str i,.str j,k=>k (.bl (!decide (i=j)))
 | a,b,k=>eqOk 9 a=true/\eqOk 9 b=true/\(a=b->k (.bl false))/\(a≠b->k (.bl true))
def dCmp (f:Int->Int->Bool):G2
 | .int i,.int j,k=>k (.bl (f i j))
 | _,_,_=>False
theorem Qs7 {x:V} (r:Rep K H (.int i) x F):x=.int i:=by cases r;rfl
theorem Reps.flatten {K:Frag} {H:Hp} {ds:List D} {xs:List V} (r:Reps K H ds xs []):∀n:Nat,Reps K H (List.replicate n ds).flatten (List.replicate n xs).flatten []
 | 0=>.nil
 | n+1=>by
  have:=r.append (Reps.flatten r n)
  simpa [List.replicate_succ,List.flatten_cons] using this
theorem Qqq (g:dAdd a b k):(∃i j,a=.int i/\b=.int j)\/(∃i j,a=.str i/\b=.str j)\/(∃i j,a=.tup i/\b=.tup j)\/∃i j,a=.lst i/\b=.lst j:=by
 cases a with
 | int i=>cases b with
  | int j=>exact .inl ⟨i,j,rfl,rfl⟩
  | _=>exact (show False from g).elim
 | str i=>cases b with
  | str j=>exact .inr (.inl ⟨i,j,rfl,rfl⟩)
  | _=>exact (show False from g).elim
 | tup i=>cases b with
  | tup j=>exact .inr (.inr (.inl ⟨i,j,rfl,rfl⟩))
  | _=>exact (show False from g).elim
 | lst i=>cases b with
  | lst j=>exact .inr (.inr (.inr ⟨i,j,rfl,rfl⟩))
  | _=>exact (show False from g).elim
 | _=>exact (show False from g).elim
theorem Qwk:OpD X (binaryOp .Add) dAdd:=by
 refine ⟨_,OpR.or Qwg (OpR.or Qwf (OpR.or Qtv Qkk)),λH a b x y F1 F2 k Q ra rb g q=>?_⟩
 rcases Qqq g with ⟨i,j,rfl,rfl⟩ | ⟨i,j,rfl,rfl⟩ | ⟨ds,es,rfl,rfl⟩ | ⟨ds,es,rfl,rfl⟩
 ·exact .inl ⟨_,_,ra.iInt,rb.iInt,q _ _ _ _ (.flat (.int _)) g⟩
 ·exact .inr (.inr (.inr ⟨_,_,ra.iStr,rb.iStr,g.1,q _ _ _ _ (.flat (.str _)) g.2⟩))
 ·obtain ⟨a,xs,rfl,e1,r1⟩:=ra.iTup
  obtain ⟨b,ys,rfl,e2,r2⟩:=rb.iTup
  obtain ⟨p1,p2,hne,hz,g⟩:=g
  obtain ⟨-,r1⟩:=r1.pure p1
  obtain ⟨-,r2⟩:=r2.pure p2
  have l1:=r1.length
  have l2:=r2.length
  refine .inr (.inr (.inl ⟨a,b,xs,ys,rfl,rfl,.of e1,.of e2,λz=>hne (List.length_eq_zero_iff.mp (by rw [← l1,z];rfl)),by omega,λz=>?_,λz p hp=>?_⟩))
  ·have:es=[]:=List.length_eq_zero_iff.mp (by rw [← l2,z];rfl)
   subst this
   rw [List.append_nil] at g
   exact q _ _ _ _ (.flat (.tup e1 r1)) g
  ·refine q _ _ _ [] ⟨Qi hp,.tup Qj ?_,List.nodup_nil,λ_ m=>nomatch m⟩ g
   exact (r1.append r2).same (Qi hp)
 ·obtain ⟨a,xs,_,rfl,_,e1,r1⟩:=ra.iLst
  obtain ⟨b,ys,_,rfl,_,e2,r2⟩:=rb.iLst
  obtain ⟨p1,p2,hz,g⟩:=g
  obtain ⟨-,r1⟩:=r1.pure p1
  obtain ⟨-,r2⟩:=r2.pure p2
  have l1:=r1.length
  have l2:=r2.length
  refine .inr (.inl ⟨a,b,xs,ys,rfl,rfl,e1,e2,by omega,λp hp=>?_⟩)
  refine q _ _ _ [p] ⟨Qi hp,.lst Qj ((r1.append r2).same (Qi hp)),by simp,λc m=>by rw [List.mem_singleton.mp m];exact hp⟩ g
theorem Qjc:OpD X (binaryOp .Sub) dSub:=by
 refine ⟨_,Qv8,λH a b x y F1 F2 k Q ra rb g q=>?_⟩
 (cases ra <;> first | exact (show False from g).elim | skip) <;> (cases rb <;> first | exact (show False from g).elim | skip)
 exact ⟨_,_,rfl,rfl,q _ _ _ _ (.flat (.int _)) g⟩
theorem Qqn (g:dMul a b k):(∃i j,a=.int i/\b=.int j)\/∃i j,a=.lst i/\b=.int j:=by
 cases a with
 | int i=>cases b with
  | int j=>exact .inl ⟨i,j,rfl,rfl⟩
  | _=>exact (show False from g).elim
 | lst i=>cases b with
  | int j=>exact .inr ⟨i,j,rfl,rfl⟩
  | _=>exact (show False from g).elim
 | _=>exact (show False from g).elim
theorem Xo:OpD X (binaryOp .Mult) dMul:=by
 refine ⟨_,OpR.or Qwc Qv9,λH a b x y F1 F2 k Q ra rb g q=>?_⟩
 rcases Qqn g with ⟨i,j,rfl,rfl⟩ | ⟨ds,n,rfl,rfl⟩
 ·exact .inl ⟨_,_,ra.iInt,rb.iInt,g.1,q _ _ _ _ (.flat (.int _)) g.2⟩
 ·obtain ⟨a,xs,_,rfl,_,e1,r1⟩:=ra.iLst
  obtain rfl:=rb.iInt
  obtain ⟨p1,h1,h2,hz,g⟩:=g
  obtain ⟨-,r1⟩:=r1.pure p1
  have l1:=r1.length
  refine .inr ⟨a,n,xs,rfl,rfl,e1,h1,h2,by rw [l1];exact hz,λp hp=>?_⟩
  refine q _ _ _ [p] ⟨Qi hp,.lst Qj ((r1.flatten _).same (Qi hp)),by simp,λc m=>by rw [List.mem_singleton.mp m];exact hp⟩ g
theorem Qje:OpD X (binaryOp .FloorDiv) dDiv:=by
 refine ⟨_,OpR.or Qtt Qpw,λH a b x y F1 F2 k Q ra rb g q=>?_⟩
 (cases ra <;> first | exact (show False from g).elim | skip) <;> (cases rb <;> first | exact (show False from g).elim | skip)
 rcases (show _\/_ from g) with ⟨h1,h2,g⟩ | ⟨h1,h2,g⟩
 ·exact .inl ⟨_,_,rfl,rfl,⟨h1,h2⟩,q _ _ _ _ (.flat (.int _)) g⟩
 ·exact .inr ⟨_,_,rfl,rfl,⟨by omega,h2⟩,q _ _ _ _ (.flat (.int _)) g⟩
theorem Qco:OpD X (binaryOp .Mod) dMod:=by
 refine ⟨_,OpR.or Qwd Qts,λH a b x y F1 F2 k Q ra rb g q=>?_⟩
 (cases ra <;> first | exact (show False from g).elim | skip) <;> (cases rb <;> first | exact (show False from g).elim | skip)
 rcases (show _\/_ from g) with ⟨h1,g⟩ | ⟨h1,g⟩
 ·exact .inl ⟨_,_,rfl,rfl,h1,q _ _ _ _ (.flat (.int _)) g⟩
 ·exact .inr ⟨_,_,rfl,rfl,by omega,q _ _ _ _ (.flat (.int _)) g⟩
theorem Qjd:OpD X (binaryOp .Pow) dPow:=by
 refine ⟨_,Qwa,λH a b x y F1 F2 k Q ra rb g q=>?_⟩
 (cases ra <;> first | exact (show False from g).elim | skip) <;> (cases rb <;> first | exact (show False from g).elim | skip)
 exact ⟨_,_,rfl,rfl,g.1,q _ _ _ _ (.flat (.int _)) g.2⟩
theorem Qhz {f:Int->Int->Bool} (h:OpR X (compareOp op) (rI0 λi j=>.bl (f i j))):OpD X (compareOp op) (dCmp f):=by
 refine ⟨_,h,λH a b x y F1 F2 k Q ra rb g q=>?_⟩
 (cases ra <;> first | exact (show False from g).elim | skip) <;> (cases rb <;> first | exact (show False from g).elim | skip)
 exact ⟨_,_,rfl,rfl,q _ _ _ _ (.flat (.bl _)) g⟩
theorem Qhy:OpD X (compareOp .Lt) (dCmp λi j=>decide (i<j)):=Qhz Qyp
theorem Qdg:OpD X (compareOp .Gt) (dCmp λi j=>decide (j<i)):=Qhz Qyq
theorem Qwj:OpD X (compareOp .GtE) (dCmp λi j=>decide (j<=i)):=Qhz Qyr
theorem Qn2 {x y:V} {Q:VK} (ra:Rep X.K H a x F1) (rb:Rep X.K H b y F2)
  (h1:eqOk 9 a=true) (h2:eqOk 9 b=true) (g1:a=b->k (.bl (!neg))) (g2:a≠b->k (.bl neg)) (q:∀v H' d F,Fin X.K H H' d v F->k d->Q v H'):rDat neg x y H Q:=by
 refine ⟨Zz a,Zz b,9,ra.dv 9 h1,rb.dv 9 h2,Qe7 _ _ h1,Qe7 _ _ h2,Nat.le_refl _,λe=>?_,λe=>?_⟩
 ·exact q _ _ _ _ (.flat (.bl _)) (g1 (Qfo 9 9 a b h1 h2 e))
 ·exact q _ _ _ _ (.flat (.bl _)) (g2 λz=>e (by rw [z]))
theorem Qup (g:dEq a b k):(∃i j,a=.int i/\b=.int j)\/(∃i j,a=.bl i/\b=.bl j)\/(∃i j,a=.str i/\b=.str j)\/(eqOk 9 a=true/\eqOk 9 b=true/\(a=b->k (.bl true))/\(a≠b->k (.bl false))):=by
 cases a with
 | int i=>cases b with
  | int j=>exact .inl ⟨i,j,rfl,rfl⟩
  | _=>exact .inr (.inr (.inr g))
 | bl i=>cases b with
  | bl j=>exact .inr (.inl ⟨i,j,rfl,rfl⟩)
  | _=>exact .inr (.inr (.inr g))
 | str i=>cases b with
  | str j=>exact .inr (.inr (.inl ⟨i,j,rfl,rfl⟩))
  | _=>exact .inr (.inr (.inr g))
 | _=>exact .inr (.inr (.inr g))
theorem Zv (hu:X.A.units+64<cLine):OpD X (compareOp .Eq) dEq:=by
 refine ⟨_,OpR.or Qys (Qwe hu),λH a b x y F1 F2 k Q ra rb g q=>?_⟩
 rcases Qup g with ⟨i,j,rfl,rfl⟩ | ⟨i,j,rfl,rfl⟩ | ⟨i,j,rfl,rfl⟩ | ⟨h1,h2,g1,g2⟩
 ·obtain rfl:=ra.iInt
  obtain rfl:=rb.iInt
  refine .inl ⟨rfl,?_⟩
  have e:decide (V.int i=V.int j)=decide (i=j):=by simp
  rw [e]
  exact q _ _ _ _ (.flat (.bl _)) g
 ·obtain rfl:=ra.iBl
  obtain rfl:=rb.iBl
  refine .inl ⟨rfl,?_⟩
  rw [Qjw]
  exact q _ _ _ _ (.flat (.bl _)) g
 ·obtain rfl:=ra.iStr
  obtain rfl:=rb.iStr
  refine .inl ⟨rfl,?_⟩
  have e:decide (V.str i=V.str j)=decide (i=j):=by simp
  rw [e]
  exact q _ _ _ _ (.flat (.bl _)) g
 ·exact .inr (Qn2 ra rb h1 h2 g1 g2 q)
theorem Qun (g:dNe a b k):(∃i j,a=.int i/\b=.int j)\/(∃i j,a=.bl i/\b=.bl j)\/(∃i j,a=.str i/\b=.str j)\/(eqOk 9 a=true/\eqOk 9 b=true/\(a=b->k (.bl false))/\(a≠b->k (.bl true))):=by
 cases a with
 | int i=>cases b with
  | int j=>exact .inl ⟨i,j,rfl,rfl⟩
  | _=>exact .inr (.inr (.inr g))
 | bl i=>cases b with
  | bl j=>exact .inr (.inl ⟨i,j,rfl,rfl⟩)
  | _=>exact .inr (.inr (.inr g))
 | str i=>cases b with
  | str j=>exact .inr (.inr (.inl ⟨i,j,rfl,rfl⟩))
  | _=>exact .inr (.inr (.inr g))
 | _=>exact .inr (.inr (.inr g))
theorem Qdf (hu:X.A.units+64<cLine):OpD X (compareOp .NotEq) dNe:=by
 refine ⟨_,OpR.or Qyo (Qwb hu),λH a b x y F1 F2 k Q ra rb g q=>?_⟩
 rcases Qun g with ⟨i,j,rfl,rfl⟩ | ⟨i,j,rfl,rfl⟩ | ⟨i,j,rfl,rfl⟩ | ⟨h1,h2,g1,g2⟩
 ·obtain rfl:=ra.iInt
  obtain rfl:=rb.iInt
  refine .inl ⟨rfl,?_⟩
  have e:(!decide (V.int i=V.int j)) = !decide (i=j):=by simp
  rw [e]
  exact q _ _ _ _ (.flat (.bl _)) g
 ·obtain rfl:=ra.iBl
  obtain rfl:=rb.iBl
  refine .inl ⟨rfl,?_⟩
  rw [Qjw]
  exact q _ _ _ _ (.flat (.bl _)) g
 ·obtain rfl:=ra.iStr
  obtain rfl:=rb.iStr
  refine .inl ⟨rfl,?_⟩
  have e:(!decide (V.str i=V.str j)) = !decide (i=j):=by simp
  rw [e]
  exact q _ _ _ _ (.flat (.bl _)) g
 ·exact .inr (Qn2 (neg:=true) ra rb h1 h2 g1 g2 q)
end PV
variable {a value:PySem.Expr} {kvs:List (L2.Key × PV.D)} {m3:Bool}
namespace PV
open PySem PySem.Spec L2
open PyProof.Rows (subscriptTail)
def Gq:List D->Option (List Key)
 | []=>some []
 | .int i::r=>(Gq r).map λl=>.inl i::l
 | .str x::r=>(Gq r).map λl=>.inr x::l
 | _::_=>none
theorem Reps.keys {K:Frag} {H:Hp}:∀{ds:List D} {xs:List V} {F:List Addr} {l:List Key},Reps K H ds xs F->Gq ds=some l->xs=l.map kV
 | [],_,_,_,r,h=>by
  cases r
  simp only [Gq,Option.some.injEq] at h
  subst h
  rfl
 | d::ds,_,_,_,r,h=>by
  cases r with
  | cons p r =>
   cases d with
   | int i =>
    simp only [Gq,Option.map_eq_some_iff] at h
    obtain ⟨l',h1,rfl⟩:=h
    cases p
    rw [Reps.keys r h1]
    rfl
   | str i =>
    simp only [Gq,Option.map_eq_some_iff] at h
    obtain ⟨l',h1,rfl⟩:=h
    cases p
    rw [Reps.keys r h1]
    rfl
   | _=>simp [Gq] at h
theorem Reps.atI {ds:List D} (r:Reps K H ds xs F) (h:L2.atI ds i=some d):∃x B,L2.atI xs i=some x/\Rep K H d x B/\B.Sublist F:=by
 unfold L2.atI at h
 cases hj:ixN ds.length i with
 | none=>rw [hj] at h;cases h
 | some j =>
  rw [hj] at h
  obtain ⟨x,B,h1,h2,h3⟩:=r.get (i:=j) h
  refine ⟨x,B,?_,h2,h3⟩
  unfold L2.atI
  rw [r.length,hj]
  exact h1
def oget {α:Type} (o:Option α) (k:α->Prop):Prop:=match o with
 | some d=>k d
 | none=>False
def onI (b:D) (k:Int->Prop):Prop:=match b with
 | .int i=>k i
 | _=>False
def onK (b:D) (k:Key->Prop):Prop:=match b with
 | .int i=>k (.inl i)
 | .str i=>k (.inr i)
 | _=>False
def onT (b:D) (k:List D->Prop):Prop:=match b with
 | .tup l=>k l
 | _=>False
theorem Qcm {k:Int->Prop} (h:onI b k):∃i,b=.int i/\k i:=by
 cases b with
 | int i=>exact ⟨i,rfl,h⟩
 | _=>exact (show False from h).elim
theorem Qmr {k:List D->Prop} (h:onT b k):∃i,b=.tup i/\k i:=by
 cases b with
 | tup i=>exact ⟨i,rfl,h⟩
 | _=>exact (show False from h).elim
theorem Qhq {k:Key->Prop} (h:onK b k):∃key,k key/\∀{K:Frag} {H:Hp} {v:V} {F:List Addr},Rep K H b v F->v=kV key:=by
 cases b with
 | int i=>exact ⟨.inl i,h,λr=>r.iInt⟩
 | str i=>exact ⟨.inr i,h,λr=>r.iStr⟩
 | _=>exact (show False from h).elim
def dIx:G2:=λa b k=>match a with
 | .lst xs=>onI b λi=>oget (L2.atI xs i) k
 | .tup xs=>onI b λi=>oget (L2.atI xs i) k
 | .kls xs=>onI b λi=>oget (L2.atI xs i) k
 | .str z=>onI b λi=>z.length<=sizeLine/\oget (L2.atI z.cps.toList i) λc=>k (.str ⟨#[c]⟩)
 | .dik kvs=>onK b λkey=>oget (valD kvs key) k
 | .dit kvs=>onT b λl=>oget (Gq l) λks=>oget (valD kvs ks) k
 | .fdk kvs=>onK b λkey=>oget (valD kvs key) k
 | _=>False
theorem Qn {α:Type} {o:Option α} {k:α->Prop} (h:oget o k):∃d,o=some d/\k d:=by
 cases o with
 | none=>exact h.elim
 | some d=>exact ⟨d,rfl,h⟩
theorem Qlo {s₂:Shared} {slice:Expr} {o i:Value} {T id:String}
  (hl:typeLookup (.type T) "__getitem__" = pure (some (.builtin id))) (hs:subscripted slice false o i=operate [o,i] (getItem o i)) (hT:s₂.TypeIs o T) (h₂:wpAny (model prog w) A (getItem o i) Q E s₂) :
  wpAny (model prog w) A (subscriptTail value slice o i) Q E s₂:=by
 unfold subscriptTail
 refine wpAny_bind ?_
 rw [getitemInPython_of_ne hT.not_modules]
 refine wpAny_bind (wpAny_specialOf hT hl ?_)
 have fin:wpAny (model prog w) A (subscripted slice false o i) (λr s₃=>wpAny (model prog w) A (letTemporaryGo value o r >>= λ_=>pure r) Q E s₃) E s₂:=by
  rw [hs]
  exact wpAny_operating (wpAny_mono h₂ (λr s₃ h₃=>wpAny_bind (wpAny_letTemporaryGo (wpAny_pure h₃))) λ_ _ x=>x)
 first
  | exact wpAny_pure (wpAny_bind fin)
  | exact wpAny_bind (wpAny_pure (wpAny_bind fin))
  | exact wpAny_bind fin
theorem Qt7 (hu:X.A.units+1<cLine):IxR X (λx y H Q=>∃a v,x=.ref a/\DGet H a y (some v)/\Q v H):=by
 intro value slice pins s σ H x y v u Q I rx ry h hs
 obtain ⟨a,z,rfl,g,q⟩:=h
 cases rx
 exact Qlo PySem.F.slot_dict_getitem.lookup hs (Qh8 I g) (Qob hu I g ry λw' s3 I3 rw'=>⟨z,H,I3,rw',q⟩)
def IxD (X:Cx) (g:G2):Prop :=
 ∃r,IxR X r/\∀(H:Hp) (a b:D) (x y:V) (F1 F2:List Addr) (k:D->Prop) (Q:VK),Rep X.K H a x F1->Rep X.K H b y F2->g a b k ->
  (∀v d F,Rep X.K H d v F->F.Sublist F1->k d->Q v H)->r x y H Q
theorem Yo (hu:X.A.units+1<cLine):IxD X dIx:=by
 refine ⟨_,IxR.or Qw2 (Qt7 hu),λH a b x y F1 F2 k Q ra rb g q=>?_⟩
 cases a with
 | str z =>
  obtain ⟨i,rfl,hz,g⟩:=Qcm g
  obtain ⟨c,e,g⟩:=Qn g
  exact .inl (.inr (.inr ⟨_,_,c,ra.iStr,rb.iInt,hz,e,q _ _ _ (.str _) (List.nil_sublist _) g⟩))
 | tup ds =>
  obtain ⟨i,rfl,g⟩:=Qcm g
  obtain ⟨a,xs,rfl,e,r⟩:=ra.iTup
  obtain ⟨d,h,g⟩:=Qn g
  obtain ⟨v,B,h1,h2,h3⟩:=r.atI h
  exact .inl (.inr (.inl ⟨a,xs,i,v,rfl,rb.iInt,.of e,h1,q _ _ _ h2 h3 g⟩))
 | lst ds =>
  obtain ⟨i,rfl,g⟩:=Qcm g
  obtain ⟨a,xs,G,rfl,rfl,e,r⟩:=ra.iLst
  obtain ⟨d,h,g⟩:=Qn g
  obtain ⟨v,B,h1,h2,h3⟩:=r.atI h
  exact .inl (.inl ⟨a,xs,i,v,rfl,rb.iInt,.of e,h1,q _ _ _ h2 (h3.trans (List.sublist_cons_self _ _)) g⟩)
 | dik ds =>
  obtain ⟨key,g,hy⟩:=Qhq (show onK b (λkey=>oget (valD ds key) k) from g)
  obtain ⟨a,kvs,G,rfl,rfl,e,r⟩:=ra.iDik
  obtain rfl:=hy rb
  obtain ⟨d,h,g⟩:=Qn g
  rcases r.val key with ⟨z,_⟩ | ⟨d',v,B,h1,h2,h3,h4⟩
  ·rw [h] at z;cases z
  ·rw [h] at h1;cases h1
   exact .inr ⟨a,v,rfl,h2 ▸ DGet.k (k:=key) e,q _ _ _ h3 (h4.trans (List.sublist_cons_self _ _)) g⟩
 | dit ds =>
  obtain ⟨l,rfl,g⟩:=Qmr g
  obtain ⟨a,kvs,G,rfl,rfl,e,r⟩:=ra.iDit
  obtain ⟨b,xs,rfl,e2,r2⟩:=rb.iTup
  obtain ⟨ks,hk,g⟩:=Qn g
  obtain ⟨d,h,g⟩:=Qn g
  have hx:=r2.keys hk
  subst hx
  rcases r.val ks with ⟨z,_⟩ | ⟨d',v,B,h1,h2,h3,h4⟩
  ·rw [h] at z;cases z
  ·rw [h] at h1;cases h1
   exact .inr ⟨a,v,rfl,h2 ▸ DGet.t (k:=ks) e e2,q _ _ _ h3 (h4.trans (List.sublist_cons_self _ _)) g⟩
 | kls ds =>
  obtain ⟨i,rfl,g⟩:=Qcm g
  obtain ⟨a,xs,rfl,rfl,e,r⟩:=ra.iKls
  obtain ⟨d,h,g⟩:=Qn g
  obtain ⟨v,B,h1,h2,h3⟩:=r.atI h
  exact .inl (.inl ⟨a,xs,i,v,rfl,rb.iInt,e.sq,h1,q _ _ _ h2 h3 g⟩)
 | fdk ds =>
  obtain ⟨key,g,hy⟩:=Qhq (show onK b (λkey=>oget (valD ds key) k) from g)
  obtain ⟨a,ob,kvs,rfl,e,r⟩:=ra.iFdk
  obtain rfl:=hy rb
  obtain ⟨d,h,g⟩:=Qn g
  rcases r.val key with ⟨z,_⟩ | ⟨d',v,B,h1,h2,h3,h4⟩
  ·rw [h] at z;cases z
  ·rw [h] at h1;cases h1
   exact .inr ⟨a,v,rfl,.inl ⟨kvs,key,.inr ⟨ob,e⟩,rfl,h2.symm⟩,q _ _ _ h3 h4 g⟩
 | _=>exact (show False from g).elim
section
variable {b:Expr} {w:WE}
theorem Yq {g:G2} (hg:IxD X g) (ha:EV X T m1 o1 a wa) (hb:EV X T m2 o2 b wb) (hc:o1=true\/m2=false:=by first | exact .inl rfl | exact .inr rfl) (hs:Qil b:=by intro _ _;rfl) :
  EV X T (m1 || m2) o1 (.Subscript a b pos) (wBin g wa wb):=by
 obtain ⟨r,ro,gr⟩:=hg
 obtain ⟨ta,pa,ga⟩:=ha
 obtain ⟨tb,pb,gb⟩:=hb
 refine ⟨_,Qv6 ro pa pb hs,λz R σ H W ρ Q Q' s hw k=>?_⟩
 refine two ga gb hc s hw λx y H2 W2 d1 d2 ρ2 F1 F2 s2 f2 c2 r1 r2 o1 _ _ q2=>?_
 exact gr H2 d1 d2 x y F1 F2 _ Q' r1 r2 q2 λv d F rd sub hk=>k v H2 W2 d ρ2 F ⟨s2,f2,c2,rd,λh=>⟨(o1 h).1.sublist sub,λa m=>(o1 h).2 a (sub.subset m)⟩⟩ hk
def inD:D->List D->Option Bool
 | .int i,[]=>some false
 | .int i,.int j::r=>(inD (.int i) r).map λb=>(j == i) || b
 | .str i,[]=>some false
 | .str i,.str j::r=>(inD (.str i) r).map λb=>(j == i) || b
 | _,_=>none
def dIn (neg:Bool):G2
 | .int i,.dik kvs,k=>k (.bl (xor neg (valD kvs (.inl i)).isSome))
 | .str i,.dik kvs,k=>k (.bl (xor neg (valD kvs (.inr i)).isSome))
 | .tup l,.dit kvs,k=>oget (Gq l) λks=>k (.bl (xor neg (valD kvs ks).isSome))
 | .int i,.lst xs,k=>oget (inD (.int i) xs) λb=>k (.bl (xor neg b))
 | .int i,.tup xs,k=>oget (inD (.int i) xs) λb=>k (.bl (xor neg b))
 | .str i,.lst xs,k=>oget (inD (.str i) xs) λb=>k (.bl (xor neg b))
 | .str i,.tup xs,k=>oget (inD (.str i) xs) λb=>k (.bl (xor neg b))
 | .str i,.str j,k=>k (.bl (xor neg (!(Builtin.Str.occurrences j i 0 j.length 1).isEmpty)))
 | _,_,_=>False
theorem Qnk {K:Frag} {H:Hp} {i:Int}:∀{ds:List D} {xs:List V} {F:List Addr} {b:Bool},Reps K H ds xs F->inD (.int i) ds=some b->xs.all Qdj=true/\inV (.int i) xs=b
 | [],_,_,_,r,h=>by
  cases r
  simp only [inD,Option.some.injEq] at h
  subst h
  exact ⟨rfl,rfl⟩
 | d::ds,_,_,_,r,h=>by
  cases r with
  | cons p r =>
   cases d with
   | int j =>
    simp only [inD,Option.map_eq_some_iff] at h
    obtain ⟨b',h1,rfl⟩:=h
    cases p
    obtain ⟨e1,e2⟩:=Qnk r h1
    refine ⟨by rw [List.all_cons,e1];rfl,?_⟩
    unfold inV at e2 ⊢
    rw [List.any_cons,e2]
    rfl
   | _=>simp [inD] at h
theorem Qnj {K:Frag} {H:Hp} {i:Str}:∀{ds:List D} {xs:List V} {F:List Addr} {b:Bool},Reps K H ds xs F->inD (.str i) ds=some b->xs.all Qdj=true/\inV (.str i) xs=b
 | [],_,_,_,r,h=>by
  cases r
  simp only [inD,Option.some.injEq] at h
  subst h
  exact ⟨rfl,rfl⟩
 | d::ds,_,_,_,r,h=>by
  cases r with
  | cons p r =>
   cases d with
   | str j =>
    simp only [inD,Option.map_eq_some_iff] at h
    obtain ⟨b',h1,rfl⟩:=h
    cases p
    obtain ⟨e1,e2⟩:=Qnj r h1
    refine ⟨by rw [List.all_cons,e1];rfl,?_⟩
    unfold inV at e2 ⊢
    rw [List.any_cons,e2]
    rfl
   | _=>simp [inD] at h
theorem Qtu (neg:Bool) (hu:X.A.units+1<cLine):OpR X (compareOp (if neg then .NotIn else .In)) (λy x H Q=>∃a o,x=.ref a/\DGet H a y o/\Q (.bl (xor neg o.isSome)) H):=by
 intro pins s σ H y x u v Q I ry rx h
 obtain ⟨a,ov,rfl,g,q⟩:=h
 cases rx
 cases neg with
 | false=>exact d_in hu I g ry λs3 I3=>⟨.bl ov.isSome,H,I3,rfl,by simpa using q⟩
 | true=>exact Qum hu I g ry λs3 I3=>⟨.bl (!ov.isSome),H,I3,rfl,by simpa using q⟩
theorem Qpv (neg:Bool):OpR X (compareOp (if neg then .NotIn else .In)) (rIn X.K neg):=by
 cases neg with
 | false=>exact Qmq
 | true=>exact Qf2
theorem Qpu (neg:Bool):OpR X (compareOp (if neg then .NotIn else .In)) (λx y H Q=>∃i j,x=.str i/\y=.str j/\Q (.bl (xor neg (!(Builtin.Str.occurrences j i 0 j.length 1).isEmpty))) H):=by
 cases neg with
 | false=>simpa using Qmp (X:=X)
 | true=>simpa using Qf1 (X:=X)
theorem Qfr {a:Addr} {kvs:List (Key × V)} {k:Key} (e:H a=some (.dK kvs)) (r:RepK X.K H ds kvs F):∃o,DGet H a (kV k) o/\o.isSome=(valD ds k).isSome:=by
 refine ⟨_,DGet.k (k:=k) e,?_⟩
 rcases r.val k with ⟨h1,h2⟩ | ⟨d,v,B,h1,h2,_⟩ <;> simp [h1,h2]
theorem Quo {a b:D} (g:dIn neg a b k):(∃i z,a=.int i/\b=.tup z)\/(∃i z,a=.int i/\b=.lst z)\/(∃i z,a=.int i/\b=.dik z)\/(∃i z,a=.str i/\b=.str z)\/(∃i z,a=.str i/\b=.tup z)\/(∃i z,a=.str i/\b=.lst z)\/(∃i z,a=.str i/\b=.dik z)\/∃i z,a=.tup i/\b=.dit z:=by
 cases a with
 | int i=>cases b with
  | tup z=>exact .inl ⟨i,z,rfl,rfl⟩
  | lst z=>exact .inr (.inl ⟨i,z,rfl,rfl⟩)
  | dik z=>exact .inr (.inr (.inl ⟨i,z,rfl,rfl⟩))
  | _=>exact (show False from g).elim
 | str i=>cases b with
  | str z=>exact .inr (.inr (.inr (.inl ⟨i,z,rfl,rfl⟩)))
  | tup z=>exact .inr (.inr (.inr (.inr (.inl ⟨i,z,rfl,rfl⟩))))
  | lst z=>exact .inr (.inr (.inr (.inr (.inr (.inl ⟨i,z,rfl,rfl⟩)))))
  | dik z=>exact .inr (.inr (.inr (.inr (.inr (.inr (.inl ⟨i,z,rfl,rfl⟩))))))
  | _=>exact (show False from g).elim
 | tup i=>cases b with
  | dit z=>exact .inr (.inr (.inr (.inr (.inr (.inr (.inr ⟨i,z,rfl,rfl⟩))))))
  | _=>exact (show False from g).elim
 | _=>exact (show False from g).elim
theorem Qrs (neg:Bool) (hu:X.A.units+1<cLine):OpD X (compareOp (if neg then .NotIn else .In)) (dIn neg):=by
 refine ⟨_,OpR.or (Qtu neg hu) (OpR.or (Qpv neg) (Qpu neg)),λH a b x y F1 F2 k Q ra rb g q=>?_⟩
 have seqI:∀{i:Int} {p:Addr} {ds:List D} {xs:List V} {F:List Addr},x=.int i->y=.ref p->Reps X.K H ds xs F->(SqL X.K H p xs\/SqT X.K H p xs)->oget (inD (.int i) ds) (λb=>k (.bl (xor neg b)))->rIn X.K neg x y H Q:=λ{i p ds xs F} ex ey r hs g=>by
  subst ex ey
  obtain ⟨b,h,g⟩:=Qn g
  obtain ⟨e1,e2⟩:=Qnk r h
  refine ⟨p,xs,rfl,hs,rfl,e1,?_⟩
  rw [e2]
  have:=q _ _ _ _ (.flat (.bl _)) g
  cases neg <;> simpa using this
 have seqS:∀{i:Str} {p:Addr} {ds:List D} {xs:List V} {F:List Addr},x=.str i->y=.ref p->Reps X.K H ds xs F->(SqL X.K H p xs\/SqT X.K H p xs)->oget (inD (.str i) ds) (λb=>k (.bl (xor neg b)))->rIn X.K neg x y H Q:=λ{i p ds xs F} ex ey r hs g=>by
  subst ex ey
  obtain ⟨b,h,g⟩:=Qn g
  obtain ⟨e1,e2⟩:=Qnj r h
  refine ⟨p,xs,rfl,hs,rfl,e1,?_⟩
  rw [e2]
  have:=q _ _ _ _ (.flat (.bl _)) g
  cases neg <;> simpa using this
 rcases Quo g with ⟨i,z,rfl,rfl⟩ | ⟨i,z,rfl,rfl⟩ | ⟨i,ds,rfl,rfl⟩ | ⟨i,z,rfl,rfl⟩ | ⟨i,z,rfl,rfl⟩ | ⟨i,z,rfl,rfl⟩ | ⟨i,ds,rfl,rfl⟩ | ⟨l,ds,rfl,rfl⟩
 ·obtain ⟨p,xs,ey,e,r⟩:=rb.iTup
  exact .inr (.inl (seqI ra.iInt ey r (.inr (.of e)) g))
 ·obtain ⟨p,xs,G,ey,_,e,r⟩:=rb.iLst
  exact .inr (.inl (seqI ra.iInt ey r (.inl (.of e)) g))
 ·obtain ⟨a,kvs,G,rfl,_,e,r⟩:=rb.iDik
  obtain rfl:=ra.iInt
  obtain ⟨o,h1,h2⟩:=Qfr (k:=.inl i) e r
  refine .inl ⟨a,o,rfl,h1,?_⟩
  rw [h2]
  exact q _ _ _ _ (.flat (.bl _)) g
 ·exact .inr (.inr ⟨_,_,ra.iStr,rb.iStr,q _ _ _ _ (.flat (.bl _)) g⟩)
 ·obtain ⟨p,xs,ey,e,r⟩:=rb.iTup
  exact .inr (.inl (seqS ra.iStr ey r (.inr (.of e)) g))
 ·obtain ⟨p,xs,G,ey,_,e,r⟩:=rb.iLst
  exact .inr (.inl (seqS ra.iStr ey r (.inl (.of e)) g))
 ·obtain ⟨a,kvs,G,rfl,_,e,r⟩:=rb.iDik
  obtain rfl:=ra.iStr
  obtain ⟨o,h1,h2⟩:=Qfr (k:=.inr i) e r
  refine .inl ⟨a,o,rfl,h1,?_⟩
  rw [h2]
  exact q _ _ _ _ (.flat (.bl _)) g
 ·obtain ⟨b,xs,rfl,e2,r2⟩:=ra.iTup
  obtain ⟨a,kvs,G,rfl,_,e,r⟩:=rb.iDit
  obtain ⟨ks,hk,g⟩:=Qn g
  have hx:=r2.keys hk
  subst hx
  refine .inl ⟨a,valV kvs ks,rfl,DGet.t (k:=ks) e e2,?_⟩
  have h2:(valV kvs ks).isSome=(valD ds ks).isSome:=by
   rcases r.val ks with ⟨h1,h2⟩ | ⟨d,v,B,h1,h2,_⟩ <;> simp [h1,h2]
  rw [h2]
  exact q _ _ _ _ (.flat (.bl _)) g
theorem Qyt (hu:X.A.units+1<cLine):OpD X (compareOp .In) (dIn false):=Qrs false hu
theorem Qrr (hu:X.A.units+1<cLine):OpD X (compareOp .NotIn) (dIn true):=Qrs true hu
abbrev WA:=Env->(List D->Env->Prop)->Prop
structure PostA (K:Frag) (T:Tg) (z:Nat->V) (R:Addr->Prop) (m o:Bool) (H:Hp) (W:Addr->Prop) (σ:St) (ρ:Env) (H':Hp) (W':Addr->Prop) (ρ':Env) (ds:List D) (vs:List V) (F:List Addr):Prop where
 sr:SR K T z R H' W' σ ρ'
 fr:FrW H W H' W'
 calm:m=false->Same H H'/\W'=W/\ρ'=ρ
 rep:Reps K H' ds vs F
 own:o=true->F.Nodup/\∀a∈F,H a=none/\¬W' a
def AV (X:Cx) (T:Tg) (m o:Bool) (es:List Expr) (w:WA):Prop :=
 ∃ta,PA X es ta/\∀(z:Nat->V) (R:Addr->Prop) (σ:St) (H:Hp) (W:Addr->Prop) (ρ:Env) (Q:List D->Env->Prop) (Q':List V->Hp->Prop),SR X.K T z R H W σ ρ->w ρ Q ->
  (∀vs H' W' ds ρ' F,PostA X.K T z R m o H W σ ρ H' W' ρ' ds vs F->Q ds ρ'->Q' vs H')->ta σ H Q'
end
section
variable {b:Expr} {w:WE} {wr:WA}
def wNil:WA:=λρ Q=>Q [] ρ
def Qd (w:WE) (wr:WA):WA:=λρ Q=>w ρ λd ρ1=>wr ρ1 λds ρ2=>Q (d::ds) ρ2
theorem Qe:AV X T false true [] wNil:=⟨_,Vu,λz R σ H W ρ Q Q' s hw k=>k [] H W [] ρ [] ⟨s,FrW.refl H W,λ_=>⟨Same.refl H,rfl,rfl⟩,.nil,λ_=>⟨List.nodup_nil,λa m=>nomatch m⟩⟩ hw⟩
theorem Qa (he:EV X T m1 o1 e w) (hr:AV X T m2 o2 es wr) (hc:o1=true\/m2=false:=by first | exact .inl rfl | exact .inr rfl) (hs:starEach (e::es) X.env=(false,eval e X.env)::starEach es X.env:=by rfl) :
  AV X T (m1 || m2) (o1 && o2) (e::es) (Qd w wr):=by
 obtain ⟨te,pe,ge⟩:=he
 obtain ⟨ta,pa,ga⟩:=hr
 refine ⟨_,Js pe pa hs,λz R σ H W ρ Q Q' s hw k=>?_⟩
 refine ge z R σ H W ρ _ _ s hw λv1 H1 W1 d1 ρ1 F1 p q1=>?_
 refine ga z R σ H1 W1 ρ1 _ _ p.sr q1 λvs H2 W2 ds ρ2 F2 q q2=>?_
 have r1:Rep X.K H2 d1 v1 F1:=by
  rcases hc with hc | hc
  ·exact p.rep.keep q.fr λa h=>((p.own hc).2 a h).2
  ·exact p.rep.same (q.calm hc).1
 refine k (v1::vs) H2 W2 (d1::ds) ρ2 (F1++F2) ⟨q.sr,p.fr.trans q.fr,λh=>?_,.cons r1 q.rep,λh=>?_⟩ q2
 ·rw [Bool.or_eq_false_iff] at h
  obtain ⟨a1,a2,a3⟩:=p.calm h.1
  obtain ⟨b1,b2,b3⟩:=q.calm h.2
  exact ⟨a1.trans b1,b2.trans a2,b3.trans a3⟩
 ·rw [Bool.and_eq_true] at h
  obtain ⟨n1,k1⟩:=p.own h.1
  obtain ⟨n2,k2⟩:=q.own h.2
  refine ⟨List.nodup_append.mpr ⟨n1,n2,λa ma b mb e=>?_⟩,λa ma=>?_⟩
  ·subst e
   obtain ⟨ob,e,_⟩:=p.rep.dom a ma
   rw [(k2 a mb).1] at e;cases e
  ·rcases List.mem_append.mp ma with ma | ma
   ·refine ⟨(k1 a ma).1,λw=>?_⟩
    rcases q.fr.new a w with w | w
    ·exact (k1 a ma).2 w
    ·obtain ⟨ob,e,_⟩:=p.rep.dom a ma
     rw [w] at e;cases e
   ·exact ⟨p.fr.dom a (k2 a ma).1,(k2 a ma).2⟩
def wTup (wr:WA):WE:=λρ Q=>wr ρ λds ρ'=>ds.length<=sizeLine/\Q (.tup ds) ρ'
def wLst (wr:WA):WE:=λρ Q=>wr ρ λds ρ'=>ds.length<=sizeLine/\Q (.lst ds) ρ'
theorem Yy {x1} (h:AV X T m o es wr):EV X T m o (.Tuple es x1 pos) (wTup wr):=by
 obtain ⟨ta,pa,ga⟩:=h
 refine ⟨_,Qi9 pa,λz R σ H W ρ Q Q' s hw k=>?_⟩
 refine ga z R σ H W ρ _ _ s hw λvs H1 W1 ds ρ1 F p q=>?_
 obtain ⟨hz,q⟩:=q
 refine ⟨by rw [p.rep.length];exact hz,λa ha=>k _ _ W1 (.tup ds) ρ1 F ⟨p.sr.same (Qi ha),p.fr.trans (FrW.same W1 (Qi ha)),λh=>⟨(p.calm h).1.trans (Qi ha),(p.calm h).2⟩,.tup Qj (p.rep.same (Qi ha)),p.own⟩ q⟩
theorem Y5 (h:AV X T m o es wr):EV X T m o (.List es pos) (wLst wr):=by
 obtain ⟨ta,pa,ga⟩:=h
 refine ⟨_,Qmm pa,λz R σ H W ρ Q Q' s hw k=>?_⟩
 refine ga z R σ H W ρ _ _ s hw λvs H1 W1 ds ρ1 F p q=>?_
 obtain ⟨hz,q⟩:=q
 refine ⟨by rw [p.rep.length];exact hz,λa ha=>k _ _ W1 (.lst ds) ρ1 (a::F) ⟨p.sr.same (Qi ha),p.fr.trans (FrW.same W1 (Qi ha)),λh=>⟨(p.calm h).1.trans (Qi ha),(p.calm h).2⟩,.lst Qj (p.rep.same (Qi ha)),λh=>?_⟩ q⟩
 obtain ⟨n1,k1⟩:=p.own h
 refine ⟨List.nodup_cons.mpr ⟨λm=>?_,n1⟩,λb mb=>?_⟩
 ·obtain ⟨ob,e,_⟩:=p.rep.dom a m
  rw [ha] at e;cases e
 ·rcases List.mem_cons.mp mb with rfl | mb
  ·exact ⟨p.fr.dom _ ha,p.sr.nw ha⟩
  ·exact k1 b mb
theorem Qqh:EV X T false true (.Dict [] [] pos) (wC (.dik [])) :=
 ⟨_,Qpr,λz R σ H W ρ Q Q' s hw k a ha=>k _ _ W (.dik []) ρ [a] (Post.fin s (FrW.refl H W) (λ_=>⟨Same.refl H,rfl,rfl⟩) (Qi ha) (.dik Qj .nil) (by simp) (λb m=>by rw [List.mem_singleton.mp m];exact ha)) hw⟩
abbrev GA:=List D->(D->Prop)->Prop
end
end PV
variable {Q:PV.D->PV.Env->Prop} {g:PV.GA} {Q':L2.VK} {T':String}
namespace PV
open PySem PySem.Spec L2
open PyProof.Rows (subscriptTail)
section
variable {wr:WA}
def Qbo (X:Cx) (f:Value) (g:GA):Prop :=
 ∃r,V0 X f r/\∀(H:Hp) (ds:List D) (xs:List V) (F:List Addr) (k:D->Prop) (Q:VK),Reps X.K H ds xs F->g ds k->(∀v H' d F',Fin X.K H H' d v F'->k d->Q v H')->r xs H Q
def Ql (g:GA) (wr:WA):WE:=λρ Q=>wr ρ λds ρ'=>g ds λd=>Q d ρ'
end
section
variable {b:Expr} {wr:WA} {id:String}
theorem Qj3 {r:List V->Hp->VK->Prop} (gr:∀(H:Hp) (ds:List D) (xs:List V) (F:List Addr) (k:D->Prop) (Q:VK),Reps X.K H ds xs F->g ds k->(∀v H' d F',Fin X.K H H' d v F'->k d->Q v H')->r xs H Q) (ga:∀(z:Nat->V) (R:Addr->Prop) (σ:St) (H:Hp) (W:Addr->Prop) (ρ:Env) (Q:List D->Env->Prop) (Q':List V->Hp->Prop),SR X.K T z R H W σ ρ->wr ρ Q ->
   (∀vs H' W' ds ρ' F,PostA X.K T z R m o H W σ ρ H' W' ρ' ds vs F->Q ds ρ'->Q' vs H')->ta σ H Q') {W:Addr->Prop} (s:SR X.K T z R H W σ ρ) (hw:Ql g wr ρ Q)
  (k:∀v H' W' d ρ' F,Post X.K T z R m true H W σ ρ H' W' ρ' d v F->Q d ρ'->Q' v H'):ta σ H λvs H1=>r vs H1 Q':=by
 refine ga z R σ H W ρ _ _ s hw λvs H1 W1 ds ρ1 F p q=>?_
 exact gr H1 ds vs F _ Q' p.rep q λv H' d F' fi hk=>k v H' W1 d ρ1 F' (Post.fin p.sr p.fr p.calm fi.same fi.rep fi.nd fi.new) hk
theorem Qv (hc:Qbo X (.builtin id) g) (hm:X.mg x=none) (hv:bootBuiltins x=some (.builtin id)) (ha:AV X T m o (e::es) wr) (hg:Gl X x:=by rfl) (hn:x ≠ "__name__":=by decide) (hdb:(x == ("__debug__" : Str))=false:=by decide)
  (he:starEach (e::es) X.env=(false,eval e X.env)::starEach es X.env:=by rfl) (hpl:(backTo pos (starEach es X.env)).any (·.1)=false:=by rfl):EV X T m true (.Call (.Name x p) (e::es) [] pos) (Ql g wr):=by
 obtain ⟨r,rc,gr⟩:=hc
 obtain ⟨ta,pa,ga⟩:=ha
 exact ⟨_,Qex rc hg hm hv pa hn hdb he hpl,λz R σ H W ρ Q Q' s hw k=>Qj3 gr ga s hw k⟩
theorem Q8 (hc:Qbo X (.type T') g) (hm:X.mg x=none) (hv:bootBuiltins x=some (.type T')) (ha:AV X T m o (e::es) wr) (hg:Gl X x:=by rfl) (hn:x ≠ "__name__":=by decide) (hdb:(x == ("__debug__" : Str))=false:=by decide)
  (he:starEach (e::es) X.env=(false,eval e X.env)::starEach es X.env:=by rfl) (hpl:(backTo pos (starEach es X.env)).any (·.1)=false:=by rfl):EV X T m true (.Call (.Name x p) (e::es) [] pos) (Ql g wr):=by
 obtain ⟨r,rc,gr⟩:=hc
 obtain ⟨ta,pa,ga⟩:=ha
 exact ⟨_,Qf0 rc hg hm hv pa hn hdb he hpl,λz R σ H W ρ Q Q' s hw k=>Qj3 gr ga s hw k⟩
theorem Qk2 (t:Ty) (hm:X.mg x=none) (hv:bootBuiltins x=some (.type t.nm)) (hg:Gl X x:=by rfl) (hn:x ≠ "__name__":=by decide) (hdb:(x == ("__debug__" : Str))=false:=by decide):EV X T false true (.Name x pos) (wC (.ty t)) :=
 Up (Qmn hg hm hv (v:=.ty t.nm) rfl hn hdb) λ_=>.ty t
theorem Reps.at1 (r:Reps K H [d] xs F):∃v,xs=[v]/\Rep K H d v F:=by
 cases r with
 | cons h r=>cases r;rw [List.append_nil];exact ⟨_,rfl,h⟩
theorem Reps.at2 {e:D} (r:Reps K H [d,e] xs F):∃v u F1 F2,xs=[v,u]/\Rep K H d v F1/\Rep K H e u F2:=by
 cases r with
 | cons h r =>
  obtain ⟨u,rfl,h2⟩:=r.at1
  exact ⟨_,_,_,_,rfl,h,h2⟩
def dLen:GA
 | [.lst xs],k=>k (.int xs.length)
 | [.tup xs],k=>k (.int xs.length)
 | [.kls xs],k=>k (.int xs.length)
 | [.dik xs],k=>k (.int xs.length)
 | [.str z],k=>z.length<=sizeLine/\k (.int z.length)
 | _,_=>False
theorem Zx:Qbo X (.builtin "len") dLen:=by
 refine ⟨_,V0.or Qqv Qom,λH ds xs F k Q r g q=>?_⟩
 cases ds with
 | nil=>exact (show False from g).elim
 | cons d ds =>
  cases ds with
  | cons _ _=>cases d <;> exact (show False from g).elim
  | nil =>
   cases d with
   | lst es =>
    obtain ⟨v,rfl,rd⟩:=r.at1
    clear r
    cases rd with
    | lst e r9=>exact .inl ⟨_,_,rfl,.inl ⟨_,.of e,rfl⟩,by rw [r9.length];exact q _ _ _ _ (.flat (.int _)) g⟩
   | tup es =>
    obtain ⟨v,rfl,rd⟩:=r.at1
    clear r
    cases rd with
    | tup e r9=>exact .inl ⟨_,_,rfl,.inr ⟨_,.of e,rfl⟩,by rw [r9.length];exact q _ _ _ _ (.flat (.int _)) g⟩
   | kls es =>
    obtain ⟨v,rfl,rd⟩:=r.at1
    clear r
    cases rd with
    | kls e r9=>exact .inl ⟨_,_,rfl,.inl ⟨_,e.sq,rfl⟩,by rw [r9.length];exact q _ _ _ _ (.flat (.int _)) g⟩
   | dik es =>
    obtain ⟨v,rfl,rd⟩:=r.at1
    clear r
    cases rd with
    | dik e r9=>exact .inr ⟨_,_,rfl,e,by rw [r9.length];exact q _ _ _ _ (.flat (.int _)) g⟩
   | str es =>
    obtain ⟨v,rfl,rd⟩:=r.at1
    clear r
    cases rd
    exact .inl ⟨_,_,rfl,⟨g.1,rfl⟩,q _ _ _ _ (.flat (.int _)) g.2⟩
   | _=>exact (show False from g).elim
def dInt:GA
 | [.int i],k=>k (.int i)
 | [.bl b],k=>k (.int (if b then 1 else 0))
 | _,_=>False
theorem Qsg:Qbo X (.type "int") dInt:=by
 refine ⟨_,Qoq,λH ds xs F k Q r g q=>?_⟩
 cases ds with
 | nil=>exact (show False from g).elim
 | cons d ds =>
  cases ds with
  | cons _ _=>cases d <;> exact (show False from g).elim
  | nil =>
   cases d with
   | int i =>
    obtain ⟨v,rfl,rd⟩:=r.at1
    cases rd
    exact .inl ⟨_,rfl,q _ _ _ _ (.flat (.int _)) g⟩
   | bl i =>
    obtain ⟨v,rfl,rd⟩:=r.at1
    cases rd
    exact .inr ⟨_,rfl,q _ _ _ _ (.flat (.int _)) g⟩
   | _=>exact (show False from g).elim
def Qqp:GA
 | [.lst xs],k=>Qo xs=true/\k (.lst xs)
 | [.tup xs],k=>Qo xs=true/\k (.lst xs)
 | [.kls xs],k=>Qo xs=true/\k (.lst xs)
 | _,_=>False
theorem Qoi:Qbo X (.type "list") Qqp:=by
 refine ⟨_,Qgs,λH ds xs F k Q r g q=>?_⟩
 cases ds with
 | nil=>exact (show False from g).elim
 | cons d ds =>
  cases ds with
  | cons _ _=>cases d <;> exact (show False from g).elim
  | nil =>
   cases d with
   | lst es =>
    obtain ⟨v,rfl,rd⟩:=r.at1
    clear r
    cases rd with
    | lst e r9=>exact ⟨_,_,rfl,.inl (.of e),λl hl=>q _ _ _ [l] ⟨Qi hl,.lst Qj ((r9.pure g.1).2.same (Qi hl)),by simp,λb m=>by rw [List.mem_singleton.mp m];exact hl⟩ g.2⟩
   | tup es =>
    obtain ⟨v,rfl,rd⟩:=r.at1
    clear r
    cases rd with
    | tup e r9=>exact ⟨_,_,rfl,.inr (.of e),λl hl=>q _ _ _ [l] ⟨Qi hl,.lst Qj ((r9.pure g.1).2.same (Qi hl)),by simp,λb m=>by rw [List.mem_singleton.mp m];exact hl⟩ g.2⟩
   | kls es =>
    obtain ⟨v,rfl,rd⟩:=r.at1
    clear r
    cases rd with
    | kls e r9=>exact ⟨_,_,rfl,.inl e.sq,λl hl=>q _ _ _ [l] ⟨Qi hl,.lst Qj ((r9.pure g.1).2.same (Qi hl)),by simp,λb m=>by rw [List.mem_singleton.mp m];exact hl⟩ g.2⟩
   | _=>exact (show False from g).elim
def Qbe:GA
 | [.lst xs],k=>Qo xs=true/\k (.tup xs)
 | [.tup xs],k=>Qo xs=true/\k (.tup xs)
 | [.kls xs],k=>Qo xs=true/\k (.tup xs)
 | _,_=>False
theorem Xd:Qbo X (.type "tuple") Qbe:=by
 refine ⟨_,Qfa,λH ds xs F k Q r g q=>?_⟩
 cases ds with
 | nil=>exact (show False from g).elim
 | cons d ds =>
  cases ds with
  | cons _ _=>cases d <;> exact (show False from g).elim
  | nil =>
   cases d with
   | lst es =>
    obtain ⟨v,rfl,rd⟩:=r.at1
    clear r
    cases rd with
    | lst e r9=>exact ⟨_,_,rfl,.inl ⟨.of e,λl hl=>q _ _ _ [] ⟨Qi hl,.tup Qj ((r9.pure g.1).2.same (Qi hl)),by simp,λb m=>nomatch m⟩ g.2⟩⟩
   | tup es =>
    obtain ⟨v,rfl,rd⟩:=r.at1
    clear r
    cases rd with
    | tup e r9=>exact ⟨_,_,rfl,.inr ⟨.of e,q _ _ _ _ (.flat (.tup e (r9.pure g.1).2)) g.2⟩⟩
   | kls es =>
    obtain ⟨v,rfl,rd⟩:=r.at1
    clear r
    cases rd with
    | kls e r9=>exact ⟨_,_,rfl,.inl ⟨e.sq,λl hl=>q _ _ _ [] ⟨Qi hl,.tup Qj ((r9.pure g.1).2.same (Qi hl)),by simp,λb m=>nomatch m⟩ g.2⟩⟩
   | _=>exact (show False from g).elim
end
end PV
variable {b:PySem.Expr} {w:PV.WE} {i q:Nat} {t:String} {fp:Nat->List PySem.Addr} {ts:List PySem.Expr} {F':List PySem.Addr} {ob':L2.HO} {wr:PV.WA} {wt:PV.WT} {m0:Bool}
namespace PV
open PySem PySem.Spec L2
def isiD:D->Ty->Option Bool
 | .non,_=>some false
 | .bl _,t=>some (t == .bool || t == .int)
 | .int _,t=>some (t == .int)
 | .str _,t=>some (t == .str)
 | .tup _,t=>some (t == .tuple)
 | .lst _,t=>some (t == .list)
 | .dik _,t=>some (t == .dict)
 | .dit _,t=>some (t == .dict)
 | .kls _,_=>none
 | .ty _,_=>none
 | .fdk _,t=>some (t == .dict)
 | .ftp _,_=>none
 | .fls _,t=>some (t == .list)
 | .fdt _,_=>none
 | .obj _ _,_=>none
 | .clo _ _,_=>none
 | .kc _,_=>none
 | .dmx _,_=>none
 | .fmx _,_=>none
def dIsi:GA
 | [d,.ty t],k=>oget (isiD d t) λb=>k (.bl b)
 | _,_=>False
theorem Qws (t:Ty):kitOne K (.type "NoneType") (.type t.nm)=some false:=by
 cases t <;> (unfold kitOne;rw [if_neg (by decide)];rfl)
theorem Qwu (t:Ty):kitOne K (.type "bool") (.type t.nm)=some (t == .bool || t == .int):=by
 cases t <;> first | (unfold kitOne;rw [if_pos (by decide)];rfl) | (unfold kitOne;rw [if_neg (by decide)];rfl)
theorem Qwt (t:Ty):kitOne K (.type "int") (.type t.nm)=some (t == .int):=by
 cases t <;> first | (unfold kitOne;rw [if_pos (by decide)];rfl) | (unfold kitOne;rw [if_neg (by decide)];rfl)
theorem Qwr (t:Ty):kitOne K (.type "str") (.type t.nm)=some (t == .str):=by
 cases t <;> first | (unfold kitOne;rw [if_pos (by decide)];rfl) | (unfold kitOne;rw [if_neg (by decide)];rfl)
theorem Qwq (t:Ty):kitOne K (.type "tuple") (.type t.nm)=some (t == .tuple):=by
 cases t <;> first | (unfold kitOne;rw [if_pos (by decide)];rfl) | (unfold kitOne;rw [if_neg (by decide)];rfl)
theorem Qrz (t:Ty):kitOne K (.type "list") (.type t.nm)=some (t == .list):=by
 cases t <;> first | (unfold kitOne;rw [if_pos (by decide)];rfl) | (unfold kitOne;rw [if_neg (by decide)];rfl)
theorem Qm5 (t:Ty):kitOne K (.type "dict") (.type t.nm)=some (t == .dict):=by
 cases t <;> first | (unfold kitOne;rw [if_pos (by decide)];rfl) | (unfold kitOne;rw [if_neg (by decide)];rfl)
theorem Qoo:V0 X (.builtin "isinstance") (λxs H Q=>∃a o kvs T b,xs=[.ref a,.ty T]/\H a=some (.frz o (.dK kvs))/\kitOne X.K (.type "dict") (.type T)=some b/\Q (.bl b) H):=by
 intro pins s σ H xs us Q I r h
 obtain ⟨a,o,kvs,T,b,rfl,ea,e,q⟩:=h
 obtain ⟨u,c,rfl,ru,rc⟩:=Qlk r
 cases (show c=Value.type T from rc)
 cases (show u=Value.ref a from ru)
 obtain ⟨_,_,_,vs,_,p⟩:=(show Yz X.prog X.w H s.heap a (.frz o (.dK kvs)) from I.hok a _ ea)
 obtain ⟨o',es,ep,h1,h2,_⟩:=p
 exact kia_one kitx_dict I.kIn ⟨o',h1,h2.1⟩ e (λz=>nomatch z) λtk=>⟨.bl b,H,I.tok _,rfl,q⟩
theorem Qeg:Qbo X (.builtin "isinstance") dIsi:=by
 refine ⟨_,V0.or Qib Qoo,λH ds xs F k Q r g q=>?_⟩
 match ds,r,g with
 | [d,.ty t],r,g =>
  obtain ⟨v,u,F1,F2,rfl,r1,r2⟩:=r.at2
  obtain ⟨b,hb,g⟩:=Qn g
  cases r2
  have fin:=q _ _ _ _ (.flat (.bl b)) g
  cases r1 with
  | non=>exact .inl ⟨_,_,_,_,rfl,.non,Qws t,by cases hb;exact fin⟩
  | bl c=>exact .inl ⟨_,_,_,_,rfl,.bl c,Qwu t,by cases hb;exact fin⟩
  | int c=>exact .inl ⟨_,_,_,_,rfl,.int c,Qwt t,by cases hb;exact fin⟩
  | str c=>exact .inl ⟨_,_,_,_,rfl,.str c,Qwr t,by cases hb;exact fin⟩
  | tup e _=>exact .inl ⟨_,_,_,_,rfl,.tup e,Qwq t,by cases hb;exact fin⟩
  | lst e _=>exact .inl ⟨_,_,_,_,rfl,.lst e,Qrz t,by cases hb;exact fin⟩
  | dik e _=>exact .inl ⟨_,_,_,_,rfl,.dK e,Qm5 t,by cases hb;exact fin⟩
  | dit e _=>exact .inl ⟨_,_,_,_,rfl,.dT e,Qm5 t,by cases hb;exact fin⟩
  | kls _ _=>cases hb
  | ty _=>cases hb
  | fdk e _=>exact .inr ⟨_,_,_,_,_,rfl,e,Qm5 t,by cases hb;exact fin⟩
  | ftp _ _ _=>cases hb
  | fls e _=>exact .inl ⟨_,_,_,_,rfl,.frz e,Qrz t,by cases hb;exact fin⟩
  | fdt _ _=>cases hb
  | obj _ _ _=>cases hb
  | clo _ _=>cases hb
  | kc _=>cases hb
  | dmx _ _ _ _=>cases hb
  | fmx _ _ _ _=>cases hb
theorem SR0.write {W:Addr->Prop} {d':D} (s:SR0 K T z R H W σ ρ fp)
  (hl:look ρ i=some d) (ht:T.own i=true) (hv:σ[i]? = some (some v)) (hm:l∈fp i) (hk:∀b u,H b=some u->b≠l->H' b=some u) (hnew:∃ob,H' l=some ob/\imm ob=false) (r:Rep K H' d' v F') (nd:F'.Nodup)
  (sub:∀a∈F',a∈fp i\/(¬W a/\¬R a)):SR K T z R H' (λa=>W a\/a∈F') σ (ρ.set i (some d')):=by
 have hW:W l:=(s.own i d hl ht).2 l hm
 have hi:ImmK H H':=λb ob' e im=>by
  obtain ⟨ol,e1,e2⟩:=s.wd l hW
  have:b≠l:=λz=>by rw [z,e1] at e;cases e;rw [e2] at im;cases im
  exact hk b _ e this
 refine ⟨λj=>if j=i then F' else fp j,?_,?_,?_,?_,?_,?_,?_,?_,s.fix⟩
 ·rw [List.length_set];exact s.len
 ·intro a ha
  by_cases e:a=l
  ·subst e;exact hnew
  ·rcases ha with ha | ha
   ·exact (s.wd a ha).imp λob q=>⟨hk a ob q.1 e,q.2⟩
   ·exact r.dom a ha
 ·intro j e hj
  by_cases hji:j=i
  ·subst hji
   rw [Qah (Qcs hl)] at hj
   cases hj
   exact ⟨v,hv,by rw [if_pos rfl];exact r⟩
  ·rw [Yb hji] at hj
   obtain ⟨u,h1,h2⟩:=s.at_ j e hj
   refine ⟨u,h1,?_⟩
   rw [if_neg hji]
   refine h2.frame hi λa ha=>?_
   obtain ⟨oa,e1,_⟩:=h2.dom a ha
   rw [e1]
   refine hk a _ e1 λz=>?_
   subst z
   cases hto:T.own j with
   | true=>exact s.dis i j d e hl hj ht hto (λz=>hji z.symm) _ hm ha
   | false=>exact s.wr _ hW (s.ro j e hj hto _ ha)
 ·intro j e hj hto
  by_cases hji:j=i
  ·subst hji;simp only [if_pos];exact ⟨nd,λa h=>.inr h⟩
  ·rw [Yb hji] at hj
   simp only [if_neg hji]
   exact ⟨(s.own j e hj hto).1,λa h=>.inl ((s.own j e hj hto).2 a h)⟩
 ·intro j e hj hto
  have hji:j≠i:=λz=>by subst z;rw [ht] at hto;cases hto
  rw [Yb hji] at hj
  simp only [if_neg hji]
  exact s.ro j e hj hto
 ·intro a ha hr
  rcases ha with ha | ha
  ·exact s.wr a ha hr
  ·rcases sub a ha with h | h
   ·exact s.wr a ((s.own i d hl ht).2 a h) hr
   ·exact h.2 hr
 ·intro a hr
  have:a≠l:=λz=>by subst z;exact s.wr _ hW hr
  exact (s.rd a hr).imp λob q=>⟨hk a ob q.1 this,q.2⟩
 ·intro j k e e' hj hk tj tk hne a ha ha'
  by_cases hji:j=i
  ·subst hji
   have hkj:k≠j:=λz=>hne z.symm
   rw [Yb hkj] at hk
   simp only [if_pos,if_neg hkj] at ha ha'
   rcases sub a ha with h | h
   ·exact s.dis j k d e' hl hk ht tk hne a h ha'
   ·exact h.1 ((s.own k e' hk tk).2 a ha')
  ·rw [Yb hji] at hj
   simp only [if_neg hji] at ha
   by_cases hki:k=i
   ·subst hki
    simp only [if_pos] at ha'
    rcases sub a ha' with h | h
    ·exact s.dis j k e d hj hl tj ht hne a ha h
    ·exact h.1 ((s.own j e hj tj).2 a ha)
   ·rw [Yb hki] at hk
    simp only [if_neg hki] at ha'
    exact s.dis j k e e' hj hk tj tk hne a ha ha'
theorem FrW.write {H0:Hp} {W0 W:Addr->Prop} (f:FrW H0 W0 H W) (hl:W l) (hm:∃ol,H l=some ol/\PV.imm ol=false) (hk:∀b u,H b=some u->b≠l->H' b=some u) (hnew:∃ob,H' l=some ob/\PV.imm ob=false)
  (sub:∀a∈F',W a\/H0 a=none):FrW H0 W0 H' (λa=>W a\/a∈F') where
 keep:=λb ob' e n=>by
  have:b≠l:=λz=>by
   subst z
   rcases f.new _ hl with h | h
   ·exact n h
   ·rw [h] at e;cases e
  exact hk b _ (f.keep b ob' e n) this
 dom:=λb e=>by
  by_cases h:b=l
  ·subst h
   obtain ⟨ob,e1,_⟩:=hnew
   rw [e1] at e;cases e
  ·refine f.dom b ?_
   cases q:H b with
   | none=>rfl
   | some u=>rw [hk b u q h] at e;cases e
 imm:=λb ob' e im=>by
  have e':=f.imm b ob' e im
  obtain ⟨ol,e1,e2⟩:=hm
  have:b≠l:=λz=>by rw [z,e1] at e';cases e';rw [e2] at im;cases im
  exact hk b _ e' this
 new:=λb h=>by
  rcases h with h | h
  ·exact f.new b h
  ·rcases sub b h with h | h
   ·exact f.new b h
   ·exact .inr h
theorem Zo:∀b u,H b=some u->b≠l->upd H l ob b=some u:=λb u e n=>by rw [Qm n];exact e
abbrev GM:=D->List D->(D->D->Prop)->Prop
def MtD (X:Cx) (id:String) (g:GM):Prop :=
 ∃r,MtR X id r/\∀(H:Hp) (d:D) (ds:List D) (v:V) (xs:List V) (F G:List Addr) (k:D->D->Prop) (Q:VK),Rep X.K H d v F->F.Nodup->Reps X.K H ds xs G->G.Nodup->(∀a∈G,a∉F)->g d ds k ->
  (∀u l ob e d' F',l∈F->imm ob=false->Rep X.K (upd H l ob) d' v F'->F'.Nodup->(∀a∈F',a∈F\/a∈G)->Rep X.K (upd H l ob) e u []->k e d'->Q u (upd H l ob))->r v xs H Q
def tyD:Option D->String->Bool
 | some (.lst _),t=>t == "list"
 | some (.dik _),t=>t == "dict"
 | some (.dit _),t=>t == "dict"
 | some (.dmx _),t=>t == "dict"
 | _,_=>false
theorem Qll (r:Rep K H d v F) (h:tyD (some d) t=true):tyV K t v H:=by
 cases r <;> try (simp [tyD] at h)
 ·subst h;exact .inl ⟨rfl,_,.of ‹_›⟩
 ·subst h;exact .inr (.inr (.inl ⟨rfl,.inl ⟨_,‹_›⟩⟩))
 ·subst h;exact .inr (.inr (.inl ⟨rfl,.inr ⟨_,‹_›⟩⟩))
 ·rename_i e hk hm r
  subst h
  refine .inr (.inr (.inr (.inr ⟨Mx.phi _ _,e,λh p=>?_⟩)))
  obtain ⟨_,_,_,_,_,o,_,_,e,x,_⟩:=p
  exact ⟨o,e,x.1,x.2.1⟩
def wMt (i:Nat) (t:String) (g:GM) (wr:WA):WE:=λρ Q=>tyD (look ρ i) t=true/\wr ρ λds ρ1=>oget (look ρ1 i) λd=>g d ds λe d'=>Q e (ρ1.set i (some d'))
theorem Qwo {g:GM} (ht:T.own i=true)
  (gr:∀(H:Hp) (d:D) (ds:List D) (v:V) (xs:List V) (F G:List Addr) (k:D->D->Prop) (Q:VK),Rep X.K H d v F->F.Nodup->Reps X.K H ds xs G->G.Nodup->(∀a∈G,a∉F)->g d ds k ->
   (∀u l ob e d' F',l∈F->imm ob=false->Rep X.K (upd H l ob) d' v F'->F'.Nodup->(∀a∈F',a∈F\/a∈G)->Rep X.K (upd H l ob) e u []->k e d'->Q u (upd H l ob))->r v xs H Q) (ga:∀(z:Nat->V) (R:Addr->Prop) (σ:St) (H:Hp) (W:Addr->Prop) (ρ:Env) (Q:List D->Env->Prop) (Q':List V->Hp->Prop),SR X.K T z R H W σ ρ->wr ρ Q ->
   (∀vs H' W' ds ρ' F,PostA X.K T z R m true H W σ ρ H' W' ρ' ds vs F->Q ds ρ'->Q' vs H')->ta σ H Q') {W:Addr->Prop} (s:SR X.K T z R H W σ ρ) (hw:wMt i t g wr ρ Q)
  (k:∀v H' W' d ρ' F,Post X.K T z R true true H W σ ρ H' W' ρ' d v F->Q d ρ'->Q' v H'):tVar i σ H λx H1=>tyV X.K t x H1/\ta σ H1 λxs H2=>r x xs H2 Q':=by
 obtain ⟨hty,hw⟩:=hw
 obtain ⟨fp0,s0⟩:=id s
 cases hl:look ρ i with
 | none=>rw [hl] at hty;cases hty
 | some d0 =>
  obtain ⟨v,hv,r0⟩:=s0.at_ i d0 hl
  refine ⟨v,hv,Qll r0 (by rw [hl] at hty;exact hty),?_⟩
  refine ga z R σ H W ρ _ _ s hw λvs H1 W1 ds ρ1 G p q=>?_
  obtain ⟨d,hd,q⟩:=Qn q
  obtain ⟨fp,s1⟩:=id p.sr
  obtain ⟨v',hv',r1⟩:=s1.at_ i d hd
  have:v'=v:=by rw [hv] at hv';cases hv';rfl
  subst this
  obtain ⟨nd1,sw⟩:=s1.own i d hd ht
  obtain ⟨ndG,kG⟩:=p.own rfl
  refine gr H1 d ds v' vs (fp i) G _ Q' r1 nd1 p.rep ndG (λa ha hf=>(kG a ha).2 (sw a hf)) q λu l ob e d' F' hlF him rd' ndF sub re hk=>?_
  have hWl:=sw l hlF
  refine k u _ (λa=>W1 a\/a∈F') e _ [] ⟨s1.write hd ht hv' hlF Zo ⟨ob,Qj,him⟩ rd' ndF (λa ha=>?_),p.fr.write hWl (s1.wd l hWl) Zo ⟨ob,Qj,him⟩ (λa ha=>?_),(λh=>nomatch h),re,λ_=>⟨List.nodup_nil,λa m=>nomatch m⟩⟩ hk
  ·rcases sub a ha with h | h
   ·exact .inl h
   ·exact .inr ⟨(kG a h).2,s.nr (kG a h).1⟩
  ·rcases sub a ha with h | h
   ·exact .inl (sw a h)
   ·exact .inr (kG a h).1
section
variable {id:String}
theorem Qcz {g:GM} (hm:MtD X id g) (pa:PlainAttrs T') (slot:Slot T' name id) (hty:typeOf (.builtin id)=pure (.type "method_descriptor")) (ha:AV X T m true (e::es) wr)
  (ht:T.own i=true:=by rfl) (hN:X.N[i]? = some x:=by rfl) (hv:Vis X.env.scope x:=by first | exact Or.inl rfl | exact Or.inr (Or.inl rfl) | exact Or.inr (Or.inr rfl)) (hd:(x == ("__debug__" : Str))=false:=by decide)
  (hcd:(x == ("__classdict__" : Str))=false:=by decide)
  (hbase:attributeBase (.Name x p) name X.env (eval (.Name x p) X.env)=eval (.Name x p) X.env:=by rfl)
  (hfew:((backTo cpos (starEach (e::es) X.env)).all (λx=>!x.1) && (backToKw cpos (keywordEach [] X.env)).all (λx=>x.1.isSome)
   && decide ((e::es).length+([]:List Keyword).length+(if ([]:List Keyword).isEmpty then 0 else 1)<30))=true:=by rfl)
  (hline:(apos.endLine == cpos.line)=true:=by rfl) (hs:starEach (e::es) X.env=(false,eval e X.env)::starEach es X.env:=by rfl) (hplain:(backTo cpos (starEach es X.env)).any (·.1)=false:=by rfl) :
  EV X T true true (.Call (.Attribute (.Name x p) name apos) (e::es) [] cpos) (wMt i T' g wr):=by
 obtain ⟨r,mr,gr⟩:=hm
 obtain ⟨ta,pa',ga⟩:=ha
 exact ⟨_,Qhp pa slot hty mr (Vt hN hv hd hcd) pa' hbase hfew hline hs hplain,λz R σ H W ρ Q Q' s hw k=>Qwo ht gr ga s hw k⟩
def Z8:GM
 | .lst xs,[d],k=>xs.length<sizeLine/\k .non (.lst (xs++[d]))
 | _,_,_=>False
theorem Gp {α:Type} {F G:List α} (h:F.Nodup) (h':G.Nodup) (d:∀a∈G,a∉F):(F++G).Nodup :=
 List.nodup_append.mpr ⟨h,h',λa ha b hb e=>d b hb (e ▸ ha)⟩
theorem Qay (h:H l=some ob) (hi:imm ob=false):ImmK H (upd H l ob'):=λb u e im=>by
 have:b≠l:=λz=>by rw [z,h] at e;cases e;rw [hi] at im;cases im
 rw [Qm this];exact e
theorem Reps.upd {ds:List D} (r:Reps K H ds xs F) (h:H l=some ob) (hi:imm ob=false) (hn:l∉F):Reps K (L2.upd H l ob') ds xs F :=
 r.frame (Qay h hi) λa ha=>Qm λz=>hn (z ▸ ha)
theorem Rep.upd {x:V} (r:Rep K H d x F) (h:H l=some ob) (hi:imm ob=false) (hn:l∉F):Rep K (L2.upd H l ob') d x F :=
 r.frame (Qay h hi) λa ha=>Qm λz=>hn (z ▸ ha)
theorem RepK.upd {xs:List (Key × V)} (r:RepK K H ds xs F) (h:H l=some ob) (hi:imm ob=false) (hn:l∉F):RepK K (L2.upd H l ob') ds xs F :=
 r.frame (Qay h hi) λa ha=>Qm λz=>hn (z ▸ ha)
theorem RepT.upd {ds:List (List Key × D)} {xs:List (List Key × V)} (r:RepT K H ds xs F) (h:H l=some ob) (hi:imm ob=false) (hn:l∉F):RepT K (L2.upd H l ob') ds xs F :=
 r.frame (Qay h hi) λa ha=>Qm λz=>hn (z ▸ ha)
theorem Zc:MtD X "list.append" Z8:=by
 refine ⟨_,Qcq,λH d ds v xs F G k Q r nd rs ndG dis g q=>?_⟩
 cases d with
 | lst es =>
  cases ds with
  | nil=>exact (show False from g).elim
  | cons d ds =>
   cases ds with
   | cons _ _=>exact (show False from g).elim
   | nil =>
    obtain ⟨u,rfl,rd⟩:=rs.at1
    cases r with
    | @lst l ys _ F e r9 =>
     obtain ⟨hz,g⟩:=g
     obtain ⟨nl,nd⟩:=List.nodup_cons.mp nd
     have hG:l∉G:=λh=>dis l h List.mem_cons_self
     refine ⟨l,ys,u,rfl,rfl,e,by rw [r9.length];exact hz,?_⟩
     refine q .non l _ .non _ (l::(F++G)) List.mem_cons_self rfl (.lst Qj ((r9.upd e rfl nl).snoc (rd.upd e rfl hG))) (List.nodup_cons.mpr ⟨λh=>(List.mem_append.mp h).elim nl hG,Gp nd ndG λa ha hf=>dis a ha (List.mem_cons_of_mem _ hf)⟩) (λa ha=>?_) .non g
     rcases List.mem_cons.mp ha with rfl | ha
     ·exact .inl List.mem_cons_self
     ·rcases List.mem_append.mp ha with ha | ha
      ·exact .inl (List.mem_cons_of_mem _ ha)
      ·exact .inr ha
 | _=>exact (show False from g).elim
theorem sub3 {α:Type} {F A B C:List α} (h:F=A++B++C):(A++C).Sublist F:=by
 rw [h,List.append_assoc]
 exact List.Sublist.append (List.Sublist.refl _) (List.sublist_append_right _ _)
end
def spR (K:Frag) (g:GA):Sp:=λvs H Q _=>∃(ds:List D) (F:List Addr) (k:D->Prop),Reps K H ds vs F/\g ds k/\∀v H' d F',Fin K H H' d v F'->k d->Q v H'
abbrev GI:=List D->(D->D->Prop)->Prop
def spI (K:Frag) (p:Nat) (g:GI):Sp:=λvs H Q _=>∃(ds:List D) (a:Addr) (k:D->D->Prop),Reps K H ds vs [a]/\vs[p]? = some (.ref a)/\g ds k /\
 ∀v H' d d' F',Rep K H' d' (.ref a) [a]->Rep K H' d v F'->F'.Nodup->(∀b∈F',H b=none)->(∀b o,H b=some o->b≠a->H' b=some o)->k d d'->Q v H'
def Qbk:D->Bool
 | .lst xs=>Qo xs
 | .dik kvs=>kvs.all λkv=>kv.2.pure
 | .dit kvs=>kvs.all λkv=>kv.2.pure
 | .dmx _=>true
 | _=>false
theorem RepK.pure {K:Frag} {H:Hp}:∀{ds:List (Key × D)} {xs:List (Key × V)} {F:List Addr},RepK K H ds xs F->(ds.all λkv=>kv.2.pure)=true->F=[]
 | [],_,_,r,_=>by cases r;rfl
 | d::ds,_,_,r,h=>by
  rw [List.all_cons,Bool.and_eq_true] at h
  cases r with
  | cons p r=>rw [(p.pure h.1).1,RepK.pure r h.2];rfl
theorem RepT.pure {K:Frag} {H:Hp}:∀{ds:List (List Key × D)} {xs:List (List Key × V)} {F:List Addr},RepT K H ds xs F->(ds.all λkv=>kv.2.pure)=true->F=[]
 | [],_,_,r,_=>by cases r;rfl
 | d::ds,_,_,r,h=>by
  rw [List.all_cons,Bool.and_eq_true] at h
  cases r with
  | cons p r=>rw [(p.pure h.1).1,RepT.pure r h.2];rfl
theorem Rep.flat1 (r:Rep K H d v F) (h:Qbk d=true):∃a,v=.ref a/\F=[a]:=by
 cases r with
 | lst e r=>exact ⟨_,rfl,by rw [(r.pure (by simpa [Qbk] using h)).1]⟩
 | dik e r=>exact ⟨_,rfl,by rw [r.pure (by simpa [Qbk] using h)]⟩
 | dit e r=>exact ⟨_,rfl,by rw [r.pure (by simpa [Qbk] using h)]⟩
 | dmx e _ _ _=>exact ⟨_,rfl,rfl⟩
 | _=>simp [Qbk] at h
section
variable {k:Nat}
theorem Qui (F:FnOk X.prog X.w X.K X.mg X.base CX0 k f fd ps (spR X.K g)) (hr:Room k X.A) (hm:X.mg x=some (.ref f)) (hk:keepIn X.K (.ref f)=true) (hb:X1 X.K fd ps []) (ha:AV X T m o (e::es) wr) (hg:Gl X x:=by rfl)
  (hdb:(x == ("__debug__" : Str))=false:=by decide) (he:starEach (e::es) X.env=(false,eval e X.env)::starEach es X.env:=by rfl) (hpl:(backTo pos (starEach es X.env)).any (·.1)=false:=by rfl) :
  EV X T m true (.Call (.Name x p) (e::es) [] pos) (Ql g wr):=by
 obtain ⟨ta,pa,ga⟩:=ha
 refine ⟨_,Qho F hr hg hm hk hb .nil Qtr pa hdb he hpl,λz R σ H W ρ Q Q' s hw k=>?_⟩
 refine ga z R σ H W ρ _ _ s hw λvs H1 W1 ds ρ1 F p q=>?_
 refine ⟨ds,F,_,by rw [List.append_nil];exact p.rep,q,λv H' d F' fi hk=>k v H' W1 d ρ1 F' (Post.fin p.sr p.fr p.calm fi.same fi.rep fi.nd fi.new) hk⟩
abbrev WI:=Env->(List D->List D->Env->Prop)->Prop
def AI (X:Cx) (T:Tg) (m:Bool) (i p:Nat) (es:List Expr) (w:WI):Prop :=
 ∃ta,PA X es ta/\∀(z:Nat->V) (R:Addr->Prop) (σ:St) (H:Hp) (W:Addr->Prop) (ρ:Env) (Q:List D->List D->Env->Prop) (Q':List V->Hp->Prop),SR X.K T z R H W σ ρ->w ρ Q ->
  (∀v xs ys H' W' pre post ρ',PostT X.K T z R m H W σ ρ H' W' ρ'->σ[i]? = some (some v)->Reps X.K H' pre xs []->Reps X.K H' post ys []->pre.length=p->Q pre post ρ'->Q' (xs++v::ys) H')->ta σ H Q'
def U3 (i:Nat) (wr:WA):WI:=λρ Q=>(look ρ i).isSome=true/\wr ρ λds ρ'=>Qo ds=true/\Q [] ds ρ'
theorem Ub (hr:AV X T m o es wr) (hN:X.N[i]? = some x:=by rfl) (hv:Vis X.env.scope x:=by first | exact Or.inl rfl | exact Or.inr (Or.inl rfl) | exact Or.inr (Or.inr rfl)) (hd:(x == ("__debug__" : Str))=false:=by decide)
  (hcd:(x == ("__classdict__" : Str))=false:=by decide) (hs:starEach (.Name x p::es) X.env=(false,eval (.Name x p) X.env)::starEach es X.env:=by rfl):AI X T m i 0 (.Name x p::es) (U3 i wr):=by
 obtain ⟨ta,pa,ga⟩:=hr
 refine ⟨_,Js (Vt hN hv hd hcd) pa hs,λz R σ H W ρ Q Q' s hw k=>?_⟩
 obtain ⟨h1,hw⟩:=hw
 obtain ⟨d,hl⟩:=Option.isSome_iff_exists.mp h1
 obtain ⟨fp,s0⟩:=id s
 obtain ⟨v,hv',_⟩:=s0.at_ i d hl
 refine ⟨v,hv',ga z R σ H W ρ _ _ s hw λvs H1 W1 ds ρ1 F p q=>?_⟩
 exact k v [] vs H1 W1 [] ds ρ1 ⟨p.sr,p.fr,p.calm⟩ hv' .nil (p.rep.pure q.1).2 rfl q.2
def Zn (i:Nat) (g:GI) (wi:WI):WE:=λρ Q=>wi ρ λpre post ρ1=>oget (look ρ1 i) λd0=>Qbk d0=true/\g (pre++d0::post) λd d'=>Q d (ρ1.set i (some d'))
theorem Qqi {g:GI} {wi:WI} (F:FnOk X.prog X.w X.K X.mg X.base CX0 k f fd ps (spI X.K q g)) (hr:Room k X.A) (hm:X.mg x=some (.ref f)) (hk:keepIn X.K (.ref f)=true) (hb:X1 X.K fd ps []) (ha:AI X T m i q (e::es) wi)
  (ht:T.own i=true:=by rfl) (hg:Gl X x:=by rfl)
  (hdb:(x == ("__debug__" : Str))=false:=by decide) (he:starEach (e::es) X.env=(false,eval e X.env)::starEach es X.env:=by rfl) (hpl:(backTo pos (starEach es X.env)).any (·.1)=false:=by rfl) :
  EV X T true true (.Call (.Name x p) (e::es) [] pos) (Zn i g wi):=by
 obtain ⟨ta,pa,ga⟩:=ha
 refine ⟨_,Qho F hr hg hm hk hb .nil Qtr pa hdb he hpl,λz R σ H W ρ Q Q' s hw k=>?_⟩
 refine ga z R σ H W ρ _ _ s hw λv xs ys H1 W1 pre post ρ1 p hv rp rq hl q=>?_
 obtain ⟨d0,hd,hf,q⟩:=Qn q
 obtain ⟨fp,s1⟩:=id p.sr
 obtain ⟨v',hv',r0⟩:=s1.at_ i d0 hd
 have:v'=v:=by rw [hv] at hv';cases hv';rfl
 subst this
 obtain ⟨a,rfl,hF⟩:=r0.flat1 hf
 rw [hF] at r0
 have sw:=(s1.own i d0 hd ht).2
 have hWa:W1 a:=sw a (by rw [hF];exact List.mem_singleton.mpr rfl)
 refine ⟨pre++d0::post,a,_,?_,?_,q,λv H' d d' F' rd' rd nd new kp hk=>?_⟩
 ·rw [List.append_nil]
  have:=rp.append (.cons r0 rq)
  simpa using this
 ·rw [List.append_nil]
  have hx:=rp.length
  rw [List.getElem?_append_right (by omega),show _-xs.length=0 by omega]
  rfl
 ·obtain ⟨oa,ea,ia⟩:=s1.wd a hWa
  have hnew:∃ob,H' a=some ob/\imm ob=false:=rd'.dom a (List.mem_singleton.mpr rfl)
  have nd1:([a]:List Addr).Nodup:=by simp
  have sN:=s1.write (H':=H') (d':=d') (F':=[a]) hd ht hv' (by rw [hF];exact List.mem_singleton.mpr rfl) (λb u e n=>kp b u e n) hnew rd' nd1 (λb hb=>.inl (by rw [hF];exact hb))
  have fN:=p.fr.write (H':=H') (F':=[a]) hWa ⟨oa,ea,ia⟩ (λb u e n=>kp b u e n) hnew (λb hb=>.inl (by rw [List.mem_singleton.mp hb];exact hWa))
  refine k v H' _ d _ F' ⟨sN,fN,(λh=>nomatch h),rd,λ_=>⟨nd,λb hb=>⟨p.fr.dom b (new b hb),λhw=>?_⟩⟩⟩ hk
  rcases hw with hw | hw
  ·exact p.sr.nw (new b hb) hw
  ·rw [List.mem_singleton.mp hw] at hb
   rw [new a hb] at ea;cases ea
abbrev WL:=Env->(List D->Env->Prop)->Prop
def JD (K:Frag) (J:It) (H:Hp) (W:Addr->Prop) (ds:List D):Prop :=
 ∀(i:Nat) (H1:Hp) (W1:Addr->Prop),FrW H W H1 W1->(ds.length<=i->J.stop i H1)/\∀d,ds[i]? = some d->J.go i H1/\∀v H2,J.yld i H1 v H2->Same H1 H2/\∃F,Rep K H2 d v F/\∀a∈F,¬W1 a
def wz (pr:Bool) (W:Addr->Prop):Addr->Prop:=λa=>pr=true/\W a
def IV (X:Cx) (T:Tg) (m pr:Bool) (tg iter:Expr) (w:WL):Prop :=
 ∃wi,PI X tg iter wi/\∀(z:Nat->V) (R:Addr->Prop) (σ:St) (H:Hp) (W:Addr->Prop) (ρ:Env) (Q:List D->Env->Prop) (RR:It->Hp->Prop),SR X.K T z R H W σ ρ->w ρ Q ->
  (∀J H' W' ds ρ',PostT X.K T z R m H W σ ρ H' W' ρ'->JD X.K J H' (wz pr W') ds->Q ds ρ'->RR J H')->wi σ H RR
end
section
variable {k:Nat}
theorem Qv0 {l:Expr} {tl:TE} (hl:PE X l tl):PI X tg l (λσ H R=>tl σ H λx H1=>∃a,x=.ref a/\(((∃xs,SqL X.K H1 a xs)/\R (Itl X.K a) H1)\/((∃xs,SqT X.K H1 a xs)/\R (Itt X.K a) H1))):=by
 intro pins s σ H R I h
 refine thn (hl pins s σ H _ I h) λv s1 ⟨x,H1,I1,r1,q1⟩=>?_
 obtain ⟨a,e,q⟩:=q1
 subst e
 cases r1
 rcases q with ⟨⟨xs,hq⟩,q⟩ | ⟨⟨xs,hq⟩,q⟩
 ·obtain ⟨its,rv,p,hz⟩:=I1.list hq
  refine wpAny_pyIter_list p.isList ?_
  refine ⟨s1.heap.objs.size,[s1.heap.objs.size],_,_,H1,rfl,I1.kept (t':=s1.toks) λb o e=>Heap.get?_push_of_some _ e,Qfn a _,⟨_,Heap.get?_push_size _ rfl,rfl,rfl⟩,λb hb=>?_,q⟩
  have e:b=s1.heap.objs.size:=by simpa using hb
  subst e
  exact I1.fpOk (Nat.le_refl _) (I1.hok.fresh (Nat.le_refl _))
 ·obtain ⟨its,rv,p,hz⟩:=I1.tuple hq
  refine wpAny_pyIter_tuple (show s1.heap.IsTuple a its.toArray from p) ?_
  refine ⟨s1.heap.objs.size,[s1.heap.objs.size],_,_,H1,rfl,I1.kept (t':=s1.toks) λb o e=>Heap.get?_push_of_some _ e,Qj9 a _,⟨_,Heap.get?_push_size _ rfl,rfl,rfl⟩,λb hb=>?_,q⟩
  have e:b=s1.heap.objs.size:=by simpa using hb
  subst e
  exact I1.fpOk (Nat.le_refl _) (I1.hok.fresh (Nat.le_refl _))
def Qb3 (w:WE):WL:=λρ Q=>w ρ λd ρ'=>match d with
 | .tup ds=>Qo ds=true/\Q ds ρ'
 | .lst ds=>Q ds ρ'
 | .kc (.tup ks)=>Q (ks.map kcD) ρ'
 | _=>False
theorem Qyw {W:Addr->Prop} {a:Addr} (hs:∀H,SqT K H a xs) (ar:AreKC K ks xs):JD K (Itt K a) H W (ks.map kcD):=by
 intro i H2 W2 f
 have r:Reps K H2 (ks.map kcD) xs []:=ar.reps
 refine ⟨λhi=>⟨xs,hs H2,by rw [r.length];exact hi⟩,λd hd=>?_⟩
 obtain ⟨x,B,hx,rx,sx⟩:=r.get hd
 refine ⟨⟨xs,x,hs H2,hx⟩,λv H3 y=>?_⟩
 obtain ⟨rfl,y⟩:=y
 have:=y xs (hs _)
 rw [hx] at this
 cases this
 exact ⟨Same.refl _,B,rx,λa ha=>nomatch sx.subset ha⟩
theorem Qbb (h:EV X T m o e w):IV X T m o tg e (Qb3 w):=by
 obtain ⟨te,pe,ge⟩:=h
 refine ⟨_,Qv0 pe,λz R σ H W ρ Q RR s hw k=>?_⟩
 refine ge z R σ H W ρ _ _ s hw λv H1 W1 d ρ1 F p q=>?_
 cases d with
 | tup ds =>
  obtain ⟨hp,q⟩:=q
  obtain ⟨hF,rp⟩:=p.rep.pure (by simpa [D.pure] using hp)
  cases rp with
  | @tup a xs _ _ e1 r =>
   refine ⟨a,rfl,.inr ⟨⟨xs,.of e1⟩,k _ H1 W1 ds ρ1 ⟨p.sr,p.fr,p.calm⟩ (λi H2 W2 f=>?_) q⟩⟩
   have e2:H2 a=some (.tup xs):=f.imm _ _ e1 rfl
   refine ⟨λhi=>⟨xs,.of e2,by rw [r.length];exact hi⟩,λd hd=>?_⟩
   obtain ⟨x,B,hx,rx,sx⟩:=r.get hd
   refine ⟨⟨xs,x,.of e2,hx⟩,λv H3 y=>?_⟩
   obtain ⟨rfl,y⟩:=y
   have:=y xs (.of e2)
   rw [hx] at this
   cases this
   exact ⟨Same.refl _,B,rx.keep f (λa ha=>(nomatch sx.subset ha)),(λa ha=>(nomatch sx.subset ha))⟩
 | lst ds =>
  obtain ⟨p1,p2,p3,p4,p5⟩:=p
  cases p4 with
  | @lst a xs _ F e1 r =>
   refine ⟨a,rfl,.inl ⟨⟨xs,.of e1⟩,k _ H1 W1 ds ρ1 ⟨p1,p2,p3⟩ (λi H2 W2 f=>?_) q⟩⟩
   have nW:∀b∈a::F,¬wz o W1 b:=λb hb hw=>by
    obtain ⟨h1,h2⟩:=hw
    exact ((p5 h1).2 b hb).2 h2
   have e2:H2 a=some (.lst xs):=f.keep _ _ e1 (nW a List.mem_cons_self)
   refine ⟨λhi=>⟨xs,.of e2,by rw [r.length];exact hi⟩,λd hd=>?_⟩
   obtain ⟨x,B,hx,rx,sx⟩:=r.get hd
   refine ⟨⟨xs,x,.of e2,hx⟩,λv H3 y=>?_⟩
   obtain ⟨rfl,y⟩:=y
   have:=y xs (.of e2)
   rw [hx] at this
   cases this
   refine ⟨Same.refl _,B,rx.keep f λb hb=>nW b (List.mem_cons_of_mem _ (sx.subset hb)),λb hb hw=>?_⟩
   have hb':b∈a::F:=List.mem_cons_of_mem _ (sx.subset hb)
   rcases f.new b hw with h | h
   ·exact nW b hb' h
   ·obtain ⟨ob,e3,_⟩:=rx.dom b hb
    rw [h] at e3;cases e3
 | kc c =>
  cases c with
  | tup ks =>
   obtain ⟨-,rp⟩:=p.rep.pure (by rw [D.pure])
   cases rp with
   | kc h =>
    obtain ⟨a,xs,rfl,hs,ar⟩:=h.sqT
    exact ⟨a,rfl,.inr ⟨⟨xs,hs H1⟩,k _ H1 W1 (ks.map kcD) ρ1 ⟨p.sr,p.fr,p.calm⟩ (Qyw hs ar) q⟩⟩
  | _=>exact (show False from q).elim
 | _=>exact q.elim
def rngD (lo:Int) (n:Nat):List D:=(List.range n).map λ(i:Nat)=>.int (lo+(i:Int))
theorem Qjm {W:Addr->Prop} {lo:Int}:JD K (Itr lo n) H W (rngD lo n):=by
 intro i H1 W1 f
 have hl:(rngD lo n).length=n:=by simp [rngD]
 refine ⟨λh=>by rw [hl] at h;exact h,λd hd=>?_⟩
 have hi:i<n:=by have:=(List.getElem?_eq_some_iff.mp hd).1;rwa [hl] at this
 have hd':d=.int (lo+(i:Int)):=by
  simp only [rngD,List.getElem?_map,List.getElem?_range hi,Option.map_some,Option.some.injEq] at hd
  exact hd.symm
 refine ⟨hi,λv H2 y=>?_⟩
 obtain ⟨rfl,rfl⟩:=y
 exact ⟨Same.refl _,[],by rw [hd'];exact .int _,λa m=>nomatch m⟩
def Qlh (wr:WA):WL:=λρ Q=>wr ρ λds ρ'=>match ds with
 | [.int j]=>-(2 ^ 62)<=j/\j<2 ^ 62/\Q (rngD 0 j.toNat) ρ'
 | _=>False
theorem Qcw (hm:X.mg "range" = none) (ha:AV X T m o [a] wr) (hg:Gl X "range":=by rfl) (hs:starEach [a] X.env=[(false,eval a X.env)]:=by rfl):IV X T m true tg (.Call (.Name "range" p) [a] [] pos) (Qlh wr):=by
 obtain ⟨ta,pa,ga⟩:=ha
 refine ⟨_,Qmj hg hm pa hs,λz R σ H W ρ Q RR s hw k=>?_⟩
 refine ga z R σ H W ρ _ _ s hw λvs H1 W1 ds ρ1 F p q=>?_
 obtain ⟨j,rfl⟩:∃j,ds=[D.int j]:=by
  clear p
  cases ds with
  | nil=>exact (show False from q).elim
  | cons d0 r0 =>
   cases r0 with
   | nil =>
    cases d0 with
    | int j=>exact ⟨j,rfl⟩
    | _=>exact (show False from q).elim
   | cons _ _=>cases d0 <;> exact (show False from q).elim
 obtain ⟨v,rfl,rd⟩:=p.rep.at1
 cases rd
 exact ⟨j,rfl,q.1,q.2.1,k _ H1 W1 _ ρ1 ⟨p.sr,p.fr,p.calm⟩ Qjm q.2.2⟩
def Qsp (wr:WA):WL:=λρ Q=>wr ρ λds ρ'=>match ds with
 | [.int i,.int j]=>(-(2 ^ 62)<=i/\i<2 ^ 62 /\ -(2 ^ 62)<=j/\j<2 ^ 62)/\Q (rngD i (j-i).toNat) ρ'
 | _=>False
theorem Qne (hm:X.mg "range" = none) (ha:AV X T m o [a,b] wr) (hg:Gl X "range":=by rfl) (hs:starEach [a,b] X.env=[(false,eval a X.env),(false,eval b X.env)]:=by rfl) (hs2:starEach [b] X.env=[(false,eval b X.env)]:=by rfl):IV X T m true tg (.Call (.Name "range" p) [a,b] [] pos) (Qsp wr):=by
 obtain ⟨ta,pa,ga⟩:=ha
 refine ⟨_,Qmi hg hm pa hs hs2,λz R σ H W ρ Q RR s hw k=>?_⟩
 refine ga z R σ H W ρ _ _ s hw λvs H1 W1 ds ρ1 F p q=>?_
 obtain ⟨i,j,rfl⟩:∃i j,ds=[D.int i,D.int j]:=by
  clear p
  cases ds with
  | nil=>exact (show False from q).elim
  | cons d0 r0 =>
   cases r0 with
   | nil=>cases d0 <;> exact (show False from q).elim
   | cons d1 r1 =>
    cases d0 with
    | int i =>
     cases d1 with
     | int j =>
      cases r1 with
      | nil=>exact ⟨i,j,rfl⟩
      | cons _ _=>exact (show False from q).elim
     | _=>exact (show False from q).elim
    | _=>exact (show False from q).elim
 obtain ⟨v,u,F1,F2,rfl,r1,r2⟩:=p.rep.at2
 cases r1;cases r2
 exact ⟨i,j,rfl,q.1,k _ H1 W1 _ ρ1 ⟨p.sr,p.fr,p.calm⟩ Qjm q.2⟩
def U5:Nat->List D->List D
 | _,[]=>[]
 | n,d::r=>.tup [.int (n:Int),d]::U5 (n+1) r
theorem Zs:∀{ds:List D} {n i:Nat},(U5 n ds)[i]? = ds[i]?.map λd=>.tup [.int ((n+i:Nat):Int),d]
 | [],_,_=>by simp [U5]
 | d::r,n,0=>by simp [U5]
 | d::r,n,i+1=>by
  simp only [U5,List.getElem?_cons_succ]
  rw [Zs (ds:=r) (n:=n+1) (i:=i),show n+1+i=n+(i+1) by omega]
theorem Ye:∀{ds:List D} {n:Nat},(U5 n ds).length=ds.length
 | [],_=>rfl
 | d::r,n=>by simp [U5,Ye]
def Qlj (wr:WA):WL:=λρ Q=>wr ρ λds ρ'=>match ds with
 | [.tup es]=>Qo es=true/\Q (U5 0 es) ρ'
 | _=>False
theorem Qh5 (hm:X.mg "enumerate" = none) (ha:AV X T m o [a] wr) (hg:Gl X "enumerate":=by rfl) (hs:starEach [a] X.env=[(false,eval a X.env)]:=by rfl):IV X T m true (.Tuple ts kt pt) (.Call (.Name "enumerate" p) [a] [] pos) (Qlj wr):=by
 obtain ⟨ta,pa,ga⟩:=ha
 refine ⟨_,Qtn hg hm pa hs,λz R σ H W ρ Q RR s hw k=>?_⟩
 refine ga z R σ H W ρ _ _ s hw λvs H1 W1 ds ρ1 F p q=>?_
 obtain ⟨es,rfl⟩:∃es,ds=[D.tup es]:=by
  clear p
  cases ds with
  | nil=>exact (show False from q).elim
  | cons d0 r0 =>
   cases r0 with
   | nil =>
    cases d0 with
    | tup es=>exact ⟨es,rfl⟩
    | _=>exact (show False from q).elim
   | cons _ _=>cases d0 <;> exact (show False from q).elim
 obtain ⟨hp,q⟩:=q
 obtain ⟨v,rfl,rd⟩:=p.rep.at1
 obtain ⟨hF,rd⟩:=rd.pure (by simpa [D.pure] using hp)
 cases rd with
 | @tup a xs _ _ e1 r =>
  refine ⟨a,rfl,⟨xs,.of e1⟩,k _ H1 W1 _ ρ1 ⟨p.sr,p.fr,p.calm⟩ (λi H2 W2 f=>?_) q⟩
  have e2:H2 a=some (.tup xs):=f.imm _ _ e1 rfl
  refine ⟨λhi=>⟨xs,.of e2,by rw [r.length];rwa [Ye] at hi⟩,λd hd=>?_⟩
  rw [Zs] at hd
  cases hd':es[i]? with
  | none=>rw [hd'] at hd;cases hd
  | some d' =>
   rw [hd'] at hd
   obtain ⟨x,B,hx,rx,sx⟩:=r.get hd'
   refine ⟨⟨xs,x,.of e2,hx⟩,λv H3 y=>?_⟩
   obtain ⟨x',t,h1,rfl,h3,rfl⟩:=y xs (.of e2)
   rw [hx] at h1
   cases h1
   have hB:B=[]:=List.sublist_nil.mp sx
   subst hB
   refine ⟨Qi h3,[],?_,λa m=>nomatch m⟩
   cases hd
   rw [Nat.zero_add]
   exact .tup Qj (.cons (F:=[]) (G:=[]) (.int _) (Reps.one ((rx.keep f λa m=>nomatch m).same (Qi h3))))
end
structure EndsP where
 nx:Env->Prop
 rt:D->Env->Prop
 bk:Env->Prop:=λ_=>False
 ct:Env->Prop:=λ_=>False
 xc:D->Env->Prop:=λ_ _=>False
abbrev WS:=EndsP->Env->Prop
structure Lk (K:Frag) (T:Tg) (z:Nat->V) (H:Hp) (W:Addr->Prop) (P:EndsP) (E:Ends):Prop where
 nx:∀R σ' H' W' ρ',SR K T z R H' W' σ' ρ'->FrW H W H' W'->P.nx ρ'->E.nx σ' H'
 bk:∀R σ' H' W' ρ',SR K T z R H' W' σ' ρ'->FrW H W H' W'->P.bk ρ'->E.bk σ' H'
 ct:∀R σ' H' W' ρ',SR K T z R H' W' σ' ρ'->FrW H W H' W'->P.ct ρ'->E.ct σ' H'
 rt:∀R v σ' H' W' ρ' d F,SR K T z R H' W' σ' ρ'->FrW H W H' W'->Rep K H' d v F->F.Nodup->(∀a∈F,¬W' a/\(W a\/H a=none))->P.rt d ρ'->E.rt v H'
 xc:∀R σ' H' W' ρ' d,SR K T z R H' W' σ' ρ'->FrW H W H' W'->P.xc d ρ'->T.xe d σ' H'
theorem Lk.step {W:Addr->Prop} {P:EndsP} {E:Ends} (l:Lk K T z H W P E) (f:FrW H W H1 W1):Lk K T z H1 W1 P E where
 nx:=λR σ' H' W' ρ' s g q=>l.nx R σ' H' W' ρ' s (f.trans g) q
 bk:=λR σ' H' W' ρ' s g q=>l.bk R σ' H' W' ρ' s (f.trans g) q
 ct:=λR σ' H' W' ρ' s g q=>l.ct R σ' H' W' ρ' s (f.trans g) q
 rt:=λR v σ' H' W' ρ' d F s g r nd k q=>l.rt R v σ' H' W' ρ' d F s (f.trans g) r nd (λa ha=>⟨(k a ha).1,by
  rcases (k a ha).2 with h | h
  ·exact f.new a h
  ·exact .inr (f.dom a h)⟩) q
 xc:=λR σ' H' W' ρ' d s g q=>l.xc R σ' H' W' ρ' d s (f.trans g) q
def SV (X:Cx) (T:Tg) (st:Stmt) (w:WS):Prop :=
 ∃ts,PS X st ts/\∀(z:Nat->V) (R:Addr->Prop) (σ:St) (H:Hp) (W:Addr->Prop) (ρ:Env) (P:EndsP) (E:Ends),SR X.K T z R H W σ ρ->w P ρ->Lk X.K T z H W P E->ts E σ H
def SVs (X:Cx) (T:Tg) (st:List Stmt) (w:WS):Prop :=
 ∃ts,PSs X st ts/\∀(z:Nat->V) (R:Addr->Prop) (σ:St) (H:Hp) (W:Addr->Prop) (ρ:Env) (P:EndsP) (E:Ends),SR X.K T z R H W σ ρ->w P ρ->Lk X.K T z H W P E->ts E σ H
section
variable {rest:List Stmt} {ws wu:WS}
def Qw:WS:=λP ρ=>P.nx ρ
def wSeq (w u:WS):WS:=λP ρ=>w { P with nx:=u P } ρ
theorem Qx:SVs X T [] Qw:=⟨_,Qti,λz R σ H W ρ P E s hw l=>l.nx R σ H W ρ s (FrW.refl H W) hw⟩
theorem Qh (h:SV X T st ws):SVs X T [st] ws:=by
 obtain ⟨t,pt,g⟩:=h
 exact ⟨_,Qhm pt,g⟩
theorem Qf (h:SV X T st ws) (hr:SVs X T rest wu):SVs X T (st::rest) (wSeq ws wu):=by
 obtain ⟨t,pt,g⟩:=h
 obtain ⟨u,pu,gu⟩:=hr
 refine ⟨_,Qbs pt pu,λz R σ H W ρ P E s hw l=>g z R σ H W ρ _ _ s hw ⟨λR' σ' H' W' ρ' s' f q=>gu z R' σ' H' W' ρ' P E s' q (l.step f),l.bk,l.ct,l.rt,l.xc⟩⟩
def Z9 (w:WE):WS:=λP ρ=>w ρ λ_ ρ'=>P.nx ρ'
theorem Vq (he:EV X T m o e w) (hs:swapsWith e none pos.line X.env=pure false:=by rfl):SV X T (.Expr e pos) (Z9 w):=by
 obtain ⟨te,pe,ge⟩:=he
 exact ⟨_,Qeu pe hs,λz R σ H W ρ P E s hw l=>ge z R σ H W ρ _ _ s hw λv H1 W1 d ρ1 F p q=>l.nx R σ H1 W1 ρ1 p.sr p.fr q⟩
def wRet (w:WE):WS:=λP ρ=>w ρ λd ρ'=>P.rt d ρ'
theorem Q4 (he:EV X T m true e w):SV X T (.Return (some e) pos) (wRet w):=by
 obtain ⟨te,pe,ge⟩:=he
 exact ⟨_,Qrm pe,λz R σ H W ρ P E s hw l=>ge z R σ H W ρ _ _ s hw λv H1 W1 d ρ1 F p q=>l.rt R v σ H1 W1 ρ1 d F p.sr p.fr p.rep (p.own rfl).1 (λa ha=>⟨((p.own rfl).2 a ha).2,.inr ((p.own rfl).2 a ha).1⟩) q⟩
def Qj8 (i:Nat):WS:=λP ρ=>oget (look ρ i) λd=>P.rt d (ρ.set i none)
theorem Qlt (ht:T.own i=true:=by rfl) (hN:X.N[i]? = some x:=by rfl) (hv:Vis X.env.scope x:=by first | exact Or.inl rfl | exact Or.inr (Or.inl rfl) | exact Or.inr (Or.inr rfl)) (hd:(x == ("__debug__" : Str))=false:=by decide)
  (hcd:(x == ("__classdict__" : Str))=false:=by decide):SV X T (.Return (some (.Name x p)) pos) (Qj8 i):=by
 refine ⟨_,Qrm (Vt hN hv hd hcd),λz R σ H W ρ P E s hw l=>?_⟩
 obtain ⟨d,hl,q⟩:=Qn hw
 obtain ⟨fp,s0⟩:=s
 obtain ⟨v,h1,h2⟩:=s0.at_ i d hl
 have key:∀j e,look (ρ.set i none) j=some e->j≠i/\look ρ j=some e:=λj e h=>by
  rw [Gz] at h
  split at h
  ·cases h
  ·refine ⟨λz=>?_,h⟩
   subst z
   rename_i hn
   exact hn ⟨rfl,Qcs hl⟩
 refine ⟨v,h1,l.rt R v σ H (λa=>W a/\a∉fp i) (ρ.set i none) d (fp i) ⟨fp,?_⟩ ?_ h2 (s0.own i d hl ht).1 (λa ha=>⟨λh=>h.2 ha,.inl ((s0.own i d hl ht).2 a ha)⟩) q⟩
 ·refine ⟨by rw [List.length_set];exact s0.len,λa h=>s0.wd a h.1,λj e h=>s0.at_ j e (key j e h).2,λj e h t=>⟨(s0.own j e (key j e h).2 t).1,λa ha=>⟨(s0.own j e (key j e h).2 t).2 a ha,λha'=>s0.dis j i e d (key j e h).2 hl t ht (key j e h).1 a ha ha'⟩⟩,
   λj e h t=>s0.ro j e (key j e h).2 t,λa h=>s0.wr a h.1,s0.rd,λj k e e' h h' t t'=>s0.dis j k e e' (key j e h).2 (key k e' h').2 t t',s0.fix⟩
 ·exact ⟨λb ob e _=>e,λb e=>e,λb ob e _=>e,λb h=>.inl h.1⟩
theorem SR0.bindE {W:Addr->Prop} (s:SR0 K T z R H W σ ρ fp) (hio:i∉T.io) (r:Rep K H d v F) (nd:F.Nodup) (nw:∀a∈F,¬W a/\¬R a) :
  SR K T z (λa=>R a\/(T.own i=false/\a∈F)) H (λa=>W a\/(T.own i=true/\a∈F)) (σ.set i (some v)) (ρ.set i (some d)):=by
 refine ⟨λj=>if j=i then F else fp j,?_,?_,?_,?_,?_,?_,?_,?_,?_⟩
 ·rw [List.length_set,List.length_set];exact s.len
 ·intro a ha
  rcases ha with ha | ⟨_,ha⟩
  ·exact s.wd a ha
  ·exact r.dom a ha
 ·intro j e hj
  rw [Gz] at hj
  split at hj
  ·rename_i h
   obtain ⟨rfl,hlt⟩:=h
   cases hj
   exact ⟨v,by rw [List.getElem?_set_self (by rw [← s.len];exact hlt)],by rw [if_pos rfl];exact r⟩
  ·rename_i h
   obtain ⟨u,h1,h2⟩:=s.at_ j e hj
   have hji:j≠i:=λz=>h ⟨z,by rw [← z];exact Qcs hj⟩
   exact ⟨u,by rw [List.getElem?_set_ne (Ne.symm hji)];exact h1,by rw [if_neg hji];exact h2⟩
 ·intro j e hj hto
  by_cases hji:j=i
  ·subst hji;simp only [if_pos];exact ⟨nd,λa h=>.inr ⟨hto,h⟩⟩
  ·rw [Yb hji] at hj
   simp only [if_neg hji]
   exact ⟨(s.own j e hj hto).1,λa h=>.inl ((s.own j e hj hto).2 a h)⟩
 ·intro j e hj hto
  by_cases hji:j=i
  ·subst hji;simp only [if_pos];exact λa h=>.inr ⟨hto,h⟩
  ·rw [Yb hji] at hj
   simp only [if_neg hji]
   exact λa h=>.inl (s.ro j e hj hto a h)
 ·intro a ha hr
  rcases ha with ha | ⟨t,ha⟩
  ·rcases hr with hr | ⟨_,hr⟩
   ·exact s.wr a ha hr
   ·exact (nw a hr).1 ha
  ·rcases hr with hr | ⟨t',hr⟩
   ·exact (nw a ha).2 hr
   ·rw [t] at t';cases t'
 ·intro a hr
  rcases hr with hr | ⟨_,hr⟩
  ·exact s.rd a hr
  ·exact r.dom a hr
 ·intro j k e e' hj hk tj tk hne a ha ha'
  by_cases hji:j=i
  ·subst hji
   have hkj:k≠j:=λz=>hne z.symm
   rw [Yb hkj] at hk
   simp only [if_pos,if_neg hkj] at ha ha'
   exact (nw a ha).1 ((s.own k e' hk tk).2 a ha')
  ·rw [Yb hji] at hj
   simp only [if_neg hji] at ha
   by_cases hki:k=i
   ·subst hki
    simp only [if_pos] at ha'
    exact (nw a ha').1 ((s.own j e hj tj).2 a ha)
   ·rw [Yb hki] at hk
    simp only [if_neg hki] at ha'
    exact s.dis j k e e' hj hk tj tk hne a ha ha'
 ·intro j hj
  have hji:j≠i:=λz=>hio (z ▸ hj)
  rw [List.getElem?_set_ne (Ne.symm hji)]
  exact s.fix j hj
theorem SR0.bind {W:Addr->Prop} (s:SR0 K T z R H W σ ρ fp) (hio:i∉T.io) (r:Rep K H d v F) (nd:F.Nodup) (nw:∀a∈F,¬W a/\¬R a) :
  ∃R',SR K T z R' H (λa=>W a\/(T.own i=true/\a∈F)) (σ.set i (some v)) (ρ.set i (some d)):=⟨_,s.bindE hio r nd nw⟩
def wSet (i:Nat) (w:WE):WS:=λP ρ=>w ρ λd ρ'=>P.nx (ρ'.set i (some d))
theorem Um {W:Addr->Prop} {G:Addr->Prop} (f:FrW H W H' W') (n:∀a,G a->H a=none):FrW H W H' (λa=>W' a\/G a) :=
 ⟨f.keep,f.dom,f.imm,λb h=>h.elim (f.new b) λh=>.inr (n b h)⟩
theorem Q1 (he:EV X T m true e w) (hN:X.N.Nodup) (hi:X.N[i]? = some x:=by rfl) (hio:i∉T.io:=by decide) (hx:Loc X.env.scope x:=by first | exact Or.inl rfl | exact Or.inr rfl) (hs:swapsWith e (some (.Name x pos')) pos.line X.env=pure false:=by rfl)
  (hf:X.fn x=true\/X.env.scope.names.lookup x=some .local:=by first | exact .inl rfl | exact .inr rfl | assumption):SV X T (.Assign [.Name x pos'] e pos) (wSet i w):=by
 obtain ⟨te,pe,ge⟩:=he
 refine ⟨_,Qmc hN hi hx pe hs hf,λz R σ H W ρ P E s hw l=>ge z R σ H W ρ _ _ s hw λv H1 W1 d ρ1 F p q=>?_⟩
 obtain ⟨fp,s1⟩:=p.sr
 obtain ⟨nd,nw⟩:=p.own rfl
 obtain ⟨R',s2⟩:=s1.bind (i:=i) hio p.rep nd (λa ha=>⟨(nw a ha).2,s.nr (nw a ha).1⟩)
 exact l.nx R' _ H1 _ _ s2 (Um p.fr λa h=>(nw a h.2).1) q
theorem Qls (he:∃te,PS X (.Assign [.Name x pos'] e pos) (tAsg te (Qdi i))/\∀(z:Nat->V) (R:Addr->Prop) (σ:St) (H:Hp) (W:Addr->Prop) (ρ:Env) (Q:D->Env->Prop) (Q':VK),SR X.K T z R H W σ ρ->w ρ Q ->
  (∀v H' W' d ρ' F,Post X.K T z R m true H W σ ρ H' W' ρ' d v F->Q d ρ'->Q' v H')->te σ H Q') (hio:i∉T.io:=by decide):SV X T (.Assign [.Name x pos'] e pos) (wSet i w):=by
 obtain ⟨te,pe,ge⟩:=he
 refine ⟨_,pe,λz R σ H W ρ P E s hw l=>ge z R σ H W ρ _ _ s hw λv H1 W1 d ρ1 F p q=>?_⟩
 obtain ⟨fp,s1⟩:=p.sr
 obtain ⟨nd,nw⟩:=p.own rfl
 obtain ⟨R',s2⟩:=s1.bind (i:=i) hio p.rep nd (λa ha=>⟨(nw a ha).2,s.nr (nw a ha).1⟩)
 exact l.nx R' _ H1 _ _ s2 (Um p.fr λa h=>(nw a h.2).1) q
abbrev WG:=D->Env->(Env->Prop)->Prop
end
end PV
variable {ds:List PV.D} {wg:PV.WG} {wgs:List PV.D->PV.Env->(PV.Env->Prop)->Prop} {wv:PV.WE} {wl:PV.WL}
namespace PV
open PySem PySem.Spec L2
section
variable {ws wu:WS}
def GV (X:Cx) (T:Tg) (tg:Expr) (wg:WG):Prop :=
 ∃t,PG X tg t/\∀(z:Nat->V) (R:Addr->Prop) (σ:St) (H:Hp) (W:Addr->Prop) (ρ:Env) (d:D) (v:V) (Q:Env->Prop) (Q':St->Hp->Prop),SR X.K T z R H W σ ρ->Rep X.K H d v []->d.pure=true->wg d ρ Q ->
  (∀R' W' σ' ρ',SR X.K T z R' H W' σ' ρ'->FrW H W H W'->Q ρ'->Q' σ' H)->t v σ H Q'
def GVs (X:Cx) (T:Tg) (tgs:List Expr) (wg:List D->Env->(Env->Prop)->Prop):Prop :=
 ∃t,PGs X tgs t/\∀(z:Nat->V) (R:Addr->Prop) (σ:St) (H:Hp) (W:Addr->Prop) (ρ:Env) (ds:List D) (vs:List V) (Q:Env->Prop) (Q':St->Hp->Prop),SR X.K T z R H W σ ρ->Reps X.K H ds vs []->Qo ds=true->wg ds ρ Q ->
  (∀R' W' σ' ρ',SR X.K T z R' H W' σ' ρ'->FrW H W H W'->Q ρ'->Q' σ' H)->t vs σ H Q'
def gN (i:Nat):WG:=λd ρ Q=>Q (ρ.set i (some d))
theorem Yv (hN:X.N.Nodup) (hi:X.N[i]? = some x:=by rfl) (hio:i∉T.io:=by decide) (hx:Loc X.env.scope x:=by first | exact Or.inl rfl | exact Or.inr rfl) (hf:X.fn x=true\/X.env.scope.names.lookup x=some .local:=by first | exact .inl rfl | exact .inr rfl | assumption):GV X T (.Name x pos) (gN i):=by
 refine ⟨_,Qcl hN hi hx hf,λz R σ H W ρ d v Q Q' s r hp hw k=>?_⟩
 obtain ⟨fp,s1⟩:=s
 obtain ⟨R',s2⟩:=s1.bind (i:=i) hio r List.nodup_nil (λa ha=>nomatch ha)
 exact k R' _ _ _ s2 (Um (FrW.refl H W) λa h=>nomatch h.2) hw
def Gr:List D->Env->(Env->Prop)->Prop
 | [],ρ,Q=>Q ρ
 | _,_,_=>False
def Y4 (wg:WG) (wgs:List D->Env->(Env->Prop)->Prop):List D->Env->(Env->Prop)->Prop
 | d::r,ρ,Q=>wg d ρ λρ'=>wgs r ρ' Q
 | _,_,_=>False
theorem Reps.inv (r:Reps K H (d::ds) vs F):∃v us F1 F2,vs=v::us/\Rep K H d v F1/\Reps K H ds us F2:=by
 cases r with
 | cons h r=>exact ⟨_,_,_,_,rfl,h,r⟩
theorem Qaz:GVs X T [] Gr:=by
 refine ⟨_,Qmk,λz R σ H W ρ ds vs Q Q' s r hp hw k=>?_⟩
 cases ds with
 | nil=>cases r;exact ⟨rfl,k R W σ ρ s (FrW.refl H W) hw⟩
 | cons=>exact hw.elim
theorem Ze (h:GV X T e wg) (hr:GVs X T es wgs) (hs:(assignEach (e::es) X.env).map (·.2)=assign e X.env::(assignEach es X.env).map (·.2):=by rfl):GVs X T (e::es) (Y4 wg wgs):=by
 obtain ⟨t,pt,g⟩:=h
 obtain ⟨u,pu,gu⟩:=hr
 refine ⟨_,Qew pt pu hs,λz R σ H W ρ ds vs Q Q' s r hp hw k=>?_⟩
 cases ds with
 | nil=>exact hw.elim
 | cons d ds =>
  obtain ⟨v,vs,F,G,rfl,r1,r2⟩:=r.inv
  simp only [Qo,Bool.and_eq_true] at hp
  obtain ⟨e1,r1⟩:=r1.pure hp.1
  obtain ⟨e2,r2⟩:=r2.pure hp.2
  refine ⟨v,vs,rfl,g z R σ H W ρ d v _ _ s r1 hp.1 hw λR' W' σ' ρ' s' f q=>?_⟩
  exact gu z R' σ' H W' ρ' ds vs Q Q' s' r2 hp.2 q λR2 W2 σ2 ρ2 s2 f2 q2=>k R2 W2 σ2 ρ2 s2 (f.trans f2) q2
def U4 (n:Nat) (wgs:List D->Env->(Env->Prop)->Prop):WG:=λd ρ Q=>match d with
 | .tup ds=>ds.length=n/\wgs ds ρ Q
 | _=>False
theorem Qge (h:GVs X T es wgs) (hc:X.calm=true:=by rfl) (hn:(assignEach es X.env).length=n:=by rfl) (hst:(assignEach es X.env).findIdx? (·.1)=none:=by rfl):GV X T (.Tuple es kt pos) (U4 n wgs):=by
 obtain ⟨t,pt,g⟩:=h
 refine ⟨_,Qro hc pt hn hst,λz R σ H W ρ d v Q Q' s r hp hw k=>?_⟩
 cases d with
 | tup ds =>
  cases r with
  | @tup a xs _ _ e1 r=>exact ⟨a,xs,rfl,.of e1,by rw [r.length];exact hw.1,g z R σ H W ρ ds xs Q Q' s r (by simpa [D.pure] using hp) hw.2 k⟩
 | _=>exact hw.elim
def wAsg (w:WE) (wg:WG):WS:=λP ρ=>w ρ λd ρ'=>d.pure=true/\wg d ρ' P.nx
theorem Qu7 (he:EV X T m o e w) (hg:GV X T tg wg) (hs:swapsWithSole [tg] e pos.line X.env=pure false:=by rfl) (hw:swappedStores [tg] e X.env=pure none:=by rfl)
  (h1:(assignEach [tg] X.env).map (·.2)=[assign tg X.env]:=by rfl):SV X T (.Assign [tg] e pos) (wAsg w wg):=by
 obtain ⟨te,pe,ge⟩:=he
 obtain ⟨t,pt,g⟩:=hg
 refine ⟨_,Qrn pe pt hs hw h1,λz R σ H W ρ P E s hw l=>ge z R σ H W ρ _ _ s hw λv H1 W1 d ρ1 F p ⟨hp,q⟩=>?_⟩
 obtain ⟨_,r⟩:=p.rep.pure hp
 exact g z R σ H1 W1 ρ1 d v _ _ p.sr r hp q λR' W' σ' ρ' s' f q'=>l.nx R' σ' H1 W' ρ' s' (p.fr.trans f) q'
def dSet (s c d:D) (k:D->Prop):Prop:=match s with
 | .lst xs=>onI c λj=>oget (ixN xs.length j) λn=>k (.lst (xs.set n d))
 | .dik kvs=>onK c λkey=>kvs.length<sizeLine/\k (.dik (putD kvs key d))
 | .dit kvs=>onT c λl=>kvs.length<sizeLine/\oget (Gq l) λks=>k (.dit (putD kvs ks d))
 | _=>False
theorem Qpc (hu:X.A.units+1<cLine):PSet X (λo i v H Q=>∃a H',o=.ref a/\DPut H a i v H'/\Q H'):=by
 intro pins s σ H o i v ov iv u Q I ro ri rv h
 obtain ⟨a,H',rfl,g,q⟩:=h
 cases ro
 exact Qoa hu I g ri rv λs' I'=>⟨H',I',q⟩
theorem PSet.or {t u:TSet} (h:PSet X t) (h':PSet X u):PSet X (λo i v H Q=>t o i v H Q\/u o i v H Q):=by
 intro pins s σ H o i v ov iv u Q I ro ri rv q
 rcases q with q | q
 ·exact h pins s σ H o i v ov iv u Q I ro ri rv q
 ·exact h' pins s σ H o i v ov iv u Q I ro ri rv q
def Qb2 (i:Nat) (wv wi:WE):WS:=λP ρ=>wv ρ λd ρ1=>d.pure=true/\(look ρ1 i).isSome=true/\wi ρ1 λc ρ2=>oget (look ρ2 i) λs=>dSet s c d λs'=>P.nx (ρ2.set i (some s'))
theorem Qem {v ix:Expr} {wi:WE} {ps':Pos} (hu:X.A.units+1<cLine) (hv:EV X T m1 o1 v wv) (hi:EV X T m2 o2 ix wi) (ht:T.own i=true:=by rfl) (hN:X.N[i]? = some x:=by rfl)
  (hvis:Vis X.env.scope x:=by first | exact Or.inl rfl | exact Or.inr (Or.inl rfl) | exact Or.inr (Or.inr rfl)) (hd:(x == ("__debug__" : Str))=false:=by decide) (hcd:(x == ("__classdict__" : Str))=false:=by decide)
  (ha:∀v,assign (.Subscript (.Name x px) ix ps') X.env v=(do
   let ov ← holding [v] (eval (.Name x px) X.env)
   let iv ← holding [v,ov] (eval ix X.env)
   standAt ps'
   holding [v,ov,iv] (setItem ov iv v)
   release [v,ov,iv] []):=by intro _;rfl) (hs:swapsWithSole [.Subscript (.Name x px) ix ps'] v pos.line X.env=pure false:=by rfl) (hw:swappedStores [.Subscript (.Name x px) ix ps'] v X.env=pure none:=by rfl)
  (h1:(assignEach [.Subscript (.Name x px) ix ps'] X.env).map (·.2)=[assign (.Subscript (.Name x px) ix ps') X.env]:=by rfl):SV X T (.Assign [.Subscript (.Name x px) ix ps'] v pos) (Qb2 i wv wi):=by
 obtain ⟨tv,pv,gv⟩:=hv
 obtain ⟨ti,pi,gi⟩:=hi
 refine ⟨_,Qrn pv (Qv1 (Vt hN hvis hd hcd) pi (PSet.or Qpb (Qpc hu)) ha) hs hw h1,λz R σ H W ρ P E s hw l=>?_⟩
 refine gv z R σ H W ρ _ _ s hw λv1 H1 W1 d ρ1 F1 p ⟨hp,hso,q⟩=>?_
 obtain ⟨-,rv⟩:=p.rep.pure hp
 obtain ⟨d0,hl0⟩:=Option.isSome_iff_exists.mp hso
 obtain ⟨fp0,s0⟩:=id p.sr
 obtain ⟨u,hu',_⟩:=s0.at_ i d0 hl0
 refine ⟨u,hu',gi z R σ H1 W1 ρ1 _ _ p.sr q λv2 H2 W2 c ρ2 F2 p2 q2=>?_⟩
 obtain ⟨d1,hl,q2⟩:=Qn q2
 obtain ⟨fp,s2⟩:=id p2.sr
 obtain ⟨u',hu2,ru⟩:=s2.at_ i d1 hl
 have:u'=u:=by rw [hu'] at hu2;cases hu2;rfl
 subst this
 have rv2:Rep X.K H2 d v1 []:=rv.keep p2.fr λa m=>nomatch m
 obtain ⟨nd,sw⟩:=s2.own i d1 hl ht
 have fin:∀(lad:Addr) (ob:HO) (d':D) (F':List Addr),lad∈fp i->imm ob=false->Rep X.K (upd H2 lad ob) d' u' F'->F'.Nodup->(∀a∈F',a∈fp i)->P.nx (ρ2.set i (some d'))->E.nx σ (upd H2 lad ob):=λlad ob d' F' hm him r' nd' sub hq=>by
  have hW:=sw lad hm
  exact l.nx R σ _ _ _ (s2.write hl ht hu2 hm Zo ⟨ob,Qj,him⟩ r' nd' λa ha=>.inl (sub a ha)) ((p.fr.trans p2.fr).write hW (s2.wd lad hW) Zo ⟨ob,Qj,him⟩ λa ha=>.inl (sw a (sub a ha))) hq
 have nilnot:∀a:Addr,a∉([]:List Addr):=λa h=>nomatch h
 generalize hF:fp i=F at *
 cases d1 with
 | lst ds =>
  obtain ⟨j,rfl,q2⟩:=Qcm q2
  obtain ⟨a,xs,G,rfl,rfl,e,r⟩:=ru.iLst
  obtain ⟨n,hn,hq⟩:=Qn q2
  have rc:=p2.rep.iInt
  subst rc
  have hlt:=(Qh4 hn).2.1
  obtain ⟨dn,hdn⟩:∃dn,ds[n]? = some dn:=⟨ds[n],List.getElem?_eq_getElem hlt⟩
  obtain ⟨y,A,B,C,hy,hG,rB,rA,rC⟩:=r.split hdn
  obtain ⟨na,ndG⟩:=List.nodup_cons.mp nd
  have sub:=sub3 hG
  have nAC:a∉A++C:=λh=>na (sub.subset h)
  have hxl:n<xs.length:=by rw [r.length];exact hlt
  refine .inl ⟨a,xs,j,n,rfl,rfl,e,by rw [r.length];exact hn,?_⟩
  refine fin a _ _ (a::(A++C)) List.mem_cons_self rfl (.lst Qj ?_) (List.nodup_cons.mpr ⟨nAC,ndG.sublist sub⟩) (λb hb=>?_) hq
  ·rw [X7 hlt,X7 hxl]
   have:=(rA.upd (ob':=.lst (xs.take n++v1::xs.drop (n+1))) e rfl (λh=>nAC (List.mem_append.mpr (.inl h)))).append (.cons (rv2.upd e rfl (nilnot a)) (rC.upd e rfl λh=>nAC (List.mem_append.mpr (.inr h))))
   simpa using this
  ·rcases List.mem_cons.mp hb with rfl | hb
   ·exact List.mem_cons_self
   ·exact List.mem_cons_of_mem _ (sub.subset hb)
 | dik ds =>
  obtain ⟨key,⟨hz,hq⟩,hy⟩:=Qhq (show onK c (λkey=>ds.length<sizeLine/\P.nx (ρ2.set i (some (.dik (putD ds key d))))) from q2)
  obtain ⟨a,kvs,G,rfl,rfl,e,r⟩:=ru.iDik
  obtain rfl:=hy p2.rep
  obtain ⟨na,ndG⟩:=List.nodup_cons.mp nd
  obtain ⟨G',rp,sub⟩:=(r.upd (ob':=.dK (putK kvs key v1)) e rfl na).put (k:=key) (rv2.upd e rfl (nilnot a))
  refine .inr ⟨a,_,rfl,DPut.k (k:=key) e (by rw [r.length];exact hz),?_⟩
  refine fin a _ _ (a::G') List.mem_cons_self rfl (.dik Qj rp) (List.nodup_cons.mpr ⟨λh=>na (sub.subset h),ndG.sublist sub⟩) (λb hb=>?_) hq
  rcases List.mem_cons.mp hb with rfl | hb
  ·exact List.mem_cons_self
  ·exact List.mem_cons_of_mem _ (sub.subset hb)
 | dit ds =>
  obtain ⟨l',rfl,hz,q2⟩:=Qmr q2
  obtain ⟨a,kvs,G,rfl,rfl,e,r⟩:=ru.iDit
  obtain ⟨na,ndG⟩:=List.nodup_cons.mp nd
  obtain ⟨ks,hk,hq⟩:=Qn q2
  obtain ⟨b,ys,rfl,e2,r2⟩:=p2.rep.iTup
  have hx:=r2.keys hk
  subst hx
  obtain ⟨G',rp,sub⟩:=(r.upd (ob':=.dT (putK kvs ks v1)) e rfl na).put (k:=ks) (rv2.upd e rfl (nilnot a))
  refine .inr ⟨a,_,rfl,DPut.t (k:=ks) e e2 (by rw [r.length];exact hz),?_⟩
  refine fin a _ _ (a::G') List.mem_cons_self rfl (.dit Qj rp) (List.nodup_cons.mpr ⟨λh=>na (sub.subset h),ndG.sublist sub⟩) (λb hb=>?_) hq
  rcases List.mem_cons.mp hb with rfl | hb
  ·exact List.mem_cons_self
  ·exact List.mem_cons_of_mem _ (sub.subset hb)
 | _=>exact (show False from q2).elim
def wIf (wt:WT) (w u:WS):WS:=λP ρ=>wt ρ λb ρ'=>if b=true then w P ρ' else u P ρ'
theorem Yg {sa sb:List Stmt} (hc:TV X T m c wt) (ha:SVs X T sa ws) (hb:SVs X T sb wu):SV X T (.If c sa sb pos) (wIf wt ws wu):=by
 obtain ⟨tc,pc,gc⟩:=hc
 obtain ⟨ta,pa,ga⟩:=ha
 obtain ⟨tb,pb,gb⟩:=hb
 refine ⟨_,Qyk pc pa pb,λz R σ H W ρ P E s hw l=>gc z R σ H W ρ _ _ s hw λb H1 W1 ρ1 p q=>?_⟩
 cases b with
 | true=>exact ga z R σ H1 W1 ρ1 P E p.sr q (l.step p.fr)
 | false=>exact gb z R σ H1 W1 ρ1 P E p.sr q (l.step p.fr)
def Qlf (wt:WT) (wb:WS):WS:=λP ρ=>∃I:Nat->Env->Prop,(∃n,I n ρ)/\∀n ρ,I n ρ->wt ρ λb ρ1=>if b=true then wb { P with nx:=λρ'=>∃n',n' < n/\I n' ρ',ct:=λρ'=>∃n',n' < n/\I n' ρ',bk:=P.nx } ρ1 else P.nx ρ1
theorem Qiw (hp:PassesOwn (model X.prog X.w) X.A X.env X.xe) (hc:TV X T m c wt) (hb:SVs X T body ws):SV X T (.While c body [] pos) (Qlf wt ws):=by
 obtain ⟨tc,pc,gc⟩:=hc
 obtain ⟨tb,pb,gb⟩:=hb
 refine ⟨_,Qpi hp pc pb,λz R σ H W ρ P E s hw l=>?_⟩
 obtain ⟨I,⟨n,h0⟩,hI⟩:=hw
 refine ⟨λn σ' H'=>∃R' W' ρ',SR X.K T z R' H' W' σ' ρ'/\FrW H W H' W'/\I n ρ',⟨n,R,W,ρ,s,FrW.refl H W,h0⟩,?_⟩
 rintro n σ1 H1 ⟨R1,W1,ρ1,s1,f1,i1⟩
 refine gc z R1 σ1 H1 W1 ρ1 _ _ s1 (hI n ρ1 i1) λb H2 W2 ρ2 p q=>?_
 cases b with
 | true =>
  refine ⟨λσ' H'=>∃n',n' < n/\∃R' W' ρ',SR X.K T z R' H' W' σ' ρ'/\FrW H W H' W'/\I n' ρ',λσ' H' ⟨n',h,r⟩=>⟨n',h,r⟩,?_⟩
  refine gb z R1 σ1 H2 W2 ρ2 _ _ p.sr q ⟨?_,?_,?_,?_,?_⟩
  ·exact λR' σ' H' W' ρ' s' f' ⟨n',h,i'⟩=>⟨n',h,R',W',ρ',s',(f1.trans p.fr).trans f',i'⟩
  ·exact λR' σ' H' W' ρ' s' f' h=>l.nx R' σ' H' W' ρ' s' ((f1.trans p.fr).trans f') h
  ·exact λR' σ' H' W' ρ' s' f' ⟨n',h,i'⟩=>⟨n',h,R',W',ρ',s',(f1.trans p.fr).trans f',i'⟩
  ·exact ((l.step f1).step p.fr).rt
  ·exact ((l.step f1).step p.fr).xc
 | false=>exact l.nx R1 σ1 H2 W2 ρ2 p.sr (f1.trans p.fr) q
def wFor (wl:WL) (wg:WG) (wb:WS):WS:=λP ρ=>wl ρ λds ρ1=>Qo ds=true/\∃I:Nat->Env->Prop,I 0 ρ1 /\
 (∀i d ρ,ds[i]? = some d->I i ρ->wg d ρ λρ'=>wb { P with nx:=I (i+1),ct:=I (i+1),bk:=P.nx } ρ')/\∀ρ,I ds.length ρ->P.nx ρ
theorem Qg5 (W:Addr->Prop):wz true W=W:=by funext a;simp [wz]
theorem Xk (hp:PassesOwn (model X.prog X.w) X.A X.env X.xe) (hi:IV X T m true tg iter wl) (hg:GV X T tg wg) (hb:SVs X T body ws) (hc:X.calm=true:=by rfl)
  (hs:∀x,foldedSetIterable iter X.env x=pure x:=by intro _;rfl):SV X T (.For tg iter body [] pos) (wFor wl wg ws):=by
 obtain ⟨ti,pi,gi⟩:=hi
 obtain ⟨tt,pt,gt⟩:=hg
 obtain ⟨tb,pb,gb⟩:=hb
 refine ⟨_,Qvy hp hc pi pt pb hs,λz R σ H W ρ P E s hw l=>gi z R σ H W ρ _ _ s hw λJ H1 W1 ds ρ1 p jd q=>?_⟩
 rw [Qg5] at jd
 obtain ⟨hpu,I,h0,hI,hd⟩:=q
 refine ⟨λi n σ' H'=>n=ds.length-i/\i<=ds.length/\∃R' W' ρ',SR X.K T z R' H' W' σ' ρ'/\FrW H1 W1 H' W'/\I i ρ',⟨ds.length,by simp,Nat.zero_le _,R,W1,ρ1,p.sr,FrW.refl _ _,h0⟩,?_⟩
 rintro i n σ2 H2 ⟨rfl,hi,R2,W2,ρ2,s2,f2,i2⟩
 obtain ⟨j1,j2⟩:=jd i H2 W2 f2
 by_cases hlt:i<ds.length
 ·have hdi:ds[i]? = some ds[i]:=List.getElem?_eq_getElem hlt
  obtain ⟨hgo,hy⟩:=j2 _ hdi
  have hpd:(ds[i]).pure=true:=Qaf.mp hpu _ (List.getElem_mem hlt)
  refine .inr ⟨hgo,λσ' H'=>i+1<=ds.length/\∃R' W' ρ',SR X.K T z R' H' W' σ' ρ'/\FrW H1 W1 H' W'/\I (i+1) ρ',λσ' H' ⟨h1,h2⟩=>⟨ds.length-(i+1),by omega,rfl,h1,h2⟩,λv H3 yl=>?_⟩
  obtain ⟨sm,F,rv,_⟩:=hy v H3 yl
  obtain ⟨-,rv⟩:=rv.pure hpd
  have f3:FrW H1 W1 H3 W2:=f2.trans (FrW.same W2 sm)
  refine gt z R2 σ2 H3 W2 ρ2 _ v _ _ (s2.same sm) rv hpd (hI i _ ρ2 hdi i2) λR4 W4 σ4 ρ4 s4 f4 q4=>?_
  refine gb z R4 σ4 H3 W4 ρ4 _ _ s4 q4 ⟨?_,?_,?_,?_,?_⟩
  ·exact λR' σ' H' W' ρ' s' f' h=>⟨hlt,R',W',ρ',s',(f3.trans f4).trans f',h⟩
  ·exact λR' σ' H' W' ρ' s' f' h=>l.nx R' σ' H' W' ρ' s' (((p.fr.trans f3).trans f4).trans f') h
  ·exact λR' σ' H' W' ρ' s' f' h=>⟨hlt,R',W',ρ',s',(f3.trans f4).trans f',h⟩
  ·exact (((l.step p.fr).step f3).step f4).rt
  ·exact (((l.step p.fr).step f3).step f4).xc
 ·have e:i=ds.length:=by omega
  subst e
  exact .inl ⟨j1 (Nat.le_refl _),l.nx R2 σ2 H2 W2 ρ2 s2 (p.fr.trans f2) (hd ρ2 i2)⟩
end
end PV
variable {pr:Bool} {ww:PV.WS}
namespace PV
open PySem PySem.Spec L2
open PyProof.Rows (envOfC)
def TR:Tg:={ own:=λ_=>false,io:=[] }
def Any (H:Hp):Addr->Prop:=λa=>∃ob,H a=some ob/\imm ob=false
theorem SR.readonly (hio:T.io=[]) (hlen:ρ.length=σ.length) (h:∀i d,look ρ i=some d->T.own i=false/\∃v F,σ[i]? = some (some v)/\Rep K H d v F) :
  SR K T z (Any H) H (λ_=>False) σ ρ:=by
 have ch:∀i,∃F,∀d,look ρ i=some d->∃v,σ[i]? = some (some v)/\Rep K H d v F:=λi=>by
  cases hl:look ρ i with
  | none=>exact ⟨[],λd e=>nomatch e⟩
  | some d =>
   obtain ⟨_,v,F,h1,h2⟩:=h i d hl
   exact ⟨F,λd' e=>by cases e;exact ⟨v,h1,h2⟩⟩
 refine ⟨λi=>Classical.choose (ch i),hlen,λa h=>h.elim,λi d hl=>Classical.choose_spec (ch i) d hl,λi d hl ht=>?_,λi d hl ht a ha=>?_,λa h=>h.elim,λa h=>h,λi j d e hl hl' ht=>?_,λi hi=>?_⟩
 ·rw [(h i d hl).1] at ht;cases ht
 ·obtain ⟨v,_,r⟩:=Classical.choose_spec (ch i) d hl
  exact r.dom a ha
 ·rw [(h i d hl).1] at ht;cases ht
 ·rw [hio] at hi;cases hi
theorem Vl:∀{ds:List D} {n i:Nat},look (ds.map some++List.replicate n none) i=ds[i]?
 | [],0,i=>by simp [look]
 | [],n+1,0=>by simp [look,List.replicate_succ]
 | [],n+1,i+1=>by
  have:=Vl (ds:=[]) (n:=n) (i:=i)
  simpa [look,List.replicate_succ] using this
 | d::ds,n,0=>by simp [look]
 | d::ds,n,i+1=>by
  have:=Vl (ds:=ds) (n:=n) (i:=i)
  simpa [look] using this
theorem Ud (h:vs[i]? = some v):(L2.Vz N vs)[i]? = some (some v):=by
 have hi:=(List.getElem?_eq_some_iff.mp h).1
 unfold L2.Vz
 rw [List.getElem?_append_left (by simpa using hi),List.getElem?_map,h]
 rfl
section
variable {w:World} {k:Nat}
def env0 (N:List Str) (ds:List D):Env:=ds.map some++List.replicate (N.length-ds.length) none
theorem Uo (F:Fun K x qual st f fd) (S:FnScope N ps (Qb st)) (hio:T.io=[]) (hown:∀i,i<ps.length->T.own i=false) (hg:∀ds kk,g ds kk->ds.length=ps.length)
  (hb:∀(cdv:Value) (A:Around) (outer:List PySem.Env) (s:Shared) (H:Hp) (E:XK),Room k (A.deeper (envOfC qual (Qb st) s.heap.objs.size f cdv))->SVs (cxOf CX0 P w K mg base N qual (Qb st) f cdv A outer s H E).nox T (Qr st) ww)
  (hr:∀ds kk,g ds kk->ww { nx:=λ_=>kk .non,rt:=λd _=>kk d } (env0 N ds)):FnOk P w K mg base CX0 (k+1) f fd ps (spR K g):=by
 refine F.ok S (λvs H Q E h=>?_) (λcdv A outer s H vs Q E hroom h=>?_)
 ·obtain ⟨ds,Fp,kk,rep,hgk,_⟩:=h
  rw [rep.length];exact hg ds kk hgk
 ·obtain ⟨ds,Fp,kk,rep,hgk,q⟩:=h
  obtain ⟨ts,pts,gts⟩:=hb cdv A outer s H E hroom
  have hl:=rep.length
  have hds:=hg ds kk hgk
  refine ⟨ts,pts,gts (λ_=>.non) (Any H) (L2.Vz N vs) H (λ_=>False) (env0 N ds) _ _ (SR.readonly hio ?_ λi d hli=>?_) (hr ds kk hgk) ⟨?_,?_,?_,?_,λ_ _ _ _ _ _ _ _ hk=>hk.elim⟩⟩
  ·unfold env0 L2.Vz;simp [hl]
  ·unfold env0 at hli
   rw [Vl] at hli
   obtain ⟨v,B,h1,h2,_⟩:=rep.get hli
   exact ⟨hown i (by rw [← hds];exact (List.getElem?_eq_some_iff.mp hli).1),v,B,Ud h1,h2⟩
  ·intro R' σ' H' W' ρ' s' fr hk
   have sm:Same H H':=λb o e=>fr.keep b o e (λz=>z)
   exact q .non H' .non [] ⟨sm,.non,List.nodup_nil,λ_ m=>nomatch m⟩ hk
  ·exact λR' σ' H' W' ρ' s' fr hk=>hk.elim
  ·exact λR' σ' H' W' ρ' s' fr hk=>hk.elim
  ·intro R' v σ' H' W' ρ' d F' s' fr r nd nw hk
   have sm:Same H H':=λb o e=>fr.keep b o e (λz=>z)
   exact q v H' d F' ⟨sm,r,nd,λa ha=>(nw a ha).2.resolve_left id⟩ hk
theorem Qxc {p:Nat} {g:GI} (F:Fun K x qual st f fd) (S:FnScope N ps (Qb st)) (hio:T.io=[p]) (hown:T.own p=true) (hg:∀ds kk,g ds kk->ds.length=ps.length/\∃d0,ds[p]? = some d0/\Qbk d0=true)
  (hb:∀(cdv:Value) (A:Around) (outer:List PySem.Env) (s:Shared) (H:Hp) (E:XK),Room k (A.deeper (envOfC qual (Qb st) s.heap.objs.size f cdv))->SVs (cxOf CX0 P w K mg base N qual (Qb st) f cdv A outer s H E).nox T (Qr st) ww)
  (hr:∀ds kk,g ds kk->ww { nx:=λρ=>oget (look ρ p) λd'=>Qbk d'=true/\kk .non d',rt:=λd ρ=>oget (look ρ p) λd'=>Qbk d'=true/\kk d d' } (env0 N ds)):FnOk P w K mg base CX0 (k+1) f fd ps (spI K p g):=by
 refine F.ok S (λvs H Q E h=>?_) (λcdv A outer s H vs Q E hroom h=>?_)
 ·obtain ⟨ds,a,kk,rep,hp,hgk,_⟩:=h
  rw [rep.length];exact (hg ds kk hgk).1
 ·obtain ⟨ds,a,kk,rep,hp,hgk,q⟩:=h
  obtain ⟨ts,pts,gts⟩:=hb cdv A outer s H E hroom
  have hl:=rep.length
  obtain ⟨hds,d0,hd0,hf0⟩:=hg ds kk hgk
  obtain ⟨v0,A',B,C,h1,h2,r0,rA,rC⟩:=rep.split hd0
  rw [hp] at h1;cases h1
  obtain ⟨a',e1,e2⟩:=r0.flat1 hf0
  cases e1
  subst e2
  have hA:A'=[]:=by
   cases A' with
   | nil=>rfl
   | cons y A'=>simp at h2
  subst hA
  have hC:C=[]:=by
   cases C with
   | nil=>rfl
   | cons y C=>simp at h2
  subst hC
  have oth:∀i d,i≠p->ds[i]? = some d->∃v,vs[i]? = some v/\Rep K H d v []:=λi d hne hd=>by
   rcases Nat.lt_or_gt_of_ne hne with h | h
   ·obtain ⟨v,B,h1,h2,h3⟩:=rA.get (i:=i) (by rw [List.getElem?_take_of_lt h];exact hd)
    rw [List.getElem?_take_of_lt h] at h1
    have:=List.sublist_nil.mp h3
    subst this
    exact ⟨v,h1,h2⟩
   ·obtain ⟨v,B,h1,h2,h3⟩:=rC.get (i:=i-(p+1)) (by rw [List.getElem?_drop,show p+1+(i-(p+1))=i by omega];exact hd)
    rw [List.getElem?_drop,show p+1+(i-(p+1))=i by omega] at h1
    have:=List.sublist_nil.mp h3
    subst this
    exact ⟨v,h1,h2⟩
  obtain ⟨oa,ea,ia⟩:=r0.dom a (List.mem_singleton.mpr rfl)
  have fin:∀R' v σ' H' W' ρ' d F',SR K T (λ_=>.ref a) R' H' W' σ' ρ'->FrW H (λb=>b=a) H' W'->Rep K H' d v F'->F'.Nodup->(∀b∈F',¬W' b/\(b=a\/H b=none))->(oget (look ρ' p) λd'=>Qbk d'=true/\kk d d')->Q v H':=λR' v σ' H' W' ρ' d F' s' fr r nd nw hk=>by
   obtain ⟨d',hl',hf',hk⟩:=Qn hk
   obtain ⟨fp,s0⟩:=s'
   obtain ⟨u,hu,ru⟩:=s0.at_ p d' hl'
   have hfx:=s0.fix p (by rw [hio];exact List.mem_singleton.mpr rfl)
   rw [hu] at hfx
   cases hfx
   obtain ⟨a'',e1,e2⟩:=ru.flat1 hf'
   cases e1
   rw [e2] at ru
   have hWa:W' a:=(s0.own p d' hl' hown).2 a (by rw [e2];exact List.mem_singleton.mpr rfl)
   refine q v H' d d' F' ru r nd (λb hb=>?_) (λb o e hne=>fr.keep b o e hne) hk
   rcases (nw b hb).2 with h | h
   ·exact absurd hWa (by rw [← h];exact (nw b hb).1)
   ·exact h
  refine ⟨ts,pts,gts (λ_=>.ref a) (λb=>b≠a/\Any H b) (L2.Vz N vs) H (λb=>b=a) (env0 N ds) _ _ ⟨λi=>if i=p then [a] else [],?_,?_,?_,?_,?_,?_,?_,?_,?_⟩ (hr ds kk hgk) ⟨?_,?_,?_,?_,λ_ _ _ _ _ _ _ _ hk=>hk.elim⟩⟩
  ·unfold env0 L2.Vz;simp [hl]
  ·rintro b rfl;exact ⟨oa,ea,ia⟩
  ·intro i d hli
   unfold env0 at hli
   rw [Vl] at hli
   by_cases hip:i=p
   ·subst hip
    rw [hd0] at hli;cases hli
    exact ⟨.ref a,Ud hp,by rw [if_pos rfl];exact r0⟩
   ·obtain ⟨v,h1,h2⟩:=oth i d hip hli
    exact ⟨v,Ud h1,by rw [if_neg hip];exact h2⟩
  ·intro i d _ _
   by_cases hip:i=p
   ·rw [if_pos hip];exact ⟨by simp,λb hb=>List.mem_singleton.mp hb⟩
   ·rw [if_neg hip];exact ⟨by simp,λb hb=>nomatch hb⟩
  ·intro i d _ ht b hb
   have hip:i≠p:=λz=>by subst z;rw [hown] at ht;cases ht
   rw [if_neg hip] at hb;cases hb
  ·rintro b rfl ⟨h,_⟩;exact h rfl
  ·exact λb h=>h.2
  ·intro i j d e _ _ _ _ hne b hb hb'
   by_cases hip:i=p
   ·have hjp:j≠p:=λz=>hne (hip.trans z.symm)
    rw [if_neg hjp] at hb';cases hb'
   ·rw [if_neg hip] at hb;cases hb
  ·intro i hi
   rw [hio] at hi
   rw [List.mem_singleton.mp hi]
   exact Ud hp
  ·exact λR' σ' H' W' ρ' s' fr hk=>fin R' .non σ' H' W' ρ' .non [] s' fr .non List.nodup_nil (λb hb=>nomatch hb) hk
  ·exact λR' σ' H' W' ρ' s' fr hk=>hk.elim
  ·exact λR' σ' H' W' ρ' s' fr hk=>hk.elim
  ·exact λR' v σ' H' W' ρ' d F' s' fr r nd nw hk=>fin R' v σ' H' W' ρ' d F' s' fr r nd nw hk
end
section
variable {we:WE}
def CV (X:Cx) (ifs:List Expr) (w:WT):Prop :=
 ∃tt,PIfs X ifs tt/\∀(z:Nat->V) (R:Addr->Prop) (σ:St) (H:Hp) (W:Addr->Prop) (ρ:Env) (Q:Bool->Env->Prop) (Q':Bool->Hp->Prop),SR X.K TR z R H W σ ρ->w ρ Q ->
  (∀b H' W' ρ',PostT X.K TR z R false H W σ ρ H' W' ρ'->Q b ρ'->Q' b H')->tt σ H Q'
def wAll:WT:=λρ Q=>Q true ρ
theorem Qef:CV X [] wAll:=⟨_,Qi7,λz R σ H W ρ Q Q' s hw k=>k true H W ρ ⟨s,FrW.refl H W,λ_=>⟨Same.refl H,rfl,rfl⟩⟩ hw⟩
theorem Qjx (h:TV X TR false c wt):CV X [c] wt:=by
 obtain ⟨tt,pt,g⟩:=h
 exact ⟨_,Qpl pt,g⟩
def blkE (ρ:Env) (d:D) (ix:List Nat):Env:=some d::ix.map (look ρ)
theorem Qe4 {f:Nat->Option D}:∀{ix:List Nat} {j:Nat},look (ix.map f) j=ix[j]?.bind f
 | [],_=>by simp [look]
 | i::r,0=>by simp [look]
 | i::r,j+1=>by simpa [look] using Qe4 (f:=f) (ix:=r) (j:=j)
def Qb6 (wl:WL) (wt:WT) (we:WE) (ix:List Nat):WE:=λρ Q=>wl ρ λds ρ1=>∃I:Nat->List D->Prop,I 0 [] /\
 (∀i d ys,ds[i]? = some d->I i ys->ys.length<sizeLine/\wt (blkE ρ1 d ix) λb _=>if b=true then we (blkE ρ1 d ix) (λy _=>I (i+1) (ys++[y])) else I (i+1) ys) /\
 ∀ys,I ds.length ys->ys.length<=sizeLine/\Q (.lst ys) ρ1
def Qg4 (X:Cx) (T:Tg) (m:Bool) (elt iter:Expr) (x:Str) (px:Pos) (scope:Scope) (ifs:List Expr) (ix:List Nat) (w:WE):Prop :=
 ∃(wi:TI) (tt:TT) (te:TE),PI X (.Name x px) iter wi/\(∀cl C s₀ H₀ fp,PIfs (Yn X scope cl C (bN X.N x ix) s₀ H₀ fp) ifs tt)/\(∀cl C s₀ H₀ fp,PE (Yn X scope cl C (bN X.N x ix) s₀ H₀ fp) elt te) /\
  ∀(z:Nat->V) (R:Addr->Prop) (σ:St) (H:Hp) (W:Addr->Prop) (ρ:Env) (Q:D->Env->Prop) (Q':VK),SR X.K T z R H W σ ρ->w ρ Q ->
   (∀v H' W' d ρ' F,Post X.K T z R m true H W σ ρ H' W' ρ' d v F->Q d ρ'->Q' v H')->Qsw wi tt te ix σ H Q'
theorem Gu (ix:List Nat) (hi:IV X T m pr (.Name x px) iter wl)
  (ht:∀cl C s₀ H₀ fp,CV (Yn X scope cl C (bN X.N x ix) s₀ H₀ fp) ifs wt) (he:∀cl C s₀ H₀ fp,EV (Yn X scope cl C (bN X.N x ix) s₀ H₀ fp) TR false true elt we) :
  Qg4 X T m elt iter x px scope ifs ix (Qb6 wl wt we ix):=by
 obtain ⟨wi,pi,gi⟩:=hi
 refine ⟨wi,λσ H Q=>∀cl C s₀ H₀ fp,Classical.choose (ht cl C s₀ H₀ fp) σ H Q,λσ H Q=>∀cl C s₀ H₀ fp,Classical.choose (he cl C s₀ H₀ fp) σ H Q,pi,
  λcl C s₀ H₀ fp pins s σ H Q I h=>(Classical.choose_spec (ht cl C s₀ H₀ fp)).1 pins s σ H Q I (h cl C s₀ H₀ fp),λcl C s₀ H₀ fp pins s σ H Q I h=>(Classical.choose_spec (he cl C s₀ H₀ fp)).1 pins s σ H Q I (h cl C s₀ H₀ fp),?_⟩
 intro z R σ H W ρ Q Q' s hw k
 refine gi z R σ H W ρ _ _ s hw λJ H1 W1 ds ρ1 p jd q=>?_
 obtain ⟨I,h0,hI,hd⟩:=q
 refine ⟨λi n ys H2=>n=ds.length-i/\i<=ds.length/\Same H1 H2/\∃es F,Reps X.K H2 es ys F/\F.Nodup/\(∀a∈F,H1 a=none)/\I i es,ds.length,⟨by simp,Nat.zero_le _,Same.refl _,[],[],.nil,List.nodup_nil,(λa m=>(nomatch m)),h0⟩,?_⟩
 rintro i n ys H2 ⟨rfl,hi,sm,es,F,re,nd,nw,i2⟩
 obtain ⟨j1,j2⟩:=jd i H2 (wz pr W1) (FrW.same _ sm)
 by_cases hlt:i<ds.length
 ·have hdi:ds[i]? = some ds[i]:=List.getElem?_eq_getElem hlt
  obtain ⟨hgo,hy⟩:=j2 _ hdi
  obtain ⟨hz,q1⟩:=hI i _ es hdi i2
  refine .inr ⟨hgo,by rw [re.length];exact hz,λv H3 yl=>?_⟩
  obtain ⟨sm3,Fv,rv,_⟩:=hy v H3 yl
  have srB:∀z',SR X.K TR z' (Any H3) H3 (λ_=>False) (bS σ (some v) ix) (blkE ρ1 ds[i] ix):=λz'=>by
   refine SR.readonly rfl (by simp [bS,blkE]) λj d hj=>⟨rfl,?_⟩
   cases j with
   | zero =>
    simp only [blkE,look,Option.some.injEq] at hj
    subst hj
    exact ⟨v,Fv,rfl,rv⟩
   | succ j =>
    have hj':look (ix.map (look ρ1)) j=some d:=hj
    rw [Qe4] at hj'
    cases hx:ix[j]? with
    | none=>rw [hx] at hj';cases hj'
    | some q =>
     rw [hx] at hj'
     obtain ⟨fp,s1⟩:=(p.sr.same sm).same sm3
     obtain ⟨u,hu,ru⟩:=s1.at_ q d hj'
     refine ⟨u,fp q,?_,ru⟩
     show (ix.map λi=>(σ[i]?).getD none)[j]? = some (some u)
     rw [List.getElem?_map,hx]
     simp [hu]
  intro cl C s₀ H₀ fp
  refine (Classical.choose_spec (ht cl C s₀ H₀ fp)).2 (λ_=>.non) (Any H3) (bS σ (some v) ix) H3 (λ_=>False) (blkE ρ1 ds[i] ix) _ _ (srB _) q1 λbb H4 W4 ρ4 p4 q4=>?_
  obtain ⟨sm4,hW4,hρ4⟩:=p4.calm rfl
  have re4:=((re.same sm3).same sm4)
  cases bb with
  | false=>exact ⟨ds.length-(i+1),by omega,rfl,hlt,(sm.trans sm3).trans sm4,es,F,re4,nd,nw,q4⟩
  | true =>
   show if true=true then _ else _
   rw [if_pos rfl]
   intro cl C s₀ H₀ fp
   refine (Classical.choose_spec (he cl C s₀ H₀ fp)).2 (λ_=>.non) (Any H3) (bS σ (some v) ix) H4 W4 (blkE ρ1 ds[i] ix) _ _ (hρ4 ▸ p4.sr) (by simpa using q4) λu H5 W5 y ρ5 Fy p5 q5=>?_
   obtain ⟨sm5,_,_⟩:=p5.calm rfl
   obtain ⟨ny,ky⟩:=p5.own rfl
   have sm15:Same H1 H5:=((sm.trans sm3).trans sm4).trans sm5
   refine ⟨ds.length-(i+1),by omega,rfl,hlt,sm15,es++[y],F++Fy,(re4.same sm5).snoc p5.rep,Gp nd ny λa ha hf=>?_,λa ha=>?_,q5⟩
   ·obtain ⟨ob,e1,_⟩:=re4.dom a hf
    rw [(ky a ha).1] at e1;cases e1
   ·rcases List.mem_append.mp ha with ha | ha
    ·exact nw a ha
    ·exact ((sm.trans sm3).trans sm4).free (ky a ha).1
 ·have e:i=ds.length:=by omega
  subst e
  obtain ⟨hz,q1⟩:=hd es i2
  refine .inl ⟨j1 (Nat.le_refl _),by rw [re.length];exact hz,λl hl=>?_⟩
  have hl1:H1 l=none:=sm.free hl
  refine k _ _ W1 (.lst es) ρ1 (l::F) ⟨(p.sr.same sm).same (Qi hl),(p.fr.trans (FrW.same W1 sm)).trans (FrW.same W1 (Qi hl)),λh=>⟨((p.calm h).1.trans sm).trans (Qi hl),(p.calm h).2⟩,.lst Qj (re.same (Qi hl)),λ_=>⟨List.nodup_cons.mpr ⟨λh=>?_,nd⟩,λb hb=>?_⟩⟩ q1
  ·obtain ⟨ob,e1,_⟩:=re.dom l h
   rw [hl] at e1;cases e1
  ·rcases List.mem_cons.mp hb with rfl | hb
   ·exact ⟨p.fr.dom _ hl1,p.sr.nw hl1⟩
   ·exact ⟨p.fr.dom _ (nw b hb),p.sr.nw (nw b hb)⟩
theorem Quh (h:Qg4 X T m elt iter x px scope ifs ix w) (B:BlkScope X.env scope x)
  (hix:∀i∈ix,∃y,X.N[i]? = some y/\scope.names.lookup y=some .free) (hN:(bN X.N x ix).Nodup) (hc:X.calm=true:=by rfl)
  (hs:∀x,foldedSetIterable iter X.env x=pure x:=by intro _;rfl):EV X T m true (.ListComp elt [⟨.Name x px,iter,ifs,0⟩] scope pos) w:=by
 obtain ⟨wi,tt,te,h1,h2,h3,h4⟩:=h
 exact ⟨_,Qtp ix hc B hix hN h1 h2 h3 hs,h4⟩
theorem Qsz (h:Qg4 X T m elt iter x px scope ifs ix w) (B:BlkScope X.env scope x) (hNd:X.N.Nodup)
  (hix:∀i∈ix,∃y,X.N[i]? = some y/\scope.names.lookup y=some .free) (hN:(bN X.N x ix).Nodup) (hj:X.N[j]? = some y:=by rfl) (hy:Loc X.env.scope y:=by first | exact Or.inl rfl | exact Or.inr rfl) (hio:j∉T.io:=by decide)
  (hsw:swapsWith (.ListComp elt [⟨.Name x px,iter,ifs,0⟩] scope pos) (some (.Name y py)) spos.line X.env=pure true:=by rfl)
  (hf:X.fn y=true\/X.env.scope.names.lookup y=some .local:=by first | exact .inl rfl | exact .inr rfl | assumption) (hc:X.calm=true:=by rfl)
  (hs:∀x,foldedSetIterable iter X.env x=pure x:=by intro _;rfl):SV X T (.Assign [.Name y py] (.ListComp elt [⟨.Name x px,iter,ifs,0⟩] scope pos) spos) (wSet j w):=by
 obtain ⟨wi,tt,te,h1,h2,h3,h4⟩:=h
 exact Qls ⟨_,Qtl ix hc B hNd hj hy hsw hix hN h1 h2 h3 hf hs,h4⟩ hio
end
end PV
variable {xs:List PV.D} {ws wh:PV.WS} {me:Bool}
namespace PV
open PySem PySem.Spec L2
abbrev WO:=Env->(Option Int->Env->Prop)->Prop
def OV (X:Cx) (T:Tg) (m:Bool) (e:Option Expr) (w:WO):Prop :=
 ∃t,PO X e t/\∀(z:Nat->V) (R:Addr->Prop) (σ:St) (H:Hp) (W:Addr->Prop) (ρ:Env) (Q:Option Int->Env->Prop) (Q':Option Int->Hp->Prop),SR X.K T z R H W σ ρ->w ρ Q ->
  (∀b H' W' ρ',PostT X.K T z R m H W σ ρ H' W' ρ'->Q b ρ'->Q' b H')->t σ H Q'
def Qj7 (w:WE):WO:=λρ Q=>w ρ λd ρ'=>match d with
 | .int i=>Q (some i) ρ'
 | _=>False
theorem Qmo (h:EV X T m o e w):OV X T m (some e) (Qj7 w):=by
 obtain ⟨t,pt,g⟩:=h
 refine ⟨_,Qtm pt,λz R σ H W ρ Q Q' s hw k=>g z R σ H W ρ _ _ s hw λv H1 W1 d ρ1 F p q=>?_⟩
 cases d with
 | int i=>exact ⟨i,Qs7 p.rep,k (some i) H1 W1 ρ1 ⟨p.sr,p.fr,p.calm⟩ q⟩
 | _=>exact q.elim
def cutD (xs:List D) (lo hi:Option Int):List D:=(xs.drop (HT.sIx xs.length 0 lo)).take (HT.sIx xs.length xs.length hi-HT.sIx xs.length 0 lo)
theorem Reps.cut {xs:List V} (r:Reps K H ds xs []):Reps K H (cutD ds lo hi) (cutV xs lo hi) []:=by
 unfold cutD cutV
 rw [r.length]
 obtain ⟨G,r1,s1⟩:=r.drop (HT.sIx ds.length 0 lo)
 obtain ⟨G',r2,s2⟩:=r1.take (HT.sIx ds.length ds.length hi-HT.sIx ds.length 0 lo)
 have:=List.sublist_nil.mp s1
 subst this
 have:=List.sublist_nil.mp s2
 subst this
 exact r2
theorem Qvc:SlR X (λx lo hi H Q=>rSlL X.K x lo hi H Q\/rSlT X.K x lo hi H Q):=SlR.or Qs1 Qvb
theorem RepK.get {K:Frag} {H:Hp}:∀{ds:List (Key × D)} {xs:List (Key × V)} {F:List Addr} {i:Nat} {k:Key} {v:V},RepK K H ds xs F->xs[i]? = some (k,v)->∃d B,ds[i]? = some (k,d)/\Rep K H d v B/\B.Sublist F
 | [],_,_,_,_,_,r,h=>by cases r;simp at h
 | d::ds,_,_,i,_,_,r,h=>by
  cases r with
  | @cons j d v _ vs F G p r =>
   cases i with
   | zero =>
    simp at h
    obtain ⟨rfl,rfl⟩:=h
    exact ⟨d,F,rfl,p,List.sublist_append_left _ _⟩
   | succ i =>
    obtain ⟨d',B,h1,h2,h3⟩:=RepK.get r (i:=i) (by simpa using h)
    exact ⟨d',B,by simpa using h1,h2,h3.trans (List.sublist_append_right _ _)⟩
section
variable {κ:Type} [DecidableEq κ]
theorem Qte {j k:κ} {y:D} {r:List (κ × D)} (h:¬j=k):putD ((j,d)::r) k y=(j,d)::putD r k y:=by
 unfold putD
 by_cases q:(r.any λkv=>decide (kv.1=k))=true
 ·rw [if_pos (by rw [List.any_cons,q];simp),if_pos q,List.map_cons,if_neg h]
 ·rw [if_neg (by rw [List.any_cons];simp only [h,decide_false,Bool.false_or];exact q),if_neg q];rfl
theorem Qjg {k:κ} {y:D}:∀{r:List (κ × D)},k∉r.map (·.1)->(r.map λkv=>if kv.1=k then (kv.1,y) else kv)=r
 | [],_=>rfl
 | p::r,h=>by
  simp only [List.map_cons,List.mem_cons,not_or] at h
  rw [List.map_cons,if_neg (λz=>h.1 z.symm),Qjg h.2]
theorem Qtf {k:κ} {y:D} {r:List (κ × D)} (h:k∉r.map (·.1)):putD ((k,d)::r) k y=(k,y)::r:=by
 unfold putD
 rw [if_pos (by rw [List.any_cons];simp),List.map_cons,if_pos rfl,Qjg h]
end
theorem RepK.app {k:Key} {xs:List D}:∀{ds:List (Key × D)} {kvs:List (Key × V)} {F:List Addr},RepK K H ds kvs F->F.Nodup->(ds.map (·.1)).Nodup->valD ds k=some (.lst xs) ->
  ∃l ys,valV kvs k=some (.ref l)/\H l=some (.lst ys)/\l∈F/\ys.length=xs.length/\∀v x,Rep K H x v []->RepK K (L2.upd H l (.lst (ys++[v]))) (putD ds k (.lst (xs++[x]))) kvs F
 | [],_,_,r,_,_,h=>by cases h
 | (j,d)::ds,_,_,r,nd,hk,h=>by
  cases r with
  | @cons _ _ v _ vs F G p r =>
   obtain ⟨n1,n2,n3⟩:=List.nodup_append.mp nd
   obtain ⟨k1,k2⟩:=List.nodup_cons.mp (show (j::ds.map (·.1)).Nodup from hk)
   rw [Va] at h
   by_cases e:j=k
   ·subst e
    rw [if_pos rfl] at h
    cases h
    cases p with
    | @lst l ys _ F0 e1 r1 =>
     obtain ⟨nl,n0⟩:=List.nodup_cons.mp n1
     refine ⟨l,ys,Yw rfl,e1,List.mem_append.mpr (.inl List.mem_cons_self),r1.length,λv x rx=>?_⟩
     rw [Qtf k1]
     refine .cons (.lst Qj ?_) (r.upd e1 rfl λh=>n3 l List.mem_cons_self l h rfl)
     have:=(r1.upd (ob':=.lst (ys++[v])) e1 rfl nl).snoc (rx.upd e1 rfl (λh=>nomatch h))
     simpa using this
   ·rw [if_neg e] at h
    obtain ⟨l,ys,h1,h2,h3,h4,h5⟩:=RepK.app r n2 k2 h
    refine ⟨l,ys,by rw [Yx e];exact h1,h2,List.mem_append.mpr (.inr h3),h4,λv x rx=>?_⟩
    rw [Qte e]
    exact .cons (p.upd h2 rfl λh=>n3 l h l h3 rfl) (h5 v x rx)
def Qt3:D->Option Key
 | .int i=>some (.inl i)
 | .str i=>some (.inr i)
 | _=>none
theorem Rep.key {k:Key} (r:Rep K H d v F) (h:Qt3 d=some k):v=kV k:=by
 cases r <;> simp [Qt3] at h <;> subst h <;> rfl
def Ue (kvs:List (Key × D)) (k:Key):List (Key × D):=if (valD kvs k).isNone then kvs++[(k,.lst [])] else kvs
def wSda (i:Nat) (wk wv:WE):WS:=λP ρ=>oget (look ρ i) λs=>match s with
 | .dik kvs=>kvs.length<sizeLine/\(kvs.map (·.1)).Nodup/\wk ρ λkd _=>oget (Qt3 kd) λk=>oget (valD (Ue kvs k) k) λl=>match l with
  | .lst xs=>xs.length<sizeLine/\wv (ρ.set i (some (.dik (Ue kvs k)))) λd _=>d.pure=true/\P.nx (ρ.set i (some (.dik (putD (Ue kvs k) k (.lst (xs++[d]))))))
  | _=>False
 | _=>False
theorem Qi0:∀{ρ:Env} {i:Nat} {d:D},look ρ i=some d->ρ.set i (some d)=ρ
 | [],_,_,h=>by simp [look] at h
 | a::r,0,d,h=>by simp only [look] at h;rw [h];rfl
 | a::r,i+1,d,h=>by simp only [List.set_cons_succ];rw [Qi0 (ρ:=r) (i:=i) h]
theorem Qwn {κ:Type} [DecidableEq κ] {kvs:List (κ × D)} {k:κ} (h:(kvs.map (·.1)).Nodup) (hn:valD kvs k=none):((kvs++[(k,d)]).map (·.1)).Nodup:=by
 rw [List.map_append]
 refine List.nodup_append.mpr ⟨h,by simp,λa ha b hb e=>?_⟩
 have hb':b=k:=by simpa using hb
 subst e hb'
 obtain ⟨q,hq,e⟩:=List.mem_map.mp ha
 have:(kvs.any λkv=>decide (kv.1=a))=true:=List.any_eq_true.mpr ⟨q,hq,decide_eq_true e⟩
 rw [Qfd,hn] at this
 cases this
theorem Qra {ek ev:Expr} {wk:WE} {ap1 ap2 cp1 cp2 pl:Pos} (hk:EV X T false o1 ek wk) (hv:EV X T false o2 ev wv) (ht:T.own i=true:=by rfl) (hN:X.N[i]? = some x:=by rfl)
  (hvis:Vis X.env.scope x:=by first | exact Or.inl rfl | exact Or.inr (Or.inl rfl) | exact Or.inr (Or.inr rfl)) (hd:(x == ("__debug__" : Str))=false:=by decide) (hcd:(x == ("__classdict__" : Str))=false:=by decide)
  (b1:attributeBase (.Name x p) "setdefault" X.env (eval (.Name x p) X.env)=eval (.Name x p) X.env:=by rfl)
  (f1:((backTo cp1 (starEach [ek,.List [] pl] X.env)).all (λx=>!x.1) && (backToKw cp1 (keywordEach [] X.env)).all (λx=>x.1.isSome)
   && decide (([ek,.List [] pl]:List Expr).length+([]:List Keyword).length+(if ([]:List Keyword).isEmpty then 0 else 1)<30))=true:=by rfl)
  (l1:(ap1.endLine == cp1.line)=true:=by rfl) (s1:starEach [ek,.List [] pl] X.env=(false,eval ek X.env)::starEach [.List [] pl] X.env:=by rfl) (s1':starEach [.List [] pl] X.env=(false,eval (.List [] pl) X.env)::starEach [] X.env:=by rfl) (q1:(backTo cp1 (starEach [.List [] pl] X.env)).any (·.1)=false:=by rfl)
  (b2:attributeBase (.Call (.Attribute (.Name x p) "setdefault" ap1) [ek,.List [] pl] [] cp1) "append" X.env (eval (.Call (.Attribute (.Name x p) "setdefault" ap1) [ek,.List [] pl] [] cp1) X.env)=eval (.Call (.Attribute (.Name x p) "setdefault" ap1) [ek,.List [] pl] [] cp1) X.env:=by rfl)
  (f2:((backTo cp2 (starEach [ev] X.env)).all (λx=>!x.1) && (backToKw cp2 (keywordEach [] X.env)).all (λx=>x.1.isSome)
   && decide (([ev]:List Expr).length+([]:List Keyword).length+(if ([]:List Keyword).isEmpty then 0 else 1)<30))=true:=by rfl)
  (l2:(ap2.endLine == cp2.line)=true:=by rfl) (s2:starEach [ev] X.env=(false,eval ev X.env)::starEach [] X.env:=by rfl) (q2:(backTo cp2 (starEach [] X.env)).any (·.1)=false:=by rfl)
  (hs:swapsWith (.Call (.Attribute (.Call (.Attribute (.Name x p) "setdefault" ap1) [ek,.List [] pl] [] cp1) "append" ap2) [ev] [] cp2) none pos.line X.env=pure false:=by rfl) :
  SV X T (.Expr (.Call (.Attribute (.Call (.Attribute (.Name x p) "setdefault" ap1) [ek,.List [] pl] [] cp1) "append" ap2) [ev] [] cp2) pos) (wSda i wk wv):=by
 obtain ⟨tk,pk,gk⟩:=hk
 obtain ⟨tv,pv,gv⟩:=hv
 refine ⟨_,Qeu (Qhp PySem.F.plainAttrs_list PySem.F.slot_list_append PySem.F.type_list_append Qcq (Qhp PySem.F.plainAttrs_dict PySem.F.slot_dict_setdefault PySem.F.type_dict_setdefault Qe3 (Vt hN hvis hd hcd) (Js pk (Js (Qmm Vu) Vu s1') s1) b1 f1 l1 s1 q1) (Js pv Vu s2) b2 f2 l2 s2 q2) hs,λz R σ H W ρ P E s hw l=>?_⟩
 obtain ⟨sd,hl0,hw⟩:=Qn hw
 obtain ⟨kvs,rfl⟩:∃kvs,sd=D.dik kvs:=by
  clear hl0
  cases sd with
  | dik kvs=>exact ⟨kvs,rfl⟩
  | _=>exact (show False from hw).elim
 obtain ⟨hz,hnd,hw⟩:=hw
 obtain ⟨fp,s0⟩:=id s
 obtain ⟨v0,hv0,r0⟩:=s0.at_ i _ hl0
 refine ⟨v0,hv0,Qll r0 (t:="dict") rfl,?_⟩
 refine gk z R σ H W ρ _ _ s hw λvk H1 W1 kd ρ1 Fk p q=>?_
 obtain ⟨sm1,hW1,hρ1⟩:=p.calm rfl
 subst hW1 hρ1
 obtain ⟨k,hkey,q⟩:=Qn q
 have ek:=p.rep.key hkey
 subst ek
 obtain ⟨ld,hval,q⟩:=Qn q
 obtain ⟨xs,rfl⟩:∃xs,ld=D.lst xs:=by
  clear hval
  cases ld with
  | lst xs=>exact ⟨xs,rfl⟩
  | _=>exact (show False from q).elim
 obtain ⟨hxz,q⟩:=q
 -- what is to be done with the list that comes
 have fin:∀(Hs:Hp) (Ws:Addr->Prop) (y:V),SR X.K T z R Hs Ws σ (ρ1.set i (some (.dik (Ue kvs k))))->FrW H W1 Hs Ws->((Ue kvs k).map (·.1)).Nodup->(∀a kv,v0=.ref a->Hs a=some (.dK kv)->valV kv k=some y) ->
   tyV X.K "list" y Hs/\Qu5 tv tNil σ Hs λxs H2=>Ql7 y xs H2 λ_ H1=>E.nx σ H1:=λHs Ws y ss fs hns hy=>by
  obtain ⟨fpS,sS⟩:=id ss
  have hlS:look (ρ1.set i (some (.dik (Ue kvs k)))) i=some (.dik (Ue kvs k)):=Qah (Qcs hl0)
  obtain ⟨vS,hvS,rS⟩:=sS.at_ i _ hlS
  have:vS=v0:=by rw [hv0] at hvS;cases hvS;rfl
  subst this
  obtain ⟨ndS,swS⟩:=sS.own i _ hlS ht
  have app:∃(l:Addr) (ys:List V) (a:Addr) (kvS:List (Key × V)),y=.ref l/\Hs l=some (.lst ys)/\vS=.ref a/\Hs a=some (.dK kvS):=by
   generalize fpS i=Fi at rS ndS
   cases rS with
   | @dik a kv _ F e1 r =>
    obtain ⟨na,nF⟩:=List.nodup_cons.mp ndS
    obtain ⟨l,ys,h1,h2,_⟩:=r.app nF hns hval
    have:=hy a kv rfl e1
    rw [h1] at this
    cases this
    exact ⟨l,ys,a,kv,rfl,h2,rfl,e1⟩
  obtain ⟨l0,ys0,aS,kvS,rfl,hl0',rfl,eS⟩:=app
  refine ⟨.inl ⟨rfl,_,.of hl0'⟩,?_⟩
  refine gv z R σ Hs Ws _ _ _ ss q λvd H2 W2 d ρ2 Fd pd ⟨hp,qn⟩=>?_
  obtain ⟨sm2,hW2,hρ2⟩:=pd.calm rfl
  subst hW2 hρ2
  obtain ⟨_,rd⟩:=pd.rep.pure hp
  obtain ⟨fp2,s2⟩:=id pd.sr
  obtain ⟨v2,hv2,r2⟩:=s2.at_ i _ hlS
  have:v2=.ref aS:=by rw [hvS] at hv2;cases hv2;rfl
  subst this
  obtain ⟨nd2,sw2⟩:=s2.own i _ hlS ht
  have h2l:H2 l0=some (.lst ys0):=sm2 _ _ hl0'
  have fin2:∃(ys:List V) (F':List Addr),H2 l0=some (.lst ys)/\ys.length=xs.length/\l0∈fp2 i/\Rep X.K (upd H2 l0 (.lst (ys++[vd]))) (.dik (putD (Ue kvs k) k (.lst (xs++[d])))) (.ref aS) F'/\F'=fp2 i:=by
   generalize fp2 i=Fi at r2 nd2
   cases r2 with
   | @dik a kv _ F e1 r =>
    obtain ⟨na,nF⟩:=List.nodup_cons.mp nd2
    obtain ⟨l,ys,h1,h2,h3,h4,h5⟩:=r.app nF hns hval
    have hkv:kv=kvS:=by
     have:=sm2 _ _ eS
     rw [e1] at this
     cases this
     rfl
    subst hkv
    have:=hy aS kv rfl eS
    rw [h1] at this
    cases this
    have hne:aS≠l0:=λz=>na (z ▸ h3)
    exact ⟨ys,_,h2,h4,List.mem_cons_of_mem _ h3,.dik (by rw [Qm hne];exact e1) (h5 vd d rd),rfl⟩
  obtain ⟨ys,F',h1,h2,h3,h4,rfl⟩:=fin2
  refine ⟨l0,ys,vd,rfl,rfl,h1,by rw [h2];exact hxz,?_⟩
  have hWl:=sw2 l0 h3
  have sF:=s2.write hlS ht hv2 h3 Zo ⟨_,Qj,rfl⟩ h4 nd2 (λa ha=>.inl ha)
  have fF:=(fs.trans pd.fr).write hWl (s2.wd l0 hWl) (H':=upd H2 l0 (.lst (ys++[vd]))) Zo ⟨_,Qj,rfl⟩ (F':=fp2 i) (λa ha=>.inl (sw2 a ha))
  rw [List.set_set] at sF
  exact l.nx R σ _ _ _ sF fF qn
 refine ⟨Nat.zero_le _,λpn hpn=>?_⟩
 have smn:Same H1 (upd H1 pn (.lst [])):=Qi hpn
 have sn:=p.sr.same smn
 have fn1:FrW H W1 (upd H1 pn (.lst [])) W1:=p.fr.trans (FrW.same W1 smn)
 obtain ⟨fp1,s1⟩:=id sn
 obtain ⟨v1,hv1,r1⟩:=s1.at_ i _ hl0
 have:v1=v0:=by rw [hv0] at hv1;cases hv1;rfl
 subst this
 obtain ⟨nd1,sw1⟩:=s1.own i _ hl0 ht
 have hpnW:¬W1 pn:=p.sr.nw hpn
 have hpnR:¬R pn:=p.sr.nr hpn
 have hpn0:H pn=none:=sm1.free hpn
 have rep1:∃(a:Addr) (kv:List (Key × V)) (F:List Addr),v1=.ref a/\upd H1 pn (.lst []) a=some (.dK kv)/\RepK X.K (upd H1 pn (.lst [])) kvs kv F/\fp1 i=a::F:=by
  generalize fp1 i=Fi at r1
  cases r1 with
  | @dik a kv _ F e1 r=>exact ⟨a,kv,F,rfl,e1,r,rfl⟩
 obtain ⟨a,kv,F,rfl,e1,r,hfp⟩:=rep1
 rw [hfp] at nd1 sw1
 obtain ⟨na,nF⟩:=List.nodup_cons.mp nd1
 refine ⟨a,kv,k,.ref pn,rfl,rfl,e1,by rw [r.length];exact hz,λy hy=>?_,λhn=>?_⟩
 ·have hs:(valD kvs k).isNone=false:=by
   rcases r.val k with ⟨_,h2⟩ | ⟨d,v,B,h1,_⟩
   ·rw [hy] at h2;cases h2
   ·rw [h1];rfl
  have e2:Ue kvs k=kvs:=by unfold Ue;rw [hs];rfl
  refine fin _ W1 y ?_ fn1 (by rw [e2];exact hnd) λa' kv' ea ha=>?_
  ·rw [e2,Qi0 hl0];exact sn
  ·cases ea
   rw [e1] at ha
   cases ha
   exact hy
 ·have hs:valD kvs k=none:=by
   rcases r.val k with ⟨h1,_⟩ | ⟨d,v,B,_,h2,_⟩
   ·exact h1
   ·rw [hn] at h2;cases h2
  have e2:Ue kvs k=kvs++[(k,.lst [])]:=by unfold Ue;rw [hs];rfl
  have hapn:a≠pn:=λz=>hpnW (z ▸ sw1 a List.mem_cons_self)
  have hput:=Qpg (V.ref pn) hn
  have rN:Rep X.K (upd (upd H1 pn (.lst [])) a (.dK (putK kv k (.ref pn)))) (.dik (Ue kvs k)) (.ref a) (a::(F++[pn])):=by
   rw [e2,hput]
   refine .dik Qj ((r.upd e1 rfl na).append ?_)
   have:Rep X.K (upd (upd H1 pn (.lst [])) a (.dK (kv++[(k,.ref pn)]))) (.lst []) (.ref pn) [pn]:=.lst (by rw [Qm (Ne.symm hapn),Qj]) .nil
   have:=RepK.cons (k:=k) this .nil
   simpa using this
  have ndN:(a::(F++[pn])).Nodup:=by
   refine List.nodup_cons.mpr ⟨λh=>?_,Gp nF (by simp) λb hb hf=>?_⟩
   ·rcases List.mem_append.mp h with h | h
    ·exact na h
    ·exact hapn (List.mem_singleton.mp h)
   ·rw [List.mem_singleton.mp hb] at hf
    exact hpnW (sw1 pn (List.mem_cons_of_mem _ hf))
  have hWa:=sw1 a List.mem_cons_self
  have sN:=s1.write hl0 ht hv1 (by rw [hfp];exact List.mem_cons_self) Zo ⟨_,Qj,rfl⟩ rN ndN (λb hb=>by
   rcases List.mem_cons.mp hb with rfl | hb
   ·exact .inl (by rw [hfp];exact List.mem_cons_self)
   ·rcases List.mem_append.mp hb with hb | hb
    ·exact .inl (by rw [hfp];exact List.mem_cons_of_mem _ hb)
    ·rw [List.mem_singleton.mp hb];exact .inr ⟨hpnW,hpnR⟩)
  have fN:=fn1.write (H':=upd (upd H1 pn (.lst [])) a (.dK (putK kv k (.ref pn)))) (F':=a::(F++[pn])) hWa (s1.wd a hWa) Zo ⟨_,Qj,rfl⟩ (λb hb=>by
   rcases List.mem_cons.mp hb with rfl | hb
   ·exact .inl hWa
   ·rcases List.mem_append.mp hb with hb | hb
    ·exact .inl (sw1 b (List.mem_cons_of_mem _ hb))
    ·rw [List.mem_singleton.mp hb];exact .inr hpn0)
  refine fin _ _ (.ref pn) sN fN (by rw [e2];exact Qwn hnd hs) λa' kv' ea ha=>?_
  cases ea
  rw [Qj] at ha
  cases ha
  rw [Qo5,if_pos rfl]
def Qfh (wa wb:WE):WE:=λρ Q=>wa ρ λd ρ1=>match d with
 | .bl c=>if c=true then wb ρ1 Q else Q (.bl false) ρ1
 | _=>False
def wOrV (wa wb:WE):WE:=λρ Q=>wa ρ λd ρ1=>match d with
 | .bl c=>if c=true then Q (.bl true) ρ1 else wb ρ1 Q
 | _=>False
theorem Post.after {W:Addr->Prop} {d2:D} {v1 v2:V} (p:Post K T z R m1 o1 H W σ ρ H1 W1 ρ1 d1 v1 F1) (q:Post K T z R m2 o2 H1 W1 σ ρ1 H2 W2 ρ2 d2 v2 F2) :
  Post K T z R (m1 || m2) o2 H W σ ρ H2 W2 ρ2 d2 v2 F2:=⟨q.sr,p.fr.trans q.fr,p.calm2 q,q.rep,p.lastOwn q⟩
theorem Qbd {op} (h:EV X T m o a w):EV X T m o (.BoolOp op [a] pos) w:=by
 obtain ⟨t,pt,g⟩:=h
 exact ⟨t,Qv3 pt,g⟩
theorem Qee (ha:EV X T m1 o1 a wa) (hb:EV X T m2 true (.BoolOp .And (b::rest) pos) wb):EV X T (m1 || m2) true (.BoolOp .And (a::b::rest) pos) (Qfh wa wb):=by
 obtain ⟨ta,pa,ga⟩:=ha
 obtain ⟨tb,pb,gb⟩:=hb
 refine ⟨_,Qv7 pa pb,λz R σ H W ρ Q Q' s hw k=>ga z R σ H W ρ _ _ s hw λv H1 W1 d ρ1 F p q=>?_⟩
 cases d with
 | bl c =>
  refine ⟨c,Qfs p.rep,?_⟩
  cases c with
  | true=>exact gb z R σ H1 W1 ρ1 Q Q' p.sr q λv2 H2 W2 d2 ρ2 F2 q2 hq=>k v2 H2 W2 d2 ρ2 F2 (p.after q2) hq
  | false=>exact k _ H1 W1 (.bl false) ρ1 [] ⟨p.sr,p.fr,λh=>p.calm (Bool.or_eq_false_iff.mp h).1,.bl false,λ_=>⟨List.nodup_nil,λa m=>nomatch m⟩⟩ q
 | _=>exact q.elim
theorem Qxg (ha:EV X T m1 o1 a wa) (hb:EV X T m2 true (.BoolOp .Or (b::rest) pos) wb):EV X T (m1 || m2) true (.BoolOp .Or (a::b::rest) pos) (wOrV wa wb):=by
 obtain ⟨ta,pa,ga⟩:=ha
 obtain ⟨tb,pb,gb⟩:=hb
 refine ⟨_,Qym pa pb,λz R σ H W ρ Q Q' s hw k=>ga z R σ H W ρ _ _ s hw λv H1 W1 d ρ1 F p q=>?_⟩
 cases d with
 | bl c =>
  refine ⟨c,Qfs p.rep,?_⟩
  cases c with
  | false=>exact gb z R σ H1 W1 ρ1 Q Q' p.sr q λv2 H2 W2 d2 ρ2 F2 q2 hq=>k v2 H2 W2 d2 ρ2 F2 (p.after q2) hq
  | true=>exact k _ H1 W1 (.bl true) ρ1 [] ⟨p.sr,p.fr,λh=>p.calm (Bool.or_eq_false_iff.mp h).1,.bl true,λ_=>⟨List.nodup_nil,λa m=>nomatch m⟩⟩ q
 | _=>exact q.elim
def Qsq (wa:WE):WE:=λρ Q=>wa ρ λd ρ1=>match d with
 | .bl c=>Q (.bl (!c)) ρ1
 | _=>False
theorem Qxi (ha:EV X T m o a wa):EV X T m true (.UnaryOp .Not a pos) (Qsq wa):=by
 obtain ⟨ta,pa,ga⟩:=ha
 refine ⟨_,Qv4 pa,λz R σ H W ρ Q Q' s hw k=>ga z R σ H W ρ _ _ s hw λv H1 W1 d ρ1 F p q=>?_⟩
 cases d with
 | bl c=>exact ⟨c,Qfs p.rep,k _ H1 W1 (.bl (!c)) ρ1 [] (Post.flat p.sr p.fr p.calm (.bl _)) q⟩
 | _=>exact q.elim
theorem Yf:bootBuiltins "isinstance" = some (.builtin "isinstance"):=by decide +kernel
theorem Qsh:bootBuiltins "min" = some (.builtin "min"):=by decide +kernel
theorem Zy:bootBuiltins "len" = some (.builtin "len"):=by decide +kernel
theorem Qbg:bootBuiltins "int" = some (.type "int"):=by decide +kernel
theorem Qur:bootBuiltins "bool" = some (.type "bool"):=by decide +kernel
theorem Qeh:bootBuiltins "str" = some (.type "str"):=by decide +kernel
theorem Qot:bootBuiltins "list" = some (.type "list"):=by decide +kernel
theorem Vg:bootBuiltins "tuple" = some (.type "tuple"):=by decide +kernel
def Jm (w:WE):WE:=λρ Q=>w ρ λd ρ'=>d.pure=true/\Q d ρ'
def Cal (P:Program) (w:World) (K:Frag) (mg:Str->Option Value) (base:Heap) (x:Str) (k:Nat) (ps:List Str) (sp:Sp):Prop :=
 ∃f fd,FnOk P w K mg base CX0 k f fd ps sp/\mg x=some (.ref f)/\keepIn K (.ref f)=true/\X1 K fd ps []
section
variable {k:Nat}
theorem Ju (h:EV X T m o e w):EV X T m true e (Jm w):=h.lift
theorem Qu (C:Cal X.prog X.w X.K X.mg X.base x k ps (spR X.K g)) (hr:Room k X.A) (ha:AV X T m o (e::es) wr) (hg:Gl X x:=by rfl)
  (hdb:(x == ("__debug__" : Str))=false:=by decide) (he:starEach (e::es) X.env=(false,eval e X.env)::starEach es X.env:=by rfl) (hpl:(backTo pos (starEach es X.env)).any (·.1)=false:=by rfl) :
  EV X T m true (.Call (.Name x p) (e::es) [] pos) (Ql g wr):=by
 obtain ⟨f,fd,F,h1,h2,h3⟩:=C
 exact Qui F hr h1 h2 h3 ha hg hdb he hpl
theorem Zd {g:GI} {wi:WI} (C:Cal X.prog X.w X.K X.mg X.base x k ps (spI X.K q g)) (hr:Room k X.A) (ha:AI X T m i q (e::es) wi) (ht:T.own i=true:=by rfl) (hg:Gl X x:=by rfl)
  (hdb:(x == ("__debug__" : Str))=false:=by decide) (he:starEach (e::es) X.env=(false,eval e X.env)::starEach es X.env:=by rfl) (hpl:(backTo pos (starEach es X.env)).any (·.1)=false:=by rfl) :
  EV X T true true (.Call (.Name x p) (e::es) [] pos) (Zn i g wi):=by
 obtain ⟨f,fd,F,h1,h2,h3⟩:=C
 exact Qqi F hr h1 h2 h3 ha ht hg hdb he hpl
def Qqt (sc scope:Scope) (N:List Str) (x:Str) (ix:List Nat):Bool :=
 (scope.kind == .function) && scope.names.all (λy=>y.2 != .cell) && scope.names.all (λy=>y.2 != .local || scope.names.lookup y.1 == some .local) && (scope.names.lookup x == some .local) &&
  scope.names.all (λy=>y.2 != .free || (sc.names.lookup y.1 == some .cell || sc.names.lookup y.1 == some .free)) &&
  ix.all (λi=>match N[i]? with | some y=>scope.names.lookup y == some .free | none=>false) && decide (bN N x ix).Nodup
structure CompB (X:Cx) (scope:Scope) (x:Str) (ix:List Nat):Prop where
 B:BlkScope X.env scope x
 hix:∀i∈ix,∃y,X.N[i]? = some y/\scope.names.lookup y=some .free
 hN:(bN X.N x ix).Nodup
theorem Zt (sc:Scope) (N:List Str) (h:Qqt sc scope N x ix=true) (h1:X.env.scope=sc:=by rfl) (h2:X.N=N:=by rfl):CompB X scope x ix:=by
 subst h1 h2
 simp only [Qqt,Bool.and_eq_true,List.all_eq_true,Bool.or_eq_true,decide_eq_true_eq,beq_iff_eq,bne_iff_ne] at h
 obtain ⟨⟨⟨⟨⟨⟨a1,a2⟩,a3⟩,a4⟩,a5⟩,a6⟩,a7⟩:=h
 refine ⟨⟨a1,a2,λy hy e=>(a3 y hy).resolve_left (λz=>z e),a4,λy hy e=>(a5 y hy).resolve_left (λz=>z e)⟩,λi hi=>?_,a7⟩
 have:=a6 i hi
 cases q:X.N[i]? with
 | none=>rw [q] at this;cases this
 | some y =>
  rw [q] at this
  exact ⟨y,rfl,by simpa using this⟩
theorem Xb (h:Qg4 X T m elt iter x px scope ifs ix w) (B:CompB X scope x ix) (hc:X.calm=true:=by rfl)
  (hs:∀x,foldedSetIterable iter X.env x=pure x:=by intro _;rfl):EV X T m true (.ListComp elt [⟨.Name x px,iter,ifs,0⟩] scope pos) w:=Quh h B.B B.hix B.hN hc hs
theorem Qix (h:Qg4 X T m elt iter x px scope ifs ix w) (B:CompB X scope x ix) (hNd:X.N.Nodup)
  (hj:X.N[j]? = some y:=by rfl) (hy:Loc X.env.scope y:=by first | exact Or.inl rfl | exact Or.inr rfl) (hio:j∉T.io:=by decide)
  (hsw:swapsWith (.ListComp elt [⟨.Name x px,iter,ifs,0⟩] scope pos) (some (.Name y py)) spos.line X.env=pure true:=by rfl)
  (hf:X.fn y=true\/X.env.scope.names.lookup y=some .local:=by first | exact .inl rfl | exact .inr rfl | assumption) (hc:X.calm=true:=by rfl)
  (hs:∀x,foldedSetIterable iter X.env x=pure x:=by intro _;rfl):SV X T (.Assign [.Name y py] (.ListComp elt [⟨.Name x px,iter,ifs,0⟩] scope pos) spos) (wSet j w):=Qsz h B.B hNd B.hix B.hN hj hy hio hsw hf hc hs
end
def kD:Key->D
 | .inl i=>.int i
 | .inr x=>.str x
theorem Qvi (k:Key):Rep K H (kD k) (kV k) []:=by
 cases k with
 | inl i=>exact .int i
 | inr x=>exact .str x
def Y9:G2
 | .int i,.int j,k=>k (.int (i+j))
 | .str x,.str y,k=>x.length+y.length<=sizeLine/\k (.str (x++y))
 | .tup xs,.tup ys,k=>Qo xs=true/\Qo ys=true/\xs.length+ys.length<=sizeLine/\k (.tup (xs++ys))
 | .lst xs,.lst ys,k=>Qo xs=true/\Qo ys=true/\xs.length+ys.length<=sizeLine/\k (.lst (xs++ys))
 | _,_,_=>False
theorem Qq2 {a b:D} (g:Y9 a b k):(∃i j,a=.int i/\b=.int j)\/(∃i j,a=.str i/\b=.str j)\/(∃i j,a=.lst i/\b=.lst j)\/∃i j,a=.tup i/\b=.tup j:=by
 cases a with
 | int i=>cases b with
  | int j=>exact .inl ⟨i,j,rfl,rfl⟩
  | _=>exact (show False from g).elim
 | str i=>cases b with
  | str j=>exact .inr (.inl ⟨i,j,rfl,rfl⟩)
  | _=>exact (show False from g).elim
 | lst i=>cases b with
  | lst j=>exact .inr (.inr (.inl ⟨i,j,rfl,rfl⟩))
  | _=>exact (show False from g).elim
 | tup i=>cases b with
  | tup j=>exact .inr (.inr (.inr ⟨i,j,rfl,rfl⟩))
  | _=>cases i <;> exact (show False from g).elim
 | _=>exact (show False from g).elim
theorem Jp:OpD X (binaryOp .Add) Y9:=by
 obtain ⟨r0,o0,g0⟩:=Qwk (X:=X)
 refine ⟨_,OpR.or Qtw o0,λH a b x y F1 F2 k Q ra rb g q=>?_⟩
 rcases Qq2 g with ⟨i,j,rfl,rfl⟩ | ⟨i,j,rfl,rfl⟩ | ⟨i,j,rfl,rfl⟩ | ⟨i,ys,rfl,rfl⟩
 ·exact .inr (g0 H _ _ x y F1 F2 k Q ra rb g q)
 ·exact .inr (g0 H _ _ x y F1 F2 k Q ra rb g q)
 ·exact .inr (g0 H _ _ x y F1 F2 k Q ra rb g q)
 ·cases i with
  | nil =>
   cases ra with
   | @tup p _ _ _ e1 r1 =>
    cases r1
    cases rb with
    | @tup p' us _ _ e2 r2=>exact .inl ⟨p,p',us,rfl,rfl,.of e1,.of e2,q _ _ _ _ (.flat (.tup e2 (r2.pure g.2.1).2)) g.2.2.2⟩
  | cons d xs=>exact .inr (g0 H _ _ x y F1 F2 k Q ra rb ⟨g.1,g.2.1,by simp,g.2.2⟩ q)
def dSlT:D->Option Int->Option Int->(D->Prop)->Prop
 | .lst xs,lo,hi,k=>Qo xs=true/\k (.lst (cutD xs lo hi))
 | .kls xs,lo,hi,k=>Qo xs=true/\k (.lst (cutD xs lo hi))
 | .tup xs,lo,hi,k=>Qo xs=true/\k (.tup (cutD xs lo hi))
 | _,_,_,_=>False
theorem Qs3 (g:dSlT d lo hi k):(∃ds,d=.lst ds)\/(∃ds,d=.kls ds)\/∃ds,d=.tup ds:=by
 cases d with
 | lst ds=>exact .inl ⟨ds,rfl⟩
 | kls ds=>exact .inr (.inl ⟨ds,rfl⟩)
 | tup ds=>exact .inr (.inr ⟨ds,rfl⟩)
 | _=>exact (show False from g).elim
theorem Qs2:SlR X (λx lo hi H Q=>(rSlL X.K x lo hi H Q\/rSlT X.K x lo hi H Q)\/rSlW X.K x lo hi H Q):=SlR.or Qvc Qs0
def wSlT (w:WE) (wl wh:WO):WE:=λρ Q=>w ρ λd ρ1=>wl ρ1 λlo ρ2=>wh ρ2 λhi ρ3=>dSlT d lo hi λd'=>Q d' ρ3
theorem Qoc (h:HT.sIx xs.length 0 lo=0/\HT.sIx xs.length xs.length hi=xs.length):cutD xs lo hi=xs:=by
 unfold cutD
 rw [h.1,h.2]
 simp
theorem Qxf {lo hi:Option Expr} {wl wh:WO} (he:EV X T m1 o1 e w) (hl:OV X T m2 lo wl) (hh:OV X T m3 hi wh) (hc:o1=true\/(m2 || m3)=false:=by first | exact .inl rfl | exact .inr rfl) :
  EV X T (m1 || (m2 || m3)) true (.Subscript e (.Slice lo hi none p2) pos) (wSlT w wl wh):=by
 obtain ⟨te,pe,ge⟩:=he
 obtain ⟨tl,pl,gl⟩:=hl
 obtain ⟨th,ph,gh⟩:=hh
 refine ⟨_,Qpp Qs2 pe pl ph,λz R σ H W ρ Q Q' s hw k=>?_⟩
 refine ge z R σ H W ρ _ _ s hw λv H1 W1 d ρ1 F p q=>?_
 refine gl z R σ H1 W1 ρ1 _ _ p.sr q λlo H2 W2 ρ2 p2 q2=>?_
 refine gh z R σ H2 W2 ρ2 _ _ p2.sr q2 λhi H3 W3 ρ3 p3 q3=>?_
 have pp:=p2.seq p3
 have r3:Rep X.K H3 d v F:=by
  rcases hc with hc | hc
  ·exact p.rep.keep pp.fr λa h=>((p.own hc).2 a h).2
  ·exact p.rep.same (pp.calm hc).1
 have fin:∀ad d' v' Fn,Fin X.K H3 ad d' v' Fn->Q d' ρ3->Q' v' ad:=λH' d' v' F' fi hq=>by
  refine k v' H' W3 d' ρ3 F' (Post.fin p3.sr (p.fr.trans pp.fr) (λh=>?_) fi.same fi.rep fi.nd fi.new) hq
  rw [Bool.or_eq_false_iff] at h
  obtain ⟨a1,a2,a3⟩:=p.calm h.1
  obtain ⟨b1,b2,b3⟩:=pp.calm h.2
  exact ⟨a1.trans b1,b2.trans a2,b3.trans a3⟩
 have q4:dSlT d lo hi λd'=>Q d' ρ3:=q3
 clear q3
 rcases Qs3 q4 with ⟨ds,rfl⟩ | ⟨ds,rfl⟩ | ⟨ds,rfl⟩
 ·have q3:=q4
  cases r3 with
  | @lst a xs _ F e1 r9 =>
   obtain ⟨hp,hq⟩:=q3
   obtain ⟨_,r9⟩:=r9.pure hp
   exact .inl (.inl ⟨a,xs,rfl,.of e1,λl hl=>fin _ _ _ [l] ⟨Qi hl,.lst Qj (r9.cut.same (Qi hl)),by simp,λb m=>by rw [List.mem_singleton.mp m];exact hl⟩ hq⟩)
 ·have q3:=q4
  cases r3 with
  | @kls a xs _ e1 r9 =>
   obtain ⟨hp,hq⟩:=q3
   exact .inl (.inl ⟨a,xs,rfl,e1.sq,λl hl=>fin _ _ _ [l] ⟨Qi hl,.lst Qj (r9.cut.same (Qi hl)),by simp,λb m=>by rw [List.mem_singleton.mp m];exact hl⟩ hq⟩)
 ·have q3:=q4
  cases r3 with
  | @tup a xs _ F e1 r9 =>
   obtain ⟨hp,hq⟩:=q3
   obtain ⟨_,r9⟩:=r9.pure hp
   by_cases hn:HT.sIx ds.length 0 lo=0/\HT.sIx ds.length ds.length hi=ds.length
   ·rw [Qoc hn] at hq
    exact .inr ⟨a,xs,rfl,.of e1,by rw [r9.length];exact hn,fin _ _ _ [] (.flat (.tup e1 r9)) hq⟩
   ·exact .inl (.inr ⟨a,xs,rfl,.of e1,by rw [r9.length];exact hn,λl hl=>fin _ _ _ [] ⟨Qi hl,.tup Qj (r9.cut.same (Qi hl)),by simp,λb m=>nomatch m⟩ hq⟩)
def Qq7:WS:=λ_ _=>False
theorem Qpa:SV X T st Qq7:=⟨λ_ _ _=>False,λpins s σ H D I h=>h.elim,λz R σ H W ρ P E s hw l=>hw.elim⟩
section
variable {we:WE}
def TB (q:Nat):Tg:={ own:=λi=>i == q,io:=[q] }
def Qo4 (i:Nat) (g:G2) (wb:WE):WE:=λρ Q=>oget (look ρ i) λd1=>wb ρ λd2 ρ2=>look ρ2 i=some d1/\g d1 d2 λd=>Q d ρ2
theorem Qxh {op:Operator} {g:G2} (ho:OpD X (binaryOp op) g) (hb:EV X T m2 o2 b wb) (hN:X.N[i]? = some x:=by rfl) (hv:Vis X.env.scope x:=by first | exact Or.inl rfl | exact Or.inr (Or.inl rfl) | exact Or.inr (Or.inr rfl))
  (hd:(x == ("__debug__" : Str))=false:=by decide) (hcd:(x == ("__classdict__" : Str))=false:=by decide):EV X T m2 true (.BinOp (.Name x p) op b pos) (Qo4 i g wb):=by
 obtain ⟨r,ro,gr⟩:=ho
 obtain ⟨tb,pb,gb⟩:=hb
 refine ⟨_,Qv2 ro (Vt hN hv hd hcd) pb,λz R σ H W ρ Q Q' s hw k=>?_⟩
 obtain ⟨d1,hl,hw⟩:=Qn hw
 obtain ⟨fp,s0⟩:=id s
 obtain ⟨v,h1,h2⟩:=s0.at_ i d1 hl
 refine ⟨v,h1,gb z R σ H W ρ _ _ s hw λv2 H2 W2 d2 ρ2 F2 q q2=>?_⟩
 obtain ⟨hl2,q2⟩:=q2
 obtain ⟨fp2,s2⟩:=id q.sr
 obtain ⟨v',h3,h4⟩:=s2.at_ i d1 hl2
 have:v'=v:=by rw [h1] at h3;cases h3;rfl
 subst this
 exact gr H2 d1 d2 v' v2 (fp2 i) F2 _ Q' h4 q.rep q2 λu H' d F fi hk=>k u H' W2 d ρ2 F (Post.fin q.sr q.fr q.calm fi.same fi.rep fi.nd fi.new) hk
def dAll:GA
 | [.lst ds],k=>∃bs:List Bool,ds=bs.map D.bl/\k (.bl (bs.all id))
 | _,_=>False
theorem Reps.of_bls {K:Frag} {H:Hp}:∀{bs:List Bool} {xs:List V} {F:List Addr},Reps K H (bs.map D.bl) xs F->xs=bs.map V.bl
 | [],_,_,r=>by cases r;rfl
 | b::bs,_,_,r=>by
  cases r with
  | cons h r=>cases h;rw [Reps.of_bls r];rfl
theorem Qoj (hc:X.calm=true):Qbo X (.builtin "all") dAll:=by
 refine ⟨_,Qqx hc,λH ds xs F k Q r g q=>?_⟩
 cases ds with
 | nil=>exact (show False from g).elim
 | cons d ds =>
  cases ds with
  | cons _ _=>cases d <;> exact (show False from g).elim
  | nil =>
   cases d with
   | lst es =>
    obtain ⟨v,rfl,rd⟩:=r.at1
    obtain ⟨bs,rfl,g⟩:=g
    cases rd with
    | lst e r9 =>
    have:=r9.of_bls
    subst this
    exact ⟨_,bs,rfl,e,q _ _ _ _ (.flat (.bl _)) g⟩
   | _=>exact (show False from g).elim
def Xy (ρ:Env) (d1 d2:D) (ix:List Nat):Env:=some d1::some d2::ix.map (look ρ)
def two2 (d:D) (k:D->D->Prop):Prop:=match d with
 | .tup [a,b]=>k a b
 | .kc (.tup [a,b])=>k (kcD a) (kcD b)
 | _=>False
theorem two2_rep {k:D->D->Prop} (r:Rep K H d v F) (q:two2 d k):∃av v1 v2 d1 d2 F1 F2,v=.ref av/\SqT K H av [v1,v2]/\Rep K H d1 v1 F1/\Rep K H d2 v2 F2/\k d1 d2:=by
 cases r with
 | @tup a xs ds F e r =>
  match ds,r,q with
  | [d1,d2],r,q =>
   obtain ⟨v1,v2,F1,F2,rfl,r1,r2⟩:=r.at2
   exact ⟨a,v1,v2,d1,d2,F1,F2,rfl,.of e,r1,r2,q⟩
 | @kc c v h =>
  match c,h,q with
  | .tup [d1,d2],h,q =>
   obtain ⟨a,xs,rfl,hs,ar⟩:=h.sqT
   have r:Reps K H [kcD d1,kcD d2] xs []:=ar.reps
   obtain ⟨v1,v2,F1,F2,rfl,r1,r2⟩:=r.at2
   exact ⟨a,v1,v2,kcD d1,kcD d2,F1,F2,rfl,hs H,r1,r2,q⟩
 | _=>exact (show False from q).elim
def Qse (ds:List D) (wt:WT) (we:WE) (ρ1:Env) (ix:List Nat) (Q:D->Env->Prop):Prop:=∃I:Nat->List D->Prop,I 0 [] /\
 (∀i d ys,ds[i]? = some d->I i ys->ys.length<sizeLine/\two2 d λd1 d2=>wt (Xy ρ1 d1 d2 ix) λb _=>if b=true then we (Xy ρ1 d1 d2 ix) (λy _=>I (i+1) (ys++[y])) else I (i+1) ys) /\
 ∀ys,I ds.length ys->ys.length<=sizeLine/\Q (.lst ys) ρ1
def Qdt (wl:WL) (wt:WT) (we:WE) (ix:List Nat):WE:=λρ Q=>wl ρ λds ρ1=>Qse ds wt we ρ1 ix Q
def Qoz (X:Cx) (T:Tg) (m:Bool) (elt iter tg:Expr) (ts:List Str) (gt:TG) (scope:Scope) (ifs:List Expr) (ix:List Nat) (w:WE):Prop :=
 ∃(wi:TI) (tt:TT) (te:TE),PI X tg iter wi/\(∀cl C s₀ H₀ fp,PIfs (Yn X scope cl C (bN2 X.N ts ix) s₀ H₀ fp) ifs tt)/\(∀cl C s₀ H₀ fp,PE (Yn X scope cl C (bN2 X.N ts ix) s₀ H₀ fp) elt te) /\
  ∀(z:Nat->V) (R:Addr->Prop) (σ:St) (H:Hp) (W:Addr->Prop) (ρ:Env) (Q:D->Env->Prop) (Q':VK),SR X.K T z R H W σ ρ->w ρ Q ->
   (∀v H' W' d ρ' F,Post X.K T z R m true H W σ ρ H' W' ρ' d v F->Q d ρ'->Q' v H')->Qlq ts wi gt tt te ix σ H Q'
theorem Qou:bootBuiltins "all" = some (.builtin "all"):=by decide +kernel
def g2 (K:Frag):TG:=gTup K 2 (Qua (Qdi 0) (Qua (Qdi 1) gNil))
theorem Qjz (ix:List Nat) (hi:IV X T m pr (.Tuple [.Name x px,.Name y py] kt pt) iter wl)
  (ht:∀cl C s₀ H₀ fp,CV (Yn X scope cl C (bN2 X.N [x,y] ix) s₀ H₀ fp) ifs wt) (he:∀cl C s₀ H₀ fp,EV (Yn X scope cl C (bN2 X.N [x,y] ix) s₀ H₀ fp) TR false true elt we) :
  Qoz X T m elt iter (.Tuple [.Name x px,.Name y py] kt pt) [x,y] (g2 X.K) scope ifs ix (Qdt wl wt we ix):=by
 obtain ⟨wi,pi,gi⟩:=hi
 refine ⟨wi,λσ H Q=>∀cl C s₀ H₀ fp,Classical.choose (ht cl C s₀ H₀ fp) σ H Q,λσ H Q=>∀cl C s₀ H₀ fp,Classical.choose (he cl C s₀ H₀ fp) σ H Q,pi,
  λcl C s₀ H₀ fp pins s σ H Q I h=>(Classical.choose_spec (ht cl C s₀ H₀ fp)).1 pins s σ H Q I (h cl C s₀ H₀ fp),λcl C s₀ H₀ fp pins s σ H Q I h=>(Classical.choose_spec (he cl C s₀ H₀ fp)).1 pins s σ H Q I (h cl C s₀ H₀ fp),?_⟩
 intro z R σ H W ρ Q Q' s hw k
 refine gi z R σ H W ρ _ _ s hw λJ H1 W1 ds ρ1 p jd q=>?_
 obtain ⟨I,h0,hI,hd⟩:=q
 refine ⟨λi n ys H2=>n=ds.length-i/\i<=ds.length/\Same H1 H2/\∃es F,Reps X.K H2 es ys F/\F.Nodup/\(∀a∈F,H1 a=none)/\I i es,ds.length,⟨by simp,Nat.zero_le _,Same.refl _,[],[],.nil,List.nodup_nil,(λa m=>(nomatch m)),h0⟩,?_⟩
 rintro i n ys H2 ⟨rfl,hi,sm,es,F,re,nd,nw,i2⟩
 obtain ⟨j1,j2⟩:=jd i H2 (wz pr W1) (FrW.same _ sm)
 by_cases hlt:i<ds.length
 ·have hdi:ds[i]? = some ds[i]:=List.getElem?_eq_getElem hlt
  obtain ⟨hgo,hy⟩:=j2 _ hdi
  obtain ⟨hz,q1⟩:=hI i _ es hdi i2
  refine .inr ⟨hgo,by rw [re.length];exact hz,λv H3 yl o ol=>?_⟩
  obtain ⟨sm3,Fv,rv,_⟩:=hy v H3 yl
  generalize ds[i]=dd at q1 rv
  obtain ⟨av,v1,v2,d1,d2,F1,F2,rfl,ev,r1,r2,q1⟩:=two2_rep rv q1
  ··refine ⟨av,[v1,v2],rfl,ev,rfl,v1,[v2],rfl,v2,[],rfl,rfl,[some v1,some v2],?_,rfl,?_⟩
    ·match o,ol with
     | [o1,o2],_=>rfl
    have srB:∀z',SR X.K TR z' (Any H3) H3 (λ_=>False) (((bS2 σ o ix).set 0 (some v1)).set 1 (some v2)) (Xy ρ1 d1 d2 ix):=λz'=>by
     have eS:((bS2 σ o ix).set 0 (some v1)).set 1 (some v2)=bS2 σ [some v1,some v2] ix:=by
      match o,ol with
      | [o1,o2],_=>rfl
     rw [eS]
     refine SR.readonly rfl (by simp [bS2,Xy]) λj d hj=>⟨rfl,?_⟩
     match j with
     | 0 =>
      simp only [Xy,look,Option.some.injEq] at hj
      subst hj
      exact ⟨v1,F1,rfl,r1⟩
     | 1 =>
      simp only [Xy,look,Option.some.injEq] at hj
      subst hj
      exact ⟨v2,F2,rfl,r2⟩
     | j+2 =>
      have hj':look (ix.map (look ρ1)) j=some d:=hj
      rw [Qe4] at hj'
      cases hx:ix[j]? with
      | none=>rw [hx] at hj';cases hj'
      | some q =>
       rw [hx] at hj'
       obtain ⟨fp,s1⟩:=(p.sr.same sm).same sm3
       obtain ⟨u,hu,ru⟩:=s1.at_ q d hj'
       refine ⟨u,fp q,?_,ru⟩
       show (ix.map λi=>(σ[i]?).getD none)[j]? = some (some u)
       rw [List.getElem?_map,hx]
       simp [hu]
    intro cl C s₀ H₀ fp
    refine (Classical.choose_spec (ht cl C s₀ H₀ fp)).2 (λ_=>.non) (Any H3) _ H3 (λ_=>False) (Xy ρ1 d1 d2 ix) _ _ (srB _) q1 λbb H4 W4 ρ4 p4 q4=>?_
    obtain ⟨sm4,hW4,hρ4⟩:=p4.calm rfl
    have re4:=((re.same sm3).same sm4)
    cases bb with
    | false=>exact ⟨ds.length-(i+1),by omega,rfl,hlt,(sm.trans sm3).trans sm4,es,F,re4,nd,nw,q4⟩
    | true =>
     show if true=true then _ else _
     rw [if_pos rfl]
     intro cl C s₀ H₀ fp
     refine (Classical.choose_spec (he cl C s₀ H₀ fp)).2 (λ_=>.non) (Any H3) _ H4 W4 (Xy ρ1 d1 d2 ix) _ _ (hρ4 ▸ p4.sr) (by simpa using q4) λu H5 W5 y ρ5 Fy p5 q5=>?_
     obtain ⟨sm5,_,_⟩:=p5.calm rfl
     obtain ⟨ny,ky⟩:=p5.own rfl
     have sm15:Same H1 H5:=((sm.trans sm3).trans sm4).trans sm5
     refine ⟨ds.length-(i+1),by omega,rfl,hlt,sm15,es++[y],F++Fy,(re4.same sm5).snoc p5.rep,Gp nd ny λa ha hf=>?_,λa ha=>?_,q5⟩
     ·obtain ⟨ob,e1,_⟩:=re4.dom a hf
      rw [(ky a ha).1] at e1;cases e1
     ·rcases List.mem_append.mp ha with ha | ha
      ·exact nw a ha
      ·exact ((sm.trans sm3).trans sm4).free (ky a ha).1
 ·have e:i=ds.length:=by omega
  subst e
  obtain ⟨hz,q1⟩:=hd es i2
  refine .inl ⟨j1 (Nat.le_refl _),by rw [re.length];exact hz,λl hl=>?_⟩
  have hl1:H1 l=none:=sm.free hl
  refine k _ _ W1 (.lst es) ρ1 (l::F) ⟨(p.sr.same sm).same (Qi hl),(p.fr.trans (FrW.same W1 sm)).trans (FrW.same W1 (Qi hl)),λh=>⟨((p.calm h).1.trans sm).trans (Qi hl),(p.calm h).2⟩,.lst Qj (re.same (Qi hl)),λ_=>⟨List.nodup_cons.mpr ⟨λh=>?_,nd⟩,λb hb=>?_⟩⟩ q1
  ·obtain ⟨ob,e1,_⟩:=re.dom l h
   rw [hl] at e1;cases e1
  ·rcases List.mem_cons.mp hb with rfl | hb
   ·exact ⟨p.fr.dom _ hl1,p.sr.nw hl1⟩
   ·exact ⟨p.fr.dom _ (nw b hb),p.sr.nw (nw b hb)⟩
structure CompB2 (X:Cx) (scope:Scope) (x y:Str) (ix:List Nat):Prop where
 B1:CompB X scope x ix
 B2:CompB X scope y ix
 nd:(bN2 X.N [x,y] ix).Nodup
theorem Qgm (sc:Scope) (N:List Str) (h:(Qqt sc scope N x ix && Qqt sc scope N y ix && decide (bN2 N [x,y] ix).Nodup)=true) (h1:X.env.scope=sc:=by rfl) (h2:X.N=N:=by rfl):CompB2 X scope x y ix:=by
 simp only [Bool.and_eq_true,decide_eq_true_eq] at h
 exact ⟨Zt sc N h.1.1 h1 h2,Zt sc N h.1.2 h1 h2,by rw [h2];exact h.2⟩
theorem pg2 (B:CompB2 X scope x y ix) (hc:X.calm=true) (cl:List (Str × Addr)) (C:Addr) (s₀:Shared) (H₀:Hp) (fp:List Addr) :
  PG (Yn X scope cl C (bN2 X.N [x,y] ix) s₀ H₀ fp) (.Tuple [.Name x px,.Name y py] kt pt) (g2 X.K):=by
 have l1:(Yn X scope cl C (bN2 X.N [x,y] ix) s₀ H₀ fp).env.scope.names.lookup x=some .local:=lookup_relabel_local B.B1.B.lx
 have l2:(Yn X scope cl C (bN2 X.N [x,y] ix) s₀ H₀ fp).env.scope.names.lookup y=some .local:=lookup_relabel_local B.B2.B.lx
 exact Qro hc (Qew (Qcl (i:=0) B.nd rfl (.inl l1) (.inr l1)) (Qew (Qcl (i:=1) B.nd rfl (.inl l2) (.inr l2)) Qmk))
end
end PV
variable {v:PySem.Str} {g:Array PySem.GenState} {oe:PySem.Expr}
namespace PV
open PySem PySem.Spec L2
open Builtin.Str (glued tooLong)
def Qea (kvs:List (Key × D)):List D:=kvs.map λkv=>.tup [kD kv.1,kv.2]
def Qnf (d:D) (k:List D->Prop):Prop:=match d with
 | .dik kvs=>k (Qea kvs)
 | _=>False
def Qli (w:WE):WL:=λρ Q=>w ρ λd ρ'=>Qnf d λds=>Q ds ρ'
theorem Qp8 (h:EV X T m true oe w) (hbase:attributeBase oe "items" X.env (eval oe X.env)=eval oe X.env:=by rfl) (hline:(apos.endLine == cpos.line)=true:=by rfl):IV X T m true (.Tuple ts kt pt) (.Call (.Attribute oe "items" apos) [] [] cpos) (Qli w):=by
 obtain ⟨te,pe,ge⟩:=h
 refine ⟨_,Qpn pe hbase hline,λz R σ H W ρ Q RR s hw k=>?_⟩
 refine ge z R σ H W ρ _ _ s hw λv H1 W1 d ρ1 F p q=>?_
 obtain ⟨es,rfl⟩:∃es,d=D.dik es:=by
  clear p
  cases d with
  | dik es=>exact ⟨es,rfl⟩
  | _=>exact (show False from q).elim
 obtain ⟨p1,p2,p3,p4,p5⟩:=p
 obtain ⟨nd,kF⟩:=p5 rfl
 cases p4 with
 | @dik dd kvs _ F e1 r =>
  have hd0:=kF dd List.mem_cons_self
  obtain ⟨nF,ndF⟩:=List.nodup_cons.mp nd
  refine ⟨dd,kvs,rfl,e1,λob=>k _ _ W1 (Qea es) ρ1 ⟨?_,?_,λh=>?_⟩ ?_ q⟩
  ·-- the state: nobody's address
   obtain ⟨fp,s1⟩:=p1
   have hi:ImmK H1 (upd H1 dd (.frz ob (.dK kvs))):=Qay e1 rfl
   refine ⟨fp,s1.len,λa ha=>?_,λi d hl=>?_,s1.own,s1.ro,s1.wr,λa ha=>?_,s1.dis,s1.fix⟩
   ·have:a≠dd:=λz=>hd0.2 (z ▸ ha)
    rw [Qm this];exact s1.wd a ha
   ·obtain ⟨u,h1,h2⟩:=s1.at_ i d hl
    refine ⟨u,h1,h2.frame hi λa ha=>Qm λz=>?_⟩
    subst z
    cases hto:T.own i with
    | true=>exact hd0.2 ((s1.own i d hl hto).2 _ ha)
    | false=>exact s.nr hd0.1 (s1.ro i d hl hto _ ha)
   ·have:a≠dd:=λz=>s.nr hd0.1 (z ▸ ha)
    rw [Qm this];exact s1.rd a ha
  ·refine ⟨λb u e n=>?_,λb e=>?_,λb u e im=>?_,p2.new⟩
   ·have:b≠dd:=λz=>by rw [z,hd0.1] at e;cases e
    rw [Qm this];exact p2.keep b u e n
   ·by_cases hb:b=dd
    ·rw [hb,Qj] at e;cases e
    ·rw [Qm hb] at e;exact p2.dom b e
   ·have:b≠dd:=λz=>by rw [z,hd0.1] at e;cases e
    rw [Qm this];exact p2.imm b u e im
  ·obtain ⟨a1,a2,a3⟩:=p3 h
   refine ⟨λb u e=>?_,a2,a3⟩
   have:b≠dd:=λz=>by rw [z,hd0.1] at e;cases e
   rw [Qm this];exact a1 b u e
  ·rw [Qg5]
   intro i H2 W2 f
   have e2:H2 dd=some (.frz ob (.dK kvs)):=f.imm _ _ Qj rfl
   have hlen:kvs.length=es.length:=r.length
   refine ⟨λhi=>⟨e2,by unfold Qea at hi;rw [List.length_map] at hi;omega⟩,λd hd=>?_⟩
   unfold Qea at hd
   have hi:i<es.length:=by have:=(List.getElem?_eq_some_iff.mp hd).1;rwa [List.length_map] at this
   refine ⟨⟨e2,by omega⟩,λv H3 y=>?_⟩
   obtain ⟨kk,yy,pp,hk,rfl,hp,rfl⟩:=y
   obtain ⟨d',B,h1,h2,h3⟩:=r.get hk
   rw [List.getElem?_map,h1] at hd
   cases hd
   have hB:∀a∈B,¬W1 a:=λa ha=>(kF a (List.mem_cons_of_mem _ (h3.subset ha))).2
   have hBd:dd∉B:=λhb=>nF (h3.subset hb)
   have h2':=(h2.upd (ob':=.frz ob (.dK kvs)) e1 rfl hBd)
   have h2'':=h2'.keep f hB
   refine ⟨Qi hp,[]++(B++[]),.tup Qj (.cons (Qvi kk) (.cons (h2''.same (Qi hp)) .nil)),λa ha hw=>?_⟩
   have ha:a∈B:=by simpa using ha
   rcases f.new a hw with h | h
   ·exact hB a ha h
   ·obtain ⟨ob,e3,_⟩:=h2'.dom a ha
    rw [h] at e3;cases e3
theorem Qiy {pv:Pos} (h:Qoz X T m elt iter (.Tuple [.Name x px,.Name y py] kt pt) [x,y] (g2 X.K) scope ifs ix w) (B:CompB2 X scope x y ix) (hNd:X.N.Nodup)
  (hj:X.N[j]? = some v:=by rfl) (hy:Loc X.env.scope v:=by first | exact Or.inl rfl | exact Or.inr rfl) (hio:j∉T.io:=by decide)
  (hsw:swapsWith (.ListComp elt [⟨.Tuple [.Name x px,.Name y py] kt pt,iter,ifs,0⟩] scope pos) (some (.Name v pv)) spos.line X.env=pure true:=by rfl)
  (hf:X.fn v=true\/X.env.scope.names.lookup v=some .local:=by first | exact .inl rfl | exact .inr rfl | assumption) (hc:X.calm=true:=by rfl)
  (hs:∀x,foldedSetIterable iter X.env x=pure x:=by intro _;rfl):SV X T (.Assign [.Name v pv] (.ListComp elt [⟨.Tuple [.Name x px,.Name y py] kt pt,iter,ifs,0⟩] scope pos) spos) (wSet j w):=by
 obtain ⟨wi,tt,te,h1,h2,h3,h4⟩:=h
 exact Qls ⟨_,Qpj ix hc B.B1.B hNd hj hy hsw B.B1.hix B.nd h1 (pg2 B hc) h2 h3 hf hs,h4⟩ hio
def dStr:GA
 | [.int i],k=>i.natAbs.log2<1920/\k (.str (toString i))
 | _,_=>False
theorem Qgp:Qbo X (.type "str") dStr:=by
 refine ⟨_,Qgr,λH ds xs F k Q r g q=>?_⟩
 cases ds with
 | nil=>exact (show False from g).elim
 | cons d ds =>
  cases ds with
  | cons _ _=>cases d <;> exact (show False from g).elim
  | nil =>
   cases d with
   | int i =>
    obtain ⟨v,rfl,rd⟩:=r.at1
    cases rd
    exact ⟨_,rfl,g.1,q _ _ _ _ (.flat (.str _)) g.2⟩
   | _=>exact (show False from g).elim
def Qia:GA
 | [.str x],k=>oget (PySem.intText? x) λn=>x.length<=640/\k (.int n)
 | _,_=>False
theorem Qc5:Qbo X (.type "int") Qia:=by
 refine ⟨_,Qop,λH ds xs F k Q r g q=>?_⟩
 cases ds with
 | nil=>exact (show False from g).elim
 | cons d ds =>
  cases ds with
  | cons _ _=>cases d <;> exact (show False from g).elim
  | nil =>
   cases d with
   | str x =>
    obtain ⟨v,rfl,rd⟩:=r.at1
    obtain ⟨n,hn,hl,g⟩:=Qn g
    cases rd
    exact ⟨_,n,rfl,hn,hl,q _ _ _ _ (.flat (.int _)) g⟩
   | _=>exact (show False from g).elim
theorem Reps.of_strs {K:Frag} {H:Hp}:∀{ws:List Str} {xs:List V} {F:List Addr},Reps K H (ws.map D.str) xs F->xs=ws.map V.str
 | [],_,_,r=>by cases r;rfl
 | b::bs,_,_,r=>by
  cases r with
  | cons h r=>cases h;rw [Reps.of_strs r];rfl
theorem Reps.strs {K:Frag} {H:Hp}:∀(ws:List Str),Reps K H (ws.map D.str) (ws.map V.str) []
 | []=>.nil
 | w::ws=>.cons (F:=[]) (G:=[]) (.str w) (Reps.strs ws)
abbrev GS:=Str->List D->(D->Prop)->Prop
def MsD (X:Cx) (id:String) (g:GS):Prop :=
 ∃r,MtR X id r/\∀(H:Hp) (y:Str) (ds:List D) (xs:List V) (F:List Addr) (k:D->Prop) (Q:VK),Reps X.K H ds xs F->g y ds k->(∀v H' d F',Fin X.K H H' d v F'->k d->Q v H')->r (.str y) xs H Q
def Qu9 (d:D) (k:Str->Prop):Prop:=match d with
 | .str y=>k y
 | _=>False
def wMs (g:GS) (w:WE) (wr:WA):WE:=λρ Q=>w ρ λd ρ1=>Qu9 d λy=>wr ρ1 λds ρ2=>g y ds λr=>Q r ρ2
theorem Quf {g:GS} {id:String} (hm:MsD X id g) (slot:Slot "str" name id) (hty:typeOf (.builtin id)=pure (.type "method_descriptor")) (ho:EV X T m1 o1 oe w) (ha:AV X T m2 o2 (e::es) wr)
  (hbase:attributeBase oe name X.env (eval oe X.env)=eval oe X.env:=by rfl)
  (hfew:((backTo cpos (starEach (e::es) X.env)).all (λx=>!x.1) && (backToKw cpos (keywordEach [] X.env)).all (λx=>x.1.isSome)
   && decide ((e::es).length+([]:List Keyword).length+(if ([]:List Keyword).isEmpty then 0 else 1)<30))=true:=by rfl)
  (hline:(apos.endLine == cpos.line)=true:=by rfl) (hs:starEach (e::es) X.env=(false,eval e X.env)::starEach es X.env:=by rfl) (hplain:(backTo cpos (starEach es X.env)).any (·.1)=false:=by rfl) :
  EV X T (m1 || m2) true (.Call (.Attribute oe name apos) (e::es) [] cpos) (wMs g w wr):=by
 obtain ⟨r,mr,gr⟩:=hm
 obtain ⟨te,pe,ge⟩:=ho
 obtain ⟨ta,pa,ga⟩:=ha
 refine ⟨_,Qhp PySem.F.plainAttrs_str slot hty mr pe pa hbase hfew hline hs hplain,λz R σ H W ρ Q Q' s hw k=>?_⟩
 refine ge z R σ H W ρ _ _ s hw λv1 H1 W1 d1 ρ1 F1 p q1=>?_
 obtain ⟨y,rfl⟩:∃y,d1=D.str y:=by
  clear p
  cases d1 with
  | str y=>exact ⟨y,rfl⟩
  | _=>exact (show False from q1).elim
 have hv:v1=.str y:=by have:=p.rep;cases this;rfl
 subst hv
 refine ⟨rfl,ga z R σ H1 W1 ρ1 _ _ p.sr q1 λvs H2 W2 ds ρ2 F2 q q2=>?_⟩
 refine gr H2 y ds vs F2 _ Q' q.rep q2 λv H' d F' fi hk=>k v H' W2 d ρ2 F' (Post.fin q.sr (p.fr.trans q.fr) (λh=>?_) fi.same fi.rep fi.nd fi.new) hk
 rw [Bool.or_eq_false_iff] at h
 obtain ⟨a1,a2,a3⟩:=p.calm h.1
 obtain ⟨b1,b2,b3⟩:=q.calm h.2
 exact ⟨a1.trans b1,b2.trans a2,b3.trans a3⟩
def Qnp:GS:=λsep ds k=>match ds with
 | [.lst xs]=>∃ws:List Str,xs=ws.map D.str/\tooLong (ws.toArray.foldl (λn w=>n+w.length+sep.length) 0)=false/\(glued sep ws).length<=sizeLine/\k (.str (glued sep ws))
 | _=>False
theorem Qm1:MsD X "str.join" Qnp:=by
 refine ⟨_,Qtz,λH y ds xs F k Q r g q=>?_⟩
 cases ds with
 | nil=>exact (show False from g).elim
 | cons d ds =>
  cases ds with
  | cons _ _=>cases d <;> exact (show False from g).elim
  | nil =>
   cases d with
   | lst es =>
    obtain ⟨v,rfl,rd⟩:=r.at1
    obtain ⟨ws,rfl,h1,h2,g⟩:=g
    cases rd with
    | lst e r9 =>
    have:=r9.of_strs
    subst this
    exact ⟨y,_,ws,rfl,rfl,.of e,h1,h2,q _ _ _ _ (.flat (.str _)) g⟩
   | _=>exact (show False from g).elim
def Qr3:GS:=λy ds k=>match ds with
 | [.str sep]=>sep.length=1/\Builtin.Str.strKind sep=1/\0<y.length/\y.length<=sizeLine/\(Uf y sep).length<=sizeLine/\k (.lst ((Uf y sep).map D.str))
 | _=>False
theorem Qp2:MsD X "str.split" Qr3:=by
 refine ⟨_,Qp1,λH y ds xs F k Q r g q=>?_⟩
 cases ds with
 | nil=>exact (show False from g).elim
 | cons d ds =>
  cases ds with
  | cons _ _=>cases d <;> exact (show False from g).elim
  | nil =>
   cases d with
   | str sep =>
    obtain ⟨v,rfl,rd⟩:=r.at1
    obtain ⟨h1,h2,h3,h4,h5,g⟩:=g
    cases rd
    exact ⟨y,sep,rfl,rfl,h1,h2,h3,h4,h5,λl hl=>q _ _ _ [l] ⟨Qi hl,.lst Qj (Reps.strs _),by simp,λc m=>by rw [List.mem_singleton.mp m];exact hl⟩ g⟩
   | _=>exact (show False from g).elim
def sgn (x:Str):List D:=x.cps.toList.map λc=>.str ⟨#[c]⟩
def Qlu (d:D) (k:List D->Prop):Prop:=match d with
 | .str x=>x.cps.all (· < 128)=true/\k (sgn x)
 | _=>False
def Qfg (w:WE):WL:=λρ Q=>w ρ λd ρ'=>Qlu d λds=>Q ds ρ'
theorem Qr2 (h:EV X T m o oe w):IV X T m true tg oe (Qfg w):=by
 obtain ⟨te,pe,ge⟩:=h
 refine ⟨_,Qvz pe,λz R σ H W ρ Q RR s hw k=>?_⟩
 refine ge z R σ H W ρ _ _ s hw λv H1 W1 d ρ1 F p q=>?_
 obtain ⟨x,rfl⟩:∃x,d=D.str x:=by
  clear p
  cases d with
  | str x=>exact ⟨x,rfl⟩
  | _=>exact (show False from q).elim
 have hv:v=.str x:=by have:=p.rep;cases this;rfl
 subst hv
 obtain ⟨ha,q⟩:=q
 refine ⟨x,rfl,ha,k _ H1 W1 (sgn x) ρ1 ⟨p.sr,p.fr,p.calm⟩ (λi H2 W2 f=>?_) q⟩
 have hlen:(sgn x).length=x.cps.size:=by simp [sgn]
 refine ⟨λhi=>by show x.cps.size<=i;omega,λd hd=>?_⟩
 have hi:i<x.cps.size:=by have:=(List.getElem?_eq_some_iff.mp hd).1;omega
 refine ⟨hi,λv H3 y=>?_⟩
 obtain ⟨rfl,c,hc,rfl⟩:=y
 have hd':d=.str ⟨#[c]⟩:=by
  unfold sgn at hd
  rw [List.getElem?_map,Array.getElem?_toList,hc] at hd
  exact (Option.some.inj hd).symm
 subst hd'
 exact ⟨Same.refl _,[],.str _,λa m=>nomatch m⟩
def Qcy:GM
 | .lst xs,[.lst ys],k=>Qo ys=true/\xs.length+ys.length<=sizeLine/\k .non (.lst (xs++ys))
 | _,_,_=>False
theorem Qcr:MtD X "list.extend" Qcy:=by
 refine ⟨_,Qm0,λH d ds v xs F G k Q r nd rs ndG dis g q=>?_⟩
 cases d with
 | lst es =>
  cases ds with
  | nil=>exact (show False from g).elim
  | cons d ds =>
   cases ds with
   | cons _ _=>cases d <;> exact (show False from g).elim
   | nil =>
    cases d with
    | lst fs =>
     obtain ⟨u,rfl,rd⟩:=rs.at1
     obtain ⟨hp,hz,g⟩:=g
     cases r with
     | @lst l ys _ F e r9 =>
      cases rd with
      | @lst b zs _ G' e2 r2 =>
       obtain ⟨hG,r2⟩:=r2.pure hp
       obtain ⟨nl,nd⟩:=List.nodup_cons.mp nd
       have hlG:l∉([]:List Addr):=λh=>nomatch h
       refine ⟨l,b,ys,zs,rfl,rfl,e,e2,by rw [r9.length,r2.length];exact hz,?_⟩
       refine q .non l _ .non _ (l::F) List.mem_cons_self rfl (.lst Qj ?_) (List.nodup_cons.mpr ⟨nl,nd⟩) (λa ha=>.inl ha) .non g
       have:=(r9.upd (ob':=.lst (ys++zs)) e rfl nl).append (r2.upd (ob':=.lst (ys++zs)) e rfl hlG)
       simpa using this
    | _=>exact (show False from g).elim
 | _=>exact (show False from g).elim
end PV
variable {j lo:Int} {kk:PV.D->PV.D->Prop}
namespace PV
open PySem PySem.Spec L2 PyProof.Rows
section
variable {k:Nat}
def dMulB:G2
 | .int i,.int j,k=>i.natAbs<2 ^ 2000/\j.natAbs<2 ^ 2000/\k (.int (i*j))
 | _,_,_=>False
def Qdu (g:GI) (wr:WA):WE:=λρ Q=>wr ρ λds ρ1=>match ds with
 | d0::post=>Qbk d0=true/\Qo post=true/\g (d0::post) λd _=>Q d ρ1
 | []=>False
theorem Qjr {g:GI} (C:Cal X.prog X.w X.K X.mg X.base x k ps (spI X.K 0 g)) (hr:Room k X.A) (ha:AV X T false true (e::es) wr) (hg:Gl X x:=by rfl)
  (hdb:(x == ("__debug__" : Str))=false:=by decide) (he:starEach (e::es) X.env=(false,eval e X.env)::starEach es X.env:=by rfl) (hpl:(backTo pos (starEach es X.env)).any (·.1)=false:=by rfl) :
  EV X T false true (.Call (.Name x p) (e::es) [] pos) (Qdu g wr):=by
 obtain ⟨f,fd,F,hm,hk,hb⟩:=C
 obtain ⟨ta,pa,ga⟩:=ha
 refine ⟨_,Qho F hr hg hm hk hb .nil Qtr pa hdb he hpl,λz R σ H W ρ Q Q' s hw k=>?_⟩
 refine ga z R σ H W ρ _ _ s hw λvs H1 W1 ds ρ1 F p q=>?_
 obtain ⟨sm,rfl,rfl⟩:=p.calm rfl
 obtain ⟨nd,own⟩:=p.own rfl
 have rp:=p.rep
 match ds,rp,q with
 | d0::post,rp,q =>
  obtain ⟨hf,hp,q⟩:=q
  cases rp with
  | @cons _ v0 _ vs F0 G r0 rr =>
   obtain ⟨a,rfl,hF⟩:=r0.flat1 hf
   obtain ⟨hE,rr⟩:=rr.pure hp
   subst hF hE
   refine ⟨d0::post,a,_,by rw [List.append_nil];exact .cons (G:=[]) r0 rr,rfl,q,λv H' d d' F' rd' rd nd new kp hk=>?_⟩
   have ha:H a=none:=(own a (by simp)).1
   have same:Same H H':=λb ob eb=>kp b ob (sm b ob eb) λz=>by rw [z,ha] at eb;cases eb
   refine k v H' W1 d ρ1 F' (Post.fin s (FrW.refl H W1) (λ_=>⟨Same.refl H,rfl,rfl⟩) same rd nd λb hb=>?_) hk
   cases hq:H b with
   | none=>rfl
   | some ob=>have:=sm b ob hq;rw [new b hb] at this;cases this
def gPopT:GM
 | .dit kvs,[.tup xs],k=>oget (Gq xs) λks=>oget (valD kvs ks) λd=>d.pure=true/\k d (.dit (Qy9 kvs ks))
 | _,_,_=>False
def rngS (lo c:Int) (n:Nat):List D:=(List.range n).map λ(i:Nat)=>.int (lo+(i:Int)*c)
theorem Qhi {c:Int}:(rngS lo c n).length=n:=by simp [rngS]
theorem Qi1 {c:Int} (h:(rngS lo c n)[i]? = some d):i<n/\d=.int (lo+(i:Int)*c):=by
 unfold rngS at h
 rw [List.getElem?_map] at h
 obtain ⟨j,hj,rfl⟩:=Option.map_eq_some_iff.mp h
 obtain ⟨h1,h2⟩:=List.getElem?_eq_some_iff.mp hj
 rw [List.length_range] at h1
 rw [List.getElem_range] at h2
 subst h2
 exact ⟨h1,rfl⟩
theorem Qma {c:Int}:Qo (rngS lo c n)=true:=Qaf.mpr λd hd=>by
 obtain ⟨i,_,rfl⟩:=List.mem_map.mp hd
 rfl
theorem Qnb {W:Addr->Prop} {c:Int}:JD K (ItrS lo c n) H W (rngS lo c n):=λi H1 W1 fr=>by
 refine ⟨λh=>?_,λd hd=>?_⟩
 ·rw [Qhi] at h;exact h
 ·obtain ⟨h1,rfl⟩:=Qi1 hd
  refine ⟨h1,λv H2 y=>?_⟩
  obtain ⟨rfl,rfl⟩:=y
  exact ⟨Same.refl _,[],.int _,λa m=>nomatch m⟩
def Qo2 (wr:WA):WL:=λρ Q=>wr ρ λds ρ'=>match ds with
 | [.int i,.int j,.int c]=>(-(2 ^ 60)<=i/\i<2 ^ 60 /\ -(2 ^ 60)<=j/\j<2 ^ 60)/\(c=2\/c=3)/\Q (rngS i c (stepN i j c)) ρ'
 | _=>False
theorem Qnd (hm:X.mg "range" = none) (ha:AV X T m o [a,b,c] wr) (hg:Gl X "range":=by rfl) (hs:starEach [a,b,c] X.env=[(false,eval a X.env),(false,eval b X.env),(false,eval c X.env)]:=by rfl) (hs2:starEach [b,c] X.env=[(false,eval b X.env),(false,eval c X.env)]:=by rfl):IV X T m true tg (.Call (.Name "range" p) [a,b,c] [] pos) (Qo2 wr):=by
 obtain ⟨ta,pa,ga⟩:=ha
 refine ⟨_,Qmh hg hm pa hs hs2,λz R σ H W ρ Q RR s hw k=>?_⟩
 refine ga z R σ H W ρ _ _ s hw λvs H1 W1 ds ρ1 F p q=>?_
 match ds,p,q with
 | [.int i,.int j,.int c],p,q =>
  have rp:=p.rep
  cases rp with
  | cons r1 rp =>
   cases rp with
   | cons r2 rp =>
    cases rp with
    | cons r3 rp =>
     cases rp
     cases r1;cases r2;cases r3
     exact ⟨i,j,c,rfl,q.1,q.2.1,k _ H1 W1 _ ρ1 ⟨p.sr,p.fr,p.calm⟩ Qnb q.2.2⟩
end
theorem sz0:(0<=sizeLine)=True:=propext ⟨λ_=>trivial,λ_=>by decide⟩
theorem sz1:(1<=sizeLine)=True:=propext ⟨λ_=>trivial,λ_=>by decide⟩
theorem sz2:(2<=sizeLine)=True:=propext ⟨λ_=>trivial,λ_=>by decide⟩
theorem sz3:(3<=sizeLine)=True:=propext ⟨λ_=>trivial,λ_=>by decide⟩
end PV
variable {b:Bool} {k:List PV.D->Prop} {r:Int} {ys:List PV.D}
namespace PV
open PySem PySem.Spec L2
theorem Zu {α:Type} (xs:List α) (j:Nat):L2.atI xs (j:Int)=xs[j]?:=by
 unfold L2.atI ixN
 rw [if_pos (by omega)]
 by_cases h:j<xs.length
 ·rw [if_pos (by omega)];simp
 ·rw [if_neg (by omega)];simp;omega
theorem Xz {α:Type} (xs:List α):L2.atI xs 0=xs[0]?:=Zu xs 0
theorem Qdn {α:Type} (xs:List α):L2.atI xs 1=xs[1]?:=Zu xs 1
theorem Qxr {α:Type} (xs:List α):L2.atI xs 2=xs[2]?:=Zu xs 2
theorem Qcv {j:Nat} (h:j<n):ixN n (j:Int)=some j:=by
 unfold ixN
 rw [if_pos (by omega),if_pos (by omega)];simp
theorem Qyy (h:0<n):ixN n 0=some 0:=Qcv h
theorem Qyx (h:1<n):ixN n 1=some 1:=Qcv h
theorem Qk {α:Type} {d:α} {k:α->Prop}:oget (some d) k=k d:=rfl
theorem Q3:wVar i ρ Q=oget (look ρ i) λd=>Q d ρ:=by
 unfold wVar oget
 cases look ρ i <;> rfl
section
variable {i:Int} {k:D->Prop}
theorem Qer:dSub (.int i) (.int j) k=k (.int (i-j)):=rfl
theorem Qvp:dMul (.int i) (.int j) k=(CMul i j/\k (.int (i*j))):=rfl
theorem Qyd:dDiv (.int i) (.int j) k=((0<j/\j<1073741824/\k (.int (i / j)))\/(j<0/\j.natAbs<1073741824/\k (.int (i.fdiv j)))):=rfl
theorem Qyb:dMod (.int i) (.int j) k=((0<j/\k (.int (i % j)))\/(j<0/\k (.int (i.fmod j)))):=rfl
theorem Qx9:dPow (.int i) (.int j) k=(CPow i j/\k (.int (i ^ j.toNat))):=rfl
theorem Qbi:dEq (.int i) (.int j) k=k (.bl (decide (i=j))):=rfl
theorem Ql1:dNe (.int i) (.int j) k=k (.bl (!decide (i=j))):=rfl
theorem Xf:dEq (.str x) (.str y) k=k (.bl (decide (x=y))):=rfl
theorem Qhj:dNe (.str x) (.str y) k=k (.bl (!decide (x=y))):=rfl
theorem Qpe:dNe (.tup xs) d k=(eqOk 9 (.tup xs)=true/\eqOk 9 d=true/\(.tup xs=d->k (.bl false))/\(.tup xs≠d->k (.bl true))):=by cases d <;> rfl
theorem Qvs:dEq (.lst xs) d k=(eqOk 9 (.lst xs)=true/\eqOk 9 d=true/\(.lst xs=d->k (.bl true))/\(.lst xs≠d->k (.bl false))):=by cases d <;> rfl
theorem Qya:dNe (.lst xs) d k=(eqOk 9 (.lst xs)=true/\eqOk 9 d=true/\(.lst xs=d->k (.bl false))/\(.lst xs≠d->k (.bl true))):=by cases d <;> rfl
theorem V9 {f:Int->Int->Bool}:dCmp f (.int i) (.int j) k=k (.bl (f i j)):=rfl
theorem Xq:dIx (.lst xs) (.int i) k=oget (L2.atI xs i) k:=rfl
theorem Qad:dIx (.tup xs) (.int i) k=oget (L2.atI xs i) k:=rfl
theorem Qyc:dIx (.kls xs) (.int i) k=oget (L2.atI xs i) k:=rfl
theorem Xn:dLen [.lst xs] k=k (.int xs.length):=rfl
theorem Qfv:dLen [.tup xs] k=k (.int xs.length):=rfl
theorem Qvq:dLen [.kls xs] k=k (.int xs.length):=rfl
theorem Qrh:dInt [.bl b] k=k (.int (if b then 1 else 0)):=rfl
theorem Ql3:Qqp [.tup xs] k=(Qo xs=true/\k (.lst xs)):=rfl
theorem Qft:Qbe [.lst xs] k=(Qo xs=true/\k (.tup xs)):=rfl
theorem Qpf {t:Ty}:dIsi [d,.ty t] k=oget (isiD d t) λb=>k (.bl b):=rfl
theorem Qrf:dSet (.lst xs) (.int i) d k=oget (ixN xs.length i) λn=>k (.lst (xs.set n d)):=rfl
theorem Qvr {n:Bool}:dIn n (.str x) (.str y) k=k (.bl (xor n (!(Builtin.Str.occurrences y x 0 y.length 1).isEmpty))):=rfl
end
theorem Qar:Z8 (.lst xs) [d] kk=(xs.length<sizeLine/\kk .non (.lst (xs++[d]))):=rfl
section
variable {i:Int} {k:D->Prop}
theorem Qfw (h:0<j) (h2:j<1073741824):dDiv (.int i) (.int j) k=k (.int (i / j)):=by
 rw [Qyd]
 apply propext
 exact ⟨λq=>q.elim (λz=>z.2.2) (λz=>absurd z.1 (by omega)),λq=>.inl ⟨h,h2,q⟩⟩
theorem Qd3 (h:0<j):dMod (.int i) (.int j) k=k (.int (i % j)):=by
 rw [Qyb]
 apply propext
 exact ⟨λq=>q.elim (λz=>z.2) (λz=>absurd z.1 (by omega)),λq=>.inl ⟨h,q⟩⟩
theorem Qci (h:-18446744073709551616<i) (h2:i<18446744073709551616):dMul (.int i) (.int j) k=k (.int (i*j)):=by
 rw [Qvp]
 exact propext ⟨λq=>q.2,λq=>⟨.inl ⟨by omega,by omega⟩,q⟩⟩
theorem Ql2 (h:-18446744073709551616<j) (h2:j<18446744073709551616):dMul (.int i) (.int j) k=k (.int (i*j)):=by
 rw [Qvp]
 exact propext ⟨λq=>q.2,λq=>⟨.inr ⟨by omega,by omega⟩,q⟩⟩
theorem Qrg (h:0<=j) (h2:j<=1000000) (h3:-18446744073709551616<i) (h4:i<18446744073709551616):dPow (.int i) (.int j) k=k (.int (i ^ j.toNat)):=by
 rw [Qx9]
 exact propext ⟨λq=>q.2,λq=>⟨⟨h,h2,by omega⟩,q⟩⟩
end
def blOf (d:D) (k:Bool->Prop):Prop:=match d with
 | .bl b=>k b
 | _=>False
theorem r_bl {Q:Bool->Env->Prop}:wBl w ρ Q=w ρ λd ρ'=>blOf d λb=>Q b ρ':=by
 show (w ρ λd ρ'=>match d with | .bl b=>Q b ρ' | _=>False)=_
 rfl
theorem Qz {k:Bool->Prop}:blOf (.bl b) k=k b:=rfl
def Qkd (d:D) (k:Bool->Prop):Prop:=oget (truD d) k
theorem Gn {Q:Bool->Env->Prop}:wTru w ρ Q=w ρ λd ρ'=>Qkd d λb=>Q b ρ':=by
 unfold wTru
 congr 1
 funext d ρ'
 unfold Qkd oget
 cases truD d <;> rfl
theorem Zj {k:Bool->Prop}:Qkd (.bl b) k=k b:=rfl
theorem Qvk {k:Bool->Prop}:Qkd (.lst xs) k=k (!xs.isEmpty):=rfl
theorem Qlz {k:Bool->Prop}:Qkd (.tup xs) k=k (!xs.isEmpty):=rfl
def Qs4 (d:D) (k:List D->Prop):Prop:=match d with
 | .tup ds=>Qo ds=true/\k ds
 | .lst ds=>k ds
 | .kc (.tup ks)=>k (ks.map kcD)
 | _=>False
theorem Qdc {Q:List D->Env->Prop}:Qb3 w ρ Q=w ρ λd ρ'=>Qs4 d λds=>Q ds ρ':=by
 show (w ρ λd ρ'=>match d with | .tup ds=>Qo ds=true/\Q ds ρ' | .lst ds=>Q ds ρ' | .kc (.tup ks)=>Q (ks.map kcD) ρ' | _=>False)=_
 rfl
theorem Qfu:Qs4 (.tup xs) k=(Qo xs=true/\k xs):=rfl
theorem Qi3:Qs4 (.lst xs) k=k xs:=rfl
def Qw4 (d:D) (k:Option Int->Prop):Prop:=match d with
 | .int i=>k (some i)
 | _=>False
theorem Qvl {Q:Option Int->Env->Prop}:Qj7 w ρ Q=w ρ λd ρ'=>Qw4 d λi=>Q i ρ':=by
 show (w ρ λd ρ'=>match d with | .int i=>Q (some i) ρ' | _=>False)=_
 rfl
theorem Qs9 {i:Int} {k:Option Int->Prop}:Qw4 (.int i) k=k (some i):=rfl
theorem Qd4:Qfh wa wb ρ Q=wa ρ λd ρ1=>blOf d λc=>if c=true then wb ρ1 Q else Q (.bl false) ρ1:=by
 show (wa ρ λd ρ1=>match d with | .bl c=>if c=true then wb ρ1 Q else Q (.bl false) ρ1 | _=>False)=_
 rfl
theorem Qvn:wOrV wa wb ρ Q=wa ρ λd ρ1=>blOf d λc=>if c=true then Q (.bl true) ρ1 else wb ρ1 Q:=by
 show (wa ρ λd ρ1=>match d with | .bl c=>if c=true then Q (.bl true) ρ1 else wb ρ1 Q | _=>False)=_
 rfl
theorem Qvo:Qsq wa ρ Q=wa ρ λd ρ1=>blOf d λc=>Q (.bl (!c)) ρ1:=by
 show (wa ρ λd ρ1=>match d with | .bl c=>Q (.bl (!c)) ρ1 | _=>False)=_
 rfl
def Qre (ds:List D) (k:List D->Prop):Prop:=match ds with
 | [.int j]=>-(2 ^ 62)<=j/\j<2 ^ 62/\k (rngD 0 j.toNat)
 | _=>False
theorem Ql0 {Q:List D->Env->Prop}:Qlh wr ρ Q=wr ρ λds ρ'=>Qre ds λl=>Q l ρ':=by
 show (wr ρ λds ρ'=>match ds with | [.int j]=>-(2 ^ 62)<=j/\j<2 ^ 62/\Q (rngD 0 j.toNat) ρ' | _=>False)=_
 rfl
theorem Qes:Qre [.int j] k=(-(2 ^ 62)<=j/\j<2 ^ 62/\k (rngD 0 j.toNat)):=rfl
def Qrd (ds:List D) (k:List D->Prop):Prop:=match ds with
 | [.int i,.int j]=>(-(2 ^ 62)<=i/\i<2 ^ 62 /\ -(2 ^ 62)<=j/\j<2 ^ 62)/\k (rngD i (j-i).toNat)
 | _=>False
theorem Qvm {Q:List D->Env->Prop}:Qsp wr ρ Q=wr ρ λds ρ'=>Qrd ds λl=>Q l ρ':=by
 show (wr ρ λds ρ'=>match ds with | [.int i,.int j]=>(-(2 ^ 62)<=i/\i<2 ^ 62 /\ -(2 ^ 62)<=j/\j<2 ^ 62)/\Q (rngD i (j-i).toNat) ρ' | _=>False)=_
 rfl
theorem Qs8 {i:Int}:Qrd [.int i,.int j] k=((-(2 ^ 62)<=i/\i<2 ^ 62 /\ -(2 ^ 62)<=j/\j<2 ^ 62)/\k (rngD i (j-i).toNat)):=rfl
def Qsa (ds:List D) (k:List D->Prop):Prop:=match ds with
 | [.tup es]=>Qo es=true/\k (U5 0 es)
 | _=>False
theorem Ql6 {Q:List D->Env->Prop}:Qlj wr ρ Q=wr ρ λds ρ'=>Qsa ds λl=>Q l ρ':=by
 show (wr ρ λds ρ'=>match ds with | [.tup es]=>Qo es=true/\Q (U5 0 es) ρ' | _=>False)=_
 rfl
theorem Qhl:Qsa [.tup xs] k=(Qo xs=true/\k (U5 0 xs)):=rfl
theorem Ql4 {Q:Env->Prop}:U4 n wgs (.tup xs) ρ Q=(xs.length=n/\wgs xs ρ Q):=rfl
theorem Qhk {r:List D} {Q:Env->Prop}:Y4 wg wgs (d::r) ρ Q=wg d ρ λρ'=>wgs r ρ' Q:=rfl
theorem Ql5 {Q:Env->Prop}:Gr [] ρ Q=Q ρ:=rfl
theorem Xe:tyD (some (.lst xs)) t=(t == "list"):=rfl
theorem Qbh:Qbk (.lst xs)=Qo xs:=rfl
theorem Q6 {α:Type} {f:α->D} {l:List α} (h:∀a∈l,(f a).pure=true):Qo (l.map f)=true:=by
 rw [Qaf]
 intro x hx
 obtain ⟨a,ha,rfl⟩:=List.mem_map.mp hx
 exact h a ha
theorem Uk {α:Type} {f:α->D} {l:List α} (h:∀a∈l,eqOk n (f a)=true):Xg n (l.map f)=true:=by
 rw [Qn3]
 intro x hx
 obtain ⟨a,ha,rfl⟩:=List.mem_map.mp hx
 exact h a ha
def Qof (ds:List D) (wt:WT) (we:WE) (ρ1:Env) (ix:List Nat) (Q:D->Env->Prop):Prop:=∃I:Nat->List D->Prop,I 0 [] /\
 (∀i d ys,ds[i]? = some d->I i ys->ys.length<sizeLine/\wt (blkE ρ1 d ix) λb _=>if b=true then we (blkE ρ1 d ix) (λy _=>I (i+1) (ys++[y])) else I (i+1) ys) /\
 ∀ys,I ds.length ys->ys.length<=sizeLine/\Q (.lst ys) ρ1
theorem Qae {we:WE}:Qb6 wl wt we ix ρ Q=wl ρ λds ρ1=>Qof ds wt we ρ1 ix Q:=rfl
theorem Gv {we:WE} (f:D->D) (hz:ds.length<sizeLine) (he:∀d∈ds,∀Q':D->Env->Prop,Q' (f d) (blkE ρ1 d ix)->we (blkE ρ1 d ix) Q') (hQ:Q (.lst (ds.map f)) ρ1):Qof ds wAll we ρ1 ix Q:=by
 refine ⟨λi ys=>ys=(ds.take i).map f/\i<=ds.length,⟨by simp,Nat.zero_le _⟩,λi d ys hd ⟨hy,hi⟩=>?_,λys ⟨hy,_⟩=>?_⟩
 ·have hlt:=(List.getElem?_eq_some_iff.mp hd).1
  refine ⟨by rw [hy];simp;omega,?_⟩
  simp only [wAll,reduceIte]
  refine he d (List.mem_of_getElem? hd) _ ⟨?_,hlt⟩
  rw [hy,List.take_add_one,hd]
  simp
 ·rw [hy,List.take_length]
  exact ⟨by simp;omega,hQ⟩
def forI (ds:List D) (wg:WG) (wb:WS) (P:EndsP) (ρ1:Env):Prop:=∃I:Nat->Env->Prop,I 0 ρ1 /\
 (∀i d ρ,ds[i]? = some d->I i ρ->wg d ρ λρ'=>wb { P with nx:=I (i+1),ct:=I (i+1),bk:=P.nx } ρ')/\∀ρ,I ds.length ρ->P.nx ρ
theorem Qaq {wb:WS} {P:EndsP}:wFor wl wg wb P ρ=wl ρ λds ρ1=>Qo ds=true/\forI ds wg wb P ρ1:=rfl
end PV
namespace PV
open PySem PySem.Spec L2
open PyProof.Rows (envOfC)
abbrev GX:=List D->(D->Prop)->(D->Prop)->Prop
end PV
variable {t:Nat} {k:PV.D->Prop} {sl:Array (Option PySem.Value)} {tab:PySem.Str->Option Bool} {o3:Bool} {wc:PV.WE}
namespace PV
open PySem PySem.Spec L2
open PyProof.Rows (envOfC)
abbrev atN (K:Frag) (x:Str) (C:Addr):Prop:=nsIn K mainGlobals x=some (some (.ref C))
def X0 (X:Cx) (T:Tg) (x:Str) (C:Addr):Prop:=∀pins σ H s h1 e vs,Inv X pins σ H s->Heap.MadeExcOf s.heap h1 e (.ref C) vs->T.xe (.obj x []) σ H->X.xe (.ref e) { s with heap:=h1 }
def EndsP.un (P:EndsP) (j:Nat):EndsP:={ nx:=λρ=>P.nx (ρ.set j none),rt:=P.rt,bk:=λρ=>P.bk (ρ.set j none),ct:=λρ=>P.ct (ρ.set j none) }
theorem SR.unset {W:Addr->Prop} {j:Nat} (hj:j∉T.io) (s:SR K T z R H W σ ρ):SR K T z R H W (σ.set j none) (ρ.set j none):=by
 obtain ⟨fp,s⟩:=s
 have key:∀i d,look (ρ.set j none) i=some d->i≠j/\look ρ i=some d:=λi d h=>by
  rw [Gz] at h
  split at h
  ·cases h
  ·rename_i hn
   refine ⟨λz=>hn ⟨z,?_⟩,h⟩
   rw [← z];exact Qcs h
 refine ⟨fp,by rw [List.length_set,List.length_set];exact s.len,s.wd,λi d h=>?_,λi d h=>s.own i d (key i d h).2,λi d h=>s.ro i d (key i d h).2,s.wr,s.rd,λi k d d' h h'=>s.dis i k d d' (key i d h).2 (key k d' h').2,λi hi=>?_⟩
 ·obtain ⟨h1,h2⟩:=key i d h
  obtain ⟨v,e1,e2⟩:=s.at_ i d h2
  exact ⟨v,by rw [List.getElem?_set_ne (Ne.symm h1)];exact e1,e2⟩
 ·rw [List.getElem?_set_ne (λz=>hj (by rw [z];exact hi))]
  exact s.fix i hi
def Qbp (es:Array DictEntry):Bool:=es.toList.all λe=>match e.key with
 | .str _ _=>true
 | _=>false
theorem Qkg {es:Array DictEntry} (h:Qbp es=true):StrKeys es:=λe he=>by
 have:=List.all_eq_true.mp h e (by simpa using he)
 split at this
 ·rename_i n t q;exact ⟨n,t,q⟩
 ·cases this
theorem Qyu {a:Addr} {od:Option Addr} {es:Array DictEntry} {ep:Nat} (X:K.In h) (l:K.lookup a=some ⟨oc,od,.dict es ep,sl⟩) (s:Qbp es=true):h.Ns a (nsFind es):=⟨_,es,ep,X _ _ l,rfl,Qkg s,λ_=>rfl⟩
theorem Qji:kitOne K (.ref C) (.ref C)=some true:=by unfold kitOne;rw [if_pos (by simp)]
theorem Jl {D:Addr} (hne:(Value.ref C == Value.ref D)=false) (h1:PySem.W.clsIn K D=some cd) (h2:typeIn K (.ref D)=some (.type "type")) (h3:PySem.W.subIn K (.ref C) (.ref D)=some b):kitOne K (.ref C) (.ref D)=some b:=by
 unfold kitOne
 rw [if_neg (by rw [hne];decide)]
 show (if ((PySem.W.clsIn K D).isSome && typeIn K (.ref D) == some (.type "type"))=true then PySem.W.subIn K (.ref C) (.ref D) else none)=some b
 rw [if_pos (by rw [h1,h2];rfl)]
 exact h3
theorem Qm4 (h3:PySem.W.subIn K (.ref C) (.type "ValueError")=some b):kitOne K (.ref C) (.type "ValueError")=some b:=by
 unfold kitOne
 rw [if_neg (by intro z;cases (beq_iff_eq.mp z))]
 show (if PySem.W.kitMeta "ValueError" = true then PySem.W.subIn K (.ref C) (.type "ValueError") else none)=some b
 rw [if_pos (by decide +kernel)]
 exact h3
theorem Qr5 {D:Addr} (h0:PySem.W.subIn K (.ref D) (.type "BaseException")=some true) (h1:PySem.W.clsIn K D=some cd) (h2:typeIn K (.ref D)=some (.type "type")) (h3:PySem.W.subIn K (.ref C) (.ref D)=some b):exmOne K (.ref C) (.ref D)=some b:=by
 unfold exmOne
 rw [if_pos (by rw [h0];rfl)]
 show (if ((PySem.W.clsIn K D).isSome && typeIn K (.ref D) == some (.type "type"))=true then PySem.W.subIn K (.ref C) (.ref D) else none)=some b
 rw [if_pos (by rw [h1,h2];rfl)]
 exact h3
theorem Xa {t c:Value} (h1:kitOne K t c=some false) (h2:kitAny K t cs=some b):kitAny K t (c::cs)=some b:=by
 unfold kitAny
 rw [h1]
 exact h2
theorem Qjj {t:Value}:kitAny K t []=some false:=rfl
section
variable {b:Expr} {q:Pos} {cv:V} {cl:Value}
def wIsx (i:Nat) (tab:Str->Option Bool):WE:=λρ Q=>oget (look ρ i) λd=>match d with
 | .obj x _=>oget (tab x) λk=>Q (.bl k) ρ
 | _=>False
theorem Qc0 (hb:X.mg "isinstance" = none) (hy:PE X (.Name y q) (tC cv)) (hcv:clsV cv=some cl) (ht:∀x k C,tab x=some k->atN X.K x C->ExcQ X.K C/\kitOne X.K (.ref C) cl=some k)
  (hN:X.N[i]? = some v:=by rfl) (hv:Vis X.env.scope v:=by first | exact Or.inl rfl | exact Or.inr (Or.inl rfl) | exact Or.inr (Or.inr rfl)) (hg:Gl X "isinstance":=by rfl) (hd:(v == ("__debug__" : Str))=false:=by decide) (hcd:(v == ("__classdict__" : Str))=false:=by decide)
  (he:starEach [.Name v p2,.Name y q] X.env=(false,eval (.Name v p2) X.env)::starEach [.Name y q] X.env:=by rfl) (he2:starEach [.Name y q] X.env=(false,eval (.Name y q) X.env)::starEach [] X.env:=by rfl) (hpl:(backTo pos (starEach [.Name y q] X.env)).any (·.1)=false:=by rfl) :
  EV X T false true (.Call (.Name "isinstance" p) [.Name v p2,.Name y q] [] pos) (wIsx i tab):=by
 refine ⟨_,Qex (Qqw F.attrBase_ValueError) hg hb Yf (Js (Vt hN hv hd hcd) (Js hy Vu he2) he) (by decide) (by decide) he hpl,λz R σ H W ρ Q Q' s hw k=>?_⟩
 obtain ⟨d,hl,hq⟩:=Qn hw
 obtain ⟨fp,s0⟩:=id s
 obtain ⟨u,h1,h2⟩:=s0.at_ i d hl
 generalize fp i=Fi at h2
 match d,h2,hq with
 | .obj x fs,h2,hq =>
  obtain ⟨r,hr,hq⟩:=Qn hq
  cases h2 with
  | @obj a1 _ ob φ _ e1 hc hf =>
   obtain ⟨C,hc,hn⟩:=hc
   obtain ⟨q1,q2⟩:=ht x r C hr hn
   exact ⟨_,h1,a1,ob,φ,C,cv,cl,r,rfl,e1,hc,q1,hcv,q2,k (.bl r) H W (.bl r) ρ [] (Post.flat s (FrW.refl H W) (λ_=>⟨Same.refl H,rfl,rfl⟩) (.bl r)) hq⟩
theorem Qny {kx1} (hb:X.mg "isinstance" = none) (hy:PA X es ta) (hta:∀σ H Q,Q vs H->ta σ H Q) (hcs:vs.mapM clsV=some cs) (hvs:vs.length<=sizeLine) (ht:∀x k C,tab x=some k->atN X.K x C->ExcQ X.K C/\kitAny X.K (.ref C) cs=some k)
  (hN:X.N[i]? = some v:=by rfl) (hv:Vis X.env.scope v:=by first | exact Or.inl rfl | exact Or.inr (Or.inl rfl) | exact Or.inr (Or.inr rfl)) (hg:Gl X "isinstance":=by rfl) (hd:(v == ("__debug__" : Str))=false:=by decide) (hcd:(v == ("__classdict__" : Str))=false:=by decide)
  (he:starEach [.Name v p2,.Tuple es kx1 q] X.env=(false,eval (.Name v p2) X.env)::starEach [.Tuple es kx1 q] X.env:=by rfl) (he2:starEach [.Tuple es kx1 q] X.env=(false,eval (.Tuple es kx1 q) X.env)::starEach [] X.env:=by rfl) (hpl:(backTo pos (starEach [.Tuple es kx1 q] X.env)).any (·.1)=false:=by rfl) :
  EV X T false true (.Call (.Name "isinstance" p) [.Name v p2,.Tuple es kx1 q] [] pos) (wIsx i tab):=by
 refine ⟨_,Qex (Qon F.attrBase_ValueError) hg hb Yf (Js (Vt hN hv hd hcd) (Js (Qi9 hy) Vu he2) he) (by decide) (by decide) he hpl,λz R σ H W ρ Q Q' s hw k=>?_⟩
 obtain ⟨d,hl,hq⟩:=Qn hw
 obtain ⟨fp,s0⟩:=id s
 obtain ⟨u,h1,h2⟩:=s0.at_ i d hl
 generalize fp i=Fi at h2
 match d,h2,hq with
 | .obj x fs,h2,hq =>
  obtain ⟨r,hr,hq⟩:=Qn hq
  cases h2 with
  | @obj a1 _ ob φ _ e1 hc hf =>
   obtain ⟨C,hc,hn⟩:=hc
   obtain ⟨q1,q2⟩:=ht x r C hr hn
   refine ⟨_,h1,hta _ _ _ ⟨hvs,λtp htp=>?_⟩⟩
   have sm:Same H (upd H tp (.tup vs)):=Qi htp
   exact ⟨a1,ob,φ,C,tp,vs,cs,r,rfl,sm _ _ e1,hc,q1,Qj,hcs,q2,k (.bl r) _ W (.bl r) ρ [] (Post.fin s (FrW.refl H W) (λ_=>⟨Same.refl H,rfl,rfl⟩) sm (.bl r) (by simp) λb m=>nomatch m) hq⟩
end
end PV
variable {P:List (Int × List Nat)} {e c m:Nat} {bs:List PySem.Value}
namespace PV
open PySem PySem.Spec L2
section
variable {i:Int}
theorem U1:Y9 (.int i) (.int j) k=k (.int (i+j)):=rfl
theorem Qcj:Y9 (.lst xs) (.lst ys) k=(Qo xs=true/\Qo ys=true/\xs.length+ys.length<=sizeLine/\k (.lst (xs++ys))):=rfl
theorem Qvu {lo:Option Int}:dSlT (.kls xs) lo hi k=(Qo xs=true/\k (.lst (cutD xs lo hi))):=rfl
end
section
variable {bs:List Bool} {e:D}
theorem Qov:∀{a b:List Bool},a.map D.bl=b.map D.bl->a=b
 | [],[],_=>rfl
 | [],_::_,h=>by simp at h
 | _::_,[],h=>by simp at h
 | x::a,y::b,h=>by
  simp only [List.map_cons,List.cons.injEq,D.bl.injEq] at h
  rw [h.1,Qov h.2]
theorem Qrk:dAll [.lst (bs.map D.bl)] k=k (.bl (bs.all id)):=by
 show (∃cs:List Bool,bs.map D.bl=cs.map D.bl/\k (.bl (cs.all id)))=_
 exact propext ⟨λ⟨cs,e,h⟩=>by rw [Qov e];exact h,λh=>⟨bs,rfl,h⟩⟩
theorem Qrj {k:D->D->Prop}:two2 (.tup [d,e]) k=k d e:=rfl
end
theorem Vs:(rngD lo n).length=n:=by simp [rngD]
theorem Qbr (h:(rngD lo n)[i]? = some d):i<n/\d=.int (lo+(i:Int)):=by
 have hi:i<n:=by have:=(List.getElem?_eq_some_iff.mp h).1;rwa [Vs] at this
 simp only [rngD,List.getElem?_map,List.getElem?_range hi,Option.map_some,Option.some.injEq] at h
 exact ⟨hi,h.symm⟩
theorem Qck:Qo (rngD lo n)=true:=Q6 λ_ _=>rfl
theorem Zb:Qo (ns.map D.int)=true:=Q6 λ_ _=>rfl
def rowD (c n:Int):D:=.lst [.int c,.int n]
def webD (m e:Nat) (A:Nat->Int) (r:Int):D:=.tup [.tup ((List.range m).map λk=>.tup ((List.range 4).map λj=>.int (A (4*k+j)))),.tup ((List.range e).map λj=>.int (A (4*m+j))),.int r]
theorem len1 {α:Type}:∀{us:List α},us.length=1->∃a,us=[a]
 | [a],_=>⟨a,rfl⟩
theorem len2 {α:Type} {us:List α} (h:us.length=2):∃a b,us=[a,b]:=by
 cases us with
 | nil=>cases h
 | cons a us=>obtain ⟨b,rfl⟩:=len1 (Nat.succ.inj h);exact ⟨a,b,rfl⟩
theorem len3 {α:Type} {us:List α} (h:us.length=3):∃a b c,us=[a,b,c]:=by
 cases us with
 | nil=>cases h
 | cons a us=>obtain ⟨b,c,rfl⟩:=len2 (Nat.succ.inj h);exact ⟨a,b,c,rfl⟩
def spD (m i:Nat):D:=.tup [.int (M.sp m i).1,.int (M.sp m i).2]
def encP (s:Nat->D) (P:List (Int × List Nat)):List (Key × D):=P.map λe=>((.inl e.1:Key),D.lst (e.2.map s))
theorem Qn4 {s:Nat->D} (nd:(P.map (·.1)).Nodup):((encP s P).map (·.1)).Nodup:=by
 unfold encP
 rw [List.map_map]
 have:(P.map ((λ(x:Key × D)=>x.1) ∘ λe=>((.inl e.1:Key),D.lst (e.2.map s))))=(P.map (·.1)).map (λa=>(.inl a:Key)):=by rw [List.map_map];rfl
 rw [this,List.nodup_iff_pairwise_ne,List.pairwise_map]
 exact List.Pairwise.imp (λh z=>h (by injection z)) (List.nodup_iff_pairwise_ne.mp nd)
theorem Qjt {s:Nat->D} {a:Int}:∀{P:List (Int × List Nat)},valD (encP s P) (.inl a)=(P.find? λe=>decide (e.1=a)).map λe=>D.lst (e.2.map s)
 | []=>rfl
 | e::P=>by
  show valD (((.inl e.1:Key),D.lst (e.2.map s))::encP s P) (.inl a)=_
  rw [Va]
  by_cases h:e.1=a
  ·rw [if_pos (by rw [h]),List.find?_cons_of_pos (by simp [h])];rfl
  ·rw [if_neg (λz=>h (by injection z)),Qjt,List.find?_cons_of_neg (by simp [h])]
theorem Qjk {α β:Type} {f:α->β}:∀{l:List α} {a b:α},(l.map f).Nodup->a∈l->b∈l->f a=f b->a=b
 | [],_,_,_,h,_,_=>by cases h
 | x::l,a,b,nd,ha,hb,e=>by
  obtain ⟨n1,n2⟩:=List.nodup_cons.mp (show (f x::l.map f).Nodup from nd)
  rcases List.mem_cons.mp ha with za | ha
  ·rcases List.mem_cons.mp hb with zb | hb
   ·rw [za,zb]
   ·exact absurd (by rw [← za,e];exact List.mem_map.mpr ⟨b,hb,rfl⟩) n1
  ·rcases List.mem_cons.mp hb with zb | hb
   ·exact absurd (by rw [← zb,← e];exact List.mem_map.mpr ⟨a,ha,rfl⟩) n1
   ·exact Qjk n2 ha hb e
theorem Qs5 {s:Nat->D} {a:Int} (nd:(P.map (·.1)).Nodup):∃l:List Nat,(l=[]\/∃e∈P,l=e.2)/\valD (Ue (encP s P) (.inl a)) (.inl a)=some (.lst (l.map s)) /\
  putD (Ue (encP s P) (.inl a)) (.inl a) (.lst (l.map s++[s i]))=encP s (M.addP P a i):=by
 have hv:=Qjt (s:=s) (a:=a) (P:=P)
 cases hf:P.find? λe=>decide (e.1=a) with
 | none =>
  rw [hf] at hv
  have hv:valD (encP s P) (.inl a)=none:=hv
  have e1:Ue (encP s P) (.inl a)=encP s P++[((.inl a:Key),.lst [])]:=by unfold Ue;rw [hv];rfl
  have hany:¬(P.any λe=>decide (e.1=a))=true:=λz=>by
   obtain ⟨e,he,h⟩:=List.any_eq_true.mp z
   exact List.find?_eq_none.mp hf e he h
  refine ⟨[],.inl rfl,?_,?_⟩
  ·rw [e1,Qfm,hv];simp
  ·have hadd:M.addP P a i=P++[(a,[i])]:=by unfold M.addP;rw [if_neg hany]
   have hno:∀kv∈encP s P,kv.1≠(.inl a:Key):=λkv hkv z=>by
    obtain ⟨e,he,rfl⟩:=List.mem_map.mp hkv
    exact hany (List.any_eq_true.mpr ⟨e,he,by simpa using z⟩)
   rw [hadd,e1]
   unfold putD
   rw [if_pos (by simp),List.map_append]
   have:(encP s P).map (λkv=>if kv.1=(.inl a:Key) then (kv.1,D.lst (([]:List Nat).map s++[s i])) else kv)=encP s P:=by
    conv=>rhs;rw [← List.map_id (encP s P)]
    apply List.map_congr_left
    intro kv hkv
    rw [if_neg (hno kv hkv)];rfl
   rw [this]
   simp [encP]
 | some e =>
  rw [hf] at hv
  have hv:valD (encP s P) (.inl a)=some (.lst (e.2.map s)):=hv
  have he:=List.mem_of_find?_eq_some hf
  have hk:e.1=a:=by have:=List.find?_some hf;simpa using this
  have e1:Ue (encP s P) (.inl a)=encP s P:=by unfold Ue;rw [hv];rfl
  have hany:(P.any λe=>decide (e.1=a))=true:=List.any_eq_true.mpr ⟨e,he,by simpa using hk⟩
  refine ⟨e.2,.inr ⟨e,he,rfl⟩,by rw [e1];exact hv,?_⟩
  have hadd:M.addP P a i=P.map (λx=>if x.1=a then (x.1,x.2++[i]) else x):=by unfold M.addP;rw [if_pos hany]
  rw [e1,hadd]
  unfold putD
  rw [if_pos (by rw [Qfd,hv];rfl)]
  unfold encP
  rw [List.map_map,List.map_map]
  apply List.map_congr_left
  intro x hx
  show (if (.inl x.1:Key)=.inl a then ((.inl x.1:Key),D.lst (e.2.map s++[s i])) else ((.inl x.1:Key),D.lst (x.2.map s)))=((.inl (if x.1=a then (x.1,x.2++[i]) else x).1:Key),D.lst ((if x.1=a then (x.1,x.2++[i]) else x).2.map s))
  by_cases q:x.1=a
  ·have:x=e:=Qjk nd hx he (q.trans hk.symm)
   subst this
   rw [if_pos (by rw [q]),if_pos q]
   simp
  ·rw [if_neg (λz=>q (by injection z)),if_neg q]
theorem Qhn (A:Nat->Int):∀t,(M.plc A t).length<=t
 | 0=>Nat.le_refl _
 | t+1=>by
  rw [M.Qev]
  have:=Qhn A t
  unfold M.addP
  split <;> simp <;> omega
theorem Qpk (A:Nat->Int) (t:Nat):∀e∈M.plc A t,e.2.length<=t:=λe he=>by
 obtain ⟨_,h2,_⟩:=M.Qmf A t
 rw [(h2 e he).1]
 have:=List.length_filter_le (λi=>decide (A i=e.1)) (List.range t)
 simpa using this
theorem Go:∀{ds:List D} {n:Nat},Qo ds=true->Qo (U5 n ds)=true
 | [],_,_=>rfl
 | d::r,n,h=>by
  simp only [Qo,Bool.and_eq_true] at h
  simp only [U5,Qo,D.pure,Bool.and_eq_true]
  exact ⟨⟨trivial,h.1,trivial⟩,Go h.2⟩
theorem Qtg:(spD m i).pure=true:=rfl
end PV
variable {j:Nat} {A:Nat->Int} {n:Int} {ws:List PySem.Str}
namespace S03
open PySem PySem.Spec L2 PV
open PySem.Builtin.Str (glued)
def jl (c:Nat):List (List Nat)->List Nat
 | []=>[]
 | [w]=>w
 | w::v::r=>w++c::jl c (v::r)
theorem Qsc {c:Nat}:∀{a b s t:List Nat},c∉a->c∉b->a++c::s=b++c::t->a=b/\s=t
 | [],[],s,t,_,_,h=>⟨rfl,by simpa using h⟩
 | [],y::b,s,t,_,hb,h=>by
  have:c=y:=by simpa using (List.cons.inj h).1
  exact absurd (this ▸ List.mem_cons_self) hb
 | x::a,[],s,t,ha,_,h=>by
  have:x=c:=by simpa using (List.cons.inj h).1
  exact absurd (this ▸ List.mem_cons_self) ha
 | x::a,y::b,s,t,ha,hb,h=>by
  obtain ⟨h1,h2⟩:=List.cons.inj h
  obtain ⟨h3,h4⟩:=Qsc (λm=>ha (List.mem_cons_of_mem _ m)) (λm=>hb (List.mem_cons_of_mem _ m)) h2
  exact ⟨by rw [h1,h3],h4⟩
theorem Qr1 {c:Nat}:∀{ws vs:List (List Nat)},ws≠[]->vs≠[]->(∀w∈ws,c∉w)->(∀w∈vs,c∉w)->jl c ws=jl c vs->ws=vs
 | [],_,h,_,_,_,_=>absurd rfl h
 | _,[],_,h,_,_,_=>absurd rfl h
 | [w],[v],_,_,_,_,h=>by rw [show w=v from h]
 | [w],v::u::r,_,_,h1,_,h=>by
  have:c∈w:=by rw [show w=v++c::jl c (u::r) from h];simp
  exact absurd this (h1 w List.mem_cons_self)
 | v::u::r,[w],_,_,_,h1,h=>by
  have:c∈w:=by rw [show w=v++c::jl c (u::r) from h.symm];simp
  exact absurd this (h1 w List.mem_cons_self)
 | w::x::r,v::y::q,_,_,h1,h2,h=>by
  obtain ⟨e1,e2⟩:=Qsc (h1 w List.mem_cons_self) (h2 v List.mem_cons_self) h
  rw [e1,Qr1 (ws:=x::r) (vs:=y::q) (by simp) (by simp) (λw m=>h1 w (List.mem_cons_of_mem _ m)) (λw m=>h2 w (List.mem_cons_of_mem _ m)) e2]
theorem Qh3 {c:Nat}:∀(ws:List Str),(Str.join ⟨#[c]⟩ ws).cps.toList=jl c (ws.map λw=>w.cps.toList)
 | []=>rfl
 | [w]=>rfl
 | w::v::r=>by
  show (w++⟨#[c]⟩++Str.join ⟨#[c]⟩ (v::r)).cps.toList=_
  rw [Str.cps_append,Str.cps_append,Array.toList_append,Array.toList_append,Qh3 (v::r)]
  simp [jl]
theorem Qnn {vs:List Str} (h1:ws≠[]) (h2:vs≠[]) (f1:∀w∈ws,c∉w.cps.toList) (f2:∀w∈vs,c∉w.cps.toList) (h:glued ⟨#[c]⟩ ws=glued ⟨#[c]⟩ vs):ws=vs:=by
 rw [StrLaws.glued_eq_join,StrLaws.glued_eq_join] at h
 have h:=congrArg (λs:Str=>s.cps.toList) h
 simp only [Qh3] at h
 have:=Qr1 (by simpa using h1) (by simpa using h2) (λw hw=>by obtain ⟨v,hv,rfl⟩:=List.mem_map.mp hw;exact f1 v hv) (λw hw=>by obtain ⟨v,hv,rfl⟩:=List.mem_map.mp hw;exact f2 v hv) h
 have hm:∀{as bs:List Str},as.map (λw=>w.cps.toList)=bs.map (λw=>w.cps.toList)->as=bs:=by
  intro as
  induction as with
  | nil=>intro bs h;cases bs with
   | nil=>rfl
   | cons b bs=>cases h
  | cons a as ih=>intro bs h;cases bs with
   | nil=>cases h
   | cons b bs =>
    obtain ⟨q1,q2⟩:=List.cons.inj h
    rw [ih q2,Str.ext' (Array.toList_inj.mp q1)]
 exact hm this
theorem Qfz (h1:ws≠[]) (f1:∀w∈ws,c∉w.cps.toList):Uf (glued ⟨#[c]⟩ ws) ⟨#[c]⟩=ws:=by
 obtain ⟨f,hG,hn⟩:=StrLaws.occ_tight (glued ⟨#[c]⟩ ws) ⟨#[c]⟩ (Nat.le_refl 1)
 refine Qnn (c:=c) ?_ h1 ?_ f1 (StrLaws.glued_between_self _ _ _)
 ·unfold Uf
  rw [StrLaws.partsBetween_eq]
  obtain ⟨p,r,e⟩:=StrLaws.partsFrom_ne (glued ⟨#[c]⟩ ws) (⟨#[c]⟩:Str).length 0 (Builtin.Str.occurrences (glued ⟨#[c]⟩ ws) ⟨#[c]⟩ 0 (glued ⟨#[c]⟩ ws).length ((glued ⟨#[c]⟩ ws).length+1))
  rw [e];simp
 ·unfold Uf
  rw [StrLaws.partsBetween_eq]
  exact StrLaws.parts_free _ c _ 0 f hG hn
theorem Qxp:Str.ofString " " = ⟨#[32]⟩:=by decide
theorem dig:∀(m:Nat),Nat.toDigits 10 m≠[]/\(∀c∈Nat.toDigits 10 m,48<=c.toNat/\c.toNat<=57)/\(0<m->∃c r,Nat.toDigits 10 m=c::r/\c.toNat≠48):=by
 intro m
 induction m using Nat.strongRecOn with
 | _ m ih =>
  by_cases h:m<10
  ·rw [Nat.toDigits_of_lt_base h]
   have key:∀k:Fin 10,48<=(Nat.digitChar k.1).toNat/\(Nat.digitChar k.1).toNat<=57/\(0<k.1->(Nat.digitChar k.1).toNat≠48):=by decide
   obtain ⟨k1,k2,k3⟩:=key ⟨m,h⟩
   refine ⟨by simp,λc hc=>?_,λhm=>⟨_,[],rfl,k3 hm⟩⟩
   rw [List.mem_singleton.mp hc];exact ⟨k1,k2⟩
  ·rw [Nat.toDigits_of_base_le (by decide) (by omega)]
   obtain ⟨i1,i2,i3⟩:=ih (m / 10) (by omega)
   have key:∀k:Fin 10,48<=(Nat.digitChar k.1).toNat/\(Nat.digitChar k.1).toNat<=57:=by decide
   refine ⟨by simp,λc hc=>?_,λhm=>?_⟩
   ·rcases List.mem_append.mp hc with h | h
    ·exact i2 c h
    ·rw [List.mem_singleton.mp h];exact key ⟨m % 10,Nat.mod_lt _ (by decide)⟩
   ·obtain ⟨c,r,e,hc⟩:=i3 (by omega)
    exact ⟨c,r++[Nat.digitChar (m % 10)],by rw [e];rfl,hc⟩
def nw (n:Int):Str:=Str.ofString (toString n)
theorem Qcp (m:Nat):(nw m).cps.toList=(Nat.toDigits 10 m).map Char.toNat:=PySem.W.KIN.signs_num m
theorem Qrt (h:0<=n) (hc:c∈(nw n).cps.toList):48<=c/\c<=57:=by
 obtain ⟨m,rfl⟩:=Int.eq_ofNat_of_zero_le h
 rw [Qcp] at hc
 obtain ⟨d,hd,rfl⟩:=List.mem_map.mp hc
 exact (dig m).2.1 d hd
theorem Qmw (h:0<=n):∃c r,(nw n).cps.toList=c::r/\48<=c/\c<=57/\(0<n->c≠48):=by
 obtain ⟨m,rfl⟩:=Int.eq_ofNat_of_zero_le h
 obtain ⟨d1,d2,d3⟩:=dig m
 by_cases hm:0<m
 ·obtain ⟨c,r,e,hc⟩:=d3 hm
  refine ⟨c.toNat,r.map Char.toNat,by rw [Qcp,e];rfl,(d2 c (e ▸ List.mem_cons_self)).1,(d2 c (e ▸ List.mem_cons_self)).2,λ_=>hc⟩
 ·cases e:Nat.toDigits 10 m with
  | nil=>exact absurd e d1
  | cons c r=>exact ⟨c.toNat,r.map Char.toNat,by rw [Qcp,e];rfl,(d2 c (e ▸ List.mem_cons_self)).1,(d2 c (e ▸ List.mem_cons_self)).2,λh=>by omega⟩
theorem Qmv:nw 0=Str.ofString "0":=by decide
theorem Qd7 (h0:0<=n) (h1:n<1000000000):(nw n).length<=9:=by
 obtain ⟨m,rfl⟩:=Int.eq_ofNat_of_zero_le h0
 have e:(nw (m:Int)).length=(Nat.toDigits 10 m).length:=by
  show (nw (m:Int)).cps.size=_
  rw [← Array.length_toList,Qcp,List.length_map]
 rw [e]
 exact (Nat.length_toDigits_le_iff (by decide) (by decide)).mpr (by omega)
theorem Qpz (h0:0<=n) (h1:n<1000000000):PySem.intText? (nw n)=some n:=PySem.W.KIN.num_reads h0 (by omega)
theorem Z1:Str.ofString "0" = ⟨#[48]⟩:=by decide
def wx:Str:=Str.ofString "x"
def we:Str:=Str.ofString "e"
def wo:Str:=Str.ofString "o"
def Wx (A:Nat->Int):Nat->List Str
 | 0=>[]
 | k+1=>Wx A k++(wx::(List.range 4).map λj=>nw (A (4*k+j)))
def We (m e:Nat) (A:Nat->Int):List Str:=if e=0 then [] else we::(List.range e).map λj=>nw (A (4*m+j))
def Wo (r:Int):List Str:=if 0<r then [wo,nw r] else []
def Ws (m e:Nat) (A:Nat->Int) (r:Int):List Str:=Wx A m++(We m e A++Wo r)
theorem Ve (A:Nat->Int):∀k,(Wx A k).length=5*k
 | 0=>rfl
 | k+1=>by simp [Wx,Ve A k];omega
theorem Qg3:(We m e A).length=if e=0 then 0 else e+1:=by
 unfold We;split <;> simp
theorem Qxx:(Wo r).length=if 0<r then 2 else 0:=by
 unfold Wo;split <;> rfl
theorem Wx_x {A:Nat->Int}:∀{m k:Nat},k<m->(Wx A m)[5*k]? = some wx
 | m+1,k,h=>by
  by_cases q:k<m
  ·rw [Wx,List.getElem?_append_left (by rw [Ve];omega)];exact Wx_x q
  ·have:k=m:=by omega
   subst this
   rw [Wx,List.getElem?_append_right (by rw [Ve];omega),Ve,Nat.sub_self];rfl
theorem Wx_n {A:Nat->Int}:∀{m k j:Nat},k<m->j<4->(Wx A m)[5*k+1+j]? = some (nw (A (4*k+j)))
 | m+1,k,j,h,hj=>by
  by_cases q:k<m
  ·rw [Wx,List.getElem?_append_left (by rw [Ve];omega)];exact Wx_n q hj
  ·have:k=m:=by omega
   subst this
   rw [Wx,List.getElem?_append_right (by rw [Ve];omega),Ve,show 5*k+1+j-5*k=j+1 by omega,List.getElem?_cons_succ,List.getElem?_map,List.getElem?_range hj];rfl
theorem Ws_x {k:Nat} (h:k<m):(Ws m e A r)[5*k]? = some wx:=by
 rw [Ws,List.getElem?_append_left (by rw [Ve];omega),Wx_x h]
theorem Ws_n {k:Nat} (h:k<m) (hj:j<4):(Ws m e A r)[5*k+1+j]? = some (nw (A (4*k+j))):=by
 rw [Ws,List.getElem?_append_left (by rw [Ve];omega),Wx_n h hj]
theorem Ws_e:(Ws m e A r)[5*m+i]? = (We m e A++Wo r)[i]?:=by
 rw [Ws,List.getElem?_append_right (by rw [Ve];omega),Ve,show 5*m+i-5*m=i by omega]
theorem Qxv (h:0<e):(Ws m e A r)[5*m]? = some we:=by
 have:=Ws_e (m:=m) (e:=e) (i:=0) (A:=A) (r:=r)
 rw [Nat.add_zero] at this
 rw [this,We,if_neg (by omega)];rfl
theorem Qxu (h:j<e):(Ws m e A r)[5*m+1+j]? = some (nw (A (4*m+j))):=by
 rw [Nat.add_assoc,Ws_e,List.getElem?_append_left (by rw [Qg3,if_neg (by omega)];omega),We,if_neg (by omega),Nat.add_comm,List.getElem?_cons_succ,List.getElem?_map,List.getElem?_range h];rfl
def eo (m e:Nat):Nat:=if e=0 then 5*m else 5*m+1+e
theorem Ws_o:(Ws m e A r)[eo m e+i]? = (Wo r)[i]?:=by
 have h:eo m e=5*m+(We m e A).length:=by unfold eo;rw [Qg3];split <;> omega
 rw [h,Nat.add_assoc,Ws_e,List.getElem?_append_right (by omega),show (We m e A).length+i-(We m e A).length=i by omega]
theorem Qj5:(Ws m e A r).length=eo m e+if 0<r then 2 else 0:=by
 rw [Ws,List.length_append,List.length_append,Ve,Qg3,Qxx]
 unfold eo;split <;> split <;> omega
theorem Quu {w:Str} (h:(Ws m e A r)[5*m]? = some w):w≠wx:=by
 by_cases he:0<e
 ·rw [Qxv he] at h;cases h;decide
 ·have:=Ws_o (m:=m) (e:=e) (i:=0) (A:=A) (r:=r)
  rw [show eo m e=5*m by unfold eo;rw [if_pos (by omega)],Nat.add_zero] at this
  rw [this] at h
  unfold Wo at h
  split at h
  ·cases h;decide
  ·cases h
theorem Qxw:∀w∈Ws m e A r,w=wx\/w=we\/w=wo\/w=nw r/\0<r\/∃i,w=nw (A i):=by
 have hx:∀k,∀w∈Wx A k,w=wx\/∃i,w=nw (A i):=by
  intro k
  induction k with
  | zero=>intro w h;cases h
  | succ k ih =>
   intro w h
   rcases List.mem_append.mp h with h | h
   ·exact ih w h
   ·rcases List.mem_cons.mp h with h | h
    ·exact .inl h
    ·obtain ⟨j,_,rfl⟩:=List.mem_map.mp h;exact .inr ⟨_,rfl⟩
 intro w h
 rcases List.mem_append.mp h with h | h
 ·rcases hx m w h with h | h
  ·exact .inl h
  ·exact .inr (.inr (.inr (.inr h)))
 ·rcases List.mem_append.mp h with h | h
  ·unfold We at h
   split at h
   ·cases h
   ·rcases List.mem_cons.mp h with h | h
    ·exact .inr (.inl h)
    ·obtain ⟨j,_,rfl⟩:=List.mem_map.mp h;exact .inr (.inr (.inr (.inr ⟨_,rfl⟩)))
  ·unfold Wo at h
   split at h
   ·rename_i hr
    rcases List.mem_cons.mp h with h | h
    ·exact .inr (.inr (.inl h))
    ·exact .inr (.inr (.inr (.inl ⟨List.mem_singleton.mp h,hr⟩)))
   ·cases h
structure Gd (A:Nat->Int) (r:Int):Prop where
 a:∀i,0<=A i/\A i<1000000000
 r:0<=r/\r<1000000000
theorem Qfe (g:Gd A r):∀w∈Ws m e A r,1<=w.length/\w.length<=9:=λw hw=>by
 have h1:∀{n:Int},0<=n->1<=(nw n).length:=λh=>by
  obtain ⟨c,q,e2,_⟩:=Qmw h
  show 1<=(nw _).cps.size
  rw [← Array.length_toList,e2];simp
 rcases Qxw w hw with rfl | rfl | rfl | ⟨rfl,_⟩ | ⟨i,rfl⟩
 ·decide
 ·decide
 ·decide
 ·exact ⟨h1 g.r.1,Qd7 g.r.1 g.r.2⟩
 ·exact ⟨h1 (g.a i).1,Qd7 (g.a i).1 (g.a i).2⟩
def tx (m e:Nat) (A:Nat->Int) (r:Int):Str:=glued (Str.ofString " ") (Ws m e A r)
theorem Qst (g:Gd A r) (hm:m<=100) (he:e<=100):Builtin.Str.tooLong ((Ws m e A r).toArray.foldl (λn w=>n+w.length+(Str.ofString " ").length) 0)=false:=by
 refine StrLaws.joinFits (B:=9) (λy hy=>(Qfe g y hy).2) ?_
 rw [show (Str.ofString " ").length=1 by decide,Qj5]
 unfold eo
 split <;> split <;> omega
theorem Qu8 (h:∀w∈ws,w.length<=9):(ws.map (·.length)).sum<=9*ws.length:=by
 induction ws with
 | nil=>simp
 | cons w ws ih =>
  have:=ih λv hv=>h v (List.mem_cons_of_mem _ hv)
  have:=h w List.mem_cons_self
  simp only [List.map_cons,List.sum_cons,List.length_cons];omega
theorem Quz (g:Gd A r) (hm:m<=100) (he:e<=100):(tx m e A r).length<=10000/\(Ws m e A r≠[]->0<(tx m e A r).length):=by
 unfold tx
 rw [StrLaws.glued_eq_join]
 have hl:=Qj5 (m:=m) (e:=e) (A:=A) (r:=r)
 have hl2:(Ws m e A r).length<=700:=by rw [hl];unfold eo;split <;> split <;> omega
 have hs:=Qu8 (ws:=Ws m e A r) λw hw=>(Qfe g w hw).2
 cases q:Ws m e A r with
 | nil=>exact ⟨by show Str.empty.length<=_;decide,λh=>absurd rfl h⟩
 | cons a l =>
  rw [q] at hl2 hs
  have h1:=(Qfe (m:=m) (e:=e) g a (by rw [q];exact List.mem_cons_self)).1
  rw [PyProof.Rows.len_join_cons]
  simp only [List.map_cons,List.sum_cons,List.length_cons,show (Str.ofString " ").length=1 by decide,Nat.mul_one] at hl2 hs ⊢
  exact ⟨by omega,λ_=>by omega⟩
section
variable {i:Int}
theorem Qfx:dStr [.int i] k=(i.natAbs.log2<1920/\k (.str (nw i))):=rfl
theorem Qas:Qia [.str x] k=oget (PySem.intText? x) λn=>x.length<=640/\k (.int n):=rfl
theorem Qet {k:Str->Prop}:Qu9 (.str y) k=k y:=rfl
theorem Qi4 {k:List D->Prop}:Qlu (.str x) k=(x.cps.all (· < 128)=true/\k (sgn x)):=rfl
theorem Qi5:Qcy (.lst xs) [.lst ys] kk=(Qo ys=true/\xs.length+ys.length<=sizeLine/\kk .non (.lst (xs++ys))):=rfl
theorem Ql8:dLen [.str x] k=(x.length<=sizeLine/\k (.int x.length)):=rfl
theorem Qri:dIx (.str x) (.int i) k=(x.length<=sizeLine/\oget (L2.atI x.cps.toList i) λc=>k (.str ⟨#[c]⟩)):=rfl
theorem Ql9:dAll [.lst (ds.map λ_=>.bl true)] k=k (.bl true):=by
 have e:(ds.map λ_=>D.bl true)=(ds.map λ_=>true).map D.bl:=by rw [List.map_map];rfl
 rw [e,Qrk]
 have:(ds.map λ_=>true).all id=true:=by simp
 rw [this]
theorem Vw (h0:0<=n) (h1:n<1000000000):n.natAbs.log2<1920:=by
 by_cases h:n.natAbs=0
 ·rw [h];decide
 ·have:=(Nat.log2_lt h (k:=30)).mpr (by omega)
  omega
theorem small {n:Nat} (h:n<=100000):n<sizeLine:=Nat.lt_of_le_of_lt h (by decide)
theorem Za:Qo (ws.map D.str)=true:=Q6 λ_ _=>rfl
end
end S03
variable {c:PySem.Str}
namespace S24
open PySem PySem.Spec L2 PV S03
open PySem.Builtin.Str (glued occurrences strSub subAt)
theorem Qw8 (h1:c.length=1) {B:Nat} (h:∀w∈ws,w.length<=B):(glued c ws).length<=ws.length*B+ws.length:=by
 rw [StrLaws.glued_eq_join]
 cases ws with
 | nil=>exact Nat.zero_le _
 | cons a l =>
  rw [PyProof.Rows.len_join_cons,h1,Nat.mul_one]
  have hs:∀l:List Str,(∀w∈l,w.length<=B)->(l.map (·.length)).sum<=l.length*B:=by
   intro l
   induction l with
   | nil=>intro _;simp
   | cons w l ih =>
    intro h
    have a1:=h w List.mem_cons_self
    have a2:=ih λv hv=>h v (List.mem_cons_of_mem _ hv)
    simp only [List.map_cons,List.sum_cons,List.length_cons,Nat.add_mul,Nat.one_mul]
    omega
  have:=hs _ h
  simp only [List.length_cons] at this ⊢
  omega
end S24
variable {b:PySem.Addr} {e:PySem.Expr} {k:Nat} {ws:PV.WS} {m:Bool}
namespace PV
open PySem PySem.Spec L2
open PySem.W (Dat kqdP kqdPs kqdOk)
open PyProof.Rows (reads_tuple_at eq_dataH)
section
variable {b:Expr}
def Qxl (d:D) (k:List D->Prop):Prop:=match d with
 | .lst es=>Qo es=true/\k (U5 0 es)
 | _=>False
def Qb4 (i:Nat):WL:=λρ Q=>oget (look ρ i) λd=>Qxl d λl=>Q l ρ
theorem Qqa (hm:X.mg "enumerate" = none) (ht:T.own i=false:=by rfl) (hN:X.N[i]? = some x:=by rfl) (hv:Vis X.env.scope x:=by first | exact Or.inl rfl | exact Or.inr (Or.inl rfl) | exact Or.inr (Or.inr rfl)) (hd:(x == ("__debug__" : Str))=false:=by decide)
  (hcd:(x == ("__classdict__" : Str))=false:=by decide) (hg:Gl X "enumerate":=by rfl) (hs:starEach [.Name x p2] X.env=[(false,eval (.Name x p2) X.env)]:=by rfl) (hs2:starEach [.Name x p2] X.env=(false,eval (.Name x p2) X.env)::starEach [] X.env:=by rfl) :
  IV X T false true (.Tuple ts kt pt) (.Call (.Name "enumerate" p) [.Name x p2] [] pos) (Qb4 i):=by
 refine ⟨_,Qi8 hg hm (Js (Vt hN hv hd hcd) Vu hs2) hs,λz R σ H W ρ Q RR s hw k=>?_⟩
 obtain ⟨d,hl,q⟩:=Qn hw
 obtain ⟨fp,s0⟩:=id s
 obtain ⟨v,h1,r0⟩:=s0.at_ i d hl
 have nW:∀b∈fp i,¬W b:=λb hb hw=>s0.wr b hw (s0.ro i d hl ht b hb)
 refine ⟨v,h1,?_⟩
 generalize fp i=G at r0 nW
 cases d with
 | lst es =>
  obtain ⟨hp,q⟩:=q
  cases r0 with
  | @lst a xs _ F e1 r =>
   obtain ⟨hF,r⟩:=r.pure hp
   subst hF
   refine ⟨a,rfl,⟨xs,.of e1⟩,k _ H W _ ρ ⟨s,FrW.refl H W,λ_=>⟨Same.refl H,rfl,rfl⟩⟩ (λi H2 W2 f=>?_) q⟩
   rw [Qg5] at f
   have e2:H2 a=some (.lst xs):=f.keep _ _ e1 (nW a List.mem_cons_self)
   refine ⟨λhi=>⟨xs,.of e2,by rw [r.length];rwa [Ye] at hi⟩,λd hd=>?_⟩
   rw [Zs] at hd
   cases hd':es[i]? with
   | none=>rw [hd'] at hd;cases hd
   | some d' =>
    rw [hd'] at hd
    obtain ⟨x,B,hx,rx,sx⟩:=r.get hd'
    refine ⟨⟨xs,x,.of e2,hx⟩,λv H3 y=>?_⟩
    obtain ⟨x',t,h1,rfl,h3,rfl⟩:=y xs (.of e2)
    rw [hx] at h1
    cases h1
    have hB:B=[]:=List.sublist_nil.mp sx
    subst hB
    refine ⟨Qi h3,[],?_,λa m=>nomatch m⟩
    cases hd
    rw [Nat.zero_add]
    exact .tup Qj (.cons (F:=[]) (G:=[]) (.int _) (Reps.one ((rx.keep f λa m=>nomatch m).same (Qi h3))))
 | _=>exact (show False from q).elim
end
theorem Qrl {es:List D} {k:List D->Prop}:Qxl (.lst es) k=(Qo es=true/\k (U5 0 es)):=rfl
end PV
namespace PV
open PySem PySem.Spec L2 PyProof.Rows
section
variable {q:Pos}
theorem SR0.sameH {W:Addr->Prop} (r:SR0 K T z R H W σ ρ fp) (k:Same H H'):SR0 K T z R H' W σ ρ fp :=
 ⟨r.len,λa h=>(r.wd a h).imp λob q=>⟨k _ _ q.1,q.2⟩,λi d h=>(r.at_ i d h).imp λv q=>⟨q.1,q.2.same k⟩,r.own,r.ro,r.wr,λa h=>(r.rd a h).imp λob q=>⟨k _ _ q.1,q.2⟩,r.dis,r.fix⟩
theorem Qve {α:Type} {l:List α} {a:α} (h:j<l.length):l.set j a=l.take j++a::l.drop (j+1):=List.set_eq_take_append_cons_drop .. |>.trans (by rw [if_pos h])
end
end PV
variable {a:PySem.Addr}
namespace L2
open PySem PySem.Spec PyProof.Rows
open PySem.Sem (wp)
def DK (h h':Heap):Prop:=∀b o,h.get? b=some o->∃o',h'.get? b=some o'/\o'.dict=o.dict/\∀vs,o.data=.fields vs->∃vs':Array Value,o'.data=.fields vs'/\vs'[2]? = vs[2]?
theorem DK.refl (h:Heap):DK h h:=λ_ o e=>⟨o,e,rfl,λvs d=>⟨vs,d,rfl⟩⟩
theorem DK.trans {h2:Heap} (x:DK h h1) (y:DK h1 h2):DK h h2:=λb o e =>
 let ⟨o1,e1,d1,f1⟩:=x b o e
 let ⟨o2,e2,d2,f2⟩:=y b o1 e1
 ⟨o2,e2,d2.trans d1,λvs d=>let ⟨v1,g1,k1⟩:=f1 vs d;let ⟨v2,g2,k2⟩:=f2 v1 g1;⟨v2,g2,k2.trans k1⟩⟩
theorem DK.upd {f:Obj->Obj} (hf:∀o,h.get? a=some o->(f o).isFreed=false/\(f o).dict=o.dict/\∀vs,o.data=.fields vs->∃vs':Array Value,(f o).data=.fields vs'/\vs'[2]? = vs[2]?):DK h (h.update a f):=λb o e=>by
 by_cases z:a=b
 ·subst z
  exact ⟨_,Heap.get?_update_self f e (hf o e).1,(hf o e).2⟩
 ·exact ⟨o,by rw [Heap.get?_update_other _ _ z];exact e,rfl,λvs d=>⟨vs,d,rfl⟩⟩
theorem DK.psh (h:Heap) (o:Obj):DK h (h.push o):=λb o' e=>⟨o',Heap.get?_push_of_some _ e,rfl,λvs d=>⟨vs,d,rfl⟩⟩
structure KD {α:Type} (t:Sem α):Prop where
 out:∀(M:Model) (Γ:PySem.Ctx) (Q:α->Pos->Shared->Prop) (E:Value->Pos->Shared->Prop) (p:Pos) (s:Shared),wp M Γ t Q E p s->wp M Γ t (λa p' s'=>Q a p' s'/\DK s.heap s'.heap) (λe p' s'=>E e p' s'/\DK s.heap s'.heap) p s
end L2
namespace L2.KD
open PySem PySem.Spec PyProof.Rows
open PySem.Sem (wp)
section
variable {α β:Type}
theorem pure (a:α):KD (Pure.pure a:Sem α):=⟨λ_ _ _ _ _ _ h=>⟨h,.refl _⟩⟩
theorem unsupported (w:String):KD (PySem.unsupported w:Sem α):=⟨λ_ _ _ _ _ _ h=>h⟩
theorem bind {m:Sem α} {f:α->Sem β} (hm:KD m) (hf:∀a,KD (f a)):KD (m >>= f):=⟨λM Γ Q E p s h=>by
 rw [Sem.wp_bind'] at h ⊢
 refine Sem.wp_mono M Γ m (λa p' s' h'=>?_) (λ_ _ _ x=>x) p s (hm.out M Γ _ E p s h)
 exact Sem.wp_mono M Γ (f a) (λ_ _ _ x=>⟨x.1,h'.2.trans x.2⟩) (λ_ _ _ x=>⟨x.1,h'.2.trans x.2⟩) p' s' ((hf a).out M Γ Q E p' s' h'.1)⟩
theorem ite {c:Prop} [Decidable c] {t u:Sem α} (ht:KD t) (hu:KD u):KD (if c then t else u):=by split <;> assumption
theorem load (a:Addr):KD (PySem.load a):=⟨λ_ _ _ _ _ _ ⟨o,e,h⟩=>⟨o,e,h,.refl _⟩⟩
theorem update {f:Obj->Obj} (hf:∀o:Obj,o.isFreed=false->(f o).isFreed=false/\(f o).dict=o.dict/\(f o).data=o.data):KD (PySem.update a f):=⟨λ_ _ _ _ _ _ ⟨e,h⟩=>⟨e,h,DK.upd λo q=>let ⟨a1,a2,a3⟩:=hf o (Heap.get?_some_iff.mp q).2;⟨a1,a2,λvs d=>⟨vs,a3.trans d,rfl⟩⟩⟩⟩
theorem stack:KD PySem.stack:=⟨λ_ _ _ _ _ _ h=>⟨h,.refl _⟩⟩
theorem alloc (o:Obj):KD (PySem.alloc o):=⟨λ_ _ _ _ _ _ h=>⟨h,.psh _ _⟩⟩
theorem field (v:Value) (i:Nat):KD (PySem.field v i):=⟨λM Γ Q E p s h=>by
 obtain ⟨a,o,vs,x,e1,e2,e3,e4,q⟩:=(wp_field_iff Γ v i Q E p s).mp h
 exact (wp_field_iff Γ v i _ _ p s).mpr ⟨a,o,vs,x,e1,e2,e3,e4,q,.refl _⟩⟩
theorem setField (v:Value) (i:Nat) (x:Value) (hi:i≠2:=by decide):KD (PySem.setField v i x):=⟨λM Γ Q E p s h=>by
 obtain ⟨a,o,vs,e1,e2,e3,e4,q⟩:=(wp_setField_iff Γ v i x Q E p s).mp h
 refine (wp_setField_iff Γ v i x _ _ p s).mpr ⟨a,o,vs,e1,e2,e3,e4,q,DK.upd λo' q'=>?_⟩
 rw [e2] at q'
 cases q'
 refine ⟨Obj.isFreed_of_fields (Obj.data_mapFields e3 _),by obtain ⟨c,d,dt,sl⟩:=o;cases e3;rfl,λvs' q=>⟨_,Obj.data_mapFields e3 _,?_⟩⟩
 rw [e3] at q
 cases q
 rw [Array.getElem?_setIfInBounds_ne hi]⟩
end
end L2.KD
variable {A:PySem.Around}
namespace L2
open PySem PySem.Spec PyProof.Rows
open PySem.Sem (wp)
theorem Qna (env:PySem.Env) (outer:List PySem.Env):KD (behindIsImport env outer):=by
 unfold behindIsImport
 repeat' (with_reducible first | assumption | exact KD.pure _ | exact KD.unsupported _ | exact KD.field _ _ | exact KD.setField _ _ _ | exact KD.load _ | exact KD.stack | exact KD.alloc _ | apply KD.ite | apply KD.bind | intro _ | split)
theorem Qp5:KD underTheClaimsCaller:=by
 unfold underTheClaimsCaller
 repeat' (with_reducible first | assumption | exact KD.pure _ | exact KD.unsupported _ | exact KD.field _ _ | exact KD.setField _ _ _ | exact KD.load _ | exact KD.stack | exact KD.alloc _ | apply KD.ite | apply KD.bind | intro _ | split)
theorem Qt4 (env:PySem.Env) (i:Bool) (l:List PySem.Env):KD (keptBack env i l):=by
 have:=Qp5
 cases l <;> unfold keptBack <;> repeat' (with_reducible first | assumption | exact KD.pure _ | exact KD.unsupported _ | exact KD.field _ _ | exact KD.setField _ _ _ | exact KD.load _ | exact KD.stack | exact KD.alloc _ | apply KD.ite | apply KD.bind | intro _ | split)
theorem Qjl:∀l:List PySem.Env,KD (readyFrames l)
 | []=>KD.pure _
 | env::outer=>by
  have ih:=Qjl outer
  have h1:=Qna env outer
  have h2:=λi=>Qt4 env i outer
  unfold readyFrames
  repeat' (with_reducible first | assumption | exact KD.pure _ | exact KD.unsupported _ | exact KD.field _ _ | exact KD.setField _ _ _ | exact KD.load _ | exact KD.stack | exact KD.alloc _ | apply KD.ite | apply KD.bind | intro _ | split)
  ·exact h2 _
  ·refine KD.update ?_
   intro o h
   obtain ⟨c,d,dt,sl⟩:=o
   cases dt <;> first | exact ⟨rfl,rfl,rfl⟩ | cases h
theorem Qm9:KD frameEnvs:=by
 unfold frameEnvs
 repeat' (with_reducible first | assumption | exact KD.pure _ | exact KD.unsupported _ | exact KD.field _ _ | exact KD.setField _ _ _ | exact KD.load _ | exact KD.stack | exact KD.alloc _ | apply KD.ite | apply KD.bind | intro _ | split)
theorem Qdh (l:List PySem.Env):KD (frameObject l):=by
 cases l with
 | nil=>exact KD.pure _
 | cons env outer =>
  have:=Qjl (env::outer)
  unfold frameObject
  repeat' (with_reducible first | assumption | exact KD.pure _ | exact KD.unsupported _ | exact KD.field _ _ | exact KD.setField _ _ _ | exact KD.load _ | exact KD.stack | exact KD.alloc _ | apply KD.ite | apply KD.bind | intro _ | split)
theorem Qkt (env:PySem.Env):KD (PySem.frameOf env):=by
 have h1:=Qm9
 have h2:=Qdh
 unfold PySem.frameOf
 repeat' (with_reducible first | assumption | exact KD.pure _ | exact KD.unsupported _ | exact KD.field _ _ | exact KD.setField _ _ _ | exact KD.load _ | exact KD.stack | exact KD.alloc _ | apply KD.ite | apply KD.bind | intro _ | split)
 all_goals first | exact h2 _ | skip
theorem Qp6 (f:Addr) (b:Bool):KD (entryPlaceOf f b):=by
 unfold entryPlaceOf
 repeat' (with_reducible first | assumption | exact KD.pure _ | exact KD.unsupported _ | exact KD.field _ _ | exact KD.setField _ _ _ | exact KD.load _ | exact KD.stack | exact KD.alloc _ | apply KD.ite | apply KD.bind | intro _ | split)
theorem Qp7 (a b c d e:Value) (l:List Value):KD (EntryCells.newEntry a b c d e l):=by
 unfold EntryCells.newEntry newFields newObj newObjAsIs
 repeat' (with_reducible first | assumption | exact KD.pure _ | exact KD.unsupported _ | exact KD.field _ _ | exact KD.setField _ _ _ | exact KD.load _ | exact KD.stack | exact KD.alloc _ | apply KD.ite | apply KD.bind | intro _ | split)
theorem Qm8 (e:Value) (env:PySem.Env):KD (noteFrame e env):=by
 have h1:=Qkt env
 have h2:=λf b=>Qp6 f b
 have h3:=λa b c d e l=>Qp7 a b c d e l
 unfold noteFrame
 repeat' (with_reducible first | assumption | exact KD.pure _ | exact KD.unsupported _ | exact KD.field _ _ | exact KD.setField _ _ _ | exact KD.load _ | exact KD.stack | exact KD.alloc _ | apply KD.ite | apply KD.bind | intro _ | split)
 all_goals first | exact h2 _ _ | exact h3 _ _ _ _ _ _ | skip
theorem Qcu (e:Value) (f:Option Addr):KD (setFlight e f):=by
 unfold setFlight
 repeat' (with_reducible first | assumption | exact KD.pure _ | exact KD.unsupported _ | exact KD.field _ _ | exact KD.setField _ _ _ | exact KD.load _ | exact KD.stack | exact KD.alloc _ | apply KD.ite | apply KD.bind | intro _ | split)
theorem Qd9 (env:PySem.Env) (e:Value):KD (leaving env e):=by
 have h1:=Qm8 e env
 have h2:=λf=>Qcu e f
 unfold leaving
 repeat' (with_reducible first | assumption | exact KD.pure _ | exact KD.unsupported _ | exact KD.field _ _ | exact KD.setField _ _ _ | exact KD.load _ | exact KD.stack | exact KD.alloc _ | apply KD.ite | apply KD.bind | intro _ | split)
 all_goals exact h2 _
theorem KD.any {α:Type} {t:Sem α} (k:KD t) {M:Model} {Q:α->Shared->Prop} (h:wpAny M A t Q E s):wpAny M A t (λa s'=>Q a s'/\DK s.heap s'.heap) (λe s'=>E e s'/\DK s.heap s'.heap) s:=λΓ p i=>k.out M Γ _ _ p s (h Γ p i)
end L2
variable {w:PySem.World} {Q:Unit->PySem.Shared->Prop} {d:PySem.Drawn} {rest bm sub:List PySem.Value} {fI:PySem.Addr} {nm:PySem.Str} {sn:List PySem.Str} {ab hdct:Bool} {col:Option Bool} {dd:Option PySem.Addr} {k0:Nat} {newId initId:String}
namespace L2
open PySem PySem.Spec PyProof.Rows
open PySem.W (findIn subIn mroIn clsIn Looks looks_findIn looks_subIn)
section
variable {q:Str} {N:Addr} {k0 k1 k2 k3 k5:Option Value} {B:String}
theorem Qkf (F:ExcBaseFacts B newId initId bmB) (T:OwnTail h bmB bm) {Q:Fin->Shared->Prop} (X:K.In h)
  (hC:h.get? C=some (excClassObj nm q C N bs bm hdct sn sub ab col dd k0 k1 k2 k3 k5 newId)) (hi:findIn K (.ref C) "__init__" = some (some (.ref fI))) (hf:typeIn K (.ref fI)=some (.type "function"))
  (hq:∀h' e,Heap.MadeExcOf h h' e (.ref C) rest->e=h.objs.size+1 -> 
   codeAny (model prog w) A (.call (.ref fI) ⟨.ref e::rest,[]⟩) (λr s'=>r=.ok (.ret .none)/\Q (.done (.ret (.ref e))) s') ⟨h',g,d,t,os⟩) (hrest:rest.length<=sizeLine:=by size_fits) :
  wpAny (model prog w) A (Builtin.«type.__call__» ⟨.ref C::rest,[]⟩) Q E ⟨h,g,d,t,os⟩:=by
 repeat (first | with_reducible refine wpAny_loadPart_at hC ?_ | with_reducible refine wpAny_madeBy_exc hC ?_ | wp_step)
 refine codeAny_call_builtin_code (Code.quiet_builtin _ F.quiet) (wpAny_check_new_subT F T hC ?_)
 refine codeAny_exc_new_subT F T hC ?_ hrest
 show wpAny _ _ _ _ _ _
 have kp:∀b o,h.get? b=some o->((h.push { cls:=.type "tuple",data:=.seq rest.toArray }).push { cls:=.ref C,data:=.fields #[.ref h.objs.size,.none,.none,.none,.bool false,.none] }).get? b=some o:=λb o e=>Heap.get?_push_of_some _ (Heap.get?_push_of_some _ e)
 have hC₁:=kp _ _ hC
 have X₁:=X.keeps kp
 have hget:((h.push { cls:=.type "tuple",data:=.seq rest.toArray }).push
   { cls:=.ref C,data:=.fields #[.ref h.objs.size,.none,.none,.none,.bool false,.none] }).get? (h.objs.size+1)=some
   { cls:=.ref C,data:=.fields #[.ref h.objs.size,.none,.none,.none,.bool false,.none] }:=by heap_get
 have hcC:(Value.ref C::bm).contains (.ref C)=true:=by simp
 have L1:=looks_findIn (M:=model prog w) X₁ hi
 have L2:=PySem.W.bind_fn (M:=model prog w) X₁ (.ref (h.objs.size+1)) hf
 unfold isInstance
 repeat (first | with_reducible refine wpAny_loadPart_at hget ?_ | (with_reducible refine wpAny_isSubtype_exc hC₁ ?_;rw [hcC]) | wp_step)
 show wpAny _ _ (typeLookup (.ref C) _) _ _ _
 refine L1.at ?_
 refine wpAny_holding (wpAny_bind (L2.at ?_))
 refine wpAny_bind (wpAny_call (codeAny_mono (hq _ (h.objs.size+1) ⟨kp,Heap.get?_none_of_le (Nat.le_succ _),h.objs.size,hget,Heap.get?_none_of_le (Nat.le_refl _),Heap.get?_push_of_some _ (Heap.get?_push_at rfl rfl)⟩ rfl) λr s' hr=>?_))
 obtain ⟨rfl,hQ⟩:=hr
 wp_walk
 exact hQ
theorem Qor (F:ExcBaseFacts B newId initId bmB) (T:OwnTail h bmB bm) {Q:Value->Shared->Prop} (X:K.In h)
  (hC:h.get? C=some (excClassObj nm q C N bs bm hdct sn sub ab col dd k0 k1 k2 k3 k5 newId)) (hi:findIn K (.ref C) "__init__" = some (some (.ref fI))) (hf:typeIn K (.ref fI)=some (.type "function"))
  (hq:∀h' e,Heap.MadeExcOf h h' e (.ref C) rest->e=h.objs.size+1 ->
   codeAny (model prog w) (A.under (.builtin "type.__call__" ⟨.ref C::rest,[]⟩)) (.call (.ref fI) ⟨.ref e::rest,[]⟩) (λr s'=>r=.ok (.ret .none)/\Q (.ref e) s') ⟨h',g,d,t,os⟩) (hrest:rest.length<=sizeLine:=by size_fits) :
  wpAny (model prog w) A (call (.ref C) rest) Q E ⟨h,g,d,t,os⟩:=by
 have f1:=tc_lookup
 have f2:=tc_bind (.ref C)
 have hT:(⟨h,g,d,t,os⟩:Shared).TypeIs (.ref C) "type":=⟨_,hC,rfl⟩
 refine wpAny_call (codeAny_of_tree ?_)
 show wpAny _ _ (callAny (.ref C) _) _ _ _
 repeat (any_goals (first | assumption | with_reducible refine wpAny_loadPart_at hC ?_ | wp_step))
 refine ⟨rfl,?_⟩
 refine codeAny_call_builtin_at (Code.quiet_builtin _ (by decide +kernel)) entry_typeCall (wpAny_check_type_call_sub hC (Qkf (hrest:=hrest) F T X hC hi hf λh' e hm he=>?_))
 exact hq h' e hm he
end
end L2
variable {dx:Option PySem.Addr}
namespace L2
open PySem PySem.Spec PyProof.Rows
open PySem.W (findIn subIn mroIn clsIn Looks looks_findIn looks_subIn)
open Builtin Builtin.ObjectAttr
abbrev Xu (C t:Addr) (dx:Option Addr):Obj:={ cls:=.ref C,dict:=dx,data:=.fields #[.ref t,.none,.none,.none,.bool false,.none] }
theorem Qch (T:OwnTail h bmB bm) (self:Value) (what:Str):refuseLoop self what bm=refuseLoop self what bmB:=by
 induction T with
 | base=>rfl
 | own _ _ _ _ ih=>rw [refuseLoop_ref,ih]
section
variable {q:Str} {N x t0:Addr} {k0 k1 k2 k3 k5:Option Value} {B sa owner:String} {v:Value}
theorem Qkz (F:ExcBaseFacts B newId initId bmB) (T:OwnTail h bmB bm) {R:Result->Shared->Prop}
  (hC:h.get? C=some (excClassObj nm q C N bs bm hdct sn sub ab col dd k0 k1 k2 k3 k5 newId)) (he:h.get? x=some (Xu C t0 dx))
  (hq:∀h',(∃t1,h'.get? x=some (Xu C t1 dx))->(∀b o,b≠x->h.get? b=some o->h'.get? b=some o)->R (.ok (.ret .none)) ⟨h',g,d,t,os⟩) :
  codeAny (model prog w) A (.call (.builtin initId) ⟨[.ref x,u],[]⟩) R ⟨h,g,d,t,os⟩:=by
 refine codeAny_call_builtin F.init.plain F.initEntry (wpAny_check_init_subT F T hC he rfl ?_)
 wp_walk
 refine hq _ ⟨h.objs.size,?_⟩ λb o hb e=>?_
 ·rw [Heap.get?_update_self _ (Heap.get?_push_of_some _ he) rfl]
  rfl
 ·rw [Heap.get?_update_other _ _ (Ne.symm hb)]
  exact Heap.get?_push_of_some _ e
theorem Qk0 (SF:StoreFacts B bmB sa owner) (T:OwnTail h bmB bm) {Q:Fin->Shared->Prop} (X:K.In h)
  (hC:h.get? C=some (excClassObj nm q C N bs bm true sn sub ab col dd k0 k1 k2 k3 k5 newId)) (hna:findIn K (.ref C) name=some none) (he:h.get? x=some (Xu C t0 none))
  (hq:∀h' tk',h'.get? x=some (Xu C t0 (some h.objs.size))->h'.Ns1 h.objs.size (λy=>if y=name then some v else none)->(∀b o,b≠x->h.get? b=some o->h'.get? b=some o)->Q (.done (.ret .none)) ⟨h',g,d,tk',os⟩) :
  wpAny (model prog w) A (Builtin.«object.__setattr__» ⟨[.ref x,.str name tk,v],[]⟩) Q E ⟨h,g,d,t,os⟩:=by
 have L2:=looks_findIn (M:=model prog w) X hna
 have hpass:refuseLoop (.ref x) "__setattr__" (.ref C::bm)=pure ():=by rw [refuseLoop_ref,Qch T];exact SF.passes _
 obtain ⟨o,eo⟩:∃o,o=Xu C t0 none:=⟨_,rfl⟩
 have hc:o.cls=.ref C:=by rw [eo]
 have hdn:o.dict=none:=by rw [eo]
 have hdt:∀c,o.data ≠ .cls c:=λc z=>by rw [eo] at z;cases z
 rw [← eo] at he
 unfold Builtin.«object.__setattr__»
 repeat (first | rw [refuse_eq] | rw [hpass] | (with_reducible refine wpAny_loadPart_at he ?_;rw [hc]) | with_reducible refine wpAny_mroOf_exc hC ?_ | with_reducible refine L2.at ?_ | wp_step)
 rw [hdn,if_neg (by simp [typeHasDict])]
 split
 ·rename_i hcd
  cases hcd
 split
 ·rename_i c hcd
  exact absurd hcd (hdt c)
 have hx₁:(h.push { cls:=.type "dict",data:=.dict #[] }).get? x=some o:=Heap.get?_push_of_some _ he
 have hxs:x≠h.objs.size:=Nat.ne_of_lt (Heap.lt_size he)
 refine wpAny_bind (wpAny_alloc' ?_)
 refine wpAny_bind (wpAny_update' hx₁ ?_)
 refine wpAny_pure ?_
 have hgd:((h.push { cls:=.type "dict",data:=.dict #[] }).update x λo=>{ cls:=o.cls,dict:=some h.objs.size,data:=o.data,slots:=o.slots }).get? h.objs.size
   = some { cls:=.type "dict",data:=.dict #[] }:=(Heap.get?_update_ne _ _ _ _ hxs.symm).trans (Heap.get?_push_at rfl rfl)
 have hnd:((h.push { cls:=.type "dict",data:=.dict #[] }).update x λo=>{ cls:=o.cls,dict:=some h.objs.size,data:=o.data,slots:=o.slots }).Ns h.objs.size (λ_=>none) :=
  ⟨_,#[],_,hgd,rfl,λe he=>absurd he (by simp),λ_=>rfl⟩
 show wpAny _ _ (storeInDict h.objs.size (.str name tk) name v) _ _ _
 unfold storeInDict newKeyGuard
 refine wpAny_bind (wpAny_pure (wpAny_bind (wpAny_nsSet1 (Heap.Ns1.of_empty hnd) λh' hn' hs=>?_)))
 obtain ⟨oD,esD,epD,hoD,hdD,hcD⟩:=hn'.count (Within.cons name v Within.nil)
 refine wpAny_bind (wpAny_lookBehind hoD (by rw [hdD];exact pastItsLine_dict (Nat.le_trans hcD (by rw [List.length_cons,List.length_nil,sizeLine_eq];omega))) ?_)
 wp_walk
 subst eo
 refine hq h' _ ((hs.2 x hxs).trans (Heap.get?_update_self _ hx₁ rfl)) hn' λb ob hbx hb=>?_
 exact (hs.2 b (Nat.ne_of_lt (Heap.lt_size hb))).trans ((Heap.get?_update_ne _ _ _ _ hbx).trans (Heap.get?_push_of_some _ hb))
theorem Qns (SF:StoreFacts B bmB sa owner) (T:OwnTail h bmB bm) (X:K.In h)
  (hC:h.get? C=some (excClassObj nm q C N bs bm true sn sub ab col dd k0 k1 k2 k3 k5 newId)) (hs:findIn K (.ref C) "__setattr__" = some (some (.builtin sa))) (hna:findIn K (.ref C) name=some none) (he:h.get? x=some (Xu C t0 none))
  (hq:∀h' tk',h'.get? x=some (Xu C t0 (some h.objs.size))->h'.Ns1 h.objs.size (λy=>if y=name then some v else none)->(∀b o,b≠x->h.get? b=some o->h'.get? b=some o)->Q () ⟨h',g,d,tk',os⟩) :
  wpAny (model prog w) A (setAttr (.ref x) name v) Q E ⟨h,g,d,t,os⟩:=by
 have f3:=SF.slot.bind (.ref x)
 have hc:(Xu C t0 none).cls=.ref C:=rfl
 have L1:=looks_findIn (M:=model prog w) X hs
 have L2:=looks_findIn (M:=model prog w) X hna
 have hcB:(Value.ref C::bm).contains (.type owner)=true:=by rw [List.contains_cons,T.hasType SF.hasOwner,Bool.or_true]
 have hpass:refuseLoop (.ref x) "__setattr__" (.ref C::bm)=pure ():=by rw [refuseLoop_ref,Qch T];exact SF.passes _
 unfold setAttr callSpecial? specialOf
 repeat (any_goals (first | assumption | with_reducible refine wpAny_loadPart_at he ?_ | with_reducible refine L1.at ?_ | wp_step))
 refine codeAny_call_builtin SF.slot.plain SF.entry ?_
 have ha:=SF.args (.ref x) (.str name t) v
 simp only [checkBuiltinCall,SF.kind,SF.split]
 refine wpAny_bind ?_
 unfold isInstance
 repeat (first | with_reducible refine wpAny_loadPart_at he ?_ | (with_reducible refine wpAny_isSubtype_exc hC ?_;rw [hcB]) | wp_step)
 have key:=Qk0 (prog:=prog) (w:=w) (A:=A.in1) (E:=E) (g:=g) (d:=d) (t:=t+1) (os:=os) (tk:=t) SF T X hC hna he (Q:=λfin s'=>match fin with
  | .done (.ret _)=>Q () s'
  | _=>False) λh' tk' a b c=>hq h' tk' a b c
 cases hsig:Manifest.signature? sa with
 | none =>
  refine wpAny_pure (wpAny_mono key (λfin s' z=>?_) λ_ _ y=>y)
  rcases fin with (_ | _ | _ | _) | _ <;> first | exact wpAny_pure (wpAny_pure z) | exact False.elim z
 | some sig =>
  simp only [argsOk,hsig] at ha
  have h2:Bind.checkArgs sa sig ⟨[.ref x,.str name t,v],[]⟩=pure ():=ha
  show wpAny (model prog w) A.in1 (Bind.checkArgs sa sig ⟨[.ref x,.str name t,v],[]⟩) _ E _
  rw [h2]
  refine wpAny_pure (wpAny_mono key (λfin s' z=>?_) λ_ _ y=>y)
  rcases fin with (_ | _ | _ | _) | _ <;> first | exact wpAny_pure (wpAny_pure z) | exact False.elim z
end
end L2
variable {P:PySem.Program} {tE:PySem.Addr} {attr:PySem.Str}
namespace L2
open PySem PySem.Spec PyProof.Rows
open PySem.W (findIn subIn mroIn clsIn Looks looks_findIn looks_subIn hideAll of_hideAll hideAll_get hideAll_none funFrames_hide)
def exO (a C:Addr) (dx:Option Addr):HO:=.ext λh=>∃t,h.get? a=some (Xu C t dx)
theorem Qnw (e:∃t,h.get? a=some (Xu C t dx)):Yz P w H h a (exO a C dx):=⟨e,let ⟨_,q⟩:=e;⟨_,q⟩,λ_ _ ⟨t,q⟩ k=>⟨t,k _ q⟩⟩
abbrev mroV:List Value:=[.type "ValueError",.type "Exception",.type "BaseException",.type "object"]
structure ExcC (K:Frag) (C:Addr):Prop where
 obj:∃(nm q:Str) (N:Addr) (bs bm:List Value) (sn:List Str) (sub:List Value) (ab:Bool) (col:Option Bool) (dd:Option Addr) (k0 k1 k2 k3 k5:Option Value),bm.contains (.type "BaseException")=true /\
  ∀h:Heap,K.In h->h.get? C=some (excClassObj nm q C N bs bm true sn sub ab col dd k0 k1 k2 k3 k5 "ValueError.__new__")/\OwnTail h mroV bm
 sa:findIn K (.ref C) "__setattr__" = some (some (.builtin "object.__setattr__"))
section
variable {te:Str} {e1 o:Expr}
theorem Qfy (hg:Gl X te) (hm:X.mg te=some (.ref tE)) (hsp:specialIn X.K (.ref tE) "__getattribute__" = some (some (.builtin "type.__getattribute__"))) (hrd:readsIn X.K tE (.type "type")=true)
  (hfc:findCls X.K (.ref tE) (.type "type") "__init__" = some (.val (.builtin "ValueError.__init__"))) (ha:PA X (e₀::es) ta)
  (hs:swapsWith (.Call (.Attribute (.Name te p) "__init__" apos) (e₀::es) [] cpos) none pos.line X.env=pure false:=by rfl) (hdb:(te == ("__debug__" : Str))=false:=by decide)
  (he:starEach (e₀::es) X.env=(false,eval e₀ X.env)::starEach es X.env:=by rfl) (hpl:(backTo cpos (starEach es X.env)).any (·.1)=false:=by rfl)
  {pl:Sem Bool} (ht:eval (.Call (.Attribute (.Name te p) "__init__" apos) (e₀::es) [] cpos) X.env=(do
   let ov ← eval (.Name te p) X.env
   standAt apos.atName
   let (f,first) ← holding [ov] (getMethod ov "__init__" pl)
   callWith cpos f first (backTo cpos (starEach (e₀::es) X.env)) (backToKw cpos (keywordEach [] X.env))):=by rfl) :
  PS X (.Expr (.Call (.Attribute (.Name te p) "__init__" apos) (e₀::es) [] cpos) pos) (λD σ H=>ta σ H λvs H1=>∃a C v,vs=[.ref a,v]/\H1 a=some (exO a C none)/\ExcC X.K C/\D.nx σ H1):=by
 intro pins s σ H D I h
 refine wpAny_Expr_any ?_ I.quiet hs
 refine PySem.W.methodCall_KW (pl:=pl) (Xs I hg hm ?_ hdb) ht
 refine PySem.W.method_cls I.kIn hsp (PySem.W.cls_value I.kIn hrd hfc rfl ?_)
 have hA:=ha cpos pins { s with toks:=s.toks+1 } σ H _ (I.tok _) h
 rw [he] at hA ⊢
 refine Calls.callWith_builtin (by show (false || (backTo cpos (starEach es X.env)).any (·.1))=false;rw [hpl] <;> rfl) (Calls.evalArgs_plain ?_)
 refine thn hA λus s2 ⟨vs,H2,I2,r2,a,C,v,ev,hH,hC,q⟩=>?_
 subst ev
 obtain ⟨u,u2,rfl,ru,ru2⟩:=Qlk r2
 cases ru
 obtain ⟨nm,qq,N,bs,bm,sn,sub,ab,col,dd,k0,k1,k2,k3,k5,hb,hob⟩:=hC.obj
 obtain ⟨h1,h2⟩:=hob s2.heap I2.kIn
 obtain ⟨⟨t,e⟩,_⟩:=I2.hok a _ hH
 obtain ⟨hp,g,d,tk,os⟩:=s2
 refine wpAny_call (Qkz F.excBase_ValueError h2 h1 e λh' hx hk=>?_)
 refine ⟨σ,H2,?_,q⟩
 have I3:=I2.write (x:=a) (e:=a) (o:=exO a C none) (h':=h') (t':=tk) (by rw [hH];exact True.intro) (.inl rfl) (λb u hb z=>hk b u hb z) (let ⟨_,q⟩:=hx;⟨_,q⟩) (Qnw hx)
 have eq:upd H2 a (exO a C none)=H2:=funext λb=>by
  by_cases z:b=a
  ·subst z;rw [Qj,hH]
  ·rw [Qm z]
 rw [eq] at I3
 exact I3
theorem Qmb {tv:TE} (ha:PE X o to) (hv:PE X value tv) (hs:swapsWith value (some (.Attribute o attr pos')) pos.line X.env=pure false:=by rfl) :
  PS X (.Assign [.Attribute o attr pos'] value pos) (λD σ H=>tv σ H λv H1=>to σ H1 λy H2=>∃a C,y=.ref a/\H2 a=some (exO a C none)/\ExcC X.K C/\findIn X.K (.ref C) attr=some none /\
   ∀d,H2 d=none->d≠a->D.nx σ (upd (upd H2 a (exO a C (some d))) d (.xd [(attr,v)]))):=by
 intro pins s σ H D I h
 refine plainObj_wpAny_Assign_Attribute (thn (hv pins s σ H _ I h) λu s1 ⟨y,H1,I1,ry,q⟩=>thn (ha pins s1 σ H1 _ I1 q) λov s2 ⟨x,H2,I2,rx,a,C,ex,hH,hC,hn,q2⟩=>?_) hs
 subst ex
 obtain rfl:ov=Value.ref a:=rx
 obtain ⟨nm,qq,N,bs,bm,sn,sub,ab,col,dd,k0,k1,k2,k3,k5,hb,hob⟩:=hC.obj
 obtain ⟨h1,h2⟩:=hob s2.heap I2.kIn
 obtain ⟨⟨t,e⟩,_⟩:=I2.hok a _ hH
 obtain ⟨hp,g,dr,tk,os⟩:=s2
 refine Qns F.store_ValueError h2 I2.kIn h1 hC.sa hn e λh' tk' e1 ns hk=>?_
 have hne:hp.objs.size≠a:=Nat.ne_of_gt (Heap.lt_size e)
 have hf:H2 hp.objs.size=none:=I2.hok.fresh (Nat.le_refl _)
 refine ⟨σ,_,?_,q2 hp.objs.size hf hne⟩
 have nk:∀b u,H2 b=some u->¬Mut (some u)->b≠a:=λb u q nm z=>by subst z;rw [hH] at q;cases q;exact nm True.intro
 have nd:∀b u,H2 b=some u->b≠hp.objs.size:=λb u q z=>by rw [z,hf] at q;cases q
 refine I2.un (h':=h') (t':=tk') ⟨λb o q n _ _=>hk b o (λz=>by rw [z,hH] at n;cases n) q,λb o q n _ _=>⟨o.slots,hk b o (λz=>by rw [z,hH] at n;cases n) q⟩,λb o q n _=>?_,λb o q _=>?_,λb xs q=>?_,λb o u q=>?_,λb ps q=>⟨#[],?_⟩⟩ λb u q=>?_
 ·rw [Qm (Nat.ne_of_lt (Heap.lt_size q)),Qm (λz=>by rw [z,hH] at n;cases n)]
  exact n
 ·by_cases z:b=a
  ·subst z;exact ⟨_,e1⟩
  ·exact ⟨_,hk b o z q⟩
 ·rw [Qm (nd b _ q),Qm (nk b _ q λz=>z)];exact q
 ·rw [Qm (nd b _ q),Qm (nk b _ q λz=>z)];exact q
 ·rw [Qm (nd b _ q),Qm (nk b _ q λz=>z),q];simp
 ·by_cases z:b=hp.objs.size
  ·subst z
   rw [Qj] at q
   cases q
   refine ⟨_,ns,λg=>?_⟩
   by_cases zz:g=attr
   ·subst zz
    simp only [List.lookup,beq_self_eq_true,if_true]
    exact ry
   ·have:(g == attr)=false:=by simpa using zz
    simp only [List.lookup,this,if_neg zz]
    exact True.intro
  ·rw [Qm z] at q
   by_cases z2:b=a
   ·subst z2
    rw [Qj] at q
    cases q
    exact Qnw ⟨t,e1⟩
   ·rw [Qm z2] at q
    refine (I2.hok b u q).stay (λc w hc y=>hk c w ?_ y) (λc y=>?_) (λc xs y=>?_) λc o1 o2 _ y _=>?_
    ·rcases hc with rfl | hc
     ·exact z2
     ·exact nk c _ hc λz=>z
    ·rw [Qm (nd c _ y),Qm (nk c _ y λz=>z)];exact y
    ·rw [Qm (nd c _ y),Qm (nk c _ y λz=>z)];exact y
    ·rw [Qm (nd c _ y),Qm (nk c _ y λz=>z)];exact y
end
section
variable {e1 o:Expr} {e d:Addr}
def Qc7 (H:Hp) (e d:Addr) (u:HO):Hp:=λb=>if b=e then none else if b=d then some u else H b
theorem Inv.refrz (I:Inv X pins σ H s) (he:H e=some (exO e C dx)) (hd:H d=some (.xd fs)):∃od t,s.heap.get? e=some (Xu C t dx)/\Inv X pins σ (Qc7 H e d (.frz od (.xd fs))) s:=by
 obtain ⟨⟨t,e1⟩,_⟩:=I.hok e _ he
 obtain ⟨od,e2⟩:=(I.hok d _ hd).there
 refine ⟨od,t,e1,?_⟩
 have kd:∀b u,H b=some u->(∀φ,u ≠ .ext φ)->(∀fs,u ≠ .xd fs)->Qc7 H e d (.frz od (.xd fs)) b=some u:=λb u q n1 n2=>by
  unfold Qc7
  rw [if_neg (λz=>by rw [z,he] at q;cases q;exact n1 _ rfl),if_neg (λz=>by rw [z,hd] at q;cases q;exact n2 _ rfl)]
  exact q
 refine I.un (h':=s.heap) (t':=s.toks) ⟨λb o q n _ _=>q,λb o q n _ _=>⟨o.slots,q⟩,λb o q n _=>?_,λb o q _=>⟨o,q⟩,λb xs q=>kd _ _ q (λ_ z=>by cases z) (λ_ z=>by cases z),λb o u q=>kd _ _ q (λ_ z=>by cases z) (λ_ z=>by cases z),λb ps q=>⟨#[],?_⟩⟩ λb u q=>?_
 ·unfold Qc7
  by_cases z:b=e
  ·rw [if_pos z]
  ·rw [if_neg z,if_neg (λz=>by rw [z,hd] at n;cases n)]
   exact n
 ·rw [kd _ _ q (λ_ z=>by cases z) (λ_ z=>by cases z)];simp
 ·have st:∀{a u},Yz X.prog X.w H s.heap a u->Yz X.prog X.w (Qc7 H e d (.frz od (.xd fs))) s.heap a u:=λok=>ok.stay (λ_ _ _ z=>z) (λc y=>kd _ _ y (λ_ z=>by cases z) (λ_ z=>by cases z)) (λc xs y=>kd _ _ y (λ_ z=>by cases z) (λ_ z=>by cases z)) λc o1 o2 _ y _=>kd _ _ y (λ_ z=>by cases z) (λ_ z=>by cases z)
  unfold Qc7 at q
  by_cases z:b=e
  ·rw [if_pos z] at q;cases q
  ·rw [if_neg z] at q
   by_cases z2:b=d
   ·rw [if_pos z2] at q
    cases q
    subst z2
    exact ⟨e2,st (I.hok b _ hd)⟩
   ·rw [if_neg z2] at q
    exact st (I.hok b u q)
end
section
variable {e d:Addr} {M:Model} {q:Str} {N:Addr} {k0 k1 k2 k3 k5:Option Value}
theorem Qki {x:Sem Value} {Q:Flow->Shared->Prop} (hbase:bm.contains (.type "BaseException")=true) (hh:A.handled=none)
  (h:wpAny M A x (λv s₁=>∃e t dx,v=.ref e/\s₁.heap.get? C=some (excClassObj nm q C N bs bm hdct sn sub ab col dd k0 k1 k2 k3 k5 newId)/\s₁.heap.get? e=some (Xu C t dx)/\E (.ref e) s₁) E s) :
  wpAny M A (raiseStmt env (some x) none) Q E s:=by
 have hcB:(Value.ref C::bm).contains (.type "BaseException")=true:=by rw [List.contains_cons,hbase,Bool.or_true]
 unfold raiseStmt
 refine wpAny_bind (wpAny_mono h (λv s₁ h₁=>?_) λ_ _ x=>x)
 obtain ⟨e,t,dx,rfl,hC,he,hE⟩:=h₁
 obtain ⟨hp,g,d,tk,os⟩:=s₁
 repeat (first | with_reducible refine wpAny_loadPart_at he ?_ | with_reducible refine wpAny_loadPart_at hC ?_ | (with_reducible refine wpAny_isSubtype_exc hC ?_;rw [hcB]) | wp_step)
 exact wpAny_raiseNew_none hh hE
end
end L2
namespace L2
open PySem PySem.Spec PyProof.Rows
open PySem.W (hideAll of_hideAll hideAll_get hideAll_none funFrames_hide)
section
variable {M:Model} {l:List PySem.Env} {L e:Addr} {cls a0:Value}
theorem KD.unit {t:Sem Unit} (k:KD t) {R:Heap->Prop} (h:wpAny M A t (λ_ s'=>∃h',s'={ s with heap:=h' }/\R h') (λ_ _=>False) s) (hQ:∀h',R h'->DK s.heap h'->Q () { s with heap:=h' }):wpAny M A t Q E s :=
 wpAny_mono (k.any h) (λ_ s' ⟨⟨h',e,r⟩,d⟩=>by subst e;exact hQ h' r d) λ_ _ z=>z.1.elim
theorem Qt1 (hfr:A.frames=some (env::outer)) (hf:env.frame=some L) (hfl:Heap.FlyingW base (env::outer) e cls a0 s.heap)
  (hQ:∀h',Heap.FlyingW base outer e cls a0 h'/\s.heap.UpToSlots h'->DK s.heap h'->Q () { s with heap:=h' }):wpAny M A (leaving env (.ref e)) Q E s :=
 (Qd9 _ _).unit (wpAny_leaves_onW hfr hf hfl λh' a b=>⟨h',rfl,a,b⟩) hQ
theorem Qrx (hfr:A.frames=some (env::outer)) (hf:env.frame=some L) (hfl:Heap.FlyingW base (env::outer) e cls a0 s.heap)
  (hQ:∀h',Heap.HeldW base (env::outer) e cls a0 L h'/\s.heap.UpToSlots h'->DK s.heap h'->Q () { s with heap:=h' }):wpAny M A (noteFrame (.ref e) env) Q E s :=
 (Qm8 _ _).unit (wpAny_looks_onW hfr hf hfl λh' a b=>⟨h',rfl,a,b⟩) hQ
theorem Qry (hh:Heap.HeldW base l e cls a0 L s.heap) (hQ:∀h',Heap.FlyingW base l e cls a0 h'/\s.heap.UpToSlots h'->DK s.heap h'->Q () { s with heap:=h' }):wpAny M A (setFlight (.ref e) none) Q E s :=
 (Qcu _ _).unit (wpAny_landsW hh λh' a b=>⟨h',rfl,a,b⟩) hQ
theorem Qxt (hh:Heap.FlyingW base l e cls a0 s.heap) (hQ:∀h',Heap.FlyingW base l e cls a0 h'/\s.heap.UpToSlots h'->DK s.heap h'->Q () { s with heap:=h' }):wpAny M A (setFlight (.ref e) none) Q E s :=
 (Qcu _ _).unit (lands_againW hh λh' a b=>⟨h',rfl,a,b⟩) hQ
end
def DictAt (h:Heap) (e:Addr) (dx:Option Addr):Prop:=∃o,h.get? e=some o/\o.dict=dx/\∃vs:Array Value,o.data=.fields vs/\vs[2]? = some .none
theorem DictAt.on {e:Addr} (x:DictAt h e dx) (k:DK h h'):DictAt h' e dx:=by
 obtain ⟨o,a,b,vs,c1,c2⟩:=x
 obtain ⟨o',a',b',f⟩:=k e o a
 obtain ⟨vs',g1,g2⟩:=f vs c1
 exact ⟨o',a',b'.trans b,vs',g1,g2.trans c2⟩
def CXD (P:Program) (w:World) (base:Heap):CXT:=λouter H s E e s'=>∃ea C t dx B H',e=.ref ea/\Fly P w base B outer H s C ea t H' s'/\DictAt s'.heap ea dx/\E (.ref C) dx H'
section
variable {t:Addr}
theorem Qct {M:Model} (p:X.Plain) (I:Inv X pins σ H s) (he:s.heap.get? ea=some (Xu C t dx)) (hn:H ea=none) (h0:X.s₀.heap.get? ea=none)
  (hQ:∀h' B,Fly X.prog X.w X.base B X.outer X.H₀ X.s₀ C ea t H { s with heap:=h' }->DictAt h' ea dx->Q () { s with heap:=h' }):wpAny M X.A (leaving X.env (.ref ea)) Q E s:=by
 have hex:∀b,b∉X.ex:=λb=>by rw [p.ex];simp
 have hne:∀b o,X.s₀.heap.get? b=some o->b≠ea:=λb o q z=>by rw [z,h0] at q;cases q
 have hB:(hideAll s.heap (ea::frs X.stack)).StaysIn s.heap:=λb o q=>of_hideAll _ q
 have inB:∀b o,s.heap.get? b=some o->b≠ea->b∉frs X.stack->(hideAll s.heap (ea::frs X.stack)).get? b=some o:=λb o e n1 n=>hideAll_get _ e (λz=>(List.mem_cons.mp z).elim n1 n)
 have hfrm:s.heap.FunFrames (hideAll s.heap (ea::frs X.stack)) X.stack:=funFrames_hide I.stack λenv he a ha=>List.mem_cons_of_mem _ (List.mem_filterMap.mpr ⟨env,he,ha⟩)
 have hen:(hideAll s.heap (ea::frs X.stack)).get? ea=none:=hideAll_none _ (List.mem_cons_self ..)
 refine (Qd9 _ _).unit (R:=λh'=>Heap.LeftW (hideAll s.heap (ea::frs X.stack)) (X.env::X.outer) ea (.ref C) (.ref t) s.heap h') (wpAny_leaving_firstW (outer:=X.outer) (env:=X.env) (a0:=.ref t) (by rw [← p.stk];exact I.ok.frames) (by rw [← p.stk];exact hfrm) p.frame he hB hen rfl rfl rfl λh' hL=>⟨h',rfl,hL⟩) λh' hL dk=>?_
 obtain ⟨k1,⟨_,_,k2⟩,k3,x4⟩:=hL
 have x1:Heap.FlyingW (hideAll s.heap (ea::frs X.stack)) X.outer ea (.ref C) (.ref t) h':=⟨k1,hen,k2,k3⟩
 refine hQ h' (hideAll s.heap (ea::frs X.stack)) ?_ (DictAt.on ⟨_,he,rfl,_,rfl,rfl⟩ dk)
 have nst:∀b o,X.s₀.heap.get? b=some o->b∉frs X.outer->b∉frs X.stack:=λb o e nf z=>(p.mem.mp z).elim (I.old e) nf
 have kp:∀b ob,X.s₀.heap.get? b=some ob->X.H₀ b=none->b∉frs X.outer->(hideAll s.heap (ea::frs X.stack)).get? b=some ob:=λb o e n nf=>inB b o (I.base.keep b o e n nf (hex b)) (hne b o e) (nst b o e nf)
 have th:∀b ob,X.s₀.heap.get? b=some ob->b∉frs X.outer->∃o',(hideAll s.heap (ea::frs X.stack)).get? b=some o':=λb o e nf=>by
  obtain ⟨o1,e1⟩:=I.base.there b o e (hex b)
  exact ⟨o1,inB b o1 e1 (hne b o e) (nst b o e nf)⟩
 have dom:∀b o,H b=some o->∃ob,(hideAll s.heap (ea::frs X.stack)).get? b=some ob:=λb o e=>by
  obtain ⟨ob,eb⟩:=(I.hok b o e).there
  exact ⟨ob,inB b ob eb (λz=>by rw [z,hn] at e;cases e) λz=>by rw [I.stkFree b z] at e;cases e⟩
 refine ⟨I.os,I.bare,⟨λb o e n nf _=>x1.1 b o (kp b o e n nf),λb o e n hb _=>?_,λb o e n _=>I.base.free b o e n (hex b),λb o e _=>?_,I.base.tups,I.base.frzs,I.base.tbls⟩,Qjo I.hok dom hB x1.1,λb o e=>inB b o (I.bk b o e) (hne b o (I.ok.bs b o e).1) λz=>?_,dom,kp,th,x1,h0⟩
 ·obtain ⟨sl,e1⟩:=I.base.slot b o e n hb (hex b)
  obtain ⟨_,o',e3,nd⟩:=I.stack.mem (p.mem.mpr (.inr hb))
  have z:=e1.symm.trans e3
  cases z
  obtain ⟨sl',e4⟩:=x4 b { o with slots:=sl } e1 nd
  exact ⟨sl',e4⟩
 ·by_cases hb:b∈frs X.outer
  ·obtain ⟨_,o',e3,nd⟩:=I.stack.mem (p.mem.mpr (.inr hb))
   obtain ⟨sl,e4⟩:=x4 b _ e3 nd
   exact ⟨_,e4⟩
  ·obtain ⟨o',e1⟩:=th b o e hb
   exact ⟨_,x1.1 b o' e1⟩
 ·have:=(I.stack.mem z).1
  rw [e] at this
  cases this
theorem Qm3 {M:Model} (p:X.Plain) (I:Inv X pins σ H s) (f:Fly X.prog X.w X.base B X.stack H s C ea t H' s') (fd:DictAt s'.heap ea dx)
  (hQ:∀h',Fly X.prog X.w X.base B X.outer X.H₀ X.s₀ C ea t H' { s' with heap:=h' }->DictAt h' ea dx->Q () { s' with heap:=h' }):wpAny M X.A (leaving X.env (.ref ea)) Q E s' :=
 Qt1 (by rw [← p.stk];exact I.ok.frames) p.frame (by rw [← p.stk];exact f.fly) λh' x k=>hQ h' (f.out p I x.1 x.2) (fd.on k)
theorem Fly.landedD (I:Inv X pins σ H s) (f:Fly X.prog X.w X.base B X.stack H s C ea t H' s') (fd:DictAt s'.heap ea dx):∃(ob:Obj) (φ:Heap->Prop),ob.cls=.ref C/\(ob.dict=dx/\∃vs:Array Value,ob.data=.fields vs/\vs[2]? = some .none)/\H' ea=none/\Inv X pins σ (upd H' ea (.frz ob (.ext φ))) s':=by
 obtain ⟨ob,φ,hc,hn,J⟩:=f.landed I
 refine ⟨ob,φ,hc,?_,hn,J⟩
 obtain ⟨o1,e1,d1⟩:=fd
 obtain ⟨e2,_⟩:=J.hok ea _ Qj
 rw [e1] at e2
 cases e2
 exact d1
end
section
variable {t:Addr} {n:Str}
theorem Qok {D:Ends} (p:X.Plain) (I:Inv X pins σ H s) (f:Fly X.prog X.w X.base B X.stack H s C ea t H' s') (fd:DictAt s'.heap ea dx) (hcx:X.mg cx=some (.ref C0)) (hg:Gl X cx) (hm:exmOne X.K (.ref C) (.ref C0)=some true)
  (hN:X.N.Nodup) (hj:X.N[j]? = some n) (hl:X.env.kindOf n=some .local) (hlo:X.env.scope.names.lookup n=some .local) (hh:PSs (X.han ea) (b₀::suite) th)
  (hw:∀(ob:Obj) (φ:Heap->Prop),ob.cls=.ref C->(ob.dict=dx/\∃vs:Array Value,ob.data=.fields vs/\vs[2]? = some .none)->H' ea=none->th (D.un j) (σ.set j (some (.ref ea))) (upd H' ea (.frz ob (.ext φ)))) (hdb:(cx == ("__debug__" : Str))=false:=by decide) :
  wpAny (model X.prog X.w) X.A (noteFrame (.ref ea) X.env) (λ_ s₂=>wpAny (model X.prog X.w) X.A (setFlight (.ref ea) none) (λ_ s₃=>wpAny (model X.prog X.w) X.A (handleBy (.ref ea) X.env [.ExceptHandler (some (.Name cx np)) (some n) (b₀::suite) hpos]) (SP X pins D) X.xe s₃) X.xe s₂) X.xe s':=by
 have hfr:X.A.frames=some (X.env::X.outer):=by rw [← p.stk];exact I.ok.frames
 have fl:=f.fly
 have fl':Heap.FlyingW B (X.env::X.outer) ea (.ref C) (.ref t) s'.heap:=by rw [← p.stk];exact fl
 refine Qrx hfr p.frame fl' λh₄ ⟨hheld,hsm₄⟩ d4=>?_
 refine Qry hheld λh₅ ⟨hfl5,hsm5⟩ d5=>?_
 have f5:=f.on (by rw [p.stk];exact hfl5) (hsm₄.trans hsm5)
 have fd5:=(fd.on d4).on d5
 refine wpAny_handleBy_cons (codeAny_handlers_test ?_) (by intro q;cases q)
 obtain ⟨ob5,φ5,hc5,hn5,I5⟩:=f5.landed I
 have I5h:=I5.han ea
 refine Xs (X:=X.han ea) I5h hg hcx ?_ hdb
 obtain ⟨oe,eoe,hoe⟩:=f5.fly.there
 have LT:PySem.W.Looks (model X.prog X.w) h₅ (typeOf (.ref ea)) (.ref C):=by
  rw [← hoe]
  exact (PySem.W.Looks.ld eoe).andThen .now
 refine (PySem.W.exm_one (M:=model X.prog X.w) I5.kIn LT hm).at ?_
 refine codeAny_handlers_suite_as ?_
 refine Qxt hfl5 λh₆ ⟨hfl6,hsm6⟩ d6=>?_
 have f6:=f5.on (by rw [p.stk];exact hfl6) hsm6
 obtain ⟨ob,φ,hc,hdx,hn,I6⟩:=f6.landedD I (fd5.on d6)
 refine Qbq I6 hN hj (.inl hlo) (v:=.ref ea) rfl (λs7 I7=>?_) (.inr hlo)
 refine wpAny_mono (hh pins s7 _ _ (D.un j) (I7.han ea) (hw ob φ hc hdx hn)) (λfl s8 q=>?_) λ_ _ z=>False.elim z
 cases fl with
 | next =>
  obtain ⟨σ',H'',J,q⟩:=q
  exact X6 (J.unhan I.ok) hN hj hl λs9 I9=>⟨_,_,I9,q⟩
 | brk =>
  obtain ⟨σ',H'',J,q⟩:=q
  exact X6 (J.unhan I.ok) hN hj hl λs9 I9=>⟨_,_,I9,q⟩
 | cont =>
  obtain ⟨σ',H'',J,q⟩:=q
  exact X6 (J.unhan I.ok) hN hj hl λs9 I9=>⟨_,_,I9,q⟩
 | ret u =>
  obtain ⟨v,σ',H'',J,r,q⟩:=q
  exact X6 (J.unhan I.ok) hN hj hl λs9 I9=>⟨v,_,_,I9,r,q⟩
def Qsk (X:Cx) (body:List Stmt) (tb:Ends->XK->St->Hp->Prop):Prop:=∀(pins:List (Addr × Obj)) (s:Shared) (σ:St) (H:Hp) (D:Ends) (E:XK),Inv X pins σ H s->tb D E σ H ->
 wpAny (model X.prog X.w) X.A (execs body X.env) (SP X pins D) (λe s'=>∃s1 H1,Inv X pins σ H1 s1/\CXD X.prog X.w X.base X.stack H1 s1 E e s') s
theorem Qtj {tb:Ends->XK->St->Hp->Prop} {th:Addr->TS} (p:X.Plain) (hb:Qsk X body tb) (hcx:X.mg cx=some (.ref C0)) (hg:Gl X cx) (hN:X.N.Nodup) (hj:X.N[j]? = some n) (hl:X.env.kindOf n=some .local) (hlo:X.env.scope.names.lookup n=some .local)
  (hh:∀ea,PSs (X.han ea) (b₀::suite) (th ea)) (hdb:(cx == ("__debug__" : Str))=false:=by decide) :
  PS X (.Try body [.ExceptHandler (some (.Name cx np)) (some n) (b₀::suite) hpos] [] [] pos) (λD σ H=>tb D (λc dx H'=>∃C,c=.ref C/\exmOne X.K (.ref C) (.ref C0)=some true/\∀(ea:Addr) (ob:Obj) (φ:Heap->Prop),ob.cls=.ref C->(ob.dict=dx/\∃vs:Array Value,ob.data=.fields vs/\vs[2]? = some .none)->H' ea=none->th ea (D.un j) (σ.set j (some (.ref ea))) (upd H' ea (.frz ob (.ext φ)))) σ H):=by
 intro pins s σ H D I h
 refine wpAny_Try_except (wpAny_mono (hb pins s σ H D _ I h) (λfl s1 q=>?_) λe s' z=>?_)
 ·cases fl with
  | next=>exact wpAny_execs_nil q
  | brk=>exact q
  | cont=>exact q
  | ret u=>exact q
 ·obtain ⟨s1,H1,I1,ea,C,t,dx,B,H',rfl,f,fd,C',e,hm,hw⟩:=z
  cases e
  exact Qok p I1 f fd hcx hg hm hN hj hl hlo (hh ea) (λob φ h1 h2 h3=>hw ea ob φ h1 h2 h3) hdb
theorem Qgq {sp:Sp} {Q:VK} {E:XK} (F:FnOk X.prog X.w X.K X.mg X.base CX k f fd ps sp) (hr:Room k X.A) (hg:Gl X x) (hm:X.mg x=some (.ref f)) (hk:keepIn X.K (.ref f)=true) (hb:X1 X.K fd ps [])
  (ha:PA X.nox (e₀::es) ta) (I:Inv X pins σ H s) (h:ta σ H λvs H1=>sp vs H1 Q E) (hdb:(x == ("__debug__" : Str))=false:=by decide)
  (he:starEach (e₀::es) X.env=(false,eval e₀ X.env)::starEach es X.env:=by rfl) (hpl:(backTo pos (starEach es X.env)).any (·.1)=false:=by rfl) :
  wpAny (model X.prog X.w) X.A (eval (.Call (.Name x p) (e₀::es) [] pos) X.env) (EP X pins σ Q) (λe s'=>∃s1 H1,Inv X pins σ H1 s1/\CX X.stack H1 s1 E e s') s:=by
 refine wpAny_Call_Name_kw (Xs I hg hm ?_ hdb)
 refine callWith_K (K:=X.K) (h₀:=X.base) I.ok.mod.kin hk (wpAny_mono (ha pos pins s σ H _ (I.wish _) h) (λus s1 z=>?_) λ_ _ z=>False.elim z) he hpl
 obtain ⟨vs,H1,I1,r,q⟩:=z
 have I1:=I1.unwish
 have hl:(us++[]).length=ps.length:=by rw [List.append_nil,← r.length];exact F.len _ _ _ _ q
 have hbb:=hb s1 us I1.kIn hl
 rw [List.append_nil] at hbb
 refine ⟨I1.kIn,wpAny_call (codeAny_mono (F.run X.A X.stack s1 H1 ⟨us,[]⟩ us vs Q E hr I1.env0 hbb r q) λr s' hq=>?_)⟩
 cases r with
 | error e=>exact ⟨s1,H1,I1,hq⟩
 | ok fl =>
  cases fl with
  | ret u=>exact I1.after hq
  | next=>exact False.elim hq
  | brk=>exact False.elim hq
  | cont=>exact False.elim hq
end
end L2
variable {Q:PySem.Value->PySem.Shared->Prop} {expr:Bool}
namespace L2
open PySem PySem.Spec PyProof.Rows
open PySem.W (findIn subIn mroIn clsIn Looks looks_findIn looks_subIn InstAt KitX)
section
variable {dx:Addr} {o:Obj}
theorem Qnr {Q:Fin->Shared->Prop} (X:K.In h) (kc:ExcC K C) (hl:findIn K (.ref C) name=some none) (hx:h.get? a=some o) (hc:o.cls=.ref C) (hd:o.dict=some dx) (hdt:∃vs,o.data=.fields vs) (hn:h.Ns dx mA) (hu:mA name=some u) (hh:handedIn u=true) (hq:Q (.done (.ret u)) ⟨h,g,d,t,os⟩) :
  wpAny (model prog w) A (Builtin.«object.__getattribute__» ⟨[.ref a,.str name tk],[]⟩) Q E ⟨h,g,d,t,os⟩:=by
 have L1:=looks_findIn (M:=model prog w) X hl
 unfold Builtin.«object.__getattribute__»
 repeat (any_goals (first | assumption | (with_reducible refine wpAny_loadPart_at hx ?_;first | rw [hc] | rw [hd]) | with_reducible refine L1.at ?_ | wp_step))
 obtain ⟨vs,hdt⟩:=hdt
 rw [hdt]
 unfold instanceDict
 obtain ⟨nm,qq,N,bs,bm,sn,sub,ab,col,dd,k0,k1,k2,k3,k5,hb,hob⟩:=kc.obj
 obtain ⟨hC,_⟩:=hob h X
 repeat (any_goals (first | assumption | (with_reducible refine wpAny_loadPart_at hx ?_;first | rw [hc] | rw [hd]) | with_reducible refine L1.at ?_ | wp_step))
 rw [hd]
 refine wpAny_pure (wpAny_nsGet hn ?_)
 rw [hu]
 repeat (any_goals (first | assumption | wp_step))
 done
theorem Qxd {fill:Bool} (FB:ExcAttrBase Bx bmB) (X:K.In h) (kc:ExcC K C) (q:ExcQ K C) (hl:findIn K (.ref C) name=some none) (hx:h.get? a=some o) (hc:o.cls=.ref C) (hd:o.dict=some dx) (hdt:∃vs,o.data=.fields vs) (hn:h.Ns dx mA) (hu:mA name=some u) (hh:handedIn u=true) (hq:Q u ⟨h,g,d,t,os⟩) :
  wpAny (model prog w) A (getAttrBy (.ref a) (.str name tk) fill expr) Q E ⟨h,g,d,t,os⟩:=by
 have f3:=FB.ga.bind (.ref a)
 have hx0:(expr && onTheHeap (Value.builtin "BaseException.__getattribute__"))=false:=by cases expr <;> rfl
 have hx2:(Value.builtin "BaseException.__getattribute__" == Value.builtin "object.__getattribute__")=false:=by decide +kernel
 have hx1:(onTheHeap (Value.ref C) && Value.builtin "BaseException.__getattribute__" == Value.builtin "object.__getattribute__")=false:=by rw [hx2];rfl
 have L1:=looks_findIn (M:=model prog w) X q.ga
 have L2:=looks_findIn (M:=model prog w) X q.gt
 have hho:=PySem.W.handedOut_of hh
 repeat (any_goals (first | assumption | (with_reducible refine wpAny_loadPart_at hx ?_;rw [hc]) | with_reducible refine L1.at ?_ | with_reducible refine L2.at ?_ | wp_step))
 refine codeAny_call_builtin FB.ga.plain F.entry_bexc_ga (Qgh X q hx hc (Qnr X kc hl hx hc hd hdt hn hu hh ?_))
 repeat (any_goals (first | assumption | rw [hho] | wp_step))
theorem Qub (FB:ExcAttrBase Bx bmB) (X:K.In h) (kc:ExcC K C) (q:ExcQ K C) (hl:findIn K (.ref C) name=some none) (hx:h.get? a=some o) (hc:o.cls=.ref C) (hd:o.dict=some dx) (hdt:∃vs,o.data=.fields vs) (hn:h.Ns dx mA) (hu:mA name=some u) (hh:handedIn u=true) (hq:Q u ⟨h,g,d,t+1,os⟩) :
  wpAny (model prog w) A (getAttr (.ref a) name expr) Q E ⟨h,g,d,t,os⟩:=by
 unfold getAttr
 repeat (any_goals (first | assumption | with_reducible apply Qxd FB X kc q hl hx hc hd hdt hn hu hh | wp_step))
end
theorem Qpo (FB:ExcAttrBase Bx bmB) (he:PE X e te) (hb:attributeBase e attr X.env (eval e X.env)=eval e X.env:=by rfl) :
  PE X (.Attribute e attr pos) (λσ H Q=>te σ H λy H1=>∃a C o φ dx od fs v,y=.ref a/\H1 a=some (.frz o (.ext φ))/\o.cls=.ref C/\o.dict=some dx/\(∃vs,o.data=.fields vs)/\H1 dx=some (.frz od (.xd fs))/\ExcC X.K C/\ExcQ X.K C/\findIn X.K (.ref C) attr=some none/\fs.lookup attr=some v/\Q v H1):=by
 intro pins s σ H Q I h
 refine Qut hb (thn (he pins s σ H _ I h) λu s1 ⟨y,H1,I1,rx,a,C,o,φ,dx,od,fs,v,ey,ha,hc,hd,hdt,hx,kc,q,hl,hf,hq⟩=>?_)
 subst ey
 obtain rfl:u=Value.ref a:=rx
 obtain ⟨e1,_⟩:=I1.hok a _ ha
 obtain ⟨_,mA,ns,rr⟩:=I1.hok dx _ hx
 obtain ⟨u,hu,ru⟩:=RelO.some_of (v:=v) (o:=mA attr) (by rw [← hf];exact rr attr)
 obtain ⟨hp,g,d,tk,os⟩:=s1
 exact Qub FB I1.kIn kc q hl e1 hc hd hdt ns.ns hu (Qnm ru) ⟨v,H1,I1.tok _,ru,hq⟩
end L2
variable {t:PySem.Addr} {g:PV.GA}
namespace L2
open PySem PySem.Spec PyProof.Rows
def HnAt (h:Heap) (x:Addr):Prop:=∃o vs,h.get? x=some o/\o.data=.fields vs/\vs[2]? = some .none
theorem Qe8:entryFor table "proto.unchain" = some Builtin.«proto.unchain»:=entryFor_of_tree (by kernel_rfl)
section
variable {x:Addr}
theorem HnAt.extBut (k:HnAt h x) (e:Heap.ExtBut b h h') (hn:x≠b):HnAt h' x:=by
 obtain ⟨o,vs,q,r⟩:=k
 exact ⟨o,vs,e x o hn q,r⟩
theorem Qly {α:Type} {oa:Obj} {ws:Array Value} {Q:α->Shared->Prop} (hh:A.handled=some (.ref x)) (k:HnAt s.heap x) (hne:x≠a) (h4:s.heap.get? a=some oa) (h5:oa.data=.fields ws) (h6:2<ws.size)
  (hE:E (.ref a) { s with heap:=s.heap.update a (Obj.mapFields (·.setIfInBounds 2 (.ref x))) }):wpAny (model prog w) A (raiseNew (.ref a):Sem α) Q E s:=by
 obtain ⟨o,vs,k1,k2,k3⟩:=k
 unfold raiseNew
 refine wpAny_bind (wpAny_handled ?_)
 rw [hh]
 show wpAny _ _ (if ((Value.ref x) != (Value.ref a))=true then _ else _) _ _ _
 rw [if_pos (by simpa using hne)]
 refine wpAny_bind (wpAny_holding (runValue_entry Qe8 ?_))
 show wpAny _ _ (field (.ref x) 2 >>= _) _ _ _
 refine wpAny_bind (wpAny_field k1 k2 k3 ?_)
 rw [if_pos (by rfl)]
 refine wpAny_pure ⟨_,rfl,?_⟩
 refine wpAny_bind ?_
 show wpAny _ _ (setField (.ref a) 2 (.ref x)) _ _ _
 exact wpAny_setField h4 h5 h6 (wpAny_throw hE)
theorem Qnq {f:Obj->Obj} {o1 o2:Obj} (e:Heap.ExtBut b h h1):Heap.ExtBut b h (((h1.push o1).push o2).update (h1.push o1).objs.size f):=λc o hc q=>by
 have q1:=e c o hc q
 have q2:=Heap.get?_push_of_some o1 q1
 rw [Heap.get?_update_other _ _ (Nat.ne_of_gt (Heap.lt_size q2))]
 exact Heap.get?_push_of_some _ q2
theorem Qkq {items} {Q:Option Value->Shared->Prop} (hh:A.handled=some (.ref x)) (k:HnAt s.heap x)
  (hit:s.heap.IsListIter it l i) (hl:s.heap.IsList l items) (hx:items[i]? = none)
  (hQ:∀h',Heap.ExtBut it s.heap h'->Q none { s with heap:=h' }):wpAny (model prog w) A (pyNext (.ref it)) Q E s:=by
 obtain ⟨o,ho,hc,hd⟩:=id hit
 obtain ⟨ol,hol,_,nl,hdl⟩:=hl
 have hxi:x≠it:=λz=>by
  obtain ⟨o',vs,q1,q2,q3⟩:=k
  rw [z,ho] at q1
  cases q1
  rw [hd] at q2
  cases q2
  simp at q3
 unfold pyNext
 refine wpAny_bind (wpAny_attempt (wpAny_callSpecial?_slot (name:=Str.ofString "__next__") hit.typeIs slot_listiter_next
  (wpAny_call_entry slot_listiter_next hit.typeIs entry_listiter_next ?_ (args_listiter_next _))))
 show wpAny _ _ (field (.ref it) 0 >>= _) _ _ s
 refine wpAny_bind (wpAny_field ho hd (x:=.ref l) rfl ?_)
 show wpAny _ _ (if (Value.ref l == Value.none)=true then _ else _) _ _ s
 rw [if_neg (show ¬((Value.ref l == Value.none)=true) from Bool.false_ne_true)]
 show wpAny _ _ (field (.ref it) 1 >>= _) _ _ s
 refine wpAny_bind (wpAny_field ho hd (x:=.int i 0) rfl ?_)
 show wpAny _ _ (seqItems? (.ref l) >>= _) _ _ s
 refine wpAny_bind (wpAny_seqItems hol hdl ?_)
 simp only [Int.toNat_natCast,hx]
 refine wpAny_bind (wpAny_rule (wpAny_bind (wpAny_setField ho hd (by simp) ?_)))
 show wpAny _ _ (newExc (.type "StopIteration") [] >>= _) _ _ _
 refine wpAny_bind ?_
 simp only [newExc,newTuple]
 refine wpAny_bind (wpAny_newObj_type ?_ (by size_fits))
 refine wpAny_bind (m:=firstArgMember _ _) (wpAny_of_eq (a:=Value.none) (by first | rfl | (simp only [firstArgMember];rfl)) ?_)
 refine wpAny_newObj_type ?_ (by size_fits)
 refine Qly (x:=x) hh ?_ ?_ (Heap.get?_push_size _ rfl) rfl (by rw [Array.size_append];show 2<6+_;omega) ?_
 ·exact k.extBut (((Heap.SameBut.update ..).extBut.push _).push _) hxi
 ·obtain ⟨o',_,q1,_⟩:=k
  have:=Heap.lt_size q1
  have hz:=(Heap.SameBut.update s.heap it (Obj.mapFields λx=>x.setIfInBounds 0 Value.none)).1
  simp only [Heap.size_push,hz]
  exact Nat.ne_of_lt (Nat.lt_succ_of_lt this)
 ·refine wpAny_bind (wpAny_isInstance (T:="StopIteration") (b:=true) ⟨_,Heap.get?_update_self _ (Heap.get?_push_size _ rfl) rfl,rfl⟩ isSubtype_stop ?_)
  exact wpAny_pure (hQ _ (Qnq (Heap.SameBut.update ..).extBut))
theorem Qha {items} {Q:Option Value->Shared->Prop} (hh:A.handled=some (.ref x)) (k:HnAt s.heap x)
  (hit:IsTupIter s.heap it l i) (hl:IsTup s.heap l items) (hx:items[i]? = none)
  (hQ:∀h',Heap.ExtBut it s.heap h'->Q none { s with heap:=h' }):wpAny (model prog w) A (pyNext (.ref it)) Q E s:=by
 obtain ⟨o,ho,hc,hd⟩:=id hit
 obtain ⟨ol,hol,_,nl,hdl⟩:=hl
 have hxi:x≠it:=λz=>by
  obtain ⟨o',vs,q1,q2,q3⟩:=k
  rw [z,ho] at q1
  cases q1
  rw [hd] at q2
  cases q2
  simp at q3
 unfold pyNext
 refine wpAny_bind (wpAny_attempt (wpAny_callSpecial?_slot (name:=Str.ofString "__next__") hit.typeIs slot_tupleiter_next
  (wpAny_call_entry slot_tupleiter_next hit.typeIs entry_tupleiter_next ?_ (args_tupleiter_next _))))
 show wpAny _ _ (field (.ref it) 0 >>= _) _ _ s
 refine wpAny_bind (wpAny_field ho hd (x:=.ref l) rfl ?_)
 show wpAny _ _ (if (Value.ref l == Value.none)=true then _ else _) _ _ s
 rw [if_neg (show ¬((Value.ref l == Value.none)=true) from Bool.false_ne_true)]
 show wpAny _ _ (field (.ref it) 1 >>= _) _ _ s
 refine wpAny_bind (wpAny_field ho hd (x:=.int i 0) rfl ?_)
 show wpAny _ _ (seqItems? (.ref l) >>= _) _ _ s
 refine wpAny_bind (wpAny_seqItems hol hdl ?_)
 simp only [Int.toNat_natCast,hx]
 refine wpAny_bind (wpAny_rule (wpAny_bind (wpAny_setField ho hd (by simp) ?_)))
 show wpAny _ _ (newExc (.type "StopIteration") [] >>= _) _ _ _
 refine wpAny_bind ?_
 simp only [newExc,newTuple]
 refine wpAny_bind (wpAny_newObj_type ?_ (by size_fits))
 refine wpAny_bind (m:=firstArgMember _ _) (wpAny_of_eq (a:=Value.none) (by first | rfl | (simp only [firstArgMember];rfl)) ?_)
 refine wpAny_newObj_type ?_ (by size_fits)
 refine Qly (x:=x) hh ?_ ?_ (Heap.get?_push_size _ rfl) rfl (by rw [Array.size_append];show 2<6+_;omega) ?_
 ·exact k.extBut (((Heap.SameBut.update ..).extBut.push _).push _) hxi
 ·obtain ⟨o',_,q1,_⟩:=k
  have:=Heap.lt_size q1
  have hz:=(Heap.SameBut.update s.heap it (Obj.mapFields λx=>x.setIfInBounds 0 Value.none)).1
  simp only [Heap.size_push,hz]
  exact Nat.ne_of_lt (Nat.lt_succ_of_lt this)
 ·refine wpAny_bind (wpAny_isInstance (T:="StopIteration") (b:=true) ⟨_,Heap.get?_update_self _ (Heap.get?_push_size _ rfl) rfl,rfl⟩ isSubtype_stop ?_)
  exact wpAny_pure (hQ _ (Qnq (Heap.SameBut.update ..).extBut))
theorem Qek {Q:List Value->Shared->Prop} (hh:A.handled=some (.ref x)) (k:HnAt s.heap x) (ht:IsTup s.heap t items)
  (hQ:∀h',Heap.ExtBut s.heap.objs.size s.heap h'->Q items.toList { s with heap:=h' }):wpAny (model prog w) A (unpackItems (.ref t) items.size none) Q E s:=by
 have hlt:t≠s.heap.objs.size:=by obtain ⟨o,ho,_⟩:=ht;exact Nat.ne_of_lt (Heap.lt_size ho)
 have hxs:x≠s.heap.objs.size:=by obtain ⟨o,_,ho,_⟩:=k;exact Nat.ne_of_lt (Heap.lt_size ho)
 unfold unpackItems
 refine wpAny_bind ?_
 unfold notIterableAtAll
 refine wpAny_bind (wpAny_specialOf ht.typeIs slot_tuple_iter.lookup ?_)
 refine wpAny_pure ?_
 simp only [Bool.false_eq_true,if_false]
 refine wpAny_bind (wpAny_holding (iter_tuple ht ?_))
 refine wpAny_bind (wpAny_holding (draw_tuple hlt items.size 0 _ _ ⟨_,Heap.get?_push_size _ rfl,rfl,rfl⟩ (ht.push _) (by omega) λh₁ hit₁ hs₁=>?_))
 have hall:List.take items.size (List.drop 0 items.toList)=items.toList:=by
  rw [List.drop_zero];exact List.take_of_length_le (by simp)
 rw [hall]
 rw [if_neg (by simp)]
 have ht₁:IsTup h₁ t items:=(ht.push _).extBut hs₁.extBut hlt
 have k₁:HnAt h₁ x:=by
  obtain ⟨o,vs,q,r⟩:=k
  exact ⟨o,vs,(hs₁.2 x hxs).trans (Heap.get?_push_of_some _ q),r⟩
 refine wpAny_bind (wpAny_holding (Qha hh k₁ hit₁ ht₁ (by simp) λh₂ he₂=>?_))
 simp only [Option.isSome_none,Bool.false_eq_true,if_false]
 exact wpAny_pure (hQ h₂ λb o hb e=>he₂ b o hb (hs₁.extBut b o hb (Heap.get?_push_of_some _ e)))
theorem Qq1 {elts:List Expr} {x1} {Q:Unit->Shared->Prop} (hh:A.handled=some (.ref x)) (k:HnAt s.heap x) (ht:IsTup s.heap t items)
  (hn:(assignEach elts env).length=items.size) (hstar:(assignEach elts env).findIdx? (·.1)=none)
  (h:∀h',Heap.ExtBut s.heap.objs.size s.heap h'->wpAny (model prog w) A (assignInOrder ((assignEach elts env).map (·.2)) items.toList) Q E { s with heap:=h' }) :
  wpAny (model prog w) A (assign (.Tuple elts x1 pos) env (.ref t)) Q E s:=by
 rw [assign_Tuple]
 refine wpAny_bind (wpAny_standAt ?_)
 unfold unpack
 rw [hn,hstar]
 exact wpAny_bind (wpAny_holding (Qek hh k ht h))
end
def Qff (X:Cx):Prop:=∃(x:Addr) (o:Obj) (φ:Heap->Prop) (vs:Array Value),X.A.handled=some (.ref x)/\X.H₀ x=some (.frz o (.ext φ))/\o.data=.fields vs/\vs[2]? = some .none
theorem Qff.at_ (k:Qff X):∃x,X.A.handled=some (.ref x)/\∀(pins:List (Addr × Obj)) (σ:St) (H:Hp) (s:Shared),Inv X pins σ H s->HnAt s.heap x:=by
 obtain ⟨x,o,φ,vs,h1,h2,h3,h4⟩:=k
 refine ⟨x,h1,λpins σ H s I=>?_⟩
 obtain ⟨e,_⟩:=I.hok x _ (I.base.frzs x o _ h2)
 exact ⟨o,vs,e,h3,h4⟩
theorem Qto {t:TGs} {n:Nat} (hc:Qff X) (h:PGs X es t)
  (hn:(assignEach es X.env).length=n:=by rfl) (hst:(assignEach es X.env).findIdx? (·.1)=none:=by rfl):PG X (.Tuple es k pos) (gTup X.K n t):=by
 obtain ⟨x,hh,hx⟩:=hc.at_
 intro pins s σ H v u Q I r hw
 obtain ⟨a,xs,e1,hq,hl,hw⟩:=hw
 subst e1
 cases r
 obtain ⟨its,rv,ht,hz⟩:=I.tuple hq
 refine Qq1 hh (hx pins σ H s I) ht (by simp [hn,← hl,rv.length]) hst λh' hx=>?_
 have I1:Inv X pins σ H { s with heap:=h' }:=I.kept (t':=s.toks) λb o e=>hx b o (Nat.ne_of_lt (Heap.lt_size e)) e
 exact h pins _ σ H xs _ Q I1 (by simpa using rv) hw
def Qw5 (K:Frag) (tl:TE):TI:=λσ H R=>tl σ H λx H1=>∃a,x=.ref a/\(∃xs,SqL K H1 a xs)/\R (Itl K a) H1
theorem Qtk {l:Expr} {tl:TE} {g:TG} {tb:TS} (hp:PassesOwn (model X.prog X.w) X.A X.env X.xe) (hc:Qff X) (hl:PE X l tl) (hg:PG X tg g) (hb:PSs X body tb)
  (hs:∀x,foldedSetIterable l X.env x=pure x:=by intro _;rfl):PS X (.For tg l body [] pos) (tFor (Qw5 X.K tl) g tb):=by
 obtain ⟨hx,hh,hk⟩:=hc.at_
 intro pins s σ H D I h
 refine wpAny_For (thn (hl pins s σ H _ I h) λv s1 ⟨y,H1,I1,r1,a,ey,⟨xs0,hq0⟩,W,⟨m0,w0⟩,turn⟩=>?_) hs
 subst ey
 cases r1
 obtain ⟨its,rv,p0,hz⟩:=I1.list hq0
 refine wpAny_pyIter_list p0.isList ?_
 have hf:∀b∈[s1.heap.objs.size],FpOk X pins H1 b:=λb hb=>by
  have e:b=s1.heap.objs.size:=by simpa using hb
  subst e
  exact I1.fpOk (Nat.le_refl _) (I1.hok.fresh (Nat.le_refl _))
 have I2:Inv X pins σ H1 { s1 with heap:=s1.heap.push { cls:=.type "list_iterator",data:=.fields #[.ref a,.int 0 0] } }:=I1.kept (t':=s1.toks) λb o e=>Heap.get?_push_of_some _ e
 have T:Turn X.prog X.w X.K tg (Itl X.K a) [s1.heap.objs.size] s1.heap.objs.size (λi h=>h.IsListIter s1.heap.objs.size a i):=Qfn a _
 have st2:(s1.heap.push { cls:=.type "list_iterator",data:=.fields #[.ref a,.int 0 0] }).IsListIter s1.heap.objs.size a 0:=⟨_,Heap.get?_push_size _ rfl,rfl,rfl⟩
 generalize s1.heap.objs.size=it at hf I2 T st2 ⊢
 have stat:∀{H':Hp},(∀b∈[it],H' b=none)->∀b∈[it],FpOk X pins H' b:=λhn b hb=>⟨hn b hb,(hf b hb).2⟩
 refine codeAny_forLoop_any (λn s'=>∃i σ' H',Inv X pins σ' H' s'/\s'.heap.IsListIter it a i/\(∀b∈[it],H' b=none)/\W i n σ' H') ?_ m0 ⟨0,σ,H1,I2,st2,λb hb=>(hf b hb).1,w0⟩
 rintro n s3 ⟨i,σ3,H3,I3,st3,fr3,w3⟩
 obtain ⟨f0,f1,f2,f3,f4,f5⟩:=stat fr3 it (by simp)
 rcases turn i n σ3 H3 w3 with ⟨stop,qn⟩ | ⟨go,N,hN,step⟩
 ·obtain ⟨xs,hq,hxl⟩:=stop
  obtain ⟨its,rv,p,hz⟩:=I3.list hq
  have hll:=rv.length
  refine wpAny_passesOwn hp (Qkq hh (hk pins σ3 H3 s3 I3) st3 p.isList (by simp;omega) λh' eb=>?_)
  exact wpAny_execs_nil ⟨σ3,H3,I3.turned (t':=s3.toks) (λb o hb e=>eb b o hb e) f0 f1 f3 f4 f5,qn⟩
 ·obtain ⟨xs,x,hq,hxx⟩:=go
  obtain ⟨its,rv,p,hz⟩:=I3.list hq
  obtain ⟨u,hu,ru⟩:=rv.get hxx
  refine wpAny_passesOwn hp (wpAny_pyNext_list_item st3 p.isList (x:=u) (by simpa using hu) λh' st' sb=>?_)
  have I4:Inv X pins σ3 H3 { s3 with heap:=h' }:=I3.turned (t':=s3.toks) (λb o hb e=>(sb.2 b hb).trans e) f0 f1 f3 f4 f5
  obtain ⟨o4,e4,c4,d4⟩:=id st'
  refine wpAny_passesOwn hp (Qkx (s:={ s3 with heap:=h' }) e4 c4 d4 (by decide) ?_)
  have I5':=I4.pinned (stat fr3) (T.obj _ _ st')
  refine wpAny_passesOwn hp (thn (hg _ _ σ3 H3 x u _ I5' ru (step x H3 ⟨rfl,λys hy=>by rw [I3.list_inj hy hq];exact hxx⟩)) λ_ s6 ⟨σ6,H6,I6,q6⟩=>?_)
  refine wpAny_passesOwn hp (thn (hb _ s6 σ6 H6 _ I6 q6) λf s7 q7=>?_)
  have again:∀{σ7:St} {H7:Hp},Inv X (pins++Qd5 [it] h') σ7 H7 s7->N σ7 H7->∃m,m<n/\∃i σ' H',Inv X pins σ' H' s7/\s7.heap.IsListIter it a i/\(∀b∈[it],H' b=none)/\W i m σ' H':=λ{σ7 H7} I7 n7=>by
   obtain ⟨m',hm,w7⟩:=hN σ7 H7 n7
   refine ⟨m',hm,i+1,σ7,H7,I7.unpinned,T.keep _ _ _ st' λb hb o e=>(I7.pin (b,o) (List.mem_append_right _ (List.mem_append_right _ (Vk hb e)))).1,λb hb=>?_,w7⟩
   obtain ⟨o,e,d⟩:=T.obj _ _ st' b hb
   exact (I7.pin (b,o) (List.mem_append_right _ (List.mem_append_right _ (Vk hb e)))).2.1
  cases f with
  | next=>obtain ⟨σ7,H7,I7,n7⟩:=q7;exact again I7 n7
  | cont=>obtain ⟨σ7,H7,I7,n7⟩:=q7;exact again I7 n7
  | brk=>obtain ⟨σ7,H7,I7,q7⟩:=q7;exact ⟨σ7,H7,I7.unpinned,q7⟩
  | ret v=>obtain ⟨x7,σ7,H7,I7,r7,q7⟩:=q7;exact ⟨x7,σ7,H7,I7.unpinned,r7,q7⟩
abbrev Qe9 (A:Around):Around:={ A with handled:=none }
def HnH (A:Around) (H:Hp):Prop:=∃(x:Addr) (o:Obj) (φ:Heap->Prop) (vs:Array Value),A.handled=some (.ref x)/\H x=some (.frz o (.ext φ))/\o.data=.fields vs/\vs[2]? = some .none
structure FnOkH (P:Program) (w:World) (K:Frag) (mg:Str->Option Value) (base:Heap) (k:Nat) (f:Addr) (fd:FuncData) (ps:List Str) (sp:Sp):Prop where
 len:∀vs H Q E,sp vs H Q E->vs.length=ps.length
 run:∀(A:Around) (outer:List PySem.Env) (s:Shared) (H:Hp) (args:Args) (us:List Value) (vs:List V) (Q:VK),Room k (Qe9 A)->HnH A H->Env0 P w K mg base A outer s H->BindsTo s fd args (ps.zip us)->Vals vs us->sp vs H Q E0 ->
  codeAny (model P w) A (.call (.ref f) args) (CR CX0 outer P w H s Q E0) s
def cxH (P:Program) (w:World) (K:Frag) (mg:Str->Option Value) (base:Heap) (N:List Str) (qual:Str) (scope:Scope) (f:Addr) (cd:Value) (A:Around) (outer:List PySem.Env) (s:Shared) (H:Hp):Cx :=
 { (cxOf CX0 P w K mg base N qual scope f cd A outer s H E0) with calm:=false,xe:=λ_ _=>False }
theorem Qxa {dV kV doc pm cdv ct:Value} {an od:Option Addr} {sp:Sp} (lk:K.lookup f=some ⟨oc,od,.func (fnOf name qual params body scope dV kV doc pm an cdv ct),osl⟩) (hcd:codeIn K cdv qual=true) (S:FnScope N ps scope)
  (len:∀vs H Q E,sp vs H Q E->vs.length=ps.length)
  (hbody:∀(A:Around) (outer:List PySem.Env) (s:Shared) (H:Hp) (vs:List V) (Q:VK),Room k ((Qe9 A).deeper (envOfC qual scope s.heap.objs.size f cdv))->Qff (cxH P w K mg base N qual scope f cdv A outer s H)->sp vs H Q E0 ->
   ∃t,PSs (cxH P w K mg base N qual scope f cdv A outer s H) body t/\t { nx:=λ_ H'=>Q .non H',rt:=Q } (Vz N vs) H) :
  FnOkH P w K mg base (k+1) f (fnOf name qual params body scope dV kV doc pm an cdv ct) ps sp:=by
 refine ⟨len,λA outer s H args us vs Q hr hx e0 hb r hsp=>?_⟩
 have hl:=len _ _ _ _ hsp
 have KX:K.In s.heap:=e0.mod.kin.keeps λb o e=>(e0.bs b o e).1
 have lim:s.heap.NoLimit:=e0.mod.nolimit.keeps λb o e=>(e0.bs b o e).1
 have hkind:∀y∈ps.zip us,scope.names.lookup y.1=some .local\/(scope.names.lookup y.1=some .cell/\((cellsFrom (s.heap.objs.size+1) scope.names []).lookup y.1).isSome=true):=λ⟨n,v⟩ hy=>by
  rcases S.par n (List.of_mem_zip hy).1 with q | q
  ·exact .inl q
  ·exact .inr ⟨q,cellsFrom_some _ _ _ (.inl q)⟩
 have e1:Env0 P w K mg base (Qe9 A) outer s H:=⟨e0.frames,e0.mod,e0.bs,e0.bsz,e0.funs,e0.frf,e0.hok,e0.bare⟩
 refine codeAny_call_function (show A.depth<recursionLimit from hr.depth) (KX _ _ lk) rfl S.co S.gen rfl (codeRec_of KX hcd) (hb _ _ _ _ ?_)
 refine wpAny_newFunctionEnv_cells S.kind hkind λenv he s1 x=>?_
 subst he
 refine ⟨lim.keeps x.toInCall.keep,codeAny_func ?_⟩
 obtain ⟨t,ht,hq⟩:=hbody A outer s H vs Q (hr.deeper _) hx hsp
 have I0:Inv (cxOf CX0 P w K mg base N qual scope f cdv (Qe9 A) outer s H E0) [] (Vz N vs) H s1:=Qgd S rfl e1 hl r x
 have ok0:=I0.ok
 have ok:(cxH P w K mg base N qual scope f cdv A outer s H).Ok:=⟨ok0.mod,ok0.kind,ok0.glob,ok0.blt,ok0.above,ok0.inj,ok0.has,ok0.cab,λz=>(Bool.noConfusion z),ok0.frames,ok0.stk,ok0.exf,ok0.bs,ok0.bsz,ok0.noex,ok0.exfs,ok0.funs,ok0.frf⟩
 have I:Inv (cxH P w K mg base N qual scope f cdv A outer s H) [] (Vz N vs) H s1:=⟨ok,I0.os,I0.bare,I0.base,I0.loc,I0.cell,I0.free,I0.freeC,I0.pin,I0.hok,I0.len⟩
 refine wpAny_mono (ht [] s1 (Vz N vs) H _ I hq) (λfl s' hs=>?_) λe s' hs=>False.elim hs
 have fin:∀{σ':St} {H':Hp} {v:V} {u:Value},Inv (cxH P w K mg base N qual scope f cdv A outer s H) [] σ' H' s'->RelV v u->Q v H'->CE outer P w H s Q u s' :=
  λ{σ' H' v u} J rv q=>⟨v,H',J.os,J.bare,J.base,J.hok,rv,q⟩
 cases fl with
 | ret u =>
  obtain ⟨v,σ',H',J,rv,q⟩:=hs
  exact fin J rv q
 | next =>
  obtain ⟨σ',H',J,q⟩:=hs
  exact fin (v:=V.non) (u:=Value.none) J rfl q
 | brk =>
  obtain ⟨_,_,_,q⟩:=hs
  exact False.elim q
 | cont =>
  obtain ⟨_,_,_,q⟩:=hs
  exact False.elim q
theorem Qpt {sp:Sp} (F:FnOkH X.prog X.w X.K X.mg X.base k f fd ps sp) (hr:Room k (Qe9 X.A)) (hg:Gl X x) (hm:X.mg x=some (.ref f)) (hk:keepIn X.K (.ref f)=true) (hb:X1 X.K fd ps [])
  (ha:PA X (e₀::es) ta) (hdb:(x == ("__debug__" : Str))=false:=by decide)
  (he:starEach (e₀::es) X.env=(false,eval e₀ X.env)::starEach es X.env:=by rfl) (hpl:(backTo pos (starEach es X.env)).any (·.1)=false:=by rfl) :
  PE X (.Call (.Name x p) (e₀::es) [] pos) (λσ H Q=>ta σ H λvs H1=>HnH X.A H1/\sp vs H1 Q E0):=by
 intro pins s σ H Q I h
 refine wpAny_Call_Name_kw (Xs I hg hm ?_ hdb)
 refine callWith_K (K:=X.K) (h₀:=X.base) I.ok.mod.kin hk (thn (ha pos pins s σ H _ I h) λus s1 ⟨vs,H1,I1,r,hx,q⟩=>?_) he hpl
 have hl:(us++[]).length=ps.length:=by rw [List.append_nil,← r.length];exact F.len _ _ _ _ q
 have hbb:=hb s1 us I1.kIn hl
 rw [List.append_nil] at hbb
 refine ⟨I1.kIn,wpAny_call (codeAny_mono (F.run X.A X.stack s1 H1 ⟨us,[]⟩ us vs Q hr hx I1.env0 hbb r q) λr s' hq=>?_)⟩
 cases r with
 | error e=>exact False.elim hq
 | ok fl =>
  cases fl with
  | ret u=>exact I1.after hq
  | next=>exact False.elim hq
  | brk=>exact False.elim hq
  | cont=>exact False.elim hq
end L2
namespace PV
open PySem PySem.Spec L2
open PyProof.Rows (envOfC)
def Fld (H:Hp) (dx:Option Addr) (fs:List (Str × Int)):Prop:=fs=[]\/∃d od,dx=some d/\H d=some (.frz od (.xd (fs.map λp=>(p.1,V.int p.2))))
def spXD (K:Frag) (g:GX):Sp:=λvs H Q E=>∃(ds:List D) (F:List Addr) (k kx:D->Prop),Reps K H ds vs F/\g ds k kx/\(∀v H' d F',Fin K H H' d v F'->k d->Q v H')/\∀x C dx fs H',atN K x C->Same H H'->Fld H' dx fs->kx (.obj x fs)->E (.ref C) dx H'
def V8 (X:Cx) (T:Tg) (x:Str) (C:Addr) (attr:Str):Prop:=∀pins σ H s e d od t i,Inv X pins σ H s->s.heap.get? e=some (Xu C t (some d))->H e=none->X.s₀.heap.get? e=none->H d=some (.frz od (.xd [(attr,.int i)]))->T.xe (.obj x [(attr,i)]) σ H->X.xe (.ref e) s
def Vd (X:Cx) (T:Tg):Prop:=∀pins σ H s e s',Inv X pins σ H s->CXD X.prog X.w X.base X.stack H s (λc dx H'=>∃C,c=.ref C/\∃x fs,atN X.K x C/\Fld H' dx fs/\T.xe (.obj x fs) σ H') e s'->X.xe e s'
def CalD (P:Program) (w:World) (K:Frag) (mg:Str->Option Value) (base:Heap) (x:Str) (k:Nat) (ps:List Str) (sp:Sp):Prop :=
 ∃f fd,FnOk P w K mg base (CXD P w base) k f fd ps sp/\mg x=some (.ref f)/\keepIn K (.ref f)=true/\X1 K fd ps []
section
variable {a b:Expr} {w:WE}
theorem Qed {attr:Str} {n:Int}:∀{fs:List (Str × Int)},fs.lookup attr=some n->(fs.map λp=>(p.1,V.int p.2)).lookup attr=some (V.int n)
 | [],h=>by cases h
 | (a,b)::fs,h=>by
  simp only [List.map_cons,List.lookup] at h ⊢
  split
  ·rename_i z;rw [z] at h;cases h;rfl
  ·rename_i z;rw [z] at h;exact Qed h
def Qio (i:Nat) (attr:Str) (has:Str->Bool):WE:=λρ Q=>oget (look ρ i) λd=>match d with
 | .obj x fs=>has x=true/\oget (fs.lookup attr) λn=>Q (.int n) ρ
 | _=>False
theorem Qjq {has:Str->Bool} (ht:∀x C,has x=true->atN X.K x C->ExcC X.K C/\ExcQ X.K C/\PySem.W.findIn X.K (.ref C) attr=some none)
  (hN:X.N[i]? = some v:=by rfl) (hv:Vis X.env.scope v:=by first | exact Or.inl rfl | exact Or.inr (Or.inl rfl) | exact Or.inr (Or.inr rfl)) (hd:(v == ("__debug__" : Str))=false:=by decide) (hcd:(v == ("__classdict__" : Str))=false:=by decide)
  (hb:attributeBase (.Name v p2) attr X.env (eval (.Name v p2) X.env)=eval (.Name v p2) X.env:=by rfl):EV X T false true (.Attribute (.Name v p2) attr pos) (Qio i attr has):=by
 refine ⟨_,Qpo F.attrBase_ValueError (Vt hN hv hd hcd) hb,λz R σ H W ρ Q Q' s hw k=>?_⟩
 obtain ⟨d,hl,hq⟩:=Qn hw
 obtain ⟨fp,s0⟩:=id s
 obtain ⟨u,h1,h2⟩:=s0.at_ i d hl
 generalize fp i=Fi at h2
 match d,h2,hq with
 | .obj x fs,h2,hq =>
  obtain ⟨hs,hq⟩:=hq
  obtain ⟨n,hn,hq⟩:=Qn hq
  cases h2 with
  | @obj a1 _ ob φ _ e1 hc hf =>
   obtain ⟨C,hc,hnm⟩:=hc
   obtain ⟨t1,t2,t3⟩:=ht x C hs hnm
   rcases hf with rfl | ⟨dx,od,vs,g1,g2,g3⟩
   ·cases hn
   ·refine ⟨_,h1,a1,C,ob,φ,dx,od,_,.int n,rfl,e1,hc,g1,⟨vs,g2⟩,g3,t1,t2,t3,?_,k (.int n) H W (.int n) ρ [] (Post.flat s (FrW.refl H W) (λ_=>⟨Same.refl H,rfl,rfl⟩) (.int n)) hq⟩
    exact Qed hn
def SVsJ (X:Cx) (T:Tg) (st:List Stmt) (w:WS):Prop :=
 ∃ts,PSs X st ts/\∀(z:Nat->V) (R:Addr->Prop) (σ:St) (H:Hp) (W:Addr->Prop) (ρ:Env) (P:EndsP) (E:Ends),SR X.K T z R H W σ ρ->HnH X.A H->w P ρ->Lk X.K T z H W P E->ts E σ H
def SVJ (X:Cx) (T:Tg) (st:Stmt) (w:WS):Prop :=
 ∃ts,PS X st ts/\∀(z:Nat->V) (R:Addr->Prop) (σ:St) (H:Hp) (W:Addr->Prop) (ρ:Env) (P:EndsP) (E:Ends),SR X.K T z R H W σ ρ->HnH X.A H->w P ρ->Lk X.K T z H W P E->ts E σ H
def EVJ (X:Cx) (T:Tg) (e:Expr) (w:WE):Prop :=
 ∃te,PE X e te/\∀(z:Nat->V) (R:Addr->Prop) (σ:St) (H:Hp) (W:Addr->Prop) (ρ:Env) (Q:D->Env->Prop) (Q':VK),SR X.K T z R H W σ ρ->HnH X.A H->w ρ Q ->
  (∀v H' W' d ρ' F,Post X.K T z R false true H W σ ρ H' W' ρ' d v F->Q d ρ'->Q' v H')->te σ H Q'
end
end PV
namespace PV
open PySem PySem.Spec L2
def Qsf (s:Stmt):Stmt:=match s with
 | .ClassDef _ _ _ b _ _ _ _ _ _ _=>b.getD 0 (.Pass ⟨0,0,0,0⟩)
 | _=>.Pass ⟨0,0,0,0⟩
theorem Qnv {TE N:Addr} {q:Str} {dd' od2:Option Addr} {k0 k1 k2 k3 k5:Option Value} {c0 oc2:Value} {sl2:Array (Option Value)} {es2:Array DictEntry} {ep2:Nat}
  (l1:K.lookup C=some (excClassObj nm q C N bs (.ref TE::mroV) true sn sub ab col dd k0 k1 k2 k3 k5 "ValueError.__new__")) (l2:K.lookup TE=some ⟨c0,dd',.cls cd,sl⟩)
  (n2:K.lookup cd.ns=some ⟨oc2,od2,.dict es2 ep2,sl2⟩) (s2:Qbp es2=true) (i2:nsFind es2 "__init__" = none) (sa:PySem.W.findIn K (.ref C) "__setattr__" = some (some (.builtin "object.__setattr__"))):ExcC K C :=
 ⟨⟨nm,q,N,bs,_,sn,sub,ab,col,dd,k0,k1,k2,k3,k5,rfl,λh X=>⟨X _ _ l1,.own (X _ _ l2) (Qyu X n2 s2) i2 .base⟩⟩,sa⟩
end PV
namespace L2
open PySem PySem.Spec PyProof.Rows
theorem Qol (hc:X.calm=true):V0 X (.builtin "min") (λxs H Q=>∃(a:Addr) (ns:List Int),xs=[.ref a]/\SqL X.K H a (ns.map V.int)/\0<ns.length/\∀M,M∈ns->(∀b,b∈ns->M<=b)->Q (.int M) H):=by
 intro pins s σ H xs us Q I r h
 obtain ⟨a,ns,rfl,hq,hn,q⟩:=h
 obtain ⟨u,rfl,ru⟩:=Qal r
 cases ru
 obtain ⟨its,rv,pd,hz⟩:=I.list hq
 have il:s.heap.IsList a its.toArray:=pd.isList
 have hi:IntsAre its ns:=Qkw rv
 obtain ⟨ys,e⟩:=hi.allInts.items
 have hns:ns=ys.toList.map (·.1):=by rw [← hi.numsOf,← nums_intItems,← e]
 have hsz:0<ys.size:=by rw [hns,List.length_map,Array.length_toList] at hn;exact hn
 rw [e] at il
 refine min_intList (I.ok.hd hc) il hsz λv h' tk hv hk=>?_
 obtain ⟨t,rfl⟩:=intItems_at hv
 obtain ⟨h1,h2⟩:=argBest_lt (numAt ys) (ys.size-1)
 refine ⟨.int _,H,I.kept hk,⟨t,rfl⟩,q _ ?_ λb hb=>?_⟩
 ·rw [hns,numAt_eq];exact getD_mem (by rw [List.length_map,Array.length_toList];omega)
 ·rw [hns] at hb
  obtain ⟨j,hj,rfl⟩:=mem_getD hb
  rw [List.length_map,Array.length_toList] at hj
  rw [← numAt_eq];exact h2 j (by omega)
end L2
namespace PV
open PySem PySem.Spec L2
def Qqo:GA
 | [.lst ds],k=>∃ns:List Int,ds=ns.map .int/\0<ns.length/\∀M,M∈ns->(∀b,b∈ns->M<=b)->k (.int M)
 | _,_=>False
theorem Qoh (hc:X.calm=true):Qbo X (.builtin "min") Qqo:=by
 refine ⟨_,Qol hc,λH ds xs F k Q r g q=>?_⟩
 cases ds with
 | nil=>exact (show False from g).elim
 | cons d ds =>
  cases ds with
  | cons _ _=>cases d <;> exact (show False from g).elim
  | nil =>
   cases d with
   | lst es =>
    obtain ⟨ns,rfl,hn,g⟩:=g
    obtain ⟨v,rfl,rd⟩:=r.at1
    clear r
    cases rd with
    | lst e r9 =>
    obtain ⟨rfl,rfl⟩:=r9.of_ints
    exact ⟨_,ns,rfl,.inl (.of e),hn,λM h1 h2=>q _ _ _ _ (.flat (.int _)) (g M h1 h2)⟩
   | _=>exact (show False from g).elim
theorem Qi6 {k:D->Prop}:Qqo [.lst ds] k=(∃ns:List Int,ds=ns.map .int/\0<ns.length/\∀M,M∈ns->(∀b,b∈ns->M<=b)->k (.int M)):=rfl
end PV
namespace PV
open PySem PySem.Spec L2
open PyProof.Rows (envOfC)
def CalH (P:Program) (w:World) (K:Frag) (mg:Str->Option Value) (base:Heap) (x:Str) (k:Nat) (ps:List Str) (sp:Sp):Prop :=
 ∃f fd,FnOkH P w K mg base k f fd ps sp/\mg x=some (.ref f)/\keepIn K (.ref f)=true/\X1 K fd ps []
theorem HnH.same (h:HnH A H) (sm:Same H H'):HnH A H':=by
 obtain ⟨x,o,φ,vs,h1,h2,h3⟩:=h
 exact ⟨x,o,φ,vs,h1,sm _ _ h2,h3⟩
theorem Qx8 (r:Room k X.A) (h:j<=k) (ea:Addr):Room j (Qe9 (X.han ea).A) :=
 let r:=r.mono h
 ⟨rfl,r.dp,r.un⟩
section
variable {w:WE} {wt:WS}
theorem Qqg (C:CalH X.prog X.w X.K X.mg X.base x k ps (spR X.K g)) (hr:Room k (Qe9 X.A)) (ha:AV X T false o (e::es) wr) (hg:Gl X x:=by rfl)
  (hdb:(x == ("__debug__" : Str))=false:=by decide) (he:starEach (e::es) X.env=(false,eval e X.env)::starEach es X.env:=by rfl) (hpl:(backTo pos (starEach es X.env)).any (·.1)=false:=by rfl) :
  EVJ X T (.Call (.Name x p) (e::es) [] pos) (Ql g wr):=by
 obtain ⟨f,fd,F,h1,h2,h3⟩:=C
 obtain ⟨ta,pa,ga⟩:=ha
 refine ⟨_,Qpt F hr hg h1 h2 h3 pa hdb he hpl,λz R σ H W ρ Q Q' s hx hw k=>?_⟩
 refine ga z R σ H W ρ _ _ s hw λvs H1 W1 ds ρ1 F p q=>?_
 exact ⟨HnH.same hx (p.calm rfl).1,ds,F,_,p.rep,q,λv H' d F' fi hk=>k v H' W1 d ρ1 F' (Post.fin p.sr p.fr p.calm fi.same fi.rep fi.nd fi.new) hk⟩
theorem Qsx (he:EVJ X T e w) (hN:X.N.Nodup) (hi:X.N[i]? = some x:=by rfl) (hio:i∉T.io:=by decide) (hx:Loc X.env.scope x:=by first | exact Or.inl rfl | exact Or.inr rfl) (hs:swapsWith e (some (.Name x pos')) pos.line X.env=pure false:=by rfl)
  (hf:X.fn x=true\/X.env.scope.names.lookup x=some .local:=by first | exact .inl rfl | exact .inr rfl | assumption):SVJ X T (.Assign [.Name x pos'] e pos) (wSet i w):=by
 obtain ⟨te,pe,ge⟩:=he
 refine ⟨_,Qmc hN hi hx pe hs hf,λz R σ H W ρ P E s hj hw l=>ge z R σ H W ρ _ _ s hj hw λv H1 W1 d ρ1 F p q=>?_⟩
 obtain ⟨fp,s1⟩:=p.sr
 obtain ⟨nd,nw⟩:=p.own rfl
 obtain ⟨R',s2⟩:=s1.bind (i:=i) hio p.rep nd (λa ha=>⟨(nw a ha).2,s.nr (nw a ha).1⟩)
 exact l.nx R' _ H1 _ _ s2 (Um p.fr λa h=>(nw a h.2).1) q
theorem Qlr {r:List Stmt} (h:SVJ X T st ws) (hr:SVs X T r wt):SVsJ X T (st::r) (wSeq ws wt):=by
 obtain ⟨t1,p1,g1⟩:=h
 obtain ⟨t2,p2,g2⟩:=hr
 refine ⟨_,Qbs p1 p2,λz R σ H W ρ P E s hj hw l=>g1 z R σ H W ρ _ _ s hj hw ⟨?_,l.bk,l.ct,l.rt,l.xc⟩⟩
 exact λR' σ' H' W' ρ' s' f' h=>g2 z R' σ' H' W' ρ' P E s' h (l.step f')
theorem Qt9 {n:Nat} (hc:Qff X) (h:GVs X T es wgs) (hn:(assignEach es X.env).length=n:=by rfl) (hst:(assignEach es X.env).findIdx? (·.1)=none:=by rfl):GV X T (.Tuple es kt pos) (U4 n wgs):=by
 obtain ⟨t,pt,g⟩:=h
 refine ⟨_,Qto hc pt hn hst,λz R σ H W ρ d v Q Q' s r hp hw k=>?_⟩
 cases d with
 | tup ds =>
  cases r with
  | @tup a xs _ _ e1 r=>exact ⟨a,xs,rfl,.of e1,by rw [r.length];exact hw.1,g z R σ H W ρ ds xs Q Q' s r (by simpa [D.pure] using hp) hw.2 k⟩
 | _=>exact hw.elim
def Qo3 (w:WE):WL:=λρ Q=>w ρ λd ρ'=>match d with
 | .lst ds=>Q ds ρ'
 | _=>False
theorem Qsy (hc:Qff X) (hp:PassesOwn (model X.prog X.w) X.A X.env X.xe) (hi:EV X T m true iter w) (hg:GV X T tg wg) (hb:SVs X T body ws)
  (hs:∀x,foldedSetIterable iter X.env x=pure x:=by intro _;rfl):SV X T (.For tg iter body [] pos) (wFor (Qo3 w) wg ws):=by
 obtain ⟨te,pe,ge⟩:=hi
 obtain ⟨tt,pt,gt⟩:=hg
 obtain ⟨tb,pb,gb⟩:=hb
 refine ⟨_,Qtk hp hc pe pt pb hs,λz R σ H W ρ P E s hw l=>?_⟩
 refine ge z R σ H W ρ _ _ s hw λv H1 W1 d ρ1 F p q=>?_
 cases d with
 | lst ds =>
  obtain ⟨p1,p2,p3,p4,p5⟩:=p
  cases p4 with
  | @lst a xs _ F e1 r =>
   have nW:∀b∈a::F,¬W1 b:=λb hb=>((p5 rfl).2 b hb).2
   have jd:∀(i:Nat) (H2:Hp) (W2:Addr->Prop),FrW H1 W1 H2 W2->(ds.length<=i->(Itl X.K a).stop i H2)/\∀d,ds[i]? = some d->(Itl X.K a).go i H2/\∀v H3,(Itl X.K a).yld i H2 v H3->Same H2 H3/\∃B,Rep X.K H3 d v B:=λi H2 W2 f=>by
    have e2:H2 a=some (.lst xs):=f.keep _ _ e1 (nW a List.mem_cons_self)
    refine ⟨λhi=>⟨xs,.of e2,by rw [r.length];exact hi⟩,λd hd=>?_⟩
    obtain ⟨x,B,hx,rx,sx⟩:=r.get hd
    refine ⟨⟨xs,x,.of e2,hx⟩,λv H3 y=>?_⟩
    obtain ⟨rfl,y⟩:=y
    have:=y xs (.of e2)
    rw [hx] at this
    cases this
    exact ⟨Same.refl _,B,rx.keep f λb hb=>nW b (List.mem_cons_of_mem _ (sx.subset hb))⟩
   refine ⟨a,rfl,⟨xs,.of e1⟩,?_⟩
   obtain ⟨hpu,I,h0,hI,hd⟩:=q
   refine ⟨λi n σ' H'=>n=ds.length-i/\i<=ds.length/\∃R' W' ρ',SR X.K T z R' H' W' σ' ρ'/\FrW H1 W1 H' W'/\I i ρ',⟨ds.length,by simp,Nat.zero_le _,R,W1,ρ1,p1,FrW.refl _ _,h0⟩,?_⟩
   rintro i n σ2 H2 ⟨rfl,hi,R2,W2,ρ2,s2,f2,i2⟩
   obtain ⟨j1,j2⟩:=jd i H2 W2 f2
   by_cases hlt:i<ds.length
   ·have hdi:ds[i]? = some ds[i]:=List.getElem?_eq_getElem hlt
    obtain ⟨hgo,hy⟩:=j2 _ hdi
    have hpd:(ds[i]).pure=true:=Qaf.mp hpu _ (List.getElem_mem hlt)
    refine .inr ⟨hgo,λσ' H'=>i+1<=ds.length/\∃R' W' ρ',SR X.K T z R' H' W' σ' ρ'/\FrW H1 W1 H' W'/\I (i+1) ρ',λσ' H' ⟨h1,h2⟩=>⟨ds.length-(i+1),by omega,rfl,h1,h2⟩,λv H3 yl=>?_⟩
    obtain ⟨sm,F,rv⟩:=hy v H3 yl
    obtain ⟨-,rv⟩:=rv.pure hpd
    have f3:FrW H1 W1 H3 W2:=f2.trans (FrW.same W2 sm)
    refine gt z R2 σ2 H3 W2 ρ2 _ v _ _ (s2.same sm) rv hpd (hI i _ ρ2 hdi i2) λR4 W4 σ4 ρ4 s4 f4 q4=>?_
    refine gb z R4 σ4 H3 W4 ρ4 _ _ s4 q4 ⟨?_,?_,?_,?_,?_⟩
    ·exact λR' σ' H' W' ρ' s' f' h=>⟨hlt,R',W',ρ',s',(f3.trans f4).trans f',h⟩
    ·exact λR' σ' H' W' ρ' s' f' h=>l.nx R' σ' H' W' ρ' s' (((p2.trans f3).trans f4).trans f') h
    ·exact λR' σ' H' W' ρ' s' f' h=>⟨hlt,R',W',ρ',s',(f3.trans f4).trans f',h⟩
    ·exact (((l.step p2).step f3).step f4).rt
    ·exact (((l.step p2).step f3).step f4).xc
   ·have e:i=ds.length:=by omega
    subst e
    exact .inl ⟨j1 (Nat.le_refl _),l.nx R2 σ2 H2 W2 ρ2 s2 (p2.trans f2) (hd ρ2 i2)⟩
 | _=>exact (show False from q).elim
end
theorem Qw9 (F:Fun K x qual st f fd) (S:FnScope N ps (Qb st)) (hio:T.io=[]) (hown:∀i,i<ps.length->T.own i=false) (hg:∀ds kk,g ds kk->ds.length=ps.length)
  (hb:∀(cdv:Value) (A:Around) (outer:List PySem.Env) (s:Shared) (H:Hp),Room k ((Qe9 A).deeper (envOfC qual (Qb st) s.heap.objs.size f cdv))->Qff (cxH P w K mg base N qual (Qb st) f cdv A outer s H)->SVs (cxH P w K mg base N qual (Qb st) f cdv A outer s H) T (Qr st) ww)
  (hr:∀ds kk,g ds kk->ww { nx:=λ_=>kk .non,rt:=λd _=>kk d } (env0 N ds)):FnOkH P w K mg base (k+1) f fd ps (spR K g):=by
 obtain ⟨oc,od,kV,doc,pm,an,cdv,ct,osl,rfl,lk,hcd⟩:=F.ex
 refine Qxa lk hcd S (λvs H Q E h=>?_) (λA outer s H vs Q hroom hx h=>?_)
 ·obtain ⟨ds,Fp,kk,rep,hgk,_⟩:=h
  rw [rep.length];exact hg ds kk hgk
 ·obtain ⟨ds,Fp,kk,rep,hgk,q⟩:=h
  obtain ⟨ts,pts,gts⟩:=hb cdv A outer s H hroom hx
  have hl:=rep.length
  have hds:=hg ds kk hgk
  refine ⟨ts,pts,gts (λ_=>.non) (Any H) (L2.Vz N vs) H (λ_=>False) (env0 N ds) _ _ (SR.readonly hio ?_ λi d hli=>?_) (hr ds kk hgk) ⟨?_,?_,?_,?_,λ_ _ _ _ _ _ _ _ hk=>hk.elim⟩⟩
  ·unfold env0 L2.Vz;simp [hl]
  ·unfold env0 at hli
   rw [Vl] at hli
   obtain ⟨v,B,h1,h2,_⟩:=rep.get hli
   exact ⟨hown i (by rw [← hds];exact (List.getElem?_eq_some_iff.mp hli).1),v,B,Ud h1,h2⟩
  ·intro R' σ' H' W' ρ' s' fr hk
   have sm:Same H H':=λb o e=>fr.keep b o e (λz=>z)
   exact q .non H' .non [] ⟨sm,.non,List.nodup_nil,λ_ m=>nomatch m⟩ hk
  ·exact λR' σ' H' W' ρ' s' fr hk=>hk.elim
  ·exact λR' σ' H' W' ρ' s' fr hk=>hk.elim
  ·intro R' v σ' H' W' ρ' d F' s' fr r nd nw hk
   have sm:Same H H':=λb o e=>fr.keep b o e (λz=>z)
   exact q v H' d F' ⟨sm,r,nd,λa ha=>(nw a ha).2.resolve_left id⟩ hk
end PV
variable {l:Nat}
namespace L2
open PySem PySem.Spec PyProof.Rows
open PySem.W (hideAll of_hideAll hideAll_get hideAll_none funFrames_hide)
def Qxy (c:Addr) (h h':Heap):Prop:=∀b o,b≠c->h.get? b=some o->(∀vs,o.data ≠ .fields vs)->∃sl,h'.get? b=some { o with slots:=sl }
theorem Qqb {c:Addr} {o:Obj} (e:B.get? b=some o) (h:b≠c):(hideAll B [c]).get? b=some o:=hideAll_get _ e λz=>h (List.mem_singleton.mp z)
section
variable {l:List PySem.Env} {c:Addr}
theorem Fly.letgo (f:Fly P w base B l H s C ea t H' s') (hc:s.heap.get? c=none) (h0:base.get? c=none) (hH:H' c=none) (hf:Heap.FlyingW (hideAll B [c]) l ea (.ref C) (.ref t) h'') (hu:Qxy c s'.heap h''):Fly P w base (hideAll B [c]) l H s C ea t H' { s' with heap:=h'' }:=by
 have ne:∀b o,s.heap.get? b=some o->b≠c:=λb o e z=>by rw [z,hc] at e;cases e
 have dom:∀b o,H' b=some o->∃ob,(hideAll B [c]).get? b=some ob:=λb o e=>by
  obtain ⟨ob,eb⟩:=f.dom b o e
  exact ⟨ob,Qqb eb λz=>by rw [z,hH] at e;cases e⟩
 have kp:∀b ob,s.heap.get? b=some ob->H b=none->b∉frs l->(hideAll B [c]).get? b=some ob:=λb o e n nf=>Qqb (f.kp b o e n nf) (ne b o e)
 have th:∀b ob,s.heap.get? b=some ob->b∉frs l->∃o',(hideAll B [c]).get? b=some o':=λb o e nf=>by
  obtain ⟨o',q⟩:=f.th b o e nf
  exact ⟨o',Qqb q (ne b o e)⟩
 refine ⟨f.os,f.bare,⟨λb o e n nf _=>hf.1 b o (kp b o e n nf),λb o e n hb _=>?_,f.un.free,λb o e _=>?_,f.un.tups,f.un.frzs,f.un.tbls⟩,Qjo f.hok dom (λb o q=>f.fly.1 b o (of_hideAll _ q)) hf.1,(λb o e=>Qqb (f.bb b o e) λz=>by rw [z,h0] at e;cases e),dom,kp,th,hf,f.new⟩
 ·obtain ⟨sl,e1⟩:=f.un.slot b o e n hb (by simp)
  obtain ⟨_,o',e2,nd⟩:=f.fly.2.2.1.mem hb
  have z:some { o with slots:=sl }=some o':=e1.symm.trans e2
  cases z
  obtain ⟨sl',e4⟩:=hu b { o with slots:=sl } (ne b o e) e1 nd
  exact ⟨sl',e4⟩
 ·by_cases hb:b∈frs l
  ·obtain ⟨_,o',e2,nd⟩:=f.fly.2.2.1.mem hb
   obtain ⟨sl,e3⟩:=hu b _ (ne b o e) e2 nd
   exact ⟨_,e3⟩
  ·obtain ⟨o',e1⟩:=th b o e hb
   exact ⟨_,hf.1 b o' e1⟩
end
section
variable {Ξ:XK} {e:Value}
def Qq4 (X:Cx) (H:Hp) (s:Shared) (Ξ:XK) (e:Value) (s':Shared):Prop:=∃ea C t dx B H' L c s6 h7,e=.ref ea/\X.env.frame=some L/\Fly X.prog X.w X.base B X.stack H s C ea t H' s6/\X.s₀.heap.get? c=none/\H' c=none/\s'={ s6 with heap:=h7 } /\
 Heap.HeldW (hideAll B [c]) X.stack ea (.ref C) (.ref t) L h7/\Qxy c s6.heap h7/\DictAt h7 ea dx/\Ξ (.ref C) dx H'
theorem Qkr {M:Model} (p:X.Plain) (I:Inv X pins σ H s) (x:Qq4 X H s Ξ e s'):wpAny M X.A (leaving X.env e) (λ_ s''=>CXD X.prog X.w X.base X.outer X.H₀ X.s₀ Ξ e s'') E s':=by
 obtain ⟨ea,C,t,dx,B,H',L,c,s6,h7,rfl,hL,f,hc,hH,rfl,hh,hu,hd,hx⟩:=x
 unfold leaving
 refine wpAny_bind (wpAny_noteFrame_againW hL hh.2.2.2 ?_)
 refine Qry hh λh8 ⟨fl,up⟩ dk=>?_
 have tl:∀{B h},Heap.FlyingW B X.stack ea (.ref C) (.ref t) h->Heap.FlyingW B X.outer ea (.ref C) (.ref t) h:=λ{B h} q=>by
  rw [p.stk] at q
  obtain ⟨k1,k2,⟨_,_,k3⟩,k4⟩:=q
  exact ⟨k1,k2,k3,k4⟩
 have g:=f.out p I (tl f.fly) (Heap.UpToSlots.refl _)
 have h0:X.base.get? c=none:=by
  cases q:X.base.get? c with
  | none=>rfl
  | some o=>have:=(I.ok.bs c o q).1;rw [hc] at this;cases this
 exact ⟨ea,C,t,dx,_,H',rfl,g.letgo hc h0 hH (tl fl) λb o n e nd=>by
  obtain ⟨sl,e1⟩:=hu b o n e nd
  obtain ⟨sl',e2⟩:=up b _ e1 nd
  exact ⟨sl',e2⟩,hd.on dk,hx⟩
theorem Qbc {B h h':Heap} {c:Addr} {ob:Obj} (hB:B.get? c=some ob) (hs:Heap.SameBut c h h'):∀{l:List PySem.Env},h.FunFrames B l->h'.FunFrames (hideAll B [c]) l
 | [],_=>trivial
 | _::_,⟨hk,⟨L,o,hf,hn,ho,hd⟩,hr⟩=>by
  refine ⟨hk,⟨L,o,hf,?_,(hs.2 L λz=>by rw [z,hB] at hn;cases hn).trans ho,hd⟩,Qbc hB hs hr⟩
  cases q:(hideAll B [c]).get? L with
  | none=>rfl
  | some o=>rw [of_hideAll _ q] at hn;cases hn
theorem Qqy {M:Model} {cenv:PySem.Env} {c L:Addr} (hs:X.stack=X.env::X.outer) (hL:X.env.frame=some L) (I:Inv X pins σ H s) (hc:X.s₀.heap.get? c=none) (hn:H c=none) (hm:∃m,s.heap.Ns c m) (hst:c∉frs X.stack)
  (hcf:cenv.frame=X.env.frame) (f:CXD X.prog X.w X.base X.stack H s Ξ e s') (hE:∀s'',Qq4 X H s Ξ e s''->E e s'') :
  notedBy M X.A (compEnvC scope cl c X.env) (λe s'=>∃m,s'.heap.Ns c m/\∀h',Heap.SameBut c s'.heap h'->wpAny M X.A (passOn "comprehension.variables-let-go" e cenv:Sem Value) (λ_ _=>False) E { s' with heap:=h' }) e s':=by
 obtain ⟨ea,C,t,dx,B,H',rfl,fl,hd,hx⟩:=f
 obtain ⟨m,oc,es,ep,c1,c2,c3⟩:=hm
 have hBc:=fl.kp c oc c1 hn hst
 unfold notedBy
 rw [show noteFrame (.ref ea) (compEnvC scope cl c X.env)=noteFrame (.ref ea) X.env from rfl]
 have fl':=fl.fly
 rw [hs] at fl'
 refine Qrx (by rw [← hs];exact I.ok.frames) hL fl' λh7 ⟨hh,up⟩ dk=>?_
 rw [← hs] at hh
 obtain ⟨k1,k2,k3,oe,vs,T,oT,ts,t1,t2,t3,t4,t5,t6,t7,t8,t9⟩:=hh
 refine ⟨m,⟨oc,es,ep,k1 c oc hBc,c2,c3⟩,λh8 sb=>?_⟩
 have neE:ea≠c:=λz=>by rw [z,hBc] at k2;cases k2
 have neT:T≠c:=λz=>by rw [z,hBc] at t5;cases t5
 have e8:h8.get? ea=some oe:=(sb.2 ea neE).trans t1
 have T8:h8.get? T=some oT:=(sb.2 T neT).trans t7
 have sz3:3<ts.size:=(Array.getElem?_eq_some_iff.mp t9).1
 unfold PySem.passOn
 refine wpAny_bind (wpAny_field (s:={ s' with heap:=h8 }) e8 t3 t4 ?_)
 rw [if_neg (show ¬(Value.ref T == Value.none)=true by simp)]
 unfold setFlight
 refine wpAny_bind (wpAny_bind (wpAny_field (s:={ s' with heap:=h8 }) e8 t3 t4 ?_))
 rw [if_pos (show (Value.ref T != Value.none)=true by simp),hcf,hL]
 refine wpAny_setField (s:={ s' with heap:=h8 }) T8 t8 sz3 (wpAny_throw (hE _ ?_))
 have other:∀b,b≠T->(h8.update T (Obj.mapFields (·.setIfInBounds 3 (rawInt L)))).get? b=h8.get? b:=λb hb=>Heap.get?_update_other _ _ (Ne.symm hb)
 have nT:∀b o,h8.get? b=some o->(∀vs,o.data ≠ .fields vs)->b≠T:=λb o hb hnf z=>by
  rw [z,T8] at hb;injection hb with hb;subst hb;exact hnf ts t8
 have hB':∀b,B.get? b=none->(hideAll B [c]).get? b=none:=λb z=>by
  cases q:(hideAll B [c]).get? b with
  | none=>rfl
  | some o=>rw [of_hideAll _ q] at z;cases z
 refine ⟨ea,C,t,dx,B,H',L,c,s',_,rfl,hL,fl,hc,?_,rfl,⟨λb o q=>?_,hB' _ k2,?_,oe,vs,T,_,_,(other ea (Ne.symm t6)).trans e8,t2,t3,t4,hB' _ t5,t6,Heap.get?_update_self _ T8 (Obj.isFreed_of_fields (Obj.data_mapFields t8 _)),Obj.data_mapFields t8 _,by simp [sz3]⟩,λb o n q nd=>?_,?_,hx⟩
 ·exact fl.un.free c oc c1 hn (by simp)
 ·have qB:=of_hideAll _ q
  have nc:b≠c:=λz=>by rw [z,hideAll_none _ (List.mem_singleton.mpr rfl)] at q;cases q
  exact (other b λz=>by rw [z,t5] at qB;cases qB).trans ((sb.2 b nc).trans (k1 b o qB))
 ·exact (Qbc hBc sb k3).of_keeps λb o hb hnf=>⟨o,(other b (nT b o hb hnf)).trans hb,rfl⟩
 ·obtain ⟨sl,e1⟩:=up b o q nd
  have e2:h8.get? b=some { o with slots:=sl }:=(sb.2 b n).trans e1
  exact ⟨sl,(other b (nT b _ e2 nd)).trans e2⟩
 ·obtain ⟨o1,d1,d2,vs',d3,d4⟩:=hd.on dk
  exact ⟨o1,(other ea (Ne.symm t6)).trans ((sb.2 ea neE).trans d1),d2,vs',d3,d4⟩
end
end L2
variable {g:PV.GX}
namespace L2
open PySem PySem.Spec PyProof.Rows
theorem Qoe {M:Model} {newAcc first:Sem Value} {g:Comprehension} {gs:List Comprehension}
  (hcl:clausesOf e=g::gs) (hs:∀x,foldedSetIterable g.iter env x=pure x) (hclos:closureFor scope env=pure cl) (hkind:scope.kind=.function) (hnames:∀x∈scope.names,x.2=.local->scope.names.lookup x.1=some .local)
  (h:wpAny M A first (λx s₁=>wpAny M A (pyIter x) (λit s₂=>wpAny M A newAcc (λacc s₃=>wpAny M A (newFunctionEnv scope env.globals cl [] env.qual none .none (some env)) (λcenv s₄ =>
   codeAny M A (.compStart e 0 it acc { cenv with scope:=relabel scope env }) (λr s'=>∃m,s'.heap.Ns cenv.locals m/\∀h',Heap.SameBut cenv.locals s'.heap h'->match r with
    | .ok _=>Q acc { s' with heap:=h' }
    | .error x=>wpAny M A (passOn "comprehension.variables-let-go" x { cenv with scope:=relabel scope env }:Sem Value) (λ_ _=>False) E { s' with heap:=h' }) s₄) E s₃) E s₂) E s₁) E s) :
  wpAny M A (comprehension e scope env pos newAcc false first none) Q E s:=by
 have id':∀{t:Shared} {x:Value},E x t->E x t:=λz=>z
 unfold comprehension
 rw [hclos,hcl]
 refine wpAny_bind (wpAny_mono h (λx s₁ q1=>?_) λ_ _=>id')
 refine wpAny_bind (wpAny_standAt (wpAny_bind (wpAny_of_eq (hs x) (wpAny_bind (wpAny_holding (wpAny_mono q1 (λit s₂ q2=>?_) λ_ _=>id'))))))
 refine wpAny_standIf (wpAny_bind (wpAny_mono q2 (λacc s₃ q3=>?_) λ_ _=>id'))
 refine wpAny_bind (wpAny_pure (wpAny_bind (wpAny_mono q3 (λcenv s₄ q4=>?_) λ_ _=>id')))
 dsimp only
 refine wpAny_holding (wpAny_bind (wpAny_attempt (wpAny_holding (wpAny_run (codeAny_mono q4 λr s' hr=>?_)))))
 obtain ⟨m,hn,hr⟩:=hr
 cases r with
 | ok f=>exact wpAny_bind (wpAny_holding (wpAny_comp_letGo (cenv:={ cenv with scope:=relabel scope env }) hkind _ s' m (λx hx hl=>lookup_relabel_local (hnames x (List.mem_filter.mp (List.mem_reverse.mp hx)).1 hl)) hn λh' _ _ hs'=>wpAny_pure (hr h' hs')))
 | error x=>exact wpAny_bind (wpAny_holding (wpAny_comp_letGo (cenv:={ cenv with scope:=relabel scope env }) hkind _ s' m (λx hx hl=>lookup_relabel_local (hnames x (List.mem_filter.mp (List.mem_reverse.mp hx)).1 hl)) hn λh' _ _ hs'=>wpAny_mono (hr h' hs') (λ_ _ f=>f.elim) λ_ _ y=>y))
theorem Qps {ts:List Str} {te:St->TE} {Ξ:St->XK} (ix:List Nat) (hp:X.Plain) (hP:∀pins σ H s e s',Inv X pins σ H s->Qq4 X H s (Ξ σ) e s'->X.xe e s') (hc:X.calm=true) (B:BlkScope X.env scope x)
  (hix:∀i∈ix,∃y,X.N[i]? = some y/\scope.names.lookup y=some .free) (hN:(bN2 X.N ts ix).Nodup) (hi:PI X tg iter wi)
  (hg:∀cl C s₀ H₀ fp,PG (Yn X scope cl C (bN2 X.N ts ix) s₀ H₀ fp) tg gt)
  (ht:∀cl C s₀ H₀ fp,PIfs (Yn X scope cl C (bN2 X.N ts ix) s₀ H₀ fp) ifs tt)
  (he:∀σ cl C s₀ H₀ fp xe,(∀pins σ' H s e s',Inv (Yn X scope cl C (bN2 X.N ts ix) s₀ H₀ fp) pins σ' H s->CXD X.prog X.w X.base X.stack H s (Ξ σ) e s'->xe e s')->PE ((Yn X scope cl C (bN2 X.N ts ix) s₀ H₀ fp).wish xe) elt (te σ))
  (hs:∀x,foldedSetIterable iter X.env x=pure x:=by intro _;rfl) :
  PE X (.ListComp elt [⟨tg,iter,ifs,0⟩] scope pos) (λσ H Q=>Qlq ts wi gt tt (te σ) ix σ H Q):=by
 intro pins s σ H Q I h
 obtain ⟨cl,hcl,h1,h3⟩:=Us (Qbu I B)
 rw [eval_ListComp]
 refine Qoe rfl hs hcl B.kind B.names (thn (hi pins s σ H _ I h) λv s1 h1'=>thn h1' λitv s2 h2=>?_)
 obtain ⟨it,fp,tn,J,H2,e,I2,T,st2,f2,W,m0,w0,turn⟩:=h2
 subst e
 refine Qgj (Px:=λH s e s'=>CXD X.prog X.w X.base X.stack H s (Ξ σ) e s') (RR:=λacc cenv r s'=>∃m,s'.heap.Ns cenv.locals m/\∀h',Heap.SameBut cenv.locals s'.heap h'->match r with
    | .ok _=>EP X pins σ Q acc { s' with heap:=h' }
    | .error x=>wpAny (model X.prog X.w) X.A (passOn "comprehension.variables-let-go" x cenv:Sem Value) (λ_ _=>False) X.xe { s' with heap:=h' })
  (G:=λys H'=>∀l,H' l=none->Q (.ref l) (upd H' l (.lst ys))) I2 hc B h1 h3 hix hN T st2 f2 hg (he σ) ht W m0 w0 turn (λD C cenv s' ys H' hC0 I' hD hC hm hCs hDC g=>?_) λD C cenv s' H' e s'' hC0 hcf I' hC hm hCs hst px=>?_
 ·obtain ⟨m,hm⟩:=hm
  subst hC0
  exact ⟨m,hm,λh' hsb=>⟨.ref D,upd H' D (.lst ys),I2.blkGone I' hCs (by rw [Qm (Ne.symm hDC)];exact hC) hsb,rfl,g D hD⟩⟩
 ·subst hC0
  refine Qqy hp.stk hp.frame I' ?_ hC hm hst hcf px λs3 hh=>hP pins σ H' s' e s3 I' hh
  cases q:X.s₀.heap.get? cenv.locals with
  | none=>rfl
  | some o=>exact absurd (Heap.lt_size q) (Nat.not_lt.mpr (Nat.le_trans I2.sz hCs))
end L2
variable {w:PV.WE}
namespace PV
open PySem PySem.Spec L2
open PyProof.Rows (envOfC)
abbrev XC:=D->Env->Prop
abbrev WX:=Env->(D->Env->Prop)->XC->Prop
abbrev WAX:=Env->(List D->Env->Prop)->XC->Prop
def XOk (K:Frag) (T:Tg) (z:Nat->V) (H:Hp) (W:Addr->Prop) (σ:St) (xc:XC):Prop:=∀R' H' W' ρ' d,SR K T z R' H' W' σ ρ'->FrW H W H' W'->xc d ρ'->T.xe d σ H'
theorem XOk.step {W:Addr->Prop} {xc:XC} (h:XOk K T z H W σ xc) (f:FrW H W H1 W1):XOk K T z H1 W1 σ xc:=λR' H' W' ρ' d s g q=>h R' H' W' ρ' d s (f.trans g) q
def EVX (X:Cx) (T:Tg) (m o:Bool) (e:Expr) (w:WX):Prop :=
 ∃te,PE X e te/\∀(z:Nat->V) (R:Addr->Prop) (σ:St) (H:Hp) (W:Addr->Prop) (ρ:Env) (Q:D->Env->Prop) (Q':VK) (xc:XC),SR X.K T z R H W σ ρ->XOk X.K T z H W σ xc->w ρ Q xc ->
  (∀v H' W' d ρ' F,Post X.K T z R m o H W σ ρ H' W' ρ' d v F->Q d ρ'->Q' v H')->te σ H Q'
def AVX (X:Cx) (T:Tg) (m o:Bool) (es:List Expr) (w:WAX):Prop :=
 ∃ta,PA X es ta/\∀(z:Nat->V) (R:Addr->Prop) (σ:St) (H:Hp) (W:Addr->Prop) (ρ:Env) (Q:List D->Env->Prop) (Q':List V->Hp->Prop) (xc:XC),SR X.K T z R H W σ ρ->XOk X.K T z H W σ xc->w ρ Q xc ->
  (∀vs H' W' ds ρ' F,PostA X.K T z R m o H W σ ρ H' W' ρ' ds vs F->Q ds ρ'->Q' vs H')->ta σ H Q'
def XiD (K:Frag) (T:Tg) (σ:St):XK:=λc dx H'=>∃C,c=.ref C/\∃x fs,atN K x C/\Fld H' dx fs/\T.xe (.obj x fs) σ H'
def Qaj (X:Cx) (T:Tg):Prop:=∀pins σ H s e s',Inv X pins σ H s->Qq4 X H s (XiD X.K T σ) e s'->X.xe e s'
section
variable {a b:Expr} {wx:WX} {wrx:WAX}
def wOf (w:WE):WX:=λρ Q _=>w ρ Q
theorem Qr6 (h:EV X T m o e w):EVX X T m o e (wOf w):=let ⟨te,p,g⟩:=h;⟨te,p,λz R σ H W ρ Q Q' _ s _ hw k=>g z R σ H W ρ Q Q' s hw k⟩
def wAOf (w:WA):WAX:=λρ Q _=>w ρ Q
theorem Qg0 (h:AV X T m o es wr):AVX X T m o es (wAOf wr):=let ⟨te,p,g⟩:=h;⟨te,p,λz R σ H W ρ Q Q' _ s _ hw k=>g z R σ H W ρ Q Q' s hw k⟩
def V1 (g:GX) (wr:WA):WX:=λρ Q xc=>wr ρ λds ρ'=>g ds (λd=>Q d ρ') λd=>xc d ρ'
theorem V7 (C:CalD X.prog X.w X.K X.mg X.base x k ps (spXD X.K g)) (hr:Room k X.A) (hX:Vd X T) (ha:AV X.nox T false o (e₀::es) wr) (hg:Gl X x:=by rfl) (hdb:(x == ("__debug__" : Str))=false:=by decide)
  (he:starEach (e₀::es) X.env=(false,eval e₀ X.env)::starEach es X.env:=by rfl) (hpl:(backTo pos (starEach es X.env)).any (·.1)=false:=by rfl) :
  EVX X T false true (.Call (.Name x p) (e₀::es) [] pos) (V1 g wr):=by
 obtain ⟨fa,fd,F,h1,h2,h3⟩:=C
 obtain ⟨ta,pa,ga⟩:=ha
 refine ⟨λσ H Q=>ta σ H λvs H1=>spXD X.K g vs H1 Q (XiD X.K T σ),λpins s σ H Q I h=>wpAny_mono (Qgq F hr hg h1 h2 h3 pa I h hdb he hpl) (λ_ _ z=>z) λe s' ⟨s1,H1,I1,q⟩=>hX _ _ _ _ _ _ I1 q,λz R σ H W ρ Q Q' xc s hx hw k=>?_⟩
 exact ga z R σ H W ρ _ _ s hw λvs H1 W1 ds ρ1 Fp p q=>⟨ds,Fp,_,_,p.rep,q,λv H' d F' fi hk=>k v H' W1 d ρ1 F' (Post.fin p.sr p.fr p.calm fi.same fi.rep fi.nd fi.new) hk,λx C dx fs H' hn sm hfl hk=>⟨C,rfl,x,fs,hn,hfl,hx R H' W1 ρ1 _ (p.sr.same sm) (p.fr.trans (FrW.same W1 sm)) hk⟩⟩
def Ux (w:WX) (wr:WAX):WAX:=λρ Q xc=>w ρ (λd ρ1=>wr ρ1 (λds ρ2=>Q (d::ds) ρ2) xc) xc
theorem Ut (he:EVX X T m1 o1 e wx) (hr:AVX X T m2 o2 es wrx) (hc:o1=true\/m2=false:=by first | exact .inl rfl | exact .inr rfl) (hs:starEach (e::es) X.env=(false,eval e X.env)::starEach es X.env:=by rfl) :
  AVX X T (m1 || m2) (o1 && o2) (e::es) (Ux wx wrx):=by
 obtain ⟨te,pe,ge⟩:=he
 obtain ⟨ta,pa,ga⟩:=hr
 refine ⟨_,Js pe pa hs,λz R σ H W ρ Q Q' xc s hx hw k=>?_⟩
 refine ge z R σ H W ρ _ _ xc s hx hw λv1 H1 W1 d1 ρ1 F1 p q1=>?_
 refine ga z R σ H1 W1 ρ1 _ _ xc p.sr (hx.step p.fr) q1 λvs H2 W2 ds ρ2 F2 q q2=>?_
 have r1:Rep X.K H2 d1 v1 F1:=by
  rcases hc with hc | hc
  ·exact p.rep.keep q.fr λa h=>((p.own hc).2 a h).2
  ·exact p.rep.same (q.calm hc).1
 refine k (v1::vs) H2 W2 (d1::ds) ρ2 (F1++F2) ⟨q.sr,p.fr.trans q.fr,λh=>?_,.cons r1 q.rep,λh=>?_⟩ q2
 ·rw [Bool.or_eq_false_iff] at h
  obtain ⟨a1,a2,a3⟩:=p.calm h.1
  obtain ⟨b1,b2,b3⟩:=q.calm h.2
  exact ⟨a1.trans b1,b2.trans a2,b3.trans a3⟩
 ·rw [Bool.and_eq_true] at h
  obtain ⟨n1,k1⟩:=p.own h.1
  obtain ⟨n2,k2⟩:=q.own h.2
  refine ⟨List.nodup_append.mpr ⟨n1,n2,λa ma b mb e=>?_⟩,λa ma=>?_⟩
  ·subst e
   obtain ⟨ob,e,_⟩:=p.rep.dom a ma
   rw [(k2 a mb).1] at e;cases e
  ·rcases List.mem_append.mp ma with ma | ma
   ·refine ⟨(k1 a ma).1,λw=>?_⟩
    rcases q.fr.new a w with w | w
    ·exact (k1 a ma).2 w
    ·obtain ⟨ob,e,_⟩:=p.rep.dom a ma
     rw [w] at e;cases e
   ·exact ⟨p.fr.dom a (k2 a ma).1,(k2 a ma).2⟩
def Qso (wr:WAX):WX:=λρ Q xc=>wr ρ (λds ρ'=>ds.length<=sizeLine/\Q (.tup ds) ρ') xc
theorem Qud {x1} (h:AVX X T m o es wrx):EVX X T m o (.Tuple es x1 pos) (Qso wrx):=by
 obtain ⟨ta,pa,ga⟩:=h
 refine ⟨_,Qi9 pa,λz R σ H W ρ Q Q' xc s hx hw k=>ga z R σ H W ρ _ _ xc s hx hw λvs H1 W1 ds ρ1 F p q=>?_⟩
 obtain ⟨hz,q⟩:=q
 refine ⟨by rw [p.rep.length];exact hz,λa ha=>k _ _ W1 (.tup ds) ρ1 F ⟨p.sr.same (Qi ha),p.fr.trans (FrW.same W1 (Qi ha)),λh=>⟨(p.calm h).1.trans (Qi ha),(p.calm h).2⟩,.tup Qj (p.rep.same (Qi ha)),p.own⟩ q⟩
def Qg7 (g:GA) (wr:WAX):WX:=λρ Q xc=>wr ρ (λds ρ'=>g ds λd=>Q d ρ') xc
theorem Qk1 {g:GA} (hc:Qbo X (.type T') g) (hm:X.mg x=none) (hv:bootBuiltins x=some (.type T')) (ha:AVX X T m o (e::es) wrx) (hg:Gl X x:=by rfl) (hn:x ≠ "__name__":=by decide) (hdb:(x == ("__debug__" : Str))=false:=by decide)
  (he:starEach (e::es) X.env=(false,eval e X.env)::starEach es X.env:=by rfl) (hpl:(backTo pos (starEach es X.env)).any (·.1)=false:=by rfl):EVX X T m true (.Call (.Name x p) (e::es) [] pos) (Qg7 g wrx):=by
 obtain ⟨r,rc,gr⟩:=hc
 obtain ⟨ta,pa,ga⟩:=ha
 refine ⟨_,Qf0 rc hg hm hv pa hn hdb he hpl,λz R σ H W ρ Q Q' xc s hx hw k=>ga z R σ H W ρ _ _ xc s hx hw λvs H1 W1 ds ρ1 F p q=>?_⟩
 exact gr H1 ds vs F _ Q' p.rep q λv H' d F' fi hk=>k v H' W1 d ρ1 F' (Post.fin p.sr p.fr p.calm fi.same fi.rep fi.nd fi.new) hk
def Qei (i:Nat) (w:WX):WS:=λP ρ=>w ρ (λd ρ'=>P.nx (ρ'.set i (some d))) P.xc
theorem Qce (he:EVX X T m true e wx) (hN:X.N.Nodup) (hi:X.N[i]? = some x:=by rfl) (hio:i∉T.io:=by first | exact List.not_mem_nil | decide) (hx:Loc X.env.scope x:=by first | exact Or.inl rfl | exact Or.inr rfl) (hs:swapsWith e (some (.Name x pos')) pos.line X.env=pure false:=by rfl)
  (hf:X.fn x=true\/X.env.scope.names.lookup x=some .local:=by first | exact .inl rfl | exact .inr rfl | assumption):SV X T (.Assign [.Name x pos'] e pos) (Qei i wx):=by
 obtain ⟨te,pe,ge⟩:=he
 refine ⟨_,Qmc hN hi hx pe hs hf,λz R σ H W ρ P E s hw l=>ge z R σ H W ρ _ _ P.xc s (λR' H' W' ρ' d=>l.xc R' σ H' W' ρ' d) hw λv H1 W1 d ρ1 F p q=>?_⟩
 obtain ⟨fp,s1⟩:=p.sr
 obtain ⟨nd,nw⟩:=p.own rfl
 obtain ⟨R',s2⟩:=s1.bind (i:=i) hio p.rep nd (λa ha=>⟨(nw a ha).2,s.nr (nw a ha).1⟩)
 exact l.nx R' _ H1 _ _ s2 (Um p.fr λa h=>(nw a h.2).1) q
def Qb5 (w:WX):WS:=λP ρ=>w ρ (λ_ ρ'=>P.nx ρ') P.xc
theorem Qel (he:EVX X T m o e wx) (hs:swapsWith e none pos.line X.env=pure false:=by rfl):SV X T (.Expr e pos) (Qb5 wx):=by
 obtain ⟨te,pe,ge⟩:=he
 exact ⟨_,Qeu pe hs,λz R σ H W ρ P E s hw l=>ge z R σ H W ρ _ _ P.xc s (λR' H' W' ρ' d=>l.xc R' σ H' W' ρ' d) hw λv H1 W1 d ρ1 F p q=>l.nx R σ H1 W1 ρ1 p.sr p.fr q⟩
end
section
variable {ts:List Str} {we:WX}
def Qxn (spl:D->(List D->Prop)->Prop) (ds:List D) (we:WX) (ρ1:Env) (ix:List Nat) (Q:D->Env->Prop) (xc:XC):Prop:=∃I:Nat->List D->Prop,I 0 [] /\
 (∀i d ys,ds[i]? = some d->I i ys->ys.length<sizeLine/\spl d λns=>we (ns.map some++ix.map (look ρ1)) (λy _=>I (i+1) (ys++[y])) λe _=>xc e ρ1) /\
 ∀ys,I ds.length ys->ys.length<=sizeLine/\Q (.lst ys) ρ1
def Qip (spl:D->(List D->Prop)->Prop) (wl:WL) (we:WX) (ix:List Nat):WX:=λρ Q xc=>wl ρ λds ρ1=>Qxn spl ds we ρ1 ix Q xc
theorem Quv {A B:Hp->Prop} (h:A H):tAll σ H λb H1=>if b=true then A H1 else B H1:=by show (if (true:Bool)=true then A H else B H);rw [if_pos rfl];exact h
theorem Qnx {spl:D->(List D->Prop)->Prop} (ix:List Nat) (hp:X.Plain) (hP:Qaj X T) (hi:IV X T m pr tg iter wl)
  (hsp:∀(H:Hp) d v F k,Rep X.K H d v F->spl d k->∃vs ns G,Reps X.K H ns vs G/\ns.length=ts.length/\k ns/\∀(σ:St) (o:List (Option V)) (Q:St->Hp->Prop),o.length=ts.length->Q (bS2 σ (vs.map some) ix) H->gt v (bS2 σ o ix) H Q)
  (he:∀cl C s₀ H₀ fp xe XE,Vd ((Yn X scope cl C (bN2 X.N ts ix) s₀ H₀ fp).wish xe) ⟨TR.own,TR.io,XE⟩->EVX ((Yn X scope cl C (bN2 X.N ts ix) s₀ H₀ fp).wish xe) ⟨TR.own,TR.io,XE⟩ false true elt we)
  (B:BlkScope X.env scope x) (hix:∀i∈ix,∃y,X.N[i]? = some y/\scope.names.lookup y=some .free) (hN:(bN2 X.N ts ix).Nodup) (hg:∀cl C s₀ H₀ fp,PG (Yn X scope cl C (bN2 X.N ts ix) s₀ H₀ fp) tg gt) (hc:X.calm=true)
  (hs:∀x,foldedSetIterable iter X.env x=pure x):EVX X T m true (.ListComp elt [⟨tg,iter,[],0⟩] scope pos) (Qip spl wl we ix):=by
 obtain ⟨wi,pi,gi⟩:=hi
 refine ⟨_,Qps (te:=λσ σ' H Q=>∀cl C s₀ H₀ fp xe (h:Vd ((Yn X scope cl C (bN2 X.N ts ix) s₀ H₀ fp).wish xe) ⟨TR.own,TR.io,λd _ H'=>T.xe d σ H'⟩),Classical.choose (he cl C s₀ H₀ fp xe _ h) σ' H Q) (Ξ:=XiD X.K T) ix hp hP hc B hix hN pi hg (λcl C s₀ H₀ fp=>Qi7)
  (λσ cl C s₀ H₀ fp xe hx=>by
   have hy:Vd ((Yn X scope cl C (bN2 X.N ts ix) s₀ H₀ fp).wish xe) ⟨TR.own,TR.io,λd _ H'=>T.xe d σ H'⟩:=λpins σ' H s e s' I z=>hx pins σ' H s e s' I.unwish z
   exact λpins s σ' H Q I h=>(Classical.choose_spec (he cl C s₀ H₀ fp xe _ hy)).1 pins s σ' H Q I (h cl C s₀ H₀ fp xe hy)) hs,λz R σ H W ρ Q Q' xc s hx hw k=>?_⟩
 refine gi z R σ H W ρ _ _ s hw λJ H1 W1 ds ρ1 p jd q=>?_
 obtain ⟨I,h0,hI,hd⟩:=q
 refine ⟨λi n ys H2=>n=ds.length-i/\i<=ds.length/\Same H1 H2/\∃es F,Reps X.K H2 es ys F/\F.Nodup/\(∀a∈F,H1 a=none)/\I i es,ds.length,⟨by simp,Nat.zero_le _,Same.refl _,[],[],.nil,List.nodup_nil,(λa m=>(nomatch m)),h0⟩,?_⟩
 rintro i n ys H2 ⟨rfl,hi,sm,es,F,re,nd,nw,i2⟩
 obtain ⟨j1,j2⟩:=jd i H2 (wz pr W1) (FrW.same _ sm)
 by_cases hlt:i<ds.length
 ·have hdi:ds[i]? = some ds[i]:=List.getElem?_eq_getElem hlt
  obtain ⟨hgo,hy⟩:=j2 _ hdi
  obtain ⟨hz,q1⟩:=hI i _ es hdi i2
  refine .inr ⟨hgo,by rw [re.length];exact hz,λv H3 yl o ol=>?_⟩
  obtain ⟨sm3,Fv,rv,_⟩:=hy v H3 yl
  obtain ⟨vs,ns,G,rn,nl,q1,gq⟩:=hsp H3 _ v Fv _ rv q1
  refine gq σ o _ ol ⟨vs.map some,rfl,by rw [List.length_map,rn.length,nl],?_⟩
  have srB:∀z' XE,SR X.K ⟨TR.own,TR.io,XE⟩ z' (Any H3) H3 (λ_=>False) (bS2 σ (vs.map some) ix) (ns.map some++ix.map (look ρ1)):=λz' XE=>by
   refine SR.readonly rfl (by simp [bS2,rn.length]) λj d hj=>⟨rfl,?_⟩
   have hj:=Qe5 hj
   unfold bS2
   by_cases hlj:j<ns.length
   ·rw [List.getElem?_append_left (by simpa using hlj),List.getElem?_map] at hj
    cases q:ns[j]? with
    | none=>rw [q] at hj;cases hj
    | some d' =>
     rw [q] at hj
     cases hj
     obtain ⟨u,B,g1,g2,_⟩:=rn.get q
     exact ⟨u,B,by rw [List.getElem?_append_left (by rw [List.length_map,rn.length];exact hlj),List.getElem?_map,g1];rfl,g2⟩
   ·rw [List.getElem?_append_right (by simpa using hlj),List.length_map,List.getElem?_map] at hj
    cases hq:ix[j-ns.length]? with
    | none=>rw [hq] at hj;cases hj
    | some q =>
     rw [hq] at hj
     have hj:look ρ1 q=some d:=by simpa using hj
     obtain ⟨fp,s1⟩:=(p.sr.same sm).same sm3
     obtain ⟨u,hu,ru⟩:=s1.at_ q d hj
     refine ⟨u,fp q,?_,ru⟩
     rw [List.getElem?_append_right (by rw [List.length_map,rn.length];exact Nat.not_lt.mp hlj),List.length_map,rn.length,List.getElem?_map,hq]
     simp [hu]
  refine Quv ?_
  intro cl C s₀ H₀ fp xe h
  refine (Classical.choose_spec (he cl C s₀ H₀ fp xe _ h)).2 (λ_=>.non) (Any H3) _ H3 (λ_=>False) _ _ _ (λe _=>xc e ρ1) (srB _ _) (λR' H' W' ρ' d s' f' hk=>?_) q1 λu H5 W5 y ρ5 Fy p5 q5=>?_
  ·have smX:Same H1 H':=(sm.trans sm3).trans λb ob e=>f'.keep b ob e λz=>z
   exact hx R H' W1 ρ1 d (p.sr.same smX) (p.fr.trans (FrW.same W1 smX)) hk
  ·obtain ⟨sm5,_,_⟩:=p5.calm rfl
   obtain ⟨ny,ky⟩:=p5.own rfl
   have re4:=re.same sm3
   refine ⟨ds.length-(i+1),by omega,rfl,hlt,(sm.trans sm3).trans sm5,es++[y],F++Fy,(re4.same sm5).snoc p5.rep,Gp nd ny λa ha hf=>?_,λa ha=>?_,q5⟩
   ·obtain ⟨ob,e1,_⟩:=re4.dom a hf
    rw [(ky a ha).1] at e1;cases e1
   ·rcases List.mem_append.mp ha with ha | ha
    ·exact nw a ha
    ·exact (sm.trans sm3).free (ky a ha).1
 ·have e:i=ds.length:=by omega
  subst e
  obtain ⟨hz,q1⟩:=hd es i2
  refine .inl ⟨j1 (Nat.le_refl _),by rw [re.length];exact hz,λl hl=>?_⟩
  have hl1:H1 l=none:=sm.free hl
  refine k _ _ W1 (.lst es) ρ1 (l::F) ⟨(p.sr.same sm).same (Qi hl),(p.fr.trans (FrW.same W1 sm)).trans (FrW.same W1 (Qi hl)),λh=>⟨((p.calm h).1.trans sm).trans (Qi hl),(p.calm h).2⟩,.lst Qj (re.same (Qi hl)),λ_=>⟨List.nodup_cons.mpr ⟨λh=>?_,nd⟩,λb hb=>?_⟩⟩ q1
  ·obtain ⟨ob,e1,_⟩:=re.dom l h
   rw [hl] at e1;cases e1
  ·rcases List.mem_cons.mp hb with rfl | hb
   ·exact ⟨p.fr.dom _ hl1,p.sr.nw hl1⟩
   ·exact ⟨p.fr.dom _ (nw b hb),p.sr.nw (nw b hb)⟩
def spl1 (d:D) (k:List D->Prop):Prop:=k [d]
theorem Qqe {we:WX} (ix:List Nat) (hp:X.Plain) (hP:Qaj X T) (hi:IV X T m pr (.Name x px) iter wl)
  (he:∀cl C s₀ H₀ fp xe XE,Vd ((Yn X scope cl C (bN2 X.N [x] ix) s₀ H₀ fp).wish xe) ⟨TR.own,TR.io,XE⟩->EVX ((Yn X scope cl C (bN2 X.N [x] ix) s₀ H₀ fp).wish xe) ⟨TR.own,TR.io,XE⟩ false true elt we)
  (B:CompB X scope x ix) (hc:X.calm=true:=by rfl) (hs:∀x,foldedSetIterable iter X.env x=pure x:=by intro _;rfl):EVX X T m true (.ListComp elt [⟨.Name x px,iter,[],0⟩] scope pos) (Qip spl1 wl we ix) :=
 Qnx ix hp hP hi (λH d v F k r q=>⟨[v],[d],_,.cons r .nil,rfl,q,λσ o Q ol hQ=>by
  match o,ol with
  | [o1],_=>exact hQ⟩) he B.B B.hix B.hN (λcl C s₀ H₀ fp=>Qcl (i:=0) B.hN rfl (.inl (lookup_relabel_local B.B.lx)) (.inr (lookup_relabel_local B.B.lx))) hc hs
end
end PV
variable {d:PV.D}
namespace L2
open PySem PySem.Spec PyProof.Rows
open PySem.W (findIn subIn mroIn clsIn Looks looks_findIn looks_subIn hideAll of_hideAll hideAll_get hideAll_none funFrames_hide)
def smV (v:V):Prop:=∃i:Int,v=.int i/\i.natAbs.log2<1920/\(toString i).length<=700
def spS (K:Frag) (C:Addr) (attr:Str):Sp:=λvs H Q _=>∃a v,vs=[.ref a,v]/\smV v/\H a=some (exO a C none)/\∀d,H d=none->d≠a->Q .non (upd (upd H a (exO a C (some d))) d (.xd [(attr,v)]))
theorem Qmd {Ξ:V->Addr->St->Hp->Prop} (hbd:X.mg x=some (.ref C)) (hkp:keepIn X.K (.ref C)=true) (k1:ExcC X.K C) (hi:findIn X.K (.ref C) "__init__" = some (some (.ref f))) (hf:typeIn X.K (.ref f)=some (.type "function"))
  (F:FnOk X.prog X.w X.K X.mg X.base CX0 k f fd ps (spS X.K C attr)) (hr:Room (k+1) X.A) (hb:X1 X.K fd ps []) (hg:Gl X x) (hc:X.calm=true) (ha:PA X (e₀::es) ta)
  (hX:∀pins σ H s e d od t v,Inv X pins σ H s->s.heap.get? e=some (Xu C t (some d))->H e=none->X.s₀.heap.get? e=none->H d=some (.frz od (.xd [(attr,v)]))->Ξ v d σ H->X.xe (.ref e) s)
  (hdb:(x == ("__debug__" : Str))=false:=by decide) (he:starEach (e₀::es) X.env=(false,eval e₀ X.env)::starEach es X.env:=by rfl) (hpl:(backTo cpos (starEach es X.env)).any (·.1)=false:=by rfl) :
  PS X (.Raise (some (.Call (.Name x np) (e₀::es) [] cpos)) none pos) (λD σ H=>ta σ H λvs H1=>∃v,vs=[v]/\smV v/\∀H2 d od,(∀b o,H1 b=some o->H2 b=some o)->H2 d=some (.frz od (.xd [(attr,v)]))->Ξ v d σ H2):=by
 intro pins s σ H D I h
 obtain ⟨nm,qq,N,bs,bm,sn,sub,ab,col,dd,k0,k1',k2,k3,k5,hbx,hob⟩:=k1.obj
 rw [arm_exec_Raise]
 refine wpAny_bind (wpAny_standAt (Qki (C:=C) (nm:=nm) (q:=qq) (N:=N) (bs:=bs) (bm:=bm) (hdct:=true) (sn:=sn) (sub:=sub) (ab:=ab) (col:=col) (dd:=dd) (k0:=k0) (k1:=k1') (k2:=k2) (k3:=k3) (k5:=k5) (newId:="ValueError.__new__") hbx (I.ok.hd hc) ?_))
 refine wpAny_bind (wpAny_mono (wpAny_Call_ofName (Xs I hg hbd ?_ hdb)) (λv s₃ h₃=>wpAny_bind (wpAny_standAt (wpAny_pure h₃))) λ_ _ x=>x)
 refine callWith_K (h₀:=X.base) I.ok.mod.kin hkp (thn (ha cpos pins s σ H _ I h) λus s2 ⟨vs,H1,I1,r,v,ev,hsm,hΞ⟩=>⟨I1.kIn,?_⟩) he hpl
 subst ev
 obtain ⟨u,rfl,ru⟩:=Qal r
 obtain ⟨c1,c2⟩:=hob s2.heap I1.kIn
 obtain ⟨hp,g,dr,tk,os⟩:=s2
 refine Qor PySem.F.excBase_ValueError c2 I1.kIn c1 hi hf (λh' e hm he=>?_) (by show 1<=sizeLine;decide)
 obtain ⟨t0,et,_⟩:=hm.there
 have hfe:H1 e=none:=I1.hok.fresh (by rw [he];exact Nat.le_succ _)
 have I2:=I1.laid (a:=e) (o:=exO e C none) (h':=h') (t':=tk) hm.keeps (by rw [he];exact Nat.le_succ _) (Qnw ⟨t0,et⟩)
 have r2:Vals [V.ref e,v] [Value.ref e,u]:=.cons rfl (.cons ru .nil)
 have hq:spS X.K C attr [V.ref e,v] (upd H1 e (exO e C none)) (λw H'=>w=.non/\∃d,H1 d=none/\d≠e/\H'=upd (upd (upd H1 e (exO e C none)) e (exO e C (some d))) d (.xd [(attr,v)])) E0 :=
  ⟨e,v,rfl,hsm,Qj,λd hd hne=>⟨rfl,d,by rw [Qm hne] at hd;exact hd,hne,rfl⟩⟩
 have hl:([Value.ref e,u]++([]:List Value)).length=ps.length:=by
  have:=F.len _ _ _ _ hq
  rw [← this];rfl
 have hbb:=hb { heap:=h',gens:=g,drawn:=dr,toks:=tk,os:=os } [Value.ref e,u] I2.kIn hl
 rw [List.append_nil] at hbb
 refine codeAny_mono (F.run _ X.stack _ _ ⟨[Value.ref e,u],[]⟩ [Value.ref e,u] _ _ E0 (hr.make C [u] []) (I2.env0.make C [u] []) hbb r2 hq) λr s' hq'=>?_
 cases r with
 | error e=>exact False.elim hq'
 | ok fl =>
  cases fl with
  | ret u' =>
   obtain ⟨v',H',I3,rv,ev,d,hd,hne,eH⟩:=I2.after hq'
   subst ev
   have he':H' e=some (exO e C (some d)):=by rw [eH,Qm (Ne.symm hne),Qj]
   have hd':H' d=some (.xd [(attr,v)]):=by rw [eH,Qj]
   obtain ⟨od,t,e1,I4⟩:=I3.refrz he' hd'
   have hn4:X.s₀.heap.get? e=none:=Heap.get?_none_of_le (Nat.le_trans I1.sz (by rw [he];exact Nat.le_succ _))
   have b1:Qc7 H' e d (.frz od (.xd [(attr,v)])) e=none:=by unfold Qc7;rw [if_pos rfl]
   have b2:Qc7 H' e d (.frz od (.xd [(attr,v)])) d=some (.frz od (.xd [(attr,v)])):=by unfold Qc7;rw [if_neg hne,if_pos rfl]
   refine ⟨by cases rv;rfl,e,t,some d,rfl,(hob s'.heap I3.kIn).1,e1,hX pins σ _ s' e d od t v I4 e1 b1 hn4 b2 (hΞ _ d od (λb o q=>?_) b2)⟩
   unfold Qc7
   rw [if_neg (λz=>by rw [z,hfe] at q;cases q),if_neg (λz=>by rw [z,hd] at q;cases q),eH,Qm (λz=>by rw [z,hd] at q;cases q),Qm (λz=>by rw [z,hfe] at q;cases q),Qm (λz=>by rw [z,hfe] at q;cases q)]
   exact q
  | next=>exact False.elim hq'
  | brk=>exact False.elim hq'
  | cont=>exact False.elim hq'
def tFs3 (c d:Str) (te:TE):TE:=λσ H Q=>c.length<=sizeLine/\te σ H λx H1=>∃i:Int,x=.int i/\i.natAbs.log2<1920/\(c++Str.ofString (toString i)).length<=sizeLine/\(c++Str.ofString (toString i)++d).length<=sizeLine/\Q (.str (c++Str.ofString (toString i)++d)) H1
theorem Qpq {d:Str} {k2:Nat} {p1 p3:Pos} (he:PE X e te):PE X (.JoinedStr [.Constant (.str c) k p1,.FormattedValue e (-1) none p3,.Constant (.str d) k2 p2] pos) (tFs3 c d te):=by
 intro pins s σ H Q I h
 refine wpAny_JoinedStr ?_
 show Joins _ _ _ [eval (.Constant (.str c) k p1) X.env,eval (.FormattedValue e (-1) none p3) X.env,eval (.Constant (.str d) k2 p2) X.env] _ _ _
 refine wpAny_Constant_str ⟨c,_,rfl,?_,?_⟩
 ·rw [Str.empty_append];exact h.1
 ·refine wpAny_FormattedValue_plain (thn (he pins _ σ H _ (I.tok _) h.2) λv s1 ⟨x,H1,I1,r1,q1⟩=>?_)
  obtain ⟨i,rfl,hi,hz,hz2,q⟩:=q1
  obtain ⟨t,rfl⟩:=r1
  refine wpAny_formatField_int hi ⟨_,_,rfl,?_,?_⟩
  ·rw [Str.empty_append];exact hz
  ·rw [Str.empty_append]
   refine wpAny_Constant_str ⟨d,_,rfl,hz2,?_⟩
   exact ⟨hz2,.str _,H1,(I1.tok _).tok _,⟨_,rfl⟩,q⟩
end L2
namespace PV
open PySem PySem.Spec L2
open PyProof.Rows (envOfC)
def Gw (P:Program) (w:World) (K:Frag) (mg:Str->Option Value) (base:Heap) (x attr:Str) (k:Nat):Prop:=∃C f fd ps,mg x=some (.ref C)/\atN K x C/\keepIn K (.ref C)=true/\ExcC K C/\PySem.W.findIn K (.ref C) "__init__" = some (some (.ref f))/\typeIn K (.ref f)=some (.type "function") /\
 FnOk P w K mg base CX0 k f fd ps (L2.spS K C attr)/\X1 K fd ps []
def Vo (x attr:Str) (wr:WA):WS:=λP ρ=>wr ρ λds ρ'=>match ds with
 | [.int i]=>(i.natAbs.log2<1920/\(toString i).length<=700)/\P.xc (.obj x [(attr,i)]) ρ'
 | _=>False
theorem Uc (hI:Gw X.prog X.w X.K X.mg X.base x attr k) (hr:Room (k+1) X.A) (hX:∀C,atN X.K x C->V8 X T x C attr) (ha:AV X T m o (e₀::es) wr) (hg:Gl X x:=by rfl) (hc:X.calm=true:=by rfl)
  (hdb:(x == ("__debug__" : Str))=false:=by decide) (he:starEach (e₀::es) X.env=(false,eval e₀ X.env)::starEach es X.env:=by rfl) (hpl:(backTo cpos (starEach es X.env)).any (·.1)=false:=by rfl) :
  SV X T (.Raise (some (.Call (.Name x np) (e₀::es) [] cpos)) none pos) (Vo x attr wr):=by
 obtain ⟨C,f,fd,ps,h1,h2,h3,h4,h5,h6,F,hb⟩:=hI
 obtain ⟨ta,pa,ga⟩:=ha
 refine ⟨_,Qmd (Ξ:=λv d σ H=>∃i,v=.int i/\T.xe (.obj x [(attr,i)]) σ H) h1 h3 h4 h5 h6 F hr hb hg hc pa (λpins σ H s e d od t v I q1 q2 q3 q4 q5=>?_) hdb he hpl,λz R σ H W ρ P E s hw l=>?_⟩
 ·obtain ⟨i,rfl,q5⟩:=q5
  exact hX C h2 pins σ H s e d od t i I q1 q2 q3 q4 q5
 ·refine ga z R σ H W ρ _ _ s hw λvs H1 W1 ds ρ1 F p q=>?_
  split at q
  ·rename_i i
   cases p.rep with
   | cons r rs =>
    cases rs
    cases r
    exact ⟨_,rfl,⟨i,rfl,q.1⟩,λH2 d od sm hd=>⟨i,rfl,l.xc R σ H2 W1 ρ1 _ (p.sr.same sm) (p.fr.trans (FrW.same W1 sm)) q.2⟩⟩
  ·exact q.elim
section
variable {w:World}
theorem Qky (F:Fun K x qual st f fd) (S:FnScope N ps (Qb st)) (hio:T.io=[]) (hown:∀i,i<ps.length->T.own i=false) (hg:∀ds kk kx,g ds kk kx->ds.length=ps.length)
  (hb:∀(cdv:Value) (A:Around) (outer:List PySem.Env) (s:Shared) (H:Hp) (E:XK) (XE:D->St->Hp->Prop),Room k (A.deeper (envOfC qual (Qb st) s.heap.objs.size f cdv)) ->
   (∀x C,atN K x C->X0 (cxOf (CXD P w base) P w K mg base N qual (Qb st) f cdv A outer s H E) ⟨T.own,T.io,XE⟩ x C)->(∀x attr C,atN K x C->V8 (cxOf (CXD P w base) P w K mg base N qual (Qb st) f cdv A outer s H E) ⟨T.own,T.io,XE⟩ x C attr)->Vd (cxOf (CXD P w base) P w K mg base N qual (Qb st) f cdv A outer s H E) ⟨T.own,T.io,XE⟩->Qaj (cxOf (CXD P w base) P w K mg base N qual (Qb st) f cdv A outer s H E) ⟨T.own,T.io,XE⟩->SVs (cxOf (CXD P w base) P w K mg base N qual (Qb st) f cdv A outer s H E) ⟨T.own,T.io,XE⟩ (Qr st) ww)
  (hr:∀ds kk kx,g ds kk kx->ww { nx:=λ_=>kk .non,rt:=λd _=>kk d,xc:=λd _=>kx d } (env0 N ds)):FnOk P w K mg base (CXD P w base) (k+1) f fd ps (spXD K g):=by
 obtain ⟨oc,od,kV,doc,pm,an,cdv,ct,osl,rfl,lk,hcd⟩:=F.ex
 refine Qxb lk hcd S (λvs H Q E h=>?_) λA outer s H vs Q E hroom h=>?_
 ·obtain ⟨ds,Fp,kk,kx,rep,hgk,_⟩:=h
  rw [rep.length];exact hg ds kk kx hgk
 ·obtain ⟨ds,Fp,kk,kx,rep,hgk,q,qx⟩:=h
  obtain ⟨ts,pts,gts⟩:=hb cdv A outer s H E (λd _ H'=>∀x C fs dx,atN K x C->d=.obj x fs->Fld H' dx fs->E (.ref C) dx H') hroom (λx C hn pins σ H1 s1 h1 e vs I hx hT=>by
   obtain ⟨t,ht,_,_⟩:=hx.there
   have hn1:H1 e=none:=by
    cases q:H1 e with
    | none=>rfl
    | some o =>
     obtain ⟨o1,e1⟩:=(I.hok e o q).there
     rw [hx.new] at e1
     cases e1
   refine Qct (X:=cxOf (CXD P w base) P w K mg base N qual (Qb st) f cdv A outer s H E) ⟨rfl,rfl,rfl⟩ (I.kept (t':=s1.toks) hx.keeps) ht hn1 ?_ λh' B fl da=>⟨e,C,t,none,B,H1,rfl,fl,da,hT x C [] none hn rfl (.inl rfl)⟩
   cases q:s.heap.get? e with
   | none=>exact q
   | some o =>
    obtain ⟨o1,e1⟩:=I.base.there e o q (by show e∉[];simp)
    rw [hx.new] at e1
    cases e1) (λx attr C hn pins σ H1 s1 e d od t i I he hn1 h0 hd hT =>
   Qct (X:=cxOf (CXD P w base) P w K mg base N qual (Qb st) f cdv A outer s H E) ⟨rfl,rfl,rfl⟩ I he hn1 h0 λh' B fl da=>⟨e,C,t,some d,B,H1,rfl,fl,da,hT x C _ (some d) hn rfl (.inr ⟨d,od,rfl,hd⟩)⟩) (λpins σ H1 s1 e s' I z=>by
   obtain ⟨ea,C,t,dx,B,H',rfl,fl,da,C',eC,y,fs,hn,hfl,hT⟩:=z
   cases eC
   exact Qm3 (X:=cxOf (CXD P w base) P w K mg base N qual (Qb st) f cdv A outer s H E) ⟨rfl,rfl,rfl⟩ I fl da λh' fl' da'=>⟨ea,C,t,dx,B,H',rfl,fl',da',hT y C fs dx hn rfl hfl⟩) (λpins σ H1 s1 e s' I z=>wpAny_mono (Qkr (X:=cxOf (CXD P w base) P w K mg base N qual (Qb st) f cdv A outer s H E) ⟨rfl,rfl,rfl⟩ I z) (λ_ s2 z=>by
   obtain ⟨ea,C,t,dx,B,H',rfl,fl,da,C',eC,y,fs,hn,hfl,hT⟩:=z
   cases eC
   exact ⟨ea,C,t,dx,B,H',rfl,fl,da,hT y C fs dx hn rfl hfl⟩) λ_ _ z=>z)
  have hl:=rep.length
  have hds:=hg ds kk kx hgk
  refine ⟨ts,pts,gts (λ_=>.non) (Any H) (L2.Vz N vs) H (λ_=>False) (env0 N ds) _ _ (SR.readonly hio ?_ λi d hli=>?_) (hr ds kk kx hgk) ⟨?_,?_,?_,?_,?_⟩⟩
  ·unfold env0 L2.Vz;simp [hl]
  ·unfold env0 at hli
   rw [Vl] at hli
   obtain ⟨v,B,h1,h2,_⟩:=rep.get hli
   exact ⟨hown i (by rw [← hds];exact (List.getElem?_eq_some_iff.mp hli).1),v,B,Ud h1,h2⟩
  ·intro R' σ' H' W' ρ' s' fr hk
   have sm:Same H H':=λb o e=>fr.keep b o e (λz=>z)
   exact q .non H' .non [] ⟨sm,.non,List.nodup_nil,λ_ m=>nomatch m⟩ hk
  ·exact λR' σ' H' W' ρ' s' fr hk=>hk.elim
  ·exact λR' σ' H' W' ρ' s' fr hk=>hk.elim
  ·intro R' v σ' H' W' ρ' d F' s' fr r nd nw hk
   have sm:Same H H':=λb o e=>fr.keep b o e (λz=>z)
   exact q v H' d F' ⟨sm,r,nd,λa ha=>(nw a ha).2.resolve_left id⟩ hk
  ·intro R' σ' H' W' ρ' d s' fr hk x C fs dx hn e hfl
   subst e
   exact qx x C dx fs H' hn (λb o e=>fr.keep b o e (λz=>z)) hfl hk
end
section
variable {a b:Expr} {wrx:WAX}
def Qsr (wr:WAX):WX:=λρ Q xc=>wr ρ (λds ρ'=>ds.length<=sizeLine/\Q (.lst ds) ρ') xc
theorem Que (h:AVX X T m o es wrx):EVX X T m o (.List es pos) (Qsr wrx):=by
 obtain ⟨ta,pa,ga⟩:=h
 refine ⟨_,Qmm pa,λz R σ H W ρ Q Q' xc s hx hw k=>ga z R σ H W ρ _ _ xc s hx hw λvs H1 W1 ds ρ1 F p q=>?_⟩
 obtain ⟨hz,q⟩:=q
 refine ⟨by rw [p.rep.length];exact hz,λa ha=>k _ _ W1 (.lst ds) ρ1 (a::F) ⟨p.sr.same (Qi ha),p.fr.trans (FrW.same W1 (Qi ha)),λh=>⟨(p.calm h).1.trans (Qi ha),(p.calm h).2⟩,.lst Qj (p.rep.same (Qi ha)),λh=>?_⟩ q⟩
 obtain ⟨n1,k1⟩:=p.own h
 refine ⟨List.nodup_cons.mpr ⟨λm=>?_,n1⟩,λb mb=>?_⟩
 ·obtain ⟨ob,e,_⟩:=p.rep.dom a m
  rw [ha] at e;cases e
 ·rcases List.mem_cons.mp mb with rfl | mb
  ·exact ⟨p.fr.dom _ ha,p.sr.nw ha⟩
  ·exact k1 b mb
end
section
variable {a:Expr} {wrx:WAX} {id:String}
def wMtX (i:Nat) (t:String) (g:GM) (wr:WAX):WX:=λρ Q xc=>tyD (look ρ i) t=true/\wr ρ (λds ρ1=>oget (look ρ1 i) λd=>g d ds λe d'=>Q e (ρ1.set i (some d'))) xc
theorem Qr7 {g:GM} (hm:MtD X id g) (pa:PlainAttrs T') (slot:Slot T' name id) (hty:typeOf (.builtin id)=pure (.type "method_descriptor")) (ha:AVX X T m o (e::es) wrx) (ho:o=true:=by rfl)
  (ht:T.own i=true:=by rfl) (hN:X.N[i]? = some x:=by rfl) (hv:Vis X.env.scope x:=by first | exact Or.inl rfl | exact Or.inr (Or.inl rfl) | exact Or.inr (Or.inr rfl)) (hd:(x == ("__debug__" : Str))=false:=by decide)
  (hcd:(x == ("__classdict__" : Str))=false:=by decide)
  (hbase:attributeBase (.Name x p) name X.env (eval (.Name x p) X.env)=eval (.Name x p) X.env:=by rfl)
  (hfew:((backTo cpos (starEach (e::es) X.env)).all (λx=>!x.1) && (backToKw cpos (keywordEach [] X.env)).all (λx=>x.1.isSome)
   && decide ((e::es).length+([]:List Keyword).length+(if ([]:List Keyword).isEmpty then 0 else 1)<30))=true:=by rfl)
  (hline:(apos.endLine == cpos.line)=true:=by rfl) (hs:starEach (e::es) X.env=(false,eval e X.env)::starEach es X.env:=by rfl) (hplain:(backTo cpos (starEach es X.env)).any (·.1)=false:=by rfl) :
  EVX X T true true (.Call (.Attribute (.Name x p) name apos) (e::es) [] cpos) (wMtX i T' g wrx):=by
 subst ho
 obtain ⟨r,mr,gr⟩:=hm
 obtain ⟨ta,pa',ga⟩:=ha
 refine ⟨_,Qhp pa slot hty mr (Vt hN hv hd hcd) pa' hbase hfew hline hs hplain,λz R σ H W ρ Q Q' xc s hx hw k=>?_⟩
 obtain ⟨hty,hw⟩:=hw
 obtain ⟨fp0,s0⟩:=_root_.id s
 cases hl:look ρ i with
 | none=>rw [hl] at hty;cases hty
 | some d0 =>
  obtain ⟨v,hv,r0⟩:=s0.at_ i d0 hl
  refine ⟨v,hv,Qll r0 (by rw [hl] at hty;exact hty),?_⟩
  refine ga z R σ H W ρ _ _ xc s hx hw λvs H1 W1 ds ρ1 G p q=>?_
  obtain ⟨d,hd,q⟩:=Qn q
  obtain ⟨fp,s1⟩:=_root_.id p.sr
  obtain ⟨v',hv',r1⟩:=s1.at_ i d hd
  have:v'=v:=by rw [hv] at hv';cases hv';rfl
  subst this
  obtain ⟨nd1,sw⟩:=s1.own i d hd ht
  obtain ⟨ndG,kG⟩:=p.own rfl
  refine gr H1 d ds v' vs (fp i) G _ Q' r1 nd1 p.rep ndG (λa ha hf=>(kG a ha).2 (sw a hf)) q λu l ob e d' F' hlF him rd' ndF sub re hk=>?_
  have hWl:=sw l hlF
  refine k u _ (λa=>W1 a\/a∈F') e _ [] ⟨s1.write hd ht hv' hlF Zo ⟨ob,Qj,him⟩ rd' ndF (λa ha=>?_),p.fr.write hWl (s1.wd l hWl) Zo ⟨ob,Qj,him⟩ (λa ha=>?_),(λh=>nomatch h),re,λ_=>⟨List.nodup_nil,λa m=>nomatch m⟩⟩ hk
  ·rcases sub a ha with h | h
   ·exact .inl h
   ·exact .inr ⟨(kG a h).2,s.nr (kG a h).1⟩
  ·rcases sub a ha with h | h
   ·exact .inl (sw a h)
   ·exact .inr (kG a h).1
end
end PV
variable {x1:Nat}
namespace L2
open PySem PySem.Spec PyProof.Rows
section
variable {p0 tp:Pos}
theorem Qke {sp:Sp} (F:FnOk X.prog X.w X.K X.mg X.base (CXD X.prog X.w X.base) k f fd ps sp) (hr:Room k X.A) (hg:Gl X x) (hm:X.mg x=some (.ref f)) (hk:keepIn X.K (.ref f)=true) (hb:X1 X.K fd ps [])
  (ha:PA X.nox (e₀::es) ta) (hN:X.N.Nodup) (hi:X.N[i]? = some y) (hy:Loc X.env.scope y) (hst:starEach [.Constant (.str c) k0 p0,.Call (.Name x p) (e₀::es) [] cpos] X.env=(false,eval (.Constant (.str c) k0 p0) X.env)::starEach [.Call (.Name x p) (e₀::es) [] cpos] X.env)
  (hst2:starEach [.Call (.Name x p) (e₀::es) [] cpos] X.env=(false,eval (.Call (.Name x p) (e₀::es) [] cpos) X.env)::starEach [] X.env)
  (hs:swapsWith (.Tuple [.Constant (.str c) k0 p0,.Call (.Name x p) (e₀::es) [] cpos] x1 tp) (some (.Name y px)) pos.line X.env=pure false) (hf:X.fn y=true\/X.env.scope.names.lookup y=some .local) (hdb:(x == ("__debug__" : Str))=false)
  (he:starEach (e₀::es) X.env=(false,eval e₀ X.env)::starEach es X.env) (hpl:(backTo cpos (starEach es X.env)).any (·.1)=false) :
  Qsk X [.Assign [.Name y px] (.Tuple [.Constant (.str c) k0 p0,.Call (.Name x p) (e₀::es) [] cpos] x1 tp) pos] (λD E σ H=>ta σ H λvs H1=>sp vs H1 (λv H2=>∀t,H2 t=none->D.nx (σ.set i (some (.ref t))) (upd H2 t (.tup [.str c,v]))) E):=by
 intro pins s σ H D E I h
 refine wpAny_execs_cons (wpAny_Assign_Name (wpAny_Tuple_spliced ?_) hs)
 rw [hst]
 show wpAny _ _ (spliced ((false,eval (.Constant (.str c) k0 p0) X.env)::backTo tp (starEach [.Call (.Name x p) (e₀::es) [] cpos] X.env))) _ _ s
 refine Calls.spliced_cons (wpAny_mono (Qml (X:=X.nox) pins s σ H (λv H'=>v=.str c/\H'=H) (I.wish _) ⟨rfl,rfl⟩) (λu s1 z=>?_) λ_ _ z=>False.elim z)
 obtain ⟨v1,H1,I1,r1,rfl,rfl⟩:=z
 have I1:=I1.unwish
 rw [hst2]
 show wpAny _ _ (spliced ((false,eval (.Call (.Name x p) (e₀::es) [] cpos) X.env)::backTo tp (starEach [] X.env))) _ _ s1
 refine Calls.spliced_cons (wpAny_mono (Qgq F hr hg hm hk hb ha I1 h hdb he hpl) (λu2 s2 z=>?_) λ_ _ z=>z)
 obtain ⟨v2,H2,I2,r2,q2⟩:=z
 refine wpAny_mono (Vu (X:=X.nox) tp pins s2 σ H2 (λxs H'=>xs=[]/\H'=H2) (I2.wish _) ⟨rfl,rfl⟩) (λus s3 z=>?_) λ_ _ z=>False.elim z
 obtain ⟨xs,H3,I3,r3,rfl,rfl⟩:=z
 have I3:=I3.unwish
 cases r3
 refine ⟨by show 2<=sizeLine;decide,?_⟩
 have hfr:H3 s3.heap.objs.size=none:=I3.hok.fresh (Nat.le_refl _)
 refine Qbq (I3.laid (o:=.tup [V.str c,v2]) (t':=s3.toks) (λb u e=>Heap.get?_push_of_some _ e) (Nat.le_refl _) ?_) hN hi hy (v:=.ref s3.heap.objs.size) rfl (λs4 I4=>wpAny_execs_nil ⟨_,_,I4,q2 _ hfr⟩) hf
 exact ⟨by show 2<=sizeLine;decide,[u,u2],.cons r1 (.cons r2 .nil),⟨_,Heap.get?_push_size _ rfl,rfl,_,rfl⟩⟩
end
end L2
namespace PV
open PySem PySem.Spec L2
open PyProof.Rows (envOfC)
section
variable {a b:Expr}
def Qlg (i:Nat) (c:Str) (g:GX) (wr:WA) (cat:Str->Bool) (j:Nat) (wh:WS):WS:=λP ρ=>wr ρ λds ρ'=>g ds (λd=>P.nx (ρ'.set i (some (.tup [.str c,d])))) λd=>match d with
 | .obj x fs=>cat x=true/\wh (P.un j) (ρ'.set j (some (.obj x fs)))
 | _=>False
theorem Qo9 {f n:Str} {p0 tp px':Pos} {cat:Str->Bool} (C:CalD X.prog X.w X.K X.mg X.base f k ps (spXD X.K g)) (hr:Room k X.A) (hp:X.Plain) (ha:AV X.nox T false o (e₀::es) wr) (hcx:X.mg cx=some (.ref C0))
  (hcat:∀x C,cat x=true->atN X.K x C->exmOne X.K (.ref C) (.ref C0)=some true) (hh:∀ea,SVsJ (X.han ea) T (b₀::suite) wh) (hN:X.N.Nodup)
  (hi:X.N[i]? = some y:=by rfl) (hio:i∉T.io:=by decide) (hy:Loc X.env.scope y:=by first | exact Or.inl rfl | exact Or.inr rfl) (hf:X.fn y=true\/X.env.scope.names.lookup y=some .local:=by first | exact .inl rfl | exact .inr rfl | assumption) (hst:starEach [.Constant (.str c) k0 p0,.Call (.Name f p) (e₀::es) [] cpos] X.env=(false,eval (.Constant (.str c) k0 p0) X.env)::starEach [.Call (.Name f p) (e₀::es) [] cpos] X.env:=by rfl) (hst2:starEach [.Call (.Name f p) (e₀::es) [] cpos] X.env=(false,eval (.Call (.Name f p) (e₀::es) [] cpos) X.env)::starEach [] X.env:=by rfl) (hj:X.N[j]? = some n:=by rfl) (hjo:j∉T.io:=by decide) (hg:Gl X f:=by rfl) (hgc:Gl X cx:=by rfl)
  (hl:X.env.kindOf n=some .local:=by rfl) (hlo:X.env.scope.names.lookup n=some .local:=by rfl) (hdb:(f == ("__debug__" : Str))=false:=by decide) (hdc:(cx == ("__debug__" : Str))=false:=by decide)
  (he:starEach (e₀::es) X.env=(false,eval e₀ X.env)::starEach es X.env:=by rfl) (hpl:(backTo cpos (starEach es X.env)).any (·.1)=false:=by rfl) (hsw:swapsWith (.Tuple [.Constant (.str c) k0 p0,.Call (.Name f p) (e₀::es) [] cpos] x1 tp) (some (.Name y px')) p2.line X.env=pure false:=by rfl) :
  SV X T (.Try [.Assign [.Name y px'] (.Tuple [.Constant (.str c) k0 p0,.Call (.Name f p) (e₀::es) [] cpos] x1 tp) p2] [.ExceptHandler (some (.Name cx np)) (some n) (b₀::suite) hpos] [] [] pos) (Qlg i c g wr cat j wh):=by
 obtain ⟨fa,fd,F,h1,h2,h3⟩:=C
 obtain ⟨ta,pa,ga⟩:=ha
 have ph:∀ea,PSs (X.han ea) (b₀::suite) (λE σ H=>∃(z:Nat->V) (R:Addr->Prop) (W:Addr->Prop) (ρ:Env) (P:EndsP),SR X.K T z R H W σ ρ/\HnH (X.han ea).A H/\wh P ρ/\Lk X.K T z H W P E):=λea=>by
  obtain ⟨t1,p1,g1⟩:=hh ea
  intro pins s σ H D I ⟨z,R,W,ρ,P,s0,hx,hw,l⟩
  exact p1 pins s σ H D I (g1 z R σ H W ρ P D s0 hx hw l)
 refine ⟨_,Qtj (C0:=C0) hp (Qke F hr hg h1 h2 h3 pa hN hi hy hst hst2 hsw hf hdb he hpl) hcx hgc hN hj hl hlo ph hdc,λz R σ H W ρ P E s hw l=>?_⟩
 refine ga z R σ H W ρ _ _ s hw λvs H1 W1 ds ρ1 Fp p q=>?_
 obtain ⟨sm0,hW,hρ⟩:=p.calm rfl
 refine ⟨ds,Fp,_,_,p.rep,q,λv H' d F' fi hk=>?_,λx C dx fs H' hn sm hfl hk=>?_⟩
 ·intro t ht
  have smt:=Qi (ob:=HO.tup [V.str c,v]) ht
  obtain ⟨fp,s1⟩:=(p.sr.same fi.same).same smt
  have rep:Rep X.K (upd H' t (.tup [.str c,v])) (.tup [.str c,d]) (.ref t) ([]++F'):=.tup Qj (.cons (.str c) (Reps.one (fi.rep.same smt)))
  have nW:∀a∈F',¬W1 a:=λa ha hw=>by
   obtain ⟨ob,e1,_⟩:=p.sr.wd a hw
   rw [fi.new a ha] at e1
   cases e1
  obtain ⟨R',s2⟩:=s1.bind (i:=i) hio rep fi.nd (λa ha=>⟨nW a ha,p.sr.nr (fi.new a ha)⟩)
  refine l.nx R' _ _ _ _ s2 (Um ((p.fr.trans (FrW.same W1 fi.same)).trans (FrW.same W1 smt)) λa h=>?_) hk
  cases q0:H a with
  | none=>rfl
  | some ob =>
   have:=fi.new a h.2
   rw [sm0 a ob q0] at this
   cases this
 ·obtain ⟨hc1,hk⟩:=hk
  refine ⟨C,rfl,hcat x C hc1 hn,λea ob φ hcl hdx hne=>?_⟩
  obtain ⟨hdx,vs',hdt,hd2⟩:=hdx
  have smu:Same H' (upd H' ea (.frz ob (.ext φ))):=Qi hne
  obtain ⟨fp,s1⟩:=(p.sr.same sm).same smu
  have rep:Rep X.K (upd H' ea (.frz ob (.ext φ))) (.obj x fs) (.ref ea) []:=.obj Qj ⟨C,hcl,hn⟩ (hfl.imp id λ⟨d,od,e1,e2⟩=>⟨d,od,vs',hdx.trans e1,hdt,smu _ _ e2⟩)
  obtain ⟨R',s2⟩:=s1.bind (i:=j) hjo rep (by simp) (λa ha=>nomatch ha)
  have fr0:FrW H W (upd H' ea (.frz ob (.ext φ))) (λa=>W1 a\/(T.own j=true/\a∈([]:List Addr))):=Um ((p.fr.trans (FrW.same W1 sm)).trans (FrW.same W1 smu)) λa h=>nomatch h.2
  have l2:=l.step fr0
  refine ⟨z,R',_,_,P.un j,s2,⟨ea,ob,φ,vs',rfl,Qj,hdt,hd2⟩,hk,λR σ' H' W' ρ' s' f' h=>?_,λR σ' H' W' ρ' s' f' h=>?_,λR σ' H' W' ρ' s' f' h=>?_,l2.rt,λR σ' H' W' ρ' d s' f' h=>h.elim⟩
  ·exact l2.nx R _ H' W' _ (s'.unset hjo) f' h
  ·exact l2.bk R _ H' W' _ (s'.unset hjo) f' h
  ·exact l2.ct R _ H' W' _ (s'.unset hjo) f' h
theorem Qqf {x1} (h:EVJ X T e w) (h2:EV X T false true b wb) (hs:starEach [e,b] X.env=(false,eval e X.env)::starEach [b] X.env:=by rfl) (hs2:starEach [b] X.env=(false,eval b X.env)::starEach [] X.env:=by rfl):EVJ X T (.Tuple [e,b] x1 pos) (wTup (Qd w (Qd wb wNil))):=by
 obtain ⟨te,pe,ge⟩:=h
 obtain ⟨tb,pb,gb⟩:=h2
 refine ⟨_,Qi9 (Js pe (Js pb Vu hs2) hs),λz R σ H W ρ Q Q' s hx hw k=>?_⟩
 refine ge z R σ H W ρ _ _ s hx hw λv H1 W1 d ρ1 F p q=>?_
 refine gb z R σ H1 W1 ρ1 _ _ p.sr q λv2 H2 W2 d2 ρ2 F2 p2 q=>?_
 obtain ⟨hz,q⟩:=q
 refine ⟨hz,λa ha=>?_⟩
 have rs:Reps X.K H2 [d,d2] [v,v2] (F++(F2++[])):=.cons (p.first p2 (.inr rfl)) (.cons p2.rep .nil)
 rw [List.append_nil] at rs
 refine k _ _ W2 (.tup [d,d2]) ρ2 (F++F2) ⟨p2.sr.same (Qi ha),(p.fr.trans p2.fr).trans (FrW.same W2 (Qi ha)),λ_=>?_,.tup Qj (rs.same (Qi ha)),λ_=>?_⟩ q
 ·obtain ⟨a1,a2,a3⟩:=p.calm2 p2 rfl
  exact ⟨a1.trans (Qi ha),a2,a3⟩
 ·obtain ⟨n1,k1⟩:=p.firstOwn p2 rfl
  obtain ⟨n2,k2⟩:=p.lastOwn p2 rfl
  refine ⟨List.nodup_append.mpr ⟨n1,n2,λa ma b mb z=>?_⟩,λa ma=>(List.mem_append.mp ma).elim (k1 a) (k2 a)⟩
  subst z
  obtain ⟨ob,e1,_⟩:=p.rep.dom a ma
  rw [((p2.own rfl).2 a mb).1] at e1;cases e1
end
end PV
namespace L2
open PySem PySem.Spec PyProof.Rows
def Qta:V->List V->Hp->VK->Prop:=λx vs H Q=>∃(a:Addr) (ns:List Int) (n:Int),x=.ref a/\vs=[.int n]/\H a=some (.lst (ns.map V.int))/\Q (.int (ns.count n)) H
theorem Qmz:MtM X "list.count" Qta:=by
 intro pins s σ H x vs v us Q I rx rv h
 obtain ⟨a,ns,n,rfl,rfl,hH,q⟩:=h
 cases rx
 obtain ⟨u,rfl,t,rfl⟩:=rv.one
 obtain ⟨hz,its,c,r',e1⟩:=I.hok a _ hH
 have hi:=Qjn r'
 refine call_meets PySem.F.slot_list_count ⟨_,e1,rfl⟩ PySem.F.entry_list_count (PySem.F.args_list_count_2 _ _) (SeqAt.list_countAt a its.toArray c none #[] (.int n t) (isN n)) ⟨e1,λy hy=>?_,?_⟩
 ·obtain ⟨m,tk,rfl⟩:=Qnh hi y (by simpa using hy)
  exact SeqAt.EqAt.int_int m tk n t
 ·refine ⟨.int (ns.count n),H,I.tok _,⟨s.toks,?_⟩,q⟩
  rw [show its.toArray.toList=its from rfl,Qc4 hi]
end L2
namespace PV
open PySem PySem.Spec L2
section
variable {we:WE} {ps1 ap2 cp2:Pos}
theorem huH (r:Room k A):A.units+1<cLine:=by
 have:=r.un
 omega
def lcOf (d:D) (ds:List D) (k:D->Prop):Prop:=match d,ds with
 | .lst xs,[.int n]=>∃ns:List Int,xs=ns.map D.int/\k (.int (ns.count n:Nat))
 | _,_=>False
def isLs:D->Bool
 | .lst _=>true
 | _=>false
def Qg6 (w:WE) (wr:WA):WE:=λρ Q=>w ρ λd ρ1=>isLs d=true/\wr ρ1 λds ρ2=>lcOf d ds λr=>Q r ρ2
theorem Qn0 (ho:EV X T false o oe w) (ha:AV X T false o2 [e] wr)
  (hbase:attributeBase oe "count" X.env (eval oe X.env)=eval oe X.env:=by rfl)
  (hfew:((backTo cpos (starEach [e] X.env)).all (λx=>!x.1) && (backToKw cpos (keywordEach [] X.env)).all (λx=>x.1.isSome)
   && decide (([e]:List Expr).length+([]:List Keyword).length+(if ([]:List Keyword).isEmpty then 0 else 1)<30))=true:=by rfl)
  (hline:(apos.endLine == cpos.line)=true:=by rfl) (hs:starEach [e] X.env=(false,eval e X.env)::starEach [] X.env:=by rfl) (hplain:(backTo cpos (starEach [] X.env)).any (·.1)=false:=by rfl) :
  EV X T false true (.Call (.Attribute oe "count" apos) [e] [] cpos) (Qg6 w wr):=by
 obtain ⟨te,pe,ge⟩:=ho
 obtain ⟨ta,pa,ga⟩:=ha
 refine ⟨_,Qhp PySem.F.plainAttrs_list PySem.F.slot_list_count PySem.F.type_list_count Qmz pe pa hbase hfew hline hs hplain,λz R σ H W ρ Q Q' s hw k=>?_⟩
 refine ge z R σ H W ρ _ _ s hw λv1 H1 W1 d1 ρ1 F1 p q1=>?_
 obtain ⟨hft,q1⟩:=q1
 cases d1 <;> try (simp [isLs] at hft;done)
 rename_i xs
 have rp:=p.rep
 obtain ⟨c1,c2,c3⟩:=p.calm rfl
 subst c2 c3
 obtain ⟨a,ys,G,rfl,rfl,e1,r3⟩:=rp.iLst
 refine ⟨.inl ⟨rfl,_,.of e1⟩,ga z R σ H1 _ _ _ _ p.sr q1 λvs H2 W2 ds ρ2 F2 q q2=>?_⟩
 obtain ⟨b1,b2,b3⟩:=q.calm rfl
 subst b2 b3
 match ds,q.rep,q2 with
 | [.int n],rq,q3 =>
  obtain ⟨ns,rfl,q4⟩:=q3
  obtain ⟨u,rfl,ru⟩:=rq.at1
  cases ru
  obtain ⟨rfl,-⟩:=r3.of_ints
  exact ⟨_,ns,n,rfl,rfl,b1 _ _ e1,k _ H2 _ _ _ [] (Post.flat (s.same (c1.trans b1)) (FrW.same _ (c1.trans b1)) (λ_=>⟨c1.trans b1,rfl,rfl⟩) (.int _)) q4⟩
def tlOf (d:D) (k:List D->List D->Prop):Prop:=match d with
 | .lst l=>∃ds xs,l=ds++[.lst xs]/\k ds xs
 | _=>False
theorem Qu1 {k:List D->List D->Prop} (h:tlOf d k):∃ds xs,d=.lst (ds++[.lst xs])/\k ds xs:=by
 cases d with
 | lst l =>
  obtain ⟨ds,xs,rfl,h⟩:=h
  exact ⟨ds,xs,rfl,h⟩
 | _=>exact (show False from h).elim
def wTkl (i:Nat) (we:WE):WS:=λP ρ=>oget (look ρ i) λd=>tlOf d λds xs=>Qo xs=true/\xs.length<sizeLine/\we ρ λe _=>e.pure=true/\P.nx (ρ.set i (some (.lst (ds++[.lst (xs++[e])]))))
theorem Qu6 {j1:Nat} {p1 p3:Pos} (he:EV X T false o1 e we) (ht:T.own i=true:=by rfl) (hN:X.N[i]? = some x:=by rfl)
  (hvis:Vis X.env.scope x:=by first | exact Or.inl rfl | exact Or.inr (Or.inl rfl) | exact Or.inr (Or.inr rfl)) (hd:(x == ("__debug__" : Str))=false:=by decide) (hcd:(x == ("__classdict__" : Str))=false:=by decide) (hs1:Qil (.UnaryOp .USub (.Constant (.int 1) j1 p1) p3):=by intro _ _;rfl)
  (b2:attributeBase (.Subscript (.Name x p) (.UnaryOp .USub (.Constant (.int 1) j1 p1) p3) ps1) "append" X.env (eval (.Subscript (.Name x p) (.UnaryOp .USub (.Constant (.int 1) j1 p1) p3) ps1) X.env)=eval (.Subscript (.Name x p) (.UnaryOp .USub (.Constant (.int 1) j1 p1) p3) ps1) X.env:=by rfl)
  (f2:((backTo cp2 (starEach [e] X.env)).all (λx=>!x.1) && (backToKw cp2 (keywordEach [] X.env)).all (λx=>x.1.isSome)
   && decide (([e]:List Expr).length+([]:List Keyword).length+(if ([]:List Keyword).isEmpty then 0 else 1)<30))=true:=by rfl)
  (l2:(ap2.endLine == cp2.line)=true:=by rfl) (s2:starEach [e] X.env=(false,eval e X.env)::starEach [] X.env:=by rfl) (q2:(backTo cp2 (starEach [] X.env)).any (·.1)=false:=by rfl)
  (hs:swapsWith (.Call (.Attribute (.Subscript (.Name x p) (.UnaryOp .USub (.Constant (.int 1) j1 p1) p3) ps1) "append" ap2) [e] [] cp2) none pos.line X.env=pure false:=by rfl) :
  SV X T (.Expr (.Call (.Attribute (.Subscript (.Name x p) (.UnaryOp .USub (.Constant (.int 1) j1 p1) p3) ps1) "append" ap2) [e] [] cp2) pos) (wTkl i we):=by
 obtain ⟨te,pe,ge⟩:=he
 refine ⟨_,Qeu (Qhp PySem.F.plainAttrs_list PySem.F.slot_list_append PySem.F.type_list_append Qcq (Qv6 Qnc (Vt hN hvis hd hcd) (Qyl Quy Qrp) hs1) (Js pe Vu s2) b2 f2 l2 s2 q2) hs,λz R σ H W ρ P E s hw l=>?_⟩
 obtain ⟨sd,hl0,hw⟩:=Qn hw
 obtain ⟨ds,xs,rfl,hpx,hz,hw⟩:=Qu1 hw
 obtain ⟨fp,s0⟩:=id s
 obtain ⟨v0,hv0,r0⟩:=s0.at_ i _ hl0
 obtain ⟨nd0,sw0⟩:=s0.own i _ hl0 ht
 have hds:(ds++[D.lst xs])[ds.length]? = some (.lst xs):=by simp
 have inv:∃(tp l0:Addr) (vs ys:List V) (A C:List Addr),v0=.ref tp/\H tp=some (.lst vs)/\vs.length=ds.length+1/\vs[ds.length]? = some (.ref l0)/\H l0=some (.lst ys)/\Reps X.K H xs ys []/\fp i=tp::(A++[l0]++C)/\Reps X.K H ((ds++[D.lst xs]).take ds.length) (vs.take ds.length) A/\Reps X.K H ((ds++[D.lst xs]).drop (ds.length+1)) (vs.drop (ds.length+1)) C:=by
  generalize fp i=Fi at r0
  cases r0 with
  | @lst tp vs _ F e1 r =>
   obtain ⟨y,A,B,C,hy,hF,rB,rA,rC⟩:=r.split hds
   obtain ⟨l0,ys,G,rfl,rfl,e2,r3⟩:=rB.iLst
   obtain ⟨hG,r3⟩:=r3.pure hpx
   subst hG
   exact ⟨tp,l0,vs,ys,A,C,rfl,e1,by rw [r.length];simp,hy,e2,r3,by rw [hF],rA,rC⟩
 obtain ⟨tp,l0,vs,ys,A,C,rfl,e1,hvl,hy,e2,r3,hF,rA,rC⟩:=inv
 have hm:l0∈fp i:=by rw [hF];simp
 have hWl:=sw0 l0 hm
 rw [hF] at nd0
 obtain ⟨ntp,nd1⟩:=List.nodup_cons.mp nd0
 have hlt:l0≠tp:=λz=>ntp (by rw [← z];simp)
 have nA:l0∉A/\l0∉C:=by
  simp only [List.append_assoc,List.nodup_append,List.mem_append,List.mem_singleton,List.nodup_cons,List.singleton_append,List.mem_cons] at nd1
  obtain ⟨_,⟨h1,_⟩,h2⟩:=nd1
  exact ⟨λh=>h2 l0 h l0 (.inl rfl) rfl,h1⟩
 have hat:L2.atI vs (-1)=some (.ref l0):=by
  unfold L2.atI
  rw [show ixN vs.length (-1)=some ds.length by unfold ixN;rw [hvl,if_neg (by omega),if_pos (by omega)];congr 1;omega]
  exact hy
 refine ⟨_,hv0,1,rfl,tp,_,-1,.ref l0,rfl,rfl,.of e1,hat,.inl ⟨rfl,_,.of e2⟩,ge z R σ H W ρ _ _ s hw λve H1 W1 d1 ρ1 F1 pp q1=>?_⟩
 obtain ⟨hpe,qn⟩:=q1
 obtain ⟨sm,hW1,hρ1⟩:=pp.calm rfl
 subst hW1 hρ1
 obtain ⟨-,re⟩:=pp.rep.pure hpe
 have e2':=sm _ _ e2
 refine ⟨l0,ys,ve,rfl,rfl,e2',by rw [r3.length];exact hz,?_⟩
 have im:ImmK H1 (upd H1 l0 (.lst (ys++[ve]))):=Qay e2' rfl
 have hvs:vs=vs.take ds.length ++ .ref l0::vs.drop (ds.length+1):=by
  have jv:ds.length<vs.length:=by omega
  have h1:vs[ds.length] = .ref l0:=(List.getElem?_eq_some_iff.mp hy).2
  have h2:=List.set_getElem_self (as:=vs) jv
  rw [h1,Qve jv] at h2
  exact h2.symm
 have hrep:Rep X.K (upd H1 l0 (.lst (ys++[ve]))) (.lst (ds++[.lst (xs++[d1])])) (.ref tp) (fp i):=by
  rw [hF,List.append_assoc]
  refine .lst (xs:=vs) ((Qm (Ne.symm hlt)).trans (sm _ _ e1)) ?_
  rw [hvs]
  have t1:(ds++[D.lst xs]).take ds.length=ds:=by simp
  have t2:(ds++[D.lst xs]).drop (ds.length+1)=[]:=by simp
  rw [t1] at rA
  rw [t2] at rC
  refine Reps.append (((rA.same sm)).frame im λa ha=>Qm λz=>nA.1 (z ▸ ha)) (.cons (F:=[l0]) (.lst (F:=[]) Qj (Reps.append (F:=[]) (G:=[]) ((r3.same sm).frame im λa m=>nomatch m) (Reps.one (re.frame im λa m=>nomatch m)))) (((rC.same sm)).frame im λa ha=>Qm λz=>nA.2 (z ▸ ha)))
 have s1:SR0 X.K T z R H1 W1 σ ρ1 fp:=s0.sameH sm
 have sF:=s1.write hl0 ht hv0 hm Zo ⟨_,Qj,rfl⟩ hrep (by rw [hF];exact nd0) (λa ha=>.inl ha)
 have fF:=(FrW.same W1 sm).write hWl (s1.wd l0 hWl) (H':=upd H1 l0 (.lst (ys++[ve]))) (λb u hb hne=>by rw [Qm hne];exact hb) ⟨_,Qj,rfl⟩ (F':=fp i) (λa ha=>.inl (sw0 a ha))
 exact l.nx R σ _ _ _ sF fF qn
theorem Qp9 (hm:X.mg "enumerate" = none) (hN:X.N[i]? = some x:=by rfl) (hv:Vis X.env.scope x:=by first | exact Or.inl rfl | exact Or.inr (Or.inl rfl) | exact Or.inr (Or.inr rfl)) (hd:(x == ("__debug__" : Str))=false:=by decide)
  (hcd:(x == ("__classdict__" : Str))=false:=by decide) (hg:Gl X "enumerate":=by rfl) (hs:starEach [.Name x p2] X.env=[(false,eval (.Name x p2) X.env)]:=by rfl) (hs2:starEach [.Name x p2] X.env=(false,eval (.Name x p2) X.env)::starEach [] X.env:=by rfl) :
  IV X T false false (.Tuple ts kt pt) (.Call (.Name "enumerate" p) [.Name x p2] [] pos) (Qb4 i):=by
 refine ⟨_,Qi8 hg hm (Js (Vt hN hv hd hcd) Vu hs2) hs,λz R σ H W ρ Q RR s hw k=>?_⟩
 obtain ⟨d,hl,q⟩:=Qn hw
 obtain ⟨fp,s0⟩:=id s
 obtain ⟨v,h1,r0⟩:=s0.at_ i d hl
 refine ⟨v,h1,?_⟩
 generalize fp i=G at r0
 cases d with
 | lst es =>
  obtain ⟨hp,q⟩:=q
  cases r0 with
  | @lst a xs _ F e1 r =>
   obtain ⟨hF,r⟩:=r.pure hp
   subst hF
   refine ⟨a,rfl,⟨xs,.of e1⟩,k _ H W _ ρ ⟨s,FrW.refl H W,λ_=>⟨Same.refl H,rfl,rfl⟩⟩ (λi H2 W2 f=>?_) q⟩
   have e2:H2 a=some (.lst xs):=f.keep _ _ e1 (λh=>nomatch h.1)
   refine ⟨λhi=>⟨xs,.of e2,by rw [r.length];rwa [Ye] at hi⟩,λd hd=>?_⟩
   rw [Zs] at hd
   cases hd':es[i]? with
   | none=>rw [hd'] at hd;cases hd
   | some d' =>
    rw [hd'] at hd
    obtain ⟨x,B,hx,rx,sx⟩:=r.get hd'
    refine ⟨⟨xs,x,.of e2,hx⟩,λv H3 y=>?_⟩
    obtain ⟨x',t,h1,rfl,h3,rfl⟩:=y xs (.of e2)
    rw [hx] at h1
    cases h1
    have hB:B=[]:=List.sublist_nil.mp sx
    subst hB
    refine ⟨Qi h3,[],?_,λa m=>nomatch m⟩
    cases hd
    rw [Nat.zero_add]
    exact .tup Qj (.cons (F:=[]) (G:=[]) (.int _) (Reps.one ((rx.keep f λa m=>nomatch m).same (Qi h3))))
 | _=>exact (show False from q).elim
end
end PV
variable {w:PySem.Str} {s:Nat} {ws:List PySem.Str}
namespace Wd
open PySem PySem.Spec L2 PV S03 PySem.NumText
open PySem.Builtin.Str (glued)
def dg (c:Nat):Bool:=decide (48<=c) && decide (c<=57)
abbrev w0:Str:=Str.ofString "0"
def nmb (w:Str):Bool:=!decide (w=Str.ofString "") && (decide (w.length<=9) && (w.cps.toList.all dg && (decide (w=w0) || !decide (w.cps.toList[0]? = some 48))))
def val (w:Str):Int:=(PySem.intText? w).getD 0
structure Num (w:Str):Prop where
 ne:w.cps.toList≠[]
 len:w.length<=9
 dig:∀c∈w.cps.toList,48<=c/\c<=57
 zero:w=w0\/w.cps.toList[0]? ≠ some 48
theorem Qju (h:w.cps.toList=[]):w=Str.ofString "":=Str.ext' (Array.toList_inj.mp (h.trans (by decide)))
theorem Ua:nmb w=true↔Num w:=by
 unfold nmb
 simp only [Bool.and_eq_true,Bool.not_eq_true',decide_eq_false_iff_not,decide_eq_true_eq,List.all_eq_true,dg,Bool.or_eq_true]
 constructor
 ·rintro ⟨a,b,c,d⟩
  exact ⟨λh=>a (Qju h),b,c,d⟩
 ·rintro ⟨a,b,c,d⟩
  exact ⟨λh=>a (by rw [h];decide),b,c,d⟩
theorem Num.int (h:Num w):PySem.intText? w=some ((digitsVal w.cps.toList:Nat):Int):=intText_digits (λc hc=>by have:=h.dig c hc;exact ⟨this.1,this.2⟩) h.ne (by have:=h.len;omega)
theorem Qg8 (h:nmb w=true):PySem.intText? w=some (val w):=by
 have:=(Ua.mp h).int
 unfold val
 rw [this];rfl
theorem Qir (h:nmb w=true):0<=val w:=by
 unfold val
 rw [(Ua.mp h).int]
 exact Int.natCast_nonneg _
theorem Qh6:∀(l:List Nat) (a:Nat),a<=l.foldl (λv c=>v*10+(c-48)) a
 | [],a=>Nat.le_refl a
 | c::l,a=>Nat.le_trans (by omega) (Qh6 l (a*10+(c-48)))
theorem Qiq (h:nmb w=true) (hz:val w=0):w=w0:=by
 have hn:=Ua.mp h
 rcases hn.zero with q | q
 ·exact q
 ·exfalso
  unfold val at hz
  rw [hn.int] at hz
  cases e:w.cps.toList with
  | nil=>exact hn.ne e
  | cons c r =>
   rw [e] at hz q
   have h1:=hn.dig c (by rw [e];exact List.mem_cons_self)
   have h2:c≠48:=λz=>q (by rw [z];rfl)
   have h3:c-48<=digitsVal (c::r):=by
    show c-48<=(c::r).foldl (λv c=>v*10+(c-48)) 0
    rw [List.foldl_cons]
    exact Nat.le_trans (by omega) (Qh6 r _)
   have:((digitsVal (c::r):Nat):Int)=0:=hz
   omega
theorem Qru (h0:0<=n) (h1:n<1000000000):nmb (nw n)=true:=by
 obtain ⟨c,r,e,c1,c2,c3⟩:=Qmw h0
 refine Ua.mpr ⟨by rw [e];simp,Qd7 h0 h1,λc hc=>Qrt h0 hc,?_⟩
 by_cases hn:n=0
 ·subst hn;exact .inl Qmv
 ·refine .inr ?_
  rw [e]
  intro z
  exact c3 (by omega) (by simpa using z)
theorem Qa6 (h0:0<=n) (h1:n<1000000000):val (nw n)=n:=by
 unfold val;rw [Qpz h0 h1];rfl
theorem Qwl:nmb wx=false:=by decide
theorem Qwm:nmb we=false:=by decide
theorem Qp0:nmb wo=false:=by decide
theorem Qxz:val w0=0:=by
 have:=Qa6 (n:=0) (by omega) (by omega)
 rwa [Qmv] at this
def au:Nat->Nat->Nat->List Str->Option Nat
 | _,l,i,[]=>if 0<l then some i else none
 | s,l,i,w::r=>if 0<l then (if nmb w=true then au s (l-1) (i+1) r else some i)
  else if s=0/\w=wx then au 0 4 (i+1) r
  else if s=0/\w=we then au 1 1 (i+1) r
  else if s<=1/\w=wo then (if r[0]? = some w0 then some (i+1) else au 2 1 (i+1) r)
  else if s=1/\nmb w=true then au 1 0 (i+1) r else some i
theorem Uq (h:ws[i]? = some w):ws.drop i=w::ws.drop (i+1):=by
 obtain ⟨hi,e⟩:=List.getElem?_eq_some_iff.mp h
 rw [List.drop_eq_getElem_cons hi,e]
theorem Qow (h:ws[i]? = some w) (hn:nmb w=true):au s (l+1) i (ws.drop i)=au s l (i+1) (ws.drop (i+1)):=by
 rw [Uq h,au,if_pos (by omega),if_pos hn];rfl
theorem Qox (h:∀w,ws[i]? = some w->nmb w=false):au s (l+1) i (ws.drop i)=some i:=by
 cases q:ws[i]? with
 | none=>rw [List.drop_eq_nil_iff.mpr (List.getElem?_eq_none_iff.mp q),au,if_pos (by omega)]
 | some w=>rw [Uq q,au,if_pos (by omega),if_neg (by rw [h w q];simp)]
theorem au_x (h:ws[i]? = some wx):au 0 0 i (ws.drop i)=au 0 4 (i+1) (ws.drop (i+1)):=by
 rw [Uq h,au,if_neg (by omega),if_pos ⟨rfl,rfl⟩]
theorem au_e (h:ws[i]? = some we):au 0 0 i (ws.drop i)=au 1 1 (i+1) (ws.drop (i+1)):=by
 rw [Uq h,au,if_neg (by omega),if_neg (λz=>absurd z.2 (by decide)),if_pos ⟨rfl,rfl⟩]
theorem au_o (hs:s<=1) (h:ws[i]? = some wo):au s 0 i (ws.drop i)=if ws[i+1]? = some w0 then some (i+1) else au 2 1 (i+1) (ws.drop (i+1)):=by
 rw [Uq h,au,if_neg (by omega),if_neg (λz=>absurd z.2 (by decide)),if_neg (λz=>absurd z.2 (by decide)),if_pos ⟨hs,rfl⟩,List.getElem?_drop,Nat.add_zero]
theorem Qzc (h:ws[i]? = some w) (h1:w≠wx) (h2:w≠we) (h3:w≠wo):au 0 0 i (ws.drop i)=some i:=by
 rw [Uq h,au,if_neg (by omega),if_neg (λz=>h1 z.2),if_neg (λz=>h2 z.2),if_neg (λz=>h3 z.2),if_neg (λz=>absurd z.1 (by omega))]
theorem au_1 (h:ws[i]? = some w) (h3:w≠wo):au 1 0 i (ws.drop i)=if nmb w=true then au 1 0 (i+1) (ws.drop (i+1)) else some i:=by
 rw [Uq h,au,if_neg (by omega),if_neg (λz=>absurd z.1 (by omega)),if_neg (λz=>absurd z.1 (by omega)),if_neg (λz=>h3 z.2)]
 by_cases q:nmb w=true
 ·rw [if_pos ⟨rfl,q⟩,if_pos q]
 ·rw [if_neg (λz=>q z.2),if_neg q]
theorem au_2 (h:ws[i]? = some w):au 2 0 i (ws.drop i)=some i:=by
 rw [Uq h,au,if_neg (by omega),if_neg (λz=>absurd z.1 (by omega)),if_neg (λz=>absurd z.1 (by omega)),if_neg (λz=>absurd z.1 (by omega)),if_neg (λz=>absurd z.1 (by omega))]
theorem Qsi (h:i=ws.length):au s 0 i (ws.drop i)=none:=by
 rw [List.drop_eq_nil_iff.mpr (by omega),au,if_neg (by omega)]
structure okw (w:Str):Prop where
 len:w.length<=40
 sg:∀c∈w.cps.toList,c<128/\c≠32
def okW (ws:List Str):Prop:=∀w∈ws,okw w
def jn (ws:List Str):Str:=glued (Str.ofString " ") ws
theorem Qe6 (h:ws≠[Str.ofString ""]):jn ws=Str.ofString "" ↔ ws=[]:=by
 unfold jn
 rw [StrLaws.glued_eq_join,S03.Qxp]
 constructor
 ·intro q
  have q:=congrArg (λs:Str=>s.cps.toList) q
  simp only [Qh3] at q
  have e0:(Str.ofString "").cps.toList=[]:=by decide
  rw [e0] at q
  match ws,q,h with
  | [],_,_=>rfl
  | [w],q,h=>exact absurd (by rw [Qju (w:=w) q]) h
  | w::v::r,q,_ =>
   have:w.cps.toList++32::jl 32 ((v::r).map λw=>w.cps.toList)=[]:=q
   simp at this
 ·rintro rfl;decide
theorem Qgb (h:okW ws) (h1:ws≠[]):Uf (jn ws) (Str.ofString " ")=ws:=by
 unfold jn;rw [S03.Qxp];exact Qfz h1 λw hw hc=>((h w hw).sg 32 hc).2 rfl
theorem Qr0 (h:okW ws) (hl:ws.length<=1000):(jn ws).length<=41000:=by
 have:=S24.Qw8 (c:=Str.ofString " ") (by decide) (λw hw=>(h w hw).len)
 have e:(jn ws).length<=_:=this
 omega
theorem Qt6 (h:okW ws) (hl:ws.length<=1000):Builtin.Str.tooLong (ws.toArray.foldl (λn w=>n+w.length+(Str.ofString " ").length) 0)=false:=by
 refine StrLaws.joinFits (B:=40) (λy hy=>(h y hy).len) ?_
 rw [show (Str.ofString " ").length=1 by decide]
 omega
theorem Qwz (h:ws≠[Str.ofString ""]) (h1:ws≠[]):0<(jn ws).length:=by
 rcases Nat.eq_zero_or_pos (jn ws).length with q | q
 ·exact absurd ((Qe6 h).mp (Qju (List.length_eq_zero_iff.mp (by rw [Array.length_toList];exact q)))) h1
 ·exact q
theorem Qjb (h0:0<=n) (h1:n<1000000000):okw (nw n):=⟨by have:=Qd7 h0 h1;omega,λc hc=>by have:=Qrt h0 hc;omega⟩
end Wd
variable {x:Int} {e c n m:Nat} {A:Nat->Int}
namespace Wd
open PySem PySem.Spec L2 PV S03 PySem.NumText
theorem Qjv (l:List Nat) (c:Nat):digitsVal (l++[c])=digitsVal l*10+(c-48):=by
 unfold digitsVal;rw [List.foldl_append];rfl
theorem Qul {r:List Nat} (h:48<c):0<digitsVal (c::r):=by
 have h3:c-48<=digitsVal (c::r):=by
  show c-48<=(c::r).foldl (λv c=>v*10+(c-48)) 0
  rw [List.foldl_cons]
  exact Nat.le_trans (by omega) (Qh6 r _)
 omega
theorem Qgo {d:Nat} (h:d<10):(Nat.digitChar d).toNat=48+d:=by
 have key:∀k:Fin 10,(Nat.digitChar k.1).toNat=48+k.1:=by decide
 exact key ⟨d,h⟩
theorem Qqm:∀(n:Nat) (l:List Nat),l.length=n->l≠[]->(∀c∈l,48<=c/\c<=57)->(l[0]? ≠ some 48\/l.length=1)->(Nat.toDigits 10 (digitsVal l)).map Char.toNat=l:=by
 intro n
 induction n with
 | zero=>intro l h h1;exact absurd (List.length_eq_zero_iff.mp h) h1
 | succ n ih =>
  intro l hl hne hd hz
  obtain ⟨a,c,rfl⟩:∃a c,l=a++[c]:=⟨l.dropLast,l.getLast hne,(List.dropLast_concat_getLast hne).symm⟩
  have hc:=hd c (by simp)
  by_cases ha:a=[]
  ·subst ha
   have e:digitsVal ([]++[c])=c-48:=by rw [Qjv];show 0*10+_=_;omega
   rw [e,Nat.toDigits_of_lt_base (by omega),List.map_cons,List.map_nil,Qgo (by omega),show 48+(c-48)=c by omega];rfl
  ·have hla:a.length=n:=by simpa using hl
   have hz':a[0]? ≠ some 48:=by
    rcases hz with h | h
    ·rwa [List.getElem?_append_left (by rcases a with _ | _ <;> simp at ha ⊢)] at h
    ·rw [List.length_append] at h
     have:a.length=0:=by simp at h;exact List.length_eq_zero_iff.mpr h
     exact absurd (List.length_eq_zero_iff.mp this) ha
   have hpos:0<digitsVal a:=by
    cases a with
    | nil=>exact absurd rfl ha
    | cons b r =>
     have hb:=hd b (by simp)
     refine Qul ?_
     have:b≠48:=λz=>hz' (by rw [z];rfl)
     omega
   rw [Qjv,Nat.toDigits_of_base_le (by decide) (by omega),List.map_append,show (digitsVal a*10+(c-48)) / 10=digitsVal a by omega,show (digitsVal a*10+(c-48)) % 10=c-48 by omega,ih a hla ha (λx hx=>hd x (by simp [hx])) (.inl hz'),List.map_cons,List.map_nil,Qgo (by omega),show 48+(c-48)=c by omega]
theorem Zq (h:nmb w=true):nw (val w)=w/\val w<1000000000:=by
 have hn:=Ua.mp h
 have e:val w=((digitsVal w.cps.toList:Nat):Int):=by unfold val;rw [hn.int];rfl
 have hb:=Qqm _ w.cps.toList rfl hn.ne hn.dig (hn.zero.symm.imp id λz=>by rw [z];decide)
 refine ⟨?_,?_⟩
 ·rw [e]
  exact Str.ext' (Array.toList_inj.mp (by rw [Qcp,hb]))
 ·rw [e]
  have hl:(Nat.toDigits 10 (digitsVal w.cps.toList)).length<=9:=by
   have:=congrArg List.length hb
   rw [List.length_map] at this
   rw [this,Array.length_toList];exact hn.len
  have:=(Nat.length_toDigits_le_iff (b:=10) (k:=9) (by decide) (by decide)).mp hl
  omega
def an:Nat->Nat->Nat->List Str->Option Nat
 | _,l,i,[]=>if 0<l then some i else none
 | s,l,i,w::r=>if 0<l then (if nmb w=true/\¬(s=2/\w=w0) then an s (l-1) (i+1) r else some i)
  else if s=0/\w=wx then an 0 4 (i+1) r
  else if s=0/\w=we then an 1 1 (i+1) r
  else if s<=1/\w=wo then an 2 1 (i+1) r
  else if s=1/\nmb w=true then an 1 0 (i+1) r else some i
theorem Qlb:∀(ws:List Str) (s l i:Nat),(s=2->l<=1/\(0<l->ws[0]? ≠ some w0))->au s l i ws=an s l i ws
 | [],s,l,i,_=>rfl
 | w::r,s,l,i,h=>by
  rw [au,an]
  by_cases h0:0<l
  ·rw [if_pos h0,if_pos h0]
   by_cases hn:nmb w=true
   ·rw [if_pos hn]
    by_cases hs:s=2/\w=w0
    ·exact absurd (by rw [hs.2];rfl) ((h hs.1).2 h0)
    ·rw [if_pos ⟨hn,hs⟩]
     exact Qlb r s (l-1) (i+1) λz=>⟨by have:=(h z).1;omega,λz1=>by have:=(h z).1;omega⟩
   ·rw [if_neg hn,if_neg (λz=>hn z.1)]
  ·rw [if_neg h0,if_neg h0]
   by_cases h1:s=0/\w=wx
   ·rw [if_pos h1,if_pos h1];exact Qlb r 0 4 (i+1) λz=>by omega
   rw [if_neg h1,if_neg h1]
   by_cases h2:s=0/\w=we
   ·rw [if_pos h2,if_pos h2];exact Qlb r 1 1 (i+1) λz=>by omega
   rw [if_neg h2,if_neg h2]
   by_cases h3:s<=1/\w=wo
   ·rw [if_pos h3,if_pos h3]
    by_cases hz:r[0]? = some w0
    ·rw [if_pos hz]
     cases r with
     | nil=>cases hz
     | cons a r =>
      have:a=w0:=by simpa using hz
      rw [an,if_pos (by omega),if_neg (λz=>z.2 ⟨rfl,this⟩)]
    ·rw [if_neg hz];exact Qlb r 2 1 (i+1) λ_=>⟨by omega,λ_=>hz⟩
   rw [if_neg h3,if_neg h3]
   by_cases h4:s=1/\nmb w=true
   ·rw [if_pos h4,if_pos h4];exact Qlb r 1 0 (i+1) λz=>by omega
   ·rw [if_neg h4,if_neg h4]
structure LS where
 cs:List (List Int)
 es:List Int
 rg:Int
 s:Nat
 l:Nat
def addL (cs:List (List Int)) (x:Int):List (List Int):=match cs.getLast? with
 | some c=>cs.dropLast++[c++[x]]
 | none=>[]
def stp (q:LS) (w:Str):LS :=
 if 0<q.l then (if q.s=0 then { q with cs:=addL q.cs (val w),l:=q.l-1 } else if q.s=1 then { q with es:=q.es++[val w],l:=q.l-1 } else { q with rg:=val w,l:=q.l-1 })
 else if w=wx then { q with cs:=q.cs++[[]],l:=4 } else if w=we then { q with s:=1,l:=1 } else if w=wo then { q with s:=2,l:=1 } else { q with es:=q.es++[val w] }
def st0:LS:=⟨[],[],0,0,0⟩
theorem Qg2 (cs:List (List Int)) (c:List Int) (x:Int):addL (cs++[c]) x=cs++[c++[x]]:=by
 unfold addL;simp
def crL (A:Nat->Int) (k:Nat):List (List Int):=(List.range k).map λk=>(List.range 4).map λj=>A (4*k+j)
theorem Qqs:crL A (k+1)=crL A k++[(List.range 4).map λj=>A (4*k+j)]:=by
 unfold crL;rw [List.range_succ (n:=k),List.map_append];rfl
theorem Qrc (g:Gd A r):∀k,(Wx A k).foldl stp st0=⟨crL A k,[],0,0,0⟩
 | 0=>rfl
 | k+1=>by
  rw [Wx,List.foldl_append,Qrc g k,Qqs]
  have v:=λj=>Qa6 (g.a (4*k+j)).1 (g.a (4*k+j)).2
  have r4:(List.range 4).map (λj=>nw (A (4*k+j)))=[nw (A (4*k+0)),nw (A (4*k+1)),nw (A (4*k+2)),nw (A (4*k+3))]:=rfl
  have r5:(List.range 4).map (λj=>A (4*k+j))=[A (4*k+0),A (4*k+1),A (4*k+2),A (4*k+3)]:=rfl
  rw [r4,r5]
  simp only [List.foldl_cons,List.foldl_nil]
  have s1:stp ⟨crL A k,[],0,0,0⟩ wx=⟨crL A k++[[]],[],0,0,4⟩:=by unfold stp;simp
  have sn:∀(c:List Int) (x:Int) (l:Nat) (w:Str),val w=x->stp ⟨crL A k++[c],[],0,0,l+1⟩ w=⟨crL A k++[c++[x]],[],0,0,l⟩:=λc x l w hw=>by
   unfold stp;rw [if_pos (by simp),if_pos rfl,hw];simp [Qg2]
  rw [s1,sn [] _ 3 _ (v 0),sn _ _ 2 _ (v 1),sn _ _ 1 _ (v 2),sn _ _ 0 _ (v 3)]
  rfl
theorem Qrb (g:Gd A r) (cs:List (List Int)) (b:Nat):∀(n k:Nat) (es:List Int),((List.range' k n).map λj=>nw (A (b+j))).foldl stp ⟨cs,es,0,1,0⟩=⟨cs,es++(List.range' k n).map λj=>A (b+j),0,1,0⟩
 | 0,k,es=>by simp
 | n+1,k,es=>by
  have hn:=Qru (g.a (b+k)).1 (g.a (b+k)).2
  have s1:stp ⟨cs,es,0,1,0⟩ (nw (A (b+k)))=⟨cs,es++[A (b+k)],0,1,0⟩:=by
   unfold stp
   rw [if_neg (by simp),if_neg (λz=>by rw [z,Qwl] at hn;cases hn),if_neg (λz=>by rw [z,Qwm] at hn;cases hn),if_neg (λz=>by rw [z,Qp0] at hn;cases hn),Qa6 (g.a (b+k)).1 (g.a (b+k)).2]
  rw [List.range'_succ,List.map_cons,List.foldl_cons,s1,Qrb g cs b n (k+1),List.map_cons]
  simp
theorem Qvh (g:Gd A r):∃s,(Ws m e A r).foldl stp st0=⟨crL A m,(List.range e).map λj=>A (4*m+j),r,s,0⟩:=by
 rw [Ws,List.foldl_append,Qrc g m,List.foldl_append]
 have hE:∃s,(We m e A).foldl stp ⟨crL A m,[],0,0,0⟩=⟨crL A m,(List.range e).map λj=>A (4*m+j),0,s,0⟩/\s<=1:=by
  unfold We
  by_cases h:e=0
  ·rw [if_pos h];subst h;exact ⟨0,rfl,by omega⟩
  ·rw [if_neg h]
   obtain ⟨n,rfl⟩:∃n,e=n+1:=⟨e-1,by omega⟩
   refine ⟨1,?_,by omega⟩
   have s1:stp ⟨crL A m,[],0,0,0⟩ we=⟨crL A m,[],0,1,1⟩:=by
    unfold stp;rw [if_neg (by simp),if_neg (by decide),if_pos rfl]
   have s2:stp ⟨crL A m,[],0,1,1⟩ (nw (A (4*m+0)))=⟨crL A m,[A (4*m+0)],0,1,0⟩:=by
    unfold stp;rw [if_pos (by simp),if_neg (by simp),if_pos rfl,Qa6 (g.a _).1 (g.a _).2];rfl
   rw [List.foldl_cons,s1,List.range_eq_range',List.range'_succ,List.map_cons,List.foldl_cons,s2,Qrb g _ (4*m) n (0+1)]
   rfl
 obtain ⟨s,hE,hs⟩:=hE
 rw [hE]
 unfold Wo
 by_cases h:0<r
 ·rw [if_pos h]
  refine ⟨2,?_⟩
  have s1:stp ⟨crL A m,(List.range e).map λj=>A (4*m+j),0,s,0⟩ wo=⟨crL A m,(List.range e).map λj=>A (4*m+j),0,2,1⟩:=by
   unfold stp;rw [if_neg (by simp),if_neg (by decide),if_neg (by decide),if_pos rfl]
  rw [List.foldl_cons,s1,List.foldl_cons,List.foldl_nil]
  unfold stp
  rw [if_pos (by simp),if_neg (by simp),if_neg (by simp),Qa6 g.r.1 g.r.2]
  rfl
 ·rw [if_neg h]
  have:=g.r.1
  have:r=0:=by omega
  subst this
  exact ⟨s,rfl⟩
theorem Qj4 {A:Nat->Int}:∀m,Wx A (m+1)=(wx::(List.range 4).map λj=>nw (A j))++Wx (λt=>A (t+4)) m
 | 0=>by
  show []++(wx::(List.range 4).map λj=>nw (A (4*0+j)))=_
  simp [Wx]
 | m+1=>by
  rw [Wx,Qj4 m,Wx,List.append_assoc]
  have:((List.range 4).map λj=>nw (A (4*(m+1)+j)))=(List.range 4).map λj=>nw (A (4*m+j+4)):=List.map_congr_left λj _=>by rw [show 4*(m+1)+j=4*m+j+4 by omega]
  rw [this]
theorem Qq3:We (m+1) e A=We m e λt=>A (t+4):=by
 unfold We
 have:((List.range e).map λj=>nw (A (4*(m+1)+j)))=(List.range e).map λj=>nw (A (4*m+j+4)):=List.map_congr_left λj _=>by rw [show 4*(m+1)+j=4*m+j+4 by omega]
 rw [this]
theorem Qa2 {r:List Str} (h:au s (l+1) i r=none):∃a r',r=a::r'/\nmb a=true/\au s l (i+1) r'=none:=by
 cases r with
 | nil=>rw [au,if_pos (by omega)] at h;cases h
 | cons a r' =>
  rw [au,if_pos (by omega)] at h
  by_cases hn:nmb a=true
  ·rw [if_pos hn] at h;exact ⟨a,r',rfl,hn,h⟩
  ·rw [if_neg hn] at h;cases h
def tl (r:List Str) (x:Int):Prop:=r=Wo x/\0<=x/\x<1000000000
theorem tl_o {r:List Str} (h:(if r[0]? = some w0 then some (i+1) else au 2 1 (i+1) r)=none):∃x,tl (wo::r) x:=by
 by_cases h0:r[0]? = some w0
 ·rw [if_pos h0] at h;cases h
 ·rw [if_neg h0] at h
  obtain ⟨a,r',rfl,hn,h⟩:=Qa2 h
  cases r' with
  | cons b r' =>
   rw [au,if_neg (by omega),if_neg (λz=>absurd z.1 (by omega)),if_neg (λz=>absurd z.1 (by omega)),if_neg (λz=>absurd z.1 (by omega)),if_neg (λz=>absurd z.1 (by omega))] at h
   cases h
  | nil =>
   have hv:=Qir hn
   have hz:val a≠0:=λz=>h0 (by rw [Qiq hn z];rfl)
   refine ⟨val a,?_,hv,(Zq hn).2⟩
   unfold Wo
   rw [if_pos (by omega),(Zq hn).1]
theorem tl_1:∀(r:List Str) (i:Nat),au 1 0 i r=none->∃(es:List Int) (x:Int) (r':List Str),r=es.map nw++r'/\(∀n∈es,0<=n/\n<1000000000)/\tl r' x
 | [],i,_=>⟨[],0,[],rfl,λn hn=>by simp at hn,by unfold Wo;rw [if_neg (by omega)],by omega,by omega⟩
 | w::r,i,h=>by
  by_cases ho:w=wo
  ·subst ho
   have:=au_o (s:=1) (i:=0) (ws:=wo::r) (by omega) rfl
   rw [au,if_neg (by omega),if_neg (λz=>absurd z.1 (by omega)),if_neg (λz=>absurd z.1 (by omega)),if_pos ⟨by omega,rfl⟩] at h
   obtain ⟨x,hx⟩:=tl_o h
   exact ⟨[],x,wo::r,rfl,λn hn=>by simp at hn,hx⟩
  ·rw [au,if_neg (by omega),if_neg (λz=>absurd z.1 (by omega)),if_neg (λz=>absurd z.1 (by omega)),if_neg (λz=>ho z.2)] at h
   by_cases hn:nmb w=true
   ·rw [if_pos ⟨rfl,hn⟩] at h
    obtain ⟨es,x,r',rfl,he,ht⟩:=tl_1 r (i+1) h
    refine ⟨val w::es,x,r',by rw [List.map_cons,(Zq hn).1];rfl,λn hm=>?_,ht⟩
    rcases List.mem_cons.mp hm with rfl | hm
    ·exact ⟨Qir hn,(Zq hn).2⟩
    ·exact he n hm
   ·rw [if_neg (λz=>hn z.2)] at h;cases h
theorem Quw:∀(n:Nat) (ws:List Str) (i:Nat),ws.length<=n->au 0 0 i ws=none->∃m e A r,ws=Ws m e A r/\Gd A r:=by
 intro n
 induction n with
 | zero =>
  intro ws i hl _
  have:ws=[]:=List.length_eq_zero_iff.mp (by omega)
  subst this
  exact ⟨0,0,λ_=>0,0,rfl,⟨λ_=>by omega,by omega⟩⟩
 | succ n ih =>
  intro ws i hl h
  cases ws with
  | nil=>exact ⟨0,0,λ_=>0,0,rfl,⟨λ_=>by omega,by omega⟩⟩
  | cons w r =>
   by_cases hx:w=wx
   ·subst hx
    rw [au,if_neg (by omega),if_pos ⟨rfl,rfl⟩] at h
    obtain ⟨a,r,rfl,ha,h⟩:=Qa2 h
    obtain ⟨b,r,rfl,hb,h⟩:=Qa2 h
    obtain ⟨c,r,rfl,hc,h⟩:=Qa2 h
    obtain ⟨d,r,rfl,hd,h⟩:=Qa2 h
    obtain ⟨m,e,A,x,rfl,g⟩:=ih r _ (by simp at hl;omega) h
    let A':Nat->Int:=λt=>match t with | 0=>val a | 1=>val b | 2=>val c | 3=>val d | t+4=>A t
    have nb:=λ{w:Str} (hw:nmb w=true)=>(⟨Qir hw,(Zq hw).2⟩:0<=val w/\val w<1000000000)
    refine ⟨m+1,e,A',x,?_,⟨λt=>?_,g.r⟩⟩
    ·unfold Ws
     rw [Qj4,Qq3]
     show _=((wx::[nw (val a),nw (val b),nw (val c),nw (val d)])++Wx A m)++(We m e A++Wo x)
     rw [(Zq ha).1,(Zq hb).1,(Zq hc).1,(Zq hd).1]
     simp
    ·match t with
     | 0=>exact nb ha
     | 1=>exact nb hb
     | 2=>exact nb hc
     | 3=>exact nb hd
     | t+4=>exact g.a t
   by_cases he:w=we
   ·subst he
    rw [au,if_neg (by omega),if_neg (λz=>hx z.2),if_pos ⟨rfl,rfl⟩] at h
    obtain ⟨a,r,rfl,ha,h⟩:=Qa2 h
    obtain ⟨es,x,r',rfl,hes,hr,hx0,hx1⟩:=tl_1 r _ h
    refine ⟨0,es.length+1,λt=>(val a::es).getD t 0,x,?_,⟨λt=>?_,hx0,hx1⟩⟩
    ·unfold Ws We
     rw [if_neg (by omega),hr]
     show _=[]++_
     have:((List.range (es.length+1)).map λj=>nw ((val a::es).getD (4*0+j) 0))=(val a::es).map nw:=by
      apply List.ext_getElem?
      intro j
      rw [List.getElem?_map,List.getElem?_map]
      rcases Nat.lt_or_ge j (es.length+1) with q | q
      ·rw [List.getElem?_range q,List.getElem?_eq_getElem (by simpa using q)]
       simp only [Option.map_some,List.getD,Nat.mul_zero,Nat.zero_add]
       rw [List.getElem?_eq_getElem (by simpa using q)];rfl
      ·rw [List.getElem?_eq_none (by simpa using q),List.getElem?_eq_none (by simpa using q)];rfl
     rw [this,List.map_cons,(Zq ha).1]
     simp
    ·have:∀n∈val a::es,0<=n/\n<1000000000:=λn hn=>by
      rcases List.mem_cons.mp hn with rfl | hn
      ·exact ⟨Qir ha,(Zq ha).2⟩
      ·exact hes n hn
     show 0<=(val a::es).getD t 0/\(val a::es).getD t 0<1000000000
     rw [List.getD]
     cases q:(val a::es)[t]? with
     | none=>exact ⟨by simp,by simp⟩
     | some n=>exact this n (List.mem_of_getElem? q)
   by_cases ho:w=wo
   ·subst ho
    rw [au,if_neg (by omega),if_neg (λz=>hx z.2),if_neg (λz=>he z.2),if_pos ⟨by omega,rfl⟩] at h
    obtain ⟨x,hr,h0,h1⟩:=tl_o h
    exact ⟨0,0,λ_=>0,x,by rw [hr];rfl,⟨λ_=>by omega,h0,h1⟩⟩
   ·rw [au,if_neg (by omega),if_neg (λz=>hx z.2),if_neg (λz=>he z.2),if_neg (λz=>ho z.2),if_neg (λz=>absurd z.1 (by omega))] at h
    cases h
def odds (A:Nat->Int) (n:Nat):List Int:=((M.plc A n).filter λe=>decide (e.2.length≠2)).map (·.1)
def Qt2 (l:List Int) (x:Int):Prop:=x∈l/\∀y∈l,x<=y
def due (A:Nat->Int) (n:Nat) (kr:Prop) (ko:Int->Prop):Prop:=(odds A n=[]->kr)/\∀x,Qt2 (odds A n) x->ko x
theorem Qgi:((List.range n).map A).count x=((List.range n).filter λi=>decide (A i=x)).length:=by
 rw [List.count,List.countP_map,List.countP_eq_length_filter]
 congr 1
theorem Ul:x∈odds A n↔x∈((List.range n).map A).filter λy=>decide (((List.range n).map A).count y≠2):=by
 obtain ⟨_,h2,h3⟩:=M.Qmf A n
 unfold odds
 rw [List.mem_map,List.mem_filter]
 constructor
 ·rintro ⟨e,he,rfl⟩
  obtain ⟨he,hp⟩:=List.mem_filter.mp he
  obtain ⟨e2,hne⟩:=h2 e he
  refine ⟨?_,by rw [Qgi,← e2];exact hp⟩
  cases q:e.2 with
  | nil=>exact absurd q hne
  | cons i r =>
   have hi:i∈e.2:=by rw [q];exact List.mem_cons_self
   rw [e2] at hi
   obtain ⟨hi,hA⟩:=List.mem_filter.mp hi
   exact List.mem_map.mpr ⟨i,hi,of_decide_eq_true hA⟩
 ·rintro ⟨hx,hp⟩
  obtain ⟨i,hi,rfl⟩:=List.mem_map.mp hx
  obtain ⟨e,he,hA⟩:=h3 i (List.mem_range.mp hi)
  refine ⟨e,List.mem_filter.mpr ⟨he,?_⟩,hA⟩
  rw [(h2 e he).1,hA,← Qgi]
  exact hp
theorem Qpy:odds A n=[]↔(((List.range n).map A).filter λy=>decide (((List.range n).map A).count y≠2))=[]:=by
 rw [List.eq_nil_iff_forall_not_mem,List.eq_nil_iff_forall_not_mem]
 exact ⟨λh x hx=>h x (Ul.mpr hx),λh x hx=>h x (Ul.mp hx)⟩
theorem Qks:Qt2 (odds A n) x↔Qt2 (((List.range n).map A).filter λy=>decide (((List.range n).map A).count y≠2)) x :=
 ⟨λh=>⟨Ul.mp h.1,λy hy=>h.2 y (Ul.mpr hy)⟩,λh=>⟨Ul.mpr h.1,λy hy=>h.2 y (Ul.mp hy)⟩⟩
end Wd
variable {w:PySem.World} {x:PySem.Str} {k:Bool}
namespace K05
open PySem PySem.Spec L2 PV
open PyProof.Rows (envOfC)
def top (i:Nat):Stmt:=PySem.Challenge.pw_tanglehouse_k05_whole_any_words.main.body.getD i (.Pass ⟨0,0,0,0⟩)
def tbF (x:Str):Option Bool:=if x=(Str.ofString "NoText") then some false else if x=(Str.ofString "Odd") then some false else none
theorem Qb9 (h:tbF x=some k):(x=(Str.ofString "NoText")/\k=false)\/(x=(Str.ofString "Odd")/\k=false):=by
 unfold tbF at h
 split at h
 ·rename_i h1;exact .inl ⟨h1,by cases h;rfl⟩
 split at h
 ·rename_i h1;exact .inr (⟨h1,by cases h;rfl⟩)
 ·cases h
theorem Qln (h:tbF x=some k):k=false:=by
 rcases Qb9 h with h | h <;> exact h.2
def Qb8 (x:Str):Option Bool:=if x=(Str.ofString "NoText") then some false else if x=(Str.ofString "Odd") then some true else none
theorem Qo8 (h:Qb8 x=some k):(x=(Str.ofString "NoText")/\k=false)\/(x=(Str.ofString "Odd")/\k=true):=by
 unfold Qb8 at h
 split at h
 ·rename_i h1;exact .inl ⟨h1,by cases h;rfl⟩
 split at h
 ·rename_i h1;exact .inr (⟨h1,by cases h;rfl⟩)
 ·cases h
def Vp (x:Str):Option Bool:=if x=(Str.ofString "NoText") then some true else if x=(Str.ofString "Odd") then some false else none
theorem Qhb (h:Vp x=some k):(x=(Str.ofString "NoText")/\k=true)\/(x=(Str.ofString "Odd")/\k=false):=by
 unfold Vp at h
 split at h
 ·rename_i h1;exact .inl ⟨h1,by cases h;rfl⟩
 split at h
 ·rename_i h1;exact .inr (⟨h1,by cases h;rfl⟩)
 ·cases h
def Yp (x:Str):Option Bool:=if x=(Str.ofString "NoText") then some true else if x=(Str.ofString "Odd") then some true else none
theorem Qb7 (h:Yp x=some k):(x=(Str.ofString "NoText")/\k=true)\/(x=(Str.ofString "Odd")/\k=true):=by
 unfold Yp at h
 split at h
 ·rename_i h1;exact .inl ⟨h1,by cases h;rfl⟩
 split at h
 ·rename_i h1;exact .inr (⟨h1,by cases h;rfl⟩)
 ·cases h
def isR (x:Str):Bool:=decide (x=(Str.ofString "NoText")) || decide (x=(Str.ofString "Odd"))
theorem Qyz (h:isR x=true):x=(Str.ofString "NoText")\/x=(Str.ofString "Odd"):=by
 simpa [isR] using h
def Qqd (x:Str):Bool:=decide (x=(Str.ofString "NoText"))
def Qjp (x:Str):Bool:=decide (x=(Str.ofString "Odd"))
abbrev Y2:Stmt:=Qsf (top 4)
abbrev Vr:Stmt:=Qsf (top 3)
structure Bn (K:Frag) (mg:Str->Option Value):Prop where
 nb_all:mg "all" = none
 nb_bool:mg "bool" = none
 nb_enumerate:mg "enumerate" = none
 nb_int:mg "int" = none
 nb_isinstance:mg "isinstance" = none
 nb_len:mg "len" = none
 nb_list:mg "list" = none
 nb_min:mg "min" = none
 nb_range:mg "range" = none
 nb_str:mg "str" = none
 nb_tuple:mg "tuple" = none
 c_FIGURES:∃t:Tok,mg "FIGURES" = some (.str (Str.ofString "0123456789") t)
 c_MOST_FIGURES:∃t:Tok,mg "MOST_FIGURES" = some (.int 9 t)
 c_RIM:∃t:Tok,mg "RIM" = some (.int (-1) t)
 h_TangleError:∃C0,mg "TangleError" = some (.ref C0)/\∀x C,isR x=true->atN K x C->exmOne K (.ref C) (.ref C0)=some true
 i_NoWeb:∃C,mg "NoWeb" = some (.ref C)/\∀x k R,tbF x=some k->atN K x R->ExcQ K R/\kitOne K (.ref R) (.ref C)=some k
 i_Odd:∃C,mg "Odd" = some (.ref C)/\∀x k R,Qb8 x=some k->atN K x R->ExcQ K R/\kitOne K (.ref R) (.ref C)=some k
 i_NoText:∃C,mg "NoText" = some (.ref C)/\∀x k R,Vp x=some k->atN K x R->ExcQ K R/\kitOne K (.ref R) (.ref C)=some k
 i_NotFlat:∃C,mg "NotFlat" = some (.ref C)/\∀x k R,tbF x=some k->atN K x R->ExcQ K R/\kitOne K (.ref R) (.ref C)=some k
 i_TooMany:∃C,mg "TooMany" = some (.ref C)/\∀x k R,tbF x=some k->atN K x R->ExcQ K R/\kitOne K (.ref R) (.ref C)=some k
 i_TooWide:∃C,mg "TooWide" = some (.ref C)/\∀x k R,tbF x=some k->atN K x R->ExcQ K R/\kitOne K (.ref R) (.ref C)=some k
 i_NoStep:∃C,mg "NoStep" = some (.ref C)/\∀x k R,tbF x=some k->atN K x R->ExcQ K R/\kitOne K (.ref R) (.ref C)=some k
 i_NoTurning:∃C,mg "NoTurning" = some (.ref C)/\∀x k R,tbF x=some k->atN K x R->ExcQ K R/\kitOne K (.ref R) (.ref C)=some k
 i_BadPace:∃C,mg "BadPace" = some (.ref C)/\∀x k R,tbF x=some k->atN K x R->ExcQ K R/\kitOne K (.ref R) (.ref C)=some k
 i_NoMatch:∃C,mg "NoMatch" = some (.ref C)/\∀x k R,tbF x=some k->atN K x R->ExcQ K R/\kitOne K (.ref R) (.ref C)=some k
 i_NoName:∃C,mg "NoName" = some (.ref C)/\∀x k R,tbF x=some k->atN K x R->ExcQ K R/\kitOne K (.ref R) (.ref C)=some k
 i_NoRow:∃C,mg "NoRow" = some (.ref C)/\∀x k R,tbF x=some k->atN K x R->ExcQ K R/\kitOne K (.ref R) (.ref C)=some k
 i_ValueError:mg "ValueError" = none/\∀x k R,Yp x=some k->atN K x R->ExcQ K R/\kitOne K (.ref R) (.type "ValueError")=some k
 a_at:∀x C,Qqd x=true->atN K x C->ExcC K C/\ExcQ K C/\PySem.W.findIn K (.ref C) "at" = some none
 a_arc:∀x C,Qjp x=true->atN K x C->ExcC K C/\ExcQ K C/\PySem.W.findIn K (.ref C) "arc" = some none
def Q7:GI:=λds k=>∃c n b,ds=[rowD c n,.int b]/\0<b/\b<1073741824/\0<=n/\n<=1000000/\∀c' r,0<=r->r<b->k (.int r) (rowD c' (n+1))
abbrev Z5:Stmt:=top 39
theorem V4:FnScope ["_law_row","_law_base","_law_rest","_law_number_here"] ["_law_row","_law_base"] (Qb Z5):=⟨rfl,rfl,rfl,by decide +kernel,rfl,by decide +kernel,by decide +kernel⟩
def Qcc:Tg:={ own:=λi=>i == 0 || i == 2 || i == 3,io:=[0] }
def Qb0:WS:=(wSeq (Qb2 0 (wBin Y9 (wBin dIx (wVar 0) (wC (.int 1))) (wC (.int 1))) (wC (.int 1)))
 (wSeq (wIf (wBl (wBin (dCmp λi j=>decide (j<i)) (wBin dIx (wVar 0) (wC (.int 0))) (wBin dPow (wC (.int 10)) (wC (.int 18))))) (wSeq (wSet 2 (wBin dSub (wBin dIx (wVar 0) (wC (.int 0))) (wBin dPow (wC (.int 10)) (wC (.int 18)))))
 (wSeq (Qb2 0 (wBin Y9 (wBin dPow (wC (.int 10)) (wC (.int 18))) (wBin dDiv (wVar 2) (wVar 1))) (wC (.int 0)))
 (wRet (wBin dMod (wVar 2) (wVar 1))))) Qw)
 (wSeq (wSet 3 (wBin dMod (wBin Y9 (wBin Y9 (wBin dMul (wBin dIx (wVar 0) (wC (.int 0))) (wC (.int 48271))) (wBin dMul (wBin dMul (wC (.int 7919)) (wBin dIx (wVar 0) (wC (.int 1)))) (wBin dIx (wVar 0) (wC (.int 1))))) (wC (.int 11))) (wC (.int 2147483629))))
 (wSeq (wSet 3 (wBin dMod (wBin Y9 (wBin Y9 (wBin dMul (wVar 3) (wVar 3)) (wBin dMul (wC (.int 69621)) (wBin dIx (wVar 0) (wC (.int 1))))) (wC (.int 7))) (wC (.int 2147483587))))
 (wRet (wBin dMod (wBin dDiv (wVar 3) (wC (.int 5))) (wVar 1)))))))
theorem Qih (B:Bn K mg):∀(cdv:Value) (A:Around) (outer:List PySem.Env) (s:Shared) (H:Hp) (E:XK),Room 0 (A.deeper (envOfC "_law_take" (Qb Z5) s.heap.objs.size f cdv))->SVs (cxOf CX0 P w K mg base ["_law_row","_law_base","_law_rest","_law_number_here"] "_law_take" (Qb Z5) f cdv A outer s H E).nox Qcc (Qr Z5) Qb0:=λcdv A outer s H E hr =>
  (Qf (Qem (i:=0) (Yk hr) (Jn Jp (Yq (Yo (Yk hr)) (Qc 0) Qg) Qg) Qg)
  (Qf (Yg (Qy Qdg (Yq (Yo (Yk hr)) (Qc 0) Qg) (Jn Qjd Qg Qg)) (Qf (Q1 (i:=2) (Jn Qjc (Yq (Yo (Yk hr)) (Qc 0) Qg) (Jn Qjd Qg Qg)) V4.nd)
  (Qf (Qem (i:=0) (Yk hr) (Jn Jp (Jn Qjd Qg Qg) (Jn Qje (Qc 2) (Qc 1))) Qg)
  (Qh (Q4 (Jn Qco (Qc 2) (Qc 1)))))) Qx)
  (Qf (Q1 (i:=3) (Jn Qco (Jn Jp (Jn Jp (Jn Xo (Yq (Yo (Yk hr)) (Qc 0) Qg) Qg) (Jn Xo (Jn Xo Qg (Yq (Yo (Yk hr)) (Qc 0) Qg)) (Yq (Yo (Yk hr)) (Qc 0) Qg))) Qg) Qg) V4.nd)
  (Qf (Q1 (i:=3) (Jn Qco (Jn Jp (Jn Jp (Jn Xo (Qc 3) (Qc 3)) (Jn Xo Qg (Yq (Yo (Yk hr)) (Qc 0) Qg))) Qg) Qg) V4.nd)
  (Qh (Q4 (Jn Qco (Jn Qje (Qc 3) Qg) (Qc 1))))))))
theorem Qf8 (F:Fun K "_law_take" "_law_take" Z5 f fd) (B:Bn K mg):FnOk P w K mg base CX0 1 f fd ["_law_row","_law_base"] (spI K 0 Q7):=by
 refine Qxc (T:=Qcc) F V4 rfl rfl (λds kk h=>?_) (Qih B) (λds kk h=>?_)
 ·obtain ⟨c,n,b,rfl,_⟩:=h
  exact ⟨rfl,_,rfl,rfl⟩
 ·obtain ⟨c,n,b,rfl,hb,hb2,hn,hn2,k⟩:=h
  have hn1:-18446744073709551616<n+1:=by omega
  have hn2':n+1<18446744073709551616:=by omega
  simp only [Qb0,wSeq,Qb2,wBin,env0,rowD,List.map_cons,List.map_nil,List.length_cons,List.length_nil,Nat.zero_add,Nat.reduceAdd,List.replicate,List.cons_append,List.nil_append,wC,wIf,wSet,wRet,Q3,Int.reduceLE,Int.reduceNeg,Int.reduceLT,Qrg,Int.reduceToNat,Int.reducePow,Qw,r_bl,look,Option.isSome_some,List.set_cons_zero,List.set_cons_succ,Qk,true_and,Qrf,Nat.lt_add_one,Qyx,List.length_set,Nat.zero_lt_succ,Qyy,Qbh,Xq,Xz,Qdn,List.getElem?_cons_zero,Qo,Bool.and_true,Qer,hb,Qd3,hb2,Qfw,U1,D.pure,Bool.true_and,List.getElem?_cons_succ,Ql2,V9,Qz,Qci,hn1,hn2']
  split
  ·exact k _ _ (Int.emod_nonneg _ (by omega)) (Int.emod_lt_of_pos _ hb)
  ·have hx:-18446744073709551616<(c*48271+7919*(n+1)*(n+1)+11) % 2147483629/\(c*48271+7919*(n+1)*(n+1)+11) % 2147483629<18446744073709551616:=by omega
   generalize (c*48271+7919*(n+1)*(n+1)+11) % 2147483629=x at hx
   simp only [Int.reduceNeg,hx.1,hx.2,Qci,U1,Int.reduceLT,Qd3,Qfw,hb]
   exact k _ _ (Int.emod_nonneg _ (by omega)) (Int.emod_lt_of_pos _ hb)
def Q9:GI:=λds k=>∃c n,ds=[rowD c n]/\0<=n/\n<=999000/\∀c' r,0<=r->r<1000000000->k (.int r) (rowD c' (n+3))
abbrev Y8:Stmt:=top 41
theorem Qdb:FnScope ["_law_row"] ["_law_row"] (Qb Y8):=⟨rfl,rfl,rfl,by decide +kernel,rfl,by decide +kernel,by decide +kernel⟩
def X9:Tg:={ own:=λi=>i == 0,io:=[0] }
def X4:WS:=(wRet (wBin dIx (wLst (Qd (Zn 0 Q7 (U3 0 (Qd (wC (.int 4)) wNil))) (Qd (Zn 0 Q7 (U3 0 (Qd (wBin dPow (wC (.int 10)) (wC (.int 9))) wNil))) wNil))) (Ql dInt (Qd (wBin dEq (Zn 0 Q7 (U3 0 (Qd (wC (.int 6)) wNil))) (wC (.int 1))) wNil))))
theorem Qfc (B:Bn K mg) (C__law_take:Cal P w K mg base "_law_take" 1 ["_law_row","_law_base"] (spI K 0 Q7)):∀(cdv:Value) (A:Around) (outer:List PySem.Env) (s:Shared) (H:Hp) (E:XK),Room 1 (A.deeper (envOfC "_law_number" (Qb Y8) s.heap.objs.size f cdv))->SVs (cxOf CX0 P w K mg base ["_law_row"] "_law_number" (Qb Y8) f cdv A outer s H E).nox X9 (Qr Y8) X4:=λcdv A outer s H E hr =>
  (Qh (Q4 (Yq (Yo (Yk hr)) (Y5 (Qa (Zd C__law_take (hr.mono (by decide)) (Ub (i:=0) (Qa Qg Qe))) (Qa (Zd C__law_take (hr.mono (by decide)) (Ub (i:=0) (Qa (Jn Qjd Qg Qg) Qe))) Qe))) (Q8 Qsg B.nb_int Qbg (Qa (U2 (Zv hr.units) (Zd C__law_take (hr.mono (by decide)) (Ub (i:=0) (Qa Qg Qe))) Qg) Qe)))))
theorem Qde (F:Fun K "_law_number" "_law_number" Y8 f fd) (B:Bn K mg) (C1:Cal P w K mg base "_law_take" 1 ["_law_row","_law_base"] (spI K 0 Q7)):FnOk P w K mg base CX0 2 f fd ["_law_row"] (spI K 0 Q9):=by
 refine Qxc (T:=X9) F Qdb rfl rfl (λds kk h=>?_) (Qfc B C1) (λds kk h=>?_)
 ·obtain ⟨c,n,rfl,_⟩:=h
  exact ⟨rfl,_,rfl,rfl⟩
 ·obtain ⟨c,n,rfl,hn,hn2,k⟩:=h
  simp only [X4,wRet,wBin,wLst,Qd,Zn,U3,env0,rowD,List.map_cons,List.map_nil,List.length_cons,List.length_nil,Nat.zero_add,List.cons_append,List.nil_append,look,Option.isSome_some,wC,wNil,Qo,D.pure,Bool.and_self,List.set_cons_zero,Bool.and_true,Nat.reduceAdd,sz2,Ql,Qk,true_and,Int.reduceLE,Int.reduceNeg,Int.reduceLT,Qrg,Int.reduceToNat,Int.reducePow,Qbh]
  refine ⟨c,n,4,rfl,by decide,by decide,hn,by omega,λc1 r1 a1 b1=>?_⟩
  simp only [rowD,Qbh,Qo,D.pure,Bool.and_self,true_and]
  refine ⟨c1,n+1,_,rfl,by decide,by decide,by omega,by omega,λc2 r2 a2 b2=>?_⟩
  simp only [rowD,Qbh,Qo,D.pure,Bool.and_self,true_and]
  refine ⟨c2,n+1+1,6,rfl,by decide,by decide,by omega,by omega,λc3 r3 a3 b3=>?_⟩
  have e3:rowD c3 (n+1+1+1)=rowD c3 (n+3):=by rw [show n+1+1+1=n+3 by omega]
  rw [e3]
  simp only [Qbi,Qrh,Xq]
  by_cases q:r3=1
  ·simp only [q,decide_true,reduceIte,Qdn,List.getElem?_cons_succ,List.getElem?_cons_zero,Qk]
   exact ⟨rfl,k _ _ a2 (by simpa using b2)⟩
  ·simp only [q,decide_false,Bool.false_eq_true,reduceIte,Xz,List.getElem?_cons_zero,Qk]
   exact ⟨rfl,k _ _ a1 (by omega)⟩
def isC (d:D) (ns:List Int):Prop:=d=.kls (ns.map .int)\/d=.lst (ns.map .int)
def Qp:GA:=λds k=>∃(d:D) (ns:List Int) (i:Nat),ds=[d,.int i]/\isC d ns/\∀c:Int,k (.int c)
abbrev Yt:Stmt:=top 38
theorem Qcg:FnScope ["_law_script","_law_k"] ["_law_script","_law_k"] (Qb Yt):=⟨rfl,rfl,rfl,by decide +kernel,rfl,by decide +kernel,by decide +kernel⟩
def Xj:Tg:={ own:=λi=>false,io:=[] }
def Xh:WS:=(wSeq (wIf (wBl (wBin (dCmp λi j=>decide (i<j)) (wVar 1) (Ql dLen (Qd (wVar 0) wNil)))) (wRet (Jm (wBin dIx (wVar 0) (wVar 1)))) Qw)
 (wRet (wC (.int 0))))
theorem Qdm (B:Bn K mg):∀(cdv:Value) (A:Around) (outer:List PySem.Env) (s:Shared) (H:Hp) (E:XK),Room 0 (A.deeper (envOfC "_law_cell_at" (Qb Yt) s.heap.objs.size f cdv))->SVs (cxOf CX0 P w K mg base ["_law_script","_law_k"] "_law_cell_at" (Qb Yt) f cdv A outer s H E).nox Xj (Qr Yt) Xh:=λcdv A outer s H E hr =>
  (Qf (Yg (Qy Qhy (Qc 1) (Qv Zx B.nb_len Zy (Qa (Qc 0) Qe))) (Qh (Q4 (Ju (Yq (Yo (Yk hr)) (Qc 0) (Qc 1))))) Qx)
  (Qh (Q4 Qg)))
theorem Qcn (F:Fun K "_law_cell_at" "_law_cell_at" Yt f fd) (B:Bn K mg):FnOk P w K mg base CX0 1 f fd ["_law_script","_law_k"] (spR K Qp):=by
 refine Uo (T:=Xj) F Qcg rfl (by decide) (λds kk h=>?_) (Qdm B) (λds kk h=>?_)
 ·obtain ⟨d,ns,i,rfl,_⟩:=h
  rfl
 ·obtain ⟨d,ns,i,rfl,hd,k⟩:=h
  rcases hd with rfl | rfl
  all_goals
   simp only [Xh,wSeq,wIf,env0,List.map_cons,List.map_nil,List.length_cons,List.length_nil,Nat.zero_add,Nat.reduceAdd,List.cons_append,List.nil_append,wRet,Jm,wBin,Q3,Qw,wC,r_bl,Ql,Qd,wNil,look,Qk,Qyc,Qvq,V9,Qz,Xq,Xn]
   split
   ·rename_i h
    have h:(i:Int)<((ns.map D.int).length:Int):=by simpa using h
    have hi:i<ns.length:=by rw [List.length_map] at h;omega
    rw [Zu,List.getElem?_map,List.getElem?_eq_getElem hi]
    first | exact ⟨rfl,k _⟩ | exact k _
   ·exact k 0
end K05
variable {u:PySem.Str} {Q:PV.D->PV.Env->Prop} {k:PV.D->Prop} {l:List PySem.Str}
namespace K05
open PySem PySem.Spec L2 PV S03 Wd
open PyProof.Rows (envOfC)
def Uj:GA:=λds k=>∃n:Int,ds=[.int n]/\k (.bl true)
abbrev Vi:Stmt:=top 16
theorem Qhf:FnScope ["thing"] ["thing"] (Qb Vi):=⟨rfl,rfl,rfl,by decide +kernel,rfl,by decide +kernel,by decide +kernel⟩
def Qdy:Tg:={ own:=λi=>false,io:=[] }
def Qdp:WS:=(wRet (Qfh (Ql dIsi (Qd (wVar 0) (Qd (wC (.ty .int)) wNil))) (Qsq (Ql dIsi (Qd (wVar 0) (Qd (wC (.ty .bool)) wNil))))))
theorem Qk7 (B:Bn K mg):∀(cdv:Value) (A:Around) (outer:List PySem.Env) (s:Shared) (H:Hp) (E:XK),Room 0 (A.deeper (envOfC "is_whole" (Qb Vi) s.heap.objs.size f cdv))->SVs (cxOf CX0 P w K mg base ["thing"] "is_whole" (Qb Vi) f cdv A outer s H E).nox Qdy (Qr Vi) Qdp:=λcdv A outer s H E hr =>
  (Qh (Q4 (Qee (Qv Qeg B.nb_isinstance Yf (Qa (Qc 0) (Qa (Qk2 .int B.nb_int Qbg) Qe))) (Qbd (Qxi (Qv Qeg B.nb_isinstance Yf (Qa (Qc 0) (Qa (Qk2 .bool B.nb_bool Qur) Qe))))))))
theorem Qht (F:Fun K "is_whole" "is_whole" Vi f fd) (B:Bn K mg):FnOk P w K mg base CX0 1 f fd ["thing"] (spR K Uj):=by
 refine Uo (T:=Qdy) F Qhf rfl (by decide) (λds kk h=>?_) (Qk7 B) (λds kk h=>?_)
 ·obtain ⟨n,rfl,_⟩:=h
  rfl
 ·obtain ⟨n,rfl,k⟩:=h
  simp only [Qdp,wRet,env0,List.map_cons,List.map_nil,List.length_cons,List.length_nil,Nat.zero_add,List.cons_append,List.nil_append,Qd4,Ql,Qd,wC,wNil,Qvo,Qpf,isiD,Qz,Q3,look,Qk,BEq.rfl,reduceIte]
  exact k
theorem Qrw {w:Str} (h:okw w):w.cps.all (· < 128)=true:=by
 rw [← Array.all_toList,List.all_eq_true]
 intro c hc
 exact decide_eq_true (h.sg c hc).1
theorem lenZ {w:Str} (h:okw w):w.length<=sizeLine:=Nat.le_of_lt (small (by have:=h.len;omega))
def dgF:D->D
 | .str x=>.bl (x.cps.toList.all dg)
 | d=>d
theorem Qr4:decide (c∈(Str.ofString "0123456789").cps.toList)=dg c:=by
 rw [show (Str.ofString "0123456789").cps.toList=[48,49,50,51,52,53,54,55,56,57] by decide]
 unfold dg
 by_cases h:48<=c/\c<=57
 ·rw [decide_eq_true h.1,decide_eq_true h.2]
  apply decide_eq_true
  simp only [List.mem_cons,List.not_mem_nil,or_false]
  omega
 ·rw [← Bool.decide_and,decide_eq_false h]
  apply decide_eq_false
  simp only [List.mem_cons,List.not_mem_nil,or_false]
  omega
theorem Qvd {w:Str}:(sgn w).map dgF=(w.cps.toList.map dg).map D.bl:=by
 unfold sgn
 rw [List.map_map,List.map_map]
 refine List.map_congr_left λc _=>?_
 simp [dgF]
theorem Qrq {d:Nat}:decide ((⟨#[c]⟩:Str)=⟨#[d]⟩)=decide (c=d):=by
 by_cases h:c=d
 ·subst h;simp
 ·rw [decide_eq_false h]
  exact decide_eq_false λq=>h (by simpa using q)
def Vc:GA:=λds k=>∃w,ds=[.str w,.int 9]/\okw w/\k (.bl (nmb w))
abbrev Y1:Stmt:=top 17
theorem Qep:FnScope ["word","most"] ["word","most"] (Qb Y1):=⟨rfl,rfl,rfl,by decide +kernel,rfl,by decide +kernel,by decide +kernel⟩
def Qa7:Tg:={ own:=λi=>false,io:=[] }
def Qa5:WS:=(wSeq (wIf (wOr (wBl (wBin dEq (wVar 0) (wC (.str (Str.ofString ""))))) (wOr (wBl (wBin (dCmp λi j=>decide (j<i)) (Ql dLen (Qd (wVar 0) wNil)) (wVar 1))) (wNot (wTru (Ql dAll (Qd (Qb6 (Qfg (wVar 0)) wAll (wBin (dIn false) (wVar 0) (wC (.str (Str.ofString "0123456789")))) []) wNil)))))) (wRet (wC (.bl false))) Qw)
 (wRet (wOrV (wBin dEq (wVar 0) (wC (.str (Str.ofString "0")))) (wBin dNe (wBin dIx (wVar 0) (wC (.int 0))) (wC (.str (Str.ofString "0")))))))
theorem Qgy (B:Bn K mg):∀(cdv:Value) (A:Around) (outer:List PySem.Env) (s:Shared) (H:Hp) (E:XK),Room 0 (A.deeper (envOfC "is_written" (Qb Y1) s.heap.objs.size f cdv))->SVs (cxOf CX0 P w K mg base ["word","most"] "is_written" (Qb Y1) f cdv A outer s H E).nox Qa7 (Qr Y1) Qa5:=λcdv A outer s H E hr =>
  (Qf (Yg (Zf (Qdl (Qy (Zv hr.units) (Qc 0) Qq) (Qdl (Qy Qdg (Qv Zx B.nb_len Zy (Qa (Qc 0) Qe)) (Qc 1)) (Qbf (Xi (Zw (Qv (Qoj rfl) B.nb_all Qou (Qa (Xb (Gu [] (Qr2 (Qc 0)) (λ_ _ _ _ _=>Qef) (λ_ _ _ _ _=>(U2 (Qyt (Yk hr)) (Qc 0) (Qug B.c_FIGURES.choose_spec)))) (Zt (Qb Y1) ["word","most"] (by decide +kernel))) Qe)))))))) (Qh (Q4 Qn1)) Qx)
  (Qh (Q4 (Qxg (U2 (Zv hr.units) (Qc 0) Qq) (Qbd (U2 (Qdf hr.units) (Yq (Yo (Yk hr)) (Qc 0) Qg) Qq))))))
theorem Qez (F:Fun K "is_written" "is_written" Y1 f fd) (B:Bn K mg):FnOk P w K mg base CX0 1 f fd ["word","most"] (spR K Vc):=by
 refine Uo (T:=Qa7) F Qep rfl (by decide) (λds kk h=>?_) (Qgy B) (λds kk h=>?_)
 ·obtain ⟨n,rfl,_⟩:=h
  rfl
 ·obtain ⟨w,rfl,h,k⟩:=h
  have hz:=lenZ h
  unfold nmb at k
  simp only [Qa5,wSeq,wIf,wOr,env0,List.map_cons,List.map_nil,List.length_cons,List.length_nil,Nat.zero_add,Nat.reduceAdd,List.cons_append,List.nil_append,wRet,wC,Qw,Qvn,wBin,Q3,reduceIte,wNot,Gn,Ql,Qd,wNil,Qae,Qfg,r_bl,look,Qk,Qi4,Qrw h,true_and,Ql8,hz,V9,Qz,Xf]
  by_cases e1:w=Str.ofString ""
  ·rw [decide_eq_true e1] at k
   simp only [decide_eq_true e1,reduceIte]
   exact k
  rw [decide_eq_false e1] at k
  simp only [decide_eq_false e1,Bool.false_eq_true,reduceIte]
  by_cases e2:w.length<=9
  ·have e2':decide ((9:Int)<(w.length:Int))=false:=decide_eq_false (by omega)
   rw [decide_eq_true e2] at k
   simp only [e2',Bool.false_eq_true,reduceIte]
   refine Gv dgF (by unfold sgn;rw [List.length_map,Array.length_toList];exact small (by have:w.cps.size<=9:=e2;omega)) (λd hd Q' hQ=>?_) ?_
   ·obtain ⟨c,hc,rfl⟩:=List.mem_map.mp hd
    simp only [wBin,blkE,List.map_nil,wC,Q3,look,Qk,Qvr]
    rw [StrLaws.found_one,Qr4,Bool.false_xor]
    have:dgF (.str ⟨#[c]⟩)=.bl (dg c):=by simp [dgF]
    rw [this] at hQ
    exact hQ
   ·rw [Qvd]
    simp only [look,Qk,Qri,Xz,Qhj,Xf,Qz,Qrk,Zj]
    rw [List.all_map] 
    have eA:w.cps.toList.all (id ∘ dg)=w.cps.toList.all dg:=rfl
    rw [eA]
    cases hA:w.cps.toList.all dg with
    | false =>
     rw [hA] at k
     simp only [Bool.not_false,reduceIte]
     exact k
    | true =>
     rw [hA] at k
     simp only [Bool.not_true,Bool.false_eq_true,hz,true_and,reduceIte]
     by_cases e3:w=w0
     ·rw [decide_eq_true e3] at k
      simp only [decide_eq_true e3,reduceIte]
      exact k
     ·rw [decide_eq_false e3] at k
      simp only [decide_eq_false e3,Bool.false_eq_true,reduceIte]
      cases hc:w.cps.toList with
      | nil=>exact absurd (Qju hc) e1
      | cons c r =>
       rw [hc] at k
       simp only [List.getElem?_cons_zero,Qk]
       rw [Z1,Qrq]
       have:decide ((c::r)[0]? = some 48)=decide (c=48):=by simp
       rw [this] at k
       exact k
  ·have e2':decide ((9:Int)<(w.length:Int))=true:=decide_eq_true (by omega)
   rw [decide_eq_false e2] at k
   simp only [e2',reduceIte]
   exact k
def Zl:GA:=λds k=>∃n:Int,ds=[.int n]/\0<=n/\k (.bl true)
abbrev Vj:Stmt:=top 20
theorem Qhg:FnScope ["thing"] ["thing"] (Qb Vj):=⟨rfl,rfl,rfl,by decide +kernel,rfl,by decide +kernel,by decide +kernel⟩
def Qdz:Tg:={ own:=λi=>false,io:=[] }
def Qdq:WS:=(wRet (Qfh (Ql Uj (Qd (wVar 0) wNil)) (wBin (dCmp λi j=>decide (j<=i)) (wVar 0) (wC (.int 0)))))
theorem Qk8 (B:Bn K mg) (C_is_whole:Cal P w K mg base "is_whole" 1 ["thing"] (spR K Uj)):∀(cdv:Value) (A:Around) (outer:List PySem.Env) (s:Shared) (H:Hp) (E:XK),Room 1 (A.deeper (envOfC "is_count" (Qb Vj) s.heap.objs.size f cdv))->SVs (cxOf CX0 P w K mg base ["thing"] "is_count" (Qb Vj) f cdv A outer s H E).nox Qdz (Qr Vj) Qdq:=λcdv A outer s H E hr =>
  (Qh (Q4 (Qee (Qu C_is_whole (hr.mono (by decide)) (Qa (Qc 0) Qe)) (Qbd (U2 Qwj (Qc 0) Qg)))))
theorem Qhu (F:Fun K "is_count" "is_count" Vj f fd) (B:Bn K mg) (C1:Cal P w K mg base "is_whole" 1 ["thing"] (spR K Uj)):FnOk P w K mg base CX0 2 f fd ["thing"] (spR K Zl):=by
 refine Uo (T:=Qdz) F Qhg rfl (by decide) (λds kk h=>?_) (Qk8 B C1) (λds kk h=>?_)
 ·obtain ⟨n,rfl,_⟩:=h
  rfl
 ·obtain ⟨n,rfl,h0,k⟩:=h
  simp only [Qdq,wRet,env0,List.map_cons,List.map_nil,List.length_cons,List.length_nil,Nat.zero_add,List.cons_append,List.nil_append,Qd4,Ql,Qd,wNil,wBin,wC,Q3,look,Qk,V9]
  refine ⟨n,rfl,?_⟩
  simp only [h0,decide_true,Qz,reduceIte]
  exact k
def Zm:GA:=λds k=>∃ns:List Int,ds=[.tup (ns.map .int)]/\ns.length<=1000/\(∀n∈ns,0<=n)/\k (.bl true)
abbrev Z2:Stmt:=top 21
theorem Qhh:FnScope ["thing"] ["thing"] (Qb Z2):=⟨rfl,rfl,rfl,by decide +kernel,rfl,by decide +kernel,by decide +kernel⟩
def Qd0:Tg:={ own:=λi=>false,io:=[] }
def Qdr:WS:=(wRet (Qfh (Ql dIsi (Qd (wVar 0) (Qd (wC (.ty .tuple)) wNil))) (Ql dAll (Qd (Qb6 (Qb3 (wVar 0)) wAll (Ql Zl (Qd (wVar 0) wNil)) []) wNil))))
theorem Qk9 (B:Bn K mg) (C_is_count:Cal P w K mg base "is_count" 2 ["thing"] (spR K Zl)):∀(cdv:Value) (A:Around) (outer:List PySem.Env) (s:Shared) (H:Hp) (E:XK),Room 2 (A.deeper (envOfC "are_arcs" (Qb Z2) s.heap.objs.size f cdv))->SVs (cxOf CX0 P w K mg base ["thing"] "are_arcs" (Qb Z2) f cdv A outer s H E).nox Qd0 (Qr Z2) Qdr:=λcdv A outer s H E hr =>
  (Qh (Q4 (Qee (Qv Qeg B.nb_isinstance Yf (Qa (Qc 0) (Qa (Qk2 .tuple B.nb_tuple Vg) Qe))) (Qbd (Qv (Qoj rfl) B.nb_all Qou (Qa (Xb (Gu [] (Qbb (Qc 0)) (λ_ _ _ _ _=>Qef) (λ_ _ _ _ _=>(Qu C_is_count (hr.mono (by decide)) (Qa (Qc 0) Qe)))) (Zt (Qb Z2) ["thing"] (by decide +kernel))) Qe))))))
theorem Qhv (F:Fun K "are_arcs" "are_arcs" Z2 f fd) (B:Bn K mg) (C1:Cal P w K mg base "is_count" 2 ["thing"] (spR K Zl)):FnOk P w K mg base CX0 3 f fd ["thing"] (spR K Zm):=by
 refine Uo (T:=Qd0) F Qhh rfl (by decide) (λds kk h=>?_) (Qk9 B C1) (λds kk h=>?_)
 ·obtain ⟨n,rfl,_⟩:=h
  rfl
 ·obtain ⟨ns,rfl,hl,h0,k⟩:=h
  simp only [Qdr,wRet,env0,List.map_cons,List.map_nil,List.length_cons,List.length_nil,Nat.zero_add,List.cons_append,List.nil_append,Qd4,Ql,Qd,wC,wNil,Qae,Qdc,Q3,Qpf,isiD,Qz,look,Qk,Qfu,BEq.rfl,reduceIte]
  refine ⟨Zb,Gv (λ_=>.bl true) (by rw [List.length_map];exact small (by omega)) (λd hd Q' hQ=>?_) ?_⟩
  ·obtain ⟨c,hc,rfl⟩:=List.mem_map.mp hd
   simp only [Ql,Qd,blkE,List.map_nil,wNil,Q3,look,Qk]
   exact ⟨c,rfl,h0 c hc,hQ⟩
  ·simp only [Ql9]
   exact k
def Zr:GA:=λds k=>∃ns:List Int,ds=[.tup (ns.map .int)]/\ns.length=4/\(∀n∈ns,0<=n)/\k (.bl true)
abbrev Y7:Stmt:=top 22
theorem Qda:FnScope ["thing"] ["thing"] (Qb Y7):=⟨rfl,rfl,rfl,by decide +kernel,rfl,by decide +kernel,by decide +kernel⟩
def X8:Tg:={ own:=λi=>false,io:=[] }
def X3:WS:=(wRet (Qfh (Ql Zm (Qd (wVar 0) wNil)) (wBin dEq (Ql dLen (Qd (wVar 0) wNil)) (wC (.int 4)))))
theorem Qfb (B:Bn K mg) (C_are_arcs:Cal P w K mg base "are_arcs" 3 ["thing"] (spR K Zm)):∀(cdv:Value) (A:Around) (outer:List PySem.Env) (s:Shared) (H:Hp) (E:XK),Room 3 (A.deeper (envOfC "is_crossing" (Qb Y7) s.heap.objs.size f cdv))->SVs (cxOf CX0 P w K mg base ["thing"] "is_crossing" (Qb Y7) f cdv A outer s H E).nox X8 (Qr Y7) X3:=λcdv A outer s H E hr =>
  (Qh (Q4 (Qee (Qu C_are_arcs (hr.mono (by decide)) (Qa (Qc 0) Qe)) (Qbd (U2 (Zv hr.units) (Qv Zx B.nb_len Zy (Qa (Qc 0) Qe)) Qg)))))
theorem Qdd (F:Fun K "is_crossing" "is_crossing" Y7 f fd) (B:Bn K mg) (C1:Cal P w K mg base "are_arcs" 3 ["thing"] (spR K Zm)):FnOk P w K mg base CX0 4 f fd ["thing"] (spR K Zr):=by
 refine Uo (T:=X8) F Qda rfl (by decide) (λds kk h=>?_) (Qfb B C1) (λds kk h=>?_)
 ·obtain ⟨n,rfl,_⟩:=h
  rfl
 ·obtain ⟨ns,rfl,hl,h0,k⟩:=h
  simp only [X3,wRet,env0,List.map_cons,List.map_nil,List.length_cons,List.length_nil,Nat.zero_add,List.cons_append,List.nil_append,Qd4,Ql,Qd,wNil,wBin,wC,Q3,look,Qk,Qfv,Qbi]
  refine ⟨ns,rfl,by omega,h0,?_⟩
  have e:decide ((ns.length:Int)=4)=true:=decide_eq_true (by omega)
  simp only [List.length_map,e,Qz,reduceIte]
  exact k
def Ys:GA:=λds k=>∃(m e:Nat) (A:Nat->Int) (r:Int),ds=[webD m e A r]/\m<=100/\e<=100/\(∀i,0<=A i)/\0<=r/\k (.bl true)
abbrev Jq:Stmt:=top 23
theorem Qan:FnScope ["thing"] ["thing"] (Qb Jq):=⟨rfl,rfl,rfl,by decide +kernel,rfl,by decide +kernel,by decide +kernel⟩
def Uy:Tg:={ own:=λi=>false,io:=[] }
def Uv:WS:=(wSeq (wIf (wOr (wNot (wTru (Ql dIsi (Qd (wVar 0) (Qd (wC (.ty .tuple)) wNil))))) (wBl (wBin dNe (Ql dLen (Qd (wVar 0) wNil)) (wC (.int 3))))) (wRet (wC (.bl false))) Qw)
 (wSeq (wIf (wOr (wNot (wTru (Ql dIsi (Qd (wBin dIx (wVar 0) (wC (.int 0))) (Qd (wC (.ty .tuple)) wNil))))) (wNot (wTru (Ql dAll (Qd (Qb6 (Qb3 (wBin dIx (wVar 0) (wC (.int 0)))) wAll (Ql Zr (Qd (wVar 0) wNil)) []) wNil))))) (wRet (wC (.bl false))) Qw)
 (wRet (Qfh (Ql Zm (Qd (wBin dIx (wVar 0) (wC (.int 1))) wNil)) (Ql Zl (Qd (wBin dIx (wVar 0) (wC (.int 2))) wNil))))))
theorem Qbm (B:Bn K mg) (C_is_count:Cal P w K mg base "is_count" 2 ["thing"] (spR K Zl)) (C_are_arcs:Cal P w K mg base "are_arcs" 3 ["thing"] (spR K Zm)) (C_is_crossing:Cal P w K mg base "is_crossing" 4 ["thing"] (spR K Zr)):∀(cdv:Value) (A:Around) (outer:List PySem.Env) (s:Shared) (H:Hp) (E:XK),Room 4 (A.deeper (envOfC "is_made_as_web" (Qb Jq) s.heap.objs.size f cdv))->SVs (cxOf CX0 P w K mg base ["thing"] "is_made_as_web" (Qb Jq) f cdv A outer s H E).nox Uy (Qr Jq) Uv:=λcdv A outer s H E hr =>
  (Qf (Yg (Zf (Qdl (Xi (Zw (Qv Qeg B.nb_isinstance Yf (Qa (Qc 0) (Qa (Qk2 .tuple B.nb_tuple Vg) Qe))))) (Qbf (Qy (Qdf hr.units) (Qv Zx B.nb_len Zy (Qa (Qc 0) Qe)) Qg)))) (Qh (Q4 Qn1)) Qx)
  (Qf (Yg (Zf (Qdl (Xi (Zw (Qv Qeg B.nb_isinstance Yf (Qa (Yq (Yo (Yk hr)) (Qc 0) Qg) (Qa (Qk2 .tuple B.nb_tuple Vg) Qe))))) (Qbf (Xi (Zw (Qv (Qoj rfl) B.nb_all Qou (Qa (Xb (Gu [] (Qbb (Yq (Yo (Yk hr)) (Qc 0) Qg)) (λ_ _ _ _ _=>Qef) (λ_ _ _ _ _=>(Qu C_is_crossing (hr.mono (by decide)) (Qa (Qc 0) Qe)))) (Zt (Qb Jq) ["thing"] (by decide +kernel))) Qe))))))) (Qh (Q4 Qn1)) Qx)
  (Qh (Q4 (Qee (Qu C_are_arcs (hr.mono (by decide)) (Qa (Yq (Yo (Yk hr)) (Qc 0) Qg) Qe)) (Qbd (Qu C_is_count (hr.mono (by decide)) (Qa (Yq (Yo (Yk hr)) (Qc 0) Qg) Qe))))))))
theorem Qau (F:Fun K "is_made_as_web" "is_made_as_web" Jq f fd) (B:Bn K mg) (C1:Cal P w K mg base "is_count" 2 ["thing"] (spR K Zl)) (C2:Cal P w K mg base "are_arcs" 3 ["thing"] (spR K Zm)) (C3:Cal P w K mg base "is_crossing" 4 ["thing"] (spR K Zr)):FnOk P w K mg base CX0 5 f fd ["thing"] (spR K Ys):=by
 refine Uo (T:=Uy) F Qan rfl (by decide) (λds kk h=>?_) (Qbm B C1 C2 C3) (λds kk h=>?_)
 ·obtain ⟨m,e,A,r,rfl,_⟩:=h
  rfl
 ·obtain ⟨m,e,A,r,rfl,hm,he,hA,hr,k⟩:=h
  simp only [Uv,wSeq,wIf,wOr,wNot,env0,webD,List.map_cons,List.map_nil,List.length_cons,List.length_nil,Nat.zero_add,List.cons_append,List.nil_append,wRet,wC,Qw,Qd4,Ql,Qd,wBin,wNil,Q3,reduceIte,Gn,Qae,Qdc,Qpf,isiD,Zj,r_bl,look,Qk,Qad,Xz,List.getElem?_cons_zero,Qfu,BEq.rfl,Bool.not_true,Bool.false_eq_true,Qfv,Nat.reduceAdd,Ql1,show (((0+1+1+1:Nat):Int)=3)=True by simp,decide_true,Qz]
  refine ⟨Q6 λ_ _=>by simp only [D.pure];exact Q6 λ_ _=>rfl,Gv (λ_=>.bl true) (by simp;exact small (by omega)) (λd hd Q' hQ=>?_) ?_⟩
  ·obtain ⟨c,hc,rfl⟩:=List.mem_map.mp hd
   simp only [Ql,Qd,blkE,List.map_nil,wNil,Q3,look,Qk]
   refine ⟨(List.range 4).map λj=>A (4*c+j),by rw [List.map_map];rfl,by simp,λn hn=>?_,hQ⟩
   obtain ⟨j,_,rfl⟩:=List.mem_map.mp hn
   exact hA _
  ·simp only [look,Qk,Qad,Qxr,List.getElem?_cons_succ,List.getElem?_cons_zero,Qdn,Ql9,Zj,Bool.not_true,Bool.false_eq_true,reduceIte]
   refine ⟨(List.range e).map λj=>A (4*m+j),by rw [List.map_map];rfl,by simp;omega,λn hn=>?_,?_⟩
   ·obtain ⟨j,_,rfl⟩:=List.mem_map.mp hn
    exact hA _
   ·simp only [Qz,reduceIte]
    exact ⟨r,rfl,hr,k⟩
theorem big (h:n<=1000):n<sizeLine:=Nat.lt_of_le_of_lt h (by decide)
def crD (A:Nat->Int) (k:Nat):D:=.tup ((List.range 4).map λj=>.int (A (4*k+j)))
def Qai:GA:=λds k=>∃(m e:Nat) (A:Nat->Int) (r:Int),ds=[webD m e A r]/\m<=100/\e<=100/\k (.dik (encP (spD m) (M.plc A (4*m+e))))
abbrev Gy:Stmt:=top 24
theorem Vb:FnScope ["web","told","k","crossing","j","arc"] ["web"] (Qb Gy):=⟨rfl,rfl,rfl,by decide +kernel,rfl,by decide +kernel,by decide +kernel⟩
def Qiv:Tg:={ own:=λi=>i == 1 || i == 2 || i == 3 || i == 4 || i == 5,io:=[] }
def Qin:WS:=(wSeq (wSet 1 (wC (.dik [])))
 (wSeq (wFor (Qlj (Qd (wBin dIx (wVar 0) (wC (.int 0))) wNil)) (U4 2 (Y4 (gN 2) (Y4 (gN 3) Gr))) (wFor (Qlj (Qd (wVar 3) wNil)) (U4 2 (Y4 (gN 4) (Y4 (gN 5) Gr))) (wSda 1 (wVar 5) (wTup (Qd (wVar 2) (Qd (wVar 4) wNil))))))
 (wSeq (wFor (Qlj (Qd (wBin dIx (wVar 0) (wC (.int 1))) wNil)) (U4 2 (Y4 (gN 4) (Y4 (gN 5) Gr))) (wSda 1 (wVar 5) (wTup (Qd (wC (.int (-1))) (Qd (Jm (wVar 4)) wNil)))))
 (Qj8 1))))
theorem Qq0 (B:Bn K mg):∀(cdv:Value) (A:Around) (outer:List PySem.Env) (s:Shared) (H:Hp) (E:XK),Room 0 (A.deeper (envOfC "places" (Qb Gy) s.heap.objs.size f cdv))->SVs (cxOf CX0 P w K mg base ["web","told","k","crossing","j","arc"] "places" (Qb Gy) f cdv A outer s H E).nox Qiv (Qr Gy) Qin:=λcdv A outer s H E hr =>
  (Qf (Q1 (i:=1) Qqh Vb.nd)
  (Qf (Xk PassesOwn.never (Qh5 B.nb_enumerate (Qa (Yq (Yo (Yk hr)) (Qc 0) Qg) Qe)) (Qge (Ze (Yv (i:=2) Vb.nd) (Ze (Yv (i:=3) Vb.nd) Qaz))) (Qh (Xk PassesOwn.never (Qh5 B.nb_enumerate (Qa (Qc 3) Qe)) (Qge (Ze (Yv (i:=4) Vb.nd) (Ze (Yv (i:=5) Vb.nd) Qaz))) (Qh (Qra (i:=1) (Qc 5) (Yy (Qa (Qc 2) (Qa (Qc 4) Qe))))))))
  (Qf (Xk PassesOwn.never (Qh5 B.nb_enumerate (Qa (Yq (Yo (Yk hr)) (Qc 0) Qg) Qe)) (Qge (Ze (Yv (i:=4) Vb.nd) (Ze (Yv (i:=5) Vb.nd) Qaz))) (Qh (Qra (i:=1) (Qc 5) (Yy (Qa (Qnz B.c_RIM.choose_spec) (Qa (Ju (Qc 4)) Qe))))))
  (Qh (Qlt (i:=1))))))
theorem Qmg {t:Nat} (ht:t<900) {P:EndsP} {wk:WE} {a:Int} (ha:a=A t)
  (h1:look ρ 1=some (.dik (encP (spD m) (M.plc A t)))) (hk:∀Q,Q (.int a) ρ->wk ρ Q) (hv:∀d Q,Q (spD m t) (ρ.set 1 d)->wv (ρ.set 1 d) Q) (hn:P.nx (ρ.set 1 (some (.dik (encP (spD m) (M.plc A (t+1))))))):wSda 1 wk wv P ρ:=by
 obtain ⟨k1,k2,_⟩:=M.Qmf A t
 unfold wSda
 rw [h1]
 obtain ⟨l,hl,v1,v2⟩:=Qs5 (s:=spD m) (P:=M.plc A t) (a:=a) (i:=t) k1
 have hlen:l.length<=t:=by
  rcases hl with rfl | ⟨e,he,rfl⟩
  ·exact Nat.zero_le _
  ·exact Qpk A t e he
 refine ⟨?_,Qn4 k1,hk _ ?_⟩
 ·have:=Qhn A t
  unfold encP
  rw [List.length_map]
  exact big (by omega)
 ·show oget (valD (Ue (encP (spD m) (M.plc A t)) (.inl a)) (.inl a)) _
  rw [v1]
  refine ⟨by rw [List.length_map];exact big (by omega),hv _ _ ⟨Qtg,?_⟩⟩
  rw [v2,ha,← M.Qev]
  exact hn
theorem Qmt (F:Fun K "places" "places" Gy f fd) (B:Bn K mg):FnOk P w K mg base CX0 1 f fd ["web"] (spR K Qai):=by
 refine Uo (T:=Qiv) F Vb rfl (by decide) (λds kk h=>?_) (Qq0 B) (λds kk h=>?_)
 ·obtain ⟨m,e,A,r,rfl,_⟩:=h
  rfl
 ·obtain ⟨m,e,A,r,rfl,hm,he,k⟩:=h
  simp only [Qin,wSeq,wSet,wC,Int.reduceNeg,env0,webD,List.map_cons,List.map_nil,List.length_cons,List.length_nil,Nat.zero_add,Nat.reduceAdd,List.replicate,List.cons_append,List.nil_append,List.set_cons_succ,List.set_cons_zero,Qaq,Ql6,Qd,wBin,wNil,Q3,look,Qk,Qad,Xz,List.getElem?_cons_zero,Qhl]
  have pc:Qo ((List.range m).map λk=>D.tup ((List.range 4).map λj=>.int (A (4*k+j))))=true:=Q6 λ_ _=>by simp only [D.pure];exact Q6 λ_ _=>rfl
  have pe:Qo ((List.range e).map λj=>D.int (A (4*m+j)))=true:=Q6 λ_ _=>rfl
  refine ⟨pc,Go pc,λk ρ=>∃o2 o3 o4 o5:Option D,ρ=[some (webD m e A r),some (.dik (encP (spD m) (M.plc A (4*k)))),o2,o3,o4,o5],⟨none,none,none,none,rfl⟩,?_,?_⟩
  ·rintro i d ρ hd ⟨o2,o3,o4,o5,rfl⟩
   rw [Zs] at hd
   have hi:i<m:=by
    cases q:((List.range m).map λk=>D.tup ((List.range 4).map λj=>.int (A (4*k+j))))[i]? with
    | none=>rw [q] at hd;cases hd
    | some z=>simpa using (List.getElem?_eq_some_iff.mp q).1
   rw [List.getElem?_map,List.getElem?_range hi] at hd
   have hd:=(Option.some.inj hd).symm
   subst hd
   have pi:Qo ((List.range 4).map λj=>D.int (A (4*i+j)))=true:=Q6 λ_ _=>rfl
   simp only [Nat.zero_add,Int.reduceNeg,Qaq,Ql6,Qd,wNil,Q3,Ql4,List.length_cons,List.length_nil,Nat.reduceAdd,Qhk,gN,List.set_cons_succ,List.set_cons_zero,Ql5,look,Qk,Qhl,true_and]
   refine ⟨pi,Go pi,λj ρ=>∃o4 o5:Option D,ρ=[some (webD m e A r),some (.dik (encP (spD m) (M.plc A (4*i+j)))),some (.int (i:Int)),some (crD A i),o4,o5],⟨o4,o5,by simp [crD]⟩,?_,?_⟩
   ·rintro j d ρ hd ⟨o4,o5,rfl⟩
    rw [Zs] at hd
    have hj:j<4:=by
     cases q:((List.range 4).map λj=>D.int (A (4*i+j)))[j]? with
     | none=>rw [q] at hd;cases hd
     | some z=>simpa using (List.getElem?_eq_some_iff.mp q).1
    rw [List.getElem?_map,List.getElem?_range hj] at hd
    have hd:=(Option.some.inj hd).symm
    subst hd
    simp only [Nat.zero_add,Ql4,List.length_cons,List.length_nil,Nat.reduceAdd,Qhk,gN,List.set_cons_succ,List.set_cons_zero,Ql5,true_and]
    refine Qmg (m:=m) (t:=4*i+j) (A:=A) (a:=A (4*i+j)) (by omega) rfl rfl (λQ hQ=>?_) (λd Q hQ=>?_) ?_
    ·simp only [Q3,look,Qk];exact hQ
    ·simp only [wTup,Qd,List.set_cons_succ,List.set_cons_zero,wNil,List.length_cons,List.length_nil,Nat.zero_add,Nat.reduceAdd,Q3,look,Qk]
     refine ⟨by decide,?_⟩
     simpa [spD,M.Qx7 hi hj] using hQ
    ·exact ⟨some (.int (j:Int)),some (.int (A (4*i+j))),by simp [Nat.add_assoc]⟩
   ·rintro ρ ⟨o4,o5,rfl⟩
    have hl:(U5 0 ((List.range 4).map λj=>D.int (A (4*i+j)))).length=4:=by rw [Ye];simp
    exact ⟨some (.int (i:Int)),some (crD A i),o4,o5,by rw [hl,Nat.mul_add]⟩
  ·rintro ρ ⟨o2,o3,o4,o5,rfl⟩
   have hl:(U5 0 ((List.range m).map λk=>D.tup ((List.range 4).map λj=>.int (A (4*k+j))))).length=m:=by rw [Ye];simp
   rw [hl]
   simp only [wSeq,Int.reduceNeg,webD,Qaq,Ql6,Qd,wBin,wC,wNil,Q3,look,Qk,Qad,Qdn,List.getElem?_cons_succ,List.getElem?_cons_zero,Qhl]
   refine ⟨pe,Go pe,λj ρ=>∃o4 o5:Option D,ρ=[some (webD m e A r),some (.dik (encP (spD m) (M.plc A (4*m+j)))),o2,o3,o4,o5],⟨o4,o5,by simp [webD]⟩,?_,?_⟩
   ·rintro j d ρ hd ⟨o4,o5,rfl⟩
    rw [Zs] at hd
    have hj:j<e:=by
     cases q:((List.range e).map λj=>D.int (A (4*m+j)))[j]? with
     | none=>rw [q] at hd;cases hd
     | some z=>simpa using (List.getElem?_eq_some_iff.mp q).1
    rw [List.getElem?_map,List.getElem?_range hj] at hd
    have hd:=(Option.some.inj hd).symm
    subst hd
    simp only [Nat.zero_add,Int.reduceNeg,Ql4,List.length_cons,List.length_nil,Nat.reduceAdd,Qhk,gN,List.set_cons_succ,List.set_cons_zero,Ql5,true_and]
    refine Qmg (m:=m) (t:=4*m+j) (A:=A) (a:=A (4*m+j)) (by omega) rfl rfl (λQ hQ=>?_) (λd Q hQ=>?_) ?_
    ·simp only [Q3,look,Qk];exact hQ
    ·simp only [wTup,Qd,wC,Jm,List.set_cons_succ,List.set_cons_zero,wNil,Int.reduceNeg,List.length_cons,List.length_nil,Nat.zero_add,Nat.reduceAdd,Q3,look,Qk,D.pure,true_and]
     refine ⟨by decide,?_⟩
     simpa [spD,M.Qva] using hQ
    ·exact ⟨some (.int (j:Int)),some (.int (A (4*m+j))),by simp [Nat.add_assoc]⟩
   ·rintro ρ ⟨o4,o5,rfl⟩
    have hl:(U5 0 ((List.range e).map λj=>D.int (A (4*m+j)))).length=e:=by rw [Ye];simp
    rw [hl]
    simp only [Qj8,look,Qk]
    exact k
theorem Qkh:FnScope ["self","arc"] ["self","arc"] (Qb Vr):=⟨rfl,rfl,rfl,by decide +kernel,rfl,by decide +kernel,by decide +kernel⟩
theorem Qkl (F:Fun K "__init__" "Odd.__init__" Vr f fd) (hm:mg "TangleError" = some (.ref tE))
  (hsp:specialIn K (.ref tE) "__getattribute__" = some (some (.builtin "type.__getattribute__"))) (hrd:readsIn K tE (.type "type")=true)
  (hfc:findCls K (.ref tE) (.type "type") "__init__" = some (.val (.builtin "ValueError.__init__"))) (kc:ExcC K C) (hna:PySem.W.findIn K (.ref C) "arc" = some none):FnOk P w K mg base CX0 1 f fd ["self","arc"] (L2.spS K C "arc"):=by
 refine F.ok Qkh (λvs H Q E h=>by obtain ⟨a,v,rfl,_⟩:=h;rfl) λcdv A outer s H vs Q E hr h=>?_
 obtain ⟨a,v,rfl,⟨i,rfl,h1,h2⟩,ha,q⟩:=h
 refine ⟨_,Qbs (Qfy (tE:=tE) rfl hm hsp hrd hfc (Js (pv 0) (Js Qml Vu))) (Qhm (Qmb (pv 0) (pv 1))),?_⟩
 exact ⟨_,rfl,a,C,_,rfl,ha,kc,_,rfl,_,rfl,a,C,rfl,ha,kc,hna,q⟩
theorem Qit {α:Type} {L:List α} {p:α->Bool} {t:α} (h:L[i]? = some t):(L.take (i+1)).filter p=(L.take i).filter p++if p t=true then [t] else []:=by
 rw [List.take_add_one,h,List.filter_append]
 congr 1
 cases hp:p t <;> simp [hp]
theorem Qk4 {α:Type} {L:List α} {a b:α->D} {we:WE} (f:α->D) (p:α->Bool) (hz:L.length<sizeLine) (ht:∀t∈L,∀k:Bool->PV.Env->Prop,k (p t) (Xy ρ1 (a t) (b t) ix)->wt (Xy ρ1 (a t) (b t) ix) k)
  (he:∀t∈L,p t=true->∀Q':D->PV.Env->Prop,Q' (f t) (Xy ρ1 (a t) (b t) ix)->we (Xy ρ1 (a t) (b t) ix) Q') (hQ:Q (.lst ((L.filter p).map f)) ρ1):Qse (L.map λt=>.tup [a t,b t]) wt we ρ1 ix Q:=by
 have hlen:∀i,(((L.take i).filter p).map f).length<=L.length:=λi=>by
  rw [List.length_map]
  exact Nat.le_trans (List.length_filter_le _ _) (by rw [List.length_take];omega)
 refine ⟨λi ys=>ys=((L.take i).filter p).map f,by simp,λi d ys hd hy=>⟨by rw [hy];exact Nat.lt_of_le_of_lt (hlen i) hz,?_⟩,λys hy=>⟨by rw [hy];exact Nat.le_of_lt (Nat.lt_of_le_of_lt (hlen _) hz),?_⟩⟩
 ·rw [List.getElem?_map] at hd
  obtain ⟨t,htt,hd⟩:=Option.map_eq_some_iff.mp hd
  subst hd
  have hs:=Qit (p:=p) htt
  have hm:=List.mem_of_getElem? htt
  rw [Qrj]
  refine ht t hm _ ?_
  cases hp:p t with
  | true =>
   rw [if_pos rfl]
   refine he t hm hp _ ?_
   show ys++[f t]=((L.take (i+1)).filter p).map f
   rw [hs,hy,hp,if_pos rfl,List.map_append];rfl
  | false =>
   rw [if_neg (by decide)]
   show ys=((L.take (i+1)).filter p).map f
   rw [hs,hy,hp,if_neg (by decide),List.append_nil]
 ·rw [hy,List.length_map,List.take_of_length_le (Nat.le_refl _)];exact hQ
abbrev nOd:Str:=Str.ofString "Odd"
def od (x:Int):D:=.obj nOd [(Str.ofString "arc",x)]
theorem Qhx (i:Int):(Str.ofString (toString i)).length=(toString i).length:=by
 show (Str.ofString _).cps.size=_
 rw [← Array.length_toList,PyProof.Rows.signs_ofString,List.length_map,String.length_toList]
theorem smA {i:Int} (h0:0<=i) (h:i<1000000000):i.natAbs.log2<1920/\(toString i).length<=700:=by
 refine ⟨Vw (by omega) (by omega),?_⟩
 have:=Qd7 (n:=i) (by omega) (by omega)
 have e:(nw i).length=_:=Qhx i
 omega
def Zh:GX:=λds k kx=>∃(m e:Nat) (A:Nat->Int) (r:Int),ds=[webD m e A r]/\m<=100/\e<=100/\Gd A r/\due A (4*m+e) (k .non) λx=>kx (od x)
abbrev Ya:Stmt:=top 25
theorem Qa9:FnScope ["thing","odd"] ["thing"] (Qb Ya):=⟨rfl,rfl,rfl,by decide +kernel,rfl,by decide +kernel,by decide +kernel⟩
def Jz:Tg:={ own:=λi=>i == 1,io:=[] }
def Qbx:WS:=(wSeq (wIf (wNot (wTru (Ql Ys (Qd (wVar 0) wNil)))) Qq7 Qw)
 (wSeq (wSet 1 (Qdt (Qli (Ql Qai (Qd (wVar 0) wNil))) (wBl (wBin dNe (Ql dLen (Qd (wVar 1) wNil)) (wC (.int 2)))) (Jm (wVar 0)) []))
 (wIf (wTru (wVar 1)) (Vo (Str.ofString "Odd") (Str.ofString "arc") (Qd (Ql Qqo (Qd (wVar 1) wNil)) wNil)) Qw)))
theorem Qie (B:Bn K mg) (C_is_made_as_web:Cal P w K mg base "is_made_as_web" 5 ["thing"] (spR K Ys)) (C_places:Cal P w K mg base "places" 1 ["web"] (spR K Qai)) (I_Odd:Gw P w K mg base "Odd" "arc" 1):∀(cdv:Value) (A:Around) (outer:List PySem.Env) (s:Shared) (H:Hp) (E:XK) (XE:D->St->Hp->Prop),Room 5 (A.deeper (envOfC "check_web" (Qb Ya) s.heap.objs.size f cdv))->(∀x C,atN K x C->X0 (cxOf (CXD P w base) P w K mg base ["thing","odd"] "check_web" (Qb Ya) f cdv A outer s H E) ⟨Jz.own,Jz.io,XE⟩ x C)->(∀x attr C,atN K x C->V8 (cxOf (CXD P w base) P w K mg base ["thing","odd"] "check_web" (Qb Ya) f cdv A outer s H E) ⟨Jz.own,Jz.io,XE⟩ x C attr)->Vd (cxOf (CXD P w base) P w K mg base ["thing","odd"] "check_web" (Qb Ya) f cdv A outer s H E) ⟨Jz.own,Jz.io,XE⟩->Qaj (cxOf (CXD P w base) P w K mg base ["thing","odd"] "check_web" (Qb Ya) f cdv A outer s H E) ⟨Jz.own,Jz.io,XE⟩->SVs (cxOf (CXD P w base) P w K mg base ["thing","odd"] "check_web" (Qb Ya) f cdv A outer s H E) ⟨Jz.own,Jz.io,XE⟩ (Qr Ya) Qbx:=λcdv A outer s H E XE hr hX hXI hP hH =>
  (Qf (Yg (Xi (Zw (Qu C_is_made_as_web (hr.mono (by decide)) (Qa (Qc 0) Qe)))) (Qh Qpa) Qx)
  (Qf (Qiy (hio:=List.not_mem_nil) (j:=1) (Qjz [] (Qp8 (Qu C_places (hr.mono (by decide)) (Qa (Qc 0) Qe))) (λ_ _ _ _ _=>Qjx (Qy (Qdf hr.units) (Qv Zx B.nb_len Zy (Qa (Qc 1) Qe)) Qg)) (λ_ _ _ _ _=>(Ju (Qc 0)))) (Qgm (Qb Ya) ["thing","odd"] (by decide +kernel)) Qa9.nd)
  (Qh (Yg (Zw (Qc 1)) (Qh (Uc I_Odd (hr.mono (by decide)) (λC h=>hXI _ _ C h) (Qa (Qv (Qoh rfl) B.nb_min Qsh (Qa (Qc 1) Qe)) Qe))) Qx))))
theorem Qf5 (F:Fun K "check_web" "check_web" Ya f fd) (B:Bn K mg) (C1:Cal P w K mg base "is_made_as_web" 5 ["thing"] (spR K Ys)) (C2:Cal P w K mg base "places" 1 ["web"] (spR K Qai)) (I1:Gw P w K mg base "Odd" "arc" 1):FnOk P w K mg base (CXD P w base) 6 f fd ["thing"] (spXD K Zh):=by
 refine Qky (T:=Jz) F Qa9 rfl (by decide) (λds kk kx h=>?_) (Qie B C1 C2 I1) (λds kk kx h=>?_)
 ·obtain ⟨m,e,A,r,rfl,_⟩:=h
  rfl
 ·obtain ⟨m,e,A,r,rfl,hm,he,g,q1,q2⟩:=h
  simp only [Qbx,wSeq,wIf,wNot,env0,List.map_cons,List.map_nil,List.length_cons,List.length_nil,Nat.zero_add,Nat.reduceAdd,List.replicate,List.cons_append,List.nil_append,Qw,wSet,Qdt,Qli,Ql,Qd,wNil,Qnf,Vo,Q3,Gn,look,Qk]
  refine ⟨m,e,A,r,rfl,hm,he,λi=>(g.a i).1,g.r.1,?_⟩
  simp only [Zj,Bool.not_true,Bool.false_eq_true,reduceIte]
  refine ⟨m,e,A,r,rfl,hm,he,?_⟩
  simp only []
  have ei:Qea (encP (spD m) (M.plc A (4*m+e)))=(M.plc A (4*m+e)).map λt=>D.tup [.int t.1,.lst (t.2.map (spD m))]:=by
   unfold Qea encP
   rw [List.map_map]
   apply List.map_congr_left
   intro t _
   rfl
  rw [ei]
  have hpl:=Qhn A (4*m+e)
  refine Qk4 (L:=M.plc A (4*m+e)) (a:=λt=>.int t.1) (b:=λt=>.lst (t.2.map (spD m))) (λt=>.int t.1) (λt=>decide (t.2.length≠2)) (big (by omega)) (λt ht k hk=>?_) (λt ht hp Q' hQ=>?_) ?_
  ·simp only [Xy,List.map_nil,r_bl,wBin,Ql,Qd,wNil,wC,Q3,look,Qk,Xn,List.length_map,Ql1,Qz]
   have e2:(!decide ((t.2.length:Int)=2))=decide (t.2.length≠2):=by
    by_cases z:t.2.length=2
    ·simp [z]
    ·have:¬((t.2.length:Int)=2):=by omega
     simp [z,this]
   first | (rw [e2];exact hk) | (simp only [e2];exact hk)
  ·simp only [Jm,Xy,List.map_nil,Q3,look,Qk,D.pure,true_and]
   exact hQ
  ·simp only [List.set_cons_succ,List.set_cons_zero,look,Qk,Qi6,Qvk]
   have e3:((M.plc A (4*m+e)).filter λt=>decide (t.2.length≠2)).map (λt=>D.int t.1)=(odds A (4*m+e)).map D.int:=by
    unfold odds
    rw [List.map_map]
    rfl
   rw [e3]
   have hsm:∀x∈odds A (4*m+e),x.natAbs.log2<1920/\(toString x).length<=700:=λx hx=>by
    obtain ⟨hx,_⟩:=List.mem_filter.mp (Ul.mp hx)
    obtain ⟨i,_,rfl⟩:=List.mem_map.mp hx
    exact smA (g.a i).1 (g.a i).2
   cases ho:odds A (4*m+e) with
   | nil=>exact q1 ho
   | cons x xs=>exact ⟨x::xs,rfl,by simp,λM hM hb=>⟨hsm M (by rw [ho];exact hM),q2 M ⟨by rw [ho];exact hM,λy hy=>by rw [ho] at hy;exact hb y hy⟩⟩⟩
def strF:D->D
 | .int n=>.str (nw n)
 | d=>d
def Z7:GA:=λds k=>∃(x:Str) (ns:List Int),(ds=[.str x,.tup (ns.map .int)]\/ds=[.str x,.lst (ns.map .int)])/\ns.length<=1000/\(∀n∈ns,0<=n/\n<1000000000)/\k (.lst ((x::ns.map nw).map .str))
abbrev Z0:Stmt:=top 28
theorem Qhe:FnScope ["letter","numbers"] ["letter","numbers"] (Qb Z0):=⟨rfl,rfl,rfl,by decide +kernel,rfl,by decide +kernel,by decide +kernel⟩
def Qdx:Tg:={ own:=λi=>false,io:=[] }
def Qak:WS:=(wRet (wBin Y9 (wLst (Qd (Jm (wVar 0)) wNil)) (Qb6 (Qb3 (wVar 1)) wAll (Ql dStr (Qd (wVar 0) wNil)) [])))
theorem Qk6 (B:Bn K mg):∀(cdv:Value) (A:Around) (outer:List PySem.Env) (s:Shared) (H:Hp) (E:XK),Room 0 (A.deeper (envOfC "words_by" (Qb Z0) s.heap.objs.size f cdv))->SVs (cxOf CX0 P w K mg base ["letter","numbers"] "words_by" (Qb Z0) f cdv A outer s H E).nox Qdx (Qr Z0) Qak:=λcdv A outer s H E hr =>
  (Qh (Q4 (Jn Jp (Y5 (Qa (Ju (Qc 0)) Qe)) (Xb (Gu [] (Qbb (Qc 1)) (λ_ _ _ _ _=>Qef) (λ_ _ _ _ _=>(Q8 Qgp B.nb_str Qeh (Qa (Qc 0) Qe)))) (Zt (Qb Z0) ["letter","numbers"] (by decide +kernel))))))
theorem Qhs (F:Fun K "words_by" "words_by" Z0 f fd) (B:Bn K mg):FnOk P w K mg base CX0 1 f fd ["letter","numbers"] (spR K Z7):=by
 refine Uo (T:=Qdx) F Qhe rfl (by decide) (λds kk h=>?_) (Qk6 B) (λds kk h=>?_)
 ·obtain ⟨x,ns,rfl | rfl,_⟩:=h <;> rfl
 ·obtain ⟨x,ns,hd,hl,hn,k⟩:=h
  have key:∀(ρ1:PV.Env) (Q:D->PV.Env->Prop),Q (.lst ((ns.map nw).map .str)) ρ1->Qof (ns.map D.int) wAll (Ql dStr (Qd (wVar 0) wNil)) ρ1 [] Q:=λρ1 Q hQ=>by
   refine Gv strF (by rw [List.length_map];exact small (by omega)) (λd hd Q' hQ=>?_) ?_
   ·obtain ⟨n,hm,rfl⟩:=List.mem_map.mp hd
    simp only [Ql,Qd,blkE,List.map_nil,wNil,Q3,look,Qk,Qfx]
    exact ⟨Vw (hn n hm).1 (hn n hm).2,hQ⟩
   ·rw [List.map_map] at hQ ⊢
    exact hQ
  rcases hd with rfl | rfl
  ·simp only [Qak,wRet,wBin,wLst,Qd,Jm,env0,List.map_cons,List.map_nil,List.length_cons,List.length_nil,Nat.zero_add,Nat.reduceAdd,List.cons_append,List.nil_append,wNil,Qae,Qdc,Q3,look,Qk,Qfu,D.pure,true_and]
   refine ⟨by decide,Zb,key _ _ ?_⟩
   simp only [Qcj,Qo,D.pure,Bool.and_self,List.length_cons,List.length_nil,Nat.zero_add,List.cons_append,List.nil_append,true_and]
   exact ⟨Za,by simp;exact Nat.le_of_lt (small (by omega)),k⟩
  ·simp only [Qak,wRet,wBin,wLst,Qd,Jm,env0,List.map_cons,List.map_nil,List.length_cons,List.length_nil,Nat.zero_add,Nat.reduceAdd,List.cons_append,List.nil_append,wNil,Qae,Qdc,Q3,look,Qk,Qi3,D.pure,true_and]
   refine ⟨by decide,key _ _ ?_⟩
   simp only [Qcj,Qo,D.pure,Bool.and_self,List.length_cons,List.length_nil,Nat.zero_add,List.cons_append,List.nil_append,true_and]
   exact ⟨Za,by simp;exact Nat.le_of_lt (small (by omega)),k⟩
def Qa1:GA:=λds k=>∃(m e:Nat) (A:Nat->Int) (r:Int),ds=[webD m e A r]/\m<=100/\e<=100/\Gd A r/\k (.str (tx m e A r))
theorem X2 (hm:m<=100) (he:e<=100) (g:Gd A r) (h:k (.str (tx m e A r))):Qnp (Str.ofString " ") [.lst ((Ws m e A r).map .str)] k:=by
 refine ⟨Ws m e A r,rfl,Qst g hm he,?_,h⟩
 have:=(Quz g hm he).1
 exact Nat.le_of_lt (small (show (tx m e A r).length<=_ by omega))
theorem Qo0:(webD m e A r).pure=true:=by
 unfold webD
 simp only [D.pure,Qo,Bool.and_true,Bool.and_eq_true]
 exact ⟨Q6 λ_ _=>by simp only [D.pure];exact Q6 λ_ _=>rfl,Q6 λ_ _=>rfl⟩
theorem Gs:Qo ((List.range m).map λk=>D.tup ((List.range 4).map λj=>.int (A (4*k+j))))=true:=Q6 λ_ _=>by simp only [D.pure];exact Q6 λ_ _=>rfl
theorem Qsd (h:((List.range m).map λk=>D.tup ((List.range 4).map λj=>.int (A (4*k+j))))[i]? = some d):i<m/\d=.tup (((List.range 4).map λj=>A (4*i+j)).map .int):=by
 have hi:i<m:=by simpa using (List.getElem?_eq_some_iff.mp h).1
 rw [List.getElem?_map,List.getElem?_range hi] at h
 exact ⟨hi,by rw [List.map_map];exact (Option.some.inj h).symm⟩
theorem Qmx (g:Gd A r) {b:Nat}:∀x∈(List.range n).map λj=>A (b+j),0<=x/\x<1000000000:=λx hx=>by
 obtain ⟨j,_,rfl⟩:=List.mem_map.mp hx
 exact g.a _
theorem Qsl:Wx A i++(wx::((List.range 4).map λj=>A (4*i+j)).map nw)=Wx A (i+1):=by
 rw [List.map_map];rfl
theorem Qh7:((List.range e).map λj=>D.int (A (4*m+j)))=((List.range e).map λj=>A (4*m+j)).map .int:=by rw [List.map_map];rfl
theorem Qzd (h:0<e):We m e A=we::((List.range e).map λj=>A (4*m+j)).map nw:=by
 unfold We;rw [if_neg (by omega),List.map_map];rfl
abbrev Qap:Stmt:=top 29
theorem Qeo:FnScope ["web","words","crossing"] ["web"] (Qb Qap):=⟨rfl,rfl,rfl,by decide +kernel,rfl,by decide +kernel,by decide +kernel⟩
def Qlp:Tg:={ own:=λi=>i == 1 || i == 2,io:=[] }
def Qle:WS:=(wSeq (wSet 1 (wLst wNil))
 (wSeq (wFor (Qb3 (Jm (wBin dIx (wVar 0) (wC (.int 0))))) (gN 2) (Z9 (wMt 1 "list" Qcy (Qd (Ql Z7 (Qd (wC (.str (Str.ofString "x"))) (Qd (wVar 2) wNil))) wNil))))
 (wSeq (wIf (wTru (wBin dIx (wVar 0) (wC (.int 1)))) (Z9 (wMt 1 "list" Qcy (Qd (Ql Z7 (Qd (wC (.str (Str.ofString "e"))) (Qd (wBin dIx (wVar 0) (wC (.int 1))) wNil))) wNil))) Qw)
 (wSeq (wIf (wBl (wBin (dCmp λi j=>decide (j<i)) (wBin dIx (wVar 0) (wC (.int 2))) (wC (.int 0)))) (Z9 (wMt 1 "list" Qcy (Qd (Ql Z7 (Qd (wC (.str (Str.ofString "o"))) (Qd (wLst (Qd (Jm (wBin dIx (wVar 0) (wC (.int 2)))) wNil)) wNil))) wNil))) Qw)
 (wRet (wMs Qnp (wC (.str (Str.ofString " "))) (Qd (wVar 1) wNil)))))))
theorem Qus (B:Bn K mg) (C_words_by:Cal P w K mg base "words_by" 1 ["letter","numbers"] (spR K Z7)):∀(cdv:Value) (A:Around) (outer:List PySem.Env) (s:Shared) (H:Hp) (E:XK),Room 1 (A.deeper (envOfC "shown" (Qb Qap) s.heap.objs.size f cdv))->SVs (cxOf CX0 P w K mg base ["web","words","crossing"] "shown" (Qb Qap) f cdv A outer s H E).nox Qlp (Qr Qap) Qle:=λcdv A outer s H E hr =>
  (Qf (Q1 (i:=1) (Y5 Qe) Qeo.nd)
  (Qf (Xk PassesOwn.never (Qbb (Ju (Yq (Yo (Yk hr)) (Qc 0) Qg))) (Yv (i:=2) Qeo.nd) (Qh (Vq (Qcz (i:=1) Qcr PySem.F.plainAttrs_list PySem.F.slot_list_extend PySem.F.type_list_extend (Qa (Qu C_words_by (hr.mono (by decide)) (Qa Qq (Qa (Qc 2) Qe))) Qe)))))
  (Qf (Yg (Zw (Yq (Yo (Yk hr)) (Qc 0) Qg)) (Qh (Vq (Qcz (i:=1) Qcr PySem.F.plainAttrs_list PySem.F.slot_list_extend PySem.F.type_list_extend (Qa (Qu C_words_by (hr.mono (by decide)) (Qa Qq (Qa (Yq (Yo (Yk hr)) (Qc 0) Qg) Qe))) Qe)))) Qx)
  (Qf (Yg (Qy Qdg (Yq (Yo (Yk hr)) (Qc 0) Qg) Qg) (Qh (Vq (Qcz (i:=1) Qcr PySem.F.plainAttrs_list PySem.F.slot_list_extend PySem.F.type_list_extend (Qa (Qu C_words_by (hr.mono (by decide)) (Qa Qq (Qa (Y5 (Qa (Ju (Yq (Yo (Yk hr)) (Qc 0) Qg)) Qe)) Qe))) Qe)))) Qx)
  (Qh (Q4 (Quf Qm1 PySem.F.slot_str_join PySem.F.type_str_join Qq (Qa (Qc 1) Qe))))))))
theorem Qpx (F:Fun K "shown" "shown" Qap f fd) (B:Bn K mg) (C1:Cal P w K mg base "words_by" 1 ["letter","numbers"] (spR K Z7)):FnOk P w K mg base CX0 2 f fd ["web"] (spR K Qa1):=by
 refine Uo (T:=Qlp) F Qeo rfl (by decide) (λds kk h=>?_) (Qus B C1) (λds kk h=>?_)
 ·obtain ⟨m,e,A,r,rfl,_⟩:=h
  rfl
 ·obtain ⟨m,e,A,r,rfl,hm,he,g,k⟩:=h
  simp only [Qle,wSeq,wSet,wLst,wNil,List.length_nil,env0,webD,List.map_cons,List.map_nil,List.length_cons,Nat.zero_add,Nat.reduceAdd,List.replicate,List.cons_append,List.nil_append,List.set_cons_succ,List.set_cons_zero,Qaq,Qdc,Jm,wBin,wC,Q3,look,Qk,Qad,Xz,List.getElem?_cons_zero,D.pure,Qfu]
  refine ⟨by decide,Gs,Gs,Gs,λi ρ=>i<=m/\∃o:Option D,ρ=[some (webD m e A r),some (.lst ((Wx A i).map .str)),o],⟨by omega,none,rfl⟩,?_,?_⟩
  ·rintro i d ρ hd ⟨_,o,rfl⟩
   obtain ⟨hi,rfl⟩:=Qsd hd
   simp only [gN,Z9,wMt,List.set_cons_succ,List.set_cons_zero,look,Xe,BEq.rfl,Qd,Ql,wC,wNil,Q3,Qk,true_and]
   refine ⟨_,_,.inl rfl,by simp,Qmx g,?_⟩
   simp only [Qi5,Za,List.length_map,Ve,List.length_cons,List.length_range,Nat.reduceAdd,true_and]
   refine ⟨Nat.le_of_lt (small (by omega)),by omega,some (.tup (((List.range 4).map λj=>A (4*i+j)).map .int)),?_⟩
   rw [← Qsl,List.map_append];rfl
  ·rintro ρ ⟨_,o,rfl⟩
   simp only [wSeq,wIf,webD,List.length_map,List.length_range,Z9,wMt,Qd,Ql,wC,wBin,wNil,wLst,Jm,List.length_cons,List.length_nil,Nat.zero_add,wRet,wMs,Q3,Qet,Qw,r_bl,Gn,look,Xe,BEq.rfl,List.set_cons_succ,List.set_cons_zero,Qk,Qad,Qxr,List.getElem?_cons_succ,List.getElem?_cons_zero,D.pure,true_and,V9,Qz,Qdn,Qlz]
   have tail1:0<r->Wx A m++We m e A++(Str.ofString "o" :: [r].map nw)=Ws m e A r:=λhr=>by
    unfold Ws Wo;rw [if_pos hr,List.append_assoc];rfl
   have tail2:¬0<r->Wx A m++We m e A=Ws m e A r:=λhr=>by
    unfold Ws Wo;rw [if_neg hr,List.append_nil]
   by_cases h0:0<e
   ·have hne:((List.range e).map λj=>D.int (A (4*m+j))).isEmpty=false:=by
     cases e with
     | zero=>omega
     | succ e=>rw [List.range_succ];simp
    simp only [hne,Bool.not_false,reduceIte]
    refine ⟨we,(List.range e).map λj=>A (4*m+j),.inl (by rw [Qh7];rfl),by simp;omega,Qmx g,?_⟩
    simp only [Qi5,Za,List.length_map,Ve,List.length_cons,List.length_range,Xe,BEq.rfl,true_and]
    refine ⟨Nat.le_of_lt (small (by omega)),?_⟩
    rw [← Qzd h0,← List.map_append]
    by_cases hr:0<r
    ·simp only [hr,decide_true,reduceIte]
     refine ⟨by decide,_,[r],.inr rfl,by simp,λn hn=>by rw [List.mem_singleton.mp hn];exact g.r,?_⟩
     simp only [Qi5,Za,List.length_map,List.length_append,Ve,Qg3,List.length_cons,List.length_nil,Nat.zero_add,Nat.reduceAdd,true_and]
     refine ⟨Nat.le_of_lt (small (by simp;split <;> omega)),?_⟩
     rw [← List.map_append,tail1 hr]
     exact X2 hm he g k
    ·simp only [hr,decide_false,Bool.false_eq_true,reduceIte]
     rw [tail2 hr]
     exact X2 hm he g k
   ·have e0:e=0:=by omega
    subst e0
    have hx:Wx A m=Wx A m++We m 0 A:=by simp [We]
    simp only [List.range_zero,List.map_nil,List.isEmpty_nil,Bool.not_true,Bool.false_eq_true,reduceIte]
    rw [hx]
    by_cases hr:0<r
    ·simp only [hr,decide_true,reduceIte]
     refine ⟨by decide,_,[r],.inr rfl,by simp,λn hn=>by rw [List.mem_singleton.mp hn];exact g.r,?_⟩
     simp only [Qi5,Za,List.length_map,List.length_append,Ve,Qg3,Nat.zero_add,reduceIte,List.length_cons,List.length_nil,Nat.reduceAdd,true_and]
     refine ⟨Nat.le_of_lt (small (by simp;omega)),?_⟩
     rw [← List.map_append,tail1 hr]
     exact X2 hm he g k
    ·simp only [hr,decide_false,Bool.false_eq_true,reduceIte]
     rw [tail2 hr]
     exact X2 hm he g k
def Ug:GA:=λds k=>∃ws,ds=[.str (jn ws)]/\okW ws/\ws.length<=1000/\ws≠[Str.ofString ""]/\k (.lst (ws.map .str))
abbrev Vh:Stmt:=top 30
theorem Qhd:FnScope ["text"] ["text"] (Qb Vh):=⟨rfl,rfl,rfl,by decide +kernel,rfl,by decide +kernel,by decide +kernel⟩
def Qdw:Tg:={ own:=λi=>false,io:=[] }
def Qdo:WS:=(wSeq (wIf (wBl (wBin dEq (wVar 0) (wC (.str (Str.ofString ""))))) (wRet (wLst wNil)) Qw)
 (wRet (wMs Qr3 (wVar 0) (Qd (wC (.str (Str.ofString " "))) wNil))))
theorem Qk5 (B:Bn K mg):∀(cdv:Value) (A:Around) (outer:List PySem.Env) (s:Shared) (H:Hp) (E:XK),Room 0 (A.deeper (envOfC "words_of" (Qb Vh) s.heap.objs.size f cdv))->SVs (cxOf CX0 P w K mg base ["text"] "words_of" (Qb Vh) f cdv A outer s H E).nox Qdw (Qr Vh) Qdo:=λcdv A outer s H E hr =>
  (Qf (Yg (Qy (Zv hr.units) (Qc 0) Qq) (Qh (Q4 (Y5 Qe))) Qx)
  (Qh (Q4 (Quf Qp2 PySem.F.slot_str_split PySem.F.type_str_split (Qc 0) (Qa Qq Qe)))))
theorem Qhr (F:Fun K "words_of" "words_of" Vh f fd) (B:Bn K mg):FnOk P w K mg base CX0 1 f fd ["text"] (spR K Ug):=by
 refine Uo (T:=Qdw) F Qhd rfl (by decide) (λds kk h=>?_) (Qk5 B) (λds kk h=>?_)
 ·obtain ⟨ws,rfl,_⟩:=h
  rfl
 ·obtain ⟨ws,rfl,h,hl,hne,k⟩:=h
  simp only [Qdo,wSeq,wIf,env0,List.map_cons,List.map_nil,List.length_cons,List.length_nil,Nat.zero_add,List.cons_append,List.nil_append,wRet,wLst,wNil,sz0,true_and,Qw,wMs,Qd,wC,Q3,r_bl,wBin,look,Qk,Qet,Xf,Qz]
  by_cases q:ws=[]
  ·have e1:decide (jn ws=Str.ofString "")=true:=decide_eq_true ((Qe6 hne).mpr q)
   simp only [e1,reduceIte]
   rw [q] at k
   exact k
  ·have e1:decide (jn ws=Str.ofString "")=false:=decide_eq_false λh=>q ((Qe6 hne).mp h)
   simp only [e1,Bool.false_eq_true,reduceIte]
   have h2:=Qr0 h hl
   refine ⟨by decide,by decide +kernel,Qwz hne q,Nat.le_of_lt (small (by omega)),?_,?_⟩
   ·rw [Qgb h q]
    exact Nat.le_of_lt (small (by omega))
   ·rw [Qgb h q];exact k
def V6:GA:=λds k=>∃(ws:List Str) (i:Nat) (x:Str),ds=[.lst (ws.map .str),.int i,.str x]/\k (.bl (ws[i]? == some x))
abbrev Gx:Stmt:=top 31
theorem Qlw:FnScope ["words","at","letter"] ["words","at","letter"] (Qb Gx):=⟨rfl,rfl,rfl,by decide +kernel,rfl,by decide +kernel,by decide +kernel⟩
def Qiu:Tg:={ own:=λi=>false,io:=[] }
def Qim:WS:=(wRet (Qfh (wBin (dCmp λi j=>decide (i<j)) (wVar 1) (Ql dLen (Qd (wVar 0) wNil))) (wBin dEq (wBin dIx (wVar 0) (wVar 1)) (wVar 2))))
theorem Qqz (B:Bn K mg):∀(cdv:Value) (A:Around) (outer:List PySem.Env) (s:Shared) (H:Hp) (E:XK),Room 0 (A.deeper (envOfC "stands" (Qb Gx) s.heap.objs.size f cdv))->SVs (cxOf CX0 P w K mg base ["words","at","letter"] "stands" (Qb Gx) f cdv A outer s H E).nox Qiu (Qr Gx) Qim:=λcdv A outer s H E hr =>
  (Qh (Q4 (Qee (U2 Qhy (Qc 1) (Qv Zx B.nb_len Zy (Qa (Qc 0) Qe))) (Qbd (U2 (Zv hr.units) (Yq (Yo (Yk hr)) (Qc 0) (Qc 1)) (Qc 2))))))
theorem Qms (F:Fun K "stands" "stands" Gx f fd) (B:Bn K mg):FnOk P w K mg base CX0 1 f fd ["words","at","letter"] (spR K V6):=by
 refine Uo (T:=Qiu) F Qlw rfl (by decide) (λds kk h=>?_) (Qqz B) (λds kk h=>?_)
 ·obtain ⟨ws,i,x,rfl,_⟩:=h
  rfl
 ·obtain ⟨ws,i,x,rfl,k⟩:=h
  simp only [Qim,wRet,env0,List.map_cons,List.map_nil,List.length_cons,List.length_nil,Nat.zero_add,Nat.reduceAdd,List.cons_append,List.nil_append,Qd4,wBin,Ql,Qd,wNil,Q3,look,Qk,Xq,Xn,List.length_map,V9,Qz]
  by_cases h:i<ws.length
  ·have e1:decide ((i:Int)<(ws.length:Int))=true:=decide_eq_true (by omega)
   simp only [e1,Zu,List.getElem?_map,List.getElem?_eq_getElem h,Option.map_some,Qk,Xf,reduceIte]
   rw [List.getElem?_eq_getElem h] at k
   have:(some ws[i] == some x)=decide (ws[i]=x):=by
    by_cases q:ws[i]=x <;> simp [q]
   rw [this] at k
   exact k
  ·have e1:decide ((i:Int)<(ws.length:Int))=false:=decide_eq_false (by omega)
   simp only [e1,Bool.false_eq_true,reduceIte]
   rw [List.getElem?_eq_none (by omega)] at k
   exact k
abbrev nNT:Str:=Str.ofString "NoText"
def nt (i:Nat):D:=.obj nNT [(Str.ofString "at",(i:Int))]
theorem smI (h:i<=2000):(i:Int).natAbs.log2<1920/\(toString (i:Int)).length<=700:=by
 refine ⟨Vw (by omega) (by omega),?_⟩
 have:=Qd7 (n:=(i:Int)) (by omega) (by omega)
 have e:(nw (i:Int)).length=_:=Qhx i
 omega
theorem Qeq:FnScope ["self","at"] ["self","at"] (Qb Y2):=⟨rfl,rfl,rfl,by decide +kernel,rfl,by decide +kernel,by decide +kernel⟩
theorem Qe0 (F:Fun K "__init__" "NoText.__init__" Y2 f fd) (hm:mg "TangleError" = some (.ref tE))
  (hsp:specialIn K (.ref tE) "__getattribute__" = some (some (.builtin "type.__getattribute__"))) (hrd:readsIn K tE (.type "type")=true)
  (hfc:findCls K (.ref tE) (.type "type") "__init__" = some (.val (.builtin "ValueError.__init__"))) (kc:ExcC K C) (hna:PySem.W.findIn K (.ref C) "at" = some none):FnOk P w K mg base CX0 1 f fd ["self","at"] (L2.spS K C "at"):=by
 refine F.ok Qeq (λvs H Q E h=>by obtain ⟨a,v,rfl,_⟩:=h;rfl) λcdv A outer s H vs Q E hr h=>?_
 obtain ⟨a,v,rfl,⟨i,rfl,h1,h2⟩,ha,q⟩:=h
 refine ⟨_,Qbs (Qfy (tE:=tE) rfl hm hsp hrd hfc (Js (pv 0) (Js (Qpq (pv 1)) Vu))) (Qhm (Qmb (pv 0) (pv 1))),?_⟩
 have z0:=Qhx i
 have z1:(Str.ofString "it can't be read from word " ++ Str.ofString (toString i)).length<=800:=by
  rw [Str.length_append,show (Str.ofString "it can't be read from word ").length=27 by decide];omega
 have z2:(Str.ofString "it can't be read from word " ++ Str.ofString (toString i)++Str.ofString " on").length<=900:=by
  rw [Str.length_append,show (Str.ofString " on").length=3 by decide];omega
 exact ⟨_,rfl,by decide,_,rfl,i,rfl,h1,Nat.le_of_lt (small (by omega)),Nat.le_of_lt (small (by omega)),a,C,_,rfl,ha,kc,_,rfl,_,rfl,a,C,rfl,ha,kc,hna,q⟩
def Jt:GX:=λds k kx=>∃(ws:List Str) (i:Nat),ds=[.lst (ws.map .str),.int i]/\okW ws/\i<=1000/\(∀w,ws[i]? = some w->nmb w=true->k (.int (val w)))/\((∀w,ws[i]? = some w->nmb w=false)->kx (nt i))
abbrev Yi:Stmt:=top 32
theorem Qfq:FnScope ["words","at"] ["words","at"] (Qb Yi):=⟨rfl,rfl,rfl,by decide +kernel,rfl,by decide +kernel,by decide +kernel⟩
def Jy:Tg:={ own:=λi=>false,io:=[] }
def Qbw:WS:=(wSeq (wIf (wOr (wBl (wBin (dCmp λi j=>decide (j<=i)) (wVar 1) (Ql dLen (Qd (wVar 0) wNil)))) (wNot (wTru (Ql Vc (Qd (wBin dIx (wVar 0) (wVar 1)) (Qd (wC (.int 9)) wNil)))))) (Vo (Str.ofString "NoText") (Str.ofString "at") (Qd (wVar 1) wNil)) Qw)
 (wRet (Ql Qia (Qd (wBin dIx (wVar 0) (wVar 1)) wNil))))
theorem Qid (B:Bn K mg) (C_is_written:Cal P w K mg base "is_written" 1 ["word","most"] (spR K Vc)) (I_NoText:Gw P w K mg base "NoText" "at" 1):∀(cdv:Value) (A:Around) (outer:List PySem.Env) (s:Shared) (H:Hp) (E:XK) (XE:D->St->Hp->Prop),Room 2 (A.deeper (envOfC "number_at" (Qb Yi) s.heap.objs.size f cdv))->(∀x C,atN K x C->X0 (cxOf (CXD P w base) P w K mg base ["words","at"] "number_at" (Qb Yi) f cdv A outer s H E) ⟨Jy.own,Jy.io,XE⟩ x C)->(∀x attr C,atN K x C->V8 (cxOf (CXD P w base) P w K mg base ["words","at"] "number_at" (Qb Yi) f cdv A outer s H E) ⟨Jy.own,Jy.io,XE⟩ x C attr)->Vd (cxOf (CXD P w base) P w K mg base ["words","at"] "number_at" (Qb Yi) f cdv A outer s H E) ⟨Jy.own,Jy.io,XE⟩->Qaj (cxOf (CXD P w base) P w K mg base ["words","at"] "number_at" (Qb Yi) f cdv A outer s H E) ⟨Jy.own,Jy.io,XE⟩->SVs (cxOf (CXD P w base) P w K mg base ["words","at"] "number_at" (Qb Yi) f cdv A outer s H E) ⟨Jy.own,Jy.io,XE⟩ (Qr Yi) Qbw:=λcdv A outer s H E XE hr hX hXI hP hH =>
  (Qf (Yg (Zf (Qdl (Qy Qwj (Qc 1) (Qv Zx B.nb_len Zy (Qa (Qc 0) Qe))) (Qbf (Xi (Zw (Qu C_is_written (hr.mono (by decide)) (Qa (Yq (Yo (Yk hr)) (Qc 0) (Qc 1)) (Qa (Qnz B.c_MOST_FIGURES.choose_spec) Qe)))))))) (Qh (Uc I_NoText (hr.mono (by decide)) (λC h=>hXI _ _ C h) (Qa (Qc 1) Qe))) Qx)
  (Qh (Q4 (Q8 Qc5 B.nb_int Qbg (Qa (Yq (Yo (Yk hr)) (Qc 0) (Qc 1)) Qe)))))
theorem Qf4 (F:Fun K "number_at" "number_at" Yi f fd) (B:Bn K mg) (C1:Cal P w K mg base "is_written" 1 ["word","most"] (spR K Vc)) (I1:Gw P w K mg base "NoText" "at" 1):FnOk P w K mg base (CXD P w base) 3 f fd ["words","at"] (spXD K Jt):=by
 refine Qky (T:=Jy) F Qfq rfl (by decide) (λds kk kx h=>?_) (Qid B C1 I1) (λds kk kx h=>?_)
 ·obtain ⟨ws,i,rfl,_⟩:=h
  rfl
 ·obtain ⟨ws,i,rfl,ho,hi,h1,h2⟩:=h
  simp only [Qbw,wSeq,wIf,wOr,env0,List.map_cons,List.map_nil,List.length_cons,List.length_nil,Nat.zero_add,Nat.reduceAdd,List.cons_append,List.nil_append,Vo,Qd,wNil,Q3,Qw,wRet,Ql,wBin,reduceIte,wNot,Gn,wC,r_bl,look,Qk,Xq,Xn,List.length_map,V9,Qz]
  cases q:ws[i]? with
  | none =>
   have hl:=List.getElem?_eq_none_iff.mp q
   have e1:decide ((ws.length:Int)<=(i:Int))=true:=decide_eq_true (by omega)
   simp only [e1,reduceIte]
   exact ⟨smI (by omega),h2 λw hw=>by rw [q] at hw;cases hw⟩
  | some u =>
   have hl:=(List.getElem?_eq_some_iff.mp q).1
   have e1:decide ((ws.length:Int)<=(i:Int))=false:=decide_eq_false (by omega)
   simp only [e1,Bool.false_eq_true,Zu,List.getElem?_map,q,Option.map_some,Qk,Qas,reduceIte]
   refine ⟨u,rfl,ho u (List.mem_of_getElem? q),?_⟩
   cases hn:nmb u with
   | false =>
    simp only [Zj,Bool.not_false,reduceIte]
    exact ⟨smI (by omega),h2 λw hw=>by rw [q] at hw;cases hw;exact hn⟩
   | true =>
    simp only [Qg8 hn,Qk,Zj,Bool.not_true,Bool.false_eq_true,reduceIte]
    exact ⟨by have:=(Ua.mp hn).len;omega,h1 u q hn⟩
def crs (A:Nat->Int) (k:Nat):List D:=(List.range k).map λk=>D.tup ((List.range 4).map λj=>.int (A (4*k+j)))
theorem Qqr {k:Nat}:crs A (k+1)=crs A k++[D.tup ((List.range 4).map λj=>.int (A (4*k+j)))]:=by
 unfold crs;rw [List.range_succ (n:=k),List.map_append];rfl
theorem Qod {k:Nat}:(crs A k).length=k:=by unfold crs;simp
def arc (ws:List Str) (t:Nat):Int:=val (ws.getD (5*(t / 4)+1+t % 4) (Str.ofString ""))
theorem Qsj {w:Str} (hj:j<4) (h:ws[5*q+1+j]? = some w):arc ws (4*q+j)=val w:=by
 unfold arc
 rw [show (4*q+j) / 4=q by omega,show (4*q+j) % 4=j by omega,List.getD,h];rfl
def Yr:GX:=λds k kx=>∃(ws:List Str) (v:Option Nat),ds=[.lst (ws.map .str)]/\okW ws/\ws.length<=900/\au 0 0 0 ws=v/\(∀i,v=some i->kx (nt i)) /\
 ∀m,5*m<=ws.length->au 0 0 (5*m) (ws.drop (5*m))=v->(∀q,q<m->ws[5*q]? = some wx)->ws[5*m]? ≠ some wx->k (.tup (crs (arc ws) m))
abbrev Qt:Stmt:=top 33
theorem Y6:FnScope ["words","crossings","at"] ["words"] (Qb Qt):=⟨rfl,rfl,rfl,by decide +kernel,rfl,by decide +kernel,by decide +kernel⟩
def Qs:Tg:={ own:=λi=>i == 1 || i == 2,io:=[] }
def Uu:WS:=(wSeq (wSet 1 (wLst wNil))
 (wSeq (wSet 2 (wC (.int 0)))
 (wSeq (Qlf (wTru (Ql V6 (Qd (wVar 0) (Qd (wVar 2) (Qd (wC (.str (Str.ofString "x"))) wNil))))) (wSeq (Qb5 (wMtX 1 "list" Z8 (Ux (Qg7 Qbe (Ux (Qip spl1 (Qsp (Qd (wC (.int 1)) (Qd (wC (.int 5)) wNil))) (V1 Jt (Qd (wVar 2) (Qd (wBin Y9 (wVar 1) (wVar 0)) wNil))) [2,0]) (wAOf wNil))) (wAOf wNil))))
 (wSet 2 (wBin Y9 (wVar 2) (wC (.int 5))))))
 (wRet (Ql Qbe (Qd (wVar 1) wNil))))))
theorem Qbl (B:Bn K mg) (C_stands:Cal P w K mg base "stands" 1 ["words","at","letter"] (spR K V6)) (C_number_at:CalD P w K mg base "number_at" 3 ["words","at"] (spXD K Jt)):∀(cdv:Value) (A:Around) (outer:List PySem.Env) (s:Shared) (H:Hp) (E:XK) (XE:D->St->Hp->Prop),Room 3 (A.deeper (envOfC "read_crossings" (Qb Qt) s.heap.objs.size f cdv))->(∀x C,atN K x C->X0 (cxOf (CXD P w base) P w K mg base ["words","crossings","at"] "read_crossings" (Qb Qt) f cdv A outer s H E) ⟨Qs.own,Qs.io,XE⟩ x C)->(∀x attr C,atN K x C->V8 (cxOf (CXD P w base) P w K mg base ["words","crossings","at"] "read_crossings" (Qb Qt) f cdv A outer s H E) ⟨Qs.own,Qs.io,XE⟩ x C attr)->Vd (cxOf (CXD P w base) P w K mg base ["words","crossings","at"] "read_crossings" (Qb Qt) f cdv A outer s H E) ⟨Qs.own,Qs.io,XE⟩->Qaj (cxOf (CXD P w base) P w K mg base ["words","crossings","at"] "read_crossings" (Qb Qt) f cdv A outer s H E) ⟨Qs.own,Qs.io,XE⟩->SVs (cxOf (CXD P w base) P w K mg base ["words","crossings","at"] "read_crossings" (Qb Qt) f cdv A outer s H E) ⟨Qs.own,Qs.io,XE⟩ (Qr Qt) Uu:=λcdv A outer s H E XE hr hX hXI hP hH =>
  (Qf (Q1 (i:=1) (Y5 Qe) Y6.nd (hio:=List.not_mem_nil))
  (Qf (Q1 (i:=2) Qg Y6.nd (hio:=List.not_mem_nil))
  (Qf (Qiw PassesOwn.leaving (Zw (Qu C_stands (hr.mono (by decide)) (Qa (Qc 0) (Qa (Qc 2) (Qa Qq Qe))))) (Qf (Qel (Qr7 (i:=1) Zc PySem.F.plainAttrs_list PySem.F.slot_list_append PySem.F.type_list_append (Ut (Qk1 Xd B.nb_tuple Vg (Ut (Qqe [2,0] ⟨rfl,rfl,rfl⟩ hH (Qne B.nb_range (Qa Qg (Qa Qg Qe))) (λ_ _ _ _ _ _ _ hP=>(V7 C_number_at (hr.mono (by decide)) hP (Qa (Qc 2) (Qa (Jn Jp (Qc 1) (Qc 0)) Qe)))) (Zt (Qb Qt) ["words","crossings","at"] (by decide +kernel))) (Qg0 Qe))) (Qg0 Qe))))
  (Qh (Q1 (i:=2) (Jn Jp (Qc 2) Qg) Y6.nd (hio:=List.not_mem_nil)))))
  (Qh (Q4 (Q8 Xd B.nb_tuple Vg (Qa (Qc 1) Qe)))))))
theorem Qat (F:Fun K "read_crossings" "read_crossings" Qt f fd) (B:Bn K mg) (C1:Cal P w K mg base "stands" 1 ["words","at","letter"] (spR K V6)) (C2:CalD P w K mg base "number_at" 3 ["words","at"] (spXD K Jt)):FnOk P w K mg base (CXD P w base) 4 f fd ["words"] (spXD K Yr):=by
 refine Qky (T:=Qs) F Y6 rfl (by decide) (λds kk kx h=>?_) (Qbl B C1 C2) (λds kk kx h=>?_)
 ·obtain ⟨ws,v,rfl,_⟩:=h
  rfl
 ·obtain ⟨ws,v,rfl,ho,hl,hv,h1,h2⟩:=h
  simp only [Uu,wSeq,wSet,wLst,wNil,List.length_nil,sz0,wC,env0,List.map_cons,List.map_nil,List.length_cons,Nat.zero_add,Nat.reduceAdd,List.replicate,List.cons_append,List.nil_append,List.set_cons_succ,List.set_cons_zero,true_and]
  refine ⟨λn ρ=>∃q,n=ws.length-5*q/\5*q<=ws.length/\au 0 0 (5*q) (ws.drop (5*q))=v/\(∀p,p<q->ws[5*p]? = some wx)/\ρ=[some (.lst (ws.map .str)),some (.lst (crs (arc ws) q)),some (.int ((5*q:Nat):Int))],⟨_,0,rfl,by omega,by simpa using hv,λp hp=>by omega,rfl⟩,?_⟩
  rintro n ρ ⟨q,rfl,hq,hau,hxs,rfl⟩
  simp only [wSeq,Qb5,wMtX,Ux,Qg7,Qip,wAOf,wNil,wSet,wBin,wC,Q3,Qvm,Qd,Qs8,Int.reducePow,Int.reduceNeg,Int.reduceLE,Int.reduceLT,and_true,Int.reduceSub,Int.reduceToNat,true_and,wRet,Ql,Gn,look,Xe,BEq.rfl,Qk,Qft]
  refine ⟨ws,5*q,_,rfl,?_⟩
  by_cases hx:ws[5*q]? = some wx
  ·have e1:(ws[5*q]? == some (Str.ofString "x"))=true:=by rw [hx];exact beq_self_eq_true _
   simp only [e1,Zj,reduceIte]
   refine ⟨λj ys=>j<=4/\ys=(List.range j).map (λj=>D.int (arc ws (4*q+j)))/\au 0 (4-j) (5*q+1+j) (ws.drop (5*q+1+j))=v/\5*q+1+j<=ws.length,⟨by omega,rfl,by rw [← hau,au_x hx],(List.getElem?_eq_some_iff.mp hx).1⟩,?_,?_⟩
   ·rintro j d ys hd ⟨hj,rfl,hj2,hj3⟩
    obtain ⟨hjl,rfl⟩:=Qbr hd
    have hj4:j<4:=by simpa using hjl
    refine ⟨by rw [List.length_map,List.length_range];exact small (by omega),?_⟩
    show spl1 _ _
    unfold spl1
    simp only [V1,Qd,List.map_cons,List.map_nil,look,List.cons_append,List.nil_append,wBin,wNil,Q3,Qk,U1]
    have e2:((5*q:Nat):Int)+(1+(j:Int))=((5*q+1+j:Nat):Int):=by omega
    rw [e2]
    refine ⟨ws,_,rfl,ho,by omega,λw hw hn=>⟨by omega,?_,?_,?_⟩,λhb=>h1 _ ?_⟩
    ·rw [List.range_succ,List.map_append,← Qsj hj4 hw];rfl
    ·rw [← hj2,show 4-j=(4-(j+1))+1 by omega,Qow hw hn];rfl
    ·have:=(List.getElem?_eq_some_iff.mp hw).1;omega
    ·rw [← hj2,show 4-j=(3-j)+1 by omega,Qox hb]
   ·rintro ys ⟨_,rfl,hj2,hj3⟩
    have hrl:(rngD 1 (5-1:Int).toNat).length=4:=by rw [Vs];rfl
    simp only [Int.reduceSub,Int.reduceToNat,look,List.set_cons_succ,List.set_cons_zero,Qk,U1,Qar,Qft] at hrl hj2 hj3 ⊢
    rw [hrl] at hj2 hj3 ⊢
    simp only [List.length_map,List.length_range,Qod]
    refine ⟨by decide,Q6 λ_ _=>rfl,small (by omega),_,?_,q+1,rfl,by omega,by rw [show 5*(q+1)=5*q+1+4 by omega];exact hj2,λp hp=>?_,?_⟩
    ·omega
    ·rcases Nat.lt_or_ge p q with h | h
     ·exact hxs p h
     ·rw [show p=q by omega];exact hx
    ·rw [Qqr]
     simp
     omega
  ·have e1:(ws[5*q]? == some (Str.ofString "x"))=false:=beq_eq_false_iff_ne.mpr hx
   simp only [e1,Zj,Bool.false_eq_true,reduceIte]
   exact ⟨Gs,h2 q hq hau hxs hx⟩
def vals (ws:List Str) (i c:Nat):List D:=(List.range c).map λj=>D.int (val (ws.getD (i+j) (Str.ofString "")))
theorem Qfi {w:Str} (h:ws[i+c]? = some w):vals ws i (c+1)=vals ws i c++[D.int (val w)]:=by
 unfold vals
 rw [List.range_succ,List.map_append,List.map_cons,List.map_nil,List.getD,h];rfl
theorem Qej:(vals ws i c).length=c:=by unfold vals;simp
def Vx:GX:=λds k kx=>∃(ws:List Str) (i:Nat) (v:Option Nat),ds=[.lst (ws.map .str),.int i]/\okW ws/\ws.length<=900/\i<=ws.length/\au 0 0 i (ws.drop i)=v/\(∀i,v=some i->kx (nt i)) /\
 (ws[i]? ≠ some we->k (.tup []))/\∀c,0<c->i+1+c<=ws.length->ws[i]? = some we->au 1 0 (i+1+c) (ws.drop (i+1+c))=v->(∀j,j<c->∃w,ws[i+1+j]? = some w/\nmb w=true)->(∀w,ws[i+1+c]? = some w->w=wo)->k (.tup (vals ws (i+1) c))
abbrev Yh:Stmt:=top 34
theorem V3:FnScope ["words","at","ends","after"] ["words","at"] (Qb Yh):=⟨rfl,rfl,rfl,by decide +kernel,rfl,by decide +kernel,by decide +kernel⟩
def Jx:Tg:={ own:=λi=>i == 2 || i == 3,io:=[] }
def Qbv:WS:=(wSeq (wIf (wNot (wTru (Ql V6 (Qd (wVar 0) (Qd (wVar 1) (Qd (wC (.str (Str.ofString "e"))) wNil)))))) (wRet (wTup wNil)) Qw)
 (wSeq (Qei 2 (Qsr (Ux (V1 Jt (Qd (wVar 0) (Qd (wBin Y9 (wVar 1) (wC (.int 1))) wNil))) (wAOf wNil))))
 (wSeq (wSet 3 (wBin Y9 (wVar 1) (wC (.int 2))))
 (wSeq (Qlf (wAnd (wBl (wBin (dCmp λi j=>decide (i<j)) (wVar 3) (Ql dLen (Qd (wVar 0) wNil)))) (wBl (wBin dNe (wBin dIx (wVar 0) (wVar 3)) (wC (.str (Str.ofString "o")))))) (wSeq (Qb5 (wMtX 2 "list" Z8 (Ux (V1 Jt (Qd (wVar 0) (Qd (wVar 3) wNil))) (wAOf wNil))))
 (wSet 3 (wBin Y9 (wVar 3) (wC (.int 1))))))
 (wRet (Ql Qbe (Qd (wVar 2) wNil)))))))
theorem Qic (B:Bn K mg) (C_stands:Cal P w K mg base "stands" 1 ["words","at","letter"] (spR K V6)) (C_number_at:CalD P w K mg base "number_at" 3 ["words","at"] (spXD K Jt)):∀(cdv:Value) (A:Around) (outer:List PySem.Env) (s:Shared) (H:Hp) (E:XK) (XE:D->St->Hp->Prop),Room 3 (A.deeper (envOfC "read_ends" (Qb Yh) s.heap.objs.size f cdv))->(∀x C,atN K x C->X0 (cxOf (CXD P w base) P w K mg base ["words","at","ends","after"] "read_ends" (Qb Yh) f cdv A outer s H E) ⟨Jx.own,Jx.io,XE⟩ x C)->(∀x attr C,atN K x C->V8 (cxOf (CXD P w base) P w K mg base ["words","at","ends","after"] "read_ends" (Qb Yh) f cdv A outer s H E) ⟨Jx.own,Jx.io,XE⟩ x C attr)->Vd (cxOf (CXD P w base) P w K mg base ["words","at","ends","after"] "read_ends" (Qb Yh) f cdv A outer s H E) ⟨Jx.own,Jx.io,XE⟩->Qaj (cxOf (CXD P w base) P w K mg base ["words","at","ends","after"] "read_ends" (Qb Yh) f cdv A outer s H E) ⟨Jx.own,Jx.io,XE⟩->SVs (cxOf (CXD P w base) P w K mg base ["words","at","ends","after"] "read_ends" (Qb Yh) f cdv A outer s H E) ⟨Jx.own,Jx.io,XE⟩ (Qr Yh) Qbv:=λcdv A outer s H E XE hr hX hXI hP hH =>
  (Qf (Yg (Xi (Zw (Qu C_stands (hr.mono (by decide)) (Qa (Qc 0) (Qa (Qc 1) (Qa Qq Qe)))))) (Qh (Q4 (Yy Qe))) Qx)
  (Qf (Qce (i:=2) (Que (Ut (V7 C_number_at (hr.mono (by decide)) hP (Qa (Qc 0) (Qa (Jn Jp (Qc 1) Qg) Qe))) (Qg0 Qe))) V3.nd)
  (Qf (Q1 (i:=3) (Jn Jp (Qc 1) Qg) V3.nd (hio:=List.not_mem_nil))
  (Qf (Qiw PassesOwn.leaving (Zf (Qc6 (Qy Qhy (Qc 3) (Qv Zx B.nb_len Zy (Qa (Qc 0) Qe))) (Xx (Qy (Qdf hr.units) (Yq (Yo (Yk hr)) (Qc 0) (Qc 3)) Qq)))) (Qf (Qel (Qr7 (i:=2) Zc PySem.F.plainAttrs_list PySem.F.slot_list_append PySem.F.type_list_append (Ut (V7 C_number_at (hr.mono (by decide)) hP (Qa (Qc 0) (Qa (Qc 3) Qe))) (Qg0 Qe))))
  (Qh (Q1 (i:=3) (Jn Jp (Qc 3) Qg) V3.nd (hio:=List.not_mem_nil)))))
  (Qh (Q4 (Q8 Xd B.nb_tuple Vg (Qa (Qc 2) Qe))))))))
theorem Qf3 (F:Fun K "read_ends" "read_ends" Yh f fd) (B:Bn K mg) (C1:Cal P w K mg base "stands" 1 ["words","at","letter"] (spR K V6)) (C2:CalD P w K mg base "number_at" 3 ["words","at"] (spXD K Jt)):FnOk P w K mg base (CXD P w base) 4 f fd ["words","at"] (spXD K Vx):=by
 refine Qky (T:=Jx) F V3 rfl (by decide) (λds kk kx h=>?_) (Qic B C1 C2) (λds kk kx h=>?_)
 ·obtain ⟨ws,i,v,rfl,_⟩:=h
  rfl
 ·obtain ⟨ws,i,v,rfl,ho,hl,hi,hv,h1,h2,h3⟩:=h
  simp only [Qbv,wSeq,wIf,wNot,env0,List.map_cons,List.map_nil,List.length_cons,List.length_nil,Nat.zero_add,Nat.reduceAdd,List.replicate,List.cons_append,List.nil_append,wRet,wTup,wNil,sz0,true_and,Qw,Qei,Qsr,Ux,V1,Qd,wBin,wC,wAOf,sz1,wSet,Q3,Gn,Ql,look,List.set_cons_succ,List.set_cons_zero,Qk,U1]
  refine ⟨ws,i,_,rfl,?_⟩
  by_cases he:ws[i]? = some we
  ·have e1:(ws[i]? == some (Str.ofString "e"))=true:=by rw [he];exact beq_self_eq_true _
   simp only [e1,Zj,Bool.not_true,Bool.false_eq_true,reduceIte]
   have hv1:=hv
   rw [au_e he] at hv1
   refine ⟨ws,i+1,by simp,ho,by omega,λw hw hn=>?_,λhb=>h1 _ (by rw [← hv1,Qox hb])⟩
   have hlt:=(List.getElem?_eq_some_iff.mp hw).1
   simp only []
   refine ⟨λn ρ=>∃c,n=ws.length-c/\0<c/\i+1+c<=ws.length/\au 1 0 (i+1+c) (ws.drop (i+1+c))=v/\(∀j,j<c->∃w,ws[i+1+j]? = some w/\nmb w=true)/\ρ=[some (.lst (ws.map .str)),some (.int i),some (.lst (vals ws (i+1) c)),some (.int ((i+1+c:Nat):Int))],⟨_,1,rfl,by omega,by omega,?_,λj hj=>?_,?_⟩,?_⟩
   ·rw [← hv1,Qow hw hn]
   ·rw [show j=0 by omega];exact ⟨w,hw,hn⟩
   ·rw [Qfi (c:=0) hw]
    simp [vals]
    omega
   ·rintro n ρ ⟨c,rfl,hc,hcl,hau,hnum,rfl⟩
    simp only [wAnd,wSeq,Qb5,wMtX,Ux,V1,Qd,wNil,wAOf,wSet,wBin,wC,Q3,wRet,Ql,r_bl,Bool.false_eq_true,reduceIte,look,Xe,BEq.rfl,List.set_cons_succ,List.set_cons_zero,Qk,U1,Qar,true_and,Qft,Xq,Xn,List.length_map,V9,Qz]
    cases q:ws[i+1+c]? with
    | none =>
     have hq:=List.getElem?_eq_none_iff.mp q
     have e2:decide (((i+1+c:Nat):Int)<(ws.length:Int))=false:=decide_eq_false (by omega)
     simp only [e2,Bool.false_eq_true,reduceIte]
     exact ⟨Q6 λ_ _=>rfl,h3 c hc hcl he hau hnum λw hw=>by rw [q] at hw;cases hw⟩
    | some u =>
     have hq:=(List.getElem?_eq_some_iff.mp q).1
     have e2:decide (((i+1+c:Nat):Int)<(ws.length:Int))=true:=decide_eq_true (by omega)
     simp only [e2,Zu,List.getElem?_map,q,Option.map_some,Qk,Qhj,Qz,reduceIte]
     by_cases hu:u=wo
     ·have e3:decide (u=Str.ofString "o")=true:=decide_eq_true hu
      simp only [e3,Bool.not_true,Bool.false_eq_true,reduceIte]
      exact ⟨Q6 λ_ _=>rfl,h3 c hc hcl he hau hnum λw hw=>by rw [q] at hw;cases hw;exact hu⟩
     ·have e3:decide (u=Str.ofString "o")=false:=decide_eq_false hu
      simp only [e3,Bool.not_false,reduceIte]
      have ha:=au_1 q hu
      rw [hau] at ha
      refine ⟨ws,_,rfl,ho,by omega,λw hw hn=>?_,λhb=>h1 _ ?_⟩
      ·rw [q] at hw
       cases hw
       simp only [Qej]
       refine ⟨small (by omega),_,?_,c+1,rfl,by omega,by omega,?_,λj hj=>?_,?_⟩
       ·omega
       ·rw [if_pos hn] at ha;exact ha.symm
       ·rcases Nat.lt_or_ge j c with h | h
        ·exact hnum j h
        ·rw [show j=c by omega];exact ⟨_,q,hn⟩
       ·rw [Qfi q]
        simp
        omega
      ·rw [if_neg (by rw [hb u q];simp)] at ha
       exact ha
  ·have e1:(ws[i]? == some (Str.ofString "e"))=false:=beq_eq_false_iff_ne.mpr he
   simp only [e1,Zj,Bool.not_false,reduceIte]
   exact h2 he
def Zk:GX:=λds k kx=>∃(ws:List Str) (i s:Nat) (v:Option Nat),ds=[.lst (ws.map .str),.int i]/\okW ws/\ws.length<=900/\i<=ws.length/\s<=1/\au s 0 i (ws.drop i)=v/\(∀w,ws[i]? = some w->w=wo\/(s=0/\w≠wx/\w≠we))/\(∀i,v=some i->kx (nt i)) /\
 (v=none->(i=ws.length->k (.int 0))/\∀w,ws[i]? = some wo->i+2=ws.length->ws[i+1]? = some w->nmb w=true->val w≠0->k (.int (val w)))
abbrev Jv:Stmt:=top 35
theorem Qab:FnScope ["words","at","rings"] ["words","at"] (Qb Jv):=⟨rfl,rfl,rfl,by decide +kernel,rfl,by decide +kernel,by decide +kernel⟩
def Jo:Tg:={ own:=λi=>i == 2,io:=[] }
def Qa4:WS:=(wSeq (wIf (wBl (wBin dEq (wVar 1) (Ql dLen (Qd (wVar 0) wNil)))) (wRet (wC (.int 0))) Qw)
 (wSeq (wIf (wBl (wBin dNe (wBin dIx (wVar 0) (wVar 1)) (wC (.str (Str.ofString "o"))))) (Vo (Str.ofString "NoText") (Str.ofString "at") (Qd (wVar 1) wNil)) Qw)
 (wSeq (Qei 2 (V1 Jt (Qd (wVar 0) (Qd (wBin Y9 (wVar 1) (wC (.int 1))) wNil))))
 (wSeq (wIf (wBl (wBin dEq (wVar 2) (wC (.int 0)))) (Vo (Str.ofString "NoText") (Str.ofString "at") (Qd (wBin Y9 (wVar 1) (wC (.int 1))) wNil)) Qw)
 (wSeq (wIf (wBl (wBin (dCmp λi j=>decide (i<j)) (wBin Y9 (wVar 1) (wC (.int 2))) (Ql dLen (Qd (wVar 0) wNil)))) (Vo (Str.ofString "NoText") (Str.ofString "at") (Qd (wBin Y9 (wVar 1) (wC (.int 2))) wNil)) Qw)
 (wRet (Jm (wVar 2))))))))
theorem Qgx (B:Bn K mg) (C_number_at:CalD P w K mg base "number_at" 3 ["words","at"] (spXD K Jt)) (I_NoText:Gw P w K mg base "NoText" "at" 1):∀(cdv:Value) (A:Around) (outer:List PySem.Env) (s:Shared) (H:Hp) (E:XK) (XE:D->St->Hp->Prop),Room 3 (A.deeper (envOfC "read_rings" (Qb Jv) s.heap.objs.size f cdv))->(∀x C,atN K x C->X0 (cxOf (CXD P w base) P w K mg base ["words","at","rings"] "read_rings" (Qb Jv) f cdv A outer s H E) ⟨Jo.own,Jo.io,XE⟩ x C)->(∀x attr C,atN K x C->V8 (cxOf (CXD P w base) P w K mg base ["words","at","rings"] "read_rings" (Qb Jv) f cdv A outer s H E) ⟨Jo.own,Jo.io,XE⟩ x C attr)->Vd (cxOf (CXD P w base) P w K mg base ["words","at","rings"] "read_rings" (Qb Jv) f cdv A outer s H E) ⟨Jo.own,Jo.io,XE⟩->Qaj (cxOf (CXD P w base) P w K mg base ["words","at","rings"] "read_rings" (Qb Jv) f cdv A outer s H E) ⟨Jo.own,Jo.io,XE⟩->SVs (cxOf (CXD P w base) P w K mg base ["words","at","rings"] "read_rings" (Qb Jv) f cdv A outer s H E) ⟨Jo.own,Jo.io,XE⟩ (Qr Jv) Qa4:=λcdv A outer s H E XE hr hX hXI hP hH =>
  (Qf (Yg (Qy (Zv hr.units) (Qc 1) (Qv Zx B.nb_len Zy (Qa (Qc 0) Qe))) (Qh (Q4 Qg)) Qx)
  (Qf (Yg (Qy (Qdf hr.units) (Yq (Yo (Yk hr)) (Qc 0) (Qc 1)) Qq) (Qh (Uc I_NoText (hr.mono (by decide)) (λC h=>hXI _ _ C h) (Qa (Qc 1) Qe))) Qx)
  (Qf (Qce (i:=2) (V7 C_number_at (hr.mono (by decide)) hP (Qa (Qc 0) (Qa (Jn Jp (Qc 1) Qg) Qe))) Qab.nd)
  (Qf (Yg (Qy (Zv hr.units) (Qc 2) Qg) (Qh (Uc I_NoText (hr.mono (by decide)) (λC h=>hXI _ _ C h) (Qa (Jn Jp (Qc 1) Qg) Qe))) Qx)
  (Qf (Yg (Qy Qhy (Jn Jp (Qc 1) Qg) (Qv Zx B.nb_len Zy (Qa (Qc 0) Qe))) (Qh (Uc I_NoText (hr.mono (by decide)) (λC h=>hXI _ _ C h) (Qa (Jn Jp (Qc 1) Qg) Qe))) Qx)
  (Qh (Q4 (Ju (Qc 2)))))))))
theorem Qey (F:Fun K "read_rings" "read_rings" Jv f fd) (B:Bn K mg) (C2:CalD P w K mg base "number_at" 3 ["words","at"] (spXD K Jt)) (I1:Gw P w K mg base "NoText" "at" 1):FnOk P w K mg base (CXD P w base) 4 f fd ["words","at"] (spXD K Zk):=by
 refine Qky (T:=Jo) F Qab rfl (by decide) (λds kk kx h=>?_) (Qgx B C2 I1) (λds kk kx h=>?_)
 ·obtain ⟨ws,i,s,v,rfl,_⟩:=h
  rfl
 ·obtain ⟨ws,i,s,v,rfl,ho,hl,hi,hs,hv,hw,h1,h2⟩:=h
  simp only [Qa4,wSeq,wIf,env0,List.map_cons,List.map_nil,List.length_cons,List.length_nil,Nat.zero_add,Nat.reduceAdd,List.replicate,List.cons_append,List.nil_append,wRet,wC,Qw,Vo,Qd,wNil,Q3,Qei,V1,wBin,Jm,r_bl,Ql,look,Qk,List.set_cons_succ,List.set_cons_zero,U1,Xn,List.length_map,V9,Qz,Xq,Qbi]
  by_cases hend:i=ws.length
  ·have e1:decide ((i:Int)=(ws.length:Int))=true:=decide_eq_true (by omega)
   simp only [e1,reduceIte]
   exact (h2 (by rw [← hv,Qsi hend])).1 hend
  have e1:decide ((i:Int)=(ws.length:Int))=false:=decide_eq_false (by omega)
  have hlt:i<ws.length:=by omega
  have q:=List.getElem?_eq_getElem hlt
  generalize ws[i]=u at q
  simp only [e1,Bool.false_eq_true,Zu,List.getElem?_map,q,Option.map_some,Qk,Qhj,Qz,reduceIte]
  by_cases hu:u=wo
  ·subst hu
   have e2:decide (wo=Str.ofString "o")=true:=by decide
   simp only [e2,Bool.not_true,Bool.false_eq_true,reduceIte]
   have hv1:=hv
   rw [au_o hs q] at hv1
   have bad:(∀w,ws[i+1]? = some w->nmb w=false)->v=some (i+1):=λhb=>by
    rw [← hv1]
    split
    ·rfl
    ·exact Qox hb
   refine ⟨ws,i+1,by simp,ho,by omega,λw hw1 hn=>?_,λhb=>h1 _ (bad hb)⟩
   have hl1:=(List.getElem?_eq_some_iff.mp hw1).1
   simp only [D.pure,true_and,Qbi,Qz]
   by_cases hz:val w=0
   ·have e3:decide (val w=0)=true:=decide_eq_true hz
    simp only [e3,reduceIte]
    have hw0:=Qiq hn hz
    rw [if_pos (by rw [hw1,hw0])] at hv1
    exact ⟨smI (i:=i+1) (by omega),h1 _ hv1.symm⟩
   ·have e3:decide (val w=0)=false:=decide_eq_false hz
    simp only [e3,Bool.false_eq_true,reduceIte]
    rw [if_neg (by rw [hw1];intro z;rw [Option.some.inj z,Qxz] at hz;exact hz rfl),Qow hw1 hn] at hv1
    by_cases h3:i+2<ws.length
    ·have e4:decide ((i:Int)+2<(ws.length:Int))=true:=decide_eq_true (by omega)
     simp only [e4,reduceIte]
     refine ⟨smI (i:=i+2) (by omega),h1 (i+2) ?_⟩
     rw [← hv1]
     exact au_2 (List.getElem?_eq_getElem h3)
    ·have e4:decide ((i:Int)+2<(ws.length:Int))=false:=decide_eq_false (by omega)
     simp only [e4,Bool.false_eq_true,reduceIte]
     refine (h2 ?_).2 w q (by omega) hw1 hn hz
     rw [← hv1]
     exact Qsi (by omega)
  ·have e2:decide (u=Str.ofString "o")=false:=decide_eq_false hu
   simp only [e2,Bool.not_false,reduceIte]
   refine ⟨smI (by omega),h1 i ?_⟩
   rcases hw u q with h | ⟨h0,h4,h5⟩
   ·exact absurd h hu
   ·subst h0
    rw [← hv]
    exact Qzc q h4 h5 hu
theorem Qjy (g:Gd A r) (h1:∀p,p<q->(Ws m e A r)[5*p]? = some wx) (h2:(Ws m e A r)[5*q]? ≠ some wx):q=m:=by
 rcases Nat.lt_trichotomy q m with h | h | h
 ·exact absurd (Ws_x h) h2
 ·exact h
 ·exact absurd rfl (Quu (h1 m h))
theorem Qxm (g:Gd A r):crs (arc (Ws m e A r)) m=crs A m:=by
 unfold crs
 refine List.map_congr_left λk hk=>?_
 congr 1
 refine List.map_congr_left λj hj=>?_
 rw [Qsj (List.mem_range.mp hj) (Ws_n (List.mem_range.mp hk) (List.mem_range.mp hj)),Qa6 (g.a _).1 (g.a _).2]
theorem Wo_0:(Wo r)[0]? = none\/(Wo r)[0]? = some wo:=by
 unfold Wo;split
 ·exact .inr rfl
 ·exact .inl rfl
theorem Qy7 (h:e=0):(Ws m e A r)[5*m]? = (Wo r)[0]?:=by
 have:=Ws_o (m:=m) (e:=e) (i:=0) (A:=A) (r:=r)
 unfold eo at this
 rwa [if_pos h,Nat.add_zero] at this
theorem Qy6 (h:0<e):(Ws m e A r)[5*m+1+e]? = (Wo r)[0]?:=by
 have:=Ws_o (m:=m) (e:=e) (i:=0) (A:=A) (r:=r)
 unfold eo at this
 rwa [if_neg (by omega),Nat.add_zero] at this
theorem Qmy (h:(Ws m e A r)[5*m]? ≠ some we):e=0:=by
 rcases Nat.eq_zero_or_pos e with q | q
 ·exact q
 ·exact absurd (Qxv q) h
theorem Quj (g:Gd A r) (h:(Ws m e A r)[5*m]? = some we) (h1:∀j,j<c->∃w,(Ws m e A r)[5*m+1+j]? = some w/\nmb w=true) (h2:∀w,(Ws m e A r)[5*m+1+c]? = some w->w=wo):c=e/\0<e:=by
 have he:0<e:=by
  rcases Nat.eq_zero_or_pos e with q | q
  ·rw [Qy7 q] at h
   rcases Wo_0 (r:=r) with z | z
   ·rw [z] at h;cases h
   ·rw [z] at h;exact absurd h (by decide)
  ·exact q
 refine ⟨?_,he⟩
 rcases Nat.lt_trichotomy c e with q | q | q
 ·have:=h2 _ (Qxu q)
  have hn:=Qru (g.a (4*m+c)).1 (g.a (4*m+c)).2
  rw [this,Qp0] at hn
  cases hn
 ·exact q
 ·obtain ⟨w,hw,hn⟩:=h1 e q
  rw [Qy6 he] at hw
  rcases Wo_0 (r:=r) with z | z
  ·rw [z] at hw;cases hw
  ·rw [z] at hw;cases hw;rw [Qp0] at hn;cases hn
theorem Qss (g:Gd A r):vals (Ws m e A r) (5*m+1) e=(List.range e).map λj=>D.int (A (4*m+j)):=by
 unfold vals
 refine List.map_congr_left λj hj=>?_
 rw [List.getD,Qxu (List.mem_range.mp hj)]
 show D.int (val (nw _))=_
 rw [Qa6 (g.a _).1 (g.a _).2]
theorem Qs6 (g:Gd A r) (h:eo m e=(Ws m e A r).length):r=0:=by
 rw [Qj5] at h
 have:=g.r.1
 split at h <;> omega
theorem Qpd (g:Gd A r) {w:Str} (h:(Ws m e A r)[eo m e+1]? = some w):val w=r:=by
 rw [Ws_o] at h
 unfold Wo at h
 split at h
 ·have:w=nw r:=by simpa using h.symm
  rw [this,Qa6 g.r.1 g.r.2]
 ·cases h
def isT (d:D) (ws:List Str):Prop:=d=.str (jn ws)/\okW ws/\ws.length<=900/\ws≠[Str.ofString ""]
def dueW (ws:List Str) (k:D->Prop) (ko:Int->Prop):Prop:=∃m e A r,ws=Ws m e A r/\m<=100/\e<=100/\Gd A r/\due A (4*m+e) (k (webD m e A r)) ko
def Qgf:GX:=λds k kx=>∃d,ds=[d]/\∃ws,isT d ws/\(∀i,au 0 0 0 ws=some i->kx (nt i))/\(au 0 0 0 ws=none->dueW ws k λx=>kx (od x))
abbrev Xm:Stmt:=top 36
theorem Xp:FnScope ["text","words","crossings","at","ends","web"] ["text"] (Qb Xm):=⟨rfl,rfl,rfl,by decide +kernel,rfl,by decide +kernel,by decide +kernel⟩
def U8:Tg:={ own:=λi=>i == 1 || i == 2 || i == 3 || i == 4 || i == 5,io:=[] }
def Qq6:WS:=(wSeq (wIf (wNot (wTru (Ql dIsi (Qd (wVar 0) (Qd (wC (.ty .str)) wNil))))) (Vo (Str.ofString "NoText") (Str.ofString "at") (Qd (wC (.int 0)) wNil)) Qw)
 (wSeq (wSet 1 (Ql Ug (Qd (wVar 0) wNil)))
 (wSeq (Qei 2 (V1 Yr (Qd (wVar 1) wNil)))
 (wSeq (wSet 3 (wBin dMul (wC (.int 5)) (Ql dLen (Qd (wVar 2) wNil))))
 (wSeq (Qei 4 (V1 Vx (Qd (wVar 1) (Qd (wVar 3) wNil))))
 (wSeq (wIf (wTru (wVar 4)) (wSet 3 (wBin Y9 (wBin Y9 (wVar 3) (wC (.int 1))) (Ql dLen (Qd (wVar 4) wNil)))) Qw)
 (wSeq (Qei 5 (Qso (Ux (wOf (Jm (wVar 2))) (Ux (wOf (Jm (wVar 4))) (Ux (V1 Zk (Qd (wVar 1) (Qd (wVar 3) wNil))) (wAOf wNil))))))
 (wSeq (Qb5 (V1 Zh (Qd (wVar 5) wNil)))
 (wRet (Jm (wVar 5)))))))))))
theorem Qxq (B:Bn K mg) (C_check_web:CalD P w K mg base "check_web" 6 ["thing"] (spXD K Zh)) (C_words_of:Cal P w K mg base "words_of" 1 ["text"] (spR K Ug)) (C_read_crossings:CalD P w K mg base "read_crossings" 4 ["words"] (spXD K Yr)) (C_read_ends:CalD P w K mg base "read_ends" 4 ["words","at"] (spXD K Vx)) (C_read_rings:CalD P w K mg base "read_rings" 4 ["words","at"] (spXD K Zk)) (I_NoText:Gw P w K mg base "NoText" "at" 1):∀(cdv:Value) (A:Around) (outer:List PySem.Env) (s:Shared) (H:Hp) (E:XK) (XE:D->St->Hp->Prop),Room 6 (A.deeper (envOfC "read" (Qb Xm) s.heap.objs.size f cdv))->(∀x C,atN K x C->X0 (cxOf (CXD P w base) P w K mg base ["text","words","crossings","at","ends","web"] "read" (Qb Xm) f cdv A outer s H E) ⟨U8.own,U8.io,XE⟩ x C)->(∀x attr C,atN K x C->V8 (cxOf (CXD P w base) P w K mg base ["text","words","crossings","at","ends","web"] "read" (Qb Xm) f cdv A outer s H E) ⟨U8.own,U8.io,XE⟩ x C attr)->Vd (cxOf (CXD P w base) P w K mg base ["text","words","crossings","at","ends","web"] "read" (Qb Xm) f cdv A outer s H E) ⟨U8.own,U8.io,XE⟩->Qaj (cxOf (CXD P w base) P w K mg base ["text","words","crossings","at","ends","web"] "read" (Qb Xm) f cdv A outer s H E) ⟨U8.own,U8.io,XE⟩->SVs (cxOf (CXD P w base) P w K mg base ["text","words","crossings","at","ends","web"] "read" (Qb Xm) f cdv A outer s H E) ⟨U8.own,U8.io,XE⟩ (Qr Xm) Qq6:=λcdv A outer s H E XE hr hX hXI hP hH =>
  (Qf (Yg (Xi (Zw (Qv Qeg B.nb_isinstance Yf (Qa (Qc 0) (Qa (Qk2 .str B.nb_str Qeh) Qe))))) (Qh (Uc I_NoText (hr.mono (by decide)) (λC h=>hXI _ _ C h) (Qa Qg Qe))) Qx)
  (Qf (Q1 (i:=1) (Qu C_words_of (hr.mono (by decide)) (Qa (Qc 0) Qe)) Xp.nd (hio:=List.not_mem_nil))
  (Qf (Qce (i:=2) (V7 C_read_crossings (hr.mono (by decide)) hP (Qa (Qc 1) Qe)) Xp.nd)
  (Qf (Q1 (i:=3) (Jn Xo Qg (Qv Zx B.nb_len Zy (Qa (Qc 2) Qe))) Xp.nd (hio:=List.not_mem_nil))
  (Qf (Qce (i:=4) (V7 C_read_ends (hr.mono (by decide)) hP (Qa (Qc 1) (Qa (Qc 3) Qe))) Xp.nd)
  (Qf (Yg (Zw (Qc 4)) (Qh (Q1 (i:=3) (Jn Jp (Jn Jp (Qc 3) Qg) (Qv Zx B.nb_len Zy (Qa (Qc 4) Qe))) Xp.nd (hio:=List.not_mem_nil))) Qx)
  (Qf (Qce (i:=5) (Qud (Ut (Qr6 (Ju (Qc 2))) (Ut (Qr6 (Ju (Qc 4))) (Ut (V7 C_read_rings (hr.mono (by decide)) hP (Qa (Qc 1) (Qa (Qc 3) Qe))) (Qg0 Qe))))) Xp.nd)
  (Qf (Qel (V7 C_check_web (hr.mono (by decide)) hP (Qa (Qc 5) Qe)))
  (Qh (Q4 (Ju (Qc 5))))))))))))
theorem Qtx (F:Fun K "read" "read" Xm f fd) (B:Bn K mg) (C1:CalD P w K mg base "check_web" 6 ["thing"] (spXD K Zh)) (C2:Cal P w K mg base "words_of" 1 ["text"] (spR K Ug)) (C3:CalD P w K mg base "read_crossings" 4 ["words"] (spXD K Yr)) (C4:CalD P w K mg base "read_ends" 4 ["words","at"] (spXD K Vx)) (C5:CalD P w K mg base "read_rings" 4 ["words","at"] (spXD K Zk)) (I1:Gw P w K mg base "NoText" "at" 1):FnOk P w K mg base (CXD P w base) 7 f fd ["text"] (spXD K Qgf):=by
 refine Qky (T:=U8) F Xp rfl (by decide) (λds kk kx h=>?_) (Qxq B C1 C2 C3 C4 C5 I1) (λds kk kx h=>?_)
 ·obtain ⟨d,rfl,_⟩:=h
  rfl
 ·obtain ⟨d,rfl,ws,⟨rfl,ho,hl,hne⟩,h1,h2⟩:=h
  simp only [Qq6,wSeq,wIf,wNot,env0,List.map_cons,List.map_nil,List.length_cons,List.length_nil,Nat.zero_add,Nat.reduceAdd,List.replicate,List.cons_append,List.nil_append,Vo,Qd,wC,wNil,Qw,wSet,Ql,Qei,V1,wBin,Qso,Ux,wOf,Jm,wAOf,sz3,Qb5,wRet,Q3,true_and,Gn,Qpf,isiD,Zj,look,List.set_cons_succ,List.set_cons_zero,Qk,D.pure,Qo,Bool.and_true,BEq.rfl,Bool.not_true,Bool.false_eq_true,reduceIte]
  refine ⟨ws,rfl,ho,by omega,hne,?_⟩
  simp only []
  generalize hv:au 0 0 0 ws=v at h1 h2
  refine ⟨ws,v,rfl,ho,hl,hv,h1,λm hm hau hxs hx=>?_⟩
  simp only [D.pure,Qfv,Qod,Int.reduceNeg,Int.reduceLT,Qci,U1]
  have e5:5*(m:Int)=((5*m:Nat):Int):=by omega
  rw [e5]
  have fin:∀(i s:Nat) (es:List D),i<=ws.length->s<=1->au s 0 i (ws.drop i)=v->(∀w,ws[i]? = some w->w=wo\/(s=0/\w≠wx/\w≠we)) ->
    (∀m' e A r,ws=Ws m' e A r->Gd A r->m'=m/\i=eo m e/\es=(List.range e).map λj=>D.int (A (4*m+j)))->Qo es=true ->
    Zk [.lst (ws.map .str),.int (i:Int)] (λd=>Zh [.tup [.tup (crs (arc ws) m),.tup es,d]] (λ_=>(Qo (crs (arc ws) m) && d.pure)=true/\kk (.tup [.tup (crs (arc ws) m),.tup es,d])) kx) kx:=by
   intro i s es hi hs hau2 hw hE hp
   have done':∀r',(v=none->∀m' e A r,ws=Ws m' e A r->Gd A r->i=eo m e->m'=m->r'=r)->v=none->Zh [.tup [.tup (crs (arc ws) m),.tup es,.int r']] (λ_=>(Qo (crs (arc ws) m) && (D.int r').pure)=true/\kk (.tup [.tup (crs (arc ws) m),.tup es,.int r'])) kx:=by
    intro r' hr' hv0
    obtain ⟨m',e,A,r,hW,q1,q2,q3,q4,q5⟩:=h2 hv0
    obtain ⟨rfl,q6,q7⟩:=hE m' e A r hW q3
    have q8:=hr' hv0 m' e A r hW q3 q6 rfl
    have eW:D.tup [.tup (crs (arc ws) m'),.tup es,.int r']=webD m' e A r:=by
     rw [hW,Qxm q3,q7,q8];rfl
    rw [eW]
    exact ⟨m',e,A,r,rfl,q1,q2,q3,λz=>⟨by rw [show Qo (crs (arc ws) m')=true from Gs];rfl,q4 z⟩,q5⟩
   refine ⟨ws,i,s,v,rfl,ho,hl,hi,hs,hau2,hw,h1,λhv0=>⟨λhend=>done' 0 (λ_ m' e A r hW q3 q6 _=>?_) hv0,λw hw0 hle hw1 hn hz=>done' (val w) (λ_ m' e A r hW q3 q6 q9=>?_) hv0⟩⟩
   ·subst hW
    obtain ⟨rfl,_,_⟩:=hE m' e A r rfl q3
    exact (Qs6 q3 (by rw [← q6];exact hend)).symm
   ·subst hW
    subst q9
    rw [q6] at hw1
    exact Qpd q3 hw1
  refine ⟨ws,5*m,v,rfl,ho,hl,hm,hau,h1,λhne'=>?_,λc hc hcl he hau1 hnum hlast=>?_⟩
  ·simp only [D.pure,Qo,Bool.true_and,true_and,Qfv,List.length_nil,U1,Qlz,List.isEmpty_nil,Bool.not_true,Bool.false_eq_true,reduceIte]
   refine ⟨Gs,?_⟩
   refine fin (5*m) 0 [] hm (by omega) hau (λw hw=>?_) (λm' e A r hW q3=>?_) rfl
   ·by_cases q:w=wo
    ·exact .inl q
    ·exact .inr ⟨rfl,λz=>hx (by rw [hw,z]),λz=>hne' (by rw [hw,z])⟩
   ·subst hW
    have:=Qjy q3 hxs hx
    subst this
    have e0:=Qmy hne'
    subst e0
    exact ⟨rfl,rfl,rfl⟩
  ·have hne2:(vals ws (5*m+1) c).isEmpty=false:=by
    cases q:vals ws (5*m+1) c with
    | nil=>have:=Qej (ws:=ws) (i:=5*m+1) (c:=c);rw [q] at this;simp at this;omega
    | cons a l=>rfl
   have hpv:Qo (vals ws (5*m+1) c)=true:=Q6 λ_ _=>rfl
   simp only [D.pure,hpv,Bool.true_and,true_and,Qfv,Qej,U1,Qlz,hne2,Bool.not_false,reduceIte]
   have e6:((5*m:Nat):Int)+1+(c:Int)=((5*m+1+c:Nat):Int):=by omega
   rw [e6]
   refine ⟨Gs,?_⟩
   refine fin (5*m+1+c) 1 _ hcl (by omega) hau1 (λw hw=>.inl (hlast w hw)) (λm' e A r hW q3=>?_) hpv
   subst hW
   have:=Qjy q3 hxs hx
   subst this
   obtain ⟨rfl,q⟩:=Quj q3 he hnum hlast
   exact ⟨rfl,by unfold eo;rw [if_neg (by omega)],Qss q3⟩
theorem Qgl {α:Type} {L:List α} {a:α->D} {we:WE} (f:α->D) (p:α->Bool) (hz:L.length<sizeLine) (ht:∀t∈L,∀k:Bool->PV.Env->Prop,k (p t) (blkE ρ1 (a t) ix)->wt (blkE ρ1 (a t) ix) k)
  (he:∀t∈L,p t=true->∀Q':D->PV.Env->Prop,Q' (f t) (blkE ρ1 (a t) ix)->we (blkE ρ1 (a t) ix) Q') (hQ:Q (.lst ((L.filter p).map f)) ρ1):Qof (L.map a) wt we ρ1 ix Q:=by
 have hlen:∀i,(((L.take i).filter p).map f).length<=L.length:=λi=>by
  rw [List.length_map]
  exact Nat.le_trans (List.length_filter_le _ _) (by rw [List.length_take];omega)
 refine ⟨λi ys=>ys=((L.take i).filter p).map f,by simp,λi d ys hd hy=>⟨by rw [hy];exact Nat.lt_of_le_of_lt (hlen i) hz,?_⟩,λys hy=>⟨by rw [hy];exact Nat.le_of_lt (Nat.lt_of_le_of_lt (hlen _) hz),?_⟩⟩
 ·rw [List.getElem?_map] at hd
  obtain ⟨t,htt,hd⟩:=Option.map_eq_some_iff.mp hd
  subst hd
  have hs:=Qit (p:=p) htt
  have hm:=List.mem_of_getElem? htt
  refine ht t hm _ ?_
  cases hp:p t with
  | true =>
   rw [if_pos rfl]
   refine he t hm hp _ ?_
   show ys++[f t]=((L.take (i+1)).filter p).map f
   rw [hs,hy,hp,if_pos rfl,List.map_append];rfl
  | false =>
   rw [if_neg (by decide)]
   show ys=((L.take (i+1)).filter p).map f
   rw [hs,hy,hp,if_neg (by decide),List.append_nil]
 ·rw [hy,List.length_map,List.take_of_length_le (Nat.le_refl _)];exact hQ
abbrev sNT:D:=.str (Str.ofString "notext")
abbrev sOd:D:=.str (Str.ofString "odd")
theorem t1:Vp nNT=some true:=by decide
theorem t2:Qb8 nNT=some false:=by decide
theorem t5:tbF nNT=some false:=by decide
theorem t7:Yp nNT=some true:=by decide
theorem u1:Vp nOd=some false:=by decide
theorem u2:Qb8 nOd=some true:=by decide
theorem u5:tbF nOd=some false:=by decide
theorem u7:Yp nOd=some true:=by decide
def Vy:GA:=λds k=>∃x fs s,ds=[.obj x fs]/\((x=nNT/\s=sNT)\/(x=nOd/\s=sOd))/\k s
abbrev Y3:Stmt:=top 40
theorem Vf:FnScope ["_law_error","_law_found","_law_name","_law_isof"] ["_law_error"] (Qb Y3):=⟨rfl,rfl,rfl,by decide +kernel,rfl,by decide +kernel,by decide +kernel⟩
def Qa8:Tg:={ own:=λi=>i == 1 || i == 2 || i == 3,io:=[] }
def U7:WS:=(wSeq (wSet 1 (wLst wNil))
 (wSeq (wFor (Qo3 (wLst (Qd (wTup (Qd (wC (.str (Str.ofString "noweb"))) (Qd (wIsx 0 tbF) wNil))) (Qd (wTup (Qd (wC (.str (Str.ofString "odd"))) (Qd (wIsx 0 Qb8) wNil))) (Qd (wTup (Qd (wC (.str (Str.ofString "notext"))) (Qd (wIsx 0 Vp) wNil))) (Qd (wTup (Qd (wC (.str (Str.ofString "notflat"))) (Qd (wIsx 0 tbF) wNil))) (Qd (wTup (Qd (wC (.str (Str.ofString "toomany"))) (Qd (wIsx 0 tbF) wNil))) (Qd (wTup (Qd (wC (.str (Str.ofString "toowide"))) (Qd (wIsx 0 tbF) wNil))) wNil)))))))) (U4 2 (Y4 (gN 2) (Y4 (gN 3) Gr))) (wIf (wTru (wVar 3)) (Z9 (wMt 1 "list" Z8 (Qd (Jm (wVar 2)) wNil))) Qw))
 (wSeq (wIf (wOr (wBl (wBin dNe (Ql dLen (Qd (wVar 1) wNil)) (wC (.int 1)))) (wNot (wTru (wIsx 0 Yp)))) (wRet (wC (.str (Str.ofString "none")))) Qw)
 (wSeq (wIf (wOr (wTru (wIsx 0 tbF)) (wTru (wIsx 0 tbF))) (wRet (wC (.str (Str.ofString "none")))) Qw)
 (wRet (Jm (wBin dIx (wVar 1) (wC (.int 0)))))))))
theorem Qgz (B:Bn K mg):∀(cdv:Value) (A:Around) (outer:List PySem.Env) (s:Shared) (H:Hp),Room 0 ((Qe9 A).deeper (envOfC "_law_class" (Qb Y3) s.heap.objs.size f cdv))->Qff (cxH P w K mg base ["_law_error","_law_found","_law_name","_law_isof"] "_law_class" (Qb Y3) f cdv A outer s H)->SVs (cxH P w K mg base ["_law_error","_law_found","_law_name","_law_isof"] "_law_class" (Qb Y3) f cdv A outer s H) Qa8 (Qr Y3) U7:=λcdv A outer s H hr hH =>
  (Qf (Q1 (i:=1) (Y5 Qe) Vf.nd)
  (Qf (Qsy hH PassesOwn.never ((Y5 (Qa (Yy (Qa Qq (Qa (Qc0 (i:=0) (tab:=tbF) B.nb_isinstance (by exact Zp rfl B.i_NoWeb.choose_spec.1 (v:=.ref B.i_NoWeb.choose) rfl) rfl B.i_NoWeb.choose_spec.2) Qe))) (Qa (Yy (Qa Qq (Qa (Qc0 (i:=0) (tab:=Qb8) B.nb_isinstance (by exact Zp rfl B.i_Odd.choose_spec.1 (v:=.ref B.i_Odd.choose) rfl) rfl B.i_Odd.choose_spec.2) Qe))) (Qa (Yy (Qa Qq (Qa (Qc0 (i:=0) (tab:=Vp) B.nb_isinstance (by exact Zp rfl B.i_NoText.choose_spec.1 (v:=.ref B.i_NoText.choose) rfl) rfl B.i_NoText.choose_spec.2) Qe))) (Qa (Yy (Qa Qq (Qa (Qc0 (i:=0) (tab:=tbF) B.nb_isinstance (by exact Zp rfl B.i_NotFlat.choose_spec.1 (v:=.ref B.i_NotFlat.choose) rfl) rfl B.i_NotFlat.choose_spec.2) Qe))) (Qa (Yy (Qa Qq (Qa (Qc0 (i:=0) (tab:=tbF) B.nb_isinstance (by exact Zp rfl B.i_TooMany.choose_spec.1 (v:=.ref B.i_TooMany.choose) rfl) rfl B.i_TooMany.choose_spec.2) Qe))) (Qa (Yy (Qa Qq (Qa (Qc0 (i:=0) (tab:=tbF) B.nb_isinstance (by exact Zp rfl B.i_TooWide.choose_spec.1 (v:=.ref B.i_TooWide.choose) rfl) rfl B.i_TooWide.choose_spec.2) Qe))) Qe)))))))) (Qt9 hH (Ze (Yv (i:=2) Vf.nd) (Ze (Yv (i:=3) Vf.nd) Qaz))) (Qh (Yg (Zw (Qc 3)) (Qh (Vq (Qcz (i:=1) Zc PySem.F.plainAttrs_list PySem.F.slot_list_append PySem.F.type_list_append (Qa (Ju (Qc 2)) Qe)))) Qx)))
  (Qf (Yg (Zf (Qdl (Qy (Qdf hr.units) (Qv Zx B.nb_len Zy (Qa (Qc 1) Qe)) Qg) (Qbf (Xi (Zw (Qc0 (i:=0) (tab:=Yp) B.nb_isinstance (by exact Qmn rfl B.i_ValueError.1 PyProof.Rows.Boot.«ValueError» (v:=.ty "ValueError") rfl) rfl B.i_ValueError.2)))))) (Qh (Q4 Qq)) Qx)
  (Qf (Yg (Zf (Qdl (Zw (Qny (i:=0) (tab:=tbF) (vs:=[.ref B.i_NoStep.choose,.ref B.i_NoTurning.choose,.ref B.i_BadPace.choose]) B.nb_isinstance (Js (Zp rfl B.i_NoStep.choose_spec.1 (v:=.ref B.i_NoStep.choose) rfl) (Js (Zp rfl B.i_NoTurning.choose_spec.1 (v:=.ref B.i_NoTurning.choose) rfl) (Js (Zp rfl B.i_BadPace.choose_spec.1 (v:=.ref B.i_BadPace.choose) rfl) Vu))) (λ_ _ _ q=>q) rfl (show 3<=sizeLine by decide) (λx k R h1 h2=>by obtain rfl:=Qln h1;exact ⟨(B.i_NoStep.choose_spec.2 x _ R h1 h2).1,(Xa (B.i_NoStep.choose_spec.2 x _ R h1 h2).2 (Xa (B.i_NoTurning.choose_spec.2 x _ R h1 h2).2 (Xa (B.i_BadPace.choose_spec.2 x _ R h1 h2).2 Qjj)))⟩))) (Qbf (Zw (Qny (i:=0) (tab:=tbF) (vs:=[.ref B.i_NoMatch.choose,.ref B.i_NoName.choose,.ref B.i_NoRow.choose]) B.nb_isinstance (Js (Zp rfl B.i_NoMatch.choose_spec.1 (v:=.ref B.i_NoMatch.choose) rfl) (Js (Zp rfl B.i_NoName.choose_spec.1 (v:=.ref B.i_NoName.choose) rfl) (Js (Zp rfl B.i_NoRow.choose_spec.1 (v:=.ref B.i_NoRow.choose) rfl) Vu))) (λ_ _ _ q=>q) rfl (show 3<=sizeLine by decide) (λx k R h1 h2=>by obtain rfl:=Qln h1;exact ⟨(B.i_NoMatch.choose_spec.2 x _ R h1 h2).1,(Xa (B.i_NoMatch.choose_spec.2 x _ R h1 h2).2 (Xa (B.i_NoName.choose_spec.2 x _ R h1 h2).2 (Xa (B.i_NoRow.choose_spec.2 x _ R h1 h2).2 Qjj)))⟩)))))) (Qh (Q4 Qq)) Qx)
  (Qh (Q4 (Ju (Yq (Yo (by have h:=Yk hr;exact h)) (Qc 1) Qg))))))))
theorem Qe1 (F:Fun K "_law_class" "_law_class" Y3 f fd) (B:Bn K mg):FnOkH P w K mg base 1 f fd ["_law_error"] (spR K Vy):=by
 refine Qw9 (T:=Qa8) F Vf rfl (by decide) (λds kk h=>?_) (Qgz B) (λds kk h=>?_)
 ·obtain ⟨x,fs,s,rfl,_⟩:=h;rfl
 ·obtain ⟨x,fs,s,rfl,⟨rfl,rfl⟩ | ⟨rfl,rfl⟩,k⟩:=h
  ·simp only [U7,wSeq,wSet,wLst,wNil,List.length_nil,sz0,env0,List.map_cons,List.map_nil,List.length_cons,Nat.zero_add,Nat.reduceAdd,List.replicate,List.cons_append,List.nil_append,List.set_cons_succ,List.set_cons_zero,Qaq,Qo3,Qd,wTup,wC,wIsx,look,sz2,Qo,D.pure,Bool.and_self,true_and,Qk,t5,t1,t2]
   refine ⟨by decide,λt ρ=>∃o2 o3:Option D,ρ=[some (.obj nNT fs),some (.lst (if t<=2 then [] else [sNT])),o2,o3],⟨none,none,rfl⟩,?_,?_⟩
   ·rintro i d ρ hd ⟨o2,o3,rfl⟩
    rcases i with _ | _ | _ | _ | _ | _ | i
    all_goals first
     | cases hd
     | skip
    all_goals (simp only [U4,List.length_cons,List.length_nil,Nat.zero_add,Nat.reduceAdd,Y4,gN,Gr,wIf,reduceIte,Nat.reduceLeDiff,Nat.le_refl,List.set_cons_succ,List.set_cons_zero,Z9,wMt,Qd,Jm,wNil,Q3,Qw,Gn,look,Xe,BEq.rfl,Qk,Qar,List.nil_append,D.pure,true_and,Zj,Bool.false_eq_true];try first | exact ⟨_,_,rfl⟩ | exact ⟨by decide,_,_,rfl⟩)
   ·rintro ρ ⟨o2,o3,rfl⟩
    simp only [wSeq,wIf,wOr,List.length_cons,List.length_nil,Nat.zero_add,Nat.reduceAdd,wRet,wC,Qw,Jm,wBin,Q3,reduceIte,Gn,wIsx,Zj,wNot,r_bl,Ql,Qd,wNil,look,Qk,Xq,Xz,t5,Bool.false_eq_true,t7,Bool.not_true,Xn,Ql1,Qz]
    rw [if_neg (by decide)]
    exact ⟨rfl,k⟩
  ·simp only [U7,wSeq,wSet,wLst,wNil,List.length_nil,sz0,env0,List.map_cons,List.map_nil,List.length_cons,Nat.zero_add,Nat.reduceAdd,List.replicate,List.cons_append,List.nil_append,List.set_cons_succ,List.set_cons_zero,Qaq,Qo3,Qd,wTup,wC,wIsx,look,sz2,Qo,D.pure,Bool.and_self,true_and,Qk,u5,u1,u2]
   refine ⟨by decide,λt ρ=>∃o2 o3:Option D,ρ=[some (.obj nOd fs),some (.lst (if t<=1 then [] else [sOd])),o2,o3],⟨none,none,rfl⟩,?_,?_⟩
   ·rintro i d ρ hd ⟨o2,o3,rfl⟩
    rcases i with _ | _ | _ | _ | _ | _ | i
    all_goals first
     | cases hd
     | skip
    all_goals (simp only [U4,List.length_cons,List.length_nil,Nat.zero_add,Nat.reduceAdd,Y4,gN,Gr,wIf,reduceIte,Nat.reduceLeDiff,Nat.le_refl,List.set_cons_succ,List.set_cons_zero,Z9,wMt,Qd,Jm,wNil,Q3,Qw,Gn,look,Xe,BEq.rfl,Qk,Qar,List.nil_append,D.pure,true_and,Zj,Bool.false_eq_true];try first | exact ⟨_,_,rfl⟩ | exact ⟨by decide,_,_,rfl⟩)
   ·rintro ρ ⟨o2,o3,rfl⟩
    simp only [wSeq,wIf,wOr,List.length_cons,List.length_nil,Nat.zero_add,Nat.reduceAdd,wRet,wC,Qw,Jm,wBin,Q3,reduceIte,Gn,wIsx,Zj,wNot,r_bl,Ql,Qd,wNil,look,Qk,Xq,Xz,u5,Bool.false_eq_true,u7,Bool.not_true,Xn,Ql1,Qz]
    rw [if_neg (by decide)]
    exact ⟨rfl,k⟩
abbrev sWb:D:=.str (Str.ofString "web")
def Vn:GA:=λds k=>∃d,ds=[d]/\∃ws,isT d ws/\(∀i,au 0 0 0 ws=some i->k (.tup [sNT,.int (i:Nat)]))/\(au 0 0 0 ws=none->dueW ws (λd=>k (.tup [sWb,d])) λx=>k (.tup [sOd,.int x]))
abbrev Z4:Stmt:=top 47
theorem Zi:FnScope ["_law_text","_law_found","e"] ["_law_text"] (Qb Z4):=⟨rfl,rfl,rfl,by decide +kernel,rfl,by decide +kernel,by decide +kernel⟩
def Qcb:Tg:={ own:=λi=>i == 1 || i == 2,io:=[] }
def Qbz:WS:=(wSeq (wSet 1 (wC .non))
 (wSeq (Qlg 1 (Str.ofString "web") Qgf (Qd (wVar 0) wNil) isR 2 (wSeq (wSet 1 (wTup (Qd (Ql Vy (Qd (wVar 2) wNil)) (Qd (wC .non) wNil)))) (wSeq (wIf (wBl (wBin dEq (wBin dIx (wVar 1) (wC (.int 0))) (wC (.str (Str.ofString "notext"))))) (wSet 1 (wTup (Qd (wC (.str (Str.ofString "notext"))) (Qd (Qio 2 (Str.ofString "at") Qqd) wNil)))) Qw)
 (wIf (wBl (wBin dEq (wBin dIx (wVar 1) (wC (.int 0))) (wC (.str (Str.ofString "odd"))))) (wSet 1 (wTup (Qd (wC (.str (Str.ofString "odd"))) (Qd (Qio 2 (Str.ofString "arc") Qjp) wNil)))) Qw))))
 (wRet (Jm (wVar 1)))))
theorem Qig (B:Bn K mg) (C_read:CalD P w K mg base "read" 7 ["text"] (spXD K Qgf)) (C__law_class:CalH P w K mg base "_law_class" 1 ["_law_error"] (spR K Vy)):∀(cdv:Value) (A:Around) (outer:List PySem.Env) (s:Shared) (H:Hp) (E:XK),Room 7 (A.deeper (envOfC "_law_told" (Qb Z4) s.heap.objs.size f cdv))->SVs (cxOf CX0 P w K mg base ["_law_text","_law_found","e"] "_law_told" (Qb Z4) f cdv A outer s H E).nox Qcb (Qr Z4) Qbz:=λcdv A outer s H E hr =>
  (Qf (Q1 (i:=1) Qr8 Zi.nd)
  (Qf (Qo9 (i:=1) (j:=2) (cat:=isR) C_read (hr.mono (by decide)) ⟨rfl,rfl,rfl⟩ (Qa (Qc 0) Qe) B.h_TangleError.choose_spec.1 B.h_TangleError.choose_spec.2 (λea=>(Qlr (Qsx (i:=1) (Qqf (Qqg C__law_class (Qx8 hr (by decide) ea) (Qa (Qc 2) Qe)) Qr8) Zi.nd) (Qf (Yg (Qy (Zv hr.units) (Yq (Yo (have z:=huH hr;z)) (Qc 1) Qg) Qq) (Qh (Q1 (i:=1) (Yy (Qa Qq (Qa (Qjq (i:=2) (has:=Qqd) B.a_at) Qe))) Zi.nd)) Qx)
  (Qh (Yg (Qy (Zv hr.units) (Yq (Yo (have z:=huH hr;z)) (Qc 1) Qg) Qq) (Qh (Q1 (i:=1) (Yy (Qa Qq (Qa (Qjq (i:=2) (has:=Qjp) B.a_arc) Qe))) Zi.nd)) Qx))))) Zi.nd)
  (Qh (Q4 (Ju (Qc 1))))))
theorem isR1:isR nNT=true:=by decide
theorem isR2:isR nOd=true:=by decide
theorem hf1:Qqd nNT=true:=by decide
theorem hf2:Qjp nOd=true:=by decide
theorem Qf7 (F:Fun K "_law_told" "_law_told" Z4 f fd) (B:Bn K mg) (C1:CalD P w K mg base "read" 7 ["text"] (spXD K Qgf)) (C2:CalH P w K mg base "_law_class" 1 ["_law_error"] (spR K Vy)):FnOk P w K mg base CX0 8 f fd ["_law_text"] (spR K Vn):=by
 refine Uo (T:=Qcb) F Zi rfl (by decide) (λds kk h=>?_) (Qig B C1 C2) (λds kk h=>?_)
 ·obtain ⟨d,rfl,_⟩:=h
  rfl
 ·obtain ⟨d,rfl,ws,ht,h1,h2⟩:=h
  simp only [Qbz,wSeq,wSet,wC,Qlg,Qd,env0,List.map_cons,List.map_nil,List.length_cons,List.length_nil,Nat.zero_add,Nat.reduceAdd,List.replicate,List.cons_append,List.nil_append,List.set_cons_succ,List.set_cons_zero,wNil,wRet,Jm,Q3,wTup,Ql,sz2,wIf,Qio,EndsP.un,true_and,Qw,r_bl,wBin,look,Qk,D.pure,Qo,Bool.and_true,Bool.true_and,Bool.and_self,Qad,Xz,List.getElem?_cons_zero,Xf,Qz]
  have lk:∀x:Int,List.lookup (Str.ofString "at") [(Str.ofString "at",x)]=some x:=λx=>by simp [List.lookup]
  have lk2:∀x:Int,List.lookup (Str.ofString "arc") [(Str.ofString "arc",x)]=some x:=λx=>by simp [List.lookup]
  have e0:decide (Str.ofString "notext" = Str.ofString "notext")=true:=by decide
  have e1:decide (Str.ofString "odd" = Str.ofString "odd")=true:=by decide
  have e2:decide (Str.ofString "odd" = Str.ofString "notext")=false:=by decide
  have e3:decide (Str.ofString "notext" = Str.ofString "odd")=false:=by decide
  refine ⟨d,rfl,ws,ht,λi hi=>?_,λhn=>?_⟩
  ·refine ⟨isR1,nNT,_,sNT,rfl,.inl ⟨rfl,rfl⟩,?_⟩
   simp only [lk,e3,Bool.false_eq_true,reduceIte,Qk,D.pure,true_and,Xf,Qz]
   exact ⟨hf1,h1 i hi⟩
  ·obtain ⟨m,e,A,r,hW,q1,q2,q3,q4,q5⟩:=h2 hn
   refine ⟨m,e,A,r,hW,q1,q2,q3,λz=>?_,λx hx=>?_⟩
   ·exact ⟨Qo0,q4 z⟩
   ·refine ⟨isR2,nOd,_,sOd,rfl,.inr ⟨rfl,rfl⟩,?_⟩
    simp only [lk2,Qk,D.pure,true_and,Xf,Qz,e2,Bool.false_eq_true,reduceIte]
    exact ⟨hf2,q5 x hx⟩
def Yc:GA:=λds k=>∃w,ds=[.str w]/\okw w/\k (.bl (nmb w))
abbrev Jr:Stmt:=top 44
theorem Qao:FnScope ["_law_word_here"] ["_law_word_here"] (Qb Jr):=⟨rfl,rfl,rfl,by decide +kernel,rfl,by decide +kernel,by decide +kernel⟩
def Uz:Tg:={ own:=λi=>false,io:=[] }
def Uw:WS:=(wSeq (wIf (wOr (wBl (wBin (dCmp λi j=>decide (i<j)) (Ql dLen (Qd (wVar 0) wNil)) (wC (.int 1)))) (wOr (wBl (wBin (dCmp λi j=>decide (j<i)) (Ql dLen (Qd (wVar 0) wNil)) (wC (.int 9)))) (wAnd (wBl (wBin dEq (wBin dIx (wVar 0) (wC (.int 0))) (wC (.str (Str.ofString "0"))))) (wBl (wBin (dCmp λi j=>decide (j<i)) (Ql dLen (Qd (wVar 0) wNil)) (wC (.int 1))))))) (wRet (wC (.bl false))) Qw)
 (wRet (wBin dEq (Qb6 (Qfg (wVar 0)) (wBl (wBin (dIn true) (wVar 0) (wC (.str (Str.ofString "0123456789"))))) (Jm (wVar 0)) []) (wLst wNil))))
theorem Qbn (B:Bn K mg):∀(cdv:Value) (A:Around) (outer:List PySem.Env) (s:Shared) (H:Hp) (E:XK),Room 0 (A.deeper (envOfC "_law_is_number" (Qb Jr) s.heap.objs.size f cdv))->SVs (cxOf CX0 P w K mg base ["_law_word_here"] "_law_is_number" (Qb Jr) f cdv A outer s H E).nox Uz (Qr Jr) Uw:=λcdv A outer s H E hr =>
  (Qf (Yg (Zf (Qdl (Qy Qhy (Qv Zx B.nb_len Zy (Qa (Qc 0) Qe)) Qg) (Qdl (Qy Qdg (Qv Zx B.nb_len Zy (Qa (Qc 0) Qe)) Qg) (Qbf (Zf (Qc6 (Qy (Zv hr.units) (Yq (Yo (Yk hr)) (Qc 0) Qg) Qq) (Xx (Qy Qdg (Qv Zx B.nb_len Zy (Qa (Qc 0) Qe)) Qg)))))))) (Qh (Q4 Qn1)) Qx)
  (Qh (Q4 (U2 (Zv hr.units) (Xb (Gu [] (Qr2 (Qc 0)) (λ_ _ _ _ _=>Qjx (Qy (Qrr (Yk hr)) (Qc 0) Qq)) (λ_ _ _ _ _=>(Ju (Qc 0)))) (Zt (Qb Jr) ["_law_word_here"] (by decide +kernel))) (Y5 Qe)))))
theorem Qav (F:Fun K "_law_is_number" "_law_is_number" Jr f fd) (B:Bn K mg):FnOk P w K mg base CX0 1 f fd ["_law_word_here"] (spR K Yc):=by
 refine Uo (T:=Uz) F Qao rfl (by decide) (λds kk h=>?_) (Qbn B) (λds kk h=>?_)
 ·obtain ⟨n,rfl,_⟩:=h
  rfl
 ·obtain ⟨w,rfl,h,k⟩:=h
  have hz:=lenZ h
  have hlen:w.cps.toList.length=w.length:=Array.length_toList
  have neg:kk (.bl false)\/Num w:=by
   cases q:nmb w with
   | false=>rw [q] at k;exact .inl k
   | true=>exact .inr (Ua.mp q)
  simp only [Uw,wSeq,wIf,wOr,env0,List.map_cons,List.map_nil,List.length_cons,List.length_nil,Nat.zero_add,List.cons_append,List.nil_append,wRet,wC,Qw,wBin,wLst,wNil,sz0,true_and,Qae,Qfg,Q3,reduceIte,wAnd,r_bl,Ql,Qd,Bool.false_eq_true,look,Qk,Qi4,Qrw h,Ql8,hz,V9,Qz,Qri,Xz,Xf]
  cases hc:w.cps.toList with
  | nil =>
   have e1:decide ((w.length:Int)<1)=true:=decide_eq_true (by rw [hc] at hlen;simp at hlen;omega)
   simp only [e1,reduceIte]
   rcases neg with q | q
   ·exact q
   ·exact absurd hc q.ne
  | cons c r =>
   have hl1:1<=w.length:=by rw [← hlen,hc];simp
   have e1:decide ((w.length:Int)<1)=false:=decide_eq_false (by omega)
   simp only [e1,Bool.false_eq_true,List.getElem?_cons_zero,Qk,reduceIte]
   by_cases h9:w.length<=9
   ·have e2:decide ((9:Int)<(w.length:Int))=false:=decide_eq_false (by omega)
    simp only [e2,Bool.false_eq_true,reduceIte]
    have rest:¬(c=48/\1<w.length)->Qof (sgn w) (wBl (wBin (dIn true) (wVar 0) (wC (.str (Str.ofString "0123456789"))))) (Jm (wVar 0)) (some (.str w)::List.replicate (1-1) none) [] λx _=>dEq x (.lst []) λd=>kk d:=λhh=>by
     unfold sgn
     refine Qgl (λc=>D.str ⟨#[c]⟩) (λc=>!dg c) (by rw [hlen];exact small (by omega)) (λc hc k hk=>?_) (λc hc hp Q' hQ=>?_) ?_
     ·simp only [blkE,List.map_nil,r_bl,wBin,wC,Q3,look,Qk,Qvr,Qz]
      rw [StrLaws.found_one,Qr4,Bool.true_xor]
      exact hk
     ·simp only [Jm,blkE,List.map_nil,Q3,look,Qk,D.pure,true_and]
      exact hQ
     ·have hf:(w.cps.toList.filter λc=>!dg c)=[]↔∀c∈w.cps.toList,48<=c/\c<=57:=by
       rw [List.filter_eq_nil_iff]
       simp [dg]
      rw [Qvs]
      refine ⟨Uk λc hc=>?_,by decide,λq=>?_,λq=>?_⟩
      ·have hlt:=(h.sg c (List.mem_filter.mp hc).1).1
       have:PyData.strOk ⟨#[c]⟩=true:=by
        unfold PyData.strOk
        rw [← Array.all_toList,List.all_eq_true]
        intro b hb
        have:b=c:=by simpa using hb
        exact decide_eq_true (by omega)
       exact this
      ·have q:((w.cps.toList.filter λc=>!dg c).map λc=>D.str ⟨#[c]⟩)=[]:=by injection q
       have hd:=hf.mp (List.map_eq_nil_iff.mp q)
       have hN:Num w:=by
        refine ⟨by rw [hc];simp,h9,hd,?_⟩
        by_cases hc48:c=48
        ·refine .inl (Str.ext' (Array.toList_inj.mp ?_))
         have hl1':w.length=1:=by
          rcases Nat.lt_or_ge 1 w.length with z | z
          ·exact absurd ⟨hc48,z⟩ hh
          ·omega
         rw [← hlen,hc] at hl1'
         have hr:r=[]:=List.length_eq_zero_iff.mp (by simpa using hl1')
         rw [hc,hr,hc48];decide
        ·refine .inr ?_
         rw [hc]
         intro z
         exact hc48 (by simpa using z)
       rw [Ua.mpr hN] at k
       exact k
      ·rcases neg with z | z
       ·exact z
       ·exact absurd (by rw [hf.mpr z.dig];rfl) q
    rw [Z1,Qrq]
    by_cases hc48:c=48
    ·rw [if_pos (decide_eq_true hc48)]
     by_cases hl2:1<w.length
     ·rw [if_pos (decide_eq_true (by omega))]
      rcases neg with q | q
      ·exact q
      ·exfalso
       rcases q.zero with z | z
       ·rw [z] at hl2;exact absurd hl2 (by decide)
       ·exact z (by rw [hc,hc48];rfl)
     ·rw [if_neg (by simp;omega)]
      exact rest λz=>hl2 z.2
    ·rw [if_neg (by simpa using hc48)]
     exact rest λz=>hc48 z.1
   ·have e2:decide ((9:Int)<(w.length:Int))=true:=decide_eq_true (by omega)
    simp only [e2,reduceIte]
    rcases neg with q | q
    ·exact q
    ·exact absurd q.len h9
def csD (cs:List (List Int)):List D:=cs.map λc=>D.lst (c.map .int)
def ctD (cs:List (List Int)):List D:=cs.map λc=>D.tup (c.map .int)
def webL (q:LS):D:=.tup [.tup (ctD q.cs),.tup (q.es.map .int),.int q.rg]
def Uh:GA:=λds k=>∃ws,ds=[.lst (ws.map .str)]/\okW ws/\ws.length<=900/\(∀i,au 0 0 0 ws=some i->k (.tup [sNT,.int (i:Nat)]))/\(au 0 0 0 ws=none->k (.tup [sWb,webL (ws.foldl stp st0)]))
abbrev Zg:Stmt:=top 45
theorem Q0:FnScope ["_law_words","_law_crossings","_law_ends","_law_rings","_law_stage","_law_wanted","_law_at","_law_word_here"] ["_law_words"] (Qb Zg):=⟨rfl,rfl,rfl,by decide +kernel,rfl,by decide +kernel,by decide +kernel⟩
def Qcd:Tg:={ own:=λi=>i == 1 || i == 2 || i == 3 || i == 4 || i == 5 || i == 6 || i == 7,io:=[] }
def Qb1:WS:=(wSeq (wSet 1 (wLst wNil))
 (wSeq (wSet 2 (wLst wNil))
 (wSeq (wSet 3 (wC (.int 0)))
 (wSeq (wSet 4 (wC (.int 0)))
 (wSeq (wSet 5 (wC (.int 0)))
 (wSeq (wFor (Qb4 0) (U4 2 (Y4 (gN 6) (Y4 (gN 7) Gr))) (wIf (wBl (wBin (dCmp λi j=>decide (j<i)) (wVar 5) (wC (.int 0)))) (wSeq (wIf (wOr (wNot (wTru (Ql Yc (Qd (wVar 7) wNil)))) (wAnd (wBl (wBin dEq (wVar 4) (wC (.int 2)))) (wBl (wBin dEq (wVar 7) (wC (.str (Str.ofString "0"))))))) (wRet (wTup (Qd (wC (.str (Str.ofString "notext"))) (Qd (Jm (wVar 6)) wNil)))) Qw)
 (wSeq (wSet 5 (wBin dSub (wVar 5) (wC (.int 1))))
 (wIf (wBl (wBin dEq (wVar 4) (wC (.int 0)))) (wTkl 1 (Ql Qia (Qd (wVar 7) wNil))) (wIf (wBl (wBin dEq (wVar 4) (wC (.int 1)))) (Z9 (wMt 2 "list" Z8 (Qd (Ql Qia (Qd (wVar 7) wNil)) wNil))) (wSet 3 (Ql Qia (Qd (wVar 7) wNil))))))) (wIf (wAnd (wBl (wBin dEq (wVar 7) (wC (.str (Str.ofString "x"))))) (wBl (wBin dEq (wVar 4) (wC (.int 0))))) (wSeq (Z9 (wMt 1 "list" Z8 (Qd (wLst wNil) wNil)))
 (wSet 5 (wC (.int 4)))) (wIf (wAnd (wBl (wBin dEq (wVar 7) (wC (.str (Str.ofString "e"))))) (wBl (wBin dEq (wVar 4) (wC (.int 0))))) (wSeq (wSet 4 (wC (.int 1)))
 (wSet 5 (wC (.int 1)))) (wIf (wAnd (wBl (wBin dEq (wVar 7) (wC (.str (Str.ofString "o"))))) (wBl (wBin (dCmp λi j=>decide (i<j)) (wVar 4) (wC (.int 2))))) (wSeq (wSet 4 (wC (.int 2)))
 (wSet 5 (wC (.int 1)))) (wIf (wAnd (wBl (wBin dEq (wVar 4) (wC (.int 1)))) (wTru (Ql Yc (Qd (wVar 7) wNil)))) (Z9 (wMt 2 "list" Z8 (Qd (Ql Qia (Qd (wVar 7) wNil)) wNil))) (wRet (wTup (Qd (wC (.str (Str.ofString "notext"))) (Qd (Jm (wVar 6)) wNil))))))))))
 (wSeq (wIf (wBl (wBin (dCmp λi j=>decide (j<i)) (wVar 5) (wC (.int 0)))) (wRet (wTup (Qd (wC (.str (Str.ofString "notext"))) (Qd (Ql dLen (Qd (wVar 0) wNil)) wNil)))) Qw)
 (wRet (wTup (Qd (wC (.str (Str.ofString "web"))) (Qd (wTup (Qd (Ql Qbe (Qd (Qb6 (Qb3 (wVar 1)) wAll (Ql Qbe (Qd (wVar 0) wNil)) []) wNil)) (Qd (Ql Qbe (Qd (wVar 2) wNil)) (Qd (Jm (wVar 3)) wNil)))) wNil)))))))))))
theorem Qii (B:Bn K mg) (C__law_is_number:Cal P w K mg base "_law_is_number" 1 ["_law_word_here"] (spR K Yc)):∀(cdv:Value) (A:Around) (outer:List PySem.Env) (s:Shared) (H:Hp) (E:XK),Room 1 (A.deeper (envOfC "_law_gone" (Qb Zg) s.heap.objs.size f cdv))->SVs (cxOf CX0 P w K mg base ["_law_words","_law_crossings","_law_ends","_law_rings","_law_stage","_law_wanted","_law_at","_law_word_here"] "_law_gone" (Qb Zg) f cdv A outer s H E).nox Qcd (Qr Zg) Qb1:=λcdv A outer s H E hr =>
  (Qf (Q1 (i:=1) (Y5 Qe) Q0.nd)
  (Qf (Q1 (i:=2) (Y5 Qe) Q0.nd)
  (Qf (Q1 (i:=3) Qg Q0.nd)
  (Qf (Q1 (i:=4) Qg Q0.nd)
  (Qf (Q1 (i:=5) Qg Q0.nd)
  (Qf (Xk PassesOwn.never (Qqa (i:=0) B.nb_enumerate) (Qge (Ze (Yv (i:=6) Q0.nd) (Ze (Yv (i:=7) Q0.nd) Qaz))) (Qh (Yg (Qy Qdg (Qc 5) Qg) (Qf (Yg (Zf (Qdl (Xi (Zw (Qu C__law_is_number (hr.mono (by decide)) (Qa (Qc 7) Qe)))) (Qbf (Zf (Qc6 (Qy (Zv hr.units) (Qc 4) Qg) (Xx (Qy (Zv hr.units) (Qc 7) Qq))))))) (Qh (Q4 (Yy (Qa Qq (Qa (Ju (Qc 6)) Qe))))) Qx)
  (Qf (Q1 (i:=5) (Jn Qjc (Qc 5) Qg) Q0.nd)
  (Qh (Yg (Qy (Zv hr.units) (Qc 4) Qg) (Qh (Qu6 (i:=1) (Q8 Qc5 B.nb_int Qbg (Qa (Qc 7) Qe)))) (Qh (Yg (Qy (Zv hr.units) (Qc 4) Qg) (Qh (Vq (Qcz (i:=2) Zc PySem.F.plainAttrs_list PySem.F.slot_list_append PySem.F.type_list_append (Qa (Q8 Qc5 B.nb_int Qbg (Qa (Qc 7) Qe)) Qe)))) (Qh (Q1 (i:=3) (Q8 Qc5 B.nb_int Qbg (Qa (Qc 7) Qe)) Q0.nd)))))))) (Qh (Yg (Zf (Qc6 (Qy (Zv hr.units) (Qc 7) Qq) (Xx (Qy (Zv hr.units) (Qc 4) Qg)))) (Qf (Vq (Qcz (i:=1) Zc PySem.F.plainAttrs_list PySem.F.slot_list_append PySem.F.type_list_append (Qa (Y5 Qe) Qe)))
  (Qh (Q1 (i:=5) Qg Q0.nd))) (Qh (Yg (Zf (Qc6 (Qy (Zv hr.units) (Qc 7) Qq) (Xx (Qy (Zv hr.units) (Qc 4) Qg)))) (Qf (Q1 (i:=4) Qg Q0.nd)
  (Qh (Q1 (i:=5) Qg Q0.nd))) (Qh (Yg (Zf (Qc6 (Qy (Zv hr.units) (Qc 7) Qq) (Xx (Qy Qhy (Qc 4) Qg)))) (Qf (Q1 (i:=4) Qg Q0.nd)
  (Qh (Q1 (i:=5) Qg Q0.nd))) (Qh (Yg (Zf (Qc6 (Qy (Zv hr.units) (Qc 4) Qg) (Xx (Zw (Qu C__law_is_number (hr.mono (by decide)) (Qa (Qc 7) Qe)))))) (Qh (Vq (Qcz (i:=2) Zc PySem.F.plainAttrs_list PySem.F.slot_list_append PySem.F.type_list_append (Qa (Q8 Qc5 B.nb_int Qbg (Qa (Qc 7) Qe)) Qe)))) (Qh (Q4 (Yy (Qa Qq (Qa (Ju (Qc 6)) Qe))))))))))))))))
  (Qf (Yg (Qy Qdg (Qc 5) Qg) (Qh (Q4 (Yy (Qa Qq (Qa (Qv Zx B.nb_len Zy (Qa (Qc 0) Qe)) Qe))))) Qx)
  (Qh (Q4 (Yy (Qa Qq (Qa (Yy (Qa (Q8 Xd B.nb_tuple Vg (Qa (Xb (Gu [] (Qbb (Qc 1)) (λ_ _ _ _ _=>Qef) (λ_ _ _ _ _=>(Q8 Xd (by exact B.nb_tuple) (by exact Vg) (Qa (Qc 0) Qe)))) (Zt (Qb Zg) ["_law_words","_law_crossings","_law_ends","_law_rings","_law_stage","_law_wanted","_law_at","_law_word_here"] (by decide +kernel))) Qe)) (Qa (Q8 Xd B.nb_tuple Vg (Qa (Qc 2) Qe)) (Qa (Ju (Qc 3)) Qe)))) Qe))))))))))))
structure Sg (q:LS) (t:Nat):Prop where
 s:q.s<=2
 l:q.l<=4
 c:q.cs.length<=t
 e:q.es.length<=t
 last:q.s=0->0<q.l->∃cs c,q.cs=cs++[c]/\c.length+q.l=4
def tupF:D->D
 | .lst xs=>.tup xs
 | d=>d
def gInv (ws:List Str) (v:Option Nat) (t:Nat) (ρ:PV.Env):Prop:=∃(q:LS) (o6 o7:Option D),t<=ws.length/\q=(ws.take t).foldl stp st0/\Sg q t/\an q.s q.l t (ws.drop t)=v/\ρ=[some (.lst (ws.map .str)),some (.lst (csD q.cs)),some (.lst (q.es.map .int)),some (.int q.rg),some (.int (q.s:Nat)),some (.int (q.l:Nat)),o6,o7]
theorem Qf9 (F:Fun K "_law_gone" "_law_gone" Zg f fd) (B:Bn K mg) (C1:Cal P w K mg base "_law_is_number" 1 ["_law_word_here"] (spR K Yc)):FnOk P w K mg base CX0 2 f fd ["_law_words"] (spR K Uh):=by
 refine Uo (T:=Qcd) F Q0 rfl (by decide) (λds kk h=>?_) (Qii B C1) (λds kk h=>?_)
 ·obtain ⟨ws,rfl,_⟩:=h
  rfl
 ·obtain ⟨ws,rfl,ho,hl,h1,h2⟩:=h
  have hA:=Qlb ws 0 0 0 (λz=>by omega)
  rw [hA] at h1 h2
  generalize hv:an 0 0 0 ws=v at h1 h2
  simp only [Qb1,wSeq,wSet,wLst,wNil,List.length_nil,sz0,wC,env0,List.map_cons,List.map_nil,List.length_cons,Nat.zero_add,Nat.reduceAdd,List.replicate,List.cons_append,List.nil_append,List.set_cons_succ,List.set_cons_zero,Qaq,Qb4,look,Qk,Qrl,true_and]
  refine ⟨Za,Go Za,gInv ws v,⟨st0,none,none,by omega,rfl,⟨by decide,by decide,by decide,by decide,λ_ h=>absurd h (by decide)⟩,hv,rfl⟩,?_,?_⟩
  ·rintro t d ρ hd ⟨q,o6,o7,htl,hq,sg,hau,rfl⟩
   rw [Zs] at hd
   cases hu:ws[t]? with
   | none=>rw [List.getElem?_map,hu] at hd;cases hd
   | some u =>
    rw [List.getElem?_map,hu] at hd
    have hd:=(Option.some.inj hd).symm
    subst hd
    have ou:=ho u (List.mem_of_getElem? hu)
    have htl':=(List.getElem?_eq_some_iff.mp hu).1
    have hq':stp q u=(ws.take (t+1)).foldl stp st0:=by
     rw [List.take_add_one,hu,List.foldl_append,← hq];rfl
    have sgs:=sg.s
    have sgl:=sg.l
    have sgc:=sg.c
    have sge:=sg.e
    have no:∀{a b:Str} (h:a≠b),decide (a=b)=false:=λh=>decide_eq_false h
    rw [Uq hu,an] at hau
    by_cases hl0:0<q.l
    ·have el:decide (0<((q.l:Nat):Int))=true:=decide_eq_true (by omega)
     rw [if_pos hl0] at hau
     simp only [U4,Nat.zero_add,List.length_cons,List.length_nil,Nat.reduceAdd,Y4,gN,Gr,wIf,List.set_cons_succ,List.set_cons_zero,wSeq,wOr,wNot,wRet,wTup,Qd,wC,Jm,wNil,sz2,true_and,Q3,Qw,wSet,wBin,wTkl,Ql,Z9,wMt,r_bl,reduceIte,wAnd,Bool.false_eq_true,Gn,wLst,sz0,look,Qk,D.pure,Qas,Xe,BEq.rfl,Qar,Qbi,Qz,Qer,Xf,V9,el]
     refine ⟨u,rfl,ou,?_⟩
     cases hn:nmb u with
     | false =>
      rw [if_neg (λz=>by rw [hn] at z;exact absurd z.1 (by decide))] at hau
      simp only [Zj,Bool.not_false,reduceIte]
      exact h1 t hau.symm
     | true =>
      have vi:=Qg8 hn
      have len:=(Ua.mp hn).len
      have e9:((q.l-1:Nat):Int)=(q.l:Int)-1:=by omega
      rcases (show q.s=0\/q.s=1\/q.s=2 by omega) with hs | hs | hs
      ·obtain ⟨cs,c,hc,hcl⟩:=sg.last hs hl0
       have e2:decide ((q.s:Int)=2)=false:=decide_eq_false (by omega)
       have e0:decide ((q.s:Int)=0)=true:=decide_eq_true (by omega)
       rw [if_pos ⟨hn,λz=>absurd z.1 (by omega)⟩] at hau
       simp only [e2,Bool.false_eq_true,e0,vi,Qk,reduceIte,Zj,Bool.not_true]
       have es:stp q u={ q with cs:=cs++[c++[val u]],l:=q.l-1 }:=by unfold stp;rw [if_pos hl0,if_pos hs,hc,Qg2]
       rw [es] at hq'
       refine ⟨csD cs,c.map .int,by rw [hc];simp [csD],Zb,by rw [List.length_map];exact small (by omega),by omega,_,some (.int (t:Int)),some (.str u),by omega,hq',⟨sgs,by show q.l-1<=4;omega,?_,by show q.es.length<=t+1;omega,λ_ _=>⟨cs,c++[val u],rfl,?_⟩⟩,hau,?_⟩
       ·show (cs++[c++[val u]]).length<=t+1
        rw [hc] at sgc
        simp at sgc ⊢
        omega
       ·show (c++[val u]).length+(q.l-1)=4
        simp
        omega
       ·simp [csD,e9]
      ·have e2:decide ((q.s:Int)=2)=false:=decide_eq_false (by omega)
       have e0:decide ((q.s:Int)=0)=false:=decide_eq_false (by omega)
       have e1:decide ((q.s:Int)=1)=true:=decide_eq_true (by omega)
       rw [if_pos ⟨hn,λz=>absurd z.1 (by omega)⟩] at hau
       simp only [e2,Bool.false_eq_true,e0,vi,Qk,e1,reduceIte,Zj,Bool.not_true]
       have es:stp q u={ q with es:=q.es++[val u],l:=q.l-1 }:=by unfold stp;rw [if_pos hl0,if_neg (by omega),if_pos hs]
       rw [es] at hq'
       refine ⟨by omega,by rw [List.length_map];exact small (by omega),_,some (.int (t:Int)),some (.str u),by omega,hq',⟨sgs,by show q.l-1<=4;omega,by show q.cs.length<=t+1;omega,?_,λz _=>absurd (show q.s=0 from z) (by omega)⟩,hau,?_⟩
       ·show (q.es++[val u]).length<=t+1
        simp
        omega
       ·simp [e9]
      ·have e2:decide ((q.s:Int)=2)=true:=decide_eq_true (by omega)
       have e0:decide ((q.s:Int)=0)=false:=decide_eq_false (by omega)
       have e1:decide ((q.s:Int)=1)=false:=decide_eq_false (by omega)
       by_cases h0:u=w0
       ·have e3:decide (u=Str.ofString "0")=true:=decide_eq_true h0
        rw [if_neg (λz=>z.2 ⟨hs,h0⟩)] at hau
        simp only [e2,e3,reduceIte,Zj,Bool.not_true,Bool.false_eq_true]
        exact h1 t hau.symm
       ·have e3:decide (u=Str.ofString "0")=false:=decide_eq_false h0
        rw [if_pos ⟨hn,λz=>h0 z.2⟩] at hau
        simp only [e2,e3,Bool.false_eq_true,e0,vi,Qk,e1,reduceIte,Zj,Bool.not_true]
        have es:stp q u={ q with rg:=val u,l:=q.l-1 }:=by unfold stp;rw [if_pos hl0,if_neg (by omega),if_neg (by omega)]
        rw [es] at hq'
        refine ⟨by omega,_,some (.int (t:Int)),some (.str u),by omega,hq',⟨sgs,by show q.l-1<=4;omega,by show q.cs.length<=t+1;omega,by show q.es.length<=t+1;omega,λz _=>absurd (show q.s=0 from z) (by omega)⟩,hau,?_⟩
        simp [e9]
    ·have el:decide (0<((q.l:Nat):Int))=false:=decide_eq_false (by omega)
     have ql:q.l=0:=by omega
     rw [if_neg hl0] at hau
     -- the last way
     have last:(u≠wx\/q.s≠0)->(u≠we\/q.s≠0)->(u≠wo\/¬q.s<=1)->(if decide ((q.s:Int)=1)=true then Yc [.str u] λd=>Qkd d λb=>if b=true then oget (PySem.intText? u) λn=>u.length<=640/\(q.es.map D.int).length<sizeLine /\
       gInv ws v (t+1) [some (.lst (ws.map .str)),some (.lst (csD q.cs)),some (.lst (q.es.map .int++[.int n])),some (.int q.rg),some (.int (q.s:Nat)),some (.int (q.l:Nat)),some (.int (t:Int)),some (.str u)]
       else kk (.tup [.str (Str.ofString "notext"),.int (t:Int)]) else kk (.tup [.str (Str.ofString "notext"),.int (t:Int)])):=by
      intro a1 a2 a3
      rw [if_neg (λz=>a1.elim (λw=>w z.2) λw=>w z.1),if_neg (λz=>a2.elim (λw=>w z.2) λw=>w z.1),if_neg (λz=>a3.elim (λw=>w z.2) λw=>w z.1)] at hau
      by_cases hs:q.s=1
      ·rw [if_pos (decide_eq_true (by omega))]
       refine ⟨u,rfl,ou,?_⟩
       cases hn:nmb u with
       | false =>
        rw [if_neg (λz=>by rw [hn] at z;exact absurd z.2 (by decide))] at hau
        exact h1 t hau.symm
       | true =>
        rw [if_pos ⟨hs,hn⟩] at hau
        show oget (PySem.intText? u) _
        rw [Qg8 hn]
        have len:=(Ua.mp hn).len
        have es:stp q u={ q with es:=q.es++[val u] }:=by
         unfold stp
         rw [if_neg hl0,if_neg (λz=>by rw [z,Qwl] at hn;cases hn),if_neg (λz=>by rw [z,Qwm] at hn;cases hn),if_neg (λz=>by rw [z,Qp0] at hn;cases hn)]
        rw [es] at hq'
        refine ⟨by omega,by rw [List.length_map];exact small (by omega),_,some (.int (t:Int)),some (.str u),by omega,hq',⟨sgs,sgl,by show q.cs.length<=t+1;omega,?_,λz _=>absurd (show q.s=0 from z) (by omega)⟩,?_,?_⟩
        ·show (q.es++[val u]).length<=t+1
         simp
         omega
        ·show an q.s q.l _ _=v
         rw [hs,ql];exact hau
        ·simp
      ·rw [if_neg (λz=>hs (by have:=of_decide_eq_true z;omega))]
       rw [if_neg (λz=>hs z.1)] at hau
       exact h1 t hau.symm
     by_cases ux:u=wx
     ·subst ux
      have f1:decide (wx=Str.ofString "x")=true:=by decide
      have f2:decide (wx=Str.ofString "e")=false:=by decide
      have f3:decide (wx=Str.ofString "o")=false:=by decide
      simp only [U4,Nat.zero_add,List.length_cons,List.length_nil,Nat.reduceAdd,Y4,gN,Gr,wIf,List.set_cons_succ,List.set_cons_zero,wSeq,wOr,wNot,wRet,wTup,Qd,wC,Jm,wNil,sz2,true_and,Q3,Qw,wSet,wBin,wTkl,Ql,Z9,wMt,r_bl,reduceIte,wAnd,Bool.false_eq_true,Gn,wLst,sz0,look,Qk,D.pure,Qas,Xe,BEq.rfl,Qar,Qbi,Qz,Qer,Xf,V9,f3,f2,f1,el]
      by_cases hs:q.s=0
      ·rw [if_pos (decide_eq_true (by omega))]
       rw [if_pos ⟨hs,rfl⟩] at hau
       have es:stp q wx={ q with cs:=q.cs++[[]],l:=4 }:=by unfold stp;rw [if_neg hl0,if_pos rfl]
       rw [es] at hq'
       refine ⟨by unfold csD;rw [List.length_map];exact small (by omega),_,some (.int (t:Int)),some (.str wx),by omega,hq',⟨sgs,Nat.le_refl 4,?_,by show q.es.length<=t+1;omega,λ_ _=>⟨q.cs,[],rfl,rfl⟩⟩,?_,?_⟩
       ·show (q.cs++[[]]).length<=t+1
        simp
        omega
       ·show an q.s 4 _ _=v
        rw [hs];exact hau
       ·simp [csD]
      ·rw [if_neg (λz=>hs (by have:=of_decide_eq_true z;omega))]
       exact last (.inr hs) (.inr hs) (.inl (by decide))
     by_cases ue:u=we
     ·subst ue
      have f1:decide (we=Str.ofString "x")=false:=by decide
      have f2:decide (we=Str.ofString "e")=true:=by decide
      have f3:decide (we=Str.ofString "o")=false:=by decide
      simp only [U4,Nat.zero_add,List.length_cons,List.length_nil,Nat.reduceAdd,Y4,gN,Gr,wIf,List.set_cons_succ,List.set_cons_zero,wSeq,wOr,wNot,wRet,wTup,Qd,wC,Jm,wNil,sz2,true_and,Q3,Qw,wSet,wBin,wTkl,Ql,Z9,wMt,r_bl,reduceIte,wAnd,Bool.false_eq_true,Gn,wLst,sz0,look,Qk,D.pure,Qas,Xe,BEq.rfl,Qar,Qbi,Qz,Qer,Xf,V9,f3,f2,f1,el]
      by_cases hs:q.s=0
      ·rw [if_pos (decide_eq_true (by omega))]
       rw [if_neg (λz=>ux z.2),if_pos ⟨hs,rfl⟩] at hau
       have es:stp q we={ q with s:=1,l:=1 }:=by unfold stp;rw [if_neg hl0,if_neg (by decide),if_pos rfl]
       rw [es] at hq'
       exact ⟨_,some (.int (t:Int)),some (.str we),by omega,hq',⟨by show 1<=2;omega,by show 1<=4;omega,by show q.cs.length<=t+1;omega,by show q.es.length<=t+1;omega,λz _=>absurd (show 1=0 from z) (by omega)⟩,hau,rfl⟩
      ·rw [if_neg (λz=>hs (by have:=of_decide_eq_true z;omega))]
       exact last (.inr hs) (.inr hs) (.inl (by decide))
     by_cases uo:u=wo
     ·subst uo
      have f1:decide (wo=Str.ofString "x")=false:=by decide
      have f2:decide (wo=Str.ofString "e")=false:=by decide
      have f3:decide (wo=Str.ofString "o")=true:=by decide
      simp only [U4,Nat.zero_add,List.length_cons,List.length_nil,Nat.reduceAdd,Y4,gN,Gr,wIf,List.set_cons_succ,List.set_cons_zero,wSeq,wOr,wNot,wRet,wTup,Qd,wC,Jm,wNil,sz2,true_and,Q3,Qw,wSet,wBin,wTkl,Ql,Z9,wMt,r_bl,reduceIte,wAnd,Bool.false_eq_true,Gn,wLst,sz0,look,Qk,D.pure,Qas,Xe,BEq.rfl,Qar,Qbi,Qz,Qer,Xf,V9,f3,f2,f1,el]
      by_cases hs:q.s<=1
      ·rw [if_pos (decide_eq_true (by omega))]
       rw [if_neg (λz=>ux z.2),if_neg (λz=>ue z.2),if_pos ⟨hs,rfl⟩] at hau
       have es:stp q wo={ q with s:=2,l:=1 }:=by unfold stp;rw [if_neg hl0,if_neg (by decide),if_neg (by decide),if_pos rfl]
       rw [es] at hq'
       exact ⟨_,some (.int (t:Int)),some (.str wo),by omega,hq',⟨by show 2<=2;omega,by show 1<=4;omega,by show q.cs.length<=t+1;omega,by show q.es.length<=t+1;omega,λz _=>absurd (show 2=0 from z) (by omega)⟩,hau,rfl⟩
      ·rw [if_neg (λz=>hs (by have:=of_decide_eq_true z;omega))]
       exact last (.inl (by decide)) (.inl (by decide)) (.inr hs)
     ·simp only [U4,Nat.zero_add,List.length_cons,List.length_nil,Nat.reduceAdd,Y4,gN,Gr,wIf,List.set_cons_succ,List.set_cons_zero,wSeq,wOr,wNot,wRet,wTup,Qd,wC,Jm,wNil,sz2,true_and,Q3,Qw,wSet,wBin,wTkl,Ql,Z9,wMt,r_bl,reduceIte,wAnd,Bool.false_eq_true,Gn,wLst,sz0,look,Qk,D.pure,Qas,Xe,BEq.rfl,Qar,Qbi,Qz,Qer,Xf,V9,no (b:=Str.ofString "o") uo,no (b:=Str.ofString "e") ue,no (b:=Str.ofString "x") ux,el]
      exact last (.inl ux) (.inl ue) (.inl uo)
  ·rintro ρ ⟨q,o6,o7,htl,hq,sg,hau,rfl⟩
   rw [Ye,List.length_map] at htl hq sg hau
   rw [List.drop_eq_nil_iff.mpr (Nat.le_refl _),an] at hau
   rw [List.take_of_length_le (Nat.le_refl _)] at hq
   have sgc:=sg.c
   simp only [wSeq,wIf,wRet,wTup,Qd,wC,Ql,wNil,List.length_cons,List.length_nil,Nat.zero_add,Nat.reduceAdd,sz2,true_and,Q3,Qw,Jm,sz3,Qae,Qdc,r_bl,wBin,look,Qk,Xn,List.length_map,Qi3,V9,Qz]
   by_cases hl0:0<q.l
   ·rw [if_pos hl0] at hau
    rw [if_pos (decide_eq_true (by omega))]
    exact h1 _ hau.symm
   ·rw [if_neg hl0] at hau
    rw [if_neg (by simp;omega)]
    have k:=h2 hau.symm
    rw [← hq] at k
    refine Gv tupF (by unfold csD;rw [List.length_map];exact small (by omega)) (λd hd Q' hQ=>?_) ?_
    ·obtain ⟨c,_,rfl⟩:=List.mem_map.mp hd
     simp only [Ql,Qd,blkE,List.map_nil,wNil,Q3,look,Qk,Qft]
     exact ⟨Zb,hQ⟩
    ·have e:(csD q.cs).map tupF=ctD q.cs:=by
      unfold csD ctD
      rw [List.map_map];rfl
     rw [e]
     simp only [look,Qk,D.pure,true_and,Qft]
     exact ⟨Q6 λ_ _=>by simp only [D.pure];exact Zb,Zb,k⟩
theorem Qsm:webL ⟨crL A m,(List.range e).map λj=>A (4*m+j),r,s,0⟩=webD m e A r:=by
 unfold webL webD ctD crL
 simp only [List.map_map]
 rfl
def Ui:GA:=λds k=>∃ws,ds=[.lst (ws.map .str)]/\okW ws/\ws.length<=100/\(∀i,au 0 0 0 ws=some i->k (.tup [sNT,.int (i:Nat)]))/\(au 0 0 0 ws=none->dueW ws (λd=>k (.tup [sWb,d])) λx=>k (.tup [sOd,.int x]))
abbrev Z6:Stmt:=top 46
theorem Y0:FnScope ["_law_words","_law_word_here","_law_found","_law_arcs","_law_crossing","_law_odd"] ["_law_words"] (Qb Z6):=⟨rfl,rfl,rfl,by decide +kernel,rfl,by decide +kernel,by decide +kernel⟩
def Qd1:Tg:={ own:=λi=>i == 1 || i == 2 || i == 3 || i == 4 || i == 5,io:=[] }
def Qds:WS:=(wSeq (wAsg (Ql Uh (Qd (wVar 0) wNil)) (U4 2 (Y4 (gN 1) (Y4 (gN 2) Gr))))
 (wSeq (wIf (wBl (wBin dEq (wVar 1) (wC (.str (Str.ofString "notext"))))) (wRet (Jm (wTup (Qd (wVar 1) (Qd (wVar 2) wNil))))) Qw)
 (wSeq (wSet 3 (wLst wNil))
 (wSeq (wFor (Qb3 (Jm (wBin dIx (wVar 2) (wC (.int 0))))) (gN 4) (wSet 3 (wBin Y9 (wVar 3) (Ql Qqp (Qd (wVar 4) wNil)))))
 (wSeq (wSet 3 (wBin Y9 (wVar 3) (Ql Qqp (Qd (wBin dIx (wVar 2) (wC (.int 1))) wNil))))
 (wSeq (wSet 5 (Qb6 (Qb3 (wVar 3)) (wBl (wBin dNe (Qg6 (wVar 1) (Qd (wVar 0) wNil)) (wC (.int 2)))) (Jm (wVar 0)) [3]))
 (wSeq (wIf (wBl (wBin dNe (wVar 5) (wLst wNil))) (wRet (wTup (Qd (wC (.str (Str.ofString "odd"))) (Qd (Ql Qqo (Qd (wVar 5) wNil)) wNil)))) Qw)
 (wRet (Jm (wTup (Qd (wVar 1) (Qd (wVar 2) wNil))))))))))))
theorem Qla (B:Bn K mg) (C__law_gone:Cal P w K mg base "_law_gone" 2 ["_law_words"] (spR K Uh)):∀(cdv:Value) (A:Around) (outer:List PySem.Env) (s:Shared) (H:Hp) (E:XK),Room 2 (A.deeper (envOfC "_law_due" (Qb Z6) s.heap.objs.size f cdv))->SVs (cxOf CX0 P w K mg base ["_law_words","_law_word_here","_law_found","_law_arcs","_law_crossing","_law_odd"] "_law_due" (Qb Z6) f cdv A outer s H E).nox Qd1 (Qr Z6) Qds:=λcdv A outer s H E hr =>
  (Qf (Qu7 (Qu C__law_gone (hr.mono (by decide)) (Qa (Qc 0) Qe)) (Qge (Ze (Yv (i:=1) Y0.nd) (Ze (Yv (i:=2) Y0.nd) Qaz))))
  (Qf (Yg (Qy (Zv hr.units) (Qc 1) Qq) (Qh (Q4 (Ju (Yy (Qa (Qc 1) (Qa (Qc 2) Qe)))))) Qx)
  (Qf (Q1 (i:=3) (Y5 Qe) Y0.nd)
  (Qf (Xk PassesOwn.never (Qbb (Ju (Yq (Yo (Yk hr)) (Qc 2) Qg))) (Yv (i:=4) Y0.nd) (Qh (Q1 (i:=3) (Jn Jp (Qc 3) (Q8 Qoi B.nb_list Qot (Qa (Qc 4) Qe))) Y0.nd)))
  (Qf (Q1 (i:=3) (Jn Jp (Qc 3) (Q8 Qoi B.nb_list Qot (Qa (Yq (Yo (Yk hr)) (Qc 2) Qg) Qe))) Y0.nd)
  (Qf (Qix (j:=5) (Gu [3] (Qbb (Qc 3)) (λ_ _ _ _ _=>Qjx (Qy (Qdf hr.units) (Qn0 (Qc 1) (Qa (Qc 0) Qe)) Qg)) (λ_ _ _ _ _=>(Ju (Qc 0)))) (Zt (Qb Z6) ["_law_words","_law_word_here","_law_found","_law_arcs","_law_crossing","_law_odd"] (by decide +kernel)) Y0.nd)
  (Qf (Yg (Qy (Qdf hr.units) (Qc 5) (Y5 Qe)) (Qh (Q4 (Yy (Qa Qq (Qa (Qv (Qoh rfl) B.nb_min Qsh (Qa (Qc 5) Qe)) Qe))))) Qx)
  (Qh (Q4 (Ju (Yy (Qa (Qc 1) (Qa (Qc 2) Qe)))))))))))))
theorem Qhw (F:Fun K "_law_due" "_law_due" Z6 f fd) (B:Bn K mg) (C1:Cal P w K mg base "_law_gone" 2 ["_law_words"] (spR K Uh)):FnOk P w K mg base CX0 3 f fd ["_law_words"] (spR K Ui):=by
 refine Uo (T:=Qd1) F Y0 rfl (by decide) (λds kk h=>?_) (Qla B C1) (λds kk h=>?_)
 ·obtain ⟨ws,rfl,_⟩:=h
  rfl
 ·obtain ⟨ws,rfl,ho,hl,h1,h2⟩:=h
  simp only [Qds,wSeq,wAsg,Ql,Qd,env0,List.map_cons,List.map_nil,List.length_cons,List.length_nil,Nat.zero_add,Nat.reduceAdd,List.replicate,List.cons_append,List.nil_append,wNil,Q3,look,Qk]
  have e0:decide (Str.ofString "notext" = Str.ofString "notext")=true:=by decide
  have e1:decide (Str.ofString "web" = Str.ofString "notext")=false:=by decide
  refine ⟨ws,rfl,ho,by omega,λi hi=>?_,λhn=>?_⟩
  ·simp only [D.pure,Qo,Bool.and_self,U4,List.length_cons,List.length_nil,Nat.zero_add,Nat.reduceAdd,Y4,gN,Gr,wSeq,wIf,List.set_cons_succ,List.set_cons_zero,wRet,Jm,wTup,Qd,wNil,sz2,Bool.and_true,true_and,Q3,Qw,wSet,wLst,sz0,Qaq,Qdc,wBin,wC,r_bl,look,Qk,Xf,Qz]
   exact h1 i hi
  ·obtain ⟨m,e,A,r,hW,q1,q2,g,q4,q5⟩:=h2 hn
   obtain ⟨s,hr⟩:=Qvh (m:=m) (e:=e) g
   rw [← hW] at hr
   rw [hr,Qsm]
   simp only [D.pure,Qo,webD,Bool.and_self,Bool.and_true,Bool.true_and,U4,List.length_cons,List.length_nil,Nat.zero_add,Nat.reduceAdd,Y4,gN,Gr,wSeq,wIf,List.set_cons_succ,List.set_cons_zero,wRet,Jm,wTup,Qd,wNil,sz2,true_and,Q3,Qw,wSet,wLst,sz0,Qaq,Qdc,wBin,wC,r_bl,look,Qk,Qad,Xz,List.getElem?_cons_zero,Qfu,Xf,e1,Qz,Bool.false_eq_true,reduceIte]
   have cp:=Gs (m:=m) (A:=A)
   have ep:Qo ((List.range e).map λj=>D.int (A (4*m+j)))=true:=Q6 λ_ _=>rfl
   refine ⟨by rw [cp,ep];rfl,cp,cp,cp,λi ρ=>i<=m/\∃o4:Option D,ρ=[some (.lst (ws.map .str)),some sWb,some (webD m e A r),some (.lst (((List.range (4*i)).map A).map .int)),o4,none],⟨by omega,none,rfl⟩,?_,?_⟩
   ·rintro i d ρ hd ⟨_,o4,rfl⟩
    obtain ⟨hi,rfl⟩:=Qsd hd
    simp only [gN,wSet,wBin,List.set_cons_succ,List.set_cons_zero,Ql,Qd,wNil,Q3,look,Qk,Ql3,Zb,true_and,Qcj,List.length_map,List.length_range]
    refine ⟨Nat.le_of_lt (small (by omega)),by omega,some (.tup (((List.range 4).map λj=>A (4*i+j)).map .int)),?_⟩
    rw [show 4*(i+1)=4*i+4 by omega,List.range_add,List.map_append,List.map_append,List.map_map (f:=λx=>4*i+x)]
    rfl
   ·rintro ρ ⟨_,o4,rfl⟩
    simp only [wSeq,wSet,wBin,webD,List.length_map,List.length_range,Ql,Qd,wC,wNil,wIf,wRet,wTup,List.length_cons,List.length_nil,Nat.zero_add,Nat.reduceAdd,sz2,true_and,Q3,Qw,Jm,D.pure,Qo,Bool.and_true,r_bl,wLst,sz0,Qae,Qdc,look,List.set_cons_succ,List.set_cons_zero,Qk,Qad,Qdn,List.getElem?_cons_succ,List.getElem?_cons_zero,Ql3,ep,Qcj,Qi3]
    rw [Qh7,← List.map_append]
    have eA:(List.range (4*m)).map A++((List.range e).map λj=>A (4*m+j))=(List.range (4*m+e)).map A:=by
     rw [List.range_add,List.map_append,List.map_map];rfl
    rw [eA]
    refine ⟨Zb,Nat.le_of_lt (small (by omega)),?_⟩
    generalize hL:(List.range (4*m+e)).map A=L
    have hlen:L.length<=500:=by rw [← hL];simp;omega
    refine Qgl (λx=>D.int x) (λx=>decide (L.count x≠2)) (by exact small (by omega)) (λx hx k hk=>?_) (λx hx hp Q' hQ=>?_) ?_
    ·simp only [blkE,List.map_cons,look,List.map_nil,r_bl,wBin,Qg6,isLs,Qd,wNil,lcOf,wC,Ql1,Qz,Q3,Qk,true_and]
     refine ⟨L,rfl,?_⟩
     have e2:(!decide ((L.count x:Int)=2))=decide (L.count x≠2):=by
      by_cases z:L.count x=2
      ·simp [z]
      ·have:¬((L.count x:Int)=2):=by omega
       simp [z,this]
     first | (rw [e2];exact hk) | (simp only [e2];exact hk)
    ·simp only [Jm,blkE,List.map_cons,look,List.map_nil,Q3,Qk,D.pure,true_and]
     exact hQ
    ·have ho:=Qpy (A:=A) (n:=4*m+e)
     have hm:=λx=>Qks (A:=A) (n:=4*m+e) (x:=x)
     rw [hL] at ho hm
     simp only [List.set_cons_succ,List.set_cons_zero,look,Qk,Qi6,D.pure,Qo,Bool.and_self,Bool.and_true,Bool.true_and,Qya,Qz,Bool.false_eq_true,reduceIte]
     generalize (L.filter λx=>decide (L.count x≠2))=od' at ho hm
     refine ⟨Uk λ_ _=>rfl,by decide,λz=>⟨by rw [cp,Zb];rfl,?_⟩,λz=>⟨od',rfl,?_,λM hM hb=>q5 M ((hm M).mpr ⟨hM,hb⟩)⟩⟩
     ·have z:od'.map D.int=[]:=by injection z
      have:=q4 (ho.mpr (List.map_eq_nil_iff.mp z))
      unfold webD at this
      rw [Qh7] at this
      exact this
     ·rcases od' with _ | ⟨a,l⟩
      ·exact absurd rfl z
      ·simp
theorem Qbt {α:Type} {xs:List α} {k:α->Prop} (h0:0<=r) (h1:r<xs.length) (hk:∀d∈xs,k d):oget (L2.atI xs r) k:=by
 obtain ⟨n,rfl⟩:=Int.eq_ofNat_of_zero_le h0
 rw [Zu,List.getElem?_eq_getElem (by omega)]
 exact hk _ (List.getElem_mem _)
theorem Qax {a b:List Str} (ha:okW a) (hb:okW b):okW (a++b):=λw hw=>(List.mem_append.mp hw).elim (ha w) (hb w)
theorem Qaw (h:okw u):okW [u]:=λw hw=>by rw [List.mem_singleton.mp hw];exact h
def okb (w:Str):Bool:=decide (w.length<=40) && w.cps.toList.all λc=>decide (c<128) && !decide (c=32)
theorem Qd6 {w:Str} (h:okb w=true):okw w:=by
 unfold okb at h
 simp only [Bool.and_eq_true,decide_eq_true_eq,List.all_eq_true,Bool.not_eq_true',decide_eq_false_iff_not] at h
 exact ⟨h.1,h.2⟩
theorem Qwi (h:l.all okb=true):okW l:=λw hw=>Qd6 (List.all_eq_true.mp h w hw)
def lets:List Str:=["x","e","o"].map Str.ofString
def bads:List Str:=["","01","xe","-1","1234567890","O","+","0x"].map Str.ofString
theorem pick (h:l.all okb=true) (h0:0<=r) (h1:r<l.length) (hk:∀w,okw w->k (.str w)):oget (L2.atI (l.map D.str) r) k :=
 Qbt h0 (by rw [List.length_map];exact h1) λd hd=>by
  obtain ⟨w,hw,rfl⟩:=List.mem_map.mp hd
  exact hk w (Qwi h w hw)
def Vm:GA:=λds k=>∃c:Int,ds=[.int c]/\∀w,okw w->k (.str w)
abbrev Z3:Stmt:=top 42
theorem Gm:FnScope ["_law_cell","_law_row","_law_way"] ["_law_cell"] (Qb Z3):=⟨rfl,rfl,rfl,by decide +kernel,rfl,by decide +kernel,by decide +kernel⟩
def Qca:Tg:={ own:=λi=>i == 1 || i == 2,io:=[] }
def Qby:WS:=(wSeq (wSet 1 (wLst (Qd (Jm (wVar 0)) (Qd (wC (.int 0)) wNil))))
 (wSeq (wSet 2 (Zn 1 Q7 (U3 1 (Qd (wC (.int 12)) wNil))))
 (wSeq (wIf (wBl (wBin (dCmp λi j=>decide (i<j)) (wVar 2) (wC (.int 3)))) (wRet (wBin dIx (wLst (Qd (wC (.str (Str.ofString "x"))) (Qd (wC (.str (Str.ofString "e"))) (Qd (wC (.str (Str.ofString "o"))) wNil)))) (wVar 2))) Qw)
 (wSeq (wIf (wBl (wBin dEq (wVar 2) (wC (.int 3)))) (wRet (wBin dIx (wLst (Qd (wC (.str (Str.ofString ""))) (Qd (wC (.str (Str.ofString "01"))) (Qd (wC (.str (Str.ofString "xe"))) (Qd (wC (.str (Str.ofString "-1"))) (Qd (wC (.str (Str.ofString "1234567890"))) (Qd (wC (.str (Str.ofString "O"))) (Qd (wC (.str (Str.ofString "+"))) (Qd (wC (.str (Str.ofString "0x"))) wNil))))))))) (Zn 1 Q7 (U3 1 (Qd (wC (.int 8)) wNil))))) Qw)
 (wRet (Ql dStr (Qd (Zn 1 Q9 (U3 1 wNil)) wNil)))))))
theorem Qif (B:Bn K mg) (C__law_take:Cal P w K mg base "_law_take" 1 ["_law_row","_law_base"] (spI K 0 Q7)) (C__law_number:Cal P w K mg base "_law_number" 2 ["_law_row"] (spI K 0 Q9)):∀(cdv:Value) (A:Around) (outer:List PySem.Env) (s:Shared) (H:Hp) (E:XK),Room 2 (A.deeper (envOfC "_law_word" (Qb Z3) s.heap.objs.size f cdv))->SVs (cxOf CX0 P w K mg base ["_law_cell","_law_row","_law_way"] "_law_word" (Qb Z3) f cdv A outer s H E).nox Qca (Qr Z3) Qby:=λcdv A outer s H E hr =>
  (Qf (Q1 (i:=1) (Y5 (Qa (Ju (Qc 0)) (Qa Qg Qe))) Gm.nd)
  (Qf (Q1 (i:=2) (Zd C__law_take (hr.mono (by decide)) (Ub (i:=1) (Qa Qg Qe))) Gm.nd)
  (Qf (Yg (Qy Qhy (Qc 2) Qg) (Qh (Q4 (Yq (Yo (Yk hr)) (Y5 (Qa Qq (Qa Qq (Qa Qq Qe)))) (Qc 2)))) Qx)
  (Qf (Yg (Qy (Zv hr.units) (Qc 2) Qg) (Qh (Q4 (Yq (Yo (Yk hr)) (Y5 (Qa Qq (Qa Qq (Qa Qq (Qa Qq (Qa Qq (Qa Qq (Qa Qq (Qa Qq Qe))))))))) (Zd C__law_take (hr.mono (by decide)) (Ub (i:=1) (Qa Qg Qe)))))) Qx)
  (Qh (Q4 (Q8 Qgp B.nb_str Qeh (Qa (Zd C__law_number (hr.mono (by decide)) (Ub (i:=1) Qe)) Qe))))))))
theorem Qf6 (F:Fun K "_law_word" "_law_word" Z3 f fd) (B:Bn K mg) (C1:Cal P w K mg base "_law_take" 1 ["_law_row","_law_base"] (spI K 0 Q7)) (C2:Cal P w K mg base "_law_number" 2 ["_law_row"] (spI K 0 Q9)):FnOk P w K mg base CX0 3 f fd ["_law_cell"] (spR K Vm):=by
 refine Uo (T:=Qca) F Gm rfl (by decide) (λds kk h=>?_) (Qif B C1 C2) (λds kk h=>?_)
 ·obtain ⟨c,rfl,_⟩:=h
  rfl
 ·obtain ⟨c,rfl,k⟩:=h
  simp only [Qby,wSeq,wSet,wLst,Qd,Jm,env0,List.map_cons,List.map_nil,List.length_cons,List.length_nil,Nat.zero_add,Nat.reduceAdd,List.replicate,List.cons_append,List.nil_append,wC,wNil,sz2,Zn,U3,Qo,D.pure,Bool.and_self,wIf,wRet,wBin,sz3,Q3,true_and,Qw,Ql,r_bl,look,List.set_cons_succ,List.set_cons_zero,Option.isSome_some,Qk,Qbh,Bool.and_true]
  refine ⟨c,0,12,rfl,by decide,by decide,by decide,by decide,λc1 r1 a1 b1=>?_⟩
  simp only [Xq,rowD,Int.reduceAdd,Qbh,Qo,D.pure,Bool.and_self,true_and,Qbi,Qz,V9]
  by_cases q1:r1<3
  ·rw [if_pos (decide_eq_true q1)]
   exact pick (l:=lets) (by decide) a1 q1 k
  rw [if_neg (by simpa using q1)]
  by_cases q2:r1=3
  ·rw [if_pos (decide_eq_true q2)]
   refine ⟨by decide,c1,_,8,rfl,by decide,by decide,by decide,by decide,λc2 r2 a2 b2=>?_⟩
   simp only [Xq]
   exact pick (l:=bads) (by decide) a2 b2 k
  rw [if_neg (by simpa using q2)]
  refine ⟨c1,_,rfl,by decide,by decide,λc2 r2 a2 b2=>?_⟩
  simp only [Qfx]
  exact ⟨Vw a2 b2,k _ (Qjb a2 b2)⟩
def Yu:GA:=λds k=>∃ns:List Int,ds=[.lst (ns.map .int)]/\∀ws,okW ws->ws.length<=62->k (.lst (ws.map .str))
abbrev Yl:Stmt:=top 43
theorem Q5:FnScope ["_law_cells","_law_row","_law_many","_law_words","_law_k","_law_place","_law_ends"] ["_law_cells"] (Qb Yl):=⟨rfl,rfl,rfl,by decide +kernel,rfl,by decide +kernel,by decide +kernel⟩
def U9:Tg:={ own:=λi=>i == 1 || i == 2 || i == 3 || i == 4 || i == 5 || i == 6,io:=[] }
def U6:WS:=(wSeq (wSet 1 (wLst (Qd (Ql Qp (Qd (wVar 0) (Qd (wC (.int 0)) wNil))) (Qd (wC (.int 0)) wNil))))
 (wSeq (wSet 2 (Zn 1 Q7 (U3 1 (Qd (wC (.int 7)) wNil))))
 (wSeq (wSet 3 (wLst wNil))
 (wSeq (wFor (Qlh (Qd (wVar 2) wNil)) (gN 4) (wSeq (Z9 (wMt 3 "list" Z8 (Qd (wC (.str (Str.ofString "x"))) wNil)))
 (wFor (Qlh (Qd (wC (.int 4)) wNil)) (gN 5) (Z9 (wMt 3 "list" Z8 (Qd (Ql dStr (Qd (Qdu Q9 (Qd (wLst (Qd (Ql Qp (Qd (wVar 0) (Qd (wBin Y9 (wBin Y9 (wC (.int 1)) (wBin dMul (wC (.int 4)) (wVar 4))) (wVar 5)) wNil))) (Qd (Jm (wVar 4)) wNil))) wNil)) wNil)) wNil))))))
 (wSeq (wSet 6 (Zn 1 Q7 (U3 1 (Qd (wC (.int 5)) wNil))))
 (wSeq (wIf (wBl (wBin (dCmp λi j=>decide (j<i)) (wVar 6) (wC (.int 0)))) (Z9 (wMt 3 "list" Z8 (Qd (wC (.str (Str.ofString "e"))) wNil))) Qw)
 (wSeq (wFor (Qlh (Qd (wVar 6) wNil)) (gN 4) (Z9 (wMt 3 "list" Z8 (Qd (Ql dStr (Qd (Qdu Q9 (Qd (wLst (Qd (Ql Qp (Qd (wVar 0) (Qd (wBin Y9 (wBin Y9 (wC (.int 1)) (wBin dMul (wC (.int 4)) (wVar 2))) (wVar 4)) wNil))) (Qd (wBin Y9 (wC (.int 9)) (wVar 4)) wNil))) wNil)) wNil)) wNil))))
 (wSeq (wIf (wBl (wBin dEq (Zn 1 Q7 (U3 1 (Qd (wC (.int 3)) wNil))) (wC (.int 1)))) (wSet 3 (Qo4 3 Y9 (wLst (Qd (wC (.str (Str.ofString "o"))) (Qd (Ql dStr (Qd (Zn 1 Q9 (U3 1 wNil)) wNil)) wNil))))) Qw)
 (Qj8 3)))))))))
theorem Qc8 (B:Bn K mg) (C__law_cell_at:Cal P w K mg base "_law_cell_at" 1 ["_law_script","_law_k"] (spR K Qp)) (C__law_take:Cal P w K mg base "_law_take" 1 ["_law_row","_law_base"] (spI K 0 Q7)) (C__law_number:Cal P w K mg base "_law_number" 2 ["_law_row"] (spI K 0 Q9)):∀(cdv:Value) (A:Around) (outer:List PySem.Env) (s:Shared) (H:Hp) (E:XK),Room 2 (A.deeper (envOfC "_law_in_order" (Qb Yl) s.heap.objs.size f cdv))->SVs (cxOf CX0 P w K mg base ["_law_cells","_law_row","_law_many","_law_words","_law_k","_law_place","_law_ends"] "_law_in_order" (Qb Yl) f cdv A outer s H E).nox U9 (Qr Yl) U6:=λcdv A outer s H E hr =>
  (Qf (Q1 (i:=1) (Y5 (Qa (Qu C__law_cell_at (hr.mono (by decide)) (Qa (Qc 0) (Qa Qg Qe))) (Qa Qg Qe))) Q5.nd)
  (Qf (Q1 (i:=2) (Zd C__law_take (hr.mono (by decide)) (Ub (i:=1) (Qa Qg Qe))) Q5.nd)
  (Qf (Q1 (i:=3) (Y5 Qe) Q5.nd)
  (Qf (Xk PassesOwn.never (Qcw B.nb_range (Qa (Qc 2) Qe)) (Yv (i:=4) Q5.nd) (Qf (Vq (Qcz (i:=3) Zc PySem.F.plainAttrs_list PySem.F.slot_list_append PySem.F.type_list_append (Qa Qq Qe)))
  (Qh (Xk PassesOwn.never (Qcw B.nb_range (Qa Qg Qe)) (Yv (i:=5) Q5.nd) (Qh (Vq (Qcz (i:=3) Zc PySem.F.plainAttrs_list PySem.F.slot_list_append PySem.F.type_list_append (Qa (Q8 Qgp B.nb_str Qeh (Qa (Qjr C__law_number (hr.mono (by decide)) (Qa (Y5 (Qa (Qu C__law_cell_at (hr.mono (by decide)) (Qa (Qc 0) (Qa (Jn Jp (Jn Jp Qg (Jn Xo Qg (Qc 4))) (Qc 5)) Qe))) (Qa (Ju (Qc 4)) Qe))) Qe)) Qe)) Qe))))))))
  (Qf (Q1 (i:=6) (Zd C__law_take (hr.mono (by decide)) (Ub (i:=1) (Qa Qg Qe))) Q5.nd)
  (Qf (Yg (Qy Qdg (Qc 6) Qg) (Qh (Vq (Qcz (i:=3) Zc PySem.F.plainAttrs_list PySem.F.slot_list_append PySem.F.type_list_append (Qa Qq Qe)))) Qx)
  (Qf (Xk PassesOwn.never (Qcw B.nb_range (Qa (Qc 6) Qe)) (Yv (i:=4) Q5.nd) (Qh (Vq (Qcz (i:=3) Zc PySem.F.plainAttrs_list PySem.F.slot_list_append PySem.F.type_list_append (Qa (Q8 Qgp B.nb_str Qeh (Qa (Qjr C__law_number (hr.mono (by decide)) (Qa (Y5 (Qa (Qu C__law_cell_at (hr.mono (by decide)) (Qa (Qc 0) (Qa (Jn Jp (Jn Jp Qg (Jn Xo Qg (Qc 2))) (Qc 4)) Qe))) (Qa (Jn Jp Qg (Qc 4)) Qe))) Qe)) Qe)) Qe)))))
  (Qf (Yg (Qy (Zv hr.units) (Zd C__law_take (hr.mono (by decide)) (Ub (i:=1) (Qa Qg Qe))) Qg) (Qh (Q1 (i:=3) (Qxh (i:=3) Jp (Y5 (Qa Qq (Qa (Q8 Qgp B.nb_str Qeh (Qa (Zd C__law_number (hr.mono (by decide)) (Ub (i:=1) Qe)) Qe)) Qe)))) Q5.nd)) Qx)
  (Qh (Qlt (i:=3)))))))))))
theorem Qbj (F:Fun K "_law_in_order" "_law_in_order" Yl f fd) (B:Bn K mg) (C1:Cal P w K mg base "_law_cell_at" 1 ["_law_script","_law_k"] (spR K Qp)) (C2:Cal P w K mg base "_law_take" 1 ["_law_row","_law_base"] (spI K 0 Q7)) (C3:Cal P w K mg base "_law_number" 2 ["_law_row"] (spI K 0 Q9)):FnOk P w K mg base CX0 3 f fd ["_law_cells"] (spR K Yu):=by
 refine Uo (T:=U9) F Q5 rfl (by decide) (λds kk h=>?_) (Qc8 B C1 C2 C3) (λds kk h=>?_)
 ·obtain ⟨ns,rfl,_⟩:=h
  rfl
 ·obtain ⟨ns,rfl,k⟩:=h
  simp only [U6,wSeq,wSet,wLst,Qd,Ql,env0,List.map_cons,List.map_nil,List.length_cons,List.length_nil,Nat.zero_add,Nat.reduceAdd,List.replicate,List.cons_append,List.nil_append,wC,wNil,sz2,Zn,U3,Qo,D.pure,Bool.and_self,sz0,Qaq,Ql0,Q3,true_and,look,List.set_cons_succ,List.set_cons_zero,Option.isSome_some,Qk,Qbh,Bool.and_true]
  refine ⟨_,ns,0,rfl,.inr rfl,λc=>?_⟩
  simp only [D.pure,true_and]
  refine ⟨c,0,7,rfl,by decide,by decide,by decide,by decide,λc1 r1 a1 b1=>?_⟩
  simp only [rowD,Int.reduceAdd,Qes,Int.reducePow,Int.reduceNeg]
  obtain ⟨R,rfl⟩:=Int.eq_ofNat_of_zero_le a1
  have hR:R<=6:=by omega
  have app:∀(a:List Str) (u:Str),a.map D.str++[D.str u]=(a++[u]).map D.str:=λa u=>by rw [List.map_append];rfl
  refine ⟨by omega,by omega,Qck,λi ρ=>i<=R/\∃(ws:List Str) (o4 o5:Option D),okW ws/\ws.length=5*i/\ρ=[some (.lst (ns.map .int)),some (rowD c1 1),some (.int (R:Nat)),some (.lst (ws.map .str)),o4,o5,none],⟨by omega,[],none,none,λw hw=>by simp at hw,rfl,rfl⟩,?_,?_⟩
  ·rintro i d ρ hd ⟨_,ws,o4,o5,hw,hl,rfl⟩
   obtain ⟨hi,rfl⟩:=Qbr hd
   have hi:i<R:=by simpa using hi
   simp only [gN,wSeq,Z9,wMt,List.set_cons_succ,List.set_cons_zero,look,Xe,BEq.rfl,Qd,wC,wNil,Qaq,Ql0,Qes,Int.reducePow,Int.reduceNeg,Int.reduceLE,Int.reduceLT,Int.reduceToNat,true_and,Qk,Qar,List.length_map,app]
   refine ⟨small (by omega),by decide,λj ρ=>j<=4/\∃(vs:List Str) (o5:Option D),okW vs/\vs.length=5*i+1+j/\ρ=[some (.lst (ns.map .int)),some (rowD c1 1),some (.int (R:Nat)),some (.lst (vs.map .str)),some (.int (0+(i:Int))),o5,none],⟨by omega,_,o5,Qax hw (Qaw (Qd6 (by decide))),by simp;omega,rfl⟩,?_,?_⟩
   ·rintro j d ρ hd ⟨_,vs,o5,hv,hvl,rfl⟩
    obtain ⟨hj,rfl⟩:=Qbr hd
    have hj:j<4:=by simpa using hj
    simp only [gN,Z9,wMt,List.set_cons_succ,List.set_cons_zero,look,Xe,BEq.rfl,Qd,Ql,Qdu,wLst,wBin,wC,wNil,Jm,List.length_cons,List.length_nil,Nat.zero_add,Nat.reduceAdd,sz2,Qbh,Qo,Bool.and_true,true_and,Q3,Qk,Qar,D.pure,Int.reduceNeg,Int.reduceLT,Qci,U1]
    refine ⟨_,ns,1+4*i+j,by simp,.inr rfl,λc2=>⟨rfl,c2,_,rfl,by omega,by omega,λc3 r3 a3 b3=>?_⟩⟩
    simp only [List.length_map,Qfx]
    exact ⟨Vw a3 b3,small (by omega),by omega,vs++[nw r3],_,Qax hv (Qaw (Qjb a3 b3)),by rw [List.length_append,hvl];rfl,by rw [← app]⟩
   ·rintro ρ ⟨_,vs,o5,hv,hvl,rfl⟩
    have hrl:(rngD 0 (4:Int).toNat).length=4:=by rw [Vs];rfl
    simp only [Int.reduceToNat] at hrl hvl ⊢
    rw [hrl] at hvl
    exact ⟨by omega,vs,_,o5,hv,by omega,rfl⟩
  ·rintro ρ ⟨_,ws,o4,o5,hw,hl,rfl⟩
   rw [Vs,Int.toNat_natCast] at hl
   simp only [wSeq,wSet,Zn,U3,look,rowD,Option.isSome_some,Qd,wC,wNil,Qo,D.pure,Bool.and_self,List.nil_append,wIf,List.set_cons_succ,List.set_cons_zero,Z9,wMt,Qaq,Ql0,Q3,Qw,r_bl,wBin,Xe,BEq.rfl,Qk,Qar,true_and,Qbh]
   refine ⟨c1,1,5,rfl,by decide,by decide,by decide,by decide,λc2 r2 a2 b2=>?_⟩
   obtain ⟨E,rfl⟩:=Int.eq_ofNat_of_zero_le a2
   have hE:E<=4:=by omega
   -- behind the ends' letter
   have rest:∀vs:List Str,okW vs->vs.length<=31->forI (rngD 0 E) (gN 4) (Z9 (wMt 3 "list" Z8 (Qd (Ql dStr (Qd (Qdu Q9 (Qd (wLst (Qd (Ql Qp (Qd (wVar 0) (Qd (wBin Y9 (wBin Y9 (wC (.int 1)) (wBin dMul (wC (.int 4)) (wVar 2))) (wVar 4)) wNil))) (Qd (wBin Y9 (wC (.int 9)) (wVar 4)) wNil))) wNil)) wNil)) wNil)))
     { nx:=(wSeq (wIf (wBl (wBin dEq (Zn 1 Q7 (U3 1 (Qd (wC (.int 3)) wNil))) (wC (.int 1)))) (wSet 3 (Qo4 3 Y9 (wLst (Qd (wC (.str (Str.ofString "o"))) (Qd (Ql dStr (Qd (Zn 1 Q9 (U3 1 wNil)) wNil)) wNil))))) Qw) (Qj8 3)) { nx:=λx=>kk D.non,rt:=λd x=>kk d },rt:=λd x=>kk d }
     [some (.lst (ns.map .int)),some (rowD c2 (1+1)),some (.int (R:Nat)),some (.lst (vs.map .str)),o4,o5,some (.int (E:Nat))]:=by
    intro vs hv hvl
    refine ⟨λi ρ=>i<=E/\∃(us:List Str) (o4:Option D),okW us/\us.length=vs.length+i/\ρ=[some (.lst (ns.map .int)),some (rowD c2 (1+1)),some (.int (R:Nat)),some (.lst (us.map .str)),o4,o5,some (.int (E:Nat))],⟨by omega,vs,o4,hv,rfl,rfl⟩,?_,?_⟩
    ·rintro i d ρ hd ⟨_,us,o4,hu,hul,rfl⟩
     obtain ⟨hi,rfl⟩:=Qbr hd
     have hi:i<E:=by simpa using hi
     simp only [gN,Z9,wMt,Int.reduceAdd,List.set_cons_succ,List.set_cons_zero,look,Xe,BEq.rfl,Qd,Ql,Qdu,wLst,wBin,wC,wNil,List.length_cons,List.length_nil,Nat.zero_add,Nat.reduceAdd,sz2,Qbh,Qo,Bool.and_true,true_and,Q3,Qk,Qar,U1,D.pure,Int.reduceNeg,Int.reduceLT,Qci]
     refine ⟨_,ns,1+4*R+i,by simp,.inr rfl,λc2=>⟨rfl,c2,_,rfl,by omega,by omega,λc3 r3 a3 b3=>?_⟩⟩
     simp only [List.length_map,Qfx]
     exact ⟨Vw a3 b3,small (by omega),by omega,us++[nw r3],_,Qax hu (Qaw (Qjb a3 b3)),by rw [List.length_append,hul];rfl,by rw [← app]⟩
    ·rintro ρ ⟨_,us,o4,hu,hul,rfl⟩
     rw [Vs] at hul
     simp only [wSeq,wIf,rowD,Int.reduceAdd,wSet,Qo4,wLst,Qd,wC,Ql,Zn,U3,wNil,Qo,List.nil_append,List.length_cons,List.length_nil,Nat.zero_add,Nat.reduceAdd,sz2,Qj8,true_and,Qw,r_bl,wBin,look,Option.isSome_some,D.pure,Bool.and_self,List.set_cons_succ,List.set_cons_zero,Qk,Qcj,Bool.and_true,Bool.true_and,Qbh]
     refine ⟨c2,_,3,rfl,by decide,by decide,by decide,by decide,λc3 r3 a3 b3=>?_⟩
     simp only [rowD,Int.reduceAdd,Qbh,Qo,D.pure,Bool.and_self,true_and,Qbi,Qz]
     by_cases q:r3=1
     ·rw [if_pos (decide_eq_true q)]
      refine ⟨c3,3,rfl,by decide,by decide,λc4 r4 a4 b4=>?_⟩
      simp only [List.length_map,Qfx,D.pure,true_and]
      have e2:us.map D.str++[D.str (Str.ofString "o"),.str (nw r4)]=(us++[Str.ofString "o",nw r4]).map D.str:=by rw [List.map_append];rfl
      refine ⟨Vw a4 b4,Za,Nat.le_of_lt (small (by omega)),?_⟩
      have:=k (us++[Str.ofString "o",nw r4]) (Qax hu λw hw=>?_) (by simp;omega)
      ·rw [← e2] at this;exact this
      ·simp only [List.mem_cons,List.not_mem_nil,or_false] at hw
       rcases hw with rfl | rfl
       ·exact Qd6 (by decide)
       ·exact Qjb a4 b4
     ·rw [if_neg (by simpa using q)]
      exact k us hu (by omega)
   by_cases q:(0:Int)<(E:Int)
   ·simp only [List.length_map,Int.reduceAdd,app,Qes,Int.reducePow,Int.reduceNeg,Int.toNat_natCast,V9,decide_eq_true q,Qz,reduceIte]
    refine ⟨small (by omega),by omega,by omega,Qck,?_⟩
    exact rest (ws++[Str.ofString "e"]) (Qax hw (Qaw (Qd6 (by decide)))) (by simp;omega)
   ·simp only [List.length_map,Int.reduceAdd,Qes,Int.reducePow,Int.reduceNeg,Int.toNat_natCast,V9,decide_eq_false q,Qz,Bool.false_eq_true,reduceIte]
    refine ⟨by omega,by omega,Qck,?_⟩
    exact rest ws hw (by omega)
def Qno:GA:=λds k=>∃ns:List Int,ds=[.kls (ns.map .int)]/\ns.length<=63/\k (.bl true)
abbrev Qac:Stmt:=top 48
theorem Xl:FnScope ["_law_script","_law_cells","_law_words","_law_arcs","_law_k","_law_text","_law_due_here","_law_found"] ["_law_script"] (Qb Qac):=⟨rfl,rfl,rfl,by decide +kernel,rfl,by decide +kernel,by decide +kernel⟩
def Qu2:Tg:={ own:=λi=>i == 1 || i == 2 || i == 3 || i == 4 || i == 5 || i == 6 || i == 7,io:=[] }
def Qux:WS:=(wSeq (wSet 1 (wSlT (wVar 0) (Qj7 (wC (.int 1))) (Qj7 (wC (.int 63)))))
 (wSeq (wSet 2 (Qb6 (Qb3 (wVar 1)) wAll (Ql Vm (Qd (wVar 0) wNil)) []))
 (wSeq (wIf (wBl (wBin dEq (wBin dMod (Ql Qp (Qd (wVar 0) (Qd (wC (.int 0)) wNil))) (wC (.int 2))) (wC (.int 1)))) (wSeq (wSet 2 (Ql Yu (Qd (wVar 1) wNil)))
 (wIf (wBl (wBin (dCmp λi j=>decide (j<i)) (wBin dMod (wBin dDiv (Ql Qp (Qd (wVar 0) (Qd (wC (.int 0)) wNil))) (wC (.int 2))) (wC (.int 3))) (wC (.int 0)))) (wSeq (wSet 3 (Qdt (Qb4 2) (wBl (wBin (dIn true) (wVar 1) (wTup (Qd (wC (.str (Str.ofString "x"))) (Qd (wC (.str (Str.ofString "e"))) (Qd (wC (.str (Str.ofString "o"))) wNil)))))) (Jm (wVar 0)) []))
 (wFor (Qo2 (Qd (wC (.int 1)) (Qd (Ql dLen (Qd (wVar 3) wNil)) (Qd (wC (.int 2)) wNil)))) (gN 4) (Qb2 2 (wBin dIx (wVar 2) (wBin dIx (wVar 3) (wBin dSub (wBin dSub (wVar 4) (wC (.int 1))) (wBin dMul (wBin dMul (wC (.int 2)) (wBin dMod (wBin dDiv (Ql Qp (Qd (wVar 0) (Qd (wC (.int 0)) wNil))) (wC (.int 7))) (wC (.int 2)))) (Ql dInt (Qd (wBin (dCmp λi j=>decide (j<i)) (wVar 4) (wC (.int 2))) wNil)))))) (wBin dIx (wVar 3) (wVar 4))))) Qw)) Qw)
 (wSeq (wSet 5 (wMs Qnp (wC (.str (Str.ofString " "))) (Qd (wVar 2) wNil)))
 (wSeq (wSet 6 (Ql Ui (Qd (wVar 2) wNil)))
 (wSeq (wIf (wBl (wBin dEq (wVar 2) (wLst (Qd (wC (.str (Str.ofString ""))) wNil)))) (wSet 6 (wTup (Qd (wC (.str (Str.ofString "web"))) (Qd (wTup (Qd (wTup wNil) (Qd (wTup wNil) (Qd (wC (.int 0)) wNil)))) wNil)))) Qw)
 (wSeq (wSet 7 (Ql Vn (Qd (wVar 5) wNil)))
 (wSeq (wIf (wBl (wBin dNe (wVar 7) (wVar 6))) (wRet (wC (.bl false))) Qw)
 (wRet (wOrV (wBin dNe (wBin dIx (wVar 6) (wC (.int 0))) (wC (.str (Str.ofString "web")))) (wBin dEq (Ql Qa1 (Qd (wBin dIx (wVar 7) (wC (.int 1))) wNil)) (wVar 5))))))))))))
theorem Qzb (B:Bn K mg) (C_shown:Cal P w K mg base "shown" 2 ["web"] (spR K Qa1)) (C__law_cell_at:Cal P w K mg base "_law_cell_at" 1 ["_law_script","_law_k"] (spR K Qp)) (C__law_word:Cal P w K mg base "_law_word" 3 ["_law_cell"] (spR K Vm)) (C__law_in_order:Cal P w K mg base "_law_in_order" 3 ["_law_cells"] (spR K Yu)) (C__law_due:Cal P w K mg base "_law_due" 3 ["_law_words"] (spR K Ui)) (C__law_told:Cal P w K mg base "_law_told" 8 ["_law_text"] (spR K Vn)):∀(cdv:Value) (A:Around) (outer:List PySem.Env) (s:Shared) (H:Hp) (E:XK),Room 8 (A.deeper (envOfC "law" (Qb Qac) s.heap.objs.size f cdv))->SVs (cxOf CX0 P w K mg base ["_law_script","_law_cells","_law_words","_law_arcs","_law_k","_law_text","_law_due_here","_law_found"] "law" (Qb Qac) f cdv A outer s H E).nox Qu2 (Qr Qac) Qux:=λcdv A outer s H E hr =>
  (Qf (Q1 (i:=1) (Qxf (Qc 0) (Qmo Qg) (Qmo Qg)) Xl.nd)
  (Qf (Qix (j:=2) (Gu [] (Qbb (Qc 1)) (λ_ _ _ _ _=>Qef) (λ_ _ _ _ _=>(Qu C__law_word (hr.mono (by decide)) (Qa (Qc 0) Qe)))) (Zt (Qb Qac) ["_law_script","_law_cells","_law_words","_law_arcs","_law_k","_law_text","_law_due_here","_law_found"] (by decide +kernel)) Xl.nd)
  (Qf (Yg (Qy (Zv hr.units) (Jn Qco (Qu C__law_cell_at (hr.mono (by decide)) (Qa (Qc 0) (Qa Qg Qe))) Qg) Qg) (Qf (Q1 (i:=2) (Qu C__law_in_order (hr.mono (by decide)) (Qa (Qc 1) Qe)) Xl.nd)
  (Qh (Yg (Qy Qdg (Jn Qco (Jn Qje (Qu C__law_cell_at (hr.mono (by decide)) (Qa (Qc 0) (Qa Qg Qe))) Qg) Qg) Qg) (Qf (Qiy (j:=3) (Qjz [] (Qp9 (i:=2) B.nb_enumerate) (λ_ _ _ _ _=>Qjx (Qy (Qrr (Yk hr)) (Qc 1) (Yy (Qa Qq (Qa Qq (Qa Qq Qe)))))) (λ_ _ _ _ _=>(Ju (Qc 0)))) (Qgm (Qb Qac) ["_law_script","_law_cells","_law_words","_law_arcs","_law_k","_law_text","_law_due_here","_law_found"] (by decide +kernel)) Xl.nd)
  (Qh (Xk PassesOwn.never (Qnd B.nb_range (Qa Qg (Qa (Qv Zx B.nb_len Zy (Qa (Qc 3) Qe)) (Qa Qg Qe)))) (Yv (i:=4) Xl.nd) (Qh (Qem (i:=2) (Yk hr) (Yq (Yo (Yk hr)) (Qc 2) (Yq (Yo (Yk hr)) (Qc 3) (Jn Qjc (Jn Qjc (Qc 4) Qg) (Jn Xo (Jn Xo Qg (Jn Qco (Jn Qje (Qu C__law_cell_at (hr.mono (by decide)) (Qa (Qc 0) (Qa Qg Qe))) Qg) Qg)) (Q8 Qsg B.nb_int Qbg (Qa (U2 Qdg (Qc 4) Qg) Qe)))))) (Yq (Yo (Yk hr)) (Qc 3) (Qc 4))))))) Qx))) Qx)
  (Qf (Q1 (i:=5) (Quf Qm1 PySem.F.slot_str_join PySem.F.type_str_join Qq (Qa (Qc 2) Qe)) Xl.nd)
  (Qf (Q1 (i:=6) (Qu C__law_due (hr.mono (by decide)) (Qa (Qc 2) Qe)) Xl.nd)
  (Qf (Yg (Qy (Zv hr.units) (Qc 2) (Y5 (Qa Qq Qe))) (Qh (Q1 (i:=6) (Yy (Qa Qq (Qa (Yy (Qa (Yy Qe) (Qa (Yy Qe) (Qa Qg Qe)))) Qe))) Xl.nd)) Qx)
  (Qf (Q1 (i:=7) (Qu C__law_told (hr.mono (by decide)) (Qa (Qc 5) Qe)) Xl.nd)
  (Qf (Yg (Qy (Qdf hr.units) (Qc 7) (Qc 6)) (Qh (Q4 Qn1)) Qx)
  (Qh (Q4 (Qxg (U2 (Qdf hr.units) (Yq (Yo (Yk hr)) (Qc 6) Qg) Qq) (Qbd (U2 (Zv hr.units) (Qu C_shown (hr.mono (by decide)) (Qa (Yq (Yo (Yk hr)) (Qc 7) Qg) Qe)) (Qc 5))))))))))))))
def Qld:WS:=(wSeq (wSet 5 (wMs Qnp (wC (.str (Str.ofString " "))) (Qd (wVar 2) wNil)))
 (wSeq (wSet 6 (Ql Ui (Qd (wVar 2) wNil)))
 (wSeq (wIf (wBl (wBin dEq (wVar 2) (wLst (Qd (wC (.str (Str.ofString ""))) wNil)))) (wSet 6 (wTup (Qd (wC (.str (Str.ofString "web"))) (Qd (wTup (Qd (wTup wNil) (Qd (wTup wNil) (Qd (wC (.int 0)) wNil)))) wNil)))) Qw)
 (wSeq (wSet 7 (Ql Vn (Qd (wVar 5) wNil)))
 (wSeq (wIf (wBl (wBin dNe (wVar 7) (wVar 6))) (wRet (wC (.bl false))) Qw)
 (wRet (wOrV (wBin dNe (wBin dIx (wVar 6) (wC (.int 0))) (wC (.str (Str.ofString "web")))) (wBin dEq (Ql Qa1 (Qd (wBin dIx (wVar 7) (wC (.int 1))) wNil)) (wVar 5)))))))))
theorem Qo1:Qux=(wSeq (wSet 1 (wSlT (wVar 0) (Qj7 (wC (.int 1))) (Qj7 (wC (.int 63)))))
 (wSeq (wSet 2 (Qb6 (Qb3 (wVar 1)) wAll (Ql Vm (Qd (wVar 0) wNil)) []))
 (wSeq (wIf (wBl (wBin dEq (wBin dMod (Ql Qp (Qd (wVar 0) (Qd (wC (.int 0)) wNil))) (wC (.int 2))) (wC (.int 1)))) (wSeq (wSet 2 (Ql Yu (Qd (wVar 1) wNil)))
 (wIf (wBl (wBin (dCmp λi j=>decide (j<i)) (wBin dMod (wBin dDiv (Ql Qp (Qd (wVar 0) (Qd (wC (.int 0)) wNil))) (wC (.int 2))) (wC (.int 3))) (wC (.int 0)))) (wSeq (wSet 3 (Qdt (Qb4 2) (wBl (wBin (dIn true) (wVar 1) (wTup (Qd (wC (.str (Str.ofString "x"))) (Qd (wC (.str (Str.ofString "e"))) (Qd (wC (.str (Str.ofString "o"))) wNil)))))) (Jm (wVar 0)) []))
 (wFor (Qo2 (Qd (wC (.int 1)) (Qd (Ql dLen (Qd (wVar 3) wNil)) (Qd (wC (.int 2)) wNil)))) (gN 4) (Qb2 2 (wBin dIx (wVar 2) (wBin dIx (wVar 3) (wBin dSub (wBin dSub (wVar 4) (wC (.int 1))) (wBin dMul (wBin dMul (wC (.int 2)) (wBin dMod (wBin dDiv (Ql Qp (Qd (wVar 0) (Qd (wC (.int 0)) wNil))) (wC (.int 7))) (wC (.int 2)))) (Ql dInt (Qd (wBin (dCmp λi j=>decide (j<i)) (wVar 4) (wC (.int 2))) wNil)))))) (wBin dIx (wVar 3) (wVar 4))))) Qw)) Qw)
 Qld))):=rfl
theorem Qni {w:Str}:∀{xs:List Str},inD (.str w) (xs.map D.str)=some (decide (w∈xs))
 | []=>rfl
 | x::xs=>by
  rw [List.map_cons,inD,Qni]
  by_cases h:w=x
  ·subst h;simp
  ·have:(x == w)=false:=beq_eq_false_iff_ne.mpr λz=>h z.symm
   simp [h,this]
theorem Qtc {n:Bool} {w:Str} {xs:List Str}:dIn n (.str w) (.tup (xs.map D.str)) k=k (.bl (xor n (decide (w∈xs)))):=by
 show oget (inD (.str w) (xs.map D.str)) _=_
 rw [Qni];rfl
theorem Qiz (h:okw u):PyData.strOk u=true:=by
 unfold PyData.strOk
 rw [← Array.all_toList,List.all_eq_true]
 intro b hb
 exact decide_eq_true (by have:=(h.sg b hb).1;omega)
theorem Qc1 (h:okW ws):eqOk (n+1) (.lst (ws.map .str))=true:=Uk λu hu=>Qiz (h u hu)
theorem Qxj:eqOk (n+3) (webD m e A r)=true:=by
 unfold webD
 simp only [eqOk,Xg,Bool.and_true,Bool.and_eq_true]
 exact ⟨Uk λ_ _=>Uk λ_ _=>rfl,Uk λ_ _=>rfl⟩
theorem Xv (h:okb x=true) (hd:eqOk 8 d=true):eqOk 9 (.tup [.str x,d])=true:=by
 simp only [eqOk,Xg,Bool.and_true,Bool.and_eq_true]
 exact ⟨Qiz (Qd6 h),hd⟩
theorem Qjs:eqOk 9 (.lst [.str (Str.ofString "")])=true:=Qc1 (ws:=[Str.ofString ""]) (Qaw (Qd6 (by decide)))
theorem Qhc {kk:D->Prop} (k:kk (.bl true)) (ho:okW ws) (hl:ws.length<=63) {d0:D} {o3 o4:Option D}:Qld { nx:=λ_=>kk .non,rt:=λd _=>kk d } [some d0,some d1,some (.lst (ws.map .str)),o3,o4,none,none,none]:=by
 have fit:=Qt6 ho (by omega)
 have len:=Qr0 ho (by omega)
 simp only [Qld,wSeq,wSet,wMs,wC,Qd,wNil,Ql,wIf,wTup,List.length_nil,sz0,List.length_cons,Nat.zero_add,Nat.reduceAdd,sz3,sz2,wRet,Qw,Qvn,wBin,Q3,r_bl,true_and,wLst,sz1,look,List.set_cons_succ,List.set_cons_zero,Qk,Qad,Xz,List.getElem?_cons_zero,Qhj,Qz,Qvs,reduceIte,Bool.false_eq_true,Qet]
 refine ⟨ws,rfl,fit,Nat.le_of_lt (small (show (jn ws).length<=_ by omega)),?_⟩
 have e0:decide (Str.ofString "notext" = Str.ofString "web")=false:=by decide
 have e1:decide (Str.ofString "odd" = Str.ofString "web")=false:=by decide
 have e2:decide (Str.ofString "web" = Str.ofString "web")=true:=by decide
 by_cases hne:ws=[Str.ofString ""]
 ·subst hne
  refine ⟨_,rfl,ho,by omega,λi hi=>?_,λhn=>absurd hn (by decide)⟩
  refine ⟨Qc1 ho,Qjs,λ_=>?_,λz=>absurd rfl z⟩
  refine ⟨_,rfl,[],⟨congrArg D.str (show jn [Str.ofString ""]=jn [] by decide),λw hw=>(by simp at hw),by simp,by decide⟩,(λi hi=>by cases hi),λ_=>⟨0,0,λ_=>0,0,rfl,by omega,by omega,⟨λ_=>by omega,by omega⟩,λ_=>?_,λx hx=>?_⟩⟩
  ·simp only [webD,Qad,Qdn,List.getElem?_cons_succ,List.getElem?_cons_zero,Qk,Qpe,Qz,Bool.false_eq_true,reduceIte]
   refine ⟨Xv (by decide) rfl,Xv (by decide) rfl,λ_=>?_,λz=>absurd rfl z⟩
   simp only [decide_true,Bool.not_true,Bool.false_eq_true,reduceIte]
   refine ⟨0,0,λ_=>0,0,rfl,by omega,by omega,⟨λ_=>by omega,by omega⟩,?_⟩
   simp only [Xf]
   have:decide (tx 0 0 (λ_=>0) 0=jn [Str.ofString ""])=true:=by decide
   have k2:kk (.bl (decide (tx 0 0 (λ_=>0) 0=jn [Str.ofString ""]))):=by rw [this];exact k
   exact k2
  ·have:=hx.1
   simp [odds,M.plc] at this
 ·have hT:isT (.str (jn ws)) ws:=⟨rfl,ho,by omega,hne⟩
  have hne':D.lst (ws.map .str) ≠ .lst [.str (Str.ofString "")]:=λz=>hne (by
   have z:ws.map D.str=[Str.ofString ""].map D.str:=by injection z
   exact List.map_inj_right (λa b h=>by injection h) |>.mp z)
  refine ⟨_,rfl,ho,by omega,λi hi=>?_,λhn=>?_⟩
  ·refine ⟨Qc1 ho,Qjs,λz=>absurd z hne',λ_=>⟨_,rfl,ws,hT,λj hj=>?_,λhn=>by rw [hi] at hn;cases hn⟩⟩
   rw [hi] at hj
   cases hj
   simp only [Qad,Qdn,List.getElem?_cons_succ,List.getElem?_cons_zero,Qk,Xz,Qhj,Qz,Qpe,Bool.false_eq_true,reduceIte]
   refine ⟨Xv (by decide) rfl,Xv (by decide) rfl,λ_=>?_,λz=>absurd rfl z⟩
   simp only [e0,Bool.not_false,reduceIte]
   exact k
  ·obtain ⟨m,e,A,r,hW,g⟩:=Quw _ ws 0 (Nat.le_refl _) hn
   have hlen:(Ws m e A r).length<=63:=by rw [← hW];exact hl
   rw [Qj5] at hlen
   unfold eo at hlen
   have hm:m<=100:=by split at hlen <;> omega
   have he:e<=100:=by split at hlen <;> omega
   refine ⟨m,e,A,r,hW,hm,he,g,λz=>?_,λx hx=>?_⟩
   ·refine ⟨Qc1 ho,Qjs,λz=>absurd z hne',λ_=>⟨_,rfl,ws,hT,λi hi=>(by rw [hn] at hi;cases hi),λ_=>⟨m,e,A,r,hW,hm,he,g,λ_=>?_,λx hx=>by rw [z] at hx;exact absurd hx.1 (by simp)⟩⟩⟩
    have eq:eqOk 9 (.tup [sWb,webD m e A r])=true:=Xv (by decide) (Qxj (n:=5))
    simp only [Qad,Qdn,List.getElem?_cons_succ,List.getElem?_cons_zero,Qk,Xz,Qhj,Qz,Qpe,Bool.false_eq_true,reduceIte]
    refine ⟨eq,eq,λ_=>?_,λz=>absurd rfl z⟩
    refine ⟨m,e,A,r,rfl,hm,he,g,?_⟩
    have:decide (tx m e A r=jn ws)=true:=decide_eq_true (by rw [hW];rfl)
    have k2:kk (.bl (decide (tx m e A r=jn ws))):=by rw [this];exact k
    exact k2
   ·refine ⟨Qc1 ho,Qjs,λz=>absurd z hne',λ_=>⟨_,rfl,ws,hT,λi hi=>(by rw [hn] at hi;cases hi),λ_=>⟨m,e,A,r,hW,hm,he,g,λz=>by rw [z] at hx;exact absurd hx.1 (by simp),λy hy=>?_⟩⟩⟩
    have:y=x:=Int.le_antisymm (hy.2 x hx.1) (hx.2 y hy.1)
    subst this
    simp only [Qad,Qdn,List.getElem?_cons_succ,List.getElem?_cons_zero,Qk,Xz,Qhj,Qz,Qpe,Bool.false_eq_true,reduceIte]
    refine ⟨Xv (by decide) rfl,Xv (by decide) rfl,λ_=>?_,λz=>absurd rfl z⟩
    simp only [e1,Bool.not_false,reduceIte]
    exact k
theorem Qwh (F:Fun K "law" "law" Qac f fd) (B:Bn K mg) (C1:Cal P w K mg base "shown" 2 ["web"] (spR K Qa1)) (C2:Cal P w K mg base "_law_cell_at" 1 ["_law_script","_law_k"] (spR K Qp)) (C3:Cal P w K mg base "_law_word" 3 ["_law_cell"] (spR K Vm)) (C4:Cal P w K mg base "_law_in_order" 3 ["_law_cells"] (spR K Yu)) (C5:Cal P w K mg base "_law_due" 3 ["_law_words"] (spR K Ui)) (C6:Cal P w K mg base "_law_told" 8 ["_law_text"] (spR K Vn)):FnOk P w K mg base CX0 9 f fd ["_law_script"] (spR K Qno):=by
 refine Uo (T:=Qu2) F Xl rfl (by decide) (λds kk h=>?_) (Qzb B C1 C2 C3 C4 C5 C6) (λds kk h=>?_)
 ·obtain ⟨ns,rfl,_⟩:=h
  rfl
 ·obtain ⟨ns,rfl,hl,k⟩:=h
  rw [Qo1]
  simp only [wSeq,wSet,wSlT,env0,List.map_cons,List.map_nil,List.length_cons,List.length_nil,Nat.zero_add,Nat.reduceAdd,List.replicate,List.cons_append,List.nil_append,wIf,Ql,Qd,wNil,Qdt,Qb4,Qaq,Qo2,wC,Int.reducePow,Int.reduceNeg,Q3,Qw,r_bl,wBin,Qae,Qdc,Qvl,Qs9,look,List.set_cons_succ,List.set_cons_zero,Qk,Qvu,Qi3]
  obtain ⟨cs,hc,hcl⟩:∃cs:List Int,cutD (ns.map D.int) (some 1) (some 63)=cs.map D.int/\cs.length<=63:=by
   unfold cutD
   rw [← List.map_drop,← List.map_take]
   exact ⟨_,rfl,by rw [List.length_take,List.length_drop];omega⟩
  rw [hc]
  refine ⟨Zb,λi ys=>i<=cs.length/\∃ws:List Str,okW ws/\ws.length=i/\ys=ws.map .str,⟨by omega,[],λw hw=>by simp at hw,rfl,rfl⟩,?_,?_⟩
  ·rintro i d ys hd ⟨_,ws,hw,hwl,rfl⟩
   rw [List.getElem?_map] at hd
   obtain ⟨c,hci,rfl⟩:=Option.map_eq_some_iff.mp hd
   have hi:=(List.getElem?_eq_some_iff.mp hci).1
   refine ⟨by rw [List.length_map];exact small (by omega),?_⟩
   simp only [wAll,Ql,Qd,blkE,List.map_nil,wNil,Q3,look,Qk,reduceIte]
   refine ⟨c,rfl,λu hu=>⟨by omega,ws++[u],Qax hw (Qaw hu),by simp;omega,by rw [List.map_append];rfl⟩⟩
  ·rintro ys ⟨_,ws,hw,hwl,rfl⟩
   rw [List.length_map] at hwl
   have cell:∀{k:D->Prop},(∀c:Int,k (.int c))->Qp [.kls (ns.map .int),.int 0] k:=λh=>⟨_,ns,0,rfl,.inl rfl,h⟩
   simp only [List.set_cons_succ,List.set_cons_zero,look,Int.reduceNeg,Qk]
   refine ⟨by rw [List.length_map];exact Nat.le_of_lt (small (by omega)),cell λc=>?_⟩
   simp only [Int.reduceNeg,Int.reduceLT,Qd3,Qbi,Qz]
   split
   ·refine ⟨cs,rfl,λvs hv hvl=>cell λc2=>?_⟩
    simp only [Int.reduceNeg,Qrl,Int.reduceLT,Qfw,Qd3,V9,Qz]
    split
    ·refine ⟨Za,λi ys=>i<=vs.length/\∃as:List Nat,as.length<=i/\(∀a∈as,a<vs.length)/\ys=as.map λa=>.int (a:Nat),⟨by omega,[],by simp,λa ha=>(by simp at ha),rfl⟩,?_,?_⟩
     ·rintro i d ys hd ⟨_,as,ha,hal,rfl⟩
      rw [Zs] at hd
      cases q:vs[i]? with
      | none=>rw [List.getElem?_map,q] at hd;cases hd
      | some u =>
       rw [List.getElem?_map,q] at hd
       have hd:=(Option.some.inj hd).symm
       subst hd
       have hi:=(List.getElem?_eq_some_iff.mp q).1
       refine ⟨by rw [List.length_map];exact small (by omega),?_⟩
       simp only [Nat.zero_add,Xy,List.map_nil,Jm,Q3,look,Qk,r_bl,wBin,wTup,Qd,wC,wNil,List.length_cons,List.length_nil,Nat.reduceAdd,sz3,true_and,Qrj,D.pure]
       have e:D.tup [D.str (Str.ofString "x"),D.str (Str.ofString "e"),D.str (Str.ofString "o")] = .tup (lets.map .str):=rfl
       rw [e,Qtc]
       show if _=true then _ else _
       split
       ·refine ⟨by omega,as++[i],by simp;omega,λa h=>?_,by rw [List.map_append];rfl⟩
        rcases List.mem_append.mp h with h | h
        ·exact hal a h
        ·rw [List.mem_singleton.mp h];exact hi
       ·exact ⟨by omega,as,by omega,hal,rfl⟩
     ·rintro ys ⟨_,as,ha,hal,rfl⟩
      rw [Ye,List.length_map] at ha
      simp only [List.length_map,List.set_cons_succ,List.set_cons_zero,look,Int.reduceNeg,Qk,Xn,Int.reduceLE,Int.reduceLT,true_and]
      refine ⟨Nat.le_of_lt (small (by omega)),by omega,.inl trivial,Qma,λi ρ=>∃(us:List Str) (o4:Option D),okW us/\us.length=vs.length/\ρ=[some (.kls (ns.map .int)),some (.lst (cs.map .int)),some (.lst (us.map .str)),some (.lst (as.map λa=>.int (a:Nat))),o4,none,none,none],⟨vs,none,hv,rfl,rfl⟩,?_,?_⟩
      ·rintro i d ρ hd ⟨us,o4,hu,hul,rfl⟩
       obtain ⟨hi,rfl⟩:=Qi1 hd
       have hi2:1+2*i<as.length:=by
        unfold stepN at hi
        split at hi
        ·rename_i h
         omega
        ·omega
       simp only [gN,Qb2,wBin,List.set_cons_succ,List.set_cons_zero,wC,Ql,Qd,wNil,Q3,look,Option.isSome_some,Qk,Xq,true_and,V9,Qrh,Qer]
       refine cell λc2=>?_
       have fin:∀(X:Int),0<=X->X<as.length->oget (L2.atI (as.map λa=>D.int (a:Nat)) X) λd=>dIx (.lst (us.map .str)) d λd=>d.pure=true/\oget (L2.atI (as.map λa=>D.int (a:Nat)) (1+(i:Int)*2)) λd_1=>dSet (.lst (us.map .str)) d_1 d λs' =>
         ∃(us:List Str) (o4:Option D),okW us/\us.length=vs.length/\[some (.kls (ns.map .int)),some (.lst (cs.map .int)),some s',some (.lst (as.map λa=>.int (a:Nat))),some (.int (1+(i:Int)*2)),none,none,none]=[some (D.kls (ns.map .int)),some (.lst (cs.map .int)),some (.lst (us.map .str)),some (.lst (as.map λa=>.int (a:Nat))),o4,none,none,none]:=by
        intro X hx hx2
        refine Qbt (xs:=as.map λa=>D.int (a:Nat)) hx (by rw [List.length_map];exact hx2) λd hd=>?_
        obtain ⟨a,hma,rfl⟩:=List.mem_map.mp hd
        have:=hal a hma
        simp only [Xq]
        refine Qbt (xs:=us.map D.str) (by omega) (by rw [List.length_map];omega) λd hd=>?_
        obtain ⟨u,hmu,rfl⟩:=List.mem_map.mp hd
        refine ⟨rfl,Qbt (xs:=as.map λa=>D.int (a:Nat)) (by omega) (by rw [List.length_map];omega) λd hd=>?_⟩
        obtain ⟨b,hmb,rfl⟩:=List.mem_map.mp hd
        have:=hal b hmb
        simp only [Qrf,List.length_map]
        rw [Qcv (by omega)]
        refine ⟨us.set b u,some (.int (1+(i:Int)*2)),λw hw=>?_,by rw [List.length_set];exact hul,by rw [List.map_set]⟩
        rcases List.mem_or_eq_of_mem_set hw with h | h
        ·exact hu w h
        ·rw [h];exact hu u hmu
       by_cases h2:2<1+(i:Int)*2
       ·simp only [decide_eq_true h2,reduceIte,Int.reduceLT,Qfw,Qd3,Int.reduceNeg,Qci,Ql2,Qer,Xq]
        exact fin _ (by omega) (by omega)
       ·simp only [decide_eq_false h2,Bool.false_eq_true,reduceIte,Int.reduceLT,Qfw,Qd3,Int.reduceNeg,Qci,Ql2,Qer,Xq]
        exact fin _ (by omega) (by omega)
      ·rintro ρ ⟨us,o4,hu,hul,rfl⟩
       exact Qhc k hu (by omega)
    ·exact Qhc k hv (by omega)
   ·exact Qhc k hw (by omega)
end K05
variable {l:PySem.W.OpenLaw}
namespace K05
open PySem PySem.Spec L2 PV
open PyProof.Rows (envOfC)
def Lk (K:Frag) (f:Addr) (x:Str) (st:Stmt):Prop:=∃oc od kV dc pm an cd ct sl,K.lookup f=some ⟨oc,od,.func (fnOf x x (Ur st) (Qr st) (Qb st) .none kV dc pm an cd ct),sl⟩/\codeIn K cd x=true
theorem Lk.fn (h:Lk K f x st) (k:keepIn K (.ref f)=true):∃fd,Fun K x x st f fd:=by
 obtain ⟨oc,od,kV,dc,pm,an,cd,ct,sl,l,c⟩:=h
 exact ⟨_,Qec l c k⟩
theorem Qxs {f1 f2 f3 f4 f5 f6 f7 f8 f9 f10 f11 f12 f13 f14 f15 f16 f17 f18 f19 f20 f21 f22 f23 f24 f25 f26 f27 f28 A1 A0 A3 Aa Ae Ad Af A7 Ag A9 Ab Ac A8 Mb Ah Ja Ai:Addr} {od28 an28 Gd E8 Kg I2 Ik I3 Ha Lg:Option Addr} {sl28 Ej Gf Lj K9:Array (Option Value)} {oc28 kV28 dc28 pm28 cd28 ct28 K4 E1 J2 Jb If Ij De J1 Ee I8 E2 K6 Di E6:Value} {B4 D7 Bb:Tok} {Ma Ig Gj J5 J0 G1 Ea Eh H9 Jk G7 Hc Ji E0:ClassData} {B1:Array DictEntry} {L9:Nat} {G0 Hb Ek Kk:Str} {J7 J9 Ef L7:List Value} {G5 Ge:Bool} {Gk M9:Option Bool} (X:K.In h) (G:h.Ns mainGlobals mg) (hfa:mg "law" = some (.ref fa))
  (a1:atN K "is_whole" f1) (l1:Lk K f1 "is_whole" Vi) (k1:keepIn K (.ref f1)=true)
  (a2:atN K "is_written" f2) (l2:Lk K f2 "is_written" Y1) (k2:keepIn K (.ref f2)=true)
  (a3:atN K "is_count" f3) (l3:Lk K f3 "is_count" Vj) (k3:keepIn K (.ref f3)=true)
  (a4:atN K "are_arcs" f4) (l4:Lk K f4 "are_arcs" Z2) (k4:keepIn K (.ref f4)=true)
  (a5:atN K "is_crossing" f5) (l5:Lk K f5 "is_crossing" Y7) (k5:keepIn K (.ref f5)=true)
  (a6:atN K "is_made_as_web" f6) (l6:Lk K f6 "is_made_as_web" Jq) (k6:keepIn K (.ref f6)=true)
  (a7:atN K "places" f7) (l7:Lk K f7 "places" Gy) (k7:keepIn K (.ref f7)=true)
  (a8:atN K "check_web" f8) (l8:Lk K f8 "check_web" Ya) (k8:keepIn K (.ref f8)=true)
  (a9:atN K "words_by" f9) (l9:Lk K f9 "words_by" Z0) (k9:keepIn K (.ref f9)=true)
  (a10:atN K "shown" f10) (l10:Lk K f10 "shown" Qap) (k10:keepIn K (.ref f10)=true)
  (a11:atN K "words_of" f11) (l11:Lk K f11 "words_of" Vh) (k11:keepIn K (.ref f11)=true)
  (a12:atN K "stands" f12) (l12:Lk K f12 "stands" Gx) (k12:keepIn K (.ref f12)=true)
  (a13:atN K "number_at" f13) (l13:Lk K f13 "number_at" Yi) (k13:keepIn K (.ref f13)=true)
  (a14:atN K "read_crossings" f14) (l14:Lk K f14 "read_crossings" Qt) (k14:keepIn K (.ref f14)=true)
  (a15:atN K "read_ends" f15) (l15:Lk K f15 "read_ends" Yh) (k15:keepIn K (.ref f15)=true)
  (a16:atN K "read_rings" f16) (l16:Lk K f16 "read_rings" Jv) (k16:keepIn K (.ref f16)=true)
  (a17:atN K "read" f17) (l17:Lk K f17 "read" Xm) (k17:keepIn K (.ref f17)=true)
  (a18:atN K "_law_cell_at" f18) (l18:Lk K f18 "_law_cell_at" Yt) (k18:keepIn K (.ref f18)=true)
  (a19:atN K "_law_take" f19) (l19:Lk K f19 "_law_take" Z5) (k19:keepIn K (.ref f19)=true)
  (a20:atN K "_law_class" f20) (l20:Lk K f20 "_law_class" Y3) (k20:keepIn K (.ref f20)=true)
  (a21:atN K "_law_number" f21) (l21:Lk K f21 "_law_number" Y8) (k21:keepIn K (.ref f21)=true)
  (a22:atN K "_law_word" f22) (l22:Lk K f22 "_law_word" Z3) (k22:keepIn K (.ref f22)=true)
  (a23:atN K "_law_in_order" f23) (l23:Lk K f23 "_law_in_order" Yl) (k23:keepIn K (.ref f23)=true)
  (a24:atN K "_law_is_number" f24) (l24:Lk K f24 "_law_is_number" Jr) (k24:keepIn K (.ref f24)=true)
  (a25:atN K "_law_gone" f25) (l25:Lk K f25 "_law_gone" Zg) (k25:keepIn K (.ref f25)=true)
  (a26:atN K "_law_due" f26) (l26:Lk K f26 "_law_due" Z6) (k26:keepIn K (.ref f26)=true)
  (a27:atN K "_law_told" f27) (l27:Lk K f27 "_law_told" Z4) (k27:keepIn K (.ref f27)=true)
  (a28:atN K "law" f28) (l28:K.lookup f28=some ⟨oc28,od28,.func (fnOf "law" "law" (Ur Qac) (Qr Qac) (Qb Qac) .none kV28 dc28 pm28 an28 cd28 ct28),sl28⟩) (c28:codeIn K cd28 "law" = true) (k28:keepIn K (.ref f28)=true)
  (H8:nsIn K mainGlobals "all" = some none)
  (Jf:nsIn K mainGlobals "bool" = some none)
  (Ii:nsIn K mainGlobals "enumerate" = some none)
  (H5:nsIn K mainGlobals "int" = some none)
  (I4:nsIn K mainGlobals "isinstance" = some none)
  (Ec:nsIn K mainGlobals "len" = some none)
  (L0:nsIn K mainGlobals "list" = some none)
  (He:nsIn K mainGlobals "min" = some none)
  (E5:nsIn K mainGlobals "range" = some none)
  (Mc:nsIn K mainGlobals "str" = some none)
  (I9:nsIn K mainGlobals "tuple" = some none)
  (Gc:nsIn K mainGlobals "FIGURES" = some (some (.str (Str.ofString "0123456789") B4)))
  (Kd:nsIn K mainGlobals "MOST_FIGURES" = some (some (.int 9 D7)))
  (M0:nsIn K mainGlobals "RIM" = some (some (.int (-1) Bb)))
  (Aj:atN K "NoText" A1) (Bh:PySem.W.clsIn K A1=some Ma) (M2:typeIn K (.ref A1)=some (.type "type"))
  (Ak:atN K "Odd" A0) (D9:PySem.W.clsIn K A0=some Ig) (Hd:typeIn K (.ref A0)=some (.type "type"))
  (B3:atN K "TangleError" A3) (D8:PySem.W.clsIn K A3=some Gj) (B9:typeIn K (.ref A3)=some (.type "type"))
  (Kh:atN K "NoWeb" Aa) (Bk:PySem.W.clsIn K Aa=some J5) (D3:typeIn K (.ref Aa)=some (.type "type"))
  (Jj:atN K "NotFlat" Ae) (Be:PySem.W.clsIn K Ae=some J0) (Dh:typeIn K (.ref Ae)=some (.type "type"))
  (Gg:atN K "TooMany" Ad) (Bf:PySem.W.clsIn K Ad=some G1) (D0:typeIn K (.ref Ad)=some (.type "type"))
  (Hh:atN K "TooWide" Af) (B6:PySem.W.clsIn K Af=some Ea) (D6:typeIn K (.ref Af)=some (.type "type"))
  (M4:atN K "NoStep" A7) (D2:PySem.W.clsIn K A7=some Eh) (D1:typeIn K (.ref A7)=some (.type "type"))
  (H2:atN K "NoTurning" Ag) (B5:PySem.W.clsIn K Ag=some H9) (Ba:typeIn K (.ref Ag)=some (.type "type"))
  (Eg:atN K "BadPace" A9) (Bd:PySem.W.clsIn K A9=some Jk) (Dk:typeIn K (.ref A9)=some (.type "type"))
  (L8:atN K "NoMatch" Ab) (D5:PySem.W.clsIn K Ab=some G7) (Dc:typeIn K (.ref Ab)=some (.type "type"))
  (Eb:atN K "NoName" Ac) (Da:PySem.W.clsIn K Ac=some Hc) (B8:typeIn K (.ref Ac)=some (.type "type"))
  (Id:atN K "NoRow" A8) (Df:PySem.W.clsIn K A8=some Ji) (Bg:typeIn K (.ref A8)=some (.type "type"))
  (Dj:PySem.W.subIn K (.ref A3) (.type "BaseException")=some true)
  (xl2:K.lookup A3=some ⟨K4,Gd,.cls E0,Ej⟩) (xn2:K.lookup E0.ns=some ⟨E1,E8,.dict B1 L9,Gf⟩) (xs2:Qbp B1=true) (xi2:nsFind B1 "__init__" = none)
  (xsp:specialIn K (.ref A3) "__getattribute__" = some (some (.builtin "type.__getattribute__"))) (xrd:readsIn K A3 (.type "type")=true) (xfc:findCls K (.ref A3) (.type "type") "__init__" = some (.val (.builtin "ValueError.__init__")))
  (Ib:PySem.W.subIn K (.ref A1) (.ref A0)=some false) (H6:(Value.ref A1 == Value.ref A0)=false)
  (G4:PySem.W.subIn K (.ref A1) (.ref A3)=some true) (Me:(Value.ref A1 == Value.ref A3)=false)
  (K5:PySem.W.subIn K (.ref A1) (.ref Aa)=some false) (J6:(Value.ref A1 == Value.ref Aa)=false)
  (H7:PySem.W.subIn K (.ref A1) (.ref Ae)=some false) (Je:(Value.ref A1 == Value.ref Ae)=false)
  (La:PySem.W.subIn K (.ref A1) (.ref Ad)=some false) (Ga:(Value.ref A1 == Value.ref Ad)=false)
  (Ki:PySem.W.subIn K (.ref A1) (.ref Af)=some false) (H0:(Value.ref A1 == Value.ref Af)=false)
  (I0:PySem.W.subIn K (.ref A1) (.ref A7)=some false) (K2:(Value.ref A1 == Value.ref A7)=false)
  (M7:PySem.W.subIn K (.ref A1) (.ref Ag)=some false) (I5:(Value.ref A1 == Value.ref Ag)=false)
  (Le:PySem.W.subIn K (.ref A1) (.ref A9)=some false) (Li:(Value.ref A1 == Value.ref A9)=false)
  (G8:PySem.W.subIn K (.ref A1) (.ref Ab)=some false) (Lb:(Value.ref A1 == Value.ref Ab)=false)
  (Hg:PySem.W.subIn K (.ref A1) (.ref Ac)=some false) (E4:(Value.ref A1 == Value.ref Ac)=false)
  (M3:PySem.W.subIn K (.ref A1) (.ref A8)=some false) (Ic:(Value.ref A1 == Value.ref A8)=false)
  {M5:List Str} {Jg L1 J8 Hj K3:Option Value}
  (Ih:K.lookup A1=some (excClassObj G0 Hb A1 Mb J7 (.ref A3::[.type "ValueError",.type "Exception",.type "BaseException",.type "object"]) true M5 J9 G5 Gk Kg Jg L1 J8 Hj K3 "ValueError.__new__"))
  (Kj:PySem.W.findIn K (.ref A1) "__getattribute__" = some (some (.builtin "BaseException.__getattribute__"))) (H4:PySem.W.findIn K (.ref A1) "__getattr__" = some none) (Hi:PySem.W.findIn K (.ref A1) "__class__" = some (some (.builtin "object.__class__"))) (I1:PySem.W.subIn K (.ref A1) (.type "object")=some true) (L6:PySem.W.subIn K (.ref A1) (.type "BaseException")=some true)
  (Ei:PySem.W.findIn K (.ref A1) "__setattr__" = some (some (.builtin "object.__setattr__"))) (Hf:PySem.W.findIn K (.ref A1) "__init__" = some (some (.ref Ah))) (Ld:typeIn K (.ref Ah)=some (.type "function")) (Gb:keepIn K (.ref A1)=true) (Db:PySem.W.findIn K (.ref A1) "at" = some none)
  (Bi:K.lookup Ah=some ⟨J2,I2,.func (fnOf "__init__" "NoText.__init__" (Ur Y2) (Qr Y2) (Qb Y2) .none Jb If Ij Ik De J1),Lj⟩) (B7:codeIn K De "NoText.__init__" = true) (Dd:keepIn K (.ref Ah)=true)
  (Jh:PySem.W.subIn K (.ref A0) (.ref A1)=some false) (M1:(Value.ref A0 == Value.ref A1)=false)
  (Kb:PySem.W.subIn K (.ref A0) (.ref A3)=some true) (Mf:(Value.ref A0 == Value.ref A3)=false)
  (K0:PySem.W.subIn K (.ref A0) (.ref Aa)=some false) (G9:(Value.ref A0 == Value.ref Aa)=false)
  (Jd:PySem.W.subIn K (.ref A0) (.ref Ae)=some false) (Ed:(Value.ref A0 == Value.ref Ae)=false)
  (K1:PySem.W.subIn K (.ref A0) (.ref Ad)=some false) (L4:(Value.ref A0 == Value.ref Ad)=false)
  (Hk:PySem.W.subIn K (.ref A0) (.ref Af)=some false) (J4:(Value.ref A0 == Value.ref Af)=false)
  (J3:PySem.W.subIn K (.ref A0) (.ref A7)=some false) (Md:(Value.ref A0 == Value.ref A7)=false)
  (E9:PySem.W.subIn K (.ref A0) (.ref Ag)=some false) (Lh:(Value.ref A0 == Value.ref Ag)=false)
  (M8:PySem.W.subIn K (.ref A0) (.ref A9)=some false) (Kf:(Value.ref A0 == Value.ref A9)=false)
  (E3:PySem.W.subIn K (.ref A0) (.ref Ab)=some false) (I6:(Value.ref A0 == Value.ref Ab)=false)
  (K7:PySem.W.subIn K (.ref A0) (.ref Ac)=some false) (Ie:(Value.ref A0 == Value.ref Ac)=false)
  (Kc:PySem.W.subIn K (.ref A0) (.ref A8)=some false) (H3:(Value.ref A0 == Value.ref A8)=false)
  {Ia:List Str} {Gh E7 G2 K8 H1:Option Value}
  (Lf:K.lookup A0=some (excClassObj Ek Kk A0 Ja Ef (.ref A3::[.type "ValueError",.type "Exception",.type "BaseException",.type "object"]) true Ia L7 Ge M9 I3 Gh E7 G2 K8 H1 "ValueError.__new__"))
  (L3:PySem.W.findIn K (.ref A0) "__getattribute__" = some (some (.builtin "BaseException.__getattribute__"))) (I7:PySem.W.findIn K (.ref A0) "__getattr__" = some none) (Ke:PySem.W.findIn K (.ref A0) "__class__" = some (some (.builtin "object.__class__"))) (Jc:PySem.W.subIn K (.ref A0) (.type "object")=some true) (Ka:PySem.W.subIn K (.ref A0) (.type "BaseException")=some true)
  (G6:PySem.W.findIn K (.ref A0) "__setattr__" = some (some (.builtin "object.__setattr__"))) (G3:PySem.W.findIn K (.ref A0) "__init__" = some (some (.ref Ai))) (L5:typeIn K (.ref Ai)=some (.type "function")) (M6:keepIn K (.ref A0)=true) (Bj:PySem.W.findIn K (.ref A0) "arc" = some none)
  (D4:K.lookup Ai=some ⟨Ee,Ha,.func (fnOf "__init__" "Odd.__init__" (Ur Vr) (Qr Vr) (Qb Vr) .none I8 E2 K6 Lg Di E6),K9⟩) (Bc:codeIn K Di "Odd.__init__" = true) (Dg:keepIn K (.ref Ai)=true)
  (zV:nsIn K mainGlobals "ValueError" = some none)
  (Lc:PySem.W.subIn K (.ref A1) (.type "ValueError")=some true)
  (Gi:PySem.W.subIn K (.ref A0) (.type "ValueError")=some true)
  : ∃fd:FuncData,(∀(s:Shared) (v:Value),BindsTo s fd ⟨[v],[]⟩ [("_law_script",v)])/\∀base:Heap,K.In base->base.Ns mainGlobals mg->FnOk l.prog w K mg base CX0 9 fa fd ["_law_script"] (spR K Qno):=by
 have e:=hfa.symm.trans (mg_of X G a28)
 cases e
 have A6:ExcQ K A1:=⟨Kj,H4,Hi,I1,L6,by rw [Bh];rfl⟩
 have A2:∀C,atN K "NoText" C->C=A1:=λC h=>by have:=h.symm.trans Aj;cases this;rfl
 have B0:ExcC K A1:=Qnv Ih xl2 xn2 xs2 xi2 Ei
 have A5:ExcQ K A0:=⟨L3,I7,Ke,Jc,Ka,by rw [D9];rfl⟩
 have A4:∀C,atN K "Odd" C->C=A0:=λC h=>by have:=h.symm.trans Ak;cases this;rfl
 have B2:ExcC K A0:=Qnv Lf xl2 xn2 xs2 xi2 G6
 have B:Bn K mg:=⟨mg_none_of X G H8,mg_none_of X G Jf,mg_none_of X G Ii,mg_none_of X G H5,mg_none_of X G I4,mg_none_of X G Ec,mg_none_of X G L0,mg_none_of X G He,mg_none_of X G E5,mg_none_of X G Mc,mg_none_of X G I9,⟨B4,mg_of X G Gc⟩,⟨D7,mg_of X G Kd⟩,⟨Bb,mg_of X G M0⟩,⟨A3,mg_of X G B3,λx C h1 h2=>by
  rcases Qyz h1 with rfl | rfl
  ·obtain rfl:=A2 C h2;exact Qr5 Dj D8 B9 G4
  ·obtain rfl:=A4 C h2;exact Qr5 Dj D8 B9 Kb⟩,⟨Aa,mg_of X G Kh,λx k R h1 h2=>by
  rcases Qb9 h1 with ⟨rfl,rfl⟩ | ⟨rfl,rfl⟩
  ·obtain rfl:=A2 R h2;exact ⟨A6,Jl J6 Bk D3 K5⟩
  ·obtain rfl:=A4 R h2;exact ⟨A5,Jl G9 Bk D3 K0⟩⟩,⟨A0,mg_of X G Ak,λx k R h1 h2=>by
  rcases Qo8 h1 with ⟨rfl,rfl⟩ | ⟨rfl,rfl⟩
  ·obtain rfl:=A2 R h2;exact ⟨A6,Jl H6 D9 Hd Ib⟩
  ·obtain rfl:=A4 R h2;exact ⟨A5,Qji⟩⟩,⟨A1,mg_of X G Aj,λx k R h1 h2=>by
  rcases Qhb h1 with ⟨rfl,rfl⟩ | ⟨rfl,rfl⟩
  ·obtain rfl:=A2 R h2;exact ⟨A6,Qji⟩
  ·obtain rfl:=A4 R h2;exact ⟨A5,Jl M1 Bh M2 Jh⟩⟩,⟨Ae,mg_of X G Jj,λx k R h1 h2=>by
  rcases Qb9 h1 with ⟨rfl,rfl⟩ | ⟨rfl,rfl⟩
  ·obtain rfl:=A2 R h2;exact ⟨A6,Jl Je Be Dh H7⟩
  ·obtain rfl:=A4 R h2;exact ⟨A5,Jl Ed Be Dh Jd⟩⟩,⟨Ad,mg_of X G Gg,λx k R h1 h2=>by
  rcases Qb9 h1 with ⟨rfl,rfl⟩ | ⟨rfl,rfl⟩
  ·obtain rfl:=A2 R h2;exact ⟨A6,Jl Ga Bf D0 La⟩
  ·obtain rfl:=A4 R h2;exact ⟨A5,Jl L4 Bf D0 K1⟩⟩,⟨Af,mg_of X G Hh,λx k R h1 h2=>by
  rcases Qb9 h1 with ⟨rfl,rfl⟩ | ⟨rfl,rfl⟩
  ·obtain rfl:=A2 R h2;exact ⟨A6,Jl H0 B6 D6 Ki⟩
  ·obtain rfl:=A4 R h2;exact ⟨A5,Jl J4 B6 D6 Hk⟩⟩,⟨A7,mg_of X G M4,λx k R h1 h2=>by
  rcases Qb9 h1 with ⟨rfl,rfl⟩ | ⟨rfl,rfl⟩
  ·obtain rfl:=A2 R h2;exact ⟨A6,Jl K2 D2 D1 I0⟩
  ·obtain rfl:=A4 R h2;exact ⟨A5,Jl Md D2 D1 J3⟩⟩,⟨Ag,mg_of X G H2,λx k R h1 h2=>by
  rcases Qb9 h1 with ⟨rfl,rfl⟩ | ⟨rfl,rfl⟩
  ·obtain rfl:=A2 R h2;exact ⟨A6,Jl I5 B5 Ba M7⟩
  ·obtain rfl:=A4 R h2;exact ⟨A5,Jl Lh B5 Ba E9⟩⟩,⟨A9,mg_of X G Eg,λx k R h1 h2=>by
  rcases Qb9 h1 with ⟨rfl,rfl⟩ | ⟨rfl,rfl⟩
  ·obtain rfl:=A2 R h2;exact ⟨A6,Jl Li Bd Dk Le⟩
  ·obtain rfl:=A4 R h2;exact ⟨A5,Jl Kf Bd Dk M8⟩⟩,⟨Ab,mg_of X G L8,λx k R h1 h2=>by
  rcases Qb9 h1 with ⟨rfl,rfl⟩ | ⟨rfl,rfl⟩
  ·obtain rfl:=A2 R h2;exact ⟨A6,Jl Lb D5 Dc G8⟩
  ·obtain rfl:=A4 R h2;exact ⟨A5,Jl I6 D5 Dc E3⟩⟩,⟨Ac,mg_of X G Eb,λx k R h1 h2=>by
  rcases Qb9 h1 with ⟨rfl,rfl⟩ | ⟨rfl,rfl⟩
  ·obtain rfl:=A2 R h2;exact ⟨A6,Jl E4 Da B8 Hg⟩
  ·obtain rfl:=A4 R h2;exact ⟨A5,Jl Ie Da B8 K7⟩⟩,⟨A8,mg_of X G Id,λx k R h1 h2=>by
  rcases Qb9 h1 with ⟨rfl,rfl⟩ | ⟨rfl,rfl⟩
  ·obtain rfl:=A2 R h2;exact ⟨A6,Jl Ic Df Bg M3⟩
  ·obtain rfl:=A4 R h2;exact ⟨A5,Jl H3 Df Bg Kc⟩⟩,⟨mg_none_of X G zV,λx k R h1 h2=>by
  rcases Qb7 h1 with ⟨rfl,rfl⟩ | ⟨rfl,rfl⟩
  ·obtain rfl:=A2 R h2;exact ⟨A6,Qm4 Lc⟩
  ·obtain rfl:=A4 R h2;exact ⟨A5,Qm4 Gi⟩⟩,λx C h1 h2=>by obtain rfl:=of_decide_eq_true h1;obtain rfl:=A2 C h2;exact ⟨B0,A6,Db⟩,λx C h1 h2=>by obtain rfl:=of_decide_eq_true h1;obtain rfl:=A4 C h2;exact ⟨B2,A5,Bj⟩⟩
 obtain ⟨_,F1⟩:=l1.fn k1
 obtain ⟨_,F2⟩:=l2.fn k2
 obtain ⟨_,F3⟩:=l3.fn k3
 obtain ⟨_,F4⟩:=l4.fn k4
 obtain ⟨_,F5⟩:=l5.fn k5
 obtain ⟨_,F6⟩:=l6.fn k6
 obtain ⟨_,F7⟩:=l7.fn k7
 obtain ⟨_,F8⟩:=l8.fn k8
 obtain ⟨_,F9⟩:=l9.fn k9
 obtain ⟨_,F10⟩:=l10.fn k10
 obtain ⟨_,F11⟩:=l11.fn k11
 obtain ⟨_,F12⟩:=l12.fn k12
 obtain ⟨_,F13⟩:=l13.fn k13
 obtain ⟨_,F14⟩:=l14.fn k14
 obtain ⟨_,F15⟩:=l15.fn k15
 obtain ⟨_,F16⟩:=l16.fn k16
 obtain ⟨_,F17⟩:=l17.fn k17
 obtain ⟨_,F18⟩:=l18.fn k18
 obtain ⟨_,F19⟩:=l19.fn k19
 obtain ⟨_,F20⟩:=l20.fn k20
 obtain ⟨_,F21⟩:=l21.fn k21
 obtain ⟨_,F22⟩:=l22.fn k22
 obtain ⟨_,F23⟩:=l23.fn k23
 obtain ⟨_,F24⟩:=l24.fn k24
 obtain ⟨_,F25⟩:=l25.fn k25
 obtain ⟨_,F26⟩:=l26.fn k26
 obtain ⟨_,F27⟩:=l27.fn k27
 have F28:=Qec (st:=Qac) l28 c28 k28
 refine ⟨fnOf "law" "law" (Ur Qac) (Qr Qac) (Qb Qac) .none kV28 dc28 pm28 an28 cd28 ct28,λs v=>.of_eq rfl,λbase _ _=>?_⟩
 have I_NoText:Gw l.prog w K mg base "NoText" "at" 1:=⟨A1,Ah,_,["self","at"],mg_of X G Aj,Aj,Gb,B0,Hf,Ld,Qe0 (Qec (st:=Y2) Bi B7 Dd) (mg_of X G B3) xsp xrd xfc B0 Db,(Qec (st:=Y2) Bi B7 Dd).binds λ_ _ _ _ _ _ us hl=>by obtain ⟨_,_,rfl⟩:=len2 hl;rfl⟩
 have I_Odd:Gw l.prog w K mg base "Odd" "arc" 1:=⟨A0,Ai,_,["self","arc"],mg_of X G Ak,Ak,M6,B2,G3,L5,Qkl (Qec (st:=Vr) D4 Bc Dg) (mg_of X G B3) xsp xrd xfc B2 Bj,(Qec (st:=Vr) D4 Bc Dg).binds λ_ _ _ _ _ _ us hl=>by obtain ⟨_,_,rfl⟩:=len2 hl;rfl⟩
 have C18:Cal l.prog w K mg base "is_whole" 1 ["thing"] (spR K Uj):=⟨f1,_,Qht F1 B,mg_of X G a1,k1,F1.binds λ_ _ _ _ _ _ us hl=>by obtain ⟨_,rfl⟩:=len1 hl;rfl⟩
 have C8:Cal l.prog w K mg base "is_written" 1 ["word","most"] (spR K Vc):=⟨f2,_,Qez F2 B,mg_of X G a2,k2,F2.binds λ_ _ _ _ _ _ us hl=>by obtain ⟨_,_,rfl⟩:=len2 hl;rfl⟩
 have C19:Cal l.prog w K mg base "is_count" 2 ["thing"] (spR K Zl):=⟨f3,_,Qhu F3 B C18,mg_of X G a3,k3,F3.binds λ_ _ _ _ _ _ us hl=>by obtain ⟨_,rfl⟩:=len1 hl;rfl⟩
 have C22:Cal l.prog w K mg base "are_arcs" 3 ["thing"] (spR K Zm):=⟨f4,_,Qhv F4 B C19,mg_of X G a4,k4,F4.binds λ_ _ _ _ _ _ us hl=>by obtain ⟨_,rfl⟩:=len1 hl;rfl⟩
 have C5:Cal l.prog w K mg base "is_crossing" 4 ["thing"] (spR K Zr):=⟨f5,_,Qdd F5 B C22,mg_of X G a5,k5,F5.binds λ_ _ _ _ _ _ us hl=>by obtain ⟨_,rfl⟩:=len1 hl;rfl⟩
 have C0:Cal l.prog w K mg base "is_made_as_web" 5 ["thing"] (spR K Ys):=⟨f6,_,Qau F6 B C19 C22 C5,mg_of X G a6,k6,F6.binds λ_ _ _ _ _ _ us hl=>by obtain ⟨_,rfl⟩:=len1 hl;rfl⟩
 have C23:Cal l.prog w K mg base "places" 1 ["web"] (spR K Qai):=⟨f7,_,Qmt F7 B,mg_of X G a7,k7,F7.binds λ_ _ _ _ _ _ us hl=>by obtain ⟨_,rfl⟩:=len1 hl;rfl⟩
 have C12:CalD l.prog w K mg base "check_web" 6 ["thing"] (spXD K Zh):=⟨f8,_,Qf5 F8 B C0 C23 I_Odd,mg_of X G a8,k8,F8.binds λ_ _ _ _ _ _ us hl=>by obtain ⟨_,rfl⟩:=len1 hl;rfl⟩
 have C20:Cal l.prog w K mg base "words_by" 1 ["letter","numbers"] (spR K Z7):=⟨f9,_,Qhs F9 B,mg_of X G a9,k9,F9.binds λ_ _ _ _ _ _ us hl=>by obtain ⟨_,_,rfl⟩:=len2 hl;rfl⟩
 have C25:Cal l.prog w K mg base "shown" 2 ["web"] (spR K Qa1):=⟨f10,_,Qpx F10 B C20,mg_of X G a10,k10,F10.binds λ_ _ _ _ _ _ us hl=>by obtain ⟨_,rfl⟩:=len1 hl;rfl⟩
 have C21:Cal l.prog w K mg base "words_of" 1 ["text"] (spR K Ug):=⟨f11,_,Qhr F11 B,mg_of X G a11,k11,F11.binds λ_ _ _ _ _ _ us hl=>by obtain ⟨_,rfl⟩:=len1 hl;rfl⟩
 have C24:Cal l.prog w K mg base "stands" 1 ["words","at","letter"] (spR K V6):=⟨f12,_,Qms F12 B,mg_of X G a12,k12,F12.binds λ_ _ _ _ _ _ us hl=>by obtain ⟨_,_,_,rfl⟩:=len3 hl;rfl⟩
 have C13:CalD l.prog w K mg base "number_at" 3 ["words","at"] (spXD K Jt):=⟨f13,_,Qf4 F13 B C8 I_NoText,mg_of X G a13,k13,F13.binds λ_ _ _ _ _ _ us hl=>by obtain ⟨_,_,rfl⟩:=len2 hl;rfl⟩
 have C1:CalD l.prog w K mg base "read_crossings" 4 ["words"] (spXD K Yr):=⟨f14,_,Qat F14 B C24 C13,mg_of X G a14,k14,F14.binds λ_ _ _ _ _ _ us hl=>by obtain ⟨_,rfl⟩:=len1 hl;rfl⟩
 have C11:CalD l.prog w K mg base "read_ends" 4 ["words","at"] (spXD K Vx):=⟨f15,_,Qf3 F15 B C24 C13,mg_of X G a15,k15,F15.binds λ_ _ _ _ _ _ us hl=>by obtain ⟨_,_,rfl⟩:=len2 hl;rfl⟩
 have C9:CalD l.prog w K mg base "read_rings" 4 ["words","at"] (spXD K Zk):=⟨f16,_,Qey F16 B C13 I_NoText,mg_of X G a16,k16,F16.binds λ_ _ _ _ _ _ us hl=>by obtain ⟨_,_,rfl⟩:=len2 hl;rfl⟩
 have C26:CalD l.prog w K mg base "read" 7 ["text"] (spXD K Qgf):=⟨f17,_,Qtx F17 B C12 C21 C1 C11 C9 I_NoText,mg_of X G a17,k17,F17.binds λ_ _ _ _ _ _ us hl=>by obtain ⟨_,rfl⟩:=len1 hl;rfl⟩
 have C4:Cal l.prog w K mg base "_law_cell_at" 1 ["_law_script","_law_k"] (spR K Qp):=⟨f18,_,Qcn F18 B,mg_of X G a18,k18,F18.binds λ_ _ _ _ _ _ us hl=>by obtain ⟨_,_,rfl⟩:=len2 hl;rfl⟩
 have C15:Cal l.prog w K mg base "_law_take" 1 ["_law_row","_law_base"] (spI K 0 Q7):=⟨f19,_,Qf8 F19 B,mg_of X G a19,k19,F19.binds λ_ _ _ _ _ _ us hl=>by obtain ⟨_,_,rfl⟩:=len2 hl;rfl⟩
 have C7:CalH l.prog w K mg base "_law_class" 1 ["_law_error"] (spR K Vy):=⟨f20,_,Qe1 F20 B,mg_of X G a20,k20,F20.binds λ_ _ _ _ _ _ us hl=>by obtain ⟨_,rfl⟩:=len1 hl;rfl⟩
 have C6:Cal l.prog w K mg base "_law_number" 2 ["_law_row"] (spI K 0 Q9):=⟨f21,_,Qde F21 B C15,mg_of X G a21,k21,F21.binds λ_ _ _ _ _ _ us hl=>by obtain ⟨_,rfl⟩:=len1 hl;rfl⟩
 have C10:Cal l.prog w K mg base "_law_word" 3 ["_law_cell"] (spR K Vm):=⟨f22,_,Qf6 F22 B C15 C6,mg_of X G a22,k22,F22.binds λ_ _ _ _ _ _ us hl=>by obtain ⟨_,rfl⟩:=len1 hl;rfl⟩
 have C3:Cal l.prog w K mg base "_law_in_order" 3 ["_law_cells"] (spR K Yu):=⟨f23,_,Qbj F23 B C4 C15 C6,mg_of X G a23,k23,F23.binds λ_ _ _ _ _ _ us hl=>by obtain ⟨_,rfl⟩:=len1 hl;rfl⟩
 have C2:Cal l.prog w K mg base "_law_is_number" 1 ["_law_word_here"] (spR K Yc):=⟨f24,_,Qav F24 B,mg_of X G a24,k24,F24.binds λ_ _ _ _ _ _ us hl=>by obtain ⟨_,rfl⟩:=len1 hl;rfl⟩
 have C14:Cal l.prog w K mg base "_law_gone" 2 ["_law_words"] (spR K Uh):=⟨f25,_,Qf9 F25 B C2,mg_of X G a25,k25,F25.binds λ_ _ _ _ _ _ us hl=>by obtain ⟨_,rfl⟩:=len1 hl;rfl⟩
 have C17:Cal l.prog w K mg base "_law_due" 3 ["_law_words"] (spR K Ui):=⟨f26,_,Qhw F26 B C14,mg_of X G a26,k26,F26.binds λ_ _ _ _ _ _ us hl=>by obtain ⟨_,rfl⟩:=len1 hl;rfl⟩
 have C16:Cal l.prog w K mg base "_law_told" 8 ["_law_text"] (spR K Vn):=⟨f27,_,Qf7 F27 B C26 C7,mg_of X G a27,k27,F27.binds λ_ _ _ _ _ _ us hl=>by obtain ⟨_,rfl⟩:=len1 hl;rfl⟩
 exact Qwh F28 B C25 C4 C10 C3 C17 C16
theorem Qwp (hl:ns.length<=63) (ho:Only H) (hS:SqL K H a (ns.map V.int)):spR K Qno [.ref a] H (λv _=>v=.bl true) λ_ _ _=>False:=by
 have fz:FzL K H a (ns.map V.int):=by
  rcases hS with (h | h) | h
  ·rcases ho a with z | ⟨o,xs,z⟩
   ·rw [z] at h;cases h
   ·rw [z] at h;cases h
  ·exact .inl h
  ·exact .inr h
 refine ⟨[.kls (ns.map .int)],[],λd=>d=.bl true,?_,⟨ns,rfl,hl,rfl⟩,λv H' d F' fi hd=>?_⟩
 ·exact .cons (F:=[]) (G:=[]) (.kls fz (Reps.ints ns)) .nil
 ·subst hd
  exact Qfs fi.rep
theorem walk {q:Program} {d:DefRec} {K:Params->Frag} (hn:l.most=some 63) (hdf:d.params.defaults=[])
  (hY:∀(w:World) (h:Heap),YP w h->(K w.params).In h)
  (F:∀(w:World) (mg:Str->Option Value) (fa:Addr) (h:Heap),(K w.params).In h->h.Ns mainGlobals mg->mg d.name=some (.ref fa) ->
   ∃fd:FuncData,(∀(s:Shared) (u:Value),BindsTo s fd ⟨[u],[]⟩ [("_law_script",u)])/\∀base:Heap,(K w.params).In base->base.Ns mainGlobals mg->FnOk l.prog w (K w.params) mg base CX0 9 fa fd ["_law_script"] (spR (K w.params) Qno)) :
  PySem.W.WalkO q loose XP YP l.row.toRowW d [] (λf vs=>PySem.call f vs) :=
 L2.Qsn (n:=63) (k:=9) (x:="_law_script") (CX:=λ_=>CX0) (sp:=λw=>spR (K w.params) Qno) hn (by decide) hdf ⟨rfl,by decide,by decide⟩ hY F (λ_ _ a ns hl ho hS=>Qwp hl ho hS) λ_ _ _ _ _ z=>z
end K05
open PySem PySem.W PyProof.Rows
namespace PySem.W.Fast
def tw17847916035314858187:=0
def tw14925747820878095603:=0
def tw6649729548123317736:=0
def tw2666463138750596784:=0
def tw5892776639199164341:=0
def tw11740976835485205485:=0
def tw6462017652094722311:=0
def tw18424788499014499529:=0
def tw1973255791071339770:=0
def tw9824341396396206366:=0
def tw764419699370099185:=0
def tw2528448181623942858:=0
def tw3144994508362895462:=0
def tw15174004843757999044:=0
def tw13224900201235178875:=0
def tw2095359719186699938:=0
def tw4769859954444376569:=0
def tw10384421350050488918:=0
def tw9594042777626190718:=0
def tw11371747757658201686:=0
def tw17237075155094716360:=0
def tw9586096763011478673:=0
def tw4961842652429669639:=0
def tw405384304386227002:=0
def tw15658557958170211433:=0
def tw2859212729612503827:=0
def tw12367086923533937775:=0
def tw13167339619098386056:=0
def tw9882843637320568911:=0
def tw8801252193467473360:=0
def tw15407225339152607448:=0
def tw13556906310030782834:=0
def tw13526019874378709245:=0
def tw1673175423067351184:=0
def tw10253134844599245336:=0
def tw8278819354372862886:=0
def tw17282459100271660612:=0
def tw7341874791387962926:=0
def tw3993161976144358318:=0
def tw5732532847304047001:=0
def tw6649485453097496539:=0
def tw7570183629705039660:=0
def tw2552135462627041224:=0
def tw3207443565217164104:=0
def tw16927637270503984998:=0
def tw6599402541865831719:=0
def tw5753484316259751132:=0
def tw2238011765285925501:=0
def tw7746552068252843436:=0
def tw8880289309549155278:=0
def tw12669361382283828688:=0
def tw2004883418143054384:=0
def tw11190067282951875719:=0
def tw17491924089678247462:=0
def tw4063954702778463032:=0
def tw11114762290005454175:=0
def tw15746398474682581736:=0
def tw11411086048489701654:=0
def tw17043406542939038780:=0
def tw9480342923946011713:=0
def tw15433248673325463855:=0
def tw10568238175808535396:=0
def tw14841526958898862421:=0
def tw9715183256954284664:=0
def tw139261798611908991:=0
def tw14897586024198595741:=0
def tw7507075883196411124:=0
def tw4861671632805118267:=0
def tw322172347637653910:=0
def tw7548675128540166619:=0
def tw2045819860167432605:=0
def tw8531016461860219215:=0
def tw9609637556481452349:=0
def tw12284699108418415705:=0
def tw8251423361550146833:=0
def tw15479006482716581789:=0
def tw12524461168925418074:=0
def tw13569059116507860515:=0
def tw14160219436460734930:=0
def tw7017212914233872027:=0
def tw1697866101475302672:=0
def tw10433252823769800665:=0
def tw11195287718509502512:=0
def tw2339173221813696250:=0
def tw3279704301305571733:=0
def tw213631191506856767:=0
def tw9913175350231395788:=0
def tw11903497831527162270:=0
def tw8733562668679884380:=0
def tw9759372377539215640:=0
def tw681269083277699827:=0
def tw398985550556256833:=0
def tw6271378164596075760:=0
def tw13179827223195961697:=0
def tw6038714257079497576:=0
def tw14323510268472979371:=0
def tw568796742329060198:=0
def tw18089728028223967958:=0
def tw1299098217027245017:=0
def tw15743360029805637793:=0
def tw14641069197004542419:=0
def tw3427335214831227813:=0
def tw1188745148166067561:=0
def tw10455805150734053288:=0
def tw8393445433162553665:=0
def tw8737716885238134257:=0
def tw13671241589240342401:=0
def tw14165540616016608758:=0
def tw9629563829433148566:=0
def tw11990605326557910688:=0
def tw12290426385937772891:=0
def tw8134336306215803180:=0
def tw2676189533119958044:=0
def tw14427182145911254801:=0
def tw214276753506993046:=0
def tw1129319379871465088:=0
def tw6392729138206570307:=0
def tw179634024808382740:=0
def tw11333717976657521716:=0
def tw1931216368372656447:=0
def tw7214869553302315350:=0
def tw16383288186927914357:=0
def tw5242245445925205236:=0
def tw6722034935095345169:=0
def tw12794962930367606048:=0
def tw3339728589994358570:=0
def tw7856317521827407329:=0
def tw17867129434832457756:=0
def tw61545483905324475:=0
def tw10358028089329443613:=0
def tw61022580890795894:=0
def tw14750812717202928977:=0
def tw16821471465180059104:=0
def tw16927632549505497815:=0
def tw16374296553954023374:=0
def tw6466207263621849999:=0
def tw3242175540561143674:=0
def tw15898138330952597764:=0
def tw15422028028258065074:=0
def tw18380765629917931983:=0
def tw8724152365053036781:=0
def tw11881135636380958918:=0
def tw17976355686410168605:=0
def tw9708622990566977493:=0
def tw2156771760053210429:=0
def tw3873556750594265836:=0
def tw4684957104741030519:=0
def tw15481693416022270921:=0
def tw2340502438967780753:=0
def tw13203574552556660111:=0
def tw11836714916469249545:=0
def tw17892186015105998143:=0
def tw18429464721664835328:=0
def tw1475261568928270889:=0
def tw12161193555803806764:=0
def tw16690596171818596517:=0
def tw16322499909754558073:=0
def tw15721949804694245544:=0
def tw16129242810379907237:=0
def tw9510058369202516443:=0
def tw8702077749114198853:=0
def tw15757069428357747978:=0
def tw15958325680816175138:=0
def tw11541287366984874100:=0
def tw1946273698106540979:=0
def tw5162693904089937979:=0
def tw2113554033847925128:=0
def tw15234103716786591673:=0
def tw3312236626821077360:=0
def tw13133307014884062797:=0
def tw9524369986404635600:=0
def tw3789789704772624417:=0
def tw17488663875402864575:=0
def tw10286164619074768962:=0
def tw4856812552402722934:=0
def tw255005674083684951:=0
def tw8013715172090468010:=0
def tw15660439477331634712:=0
def tw4060501110476300315:=0
def tw9831192521383416696:=0
def tw16527535525584554970:=0
def tw3566774312176200800:=0
def tw14387716760283682214:=0
def tw1722188505832137293:=0
def tw27951033827418298:=0
def tw9293680457822806760:=0
def tw6158503539781912602:=0
def tw2018215218121506911:=0
def tw15618010388755595418:=0
def tw3919701201335243272:=0
def tw3820385714101110844:=0
def tw8336496644747461757:=0
def tw4194304522511702806:=0
def tw4418277904741436054:=0
def tw11831055584498126563:=0
def tw8728250734628485562:=0
def tw5063205354983323829:=0
def tw3095317167538555486:=0
def tw1906693059210515004:=0
def tw11215128333139848584:=0
def tw18296092267311663181:=0
def tw7706161288809764919:=0
def tw17078234777747247061:=0
def tw10643662996087422089:=0
def tw2044704947052832838:=0
def tw16285598835504713309:=0
def tw3186702257198213628:=0
def tw4101888879929067093:=0
def tw8147362750542062635:=0
def tw3185067083209395206:=0
def tw6403487623877423259:=0
def tw15311047445849209884:=0
def tw5645962441341363521:=0
def tw16366267520388097473:=0
def tw5967472537065903748:=0
def tw6248648450757077960:=0
def tw14611411164160715420:=0
def tw2931286790387735106:=0
def tw18256269505189187634:=0
def tw17832488373463192057:=0
def tw7135060527005613963:=0
def tw13186558496147517954:=0
def tw304432536945293722:=0
def tw2437022362311644142:=0
def tw17686589556837037353:=0
def tw4316991791706210664:=0
def tw17341536067800107455:=0
def tw13829010336608833795:=0
def tw3385715397265889104:=0
def tw6814052076623663386:=0
def tw9077433466807685653:=0
def tw16779612298366345932:=0
def tw479064028554122712:=0
def tw9365102853307921417:=0
def tw2030469985717334923:=0
def tw8691113237268656831:=0
def tw14097106540241765998:=0
def tw13068431130500547416:=0
def tw8782974536543834649:=0
def tw16376906044476035557:=0
def tw2802838428659203042:=0
def tw5375556281382566557:=0
def tw14973420448466901206:=0
def tw18422079440675346232:=0
def tw1914580973226174395:=0
def tw12278847993476768601:=0
def tw12696605078657398116:=0
def tw8770121047528557815:=0
def tw5076794844399445855:=0
def tw10023790329454306948:=0
def tw5954890588515117209:=0
def tw17354503473282602408:=0
def tw8670696327129278029:=0
def tw16433822621827799163:=0
def tw1777536920438418285:=0
def tw4963750800152937850:=0
def tw8255135457006013052:=0
def tw17429838853045794054:=0
def tw18161029131032365064:=0
def tw9433307896786835391:=0
def tw16452828147371620217:=0
def tw10734729654209908687:=0
def tw8318461587333198771:=0
def tw13597753396796517264:=0
def tw723854084642263465:=0
def tw1722386561024142496:=0
def tw12351240841593412803:=0
def tw1176032953092199766:=0
def tw161245296933486415:=0
def tw3351120843521484942:=0
def tw11996313344662504278:=0
def tw4605296504556708888:=0
def tw15041796834199986332:=0
def tw14929301553665190146:=0
def tw8630999688640527648:=0
def tw2102176707776554165:=0
def tw14155243982624862141:=0
def tw14064274060408477479:=0
def tw15854241376290982400:=0
def tw7106139338066690689:=0
def tw3454945640674184945:=0
def tw17488547330719673207:=0
def tw12075967567414167476:=0
def tw3788481612178634299:=0
def tw15228790276259559410:=0
def tw1422885117742537116:=0
def tw15501361933474834708:=0
def tw13206530319765703571:=0
def tw9443867529256876587:=0
def tw3673079470836660539:=0
def tw5927437252561666114:=0
def tw2954474489943362957:=0
def tw18313148322365020199:=0
def tw8279740551803225861:=0
def tw13901697978916344896:=0
def tw9435405342337674339:=0
def tw15001467791602800307:=0
def tw3542994245722406958:=0
def tw12220176910709279463:=0
def tw5913936503626646768:=0
def tw8477126471444392046:=0
def tw7100777121033900315:=0
def tw3556269868006368522:=0
def tw10483253454139932954:=0
def tw8653091915723407752:=0
def tw11140966361470425994:=0
def tw16244552388187804544:=0
def tw9324919945408696673:=0
def tw831818377962412956:=0
def tw2704354076684643263:=0
def tw10932874946252698009:=0
def tw1263066478606129038:=0
def tw8774861717087890090:=0
def tw10690603832311822138:=0
def tw5494425824581704104:=0
def tw13854957716517253926:=0
def tw16416216612651974423:=0
def tw9695790327254247901:=0
def tw12423405597032663830:=0
def tw702177206637989696:=0
def tw4355348276636737730:=0
def tw6690454847748703315:=0
def tw60935794224301931:=0
def tw7652159658238746449:=0
def tw17655000666872105359:=0
def tw12316704304897550389:=0
def tw10605937748811726195:=0
def tw8858233802485427290:=0
def tw9353682647782906627:=0
def tw6318615488800851961:=0
def tw776458470908703020:=0
def tw9883786108670578557:=0
def tw11049261637299785882:=0
def tw15349655461972984845:=0
def tw10917837826662553389:=0
def tw13048582775143209197:=0
def tw4008441268672896013:=0
def tw2302824422770971787:=0
def tw6299122304319967080:=0
def tw3494157554966353413:=0
def tw2486350775462499708:=0
def tw15801609756349711183:=0
def tw4722974522411531676:=0
def tw3280861115496434556:=0
def tw4524100770050936546:=0
def tw3819413391250155565:=0
def tw1735921077096680305:=0
def tw6890345064317702664:=0
def tw9794878668650653103:=0
def tw1734745854883691399:=0
def tw3329454797213421968:=0
def tw11064014602547458518:=0
def tw4904634633107698803:=0
def tw7247825228850538690:=0
def tw2215082455537229822:=0
def tw8678939722414819758:=0
def tw2608187015018201008:=0
def tw2177422779530275005:=0
def tw7939328909356487255:=0
def tw11981403252734345227:=0
def tw1696382232275094743:=0
def tw17320803574064234077:=0
def tw16721533682314792639:=0
def tw1813310724055047259:=0
def tw10563358591923121288:=0
def tw1253448536972424305:=0
def tw12465795839648394004:=0
def tw5476436933924137677:=0
def tw1202293555609382968:=0
def tw8705577240022957523:=0
def tw12261580320822417814:=0
def tw11713091198389168497:=0
def tw13908277026302523043:=0
def tw16020459236197992697:=0
def tw18168008958313279543:=0
def tw13773732713123757582:=0
def tw10356114750431158071:=0
def tw10461110172091718877:=0
def tw5798192953729550387:=0
def tw12421323643462748:=0
def tw7436159953022559644:=0
def tw17612868441533809962:=0
def tw4025988348408899957:=0
def tw15193954201428115985:=0
def tw12227261954539697501:=0
def tw16791648947419326768:=0
def tw13390240943993490039:=0
def tw1109037890158388864:=0
def tw11308877283616107141:=0
def tw18111178253410483720:=0
def tw9623242779931809473:=0
def tw661350453788824598:=0
def tw13578562515248441465:=0
def tw10869759773141972503:=0
def tw2603712853996137849:=0
def tw3443248079641033289:=0
end PySem.W.Fast
set_option maxRecDepth 100000 in
set_option maxHeartbeats 0 in
theorem PySem.Challenge.cw_tanglehouse_k05_whole_any_words_holds : PySem.Challenge.rw_tanglehouse_k05_whole_any_words.Holds := by
 w_on;o_law;k_head;(case hw=>w_witness2)
 k_fill
 refine K05.walk (l:=PySem.Challenge.rw_tanglehouse_k05_whole_any_words) rfl rfl (λw h Y=>PySem.W.kIn_of Y) ?F
 case F =>
  intro w mg fa h KX G hmg
  refine' K05.Qxs KX G hmg ?v00 ?v01 ?v02 ?v03 ?v04 ?v05 ?v06 ?v07 ?v08 ?v09 ?v0a ?v0b ?v0c ?v0d ?v0e ?v0f ?v0g ?v0h ?v0i ?v0j ?v0k ?v0l ?v0m ?v0n ?v0o ?v0p ?v0q ?v0r ?v0s ?v0t ?v0u ?v0v ?v0w ?v0x ?v0y ?v0z ?v10 ?v11 ?v12 ?v13 ?v14 ?v15 ?v16 ?v17 ?v18 ?v19 ?v1a ?v1b ?v1c ?v1d ?v1e ?v1f ?v1g ?v1h ?v1i ?v1j ?v1k ?v1l ?v1m ?v1n ?v1o ?v1p ?v1q ?v1r ?v1s ?v1t ?v1u ?v1v ?v1w ?v1x ?v1y ?v1z ?v20 ?v21 ?v22 ?v23 ?v24 ?v25 ?v26 ?v27 ?v28 ?v29 ?v2a ?v2b ?v2c ?v2d ?v2e ?v2f ?v2g ?v2h ?v2i ?v2j ?v2k ?v2l ?v2m ?v2n ?v2o ?v2p ?v2q ?v2r ?v2s ?v2t ?v2u ?v2v ?v2w ?v2x ?v2y ?v2z ?v30 ?v31 ?v32 ?v33 ?v34 ?v35 ?v36 ?v37 ?v38 ?v39 ?v3a ?v3b ?v3c ?v3d ?v3e ?v3f ?v3g ?v3h ?v3i ?v3j ?v3k ?v3l ?v3m ?v3n ?v3o ?v3p ?v3q ?v3r ?v3s ?v3t ?v3u ?v3v ?v3w ?v3x ?v3y ?v3z ?v40 ?v41 ?v42 ?v43 ?v44 ?v45 ?v46 ?v47 ?v48 ?v49 ?v4a ?v4b ?v4c ?v4d ?v4e ?v4f ?v4g ?v4h ?v4i ?v4j ?v4k ?v4l ?v4m ?v4n ?v4o ?v4p ?v4q ?v4r ?v4s ?v4t ?v4u ?v4v ?v4w ?v4x ?v4y ?v4z ?v50 ?v51 ?v52 ?v53 ?v54 ?v55 ?v56 ?v57 ?v58 ?v59 ?v5a ?v5b ?v5c ?v5d ?v5e ?v5f ?v5g ?v5h ?v5i ?v5j ?v5k ?v5l ?v5m ?v5n ?v5o ?v5p ?v5q ?v5r ?v5s ?v5t ?v5u ?v5v ?v5w ?v5x ?v5y ?v5z ?v60 ?v61 ?v62 ?v63 ?v64 ?v65 ?v66 ?v67 ?v68
  case v00|v01|v02|v03|v04|v05|v06|v07|v08|v09|v0a|v0b|v0c|v0d|v0e|v0f|v0g|v0h|v0i|v0j|v0k|v0l|v0m|v0n|v0o|v0p|v0q|v0r|v0s|v0t|v0u|v0v|v0w|v0x|v0y|v0z|v10|v11|v12|v13|v14|v15|v16|v17|v18|v19|v1a|v1b|v1c|v1d|v1e|v1f|v1g|v1h|v1i|v1j|v1k|v1l|v1m|v1n|v1o|v1p|v1q|v1r|v1s|v1t|v1u|v1v|v1w|v1x|v1y|v1z|v20|v21|v22|v23|v24|v25|v26|v27|v28|v29|v2a|v2b|v2c|v2d|v2e|v2f|v2g|v2h|v2i|v2j|v2k|v2l|v2m|v2n|v2o|v2p|v2q|v2r|v2s|v2t|v2u|v2v|v2w|v2x|v2y|v2z|v30|v31|v32|v33|v34|v35|v36|v37|v38|v39|v3a|v3b|v3c|v3d|v3e|v3f|v3g|v3h|v3i|v3j|v3k|v3l|v3m|v3n|v3o|v3p|v3q|v3r|v3s|v3t|v3u|v3v|v3w|v3x|v3y|v3z|v40|v41|v42|v43|v44|v45|v46|v47|v48|v49|v4a|v4b|v4c|v4d|v4e|v4f|v4g|v4h|v4i|v4j|v4k|v4l|v4m|v4n|v4o|v4p|v4q|v4r|v4s|v4t|v4u|v4v|v4w|v4x|v4y|v4z|v50|v51|v52|v53|v54|v55|v56|v57|v58|v59|v5a|v5b|v5c|v5d|v5e|v5f|v5g|v5h|v5i|v5j|v5k|v5l|v5m|v5n|v5o|v5p|v5q|v5r|v5s|v5t|v5u|v5v|v5w|v5x|v5y|v5z|v60|v61|v62|v63|v64|v65|v66|v67|v68=>first | exact ⟨_,_,_,_,_,_,_,_,_,by k_is,by k_is⟩ | k_is | rfl | decide +kernel
