import PyProof.Rows.All
import Wide.All
import OpenK.AllK
import Wide.FinOn
import Lean
import PyProof.EqAt
import PyProof.EqKinds
import PyProof.TupleCall
import PyProof.EnumMake
import PyProof.EnumFor
import PyProof.Draws
import PyProof.DictWalks
import PyProof.ListRange
import PyProof.ZipIter
import PyProof.Rows.SortWalk
import PyProof.Rows.SumAny
import PyProof.TupleIter
import PyProof.MeetsStr2
import PyProof.StrWalks
import Wide.Txt
import PyProof.Rows.SortRuns
import PyProof.Rows.MinMaxN
import PyProof.ExcClass2
import PyProof.NsDelKeeps
import PyProof.ExcArgsOwn
import PyProof.ExcAttrAll.ValueError
import PyProof.ExcBaseAll.ValueError
import PyProof.ExcInit
import PyProof.InstStoreFacts
import PyProof.Rows.MatchSeqLen
import PySem.Challenge.RW_tanglehouse_k01_what_is_a_web
set_option Elab.async false
set_option linter.all false
set_option maxRecDepth 100000
namespace L2
open PySem PySem.Spec PyProof.Rows
abbrev Key:=Sum Int Str
def Qgv:Key->Value->Bool
 | .inl k,v=>Value.isInt k v
 | .inr x,v=>Value.isStrOf x v
def keyH (w:World):Key->Int
 | .inl k=>hashInt k
 | .inr x=>hashStr w x
theorem Jr:∀{k:Key} {v:Value},Qgv k v=true->(∃i t,k=Sum.inl i/\v=Value.int i t)\/(∃x t,k=Sum.inr x/\v=Value.str x t)
 | .inl i,v,h=>by
  obtain ⟨t,e⟩:=Value.isInt_shape (k:=i) (v:=v) h
  exact .inl ⟨i,t,rfl,e⟩
 | .inr x,v,h=>by
  obtain ⟨t,e⟩:=Value.isStrOf_shape (x:=x) (v:=v) h
  exact .inr ⟨x,t,rfl,e⟩
theorem Qks (i:Int) (t:Tok):Qgv (.inl i) (.int i t)=true:=by simp [Qgv,Value.isInt]
theorem Qkr (x:Str) (t:Tok):Qgv (.inr x) (.str x t)=true:=by simp [Qgv,Value.isStrOf]
theorem Qs6 (a b:Int):decide ((Sum.inl a:Key)=Sum.inl b)=(a == b):=by
 by_cases e:a=b
 ·subst e;simp
 ·have h:¬(Sum.inl a:Key)=Sum.inl b:=λq=>e (Sum.inl.inj q)
  rw [decide_eq_false h]
  exact (beq_eq_false_iff_ne.mpr e).symm
theorem Qs3 (a b:Str):decide ((Sum.inr a:Key)=Sum.inr b)=decide (a=b):=by
 by_cases e:a=b
 ·subst e;simp
 ·have h:¬(Sum.inr a:Key)=Sum.inr b:=λq=>e (Sum.inr.inj q)
  rw [decide_eq_false h,decide_eq_false e]
theorem Qs5 (a:Int) (b:Str):decide ((Sum.inl a:Key)=Sum.inr b)=false:=decide_eq_false (λq=>nomatch q)
theorem Qs4 (a:Str) (b:Int):decide ((Sum.inr a:Key)=Sum.inl b)=false:=decide_eq_false (λq=>nomatch q)
def Jg (prog:Program) (w:World):PySem.KeyKind prog w Key where
 is:=Qgv
 hash:=keyH w
 inj:=λv a b ha hb=>by
  rcases Jr ha with ⟨i,t,rfl,rfl⟩ | ⟨x,t,rfl,rfl⟩
  ·rcases Jr hb with ⟨j,u,rfl,e⟩ | ⟨y,u,rfl,e⟩
   ·injection e with e1 _;rw [e1]
   ·exact nomatch e
  ·rcases Jr hb with ⟨j,u,rfl,e⟩ | ⟨y,u,rfl,e⟩
   ·exact nomatch e
   ·injection e with e1 _;rw [e1]
 byValue:=λk v h=>by
  rcases Jr h with ⟨i,t,rfl,rfl⟩ | ⟨x,t,rfl,rfl⟩ <;> rfl
 pyHash:=λhv h=>by
  rcases Jr hv with ⟨i,t,rfl,rfl⟩ | ⟨x,t,rfl,rfl⟩
  ·exact wpAny_pyHash_int h
  ·exact wpAny_pyHash_str h
 eqBool:=λhu hv h=>by
  rcases Jr hu with ⟨i,t,rfl,rfl⟩ | ⟨x,t,rfl,rfl⟩
  ·rcases Jr hv with ⟨j,u,rfl,rfl⟩ | ⟨y,u,rfl,rfl⟩
   ·rw [Qs6] at h;exact wpAny_eqBool_int h
   ·rw [Qs5] at h;exact SeqAt.EqAt.int_str i t y u _ _ _ _ h
  ·rcases Jr hv with ⟨j,u,rfl,rfl⟩ | ⟨y,u,rfl,rfl⟩
   ·rw [Qs4] at h;exact SeqAt.EqAt.str_int x t j u _ _ _ _ h
   ·rw [Qs3] at h;exact wpAny_eqBool_str h
 «strs»:=λk x t v h=>by
  rcases Jr h with ⟨i,u,rfl,e⟩ | ⟨y,u,rfl,e⟩
  ·exact nomatch e
  ·injection e with e1 _
   subst e1
   cases v <;> rfl
theorem Qi0 (prog:Program) (w:World) (k:Key) (v:Value):(Jg prog w).is k v=Qgv k v:=rfl
theorem Qgu (prog:Program) (w:World) (i:Int) (t:Tok):(Jg prog w).is (.inl i) (.int i t)=true:=Qks i t
theorem Qgt (prog:Program) (w:World) (x:Str) (t:Tok):(Jg prog w).is (.inr x) (.str x t)=true:=Qkr x t
end L2
namespace L2
open PySem PySem.Spec PyProof.Rows
inductive V where
 | non | bl (b:Bool) | int (i:Int) | str (x:Str) | byt (b:Array UInt8) | flt (b:UInt64) | ref (a:Addr) | ty (n:String)
 deriving DecidableEq
def RelV:V->Value->Prop
 | .non,u=>u=Value.none
 | .bl b,u=>u=Value.bool b
 | .int i,u=>∃t,u=Value.int i t
 | .str x,u=>∃t,u=Value.str x t
 | .byt b,u=>∃t,u=Value.bytes b t
 | .flt b,u=>∃t,u=Value.float b t
 | .ref a,u=>u=Value.ref a
 | .ty n,u=>u=Value.type n
abbrev Vals:List V->List Value->Prop:=Paired RelV
theorem Vals.length {xs:List V} {us:List Value} (r:Vals xs us):xs.length=us.length:=Paired.length r
theorem Vals.get:∀{xs:List V} {us:List Value} {i:Nat} {x:V},Vals xs us->xs[i]? = some x->∃u,us[i]? = some u/\RelV x u
 | _,_,_,_,.nil,e=>by simp at e
 | _,_,0,_,.cons r _,e=>by simp at e;subst e;exact ⟨_,rfl,r⟩
 | _,_,i+1,x,.cons _ t,e=>by
  obtain ⟨u,h1,h2⟩:=Vals.get (i:=i) (x:=x) t (by simpa using e)
  exact ⟨u,by simpa using h1,h2⟩
theorem Vals.set {x:V} {u:Value} (r:RelV x u):∀{xs:List V} {us:List Value} (i:Nat),Vals xs us->Vals (xs.set i x) (us.set i u)
 | _,_,_,.nil=>.nil
 | _,_,0,.cons _ t=>.cons r t
 | _,_,i+1,.cons q t=>.cons q (Vals.set r i t)
theorem Vals.append:∀{xs ys:List V} {us ws:List Value},Vals xs us->Vals ys ws->Vals (xs++ys) (us++ws)
 | _,_,_,_,.nil,s=>s
 | _,_,_,_,.cons r t,s=>.cons r (Vals.append t s)
theorem Vals.take:∀{xs:List V} {us:List Value} (n:Nat),Vals xs us->Vals (xs.take n) (us.take n)
 | _,_,0,_=>.nil
 | _,_,_+1,.nil=>.nil
 | _,_,n+1,.cons r t=>.cons r (Vals.take n t)
theorem Vals.drop:∀{xs:List V} {us:List Value} (n:Nat),Vals xs us->Vals (xs.drop n) (us.drop n)
 | _,_,0,r=>r
 | _,_,_+1,.nil=>.nil
 | _,_,n+1,.cons _ t=>Vals.drop n t
def RelO:Option V->Option Value->Prop
 | some v,some u=>RelV v u
 | none,none=>True
 | _,_=>False
def KV {κ:Type}:List (κ × V)->List (κ × Value)->Prop:=Paired λ(p:κ × V) (q:κ × Value)=>p.1=q.1/\RelV p.2 q.2
def kV:Key->V
 | .inl i=>.int i
 | .inr x=>.str x
inductive HO where
 | lst (xs:List V)
 | tup (xs:List V)
 | dK (kvs:List (Key × V)) | dT (kvs:List (List Key × V))
 | set (S:Int->Bool) (n:Nat)
 | ins (C dx:Addr) (fs:List (Str × V))
 | own (x:Addr)
 | xd (fs:List (Str × V))
 | met (f x:Addr)
 | rng (lo hi:Int)
 | frz (o:Obj) (u:HO)
 | tbl (ps:Array Value)
 | ext (φ:Heap->Prop)
abbrev Hp:=Addr->Option HO
def upd (H:Hp) (a:Addr) (o:HO):Hp:=λb=>if b=a then some o else H b
theorem Qh {H:Hp} {a:Addr} {o:HO}:upd H a o a=some o:=by unfold upd;rw [if_pos rfl]
theorem Qk {H:Hp} {a b:Addr} {o:HO} (h:b≠a):upd H a o b=H b:=by unfold upd;rw [if_neg h]
theorem Quv {H:Hp} {a b:Addr} {o u:HO} (h:H a=some o) (h':H b=some u) (d:o≠u):a≠b:=by
 intro e;subst e;rw [h] at h';exact d (Option.some.inj h')
theorem Jj {H:Hp} {a b:Addr} {o:HO} (h:H a=some o) (h':H b=none):a≠b:=by
 intro e;subst e;rw [h] at h';cases h'
section
variable (P:Program) (w:World)
def J2 (H:Hp) (h:Heap) (a:Addr):HO->Prop
 | .lst xs=>xs.length<=sizeLine/\∃(its:List Value) (n:Nat),Vals xs its/\h.get? a=some { cls:=.type "list",data:=.seq its.toArray n }
 | .tup xs=>xs.length<=sizeLine/\∃its:List Value,Vals xs its/\IsTup h a its.toArray
 | .dK kvs=>kvs.length<=sizeLine/\(a == sysModules)=false/\∃vs,KV kvs vs/\h.DictOf (Jg P w) a vs
 | .dT kvs=>kvs.length<=sizeLine/\(a == sysModules)=false/\∃xs:List (List Key × Addr × Value),
   Paired (λ(p:List Key × V) (q:List Key × Addr × Value)=>p.1=q.1/\H q.2.1=some (.tup (p.1.map kV))/\RelV p.2 q.2.2) kvs xs /\
   ∃o es ep,h.get? a=some o/\o.ExactDict/\o.data=.dict es ep/\es.toList=xs.map (entryOfKey (tupleKind (Jg P w)))/\(xs.map (·.1)).Nodup
 | .set S n=>h.SetOf (intKind P w) a S n
 | .ins C dx fs=>H dx=some (.own a)/\fs.length<=1000/\dx≠a/\h.get? a=some (PySem.W.instObj C dx) /\
   ∃mA,h.Ns1 dx mA/\(∀f,RelO (fs.lookup f) (mA f))/\PySem.Within mA (fs.map (·.1))
 | .own _=>∃o,h.get? a=some o
 | .xd fs=>∃mA,h.Ns1 a mA/\∀f,RelO (fs.lookup f) (mA f)
 | .rng lo hi=>∃t u v,h.get? a=some { cls:=.type "range",data:=.fields #[.int lo t,.int hi u,.int 1 v] }
 | .frz o u=>h.get? a=some o/\J2 H h a u
 | .tbl ps=>∃ts:Array Value,h.get? a=some { cls:=.none,data:=.fields ts }/\(ts = #[]\/∃(b:Addr) (oc:Obj) (u:HO) (vs:Array Value) (t:Tok) (q:Str) (t':Tok),ts = #[ps.getD 0 .none,ps.getD 1 .none,.ref b]/\H b=some (.frz oc u)/\oc.data=.fields vs/\ps.getD 2 .none=.str q t'/\vs[1]? = some (.str q t))
 | .met f x=>h.get? a=some (PySem.W.methodObj (.ref f) (.ref x))
 | .ext φ=>φ h/\(∃o,h.get? a=some o)/\∀h1 h2:Heap,φ h1->(∀o,h1.get? a=some o->h2.get? a=some o)->φ h2
def HOk (H:Hp) (h:Heap):Prop:=∀a o,H a=some o->J2 P w H h a o
end
section
variable {P:Program} {w:World} {H H':Hp} {h h':Heap} {a:Addr} {o:HO}
theorem J2.lt (x:J2 P w H h a o):a<h.objs.size:=by
 cases o with
 | lst xs=>obtain ⟨_,_,_,_,e⟩:=x;exact Heap.lt_size e
 | tup xs=>obtain ⟨_,_,_,p⟩:=x;exact p.lt
 | dK kvs=>obtain ⟨_,_,_,_,o,_,_,e,_⟩:=x;exact Heap.lt_size e
 | dT kvs=>obtain ⟨_,_,_,_,o,_,_,e,_⟩:=x;exact Heap.lt_size e
 | set S n=>obtain ⟨o,_,_,_,e,_⟩:=x;exact Heap.lt_size e
 | ins C dx fs=>obtain ⟨_,_,_,e,_⟩:=x;exact Heap.lt_size e
 | own y=>obtain ⟨_,e⟩:=x;exact Heap.lt_size e
 | xd fs=>obtain ⟨_,⟨_,_,_,e,_⟩,_⟩:=x;exact Heap.lt_size e
 | rng lo hi=>obtain ⟨_,_,_,e⟩:=x;exact Heap.lt_size e
 | frz ob u=>obtain ⟨e,_⟩:=x;exact Heap.lt_size e
 | tbl ps=>obtain ⟨_,e,_⟩:=x;exact Heap.lt_size e
 | met f y=>exact Heap.lt_size (show h.get? a=some _ from x)
 | ext φ=>obtain ⟨_,⟨_,e⟩,_⟩:=x;exact Heap.lt_size e
theorem Paired.mapP {α β:Type} {F G:α->β->Prop}:∀{l₁:List α} {l₂:List β},Paired F l₁ l₂->(∀a b,F a b->G a b)->Paired G l₁ l₂
 | _,_,.nil,_=>.nil
 | _,_,.cons r t,f=>.cons (f _ _ r) (Paired.mapP t f)
theorem J2.stay (x:J2 P w H h a o) (k:∀b u,(b=a\/H b=some (.own a))->h.get? b=some u->h'.get? b=some u)
  (ho:∀b,H b=some (.own a)->H' b=some (.own a)) (ht:∀b xs,H b=some (.tup xs)->H' b=some (.tup xs)) (hf:∀b u v vs,H b=some (.frz u v)->u.data=.fields vs->H' b=some (.frz u v):=by exact λ_ _ _ _ q _=>q):J2 P w H' h' a o:=by
 induction o with
 | lst xs=>obtain ⟨z,its,n,r,e⟩:=x;exact ⟨z,its,n,r,k _ _ (.inl rfl) e⟩
 | tup xs=>obtain ⟨z,its,r,ob,e,c⟩:=x;exact ⟨z,its,r,ob,k _ _ (.inl rfl) e,c⟩
 | dK kvs=>obtain ⟨z,y,vs,r,ob,es,ep,e,c⟩:=x;exact ⟨z,y,vs,r,ob,es,ep,k _ _ (.inl rfl) e,c⟩
 | dT kvs =>
  obtain ⟨z,y,xs,r,ob,es,ep,e,c⟩:=x
  exact ⟨z,y,xs,Paired.mapP r λp q z=>⟨z.1,ht _ _ z.2.1,z.2.2⟩,ob,es,ep,k _ _ (.inl rfl) e,c⟩
 | set S n=>obtain ⟨ob,es,ep,t,e,c⟩:=x;exact ⟨ob,es,ep,t,k _ _ (.inl rfl) e,c⟩
 | ins C dx fs =>
  obtain ⟨d,z,ne,e,mA,⟨od,es,ep,e2,c⟩,r⟩:=x
  exact ⟨ho _ d,z,ne,k _ _ (.inl rfl) e,mA,⟨od,es,ep,k _ _ (.inr d) e2,c⟩,r⟩
 | own y=>obtain ⟨ob,e⟩:=x;exact ⟨ob,k _ _ (.inl rfl) e⟩
 | xd fs=>obtain ⟨mA,⟨od,es,ep,e,c⟩,r⟩:=x;exact ⟨mA,⟨od,es,ep,k _ _ (.inl rfl) e,c⟩,r⟩
 | rng lo hi=>obtain ⟨t,u,v,e⟩:=x;exact ⟨t,u,v,k _ _ (.inl rfl) e⟩
 | frz ob u ih=>obtain ⟨e,q⟩:=x;exact ⟨k _ _ (.inl rfl) e,ih q⟩
 | tbl ps =>
  obtain ⟨ts,e,r⟩:=x
  exact ⟨ts,k _ _ (.inl rfl) e,r.imp id λ⟨b,oc,u,vs,t,q,t',z1,z2,z3⟩=>⟨b,oc,u,vs,t,q,t',z1,hf _ _ _ _ z2 z3.1,z3⟩⟩
 | met f y =>
  have e:h.get? a=some (PySem.W.methodObj (.ref f) (.ref y)):=x
  show h'.get? a=some (PySem.W.methodObj (.ref f) (.ref y))
  exact k a _ (.inl rfl) e
 | ext φ=>obtain ⟨p,⟨o,e⟩,st⟩:=x;exact ⟨st _ _ p λo q=>k _ _ (.inl rfl) q,⟨o,k _ _ (.inl rfl) e⟩,st⟩
theorem HOk.lt (x:HOk P w H h) (e:H a=some o):a<h.objs.size:=(x a o e).lt
theorem HOk.fresh (x:HOk P w H h) (e:h.objs.size<=a):H a=none:=by
 cases q:H a with
 | none=>rfl
 | some u=>exact absurd (Nat.lt_of_lt_of_le (x.lt q) e) (Nat.lt_irrefl _)
theorem HOk.kept (x:HOk P w H h) (k:∀b u,h.get? b=some u->h'.get? b=some u):HOk P w H h':=λa o e =>
 (x a o e).stay (λb u _ q=>k b u q) (λ_ q=>q) λ_ _ q=>q
theorem HOk.laid (x:HOk P w H h) (k:∀b u,h.get? b=some u->h'.get? b=some u) (hp:h.objs.size<=a) (new:J2 P w (upd H a o) h' a o):HOk P w (upd H a o) h':=λb u e=>by
 have hn:=x.fresh hp
 by_cases hb:b=a
 ·subst hb;rw [Qh] at e;cases e;exact new
 ·rw [Qk hb] at e
  exact (x b u e).stay (λc v _ q=>k c v q) (λc q=>by rw [Qk (Jj q hn)];exact q) (λc xs q=>by rw [Qk (Jj q hn)];exact q) λc _ _ _ q _=>by rw [Qk (Jj q hn)];exact q
end
def Rd (H:Hp) (a:Addr) (u:HO):Prop:=H a=some u\/∃o,H a=some (.frz o u)
theorem Rd.of {H:Hp} {a:Addr} {u:HO} (h:H a=some u):Rd H a u:=.inl h
theorem Rd.ok {P:Program} {w:World} {H:Hp} {h:Heap} {a:Addr} {u:HO} (r:Rd H a u) (x:HOk P w H h):J2 P w H h a u:=by
 rcases r with r | ⟨o,r⟩
 ·exact x a u r
 ·obtain ⟨_,q⟩:=x a _ r
  exact q
def Mut:Option HO->Prop
 | some (.lst _)=>True
 | some (.dK _)=>True
 | some (.dT _)=>True
 | some (.set _ _)=>True
 | some (.ins _ _ _)=>True
 | some (.ext _)=>True
 | _=>False
section
variable {P:Program} {w:World} {H:Hp} {h h':Heap} {x e:Addr} {o':HO}
theorem HOk.write (ok:HOk P w H h) (mu:Mut (H x)) (he:e=x\/H e=some (.own x)) (k:∀b u,b≠e->h.get? b=some u->h'.get? b=some u) (heo:∃u,h'.get? e=some u)
  (new:J2 P w (upd H x o') h' x o'):HOk P w (upd H x o') h':=λb u q=>by
 have nown:∀c y,H c=some (.own y)->c≠x:=λc y r z=>by subst z;rw [r] at mu;exact mu
 have ntup:∀c xs,H c=some (.tup xs)->c≠x:=λc xs r z=>by subst z;rw [r] at mu;exact mu
 have nfrz:∀c o v,H c=some (.frz o v)->c≠x:=λc o v r z=>by subst z;rw [r] at mu;exact mu
 by_cases hb:b=x
 ·subst hb;rw [Qh] at q;cases q;exact new
 ·rw [Qk hb] at q
  by_cases hbe:b=e
  ·have q':H b=some (.own x):=by
    rcases he with z | z
    ·exact absurd (hbe.trans z) hb
    ·rw [hbe];exact z
   rw [q] at q';cases q'
   obtain ⟨v,hv⟩:=heo
   exact ⟨v,by rw [hbe];exact hv⟩
  ·refine (ok b u q).stay (λc v hc r=>k c v ?_ r) (λc r=>by rw [Qk (nown c b r)];exact r) (λc xs r=>by rw [Qk (ntup c xs r)];exact r) λc o v _ r _=>by rw [Qk (nfrz c o v r)];exact r
   rcases hc with rfl | hc
   ·exact hbe
   ·rintro rfl
    rcases he with z | z
    ·exact nown c b hc z
    ·rw [hc] at z;cases z;exact hb rfl
end
structure Un (fs ex:List Addr) (H H':Hp) (h h':Heap):Prop where
 keep:∀b o,h.get? b=some o->H b=none->b∉fs->b∉ex->h'.get? b=some o
 slot:∀b o,h.get? b=some o->H b=none->b∈fs->b∉ex->∃sl,h'.get? b=some { o with slots:=sl }
 free:∀b o,h.get? b=some o->H b=none->b∉ex->H' b=none
 there:∀b o,h.get? b=some o->b∉ex->∃o',h'.get? b=some o'
 tups:∀b xs,H b=some (.tup xs)->H' b=some (.tup xs)
 frzs:∀b o u,H b=some (.frz o u)->H' b=some (.frz o u)
 tbls:∀b ps,H b=some (.tbl ps)->∃more,H' b=some (.tbl (ps++more))
section
variable {fs fs' ex ex':List Addr} {H H1 H2:Hp} {h h1 h2 h':Heap} {a x e:Addr} {o:HO}
theorem Un.any (u:Un fs ex H H1 h h1) {b:Addr} {ob:Obj} (q:h.get? b=some ob) (n:H b=none) (hx:b∉ex):∃sl,h1.get? b=some { ob with slots:=sl }:=by
 by_cases hb:b∈fs
 ·exact u.slot b ob q n hb hx
 ·exact ⟨ob.slots,u.keep b ob q n hb hx⟩
theorem Un.kept (k:∀b u,h.get? b=some u->h'.get? b=some u):Un fs ex H H h h' :=
 ⟨λb ob q _ _ _=>k b ob q,λb ob q _ _ _=>⟨ob.slots,k b ob q⟩,λ_ _ _ n _=>n,λb ob q _=>⟨ob,k b ob q⟩,λ_ _ q=>q,λ_ _ _ q=>q,λ_ ps q=>⟨#[],by rw [q];simp⟩⟩
theorem Un.refl:Un fs ex H H h h:=Un.kept λ_ _ q=>q
theorem Un.laid (k:∀b u,h.get? b=some u->h'.get? b=some u) (hp:h.objs.size<=a) (hn:H a=none):Un fs ex H (upd H a o) h h' where
 keep:=λb u q _ _ _=>k b u q
 slot:=λb u q _ _ _=>⟨u.slots,k b u q⟩
 free:=λb u q n _=>by rw [Qk (Nat.ne_of_lt (Nat.lt_of_lt_of_le (Heap.lt_size q) hp))];exact n
 there:=λb u q _=>⟨u,k b u q⟩
 tups:=λb xs q=>by rw [Qk (Jj q hn)];exact q
 frzs:=λb u xs q=>by rw [Qk (Jj q hn)];exact q
 tbls:=λb ps q=>⟨#[],by rw [Qk (Jj q hn),q];simp⟩
theorem Un.write (mu:Mut (H x)) (he:e=x\/H e=some (.own x)) (k:∀b u,b≠e->h.get? b=some u->h'.get? b=some u) (heo:∃u,h'.get? e=some u):Un fs ex H (upd H x o) h h':=by
 have hx:∀b,H b=none->b≠x:=λb n z=>by subst z;rw [n] at mu;exact mu
 have hb:∀b,H b=none->b≠e:=λb n z=>by
  subst z
  rcases he with r | r
  ·exact hx b n r
  ·rw [n] at r;cases r
 have hm:∀b u,H b=some u->¬Mut (some u)->b≠x:=λb u q nm z=>by subst z;rw [q] at mu;exact nm mu
 refine ⟨λb u q n _ _=>k b u (hb b n) q,λb u q n _ _=>⟨u.slots,k b u (hb b n) q⟩,λb u q n _=>by rw [Qk (hx b n)];exact n,λb u q _=>?_,
  λb xs q=>by rw [Qk (hm b _ q λz=>z)];exact q,λb u xs q=>by rw [Qk (hm b _ q λz=>z)];exact q,λb ps q=>⟨#[],by rw [Qk (hm b _ q λz=>z),q];simp⟩⟩
 by_cases hbe:b=e
 ·subst hbe;exact heo
 ·exact ⟨u,k b u hbe q⟩
end
def trk (h:Heap) (H:Hp):List Addr:=(List.range h.objs.size).filter λa=>(H a).isSome
def hidT (h:Heap) (H:Hp):Heap:=PySem.W.hideAll h (trk h H)
theorem Qk0 (h:Heap) (H:Hp):(hidT h H).objs.size=h.objs.size:=PySem.W.hideAll_size _ _
theorem Qnj {h:Heap} {H:Hp} {b:Addr} {o:Obj} (e:h.get? b=some o) (n:H b=none):(hidT h H).get? b=some o :=
 PySem.W.hideAll_get _ e λhm=>by
  have q:(H b).isSome=true:=(List.mem_filter.mp hm).2
  rw [n] at q;simp at q
theorem Qqk {h:Heap} {H:Hp} {b:Addr} {o:Obj} (e:(hidT h H).get? b=some o):h.get? b=some o/\H b=none:=by
 have e':h.get? b=some o:=PySem.W.of_hideAll (trk h H) e
 refine ⟨e',?_⟩
 cases q:H b with
 | none=>rfl
 | some x =>
  have hm:b∈trk h H:=List.mem_filter.mpr ⟨List.mem_range.mpr (Heap.lt_size e'),by simp [q]⟩
  have z:(hidT h H).get? b=none:=PySem.W.hideAll_none (trk h H) hm
  rw [z] at e;cases e
end L2
namespace L2
open PySem PySem.Spec PyProof.Rows
structure Mod (K:PySem.W.Frag) (mg:Str->Option Value) (base:Heap):Prop where
 kin:K.In base
 glob:base.Ns mainGlobals mg
 blt:∃mb,base.Ns builtinsNs mb/\∀x:Str,x ≠ "__name__" -> mb x=bootBuiltins x
 nolimit:base.NoLimit
structure Cx where
 prog:Program
 w:World
 K:PySem.W.Frag
 mg:Str->Option Value
 base:Heap
 A:Around
 N:List Str
 s₀:Shared
 H₀:Hp
 env:Env
 outer:List Env
 stack:List Env
 ex:List Addr
 fn:Str->Bool
 calm:Bool
 pn:List (Addr × Obj)
 xe:Value->Shared->Prop
def frs (l:List Env):List Addr:=l.filterMap (·.frame)
abbrev Cx.fs (X:Cx):List Addr:=frs X.outer
def Vis (sc:Scope) (x:Str):Prop:=sc.names.lookup x=some .local\/sc.names.lookup x=some .cell\/sc.names.lookup x=some .free
def Loc (sc:Scope) (x:Str):Prop:=sc.names.lookup x=some .local\/sc.names.lookup x=some .cell
def Look (env:Env) (h:Heap) (m:Str->Option Value) (x:Str) (u:Value):Prop :=
 (env.kindOf x=some .local/\m x=some u)\/((env.kindOf x=some .cell\/env.kindOf x=some .free)/\∃c,env.cells.lookup x=some c/\h.IsCell c (some u))
structure Cx.Ok (X:Cx):Prop where
 mod:Mod X.K X.mg X.base
 kind:X.env.scope.kind=.function
 glob:X.env.globals=mainGlobals
 blt:X.env.builtins=builtinsNs
 above:X.s₀.heap.objs.size<=X.env.locals
 inj:∀x y c,X.env.cells.lookup x=some c->X.env.cells.lookup y=some c->x=y
 has:∀x,(X.env.kindOf x=some .cell\/X.env.kindOf x=some .free)->∃c,X.env.cells.lookup x=some c
 cab:∀x c,X.fn x=true->X.env.cells.lookup x=some c->X.s₀.heap.objs.size<=c
 hd:X.calm=true->X.A.handled=none
 frames:X.A.frames=some X.stack
 stk:X.stack=X.outer\/(X.stack=X.env::X.outer/\X.env.frame=some X.env.locals)
 exf:∀b∈X.ex,b≠X.env.locals/\∀x c,X.env.cells.lookup x=some c->c≠b
 bs:∀b o,X.base.get? b=some o->X.s₀.heap.get? b=some o/\X.H₀ b=none
 bsz:X.base.objs.size<=X.s₀.heap.objs.size
 noex:∀b o,X.base.get? b=some o->b∉X.ex
 exfs:∀b∈X.ex,b∉X.fs
 funs:X.s₀.heap.FunFrames X.base X.outer
 frf:∀b∈X.fs,X.H₀ b=none
structure Inv (X:Cx) (pins:List (Addr × Obj)) (σ:List (Option V)) (H:Hp) (s:Shared):Prop where
 ok:X.Ok
 os:s.os=X.s₀.os
 bare:AllBare s.gens
 base:Un X.fs X.ex X.H₀ H X.s₀.heap s.heap
 loc:∃m,s.heap.Ns X.env.locals m/\∀(i:Nat) (x:Str) (v:V),X.N[i]? = some x->σ[i]? = some (some v)->Vis X.env.scope x->∃u,RelV v u/\Look X.env s.heap m x u
 cell:∀x c,X.env.cells.lookup x=some c->∃v,s.heap.IsCell c v
 free:H X.env.locals=none
 freeC:∀x c,X.env.cells.lookup x=some c->H c=none
 pin:∀p∈X.pn++pins,s.heap.get? p.1=some p.2/\H p.1=none/\p.1≠X.env.locals/\p.1∉X.fs/\∀v,p.2.data ≠ .cell v
 hok:HOk X.prog X.w H s.heap
 len:σ.length=X.N.length
section
variable {X:Cx} {pins:List (Addr × Obj)} {σ:List (Option V)} {H H':Hp} {s:Shared} {h':Heap}
theorem Cx.Ok.nofr (ok:X.Ok) {b:Addr} {o:Obj} (e:X.base.get? b=some o):b∉X.fs:=λhb=>by
 have:=(ok.funs.mem hb).1
 rw [e] at this;cases this
theorem Inv.bs (I:Inv X pins σ H s):∀b o,X.base.get? b=some o->s.heap.get? b=some o/\H b=none:=λb o e =>
 ⟨I.base.keep b o (I.ok.bs b o e).1 (I.ok.bs b o e).2 (I.ok.nofr e) (I.ok.noex b o e),I.base.free b o (I.ok.bs b o e).1 (I.ok.bs b o e).2 (I.ok.noex b o e)⟩
theorem Inv.bk (I:Inv X pins σ H s):∀b o,X.base.get? b=some o->s.heap.get? b=some o:=λb o e=>(I.bs b o e).1
theorem Inv.mod (I:Inv X pins σ H s):Mod X.K X.mg X.base:=I.ok.mod
theorem Inv.kIn (I:Inv X pins σ H s):X.K.In s.heap:=I.ok.mod.kin.keeps I.bk
theorem Inv.lt (I:Inv X pins σ H s):X.env.locals<s.heap.objs.size:=let ⟨_,hn,_⟩:=I.loc;hn.lt
theorem Inv.sz (I:Inv X pins σ H s):X.s₀.heap.objs.size<=s.heap.objs.size:=Nat.le_trans I.ok.above (Nat.le_of_lt I.lt)
theorem Inv.nofs (I:Inv X pins σ H s) {a:Addr} (h:s.heap.objs.size<=a):a∉X.fs:=λhb=>by
 obtain ⟨_,o,ho,_⟩:=I.ok.funs.mem hb
 exact absurd (Nat.lt_of_lt_of_le (Heap.lt_size ho) (Nat.le_trans I.sz h)) (Nat.lt_irrefl _)
theorem Inv.cne (I:Inv X pins σ H s):∀x c,X.env.cells.lookup x=some c->c≠X.env.locals:=λx c e z=>by
 obtain ⟨v,o,ho,hd⟩:=I.cell x c e
 obtain ⟨m,⟨o',es,ep,ho',hd',_⟩,_⟩:=I.loc
 rw [z,ho'] at ho;cases ho;rw [hd'] at hd;cases hd
theorem Inv.funs (I:Inv X pins σ H s):s.heap.FunFrames X.base X.outer:=by
 have all:∀(l:List Env),(∀b∈frs l,b∈X.fs)->X.s₀.heap.FunFrames X.base l->s.heap.FunFrames X.base l:=by
  intro l
  induction l with
  | nil=>intro _ _;trivial
  | cons env r ih =>
   intro hs hl
   obtain ⟨hk,⟨L,o,hf,hn,ho,hd⟩,hr⟩:=hl
   have hL:L∈X.fs:=hs L (by unfold frs;rw [List.filterMap_cons,hf];exact List.mem_cons_self)
   obtain ⟨sl,e⟩:=I.base.slot L o ho (I.ok.frf L hL) hL λz=>I.ok.exfs L z hL
   exact ⟨hk,⟨L,_,hf,hn,e,hd⟩,ih (λb hb=>hs b (by unfold frs;rw [List.filterMap_cons,hf];exact List.mem_cons_of_mem _ hb)) hr⟩
 exact all X.outer (λ_ hb=>hb) I.ok.funs
theorem Inv.stack (I:Inv X pins σ H s):s.heap.FunFrames X.base X.stack:=by
 rcases I.ok.stk with e | ⟨e,hf⟩
 ·rw [e];exact I.funs
 ·rw [e]
  obtain ⟨m,hn,_⟩:=I.loc
  refine .cons (by rw [I.ok.kind];decide) hf hn ?_ I.funs
  exact Heap.get?_none_of_le (Nat.le_trans I.ok.bsz I.ok.above)
theorem Inv.stkSub (I:Inv X pins σ H s):∀b∈frs X.stack,b∈X.env.locals::X.fs:=λb hb=>by
 rcases I.ok.stk with e | ⟨e,hf⟩
 ·rw [e] at hb;exact List.mem_cons_of_mem _ hb
 ·rw [e] at hb
  unfold frs at hb
  rw [List.filterMap_cons,hf] at hb
  exact hb
theorem Inv.stkFree (I:Inv X pins σ H s):∀b∈frs X.stack,H b=none:=λb hb=>by
 rcases List.mem_cons.mp (I.stkSub b hb) with e | hb
 ·rw [e];exact I.free
 ·obtain ⟨_,o,ho,_⟩:=I.ok.funs.mem hb
  exact I.base.free b o ho (I.ok.frf b hb) λz=>I.ok.exfs b z hb
theorem Inv.step {g':Array GenState} {t':Nat} {d':Drawn} {ch:List Addr} (I:Inv X pins σ H s)
  (hch:∀b∈ch,(b∈X.ex\/X.s₀.heap.objs.size<=b)/\b≠X.env.locals/\(∀x c,X.env.cells.lookup x=some c->c≠b)/\∀p∈X.pn++pins,p.1≠b)
  (keep:∀b o,b≠X.env.locals->b∉X.fs->b∉ch->s.heap.get? b=some o->H b=none->h'.get? b=some o)
  (slot:∀b o,b≠X.env.locals->b∈X.fs->b∉ch->s.heap.get? b=some o->H b=none->∃sl,h'.get? b=some { o with slots:=sl }) (free:∀b o,b∉ch->s.heap.get? b=some o->H b=none->H' b=none)
  (there:∀b o,b∉ch->s.heap.get? b=some o->∃o',h'.get? b=some o')
  (tups:∀b xs,H b=some (.tup xs)->H' b=some (.tup xs)) (frzs:∀b o u,H b=some (.frz o u)->H' b=some (.frz o u)) (tbls:∀b ps,H b=some (.tbl ps)->∃more,H' b=some (.tbl (ps++more)))
  (ns:∀m,s.heap.Ns X.env.locals m->h'.Ns X.env.locals m) (hok:HOk X.prog X.w H' h') (hg:AllBare g') :
  Inv X pins σ H' { s with heap:=h',gens:=g',drawn:=d',toks:=t' }:=by
 have neL:∀b o,X.s₀.heap.get? b=some o->b≠X.env.locals:=λb o e=>Nat.ne_of_lt (Nat.lt_of_lt_of_le (Heap.lt_size e) I.ok.above)
 have neC:∀b o,X.s₀.heap.get? b=some o->b∉X.ex->b∉ch:=λb o e hx hb=>by
  rcases (hch b hb).1 with z | z
  ·exact hx z
  ·exact absurd (Nat.lt_of_lt_of_le (Heap.lt_size e) z) (Nat.lt_irrefl _)
 have cellK:∀x c,X.env.cells.lookup x=some c->∀v,s.heap.IsCell c v->h'.IsCell c v:=λx c e v ⟨o,ho,hd⟩=>by
  have nch:c∉ch:=λz=>(hch c z).2.2.1 x c e rfl
  by_cases hc:c∈X.fs
  ·obtain ⟨sl,q⟩:=slot c o (I.cne x c e) hc nch ho (I.freeC x c e)
   exact ⟨_,q,hd⟩
  ·exact ⟨o,keep c o (I.cne x c e) hc nch ho (I.freeC x c e),hd⟩
 refine ⟨I.ok,I.os,hg,⟨λb o e n hb hx=>?_,λb o e n hb hx=>?_,λb o e n hx=>?_,λb o e hx=>?_,λb xs e=>tups b xs (I.base.tups b xs e),λb o xs e=>frzs b o xs (I.base.frzs b o xs e),λb ps e=>?_⟩,?_,λx c e=>?_,?_,λx c e=>?_,λp hp=>?_,hok,I.len⟩
 ·exact keep b o (neL b o e) hb (neC b o e hx) (I.base.keep b o e n hb hx) (I.base.free b o e n hx)
 ·obtain ⟨sl,e1⟩:=I.base.slot b o e n hb hx
  obtain ⟨sl',e2⟩:=slot b _ (neL b o e) hb (neC b o e hx) e1 (I.base.free b o e n hx)
  exact ⟨sl',e2⟩
 ·obtain ⟨o',e1⟩:=I.base.there b o e hx
  exact free b o' (neC b o e hx) e1 (I.base.free b o e n hx)
 ·obtain ⟨o',e1⟩:=I.base.there b o e hx
  exact there b o' (neC b o e hx) e1
 ·obtain ⟨m1,e1⟩:=I.base.tbls b ps e
  obtain ⟨m2,e2⟩:=tbls b _ e1
  exact ⟨m1++m2,by rw [e2,Array.append_assoc]⟩
 ·obtain ⟨m,hn,hl⟩:=I.loc
  refine ⟨m,ns m hn,λi x v e1 e2 e3=>?_⟩
  obtain ⟨u,r,l⟩:=hl i x v e1 e2 e3
  refine ⟨u,r,?_⟩
  rcases l with l | ⟨k,c,e,z⟩
  ·exact .inl l
  ·exact .inr ⟨k,c,e,cellK x c e _ z⟩
 ·obtain ⟨v,z⟩:=I.cell x c e
  exact ⟨v,cellK x c e v z⟩
 ·obtain ⟨m,⟨o,_,_,ho,_⟩,_⟩:=I.loc
  exact free _ o (λz=>(hch _ z).2.1 rfl) ho I.free
 ·obtain ⟨v,o,ho,hd⟩:=I.cell x c e
  exact free c o (λz=>(hch c z).2.2.1 x c e rfl) ho (I.freeC x c e)
 ·obtain ⟨e,n,ne,nf,d⟩:=I.pin p hp
  have nch:p.1∉ch:=λz=>(hch p.1 z).2.2.2 p hp rfl
  exact ⟨keep p.1 p.2 ne nf nch e n,free p.1 p.2 nch e n,ne,nf,d⟩
theorem Inv.un {t':Nat} (I:Inv X pins σ H s) (u:Un X.fs [] H H' s.heap h') (hok:HOk X.prog X.w H' h'):Inv X pins σ H' { s with heap:=h',toks:=t' }:=by
 obtain ⟨m,⟨o,es,ep,ho,r⟩,_⟩:=id I.loc
 obtain ⟨sl,hL⟩:=u.any ho I.free (by simp)
 exact I.step (g':=s.gens) (d':=s.drawn) (ch:=[]) (λ_ z=>nomatch z) (λb o _ hb _ e n=>u.keep b o e n hb (by simp)) (λb o _ hb _ e n=>u.slot b o e n hb (by simp)) (λb o _ e n=>u.free b o e n (by simp)) (λb o _ e=>u.there b o e (by simp)) u.tups u.frzs u.tbls (λm' hm=>by
  obtain ⟨o',es',ep',ho',r'⟩:=hm
  rw [ho] at ho';cases ho'
  exact ⟨_,es',ep',hL,r'⟩) hok I.bare
theorem Inv.call {g':Array GenState} {t':Nat} {d':Drawn} {ch:List Addr} (I:Inv X pins σ H s) (u:Un (frs X.stack) ch H H' s.heap h') (hok:HOk X.prog X.w H' h') (hg:AllBare g')
  (hch:∀b∈ch,(b∈X.ex\/X.s₀.heap.objs.size<=b)/\b≠X.env.locals/\(∀x c,X.env.cells.lookup x=some c->c≠b)/\∀p∈X.pn++pins,p.1≠b) :
  Inv X pins σ H' { s with heap:=h',gens:=g',drawn:=d',toks:=t' }:=by
 obtain ⟨m,⟨o,es,ep,ho,r⟩,_⟩:=id I.loc
 obtain ⟨sl,hL⟩:=u.any ho I.free λz=>(hch _ z).2.1 rfl
 exact I.step (ch:=ch) hch (λb o hL hb hc e n=>u.keep b o e n (λz=>(List.mem_cons.mp (I.stkSub b z)).elim hL hb) hc) (λb o _ _ hc e n=>u.any e n hc) (λb o hc e n=>u.free b o e n hc) (λb o hc e=>u.there b o e hc) u.tups u.frzs u.tbls (λm' hm=>by
  obtain ⟨o',es',ep',ho',r'⟩:=hm
  rw [ho] at ho';cases ho'
  exact ⟨_,es',ep',hL,r'⟩) hok hg
theorem Inv.turned {t':Nat} {it:Addr} (I:Inv X pins σ H s) (k:∀b o,b≠it->s.heap.get? b=some o->h'.get? b=some o) (hn:H it=none) (hL:it≠X.env.locals)
  (h1:it∈X.ex\/X.s₀.heap.objs.size<=it) (h2:∀x c,X.env.cells.lookup x=some c->c≠it) (h3:∀p∈X.pn++pins,p.1≠it):Inv X pins σ H { s with heap:=h',toks:=t' }:=by
 have nit:∀b u,H b=some u->b≠it:=λb u e z=>by rw [z,hn] at e;cases e
 refine I.step (g':=s.gens) (d':=s.drawn) (ch:=[it]) (λb hb=>?_) (λb o _ _ hc e _=>k b o (λz=>hc (by simp [z])) e) (λb o _ _ hc e _=>⟨o.slots,k b o (λz=>hc (by simp [z])) e⟩) (λ_ _ _ _ n=>n)
  (λb o hc e=>⟨o,k b o (λz=>hc (by simp [z])) e⟩) (λ_ _ e=>e) (λ_ _ _ e=>e) (λb ps e=>⟨#[],by rw [e];simp⟩) (λm hm=>?_) (λb u e=>?_) I.bare
 ·have e:b=it:=by simpa using hb
  subst e
  exact ⟨h1,hL,h2,h3⟩
 ·obtain ⟨o,es,ep,ho,r⟩:=hm
  exact ⟨o,es,ep,k _ o (Ne.symm hL) ho,r⟩
 ·refine (I.hok b u e).stay (λc v hc q=>k c v ?_ q) (λ_ q=>q) λ_ _ q=>q
  rcases hc with z | z
  ·rw [z];exact nit b u e
  ·exact nit c _ z
theorem Inv.tok (I:Inv X pins σ H s) (t:Nat):Inv X pins σ H { s with toks:=t }:=I.un (h':=s.heap) (t':=t) Un.refl I.hok
theorem Inv.kept {t':Nat} (I:Inv X pins σ H s) (k:∀b u,s.heap.get? b=some u->h'.get? b=some u):Inv X pins σ H { s with heap:=h',toks:=t' }:=I.un (Un.kept k) (I.hok.kept k)
theorem Inv.laid {a:Addr} {o:HO} {t':Nat} (I:Inv X pins σ H s) (k:∀b u,s.heap.get? b=some u->h'.get? b=some u) (hp:s.heap.objs.size<=a) (new:J2 X.prog X.w (upd H a o) h' a o) :
  Inv X pins σ (upd H a o) { s with heap:=h',toks:=t' }:=I.un (Un.laid k hp (I.hok.fresh hp)) (I.hok.laid k hp new)
theorem Inv.write {x e:Addr} {o:HO} {t':Nat} (I:Inv X pins σ H s) (mu:Mut (H x)) (he:e=x\/H e=some (.own x)) (k:∀b u,b≠e->s.heap.get? b=some u->h'.get? b=some u) (heo:∃u,h'.get? e=some u)
  (new:J2 X.prog X.w (upd H x o) h' x o):Inv X pins σ (upd H x o) { s with heap:=h',toks:=t' }:=I.un (Un.write mu he k heo) (I.hok.write mu he k heo new)
theorem Inv.pins_of {pins':List (Addr × Obj)} (I:Inv X pins σ H s) (h:∀p∈pins',s.heap.get? p.1=some p.2/\H p.1=none/\p.1≠X.env.locals/\p.1∉X.fs/\∀v,p.2.data ≠ .cell v):Inv X pins' σ H s :=
 ⟨I.ok,I.os,I.bare,I.base,I.loc,I.cell,I.free,I.freeC,λp hp=>(List.mem_append.mp hp).elim (λz=>I.pin p (List.mem_append_left _ z)) (h p),I.hok,I.len⟩
theorem Qdq {N:List Str} (hN:N.Nodup) {i j:Nat} {x:Str} (a:N[i]? = some x) (b:N[j]? = some x):i=j:=by
 obtain ⟨h1,e1⟩:=List.getElem?_eq_some_iff.mp a
 obtain ⟨h2,e2⟩:=List.getElem?_eq_some_iff.mp b
 exact (List.getElem_inj hN).mp (e1.trans e2.symm)
theorem Qa0 {M:Model} {A:Around} {E:Value->Shared->Prop} {i:Nat} {x:Str} {v:V} {u:Value} {Q:Unit->Shared->Prop} (I:Inv X pins σ H s) (hN:X.N.Nodup) (hi:X.N[i]? = some x) (hx:Loc X.env.scope x) (r:RelV v u)
  (h:∀s',Inv X pins (σ.set i (some v)) H s'->(∃a,Heap.SameBut a s.heap s'.heap/\(a=X.env.locals\/X.env.cells.lookup x=some a))->Q () s') (hf:X.fn x=true\/X.env.scope.names.lookup x=some .local:=by first | exact .inl rfl | exact .inr rfl | assumption):wpAny M A (storeName X.env x u) Q E s:=by
 obtain ⟨m,hn,hl⟩:=id I.loc
 have hcls:(X.env.scope.kind == .class || (X.env.scope.kind == .module && X.env.locals != X.env.globals))=false:=by rw [I.ok.kind];rfl
 have hiσ:i<σ.length:=by rw [I.len];exact (List.getElem?_eq_some_iff.mp hi).1
 have cne:=I.cne
 have tracked:∀{a:Addr} {h':Heap},(∃o,s.heap.get? a=some o/\H a=none)->Heap.SameBut a s.heap h'->HOk X.prog X.w H h':=λ{a h'} ha hs b ob e=>by
  obtain ⟨_,_,hfree⟩:=ha
  refine (I.hok b ob e).stay (λc w' hc q=>(hs.2 c ?_).trans q) (λ_ q=>q) λ_ _ q=>q
  rintro rfl
  rcases hc with rfl | hc
  ·rw [hfree] at e;cases e
  ·rw [hfree] at hc;cases hc
 rcases hx with hk | hk
 ·refine wpAny_storeName_local hk hn (λh' hn' hs=>?_) hcls
  obtain ⟨oL,_,_,hoL,_⟩:=id hn
  refine h _ ⟨I.ok,I.os,I.bare,⟨λb o e n hb hx=>?_,λb o e n hb hx=>?_,I.base.free,λb o e hx=>?_,I.base.tups,I.base.frzs,I.base.tbls⟩,⟨_,hn',λj y v' e1 e2 e3=>?_⟩,λy c e=>?_,I.free,I.freeC,λp hp=>?_,tracked ⟨oL,hoL,I.free⟩ hs,by simpa using I.len⟩ ⟨_,hs,.inl rfl⟩
  ·exact (hs.2 b (Nat.ne_of_lt (Nat.lt_of_lt_of_le (Heap.lt_size e) I.ok.above))).trans (I.base.keep b o e n hb hx)
  ·obtain ⟨sl,e1⟩:=I.base.slot b o e n hb hx
   exact ⟨sl,(hs.2 b (Nat.ne_of_lt (Nat.lt_of_lt_of_le (Heap.lt_size e) I.ok.above))).trans e1⟩
  ·obtain ⟨o',e1⟩:=I.base.there b o e hx
   exact ⟨o',(hs.2 b (Nat.ne_of_lt (Nat.lt_of_lt_of_le (Heap.lt_size e) I.ok.above))).trans e1⟩
  ·by_cases hj:j=i
   ·subst hj
    rw [hi] at e1;cases e1
    rw [List.getElem?_set_self hiσ] at e2
    cases e2
    exact ⟨u,r,.inl ⟨hk,by simp⟩⟩
   ·rw [List.getElem?_set_ne (Ne.symm hj)] at e2
    obtain ⟨u',r',q⟩:=hl j y v' e1 e2 e3
    refine ⟨u',r',?_⟩
    rcases q with ⟨k,e⟩ | ⟨k,c,e,z⟩
    ·refine .inl ⟨k,?_⟩
     have:y≠x:=λe=>hj (Qdq hN e1 (e ▸ hi))
     simp [this,e]
    ·exact .inr ⟨k,c,e,z.sameBut hs (cne y c e)⟩
  ·obtain ⟨w',z⟩:=I.cell y c e
   exact ⟨w',z.sameBut hs (cne y c e)⟩
  ·obtain ⟨e,n,ne,nf,d⟩:=I.pin p hp
   exact ⟨(hs.2 p.1 ne).trans e,n,ne,nf,d⟩
 ·have hfn:X.fn x=true:=by
   rcases hf with z | z
   ·exact z
   ·rw [z] at hk;cases hk
  obtain ⟨c,hc⟩:=I.ok.has x (.inl hk)
  obtain ⟨w',z⟩:=I.cell x c hc
  refine wpAny_storeName_cell I.ok.kind hk hc z (λh' hc' hs=>?_)
  obtain ⟨oc,hoc,hocd⟩:=id z
  refine h { s with heap:=h' } ⟨I.ok,I.os,I.bare,⟨λb o e n hb hx=>?_,λb o e n hb hx=>?_,I.base.free,λb o e hx=>?_,I.base.tups,I.base.frzs,I.base.tbls⟩,⟨m,hn.sameBut hs (Ne.symm (cne x c hc)),λj y v' e1 e2 e3=>?_⟩,λy c' e=>?_,I.free,I.freeC,λp hp=>?_,tracked ⟨oc,hoc,I.freeC x c hc⟩ hs,by simpa using I.len⟩ ⟨c,hs,.inr hc⟩
  ·exact (hs.2 b (Nat.ne_of_lt (Nat.lt_of_lt_of_le (Heap.lt_size e) (I.ok.cab x c hfn hc)))).trans (I.base.keep b o e n hb hx)
  ·obtain ⟨sl,e1⟩:=I.base.slot b o e n hb hx
   exact ⟨sl,(hs.2 b (Nat.ne_of_lt (Nat.lt_of_lt_of_le (Heap.lt_size e) (I.ok.cab x c hfn hc)))).trans e1⟩
  ·obtain ⟨o',e1⟩:=I.base.there b o e hx
   exact ⟨o',(hs.2 b (Nat.ne_of_lt (Nat.lt_of_lt_of_le (Heap.lt_size e) (I.ok.cab x c hfn hc)))).trans e1⟩
  ·by_cases hj:j=i
   ·subst hj
    rw [hi] at e1;cases e1
    rw [List.getElem?_set_self hiσ] at e2
    cases e2
    exact ⟨u,r,.inr ⟨.inl hk,c,hc,hc'⟩⟩
   ·rw [List.getElem?_set_ne (Ne.symm hj)] at e2
    obtain ⟨u',r',q⟩:=hl j y v' e1 e2 e3
    refine ⟨u',r',?_⟩
    rcases q with q | ⟨k,c',e,z'⟩
    ·exact .inl q
    ·refine .inr ⟨k,c',e,z'.sameBut hs ?_⟩
     rintro rfl
     exact hj (Qdq hN e1 (I.ok.inj _ _ _ e hc ▸ hi))
  ·by_cases hcc:c'=c
   ·subst hcc;exact ⟨_,hc'⟩
   ·obtain ⟨w2,z2⟩:=I.cell y c' e
    exact ⟨w2,z2.sameBut hs hcc⟩
  ·obtain ⟨e,n,ne,nf,d⟩:=I.pin p hp
   refine ⟨(hs.2 p.1 ?_).trans e,n,ne,nf,d⟩
   intro q
   rw [q,hoc] at e
   have q':oc=p.2:=Option.some.inj e
   exact d w' (by rw [← q'];exact hocd)
theorem Qah {M:Model} {A:Around} {E:Value->Shared->Prop} {i:Nat} {x:Str} {v:V} {u:Value} {Q:Unit->Shared->Prop} (I:Inv X pins σ H s) (hN:X.N.Nodup) (hi:X.N[i]? = some x) (hx:Loc X.env.scope x) (r:RelV v u)
  (h:∀s',Inv X pins (σ.set i (some v)) H s'->Q () s') (hf:X.fn x=true\/X.env.scope.names.lookup x=some .local:=by first | exact .inl rfl | exact .inr rfl | assumption):wpAny M A (storeName X.env x u) Q E s :=
 Qa0 I hN hi hx r (λs' I' _=>h s' I') hf
theorem Inv.call' {s':Shared} {ch:List Addr} (I:Inv X pins σ H s) (ho:s'.os=s.os) (u:Un (frs X.stack) ch H H' s.heap s'.heap) (hok:HOk X.prog X.w H' s'.heap) (hg:AllBare s'.gens)
  (hch:∀b∈ch,(b∈X.ex\/X.s₀.heap.objs.size<=b)/\b≠X.env.locals/\(∀x c,X.env.cells.lookup x=some c->c≠b)/\∀p∈X.pn++pins,p.1≠b):Inv X pins σ H' s':=by
 obtain ⟨h',g',d',t',o'⟩:=s'
 have e:o'=s.os:=ho
 subst e
 exact I.call (g':=g') (t':=t') (d':=d') u hok hg hch
end
abbrev XK:=Value->Option Addr->Hp->Prop
abbrev St:=List (Option V)
abbrev VK:=V->Hp->Prop
abbrev TE:=St->Hp->VK->Prop
abbrev TT:=St->Hp->(Bool->Hp->Prop)->Prop
abbrev TA:=St->Hp->(List V->Hp->Prop)->Prop
structure Ends where
 nx:St->Hp->Prop
 rt:VK
 bk:St->Hp->Prop:=λ_ _=>False
 ct:St->Hp->Prop:=λ_ _=>False
abbrev TS:=Ends->St->Hp->Prop
def EP (X:Cx) (pins:List (Addr × Obj)) (σ:St) (Q:VK) (u:Value) (s':Shared):Prop:=∃v H',Inv X pins σ H' s'/\RelV v u/\Q v H'
def TP (X:Cx) (pins:List (Addr × Obj)) (σ:St) (Q:Bool->Hp->Prop) (b:Bool) (s':Shared):Prop:=∃H',Inv X pins σ H' s'/\Q b H'
def AP (X:Cx) (pins:List (Addr × Obj)) (σ:St) (Q:List V->Hp->Prop) (us:List Value) (s':Shared):Prop:=∃vs H',Inv X pins σ H' s'/\Vals vs us/\Q vs H'
def SP (X:Cx) (pins:List (Addr × Obj)) (D:Ends) (f:Flow) (s':Shared):Prop :=
 match f with
 | .next=>∃σ' H',Inv X pins σ' H' s'/\D.nx σ' H'
 | .brk=>∃σ' H',Inv X pins σ' H' s'/\D.bk σ' H'
 | .cont=>∃σ' H',Inv X pins σ' H' s'/\D.ct σ' H'
 | .ret u=>∃v σ' H',Inv X pins σ' H' s'/\RelV v u/\D.rt v H'
def PE (X:Cx) (e:Expr) (t:TE):Prop :=
 ∀(pins:List (Addr × Obj)) (s:Shared) (σ:St) (H:Hp) (Q:VK),Inv X pins σ H s->t σ H Q->wpAny (model X.prog X.w) X.A (eval e X.env) (EP X pins σ Q) X.xe s
def PT (X:Cx) (e:Expr) (t:TT):Prop :=
 ∀(pins:List (Addr × Obj)) (s:Shared) (σ:St) (H:Hp) (Q:Bool->Hp->Prop),Inv X pins σ H s->t σ H Q->wpAny (model X.prog X.w) X.A (isTrue e X.env (eval e X.env)) (TP X pins σ Q) X.xe s
def PW (X:Cx) (e:Expr) (t:TT):Prop :=
 ∀(whole:Sem Value) (pins:List (Addr × Obj)) (s:Shared) (σ:St) (H:Hp) (Q:Bool->Hp->Prop),Inv X pins σ H s->t σ H Q->wpAny (model X.prog X.w) X.A (isTrue e X.env whole) (TP X pins σ Q) X.xe s
theorem PW.pt {X:Cx} {e:Expr} {t:TT} (h:PW X e t):PT X e t:=h _
def PA (X:Cx) (es:List Expr) (t:TA):Prop :=
 ∀(pos:Pos) (pins:List (Addr × Obj)) (s:Shared) (σ:St) (H:Hp) (Q:List V->Hp->Prop),Inv X pins σ H s->t σ H Q->wpAny (model X.prog X.w) X.A (spliced (backTo pos (starEach es X.env))) (AP X pins σ Q) X.xe s
def PS (X:Cx) (st:Stmt) (t:TS):Prop :=
 ∀(pins:List (Addr × Obj)) (s:Shared) (σ:St) (H:Hp) (D:Ends),Inv X pins σ H s->t D σ H->wpAny (model X.prog X.w) X.A (exec st X.env) (SP X pins D) X.xe s
def PSs (X:Cx) (st:List Stmt) (t:TS):Prop :=
 ∀(pins:List (Addr × Obj)) (s:Shared) (σ:St) (H:Hp) (D:Ends),Inv X pins σ H s->t D σ H->wpAny (model X.prog X.w) X.A (execs st X.env) (SP X pins D) X.xe s
theorem thn {α:Type} {t:Sem α} {Q Q':α->Shared->Prop} {M:Model} {A:Around} {E:Value->Shared->Prop} {s:Shared} (h:wpAny M A t Q E s) (hQ:∀a s,Q a s->Q' a s):wpAny M A t Q' E s:=wpAny_mono h hQ λ_ _ x=>x
end L2
namespace L2
open PySem PySem.Spec PyProof.Rows
section
variable {X:Cx}
theorem bin {a b:Expr} {ta tb:TE} (ha:PE X a ta) (hb:PE X b tb) {pins:List (Addr × Obj)} {s:Shared} {σ:St} {H:Hp} {R:V->V->Hp->Prop} (I:Inv X pins σ H s) (h:ta σ H λx H1=>tb σ H1 λy H2=>R x y H2)
  {α:Type} {Q:α->Shared->Prop} {f:Value->Value->Sem α}
  (hf:∀v u s2 x y H2,Inv X pins σ H2 s2->RelV x v->RelV y u->R x y H2->wpAny (model X.prog X.w) X.A (f v u) Q X.xe s2) :
  wpAny (model X.prog X.w) X.A (eval a X.env) (λv s₁=>wpAny (model X.prog X.w) X.A (eval b X.env) (λu s₂=>wpAny (model X.prog X.w) X.A (f v u) Q X.xe s₂) X.xe s₁) X.xe s:=by
 refine thn (ha pins s σ H _ I h) λv s1 ⟨x,H1,I1,r1,q1⟩=>?_
 refine thn (hb pins s1 σ H1 _ I1 q1) λu s2 ⟨y,H2,I2,r2,q2⟩=>?_
 exact hf v u s2 x y H2 I2 r1 r2 q2
def tVar (i:Nat):TE:=λσ H Q=>∃v,σ[i]? = some (some v)/\Q v H
def tC (v:V):TE:=λ_ H Q=>Q v H
theorem Ua {i:Nat} {x:Str} {pos:Pos} (hN:X.N[i]? = some x) (hv:Vis X.env.scope x) (hd:(x == ("__debug__" : Str))=false:=by decide) (hcd:(x == ("__classdict__" : Str))=false:=by decide):PE X (.Name x pos) (tVar i):=by
 intro pins s σ H Q I h
 obtain ⟨v,e,h⟩:=h
 obtain ⟨m,hn,hl⟩:=I.loc
 obtain ⟨u,r,l⟩:=hl i x v hN e hv
 have fin:EP X pins σ Q u s:=⟨v,H,I,r,h⟩
 rcases l with ⟨hk,hm⟩ | ⟨hk,c,hc,hcell⟩
 ·exact wpAny_Name (wpAny_loadName_local I.ok.kind hk hn hm fin) hd
 ·rcases hk with hk | hk
  ·exact wpAny_Name (wpAny_loadName_cell I.ok.kind hk hc hcell fin) hd
  ·exact wpAny_Name (wpAny_loadName_free I.ok.kind hk hc hcell fin hcd) hd
theorem Qsc {i j pos}:PE X (.Constant (.int i) j pos) (tC (.int i)):=λ_ _ _ H _ I h=>wpAny_Constant_int ⟨.int i,H,I.tok _,⟨_,rfl⟩,h⟩
theorem Qup {b j pos}:PE X (.Constant (.bool b) j pos) (tC (.bl b)):=λ_ _ _ H _ I h=>Constant_bool ⟨.bl b,H,I,rfl,h⟩
theorem Qop {j pos}:PE X (.Constant .none j pos) (tC .non):=λ_ _ _ H _ I h=>Constant_none ⟨.non,H,I,rfl,h⟩
theorem Qoo {x j pos}:PE X (.Constant (.str x) j pos) (tC (.str x)):=λ_ _ _ H _ I h=>Calls.Constant_str ⟨.str x,H,I.tok _,⟨_,rfl⟩,h⟩
def Gl (X:Cx) (x:Str):Prop:=X.env.kindOf x=some .globalImplicit
theorem Uc {E:Value->Shared->Prop} {pins:List (Addr × Obj)} {s:Shared} {σ:St} {H:Hp} {x:Str} {u:Value} {pos:Pos} {Q:Value->Shared->Prop} (I:Inv X pins σ H s) (hg:Gl X x) (hm:X.mg x=some u) (h:Q u s)
  (hd:(x == ("__debug__" : Str))=false:=by decide):wpAny (model X.prog X.w) X.A (eval (.Name x pos) X.env) Q E s :=
 Calls.Name_function_global I.ok.kind hg (Calls.loadGlobal_global (by rw [I.ok.glob];exact I.mod.glob.keeps I.bk) hm h) hd
theorem Qc2 {E:Value->Shared->Prop} {pins:List (Addr × Obj)} {s:Shared} {σ:St} {H:Hp} {x:Str} {u:Value} {pos:Pos} {Q:Value->Shared->Prop} (I:Inv X pins σ H s) (hg:Gl X x) (hm:X.mg x=none) (hv:bootBuiltins x=some u) (h:Q u s)
  (hn:x ≠ "__name__":=by decide) (hd:(x == ("__debug__" : Str))=false:=by decide):wpAny (model X.prog X.w) X.A (eval (.Name x pos) X.env) Q E s:=by
 obtain ⟨mb,h1,h2⟩:=I.mod.blt
 exact Calls.Name_function_global I.ok.kind hg (Calls.loadGlobal_builtin (by rw [I.ok.glob];exact I.mod.glob.keeps I.bk) hm (by rw [I.ok.blt];exact h1.keeps I.bk) ((h2 x hn).trans hv) h) hd
theorem Y4 {x:Str} {v:V} {u:Value} {pos:Pos} (hg:Gl X x) (hm:X.mg x=some u) (r:RelV v u) (hd:(x == ("__debug__" : Str))=false:=by decide):PE X (.Name x pos) (tC v) :=
 λ_ _ _ H _ I h=>Uc I hg hm ⟨v,H,I,r,h⟩ hd
theorem Qkg {x:Str} {v:V} {u:Value} {pos:Pos} (hg:Gl X x) (hm:X.mg x=none) (hv:bootBuiltins x=some u) (r:RelV v u) (hn:x ≠ "__name__":=by decide) (hd:(x == ("__debug__" : Str))=false:=by decide):PE X (.Name x pos) (tC v) :=
 λ_ _ _ H _ I h=>Qc2 I hg hm hv ⟨v,H,I,r,h⟩ hn hd
variable {a b:Expr} {ta tb:TE} {pos:Pos}
variable {tA tB':TT} {rest:List Expr}
def tAnd (t u:TT):TT:=λσ H Q=>t σ H λc H1=>if c=true then u σ H1 Q else Q false H1
def tOr (t u:TT):TT:=λσ H Q=>t σ H λc H1=>if c=true then Q true H1 else u σ H1 Q
def tNot (t:TT):TT:=λσ H Q=>t σ H λc H1=>Q (!c) H1
theorem Qps (ha:PT X a tA):PW X (.BoolOp .And [a] pos) tA:=by
 intro wh pins s σ H Q I h
 refine isTrue_and (thn (ha pins s σ H Q I h) λc s1 e=>?_)
 cases c with
 | true=>exact isTrue_and_nil e
 | false=>exact e
theorem Qr3 (ha:PT X a tA):PW X (.BoolOp .Or [a] pos) tA:=by
 intro wh pins s σ H Q I h
 refine isTrue_or (thn (ha pins s σ H Q I h) λc s1 e=>?_)
 cases c with
 | false=>exact isTrue_or_nil e
 | true=>exact e
theorem Qr4 (ha:PT X a tA) (hb:PW X (.BoolOp .And (b::rest) pos) tB'):PW X (.BoolOp .And (a::b::rest) pos) (tAnd tA tB'):=by
 intro wh pins s σ H Q I h
 refine isTrue_and (thn (ha pins s σ H _ I h) λc s1 ⟨H1,I1,q1⟩=>?_)
 cases c with
 | true=>exact hb wh pins s1 σ H1 Q I1 q1
 | false=>exact ⟨H1,I1,q1⟩
theorem Qui (ha:PT X a tA) (hb:PW X (.BoolOp .Or (b::rest) pos) tB'):PW X (.BoolOp .Or (a::b::rest) pos) (tOr tA tB'):=by
 intro wh pins s σ H Q I h
 refine isTrue_or (thn (ha pins s σ H _ I h) λc s1 ⟨H1,I1,q1⟩=>?_)
 cases c with
 | true=>exact ⟨H1,I1,q1⟩
 | false=>exact hb wh pins s1 σ H1 Q I1 q1
theorem Qr5 (ha:PT X a tA):PT X (.UnaryOp .Not a pos) (tNot tA):=by
 intro pins s σ H Q I h
 exact isTrue_not (ha pins s σ H (λc H1=>Q (!c) H1) I h)
def Qt7 (ta tb:TE):TE:=λσ H Q=>ta σ H λx H1=>∃c,x=.bl c/\if c=true then tb σ H1 Q else Q (.bl false) H1
def Qt2 (ta:TE):TE:=λσ H Q=>ta σ H λx H1=>∃c,x=.bl c/\Q (.bl (!c)) H1
theorem Qsa {op} {t:TE} (h:PE X a t):PE X (.BoolOp op [a] pos) t:=λpins s σ H Q I hw=>BoolOp_one (h pins s σ H Q I hw)
theorem Qse (ha:PE X a ta) (hb:PE X (.BoolOp .And (b::rest) pos) tb):PE X (.BoolOp .And (a::b::rest) pos) (Qt7 ta tb):=by
 intro pins s σ H Q I h
 refine BoolOp_and (thn (ha pins s σ H _ I h) λv s1 ⟨x,H1,I1,r1,q1⟩=>?_)
 obtain ⟨c,rfl,q1⟩:=q1
 cases r1
 refine wpAny_truthy_bool ?_
 cases c with
 | true=>exact hb pins s1 σ H1 Q I1 q1
 | false=>exact ⟨.bl false,H1,I1,rfl,q1⟩
theorem Qsb (ha:PE X a ta):PE X (.UnaryOp .Not a pos) (Qt2 ta):=by
 intro pins s σ H Q I h
 refine UnaryOp_ (thn (ha pins s σ H _ I h) λv s1 ⟨x,H1,I1,r1,q1⟩=>?_)
 obtain ⟨c,rfl,q1⟩:=q1
 cases r1
 exact not_of (wpAny_truthy_bool ⟨.bl (!c),H1,I1,rfl,q1⟩)
end
end L2
namespace L2
open PySem PySem.Spec PyProof.Rows
def SqL (K:PySem.W.Frag) (H:Hp) (a:Addr) (xs:List V):Prop :=
 Rd H a (.lst xs) \/
  ∃(o:Obj) (its:Array Value) (n:Nat),K.lookup a=some o/\o.cls=.type "list" /\ o.dict=none/\o.data=.seq its n/\its.size<=sizeLine/\Vals xs its.toList
def SqT (K:PySem.W.Frag) (H:Hp) (a:Addr) (xs:List V):Prop :=
 Rd H a (.tup xs) \/
  ∃(o:Obj) (its:Array Value) (n:Nat),K.lookup a=some o/\o.cls=.type "tuple" /\ o.data=.seq its n/\its.size<=sizeLine/\Vals xs its.toList
def absV:Value->Option V
 | .none=>some .non
 | .bool b=>some (.bl b)
 | .int i _=>some (.int i)
 | .str x _=>some (.str x)
 | .bytes b _=>some (.byt b)
 | .float b _=>some (.flt b)
 | .ref a=>some (.ref a)
 | .type n=>some (.ty n)
 | _=>none
theorem RelV.abs {x:V} {u:Value} (r:RelV x u):absV u=some x:=by
 cases x with
 | non=>cases r;rfl
 | bl _=>cases r;rfl
 | int _=>obtain ⟨t,rfl⟩:=r;rfl
 | str _=>obtain ⟨t,rfl⟩:=r;rfl
 | byt _=>obtain ⟨t,rfl⟩:=r;rfl
 | flt _=>obtain ⟨t,rfl⟩:=r;rfl
 | ref _=>cases r;rfl
 | ty _=>cases r;rfl
theorem RelV.inj {x y:V} {u:Value} (r:RelV x u) (q:RelV y u):x=y:=Option.some.inj (r.abs.symm.trans q.abs)
theorem Vals.inj:∀{xs ys:List V} {us:List Value},Vals xs us->Vals ys us->xs=ys
 | _,_,_,.nil,.nil=>rfl
 | _,_,_,.cons r t,.cons r' t'=>by rw [r.inj r',Vals.inj t t']
section
variable {X:Cx} {pins:List (Addr × Obj)} {σ:St} {H:Hp} {s:Shared} {a:Addr} {xs ys:List V}
theorem SqL.of {K:PySem.W.Frag} (h:H a=some (.lst xs)):SqL K H a xs:=.inl (.inl h)
theorem SqT.of {K:PySem.W.Frag} (h:H a=some (.tup xs)):SqT K H a xs:=.inl (.inl h)
theorem Inv.list (I:Inv X pins σ H s) (h:SqL X.K H a xs):∃its:List Value,Vals xs its/\PlainL s.heap a its.toArray/\xs.length<=sizeLine:=by
 rcases h with h | ⟨o,its,n,hk,hc,hd,hs,hz,r⟩
 ·obtain ⟨z,its,n,r,e⟩:=h.ok I.hok
  exact ⟨its,r,⟨_,n,e,rfl,rfl,rfl⟩,z⟩
 ·refine ⟨its.toList,r,⟨o,n,I.kIn a o hk,hc,hd,by simpa using hs⟩,?_⟩
  have e:=r.length
  simp only [Array.length_toList] at e
  omega
theorem Inv.tuple (I:Inv X pins σ H s) (h:SqT X.K H a xs):∃its:List Value,Vals xs its/\IsTup s.heap a its.toArray/\xs.length<=sizeLine:=by
 rcases h with h | ⟨o,its,n,hk,hc,hs,hz,r⟩
 ·obtain ⟨z,its,r,p⟩:=h.ok I.hok
  exact ⟨its,r,p,z⟩
 ·refine ⟨its.toList,r,⟨o,I.kIn a o hk,hc,n,by simpa using hs⟩,?_⟩
  have e:=r.length
  simp only [Array.length_toList] at e
  omega
theorem Inv.list_inj (I:Inv X pins σ H s) (h:SqL X.K H a xs) (h':SqL X.K H a ys):xs=ys:=by
 obtain ⟨its,r,⟨o,n,e,_,_,d⟩,_⟩:=I.list h
 obtain ⟨its',r',⟨o',n',e',_,_,d'⟩,_⟩:=I.list h'
 rw [e] at e';cases e'
 rw [d] at d'
 injection d' with d1 _
 have:its=its':=by simpa using congrArg Array.toList d1
 subst this
 exact r.inj r'
theorem Inv.tuple_inj (I:Inv X pins σ H s) (h:SqT X.K H a xs) (h':SqT X.K H a ys):xs=ys:=by
 obtain ⟨its,r,⟨o,e,_,n,d⟩,_⟩:=I.tuple h
 obtain ⟨its',r',⟨o',e',_,n',d'⟩,_⟩:=I.tuple h'
 rw [e] at e';cases e'
 rw [d] at d'
 injection d' with d1 _
 have:its=its':=by simpa using congrArg Array.toList d1
 subst this
 exact r.inj r'
end
abbrev Cx.wish (X:Cx) (E:Value->Shared->Prop):Cx:={ X with xe:=E }
abbrev Cx.nox (X:Cx):Cx:=X.wish λ_ _=>False
theorem Cx.Ok.wish {X:Cx} (ok:X.Ok) (E:Value->Shared->Prop):(X.wish E).Ok :=
 ⟨ok.mod,ok.kind,ok.glob,ok.blt,ok.above,ok.inj,ok.has,ok.cab,ok.hd,ok.frames,ok.stk,ok.exf,ok.bs,ok.bsz,ok.noex,ok.exfs,ok.funs,ok.frf⟩
theorem Cx.Ok.unwish {X:Cx} {E:Value->Shared->Prop} (ok:(X.wish E).Ok):X.Ok :=
 ⟨ok.mod,ok.kind,ok.glob,ok.blt,ok.above,ok.inj,ok.has,ok.cab,ok.hd,ok.frames,ok.stk,ok.exf,ok.bs,ok.bsz,ok.noex,ok.exfs,ok.funs,ok.frf⟩
section
variable {X:Cx} {pins:List (Addr × Obj)} {σ:St} {H:Hp} {s:Shared} {E:Value->Shared->Prop}
theorem Inv.wish (I:Inv X pins σ H s) (E:Value->Shared->Prop):Inv (X.wish E) pins σ H s:=⟨I.ok.wish E,I.os,I.bare,I.base,I.loc,I.cell,I.free,I.freeC,I.pin,I.hok,I.len⟩
theorem Inv.unwish (I:Inv (X.wish E) pins σ H s):Inv X pins σ H s:=⟨I.ok.unwish,I.os,I.bare,I.base,I.loc,I.cell,I.free,I.freeC,I.pin,I.hok,I.len⟩
theorem SP.unwish {D:Ends} {f:Flow} {s':Shared} (h:SP (X.wish E) pins D f s'):SP X pins D f s':=by
 cases f with
 | next=>obtain ⟨σ',H',I,q⟩:=h;exact ⟨σ',H',I.unwish,q⟩
 | brk=>obtain ⟨σ',H',I,q⟩:=h;exact ⟨σ',H',I.unwish,q⟩
 | cont=>obtain ⟨σ',H',I,q⟩:=h;exact ⟨σ',H',I.unwish,q⟩
 | ret u=>obtain ⟨v,σ',H',I,r,q⟩:=h;exact ⟨v,σ',H',I.unwish,r,q⟩
theorem PSs.nox {st:List Stmt} {t:TS} (h:PSs X.nox st t):PSs X st t:=λpins s σ H D I hw =>
 wpAny_mono (h pins s σ H D (I.wish _) hw) (λ_ _ q=>q.unwish) λ_ _ z=>False.elim z
end
section
variable {X:Cx} {st:Stmt} {rest:List Stmt} {t u:TS} {e:Expr} {te:TE} {pos:Pos}
def Qt3:TS:=λD σ H=>D.nx σ H
def tSeq (t u:TS):TS:=λD σ H=>t { D with nx:=u D } σ H
theorem Qpy:PSs X [] Qt3:=λ_ _ σ H _ I h=>wpAny_execs_nil ⟨σ,H,I,h⟩
theorem Qdl (h1:PS X st t) (h2:PSs X rest u):PSs X (st::rest) (tSeq t u):=by
 intro pins s σ H D I h
 refine wpAny_execs_cons (thn (h1 pins s σ H { D with nx:=u D } I h) λf s1 q=>?_)
 cases f with
 | next =>
  obtain ⟨σ',H',I',q⟩:=q
  exact h2 pins s1 σ' H' D I' q
 | ret v=>exact q
 | brk=>exact q
 | cont=>exact q
theorem Qj5 (h1:PS X st t):PSs X [st] t:=by
 intro pins s σ H D I h
 refine wpAny_execs_cons (thn (h1 pins s σ H D I h) λf s1 q=>?_)
 cases f with
 | next=>exact wpAny_execs_nil q
 | ret v=>exact q
 | brk=>exact q
 | cont=>exact q
theorem Inv.quiet {pins:List (Addr × Obj)} {σ:St} {H:Hp} {s:Shared} (I:Inv X pins σ H s):interactive X.env=false:=by simp [interactive,I.ok.kind]
def Qt5 (te:TE):TS:=λD σ H=>te σ H λ_ H1=>D.nx σ H1
theorem Qj8 (he:PE X e te) (hs:swapsWith e none pos.line X.env=pure false:=by rfl):PS X (.Expr e pos) (Qt5 te):=by
 intro pins s σ H D I h
 exact wpAny_Expr_any (thn (he pins s σ H _ I h) λv s1 ⟨x,H1,I1,r1,q1⟩=>⟨σ,H1,I1,q1⟩) I.quiet hs
def tRet (te:TE):TS:=λD σ H=>te σ H D.rt
theorem Qol (he:PE X e te):PS X (.Return (some e) pos) (tRet te):=by
 intro pins s σ H D I h
 exact wpAny_Return_some (thn (he pins s σ H _ I h) λv s1 ⟨x,H1,I1,r1,q1⟩=>⟨x,σ,H1,I1,r1,q1⟩)
def Qt0:TS:=λD _ H=>D.rt .non H
theorem Qp1:PS X (.Return none pos) Qt0:=λ_ _ σ H _ I h=>wpAny_Return_none ⟨.non,σ,H,I,rfl,h⟩
def tIfS (c:TT) (t u:TS):TS:=λD σ H=>c σ H λb H1=>if b=true then t D σ H1 else u D σ H1
theorem Quj {c:Expr} {a b:List Stmt} {tc:TT} (hc:PT X c tc) (ha:PSs X a t) (hb:PSs X b u):PS X (.If c a b pos) (tIfS tc t u):=by
 intro pins s σ H D I h
 refine wpAny_If (thn (hc pins s σ H _ I h) λd s1 ⟨H1,I1,q1⟩=>?_)
 cases d with
 | true=>exact ha pins s1 σ H1 D I1 q1
 | false=>exact hb pins s1 σ H1 D I1 q1
end
abbrev TG:=V->St->Hp->(St->Hp->Prop)->Prop
abbrev TGs:=List V->St->Hp->(St->Hp->Prop)->Prop
def PG (X:Cx) (target:Expr) (t:TG):Prop :=
 ∀(pins:List (Addr × Obj)) (s:Shared) (σ:St) (H:Hp) (v:V) (u:Value) (Q:St->Hp->Prop),Inv X pins σ H s->RelV v u->t v σ H Q ->
  wpAny (model X.prog X.w) X.A (assign target X.env u) (λ_ s'=>∃σ' H',Inv X pins σ' H' s'/\Q σ' H') X.xe s
def PGs (X:Cx) (ts:List Expr) (t:TGs):Prop :=
 ∀(pins:List (Addr × Obj)) (s:Shared) (σ:St) (H:Hp) (vs:List V) (us:List Value) (Q:St->Hp->Prop),Inv X pins σ H s->Vals vs us->t vs σ H Q ->
  wpAny (model X.prog X.w) X.A (assignInOrder ((assignEach ts X.env).map (·.2)) us) (λ_ s'=>∃σ' H',Inv X pins σ' H' s'/\Q σ' H') X.xe s
abbrev TSet:=V->V->V->Hp->(Hp->Prop)->Prop
def PSet (X:Cx) (t:TSet):Prop :=
 ∀(pins:List (Addr × Obj)) (s:Shared) (σ:St) (H:Hp) (o i v:V) (ov iv u:Value) (Q:Hp->Prop),Inv X pins σ H s->RelV o ov->RelV i iv->RelV v u->t o i v H Q ->
  wpAny (model X.prog X.w) X.A (setItem ov iv u) (λ_ s'=>∃H',Inv X pins σ H' s'/\Q H') X.xe s
section
variable {X:Cx} {pos:Pos}
def Qdu (i:Nat):TG:=λv σ H Q=>Q (σ.set i (some v)) H
theorem Qgi {i:Nat} {x:Str} (hN:X.N.Nodup) (hi:X.N[i]? = some x) (hx:Loc X.env.scope x) (hf:X.fn x=true\/X.env.scope.names.lookup x=some .local:=by first | exact .inl rfl | exact .inr rfl | assumption):PG X (.Name x pos) (Qdu i):=by
 intro pins s σ H v u Q I r h
 exact wpAny_assign_Name (Qah I hN hi hx r (λs' I'=>⟨_,H,I',h⟩) hf)
def gNil:TGs:=λvs σ H Q=>vs=[]/\Q σ H
def Qqy (t:TG) (u:TGs):TGs:=λvs σ H Q=>∃v r,vs=v::r/\t v σ H λσ' H'=>u r σ' H' Q
theorem Qkd:PGs X [] gNil:=by
 intro pins s σ H vs us Q I r h
 obtain ⟨e,h⟩:=h
 subst e
 cases r
 exact assignInOrder_nil ⟨σ,H,I,h⟩
theorem Qdm {e:Expr} {es:List Expr} {t:TG} {u:TGs} (h1:PG X e t) (h2:PGs X es u)
  (hs:(assignEach (e::es) X.env).map (·.2)=assign e X.env::(assignEach es X.env).map (·.2):=by rfl):PGs X (e::es) (Qqy t u):=by
 intro pins s σ H vs us Q I r h
 obtain ⟨v,vr,e1,h⟩:=h
 subst e1
 cases r with
 | cons r rr =>
  rw [hs]
  refine assignInOrder_cons (thn (h1 pins s σ H _ _ _ I r h) λ_ s1 ⟨σ1,H1,I1,q1⟩=>?_)
  exact h2 pins s1 σ1 H1 _ _ Q I1 rr q1
def gTup (K:PySem.W.Frag) (n:Nat) (t:TGs):TG:=λv σ H Q=>∃a xs,v=.ref a/\SqT K H a xs/\xs.length=n/\t xs σ H Q
theorem Qon {es:List Expr} {k:Nat} {t:TGs} {n:Nat} (hc:X.calm=true) (h:PGs X es t)
  (hn:(assignEach es X.env).length=n:=by rfl) (hst:(assignEach es X.env).findIdx? (·.1)=none:=by rfl):PG X (.Tuple es k pos) (gTup X.K n t):=by
 intro pins s σ H v u Q I r hw
 obtain ⟨a,xs,e1,hq,hl,hw⟩:=hw
 subst e1
 cases r
 obtain ⟨its,rv,ht,hz⟩:=I.tuple hq
 refine assign_Tuple_tuple (I.ok.hd hc) ht (by simp [hn,← hl,rv.length]) hst λh' hx=>?_
 have I1:Inv X pins σ H { s with heap:=h' }:=I.kept (t':=s.toks) λb o e=>hx b o (Nat.ne_of_lt (Heap.lt_size e)) e
 exact h pins _ σ H xs _ Q I1 (by simpa using rv) hw
def gSub (to ti:TE) (t:TSet):TG:=λv σ H Q=>to σ H λo H1=>ti σ H1 λi H2=>t o i v H2 λH3=>Q σ H3
theorem Qr9 {o i:Expr} {to ti:TE} {t:TSet} (ho:PE X o to) (hi:PE X i ti) (hs:PSet X t)
  (ha:∀v,assign (.Subscript o i pos) X.env v=(do
   let ov ← holding [v] (eval o X.env)
   let iv ← holding [v,ov] (eval i X.env)
   standAt pos
   holding [v,ov,iv] (setItem ov iv v)
   release [v,ov,iv] []):=by intro _;rfl):PG X (.Subscript o i pos) (gSub to ti t):=by
 intro pins s σ H v u Q I r h
 rw [ha]
 refine wpAny_bind (wpAny_holding (thn (ho pins s σ H _ I h) λov s1 ⟨x,H1,I1,r1,q1⟩=>?_))
 refine wpAny_bind (wpAny_holding (thn (hi pins s1 σ H1 _ I1 q1) λiv s2 ⟨y,H2,I2,r2,q2⟩=>?_))
 refine wpAny_bind (wpAny_standAt (wpAny_bind (wpAny_holding (thn (hs pins s2 σ H2 x y v ov iv u _ I2 r1 r2 r q2) λ_ s3 ⟨H3,I3,q3⟩=>?_))))
 exact wpAny_release ⟨σ,H3,I3,q3⟩
def tAsg (te:TE) (g:TG):TS:=λD σ H=>te σ H λx H1=>g x σ H1 D.nx
theorem Qom {tg e:Expr} {te:TE} {g:TG} (he:PE X e te) (hg:PG X tg g) (hs:swapsWithSole [tg] e pos.line X.env=pure false:=by rfl) (hw:swappedStores [tg] e X.env=pure none:=by rfl)
  (h1:(assignEach [tg] X.env).map (·.2)=[assign tg X.env]:=by rfl):PS X (.Assign [tg] e pos) (tAsg te g):=by
 intro pins s σ H D I h
 refine wpAny_Assign_stores (thn (he pins s σ H _ I h) λv s1 ⟨x,H1,I1,r1,q1⟩=>?_) hs hw
 rw [h1]
 exact thn (hg pins s1 σ H1 x v _ I1 r1 q1) λ_ s2 q=>q
theorem Qok {i:Nat} {x:Str} {e:Expr} {te:TE} {pos':Pos} (hN:X.N.Nodup) (hi:X.N[i]? = some x) (hx:Loc X.env.scope x) (he:PE X e te) (hs:swapsWith e (some (.Name x pos')) pos.line X.env=pure false:=by rfl) (hf:X.fn x=true\/X.env.scope.names.lookup x=some .local:=by first | exact .inl rfl | exact .inr rfl | assumption) :
  PS X (.Assign [.Name x pos'] e pos) (tAsg te (Qdu i)):=by
 intro pins s σ H D I h
 refine wpAny_Assign_Name (thn (he pins s σ H _ I h) λv s1 ⟨y,H1,I1,r1,q1⟩=>?_) hs
 exact Qah I1 hN hi hx r1 (λs2 I2=>⟨_,H1,I2,q1⟩) hf
end
section
variable {X:Cx} {pos:Pos}
end
structure It where
 go:Nat->Hp->Prop
 yld:Nat->Hp->V->Hp->Prop
 stop:Nat->Hp->Prop
def FpOk (X:Cx) (pins:List (Addr × Obj)) (H:Hp) (b:Addr):Prop :=
 H b=none/\b≠X.env.locals/\b∉X.fs/\(b∈X.ex\/X.s₀.heap.objs.size<=b)/\(∀x c,X.env.cells.lookup x=some c->c≠b)/\∀p∈X.pn++pins,p.1≠b
theorem Inv.fpOk {X:Cx} {pins:List (Addr × Obj)} {σ:St} {H H':Hp} {s:Shared} {b:Addr} (I:Inv X pins σ H s) (hb:s.heap.objs.size<=b) (hn:H' b=none):FpOk X pins H' b:=by
 refine ⟨hn,Nat.ne_of_gt (Nat.lt_of_lt_of_le I.lt hb),I.nofs hb,.inr (Nat.le_trans I.sz hb),λx c e z=>?_,λp hp z=>?_⟩
 ·obtain ⟨v,q⟩:=I.cell x c e
  exact absurd (Nat.lt_of_lt_of_le q.lt (by rw [z];exact hb)) (Nat.lt_irrefl _)
 ·exact absurd (Nat.lt_of_lt_of_le (Heap.lt_size (I.pin p hp).1) (by rw [z];exact hb)) (Nat.lt_irrefl _)
structure Turn (P:Program) (w:World) (K:PySem.W.Frag) (tg:Expr) (J:It) (fp:List Addr) (it:Addr) (tn:Nat->Heap->Prop):Prop where
 mem:it∈fp
 obj:∀i h,tn i h->∀b∈fp,∃o,h.get? b=some o/\∀v,o.data ≠ .cell v
 keep:∀i h h',tn i h->(∀b∈fp,∀o,h.get? b=some o->h'.get? b=some o)->tn i h'
 item:∀(X:Cx),X.prog=P->X.w=w->X.K=K->X.calm=true->∀(i:Nat) (pins:List (Addr × Obj)) (s:Shared) (σ:St) (H:Hp) (E:Value->Shared->Prop),Inv X pins σ H s->(∀b∈fp,FpOk X pins H b)->tn i s.heap->J.go i H ->
  wpAny (model P w) X.A (pyNext (.ref it)) (λr s1=>∃u,r=some u /\
   wpAny (model P w) X.A (letOwnedTupleGo tg (.ref it) u) (λ_ s2=>∃x H',Inv X pins σ H' s2/\RelV x u/\J.yld i H x H'/\tn (i+1) s2.heap/\∀b∈fp,H' b=none) E s1) E s
 done:∀(X:Cx),X.prog=P->X.w=w->X.K=K->X.calm=true->∀(i:Nat) (pins:List (Addr × Obj)) (s:Shared) (σ:St) (H:Hp) (E:Value->Shared->Prop),Inv X pins σ H s->(∀b∈fp,FpOk X pins H b)->tn i s.heap->J.stop i H ->
  wpAny (model P w) X.A (pyNext (.ref it)) (λr s1=>r=none/\Inv X pins σ H s1) E s
 self:∀(A:Around) (i:Nat) (s:Shared) (Q:Value->Shared->Prop) (E:Value->Shared->Prop),tn i s.heap->Q (.ref it) s->wpAny (model P w) A (pyIter (.ref it)) Q E s
abbrev TI:=St->Hp->(It->Hp->Prop)->Prop
def PIE (X:Cx) (pins:List (Addr × Obj)) (σ:St) (tg:Expr) (R:It->Hp->Prop) (itv:Value) (s2:Shared):Prop :=
 ∃(it:Addr) (fp:List Addr) (tn:Nat->Heap->Prop) (J:It) (H':Hp),itv=.ref it/\Inv X pins σ H' s2/\Turn X.prog X.w X.K tg J fp it tn/\tn 0 s2.heap/\(∀b∈fp,FpOk X pins H' b)/\R J H'
def PI (X:Cx) (tg iter:Expr) (wi:TI):Prop :=
 ∀(pins:List (Addr × Obj)) (s:Shared) (σ:St) (H:Hp) (R:It->Hp->Prop),Inv X pins σ H s->wi σ H R ->
  wpAny (model X.prog X.w) X.A (eval iter X.env) (λv s1=>wpAny (model X.prog X.w) X.A (pyIter v) (PIE X pins σ tg R) X.xe s1) X.xe s
theorem Qk2 {M:Model} {A:Around} {E:Value->Shared->Prop} {s:Shared} {tg:Expr} {it:Addr} {u:Value} {o:Obj} {n:String} {vs:Array Value} {Q:Unit->Shared->Prop} (ho:s.heap.get? it=some o) (hc:o.cls=.type n) (hd:o.data=.fields vs)
    (hn:["enumerate","zip","dict_itemiterator","dict_reverseitemiterator","odict_iterator","itertools.zip_longest","itertools.pairwise"].contains n=false) (hQ:Q () s):wpAny M A (letOwnedTupleGo tg (.ref it) u) Q E s:=by
  unfold letOwnedTupleGo
  cases tg <;> first
    | exact wpAny_pure hQ
    | (cases u <;> first
        | exact wpAny_pure hQ
        | (refine wpAny_bind (wpAny_load ho ?_)
           rw [hc,hd]
           show wpAny M A (if (["enumerate","zip","dict_itemiterator","dict_reverseitemiterator","odict_iterator","itertools.zip_longest","itertools.pairwise"].contains n && vs[0]? == some (rawInt _))=true then _ else _) Q E s
           rw [if_neg (by intro h;rw [hn,Bool.false_and] at h;cases h)]
           exact wpAny_pure hQ))
def Itl (K:PySem.W.Frag) (a:Addr):It :=
 ⟨λi H=>∃xs x,SqL K H a xs/\xs[i]? = some x,λi H x H'=>H'=H/\∀xs,SqL K H a xs->xs[i]? = some x,λi H=>∃xs,SqL K H a xs/\xs.length<=i⟩
def Itt (K:PySem.W.Frag) (a:Addr):It :=
 ⟨λi H=>∃xs x,SqT K H a xs/\xs[i]? = some x,λi H x H'=>H'=H/\∀xs,SqT K H a xs->xs[i]? = some x,λi H=>∃xs,SqT K H a xs/\xs.length<=i⟩
def Itr (lo:Int) (n:Nat):It:=⟨λi _=>i<n,λi H x H'=>H'=H/\x=.int (lo+i),λi _=>n<=i⟩
theorem Qef {P:Program} {w:World} {K:PySem.W.Frag} {tg:Expr} (a it:Addr):Turn P w K tg (Itl K a) [it] it (λi h=>h.IsListIter it a i) where
 mem:=by simp
 obj:=λi h st b hb=>by
  have e:b=it:=by simpa using hb
  subst e
  obtain ⟨o,e,c,d⟩:=st
  exact ⟨o,e,λv z=>by rw [d] at z;cases z⟩
 keep:=λi h h' st k=>st.at λo e=>k it (by simp) o e
 item:=by
  intro X hP hw hK hc i pins s σ H E I hf st hg
  subst hP hw hK
  obtain ⟨xs,x,hq,hx⟩:=hg
  obtain ⟨its,rv,p,hz⟩:=I.list hq
  obtain ⟨u,hu,ru⟩:=rv.get hx
  obtain ⟨f0,f1,f2,f3,f4,f5⟩:=hf it (by simp)
  refine wpAny_pyNext_list_item st p.isList (x:=u) (by simpa using hu) λh' st' sb=>?_
  have I1:Inv X pins σ H { s with heap:=h' }:=I.turned (t':=s.toks) (λb o hb e=>(sb.2 b hb).trans e) f0 f1 f3 f4 f5
  obtain ⟨o,e,c,d⟩:=id st'
  exact ⟨u,rfl,Qk2 (s:={ s with heap:=h' }) e c d (by decide) ⟨x,H,I1,ru,⟨rfl,λys hy=>by rw [I.list_inj hy hq];exact hx⟩,st',λb hb=>(hf b hb).1⟩⟩
 done:=by
  intro X hP hw hK hc i pins s σ H E I hf st hg
  subst hP hw hK
  obtain ⟨xs,hq,hx⟩:=hg
  obtain ⟨its,rv,p,hz⟩:=I.list hq
  obtain ⟨f0,f1,f2,f3,f4,f5⟩:=hf it (by simp)
  have hl:=rv.length
  exact wpAny_pyNext_list_end (I.ok.hd hc) st p.isList (by simp;omega) λh' eb=>⟨rfl,I.turned (t':=s.toks) (λb o hb e=>eb b o hb e) f0 f1 f3 f4 f5⟩
 self:=λ_ _ _ _ _ st h=>wpAny_pyIter_listiter st h
theorem Qim {P:Program} {w:World} {K:PySem.W.Frag} {tg:Expr} (a it:Addr):Turn P w K tg (Itt K a) [it] it (λi h=>h.IsTupleIter it a i) where
 mem:=by simp
 obj:=λi h st b hb=>by
  have e:b=it:=by simpa using hb
  subst e
  obtain ⟨o,e,c,d⟩:=st
  exact ⟨o,e,λv z=>by rw [d] at z;cases z⟩
 keep:=λi h h' st k=>st.at λo e=>k it (by simp) o e
 item:=by
  intro X hP hw hK hc i pins s σ H E I hf st hg
  subst hP hw hK
  obtain ⟨xs,x,hq,hx⟩:=hg
  obtain ⟨its,rv,p,hz⟩:=I.tuple hq
  obtain ⟨u,hu,ru⟩:=rv.get hx
  obtain ⟨f0,f1,f2,f3,f4,f5⟩:=hf it (by simp)
  refine wpAny_pyNext_tuple_item st (show s.heap.IsTuple a its.toArray from p) (x:=u) (by simpa using hu) λh' st' sb=>?_
  have I1:Inv X pins σ H { s with heap:=h' }:=I.turned (t':=s.toks) (λb o hb e=>(sb.2 b hb).trans e) f0 f1 f3 f4 f5
  obtain ⟨o,e,c,d⟩:=id st'
  exact ⟨u,rfl,Qk2 (s:={ s with heap:=h' }) e c d (by decide) ⟨x,H,I1,ru,⟨rfl,λys hy=>by rw [I.tuple_inj hy hq];exact hx⟩,st',λb hb=>(hf b hb).1⟩⟩
 done:=by
  intro X hP hw hK hc i pins s σ H E I hf st hg
  subst hP hw hK
  obtain ⟨xs,hq,hx⟩:=hg
  obtain ⟨its,rv,p,hz⟩:=I.tuple hq
  obtain ⟨f0,f1,f2,f3,f4,f5⟩:=hf it (by simp)
  have hl:=rv.length
  exact wpAny_pyNext_tuple_end (I.ok.hd hc) st (show s.heap.IsTuple a its.toArray from p) (by simp;omega) λh' eb=>⟨rfl,I.turned (t':=s.toks) (λb o hb e=>eb b o hb e) f0 f1 f3 f4 f5⟩
 self:=λ_ _ _ _ _ st h=>wpAny_pyIter_tupleiter st h
theorem Qin {P:Program} {w:World} {K:PySem.W.Frag} {tg:Expr} (it:Addr) (lo:Int) (n:Nat):Turn P w K tg (Itr lo n) [it] it (λi h=>IsRangeIter h it (lo+(i:Nat)*1) ((n:Int)-(i:Nat)) 1) where
 mem:=by simp
 obj:=λi h st b hb=>by
  have e:b=it:=by simpa using hb
  subst e
  exact ⟨_,st,λv z=>by
   have z':Data.fields _=Data.cell v:=z
   cases z'⟩
 keep:=λi h h' st k=>k it (by simp) _ st
 item:=by
  intro X hP hw hK hc i pins s σ H E I hf st hg
  subst hP hw hK
  obtain ⟨f0,f1,f2,f3,f4,f5⟩:=hf it (by simp)
  have W:=Walks.range (prog:=X.prog) (w:=X.w) (I.ok.hd hc) it lo 1 n
  refine W.item i s _ _ hg st λv h' tk hv st' kk=>?_
  obtain ⟨t,rfl⟩:=hv
  have I1:Inv X pins σ H { s with heap:=h',toks:=tk }:=I.turned (λb o hb e=>kk b o (by simpa using hb) e) f0 f1 f3 f4 f5
  refine ⟨_,rfl,Qk2 (s:={ s with heap:=h',toks:=tk }) (n:="range_iterator") st' rfl rfl (by decide) ⟨.int (lo+i),H,I1,⟨t,?_⟩,⟨rfl,rfl⟩,st',λb hb=>(hf b hb).1⟩⟩
  rw [Int.mul_one]
 done:=by
  intro X hP hw hK hc i pins s σ H E I hf st hg
  subst hP hw hK
  obtain ⟨f0,f1,f2,f3,f4,f5⟩:=hf it (by simp)
  exact wpAny_pyNext_range_end (I.ok.hd hc) st (by have:n<=i:=hg;omega) λh' eb=>⟨rfl,I.turned (t':=s.toks) (λb o hb e=>eb b o hb e) f0 f1 f3 f4 f5⟩
 self:=λ_ _ _ _ _ st h=>wpAny_pyIter_rangeiter st h
end L2
namespace L2
open PySem PySem.Spec PyProof.Rows
section
variable {X:Cx} {tg:Expr}
theorem Qmr {pins:List (Addr × Obj)} {σ:St} {H:Hp} {s:Shared} {R:It->Hp->Prop} {E:Value->Shared->Prop} {lo hi:Int} {t u v:Tok} {tk:Nat} (I:Inv X pins σ H s) (h1:-(2 ^ 62)<=lo) (h2:lo<2 ^ 62) (h3:-(2 ^ 62)<=hi) (h4:hi<2 ^ 62)
  (q:R (Itr lo (hi-lo).toNat) H):wpAny (model X.prog X.w) X.A (pyIter (.ref s.heap.objs.size)) (PIE X pins σ tg R) E { s with heap:=s.heap.push { cls:=.type "range",data:=.fields #[.int lo t,.int hi u,.int 1 v] },toks:=tk }:=by
 refine wpAny_pyIter_range (IsRange.new ..) (small_one h1 h2 h3 h4) ?_
 have I1:Inv X pins σ H { s with heap:=s.heap.push { cls:=.type "range",data:=.fields #[.int lo t,.int hi u,.int 1 v] },toks:=tk }:=I.kept λb o e=>Heap.get?_push_of_some _ e
 refine ⟨(s.heap.push { cls:=.type "range",data:=.fields #[.int lo t,.int hi u,.int 1 v] }).objs.size,[(s.heap.push { cls:=.type "range",data:=.fields #[.int lo t,.int hi u,.int 1 v] }).objs.size],_,_,H,rfl,
  I1.kept (t':=tk) λb o e=>Heap.get?_push_of_some _ e,Qin _ lo (hi-lo).toNat,?_,λb hb=>?_,q⟩
 ·have e1:lo+((0:Nat):Int)*1=lo:=by simp
  have e2:(((hi-lo).toNat:Nat):Int)-((0:Nat):Int)=Builtin.Range.rangeSize lo hi 1:=by rw [rangeSize_one];split <;> omega
  show IsRangeIter _ _ (lo+((0:Nat):Int)*1) ((((hi-lo).toNat:Nat):Int)-((0:Nat):Int)) 1
  rw [e1,e2]
  exact Heap.get?_push_size _ rfl
 ·have e:b=(s.heap.push { cls:=.type "range",data:=.fields #[.int lo t,.int hi u,.int 1 v] }).objs.size:=by simpa using hb
  subst e
  exact I1.fpOk (Nat.le_refl _) (I1.hok.fresh (Nat.le_refl _))
def Quy (ta:TA):TI:=λσ H R=>ta σ H λvs H1=>∃j:Int,vs=[.int j] /\ -(2 ^ 62)<=j/\j<2 ^ 62/\R (Itr 0 j.toNat) H1
theorem Qkc {a:Expr} {ta:TA} {p pos:Pos} (hg:Gl X "range") (hm:X.mg "range" = none) (ha:PA X [a] ta) (hs:starEach [a] X.env=[(false,eval a X.env)]:=by rfl):PI X tg (.Call (.Name "range" p) [a] [] pos) (Quy ta):=by
 intro pins s σ H R I h
 refine Call_ (Qc2 I hg hm boot_range (PyProof.Rows.callWith_type1 (thn (ha pos pins s σ H _ I h) λus s1 ⟨vs,H1,I1,r1,q1⟩=>?_) hs rfl))
 obtain ⟨j,e,q1,q2,q⟩:=q1
 subst e
 cases r1 with
 | cons r rr =>
  cases rr
  obtain ⟨t,rfl⟩:=r
  exact call_range_1 (Qmr I1 (by omega) (by omega) q1 q2 (by simpa using q))
def tFor (wi:TI) (g:TG) (tb:TS):TS:=λD σ H=>wi σ H λJ H1=>∃W:Nat->Nat->St->Hp->Prop,(∃m,W 0 m σ H1)/\∀i m σ H,W i m σ H ->
 (J.stop i H/\D.nx σ H)\/(J.go i H/\∃N:St->Hp->Prop,(∀σ' H',N σ' H'->∃m',m' < m/\W (i+1) m' σ' H')/\∀x H',J.yld i H x H'->g x σ H' λσ2 H2=>tb { D with nx:=N,ct:=N,bk:=D.nx } σ2 H2)
def Qac (fp:List Addr) (h:Heap):List (Addr × Obj):=fp.filterMap λb=>(h.get? b).map λo=>(b,o)
theorem Yn {fp:List Addr} {h:Heap} {b:Addr} {o:Obj} (hb:b∈fp) (e:h.get? b=some o):(b,o)∈Qac fp h:=List.mem_filterMap.mpr ⟨b,hb,by rw [e];rfl⟩
theorem Qkj {fp:List Addr} {h:Heap} {p:Addr × Obj} (hp:p∈Qac fp h):p.1∈fp/\h.get? p.1=some p.2:=by
 obtain ⟨b,hb,e⟩:=List.mem_filterMap.mp hp
 cases q:h.get? b with
 | none=>rw [q] at e;cases e
 | some o =>
  rw [q] at e
  have e':(b,o)=p:=Option.some.inj e
  subst e'
  exact ⟨hb,q⟩
theorem Inv.pinned {pins:List (Addr × Obj)} {σ:St} {H:Hp} {s:Shared} {fp:List Addr} (I:Inv X pins σ H s) (hf:∀b∈fp,FpOk X pins H b) (ho:∀b∈fp,∃o,s.heap.get? b=some o/\∀v,o.data ≠ .cell v):Inv X (pins++Qac fp s.heap) σ H s :=
 I.pins_of λp hp=>(List.mem_append.mp hp).elim (λz=>I.pin p (List.mem_append_right _ z)) λz=>by
  obtain ⟨hb,e⟩:=Qkj z
  obtain ⟨f0,f1,f2,_⟩:=hf p.1 hb
  obtain ⟨o,e',d⟩:=ho p.1 hb
  rw [e] at e';cases e'
  exact ⟨e,f0,f1,f2,d⟩
theorem Inv.unpinned {pins pl:List (Addr × Obj)} {σ:St} {H:Hp} {s:Shared} (I:Inv X (pins++pl) σ H s):Inv X pins σ H s:=I.pins_of λp hp=>I.pin p (List.mem_append_right _ (List.mem_append_left _ hp))
theorem Qr6 {iter:Expr} {body:List Stmt} {wi:TI} {g:TG} {tb:TS} {pos:Pos} (hp:PassesOwn (model X.prog X.w) X.A X.env X.xe) (hc:X.calm=true) (hi:PI X tg iter wi) (hg:PG X tg g) (hb:PSs X body tb)
  (hs:∀x,foldedSetIterable iter X.env x=pure x:=by intro _;rfl):PS X (.For tg iter body [] pos) (tFor wi g tb):=by
 intro pins s σ H D I h
 refine wpAny_For (thn (hi pins s σ H _ I h) λv s1 h1=>thn h1 λitv s2 h2=>?_) hs
 obtain ⟨it,fp,tn,J,H2,e,I2,T,st2,f2,W,⟨m0,w0⟩,turn⟩:=h2
 subst e
 -- what stays true of the iterator's objects through the loop
 have stat:∀{H':Hp},(∀b∈fp,H' b=none)->∀b∈fp,FpOk X pins H' b:=λhn b hb=>⟨hn b hb,(f2 b hb).2⟩
 refine codeAny_forLoop_any (λn s'=>∃i σ' H',Inv X pins σ' H' s'/\tn i s'.heap/\(∀b∈fp,H' b=none)/\W i n σ' H') ?_ m0 ⟨0,σ,H2,I2,st2,λb hb=>(f2 b hb).1,w0⟩
 rintro n s3 ⟨i,σ3,H3,I3,st3,fr3,w3⟩
 rcases turn i n σ3 H3 w3 with ⟨stop,qn⟩ | ⟨go,N,hN,step⟩
 ·refine wpAny_passesOwn hp (thn (T.done X rfl rfl rfl hc i pins s3 σ3 H3 X.xe I3 (stat fr3) st3 stop) λr s4 ⟨hr,I4⟩=>?_)
  subst hr
  exact wpAny_execs_nil ⟨σ3,H3,I4,qn⟩
 ·refine wpAny_passesOwn hp (thn (T.item X rfl rfl rfl hc i pins s3 σ3 H3 X.xe I3 (stat fr3) st3 go) λr s4 ⟨u,hr,h4⟩=>?_)
  subst hr
  refine wpAny_passesOwn hp (thn h4 λ_ s5 ⟨x,H5,I5,r5,y5,st5,fr5⟩=>?_)
  have I5':=I5.pinned (stat fr5) (T.obj _ _ st5)
  refine wpAny_passesOwn hp (thn (hg _ s5 σ3 H5 x u _ I5' r5 (step x H5 y5)) λ_ s6 ⟨σ6,H6,I6,q6⟩=>?_)
  refine wpAny_passesOwn hp (thn (hb _ s6 σ6 H6 _ I6 q6) λf s7 q7=>?_)
  have again:∀{σ7:St} {H7:Hp},Inv X (pins++Qac fp s5.heap) σ7 H7 s7->N σ7 H7->∃m,m<n/\∃i σ' H',Inv X pins σ' H' s7/\tn i s7.heap/\(∀b∈fp,H' b=none)/\W i m σ' H':=λ{σ7 H7} I7 n7=>by
   obtain ⟨m',hm,w7⟩:=hN σ7 H7 n7
   refine ⟨m',hm,i+1,σ7,H7,I7.unpinned,T.keep _ _ _ st5 λb hb o e=>(I7.pin (b,o) (List.mem_append_right _ (List.mem_append_right _ (Yn hb e)))).1,λb hb=>?_,w7⟩
   obtain ⟨o,e,d⟩:=T.obj _ _ st5 b hb
   exact (I7.pin (b,o) (List.mem_append_right _ (List.mem_append_right _ (Yn hb e)))).2.1
  cases f with
  | next=>obtain ⟨σ7,H7,I7,n7⟩:=q7;exact again I7 n7
  | cont=>obtain ⟨σ7,H7,I7,n7⟩:=q7;exact again I7 n7
  | brk=>obtain ⟨σ7,H7,I7,q7⟩:=q7;exact ⟨σ7,H7,I7.unpinned,q7⟩
  | ret v=>obtain ⟨x7,σ7,H7,I7,r7,q7⟩:=q7;exact ⟨x7,σ7,H7,I7.unpinned,r7,q7⟩
end
end L2
namespace L2
open PySem PySem.Spec PyProof.Rows
abbrev R2:=V->V->Hp->VK->Prop
def OpR (X:Cx) (f:Value->Value->Sem Value) (r:R2):Prop :=
 ∀(pins:List (Addr × Obj)) (s:Shared) (σ:St) (H:Hp) (x y:V) (v u:Value) (Q:VK),Inv X pins σ H s->RelV x v->RelV y u->r x y H Q ->
  wpAny (model X.prog X.w) X.A (f v u) (EP X pins σ Q) X.xe s
def UnR (X:Cx) (f:Value->Sem Value) (r:V->Hp->VK->Prop):Prop :=
 ∀(pins:List (Addr × Obj)) (s:Shared) (σ:St) (H:Hp) (x:V) (v:Value) (Q:VK),Inv X pins σ H s->RelV x v->r x H Q ->
  wpAny (model X.prog X.w) X.A (f v) (EP X pins σ Q) X.xe s
def Z5 (X:Cx) (f:Value) (r:List V->Hp->VK->Prop):Prop :=
 ∀(pins:List (Addr × Obj)) (s:Shared) (σ:St) (H:Hp) (xs:List V) (us:List Value) (Q:VK),Inv X pins σ H s->Vals xs us->r xs H Q ->
  wpAny (model X.prog X.w) X.A (call f us) (EP X pins σ Q) X.xe s
def TruR (X:Cx) (r:V->Hp->(Bool->Hp->Prop)->Prop):Prop :=
 ∀(pins:List (Addr × Obj)) (s:Shared) (σ:St) (H:Hp) (x:V) (v:Value) (Q:Bool->Hp->Prop),Inv X pins σ H s->RelV x v->r x H Q ->
  wpAny (model X.prog X.w) X.A (truthy v) (TP X pins σ Q) X.xe s
def tOp (r:R2) (ta tb:TE):TE:=λσ H Q=>ta σ H λx H1=>tb σ H1 λy H2=>r x y H2 Q
def tUn (r:V->Hp->VK->Prop) (ta:TE):TE:=λσ H Q=>ta σ H λx H1=>r x H1 Q
def rI (C:Int->Int->Prop) (g:Int->Int->V):R2:=λx y H Q=>∃i j,x=.int i/\y=.int j/\C i j/\Q (g i j) H
def rI0 (g:Int->Int->V):R2:=λx y H Q=>∃i j,x=.int i/\y=.int j/\Q (g i j) H
def rU (g:Int->V):V->Hp->VK->Prop:=λx H Q=>∃i,x=.int i/\Q (g i) H
section
variable {X:Cx} {a b c:Expr} {ta tb tc:TE} {pos:Pos}
theorem binT (ha:PE X a ta) (hb:PE X b tb) {pins:List (Addr × Obj)} {s:Shared} {σ:St} {H:Hp} {R:V->V->Hp->Prop} (I:Inv X pins σ H s)
  (h:ta σ H λx H1=>tb σ H1 λy H2=>R x y H2) {Q:Value->Shared->Prop} {f:Value->Value->Sem Value}
  (hf:∀v u s2 x y H2,Inv X pins σ H2 s2->RelV x v->RelV y u->R x y H2->wpAny (model X.prog X.w) X.A (f v u) Q X.xe s2) :
  wpAny (model X.prog X.w) X.A (eval a X.env) (λv s₁=>wpAny (model X.prog X.w) X.A (eval b X.env) (λu s₂=>wpAny (model X.prog X.w) X.A (f v u) Q X.xe s₂) X.xe s₁) X.xe s:=by
 refine thn (ha pins s σ H _ I h) λv s1 ⟨x,H1,I1,r1,q1⟩=>?_
 refine thn (hb pins s1 σ H1 _ I1 q1) λu s2 ⟨y,H2,I2,r2,q2⟩=>?_
 exact hf v u s2 x y H2 I2 r1 r2 q2
theorem Qun {op:Operator} {r:R2} (ho:OpR X (binaryOp op) r) (ha:PE X a ta) (hb:PE X b tb):PE X (.BinOp a op b pos) (tOp r ta tb):=by
 intro pins s σ H Q I h
 exact wpAny_BinOp (binT ha hb I h λv u s2 x y H2 I2 rx ry q=>ho pins s2 σ H2 x y v u Q I2 rx ry q)
theorem Qum {op:UnaryOp} {r:V->Hp->VK->Prop} (ho:UnR X (unaryOp op) r) (ha:PE X a ta):PE X (.UnaryOp op a pos) (tUn r ta):=by
 intro pins s σ H Q I h
 exact UnaryOp_ (thn (ha pins s σ H _ I h) λv s1 ⟨x,H1,I1,r1,q1⟩=>ho pins s1 σ H1 x v Q I1 r1 q1)
theorem opI {f:Value->Value->Sem Value} {C:Int->Int->Prop} {g:Int->Int->Int}
  (rule:∀(i j:Int) (t u:Tok) (s:Shared) (Q:Value->Shared->Prop) (E:Value->Shared->Prop),C i j->Q (.int (g i j) s.toks) { s with toks:=s.toks+1 }->wpAny (model X.prog X.w) X.A (f (.int i t) (.int j u)) Q E s) :
  OpR X f (rI C λi j=>.int (g i j)):=by
 intro pins s σ H x y v u Q I rx ry h
 obtain ⟨i,j,rfl,rfl,hc,q⟩:=h
 obtain ⟨t,rfl⟩:=rx
 obtain ⟨t',rfl⟩:=ry
 exact rule i j t t' s _ _ hc ⟨.int (g i j),H,I.tok _,⟨_,rfl⟩,q⟩
theorem opI0 {f:Value->Value->Sem Value} {g:Int->Int->Int}
  (rule:∀(i j:Int) (t u:Tok) (s:Shared) (Q:Value->Shared->Prop) (E:Value->Shared->Prop),Q (.int (g i j) s.toks) { s with toks:=s.toks+1 }->wpAny (model X.prog X.w) X.A (f (.int i t) (.int j u)) Q E s) :
  OpR X f (rI0 λi j=>.int (g i j)):=by
 intro pins s σ H x y v u Q I rx ry h
 obtain ⟨i,j,rfl,rfl,q⟩:=h
 obtain ⟨t,rfl⟩:=rx
 obtain ⟨t',rfl⟩:=ry
 exact rule i j t t' s _ _ ⟨.int (g i j),H,I.tok _,⟨_,rfl⟩,q⟩
theorem opB0 {f:Value->Value->Sem Value} {g:Int->Int->Bool}
  (rule:∀(i j:Int) (t u:Tok) (s:Shared) (Q:Value->Shared->Prop) (E:Value->Shared->Prop),Q (.bool (g i j)) s->wpAny (model X.prog X.w) X.A (f (.int i t) (.int j u)) Q E s) :
  OpR X f (rI0 λi j=>.bl (g i j)):=by
 intro pins s σ H x y v u Q I rx ry h
 obtain ⟨i,j,rfl,rfl,q⟩:=h
 obtain ⟨t,rfl⟩:=rx
 obtain ⟨t',rfl⟩:=ry
 exact rule i j t t' s _ _ ⟨.bl (g i j),H,I,rfl,q⟩
def CDiv (i j:Int):Prop:=0<j/\j<1073741824
def Qvb (i j:Int):Prop:=j≠0/\j.natAbs<1073741824
def CPow (i j:Int):Prop:=0<=j/\j<=1000000/\i.natAbs<2 ^ 64
def CMul (i j:Int):Prop:=(-(2 ^ 64)<i/\i<2 ^ 64)\/(-(2 ^ 64)<j/\j<2 ^ 64)
theorem CMul.ok {i j:Int} (h:CMul i j):IntMulOk i j:=by
 rcases h with ⟨h1,h2⟩ | ⟨h1,h2⟩
 ·exact .of_left (intBits_le_64 h1 h2)
 ·exact .of_right (intBits_le_64 h1 h2)
theorem Qsn:OpR X (binaryOp .Add) (rI0 λi j=>.int (i+j)):=opI0 λ_ _ _ _ _ _ _ q=>add_int q
theorem Qsf:OpR X (binaryOp .Sub) (rI0 λi j=>.int (i-j)):=opI0 λ_ _ _ _ _ _ _ q=>sub_int q
theorem Qsj:OpR X (binaryOp .Mult) (rI CMul λi j=>.int (i*j)):=opI λ_ _ _ _ _ _ _ hc q=>mul_int q hc.ok
theorem Qqh:OpR X (binaryOp .FloorDiv) (rI CDiv λi j=>.int (i / j)):=opI λi j _ _ _ _ _ hc q=>by
 have h1:(0:Int)<j:=hc.1
 have h2:j<1073741824:=hc.2
 exact floordiv_int (by omega) (by rw [Int.fdiv_eq_ediv_of_nonneg i (by omega)];exact q) (.inl (PyProof.noPylong_small (by omega)))
theorem Qm8:OpR X (binaryOp .FloorDiv) (rI Qvb λi j=>.int (i.fdiv j)):=opI λ_ _ _ _ _ _ _ hc q=>floordiv_int hc.1 q (.inl (PyProof.noPylong_small hc.2))
theorem Qsk:OpR X (binaryOp .Mod) (rI (λ_ j=>0<j) λi j=>.int (i % j)):=opI λi j _ _ _ _ _ hc q=>by
 have h1:(0:Int)<j:=hc
 exact mod_int' (by omega) (by rw [Int.fmod_eq_emod_of_nonneg i (by omega)];exact q)
theorem Qqg:OpR X (binaryOp .Mod) (rI (λ_ j=>j≠0) λi j=>.int (i.fmod j)):=opI λ_ _ _ _ _ _ _ hc q=>mod_int' hc q
theorem Qsh:OpR X (binaryOp .Pow) (rI CPow λi j=>.int (i ^ j.toNat)):=opI λ_ _ _ _ _ _ _ hc q=>pow_int_small hc.1 hc.2.1 hc.2.2 q
theorem unI {f:Value->Sem Value} {g:Int->Int}
  (rule:∀(i:Int) (t:Tok) (s:Shared) (Q:Value->Shared->Prop) (E:Value->Shared->Prop),Q (.int (g i) s.toks) { s with toks:=s.toks+1 }->wpAny (model X.prog X.w) X.A (f (.int i t)) Q E s) :
  UnR X f (rU λi=>.int (g i)):=by
 intro pins s σ H x v Q I rx h
 obtain ⟨i,rfl,q⟩:=h
 obtain ⟨t,rfl⟩:=rx
 exact rule i t s _ _ ⟨.int (g i),H,I.tok _,⟨_,rfl⟩,q⟩
theorem Qrn:UnR X (unaryOp .USub) (rU λi=>.int (-i)):=unI λ_ _ _ _ _ q=>neg_int q
end
def scal:V->V->Bool
 | .non,.non=>true | .non,.int _=>true | .int _,.non=>true | .non,.bl _=>true | .bl _,.non=>true | .non,.str _=>true | .str _,.non=>true
 | .int _,.int _=>true | .bl _,.bl _=>true | .str _,.str _=>true | .byt _,.byt _=>true
 | .int _,.str _=>true | .str _,.int _=>true | .bl _,.str _=>true | .str _,.bl _=>true
 | _,_=>false
def rEq:R2:=λx y H Q=>scal x y=true/\Q (.bl (decide (x=y))) H
def rNe:R2:=λx y H Q=>scal x y=true/\Q (.bl (!decide (x=y))) H
theorem Qlm {i j:Int}:decide (V.int i=V.int j)=(i == j):=by
 rw [Bool.eq_iff_iff]
 simp
theorem Qic {i j:Bool}:decide (V.bl i=V.bl j)=(i == j):=by
 rw [Bool.eq_iff_iff]
 simp
theorem Qll {i j:Str}:decide (V.str i=V.str j)=(i == j):=by
 rw [Bool.eq_iff_iff]
 simp
theorem Qln {i j:Array UInt8}:decide (V.byt i=V.byt j)=(i.toList == j.toList):=by
 rw [Bool.eq_iff_iff]
 cases i
 cases j
 simp
section
variable {X:Cx} {a b c:Expr} {ta tb tc:TE} {pos:Pos}
theorem Jm {pins:List (Addr × Obj)} {σ:St} {H:Hp} {s:Shared} {Q:VK} {k k':Bool} (I:Inv X pins σ H s) (q:Q (.bl k) H) (e:k=k'):EP X pins σ Q (.bool k') s:=by
 subst e
 exact ⟨.bl k,H,I,rfl,q⟩
theorem Quu:OpR X (compareOp .Eq) rEq:=by
 intro pins s σ H x y v u Q I rx ry h
 obtain ⟨hs,q⟩:=h
 cases x with
 | non =>
  cases rx
  cases y with
  | non=>cases ry;exact PySem.EqNone.eq_none_none (Jm I q (by simp))
  | bl j=>cases ry;exact PySem.EqNone.eq_none_bool (Jm I q (by simp))
  | int j=>obtain ⟨t',rfl⟩:=ry;exact PySem.EqNone.eq_none_int (Jm I q (by simp))
  | str j=>obtain ⟨t',rfl⟩:=ry;exact PySem.EqNone.eq_none_str (Jm I q (by simp))
  | _=>exact absurd (show false=true from hs) Bool.false_ne_true
 | bl i =>
  cases rx
  cases y with
  | non=>cases ry;exact PySem.EqNone.eq_bool_none (Jm I q (by simp))
  | bl j=>cases ry;exact eq_bool (Jm I q Qic)
  | str j=>obtain ⟨t',rfl⟩:=ry;exact PySem.EqMixed.eq_bool_str (Jm I q (by simp))
  | _=>exact absurd (show false=true from hs) Bool.false_ne_true
 | int i =>
  obtain ⟨t,rfl⟩:=rx
  cases y with
  | non=>cases ry;exact PySem.EqNone.eq_int_none (Jm I q (by simp))
  | int j=>obtain ⟨t',rfl⟩:=ry;exact eq_int (Jm I q Qlm)
  | str j=>obtain ⟨t',rfl⟩:=ry;exact PySem.EqMixed.eq_int_str (Jm I q (by simp))
  | _=>exact absurd (show false=true from hs) Bool.false_ne_true
 | str i =>
  obtain ⟨t,rfl⟩:=rx
  cases y with
  | non=>cases ry;exact PySem.EqNone.eq_str_none (Jm I q (by simp))
  | bl j=>cases ry;exact PySem.EqMixed.eq_str_bool (Jm I q (by simp))
  | int j=>obtain ⟨t',rfl⟩:=ry;exact PySem.EqMixed.eq_str_int (Jm I q (by simp))
  | str j=>obtain ⟨t',rfl⟩:=ry;exact eq_str (Jm I q Qll)
  | _=>exact absurd (show false=true from hs) Bool.false_ne_true
 | byt i =>
  obtain ⟨t,rfl⟩:=rx
  cases y with
  | byt j=>obtain ⟨t',rfl⟩:=ry;exact PySem.W.eq_bytes (Jm I q Qln)
  | _=>exact absurd (show false=true from hs) Bool.false_ne_true
 | _=>cases y <;> exact absurd (show false=true from hs) Bool.false_ne_true
theorem Quq:OpR X (compareOp .NotEq) rNe:=by
 intro pins s σ H x y v u Q I rx ry h
 obtain ⟨hs,q⟩:=h
 cases x with
 | non =>
  cases rx
  cases y with
  | non=>cases ry;exact PySem.EqNone.ne_none_none (Jm I q (by simp))
  | bl j=>cases ry;exact PySem.EqNone.ne_none_bool (Jm I q (by simp))
  | int j=>obtain ⟨t',rfl⟩:=ry;exact PySem.EqNone.ne_none_int (Jm I q (by simp))
  | str j=>obtain ⟨t',rfl⟩:=ry;exact PySem.EqNone.ne_none_str (Jm I q (by simp))
  | _=>exact absurd (show false=true from hs) Bool.false_ne_true
 | bl i =>
  cases rx
  cases y with
  | non=>cases ry;exact PySem.EqNone.ne_bool_none (Jm I q (by simp))
  | bl j=>cases ry;exact ne_bool (Jm I q (congrArg not Qic))
  | str j=>obtain ⟨t',rfl⟩:=ry;exact PySem.EqMixed.ne_bool_str (Jm I q (by simp))
  | _=>exact absurd (show false=true from hs) Bool.false_ne_true
 | int i =>
  obtain ⟨t,rfl⟩:=rx
  cases y with
  | non=>cases ry;exact PySem.EqNone.ne_int_none (Jm I q (by simp))
  | int j=>obtain ⟨t',rfl⟩:=ry;exact ne_int (Jm I q (congrArg not Qlm))
  | str j=>obtain ⟨t',rfl⟩:=ry;exact PySem.EqMixed.ne_int_str (Jm I q (by simp))
  | _=>exact absurd (show false=true from hs) Bool.false_ne_true
 | str i =>
  obtain ⟨t,rfl⟩:=rx
  cases y with
  | non=>cases ry;exact PySem.EqNone.ne_str_none (Jm I q (by simp))
  | bl j=>cases ry;exact PySem.EqMixed.ne_str_bool (Jm I q (by simp))
  | int j=>obtain ⟨t',rfl⟩:=ry;exact PySem.EqMixed.ne_str_int (Jm I q (by simp))
  | str j=>obtain ⟨t',rfl⟩:=ry;exact ne_str (Jm I q (congrArg not Qll))
  | _=>exact absurd (show false=true from hs) Bool.false_ne_true
 | byt i =>
  obtain ⟨t,rfl⟩:=rx
  cases y with
  | byt j=>obtain ⟨t',rfl⟩:=ry;exact PySem.W.ne_bytes (Jm I q (congrArg not Qln))
  | _=>exact absurd (show false=true from hs) Bool.false_ne_true
 | _=>cases y <;> exact absurd (show false=true from hs) Bool.false_ne_true
theorem Qur:OpR X (compareOp .Lt) (rI0 λi j=>.bl (decide (i<j))):=opB0 λ_ _ _ _ _ _ _ q=>lt_int q
theorem Qus:OpR X (compareOp .Gt) (rI0 λi j=>.bl (decide (j<i))):=opB0 λ_ _ _ _ _ _ _ q=>gt_int q
theorem Qut:OpR X (compareOp .GtE) (rI0 λi j=>.bl (decide (j<=i))):=opB0 λ_ _ _ _ _ _ _ q=>ge_int q
theorem Qqf:OpR X (compareOp .IsNot) (λx y H Q=>y=.non/\Q (.bl (!decide (x=.non))) H):=by
 intro pins s σ H x y v u Q I rx ry h
 obtain ⟨rfl,q⟩:=h
 cases ry
 refine isnot_none_gen (Jm I q ?_)
 cases x <;> first
  | (cases rx;rfl)
  | (obtain ⟨t,rfl⟩:=rx;rfl)
theorem OpR.or {f:Value->Value->Sem Value} {r r':R2} (h:OpR X f r) (h':OpR X f r'):OpR X f (λx y H Q=>r x y H Q\/r' x y H Q):=by
 intro pins s σ H x y v u Q I rx ry q
 rcases q with q | q
 ·exact h pins s σ H x y v u Q I rx ry q
 ·exact h' pins s σ H x y v u Q I rx ry q
theorem Qor (b:Expr) {op:CmpOp} (h:op ≠ .In:=by decide) (h2:op ≠ .NotIn:=by decide):behindInMarks op b=false:=by
 have e1:(op == CmpOp.In)=false:=by cases op <;> first | rfl | exact absurd rfl h
 have e2:(op == CmpOp.NotIn)=false:=by cases op <;> first | rfl | exact absurd rfl h2
 cases b <;> simp [behindInMarks,e1,e2]
theorem Qqc {op:CmpOp} {r:R2} (ho:OpR X (compareOp op) r) (ha:PE X a ta) (hb:PE X b tb) (hm:behindInMarks op b=false):PE X (.Compare a [op] [b] pos) (tOp r ta tb):=by
 intro pins s σ H Q I h
 exact wpAny_Compare1 (binT ha hb I h λv u s2 x y H2 I2 rx ry q=>ho pins s2 σ H2 x y v u Q I2 rx ry q) hm
def Qtz (t:TE):TT:=λσ H Q=>t σ H λx H'=>∃k,x=.bl k/\Q k H'
theorem Qpx {op:CmpOp} {r:R2} (ho:OpR X (compareOp op) r) (ha:PE X a ta) (hb:PE X b tb) (hm:behindInMarks op b=false):PT X (.Compare a [op] [b] pos) (Qtz (tOp r ta tb)):=by
 intro pins s σ H Q I h
 refine wpAny_isTrue_Compare1 (thn (ha pins s σ H _ I h) λv s1 ⟨x,H1,I1,r1,q1⟩=>thn (hb pins s1 σ H1 _ I1 q1) λu s2 ⟨y,H2,I2,r2,q2⟩ =>
  thn (ho pins s2 σ H2 x y v u _ I2 r1 r2 q2) λc s3 ⟨z,H3,I3,r3,k,e,q3⟩=>?_) hm
 subst e
 cases r3
 exact wpAny_truthy_bool ⟨H3,I3,q3⟩
def TruV (K:PySem.W.Frag) (x:V) (H:Hp) (k:Bool):Prop :=
 match x with
 | .non=>k=false
 | .bl b=>k=b
 | .int i=>k=(i != 0)
 | .str y=>y.length<=sizeLine/\k=((y.length:Int) != 0)
 | .byt y=>y.size<=sizeLine/\k=((y.size:Int) != 0)
 | .ref p=>(∃xs,SqL K H p xs/\k = !xs.isEmpty)\/(∃xs,SqT K H p xs/\k = !xs.isEmpty)\/∃kvs,H p=some (.dK kvs)/\k = !kvs.isEmpty
 | _=>False
theorem Qi7 {κ:Type} {kvs:List (κ × V)} {vs:List (κ × Value)} (r:KV kvs vs):(!vs.isEmpty) = !kvs.isEmpty:=by
 cases r <;> rfl
theorem Qc5 {xs:List V} {its:List Value} (r:Vals xs its):(!its.toArray.isEmpty) = !xs.isEmpty:=by
 cases r <;> simp
theorem Qc1:(sizeLine:Nat)<2 ^ 63:=by rw [sizeLine_eq];decide
theorem Qro:TruR X (λx H Q=>∃k,TruV X.K x H k/\Q k H):=by
 intro pins s σ H x v Q I rx h
 obtain ⟨k,e,q⟩:=h
 have hl:=Qc1
 have hs:sizeLine=16777216:=sizeLine_eq
 cases x with
 | non =>
  cases rx
  have e':k=false:=e
  subst e'
  exact truthy_none ⟨H,I,q⟩
 | bl b =>
  cases rx
  have e':k=b:=e
  subst e'
  exact wpAny_truthy_bool ⟨H,I,q⟩
 | int i =>
  obtain ⟨t,rfl⟩:=rx
  have e':k=(i != 0):=e
  subst e'
  exact PySem.P.truthy_int ⟨H,I,q⟩
 | str y =>
  obtain ⟨t,rfl⟩:=rx
  obtain ⟨hy,e'⟩:y.length<=sizeLine/\k=((y.length:Int) != 0):=e
  subst e'
  exact PySem.P.truthy_str (by omega) ⟨H,I.tok _,q⟩
 | byt y =>
  obtain ⟨t,rfl⟩:=rx
  obtain ⟨hy,e'⟩:y.size<=sizeLine/\k=((y.size:Int) != 0):=e
  subst e'
  exact PySem.W.truthy_bytes (by omega) ⟨H,I.tok _,q⟩
 | ref p =>
  cases rx
  have e':(∃xs,SqL X.K H p xs/\k = !xs.isEmpty)\/(∃xs,SqT X.K H p xs/\k = !xs.isEmpty)\/∃kvs,H p=some (.dK kvs)/\k = !kvs.isEmpty:=e
  rcases e' with ⟨xs,hx,e'⟩ | ⟨xs,hx,e'⟩ | ⟨kvs,hx,e'⟩
  ·subst e'
   obtain ⟨its,r,pl,hz⟩:=I.list hx
   have hlen:=r.length
   exact wpAny_truthy_list pl.isList (by simp only [List.size_toArray];omega) ⟨H,I.tok _,by rw [Qc5 r];exact q⟩
  ·subst e'
   obtain ⟨its,r,pl,hz⟩:=I.tuple hx
   have hlen:=r.length
   exact truthy_tuple pl (by simp only [List.size_toArray];omega) ⟨H,I.tok _,by rw [Qc5 r];exact q⟩
  ·subst e'
   obtain ⟨hz,hS,vs,r,m⟩:kvs.length<=sizeLine/\(p == sysModules)=false/\∃vs,KV kvs vs/\s.heap.DictOf (Jg X.prog X.w) p vs:=I.hok p _ hx
   have hlen:kvs.length=vs.length:=Paired.length r
   exact wpAny_truthy_dict hS m (by omega) ⟨H,I.tok _,by rw [Qi7 r];exact q⟩
 | _=>exact (show False from e).elim
theorem Qmu (ha:PE X a ta) (he:∀whole,isTrue a X.env whole=(do let v ← whole;standAt a.pos;holding [v] (truthy v))) :
  PT X a (λσ H Q=>ta σ H λx H'=>∃k,TruV X.K x H' k/\Q k H'):=by
 intro pins s σ H Q I h
 exact isTrue_plain (thn (ha pins s σ H _ I h) λv s1 ⟨x,H1,I1,r1,q1⟩=>Qro pins s1 σ H1 x v Q I1 r1 q1) (he _)
theorem Qix:OpR X (binaryOp .Add) (λx y H Q=>∃i j,x=.str i/\y=.str j/\i.length+j.length<=sizeLine/\Q (.str (i++j)) H):=by
 intro pins s σ H x y v u Q I rx ry h
 obtain ⟨i,j,rfl,rfl,hz,q⟩:=h
 obtain ⟨t,rfl⟩:=rx
 obtain ⟨t',rfl⟩:=ry
 exact add_str (λt' tk=>⟨.str (i++j),H,I.tok _,⟨_,rfl⟩,q⟩) hz
theorem Qae {x:V} {us:List Value} (r:Vals [x] us):∃u,us=[u]/\RelV x u:=by
 cases r with
 | cons r1 r2=>cases r2;exact ⟨_,rfl,r1⟩
theorem Qjr {x y:V} {us:List Value} (r:Vals [x,y] us):∃u w',us=[u,w']/\RelV x u/\RelV y w':=by
 cases r with
 | cons r1 r2 =>
  cases r2 with
  | cons r3 r4=>cases r4;exact ⟨_,_,rfl,r1,r3⟩
theorem Ql6:Z5 X (.type "int") (λxs H Q=>(∃i,xs=[.int i]/\Q (.int i) H)\/∃k,xs=[.bl k]/\Q (.int (if k then 1 else 0)) H):=by
 intro pins s σ H xs us Q I r h
 rcases h with ⟨i,rfl,q⟩ | ⟨k,rfl,q⟩
 ·obtain ⟨u,rfl,t,rfl⟩:=Qae r
  exact call_int_int ⟨.int i,H,I,⟨_,rfl⟩,q⟩
 ·obtain ⟨u,rfl,r1⟩:=Qae r
  cases r1
  exact call_int_bool ⟨.int (if k then 1 else 0),H,I.tok _,⟨_,rfl⟩,q⟩
def LenV (K:PySem.W.Frag) (x:V) (H:Hp) (n:Nat):Prop :=
 match x with
 | .str y=>y.length<=sizeLine/\n=y.length
 | .byt y=>y.size<=sizeLine/\n=y.size
 | .ref p=>(∃xs,SqL K H p xs/\n=xs.length)\/∃xs,SqT K H p xs/\n=xs.length
 | _=>False
theorem Qn0:Z5 X (.builtin "len") (λxs H Q=>∃x n,xs=[x]/\LenV X.K x H n/\Q (.int n) H):=by
 intro pins s σ H xs us Q I r h
 obtain ⟨x,n,rfl,e,q⟩:=h
 obtain ⟨u,rfl,rx⟩:=Qae r
 have hl:=Qc1
 have hs:sizeLine=16777216:=sizeLine_eq
 cases x with
 | str y =>
  obtain ⟨t,rfl⟩:=rx
  obtain ⟨hy,e'⟩:y.length<=sizeLine/\n=y.length:=e
  subst e'
  exact len_str (by omega) ⟨.int _,H,I.tok _,⟨_,rfl⟩,q⟩
 | byt y =>
  obtain ⟨t,rfl⟩:=rx
  obtain ⟨hy,e'⟩:y.size<=sizeLine/\n=y.size:=e
  subst e'
  exact PySem.W.len_bytes (by omega) ⟨.int _,H,I.tok _,⟨_,rfl⟩,q⟩
 | ref p =>
  cases rx
  have e':(∃xs,SqL X.K H p xs/\n=xs.length)\/∃xs,SqT X.K H p xs/\n=xs.length:=e
  rcases e' with ⟨xs,hx,e'⟩ | ⟨xs,hx,e'⟩
  ·subst e'
   obtain ⟨its,r',pl,hz⟩:=I.list hx
   have hlen:=r'.length
   exact Calls.call_len_list pl.isList (by simp only [List.size_toArray];omega) ⟨.int xs.length,H,I.tok _,⟨_,by simp only [List.size_toArray];rw [hlen]⟩,q⟩
  ·subst e'
   obtain ⟨its,r',pl,hz⟩:=I.tuple hx
   have hlen:=r'.length
   exact len_tuple pl (by simp only [List.size_toArray];omega) ⟨.int xs.length,H,I.tok _,⟨_,by simp only [List.size_toArray];rw [hlen]⟩,q⟩
 | _=>exact (show False from e).elim
end
end L2
namespace L2
open PySem PySem.Spec PyProof.Rows
structure ObjM (h:Heap) (x dx C:Addr) (mA:Str->Option Value):Prop where
 obj:h.get? x=some (PySem.W.instObj C dx)
 ns:h.Ns1 dx mA
 ne:dx≠x
theorem Qkm {h:Heap} {dx:Addr} {mA:Str->Option Value} (n:h.Ns1 dx mA):∃od,h.get? dx=some od/\∀name,PySem.W.lookIn name od=some (mA name):=by
 obtain ⟨o,es,ep,ho,hd,hk,_,hm⟩:=n
 refine ⟨o,ho,λname=>?_⟩
 have e:=hm name
 unfold nsFind findBy at e
 rw [← Array.find?_toList] at e
 unfold PySem.W.lookIn
 rw [hd]
 dsimp only
 split
 ·rename_i y q
  rw [q] at e
  exact congrArg some e
 ·rename_i q
  rw [q] at e
  have a:es.toList.any (·.refKey)=false:=by
   rw [List.any_eq_false]
   intro y hy
   obtain ⟨z,t,hkey⟩:=hk y (Array.mem_toList_iff.mp hy)
   simp [DictEntry.refKey,hkey]
  have a':¬es.toList.any (·.refKey)=true:=by rw [a];exact Bool.false_ne_true
  rw [if_neg a']
  exact congrArg some e
theorem ObjM.look {h:Heap} {x dx C:Addr} {mA:Str->Option Value} (I:ObjM h x dx C mA):∃od,PySem.W.InstAt h x (PySem.W.instObj C dx) C (some od)/\∀name,PySem.W.lookIn name od=some (mA name) :=
 let ⟨od,ho,hl⟩:=Qkm I.ns
 ⟨od,⟨I.obj,rfl,rfl,ho⟩,hl⟩
section
variable {prog:Program} {w:World} {A:Around} {E:Value->Shared->Prop} {s:Shared} {K:PySem.W.Frag} {x dx C f:Addr} {mA:Str->Option Value} {name:Str} {v:Value}
theorem Qdg {ns:List Str} {Q:Unit->Shared->Prop} (X:K.In s.heap) (I:ObjM s.heap x dx C mA)
  (hs:PySem.W.findIn K (.ref C) "__setattr__" = some (some (.builtin "object.__setattr__"))) (hp:PySem.W.plainOver K C=true) (ht:PySem.W.takerIn K C name=some none) (hh:PySem.W.hasDictIn K C=true)
  (hw:PySem.Within mA ns) (hsz:ns.length<=sizeLine)
  (h:∀h',ObjM h' x dx C (λy=>if y=name then some v else mA y)->Heap.SameBut dx s.heap h'->Q () { s with heap:=h',toks:=s.toks+2 }) :
  wpAny (model prog w) A (setAttr (.ref x) name v) Q E s:=by
 obtain ⟨od,J,hl⟩:=I.look
 refine PySem.W.set_plain X J hs (PySem.W.osa_open (s:={ s with toks:=s.toks+1 }) (r:=none) X J hp ht λb=>?_)
 obtain ⟨cd,hc,hd'⟩:=PySem.W.any_some hh
 have hx:s.heap.get? x=some ⟨.ref C,some dx,.plain,#[]⟩:=I.obj
 refine wpAny_bind (wpAny_pure (wpAny_bind (wpAny_bind (wpAny_loadPart hx (wpAny_bind (PySem.W.Looks.here (s:={ s with toks:=s.toks+1 }) (PySem.W.looks_clsIn X hc) ?_))))))
 rw [hd']
 refine wpAny_pure (a:=some dx) (wpAny_bind (wpAny_pure (wpAny_bind ?_)))
 refine wpAny_nsSet1 (s:={ s with toks:=s.toks+1 }) I.ns λh' hn2 hs2=>?_
 obtain ⟨oD,esD,epD,hoD,hdD,hcD⟩:=hn2.count (PySem.Within.cons name v hw)
 refine wpAny_bind (wpAny_lookBehind hoD (by rw [hdD];exact pastItsLine_dict (Nat.le_trans hcD (by rw [List.length_cons];omega))) ?_)
 exact wpAny_pure (h _ ⟨(hs2.2 _ (Ne.symm I.ne)).trans I.obj,hn2,I.ne⟩ hs2)
end
theorem RelO.some_of {v:V} {o:Option Value} (r:RelO (some v) o):∃u,o=some u/\RelV v u:=by
 cases o with
 | none=>exact (show False from r).elim
 | some u=>exact ⟨u,rfl,r⟩
theorem Qk1 {v:V} {u:Value} (r:RelV v u):PySem.W.handedIn u=true:=by
 cases v with
 | non=>cases (show u=Value.none from r);rfl
 | bl b=>cases (show u=Value.bool b from r);rfl
 | int i=>obtain ⟨t,e⟩:=(show ∃t,u=Value.int i t from r);cases e;rfl
 | str x=>obtain ⟨t,e⟩:=(show ∃t,u=Value.str x t from r);cases e;rfl
 | byt b=>obtain ⟨t,e⟩:=(show ∃t,u=Value.bytes b t from r);cases e;rfl
 | flt b=>obtain ⟨t,e⟩:=(show ∃t,u=Value.float b t from r);cases e;rfl
 | ref a=>cases (show u=Value.ref a from r);rfl
 | ty n=>cases (show u=Value.type n from r);rfl
section
variable {P:Program} {w:World} {H H':Hp} {h h':Heap} {a C dx:Addr} {fs fs':List (Str × V)}
theorem Qqv (hok:HOk P w H h) (e:H a=some (.ins C dx fs)):∃mA,ObjM h a dx C mA/\(∀f,RelO (fs.lookup f) (mA f))/\PySem.Within mA (fs.map (·.1))/\fs.length<=1000/\H dx=some (.own a):=by
 obtain ⟨d,z,ne,ob,mA,n,r,q⟩:=(show J2 P w H h a (.ins C dx fs) from hok a _ e)
 exact ⟨mA,⟨ob,n,ne⟩,r,q,z,d⟩
end
structure Cls (K:PySem.W.Frag) (C:Addr):Prop where
 pg:PySem.W.plainGet K C Str.empty=true
 hd:PySem.W.hasDictIn K C=true
 po:PySem.W.plainOver K C=true
 sa:PySem.W.findIn K (.ref C) "__setattr__" = some (some (.builtin "object.__setattr__"))
theorem Cls.get {K:PySem.W.Frag} {C:Addr} (c:Cls K C) (f:Str):PySem.W.plainGet K C f=true:=c.pg
section
variable {X:Cx} {pins:List (Addr × Obj)} {σ:St} {H:Hp} {s:Shared} {a C dx:Addr} {fs:List (Str × V)} {f:Str} {v:V} {A:Around} {E:Value->Shared->Prop}
theorem Qrh {prog:Program} {w:World} {env:Env} {e:Expr} {f:Str} {pos:Pos} {s:Shared} {Q:Value->Shared->Prop} (hb:attributeBase e f env (eval e env)=eval e env)
  (h:wpAny (model prog w) A (eval e env) (λo s₁=>wpAny (model prog w) A (getAttr o f true) Q E s₁) E s):wpAny (model prog w) A (eval (.Attribute e f pos) env) Q E s :=
 Attribute_any_ h (by rw [arm_eval_Attribute,hb])
end
section
variable {X:Cx} {o e value:Expr} {f:Str} {pos pos' tpos:Pos} {ta tv:TE}
end
section
variable {X:Cx} {pins:List (Addr × Obj)} {σ:St} {H:Hp} {s:Shared} {A:Around} {E:Value->Shared->Prop} {Q:Value->Shared->Prop} {c:Value} {b:Bool}
inductive TyOf (K:PySem.W.Frag) (H:Hp):V->Value->Prop where
 | non:TyOf K H .non (.type "NoneType")
 | bl (x:Bool):TyOf K H (.bl x) (.type "bool")
 | int (i:Int):TyOf K H (.int i) (.type "int")
 | str (x:Str):TyOf K H (.str x) (.type "str")
 | flt (x:UInt64):TyOf K H (.flt x) (.type "float")
 | lst {a:Addr} {xs:List V} (e:H a=some (.lst xs)):TyOf K H (.ref a) (.type "list")
 | frz {a:Addr} {o:Obj} {xs:List V} (e:H a=some (.frz o (.lst xs))):TyOf K H (.ref a) (.type "list")
 | tup {a:Addr} {xs:List V} (e:H a=some (.tup xs)):TyOf K H (.ref a) (.type "tuple")
 | dK {a:Addr} {kvs:List (Key × V)} (e:H a=some (.dK kvs)):TyOf K H (.ref a) (.type "dict")
 | dT {a:Addr} {kvs:List (List Key × V)} (e:H a=some (.dT kvs)):TyOf K H (.ref a) (.type "dict")
 | ins {a C dx:Addr} {fs:List (Str × V)} (e:H a=some (.ins C dx fs)) (cl:Cls K C) (ha:PySem.W.findIn K (.ref C) "__class__" = some (some (.builtin "object.__class__")))
   (hn:PySem.W.specialIn K (.builtin "object.__class__") "__get__" = some (some (.builtin "getset_descriptor.__get__"))) (htk:PySem.W.takesIn K (.builtin "object.__class__")=some true)
   (hm:PySem.W.mroIn K C (.type "object")=some true):TyOf K H (.ref a) (.ref C)
theorem Qkz {x:V} {u t:Value} (I:Inv X pins σ H s) (rx:RelV x u) (ty:TyOf X.K H x t) (e:PySem.W.kitOne X.K t c=some b) (h:∀tk,Q (.bool b) { s with toks:=tk }) :
  wpAny (model X.prog X.w) A (call (.builtin "isinstance") [u,c]) Q E s:=by
 cases ty with
 | non=>cases (show u=Value.none from rx);exact PySem.W.kia_one PySem.W.kitx_none I.kIn True.intro e (λz=>nomatch z) h
 | bl y=>cases (show u=Value.bool y from rx);exact PySem.W.kia_one PySem.W.kitx_bool I.kIn True.intro e (λz=>nomatch z) h
 | int i=>obtain ⟨t,q⟩:=(show ∃t,u=Value.int i t from rx);cases q;exact PySem.W.kia_one PySem.W.kitx_int I.kIn True.intro e (λz=>nomatch z) h
 | str y=>obtain ⟨t,q⟩:=(show ∃t,u=Value.str y t from rx);cases q;exact PySem.W.kia_one PySem.W.kitx_str I.kIn True.intro e (λz=>nomatch z) h
 | flt y=>obtain ⟨t,q⟩:=(show ∃t,u=Value.float y t from rx);cases q;exact PySem.W.kia_one PySem.W.kitx_float I.kIn True.intro e (λz=>nomatch z) h
 | @lst a xs ea =>
  cases (show u=Value.ref a from rx)
  obtain ⟨_,_,n,_,h1⟩:=(show J2 X.prog X.w H s.heap a (.lst xs) from I.hok a _ ea)
  exact PySem.W.kia_one PySem.W.kitx_list I.kIn ⟨_,h1,rfl⟩ e (λz=>nomatch z) h
 | @frz a ob xs ea =>
  cases (show u=Value.ref a from rx)
  obtain ⟨_,_,_,n,_,h1⟩:=(show J2 X.prog X.w H s.heap a (.frz ob (.lst xs)) from I.hok a _ ea)
  exact PySem.W.kia_one PySem.W.kitx_list I.kIn ⟨_,h1,rfl⟩ e (λz=>nomatch z) h
 | @tup a xs ea =>
  cases (show u=Value.ref a from rx)
  obtain ⟨_,_,_,p⟩:=(show J2 X.prog X.w H s.heap a (.tup xs) from I.hok a _ ea)
  obtain ⟨o,h1,h2,_⟩:=p
  exact PySem.W.kia_one PySem.W.kitx_tuple I.kIn ⟨o,h1,h2⟩ e (λz=>nomatch z) h
 | @dK a kvs ea =>
  cases (show u=Value.ref a from rx)
  obtain ⟨_,_,vs,_,p⟩:=(show J2 X.prog X.w H s.heap a (.dK kvs) from I.hok a _ ea)
  obtain ⟨o,es,ep,h1,h2,_⟩:=p
  exact PySem.W.kia_one PySem.W.kitx_dict I.kIn ⟨o,h1,h2.1⟩ e (λz=>nomatch z) h
 | @dT a kvs ea =>
  cases (show u=Value.ref a from rx)
  obtain ⟨_,_,xs,_,o,es,ep,h1,h2,_⟩:=(show J2 X.prog X.w H s.heap a (.dT kvs) from I.hok a _ ea)
  exact PySem.W.kia_one PySem.W.kitx_dict I.kIn ⟨o,h1,h2.1⟩ e (λz=>nomatch z) h
 | @ins a C dx fs ea cl ha hn htk hm =>
  cases (show u=Value.ref a from rx)
  obtain ⟨mA,O,_⟩:=Qqv I.hok ea
  obtain ⟨od,J,_⟩:=O.look
  exact PySem.W.kia_one (PySem.W.kitx_own (cl.get _) cl.hd ha hn htk hm) I.kIn J e (λz=>nomatch z) h
end
end L2
namespace L2
open PySem PySem.Spec PyProof.Rows
structure Room (k:Nat) (A:Around):Prop where
 hd:A.handled=none
 dp:A.depth+3*k+5<recursionLimit
 un:A.units+16*k+200<cLine
theorem Room.mono {j k:Nat} {A:Around} (r:Room k A) (h:j<=k):Room j A:=⟨r.hd,by have:=r.dp;omega,by have:=r.un;omega⟩
theorem Room.deeper {k:Nat} {A:Around} (r:Room (k+1) A) (env:Env):Room k (A.deeper env) :=
 ⟨r.hd,by have:=r.dp;show A.depth+1+3*k+5<_;omega,by have:=r.un;show A.units+3+16*k+200<_;omega⟩
theorem Qi3 {A:Around} {C:Addr} {us:List Value} {kw:List (Str × Value)}:(A.under (.builtin "type.__call__" ⟨.ref C::us,kw⟩)).depth=A.depth+1:=by
 first | rfl | simp [Around.under,Code.weight,Code.isCreation,Code.isGuard,Code.isCaller,Code.frames,Code.isFrame,guardIds]
theorem Qi2 {A:Around} {C:Addr} {us:List Value} {kw:List (Str × Value)}:(A.under (.builtin "type.__call__" ⟨.ref C::us,kw⟩)).units=A.units+1:=by
 first | rfl | simp [Around.under,Code.cUnits,Code.frames,Code.isFrame]
theorem Room.make {k:Nat} {A:Around} (r:Room (k+1) A) (C:Addr) (us:List Value) (kw:List (Str × Value)):Room k (A.under (.builtin "type.__call__" ⟨.ref C::us,kw⟩)) :=
 ⟨r.hd,by have:=r.dp;rw [Qi3];omega,by have:=r.un;rw [Qi2];omega⟩
theorem Room.depth {k:Nat} {A:Around} (r:Room k A):A.depth<recursionLimit:=by have:=r.dp;omega
theorem Room.units {k:Nat} {A:Around} (r:Room k A):A.units+64<cLine:=by have:=r.un;omega
def tNil:TA:=λ_ H Q=>Q [] H
def Qrs (ta:TE) (tr:TA):TA:=λσ H Q=>ta σ H λx H1=>tr σ H1 λxs H2=>Q (x::xs) H2
section
variable {X:Cx} {e:Expr} {es:List Expr} {te:TE} {t:TA} {pos:Pos}
theorem Ub:PA X [] tNil:=λ_ _ _ _ H Q I h=>Calls.spliced_nil ⟨[],H,I,.nil,h⟩
theorem Js (ha:PE X e te) (hr:PA X es t) (hs:starEach (e::es) X.env=(false,eval e X.env)::starEach es X.env:=by rfl):PA X (e::es) (Qrs te t):=by
 intro pos pins s σ H Q I h
 rw [hs]
 show wpAny _ _ (spliced ((false,eval e X.env)::backTo pos (starEach es X.env))) _ _ s
 refine Calls.spliced_cons (thn (ha pins s σ H _ I h) λu s1 ⟨x,H1,I1,r1,q1⟩=>?_)
 exact thn (hr pos pins s1 σ H1 _ I1 q1) λus s2 ⟨xs,H2,I2,r2,q2⟩=>⟨x::xs,H2,I2,.cons r1 r2,q2⟩
def tTup (t:TA):TE:=λσ H Q=>t σ H λxs H1=>xs.length<=sizeLine/\∀p,H1 p=none->Q (.ref p) (upd H1 p (.tup xs))
def tLst (t:TA):TE:=λσ H Q=>t σ H λxs H1=>xs.length<=sizeLine/\∀p,H1 p=none->Q (.ref p) (upd H1 p (.lst xs))
theorem Qke {x1} (h:PA X es t):PE X (.Tuple es x1 pos) (tTup t):=by
 intro pins s σ H Q I hq
 refine wpAny_Tuple_spliced (thn (h pos pins s σ H _ I hq) λus s1 ⟨xs,H1,I1,r,z,q⟩=>⟨by rw [← r.length];exact z,?_⟩)
 have hf:H1 s1.heap.objs.size=none:=I1.hok.fresh (Nat.le_refl _)
 refine ⟨.ref s1.heap.objs.size,upd H1 s1.heap.objs.size (.tup xs),I1.laid (t':=s1.toks) (λb u e=>Heap.get?_push_of_some _ e) (Nat.le_refl _) ?_,rfl,q _ hf⟩
 exact ⟨z,us,r,⟨_,Heap.get?_push_size _ rfl,rfl,_,rfl⟩⟩
theorem Qoq (h:PA X es t):PE X (.List es pos) (tLst t):=by
 intro pins s σ H Q I hq
 refine wpAny_List_spliced (thn (h pos pins s σ H _ I hq) λus s1 ⟨xs,H1,I1,r,z,q⟩=>⟨by rw [← r.length];exact z,?_⟩)
 have hf:H1 s1.heap.objs.size=none:=I1.hok.fresh (Nat.le_refl _)
 refine ⟨.ref s1.heap.objs.size,upd H1 s1.heap.objs.size (.lst xs),I1.laid (t':=s1.toks) (λb u e=>Heap.get?_push_of_some _ e) (Nat.le_refl _) ?_,rfl,q _ hf⟩
 exact ⟨z,us,0,r,Heap.get?_push_size _ rfl⟩
end
abbrev Sp:=List V->Hp->VK->XK->Prop
abbrev CXT:=List Env->Hp->Shared->XK->Value->Shared->Prop
structure Env0 (P:Program) (w:World) (K:PySem.W.Frag) (mg:Str->Option Value) (base:Heap) (A:Around) (outer:List Env) (s:Shared) (H:Hp):Prop where
 frames:A.frames=some outer
 mod:Mod K mg base
 bs:∀b o,base.get? b=some o->s.heap.get? b=some o/\H b=none
 bsz:base.objs.size<=s.heap.objs.size
 funs:s.heap.FunFrames base outer
 frf:∀b∈frs outer,H b=none
 hok:HOk P w H s.heap
 bare:AllBare s.gens
def CE (outer:List Env) (P:Program) (w:World) (H:Hp) (s:Shared) (Q:VK) (u:Value) (s':Shared):Prop :=
 ∃v H',s'.os=s.os/\AllBare s'.gens/\Un (frs outer) [] H H' s.heap s'.heap/\HOk P w H' s'.heap/\RelV v u/\Q v H'
def CR (CX:CXT) (outer:List Env) (P:Program) (w:World) (H:Hp) (s:Shared) (Q:VK) (E:XK) (r:Result) (s':Shared):Prop :=
 match r with
 | .ok (.ret u)=>CE outer P w H s Q u s'
 | .ok _=>False
 | .error e=>CX outer H s E e s'
structure FnOk (P:Program) (w:World) (K:PySem.W.Frag) (mg:Str->Option Value) (base:Heap) (CX:CXT) (k:Nat) (f:Addr) (fd:FuncData) (ps:List Str) (sp:Sp):Prop where
 len:∀vs H Q E,sp vs H Q E->vs.length=ps.length
 run:∀(A:Around) (outer:List Env) (s:Shared) (H:Hp) (args:Args) (us:List Value) (vs:List V) (Q:VK) (E:XK),Room k A->Env0 P w K mg base A outer s H->BindsTo s fd args (ps.zip us)->Vals vs us->sp vs H Q E ->
  codeAny (model P w) A (.call (.ref f) args) (CR CX outer P w H s Q E) s
theorem Env0.make {P:Program} {w:World} {K:PySem.W.Frag} {mg:Str->Option Value} {base:Heap} {A:Around} {outer:List Env} {s:Shared} {H:Hp} (e:Env0 P w K mg base A outer s H) (C:Addr) (us:List Value) (kw:List (Str × Value)) :
  Env0 P w K mg base (A.under (.builtin "type.__call__" ⟨.ref C::us,kw⟩)) outer s H:=⟨by first | exact e.frames | (simpa [Around.under,Code.envs,Code.isFrame,pushEnvs] using e.frames),e.mod,e.bs,e.bsz,e.funs,e.frf,e.hok,e.bare⟩
section
variable {X:Cx} {pins:List (Addr × Obj)} {σ:St} {H:Hp} {s s':Shared}
theorem Inv.env0 (I:Inv X pins σ H s):Env0 X.prog X.w X.K X.mg X.base X.A X.stack s H :=
 ⟨I.ok.frames,I.ok.mod,I.bs,Nat.le_trans I.ok.bsz I.sz,I.stack,I.stkFree,I.hok,I.bare⟩
theorem Inv.after {Q:VK} {u:Value} (I:Inv X pins σ H s) (h:CE X.stack X.prog X.w H s Q u s'):EP X pins σ Q u s':=by
 obtain ⟨v,H',os,bare,un,hok,r,q⟩:=h
 obtain ⟨hh,g,d,t,os'⟩:=s'
 obtain rfl:os'=s.os:=os
 exact ⟨v,H',I.call (h':=hh) (g':=g) (d':=d) (t':=t) (ch:=[]) un hok bare (λb z=>absurd z (by simp)),r,q⟩
end
def Qt6 (sp:Sp) (dvs:List V) (E:XK) (t:TA):TE:=λσ H Q=>t σ H λvs H1=>sp (vs++dvs) H1 Q E
def Gw (K:PySem.W.Frag) (fd:FuncData) (ps:List Str) (ds:List Value):Prop :=
 ∀(s:Shared) (us:List Value),K.In s.heap->(us++ds).length=ps.length->BindsTo s fd ⟨us,[]⟩ (ps.zip (us++ds))
theorem Gw.all {K:PySem.W.Frag} {fd:FuncData} {ps:List Str} (h:∀us:List Value,us.length=ps.length->bindArgs fd ⟨us,[]⟩=pure (ps.zip us)):Gw K fd ps []:=λs us _ hl=>by
 rw [List.append_nil] at hl ⊢
 exact .of_eq (h us hl)
def Qme (CX:CXT) (X:Cx) (E:XK):Prop:=∀(pins:List (Addr × Obj)) (σ:St) (H:Hp) (s:Shared) (e:Value) (s':Shared),Inv X pins σ H s->CX X.stack H s E e s'->X.xe e s'
section
variable {X:Cx} {CX:CXT} {k:Nat} {f C:Addr} {fd:FuncData} {ps:List Str} {sp:Sp} {dvs:List V} {ds:List Value} {E:XK} {x m:Str} {p pos apos:Pos} {e o:Expr} {es:List Expr} {ta:TE} {t:TA}
theorem Qry {pins:List (Addr × Obj)} {σ:St} {H:Hp} {s:Shared} {Q:VK} {us:List Value} {vs:List V} (F:FnOk X.prog X.w X.K X.mg X.base CX k f fd ps sp) (hr:Room k X.A) (hb:Gw X.K fd ps ds) (hd:Vals dvs ds) (hx:Qme CX X E)
  (I:Inv X pins σ H s) (r:Vals vs us) (h:sp (vs++dvs) H Q E):wpAny (model X.prog X.w) X.A (call (.ref f) us) (EP X pins σ Q) X.xe s:=by
 have r2:Vals (vs++dvs) (us++ds):=r.append hd
 have hl:(us++ds).length=ps.length:=by rw [← r2.length];exact F.len _ _ _ _ h
 refine wpAny_call (codeAny_mono (F.run X.A X.stack s H ⟨us,[]⟩ (us++ds) (vs++dvs) Q E hr I.env0 (hb s us I.kIn hl) r2 h) λr s' hq=>?_)
 cases r with
 | error e=>exact hx pins σ H s e s' I hq
 | ok fl =>
  cases fl with
  | ret u=>exact I.after hq
  | next=>exact False.elim hq
  | brk=>exact False.elim hq
  | cont=>exact False.elim hq
theorem Qgj (F:FnOk X.prog X.w X.K X.mg X.base CX k f fd ps sp) (hr:Room k X.A) (hg:Gl X x) (hm:X.mg x=some (.ref f)) (hk:PySem.W.keepIn X.K (.ref f)=true) (hb:Gw X.K fd ps ds) (hd:Vals dvs ds) (hx:Qme CX X E)
  (ha:PA X (e::es) t) (hdb:(x == ("__debug__" : Str))=false:=by decide) (he:starEach (e::es) X.env=(false,eval e X.env)::starEach es X.env:=by rfl) (hpl:(backTo pos (starEach es X.env)).any (·.1)=false:=by rfl) :
  PE X (.Call (.Name x p) (e::es) [] pos) (Qt6 sp dvs E t):=by
 intro pins s σ H Q I h
 refine wpAny_Call_Name_kw (Uc I hg hm ?_ hdb)
 refine PySem.W.callWith_K (h₀:=X.base) I.ok.mod.kin hk (thn (ha pos pins s σ H _ I h) λus s1 ⟨vs,H1,I1,r,q⟩=>⟨I1.kIn,?_⟩) he hpl
 exact Qry F hr hb hd hx I1 r q
end
section
variable {X:Cx} {CX:CXT} {k:Nat} {f C:Addr} {fd:FuncData} {ps ks:List Str} {sp:Sp} {E:XK} {x m:Str} {p pos apos kpos:Pos} {e o:Expr} {es:List Expr} {kws:List Keyword} {te ta:TE} {t tk:TA} {nm:Option Str}
variable {g:List Value->List Value->List Value} {gV:List V->List V->List V}
end
structure FnScope (N P:List Str) (sc:Scope):Prop where
 kind:sc.kind=.function
 co:sc.isCoroutine=false
 gen:sc.isGenerator=false
 nd:N.Nodup
 pre:N.take P.length=P
 par:∀x∈P,sc.names.lookup x=some .local\/sc.names.lookup x=some .cell
 nofree:∀y∈sc.names,y.2 ≠ .free
theorem Qe8 {kindOf:Str->Option NameKind} {x:Str}:∀{binds:List (Str × Value)} {m:Str->Option Value},(∀v,(x,v)∉binds)->bindL kindOf binds m x=m x
 | [],_,_=>rfl
 | (n,v)::r,m,h=>by
  unfold bindL
  rw [Qe8 λw hw=>h w (List.mem_cons_of_mem _ hw)]
  split
  ·have:x≠n:=by rintro rfl;exact h v List.mem_cons_self
   simp [this]
  ·rfl
theorem Qfa {kindOf:Str->Option NameKind} {x:Str}:∀{binds:List (Str × Value)} {m:Str->Option Value},(∀v,(x,v)∉binds)->bindC kindOf binds m x=m x
 | [],_,_=>rfl
 | (n,v)::r,m,h=>by
  unfold bindC
  rw [Qfa λw hw=>h w (List.mem_cons_of_mem _ hw)]
  split
  ·rfl
  ·have:x≠n:=by rintro rfl;exact h v List.mem_cons_self
   simp [this]
theorem Qe9 {kindOf:Str->Option NameKind} {x:Str} {v:Value}:∀{P:List Str} {vs:List Value} {i:Nat} {m:Str->Option Value},P.Nodup->P[i]? = some x->vs[i]? = some v->kindOf x=some .local ->
  bindL kindOf (P.zip vs) m x=some v
 | [],_,_,_,_,h,_,_=>by simp at h
 | _::_,[],_,_,_,_,h,_=>by simp at h
 | p::P,w::vs,0,m,nd,h1,h2,hk=>by
  simp at h1 h2;subst h1;subst h2
  show bindL kindOf ((p,w)::P.zip vs) m p=_
  unfold bindL
  rw [Qe8 λv hv=>(List.nodup_cons.mp nd).1 (List.of_mem_zip hv).1,if_pos hk]
  simp
 | p::P,w::vs,i+1,m,nd,h1,h2,hk=>by
  show bindL kindOf ((p,w)::P.zip vs) m x=_
  unfold bindL
  exact Qe9 (i:=i) (List.nodup_cons.mp nd).2 (by simpa using h1) (by simpa using h2) hk
theorem Qfb {kindOf:Str->Option NameKind} {x:Str} {v:Value}:∀{P:List Str} {vs:List Value} {i:Nat} {m:Str->Option Value},P.Nodup->P[i]? = some x->vs[i]? = some v->kindOf x≠some .local ->
  bindC kindOf (P.zip vs) m x=some v
 | [],_,_,_,_,h,_,_=>by simp at h
 | _::_,[],_,_,_,_,h,_=>by simp at h
 | p::P,w::vs,0,m,nd,h1,h2,hk=>by
  simp at h1 h2;subst h1;subst h2
  show bindC kindOf ((p,w)::P.zip vs) m p=_
  unfold bindC
  rw [Qfa λv hv=>(List.nodup_cons.mp nd).1 (List.of_mem_zip hv).1,if_neg hk]
  simp
 | p::P,w::vs,i+1,m,nd,h1,h2,hk=>by
  show bindC kindOf ((p,w)::P.zip vs) m x=_
  unfold bindC
  exact Qfb (i:=i) (List.nodup_cons.mp nd).2 (by simpa using h1) (by simpa using h2) hk
def start (N:List Str) (vs:List V):St:=vs.map some++List.replicate (N.length-vs.length) none
def cxOf (CX:CXT) (P:Program) (w:World) (K:PySem.W.Frag) (mg:Str->Option Value) (base:Heap) (N:List Str) (qual:Str) (scope:Scope) (f:Addr) (cd:Value) (A:Around) (outer:List Env) (s:Shared) (H:Hp) (E:XK):Cx where
 prog:=P
 w:=w
 K:=K
 mg:=mg
 base:=base
 A:=A.deeper (envOfC qual scope s.heap.objs.size f cd)
 N:=N
 s₀:=s
 H₀:=H
 env:=envOfC qual scope s.heap.objs.size f cd
 outer:=outer
 stack:=envOfC qual scope s.heap.objs.size f cd::outer
 ex:=[]
 calm:=true
 fn:=λ_=>true
 pn:=[]
 xe:=λe s'=>wpAny (model P w) (A.deeper (envOfC qual scope s.heap.objs.size f cd)) (leaving (envOfC qual scope s.heap.objs.size f cd) e) (λ_ s''=>CX outer H s E e s'') (λe' s''=>CX outer H s E e' s'') s'
theorem Qih {sc:Scope} {n:Nat} {x:Str} (h:sc.names.lookup x=some .cell):∃c,(cellsFrom n sc.names []).lookup x=some c:=by
 have q:=PySem.W.cellsFrom_some sc.names n [] (.inl h)
 exact Option.isSome_iff_exists.mp q
theorem Qew {CX:CXT} {P:Program} {w:World} {K:PySem.W.Frag} {mg:Str->Option Value} {base:Heap} {N ps:List Str} {qual:Str} {scope:Scope} {f:Addr} {cd:Value} {A:Around} {outer:List Env} {s s1:Shared} {H:Hp} {E:XK} {us:List Value} {vs:List V}
  (S:FnScope N ps scope) (hd:A.handled=none) (e0:Env0 P w K mg base A outer s H) (hl:vs.length=ps.length) (r:Vals vs us)
  (x:InCallC s s.heap.objs.size (bindL (envOfC qual scope s.heap.objs.size f cd).kindOf (ps.zip us) λ_=>none) (cellsFrom (s.heap.objs.size+1) scope.names []) (bindC (envOfC qual scope s.heap.objs.size f cd).kindOf (ps.zip us) λ_=>none) s1) :
  Inv (cxOf CX P w K mg base N qual scope f cd A outer s H E) [] (start N vs) H s1:=by
 have hpl:ps.length<=N.length:=by have:=congrArg List.length S.pre;rw [List.length_take] at this;omega
 obtain ⟨h1,tk,rfl,hk⟩:=x.done
 have noA:∀b:Addr,b∉(cxOf CX P w K mg base N qual scope f cd A outer s H E).ex:=λb z=>absurd (show b∈([]:List Addr) from z) (by simp)
 refine ⟨⟨e0.mod,S.kind,rfl,rfl,Nat.le_refl _,λy z c h1 h2=>?_,λy hy=>?_,λy c _ h=>?_,λ_=>hd,Around.frames_deeper e0.frames,.inr ⟨rfl,rfl⟩,λb z=>absurd z (noA b),e0.bs,e0.bsz,λb _ _=>noA b,λb z=>absurd z (noA b),e0.funs,e0.frf⟩,
  rfl,e0.bare,Un.kept hk,⟨_,x.toInCall.ns,λi y v h1 h2 h3=>?_⟩,λy c h=>⟨_,x.cell y c h⟩,e0.hok.fresh (Nat.le_refl _),λy c h=>?_,λp hp=>absurd (show p∈([]:List (Addr × Obj)) from hp) (by simp),e0.hok.kept hk,?_⟩
 ·exact name_of_addr x.apart (PySem.mem_of_lookup h1) (PySem.mem_of_lookup h2)
 ·have hy:scope.names.lookup y=some .cell\/scope.names.lookup y=some .free:=hy
  rcases hy with hy | hy
  ·exact Qih hy
  ·exact absurd rfl (S.nofree _ (PySem.mem_of_lookup hy))
 ·exact Nat.le_of_lt (x.above y c (PySem.mem_of_lookup h))
 ·have hi:i<vs.length:=by
   unfold start at h2
   by_cases hi:i<vs.length
   ·exact hi
   ·rw [List.getElem?_append_right (by simpa using hi)] at h2
    rw [List.getElem?_replicate] at h2
    split at h2 <;> cases h2
  have ha:vs[i]? = some v:=by
   unfold start at h2
   rw [List.getElem?_append_left (by simpa using hi),List.getElem?_map] at h2
   cases e:vs[i]? with
   | none=>rw [e] at h2;cases h2
   | some a=>rw [e] at h2;cases h2;rfl
  obtain ⟨u,hu,rv⟩:=r.get ha
  have hp:ps[i]? = some y:=by
   rw [← S.pre,List.getElem?_take_of_lt (by omega)];exact h1
  have ndP:ps.Nodup:=by rw [← S.pre];exact S.nd.sublist (List.take_sublist _ _)
  refine ⟨u,rv,?_⟩
  rcases S.par y (List.mem_of_getElem? hp) with k | k
  ·exact .inl ⟨k,Qe9 ndP hp hu k⟩
  ·obtain ⟨c,e⟩:=Qih (n:=s.heap.objs.size+1) k
   refine .inr ⟨.inl k,c,e,?_⟩
   have q:=x.cell y c e
   rw [Qfb ndP hp hu (by show scope.names.lookup y≠_;rw [k];decide)] at q
   exact q
 ·exact e0.hok.fresh (Nat.le_of_lt (x.above y c (PySem.mem_of_lookup h)))
 ·unfold start
  show _=N.length
  rw [List.length_append,List.length_map,List.length_replicate]
  omega
theorem Qq1 {CX:CXT} {P:Program} {w:World} {K:PySem.W.Frag} {mg:Str->Option Value} {base:Heap} {k:Nat} {f:Addr} {name qual:Str} {params:Arguments} {body:List Stmt} {scope:Scope} {dV kV doc pm cdv ct oc:Value} {an od:Option Addr}
  {osl:Array (Option Value)} {N ps:List Str} {sp:Sp} (lk:K.lookup f=some ⟨oc,od,.func (PySem.W.fnOf name qual params body scope dV kV doc pm an cdv ct),osl⟩) (hcd:PySem.W.codeIn K cdv qual=true) (S:FnScope N ps scope)
  (len:∀vs H Q E,sp vs H Q E->vs.length=ps.length)
  (hbody:∀(A:Around) (outer:List Env) (s:Shared) (H:Hp) (vs:List V) (Q:VK) (E:XK),Room k (A.deeper (envOfC qual scope s.heap.objs.size f cdv))->sp vs H Q E ->
   ∃t,PSs (cxOf CX P w K mg base N qual scope f cdv A outer s H E) body t/\t { nx:=λ_ H'=>Q .non H',rt:=Q } (start N vs) H) :
  FnOk P w K mg base CX (k+1) f (PySem.W.fnOf name qual params body scope dV kV doc pm an cdv ct) ps sp:=by
 refine ⟨len,λA outer s H args us vs Q E hr e0 hb r hsp=>?_⟩
 have hl:=len _ _ _ _ hsp
 have KX:K.In s.heap:=e0.mod.kin.keeps λb o e=>(e0.bs b o e).1
 have lim:s.heap.NoLimit:=e0.mod.nolimit.keeps λb o e=>(e0.bs b o e).1
 have hkind:∀y∈ps.zip us,scope.names.lookup y.1=some .local\/(scope.names.lookup y.1=some .cell/\((cellsFrom (s.heap.objs.size+1) scope.names []).lookup y.1).isSome=true):=λ⟨n,v⟩ hy=>by
  rcases S.par n (List.of_mem_zip hy).1 with q | q
  ·exact .inl q
  ·exact .inr ⟨q,PySem.W.cellsFrom_some _ _ _ (.inl q)⟩
 refine codeAny_call_function hr.depth (KX _ _ lk) rfl S.co S.gen rfl (PySem.W.codeRec_of KX hcd) (hb _ _ _ _ ?_)
 refine wpAny_newFunctionEnv_cells S.kind hkind λenv he s1 x=>?_
 subst he
 refine ⟨lim.keeps x.toInCall.keep,codeAny_func ?_⟩
 obtain ⟨t,ht,hq⟩:=hbody A outer s H vs Q E (hr.deeper _) hsp
 have I:Inv (cxOf CX P w K mg base N qual scope f cdv A outer s H E) [] (start N vs) H s1:=Qew S hr.hd e0 hl r x
 refine wpAny_mono (ht [] s1 (start N vs) H _ I hq) (λfl s' hs=>?_) λe s' hs=>hs
 have fin:∀{σ':St} {H':Hp} {v:V} {u:Value},Inv (cxOf CX P w K mg base N qual scope f cdv A outer s H E) [] σ' H' s'->RelV v u->Q v H'->CE outer P w H s Q u s' :=
  λ{σ' H' v u} J rv q=>⟨v,H',J.os,J.bare,J.base,J.hok,rv,q⟩
 cases fl with
 | ret u =>
  obtain ⟨v,σ',H',J,rv,q⟩:=hs
  exact fin J rv q
 | next =>
  obtain ⟨σ',H',J,q⟩:=hs
  exact fin (v:=V.non) (u:=Value.none) J rfl q
 | brk =>
  obtain ⟨_,_,_,q⟩:=hs
  exact False.elim q
 | cont =>
  obtain ⟨_,_,_,q⟩:=hs
  exact False.elim q
end L2
namespace L2
open PySem PySem.Spec PyProof.Rows
section
variable {X:Cx} {x:Str} {p pos:Pos} {e:Expr} {es:List Expr} {t:TA} {id T:String} {r:List V->Hp->VK->Prop}
def tCB (r:List V->Hp->VK->Prop) (t:TA):TE:=λσ H Q=>t σ H λvs H1=>r vs H1 Q
theorem Qdn (hc:Z5 X (.builtin id) r) (hg:Gl X x) (hm:X.mg x=none) (hv:bootBuiltins x=some (.builtin id)) (ha:PA X (e::es) t) (hn:x ≠ "__name__":=by decide) (hdb:(x == ("__debug__" : Str))=false:=by decide)
  (he:starEach (e::es) X.env=(false,eval e X.env)::starEach es X.env:=by rfl) (hpl:(backTo pos (starEach es X.env)).any (·.1)=false:=by rfl):PE X (.Call (.Name x p) (e::es) [] pos) (tCB r t):=by
 intro pins s σ H Q I h
 refine wpAny_Call_Name_kw (Qc2 I hg hm hv ?_ hn hdb)
 exact PyProof.Rows.callWith_builtin1 (thn (ha pos pins s σ H _ I h) λus s1 ⟨vs,H1,I1,r1,q1⟩=>hc pins s1 σ H1 vs us Q I1 r1 q1) he hpl
theorem Qej (hc:Z5 X (.type T) r) (hg:Gl X x) (hm:X.mg x=none) (hv:bootBuiltins x=some (.type T)) (ha:PA X (e::es) t) (hn:x ≠ "__name__":=by decide) (hdb:(x == ("__debug__" : Str))=false:=by decide)
  (he:starEach (e::es) X.env=(false,eval e X.env)::starEach es X.env:=by rfl) (hpl:(backTo pos (starEach es X.env)).any (·.1)=false:=by rfl):PE X (.Call (.Name x p) (e::es) [] pos) (tCB r t):=by
 intro pins s σ H Q I h
 refine wpAny_Call_Name_kw (Qc2 I hg hm hv ?_ hn hdb)
 exact PyProof.Rows.callWith_type1 (thn (ha pos pins s σ H _ I h) λus s1 ⟨vs,H1,I1,r1,q1⟩=>hc pins s1 σ H1 vs us Q I1 r1 q1) he hpl
end
end L2
namespace HT
open PySem PyProof.Rows
section
open PySem.SeqAt
open PySem.AutoSeq1 (wpAny_loadPart')
open PySem.MeetsSeq PySem.MeetsSeq2 PySem.MeetsSeq3
end
section
variable {prog:Program} {w:World} {A:Around} {E:Value->Shared->Prop} {s:Shared}
theorem Qrf {t b:Addr} {vs ws:List Value} {Q:Value->Shared->Prop} (ht:IsTup s.heap t vs.toArray) (hb:IsTup s.heap b ws.toArray) (hv:vs≠[])
  (h1:ws=[]->Q (.ref t) s) (h2:ws≠[]->Q (.ref s.heap.objs.size) { s with heap:=s.heap.push { cls:=.type "tuple",data:=.seq (vs++ws).toArray } })
  (hsz:vs.length+ws.length<=sizeLine):wpAny (model prog w) A (binaryOp .Add (.ref t) (.ref b)) Q E s:=by
 obtain ⟨⟨cls,dd,data,sl⟩,ho,hc,n,hd⟩:=id ht
 obtain ⟨⟨cls2,dd2,data2,sl2⟩,ho2,hc2,n2,hd2⟩:=id hb
 simp only at hc hd hc2 hd2
 subst hc hd hc2 hd2
 have e:vs.toArray++ws.toArray=(vs++ws).toArray:=by simp
 by_cases hw:ws=[]
 ·exact concat_meets ⟨_,ho,rfl⟩ ⟨_,ho2,rfl⟩ noFill_tuple_add seq_tuple_add PySem.F.slot_tuple_add PySem.F.entry_tuple_add (PySem.F.args_tuple_add_2 _ _)
   (tuple_addW1 t b vs.toArray ws.toArray n n2 dd dd2 sl sl2 (by simpa using hv) (by simp [hw])) ⟨ho,ho2,h1 hw⟩
 ·refine concat_meets ⟨_,ho,rfl⟩ ⟨_,ho2,rfl⟩ noFill_tuple_add seq_tuple_add PySem.F.slot_tuple_add PySem.F.entry_tuple_add (PySem.F.args_tuple_add_2 _ _)
   (tuple_addW2 t b vs.toArray ws.toArray n n2 dd dd2 sl sl2 (by simpa using hv) (by simpa using hw) (by rw [List.size_toArray,List.size_toArray];exact hsz)) ⟨ho,ho2,?_⟩
  rw [e]
  exact h2 hw
def sIx (n d:Nat):Option Int->Nat
 | none=>d
 | some v=>if v<0 then (v+(n:Int)).toNat else min v.toNat n
theorem Qhk (n d:Nat):sIx n d none=d:=rfl
theorem Qdi (n d k:Nat):sIx n d (some (k:Int))=min k n:=by
 show (if (k:Int)<0 then ((k:Int)+(n:Int)).toNat else min (k:Int).toNat n)=min k n
 rw [if_neg (by omega),Int.toNat_natCast]
theorem Qrx (n d:Nat) (hd:d<=n) (o:Option Int):sIx n d o<=n:=by
 cases o with
 | none=>exact hd
 | some v =>
  show (if v<0 then (v+(n:Int)).toNat else min v.toNat n)<=n
  by_cases hv:v<0
  ·rw [if_pos hv];omega
  ·rw [if_neg hv];exact Nat.min_le_right _ _
theorem Qly (v:Int) (n d:Nat):(if v<0 then max (v+(n:Int)) 0 else min v (n:Int))=((sIx n d (some v):Nat):Int):=by
 show (if v<0 then max (v+(n:Int)) 0 else min v (n:Int))=(((if v<0 then (v+(n:Int)).toNat else min v.toNat n):Nat):Int)
 by_cases hv:v<0
 ·simp only [if_pos hv];omega
 ·simp only [if_neg hv];omega
theorem Qjl (lo hi:Option Int) (n:Nat):Builtin.Slice.sliceAdjust lo hi 1 (n:Int)=(((sIx n 0 lo:Nat):Int),((sIx n n hi:Nat):Int)):=by
 have h1:¬((1:Int)<0):=by omega
 unfold Builtin.Slice.sliceAdjust
 simp only [h1,if_false]
 refine Prod.ext ?_ ?_
 ·cases lo with
  | none=>rfl
  | some v=>exact Qly v n 0
 ·cases hi with
  | none=>rfl
  | some v=>exact Qly v n n
theorem Qiw (i j:Nat):Builtin.Slice.slicePlaces (i:Int) (j:Int) 1=j-i:=by
 unfold Builtin.Slice.slicePlaces
 have h1:(1:Int) > 0:=by omega
 simp only [h1,if_true,Int.ediv_one]
 split <;> omega
theorem Qcx {v:Value} {o:Option Int} {Q:Option Int->Shared->Prop} (p:IsPart v o) (h:Q o s):wpAny (model prog w) A (Builtin.Slice.slicePartIndex v) Q E s:=by
 cases p with
 | none=>exact slicePart_none h
 | int i t=>exact slicePart_int h
theorem Vs {sl:Addr} {vl vu:Value} {lo hi:Option Int} {n:Nat} {Q:Int × Int × Nat->Shared->Prop} (hs:s.heap.IsSliceOf sl vl vu .none) (pl:IsPart vl lo) (pu:IsPart vu hi)
  (h:Q (((sIx n 0 lo:Nat):Int),1,sIx n n hi-sIx n 0 lo) s):wpAny (model prog w) A (Builtin.Slice.sliceApplied (.ref sl) (pure (n:Int))) Q E s:=by
 obtain ⟨os,hos,hcs,hds⟩:=id hs
 unfold Builtin.Slice.sliceApplied Builtin.Slice.sliceFields
 refine wpAny_bind (wpAny_bind (wpAny_field hos hds (x:=vl) rfl (wpAny_bind (wpAny_field hos hds (x:=vu) rfl (wpAny_bind (wpAny_field hos hds (x:=.none) rfl (wpAny_pure ?_)))))))
 refine wpAny_bind (slicePart_none ?_)
 show wpAny _ _ (if ((1:Int) == 0)=true then _ else _) _ _ s
 rw [if_neg (by decide)]
 refine wpAny_bind (Qcx pl (wpAny_bind (Qcx pu (wpAny_bind (wpAny_pure ?_)))))
 show wpAny _ _ (match Builtin.Slice.sliceAdjust lo hi 1 (n:Int) with | (lo,hi)=>pure (lo,(1:Int),Builtin.Slice.slicePlaces lo hi 1)) _ _ s
 rw [Qjl lo hi n]
 show wpAny _ _ (pure (((sIx n 0 lo:Nat):Int),(1:Int),Builtin.Slice.slicePlaces ((sIx n 0 lo:Nat):Int) ((sIx n n hi:Nat):Int) 1)) _ _ s
 rw [Qiw]
 exact wpAny_pure h
theorem Qm0 (xs:Array Value) (i k:Nat):((List.range k).filterMap λ(m:Nat)=>xs[((i:Int)+(m:Int)*1).toNat]?).toArray=((xs.toList.drop i).take k).toArray:=by
 have e:(λ(m:Nat)=>xs[((i:Int)+(m:Int)*1).toNat]?)=λm=>xs[i+m]?:=by
  funext m
  have:((i:Int)+(m:Int)*1).toNat=i+m:=by omega
  rw [this]
 rw [e]
 have:=pick_run xs i k
 rw [List.filterMap_map] at this
 have e2:((λx=>xs[x]?) ∘ λx=>i+x)=λm=>xs[i+m]?:=rfl
 rw [e2] at this
 rw [this]
theorem Xy {t sl:Addr} {items:Array Value} {vl vu:Value} {lo hi:Option Int} {Q:Value->Shared->Prop} (ht:IsTup s.heap t items) (hs:s.heap.IsSliceOf sl vl vu .none) (pl:IsPart vl lo) (pu:IsPart vu hi)
  (hw:¬(sIx items.size 0 lo=0/\sIx items.size items.size hi=items.size))
  (h:Q (.ref s.heap.objs.size) { s with heap:=s.heap.push { cls:=.type "tuple",data:=.seq ((items.toList.drop (sIx items.size 0 lo)).take (sIx items.size items.size hi-sIx items.size 0 lo)).toArray } })
  (hsz:items.size<=sizeLine):wpAny (model prog w) A (getItem (.ref t) (.ref sl)) Q E s:=by
 have htake:sizeOk (.seq ((items.toList.drop (sIx items.size 0 lo)).take (sIx items.size items.size hi-sIx items.size 0 lo)).toArray):=by
  show ((items.toList.drop (sIx items.size 0 lo)).take (sIx items.size items.size hi-sIx items.size 0 lo)).toArray.size<=sizeLine
  rw [List.size_toArray,List.length_take,List.length_drop,Array.length_toList]
  omega
 have hj:sIx items.size items.size hi<=items.size:=Qrx _ _ (Nat.le_refl _) hi
 obtain ⟨os,hos,hcs,hds⟩:=id hs
 have hTs:s.TypeIs (.ref sl) "slice":=⟨os,hos,hcs⟩
 unfold getItem
 try with_reducible refine wpAny_holding ?_
 first | refine wpAny_bind (wpAny_pure ?_) | skip
 refine wpAny_bind (wpAny_sequenceKey ht.typeIs (by decide) ?_)
 refine wpAny_bind (wpAny_callSpecial?_slot (name:=Str.ofString "__getitem__") ht.typeIs PyProof.Rows.slot_tuple_getitem
  (wpAny_call_entry PyProof.Rows.slot_tuple_getitem ht.typeIs entry_tuple_getitem ?_ (args_tuple_getitem _ _)))
 show wpAny _ _ (Builtin.Tuple.tupleItemsOf (.ref t) >>= _) _ _ s
 refine wpAny_bind (tupleItemsOf_ ht ?_)
 refine wpAny_bind (wpAny_typeOf hTs ?_)
 rw [if_pos (by decide)]
 refine wpAny_bind (Vs hs pl pu ?_)
 have hno:¬((((sIx items.size 0 lo:Nat):Int) == 0 && (1:Int) == 1 && (sIx items.size items.size hi-sIx items.size 0 lo) == items.size)=true):=by
  intro q
  rw [Bool.and_eq_true,Bool.and_eq_true] at q
  have q1:((sIx items.size 0 lo:Nat):Int)=0:=eq_of_beq q.1.1
  have q2:sIx items.size items.size hi-sIx items.size 0 lo=items.size:=eq_of_beq q.2
  exact hw ⟨by omega,by omega⟩
 show wpAny _ _ (if (((sIx items.size 0 lo:Nat):Int) == 0 && (1:Int) == 1 && (sIx items.size items.size hi-sIx items.size 0 lo) == items.size)=true then _ else _) _ _ s
 rw [if_neg hno,Qm0]
 first
  | exact wpAny_bind (m:=Builtin.Tuple.tupleExact _) (wpAny_newObj_type (wpAny_pure ⟨_,rfl,wpAny_pure h⟩) htake)
  | exact wpAny_bind (m:=Builtin.Tuple.tupleExact _) (wpAny_newObj_type (wpAny_bind (wpAny_pure (wpAny_pure ⟨_,rfl,wpAny_pure h⟩))) htake)
  | exact wpAny_bind (wpAny_bind (m:=Builtin.Tuple.tupleExact _) (wpAny_newObj_type (wpAny_pure (wpAny_pure ⟨_,rfl,wpAny_pure h⟩)) htake))
  | exact wpAny_bind (wpAny_bind (m:=Builtin.Tuple.tupleExact _) (wpAny_newObj_type (wpAny_pure ⟨_,rfl,wpAny_pure h⟩) htake))
end
end HT
namespace L2
open PySem PySem.Spec PyProof.Rows
abbrev TO:=St->Hp->(Option Int->Hp->Prop)->Prop
def PO (X:Cx) (e:Option Expr) (t:TO):Prop :=
 ∀(pins:List (Addr × Obj)) (s:Shared) (σ:St) (H:Hp) (Q:Option Int->Hp->Prop),Inv X pins σ H s->t σ H Q ->
  wpAny (model X.prog X.w) X.A (evalPart e X.env) (λu s'=>∃o H',Inv X pins σ H' s'/\IsPart u o/\Q o H') X.xe s
def Qpd:TO:=λ_ H Q=>Q none H
def Qt1 (t:TE):TO:=λσ H Q=>t σ H λx H1=>∃i,x=.int i/\Q (some i) H1
theorem Qi8 {ns:List Int}:∀{us:List Value},Vals (ns.map V.int) us->IntsAre us ns:=by
 induction ns with
 | nil=>intro us r;rw [List.map_nil] at r;cases r;exact .nil
 | cons n ns ih =>
  intro us r
  rw [List.map_cons] at r
  cases r with
  | cons r1 r2 =>
   obtain ⟨t,e⟩:=r1
   subst e
   exact .cons n t (ih r2)
section
variable {X:Cx} {e:Expr} {te:TE} {lo hi:Option Expr} {tl th:TO} {pos p2:Pos}
theorem Qp5:PO X none Qpd:=by
 intro pins s σ H Q I h
 rw [evalPart_none]
 exact wpAny_pure ⟨none,H,I,.none,h⟩
theorem Qp4 (h:PE X e te):PO X (some e) (Qt1 te):=by
 intro pins s σ H Q I hw
 rw [evalPart_some]
 refine thn (h pins s σ H _ I hw) λu s1 ⟨x,H1,I1,r1,q1⟩=>?_
 obtain ⟨i,rfl,q⟩:=q1
 obtain ⟨t,rfl⟩:=r1
 exact ⟨some i,H1,I1,.int i t,q⟩
def SlR (X:Cx) (r:V->Option Int->Option Int->Hp->VK->Prop):Prop :=
 ∀(pins:List (Addr × Obj)) (s:Shared) (σ:St) (H:Hp) (x:V) (v vl vu:Value) (lo hi:Option Int) (sl:Addr) (Q:VK),Inv X pins σ H s->RelV x v->s.heap.IsSliceOf sl vl vu .none->IsPart vl lo->IsPart vu hi->r x lo hi H Q ->
  ∃T id,typeLookup (.type T) "__getitem__" = pure (some (.builtin id))/\s.TypeIs v T/\wpAny (model X.prog X.w) X.A (getItem v (.ref sl)) (EP X pins σ Q) X.xe s
theorem SlR.or {r r':V->Option Int->Option Int->Hp->VK->Prop} (h:SlR X r) (h':SlR X r'):SlR X (λx lo hi H Q=>r x lo hi H Q\/r' x lo hi H Q):=by
 intro pins s σ H x v vl vu lo hi sl Q I rx hs pl pu q
 rcases q with q | q
 ·exact h pins s σ H x v vl vu lo hi sl Q I rx hs pl pu q
 ·exact h' pins s σ H x v vl vu lo hi sl Q I rx hs pl pu q
def tSl (r:V->Option Int->Option Int->Hp->VK->Prop) (te:TE) (tl th:TO):TE:=λσ H Q=>te σ H λx H1=>tl σ H1 λl H2=>th σ H2 λu H3=>r x l u H3 Q
theorem Qm3 {r:V->Option Int->Option Int->Hp->VK->Prop} (hr:SlR X r) (he:PE X e te) (hl:PO X lo tl) (hu:PO X hi th):PE X (.Subscript e (.Slice lo hi none p2) pos) (tSl r te tl th):=by
 intro pins s σ H Q I h
 refine Subscript_ (thn (he pins s σ H _ I h) λv s1 ⟨x,H1,I1,r1,q1⟩=>?_)
 refine wpAny_Slice (thn (hl pins s1 σ H1 _ I1 q1) λvl s2 ⟨l,H2,I2,pl,q2⟩=>thn (hu pins s2 σ H2 _ I2 q2) λvu s3 ⟨u,H3,I3,pu,q3⟩=>?_)
 rw [evalPart_none]
 refine wpAny_pure ?_
 have I4:Inv X pins σ H3 { s3 with heap:=s3.heap.push { cls:=.type "slice",data:=.fields #[vl,vu,.none] } }:=I3.kept (t':=s3.toks) λb ob q=>Heap.get?_push_of_some _ q
 obtain ⟨T,id,hT,ht,hg⟩:=hr pins { s3 with heap:=s3.heap.push { cls:=.type "slice",data:=.fields #[vl,vu,.none] } } σ H3 x v vl vu l u s3.heap.objs.size Q I4 r1 (Heap.IsSliceOf.new ..) pl pu q3
 show wpAny (model X.prog X.w) X.A (subscriptTail e (.Slice lo hi none p2) v (.ref s3.heap.objs.size)) (EP X pins σ Q) X.xe { s3 with heap:=s3.heap.push { cls:=.type "slice",data:=.fields #[vl,vu,.none] } }
 exact tail_any (ops:=[.ref s3.heap.objs.size,v]) ht hT hg (by with_unfolding_all rfl)
def cutV (xs:List V) (lo hi:Option Int):List V:=(xs.drop (HT.sIx xs.length 0 lo)).take (HT.sIx xs.length xs.length hi-HT.sIx xs.length 0 lo)
theorem Qb7 (xs:List V) (lo hi:Option Int):(cutV xs lo hi).length<=xs.length:=by
 unfold cutV
 rw [List.length_take,List.length_drop]
 omega
def rSlT (K:PySem.W.Frag):V->Option Int->Option Int->Hp->VK->Prop:=λx lo hi H Q=>∃a xs,x=.ref a/\SqT K H a xs /\
 ¬(HT.sIx xs.length 0 lo=0/\HT.sIx xs.length xs.length hi=xs.length)/\∀p,H p=none->Q (.ref p) (upd H p (.tup (cutV xs lo hi)))
theorem Qrv:SlR X (rSlT X.K):=by
 intro pins s σ H x v vl vu lo hi sl Q I rx hs pl pu h
 obtain ⟨a,xs,rfl,hx,hw,q⟩:=h
 cases rx
 obtain ⟨its,r,ht,hz⟩:=I.tuple hx
 have hlen:its.toArray.size=xs.length:=by rw [List.size_toArray];exact r.length.symm
 refine ⟨"tuple",_,PyProof.Rows.slot_tuple_getitem.lookup,ht.typeIs,?_⟩
 refine HT.Xy ht hs pl pu (by rw [hlen];exact hw) ?_ (by rw [hlen];exact hz)
 rw [hlen]
 refine ⟨.ref s.heap.objs.size,_,I.laid (t':=s.toks) (o:=.tup (cutV xs lo hi)) (λb ob q=>Heap.get?_push_of_some _ q) (Nat.le_refl _) ?_,rfl,q _ (I.hok.fresh (Nat.le_refl _))⟩
 exact ⟨Nat.le_trans (Qb7 xs lo hi) hz,_,(r.drop (HT.sIx xs.length 0 lo)).take (HT.sIx xs.length xs.length hi-HT.sIx xs.length 0 lo),IsTup.new _ _⟩
def Qug (K:PySem.W.Frag):R2:=λx y H Q=>∃a b xs ys,x=.ref a/\y=.ref b/\SqT K H a xs/\SqT K H b ys/\xs≠[]/\xs.length+ys.length<=sizeLine /\
 (ys=[]->Q (.ref a) H)/\(ys≠[]->∀p,H p=none->Q (.ref p) (upd H p (.tup (xs++ys))))
theorem Vals.nil_iff {xs:List V} {us:List Value} (r:Vals xs us):us=[]↔xs=[]:=by
 cases r with
 | nil=>simp
 | cons _ _=>simp
theorem Qqi:OpR X (binaryOp .Add) (Qug X.K):=by
 intro pins s σ H x y v u Q I rx ry h
 obtain ⟨a,b,xs,ys,rfl,rfl,ha,hb,hx,hz,q1,q2⟩:=h
 cases rx
 cases ry
 obtain ⟨its,r1,p1,_⟩:=I.tuple ha
 obtain ⟨its2,r2,p2,_⟩:=I.tuple hb
 refine HT.Qrf p1 p2 (λz=>hx (r1.nil_iff.mp z)) (λz=>⟨.ref a,H,I,rfl,q1 (r2.nil_iff.mp z)⟩) (λz=>?_) (by rw [← r1.length,← r2.length];exact hz)
 refine ⟨.ref s.heap.objs.size,_,I.laid (t':=s.toks) (o:=.tup (xs++ys)) (λb ob q=>Heap.get?_push_of_some _ q) (Nat.le_refl _) ?_,rfl,q2 (λw=>z (r2.nil_iff.mpr w)) _ (I.hok.fresh (Nat.le_refl _))⟩
 exact ⟨by rw [List.length_append];exact hz,_,r1.append r2,IsTup.new _ _⟩
end
end L2
namespace L2
open PySem PySem.Spec PyProof.Rows
def ixN (n:Nat) (i:Int):Option Nat:=if 0<=i then (if i<n then some i.toNat else none) else if -(n:Int)<=i then some (i+n).toNat else none
def atI {α:Type} (xs:List α) (i:Int):Option α:=(ixN xs.length i).bind λj=>xs[j]?
theorem Qdt {n:Nat} {i:Int} {j:Nat} (h:ixN n i=some j):seqIndex? i n=some j/\j<n /\ -(n:Int)<=i/\i<n:=by
 unfold ixN at h
 by_cases h0:0<=i
 ·rw [if_pos h0] at h
  by_cases h1:i<n
  ·rw [if_pos h1] at h
   have e:i.toNat=j:=Option.some.inj h
   exact ⟨by rw [seqIndex_of h0 h1,e],by omega,by omega,h1⟩
  ·rw [if_neg h1] at h;cases h
 ·rw [if_neg h0] at h
  by_cases h1:-(n:Int)<=i
  ·rw [if_pos h1] at h
   have e:(i+n).toNat=j:=Option.some.inj h
   exact ⟨by rw [seqIndex_neg (by omega) h1,e],by omega,h1,by omega⟩
  ·rw [if_neg h1] at h;cases h
theorem Qhb {α:Type} {xs:List α} {i:Int} {v:α} (h:atI xs i=some v):∃j,seqIndex? i xs.length=some j/\xs[j]? = some v/\j<xs.length /\ -(xs.length:Int)<=i/\i<xs.length:=by
 unfold atI at h
 cases e:ixN xs.length i with
 | none=>rw [e] at h;cases h
 | some j =>
  rw [e] at h
  obtain ⟨h1,h2,h3,h4⟩:=Qdt e
  exact ⟨j,h1,h,h2,h3,h4⟩
def Qmd (b:Expr):Prop:=∀o i,subscripted b false o i=operate [o,i] (getItem o i)
def IxR (X:Cx) (r:R2):Prop :=
 ∀(value slice:Expr) (pins:List (Addr × Obj)) (s:Shared) (σ:St) (H:Hp) (x y:V) (v u:Value) (Q:VK),Inv X pins σ H s->RelV x v->RelV y u->r x y H Q ->
  subscripted slice false v u=operate [v,u] (getItem v u)->wpAny (model X.prog X.w) X.A (subscriptTail value slice v u) (EP X pins σ Q) X.xe s
def MtR (X:Cx) (id:String) (r:V->List V->Hp->VK->Prop):Prop :=
 ∀(pins:List (Addr × Obj)) (s:Shared) (σ:St) (H:Hp) (x:V) (xs:List V) (v:Value) (us:List Value) (Q:VK),Inv X pins σ H s->RelV x v->Vals xs us->r x xs H Q ->
  wpAny (model X.prog X.w) X.A (call (.builtin id) (v::us)) (EP X pins σ Q) X.xe s
section
variable {X:Cx} {a b:Expr} {ta tb:TE} {pos:Pos}
theorem IxR.or {r r':R2} (h:IxR X r) (h':IxR X r'):IxR X (λx y H Q=>r x y H Q\/r' x y H Q):=by
 intro value slice pins s σ H x y v u Q I rx ry q hs
 rcases q with q | q
 ·exact h value slice pins s σ H x y v u Q I rx ry q hs
 ·exact h' value slice pins s σ H x y v u Q I rx ry q hs
theorem Quo {r:R2} (hr:IxR X r) (ha:PE X a ta) (hb:PE X b tb) (hs:Qmd b):PE X (.Subscript a b pos) (tOp r ta tb):=by
 intro pins s σ H Q I h
 exact Subscript_ (binT ha hb I h λv u s2 x y H2 I2 rx ry q=>hr a b pins s2 σ H2 x y v u Q I2 rx ry q (hs _ _))
def rIxL (K:PySem.W.Frag):R2:=λx y H Q=>∃p xs i v,x=.ref p/\y=.int i/\SqL K H p xs/\atI xs i=some v/\Q v H
def rIxT (K:PySem.W.Frag):R2:=λx y H Q=>∃p xs i v,x=.ref p/\y=.int i/\SqT K H p xs/\atI xs i=some v/\Q v H
def rIxS:R2:=λx y H Q=>∃z i c,x=.str z/\y=.int i/\z.length<=sizeLine/\atI z.cps.toList i=some c/\Q (.str ⟨#[c]⟩) H
theorem Qqs:IxR X (rIxL X.K):=by
 intro value slice pins s σ H x y v u Q I rx ry h hs
 obtain ⟨p,xs,i,z,rfl,rfl,hq,he,q⟩:=h
 cases rx
 obtain ⟨t,rfl⟩:=ry
 obtain ⟨its,r,pl,hz⟩:=I.list hq
 obtain ⟨j,h1,h2,h3,h4,h5⟩:=Qhb he
 obtain ⟨w,ew,rw'⟩:=r.get h2
 have hl:=r.length
 have hn:=Qc1
 have fin:EP X pins σ Q w s:=⟨z,H,I,rw',q⟩
 by_cases h0:0<=i
 ·have hj:i.toNat=j:=by
   rw [seqIndex_of h0 h5] at h1
   exact Option.some.inj h1
  exact item_listR pl.isList h0 (by omega) (by rw [hj];simpa using ew) fin hs
 ·have hj:(i+(its.toArray.size:Int)).toNat=j:=by
   rw [seqIndex_neg (by omega) h4] at h1
   rw [List.size_toArray,← hl]
   exact Option.some.inj h1
  exact subscriptTail_builtinR (x:=w) pl.isList.typeIs slot_list_getitem.lookup
   (wpAny_getItem_list_neg (Q:=λr s'=>r=w/\EP X pins σ Q r s') pl.isList (by omega) (by rw [List.size_toArray] <;> omega) (by omega) (by rw [hj];simpa using ew) ⟨rfl,fin⟩) hs
theorem Qs7:IxR X (rIxT X.K):=by
 intro value slice pins s σ H x y v u Q I rx ry h hs
 obtain ⟨p,xs,i,z,rfl,rfl,hq,he,q⟩:=h
 cases rx
 obtain ⟨t,rfl⟩:=ry
 obtain ⟨its,r,pl,hz⟩:=I.tuple hq
 obtain ⟨j,h1,h2,h3,h4,h5⟩:=Qhb he
 obtain ⟨w,ew,rw'⟩:=r.get h2
 have hl:=r.length
 have hn:=Qc1
 have fin:EP X pins σ Q w s:=⟨z,H,I,rw',q⟩
 exact subscriptTail_builtinR (x:=w) pl.typeIs slot_tuple_getitem.lookup
  (getItem_tuple (j:=j) (Q:=λr s'=>r=w/\EP X pins σ Q r s') pl (by omega) (by omega) (by rw [List.size_toArray,← hl];exact h1) (by simpa using ew) ⟨rfl,fin⟩) hs
theorem Qs8:IxR X rIxS:=by
 intro value slice pins s σ H x y v u Q I rx ry h hs
 obtain ⟨z,i,c,rfl,rfl,hz,he,q⟩:=h
 obtain ⟨t,rfl⟩:=rx
 obtain ⟨t',rfl⟩:=ry
 obtain ⟨j,h1,h2,h3,h4,h5⟩:=Qhb he
 have hl:z.cps.toList.length=z.length:=by simp [Str.length]
 rw [hl] at h1 h4 h5
 have hn:=Qc1
 exact tail_any (typeIs_str s z t) slot_str_getitem.lookup (getItem_str (c:=c) (by
  have e1:decide (i < -(2 ^ 63:Int))=false:=decide_eq_false (by omega)
  have e2:decide (i ≥ 2 ^ 63)=false:=decide_eq_false (by omega)
  rw [e1,e2,Bool.or_false]) (by rw [h1];simpa using h2) ⟨.str ⟨#[c]⟩,H,I.tok _,⟨_,rfl⟩,q⟩) hs
def rIx (K:PySem.W.Frag):R2:=λx y H Q=>rIxL K x y H Q\/rIxT K x y H Q\/rIxS x y H Q
theorem Qs9:IxR X (rIx X.K):=Qqs.or (Qs7.or Qs8)
theorem Qi1 (its:List Value) (n j:Nat) (u:Value):Obj.mapSeq (·.setIfInBounds j u) { cls:=.type "list",data:=.seq its.toArray n }={ cls:=.type "list",data:=.seq (its.set j u).toArray n }:=by
 simp [Obj.mapSeq]
theorem Inv.lst {pins:List (Addr × Obj)} {σ:St} {H:Hp} {s:Shared} {p:Addr} {xs:List V} (I:Inv X pins σ H s) (h:H p=some (.lst xs)) :
  ∃(its:List Value) (n:Nat),Vals xs its/\s.heap.get? p=some { cls:=.type "list",data:=.seq its.toArray n }/\xs.length<=sizeLine:=by
 obtain ⟨z,its,n,r,e⟩:=I.hok p _ h
 exact ⟨its,n,r,e,z⟩
theorem Inv.lstUpd {pins:List (Addr × Obj)} {σ:St} {H:Hp} {s:Shared} {p:Addr} {xs ys:List V} {its its':List Value} {n n':Nat} {f:Obj->Obj} (I:Inv X pins σ H s) (h:H p=some (.lst xs))
  (ho:s.heap.get? p=some { cls:=.type "list",data:=.seq its.toArray n }) (hf:f { cls:=.type "list",data:=.seq its.toArray n }={ cls:=.type "list",data:=.seq its'.toArray n' }) (r:Vals ys its') (hz:ys.length<=sizeLine) (t:Nat) :
  Inv X pins σ (upd H p (.lst ys)) { s with heap:=s.heap.update p f,toks:=t }:=by
 have e:(s.heap.update p f).get? p=some { cls:=.type "list",data:=.seq its'.toArray n' }:=by
  rw [Heap.get?_update_self f ho (by rw [hf] <;> rfl),hf]
 refine I.write (x:=p) (e:=p) (by rw [h];trivial) (.inl rfl) (λb u hb q=>(Heap.get?_update_other _ _ (Ne.symm hb)).trans q) ⟨_,e⟩ ?_
 exact ⟨hz,its',n',r,e⟩
def Que:V->V->V->Hp->(Hp->Prop)->Prop:=λo i v H Q=>∃p xs k j,o=.ref p/\i=.int k/\H p=some (.lst xs)/\ixN xs.length k=some j/\Q (upd H p (.lst (xs.set j v)))
theorem Qmp:PSet X Que:=by
 intro pins s σ H o i v ov iv u Q I ro ri rv h
 obtain ⟨p,xs,k,j,rfl,rfl,hp,hj,q⟩:=h
 cases ro
 obtain ⟨t,rfl⟩:=ri
 obtain ⟨its,n,r,ho,hz⟩:=I.lst hp
 obtain ⟨h1,h2,h3,h4⟩:=Qdt hj
 have hl:=r.length
 have hn:=Qc1
 have I':Inv X pins σ (upd H p (.lst (xs.set j v))) { s with heap:=s.heap.update p (Obj.mapSeq (·.setIfInBounds j u)) } :=
  I.lstUpd hp ho (Qi1 its n j u) (r.set rv j) (by rw [List.length_set];exact hz) s.toks
 by_cases h0:0<=k
 ·have hk:k.toNat=j:=by
   rw [seqIndex_of h0 h4] at h1
   exact Option.some.inj h1
  exact PySem.W.ki_setAt ho h0 (by omega) (by rw [List.size_toArray,← hl];exact h4) (by rw [hk];exact ⟨_,I',q⟩)
 ·have hk:(k+(its.toArray.size:Int)).toNat=j:=by
   rw [seqIndex_neg (by omega) h3] at h1
   rw [List.size_toArray,← hl]
   exact Option.some.inj h1
  exact PySem.W.ki_setBack ho (by omega) (by rw [List.size_toArray,← hl];exact h3) (by omega) (by rw [hk];exact ⟨_,I',q⟩)
theorem Qeh (lo hi:Option Int) (n:Nat):(sliceBounds lo hi none n).1=((HT.sIx n 0 lo:Nat):Int)/\(sliceBounds lo hi none n).2.1=((HT.sIx n n hi:Nat):Int)/\(sliceBounds lo hi none n).2.2=1:=by
 refine ⟨?_,?_,rfl⟩
 ·cases lo with
  | none=>simp [sliceBounds,HT.sIx]
  | some i =>
   simp only [sliceBounds,HT.sIx,Option.getD_none,show (1:Int) > 0 by decide,if_true]
   by_cases h:i<0
   ·simp only [h,if_true] <;> omega
   ·simp only [h,if_false] <;> omega
 ·cases hi with
  | none=>simp [sliceBounds,HT.sIx]
  | some i =>
   simp only [sliceBounds,HT.sIx,Option.getD_none,show (1:Int) > 0 by decide,if_true]
   by_cases h:i<0
   ·simp only [h,if_true] <;> omega
   ·simp only [h,if_false] <;> omega
theorem Qdf (its:List Value) (lo hi:Option Int):slicePick its.toArray lo hi none=((its.drop (HT.sIx its.length 0 lo)).take (HT.sIx its.length its.length hi-HT.sIx its.length 0 lo)).toArray:=by
 obtain ⟨h1,h2,h3⟩:=Qeh lo hi its.toArray.size
 unfold slicePick
 rw [h1,h2,h3]
 simp only [sliceRange_one,pick_run,List.size_toArray] <;> rfl
def rSlL (K:PySem.W.Frag):V->Option Int->Option Int->Hp->VK->Prop:=λx lo hi H Q=>∃a xs,x=.ref a/\SqL K H a xs/\∀p,H p=none->Q (.ref p) (upd H p (.lst (cutV xs lo hi)))
theorem Qpn:SlR X (rSlL X.K):=by
 intro pins s σ H x v vl vu lo hi sl Q I rx hs pl pu h
 obtain ⟨a,xs,rfl,hx,q⟩:=h
 cases rx
 obtain ⟨its,r,ht,hz⟩:=I.list hx
 have hlen:=r.length
 refine ⟨"list",_,slot_list_getitem.lookup,ht.isList.typeIs,?_⟩
 refine wpAny_getItem_list_slice ht.isList hs pl pu .none (by simp) ?_ (by rw [List.size_toArray] <;> omega)
 rw [Qdf,← hlen]
 refine ⟨.ref s.heap.objs.size,_,I.laid (t':=s.toks) (o:=.lst (cutV xs lo hi)) (λb ob q=>Heap.get?_push_of_some _ q) (Nat.le_refl _) ?_,rfl,q _ (I.hok.fresh (Nat.le_refl _))⟩
 exact ⟨Nat.le_trans (Qb7 xs lo hi) hz,_,0,(r.drop (HT.sIx xs.length 0 lo)).take (HT.sIx xs.length xs.length hi-HT.sIx xs.length 0 lo),Heap.get?_push_size _ rfl⟩
theorem Z5.or {f:Value} {r r':List V->Hp->VK->Prop} (h:Z5 X f r) (h':Z5 X f r'):Z5 X f (λxs H Q=>r xs H Q\/r' xs H Q):=by
 intro pins s σ H xs us Q I rs q
 rcases q with q | q
 ·exact h pins s σ H xs us Q I rs q
 ·exact h' pins s σ H xs us Q I rs q
theorem Qe7:Z5 X (.type "list") (λxs H Q=>∃p ys,xs=[.ref p]/\(SqL X.K H p ys\/SqT X.K H p ys)/\∀l,H l=none->Q (.ref l) (upd H l (.lst ys))):=by
 intro pins s σ H xs us Q I r h
 obtain ⟨p,ys,rfl,hq,q⟩:=h
 obtain ⟨u,rfl,rx⟩:=Qae r
 cases rx
 have fin:∀(its:List Value),Vals ys its->ys.length<=sizeLine->∀(h':Heap) (c':Nat),(∀b o',s.heap.get? b=some o'->h'.get? b=some o') ->
   h'.get? s.heap.objs.size=some { cls:=.type "list",dict:=none,data:=.seq its.toArray c',slots:=#[] }->EP X pins σ Q (.ref s.heap.objs.size) { s with heap:=h' }:=λits r' hz h' c' kp e =>
  ⟨.ref s.heap.objs.size,_,I.laid (t':=s.toks) kp (Nat.le_refl _) (show J2 X.prog X.w _ h' _ (.lst ys) from ⟨hz,its,c',r',e⟩),rfl,q _ (I.hok.fresh (Nat.le_refl _))⟩
 rcases hq with hq | hq
 ·obtain ⟨its,r',pl,hz⟩:=I.list hq
  have hlen:=r'.length
  obtain ⟨o,ho,hc,n,hd⟩:=pl.isList
  exact call_list_seq p (.inl rfl) ho hc hd (λh' c' kp e=>fin its r' hz h' c' kp e) (by simp only [List.size_toArray] <;> omega)
 ·obtain ⟨its,r',pl,hz⟩:=I.tuple hq
  have hlen:=r'.length
  obtain ⟨o,ho,hc,n,hd⟩:=pl
  exact call_list_seq p (.inr rfl) ho hc hd (λh' c' kp e=>fin its r' hz h' c' kp e) (by simp only [List.size_toArray] <;> omega)
theorem Qd2:Z5 X (.type "tuple") (λxs H Q=>∃p ys,xs=[.ref p]/\((SqL X.K H p ys/\∀l,H l=none->Q (.ref l) (upd H l (.tup ys)))\/(SqT X.K H p ys/\Q (.ref p) H))):=by
 intro pins s σ H xs us Q I r h
 obtain ⟨p,ys,rfl,h⟩:=h
 obtain ⟨u,rfl,rx⟩:=Qae r
 cases rx
 rcases h with ⟨hq,q⟩ | ⟨hq,q⟩
 ·obtain ⟨its,r',pl,hz⟩:=I.list hq
  have hlen:=r'.length
  refine call_tuple_list pl.isList (λh' kp=>?_) (by simp only [List.size_toArray] <;> omega)
  have I1:Inv X pins σ H { s with heap:=h' }:=I.kept (t':=s.toks) kp
  have I2:Inv X pins σ (upd H h'.objs.size (.tup ys)) { s with heap:=h'.push { cls:=.type "tuple",data:=.seq its.toArray } } :=
   I1.laid (t':=s.toks) (λb o e=>Heap.get?_push_of_some _ e) (Nat.le_refl _) (show J2 X.prog X.w _ _ _ (.tup ys) from ⟨hz,its,r',IsTup.new _ _⟩)
  exact ⟨.ref h'.objs.size,_,I2,rfl,q _ (I1.hok.fresh (Nat.le_refl _))⟩
 ·obtain ⟨its,r',pl,hz⟩:=I.tuple hq
  exact call_tuple_same pl ⟨.ref p,H,I,rfl,q⟩
def tyV (K:PySem.W.Frag) (T:String) (x:V) (H:Hp):Prop:=match x with
 | .str _=>T = "str"
 | .int _=>T = "int"
 | .ref p=>(T = "list" /\ ∃xs,SqL K H p xs)\/(T = "tuple" /\ ∃o,K.lookup p=some o/\o.cls=.type "tuple" /\ o.dict=none) \/
   (T = "dict" /\ ((∃kvs,H p=some (.dK kvs))\/∃kvs,H p=some (.dT kvs)))\/(T = "set" /\ ∃S n,H p=some (.set S n))\/∃φ,H p=some (.ext φ)/\∀h,φ h->∃o,h.get? p=some o/\o.cls=.type T/\o.dict=none
 | _=>False
theorem Qoc {pins:List (Addr × Obj)} {σ:St} {H:Hp} {s:Shared} {T:String} {x:V} {v:Value} (I:Inv X pins σ H s) (r:RelV x v) (ty:tyV X.K T x H) :
  s.TypeIs v T/\∀a,v=.ref a->∃ob,s.heap.get? a=some ob/\ob.dict=none:=by
 cases x with
 | str z =>
  obtain ⟨t,rfl⟩:=r
  cases (show T = "str" from ty)
  exact ⟨typeIs_str s z t,λ_ e=>nomatch e⟩
 | int i =>
  obtain ⟨t,rfl⟩:=r
  cases (show T = "int" from ty)
  exact ⟨typeIs_int s i t,λ_ e=>nomatch e⟩
 | ref p =>
  cases r
  rcases ty with ⟨rfl,xs,hq⟩ | ⟨rfl,o,hk,hc,hd⟩ | ⟨rfl,hk⟩ | ⟨rfl,S,n,hk⟩ | ⟨φ,hk,hf⟩
  ·obtain ⟨its,_,pl,_⟩:=I.list hq
   refine ⟨pl.isList.typeIs,λa e=>?_⟩
   cases e
   obtain ⟨o,n,e,c,hd,_⟩:=pl
   exact ⟨o,e,hd⟩
  ·refine ⟨⟨o,I.kIn p o hk,hc⟩,λa e=>?_⟩
   cases e
   exact ⟨o,I.kIn _ o hk,hd⟩
  ·have z:∃o,s.heap.get? p=some o/\o.ExactDict:=by
    rcases hk with ⟨kvs,hk⟩ | ⟨kvs,hk⟩
    ·obtain ⟨_,_,_,_,o,_,_,e,ex,_⟩:=I.hok p _ hk
     exact ⟨o,e,ex⟩
    ·obtain ⟨_,_,_,_,o,_,_,e,ex,_⟩:=I.hok p _ hk
     exact ⟨o,e,ex⟩
   obtain ⟨o,e,ex⟩:=z
   refine ⟨⟨o,e,ex.1⟩,λa e2=>?_⟩
   cases e2
   exact ⟨o,e,ex.2.1⟩
  ·obtain ⟨o,_,_,_,e,ex,_⟩:=I.hok p _ hk
   refine ⟨⟨o,e,ex.1⟩,λa e2=>?_⟩
   cases e2
   exact ⟨o,e,ex.2.1⟩
  ·obtain ⟨h1,_⟩:=I.hok p _ hk
   obtain ⟨o,e,c,d⟩:=hf _ h1
   refine ⟨⟨o,e,c⟩,λa e2=>?_⟩
   cases e2
   exact ⟨o,e,d⟩
 | _=>exact False.elim ty
def tBM (K:PySem.W.Frag) (T:String) (r:V->List V->Hp->VK->Prop) (to:TE) (t:TA):TE:=λσ H Q=>to σ H λx H1=>tyV K T x H1/\t σ H1 λxs H2=>r x xs H2 Q
variable {o e:Expr} {es:List Expr} {to:TE} {t:TA} {name:Str} {apos cpos:Pos} {T id:String} {r:V->List V->Hp->VK->Prop}
theorem Qqd (pa:PlainAttrs T) (slot:Slot T name id) (hty:typeOf (.builtin id)=pure (.type "method_descriptor")) (hm:MtR X id r) (ho:PE X o to) (ha:PA X (e::es) t)
  (hbase:attributeBase o name X.env (eval o X.env)=eval o X.env:=by rfl)
  (hfew:((backTo cpos (starEach (e::es) X.env)).all (λx=>!x.1) && (backToKw cpos (keywordEach [] X.env)).all (λx=>x.1.isSome)
   && decide ((e::es).length+([]:List Keyword).length+(if ([]:List Keyword).isEmpty then 0 else 1)<30))=true:=by rfl)
  (hline:(apos.endLine == cpos.line)=true:=by rfl) (hs:starEach (e::es) X.env=(false,eval e X.env)::starEach es X.env:=by rfl) (hplain:(backTo cpos (starEach es X.env)).any (·.1)=false:=by rfl) :
  PE X (.Call (.Attribute o name apos) (e::es) [] cpos) (tBM X.K T r to t):=by
 intro pins s σ H Q I h
 refine wpAny_Call_method_late hbase hfew hline rfl (thn (ho pins s σ H _ I h) λv s1 ⟨x,H1,I1,r1,ty,q1⟩=>?_)
 obtain ⟨h1,h2⟩:=Qoc I1 r1 ty
 refine ⟨T,id,pa,slot,hty,h1,h2,?_⟩
 have hA:=ha cpos pins s1 σ H1 _ I1 q1
 rw [hs] at hA ⊢
 refine Calls.callWith_builtin (by show (false || (backTo cpos (starEach es X.env)).any (·.1))=false;rw [hplain] <;> rfl) (Calls.evalArgs_plain ?_)
 exact thn hA λus s2 ⟨vs,H2,I2,r2,q2⟩=>hm pins s2 σ H2 x vs v us Q I2 r1 r2 q2
end
end L2
namespace L2
open PySem PySem.Spec PyProof.Rows
def MtM (X:Cx) (id:String) (r:V->List V->Hp->VK->Prop):Prop :=
 ∀(pins:List (Addr × Obj)) (s:Shared) (σ:St) (H:Hp) (x:V) (xs:List V) (v:Value) (us:List Value) (Q:VK),Inv X pins σ H s->RelV x v->Vals xs us->r x xs H Q ->
  wpAny (model X.prog X.w) X.A (call (.builtin id) (v::us)) (EP X pins σ Q) X.xe s
theorem Vals.one:∀{x:V} {us:List Value},Vals [x] us->∃u,us=[u]/\RelV x u
 | _,_,.cons r .nil=>⟨_,rfl,r⟩
theorem Vals.two:∀{x y:V} {us:List Value},Vals [x,y] us->∃u v,us=[u,v]/\RelV x u/\RelV y v
 | _,_,_,.cons r (.cons q .nil)=>⟨_,_,rfl,r,q⟩
theorem Vals.eraseIdx:∀{xs:List V} {us:List Value} (i:Nat),Vals xs us->Vals (xs.eraseIdx i) (us.eraseIdx i)
 | _,_,_,.nil=>.nil
 | _,_,0,.cons _ t=>t
 | _,_,i+1,.cons r t=>.cons r (Vals.eraseIdx i t)
theorem Vals.rep {xs:List V} {us:List Value} (h:Vals xs us):∀k:Nat,Vals (List.replicate k xs).flatten (List.replicate k us).flatten
 | 0=>.nil
 | k+1=>by
  rw [List.replicate_succ,List.replicate_succ,List.flatten_cons,List.flatten_cons]
  exact Vals.append h (Vals.rep h k)
theorem Qeq {α:Type}:∀(l:List α) (i:Nat),(l.eraseIdx i).length<=l.length
 | [],_=>Nat.le_refl _
 | _::_,0=>Nat.le_succ _
 | _::r,i+1=>Nat.succ_le_succ (Qeq r i)
theorem Qex (its:List Value):∀(k:Nat) (acc:List Value),
  List.foldl (λx1 x2=>x1++x2) acc.toArray (List.replicate k its.toArray)=(acc++(List.replicate k its).flatten).toArray
 | 0,acc=>by simp
 | k+1,acc=>by
  have e:acc.toArray++its.toArray=(acc++its).toArray:=by simp
  have e2:(acc++its)++(List.replicate k its).flatten=acc++(List.replicate (k+1) its).flatten:=by
   rw [List.replicate_succ,List.flatten_cons,List.append_assoc]
  rw [← e2,← Qex its k (acc++its),← e,List.replicate_succ,List.foldl_cons]
section
variable {X:Cx} {pins:List (Addr × Obj)} {σ:St} {H:Hp} {s:Shared} {l b:Addr} {xs ys zs:List V}
theorem Inv.lset {its its':List Value} {n:Nat} {f:Array Value->Array Value} {t':Nat} (I:Inv X pins σ H s) (hH:H l=some (.lst xs))
  (e:s.heap.get? l=some { cls:=.type "list",data:=.seq its.toArray n }) (hf:f its.toArray=its'.toArray) (hv:Vals ys its') (hz:ys.length<=sizeLine) :
  Inv X pins σ (upd H l (.lst ys)) { s with heap:=s.heap.update l (Obj.mapSeq f),toks:=t' }:=by
 have q:=PySem.IsL.update e f
 rw [hf] at q
 refine I.write (x:=l) (e:=l) (by rw [hH];exact trivial) (.inl rfl) (λb' u hb hu=>(Heap.get?_update_other s.heap (Obj.mapSeq f) (Ne.symm hb)).trans hu) ⟨_,q⟩ ?_
 exact ⟨hz,its',_,hv,q⟩
theorem Inv.lnew {its:List Value} {t':Nat} (I:Inv X pins σ H s) (hv:Vals ys its) (hz:ys.length<=sizeLine) :
  Inv X pins σ (upd H s.heap.objs.size (.lst ys)) { s with heap:=s.heap.push { cls:=.type "list",data:=.seq its.toArray },toks:=t' } :=
 I.laid (λ_ _ q=>Heap.get?_push_of_some _ q) (Nat.le_refl _) ⟨hz,its,0,hv,Heap.get?_push_size _ rfl⟩
theorem Inv.fresh (I:Inv X pins σ H s):H s.heap.objs.size=none:=I.hok.fresh (Nat.le_refl _)
theorem Inv.lstM (I:Inv X pins σ H s) (hH:H l=some (.lst xs)):xs.length<=sizeLine/\∃(its:List Value) (n:Nat),Vals xs its/\xs.length=its.length/\s.heap.get? l=some { cls:=.type "list",data:=.seq its.toArray n }:=by
 obtain ⟨z,its,n,r,e⟩:=I.hok l _ hH
 exact ⟨z,its,n,r,r.length,e⟩
theorem Qhp {n:Nat} (h:n<=sizeLine):Builtin.List.listTooLong n=false:=by
 unfold Builtin.List.listTooLong
 exact decide_eq_false (by omega)
end
section
variable {X:Cx}
def Qj4:V->List V->Hp->VK->Prop:=λx vs H Q=>∃l xs y,x=.ref l/\vs=[y]/\H l=some (.lst xs)/\xs.length<sizeLine/\Q .non (upd H l (.lst (xs++[y])))
theorem Qeo:MtM X "list.append" Qj4:=by
 intro pins s σ H x vs v us Q I rx rv h
 obtain ⟨l,xs,y,rfl,rfl,hH,hz,q⟩:=h
 cases rx
 obtain ⟨u,rfl,ru⟩:=rv.one
 obtain ⟨z,its,n,r,hl,e⟩:=I.lstM hH
 refine call_meets F.slot_list_append ⟨_,e,rfl⟩ F.entry_list_append (F.args_list_append_2 _ _) (PySem.list_append l its.toArray n u (by rw [List.size_toArray];omega)) ⟨e,?_⟩
 refine ⟨.non,_,I.lset (its':=its++[u]) hH e (by simp) (r.append (.cons ru .nil)) ?_,rfl,q⟩
 rw [List.length_append,List.length_singleton]
 omega
def Qpr:V->List V->Hp->VK->Prop:=λx vs H Q=>∃l b xs zs,x=.ref l/\vs=[.ref b]/\H l=some (.lst xs)/\H b=some (.lst zs)/\xs.length+zs.length<=sizeLine/\Q .non (upd H l (.lst (xs++zs)))
theorem Qst:MtM X "list.extend" Qpr:=by
 intro pins s σ H x vs v us Q I rx rv h
 obtain ⟨l,b,xs,zs,rfl,rfl,hH,hB,hz,q⟩:=h
 cases rx
 obtain ⟨u,rfl,ru⟩:=rv.one
 cases ru
 obtain ⟨z,its,n,r,hl,e⟩:=I.lstM hH
 obtain ⟨z2,its2,n2,r2,hl2,e2⟩:=I.lstM hB
 have hsz:its.toArray.size+its2.toArray.size<=sizeLine:=by rw [List.size_toArray,List.size_toArray];omega
 have hlong:¬(!its.toArray.isEmpty && Builtin.List.listTooLong (its.toArray.size+its2.toArray.size))=true:=by
  rw [Qhp hsz,Bool.and_false]
  exact Bool.false_ne_true
 refine call_meets F.slot_list_extend ⟨_,e,rfl⟩ F.entry_list_extend (F.args_list_extend_2 _ _)
  (AutoSeq1.list_extend_list_list_0 l its.toArray n b its2.toArray n2 hlong (by rw [List.size_toArray];omega) (by omega)) ⟨e,e2,?_⟩
 refine ⟨.non,_,I.lset (its':=its++its2) hH e (by simp) (r.append r2) ?_,rfl,q⟩
 rw [List.length_append]
 omega
def Qr2:V->List V->Hp->VK->Prop:=λx vs H Q=>∃l xs i k y,x=.ref l/\vs=[.int i]/\H l=some (.lst xs) /\ -(2 ^ 63)<=i/\i<2 ^ 63/\seqIndex? i xs.length=some k/\xs[k]? = some y/\Q y (upd H l (.lst (xs.eraseIdx k)))
theorem Qna:MtM X "list.pop" Qr2:=by
 intro pins s σ H x vs v us Q I rx rv h
 obtain ⟨l,xs,i,k,y,rfl,rfl,hH,h1,h2,hk,hy,q⟩:=h
 cases rx
 obtain ⟨u,rfl,ru⟩:=rv.one
 obtain ⟨t,rfl⟩:=ru
 obtain ⟨z,its,n,r,hl,e⟩:=I.lstM hH
 obtain ⟨w,hw,rw'⟩:=r.get hy
 refine call_meets F.slot_list_pop ⟨_,e,rfl⟩ F.entry_list_pop (F.args_list_pop_2 _ _)
  (MeetsSeq.list_pop_at l its.toArray n i t k w (fitsIndex_both h1 h2) (by rw [List.size_toArray,← hl];exact hk) (by rw [← Array.getElem?_toList];exact hw) (by rw [List.size_toArray];omega)) ⟨e,?_⟩
 refine ⟨y,_,I.lset (its':=its.eraseIdx k) hH e ?_ (r.eraseIdx k) ?_,rw',q⟩
 ·show its.toArray.eraseIdxIfInBounds k=(its.eraseIdx k).toArray
  rw [List.eraseIdxIfInBounds_toArray]
 ·have:=Qeq xs k
  omega
def rCat:R2:=λx y H Q=>∃l b xs zs,x=.ref l/\y=.ref b/\H l=some (.lst xs)/\H b=some (.lst zs)/\xs.length+zs.length<=sizeLine/\∀p,H p=none->Q (.ref p) (upd H p (.lst (xs++zs)))
theorem Qsm:OpR X (binaryOp .Add) rCat:=by
 intro pins s σ H x y v u Q I rx ry h
 obtain ⟨l,b,xs,zs,rfl,rfl,hH,hB,hz,q⟩:=h
 cases rx
 cases ry
 obtain ⟨z,its,n,r,hl,e⟩:=I.lstM hH
 obtain ⟨z2,its2,n2,r2,hl2,e2⟩:=I.lstM hB
 refine PySem.P.add_list e e2 ?_ (by rw [List.size_toArray,List.size_toArray];omega)
 have ea:its.toArray++its2.toArray=(its++its2).toArray:=by simp
 rw [ea]
 exact ⟨.ref _,_,I.lnew (t':=s.toks) (r.append r2) (by rw [List.length_append];omega),rfl,q _ I.fresh⟩
def rRep:R2:=λx y H Q=>∃l k xs,x=.ref l/\y=.int k/\H l=some (.lst xs) /\ -(2 ^ 63)<=k/\k<2 ^ 63/\xs.length*k.toNat<=sizeLine /\
 ∀p,H p=none->Q (.ref p) (upd H p (.lst (List.replicate k.toNat xs).flatten))
theorem Qqo {α:Type} (xs:List α) (k:Nat):(List.replicate k xs).flatten.length=k*xs.length:=by
 induction k with
 | zero=>simp
 | succ k ih=>rw [List.replicate_succ,List.flatten_cons,List.length_append,ih,Nat.succ_mul,Nat.add_comm]
theorem Qsg:OpR X (binaryOp .Mult) rRep:=by
 intro pins s σ H x y v u Q I rx ry h
 obtain ⟨l,k,xs,rfl,rfl,hH,h1,h2,hz,q⟩:=h
 cases rx
 obtain ⟨t,rfl⟩:=ry
 obtain ⟨z,its,n,r,hl,e⟩:=I.lstM hH
 have hlen:its.toArray.size*k.toNat<=sizeLine:=by rw [List.size_toArray,← hl];exact hz
 have hcap:¬its.toArray.size*k.toNat > (2 ^ 63-1) / 8:=by
  have:(sizeLine:Nat)<=(2 ^ 63-1) / 8:=by decide
  omega
 have hfit:¬(!Builtin.List.listFitsIndex k)=true:=by
  rw [fitsIndex_both h1 h2]
  exact Bool.false_ne_true
 have hlong:¬Builtin.List.listTooLong (its.toArray.size*k.toNat)=true:=by
  rw [Qhp hlen]
  exact Bool.false_ne_true
 have hnew:List.foldl (λx1 x2=>x1++x2) #[] (List.replicate (if its.toArray.isEmpty=true then 0 else k.toNat) its.toArray)=(List.replicate k.toNat its).flatten.toArray:=by
  have f0:∀m:Nat,List.foldl (λx1 x2=>x1++x2) #[] (List.replicate m its.toArray)=(List.replicate m its).flatten.toArray:=λm=>by
   have:=Qex its m []
   rw [List.nil_append] at this
   exact this
  rw [f0]
  cases its with
  | nil=>simp
  | cons a r'=>rw [if_neg (by simp)]
 refine wpAny_binaryOp_repeat_ref (T:="list") (U:="int") (by decide) ⟨_,e,rfl⟩ (λs'=>typeIs_int s' k t) noFill_list_mul F.fills_int_mul F.slot_int_rmul repeat_list F.slot_int_index.lookup
  (call_meets F.slot_int_rmul (typeIs_int s k t) F.entry_int_rmul (F.args_int_rmul_2 _ _) (int___rmul___int_list k t l its.toArray n)
   ⟨e,rfl,⟨_,e,rfl⟩,call_meets F.slot_list_mul ⟨_,e,rfl⟩ F.entry_list_mul (F.args_list_mul_2 _ _) (AutoListH.list___mul___list_int_3 l its.toArray n k t hfit hcap hlong) ⟨e,?_⟩⟩)
 rw [hnew]
 exact ⟨.ref _,_,I.lnew (t':=s.toks) (r.rep k.toNat) (by rw [Qqo,Nat.mul_comm];exact hz),rfl,q _ I.fresh⟩
end
section
variable {prog:Program} {w:World} {A:Around} {E:Value->Shared->Prop} {s:Shared}
end
section
variable {X:Cx}
end
end L2
namespace L2
open PySem PySem.Spec PyProof.Rows
section
variable {κ:Type} [DecidableEq κ]
def valV (kvs:List (κ × V)) (k:κ):Option V:=(kvs.find? λkv=>decide (kv.1=k)).map (·.2)
def putK (kvs:List (κ × V)) (k:κ) (v:V):List (κ × V) :=
 if (kvs.any λkv=>decide (kv.1=k))=true then kvs.map (λkv=>if kv.1=k then (kv.1,v) else kv) else kvs++[(k,v)]
theorem J8 {p:κ × V} {r:List (κ × V)} {k:κ} (e:p.1=k):valV (p::r) k=some p.2:=by simp [valV,List.find?_cons,e]
theorem J9 {p:κ × V} {r:List (κ × V)} {k:κ} (e:¬p.1=k):valV (p::r) k=valV r k:=by simp [valV,List.find?_cons,e]
theorem Gy (k:κ):∀kvs:List (κ × V),(kvs.any λkv=>decide (kv.1=k))=(valV kvs k).isSome
 | []=>rfl
 | p::r=>by
  rw [List.any_cons]
  by_cases e:p.1=k
  ·simp only [J8 e,decide_eq_true e,Bool.true_or,Option.isSome_some]
  ·rw [J9 e,decide_eq_false e,Bool.false_or];exact Gy k r
theorem Qhe (k j:κ) (y:V):∀kvs:List (κ × V),valV (kvs.map λkv=>if kv.1=k then (kv.1,y) else kv) j=(valV kvs j).map λx=>if j=k then y else x
 | []=>rfl
 | p::r=>by
  have ih:=Qhe k j y r
  rw [List.map_cons]
  by_cases h:p.1=k
  ·rw [if_pos h]
   by_cases e:p.1=j
   ·rw [J8 (p:=(p.1,y)) e,J8 e,Option.map_some,if_pos (e.symm.trans h)]
   ·rw [J9 (p:=(p.1,y)) e,J9 e,ih]
  ·rw [if_neg h]
   by_cases e:p.1=j
   ·rw [J8 (p:=p) e,J8 e,Option.map_some,if_neg (λz=>h (e.trans z))]
   ·rw [J9 (p:=p) e,J9 e,ih]
theorem Qed (k j:κ) (y:V):∀kvs:List (κ × V),valV kvs k=none->valV (kvs++[(k,y)]) j=if j=k then some y else valV kvs j
 | [],_=>by
  by_cases e:k=j
  ·rw [if_pos e.symm];exact J8 (p:=(k,y)) e
  ·rw [if_neg (λz=>e z.symm)];exact J9 (p:=(k,y)) e
 | p::r,hn=>by
  rw [List.cons_append]
  have hk:¬p.1=k:=λz=>by rw [J8 z] at hn;cases hn
  rw [J9 hk] at hn
  have ih:=Qed k j y r hn
  by_cases e:p.1=j
  ·rw [J8 e,J8 e,if_neg (λz=>hk (e.trans z))]
  ·rw [J9 e,J9 e,ih]
theorem Qmk (kvs:List (κ × V)) (k j:κ) (y:V):valV (putK kvs k y) j=if j=k then some y else valV kvs j:=by
 unfold putK
 by_cases a:(kvs.any λkv=>decide (kv.1=k))=true
 ·rw [if_pos a,Qhe]
  rw [Gy] at a
  by_cases e:j=k
  ·obtain ⟨x,hx⟩:=Option.isSome_iff_exists.mp a
   rw [if_pos e,e,hx,Option.map_some,if_pos rfl]
  ·rw [if_neg e]
   cases valV kvs j with
   | none=>rfl
   | some x=>rw [Option.map_some,if_neg e]
 ·rw [if_neg a]
  refine Qed k j y kvs ?_
  rw [Gy] at a
  cases q:valV kvs k with
  | none=>rfl
  | some x=>rw [q] at a;exact (a rfl).elim
theorem Gp (kvs:List (κ × V)) (k:κ) (v:V):(putK kvs k v).length<=kvs.length+1:=by
 unfold putK
 split
 ·rw [List.length_map];omega
 ·rw [List.length_append,List.length_cons,List.length_nil];omega
theorem Qms {kvs:List (κ × V)} {k:κ} (v:V) (h:valV kvs k=none):putK kvs k v=kvs++[(k,v)]:=by
 unfold putK
 rw [Gy,h]
 exact if_neg (by decide)
theorem RelO.isSome_eq {o:Option V} {u:Option Value} (r:RelO o u):o.isSome=u.isSome:=by
 cases o with
 | none=>cases u with
  | none=>rfl
  | some _=>exact (show False from r).elim
 | some _=>cases u with
  | none=>exact (show False from r).elim
  | some _=>rfl
theorem RelO.getD {o:Option V} {u:Option Value} {d:V} {d':Value} (r:RelO o u) (rd:RelV d d'):RelV (o.getD d) (u.getD d'):=by
 cases o with
 | none=>cases u with
  | none=>exact rd
  | some _=>exact (show False from r).elim
 | some _=>cases u with
  | none=>exact (show False from r).elim
  | some _=>exact r
theorem KV.val {kvs:List (κ × V)} {vs:List (κ × Value)} (r:KV kvs vs) (k:κ):RelO (valV kvs k) (valueAt vs k):=by
 unfold KV at r
 induction r with
 | nil=>exact True.intro
 | @cons p q ps qs h t ih =>
  obtain ⟨h1,h2⟩:=h
  by_cases e:p.1=k
  ·have e':q.1=k:=h1.symm.trans e
   have b:valueAt (q::qs) k=some q.2:=by simp [valueAt,List.find?_cons,e']
   rw [J8 e,b];exact h2
  ·have e':¬q.1=k:=λz=>e (h1.trans z)
   have b:valueAt (q::qs) k=valueAt qs k:=by simp [valueAt,List.find?_cons,e']
   rw [J9 e,b];exact ih
theorem KV.any {kvs:List (κ × V)} {vs:List (κ × Value)} (r:KV kvs vs) (k:κ):(kvs.any λkv=>decide (kv.1=k))=vs.any λkv=>decide (kv.1=k):=by
 unfold KV at r
 induction r with
 | nil=>rfl
 | cons h t ih=>rw [List.any_cons,List.any_cons,ih,h.1]
theorem KV.repl {kvs:List (κ × V)} {vs:List (κ × Value)} (r:KV kvs vs) (k:κ) {y:V} {u:Value} (ry:RelV y u) :
  KV (kvs.map λkv=>if kv.1=k then (kv.1,y) else kv) (vs.map λkv=>if kv.1=k then (kv.1,u) else kv):=by
 unfold KV at r ⊢
 induction r with
 | nil=>exact .nil
 | @cons p q ps qs h t ih =>
  rw [List.map_cons,List.map_cons]
  refine .cons ?_ ih
  obtain ⟨h1,h2⟩:=h
  by_cases e:p.1=k
  ·rw [if_pos e,if_pos (h1.symm.trans e)];exact ⟨h1,ry⟩
  ·rw [if_neg e,if_neg (λz=>e (h1.trans z))];exact ⟨h1,h2⟩
theorem KV.put {kvs:List (κ × V)} {vs:List (κ × Value)} (r:KV kvs vs) (k:κ) {y:V} {u:Value} (ry:RelV y u):KV (putK kvs k y) (stored vs k u):=by
 unfold putK stored
 rw [r.any k]
 by_cases e:(vs.any λkv=>decide (kv.1=k))=true
 ·rw [if_pos e,if_pos e];exact r.repl k ry
 ·rw [if_neg e,if_neg e];exact Paired.snoc r ⟨rfl,ry⟩
theorem KV.length {kvs:List (κ × V)} {vs:List (κ × Value)} (r:KV kvs vs):kvs.length=vs.length:=Paired.length r
end
theorem Qkw {P:Program} {w:World} {k:Key} {u:Value} (r:RelV (kV k) u):(Jg P w).is k u=true:=by
 cases k with
 | inl i=>obtain ⟨t,e⟩:=(show ∃t,u=Value.int i t from r);subst e;exact Qgu P w i t
 | inr x=>obtain ⟨t,e⟩:=(show ∃t,u=Value.str x t from r);subst e;exact Qgt P w x t
theorem Qev {P:Program} {w:World}:∀{ks:List Key} {us:List Value},Vals (ks.map kV) us->ItemsAre (Jg P w) ks us
 | [],_,r=>by rw [List.map_nil] at r;cases r;exact .nil
 | k::ks,_,r=>by
  rw [List.map_cons] at r
  cases r with
  | cons h t=>exact .cons (Qkw h) (Qev t)
abbrev KT (H:Hp):List (List Key × V)->List (List Key × Addr × Value)->Prop:=Paired λp q=>p.1=q.1/\H q.2.1=some (.tup (p.1.map kV))/\RelV p.2 q.2.2
theorem KT.val {H:Hp} {kvs:List (List Key × V)} {xs:List (List Key × Addr × Value)} (r:KT H kvs xs) (k:List Key):RelO (valV kvs k) ((atKey xs k).map (·.2)):=by
 induction r with
 | nil=>exact True.intro
 | @cons p q ps qs h t ih =>
  obtain ⟨h1,_,h2⟩:=h
  by_cases e:p.1=k
  ·have e':q.1=k:=h1.symm.trans e
   have b:atKey (q::qs) k=some q.2:=by simp [atKey,List.find?_cons,e']
   rw [J8 e,b];exact h2
  ·have e':¬q.1=k:=λz=>e (h1.trans z)
   have b:atKey (q::qs) k=atKey qs k:=by simp [atKey,List.find?_cons,e']
   rw [J9 e,b];exact ih
theorem KT.repl {H:Hp} {kvs:List (List Key × V)} {xs:List (List Key × Addr × Value)} (r:KT H kvs xs) (k:List Key) {y:V} {u:Value} (ry:RelV y u) :
  KT H (kvs.map λkv=>if kv.1=k then (kv.1,y) else kv) (xs.map (putAt k u)):=by
 induction r with
 | nil=>exact .nil
 | @cons p q ps qs h t ih =>
  rw [List.map_cons,List.map_cons]
  refine .cons ?_ ih
  obtain ⟨h1,h2,h3⟩:=h
  unfold putAt
  by_cases e:p.1=k
  ·rw [if_pos e,if_pos (h1.symm.trans e)];exact ⟨h1,h2,ry⟩
  ·rw [if_neg e,if_neg (λz=>e (h1.trans z))];exact ⟨h1,h2,h3⟩
theorem KT.put {H:Hp} {kvs:List (List Key × V)} {xs:List (List Key × Addr × Value)} (r:KT H kvs xs) (k:List Key) {b:Addr} {y:V} {u:Value} (hb:H b=some (.tup (k.map kV))) (ry:RelV y u) :
  KT H (putK kvs k y) (storedH xs k b u):=by
 have e:(kvs.any λkv=>decide (kv.1=k))=(atKey xs k).isSome:=by
  rw [Gy,(r.val k).isSome_eq,Option.isSome_map]
 unfold putK storedH
 rw [e]
 by_cases q:(atKey xs k).isSome=true
 ·rw [if_pos q,if_pos q];exact r.repl k ry
 ·rw [if_neg q,if_neg q];exact Paired.snoc r ⟨rfl,hb,ry⟩
theorem KT.keeps {H H':Hp} {kvs:List (List Key × V)} {xs:List (List Key × Addr × Value)} (r:KT H kvs xs) (ht:∀b ys,H b=some (.tup ys)->H' b=some (.tup ys)):KT H' kvs xs :=
 Paired.mapP r λ_ _ z=>⟨z.1,ht _ _ z.2.1,z.2.2⟩
section
variable {P:Program} {w:World} {H:Hp} {h:Heap} {a:Addr}
theorem Qrz {u:HO} (ok:HOk P w H h) (e:Rd H a u):J2 P w H h a u:=e.ok ok
theorem Qjb {kvs:List (Key × V)} (ok:HOk P w H h) (e:Rd H a (.dK kvs)):kvs.length<=sizeLine/\(a == sysModules)=false/\∃vs,KV kvs vs/\h.DictOf (Jg P w) a vs :=
 show J2 P w H h a (.dK kvs) from Qrz ok e
theorem Qnt {kvs:List (Key × V)} (ok:HOk P w H h) (e:H a=some (.dK kvs)):kvs.length<=sizeLine/\(a == sysModules)=false/\∃vs,KV kvs vs/\h.DictOf (Jg P w) a vs:=Qjb ok (.inl e)
theorem Qhy {ks:List Key} (ok:HOk P w H h) (e:H a=some (.tup (ks.map kV))):(tupleKind (Jg P w)).is h ks a:=by
 obtain ⟨_,its,r,o,h1,h2,n,h3⟩:=(show J2 P w H h a (.tup (ks.map kV)) from ok a _ e)
 exact ⟨o,its.toArray,n,h1,h2,h3,by simpa using Qev r⟩
theorem Qlj {kvs:List (List Key × V)} (ok:HOk P w H h) (e:Rd H a (.dT kvs)):kvs.length<=sizeLine/\(a == sysModules)=false /\
  ∃xs,KT H kvs xs/\h.DictOfH (tupleKind (Jg P w)) a xs:=by
 obtain ⟨z,y,xs,r,o,es,ep,h1,h2,h3,h4,h5⟩:=(show J2 P w H h a (.dT kvs) from Qrz ok e)
 refine ⟨z,y,xs,r,o,es,ep,h1,h2,h3,h4,λx hx=>?_,h5⟩
 have all:∀{l:List (List Key × V)} {m:List (List Key × Addr × Value)},KT H l m->∀x∈m,(tupleKind (Jg P w)).is h x.1 x.2.1:=by
  intro l m q
  induction q with
  | nil=>intro x hx;exact nomatch hx
  | @cons p q ps qs hq t ih =>
   intro x hx
   rcases List.mem_cons.mp hx with e | hx
   ·subst e
    exact Qhy ok (by rw [← hq.1];exact hq.2.1)
   ·exact ih x hx
 exact all r x hx
theorem Qu4 {kvs:List (List Key × V)} (ok:HOk P w H h) (e:H a=some (.dT kvs)):kvs.length<=sizeLine/\(a == sysModules)=false /\
  ∃xs,KT H kvs xs/\h.DictOfH (tupleKind (Jg P w)) a xs:=Qlj ok (.inl e)
end
def DGet (H:Hp) (a:Addr) (y:V) (r:Option V):Prop :=
 (∃kvs k,Rd H a (.dK kvs)/\y=kV k/\r=valV kvs k)\/∃kvs k b,Rd H a (.dT kvs)/\y=.ref b/\H b=some (.tup (k.map kV))/\r=valV kvs k
def DPut (H:Hp) (a:Addr) (y v:V) (H':Hp):Prop :=
 (∃kvs k,H a=some (.dK kvs)/\y=kV k/\kvs.length<sizeLine/\H'=upd H a (.dK (putK kvs k v))) \/
 ∃kvs k b,H a=some (.dT kvs)/\y=.ref b/\H b=some (.tup (k.map kV))/\kvs.length<sizeLine/\H'=upd H a (.dT (putK kvs k v))
theorem DGet.k {H:Hp} {a:Addr} {kvs:List (Key × V)} {k:Key} (e:H a=some (.dK kvs)):DGet H a (kV k) (valV kvs k):=.inl ⟨kvs,k,.inl e,rfl,rfl⟩
theorem DGet.t {H:Hp} {a b:Addr} {kvs:List (List Key × V)} {k:List Key} (e:H a=some (.dT kvs)) (eb:H b=some (.tup (k.map kV))):DGet H a (.ref b) (valV kvs k):=.inr ⟨kvs,k,b,.inl e,rfl,eb,rfl⟩
theorem DPut.k {H:Hp} {a:Addr} {kvs:List (Key × V)} {k:Key} {v:V} (e:H a=some (.dK kvs)) (hl:kvs.length<sizeLine):DPut H a (kV k) v (upd H a (.dK (putK kvs k v))):=.inl ⟨kvs,k,e,rfl,hl,rfl⟩
theorem DPut.t {H:Hp} {a b:Addr} {kvs:List (List Key × V)} {k:List Key} {v:V} (e:H a=some (.dT kvs)) (eb:H b=some (.tup (k.map kV))) (hl:kvs.length<sizeLine) :
  DPut H a (.ref b) v (upd H a (.dT (putK kvs k v))):=.inr ⟨kvs,k,b,e,rfl,eb,hl,rfl⟩
section
variable {X:Cx} {pins:List (Addr × Obj)} {σ:St} {H:Hp} {s:Shared} {a:Addr} {y v:V} {u r:Value} {o:Option V} {A:Around} {E:Value->Shared->Prop}
theorem Inv.big (I:Inv X pins σ H s):sysModules<s.heap.objs.size:=by
 have h:mainGlobals<s.heap.objs.size:=(I.mod.glob.keeps I.bk).lt
 exact Nat.lt_trans (by decide) h
theorem Qlq {Q:Value->Shared->Prop} (hu:A.units+1<cLine) (I:Inv X pins σ H s) (g:DGet H a y (some v)) (ry:RelV y u) (h:∀w' s',Inv X pins σ H s'->RelV v w'->Q w' s') :
  wpAny (model X.prog X.w) A (getItem (.ref a) u) Q E s:=by
 rcases g with ⟨kvs,k,e,ey,l⟩ | ⟨kvs,k,b,e,ey,eb,l⟩
 ·subst ey
  obtain ⟨z,hd,vs,rel,dd⟩:=Qjb I.hok e
  obtain ⟨w',hw,rw'⟩:=RelO.some_of (v:=v) (o:=valueAt vs k) (by rw [l];exact rel.val k)
  exact wpAny_getItem_of (Qkw ry) dd.mapOf hw (h w' _ (I.tok _) rw')
 ·subst ey
  cases (show u=Value.ref b from ry)
  obtain ⟨z,hd,xs,rel,dd⟩:=Qlj I.hok e
  obtain ⟨w',hw,rw'⟩:=RelO.some_of (v:=v) (o:=(atKey xs k).map (·.2)) (by rw [l];exact rel.val k)
  obtain ⟨p,hp,hp2⟩:=Option.map_eq_some_iff.mp hw
  refine wpAny_getItem_heap (tupleKind_room_in1 hu) (Qhy I.hok eb) dd hp ?_
  rw [hp2]
  exact h w' _ (I.tok _) rw'
theorem Qg3 {h':Heap} {t':Nat} {ob:HO} (I:Inv X pins σ H s) (mu:Mut (H a)) (hs:Heap.SameBut a s.heap h') (he:∃q,h'.get? a=some q) (new:J2 X.prog X.w (upd H a ob) h' a ob) :
  Inv X pins σ (upd H a ob) { s with heap:=h',toks:=t' } :=
 I.write (x:=a) (e:=a) mu (.inl rfl) (λb q hb z=>(hs.2 b hb).trans z) he new
theorem Qow {P:Program} {w:World} {H':Hp} {h':Heap} {kvs:List (Key × V)} {vs:List (Key × Value)} (z:kvs.length<=sizeLine) (hd:(a == sysModules)=false) (rel:KV kvs vs) (dd:h'.DictOf (Jg P w) a vs) :
  J2 P w H' h' a (.dK kvs):=⟨z,hd,vs,rel,dd⟩
theorem Qlp {H':Hp} {Q:Unit->Shared->Prop} (hu:A.units+1<cLine) (I:Inv X pins σ H s) (g:DPut H a y v H') (ry:RelV y u) (rv:RelV v r) (h:∀s',Inv X pins σ H' s'->Q () s') :
  wpAny (model X.prog X.w) A (setItem (.ref a) u r) Q E s:=by
 rcases g with ⟨kvs,k,e,ey,l,eH⟩ | ⟨kvs,k,b,e,ey,eb,l,eH⟩
 ·subst ey eH
  obtain ⟨z,hd,vs,rel,dd⟩:=Qnt I.hok e
  have hz:vs.length<=sizeLine:=by rw [← rel.length];exact z
  have hl:(putK kvs k v).length<=sizeLine:=by have:=Gp kvs k v;omega
  refine wpAny_setItem_pairs (hsz:=hz) (Qkw ry) dd λh' dd' hs=>h _ ?_
  have he:∃q,h'.get? a=some q:=let ⟨q,_,_,hq,_⟩:=dd';⟨q,hq⟩
  exact Qg3 I (by rw [e];exact True.intro) hs he (Qow hl hd (rel.put k rv) dd')
 ·subst ey eH
  cases (show u=Value.ref b from ry)
  obtain ⟨z,hd,xs,rel,dd⟩:=Qu4 I.hok e
  have hz:xs.length<=sizeLine:=by rw [← Paired.length rel];exact z
  have hl:(putK kvs k v).length<=sizeLine:=by have:=Gp kvs k v;omega
  refine wpAny_setItem_heap (hsz:=hz) (tupleKind_room_in1 hu) (Qhy I.hok eb) dd λh' dd' hs=>h _ ?_
  obtain ⟨q,es,ep,hq,h2,h3,h4,_,h5⟩:=dd'
  refine Qg3 I (by rw [e];exact True.intro) hs ⟨q,hq⟩ ⟨hl,hd,_,(rel.put k eb rv).keeps λc ys ec=>?_,q,es,ep,hq,h2,h3,h4,h5⟩
  rw [Qk (Quv ec e (λz=>nomatch z))]
  exact ec
end
section
variable {X:Cx} {pins:List (Addr × Obj)} {σ:St} {H:Hp} {s:Shared} {a:Addr} {kvs:List (Key × V)} {k:Key} {u:Value} {A:Around} {E:Value->Shared->Prop}
theorem Qu5 {Q:Value->Shared->Prop} (I:Inv X pins σ H s) (e:Rd H a (.dK kvs)) (h:∀t s',Inv X pins σ H s'->Q (.int kvs.length t) s'):wpAny (model X.prog X.w) A (call (.builtin "len") [.ref a]) Q E s:=by
 obtain ⟨z,hd,vs,rel,dd⟩:=Qjb I.hok e
 refine call_len_dict hd dd (by rw [← rel.length];rw [sizeLine_eq] at z;omega) ?_
 rw [← rel.length]
 exact h _ _ (I.tok _)
end
theorem Qg2 {X:Cx} {pins:List (Addr × Obj)} {σ:St} {H:Hp} {s:Shared} {a:Addr} {y:V} {o:Option V} (I:Inv X pins σ H s) (g:DGet H a y o):s.TypeIs (.ref a) "dict":=by
 rcases g with ⟨kvs,k,e,_,_⟩ | ⟨kvs,k,b,e,_,_,_⟩
 ·obtain ⟨_,_,vs,_,dd⟩:=Qjb I.hok e
  exact dd.typeIs
 ·obtain ⟨_,_,xs,_,dd⟩:=Qlj I.hok e
  exact dd.typeIs
section
variable {X:Cx} {o i e value:Expr} {pos pos' tpos:Pos} {td ty tv:TE}
end
theorem Qib {P:Program} {w:World} {H:Hp} (h:Heap) (hb:sysModules<h.objs.size):J2 P w H (h.push { cls:=.type "dict",data:=.dict #[] }) h.objs.size (.dK []) :=
 ⟨Nat.zero_le _,beq_eq_false_iff_ne.mpr (Ne.symm (Nat.ne_of_lt hb)),[],.nil,Heap.DictOf.new h⟩
def Qrq:TE:=λ_ H Q=>∀p,H p=none->Q (.ref p) (upd H p (.dK []))
section
variable {X:Cx} {pos:Pos}
theorem Qm4:PE X (.Dict [] [] pos) Qrq:=λpins s σ H Q I h =>
 wpAny_Dict_empty ⟨.ref s.heap.objs.size,_,I.laid (a:=s.heap.objs.size) (o:=.dK []) (t':=s.toks) (λ_ _ q=>Heap.get?_push_of_some _ q) (Nat.le_refl _) (Qib s.heap I.big),rfl,h _ (I.hok.fresh (Nat.le_refl _))⟩
end
structure M2 (X:Cx) (o:Expr) (m:Str) (apos:Pos) (e f:Expr) (cpos:Pos):Prop where
 base:attributeBase o m X.env (eval o X.env)=eval o X.env
 few:((backTo cpos (starEach [e,f] X.env)).all (λx=>!x.1) && (backToKw cpos (keywordEach [] X.env)).all (λx=>x.1.isSome)
  && decide (([e,f]:List Expr).length+([]:List Keyword).length+(if ([]:List Keyword).isEmpty then 0 else 1)<30))=true
 line:(apos.endLine == cpos.line)=true
 trees:backTo cpos (starEach [e,f] X.env)=[(false,eval e X.env),(false,eval f X.env)]
def IsD (H:Hp) (a:Addr):Prop:=(∃kvs,Rd H a (.dK kvs))\/∃kvs,Rd H a (.dT kvs)
theorem Qta {X:Cx} {pins:List (Addr × Obj)} {σ:St} {H:Hp} {s:Shared} {a:Addr} (I:Inv X pins σ H s) (d:IsD H a) :
  s.TypeIs (.ref a) "dict" /\ (∀b,Value.ref a=.ref b->∃ob,s.heap.get? b=some ob/\ob.dict=none)/\(a == sysModules)=false:=by
 rcases d with ⟨kvs,e⟩ | ⟨kvs,e⟩
 ·obtain ⟨_,hd,vs,_,dd⟩:=Qjb I.hok e
  refine ⟨dd.typeIs,λb q=>?_,hd⟩
  cases q
  obtain ⟨ob,_,_,h1,h2,_⟩:=dd
  exact ⟨ob,h1,h2.2.1⟩
 ·obtain ⟨_,hd,xs,_,dd⟩:=Qlj I.hok e
  refine ⟨dd.typeIs,λb q=>?_,hd⟩
  cases q
  obtain ⟨ob,_,_,h1,h2,_⟩:=dd
  exact ⟨ob,h1,h2.2.1⟩
section
variable {X:Cx} {pins:List (Addr × Obj)} {σ:St} {H:Hp} {s:Shared} {a:Addr} {y d:V} {u r:Value} {o:Option V} {A:Around} {E:Value->Shared->Prop}
theorem Qtl {Q:Value->Shared->Prop} (hu:A.units+1<cLine) (I:Inv X pins σ H s) (g:DGet H a y o) (ry:RelV y u) (rd:RelV d r) (h:∀w' s',Inv X pins σ H s'->RelV (o.getD d) w'->Q w' s') :
  wpAny (model X.prog X.w) A (call (.builtin "dict.get") [.ref a,u,r]) Q E s:=by
 rcases g with ⟨kvs,k,e,ey,l⟩ | ⟨kvs,k,b,e,ey,eb,l⟩
 ·subst ey
  obtain ⟨z,hd,vs,rel,dd⟩:=Qjb I.hok e
  refine call_meetsIn PySem.F.slot_dict_get dd.typeIs PySem.F.entry_dict_get (PySem.F.args_dict_get_3 _ _ _) (meets_dict_get_default (Jg X.prog X.w) a (Qkw ry) hd r) ⟨_,dd.mapOf,h _ _ (I.tok _) ?_⟩
  rw [l]
  exact (rel.val k).getD rd
 ·subst ey
  cases (show u=Value.ref b from ry)
  obtain ⟨z,hd,xs,rel,dd⟩:=Qlj I.hok e
  refine call_meetsIn PySem.F.slot_dict_get dd.typeIs PySem.F.entry_dict_get (PySem.F.args_dict_get_3 _ _ _) (meetsH_dict_get_default (tupleKind (Jg X.prog X.w)) a b hd r) ⟨tupleKind_room_in1 hu,k,xs,Qhy I.hok eb,dd,h _ _ (I.tok _) ?_⟩
  rw [l]
  exact (rel.val k).getD rd
end
def Qrr (td ty tx:TE):TE:=λσ H Q=>td σ H λx H1=>∃a,x=.ref a/\IsD H1 a/\ty σ H1 λy H2=>tx σ H2 λz H3=>∃o,DGet H3 a y o/\Q (o.getD z) H3
section
variable {X:Cx} {o e f:Expr} {apos cpos:Pos} {td ty tx:TE}
theorem Qm6 (hu:X.A.units+1<cLine) (ho:PE X o td) (he:PE X e ty) (hf:PE X f tx) (m:M2 X o "get" apos e f cpos):PE X (.Call (.Attribute o "get" apos) [e,f] [] cpos) (Qrr td ty tx):=by
 intro pins s σ H Q I h
 refine wpAny_Call_method m.base m.few m.line PySem.F.plainAttrs_dict PySem.F.slot_dict_get PySem.F.type_dict_get (thn (ho pins s σ H _ I h) λu s1 ⟨x,H1,I1,rx,a,ex,d,q1⟩=>?_)
 subst ex
 obtain rfl:u=Value.ref a:=rx
 obtain ⟨t1,t2,_⟩:=Qta I1 d
 refine ⟨t1,t2,?_⟩
 rw [m.trees]
 refine Calls.callWith_builtin rfl (Calls.evalArgs_plain (Calls.spliced_cons (thn (he pins s1 σ H1 _ I1 q1) λiv s2 ⟨y,H2,I2,ry,q2⟩ =>
  Calls.spliced_cons (thn (hf pins s2 σ H2 _ I2 q2) λfv s3 ⟨z,H3,I3,rz,ov,g,q3⟩=>Calls.spliced_nil ?_))))
 exact Qtl hu I3 g ry rz λw' s4 I4 rw'=>⟨_,H3,I4,rw',q3⟩
end
section
variable {X:Cx} {pins:List (Addr × Obj)} {σ:St} {H:Hp} {s:Shared} {a:Addr} {kvs:List (Key × V)} {A:Around} {E:Value->Shared->Prop}
end
section
variable {X:Cx} {pins:List (Addr × Obj)} {σ:St} {H:Hp} {s:Shared} {a:Addr} {y:V} {u:Value} {A:Around} {E:Value->Shared->Prop}
end
end L2
namespace Att
open PySem PySem.W PySem.Calls PyProof.Rows
theorem Qb2 {P:Params} {h:Heap}:∀(ns:List Int) (vs:List Value),WellAll P h vs (ns.map WData.int)->IntsAre vs ns:=by
 intro ns
 induction ns with
 | nil =>
  intro vs w
  rw [List.map_nil] at w
  cases w
  exact .nil
 | cons n ns ih =>
  intro vs w
  rw [List.map_cons] at w
  cases w with
  | cons a b =>
   cases a
   exact .cons _ _ (ih _ b)
theorem Qj1 {l:OpenLaw} {n:Nat} (hn:l.most=some n) {P:Params} {h:Heap} {args:List WData} {vals:List Value}
  (hpre:l.row.toRowW.claim.pre args=true) (hwl:WellAll P h vals args) :
  ∃a vs ns,vals=[Value.ref a]/\args=[WData.list (ns.map WData.int)]/\h.get? a=some { cls:=.type "list",data:=.seq vs.toArray }/\IntsAre vs ns/\ns.length<=n:=by
 have hsh:WShape.hasAll [] args [.list .int]=true:=(pre_splitW hpre).1
 have hc:l.pre.holds [] { args:=args }=true:=(pre_splitW hpre).2
 obtain ⟨d,r,rfl,h1,h2⟩:=hasAllW_cons hsh
 obtain rfl:=hasAllW_nil h2
 obtain ⟨xs,rfl,h3⟩:=hasW_list h1
 obtain ⟨ns,rfl⟩:=items_int h3
 have hlen:ns.length<=n:=by
  unfold OpenLaw.pre at hc
  have h4:(WTm.not (.lt (.lit (.int (n:Int))) (.len (.arg 0)))).holds [] { args:=[.list (ns.map .int)] }=true:=by
   have h4:=(holds_andW hc).1
   rw [hn] at h4
   exact h4
  have h5:=condW_of h4 (w_not (w_lt w_lit (w_len_list (w_arg rfl))))
  rw [List.length_map] at h5
  refine Nat.le_of_not_lt λq=>?_
  have q':(n:Int)<((ns.length:Nat):Int):=by omega
  first
   | (rw [decide_eq_true q'] at h5;exact absurd h5 (by decide))
   | (simp at h5;omega)
 cases hwl with
 | cons w1 w2 =>
  cases w2
  cases w1 with
  | list ho hall=>exact ⟨_,_,ns,rfl,rfl,ho,Qb2 ns _ hall,hlen⟩
theorem Qj9 (l:OpenLaw) (args:List WData):l.row.toRowW.claim.post args (.bool true) args=true :=
 postW_of (r:=l.row.toRowW) (X:=(true == true))
  (show WShape.has [] (.bool true) .bool=true by first | rfl | decide | simp [WShape.has,WShape.arms,WShape.armsAll])
  (show (WTm.eq .res (.lit (.bool true))).value [] { args:=args,res:=some (.bool true),after:=args }=some (.bool (true == true)) from w_eq_bool (w_res rfl) w_lit) rfl
theorem Qha {l:OpenLaw} {n:Nat} {q:Program} {loose:List Str} {XP:(Str->Option Value)->Heap->Prop} {YP:World->Heap->Prop} {d:DefRec}
  (hn:l.most=some n) (hdf:d.params.defaults=[])
  (call:∀(w:World) (s₀ s₁:Shared) (mg mb:Str->Option Value) (fa:Addr) (o:Obj) (pm cd doc:Value) (a:Addr) (vs:List Value) (ns:List Int),
   Ground q loose [] XP w s₀ mg mb s₁.heap->YP w s₁.heap ->
   s₁.heap.get? fa=some o->o.data=.func (docDef d.name d.params d.body d.scope pm cd doc)->s₁.heap.CodeRec cd d.name->mg d.name=some (.ref fa) ->
   s₁.heap.get? a=some { cls:=.type "list",data:=.seq vs.toArray }->IntsAre vs ns->ns.length<=n->s₁.gens = #[] ->
   codeAny (model l.prog w) callerA (.call (.ref fa) ⟨[.ref a],[]⟩) (λr s'=>r=.ok (.ret (.bool true))/\OldK s₁.heap s'.heap/\s'.os=s₁.os/\AllBare s'.gens) s₁) :
  WalkO q loose XP YP l.row.toRowW d [] (λf vs=>PySem.call f vs):=by
 intro w s₀ s₁ mg mb G Y fa o pm cd doc dV kV ho hd hcd hD hmg hg args vals as hpre hlay hrd hwl hlo
 obtain rfl:dV=.none:=Dflts.none hD hdf
 obtain rfl:kV=.none:=Dflts.noKw hD
 obtain ⟨a,vs,ns,rfl,rfl,hobj,hints,hlen⟩:=Qj1 hn hpre hwl
 refine enter_call (codeAny_mono (call w s₀ s₁ mg mb fa o pm cd doc a vs ns G Y ho (fd_plain hd) hcd hmg hobj hints hlen hg) λr s' hq=>?_)
 obtain ⟨rfl,h2,h3,h4⟩:=hq
 exact ⟨.inl ⟨.bool true,.bool true,[],rfl,λ_=>rfl,.bool true,Qj9 l _,λ_=>⟨List.Pairwise.nil,λ_ hm=>(nomatch hm)⟩⟩,h2,h3,h4⟩
section
variable {prog:Program} {w:World} {A:Around} {E:Value->Shared->Prop} {s:Shared} {K:Frag}
end
end Att
namespace L2
open PySem PySem.Spec PyProof.Rows
theorem Qec:∀{vs:List Value} {ns:List Int},IntsAre vs ns->Vals (ns.map V.int) vs
 | _,_,.nil=>.nil
 | _,_,.cons n t h=>.cons ⟨t,rfl⟩ (Qec h)
def Only (H:Hp):Prop:=∀b,H b=none\/∃o xs,H b=some (.frz o (.lst xs))
theorem Qnc {P:Program} {w:World} {K:PySem.W.Frag} {mg mb:Str->Option Value} {CX:CXT} {k:Nat} {fa a:Addr} {fd:FuncData} {x:Str} {sp:Sp} {s₁:Shared} {vs:List Value} {ns:List Int}
  (KX:K.In s₁.heap) (hns:s₁.heap.Ns mainGlobals mg) (hb:s₁.heap.Ns builtinsNs mb) (hbb:∀x:Str,x ≠ "__name__" -> mb x=bootBuiltins x) (hlim:s₁.heap.NoLimit) (hg:s₁.gens = #[])
  (ha:s₁.heap.get? a=some { cls:=.type "list",data:=.seq vs.toArray }) (hi:IntsAre vs ns) (hl:ns.length<=sizeLine) (hr:Room k callerA)
  (F:∀base:Heap,K.In base->base.Ns mainGlobals mg->FnOk P w K mg base CX k fa fd [x] sp) (hbind:∀(s:Shared) (u:Value),BindsTo s fd ⟨[u],[]⟩ [(x,u)])
  (hsp:∀H:Hp,Only H->SqL K H a (ns.map V.int)->sp [.ref a] H (λv _=>v=.bl true) λ_ _ _=>False)
  (hCX:∀H e s',CX [] H s₁ (λ_ _ _=>False) e s'->False) :
  codeAny (model P w) callerA (.call (.ref fa) ⟨[.ref a],[]⟩) (λr s'=>r=.ok (.ret (.bool true))/\OldK s₁.heap s'.heap/\s'.os=s₁.os/\AllBare s'.gens) s₁:=by
 have rv:=Qec hi
 have lenV:=hi.length
 -- from an abstract heap in which nothing but the script may be tracked
 have core:∀H:Hp,Only H->SqL K H a (ns.map V.int)->HOk P w H s₁.heap->(∀b,H b≠none->b=a)->(H a≠none->K.lookup a=none) ->
   codeAny (model P w) callerA (.call (.ref fa) ⟨[.ref a],[]⟩) (λr s'=>r=.ok (.ret (.bool true))/\OldK s₁.heap s'.heap/\s'.os=s₁.os/\AllBare s'.gens) s₁:=by
  intro H hO hS hok hA hK
  have base_of:∀{b:Addr} {o:Obj},s₁.heap.get? b=some o->H b=none->(hidT s₁.heap H).get? b=some o:=λe n=>Qnj e n
  have noA:∀{b:Addr} {o:Obj} {es:Array DictEntry} {ep:Nat},s₁.heap.get? b=some o->o.data=.dict es ep->H b=none:=λ{b o es ep} e d=>by
   cases q:H b with
   | none=>rfl
   | some u =>
    have e':b=a:=hA b (by rw [q];simp)
    subst e'
    rw [ha] at e;cases e
    have d':Data.seq vs.toArray _=Data.dict es ep:=d
    cases d'
  have nsK:∀{b:Addr} {m:Str->Option Value},s₁.heap.Ns b m->(hidT s₁.heap H).Ns b m:=λ{b m} ⟨o,es,ep,e,d,r⟩=>⟨o,es,ep,base_of e (noA e d),d,r⟩
  have hKb:K.In (hidT s₁.heap H):=λb o e=>base_of (KX b o e) (by
   cases q:H b with
   | none=>rfl
   | some u =>
    have e':b=a:=hA b (by rw [q];simp)
    subst e'
    rw [hK (by rw [q];simp)] at e;cases e)
  have hM:Mod K mg (hidT s₁.heap H):=⟨hKb,nsK hns,⟨mb,nsK hb,hbb⟩,let ⟨mc,h1,h2⟩:=hlim;⟨mc,nsK h1,h2⟩⟩
  have e0:Env0 P w K mg (hidT s₁.heap H) callerA [] s₁ H:=⟨rfl,hM,λb o e=>Qqk e,Nat.le_of_eq (Qk0 _ _),trivial,λb hb=>absurd (show b∈([]:List Addr) from hb) (by simp),hok,.of_eq hg⟩
  refine codeAny_mono ((F _ hKb (nsK hns)).run callerA [] s₁ H ⟨[.ref a],[]⟩ [.ref a] [.ref a] _ _ hr e0 (hbind s₁ (.ref a)) (.cons rfl .nil) (hsp H hO hS)) λr s' h=>?_
  cases r with
  | error e=>exact (hCX H e s' h).elim
  | ok fl =>
   cases fl with
   | next=>exact False.elim h
   | brk=>exact False.elim h
   | cont=>exact False.elim h
   | ret u =>
    obtain ⟨v,H',os,bare,un,hok',r',q⟩:=h
    have q':v=.bl true:=q
    subst q'
    obtain rfl:u=Value.bool true:=r'
    refine ⟨rfl,OldK.of_keep λb o e=>?_,os,bare⟩
    cases q:H b with
    | none=>exact un.keep b o e q (by intro z;exact absurd (show b∈([]:List Addr) from z) (by simp)) (by simp)
    | some u =>
     rcases hO b with z | ⟨ob,xs,z⟩
     ·rw [q] at z;cases z
     ·have z2:=un.frzs b ob _ z
      obtain ⟨e1,_⟩:=hok b _ z
      obtain ⟨e2,_⟩:=hok' b _ z2
      rw [e] at e1;cases e1
      exact e2
 cases hk:K.lookup a with
 | some o =>
  -- the script is one of the module's own objects
  have e:=KX a o hk
  rw [ha] at e
  cases e
  refine core (λ_=>none) (λ_=>.inl rfl) (.inr ⟨_,vs.toArray,_,hk,rfl,rfl,rfl,by rw [List.size_toArray,lenV];exact hl,by simpa using rv⟩) (λb u z=>by have z':(none:Option HO)=some u:=z;cases z') (λb z=>absurd rfl z) λz=>absurd rfl z
 | none =>
  refine core (λb=>if b=a then some (.frz { cls:=.type "list",data:=.seq vs.toArray } (.lst (ns.map V.int))) else none) (λb=>?_) (.inl (.inr ⟨{ cls:=.type "list",data:=.seq vs.toArray },if_pos rfl⟩)) (λb u z=>?_) (λb z=>?_) λ_=>hk
  ·by_cases hb:b=a
   ·exact .inr ⟨_,_,if_pos hb⟩
   ·exact .inl (if_neg hb)
  ·by_cases hb:b=a
   ·have z':=(if_pos hb).symm.trans z
    cases z'
    subst hb
    exact ⟨ha,by rw [List.length_map];exact hl,vs,_,rv,ha⟩
   ·have z':=(if_neg hb).symm.trans z
    cases z'
  ·by_cases hb:b=a
   ·exact hb
   ·exact absurd (if_neg hb) z
end L2
namespace L2
open PySem PySem.Spec PyProof.Rows
theorem Qo7 {l:PySem.W.OpenLaw} {n k:Nat} {q:Program} {loose:List Str} {XP:(Str->Option Value)->Heap->Prop} {YP:World->Heap->Prop} {d:DefRec} {K:Params->PySem.W.Frag} {CX:World->CXT} {sp:World->Sp} {x:Str}
  (hn:l.most=some n) (hn2:n<=sizeLine) (hdf:d.params.defaults=[]) (hr:Room k callerA)
  (hY:∀(w:World) (h:Heap),YP w h->(K w.params).In h)
  (F:∀(w:World) (mg:Str->Option Value) (fa:Addr) (h:Heap),(K w.params).In h->h.Ns mainGlobals mg->mg d.name=some (.ref fa) ->
   ∃fd:FuncData,(∀(s:Shared) (u:Value),BindsTo s fd ⟨[u],[]⟩ [(x,u)]) /\
    ∀base:Heap,(K w.params).In base->base.Ns mainGlobals mg->FnOk l.prog w (K w.params) mg base (CX w) k fa fd [x] (sp w))
  (hsp:∀(w:World) (H:Hp) (a:Addr) (ns:List Int),ns.length<=n->Only H->SqL (K w.params) H a (ns.map V.int)->sp w [.ref a] H (λv _=>v=.bl true) λ_ _ _=>False)
  (hCX:∀(w:World) (H:Hp) (s:Shared) (e:Value) (s':Shared),CX w [] H s (λ_ _ _=>False) e s'->False) :
  PySem.W.WalkO q loose XP YP l.row.toRowW d [] (λf vs=>PySem.call f vs):=by
 refine Att.Qha hn hdf λw s₀ s₁ mg mb fa o pm cd doc a vs ns G Y ho hd hcd hmg hobj hints hlen hg=>?_
 have KX:=hY w _ Y
 obtain ⟨fd,hb,hF⟩:=F w mg fa _ KX G.T.g hmg
 exact Qnc KX G.T.g G.T.b G.T.builtins G.T.nolimit hg hobj hints (Nat.le_trans hlen hn2) hr hF hb (λH hO hS=>hsp w H a ns hlen hO hS) λH e s'=>hCX w H s₁ e s'
end L2
namespace L2
open PySem PySem.Spec PyProof.Rows
def Jh (s:Stmt):Arguments:=match s with
 | .FunctionDef _ a _ _ _ _ _ _ _ _=>a
 | _=>{ posonlyargs:=[],args:=[],vararg:=none,kwonlyargs:=[],kw_defaults:=[],kwarg:=none,defaults:=[] }
def Qn (s:Stmt):List Stmt:=match s with
 | .FunctionDef _ _ b _ _ _ _ _ _ _=>b
 | _=>[]
def Qb (s:Stmt):Scope:=match s with
 | .FunctionDef _ _ _ _ _ _ sc _ _ _=>sc
 | _=>{ kind:=.function,names:=[],isGenerator:=false,isCoroutine:=false }
abbrev CX0:CXT:=λ_ _ _ _ _ _=>False
abbrev E0:XK:=λ_ _ _=>False
theorem Qqe {X:Cx}:Qme CX0 X E0:=λ_ _ _ _ _ _ _ h=>h.elim
structure Fun (K:PySem.W.Frag) (x qual:Str) (st:Stmt) (f:Addr) (fd:FuncData):Prop where
 ex:∃(oc:Value) (od:Option Addr) (kV doc pm:Value) (an:Option Addr) (cdv ct:Value) (osl:Array (Option Value)),
  fd=PySem.W.fnOf x qual (Jh st) (Qn st) (Qb st) .none kV doc pm an cdv ct/\K.lookup f=some ⟨oc,od,.func fd,osl⟩/\PySem.W.codeIn K cdv qual=true
 kp:PySem.W.keepIn K (.ref f)=true
section
variable {P:Program} {w:World} {K:PySem.W.Frag} {mg:Str->Option Value} {base:Heap}
theorem Fun.ok {x qual:Str} {st:Stmt} {f:Addr} {fd:FuncData} {N ps:List Str} {k:Nat} {sp:Sp} (F:Fun K x qual st f fd) (S:FnScope N ps (Qb st)) (len:∀vs H Q E,sp vs H Q E->vs.length=ps.length)
  (hbody:∀(cdv:Value) (A:Around) (outer:List Env) (s:Shared) (H:Hp) (vs:List V) (Q:VK) (E:XK),Room k (A.deeper (envOfC qual (Qb st) s.heap.objs.size f cdv))->sp vs H Q E ->
   ∃t,PSs (cxOf CX0 P w K mg base N qual (Qb st) f cdv A outer s H E).nox (Qn st) t/\t { nx:=λ_ H'=>Q .non H',rt:=Q } (start N vs) H):FnOk P w K mg base CX0 (k+1) f fd ps sp:=by
 obtain ⟨oc,od,kV,doc,pm,an,cdv,ct,osl,rfl,lk,hcd⟩:=F.ex
 refine Qq1 lk hcd S len λA outer s H vs Q E hr hsp=>?_
 obtain ⟨t,h,q⟩:=hbody cdv A outer s H vs Q E hr hsp
 exact ⟨t,h.nox,q⟩
theorem Fun.binds {x qual:Str} {st:Stmt} {f:Addr} {fd:FuncData} {ps:List Str} (F:Fun K x qual st f fd)
  (h:∀(kV doc pm:Value) (an:Option Addr) (cdv ct:Value) (us:List Value),us.length=ps.length->bindArgs (PySem.W.fnOf x qual (Jh st) (Qn st) (Qb st) .none kV doc pm an cdv ct) ⟨us,[]⟩=pure (ps.zip us)):Gw K fd ps []:=by
 obtain ⟨oc,od,kV,doc,pm,an,cdv,ct,osl,rfl,lk,hcd⟩:=F.ex
 exact .all (h kV doc pm an cdv ct)
theorem Yq {x qual:Str} {st:Stmt} {f:Addr} {oc:Value} {od an:Option Addr} {osl:Array (Option Value)} {kV doc pm cdv ct:Value} (l:K.lookup f=some ⟨oc,od,.func (PySem.W.fnOf x qual (Jh st) (Qn st) (Qb st) .none kV doc pm an cdv ct),osl⟩)
  (c:PySem.W.codeIn K cdv qual=true) (k:PySem.W.keepIn K (.ref f)=true):Fun K x qual st f (PySem.W.fnOf x qual (Jh st) (Qn st) (Qb st) .none kV doc pm an cdv ct):=⟨⟨oc,od,kV,doc,pm,an,cdv,ct,osl,rfl,l,c⟩,k⟩
end
theorem Qw {A:Around} {k:Nat} (hr:Room k A):A.units+1<cLine:=Nat.lt_of_le_of_lt (Nat.add_le_add_left (by decide:1<=64) _) hr.units
section
variable {X:Cx}
theorem pv (i:Nat) {x:Str} {pos:Pos} (hN:X.N[i]? = some x:=by rfl) (hv:Vis X.env.scope x:=by first | exact Or.inl rfl | exact Or.inr (Or.inl rfl) | exact Or.inr (Or.inr rfl)) (hd:(x == ("__debug__" : Str))=false:=by decide)
  (hcd:(x == ("__classdict__" : Str))=false:=by decide):PE X (.Name x pos) (tVar i):=Ua hN hv hd hcd
theorem Ql3:Z5 X (.builtin "len") (λxs H Q=>∃a kvs,xs=[V.ref a]/\H a=some (.dK kvs)/\Q (.int kvs.length) H):=by
 intro pins s σ H xs us Q I r h
 obtain ⟨a,kvs,rfl,ha,q⟩:=h
 obtain ⟨u,rfl,ru⟩:=Qae r
 cases ru
 exact Qu5 I (.inl ha) λt s' I'=>⟨.int kvs.length,H,I',⟨t,rfl⟩,q⟩
end
def Same (H H':Hp):Prop:=∀b o,H b=some o->H' b=some o
theorem Same.refl (H:Hp):Same H H:=λ_ _ h=>h
theorem Same.trans {H H1 H2:Hp} (a:Same H H1) (b:Same H1 H2):Same H H2:=λc o h=>b c o (a c o h)
theorem Same.free {H H':Hp} (e:Same H H') {l:Addr} (h:H' l=Option.none):H l=Option.none:=by
 cases q:H l with
 | none=>rfl
 | some o =>
  rw [e l o q] at h
  cases h
section
variable {κ:Type} [DecidableEq κ]
end
end L2
set_option maxHeartbeats 4000000
namespace L2
open PySem PySem.Spec PyProof.Rows
theorem Gu {env:Env}:∀(names:List (Str × NameKind)) (acc:List (Str × Addr)),
  (∀x∈names,x.2=.free->∃c,env.cells.lookup x.1=some c)->(∀y c,acc.lookup y=some c->env.cells.lookup y=some c) ->
  ∃cl:List (Str × Addr),(forIn names acc (λ(x:Str × NameKind) (cs:List (Str × Addr)) =>
    if (x.2 == NameKind.free)=true then do
     let c ← cellOf env x.1
     pure (ForInStep.yield ((x.1,c)::cs))
    else pure (ForInStep.yield cs)):Sem (List (Str × Addr)))=pure cl /\
   (∀y c,cl.lookup y=some c->env.cells.lookup y=some c)/\(∀y,(acc.lookup y).isSome=true->(cl.lookup y).isSome=true) /\
   ∀x∈names,x.2=.free->(cl.lookup x.1).isSome=true
 | [],acc,_,ha=>⟨acc,by rw [List.forIn_nil],ha,λ_ h=>h,λ_ h=>nomatch h⟩
 | (n,k)::r,acc,hn,ha=>by
  rw [List.forIn_cons]
  by_cases hk:k=.free
  ·subst hk
   obtain ⟨c,hc⟩:=hn (n,.free) List.mem_cons_self rfl
   have hc':env.cells.lookup n=some c:=hc
   obtain ⟨cl,e,h1,h2,h3⟩:=Gu r ((n,c)::acc) (λx hx=>hn x (List.mem_cons_of_mem _ hx)) (λy c' h=>by
    rw [List.lookup_cons] at h
    cases q:y == n with
    | true=>rw [q] at h;cases h;rw [beq_iff_eq.mp q];exact hc'
    | false=>rw [q] at h;exact ha y c' h)
   refine ⟨cl,?_,h1,λy hy=>h2 y ?_,λx hx hf=>?_⟩
   ·have e0:cellOf env n=pure c:=by unfold cellOf;rw [hc']
    show ((if ((NameKind.free == NameKind.free)=true) then (cellOf env n >>= λc=>pure (ForInStep.yield ((n,c)::acc))) else pure (ForInStep.yield acc)) >>= _)=_
    rw [if_pos (by decide),e0]
    exact e
   ·rw [List.lookup_cons]
    cases q:y == n with
    | true=>rfl
    | false=>exact hy
   ·rcases List.mem_cons.mp hx with rfl | hx
    ·exact h2 n (by simp [List.lookup_cons])
    ·exact h3 x hx hf
  ·obtain ⟨cl,e,h1,h2,h3⟩:=Gu r acc (λx hx=>hn x (List.mem_cons_of_mem _ hx)) ha
   refine ⟨cl,?_,h1,h2,λx hx hf=>?_⟩
   ·show ((if ((k == NameKind.free)=true) then (cellOf env n >>= λc=>pure (ForInStep.yield ((n,c)::acc))) else pure (ForInStep.yield acc)) >>= _)=_
    rw [if_neg (by simpa using hk)]
    exact e
   ·rcases List.mem_cons.mp hx with rfl | hx
    ·exact absurd hf hk
    ·exact h3 x hx hf
theorem Gv {env:Env} {scope:Scope} (h:∀x∈scope.names,x.2=.free->∃c,env.cells.lookup x.1=some c) :
  ∃cl,closureFor scope env=pure cl/\(∀y c,cl.lookup y=some c->env.cells.lookup y=some c)/\∀x∈scope.names,x.2=.free->∃c,cl.lookup x.1=some c:=by
 obtain ⟨cl,e,h1,_,h3⟩:=Gu scope.names [] h (λy c q=>by simp at q)
 refine ⟨cl,?_,h1,λx hx hf=>Option.isSome_iff_exists.mp (h3 x hx hf)⟩
 simp only [closureFor]
 show (forIn scope.names [] _ >>= λr=>pure r)=_
 rw [e]
 rfl
theorem Yk {env:Env} {x:Str}:∀{names:List (Str × NameKind)},names.lookup x=some .free ->
  (names.map λ(n,k)=>if (k == NameKind.free && env.scope.kind == .function && env.kindOf n == some .cell) then (n,NameKind.cell) else (n,k)).lookup x=some .cell \/
  (names.map λ(n,k)=>if (k == NameKind.free && env.scope.kind == .function && env.kindOf n == some .cell) then (n,NameKind.cell) else (n,k)).lookup x=some .free
 | [],h=>by simp at h
 | (n,k)::r,h=>by
  have ih:=@Yk env x r
  show List.lookup x ((if (k == NameKind.free && env.scope.kind == .function && env.kindOf n == some .cell)=true then (n,NameKind.cell) else (n,k))::_)=_\/List.lookup x ((if (k == NameKind.free && env.scope.kind == .function && env.kindOf n == some .cell)=true then (n,NameKind.cell) else (n,k))::_)=_
  cases hx:x == n with
  | true =>
   simp only [List.lookup_cons,hx] at h
   cases h
   by_cases hc:(NameKind.free == NameKind.free && env.scope.kind == .function && env.kindOf n == some .cell)=true
   ·rw [if_pos hc];left;simp only [List.lookup_cons,hx]
   ·rw [if_neg hc];right;simp only [List.lookup_cons,hx]
  | false =>
   simp only [List.lookup_cons,hx] at h
   by_cases hc:(k == NameKind.free && env.scope.kind == .function && env.kindOf n == some .cell)=true
   ·rw [if_pos hc];simp only [List.lookup_cons,hx];exact ih h
   ·rw [if_neg hc];simp only [List.lookup_cons,hx];exact ih h
theorem Z0 {env:Env} {x:Str} {q:NameKind}:∀{names:List (Str × NameKind)},(∀y∈names,y.2 ≠ .cell)->q=.cell\/q=.free ->
  (names.map λ(n,k)=>if (k == NameKind.free && env.scope.kind == .function && env.kindOf n == some .cell) then (n,NameKind.cell) else (n,k)).lookup x=some q->(x,NameKind.free)∈names
 | [],_,_,h=>by simp at h
 | (n,k)::r,hn,hq,h=>by
  have h:List.lookup x ((if (k == NameKind.free && env.scope.kind == .function && env.kindOf n == some .cell)=true then (n,NameKind.cell) else (n,k))::(r.map λ(n,k)=>if (k == NameKind.free && env.scope.kind == .function && env.kindOf n == some .cell) then (n,NameKind.cell) else (n,k)))=some q:=h
  by_cases hc:(k == NameKind.free && env.scope.kind == .function && env.kindOf n == some .cell)=true
  ·rw [if_pos hc] at h
   cases hx:x == n with
   | true =>
    have hk:k=.free:=by
     cases k <;> first | rfl | (simp at hc)
    rw [beq_iff_eq.mp hx,hk]
    exact List.mem_cons_self
   | false =>
    simp only [List.lookup_cons,hx] at h
    exact List.mem_cons_of_mem _ (Z0 (λy hy=>hn y (List.mem_cons_of_mem _ hy)) hq h)
  ·rw [if_neg hc] at h
   cases hx:x == n with
   | true =>
    simp only [List.lookup_cons,hx] at h
    have hk:k=q:=Option.some.inj h
    have hk2:k=.free:=by
     rcases hq with rfl | rfl
     ·exact absurd hk (hn (n,k) List.mem_cons_self)
     ·exact hk
    rw [beq_iff_eq.mp hx,hk2]
    exact List.mem_cons_self
   | false =>
    simp only [List.lookup_cons,hx] at h
    exact List.mem_cons_of_mem _ (Z0 (λy hy=>hn y (List.mem_cons_of_mem _ hy)) hq h)
def Yz (X:Cx) (scope:Scope) (cl:List (Str × Addr)) (C:Addr) (N:List Str) (s₀:Shared) (H₀:Hp) (fp:List Addr):Cx :=
 { X with N:=N,s₀:=s₀,H₀:=H₀,env:=compEnvC scope cl C X.env,outer:=X.stack,stack:=X.stack,ex:=fp,fn:=λ_=>false,pn:=[],xe:=λ_ _=>False }
structure BlkScope (env:Env) (scope:Scope) (x:Str):Prop where
 kind:scope.kind=.function
 cells:∀y∈scope.names,y.2 ≠ .cell
 names:∀y∈scope.names,y.2=.local->scope.names.lookup y.1=some .local
 lx:scope.names.lookup x=some .local
 free:∀y∈scope.names,y.2=.free->env.kindOf y.1=some .cell\/env.kindOf y.1=some .free
def bN (N:List Str) (x:Str) (ix:List Nat):List Str:=x::ix.map λi=>N.getD i Str.empty
def bS (σ:St) (o:Option V) (ix:List Nat):St:=o::ix.map λi=>(σ[i]?).getD none
def PIfs (X:Cx) (ifs:List Expr) (tt:TT):Prop :=
 ∀(pins:List (Addr × Obj)) (s:Shared) (σ:St) (H:Hp) (Q:Bool->Hp->Prop),Inv X pins σ H s->tt σ H Q ->
  wpAny (model X.prog X.w) X.A (forIn ifs true λc r=>if r=true then do let ok ← isTrue c X.env (eval c X.env);pure (ForInStep.yield ok) else pure (ForInStep.yield r)) (TP X pins σ Q) X.xe s
def tAll:TT:=λ_ H Q=>Q true H
theorem Qmz {X:Cx}:PIfs X [] tAll:=by
 intro pins s σ H Q I h
 rw [List.forIn_nil]
 exact wpAny_pure ⟨H,I,h⟩
theorem Qmy {X:Cx} {c:Expr} {tt:TT} (h:PT X c tt):PIfs X [c] tt:=by
 intro pins s σ H Q I hw
 rw [List.forIn_cons]
 refine wpAny_bind ?_
 rw [if_pos rfl]
 refine wpAny_bind (thn (h pins s σ H _ I hw) λok s1 q=>wpAny_pure ?_)
 show wpAny _ _ (forIn [] ok _) _ _ s1
 rw [List.forIn_nil]
 exact wpAny_pure q
section
variable {X:Cx}
theorem Qo4 {pins:List (Addr × Obj)} {σ:St} {H:Hp} {s:Shared} {scope:Scope} {cl:List (Str × Addr)} {C:Addr} {N:List Str} {fp:List Addr} {x:Str} (I:Inv X pins σ H s) (B:BlkScope X.env scope x)
  (h1:∀y c,cl.lookup y=some c->X.env.cells.lookup y=some c) (h3:∀y∈scope.names,y.2=.free->∃c,cl.lookup y.1=some c) (hC:s.heap.objs.size<=C) (hf:∀b∈fp,FpOk X pins H b) (hl:∀b∈fp,b<s.heap.objs.size) :
  (Yz X scope cl C N s H fp).Ok where
 mod:=I.ok.mod
 kind:=by show (relabel scope X.env).kind=_;exact B.kind
 glob:=I.ok.glob
 blt:=I.ok.blt
 above:=hC
 inj:=λy z c q r=>I.ok.inj y z c (h1 y c q) (h1 z c r)
 has:=λy hy=>by
  have hy:(relabel scope X.env).names.lookup y=some .cell\/(relabel scope X.env).names.lookup y=some .free:=hy
  have m:(y,NameKind.free)∈scope.names:=by
   rcases hy with q | q
   ·exact Z0 B.cells (.inl rfl) q
   ·exact Z0 B.cells (.inr rfl) q
  exact h3 _ m rfl
 cab:=λy c q=>by cases (show false=true from q)
 hd:=I.ok.hd
 frames:=I.ok.frames
 stk:=.inl rfl
 exf:=λb hb=>⟨Nat.ne_of_lt (Nat.lt_of_lt_of_le (hl b hb) hC),λy c q=>(hf b hb).2.2.2.2.1 y c (h1 y c q)⟩
 bs:=I.bs
 bsz:=Nat.le_trans I.ok.bsz I.sz
 noex:=λb o e hb=>by
  rcases (hf b hb).2.2.2.1 with z | z
  ·exact I.ok.noex b o e z
  ·exact absurd (Nat.lt_of_lt_of_le (Heap.lt_size e) (Nat.le_trans I.ok.bsz z)) (Nat.lt_irrefl _)
 exfs:=λb hb z=>by
  have z':=I.stkSub b z
  rcases List.mem_cons.mp z' with q | q
  ·exact (hf b hb).2.1 q
  ·exact (hf b hb).2.2.1 q
 funs:=I.stack
 frf:=I.stkFree
theorem HOk.add {P:Program} {w:World} {H:Hp} {h:Heap} {a:Addr} {o:HO} (x:HOk P w H h) (hn:H a=none) (new:J2 P w (upd H a o) h a o):HOk P w (upd H a o) h:=λb u e=>by
 by_cases hb:b=a
 ·subst hb;rw [Qh] at e;cases e;exact new
 ·rw [Qk hb] at e
  exact (x b u e).stay (λc v _ q=>q) (λc q=>by rw [Qk (Jj q hn)];exact q) (λc xs q=>by rw [Qk (Jj q hn)];exact q) λc _ _ _ q _=>by rw [Qk (Jj q hn)];exact q
theorem Un.add {fs ex:List Addr} {H H':Hp} {h h':Heap} {a:Addr} {o:HO} (u:Un fs ex H H' h h') (hn:h.get? a=none) (hH:H a=none):Un fs ex H (upd H' a o) h h' where
 keep:=u.keep
 slot:=u.slot
 free:=λb ob e n hx=>by
  have:b≠a:=λz=>by rw [z,hn] at e;cases e
  rw [Qk this];exact u.free b ob e n hx
 there:=u.there
 tups:=λb xs e=>by rw [Qk (Jj e hH)];exact u.tups b xs e
 frzs:=λb ob w e=>by rw [Qk (Jj e hH)];exact u.frzs b ob w e
 tbls:=λb ps e=>by rw [Qk (Jj e hH)];exact u.tbls b ps e
end
end L2
namespace L2
open PySem PySem.Spec PyProof.Rows
section
variable {X:Cx}
theorem Qie {elt iter:Expr} {x:Str} {px pos:Pos} {scope:Scope} {te:TE} {tt:TT} {ifs:List Expr} {ix:List Nat} {pins:List (Addr × Obj)} {s:Shared} {σ:St} {H:Hp} {cl:List (Str × Addr)}
  {J:It} {fp:List Addr} {it:Addr} {tn:Nat->Heap->Prop} {E:Value->Shared->Prop} {RR:Value->Addr->Result->Shared->Prop} {G:List V->Hp->Prop}
  (I:Inv X pins σ H s) (hc:X.calm=true) (B:BlkScope X.env scope x) (h1:∀y c,cl.lookup y=some c->X.env.cells.lookup y=some c) (h3:∀y∈scope.names,y.2=.free->∃c,cl.lookup y.1=some c)
  (hix:∀i∈ix,∃y,X.N[i]? = some y/\scope.names.lookup y=some .free) (hN:(bN X.N x ix).Nodup)
  (T:Turn X.prog X.w X.K (.Name x px) J fp it tn) (st:tn 0 s.heap) (hf:∀b∈fp,FpOk X pins H b)
  (he:∀cl C s₀ H₀ fp,PE (Yz X scope cl C (bN X.N x ix) s₀ H₀ fp) elt te)
  (hi:∀cl C s₀ H₀ fp,PIfs (Yz X scope cl C (bN X.N x ix) s₀ H₀ fp) ifs tt)
  (W:Nat->Nat->List V->Hp->Prop) (m₀:Nat) (w0:W 0 m₀ [] H)
  (turn:∀i m ys H,W i m ys H->(J.stop i H/\ys.length<=sizeLine/\G ys H)\/(J.go i H/\ys.length<sizeLine/\∀v H',J.yld i H v H' ->
    tt (bS σ (some v) ix) H' λb H1=>if b=true then te (bS σ (some v) ix) H1 λy H2=>∃m',m' < m/\W (i+1) m' (ys++[y]) H2 else ∃m',m' < m/\W (i+1) m' ys H1))
  (hRR:∀D C s' ys H',Inv X pins σ (upd H' D (.lst ys)) s'->H' D=none->H' C=none->(∃m,s'.heap.Ns C m)->s.heap.objs.size<=C->D≠C->G ys H'->RR (.ref D) C (.ok .next) s') :
  wpAny (model X.prog X.w) X.A (newList []) (λacc s₃=>wpAny (model X.prog X.w) X.A (newFunctionEnv scope X.env.globals cl [] X.env.qual none .none (some X.env)) (λcenv s₄ =>
   codeAny (model X.prog X.w) X.A (.compStart (.ListComp elt [⟨.Name x px,iter,ifs,0⟩] scope pos) 0 (.ref it) acc { cenv with scope:=relabel scope X.env }) (RR acc cenv.locals) s₄) E s₃) E s:=by
 have hl:∀b∈fp,b<s.heap.objs.size:=λb hb=>by obtain ⟨o,e,_⟩:=T.obj 0 _ st b hb;exact Heap.lt_size e
 refine wpAny_newObj_type (wpAny_newFunctionEnv B.cells (by intro y hy;simp at hy) (λh₁ hns₁ hsb₁=>?_) B.kind)
 dsimp only at hns₁ hsb₁ ⊢
 generalize hH2:s.heap.push { cls:=.type "list",dict:=none,data:=.seq ([]:List Value).toArray }=H2 at hns₁ hsb₁ ⊢
 have hC:H2.objs.size=s.heap.objs.size+1:=by rw [← hH2,Heap.size_push]
 generalize hD:s.heap.objs.size=D at hC hl hRR ⊢
 generalize hCC:H2.objs.size=C at hC hns₁ hsb₁ ⊢
 have hDC:D≠C:=by omega
 have old:∀b o,s.heap.get? b=some o->h₁.get? b=some o:=λb o e=>hsb₁.extBut b o (Nat.ne_of_lt (by have z:=Heap.lt_size e;rw [hD] at z;exact Nat.lt_of_lt_of_le z (by rw [hC];exact Nat.le_succ _))) (Heap.get?_push_of_some _ (hH2 ▸ Heap.get?_push_of_some _ e))
 have hacc:h₁.get? D=some { cls:=.type "list",data:=.seq ([]:List Value).toArray 0 }:=hsb₁.extBut _ _ hDC (Heap.get?_push_of_some _ (hH2 ▸ (by rw [← hD];exact Heap.get?_push_size _ rfl)))
 have hfr:∀a,D<=a->s.heap.get? a=none:=λa ha=>by
  cases e:s.heap.get? a with
  | none=>rfl
  | some o=>exact absurd (Heap.lt_size e) (by rw [hD];exact Nat.not_lt.mpr ha)
 have hHn:∀a,D<=a->H a=none:=λa ha=>I.hok.fresh (by omega)
 have ok:(Yz X scope cl C (bN X.N x ix) s H fp).Ok:=Qo4 I B h1 h3 (by omega) hf (by rw [hD];exact hl)
 generalize hK:Yz X scope cl C (bN X.N x ix) s H fp=K at ok
 have kp:K.prog=X.prog:=by rw [← hK];rfl
 have kw:K.w=X.w:=by rw [← hK];rfl
 have kK:K.K=X.K:=by rw [← hK];rfl
 have kA:K.A=X.A:=by rw [← hK];rfl
 have kc:K.calm=true:=by rw [← hK];exact hc
 have kN:K.N=bN X.N x ix:=by rw [← hK];rfl
 have kenv:K.env=compEnvC scope cl C X.env:=by rw [← hK];rfl
 have kloc:K.env.locals=C:=by rw [← hK];rfl
 have kfs:K.fs=frs X.stack:=by rw [← hK];rfl
 have kex:K.ex=fp:=by rw [← hK];rfl
 have kpn:K.pn=[]:=by rw [← hK];rfl
 have ks:K.s₀=s:=by rw [← hK];rfl
 have kH:K.H₀=H:=by rw [← hK];rfl
 have kx:K.xe=λ_ _=>False:=by rw [← hK];rfl
 have kcl:K.env.cells=cl:=by rw [← hK];rfl
 have cellLt:∀y c,cl.lookup y=some c->c<D:=λy c q=>by obtain ⟨v,z⟩:=I.cell y c (h1 y c q);rw [← hD];exact z.lt
 have stkLt:∀b∈frs X.stack,b<D:=λb hb=>by
  rcases List.mem_cons.mp (I.stkSub b hb) with q | q
  ·rw [q,← hD];exact I.lt
  ·rcases Nat.lt_or_ge b D with z | z
   ·exact z
   ·exact absurd q (I.nofs (by omega))
 -- the state at the block's begin
 have I0:∀tk,Inv K [(D,{ cls:=.type "list",data:=.seq ([]:List Value).toArray 0 })] (bS σ none ix) H { s with heap:=h₁,toks:=tk }:=λtk=>by
  refine ⟨ok,by rw [ks],I.bare,by rw [ks,kH];exact Un.kept old,?_,?_,?_,?_,?_,by rw [kp,kw];exact I.hok.kept old,?_⟩
  ·refine ⟨_,by rw [kloc];exact hns₁,λi y v e1 e2 e3=>?_⟩
   rw [kN] at e1
   cases i with
   | zero =>
    have:(none:Option V)=some v:=by simpa [bS] using e2
    cases this
   | succ i =>
    have e1':(ix.map λi=>X.N.getD i Str.empty)[i]? = some y:=by simpa [bN] using e1
    have e2':(ix.map λi=>(σ[i]?).getD none)[i]? = some (some v):=by simpa [bS] using e2
    rw [List.getElem?_map] at e1' e2'
    cases q:ix[i]? with
    | none=>rw [q] at e1';cases e1'
    | some j =>
     rw [q] at e1' e2'
     obtain ⟨y',a1,a2⟩:=hix j (List.mem_of_getElem? q)
     have a3:X.N.getD j Str.empty=y':=by simp [List.getD,a1]
     have ey:y'=y:=by rw [← a3];exact Option.some.inj e1'
     subst ey
     have es:σ[j]? = some (some v):=by
      have z:(σ[j]?).getD none=some v:=Option.some.inj e2'
      cases w:σ[j]? with
      | none=>rw [w] at z;cases z
      | some o=>rw [w] at z;have z':o=some v:=z;rw [z']
     obtain ⟨m,hn,hlk⟩:=I.loc
     have hk:=B.free (y',.free) (PySem.mem_of_lookup a2) rfl
     have hk:X.env.kindOf y'=some .cell\/X.env.kindOf y'=some .free:=hk
     have vis:Vis X.env.scope y':=hk.elim (λz=>.inr (.inl z)) λz=>.inr (.inr z)
     obtain ⟨u,ru,lk⟩:=hlk j y' v a1 es vis
     refine ⟨u,ru,?_⟩
     rcases lk with ⟨k,_⟩ | ⟨_,c,ec,ce⟩
     ·rcases hk with z | z <;> (rw [k] at z;cases z)
     ·obtain ⟨c',ec'⟩:=h3 (y',.free) (PySem.mem_of_lookup a2) rfl
      have ec':cl.lookup y'=some c':=ec'
      have:c'=c:=Option.some.inj ((h1 y' c' ec').symm.trans ec)
      subst this
      refine .inr ⟨?_,c',by rw [kcl];exact ec',?_⟩
      ·show K.env.scope.names.lookup y'=_\/K.env.scope.names.lookup y'=_
       rw [kenv]
       exact Yk a2
      ·obtain ⟨oc,hoc,r⟩:=ce
       exact ⟨oc,old _ _ hoc,r⟩
  ·intro y c q
   rw [kcl] at q
   obtain ⟨v,oc,hoc,r⟩:=I.cell y c (h1 y c q)
   exact ⟨v,oc,old _ _ hoc,r⟩
  ·rw [kloc];exact hHn _ (by omega)
  ·intro y c q
   rw [kcl] at q
   exact I.freeC y c (h1 y c q)
  ·intro p hp
   rw [kpn] at hp
   have e:p=(D,{ cls:=.type "list",data:=.seq ([]:List Value).toArray 0 }):=by simpa using hp
   subst e
   refine ⟨hacc,hHn _ (Nat.le_refl _),by rw [kloc];exact hDC,?_,λv z=>?_⟩
   ·rw [kfs];intro z;exact absurd (stkLt D z) (Nat.lt_irrefl _)
   ·have z':Data.seq _ _=Data.cell v:=z
    cases z'
  ·rw [kN];simp [bS,bN]
 have stat:∀{H':Hp} {ob:Obj},(∀b∈fp,H' b=none)->∀b∈fp,FpOk K [(D,ob)] H' b:=λ{H' ob} hn b hb=>by
  refine ⟨hn b hb,?_,?_,.inl (by rw [kex];exact hb),?_,?_⟩
  ·rw [kloc];exact Nat.ne_of_lt (Nat.lt_of_lt_of_le (hl b hb) (by rw [hC];exact Nat.le_succ _))
  ·rw [kfs];intro z
   rcases List.mem_cons.mp (I.stkSub b z) with q | q
   ·exact (hf b hb).2.1 q
   ·exact (hf b hb).2.2.1 q
  ·intro y c q;rw [kcl] at q;exact (hf b hb).2.2.2.2.1 y c (h1 y c q)
  ·intro p hp;rw [kpn] at hp
   have e:p=(D,ob):=by simpa using hp
   subst e
   exact Nat.ne_of_gt (hl b hb)
 have st₁:tn 0 h₁:=T.keep _ _ _ st λb hb o e=>old b o e
 have loop:∀tk,codeAny (model X.prog X.w) X.A (.compLoop (.ListComp elt [⟨.Name x px,iter,ifs,0⟩] scope pos) 0 (.ref it) (.ref D) (compEnvC scope cl C X.env)) (RR (.ref D) C) { s with heap:=h₁,toks:=tk }:=by
  intro tk
  refine codeAny_compLoop_tests (λn s'=>∃i o H' ys its c,Inv K [(D,{ cls:=.type "list",data:=.seq (its:List Value).toArray c })] (bS σ o ix) H' s'/\Vals ys its/\tn i s'.heap/\(∀b∈fp,H' b=none)/\W i n ys H') ?_ m₀
   ⟨0,none,H,[],[],0,I0 tk,.nil,st₁,λb hb=>(hf b hb).1,w0⟩
  rintro n s1 ⟨i,o,H1,ys,its,c,I1,rv,t1,f1,w1⟩
  rcases turn i n ys H1 w1 with ⟨stop,hz,g⟩ | ⟨go,hz,step⟩
  ·have dn:=T.done K kp kw kK kc i _ s1 _ H1 (notedBy (model X.prog X.w) X.A (compEnvC scope cl C X.env) λe s'=>RR (.ref D) C (.error e) s') I1 (stat f1) t1 stop
   rw [kA] at dn
   refine thn dn λr s2 ⟨hr,I2⟩=>?_
   subst hr
   obtain ⟨p1,p2,p3,p4,p5⟩:=I2.pin (D,{ cls:=.type "list",data:=.seq its.toArray c }) (List.mem_append_right _ (List.mem_singleton.mpr rfl))
   have u2:=I2.base
   rw [kfs,kex,kH,ks] at u2
   refine hRR D C s2 ys H1 ?_ p2 (by rw [← kloc];exact I2.free) (by obtain ⟨m,hm,_⟩:=I2.loc;rw [kloc] at hm;exact ⟨m,hm⟩) (by omega) hDC g
   have hk2:HOk X.prog X.w H1 s2.heap:=by have:=I2.hok;rw [kp,kw] at this;exact this
   refine I.call' (ch:=fp) (by have:=I2.os;rw [ks] at this;exact this) (u2.add (hfr D (Nat.le_refl _)) (hHn D (Nat.le_refl _))) (hk2.add p2 ⟨hz,its,c,rv,p1⟩) I2.bare λb hb=>?_
   exact ⟨(hf b hb).2.2.2.1,(hf b hb).2.1,(hf b hb).2.2.2.2.1,(hf b hb).2.2.2.2.2⟩
  ·have im:=T.item K kp kw kK kc i _ s1 _ H1 (notedBy (model X.prog X.w) X.A (compEnvC scope cl C X.env) λe s'=>RR (.ref D) C (.error e) s') I1 (stat f1) t1 go
   rw [kA] at im
   refine thn im λr s2 ⟨u,hr,h2⟩=>?_
   subst hr
   show wpAny _ _ (assign (.Name x px) (compEnvC scope cl C X.env) u) _ _ s2
   have h2':wpAny (model X.prog X.w) X.A (pure ():Sem Unit) _ _ s2:=h2
   suffices q:wpAny (model X.prog X.w) X.A ((pure ():Sem Unit) >>= λ_=>assign (.Name x px) (compEnvC scope cl C X.env) u) _ _ s2 from q
   refine wpAny_bind (thn h2' λ_ s3 ⟨v,H3,I3,r3,y3,t3,f3⟩=>?_)
   have q3:=step v H3 y3
   have I3':=I3.pinned (stat f3) (T.obj _ _ t3)
   rw [← kenv]
   refine wpAny_assign_Name (Qah I3' (i:=0) (x:=x) (by rw [kN];exact hN) (by rw [kN];rfl) (.inl (by rw [kenv];exact lookup_relabel_local B.lx)) r3 (λs4 I4=>?_) (.inr (by rw [kenv];exact lookup_relabel_local B.lx)))
   have I4:Inv K ([(D,{ cls:=.type "list",data:=.seq its.toArray c })]++Qac fp s3.heap) (bS σ (some v) ix) H3 s4:=I4
   have hi':=hi cl C s H fp
   rw [hK] at hi'
   have hiv:=hi' _ s4 _ H3 _ I4 q3
   rw [kx,kp,kw,kA] at hiv
   refine wpAny_mono hiv (λok s5 ⟨H5,I5,q5⟩=>?_) λ_ _ z=>z.elim
   have back:∀{H7:Hp} {s7:Shared} {o7:Option V},Inv K ([(D,{ cls:=.type "list",data:=.seq its.toArray c })]++Qac fp s3.heap) (bS σ o7 ix) H7 s7->tn (i+1) s7.heap/\∀b∈fp,H7 b=none:=λ{H7 s7 o7} I7=>by
    refine ⟨T.keep _ _ _ t3 λb hb o e=>(I7.pin (b,o) (List.mem_append_right _ (List.mem_append_right _ (Yn hb e)))).1,λb hb=>?_⟩
    obtain ⟨ob,e,d⟩:=T.obj _ _ t3 b hb
    exact (I7.pin (b,ob) (List.mem_append_right _ (List.mem_append_right _ (Yn hb e)))).2.1
   cases ok with
   | false =>
    rw [if_neg Bool.false_ne_true]
    have q5:∃m',m' < n/\W (i+1) m' ys H5:=q5
    obtain ⟨m',hm,w5⟩:=q5
    obtain ⟨b1,b2⟩:=back I5
    exact ⟨m',hm,i+1,some v,H5,ys,its,c,I5.unpinned,rv,b1,b2,w5⟩
   | true =>
    rw [if_pos rfl]
    have q5:te (bS σ (some v) ix) H5 λy H2=>∃m',m' < n/\W (i+1) m' (ys++[y]) H2:=q5
    have he':=he cl C s H fp
    rw [hK] at he'
    have hev:=he' _ s5 _ H5 _ I5 q5
    rw [kx,kp,kw,kA] at hev
    refine wpAny_mono hev (λy s6 ⟨yv,H6,I6,r6,m',hm,w6⟩=>?_) λ_ _ z=>z.elim
    obtain ⟨b1,b2⟩:=back I6
    have I6':=I6.unpinned
    obtain ⟨p1,p2,p3,p4,p5⟩:=I6'.pin (D,{ cls:=.type "list",data:=.seq its.toArray c }) (List.mem_append_right _ (List.mem_singleton.mpr rfl))
    have hlen:=rv.length
    refine call_meets F.slot_list_append ⟨_,p1,rfl⟩ F.entry_list_append (F.args_list_append_2 _ _) (PySem.list_append D its.toArray c y (by rw [List.size_toArray];omega)) ⟨p1,?_⟩
    have ea:its.toArray.push y=(its++[y]).toArray:=by simp
    obtain ⟨c',q⟩:∃c',(s6.heap.update D (Obj.mapSeq (·.push y))).get? D=some { cls:=.type "list",data:=.seq (its++[y]).toArray c' }:=⟨_,by rw [← ea];exact PySem.IsL.update p1 (·.push y)⟩
    refine ⟨m',hm,i+1,some v,H6,ys++[yv],its++[y],c',?_,rv.append (.cons r6 .nil),T.keep _ _ _ b1 λb hb o e=>?_,b2,w6⟩
    ·have Id:Inv K [] (bS σ (some v) ix) H6 s6:=I6'.pins_of λp hp=>by simp at hp
     have It:Inv K [] (bS σ (some v) ix) H6 { s6 with heap:=s6.heap.update D (Obj.mapSeq (·.push y)) }:=Id.turned (t':=s6.toks) (it:=D) (λb o hb e=>(Heap.get?_update_other _ _ (Ne.symm hb)).trans e) p2 p3
      (.inr (by rw [ks];omega)) (λy' c' e=>by rw [kcl] at e;exact Nat.ne_of_lt (cellLt y' c' e)) (λp hp=>by rw [kpn] at hp;simp at hp)
     refine It.pins_of λp hp=>?_
     obtain rfl:p=(D,{ cls:=.type "list",data:=.seq (its++[y]).toArray c' }):=by simpa using hp
     refine ⟨q,p2,p3,p4,λv z=>?_⟩
     have z':Data.seq _ _=Data.cell v:=z
     cases z'
    ·exact (Heap.get?_update_other _ _ (Nat.ne_of_gt (hl b hb))).trans e
 have selfs:wpAny (model X.prog X.w) X.A (pyIter (.ref it)) (λit' s'=>codeAny (model X.prog X.w) X.A (.compLoop (.ListComp elt [⟨.Name x px,iter,ifs,0⟩] scope pos) 0 it' (.ref D) (compEnvC scope cl C X.env)) (RR (.ref D) C) s')
   (notedBy (model X.prog X.w) X.A (compEnvC scope cl C X.env) λe s'=>RR (.ref D) C (.error e) s') { s with heap:=h₁,toks:=s.toks+([]:List (Str × Value)).length }:=T.self X.A 0 _ _ _ st₁ (loop _)
 exact codeAny_compStart_list (loop _) selfs
def Qpe (wi:TI) (tt:TT) (te:TE) (ix:List Nat):TE:=λσ H Q=>wi σ H λJ H1=>∃(W:Nat->Nat->List V->Hp->Prop) (m₀:Nat),W 0 m₀ [] H1 /\
 ∀i m ys H,W i m ys H->(J.stop i H/\ys.length<=sizeLine/\∀l,H l=none->Q (.ref l) (upd H l (.lst ys)))\/(J.go i H/\ys.length<sizeLine/\∀v H',J.yld i H v H' ->
  tt (bS σ (some v) ix) H' λb H1=>if b=true then te (bS σ (some v) ix) H1 λy H2=>∃m',m' < m/\W (i+1) m' (ys++[y]) H2 else ∃m',m' < m/\W (i+1) m' ys H1)
theorem Qd5 {scope:Scope} {x:Str} {pins:List (Addr × Obj)} {σ:St} {H:Hp} {s:Shared} (I:Inv X pins σ H s) (B:BlkScope X.env scope x):∀y∈scope.names,y.2=.free->∃c,X.env.cells.lookup y.1=some c :=
 λy hy hf=>I.ok.has y.1 (B.free y hy hf)
theorem Inv.blkGone {pins:List (Addr × Obj)} {σ:St} {H:Hp} {s s₀:Shared} {H₀:Hp} {C:Addr} {h':Heap} {σ₀:St} (I₀:Inv X pins σ₀ H₀ s₀) (I:Inv X pins σ H s) (hC:s₀.heap.objs.size<=C) (hn:H C=none) (hs:Heap.SameBut C s.heap h'):Inv X pins σ H { s with heap:=h' } :=
 I.turned (t':=s.toks) (it:=C) (λb o hb e=>(hs.2 b hb).trans e) hn (Nat.ne_of_gt (Nat.lt_of_lt_of_le I₀.lt hC)) (.inr (Nat.le_trans I₀.sz hC))
  (λx c e=>by obtain ⟨v,z⟩:=I₀.cell x c e;exact Nat.ne_of_lt (Nat.lt_of_lt_of_le z.lt hC)) (λp hp=>Nat.ne_of_lt (Nat.lt_of_lt_of_le (Heap.lt_size (I₀.pin p hp).1) hC))
theorem Qqb {elt iter:Expr} {x:Str} {px pos:Pos} {scope:Scope} {te:TE} {tt:TT} {wi:TI} {ifs:List Expr} (ix:List Nat) (hc:X.calm=true) (B:BlkScope X.env scope x)
  (hix:∀i∈ix,∃y,X.N[i]? = some y/\scope.names.lookup y=some .free) (hN:(bN X.N x ix).Nodup) (hi:PI X (.Name x px) iter wi)
  (ht:∀cl C s₀ H₀ fp,PIfs (Yz X scope cl C (bN X.N x ix) s₀ H₀ fp) ifs tt)
  (he:∀cl C s₀ H₀ fp,PE (Yz X scope cl C (bN X.N x ix) s₀ H₀ fp) elt te)
  (hs:∀x,foldedSetIterable iter X.env x=pure x:=by intro _;rfl) :
  PE X (.ListComp elt [⟨.Name x px,iter,ifs,0⟩] scope pos) (Qpe wi tt te ix):=by
 intro pins s σ H Q I h
 obtain ⟨cl,hcl,h1,h3⟩:=Gv (Qd5 I B)
 rw [eval_ListComp]
 refine wpAny_comprehension_free (use:=none) rfl hs hcl B.kind B.names (thn (hi pins s σ H _ I h) λv s1 h1'=>thn h1' λitv s2 h2=>?_)
 obtain ⟨it,fp,tn,J,H2,e,I2,T,st2,f2,W,m0,w0,turn⟩:=h2
 subst e
 refine Qie (G:=λys H'=>∀l,H' l=none->Q (.ref l) (upd H' l (.lst ys))) I2 hc B h1 h3 hix hN T st2 f2 he ht W m0 w0 turn λD C s' ys H' I' hD hC hm hCs hDC g=>?_
 obtain ⟨m,hm⟩:=hm
 refine ⟨m,hm,λh' hsb=>⟨.ref D,upd H' D (.lst ys),I2.blkGone I' hCs (by rw [Qk (Ne.symm hDC)];exact hC) hsb,rfl,g D hD⟩⟩
theorem Qp3 {elt iter:Expr} {x y:Str} {px py pos spos:Pos} {scope:Scope} {te:TE} {tt:TT} {wi:TI} {ifs:List Expr} {j:Nat} (ix:List Nat) (hc:X.calm=true) (B:BlkScope X.env scope x)
  (hNd:X.N.Nodup) (hj:X.N[j]? = some y) (hy:Loc X.env.scope y)
  (hsw:swapsWith (.ListComp elt [⟨.Name x px,iter,ifs,0⟩] scope pos) (some (.Name y py)) spos.line X.env=pure true)
  (hix:∀i∈ix,∃y,X.N[i]? = some y/\scope.names.lookup y=some .free) (hN:(bN X.N x ix).Nodup) (hi:PI X (.Name x px) iter wi)
  (ht:∀cl C s₀ H₀ fp,PIfs (Yz X scope cl C (bN X.N x ix) s₀ H₀ fp) ifs tt)
  (he:∀cl C s₀ H₀ fp,PE (Yz X scope cl C (bN X.N x ix) s₀ H₀ fp) elt te)
  (hf:X.fn y=true\/X.env.scope.names.lookup y=some .local:=by first | exact .inl rfl | exact .inr rfl | assumption)
  (hs:∀x,foldedSetIterable iter X.env x=pure x:=by intro _;rfl) :
  PS X (.Assign [.Name y py] (.ListComp elt [⟨.Name x px,iter,ifs,0⟩] scope pos) spos) (tAsg (Qpe wi tt te ix) (Qdu j)):=by
 intro pins s σ H D0 I h
 obtain ⟨cl,hcl,h1,h3⟩:=Gv (Qd5 I B)
 rw [exec_Assign_Name_used _ _ _ _ hsw]
 refine wpAny_bind (wpAny_standAt (wpAny_bind ?_))
 show wpAny _ X.A (do let _ ← comprehension (.ListComp elt [⟨.Name x px,iter,ifs,0⟩] scope pos) scope X.env _ (newList []) false (eval iter X.env) (some (assign (.Name y py) X.env))) _ _ s
 refine wpAny_bind (wpAny_mono (wpAny_comprehension_free (use:=some (assign (.Name y py) X.env)) (Q:=λ_ s'=>SP X pins D0 .next s') rfl hs hcl B.kind B.names
  (thn (hi pins s σ H _ I h) λv s1 h1'=>thn h1' λitv s2 h2=>?_)) (λ_ s' hq=>wpAny_pure (wpAny_pure hq)) λ_ _ e=>e)
 obtain ⟨it,fp,tn,J,H2,e,I2,T,st2,f2,W,m0,w0,turn⟩:=h2
 subst e
 refine Qie (G:=λys H'=>∀l,H' l=none->Qdu j (.ref l) σ (upd H' l (.lst ys)) D0.nx) I2 hc B h1 h3 hix hN T st2 f2 he ht W m0 w0 turn λD C s' ys H' I' hD hC hm hCs hDC g=>?_
 obtain ⟨m,hm⟩:=hm
 have hCn:upd H' D (.lst ys) C=none:=by rw [Qk (Ne.symm hDC)];exact hC
 show wpAny _ _ (assign (.Name y py) X.env (.ref D)) _ _ s'
 refine wpAny_assign_Name (Qa0 I' hNd hj hy (show RelV (.ref D) (.ref D) from rfl) (λs3 I3 ⟨a,hsa,ha⟩=>?_) hf)
 have hCa:C≠a:=by
  rcases ha with z | z
  ·rw [z];exact Nat.ne_of_gt (Nat.lt_of_lt_of_le I2.lt hCs)
  ·obtain ⟨v,q⟩:=I2.cell y a z;exact Nat.ne_of_gt (Nat.lt_of_lt_of_le q.lt hCs)
 exact ⟨m,hm.sameBut hsa hCa,λh' hsb=>⟨_,_,I2.blkGone I3 hCs hCn hsb,g D hD⟩⟩
end
end L2
namespace L2
open PySem PySem.Spec PyProof.Rows
section
variable {X:Cx}
theorem Inv.turnNew {pins:List (Addr × Obj)} {σ:St} {H:Hp} {s:Shared} {ch:List Addr} {T:Addr} {o:HO} {h':Heap} {t':Nat} (I:Inv X pins σ H s) (hT:s.heap.objs.size<=T)
  (k:∀b u,b∉ch->s.heap.get? b=some u->h'.get? b=some u) (hch:∀b∈ch,FpOk X pins H b) (new:J2 X.prog X.w (upd H T o) h' T o):Inv X pins σ (upd H T o) { s with heap:=h',toks:=t' }:=by
 have hn:H T=none:=I.hok.fresh hT
 have hg:s.heap.get? T=none:=by
  cases e:s.heap.get? T with
  | none=>rfl
  | some u=>exact absurd (Heap.lt_size e) (Nat.not_lt.mpr hT)
 have u:Un (frs X.stack) ch H H s.heap h':=⟨λb q e _ _ hx=>k b q hx e,λb q e _ _ hx=>⟨q.slots,k b q hx e⟩,λb q e n _=>n,λb q e hx=>⟨q,k b q hx e⟩,λ_ _ e=>e,λ_ _ _ e=>e,λb ps e=>⟨#[],by rw [Array.append_empty];exact e⟩⟩
 have hok:HOk X.prog X.w H h':=λb q e=>(I.hok b q e).stay (λc v hc z=>k c v (λm=>by
  have q1:=(hch c m).1
  rcases hc with rfl | hc
  ·rw [q1] at e;cases e
  ·rw [q1] at hc;cases hc) z) (λ_ z=>z) λ_ _ z=>z
 exact I.call' (s':={ s with heap:=h',toks:=t' }) rfl (u.add hg hn) (hok.add hn new) I.bare λb hb=>⟨(hch b hb).2.2.2.1,(hch b hb).2.1,(hch b hb).2.2.2.2.1,(hch b hb).2.2.2.2.2⟩
theorem Inv.turnAll {pins:List (Addr × Obj)} {σ:St} {H:Hp} {s:Shared} {ch:List Addr} {h':Heap} {t':Nat} (I:Inv X pins σ H s)
  (k:∀b u,b∉ch->s.heap.get? b=some u->h'.get? b=some u) (hch:∀b∈ch,FpOk X pins H b):Inv X pins σ H { s with heap:=h',toks:=t' }:=by
 have u:Un (frs X.stack) ch H H s.heap h':=⟨λb q e _ _ hx=>k b q hx e,λb q e _ _ hx=>⟨q.slots,k b q hx e⟩,λb q e n _=>n,λb q e hx=>⟨q,k b q hx e⟩,λ_ _ e=>e,λ_ _ _ e=>e,λb ps e=>⟨#[],by rw [Array.append_empty];exact e⟩⟩
 have hok:HOk X.prog X.w H h':=λb q e=>(I.hok b q e).stay (λc v hc z=>k c v (λm=>by
  have q1:=(hch c m).1
  rcases hc with rfl | hc
  ·rw [q1] at e;cases e
  ·rw [q1] at hc;cases hc) z) (λ_ z=>z) λ_ _ z=>z
 exact I.call' (s':={ s with heap:=h',toks:=t' }) rfl u hok I.bare λb hb=>⟨(hch b hb).2.2.2.1,(hch b hb).2.1,(hch b hb).2.2.2.2.1,(hch b hb).2.2.2.2.2⟩
end
section
variable {prog:Program} {w:World} {A:Around} {E:Value->Shared->Prop} {s:Shared}
theorem Qpb {it t:Addr} {i:Nat} {items:Array Value} {x:Value} {Q:Value->Shared->Prop} (hit:s.heap.IsTupleIter it t i) (ht:s.heap.IsTuple t items) (hx:items[i]? = some x)
  (hQ:∀h',h'.IsTupleIter it t (i+1)->Heap.SameBut it s.heap h'->Q x { s with heap:=h' }):wpAny (model prog w) A (Builtin.SmallTypes.nextOf (.ref it)) Q E s:=by
 obtain ⟨o,ho,hc,hd⟩:=id hit
 obtain ⟨ol,hol,_,nl,hdl⟩:=ht
 unfold Builtin.SmallTypes.nextOf
 refine wpAny_bind (wpAny_callSpecial?_slot (name:=Str.ofString "__next__") hit.typeIs F.slot_tuple_iterator_next (wpAny_call_entry F.slot_tuple_iterator_next hit.typeIs F.entry_tuple_iterator_next ?_ (F.args_tuple_iterator_next_1 _)))
 show wpAny _ _ (field (.ref it) 0 >>= _) _ _ s;refine wpAny_bind (wpAny_field ho hd (x:=.ref t) rfl ?_)
 show wpAny _ _ (if (Value.ref t == Value.none)=true then _ else _) _ _ s;rw [if_neg (show ¬((Value.ref t == Value.none)=true) from Bool.false_ne_true)]
 show wpAny _ _ (field (.ref it) 1 >>= _) _ _ s;refine wpAny_bind (wpAny_field ho hd (x:=.int i 0) rfl ?_)
 show wpAny _ _ (seqItems? (.ref t) >>= _) _ _ s;refine wpAny_bind (wpAny_seqItems hol hdl ?_)
 simp only [Int.toNat_natCast,hx]
 refine wpAny_bind (wpAny_setField ho hd (by simp) (wpAny_pure ⟨x,rfl,wpAny_pure (hQ _ ⟨_,Heap.get?_update_self _ ho (Obj.isFreed_of_fields (Obj.data_mapFields hd _)),(Obj.cls_mapFields ..).trans hc,by rw [Obj.data_mapFields hd];simp [rawInt]⟩ (Heap.SameBut.update ..))⟩))
theorem Qod {it t:Addr} {i:Nat} {items:Array Value} {Q:Value->Shared->Prop} (hh:A.handled=none) (hit:s.heap.IsTupleIter it t i) (ht:s.heap.IsTuple t items) (hx:items[i]? = none)
  (hE:∀h' e,Heap.ExtBut it s.heap h'->(∃o,h'.get? e=some o/\o.cls=.type "StopIteration")->E (.ref e) { s with heap:=h' }):wpAny (model prog w) A (Builtin.SmallTypes.nextOf (.ref it)) Q E s:=by
 obtain ⟨o,ho,hc,hd⟩:=id hit
 obtain ⟨ol,hol,_,nl,hdl⟩:=ht
 unfold Builtin.SmallTypes.nextOf
 refine wpAny_bind (wpAny_callSpecial?_slot (name:=Str.ofString "__next__") hit.typeIs F.slot_tuple_iterator_next (wpAny_call_entry F.slot_tuple_iterator_next hit.typeIs F.entry_tuple_iterator_next ?_ (F.args_tuple_iterator_next_1 _)))
 show wpAny _ _ (field (.ref it) 0 >>= _) _ _ s;refine wpAny_bind (wpAny_field ho hd (x:=.ref t) rfl ?_)
 show wpAny _ _ (if (Value.ref t == Value.none)=true then _ else _) _ _ s;rw [if_neg (show ¬((Value.ref t == Value.none)=true) from Bool.false_ne_true)]
 show wpAny _ _ (field (.ref it) 1 >>= _) _ _ s;refine wpAny_bind (wpAny_field ho hd (x:=.int i 0) rfl ?_)
 show wpAny _ _ (seqItems? (.ref t) >>= _) _ _ s;refine wpAny_bind (wpAny_seqItems hol hdl ?_)
 simp only [Int.toNat_natCast,hx]
 refine wpAny_bind (wpAny_rule (wpAny_bind (wpAny_setField ho hd (by simp) ?_)))
 show wpAny _ _ (newExc (.type "StopIteration") [] >>= _) _ _ _;refine wpAny_bind ?_
 simp only [newExc,newTuple]
 refine wpAny_bind (wpAny_newObj_type ?_ (by size_fits));refine wpAny_bind (m:=firstArgMember _ _) (wpAny_of_eq (a:=Value.none) (by first | rfl | (simp only [firstArgMember];rfl)) ?_)
 refine wpAny_newObj_type ?_ (by size_fits);simp only [raiseNew]
 refine wpAny_bind (wpAny_handled ?_)
 first | rw [show A.in1.handled=none from hh] | rw [hh]
 refine wpAny_bind (wpAny_pure (wpAny_throw (hE _ _ (((Heap.SameBut.update ..).extBut.push _).push _) ⟨_,Heap.get?_push_size _ rfl,rfl⟩)))
theorem Qns (hh:A.handled=none) (it t:Addr) (hne:t≠it) (items:Array Value) :
  Draws prog w A it [it,t] items.size (λi v=>items[i]? = some v) (λi h=>h.IsTupleIter it t i/\h.IsTuple t items) where
 live:=λ_ _ st=>let ⟨o,ho,_⟩:=st.1;⟨o,ho⟩
 frame:=λ_ _ _ st hk=>⟨st.1.at λo e=>hk it (by simp) o e,let ⟨o,ho,r⟩:=st.2;⟨o,hk t (by simp) o ho,r⟩⟩
 item:=λi s Q E hi st hQ=>Qpb st.1 st.2 (x:=items[i]) (by simp [hi]) λh' hit' hs'=>hQ _ h' s.toks (by simp [hi]) ⟨hit',st.2.extBut hs'.extBut hne⟩ hs'
 done:=λs Q E st hE=>Qod hh st.1 st.2 (by simp) hE
open AutoSeq1 (wpAny_loadPart') in
theorem Qnr (l:Addr) (items:Array Value) (n:Nat) (dct:Option Addr) (sl:Array (Option Value)) :
  Meets (Builtin.«enumerate.__new__» ⟨[.type "enumerate",.ref l],[]⟩) (λ_ R s=>s.heap.get? l=some { cls:=.type "tuple",dict:=dct,data:=.seq items n,slots:=sl } /\
   R (.ok (.ret (.ref (s.heap.push { cls:=.type "tuple_iterator",data:=.fields #[.ref l,.int 0 0] }).objs.size)))
    { s with heap:=(s.heap.push { cls:=.type "tuple_iterator",data:=.fields #[.ref l,.int 0 0] }).push { cls:=.type "enumerate",data:=.fields #[.none,.bool false,.ref s.heap.objs.size,rawInt 0,.none,.none] } }) :=
 .of_wp λprog w A R s h=>by
  obtain ⟨hp,g,d,tk,os⟩:=s;obtain ⟨hl,h⟩:=h
  have hsub:=sub_enumerate
  have hL:Heap.IsTuple (Shared.heap ⟨hp,g,d,tk,os⟩) l items:=⟨_,hl,rfl,n,rfl⟩
  wp_walk using wpAny_loadPart' hl
  refine wpAny_stack_any λst=>wpAny_pure ?_
  split
  ·rename_i c _ _ _ _ _
   cases (c == Value.type "enumerate")
   ·wp_walk using wpAny_loadPart' hl,wpAny_pyIter_tuple hL
    exact ⟨_,rfl,h⟩
   ·wp_walk using wpAny_loadPart' hl,wpAny_pyIter_tuple hL
    exact ⟨_,rfl,h⟩
  ·wp_walk using wpAny_loadPart' hl,wpAny_pyIter_tuple hL
   exact ⟨_,rfl,h⟩
theorem Ql8 {l:Addr} {items:Array Value} {Q:Value->Shared->Prop} (hL:s.heap.IsTuple l items)
  (h:∀h',IsEnum h' (s.heap.objs.size+1) s.heap.objs.size 0 .none->h'.IsTupleIter s.heap.objs.size l 0->h'.objs.size=s.heap.objs.size+2->(∀b o,s.heap.get? b=some o->h'.get? b=some o)->Q (.ref (s.heap.objs.size+1)) { s with heap:=h' }) :
  wpAny (model prog w) A (call (.type "enumerate") [.ref l]) Q E s:=by
 obtain ⟨⟨c,dct,dt,sl⟩,hl,hc,n,hd⟩:=hL
 obtain rfl:c=.type "tuple":=hc
 obtain rfl:dt=.seq items n:=hd
 refine callType_new F.called_enumerate (by decide) (F.typeCall_enumerate_1 _) (F.newCall_enumerate_1 _) (λobj=>F.args_object_init_2 obj _) F.entry_enumerate_new (Qnr l items n dct sl) ⟨hl,?_⟩
 have hz:(s.heap.push { cls:=.type "tuple_iterator",data:=.fields #[.ref l,.int 0 0] }).objs.size=s.heap.objs.size+1:=Heap.size_push ..
 show _/\_
 rw [hz]
 have he:IsEnum ((s.heap.push { cls:=.type "tuple_iterator",data:=.fields #[.ref l,.int 0 0] }).push
   { cls:=.type "enumerate",data:=.fields #[.none,.bool false,.ref s.heap.objs.size,rawInt 0,.none,.none] }) (s.heap.objs.size+1) s.heap.objs.size 0 .none:=by
  have q:=Heap.get?_push_size (s.heap.push { cls:=.type "tuple_iterator",data:=.fields #[.ref l,.int 0 0] }) (o:={ cls:=.type "enumerate",data:=.fields #[.none,.bool false,.ref s.heap.objs.size,rawInt 0,.none,.none] }) rfl
  rw [hz] at q;exact q
 exact ⟨⟨_,he,rfl⟩,h _ he ⟨_,Heap.get?_push_of_some _ (Heap.get?_push_size _ rfl),rfl,rfl⟩ (by rw [Heap.size_push,hz]) λb o x=>Heap.get?_push_of_some _ (Heap.get?_push_of_some _ x)⟩
end
def Ite (K:PySem.W.Frag) (a:Addr):It :=
 ⟨λi H=>∃xs x,SqT K H a xs/\xs[i]? = some x,λi H v H'=>∀xs,SqT K H a xs->∃x p,xs[i]? = some x/\v=.ref p/\H p=none/\H'=upd H p (.tup [.int i,x]),λi H=>∃xs,SqT K H a xs/\xs.length<=i⟩
theorem Qjt {P:Program} {w:World} {K:PySem.W.Frag} {es:List Expr} {kt:Nat} {pt:Pos} (a e it:Addr) (hei:e≠it):Turn P w K (.Tuple es kt pt) (Ite K a) [e,it] e (λi h=>(∃old,IsEnum h e it i old)/\h.IsTupleIter it a i) where
 mem:=by simp
 obj:=λi h st b hb=>by
  obtain ⟨⟨old,h1⟩,o,h2,c,d⟩:=st
  rcases List.mem_cons.mp hb with z | z
  ·subst z;exact ⟨_,h1,λv z=>by have z':Data.fields _=Data.cell v:=z;cases z'⟩
  ·have z':b=it:=by simpa using z
   subst z';exact ⟨o,h2,λv z=>by rw [d] at z;cases z⟩
 keep:=λi h h' st k=>⟨let ⟨old,h1⟩:=st.1;⟨old,k e (by simp) _ h1⟩,st.2.at λo q=>k it (by simp) o q⟩
 item:=by
  intro X hP hw hK hc i pins s σ H E I hf st hg
  subst hP hw hK
  obtain ⟨⟨old,he⟩,hit⟩:=st
  obtain ⟨xs,x,hq,hx⟩:=hg
  obtain ⟨its,rv,p,hz⟩:=I.tuple hq
  have hlen:=rv.length
  have hi:i<its.toArray.size:=by rw [List.size_toArray,← hlen];exact (List.getElem?_eq_some_iff.mp hx).1
  have hai:a≠it:=λz=>by
   obtain ⟨o,h1,h2,_⟩:=p
   obtain ⟨o',h1',h2',_⟩:=hit
   rw [z,h1'] at h1;cases h1;rw [h2'] at h2;exact absurd h2 (by decide)
  have hae:e∉[it,a]:=λz=>by
   rcases List.mem_cons.mp z with q | q
   ·exact hei q
   ·have q':e=a:=by simpa using q
    obtain ⟨o,h1,h2,_⟩:=p
    rw [← q',he] at h1;cases h1;exact absurd h2 (by show ¬(Value.type "enumerate" = Value.type "tuple");decide)
  refine wpAny_pyNext_enum_itemD (Qns (A:=X.A.in1) (I.ok.hd hc) it a hai its.toArray) he ⟨hit,show s.heap.IsTuple a its.toArray from p⟩ hi hei hae λu h' tk hu ho hst' hT hsz hk=>?_
  refine ⟨_,rfl,wpAny_letOwnedTupleGo_enum ho λh2 he2 hs2=>?_⟩
  obtain ⟨u',hu',ru⟩:=rv.get hx
  have euu:u'=u:=by
   have z:its.toArray[i]? = some u:=hu
   have z2:its[i]? = some u:=by simpa using z
   rw [hu'] at z2;exact Option.some.inj z2
  subst euu
  have hTe:s.heap.objs.size≠e:=Nat.ne_of_gt (Heap.lt_size he)
  have hT2:h2.get? s.heap.objs.size=some { cls:=.type "tuple",data:=.seq #[.int i tk,u'] }:=(hs2.2 _ hTe).trans hT
  have hn:H s.heap.objs.size=none:=I.hok.fresh (Nat.le_refl _)
  refine ⟨.ref s.heap.objs.size,upd H s.heap.objs.size (.tup [.int i,x]),I.turnNew (ch:=[e,it]) (t':=tk+1) (Nat.le_refl _) (λb o hb q=>?_) hf ?_,rfl,λys hy=>?_,⟨⟨_,he2⟩,hst'.1.at λo q=>?_⟩,λb hb=>?_⟩
  ·have h1:b≠e:=λz=>hb (by simp [z])
   have h2':b≠it:=λz=>hb (by simp [z])
   exact (hs2.2 b h1).trans (hk b o h1 h2' q)
  ·exact ⟨by show 2<=sizeLine;decide,[.int i tk,u'],.cons ⟨_,rfl⟩ (.cons ru .nil),⟨_,hT2,rfl,_,rfl⟩⟩
  ·rw [I.tuple_inj hy hq]
   exact ⟨x,_,hx,rfl,hn,rfl⟩
  ·exact (hs2.2 it (Ne.symm hei)).trans q
  ·obtain ⟨o,q,_⟩:∃o,s.heap.get? b=some o/\True:=by
    rcases List.mem_cons.mp hb with z | z
    ·exact ⟨_,z ▸ he,trivial⟩
    ·have z':b=it:=by simpa using z
     obtain ⟨o,q,_⟩:=hit
     exact ⟨o,z' ▸ q,trivial⟩
   rw [Qk (Nat.ne_of_lt (Heap.lt_size q))]
   exact (hf b hb).1
 done:=by
  intro X hP hw hK hc i pins s σ H E I hf st hg
  subst hP hw hK
  obtain ⟨⟨old,he⟩,hit⟩:=st
  obtain ⟨xs,hq,hx⟩:=hg
  obtain ⟨its,rv,p,hz⟩:=I.tuple hq
  have hlen:=rv.length
  have hT:s.TypeIs (.ref e) "enumerate":=⟨_,he,rfl⟩
  unfold pyNext
  refine wpAny_bind (wpAny_attempt (wpAny_callSpecial?_slot (name:=Str.ofString "__next__") hT F.slot_enumerate_next (wpAny_call_entry F.slot_enumerate_next hT F.entry_enumerate_next ?_ (F.args_enumerate_next_1 _))))
  show wpAny _ _ (field (.ref e) 2 >>= _) _ _ _;refine wpAny_bind (wpAny_field he rfl (x:=.ref it) rfl ?_)
  refine wpAny_bind (Qod (I.ok.hd hc) hit (show s.heap.IsTuple a its.toArray from p) (by simp;omega) λh' x he' hx'=>?_)
  obtain ⟨o,ho,hc⟩:=hx'
  refine wpAny_bind (wpAny_isInstance (T:="StopIteration") (b:=true) ⟨o,ho,hc⟩ isSubtype_stop ?_)
  exact wpAny_pure ⟨rfl,I.turnAll (ch:=[e,it]) (t':=s.toks) (λb u hb q=>he' b u (λz=>hb (by simp [z])) q) hf⟩
 self:=λ_ _ _ _ _ st h=>by
  obtain ⟨⟨old,q⟩,_⟩:=st
  exact wpAny_pyIter_enum q h
section
variable {X:Cx}
def Qu0 (K:PySem.W.Frag) (ta:TA):TI:=λσ H R=>ta σ H λvs H1=>∃a,vs=[.ref a]/\(∃xs,SqT K H1 a xs)/\R (Ite K a) H1
theorem Qp8 {a:Expr} {ta:TA} {p pos:Pos} {es:List Expr} {kt:Nat} {pt:Pos} (hg:Gl X "enumerate") (hm:X.mg "enumerate" = none) (ha:PA X [a] ta) (hs:starEach [a] X.env=[(false,eval a X.env)]:=by rfl) :
  PI X (.Tuple es kt pt) (.Call (.Name "enumerate" p) [a] [] pos) (Qu0 X.K ta):=by
 intro pins s σ H R I h
 refine Call_ (Qc2 I hg hm boot_enumerate (PyProof.Rows.callWith_type1 (thn (ha pos pins s σ H _ I h) λus s1 ⟨vs,H1,I1,r1,q1⟩=>?_) hs rfl))
 obtain ⟨x,e,⟨xs,hq⟩,q⟩:=q1
 subst e
 obtain ⟨u,rfl,ru⟩:=Qae r1
 cases ru
 obtain ⟨its,rv,pl,hz⟩:=I1.tuple hq
 refine Ql8 (show s1.heap.IsTuple x its.toArray from pl) λh' he hit hz kp=>?_
 have I2:Inv X pins σ H1 { s1 with heap:=h' }:=I1.kept (t':=s1.toks) kp
 refine wpAny_pyIter_enum he ⟨s1.heap.objs.size+1,[s1.heap.objs.size+1,s1.heap.objs.size],_,_,H1,rfl,I2,Qjt x _ _ (Nat.ne_of_gt (Nat.lt_succ_self _)),⟨⟨_,he⟩,hit⟩,λb hb=>?_,q⟩
 have hb':s1.heap.objs.size<=b:=by
  rcases List.mem_cons.mp hb with z | z
  ·rw [z];exact Nat.le_succ _
  ·have z':b=s1.heap.objs.size:=by simpa using z
   rw [z'];exact Nat.le_refl _
 exact I1.fpOk hb' (I1.hok.fresh hb')
end
end L2
namespace L2
open PySem PySem.Spec PyProof.Rows
section
variable {X:Cx}
def Quf:V->List V->Hp->VK->Prop:=λx vs H Q=>∃a kvs k v,x=.ref a/\vs=[kV k,v]/\H a=some (.dK kvs)/\kvs.length<sizeLine /\
 (∀y,valV kvs k=some y->Q y H)/\(valV kvs k=none->Q v (upd H a (.dK (putK kvs k v))))
theorem Qdr:MtM X "dict.setdefault" Quf:=by
 intro pins s σ H x vs v us Q I rx rv h
 obtain ⟨a,kvs,k,y,rfl,rfl,hH,hz,q1,q2⟩:=h
 cases rx
 obtain ⟨ku,vu,rfl,rk,ry⟩:=rv.two
 obtain ⟨z,hd,xs,rel,dd⟩:=Qnt I.hok hH
 have hl:xs.length<=sizeLine:=by rw [← rel.length];exact z
 refine call_meetsIn PySem.F.slot_dict_setdefault dd.typeIs PySem.F.entry_dict_setdefault (PySem.F.args_dict_setdefault_3 _ _ _) (kt_meets_setdefault (Jg X.prog X.w) a (Qkw rk) hd vu) ⟨xs,dd,hl,λw hw=>?_,λhn h' dd' hs=>?_⟩
 ·have ro:=rel.val k
  rw [hw] at ro
  cases e:valV kvs k with
  | none=>rw [e] at ro;exact ro.elim
  | some b=>rw [e] at ro;exact ⟨b,H,I.tok _,ro,q1 b e⟩
 ·have ro:=rel.val k
  rw [hn] at ro
  cases e:valV kvs k with
  | some b=>rw [e] at ro;exact ro.elim
  | none =>
   have hlp:(putK kvs k y).length<=sizeLine:=by have:=Gp kvs k y;omega
   refine ⟨y,upd H a (.dK (putK kvs k y)),Qg3 (t':=s.toks+1) I (by rw [hH];trivial) hs ?_ (Qow hlp hd (rel.put k ry) dd'),ry,q2 e⟩
   obtain ⟨o,_,_,e',_⟩:=dd'
   exact ⟨o,e'⟩
end
theorem Qdo {α β:Type} {F:α->β->Prop}:∀{l₁:List α} {l₂:List β} {i:Nat} {a:α} {b:β},Paired F l₁ l₂->l₁[i]? = some a->l₂[i]? = some b->F a b
 | _,_,_,_,_,.nil,e,_=>by simp at e
 | _,_,0,_,_,.cons r _,e,e'=>by simp at e e';subst e;subst e';exact r
 | _,_,i+1,_,_,.cons _ t,e,e'=>Qdo (i:=i) t (by simpa using e) (by simpa using e')
theorem Qpl {n:Nat} (h:n<=1000):n<=2 ^ 24:=Nat.le_trans h (by decide)
section
variable {X:Cx}
theorem Qkf {a:Expr} {ta:TA} {p pos:Pos} (hg:Gl X "range") (hm:X.mg "range" = none) (ha:PA X [a] ta) (hs:starEach [a] X.env=[(false,eval a X.env)]:=by rfl) :
  PE X (.Call (.Name "range" p) [a] [] pos) (λσ H Q=>ta σ H λvs H1=>∃j:Int,vs=[.int j]/\∀r,H1 r=none->Q (.ref r) (upd H1 r (.rng 0 j))):=by
 intro pins s σ H Q I h
 refine Call_ (Qc2 I hg hm boot_range (PyProof.Rows.callWith_type1 (thn (ha pos pins s σ H _ I h) λus s1 ⟨vs,H1,I1,r1,q1⟩=>?_) hs rfl))
 obtain ⟨j,e,q⟩:=q1
 subst e
 obtain ⟨u,rfl,ru⟩:=Qae r1
 obtain ⟨t,rfl⟩:=ru
 refine call_range_1 ?_
 refine ⟨.ref s1.heap.objs.size,_,I1.laid (o:=.rng 0 j) (λb u e=>Heap.get?_push_of_some _ e) (Nat.le_refl _) ?_,rfl,q _ (I1.hok.fresh (Nat.le_refl _))⟩
 exact ⟨_,_,_,Heap.get?_push_size _ rfl⟩
theorem Qd3 (hc:X.calm=true):Z5 X (.type "list") (λxs H Q=>∃r j,xs=[.ref r]/\H r=some (.rng 0 j)/\0<=j/\j<=1000/\∀l,H l=none->Q (.ref l) (upd H l (.lst ((List.range j.toNat).map λi=>.int (i:Nat))))):=by
 intro pins s σ H xs us Q I r h
 obtain ⟨a,j,rfl,ha,h0,h1,q⟩:=h
 obtain ⟨u,rfl,ru⟩:=Qae r
 cases ru
 obtain ⟨t,u,v,e⟩:=I.hok a _ ha
 refine call_list_range (n:=j.toNat) (I.ok.hd hc) (show IsRange s.heap a 0 j 1 t u v from e) (small_one (by omega) (by omega) (by omega) (by omega)) (by rw [rangeSize_one];split <;> omega) (Qpl (by omega)) λh' tk acc c' kp hl hacc=>?_
 obtain ⟨hsz,hit⟩:=hacc
 have rv:Vals ((List.range j.toNat).map λi=>V.int (i:Nat)) acc.toList:=by
  have gen:∀(n:Nat) (l:List Value),l.length=n->(∀(j:Nat) v,l[j]? = some v->∃t,v=.int (0+(j:Int)*1) t)->Vals ((List.range n).map λi=>V.int (i:Nat)) l:=by
   intro n
   induction n with
   | zero=>intro l hl _;cases l with | nil=>exact .nil | cons=>simp at hl
   | succ n ih =>
    intro l hl hj
    have hne:l≠[]:=by intro z;rw [z] at hl;simp at hl
    have el:l=l.dropLast++[l.getLast hne]:=(List.dropLast_concat_getLast hne).symm
    rw [List.range_succ,List.map_append,el]
    refine Vals.append (ih _ (by rw [List.length_dropLast,hl];rfl) λj v e=>hj j v ?_) (.cons ?_ .nil)
    ·rw [List.getElem?_dropLast] at e
     split at e
     ·exact e
     ·cases e
    ·obtain ⟨t,e⟩:=hj n (l.getLast hne) (by rw [List.getLast_eq_getElem,List.getElem?_eq_getElem (by omega)];congr 1;simp [hl])
     exact ⟨t,by rw [e];congr 1;omega⟩
  refine gen _ _ (by rw [Array.length_toList];exact hsz) λj v e=>hit j v (by simpa using e)
 have hlen:((List.range j.toNat).map λi=>V.int (i:Nat)).length<=sizeLine:=by rw [List.length_map,List.length_range];have:=(by decide:1000<sizeLine);omega
 refine ⟨.ref s.heap.objs.size,_,I.laid (o:=.lst ((List.range j.toNat).map λi=>V.int (i:Nat))) (t':=tk) kp (Nat.le_refl _) ?_,rfl,q _ (I.hok.fresh (Nat.le_refl _))⟩
 exact ⟨hlen,acc.toList,c',rv,by rw [Array.toArray_toList];exact hl⟩
end
end L2
namespace L2
open PySem PySem.Spec PyProof.Rows
open PySem.W (Dat kqdP kqdPs kqdOk)
mutual
inductive DV (H:Hp):V->Dat->Prop
 | non:DV H .non .none
 | int (i:Int):DV H (.int i) (.int i)
 | str (x:Str):DV H (.str x) (.str x)
 | tup {a:Addr} {xs:List V} {ds:List Dat} (e:H a=some (.tup xs)) (r:DVs H xs ds):DV H (.ref a) (.tuple ds)
 | lst {a:Addr} {xs:List V} {ds:List Dat} (e:H a=some (.lst xs)) (r:DVs H xs ds):DV H (.ref a) (.list ds)
inductive DVs (H:Hp):List V->List Dat->Prop
 | nil:DVs H [] []
 | cons {x:V} {d:Dat} {xs:List V} {ds:List Dat} (h:DV H x d) (r:DVs H xs ds):DVs H (x::xs) (d::ds)
end
mutual
theorem DV.reads {P:Program} {w:World} {H:Hp} {h:Heap} (ok:HOk P w H h):∀{x:V} {d:Dat} {u:Value},DV H x d->RelV x u->∃as,Reads h u (kqdP d) as
 | _,_,_,.non,r=>by cases r;exact ⟨_,by rw [kqdP];exact Reads.none⟩
 | _,_,_,.int i,r=>by obtain ⟨t,rfl⟩:=r;exact ⟨_,by rw [kqdP];exact Reads.int i t⟩
 | _,_,_,.str x,r=>by obtain ⟨t,rfl⟩:=r;exact ⟨_,by rw [kqdP];exact Reads.str x t⟩
 | _,_,_,.tup (a:=a) e q,r=>by
  cases r
  obtain ⟨_,its,rv,o,h1,h2,n,h3⟩:=ok a _ e
  obtain ⟨as,z⟩:=DVs.reads ok q rv
  rw [kqdP]
  exact ⟨as,reads_tuple_at h1 h2 h3 (by simpa using z)⟩
 | _,_,_,.lst (a:=a) e q,r=>by
  cases r
  obtain ⟨_,its,n,rv,h1⟩:=ok a _ e
  obtain ⟨as,z⟩:=DVs.reads ok q rv
  rw [kqdP]
  exact ⟨_,reads_list_at h1 rfl rfl (by simpa using z)⟩
theorem DVs.reads {P:Program} {w:World} {H:Hp} {h:Heap} (ok:HOk P w H h):∀{xs:List V} {ds:List Dat} {us:List Value},DVs H xs ds->Vals xs us->∃as,ReadsAll h us (kqdPs ds) as
 | _,_,_,.nil,r=>by cases r;exact ⟨_,by rw [kqdPs];exact ReadsAll.nil⟩
 | _,_,_,.cons p q,r=>by
  cases r with
  | cons r1 r2 =>
   obtain ⟨as,z⟩:=DV.reads ok p r1
   obtain ⟨bs,y⟩:=DVs.reads ok q r2
   rw [kqdPs]
   exact ⟨_,ReadsAll.cons z y⟩
end
theorem Um {n:Nat} {d:Dat} (h:kqdOk n d=true) (hn:n<=9):SeqAt.shaped (kqdP d)=true:=by
 have l:=PySem.W.kqd_lay n d h
 unfold SeqAt.shaped
 rw [l.1,Bool.true_and]
 exact decide_eq_true (Nat.le_trans l.2 (Nat.le_trans hn (by decide)))
open Classical in
theorem Qlo {n k:Nat} {d e:Dat} (h:kqdOk n d=true) (h':kqdOk k e=true):PyData.eqv (kqdP d) (kqdP e)=decide (d=e):=by
 have q:=PySem.W.kqd_eqv n d e k h h'
 by_cases hq:d=e
 ·rw [decide_eq_true hq];exact q.mpr hq
 ·rw [decide_eq_false hq];exact Bool.eq_false_iff.mpr λx=>hq (q.mp x)
section
variable {X:Cx}
def rDat (neg:Bool):R2:=λx y H Q=>∃d e n,DV H x d/\DV H y e/\kqdOk n d=true/\kqdOk n e=true/\n<=9/\((d=e->Q (.bl (!neg)) H)/\(d≠e->Q (.bl neg) H))
theorem Qsl (hu:X.A.units+64<cLine):OpR X (compareOp .Eq) (rDat false):=by
 classical
 intro pins s σ H x y v u Q I rx ry h
 obtain ⟨d,e,n,dx,dy,hd,he,hn,q1,q2⟩:=h
 obtain ⟨as,ra⟩:=dx.reads I.hok rx
 obtain ⟨bs,rb⟩:=dy.reads I.hok ry
 refine eq_dataH ra rb (Um hd hn) (Um he hn) hu ?_
 rw [Qlo hd he]
 by_cases hq:d=e
 ·rw [decide_eq_true hq];exact ⟨.bl true,H,I,rfl,q1 hq⟩
 ·rw [decide_eq_false hq];exact ⟨.bl false,H,I,rfl,q2 hq⟩
theorem Qsi (hu:X.A.units+64<cLine):OpR X (compareOp .NotEq) (rDat true):=by
 classical
 intro pins s σ H x y v u Q I rx ry h
 obtain ⟨d,e,n,dx,dy,hd,he,hn,q1,q2⟩:=h
 obtain ⟨as,ra⟩:=dx.reads I.hok rx
 obtain ⟨bs,rb⟩:=dy.reads I.hok ry
 refine ne_dataH ra rb (Um hd hn) (Um he hn) hu ?_
 rw [Qlo hd he]
 by_cases hq:d=e
 ·rw [decide_eq_true hq];exact ⟨.bl false,H,I,rfl,q1 hq⟩
 ·rw [decide_eq_false hq];exact ⟨.bl true,H,I,rfl,q2 hq⟩
theorem Qg4:Z5 X (.builtin "isinstance") (λxs H Q=>∃x T t b,xs=[x,.ty T]/\TyOf X.K H x (.type t)/\PySem.W.kitOne X.K (.type t) (.type T)=some b/\Q (.bl b) H):=by
 intro pins s σ H xs us Q I r h
 obtain ⟨x,T,t,b,rfl,ty,e,q⟩:=h
 obtain ⟨u,c,rfl,ru,rc⟩:=Qjr r
 cases (show c=Value.type T from rc)
 exact Qkz I ru ty e λtk=>⟨.bl b,H,I.tok _,rfl,q⟩
end
end L2
namespace SortT
open PySem PySem.W PyProof.Rows
structure Ord (f:Nat->Nat->Bool):Prop where
 asym:∀i j,f i j=true->f j i=false
 tr:∀i j k,f j i=false->f k j=false->f k i=false
section
variable {f:Nat->Nat->Bool} (O:Ord f)
include O in
abbrev at_ (p:Array Nat) (i:Nat):Nat:=p.getD i 0
end
end SortT
namespace SortT
open PySem PySem.W PyProof.Rows
section
variable {N:Nat}
end
section
variable {prog:Program} {w:World} {A:Around} {E:Value->Shared->Prop} {s:Shared}
end
end SortT
namespace L2
open PySem PySem.Spec PyProof.Rows
theorem J2.there {P:Program} {w:World} {H:Hp} {h:Heap} {a:Addr} {o:HO} (x:J2 P w H h a o):∃ob,h.get? a=some ob:=by
 cases o with
 | lst xs=>obtain ⟨_,_,_,_,e⟩:=x;exact ⟨_,e⟩
 | tup xs=>obtain ⟨_,_,_,o,e,_⟩:=x;exact ⟨_,e⟩
 | dK kvs=>obtain ⟨_,_,_,_,o,_,_,e,_⟩:=x;exact ⟨_,e⟩
 | dT kvs=>obtain ⟨_,_,_,_,o,_,_,e,_⟩:=x;exact ⟨_,e⟩
 | set S n=>obtain ⟨o,_,_,_,e,_⟩:=x;exact ⟨_,e⟩
 | ins C dx fs=>obtain ⟨_,_,_,e,_⟩:=x;exact ⟨_,e⟩
 | own y=>exact x
 | xd fs=>obtain ⟨_,⟨_,_,_,e,_⟩,_⟩:=x;exact ⟨_,e⟩
 | rng lo hi=>obtain ⟨_,_,_,e⟩:=x;exact ⟨_,e⟩
 | frz ob u=>obtain ⟨e,_⟩:=x;exact ⟨_,e⟩
 | tbl ps=>obtain ⟨_,e,_⟩:=x;exact ⟨_,e⟩
 | met f y=>exact ⟨_,(show h.get? a=some _ from x)⟩
 | ext φ=>obtain ⟨_,e,_⟩:=x;exact e
section
variable {X:Cx}
end
end L2
namespace L2
open PySem PySem.Spec PyProof.Rows
end L2
namespace L2
open PySem PySem.Spec PyProof.Rows
theorem Qkx {P:Program} {w:World} {k:Key} {u:Value} (h:(Jg P w).is k u=true):RelV (kV k) u:=by
 rw [Qi0] at h
 rcases Jr h with ⟨i,t,rfl,rfl⟩ | ⟨x,t,rfl,rfl⟩
 ·exact ⟨t,rfl⟩
 ·exact ⟨t,rfl⟩
def Itk (d:Addr) (o:Obj) (kvs:List (Key × V)):It :=
 ⟨λi H=>H d=some (.frz o (.dK kvs))/\i<kvs.length,λi H x H'=>H'=H/\∃k v,kvs[i]? = some (k,v)/\x=kV k,λi H=>H d=some (.frz o (.dK kvs))/\kvs.length<=i⟩
theorem Qjs {P:Program} {w:World} {K:PySem.W.Frag} {tg:Expr} (d it:Addr) (o:Obj) (kvs:List (Key × V)) (vs:List (Key × Value)) (ep:Nat) (rel:KV kvs vs) (hdi:d≠it)
  (hd:∀h:Heap,h.get? d=some o->h.DictAt (Jg P w) d vs ep) :
  Turn P w K tg (Itk d o kvs) [it] it (λi h=>h.IsKeyIter it d i vs.length ep) where
 mem:=by simp
 obj:=λi h st b hb=>by
  have e:b=it:=by simpa using hb
  subst e
  obtain ⟨o,e,c,d⟩:=st
  exact ⟨o,e,λv z=>by rw [d] at z;cases z⟩
 keep:=λi h h' st k=>by
  obtain ⟨o,e,c,d⟩:=st
  exact ⟨o,k it (by simp) o e,c,d⟩
 item:=by
  intro X hP hw hK hc i pins s σ H E I hf st hg
  subst hP hw hK
  obtain ⟨hH,hlt⟩:=hg
  obtain ⟨e1,_⟩:=I.hok d _ hH
  obtain ⟨⟨k,y⟩,hx⟩:∃p,kvs[i]? = some p:=⟨kvs[i],by simp [hlt]⟩
  have hlen:kvs.length=vs.length:=Paired.length rel
  obtain ⟨⟨k',u⟩,hu⟩:∃p,vs[i]? = some p:=⟨vs[i]'(by omega),by simp [show i<vs.length by omega]⟩
  have rk:k=k':=(Qdo rel hx hu).1
  subst rk
  obtain ⟨f0,f1,f2,f3,f4,f5⟩:=hf it (by simp)
  refine wpAny_pyNext_dict_item st (hd _ e1) hu λkey h' hk st' sb=>?_
  have I1:Inv X pins σ H { s with heap:=h' }:=I.turned (t':=s.toks) (λb o hb e=>(sb.2 b hb).trans e) f0 f1 f3 f4 f5
  obtain ⟨oi,e,c,dd⟩:=id st'
  exact ⟨key,rfl,Qk2 (s:={ s with heap:=h' }) e c dd (by decide) ⟨kV k,H,I1,Qkx hk,⟨rfl,k,y,hx,rfl⟩,st',λb hb=>(hf b hb).1⟩⟩
 done:=by
  intro X hP hw hK hc i pins s σ H E I hf st hg
  subst hP hw hK
  obtain ⟨hH,hge⟩:=hg
  obtain ⟨e1,_⟩:=I.hok d _ hH
  have hlen:kvs.length=vs.length:=Paired.length rel
  obtain ⟨f0,f1,f2,f3,f4,f5⟩:=hf it (by simp)
  exact wpAny_pyNext_dict_end (I.ok.hd hc) st (hd _ e1) (List.getElem?_eq_none (by omega)) λh' eb=>⟨rfl,I.turned (t':=s.toks) (λb o hb e=>eb b o hb e) f0 f1 f3 f4 f5⟩
 self:=λ_ _ _ _ _ st h=>wpAny_pyIter_keyiter st h
section
variable {X:Cx}
def Quz (to:TE):TI:=λσ H R=>to σ H λx H1=>∃d kvs,x=.ref d/\H1 d=some (.dK kvs)/\∀o,R (Itk d o kvs) (upd H1 d (.frz o (.dK kvs)))
theorem Qp7 {tg o:Expr} {to:TE} (ho:PE X o to):PI X tg o (Quz to):=by
 intro pins s σ H R I h
 refine thn (ho pins s σ H _ I h) λv s1 ⟨x,H1,I1,r1,d,kvs,e,hd,q⟩=>?_
 subst e
 cases r1
 obtain ⟨z,hs,vs,rel,dd⟩:=Qnt I1.hok hd
 obtain ⟨ep,da⟩:=dd.dictAt
 obtain ⟨ob,es,hob,dr⟩:=id da
 refine wpAny_pyIter_dict (knd:=Jg X.prog X.w) (d:=d) (kvs:=vs) (ep:=ep) hs ⟨ob,es,hob,dr⟩ ?_
 have I3:=I1.kept (h':=s1.heap.push { cls:=.type "dict_keyiterator",data:=.fields #[.ref d,.int 0 0,.int vs.length 0,.int ep 0] }) (t':=s1.toks) λb u e=>Heap.get?_push_of_some _ e
 have hob3:=Heap.get?_push_of_some (h:=s1.heap) { cls:=.type "dict_keyiterator",data:=.fields #[.ref d,.int 0 0,.int vs.length 0,.int ep 0] } hob
 have I4:=I3.write (x:=d) (e:=d) (o:=.frz ob (.dK kvs)) (t':=s1.toks) (by rw [hd];trivial) (.inl rfl) (λb u _ q=>q) ⟨_,hob3⟩
  (show J2 X.prog X.w _ _ d (.frz ob (.dK kvs)) from ⟨hob3,z,hs,vs,rel,ob,es,ep,hob3,dr⟩)
 have hlt:d<s1.heap.objs.size:=Heap.lt_size hob
 refine ⟨s1.heap.objs.size,[s1.heap.objs.size],_,_,_,rfl,I4,
  Qjs d _ ob kvs vs ep rel (Nat.ne_of_lt hlt) (λh e=>⟨ob,es,e,dr⟩),⟨_,Heap.get?_push_size _ rfl,rfl,rfl⟩,λb hb=>?_,q ob⟩
 have e:b=s1.heap.objs.size:=by simpa using hb
 subst e
 exact I1.fpOk (Nat.le_refl _) (by rw [Qk (Nat.ne_of_gt hlt)];exact I1.hok.fresh (Nat.le_refl _))
end
end L2
namespace HT
open PySem PySem.Spec PyProof.Rows L2
section
variable {prog:Program} {w:World} {A:Around} {E:Value->Shared->Prop} {s:Shared}
theorem Qnz {t b:Addr} {ws:List Value} {Q:Value->Shared->Prop} (ht:IsTup s.heap t ([]:List Value).toArray) (hb:IsTup s.heap b ws.toArray) (h1:Q (.ref b) s):wpAny (model prog w) A (binaryOp .Add (.ref t) (.ref b)) Q E s:=by
 obtain ⟨⟨cls,dd,data,sl⟩,ho,hc,n,hd⟩:=id ht
 obtain ⟨⟨cls2,dd2,data2,sl2⟩,ho2,hc2,n2,hd2⟩:=id hb
 simp only at hc hd hc2 hd2
 subst hc hd hc2 hd2
 exact concat_meets ⟨_,ho,rfl⟩ ⟨_,ho2,rfl⟩ noFill_tuple_add seq_tuple_add PySem.F.slot_tuple_add PySem.F.entry_tuple_add (PySem.F.args_tuple_add_2 _ _)
   (tuple_addW0 t b ([]:List Value).toArray ws.toArray n n2 dd dd2 sl sl2 rfl) ⟨ho,ho2,h1⟩
theorem Gq {t sl:Addr} {items:Array Value} {vl vu:Value} {lo hi:Option Int} {Q:Value->Shared->Prop} (ht:IsTup s.heap t items) (hs:s.heap.IsSliceOf sl vl vu .none) (pl:IsPart vl lo) (pu:IsPart vu hi)
  (hw:sIx items.size 0 lo=0/\sIx items.size items.size hi=items.size)
  (h:Q (.ref t) s):wpAny (model prog w) A (getItem (.ref t) (.ref sl)) Q E s:=by
 obtain ⟨os,hos,hcs,hds⟩:=id hs
 have hTs:s.TypeIs (.ref sl) "slice":=⟨os,hos,hcs⟩
 unfold getItem
 try with_reducible refine wpAny_holding ?_
 first | refine wpAny_bind (wpAny_pure ?_) | skip
 refine wpAny_bind (wpAny_sequenceKey ht.typeIs (by decide) ?_)
 refine wpAny_bind (wpAny_callSpecial?_slot (name:=Str.ofString "__getitem__") ht.typeIs PyProof.Rows.slot_tuple_getitem
  (wpAny_call_entry PyProof.Rows.slot_tuple_getitem ht.typeIs entry_tuple_getitem ?_ (args_tuple_getitem _ _)))
 show wpAny _ _ (Builtin.Tuple.tupleItemsOf (.ref t) >>= _) _ _ s
 refine wpAny_bind (tupleItemsOf_ ht ?_)
 refine wpAny_bind (wpAny_typeOf hTs ?_)
 rw [if_pos (by decide)]
 refine wpAny_bind (Vs hs pl pu ?_)
 have hyes:(((sIx items.size 0 lo:Nat):Int) == 0 && (1:Int) == 1 && (sIx items.size items.size hi-sIx items.size 0 lo) == items.size)=true:=by
  rw [hw.1,hw.2];simp
 show wpAny _ _ (if (((sIx items.size 0 lo:Nat):Int) == 0 && (1:Int) == 1 && (sIx items.size items.size hi-sIx items.size 0 lo) == items.size)=true then _ else _) _ _ s
 rw [if_pos hyes]
 refine wpAny_bind (wpAny_bind (wpAny_typeOf ht.typeIs (wpAny_pure ?_)))
 rw [if_pos (by decide)]
 refine wpAny_bind (wpAny_rule ?_)
 first
  | exact wpAny_bind (wpAny_pure (wpAny_pure ⟨_,rfl,wpAny_pure h⟩))
  | exact wpAny_pure ⟨_,rfl,wpAny_pure h⟩
  | exact wpAny_bind (wpAny_pure ⟨_,rfl,wpAny_pure h⟩)
end
end HT
namespace L2
open PySem PySem.Spec PyProof.Rows
section
variable {X:Cx}
def Quh (K:PySem.W.Frag):R2:=λx y H Q=>∃a b ys,x=.ref a/\y=.ref b/\SqT K H a []/\SqT K H b ys/\Q (.ref b) H
theorem Qqj:OpR X (binaryOp .Add) (Quh X.K):=by
 intro pins s σ H x y v u Q I rx ry h
 obtain ⟨a,b,ys,rfl,rfl,ha,hb,q⟩:=h
 cases rx
 cases ry
 obtain ⟨its,r1,p1,_⟩:=I.tuple ha
 obtain ⟨its2,r2,p2,_⟩:=I.tuple hb
 have:its=[]:=by cases r1;rfl
 subst this
 exact HT.Qnz p1 p2 ⟨.ref b,H,I,rfl,q⟩
def rSlW (K:PySem.W.Frag):V->Option Int->Option Int->Hp->VK->Prop:=λx lo hi H Q=>∃a xs,x=.ref a/\SqT K H a xs /\
 (HT.sIx xs.length 0 lo=0/\HT.sIx xs.length xs.length hi=xs.length)/\Q (.ref a) H
theorem Qpm:SlR X (rSlW X.K):=by
 intro pins s σ H x v vl vu lo hi sl Q I rx hs pl pu h
 obtain ⟨a,xs,rfl,hx,hw,q⟩:=h
 cases rx
 obtain ⟨its,r,ht,hz⟩:=I.tuple hx
 have hlen:its.toArray.size=xs.length:=by rw [List.size_toArray];exact r.length.symm
 refine ⟨"tuple",_,PyProof.Rows.slot_tuple_getitem.lookup,ht.typeIs,?_⟩
 exact HT.Gq ht hs pl pu (by rw [hlen];exact hw) ⟨.ref a,H,I,rfl,q⟩
end
end L2
namespace HT
open PySem PySem.Spec PyProof.Rows L2
section
variable {prog:Program} {w:World} {K:Type} [DecidableEq K] {knd:KeyKind prog w K} {A:Around} {E:Value->Shared->Prop} {s:Shared}
end
section
variable {prog:Program} {w:World} {A:Around} {E:Value->Shared->Prop} {s:Shared}
end
section
variable {prog:Program} {w:World} {K:Type} [DecidableEq K] {knd:KeyKind prog w K} {A:Around} {E:Value->Shared->Prop} {s:Shared}
end
end HT
namespace L2
open PySem PySem.Spec PyProof.Rows
section
variable {X:Cx}
end
end L2
namespace L2
open PySem PySem.Spec PyProof.Rows
section
variable {X:Cx}
variable {o e:Expr} {es:List Expr} {to:TE} {t:TA} {name:Str} {apos cpos:Pos} {T id:String} {r:V->List V->Hp->VK->Prop}
def isN (n:Int):Value->Bool
 | .int m _=>m == n
 | _=>false
end
end L2
namespace L2
open PySem PySem.Spec PyProof.Rows
section
variable {prog:Program} {w:World} {A:Around} {R:Result->Shared->Prop} {s:Shared}
theorem Qci {elt target iter:Expr} {ifs:List Expr} {scope:Scope} {pos:Pos} {it acc:Value} {env:Env} (I:Nat->Shared->Prop)
  (turn:∀n s,I n s->wpAny (model prog w) A (pyNext it) (λr s₁=>match r with
   | none=>R (.ok .next) s₁
   | some v=>wpAny (model prog w) A (letOwnedTupleGo target it v) (λ_ s₀=>wpAny (model prog w) A (assign target env v) (λ_ s₂ =>
     wpAny (model prog w) A (forIn ifs true λc r=>if r=true then do let ok ← isTrue c env (eval c env);pure (ForInStep.yield ok) else pure (ForInStep.yield r)) (λok s₃ =>
      if ok=true then wpAny (model prog w) A (eval elt env) (λx s₄ =>
       wpAny (model prog w) A (call (.builtin "list.append") [acc,x]) (λ_ s₅=>∃m,m<n/\I m s₅) (notedBy (model prog w) A env λe s'=>R (.error e) s') s₄) (notedBy (model prog w) A env λe s'=>R (.error e) s') s₃
      else ∃m,m<n/\I m s₃) (notedBy (model prog w) A env λe s'=>R (.error e) s') s₂) (notedBy (model prog w) A env λe s'=>R (.error e) s') s₀) (notedBy (model prog w) A env λe s'=>R (.error e) s') s₁) (notedBy (model prog w) A env λe s'=>R (.error e) s') s)
  (n:Nat) (h:I n s):codeAny (model prog w) A (.compLoop (.ListComp elt [⟨target,iter,ifs,0⟩] scope pos) 0 it acc env) R s:=by
 refine codeAny_loop rfl I (λn s hI=>?_) n h
 show wpAny _ A ((compTurn (.ListComp elt [⟨target,iter,ifs,0⟩] scope pos) 0 it acc env).onRaise (λx=>do noteFrame x env;theTreesLotGoes x)) _ _ s
 refine wpAny_noted ?_
 rw [compTurn_list]
 refine wpAny_bind (wpAny_standAt (wpAny_bind (wpAny_mono (turn n s hI) (λr s₁ h₁=>?_) λ_ _ h'=>h')))
 cases r with
 | none=>exact wpAny_pure h₁
 | some v =>
  refine wpAny_bind (wpAny_mono h₁ (λ_ s₀ h₀=>?_) λ_ _ h'=>h')
  refine wpAny_bind (wpAny_mono h₀ (λ_ s₂ h₂=>wpAny_bind (wpAny_mono h₂ (λok s₃ h₃=>?_) λ_ _ h'=>h')) λ_ _ h'=>h')
  cases ok with
  | false=>exact wpAny_pure ⟨rfl,h₃⟩
  | true =>
   exact wpAny_bind (wpAny_bind (wpAny_mono h₃ (λx s₄ h₄=>wpAny_bind (wpAny_mono h₄ (λ_ s₅ h₅=>wpAny_pure (wpAny_pure ⟨rfl,h₅⟩)) λ_ _ h'=>h')) λ_ _ h'=>h'))
end
def bN2 (N:List Str) (ts:List Str) (ix:List Nat):List Str:=ts++ix.map λi=>N.getD i Str.empty
def bS2 (σ:St) (o:List (Option V)) (ix:List Nat):St:=o++ix.map λi=>(σ[i]?).getD none
section
variable {X:Cx}
theorem Qlv {elt iter:Expr} {x:Str} {ts:List Str} {tg:Expr} {gt:TG} {pos:Pos} {scope:Scope} {te:TE} {tt:TT} {ifs:List Expr} {ix:List Nat} {pins:List (Addr × Obj)} {s:Shared} {σ:St} {H:Hp} {cl:List (Str × Addr)}
  {J:It} {fp:List Addr} {it:Addr} {tn:Nat->Heap->Prop} {E:Value->Shared->Prop} {RR:Value->Addr->Result->Shared->Prop} {G:List V->Hp->Prop}
  (I:Inv X pins σ H s) (hc:X.calm=true) (B:BlkScope X.env scope x) (h1:∀y c,cl.lookup y=some c->X.env.cells.lookup y=some c) (h3:∀y∈scope.names,y.2=.free->∃c,cl.lookup y.1=some c)
  (hix:∀i∈ix,∃y,X.N[i]? = some y/\scope.names.lookup y=some .free) (hN:(bN2 X.N ts ix).Nodup)
  (T:Turn X.prog X.w X.K tg J fp it tn) (st:tn 0 s.heap) (hf:∀b∈fp,FpOk X pins H b)
  (hg:∀cl C s₀ H₀ fp,PG (Yz X scope cl C (bN2 X.N ts ix) s₀ H₀ fp) tg gt)
  (he:∀cl C s₀ H₀ fp,PE (Yz X scope cl C (bN2 X.N ts ix) s₀ H₀ fp) elt te)
  (hi:∀cl C s₀ H₀ fp,PIfs (Yz X scope cl C (bN2 X.N ts ix) s₀ H₀ fp) ifs tt)
  (W:Nat->Nat->List V->Hp->Prop) (m₀:Nat) (w0:W 0 m₀ [] H)
  (turn:∀i m ys H,W i m ys H->(J.stop i H/\ys.length<=sizeLine/\G ys H)\/(J.go i H/\ys.length<sizeLine/\∀v H',J.yld i H v H'->∀o:List (Option V),o.length=ts.length->gt v (bS2 σ o ix) H' λσ2 H2=>∃o2:List (Option V),σ2=bS2 σ o2 ix/\o2.length=ts.length /\
    tt σ2 H2 λb H1=>if b=true then te σ2 H1 λy H2=>∃m',m' < m/\W (i+1) m' (ys++[y]) H2 else ∃m',m' < m/\W (i+1) m' ys H1))
  (hRR:∀D C s' ys H',Inv X pins σ (upd H' D (.lst ys)) s'->H' D=none->H' C=none->(∃m,s'.heap.Ns C m)->s.heap.objs.size<=C->D≠C->G ys H'->RR (.ref D) C (.ok .next) s') :
  wpAny (model X.prog X.w) X.A (newList []) (λacc s₃=>wpAny (model X.prog X.w) X.A (newFunctionEnv scope X.env.globals cl [] X.env.qual none .none (some X.env)) (λcenv s₄ =>
   codeAny (model X.prog X.w) X.A (.compStart (.ListComp elt [⟨tg,iter,ifs,0⟩] scope pos) 0 (.ref it) acc { cenv with scope:=relabel scope X.env }) (RR acc cenv.locals) s₄) E s₃) E s:=by
 have hl:∀b∈fp,b<s.heap.objs.size:=λb hb=>by obtain ⟨o,e,_⟩:=T.obj 0 _ st b hb;exact Heap.lt_size e
 refine wpAny_newObj_type (wpAny_newFunctionEnv B.cells (by intro y hy;simp at hy) (λh₁ hns₁ hsb₁=>?_) B.kind)
 dsimp only at hns₁ hsb₁ ⊢
 generalize hH2:s.heap.push { cls:=.type "list",dict:=none,data:=.seq ([]:List Value).toArray }=H2 at hns₁ hsb₁ ⊢
 have hC:H2.objs.size=s.heap.objs.size+1:=by rw [← hH2,Heap.size_push]
 generalize hD:s.heap.objs.size=D at hC hl hRR ⊢
 generalize hCC:H2.objs.size=C at hC hns₁ hsb₁ ⊢
 have hDC:D≠C:=by omega
 have old:∀b o,s.heap.get? b=some o->h₁.get? b=some o:=λb o e=>hsb₁.extBut b o (Nat.ne_of_lt (by have z:=Heap.lt_size e;rw [hD] at z;exact Nat.lt_of_lt_of_le z (by rw [hC];exact Nat.le_succ _))) (Heap.get?_push_of_some _ (hH2 ▸ Heap.get?_push_of_some _ e))
 have hacc:h₁.get? D=some { cls:=.type "list",data:=.seq ([]:List Value).toArray 0 }:=hsb₁.extBut _ _ hDC (Heap.get?_push_of_some _ (hH2 ▸ (by rw [← hD];exact Heap.get?_push_size _ rfl)))
 have hfr:∀a,D<=a->s.heap.get? a=none:=λa ha=>by
  cases e:s.heap.get? a with
  | none=>rfl
  | some o=>exact absurd (Heap.lt_size e) (by rw [hD];exact Nat.not_lt.mpr ha)
 have hHn:∀a,D<=a->H a=none:=λa ha=>I.hok.fresh (by omega)
 have ok:(Yz X scope cl C (bN2 X.N ts ix) s H fp).Ok:=Qo4 I B h1 h3 (by omega) hf (by rw [hD];exact hl)
 generalize hK:Yz X scope cl C (bN2 X.N ts ix) s H fp=K at ok
 have kp:K.prog=X.prog:=by rw [← hK];rfl
 have kw:K.w=X.w:=by rw [← hK];rfl
 have kK:K.K=X.K:=by rw [← hK];rfl
 have kA:K.A=X.A:=by rw [← hK];rfl
 have kc:K.calm=true:=by rw [← hK];exact hc
 have kN:K.N=bN2 X.N ts ix:=by rw [← hK];rfl
 have kenv:K.env=compEnvC scope cl C X.env:=by rw [← hK];rfl
 have kloc:K.env.locals=C:=by rw [← hK];rfl
 have kfs:K.fs=frs X.stack:=by rw [← hK];rfl
 have kex:K.ex=fp:=by rw [← hK];rfl
 have kpn:K.pn=[]:=by rw [← hK];rfl
 have ks:K.s₀=s:=by rw [← hK];rfl
 have kH:K.H₀=H:=by rw [← hK];rfl
 have kx:K.xe=λ_ _=>False:=by rw [← hK];rfl
 have kcl:K.env.cells=cl:=by rw [← hK];rfl
 have cellLt:∀y c,cl.lookup y=some c->c<D:=λy c q=>by obtain ⟨v,z⟩:=I.cell y c (h1 y c q);rw [← hD];exact z.lt
 have stkLt:∀b∈frs X.stack,b<D:=λb hb=>by
  rcases List.mem_cons.mp (I.stkSub b hb) with q | q
  ·rw [q,← hD];exact I.lt
  ·rcases Nat.lt_or_ge b D with z | z
   ·exact z
   ·exact absurd q (I.nofs (by omega))
 -- the state at the block's begin
 have I0:∀tk,Inv K [(D,{ cls:=.type "list",data:=.seq ([]:List Value).toArray 0 })] (bS2 σ (ts.map λ_=>none) ix) H { s with heap:=h₁,toks:=tk }:=λtk=>by
  refine ⟨ok,by rw [ks],I.bare,by rw [ks,kH];exact Un.kept old,?_,?_,?_,?_,?_,by rw [kp,kw];exact I.hok.kept old,?_⟩
  ·refine ⟨_,by rw [kloc];exact hns₁,λi y v e1 e2 e3=>?_⟩
   rw [kN] at e1
   by_cases hlt:i<ts.length
   ·unfold bS2 at e2
    rw [List.getElem?_append_left (by simpa using hlt),List.getElem?_map] at e2
    cases hts:ts[i]? with
    | none=>rw [hts] at e2;cases e2
    | some y'=>rw [hts] at e2;have e2:(some (none:Option V))=some (some v):=e2;cases e2
   ·obtain ⟨i,rfl⟩:∃i',i=ts.length+i':=⟨i-ts.length,by omega⟩
    have e1':(ix.map λi=>X.N.getD i Str.empty)[i]? = some y:=by
     unfold bN2 at e1
     rw [List.getElem?_append_right (by omega),show ts.length+i-ts.length=i by omega] at e1
     exact e1
    have e2':(ix.map λi=>(σ[i]?).getD none)[i]? = some (some v):=by
     unfold bS2 at e2
     rw [List.getElem?_append_right (by rw [List.length_map];omega),List.length_map,show ts.length+i-ts.length=i by omega] at e2
     exact e2
    rw [List.getElem?_map] at e1' e2'
    cases q:ix[i]? with
    | none=>rw [q] at e1';cases e1'
    | some j =>
     rw [q] at e1' e2'
     obtain ⟨y',a1,a2⟩:=hix j (List.mem_of_getElem? q)
     have a3:X.N.getD j Str.empty=y':=by simp [List.getD,a1]
     have ey:y'=y:=by rw [← a3];exact Option.some.inj e1'
     subst ey
     have es:σ[j]? = some (some v):=by
      have z:(σ[j]?).getD none=some v:=Option.some.inj e2'
      cases w:σ[j]? with
      | none=>rw [w] at z;cases z
      | some o=>rw [w] at z;have z':o=some v:=z;rw [z']
     obtain ⟨m,hn,hlk⟩:=I.loc
     have hk:=B.free (y',.free) (PySem.mem_of_lookup a2) rfl
     have hk:X.env.kindOf y'=some .cell\/X.env.kindOf y'=some .free:=hk
     have vis:Vis X.env.scope y':=hk.elim (λz=>.inr (.inl z)) λz=>.inr (.inr z)
     obtain ⟨u,ru,lk⟩:=hlk j y' v a1 es vis
     refine ⟨u,ru,?_⟩
     rcases lk with ⟨k,_⟩ | ⟨_,c,ec,ce⟩
     ·rcases hk with z | z <;> (rw [k] at z;cases z)
     ·obtain ⟨c',ec'⟩:=h3 (y',.free) (PySem.mem_of_lookup a2) rfl
      have ec':cl.lookup y'=some c':=ec'
      have:c'=c:=Option.some.inj ((h1 y' c' ec').symm.trans ec)
      subst this
      refine .inr ⟨?_,c',by rw [kcl];exact ec',?_⟩
      ·show K.env.scope.names.lookup y'=_\/K.env.scope.names.lookup y'=_
       rw [kenv]
       exact Yk a2
      ·obtain ⟨oc,hoc,r⟩:=ce
       exact ⟨oc,old _ _ hoc,r⟩
  ·intro y c q
   rw [kcl] at q
   obtain ⟨v,oc,hoc,r⟩:=I.cell y c (h1 y c q)
   exact ⟨v,oc,old _ _ hoc,r⟩
  ·rw [kloc];exact hHn _ (by omega)
  ·intro y c q
   rw [kcl] at q
   exact I.freeC y c (h1 y c q)
  ·intro p hp
   rw [kpn] at hp
   have e:p=(D,{ cls:=.type "list",data:=.seq ([]:List Value).toArray 0 }):=by simpa using hp
   subst e
   refine ⟨hacc,hHn _ (Nat.le_refl _),by rw [kloc];exact hDC,?_,λv z=>?_⟩
   ·rw [kfs];intro z;exact absurd (stkLt D z) (Nat.lt_irrefl _)
   ·have z':Data.seq _ _=Data.cell v:=z
    cases z'
  ·rw [kN];simp [bS2,bN2]
 have stat:∀{H':Hp} {ob:Obj},(∀b∈fp,H' b=none)->∀b∈fp,FpOk K [(D,ob)] H' b:=λ{H' ob} hn b hb=>by
  refine ⟨hn b hb,?_,?_,.inl (by rw [kex];exact hb),?_,?_⟩
  ·rw [kloc];exact Nat.ne_of_lt (Nat.lt_of_lt_of_le (hl b hb) (by rw [hC];exact Nat.le_succ _))
  ·rw [kfs];intro z
   rcases List.mem_cons.mp (I.stkSub b z) with q | q
   ·exact (hf b hb).2.1 q
   ·exact (hf b hb).2.2.1 q
  ·intro y c q;rw [kcl] at q;exact (hf b hb).2.2.2.2.1 y c (h1 y c q)
  ·intro p hp;rw [kpn] at hp
   have e:p=(D,ob):=by simpa using hp
   subst e
   exact Nat.ne_of_gt (hl b hb)
 have st₁:tn 0 h₁:=T.keep _ _ _ st λb hb o e=>old b o e
 have loop:∀tk,codeAny (model X.prog X.w) X.A (.compLoop (.ListComp elt [⟨tg,iter,ifs,0⟩] scope pos) 0 (.ref it) (.ref D) (compEnvC scope cl C X.env)) (RR (.ref D) C) { s with heap:=h₁,toks:=tk }:=by
  intro tk
  refine Qci (λn s'=>∃i o H' ys its c,o.length=ts.length/\Inv K [(D,{ cls:=.type "list",data:=.seq (its:List Value).toArray c })] (bS2 σ o ix) H' s'/\Vals ys its/\tn i s'.heap/\(∀b∈fp,H' b=none)/\W i n ys H') ?_ m₀
   ⟨0,ts.map (λ_=>none),H,[],[],0,by simp,I0 tk,.nil,st₁,λb hb=>(hf b hb).1,w0⟩
  rintro n s1 ⟨i,o,H1,ys,its,c,ol,I1,rv,t1,f1,w1⟩
  rcases turn i n ys H1 w1 with ⟨stop,hz,g⟩ | ⟨go,hz,step⟩
  ·have dn:=T.done K kp kw kK kc i _ s1 _ H1 (notedBy (model X.prog X.w) X.A (compEnvC scope cl C X.env) λe s'=>RR (.ref D) C (.error e) s') I1 (stat f1) t1 stop
   rw [kA] at dn
   refine thn dn λr s2 ⟨hr,I2⟩=>?_
   subst hr
   obtain ⟨p1,p2,p3,p4,p5⟩:=I2.pin (D,{ cls:=.type "list",data:=.seq its.toArray c }) (List.mem_append_right _ (List.mem_singleton.mpr rfl))
   have u2:=I2.base
   rw [kfs,kex,kH,ks] at u2
   refine hRR D C s2 ys H1 ?_ p2 (by rw [← kloc];exact I2.free) (by obtain ⟨m,hm,_⟩:=I2.loc;rw [kloc] at hm;exact ⟨m,hm⟩) (by omega) hDC g
   have hk2:HOk X.prog X.w H1 s2.heap:=by have:=I2.hok;rw [kp,kw] at this;exact this
   refine I.call' (ch:=fp) (by have:=I2.os;rw [ks] at this;exact this) (u2.add (hfr D (Nat.le_refl _)) (hHn D (Nat.le_refl _))) (hk2.add p2 ⟨hz,its,c,rv,p1⟩) I2.bare λb hb=>?_
   exact ⟨(hf b hb).2.2.2.1,(hf b hb).2.1,(hf b hb).2.2.2.2.1,(hf b hb).2.2.2.2.2⟩
  ·have im:=T.item K kp kw kK kc i _ s1 _ H1 (notedBy (model X.prog X.w) X.A (compEnvC scope cl C X.env) λe s'=>RR (.ref D) C (.error e) s') I1 (stat f1) t1 go
   rw [kA] at im
   refine thn im λr s2 ⟨u,hr,h2⟩=>?_
   subst hr
   refine thn h2 λ_ s3 ⟨v,H3,I3,r3,y3,t3,f3⟩=>?_
   have q3:=step v H3 y3 o ol
   have I3':=I3.pinned (stat f3) (T.obj _ _ t3)
   have hg':=hg cl C s H fp
   rw [hK] at hg'
   have hgv:=hg' _ s3 _ H3 v u _ I3' r3 q3
   rw [kx,kp,kw,kA,kenv] at hgv
   refine wpAny_mono hgv (λ_ s4 ⟨σ4,H4,I4,o4,e4,l4,q4⟩=>?_) λ_ _ z=>z.elim
   subst e4
   have hi':=hi cl C s H fp
   rw [hK] at hi'
   have hiv:=hi' _ s4 _ H4 _ I4 q4
   rw [kx,kp,kw,kA,kenv] at hiv
   refine wpAny_mono hiv (λok s5 ⟨H5,I5,q5⟩=>?_) λ_ _ z=>z.elim
   have back:∀{H7:Hp} {s7:Shared} {o7:List (Option V)},Inv K ([(D,{ cls:=.type "list",data:=.seq its.toArray c })]++Qac fp s3.heap) (bS2 σ o7 ix) H7 s7->tn (i+1) s7.heap/\∀b∈fp,H7 b=none:=λ{H7 s7 o7} I7=>by
    refine ⟨T.keep _ _ _ t3 λb hb o e=>(I7.pin (b,o) (List.mem_append_right _ (List.mem_append_right _ (Yn hb e)))).1,λb hb=>?_⟩
    obtain ⟨ob,e,d⟩:=T.obj _ _ t3 b hb
    exact (I7.pin (b,ob) (List.mem_append_right _ (List.mem_append_right _ (Yn hb e)))).2.1
   cases ok with
   | false =>
    rw [if_neg Bool.false_ne_true]
    have q5:∃m',m' < n/\W (i+1) m' ys H5:=q5
    obtain ⟨m',hm,w5⟩:=q5
    obtain ⟨b1,b2⟩:=back I5
    exact ⟨m',hm,i+1,o4,H5,ys,its,c,l4,I5.unpinned,rv,b1,b2,w5⟩
   | true =>
    rw [if_pos rfl]
    have q5:te (bS2 σ o4 ix) H5 λy H2=>∃m',m' < n/\W (i+1) m' (ys++[y]) H2:=q5
    have he':=he cl C s H fp
    rw [hK] at he'
    have hev:=he' _ s5 _ H5 _ I5 q5
    rw [kx,kp,kw,kA,kenv] at hev
    refine wpAny_mono hev (λy s6 ⟨yv,H6,I6,r6,m',hm,w6⟩=>?_) λ_ _ z=>z.elim
    obtain ⟨b1,b2⟩:=back I6
    have I6':=I6.unpinned
    obtain ⟨p1,p2,p3,p4,p5⟩:=I6'.pin (D,{ cls:=.type "list",data:=.seq its.toArray c }) (List.mem_append_right _ (List.mem_singleton.mpr rfl))
    have hlen:=rv.length
    refine call_meets F.slot_list_append ⟨_,p1,rfl⟩ F.entry_list_append (F.args_list_append_2 _ _) (PySem.list_append D its.toArray c y (by rw [List.size_toArray];omega)) ⟨p1,?_⟩
    have ea:its.toArray.push y=(its++[y]).toArray:=by simp
    obtain ⟨c',q⟩:∃c',(s6.heap.update D (Obj.mapSeq (·.push y))).get? D=some { cls:=.type "list",data:=.seq (its++[y]).toArray c' }:=⟨_,by rw [← ea];exact PySem.IsL.update p1 (·.push y)⟩
    refine ⟨m',hm,i+1,o4,H6,ys++[yv],its++[y],c',l4,?_,rv.append (.cons r6 .nil),T.keep _ _ _ b1 λb hb o e=>?_,b2,w6⟩
    ·have Id:Inv K [] (bS2 σ o4 ix) H6 s6:=I6'.pins_of λp hp=>by simp at hp
     have It:Inv K [] (bS2 σ o4 ix) H6 { s6 with heap:=s6.heap.update D (Obj.mapSeq (·.push y)) }:=Id.turned (t':=s6.toks) (it:=D) (λb o hb e=>(Heap.get?_update_other _ _ (Ne.symm hb)).trans e) p2 p3
      (.inr (by rw [ks];omega)) (λy' c' e=>by rw [kcl] at e;exact Nat.ne_of_lt (cellLt y' c' e)) (λp hp=>by rw [kpn] at hp;simp at hp)
     refine It.pins_of λp hp=>?_
     obtain rfl:p=(D,{ cls:=.type "list",data:=.seq (its++[y]).toArray c' }):=by simpa using hp
     refine ⟨q,p2,p3,p4,λv z=>?_⟩
     have z':Data.seq _ _=Data.cell v:=z
     cases z'
    ·exact (Heap.get?_update_other _ _ (Nat.ne_of_gt (hl b hb))).trans e
 have selfs:wpAny (model X.prog X.w) X.A (pyIter (.ref it)) (λit' s'=>codeAny (model X.prog X.w) X.A (.compLoop (.ListComp elt [⟨tg,iter,ifs,0⟩] scope pos) 0 it' (.ref D) (compEnvC scope cl C X.env)) (RR (.ref D) C) s')
   (notedBy (model X.prog X.w) X.A (compEnvC scope cl C X.env) λe s'=>RR (.ref D) C (.error e) s') { s with heap:=h₁,toks:=s.toks+([]:List (Str × Value)).length }:=T.self X.A 0 _ _ _ st₁ (loop _)
 exact codeAny_compStart_list (loop _) selfs
def Qoe (ts:List Str) (wi:TI) (gt:TG) (tt:TT) (te:TE) (ix:List Nat):TE:=λσ H Q=>wi σ H λJ H1=>∃(W:Nat->Nat->List V->Hp->Prop) (m₀:Nat),W 0 m₀ [] H1 /\
 ∀i m ys H,W i m ys H->(J.stop i H/\ys.length<=sizeLine/\∀l,H l=none->Q (.ref l) (upd H l (.lst ys)))\/(J.go i H/\ys.length<sizeLine/\∀v H',J.yld i H v H'->∀o:List (Option V),o.length=ts.length->gt v (bS2 σ o ix) H' λσ2 H2=>∃o2:List (Option V),σ2=bS2 σ o2 ix/\o2.length=ts.length /\
  tt σ2 H2 λb H1=>if b=true then te σ2 H1 λy H2=>∃m',m' < m/\W (i+1) m' (ys++[y]) H2 else ∃m',m' < m/\W (i+1) m' ys H1)
theorem Qmw {elt iter:Expr} {x y:Str} {ts:List Str} {tg:Expr} {gt:TG} {py pos spos:Pos} {scope:Scope} {te:TE} {tt:TT} {wi:TI} {ifs:List Expr} {j:Nat} (ix:List Nat) (hc:X.calm=true) (B:BlkScope X.env scope x)
  (hNd:X.N.Nodup) (hj:X.N[j]? = some y) (hy:Loc X.env.scope y)
  (hsw:swapsWith (.ListComp elt [⟨tg,iter,ifs,0⟩] scope pos) (some (.Name y py)) spos.line X.env=pure true)
  (hix:∀i∈ix,∃y,X.N[i]? = some y/\scope.names.lookup y=some .free) (hN:(bN2 X.N ts ix).Nodup) (hi:PI X tg iter wi)
  (hg:∀cl C s₀ H₀ fp,PG (Yz X scope cl C (bN2 X.N ts ix) s₀ H₀ fp) tg gt)
  (ht:∀cl C s₀ H₀ fp,PIfs (Yz X scope cl C (bN2 X.N ts ix) s₀ H₀ fp) ifs tt)
  (he:∀cl C s₀ H₀ fp,PE (Yz X scope cl C (bN2 X.N ts ix) s₀ H₀ fp) elt te)
  (hf:X.fn y=true\/X.env.scope.names.lookup y=some .local:=by first | exact .inl rfl | exact .inr rfl | assumption)
  (hs:∀x,foldedSetIterable iter X.env x=pure x:=by intro _;rfl) :
  PS X (.Assign [.Name y py] (.ListComp elt [⟨tg,iter,ifs,0⟩] scope pos) spos) (tAsg (Qoe ts wi gt tt te ix) (Qdu j)):=by
 intro pins s σ H D0 I h
 obtain ⟨cl,hcl,h1,h3⟩:=Gv (Qd5 I B)
 rw [exec_Assign_Name_used _ _ _ _ hsw]
 refine wpAny_bind (wpAny_standAt (wpAny_bind ?_))
 show wpAny _ X.A (do let _ ← comprehension (.ListComp elt [⟨tg,iter,ifs,0⟩] scope pos) scope X.env _ (newList []) false (eval iter X.env) (some (assign (.Name y py) X.env))) _ _ s
 refine wpAny_bind (wpAny_mono (wpAny_comprehension_free (use:=some (assign (.Name y py) X.env)) (Q:=λ_ s'=>SP X pins D0 .next s') rfl hs hcl B.kind B.names
  (thn (hi pins s σ H _ I h) λv s1 h1'=>thn h1' λitv s2 h2=>?_)) (λ_ s' hq=>wpAny_pure (wpAny_pure hq)) λ_ _ e=>e)
 obtain ⟨it,fp,tn,J,H2,e,I2,T,st2,f2,W,m0,w0,turn⟩:=h2
 subst e
 refine Qlv (G:=λys H'=>∀l,H' l=none->Qdu j (.ref l) σ (upd H' l (.lst ys)) D0.nx) I2 hc B h1 h3 hix hN T st2 f2 hg he ht W m0 w0 turn λD C s' ys H' I' hD hC hm hCs hDC g=>?_
 obtain ⟨m,hm⟩:=hm
 have hCn:upd H' D (.lst ys) C=none:=by rw [Qk (Ne.symm hDC)];exact hC
 show wpAny _ _ (assign (.Name y py) X.env (.ref D)) _ _ s'
 refine wpAny_assign_Name (Qa0 I' hNd hj hy (show RelV (.ref D) (.ref D) from rfl) (λs3 I3 ⟨a,hsa,ha⟩=>?_) hf)
 have hCa:C≠a:=by
  rcases ha with z | z
  ·rw [z];exact Nat.ne_of_gt (Nat.lt_of_lt_of_le I2.lt hCs)
  ·obtain ⟨v,q⟩:=I2.cell y a z;exact Nat.ne_of_gt (Nat.lt_of_lt_of_le q.lt hCs)
 exact ⟨m,hm.sameBut hsa hCa,λh' hsb=>⟨_,_,I2.blkGone I3 hCs hCn hsb,g D hD⟩⟩
end
end L2
namespace HT
open PySem PySem.Spec PyProof.Rows L2
section
variable {prog:Program} {w:World} {A:Around} {E:Value->Shared->Prop} {s:Shared}
end
section
variable {prog:Program} {w:World} {A:Around} {E:Value->Shared->Prop} {s:Shared}
end
end HT
namespace L2
open PySem PySem.Spec PyProof.Rows
section
variable {X:Cx}
theorem Qcq:∀{bs:List Bool} {its:List Value},Vals (bs.map V.bl) its->its=bs.map Value.bool
 | [],_,r=>by rw [List.map_nil] at r;cases r;rfl
 | b::bs,_,r=>by
  rw [List.map_cons] at r
  cases r with
  | cons h t=>rw [Qcq t];cases h;rfl
def rAll:List V->Hp->VK->Prop:=λxs H Q=>∃(l:Addr) (bs:List Bool),xs=[.ref l]/\H l=some (.lst (bs.map V.bl))/\Q (.bl (bs.all id)) H
theorem Qn2 (hc:X.calm=true):Z5 X (.builtin "all") rAll:=by
 intro pins s σ H xs us Q I r h
 obtain ⟨l,bs,rfl,hl,q⟩:=h
 obtain ⟨u,rfl,ru⟩:=Qae r
 cases ru
 obtain ⟨z,its,n,rv,e⟩:=I.hok l _ hl
 have eits:=Qcq rv
 subst eits
 have hlist:s.heap.IsList l (bs.map Value.bool).toArray:=⟨_,e,rfl,n,rfl⟩
 refine call_all_walk (wpAny_pyIter_list hlist ?_)
 have hlt:l<s.heap.objs.size:=Heap.lt_size e
 refine ⟨_,_,_,_,_,_,λi=>bs.getD i false,rfl,Walks.list (A:=X.A.in1) (I.ok.hd hc) _ l (Nat.ne_of_lt hlt) (bs.map Value.bool).toArray,⟨⟨_,Heap.get?_push_size _ rfl,rfl,rfl⟩,hlist.push _⟩,?_,λh' tk hk=>?_⟩
 ·intro i v A' s' Q' hP hQ
  have hv:(bs.map Value.bool)[i]? = some v:=by simpa using hP
  rw [List.getElem?_map] at hv
  cases hb:bs[i]? with
  | none=>rw [hb] at hv;cases hv
  | some b =>
   rw [hb] at hv
   cases hv
   have:bs.getD i false=b:=by simp [List.getD_eq_getElem?_getD,hb]
   have hQ:s' (bs.getD i false) A':=hQ
   rw [this] at hQ
   exact wpAny_pure hQ
 ·refine ⟨.bl (bs.all id),H,I.kept (t':=tk) λb o eb=>hk b o (λhm=>?_) (Heap.get?_push_of_some _ eb),?_,q⟩
  ·rw [List.mem_singleton.mp hm] at eb
   exact absurd (Heap.lt_size eb) (Nat.lt_irrefl _)
  ·show Value.bool _=Value.bool _
   congr 1
   rw [List.size_toArray,List.length_map]
   rw [show (List.range bs.length).all (λi=>bs.getD i false)=((List.range bs.length).map λi=>bs.getD i false).all id by rw [List.all_map];rfl]
   congr 1
   apply List.ext_getElem
   ·simp
   ·intro i h1 h2
    simp only [List.length_map,List.length_range] at h1
    simp [List.getD_eq_getElem?_getD,h1]
end
end L2
namespace L2
open PySem PySem.Spec PyProof.Rows
open Builtin.Str (glued partsBetween occurrences tooLong strSub)
section
variable {X:Cx}
end
end L2
namespace L2
open PySem PySem.Spec PyProof.Rows
def Iti (d:Addr) (o:Obj) (kvs:List (Key × V)):It :=
 ⟨λi H=>H d=some (.frz o (.dK kvs))/\i<kvs.length,λi H v H'=>∃k y p,kvs[i]? = some (k,y)/\v=.ref p/\H p=none/\H'=upd H p (.tup [kV k,y]),λi H=>H d=some (.frz o (.dK kvs))/\kvs.length<=i⟩
theorem Qio {P:Program} {w:World} {K:PySem.W.Frag} {es:List Expr} {kt:Nat} {pt:Pos} (d it:Addr) (ob:Obj) (kvs:List (Key × V)) (vs:List (Key × Value)) (ep:Nat) (rel:KV kvs vs) (hdi:d≠it)
  (hd:∀h:Heap,h.get? d=some ob->h.DictAt (Jg P w) d vs ep) :
  Turn P w K (.Tuple es kt pt) (Iti d ob kvs) [it] it (λi h=>∃ok ov,IsItemIter h it d i vs.length ep ok ov) where
 mem:=by simp
 obj:=λi h st b hb=>by
  have e:b=it:=by simpa using hb
  subst e
  obtain ⟨ok,ov,st⟩:=st
  exact ⟨_,st,λv z=>by have z':Data.fields _=Data.cell v:=z;cases z'⟩
 keep:=λi h h' st k=>by
  obtain ⟨ok,ov,st⟩:=st
  exact ⟨ok,ov,k it (by simp) _ st⟩
 item:=by
  intro X hP hw hK hc i pins s σ H E I hf st hg
  subst hP hw hK
  obtain ⟨ok,ov,st⟩:=st
  obtain ⟨hH,hlt⟩:=hg
  obtain ⟨e1,_⟩:=I.hok d _ hH
  obtain ⟨⟨k,y⟩,hk⟩:∃p,kvs[i]? = some p:=⟨kvs[i],by simp [hlt]⟩
  have hlen:kvs.length=vs.length:=Paired.length rel
  obtain ⟨⟨k',u⟩,hu⟩:∃p,vs[i]? = some p:=⟨vs[i]'(by omega),by simp [show i<vs.length by omega]⟩
  obtain ⟨rk,ry⟩:=Qdo rel hk hu
  have rk:k=k':=rk
  subst rk
  have hlti:it<s.heap.objs.size:=Heap.lt_size st
  refine wpAny_pyNext_items_item st (hd _ e1) hu λkey h' hkey ho hT hsz kp=>⟨_,rfl,wpAny_letOwnedTupleGo_items ho λh2 he2 hs2=>?_⟩
  have hn:H s.heap.objs.size=none:=I.hok.fresh (Nat.le_refl _)
  have hT2:=hs2.extBut _ _ (Nat.ne_of_gt hlti) hT
  refine ⟨.ref s.heap.objs.size,upd H s.heap.objs.size (.tup [kV k,y]),I.turnNew (ch:=[it]) (t':=s.toks) (Nat.le_refl _) (λb o hb q=>?_) hf ?_,rfl,⟨k,y,_,hk,rfl,hn,rfl⟩,⟨_,_,he2⟩,λb hb=>?_⟩
  ·have hb':b≠it:=λz=>hb (by simp [z])
   exact hs2.extBut _ _ hb' (kp b o hb' q)
  ·exact ⟨by show 2<=sizeLine;decide,[key,u],.cons (Qkx hkey) (.cons ry .nil),⟨_,hT2,rfl,_,rfl⟩⟩
  ·have e:b=it:=by simpa using hb
   subst e
   rw [Qk (Nat.ne_of_lt hlti)]
   exact (hf b hb).1
 done:=by
  intro X hP hw hK hc i pins s σ H E I hf st hg
  subst hP hw hK
  obtain ⟨ok,ov,st⟩:=st
  obtain ⟨hH,hge⟩:=hg
  obtain ⟨e1,_⟩:=I.hok d _ hH
  have hlen:kvs.length=vs.length:=Paired.length rel
  obtain ⟨f0,f1,f2,f3,f4,f5⟩:=hf it (by simp)
  exact wpAny_pyNext_items_end (I.ok.hd hc) st (hd _ e1) (List.getElem?_eq_none (by omega)) λh' eb=>⟨rfl,I.turned (t':=s.toks) (λb o hb e=>eb b o hb e) f0 f1 f3 f4 f5⟩
 self:=λA i s Q E st h=>by
  obtain ⟨ok,ov,st⟩:=st
  have hT:s.TypeIs (.ref it) "dict_itemiterator":=⟨_,st,rfl⟩
  refine wpAny_pyIter_slot hT PySem.F.slot_dict_itemiterator_iter (wpAny_call_entry PySem.F.slot_dict_itemiterator_iter hT PySem.W.kcp_entry ?_ (PySem.F.args_dict_itemiterator_iter_1 _))
  show wpAny _ _ (ret (.ref it)) _ _ s
  exact wpAny_pure ⟨_,rfl,"dict_itemiterator",_,hT,PySem.F.slot_dict_itemiterator_next.lookup,h⟩
section
variable {X:Cx}
def Qtc (to:TE):TI:=λσ H R=>to σ H λx H1=>∃d kvs,x=.ref d/\H1 d=some (.dK kvs)/\∀o,R (Iti d o kvs) (upd H1 d (.frz o (.dK kvs)))
theorem Qm1 {es:List Expr} {kt:Nat} {pt:Pos} {o:Expr} {to:TE} {apos cpos:Pos} (ho:PE X o to) (hbase:attributeBase o "items" X.env (eval o X.env)=eval o X.env:=by rfl) (hline:(apos.endLine == cpos.line)=true:=by rfl) :
  PI X (.Tuple es kt pt) (.Call (.Attribute o "items" apos) [] [] cpos) (Qtc to):=by
 intro pins s σ H R I h
 refine wpAny_Call_method0_late hbase hline (thn (ho pins s σ H _ I h) λv s1 ⟨x,H1,I1,r1,d,kvs,e,hd,q⟩=>?_)
 subst e
 cases r1
 obtain ⟨h1,h2⟩:=Qoc (T:="dict") I1 (show RelV (.ref d) (.ref d) from rfl) (.inr (.inr (.inl ⟨rfl,.inl ⟨kvs,hd⟩⟩)))
 refine ⟨"dict",_,PySem.F.plainAttrs_dict,PySem.F.slot_dict_items,PySem.F.type_dict_items,h1,h2,Calls.callWith_builtin rfl (PySem.evalArgs_none ?_)⟩
 obtain ⟨z,hs,vs,rel,dd⟩:=Qnt I1.hok hd
 refine call_meetsIn PySem.F.slot_dict_items dd.typeIs PySem.F.entry_dict_items (PySem.F.args_dict_items_1 _) (meets_dict_items (Jg X.prog X.w) d hs) ⟨⟨vs,dd⟩,?_⟩
 have I2:Inv X pins σ H1 { s1 with heap:=s1.heap.push { cls:=.type "dict_items",data:=.fields #[.ref d] } }:=I1.kept (t':=s1.toks) λb u e=>Heap.get?_push_of_some _ e
 obtain ⟨ep,da⟩:=dd.dictAt
 obtain ⟨ob,es',hob,dr⟩:=id da
 have hob2:(s1.heap.push { cls:=.type "dict_items",data:=.fields #[.ref d] }).get? d=some ob:=Heap.get?_push_of_some _ hob
 refine wpAny_pyIter_items (knd:=Jg X.prog X.w) (d:=d) (kvs:=vs) (ep:=ep) ⟨_,Heap.get?_push_size _ rfl,rfl,rfl⟩ ⟨ob,es',hob2,dr⟩ ?_
 have I3:=I2.kept (h':=(s1.heap.push { cls:=.type "dict_items",data:=.fields #[.ref d] }).push { cls:=.type "dict_itemiterator",data:=.fields #[.none,.bool false,.ref d,.int 0 0,.int vs.length 0,.int ep 0,.none,.none] }) (t':=s1.toks) λb u e=>Heap.get?_push_of_some _ e
 have hob3:=Heap.get?_push_of_some (h:=s1.heap.push { cls:=.type "dict_items",data:=.fields #[.ref d] }) { cls:=.type "dict_itemiterator",data:=.fields #[.none,.bool false,.ref d,.int 0 0,.int vs.length 0,.int ep 0,.none,.none] } hob2
 have I4:=I3.write (x:=d) (e:=d) (o:=.frz ob (.dK kvs)) (t':=s1.toks) (by rw [hd];trivial) (.inl rfl) (λb u _ q=>q) ⟨_,hob3⟩
  (show J2 X.prog X.w _ _ d (.frz ob (.dK kvs)) from ⟨hob3,z,hs,vs,rel,ob,es',ep,hob3,dr⟩)
 have hlt:d<(s1.heap.push { cls:=.type "dict_items",data:=.fields #[.ref d] }).objs.size:=Heap.lt_size hob2
 refine ⟨(s1.heap.push { cls:=.type "dict_items",data:=.fields #[.ref d] }).objs.size,[(s1.heap.push { cls:=.type "dict_items",data:=.fields #[.ref d] }).objs.size],_,_,_,rfl,I4,
  Qio d _ ob kvs vs ep rel (Nat.ne_of_lt hlt) (λh e=>⟨ob,es',e,dr⟩),⟨_,_,Heap.get?_push_size _ rfl⟩,λb hb=>?_,q ob⟩
 have e:b=(s1.heap.push { cls:=.type "dict_items",data:=.fields #[.ref d] }).objs.size:=by simpa using hb
 subst e
 exact I2.fpOk (Nat.le_refl _) (by rw [Qk (Nat.ne_of_gt hlt)];exact I2.hok.fresh (Nat.le_refl _))
end
end L2
namespace HT
open PySem PySem.Spec PyProof.Rows L2
section
variable {prog:Program} {w:World} {A:Around} {E:Value->Shared->Prop} {s:Shared}
end
section
variable {prog:Program} {w:World} {A:Around} {E:Value->Shared->Prop} {s:Shared}
end
end HT
namespace L2
open PySem PySem.Spec PyProof.Rows
section
variable {X:Cx}
end
end L2
namespace L2
open PySem PySem.Spec PyProof.Rows
open Builtin.Str (occurrences strSub subAt)
section
variable {X:Cx} {e:Expr} {te:TE} {lo hi st:Option Expr} {tl th ts:TO} {p2 pos:Pos}
end
end L2
namespace Srt
open PySem PyProof.Rows
class KN where
 nk:Keyed->Int
 isN:Keyed->Prop
 kind:SortKind
open KN (nk isN kind)
class KL [KN] (prog:Program) (w:World) (A:Around) (E:Value->Shared->Prop) (s:Shared):Prop where
 lt:∀{st:SortSt} {x y:Keyed} {Q:Option Bool->SortSt->Prop},kindOf st=kind->isN x->isN y->Q (some (decide (nk x<nk y))) st->wpS (model prog w) A E s (lt' x y) Q st
variable [KN]
def K (xs:Array Keyed) (i:Nat):Int:=match xs[i]? with
 | some p=>nk p
 | none=>0
section
variable {prog:Program} {w:World} {A:Around} {E:Value->Shared->Prop} {s:Shared} [KL prog w A E s]
variable {st:SortSt} {left:Bool} {key:Keyed} {xs:Array Keyed} {b n hint:Nat}
end
end Srt
namespace Srt
open PySem PyProof.Rows
open KN (nk isN kind)
variable [KN]
section
variable {prog:Program} {w:World} {A:Around} {E:Value->Shared->Prop} {s:Shared} [KL prog w A E s] {st:SortSt} {x y:Array Keyed}
abbrev R1:=Option (Array Keyed) × Array Keyed × Nat × Nat × Nat × Nat
end
end Srt
namespace Srt
open PySem PyProof.Rows
open KN (nk isN kind)
variable [KN]
section
variable {prog:Program} {w:World} {A:Around} {E:Value->Shared->Prop} {s:Shared} [KL prog w A E s] {st:SortSt} {x y:Array Keyed}
end
end Srt
namespace Srt
open PySem PyProof.Rows
open KN (nk isN kind)
variable [KN]
section
variable {prog:Program} {w:World} {A:Around} {E:Value->Shared->Prop} {s:Shared} [KL prog w A E s] {st:SortSt}
structure Ok (st:SortSt):Prop where
 k:kindOf st=kind
 n:∀p∈(arrOf st).toList,isN p
 f:failedOf st=none
end
end Srt
namespace Srt
open PySem PyProof.Rows
open KN (nk isN kind)
variable [KN]
def SF (a:Array Keyed) (lo k:Nat):Prop:=∀i j,i<=j->j<k->K a (lo+i)<=K a (lo+j)
section
variable {prog:Program} {w:World} {A:Around} {E:Value->Shared->Prop} {s:Shared} [KL prog w A E s] {st st0:SortSt} {lo:Nat}
end
end Srt
namespace Srt
open PySem PyProof.Rows
open KN (nk isN kind)
variable [KN]
section
variable {prog:Program} {w:World} {A:Around} {E:Value->Shared->Prop} {s:Shared} [KL prog w A E s] {st st0:SortSt} {lo:Nat}
end
end Srt
namespace Srt
open PySem PyProof.Rows
open KN (nk isN kind)
variable [KN]
section
variable {prog:Program} {w:World} {A:Around} {E:Value->Shared->Prop} {s:Shared} [KL prog w A E s] {st:SortSt} {a₀:Array Keyed} {runs:List (List Keyed)} {T:List Keyed}
end
end Srt
namespace Srt
open PySem PyProof.Rows
section
variable {prog:Program} {w:World} {A:Around} {E:Value->Shared->Prop} {s:Shared}
end
end Srt
namespace Srt
open PySem PyProof.Rows
section
variable {prog:Program} {w:World} {A:Around} {E:Value->Shared->Prop} {s:Shared}
end
end Srt
namespace Srt
open PySem PyProof.Rows
open PySem.SeqAt
open PySem.AutoSeq1 (wpAny_loadPart')
open PySem.MeetsSeq PySem.MeetsSeq2 PySem.MeetsSeq3
section
variable {prog:Program} {w:World} {A:Around} {E:Value->Shared->Prop} {s:Shared}
end
end Srt
namespace L2
open PySem PySem.Spec PyProof.Rows
section
variable {X:Cx}
end
end L2
namespace RV
open PySem PySem.Spec
section
variable {prog:Program} {w:World} {A:Around} {E:Value->Shared->Prop} {s:Shared}
end
end RV
namespace L2
open PySem PySem.Spec PyProof.Rows
section
variable {X:Cx} {tg:Expr}
end
end L2
namespace PT
open PySem PySem.Spec
section
variable {prog:Program} {w:World} {K:Type} [DecidableEq K] {knd:HeapKind prog w K} {A:Around} {E:Value->Shared->Prop} {s:Shared}
end
end PT
namespace L2
open PySem PySem.Spec PyProof.Rows
section
variable {X:Cx} {pins:List (Addr × Obj)} {σ:St} {H:Hp} {s:Shared} {a b:Addr} {kvs:List (List Key × V)} {k:List Key} {A:Around} {E:Value->Shared->Prop}
end
end L2
namespace Mx
open PySem PySem.Spec L2
section
variable (P:Program) (w:World)
end
section
variable {P:Program} {w:World} {A:Around} {E:Value->Shared->Prop} {s:Shared} {x y k:MK} {u v:Value} {h h':Heap}
end
end Mx
namespace Mx
open PySem PySem.Spec L2
section
variable (P:Program) (w:World)
end
section
variable {P:Program} {w:World} {A:Around} {E:Value->Shared->Prop} {s:Shared} {k:MK} {u:Value} {xs:List (MK × Value × Value)} {es:Array DictEntry}
end
end Mx
namespace Mx
open PySem PySem.Spec L2
section
variable (P:Program) (w:World)
end
section
variable {P:Program} {w:World} {A:Around} {E:Value->Shared->Prop} {s:Shared} {k:MK} {u v:Value} {xs:XS} {d:Addr}
end
end Mx
namespace Mx
open PySem PySem.Spec L2
section
variable {P:Program} {w:World} {A:Around} {E:Value->Shared->Prop} {s:Shared} {k:MK} {u v:Value} {xs:XS} {d:Addr}
end
end Mx
namespace Mx
open PySem PySem.Spec L2
abbrev MI:=Int ⊕ List Int
def Qu1:MI->Int
 | .inl i=>hashInt i
 | .inr l=>reduceHash (Builtin.Tuple.tupleHashOf (l.map hashInt))
abbrev KVM:=List (MI × V × V)
abbrev VM:=List (MI × Value × Value)
def RelE (p:MI × V × V) (q:MI × Value × Value):Prop:=p.1=q.1/\RelV p.2.1 q.2.1/\RelV p.2.2 q.2.2
def entI (q:MI × Value × Value):DictEntry:={ hash:=Qu1 q.1,key:=q.2.1,val:=q.2.2 }
def phi (a:Addr) (kvs:KVM) (h:Heap):Prop:=(a == sysModules)=false/\kvs.length<=sizeLine/\(kvs.map (·.1)).Nodup/\∃vs:VM,Paired RelE kvs vs/\∃o es ep,h.get? a=some o/\o.ExactDict/\o.data=.dict es ep/\es.toList=vs.map entI
def mixO (a:Addr) (kvs:KVM):HO:=.ext (phi a kvs)
def Qva (H:Hp):MI->V->Prop
 | .inl i,y=>y=.int i
 | .inr l,y=>∃b,y=.ref b/\H b=some (.tup (l.map V.int))
def Keys (H:Hp) (kvs:KVM):Prop:=∀p∈kvs,Qva H p.1 p.2.1
section
variable {P:Program} {w:World} {H:Hp} {h:Heap} {a:Addr} {kvs:KVM} {vs:VM} {k:MI} {y v:V} {u r:Value}
end
end Mx
namespace Mx
open PySem PySem.Spec L2
section
variable {X:Cx} {pins:List (Addr × Obj)} {σ:St} {H:Hp} {s:Shared} {a:Addr} {kvs:KVM} {k:MI} {y v dv:V} {u r:Value} {A:Around} {E:Value->Shared->Prop}
end
end Mx
namespace Srt
open PySem PyProof.Rows
end Srt
namespace L2
open PySem PySem.Spec PyProof.Rows
section
variable {X:Cx}
end
end L2
namespace L2
open PySem PySem.Spec PyProof.Rows
section
variable {M:Model} {A:Around} {E:Value->Shared->Prop} {s:Shared}
end
section
variable {X:Cx}
end
end L2
namespace L2
open PySem PySem.Spec PyProof.Rows
section
variable {prog:Program} {w:World} {A:Around} {E:Value->Shared->Prop} {s:Shared}
end
section
variable {X:Cx}
end
end L2
namespace Mx
open PySem PySem.Spec L2
section
variable {prog:Program} {w:World} {A:Around} {E:Value->Shared->Prop} {s:Shared} {d it:Addr} {i ep:Nat} {od:Obj} {es:Array DictEntry} {ok ov:Value}
end
section
variable {X:Cx}
end
end Mx
namespace LR
open PySem PySem.Spec PyProof.Rows
section
variable {prog:Program} {w:World} {A:Around} {E:Value->Shared->Prop} {s:Shared}
end
end LR
namespace L2
open PySem PySem.Spec PyProof.Rows
section
variable {X:Cx}
end
end L2
namespace L2
open PySem PySem.Spec PyProof.Rows
section
variable {X:Cx}
end
end L2
namespace L2
open PySem PySem.Spec PyProof.Rows
open PySem.W (hideAll of_hideAll hideAll_get hideAll_none funFrames_hide)
structure Fly (P:Program) (w:World) (base B:Heap) (l:List PySem.Env) (H:Hp) (s:Shared) (C ea t:Addr) (H':Hp) (s':Shared):Prop where
 os:s'.os=s.os
 bare:AllBare s'.gens
 un:Un (frs l) [] H H' s.heap s'.heap
 hok:HOk P w H' s'.heap
 bb:base.StaysIn B
 dom:∀b o,H' b=some o->∃ob,B.get? b=some ob
 kp:∀b ob,s.heap.get? b=some ob->H b=none->b∉frs l->B.get? b=some ob
 th:∀b ob,s.heap.get? b=some ob->b∉frs l->∃o',B.get? b=some o'
 fly:Heap.FlyingW B l ea (.ref C) (.ref t) s'.heap
 new:s.heap.get? ea=none
theorem Qh0 {P:Program} {w:World} {H':Hp} {B h h'':Heap} (ok:HOk P w H' h) (dom:∀b o,H' b=some o->∃ob,B.get? b=some ob) (k1:B.StaysIn h) (k2:B.StaysIn h''):HOk P w H' h'':=λa o e =>
 (ok a o e).stay (λb u hb q=>by
  have:∃o',H' b=some o':=by
   rcases hb with rfl | hb
   ·exact ⟨_,e⟩
   ·exact ⟨_,hb⟩
  obtain ⟨o',e'⟩:=this
  obtain ⟨ob,eb⟩:=dom b o' e'
  have:=k1 b ob eb
  rw [q] at this
  cases this
  exact k2 b _ eb) (λ_ q=>q) λ_ _ q=>q
section
variable {P:Program} {w:World} {base B:Heap} {l:List PySem.Env} {H H':Hp} {s s':Shared} {C ea t:Addr} {h'':Heap}
theorem Fly.on (f:Fly P w base B l H s C ea t H' s') (hf:Heap.FlyingW B l ea (.ref C) (.ref t) h'') (hu:s'.heap.UpToSlots h''):Fly P w base B l H s C ea t H' { s' with heap:=h'' } where
 os:=f.os
 bare:=f.bare
 un:=by
  refine ⟨λb o e n nf _=>hf.1 b o (f.kp b o e n nf),λb o e n hb _=>?_,f.un.free,λb o e _=>?_,f.un.tups,f.un.frzs,f.un.tbls⟩
  ·obtain ⟨sl,e1⟩:=f.un.slot b o e n hb (by simp)
   obtain ⟨_,o',e2,nd⟩:=f.fly.2.2.1.mem hb
   have z:some { o with slots:=sl }=some o':=e1.symm.trans e2
   cases z
   obtain ⟨sl',e4⟩:=hu b { o with slots:=sl } e1 nd
   exact ⟨sl',e4⟩
  ·by_cases hb:b∈frs l
   ·obtain ⟨_,o',e2,nd⟩:=f.fly.2.2.1.mem hb
    obtain ⟨sl,e3⟩:=hu b _ e2 nd
    exact ⟨_,e3⟩
   ·obtain ⟨o',e1⟩:=f.th b o e hb
    exact ⟨_,hf.1 b o' e1⟩
 hok:=Qh0 f.hok f.dom f.fly.1 hf.1
 bb:=f.bb
 dom:=f.dom
 kp:=f.kp
 th:=f.th
 fly:=hf
 new:=f.new
end
section
variable {X:Cx} {pins:List (Addr × Obj)} {σ:St} {H H':Hp} {s s':Shared} {C ea t:Addr} {h'' B:Heap}
structure Cx.Plain (X:Cx):Prop where
 ex:X.ex=[]
 stk:X.stack=X.env::X.outer
 frame:X.env.frame=some X.env.locals
theorem Cx.Plain.mem (p:X.Plain) {b:Addr}:b∈frs X.stack↔b=X.env.locals\/b∈frs X.outer:=by
 rw [p.stk]
 unfold frs
 rw [List.filterMap_cons,p.frame]
 exact List.mem_cons
theorem Inv.old (I:Inv X pins σ H s) {b:Addr} {o:Obj} (e:X.s₀.heap.get? b=some o):b≠X.env.locals:=Nat.ne_of_lt (Nat.lt_of_lt_of_le (Heap.lt_size e) I.ok.above)
theorem Fly.out (p:X.Plain) (I:Inv X pins σ H s) (f:Fly X.prog X.w X.base B X.stack H s C ea t H' s') (hf:Heap.FlyingW B X.outer ea (.ref C) (.ref t) h'') (hu:s'.heap.UpToSlots h''):Fly X.prog X.w X.base B X.outer X.H₀ X.s₀ C ea t H' { s' with heap:=h'' }:=by
 have hex:∀b,b∉X.ex:=λb=>by rw [p.ex];simp
 have nst:∀b o,X.s₀.heap.get? b=some o->b∉frs X.outer->b∉frs X.stack:=λb o e nf z=>(p.mem.mp z).elim (I.old e) nf
 have kp:∀b ob,X.s₀.heap.get? b=some ob->X.H₀ b=none->b∉frs X.outer->B.get? b=some ob:=λb o e n nf=>f.kp b o (I.base.keep b o e n nf (hex b)) (I.base.free b o e n (hex b)) (nst b o e nf)
 have th:∀b ob,X.s₀.heap.get? b=some ob->b∉frs X.outer->∃o',B.get? b=some o':=λb o e nf=>by
  obtain ⟨o1,e1⟩:=I.base.there b o e (hex b)
  exact f.th b o1 e1 (nst b o e nf)
 refine ⟨f.os.trans I.os,f.bare,⟨λb o e n nf _=>hf.1 b o (kp b o e n nf),λb o e n hb _=>?_,λb o e n _=>?_,λb o e _=>?_,λb xs e=>f.un.tups b xs (I.base.tups b xs e),λb o u e=>f.un.frzs b o u (I.base.frzs b o u e),λb ps e=>?_⟩,Qh0 f.hok f.dom f.fly.1 hf.1,f.bb,f.dom,kp,th,hf,?_⟩
 ·obtain ⟨sl,e1⟩:=I.base.slot b o e n hb (hex b)
  obtain ⟨sl2,e2⟩:=f.un.slot b _ e1 (I.base.free b o e n (hex b)) (p.mem.mpr (.inr hb)) (by simp)
  obtain ⟨_,o',e3,nd⟩:=f.fly.2.2.1.mem (p.mem.mpr (.inr hb))
  have z:=e2.symm.trans e3
  cases z
  obtain ⟨sl',e4⟩:=hu b { o with slots:=sl2 } e2 nd
  exact ⟨sl',e4⟩
 ·obtain ⟨sl,e1⟩:=I.base.any e n (hex b)
  exact f.un.free b _ e1 (I.base.free b o e n (hex b)) (by simp)
 ·by_cases hb:b∈frs X.outer
  ·obtain ⟨_,o',e3,nd⟩:=f.fly.2.2.1.mem (p.mem.mpr (.inr hb))
   obtain ⟨sl,e4⟩:=hu b _ e3 nd
   exact ⟨_,e4⟩
  ·obtain ⟨o',e1⟩:=th b o e hb
   exact ⟨_,hf.1 b o' e1⟩
 ·obtain ⟨m1,e1⟩:=I.base.tbls b ps e
  obtain ⟨m2,e2⟩:=f.un.tbls b _ e1
  exact ⟨m1++m2,by rw [e2,Array.append_assoc]⟩
 ·cases q:X.s₀.heap.get? ea with
  | none=>rfl
  | some o =>
   obtain ⟨o1,e1⟩:=I.base.there ea o q (hex ea)
   rw [f.new] at e1
   cases e1
theorem Qi5 {M:Model} {E:Value->Shared->Prop} {h1:Heap} {vs:List Value} {Q:Unit->Shared->Prop} (p:X.Plain) (I:Inv X pins σ H s) (hx:Heap.MadeExcOf s.heap h1 ea (.ref C) vs)
  (hQ:∀h' t B,Fly X.prog X.w X.base B X.outer X.H₀ X.s₀ C ea t H { s with heap:=h' }->Q () { s with heap:=h' }):wpAny M X.A (leaving X.env (.ref ea)) Q E { s with heap:=h1 }:=by
 have hex:∀b,b∉X.ex:=λb=>by rw [p.ex];simp
 have hB:(hideAll s.heap (frs X.stack)).StaysIn s.heap:=λb o q=>of_hideAll _ q
 have inB:∀b o,s.heap.get? b=some o->b∉frs X.stack->(hideAll s.heap (frs X.stack)).get? b=some o:=λb o e n=>hideAll_get _ e n
 have hfrm:s.heap.FunFrames (hideAll s.heap (frs X.stack)) X.stack:=funFrames_hide I.stack λenv he a ha=>List.mem_filterMap.mpr ⟨env,he,ha⟩
 refine wpAny_leaves_madeW (base:=hideAll s.heap (frs X.stack)) (h:=s.heap) (s:={ s with heap:=h1 }) (outer:=X.outer) (env:=X.env) (by rw [← p.stk];exact I.ok.frames) p.frame hB (by rw [← p.stk];exact hfrm) hx λh' t x1 x2 x3 x4=>hQ h' t (hideAll s.heap (frs X.stack)) ?_
 have nst:∀b o,X.s₀.heap.get? b=some o->b∉frs X.outer->b∉frs X.stack:=λb o e nf z=>(p.mem.mp z).elim (I.old e) nf
 have kp:∀b ob,X.s₀.heap.get? b=some ob->X.H₀ b=none->b∉frs X.outer->(hideAll s.heap (frs X.stack)).get? b=some ob:=λb o e n nf=>inB b o (I.base.keep b o e n nf (hex b)) (nst b o e nf)
 have th:∀b ob,X.s₀.heap.get? b=some ob->b∉frs X.outer->∃o',(hideAll s.heap (frs X.stack)).get? b=some o':=λb o e nf=>by
  obtain ⟨o1,e1⟩:=I.base.there b o e (hex b)
  exact ⟨o1,inB b o1 e1 (nst b o e nf)⟩
 have dom:∀b o,H b=some o->∃ob,(hideAll s.heap (frs X.stack)).get? b=some ob:=λb o e=>by
  obtain ⟨ob,eb⟩:=(I.hok b o e).there
  exact ⟨ob,inB b ob eb λz=>by rw [I.stkFree b z] at e;cases e⟩
 refine ⟨I.os,I.bare,⟨λb o e n nf _=>x1.1 b o (kp b o e n nf),λb o e n hb _=>?_,λb o e n _=>I.base.free b o e n (hex b),λb o e _=>?_,I.base.tups,I.base.frzs,I.base.tbls⟩,Qh0 I.hok dom hB x1.1,λb o e=>inB b o (I.bk b o e) λz=>?_,dom,kp,th,x1,?_⟩
 ·obtain ⟨sl,e1⟩:=I.base.slot b o e n hb (hex b)
  obtain ⟨_,o',e3,nd⟩:=I.stack.mem (p.mem.mpr (.inr hb))
  have z:=e1.symm.trans e3
  cases z
  obtain ⟨sl',e4⟩:=x4 b { o with slots:=sl } (hx.keeps b { o with slots:=sl } e1) nd
  exact ⟨sl',e4⟩
 ·by_cases hb:b∈frs X.outer
  ·obtain ⟨_,o',e3,nd⟩:=I.stack.mem (p.mem.mpr (.inr hb))
   obtain ⟨sl,e4⟩:=x4 b _ (hx.keeps b _ e3) nd
   exact ⟨_,e4⟩
  ·obtain ⟨o',e1⟩:=th b o e hb
   exact ⟨_,x1.1 b o' e1⟩
 ·have:=(I.stack.mem z).1
  rw [e] at this
  cases this
 ·cases q:X.s₀.heap.get? ea with
  | none=>rfl
  | some o =>
   obtain ⟨o1,e1⟩:=I.base.there ea o q (hex ea)
   rw [hx.new] at e1
   cases e1
end
def CXE (P:Program) (w:World) (base:Heap):CXT:=λouter H s E e s'=>∃ea C t B H',e=.ref ea/\Fly P w base B outer H s C ea t H' s'/\E (.ref C) none H'
end L2
namespace L2
open PySem PySem.Spec PyProof.Rows
structure ExcK (K:PySem.W.Frag) (mg:Str->Option Value) (x:Str) (C:Addr):Prop where
 bound:mg x=some (.ref C)
 obj:∃(B newId initId:String) (bmB bm bs:List Value) (nm q:Str) (N:Addr) (hdct:Bool) (sn:List Str) (sub:List Value) (ab:Bool) (col:Option Bool) (dd:Option Addr) (k0 k1 k2 k3 k5:Option Value) (mN:Str->Option Value),
  ExcBaseFacts B newId initId bmB/\bm.contains (.type "BaseException")=true/\mN "__init__" = none/\∀h:Heap,K.In h->h.get? C=some (excClassObj nm q C N bs bm hdct sn sub ab col dd k0 k1 k2 k3 k5 newId)/\h.Ns N mN/\OwnTail h bmB bm
section
variable {X:Cx} {pins:List (Addr × Obj)} {σ:St} {H:Hp} {s:Shared} {x:Str} {np cpos pos p:Pos} {e₀:Expr} {es:List Expr} {ta:TA}
theorem Qmv {C:Addr} {Ξ:St->Hp->Prop} (k:ExcK X.K X.mg x C) (hg:Gl X x) (hc:X.calm=true) (ha:PA X (e₀::es) ta)
  (hX:∀pins σ H s h1 e vs,Inv X pins σ H s->Heap.MadeExcOf s.heap h1 e (.ref C) vs->Ξ σ H->X.xe (.ref e) { s with heap:=h1 })
  (hdb:(x == ("__debug__" : Str))=false:=by decide) (he:starEach (e₀::es) X.env=(false,eval e₀ X.env)::starEach es X.env:=by rfl) (hpl:(backTo cpos (starEach es X.env)).any (·.1)=false:=by rfl) :
  PS X (.Raise (some (.Call (.Name x np) (e₀::es) [] cpos)) none pos) (λD σ H=>ta σ H λvs H1=>vs.length<=sizeLine/\Ξ σ H1):=by
 intro pins s σ H D I h
 obtain ⟨B,newId,initId,bmB,bm,bs,nm,q,N,hdct,sn,sub,ab,col,dd,k0,k1,k2,k3,k5,mN,FB,hbase,hni,hob⟩:=k.obj
 refine wpAny_Raise_call_subT (C:=C) (N:=N) (nm:=nm) (q:=q) (bs:=bs) (bm:=bm) (hdct:=hdct) (sn:=sn) (sub:=sub) (ab:=ab) (col:=col) (dd:=dd) (k0:=k0) (k1:=k1) (k2:=k2) (k3:=k3) (k5:=k5) (mN:=mN) FB hbase (I.ok.hd hc) (by rw [he];show (false || (backTo cpos (starEach es X.env)).any (·.1))=false;rw [hpl];rfl) hni (Uc I hg k.bound ⟨rfl,?_⟩ hdb)
 have h2:=ha cpos pins s σ H _ I h
 rw [he] at h2 ⊢
 refine Calls.evalArgs_plain (wpAny_mono h2 (λus s2 z=>?_) λ_ _ y=>y)
 obtain ⟨vs,H1,I1,r1,hl,hΞ⟩:=z
 obtain ⟨o1,o2,o3⟩:=hob s2.heap I1.kIn
 exact ⟨rfl,by rw [← r1.length];exact hl,o1,o2,o3,λh' e hm=>hX pins σ H1 s2 h' e us I1 hm hΞ⟩
theorem Gz {M:Model} {A:Around} {E:Value->Shared->Prop} {j:Nat} {n:Str} {Q:Unit->Shared->Prop} (I:Inv X pins σ H s) (hN:X.N.Nodup) (hj:X.N[j]? = some n) (hl:X.env.kindOf n=some .local)
  (h:∀s',Inv X pins (σ.set j none) H s'->Q () s'):wpAny M A (do bindName X.env n .none;unbindBehindTheSuite X.env n pos) Q E s:=by
 obtain ⟨m,hn,hlo⟩:=id I.loc
 have hp:(X.env.scope.kind == .class || (X.env.scope.kind == .module && X.env.locals != X.env.globals))=false:=by rw [I.ok.kind];rfl
 refine wpAny_bind (wpAny_bindName (wpAny_storeName_local hl hn (λh₁ hn₁ hs₁=>?_) hp))
 unfold unbindBehindTheSuite
 refine wpAny_onRaise ?_
 unfold unbindName
 refine wpAny_bind (wpAny_point (wpAny_bind ?_))
 unfold deleteName
 simp only [hl,hp]
 rw [if_neg (by decide)]
 refine wpAny_bind (wpAny_nsDel_keeps hn₁ λh₂ v hn₂ hs₂=>?_)
 simp only [if_true,Option.isSome_some,Bool.not_true,Bool.false_eq_true,if_false]
 refine wpAny_pure (wpAny_point (h _ ?_))
 have hs:=hs₁.trans hs₂
 have hiσ:j<σ.length:=by rw [I.len];exact (List.getElem?_eq_some_iff.mp hj).1
 refine ⟨I.ok,I.os,I.bare,⟨λb o e n hb hx=>?_,λb o e n hb hx=>?_,I.base.free,λb o e hx=>?_,I.base.tups,I.base.frzs,I.base.tbls⟩,⟨_,hn₂,λi y v' e1 e2 e3=>?_⟩,λy c e=>?_,I.free,I.freeC,λp hp=>?_,λb ob e=>?_,by simpa using I.len⟩
 ·exact (hs.2 b (I.old e)).trans (I.base.keep b o e n hb hx)
 ·obtain ⟨sl,e1⟩:=I.base.slot b o e n hb hx
  exact ⟨sl,(hs.2 b (I.old e)).trans e1⟩
 ·obtain ⟨o',e1⟩:=I.base.there b o e hx
  exact ⟨o',(hs.2 b (I.old e)).trans e1⟩
 ·by_cases hij:i=j
  ·subst hij
   rw [List.getElem?_set_self hiσ] at e2
   cases e2
  ·rw [List.getElem?_set_ne (Ne.symm hij)] at e2
   obtain ⟨u',r',q⟩:=hlo i y v' e1 e2 e3
   refine ⟨u',r',?_⟩
   rcases q with ⟨k,e⟩ | ⟨k,c,e,z⟩
   ·refine .inl ⟨k,?_⟩
    have:y≠n:=λe=>hij (Qdq hN e1 (e ▸ hj))
    simp [this,e]
   ·exact .inr ⟨k,c,e,z.sameBut hs (I.cne y c e)⟩
 ·obtain ⟨w',z⟩:=I.cell y c e
  exact ⟨w',z.sameBut hs (I.cne y c e)⟩
 ·obtain ⟨e,n,ne,nf,d⟩:=I.pin p hp
  exact ⟨(hs.2 p.1 ne).trans e,n,ne,nf,d⟩
 ·refine (I.hok b ob e).stay (λc w' hc q=>(hs.2 c ?_).trans q) (λ_ q=>q) λ_ _ q=>q
  rintro rfl
  rcases hc with rfl | hc
  ·rw [I.free] at e;cases e
  ·rw [I.free] at hc;cases hc
end
end L2
namespace L2
open PySem PySem.Spec PyProof.Rows
def Cx.han (X:Cx) (ea:Addr):Cx:={ X with A:=X.A.mark (some (.ref ea)),calm:=false,xe:=λ_ _=>False }
section
variable {X:Cx} {pins:List (Addr × Obj)} {σ:St} {H H':Hp} {s s':Shared} {C ea t:Addr} {B h'':Heap}
theorem Cx.Ok.han (ok:X.Ok) (ea:Addr):(X.han ea).Ok :=
 ⟨ok.mod,ok.kind,ok.glob,ok.blt,ok.above,ok.inj,ok.has,ok.cab,λz=>(Bool.noConfusion z),ok.frames,ok.stk,ok.exf,ok.bs,ok.bsz,ok.noex,ok.exfs,ok.funs,ok.frf⟩
theorem Inv.han (I:Inv X pins σ H s) (ea:Addr):Inv (X.han ea) pins σ H s:=⟨I.ok.han ea,I.os,I.bare,I.base,I.loc,I.cell,I.free,I.freeC,I.pin,I.hok,I.len⟩
theorem Inv.unhan (ok:X.Ok) (I:Inv (X.han ea) pins σ H s):Inv X pins σ H s:=⟨ok,I.os,I.bare,I.base,I.loc,I.cell,I.free,I.freeC,I.pin,I.hok,I.len⟩
theorem Fly.landed (I:Inv X pins σ H s) (f:Fly X.prog X.w X.base B X.stack H s C ea t H' s'):∃(ob:Obj) (φ:Heap->Prop),ob.cls=.ref C/\H' ea=none/\Inv X pins σ (upd H' ea (.frz ob (.ext φ))) s':=by
 obtain ⟨ob,e,hc⟩:=f.fly.there
 have hn:H' ea=none:=by
  cases q:H' ea with
  | none=>rfl
  | some o =>
   obtain ⟨o1,e1⟩:=f.dom ea o q
   rw [f.fly.2.1] at e1
   cases e1
 refine ⟨ob,λh=>h.get? ea=some ob,hc,hn,I.call' (ch:=[]) f.os ?_ ?_ f.bare λb z=>nomatch z⟩
 ·refine ⟨f.un.keep,f.un.slot,λb o e1 n hx=>?_,f.un.there,λb xs e1=>?_,λb o u e1=>?_,λb ps e1=>?_⟩
  ·rw [Qk (λz=>by rw [z,f.new] at e1;cases e1)]
   exact f.un.free b o e1 n hx
  ·have:=f.un.tups b xs e1
   rw [Qk (λz=>by rw [z,hn] at this;cases this)];exact this
  ·have:=f.un.frzs b o u e1
   rw [Qk (λz=>by rw [z,hn] at this;cases this)];exact this
  ·obtain ⟨more,this⟩:=f.un.tbls b ps e1
   exact ⟨more,by rw [Qk (λz=>by rw [z,hn] at this;cases this)];exact this⟩
 ·intro a o e1
  by_cases ha:a=ea
  ·subst ha
   rw [Qh] at e1
   cases e1
   exact ⟨e,e,⟨ob,e⟩,λh1 h2 z k=>k ob z⟩
  ·rw [Qk ha] at e1
   refine (f.hok a o e1).stay (λb u _ q=>q) (λb q=>?_) (λb xs q=>?_) λb u v _ q _=>?_
   ·rw [Qk (λz=>by rw [z,hn] at q;cases q)];exact q
   ·rw [Qk (λz=>by rw [z,hn] at q;cases q)];exact q
   ·rw [Qk (λz=>by rw [z,hn] at q;cases q)];exact q
variable {cx n:Str} {np pos hpos:Pos} {b₀:Stmt} {suite body:List Stmt} {j:Nat} {C0:Addr} {th:TS}
def Ends.un (D:Ends) (j:Nat):Ends:={ nx:=λσ' H''=>D.nx (σ'.set j none) H'',rt:=D.rt,bk:=λσ' H''=>D.bk (σ'.set j none) H'',ct:=λσ' H''=>D.ct (σ'.set j none) H'' }
end
end L2
namespace L2
open PySem PySem.Spec PyProof.Rows
open PySem.W (findIn subIn mroIn clsIn Looks looks_findIn looks_subIn InstAt KitX)
structure ExcQ (K:PySem.W.Frag) (C:Addr):Prop where
 ga:findIn K (.ref C) "__getattribute__" = some (some (.builtin "BaseException.__getattribute__"))
 gt:findIn K (.ref C) "__getattr__" = some none
 cl:findIn K (.ref C) "__class__" = some (some (.builtin "object.__class__"))
 so:subIn K (.ref C) (.type "object")=some true
 sb:subIn K (.ref C) (.type "BaseException")=some true
 kc:(clsIn K C).isSome=true
section
variable {prog:Program} {w:World} {A:Around} {E:Value->Shared->Prop} {h:Heap} {g:Array GenState} {d:Drawn} {t:Nat} {os:OsState} {a C:Addr} {o:Obj} {K:PySem.W.Frag} {Bx:String} {bmB:List Value}
theorem Qey {M:Model} {nameV:Value} {Q:Unit->Shared->Prop} (X:K.In h) (q:ExcQ K C) (hx:h.get? a=some o) (hc:o.cls=.ref C) (hq:Q () ⟨h,g,d,t,os⟩):wpAny M A (checkBuiltinCall "BaseException.__getattribute__" ⟨[.ref a,nameV],[]⟩) Q E ⟨h,g,d,t,os⟩:=by
 have k1:builtinKind "BaseException.__getattribute__" = some .slot:=by decide +kernel
 have k2:splitId "BaseException.__getattribute__" = some ("BaseException","__getattribute__"):=by decide +kernel
 have L1:=looks_subIn (M:=M) X q.sb
 have ha:=F.args_bexc_ga (.ref a) nameV
 simp only [checkBuiltinCall,k1,k2]
 refine wpAny_bind ?_
 unfold isInstance
 repeat (first | (with_reducible refine wpAny_loadPart_at hx ?_;rw [hc]) | with_reducible refine L1.at ?_ | wp_step)
 exact hq
theorem Qq3 {R:Result->Shared->Prop} (X:K.In h) (q:ExcQ K C) (hx:h.get? a=some o) (hc:o.cls=.ref C) (hq:R (.ok (.ret (.ref C))) ⟨h,g,d,t,os⟩) :
  codeAny (model prog w) A (.call (.builtin "getset_descriptor.__get__") ⟨[.builtin "object.__class__",.ref a,.ref C],[]⟩) R ⟨h,g,d,t,os⟩:=by
 have ty5:(⟨h,g,d,t,os⟩:Shared).TypeIs (.builtin "object.__class__") "getset_descriptor":=F.typeOf_object_class
 have L1:=looks_subIn (M:=model prog w) X q.so
 rw [← F.owner_object_class] at L1
 refine codeAny_call_builtin F.slot_gs_get.plain F.entry_gs_get (F.slot_gs_get.check _ _ _ _ _ _ _ _ ty5 (F.args_gs_get _ _ _) ?_)
 repeat (any_goals (first | assumption | (with_reducible refine wpAny_loadPart_at hx ?_;rw [hc]) | with_reducible refine L1.at ?_ | wp_step))
 refine ⟨Code.quiet_builtin _ (by decide +kernel),codeAny_builtin F.entry_object_class ?_⟩
 repeat (any_goals (first | assumption | (with_reducible refine wpAny_loadPart_at hx ?_;rw [hc]) | wp_step))
theorem Qk8 {tk:Tok} {Q:Fin->Shared->Prop} (X:K.In h) (q:ExcQ K C) (hx:h.get? a=some o) (hc:o.cls=.ref C) (hq:Q (.done (.ret (.ref C))) ⟨h,g,d,t,os⟩) :
  wpAny (model prog w) A (Builtin.«object.__getattribute__» ⟨[.ref a,.str "__class__" tk],[]⟩) Q E ⟨h,g,d,t,os⟩:=by
 have ty5:(⟨h,g,d,t,os⟩:Shared).TypeIs (.builtin "object.__class__") "getset_descriptor":=F.typeOf_object_class
 have f5:=F.typeOf_object_class
 have f6:=F.slot_gs_get.lookup
 have f7:=F.slot_gs_set.lookup
 have L1:=looks_findIn (M:=model prog w) X q.cl
 repeat (any_goals (first | assumption | (with_reducible refine wpAny_loadPart_at hx ?_;rw [hc]) | with_reducible refine L1.at ?_ | wp_step))
 refine Qq3 X q hx hc ?_
 repeat (any_goals (first | assumption | wp_step))
theorem Qti {tk:Tok} {Q:Value->Shared->Prop} (FB:ExcAttrBase Bx bmB) (X:K.In h) (q:ExcQ K C) (hx:h.get? a=some o) (hc:o.cls=.ref C) (hq:Q (.ref C) ⟨h,g,d,t,os⟩) :
  wpAny (model prog w) A (getAttrBy (.ref a) (.str "__class__" tk) false) Q E ⟨h,g,d,t,os⟩:=by
 have f3:=FB.ga.bind (.ref a)
 have hx2:(Value.builtin "BaseException.__getattribute__" == Value.builtin "object.__getattribute__")=false:=by decide +kernel
 have hx1:(onTheHeap (Value.ref C) && Value.builtin "BaseException.__getattribute__" == Value.builtin "object.__getattribute__")=false:=by rw [hx2];rfl
 have L1:=looks_findIn (M:=model prog w) X q.ga
 have L2:=looks_findIn (M:=model prog w) X q.gt
 repeat (any_goals (first | assumption | (with_reducible refine wpAny_loadPart_at hx ?_;rw [hc]) | with_reducible refine L1.at ?_ | with_reducible refine L2.at ?_ | wp_step))
 refine codeAny_call_builtin FB.ga.plain F.entry_bexc_ga (Qey X q hx hc (Qk8 X q hx hc ?_))
 repeat (any_goals (first | assumption | wp_step))
theorem Qk9 {Q:Option Value->Shared->Prop} (FB:ExcAttrBase Bx bmB) (X:K.In h) (q:ExcQ K C) (hx:h.get? a=some o) (hc:o.cls=.ref C) (hq:Q (some (.ref C)) ⟨h,g,d,t+1,os⟩):wpAny (model prog w) A (getAttr? (.ref a) "__class__") Q E ⟨h,g,d,t,os⟩:=by
 unfold getAttr? getAttrBy?
 repeat (any_goals (first | assumption | with_reducible apply Qti FB X q hx hc | wp_step))
theorem Qhu (FB:ExcAttrBase Bx bmB) (q:ExcQ K C):KitX K (.ref a) (.ref C) (λh=>h.get? a=some o/\o.cls=.ref C) where
 ty:=λM h X p=>by
  rw [← p.2]
  exact (Looks.ld p.1).andThen .now
 it:=λM h X p=>by
  have z:=q.kc
  unfold clsIn at z
  split at z
  ·rename_i c' d' cd' sl' ho
   intro A' Q' E' s' k qq
   unfold isType loadHead
   exact wpAny_bind (wpAny_loadPart (k _ _ (X _ _ ho)) (wpAny_pure qq))
  ·cases z
 ne:=λh tp dd its n sl X htp=>by
  refine Bool.eq_false_iff.mpr λqq=>?_
  have e:C=tp:=Value.ref.inj (beq_iff_eq.mp qq)
  subst e
  have z:=q.kc
  unfold clsIn at z
  split at z
  ·rename_i c' d' cd' sl' ho
   have y:=(X _ _ ho).symm.trans htp
   cases y
  ·cases z
 ca:=λ{prog w A E Q s} X p k=>by
  obtain ⟨h,g,d,t,os⟩:=s
  exact Qk9 FB X q p.1 p.2 k
end
section
variable {X:Cx}
def clsV:V->Option Value
 | .ref c=>some (.ref c)
 | .ty n=>some (.type n)
 | _=>none
theorem Qig {v:V} {u c:Value} (r:RelV v u) (h:clsV v=some c):u=c:=by
 cases v with
 | ref a=>cases h;exact r
 | ty n=>cases h;exact r
 | _=>cases h
theorem Qe5:∀{vs:List V} {us cs:List Value},Vals vs us->vs.mapM clsV=some cs->us=cs
 | [],_,cs,.nil,h=>by
  have:some ([]:List Value)=some cs:=h
  cases this;rfl
 | v::vs,_,cs,.cons r rs,h=>by
  rw [List.mapM_cons] at h
  cases h1:clsV v with
  | none=>rw [h1] at h;cases h
  | some c =>
   rw [h1] at h
   cases h2:vs.mapM clsV with
   | none=>rw [h2] at h;cases h
   | some ds =>
    rw [h2] at h
    have:some (c::ds)=some cs:=h
    cases this
    rw [Qig r h1,Qe5 rs h2]
theorem Qn1 {Bx:String} {bmB:List Value} (FB:ExcAttrBase Bx bmB):Z5 X (.builtin "isinstance") (λxs H Q=>∃a o φ C v c b,xs=[.ref a,v]/\H a=some (.frz o (.ext φ))/\o.cls=.ref C/\ExcQ X.K C/\clsV v=some c/\PySem.W.kitOne X.K (.ref C) c=some b/\Q (.bl b) H):=by
 intro pins s σ H xs us Q I r h
 obtain ⟨a,o,φ,C,v,c,b,rfl,ha,hc,q,hv,hk,hq⟩:=h
 obtain ⟨u,u2,rfl,ru,ru2⟩:=Qjr r
 cases ru
 rw [Qig ru2 hv]
 obtain ⟨e,_⟩:=I.hok a _ ha
 exact PySem.W.kia_one (Qhu FB q) I.kIn ⟨e,hc⟩ hk (by intro z;cases z) λtk=>⟨.bl b,H,I.tok _,rfl,hq⟩
theorem Ql4 {Bx:String} {bmB:List Value} (FB:ExcAttrBase Bx bmB):Z5 X (.builtin "isinstance") (λxs H Q=>∃a o φ C tp vs cs b,xs=[.ref a,.ref tp]/\H a=some (.frz o (.ext φ))/\o.cls=.ref C/\ExcQ X.K C/\H tp=some (.tup vs)/\vs.mapM clsV=some cs/\PySem.W.kitAny X.K (.ref C) cs=some b/\Q (.bl b) H):=by
 intro pins s σ H xs us Q I r h
 obtain ⟨a,o,φ,C,tp,vs,cs,b,rfl,ha,hc,q,ht,hv,hk,hq⟩:=h
 obtain ⟨u,u2,rfl,ru,ru2⟩:=Qjr r
 cases ru
 cases ru2
 obtain ⟨e,_⟩:=I.hok a _ ha
 obtain ⟨_,its,rv,⟨oc,od,oda,osl⟩,eo,ec,n,edt⟩:=I.hok tp _ ht
 dsimp only at ec edt
 subst ec edt
 have:=Qe5 rv hv
 subst this
 exact PySem.W.kia_tup (Qhu FB q) I.kIn ⟨e,hc⟩ eo hk (by intro z;cases z) λtk=>⟨.bl b,H,I.tok _,rfl,hq⟩
end
end L2
namespace L2
open PySem PySem.Spec PyProof.Rows
section
variable {X:Cx} {pins:List (Addr × Obj)} {σ:St} {H H':Hp} {s s':Shared} {C ea t:Addr} {B h'':Heap}
theorem Qnb {M:Model} {E:Value->Shared->Prop} {Q:Unit->Shared->Prop} (p:X.Plain) (I:Inv X pins σ H s) (f:Fly X.prog X.w X.base B X.stack H s C ea t H' s')
  (hQ:∀h',Fly X.prog X.w X.base B X.outer X.H₀ X.s₀ C ea t H' { s' with heap:=h' }->Q () { s' with heap:=h' }):wpAny M X.A (leaving X.env (.ref ea)) Q E s' :=
 wpAny_leaves_onW (by rw [← p.stk];exact I.ok.frames) p.frame (by rw [← p.stk];exact f.fly) λh' x1 x2=>hQ h' (f.out p I x1 x2)
variable {cx:Str} {np pos hpos:Pos} {b₀:Stmt} {suite body:List Stmt} {C0:Addr} {th:TS}
end
end L2
namespace L2
open PySem PySem.Spec PyProof.Rows
section
variable {prog:Program} {w:World}
end
section
variable {X:Cx}
end
end L2
namespace L2
open PySem PySem.Spec PyProof.Rows
open PySem.W (Dat kqdP kqdPs kqdOk)
open AutoSeq1 (wpAny_loadPart')
open MeetsSeq (plain_remove_loop entry_remove_loop size_erased)
section
variable {X:Cx}
end
end L2
namespace L2
open PySem PySem.Spec PyProof.Rows
section
variable {X:Cx}
theorem Xg:∀{a b:List Int},a.map V.int=b.map V.int->a=b
 | [],[],_=>rfl
 | [],_::_,h=>by cases h
 | _::_,[],h=>by cases h
 | x::a,y::b,h=>by
  simp only [List.map_cons,List.cons.injEq,V.int.injEq] at h
  rw [h.1,Xg h.2]
def Qer (ps:List (Addr × List Int)) (a:Addr):List Int:=((ps.find? λp=>p.1 == a).map (·.2)).getD []
end
end L2
namespace M
def sp (m i:Nat):Int × Int:=if i<4*m then (((i / 4:Nat):Int),((i % 4:Nat):Int)) else (-1,((i-4*m:Nat):Int))
theorem Qt9 {m k j:Nat} (hk:k<m) (hj:j<4):sp m (4*k+j)=((k:Int),(j:Int)):=by
 unfold sp
 rw [if_pos (by omega)]
 congr 1 <;> omega
theorem Qru (m j:Nat):sp m (4*m+j)=(-1,(j:Int)):=by
 unfold sp
 rw [if_neg (by omega)]
 congr 1;omega
structure Tw (n:Nat) (A:Nat->Int) (g:Nat->Nat):Prop where
 lt:∀i,i<n->g i<n
 ne:∀i,i<n->g i≠i
 eq:∀i,i<n->A (g i)=A i
 only:∀i k,i<n->k<n->A k=A i->k=i\/k=g i
def addP (P:List (Int × List Nat)) (a:Int) (i:Nat):List (Int × List Nat) :=
 if (P.any λe=>decide (e.1=a))=true then P.map (λe=>if e.1=a then (e.1,e.2++[i]) else e) else P++[(a,[i])]
def plc (A:Nat->Int) (t:Nat):List (Int × List Nat):=(List.range t).foldl (λP i=>addP P (A i) i) []
theorem Xe (A:Nat->Int) (t:Nat):plc A (t+1)=addP (plc A t) (A t) t:=by
 unfold plc;rw [List.range_succ,List.foldl_append];rfl
theorem Qfd (P:List (Int × List Nat)) (a:Int) (i:Nat):(addP P a i).map (·.1)=if (P.any λe=>decide (e.1=a))=true then P.map (·.1) else P.map (·.1)++[a]:=by
 unfold addP
 by_cases h:(P.any λe=>decide (e.1=a))=true
 ·rw [if_pos h,if_pos h,List.map_map]
  apply List.map_congr_left
  intro e _
  show (if e.1=a then (e.1,e.2++[i]) else e).1=e.1
  split <;> rfl
 ·rw [if_neg h,if_neg h,List.map_append];rfl
theorem Qcy (A:Nat->Int):∀t,((plc A t).map (·.1)).Nodup/\(∀e∈plc A t,e.2=(List.range t).filter (λi=>decide (A i=e.1))/\e.2≠[])/\∀i,i<t->∃e∈plc A t,e.1=A i:=by
 intro t
 induction t with
 | zero=>exact ⟨List.nodup_nil,(λe h=>by cases h),λi h=>absurd h (Nat.not_lt_zero _)⟩
 | succ t ih =>
  obtain ⟨h1,h2,h3⟩:=ih
  rw [Xe]
  have hr:∀(p:Nat->Bool),(List.range (t+1)).filter p=(List.range t).filter p++if p t then [t] else []:=λp=>by
   rw [List.range_succ,List.filter_append]
   congr 1
   by_cases hp:p t=true
   ·simp [hp]
   ·simp [hp]
  by_cases h:((plc A t).any λe=>decide (e.1=A t))=true
  ·refine ⟨by rw [Qfd,if_pos h];exact h1,λe he=>?_,λi hi=>?_⟩
   ·unfold addP at he
    rw [if_pos h] at he
    obtain ⟨e',he',rfl⟩:=List.mem_map.mp he
    obtain ⟨a1,a2⟩:=h2 e' he'
    by_cases hk:e'.1=A t
    ·rw [if_pos hk]
     refine ⟨?_,by simp⟩
     show e'.2++[t]=_
     rw [hr,← a1,if_pos (by simp [hk])]
    ·rw [if_neg hk]
     refine ⟨?_,a2⟩
     rw [hr,← a1,if_neg (by simp;exact λz=>hk z.symm),List.append_nil]
   ·have hmem:∀e∈plc A t,∃e'∈addP (plc A t) (A t) t,e'.1=e.1:=λe he=>by
     have:e.1∈(addP (plc A t) (A t) t).map (·.1):=by rw [Qfd,if_pos h];exact List.mem_map.mpr ⟨e,he,rfl⟩
     obtain ⟨e',h1',h2'⟩:=List.mem_map.mp this
     exact ⟨e',h1',h2'⟩
    by_cases hit:i<t
    ·obtain ⟨e,he,q⟩:=h3 i hit
     obtain ⟨e',a1,a2⟩:=hmem e he
     exact ⟨e',a1,a2.trans q⟩
    ·have:i=t:=by omega
     subst this
     obtain ⟨e,he,q⟩:=List.any_eq_true.mp h
     obtain ⟨e',a1,a2⟩:=hmem e he
     exact ⟨e',a1,a2.trans (of_decide_eq_true q)⟩
  ·have hno:∀e∈plc A t,e.1≠A t:=λe he z=>h (List.any_eq_true.mpr ⟨e,he,decide_eq_true z⟩)
   have hadd:addP (plc A t) (A t) t=plc A t++[(A t,[t])]:=by unfold addP;rw [if_neg h]
   rw [hadd]
   refine ⟨?_,λe he=>?_,λi hi=>?_⟩
   ·rw [List.map_append]
    refine List.nodup_append.mpr ⟨h1,by simp,λa ha b hb=>?_⟩
    obtain ⟨e,he,rfl⟩:=List.mem_map.mp ha
    have:b=A t:=by simpa using hb
    rw [this];exact hno e he
   ·rcases List.mem_append.mp he with he | he
    ·obtain ⟨a1,a2⟩:=h2 e he
     refine ⟨?_,a2⟩
     rw [hr,← a1,if_neg (by simp;exact λz=>hno e he z.symm),List.append_nil]
    ·have ee:e=(A t,[t]):=by simpa using he
     subst ee
     refine ⟨?_,by simp⟩
     rw [hr,if_pos (by simp)]
     have:(List.range t).filter (λi=>decide (A i=A t))=[]:=by
      rw [List.filter_eq_nil_iff]
      intro i hi
      have hi':i<t:=List.mem_range.mp hi
      obtain ⟨e,he,q⟩:=h3 i hi'
      simp
      intro z
      exact hno e he (q.trans z)
     show [t]=List.filter (λi=>decide (A i=A t)) (List.range t)++[t]
     rw [this];rfl
   ·by_cases hit:i<t
    ·obtain ⟨e,he,q⟩:=h3 i hit
     exact ⟨e,List.mem_append_left _ he,q⟩
    ·have:i=t:=by omega
     subst this
     exact ⟨_,List.mem_append_right _ (List.mem_singleton.mpr rfl),rfl⟩
theorem Qp6 {n:Nat} {A:Nat->Int} {g:Nat->Nat} (T:Tw n A g):(∀e∈plc A n,∃i,i<n/\e.2=[i,g i])/\∀i,i<n->∃e∈plc A n,i∈e.2:=by
 obtain ⟨_,h2,h3⟩:=Qcy A n
 constructor
 ·intro e he
  obtain ⟨a1,a2⟩:=h2 e he
  have mem:∀k,k∈e.2↔k<n/\A k=e.1:=λk=>by rw [a1,List.mem_filter,List.mem_range];simp
  have nd:e.2.Nodup:=by rw [a1];exact List.nodup_range.sublist List.filter_sublist
  cases hl:e.2 with
  | nil=>exact absurd hl a2
  | cons i r =>
   rw [hl] at mem nd
   obtain ⟨hi,hA⟩:=(mem i).mp List.mem_cons_self
   obtain ⟨n1,n2⟩:=List.nodup_cons.mp nd
   refine ⟨i,hi,?_⟩
   have gm:g i∈i::r:=(mem (g i)).mpr ⟨T.lt i hi,(T.eq i hi).trans hA⟩
   have gr:g i∈r:=(List.mem_cons.mp gm).resolve_left (T.ne i hi)
   have all:∀k∈r,k=g i:=λk hk=>by
    obtain ⟨k1,k2⟩:=(mem k).mp (List.mem_cons_of_mem _ hk)
    rcases T.only i k hi k1 (k2.trans hA.symm) with z | z
    ·exact absurd (z ▸ hk) n1
    ·exact z
   have hr:r=[g i]:=by
    cases r with
    | nil=>cases gr
    | cons x r' =>
     have hx:=all x List.mem_cons_self
     cases r' with
     | nil=>rw [hx]
     | cons y r'' =>
      have hy:=all y (List.mem_cons_of_mem _ List.mem_cons_self)
      have:=(List.nodup_cons.mp n2).1
      exact absurd (by rw [hx,← hy];exact List.mem_cons_self) this
   rw [hr]
 ·intro i hi
  obtain ⟨e,he,q⟩:=h3 i hi
  obtain ⟨a1,_⟩:=h2 e he
  exact ⟨e,he,by rw [a1,List.mem_filter];exact ⟨List.mem_range.mpr hi,by simp [q]⟩⟩
end M
namespace L2
open PySem PySem.Spec PyProof.Rows
structure Lam where
 qual:Str
 args:Arguments
 body:Expr
 scope:Scope
 names:List Str
abbrev anyO:HO:=.ext λ_=>True
abbrev Lam.obj (L:Lam) (cl:List (Str × Addr)) (pm:Value) (c':Addr) (ctv:Value):Obj:=PySem.W.kla_obj "<lambda>" L.qual L.args L.body L.scope cl pm c' ctv
def Qik (H:Hp) (L:Lam) (a:Addr) (cl:List (Str × Addr)):Prop :=
 ∃(c':Addr) (oc:Obj) (vs:Array Value) (t:Tok) (pm ctv:Value) (u:HO),H a=some (.frz (L.obj cl pm c' ctv) anyO)/\H c'=some (.frz oc u)/\oc.data=.fields vs/\vs[1]? = some (.str L.qual t)
def X0 (H:Hp):List (Str × Addr)->List V->Prop
 | [],[]=>True
 | p::cl,x::xs=>(∃oo v,H p.2=some (.frz oo anyO)/\oo.data=.cell (some v)/\RelV x v)/\X0 H cl xs
 | _,_=>False
def Qn8 (H:Hp) (L:Lam) (a:Addr) (xs:List V):Prop :=
 ∃cl:List (Str × Addr),Qik H L a cl/\cl.map (·.1)=L.names/\(cl.map (·.2)).Nodup/\X0 H cl xs
section
variable {H H':Hp} {L:Lam} {a:Addr} {cl:List (Str × Addr)} {xs:List V}
theorem Qik.keeps (hi:∀b o u,H b=some (.frz o u)->H' b=some (.frz o u)) (x:Qik H L a cl):Qik H' L a cl:=by
 obtain ⟨c',oc,vs,t,pm,ctv,u,h1,h2,r⟩:=x
 exact ⟨c',oc,vs,t,pm,ctv,u,hi _ _ _ h1,hi _ _ _ h2,r⟩
theorem X0.keeps (hi:∀b o u,H b=some (.frz o u)->H' b=some (.frz o u)):∀{cl:List (Str × Addr)} {xs:List V},X0 H cl xs->X0 H' cl xs
 | [],[],_=>trivial
 | p::cl,x::xs,⟨⟨oo,v,h1,r⟩,q⟩=>⟨⟨oo,v,hi _ _ _ h1,r⟩,X0.keeps hi q⟩
 | [],_::_,h=>h.elim
 | _::_,[],h=>h.elim
theorem Qn8.keeps (hi:∀b o u,H b=some (.frz o u)->H' b=some (.frz o u)) (x:Qn8 H L a xs):Qn8 H' L a xs:=by
 obtain ⟨cl,h1,h2,h3,h4⟩:=x
 exact ⟨cl,h1.keeps hi,h2,h3,h4.keeps hi⟩
end
section
variable {P:Program} {w:World} {K:PySem.W.Frag} {mg:Str->Option Value} {base:Heap} {A:Around} {outer:List Env} {s s':Shared} {H H2:Hp} {cs:List Addr} {h:Heap}
end
section
variable {P:Program} {w:World} {K:PySem.W.Frag} {mg:Str->Option Value} {base:Heap} {A:Around} {outer:List Env} {s s':Shared} {H H2:Hp} {cs:List Addr}
end
end L2
namespace L2
open PySem PySem.Spec PyProof.Rows
open PySem.W (kla_obj kla_fn envX CodeHd codeHd_of_K codeHdIn tabObj)
section
variable {X:Cx}
end
section
variable {X:Cx} {k:Nat}
end
end L2
namespace PV
open PySem PySem.Spec L2
inductive Ty where
 | int | bool | str | tuple | list | dict
 deriving DecidableEq
def Ty.nm:Ty->String
 | .int=>"int" | .bool=>"bool" | .str=>"str" | .tuple=>"tuple" | .list=>"list" | .dict=>"dict"
inductive KC where
 | any (a:Addr)
 | fn (x:Str)
 | int (i:Int)
 | tup (ks:List KC)
mutual
inductive IsKC (K:PySem.W.Frag):KC->V->Prop
 | any (a:Addr):IsKC K (.any a) (.ref a)
 | fn {x:Str} {f:Addr} (h:PySem.W.nsIn K mainGlobals x=some (some (.ref f))):IsKC K (.fn x) (.ref f)
 | int (i:Int):IsKC K (.int i) (.int i)
 | tup {a:Addr} {xs:List V} {ks:List KC} {o:Obj} {its:Array Value} {n:Nat} (h1:K.lookup a=some o) (h2:o.cls=.type "tuple") (h3:o.data=.seq its n) (h4:its.size<=sizeLine) (h5:Vals xs its.toList) (r:AreKC K ks xs):IsKC K (.tup ks) (.ref a)
inductive AreKC (K:PySem.W.Frag):List KC->List V->Prop
 | nil:AreKC K [] []
 | cons {c:KC} {v:V} {cs:List KC} {vs:List V} (h:IsKC K c v) (r:AreKC K cs vs):AreKC K (c::cs) (v::vs)
end
inductive D where
 | non
 | bl (b:Bool)
 | int (i:Int)
 | str (x:Str)
 | tup (xs:List D)
 | lst (xs:List D)
 | dik (kvs:List (Key × D))
 | dit (kvs:List (List Key × D))
 | kls (xs:List D)
 | ty (t:Ty)
 | fdk (kvs:List (Key × D))
 | ftp (xs:List D)
 | fls (xs:List D)
 | fdt (kvs:List (List Key × D))
 | obj (x:Str) (fs:List (Str × Int))
 | clo (L:Lam) (ds:List D)
 | kc (c:KC)
 | dmx (kvs:List (Mx.MI × D))
 | fmx (kvs:List (Mx.MI × D))
def imm:HO->Bool
 | .tup _=>true
 | .frz _ _=>true
 | _=>false
def FzL (K:PySem.W.Frag) (H:Hp) (a:Addr) (xs:List V):Prop :=
 (∃o,H a=some (.frz o (.lst xs))) \/
  ∃(o:Obj) (its:Array Value) (n:Nat),K.lookup a=some o/\o.cls=.type "list" /\ o.dict=none/\o.data=.seq its n/\its.size<=sizeLine/\Vals xs its.toList
theorem FzL.sq {K:PySem.W.Frag} {H:Hp} {a:Addr} {xs:List V} (h:FzL K H a xs):SqL K H a xs:=by
 rcases h with h | h
 ·exact .inl (.inr h)
 ·exact .inr h
mutual
inductive Rep (K:PySem.W.Frag) (H:Hp):D->V->List Addr->Prop
 | non:Rep K H .non .non []
 | bl (b:Bool):Rep K H (.bl b) (.bl b) []
 | int (i:Int):Rep K H (.int i) (.int i) []
 | str (x:Str):Rep K H (.str x) (.str x) []
 | tup {a:Addr} {xs:List V} {ds:List D} {F:List Addr} (e:H a=some (.tup xs)) (r:Reps K H ds xs F):Rep K H (.tup ds) (.ref a) F
 | lst {a:Addr} {xs:List V} {ds:List D} {F:List Addr} (e:H a=some (.lst xs)) (r:Reps K H ds xs F):Rep K H (.lst ds) (.ref a) (a::F)
 | dik {a:Addr} {kvs:List (Key × V)} {ds:List (Key × D)} {F:List Addr} (e:H a=some (.dK kvs)) (r:RepK K H ds kvs F):Rep K H (.dik ds) (.ref a) (a::F)
 | dit {a:Addr} {kvs:List (List Key × V)} {ds:List (List Key × D)} {F:List Addr} (e:H a=some (.dT kvs)) (r:RepT K H ds kvs F):Rep K H (.dit ds) (.ref a) (a::F)
 | kls {a:Addr} {xs:List V} {ds:List D} (e:FzL K H a xs) (r:Reps K H ds xs []):Rep K H (.kls ds) (.ref a) []
 | ty (t:Ty):Rep K H (.ty t) (.ty t.nm) []
 | fdk {a:Addr} {o:Obj} {kvs:List (Key × V)} {ds:List (Key × D)} {F:List Addr} (e:H a=some (.frz o (.dK kvs))) (r:RepK K H ds kvs F):Rep K H (.fdk ds) (.ref a) F
 | ftp {a:Addr} {o:Obj} {xs:List V} {ds:List D} (e:H a=some (.frz o (.tup xs))) (hd:o.dict=none) (r:Reps K H ds xs []):Rep K H (.ftp ds) (.ref a) []
 | fls {a:Addr} {o:Obj} {xs:List V} {ds:List D} (e:H a=some (.frz o (.lst xs))) (r:Reps K H ds xs []):Rep K H (.fls ds) (.ref a) []
 | fdt {a:Addr} {o:Obj} {kvs:List (List Key × V)} {ds:List (List Key × D)} {F:List Addr} (e:H a=some (.frz o (.dT kvs))) (r:RepT K H ds kvs F):Rep K H (.fdt ds) (.ref a) F
 | obj {a:Addr} {x:Str} {o:Obj} {φ:Heap->Prop} {fs:List (Str × Int)} (e:H a=some (.frz o (.ext φ))) (hc:∃C,o.cls=.ref C/\PySem.W.nsIn K mainGlobals x=some (some (.ref C))) (hf:fs=[]\/∃dx od vs,o.dict=some dx/\o.data=.fields vs/\H dx=some (.frz od (.xd (fs.map λp=>(p.1,V.int p.2))))):Rep K H (.obj x fs) (.ref a) []
 | clo {a:Addr} {L:Lam} {xs:List V} {ds:List D} {F:List Addr} (e:Qn8 H L a xs) (r:Reps K H ds xs F):Rep K H (.clo L ds) (.ref a) F
 | kc {c:KC} {v:V} (h:IsKC K c v):Rep K H (.kc c) v []
 | dmx {a:Addr} {kvs:Mx.KVM} {ds:List (Mx.MI × D)} (e:H a=some (Mx.mixO a kvs)) (hk:Mx.Keys H kvs) (hm:kvs.map (·.1)=ds.map (·.1)) (r:Reps K H (ds.map (·.2)) (kvs.map (·.2.2)) []):Rep K H (.dmx ds) (.ref a) [a]
 | fmx {a:Addr} {o:Obj} {kvs:Mx.KVM} {ds:List (Mx.MI × D)} (e:H a=some (.frz o (Mx.mixO a kvs))) (hk:Mx.Keys H kvs) (hm:kvs.map (·.1)=ds.map (·.1)) (r:Reps K H (ds.map (·.2)) (kvs.map (·.2.2)) []):Rep K H (.fmx ds) (.ref a) []
inductive Reps (K:PySem.W.Frag) (H:Hp):List D->List V->List Addr->Prop
 | nil:Reps K H [] [] []
 | cons {d:D} {v:V} {ds:List D} {vs:List V} {F G:List Addr} (h:Rep K H d v F) (r:Reps K H ds vs G):Reps K H (d::ds) (v::vs) (F++G)
inductive RepK (K:PySem.W.Frag) (H:Hp):List (Key × D)->List (Key × V)->List Addr->Prop
 | nil:RepK K H [] [] []
 | cons {k:Key} {d:D} {v:V} {ds:List (Key × D)} {vs:List (Key × V)} {F G:List Addr} (h:Rep K H d v F) (r:RepK K H ds vs G):RepK K H ((k,d)::ds) ((k,v)::vs) (F++G)
inductive RepT (K:PySem.W.Frag) (H:Hp):List (List Key × D)->List (List Key × V)->List Addr->Prop
 | nil:RepT K H [] [] []
 | cons {k:List Key} {d:D} {v:V} {ds:List (List Key × D)} {vs:List (List Key × V)} {F G:List Addr} (h:Rep K H d v F) (r:RepT K H ds vs G):RepT K H ((k,d)::ds) ((k,v)::vs) (F++G)
end
def ImmK (H H':Hp):Prop:=∀b ob,H b=some ob->imm ob=true->H' b=some ob
theorem ImmK.fzL {K:PySem.W.Frag} {H H':Hp} (hi:ImmK H H') {a:Addr} {xs:List V} (e:FzL K H a xs):FzL K H' a xs:=by
 rcases e with ⟨o,e⟩ | e
 ·exact .inl ⟨o,hi _ _ e rfl⟩
 ·exact .inr e
theorem ImmK.keys {H H':Hp} (hi:ImmK H H') {kvs:Mx.KVM} (h:Mx.Keys H kvs):Mx.Keys H' kvs:=λp hp=>by
 have:=h p hp
 revert this
 cases p.1 with
 | inl i=>exact id
 | inr l=>exact λ⟨b,e1,e2⟩=>⟨b,e1,hi _ _ e2 rfl⟩
theorem Rep.frame {K:PySem.W.Frag} {H H':Hp} (hi:ImmK H H') {d:D} {v:V} {F:List Addr} (r:Rep K H d v F):(∀a∈F,H' a=H a)->Rep K H' d v F:=by
 refine Rep.rec (motive_1:=λd v F _=>(∀a∈F,H' a=H a)->Rep K H' d v F) (motive_2:=λd v F _=>(∀a∈F,H' a=H a)->Reps K H' d v F) (motive_3:=λd v F _=>(∀a∈F,H' a=H a)->RepK K H' d v F) (motive_4:=λd v F _=>(∀a∈F,H' a=H a)->RepT K H' d v F) ?_ ?_ ?_ ?_ ?_ ?_ ?_ ?_ ?_ ?_ ?_ ?_ ?_ ?_ ?_ ?_ ?_ ?_ ?_ ?_ ?_ ?_ ?_ ?_ ?_ r
 ·exact λ_=>.non
 ·exact λb _=>.bl b
 ·exact λb _=>.int b
 ·exact λb _=>.str b
 ·exact λe _ ih k=>.tup (hi _ _ e rfl) (ih k)
 ·exact λe _ ih k=>.lst ((k _ (List.mem_cons_self)).trans e) (ih λa h=>k a (List.mem_cons_of_mem _ h))
 ·exact λe _ ih k=>.dik ((k _ (List.mem_cons_self)).trans e) (ih λa h=>k a (List.mem_cons_of_mem _ h))
 ·exact λe _ ih k=>.dit ((k _ (List.mem_cons_self)).trans e) (ih λa h=>k a (List.mem_cons_of_mem _ h))
 ·exact λe _ ih k=>.kls (hi.fzL e) (ih k)
 ·exact λt _=>.ty t
 ·exact λe _ ih k=>.fdk (hi _ _ e rfl) (ih k)
 ·exact λe hd _ ih k=>.ftp (hi _ _ e rfl) hd (ih k)
 ·exact λe _ ih k=>.fls (hi _ _ e rfl) (ih k)
 ·exact λe _ ih k=>.fdt (hi _ _ e rfl) (ih k)
 ·exact λe hc hf _=>.obj (hi _ _ e rfl) hc (hf.imp id λ⟨dx,od,vs,h1,h0,h2⟩=>⟨dx,od,vs,h1,h0,hi _ _ h2 rfl⟩)
 ·exact λe _ ih k=>.clo (e.keeps λ_ _ _ q=>hi _ _ q rfl) (ih k)
 ·exact λh _=>.kc h
 ·exact λe hk hm _ ih k=>.dmx ((k _ (List.mem_cons_self)).trans e) (hi.keys hk) hm (ih λa h=>nomatch h)
 ·exact λe hk hm _ ih k=>.fmx (hi _ _ e rfl) (hi.keys hk) hm (ih λa h=>nomatch h)
 ·exact λ_=>.nil
 ·exact λ_ _ ih1 ih2 k=>.cons (ih1 λa q=>k a (List.mem_append.mpr (.inl q))) (ih2 λa q=>k a (List.mem_append.mpr (.inr q)))
 ·exact λ_=>.nil
 ·exact λ_ _ ih1 ih2 k=>.cons (ih1 λa q=>k a (List.mem_append.mpr (.inl q))) (ih2 λa q=>k a (List.mem_append.mpr (.inr q)))
 ·exact λ_=>.nil
 ·exact λ_ _ ih1 ih2 k=>.cons (ih1 λa q=>k a (List.mem_append.mpr (.inl q))) (ih2 λa q=>k a (List.mem_append.mpr (.inr q)))
theorem Reps.frame {K:PySem.W.Frag} {H H':Hp} (hi:ImmK H H') {d:List D} {v:List V} {F:List Addr} (r:Reps K H d v F) (k:∀a∈F,H' a=H a):Reps K H' d v F:=by
 induction d generalizing v F with
 | nil=>cases r;exact .nil
 | cons d ds ih=>cases r with | cons h r=>exact .cons (Rep.frame hi h λa q=>k a (List.mem_append.mpr (.inl q))) (ih r λa q=>k a (List.mem_append.mpr (.inr q)))
theorem RepK.frame {K:PySem.W.Frag} {H H':Hp} (hi:ImmK H H') {d:List (Key × D)} {v:List (Key × V)} {F:List Addr} (r:RepK K H d v F) (k:∀a∈F,H' a=H a):RepK K H' d v F:=by
 induction d generalizing v F with
 | nil=>cases r;exact .nil
 | cons d ds ih=>cases r with | cons h r=>exact .cons (Rep.frame hi h λa q=>k a (List.mem_append.mpr (.inl q))) (ih r λa q=>k a (List.mem_append.mpr (.inr q)))
theorem RepT.frame {K:PySem.W.Frag} {H H':Hp} (hi:ImmK H H') {d:List (List Key × D)} {v:List (List Key × V)} {F:List Addr} (r:RepT K H d v F) (k:∀a∈F,H' a=H a):RepT K H' d v F:=by
 induction d generalizing v F with
 | nil=>cases r;exact .nil
 | cons d ds ih=>cases r with | cons h r=>exact .cons (Rep.frame hi h λa q=>k a (List.mem_append.mpr (.inl q))) (ih r λa q=>k a (List.mem_append.mpr (.inr q)))
theorem Rep.dom {K:PySem.W.Frag} {H:Hp} {d:D} {v:V} {F:List Addr} (r:Rep K H d v F):∀a∈F,∃ob,H a=some ob/\imm ob=false:=by
 have cn:∀{b:Addr} {F:List Addr} {ob:HO},H b=some ob->imm ob=false->(∀a∈F,∃ob,H a=some ob/\imm ob=false)->∀a∈b::F,∃ob,H a=some ob/\imm ob=false:=λe hb ih a m=>(List.mem_cons.mp m).elim (λz=>z ▸ ⟨_,e,hb⟩) (ih a)
 have ap:∀{F G:List Addr},(∀a∈F,∃ob,H a=some ob/\imm ob=false)->(∀a∈G,∃ob,H a=some ob/\imm ob=false)->∀a∈F++G,∃ob,H a=some ob/\imm ob=false:=λih1 ih2 a m=>(List.mem_append.mp m).elim (ih1 a) (ih2 a)
 have no:∀a∈([]:List Addr),∃ob,H a=some ob/\imm ob=false:=λ_ m=>nomatch m
 refine Rep.rec (motive_1:=λ_ _ F _=>∀a∈F,∃ob,H a=some ob/\imm ob=false) (motive_2:=λ_ _ F _=>∀a∈F,∃ob,H a=some ob/\imm ob=false) (motive_3:=λ_ _ F _=>∀a∈F,∃ob,H a=some ob/\imm ob=false) (motive_4:=λ_ _ F _=>∀a∈F,∃ob,H a=some ob/\imm ob=false) no (λ_=>no) (λ_=>no) (λ_=>no) (λ_ _ ih=>ih) (λe _ ih=>cn e rfl ih) (λe _ ih=>cn e rfl ih) (λe _ ih=>cn e rfl ih) (λ_ _ _=>no) (λ_=>no) (λ_ _ ih=>ih) (λ_ _ _ _=>no) (λ_ _ _=>no) (λ_ _ ih=>ih) (λ_ _ _=>no) (λ_ _ ih=>ih) (λ_=>no) (λe _ _ _ _=>cn e rfl no) (λ_ _ _ _ _=>no) no (λ_ _=>ap) no (λ_ _=>ap) no (λ_ _=>ap) r
theorem Reps.dom {K:PySem.W.Frag} {H:Hp} {d:List D} {v:List V} {F:List Addr} (r:Reps K H d v F):∀a∈F,∃ob,H a=some ob/\imm ob=false:=by
 induction d generalizing v F with
 | nil=>cases r;exact λ_ m=>nomatch m
 | cons d ds ih=>cases r with | cons h r=>exact λa m=>(List.mem_append.mp m).elim (Rep.dom h a) (ih r a)
mutual
def D.pure:D->Bool
 | .tup xs=>Qg xs
 | .lst _=>false
 | .dik _=>false
 | .dit _=>false
 | .kls _=>true
 | .non=>true
 | .bl _=>true
 | .int _=>true
 | .str _=>true
 | .ty _=>true
 | .fdk kvs=>kvs.isEmpty
 | .ftp _=>true
 | .fls _=>true
 | .fdt _=>false
 | .obj _ _=>true
 | .clo _ _=>false
 | .kc _=>true
 | .dmx _=>false
 | .fmx _=>false
def Qg:List D->Bool
 | []=>true
 | d::r=>d.pure && Qg r
end
theorem Q5 {xs:List D}:Qg xs=true↔∀x∈xs,x.pure=true:=by
 induction xs with
 | nil=>simp [Qg]
 | cons d r ih=>simp only [Qg,Bool.and_eq_true,ih,List.mem_cons,forall_eq_or_imp]
theorem Rep.pure {K:PySem.W.Frag} {H:Hp} {d:D} {v:V} {F:List Addr} (r:Rep K H d v F):d.pure=true->F=[]/\Rep K H d v []:=by
 have no:∀{P:Prop} {b:Bool},b=false->b=true->P:=λh h'=>absurd (h.symm.trans h') (by simp)
 refine Rep.rec (motive_1:=λd v F _=>d.pure=true->F=[]/\Rep K H d v []) (motive_2:=λd v F _=>Qg d=true->F=[]/\Reps K H d v []) (motive_3:=λ_ _ _ _=>True) (motive_4:=λ_ _ _ _=>True) ?_ ?_ ?_ ?_ ?_ ?_ ?_ ?_ ?_ ?_ ?_ ?_ ?_ ?_ ?_ ?_ ?_ ?_ ?_ ?_ ?_ trivial (λ_ _ _ _=>trivial) trivial (λ_ _ _ _=>trivial) r
 ·exact λ_=>⟨rfl,.non⟩
 ·exact λb _=>⟨rfl,.bl b⟩
 ·exact λb _=>⟨rfl,.int b⟩
 ·exact λb _=>⟨rfl,.str b⟩
 ·exact λe _ ih p=>⟨(ih (by rw [D.pure] at p;exact p)).1,.tup e (ih (by rw [D.pure] at p;exact p)).2⟩
 ·exact λ_ _ _=>no (by rw [D.pure])
 ·exact λ_ _ _=>no (by rw [D.pure])
 ·exact λ_ _ _=>no (by rw [D.pure])
 ·exact λe r _ _=>⟨rfl,.kls e r⟩
 ·exact λb _=>⟨rfl,.ty b⟩
 ·intro a o kvs ds F e r _ p
  have hd:ds=[]:=by rw [D.pure] at p;exact List.isEmpty_iff.mp p
  subst hd
  cases r
  exact ⟨rfl,.fdk e .nil⟩
 ·exact λe hd r _ _=>⟨rfl,.ftp e hd r⟩
 ·exact λe r _ _=>⟨rfl,.fls e r⟩
 ·exact λ_ _ _=>no (by rw [D.pure])
 ·exact λe hc hf _=>⟨rfl,.obj e hc hf⟩
 ·exact λ_ _ _=>no (by rw [D.pure])
 ·exact λh _=>⟨rfl,.kc h⟩
 ·exact λ_ _ _ _ _=>no (by rw [D.pure])
 ·exact λ_ _ _ _ _=>no (by rw [D.pure])
 ·exact λ_=>⟨rfl,.nil⟩
 ·intro _ _ _ _ _ _ _ _ ih1 ih2 p
  rw [Qg,Bool.and_eq_true] at p
  obtain ⟨e1,r1⟩:=ih1 p.1
  obtain ⟨e2,r2⟩:=ih2 p.2
  subst e1 e2
  exact ⟨rfl,.cons (F:=[]) (G:=[]) r1 r2⟩
theorem Reps.pure {K:PySem.W.Frag} {H:Hp} {d:List D} {v:List V} {F:List Addr} (r:Reps K H d v F) (p:Qg d=true):F=[]/\Reps K H d v []:=by
 induction d generalizing v F with
 | nil=>cases r;exact ⟨rfl,.nil⟩
 | cons d ds ih =>
  cases r with
  | cons h r =>
   rw [Qg,Bool.and_eq_true] at p
   obtain ⟨e1,r1⟩:=h.pure p.1
   obtain ⟨e2,r2⟩:=ih r p.2
   subst e1 e2
   exact ⟨rfl,.cons (F:=[]) (G:=[]) r1 r2⟩
section
variable {K:PySem.W.Frag} {H:Hp}
theorem Reps.length {ds:List D} {xs:List V} {F:List Addr} (r:Reps K H ds xs F):xs.length=ds.length:=by
 induction ds generalizing xs F with
 | nil=>cases r;rfl
 | cons d ds ih=>cases r with | cons h r=>simp [ih r]
theorem Reps.append {ds es:List D} {xs ys:List V} {F G:List Addr} (r:Reps K H ds xs F) (q:Reps K H es ys G):Reps K H (ds++es) (xs++ys) (F++G):=by
 induction ds generalizing xs F with
 | nil=>cases r;exact q
 | cons d ds ih=>cases r with | cons h r=>rw [List.append_assoc];exact .cons h (ih r)
theorem Reps.one {d:D} {x:V} {F:List Addr} (h:Rep K H d x F):Reps K H [d] [x] F:=by
 have:=Reps.cons h (Reps.nil (K:=K) (H:=H))
 rwa [List.append_nil] at this
theorem Reps.snoc {ds:List D} {xs:List V} {d:D} {x:V} {F G:List Addr} (r:Reps K H ds xs F) (h:Rep K H d x G):Reps K H (ds++[d]) (xs++[x]) (F++G):=r.append (.one h)
theorem Reps.split {ds:List D} {xs:List V} {F:List Addr} {i:Nat} {d:D} (r:Reps K H ds xs F) (h:ds[i]? = some d) :
  ∃x A B C,xs[i]? = some x/\F=A++B++C/\Rep K H d x B/\Reps K H (ds.take i) (xs.take i) A/\Reps K H (ds.drop (i+1)) (xs.drop (i+1)) C:=by
 induction ds generalizing xs F i with
 | nil=>simp at h
 | cons e ds ih =>
  cases r with
  | @cons _ v _ vs F G p r =>
   cases i with
   | zero =>
    simp at h
    subst h
    exact ⟨v,[],F,G,rfl,by simp,p,.nil,by simpa using r⟩
   | succ i =>
    obtain ⟨x,A,B,C,h1,h2,h3,h4,h5⟩:=ih r (i:=i) (by simpa using h)
    exact ⟨x,F++A,B,C,by simpa using h1,by rw [h2];simp,h3,by simpa using Reps.cons p h4,by simpa using h5⟩
theorem Reps.get {ds:List D} {xs:List V} {F:List Addr} {i:Nat} {d:D} (r:Reps K H ds xs F) (h:ds[i]? = some d):∃x B,xs[i]? = some x/\Rep K H d x B/\B.Sublist F:=by
 obtain ⟨x,A,B,C,h1,h2,h3,_⟩:=r.split h
 exact ⟨x,B,h1,h3,h2 ▸ (List.sublist_append_right A B).trans (List.sublist_append_left _ C)⟩
theorem G1 {α:Type} {l:List α} {i:Nat} {a:α} (h:i<l.length):l.set i a=l.take i++a::l.drop (i+1):=by
 rw [List.set_eq_take_append_cons_drop,if_pos h]
theorem Qh7 {α:Type} (l:List α) (i:Nat):l.eraseIdx i=l.take i++l.drop (i+1):=List.eraseIdx_eq_take_drop_succ l i
theorem Reps.take {ds:List D} {xs:List V} {F:List Addr} (i:Nat) (r:Reps K H ds xs F):∃G,Reps K H (ds.take i) (xs.take i) G/\G.Sublist F:=by
 induction ds generalizing xs F i with
 | nil=>cases r;exact ⟨[],by simpa using Reps.nil,List.Sublist.slnil⟩
 | cons d ds ih =>
  cases r with
  | @cons _ v _ vs F G p r =>
   cases i with
   | zero=>exact ⟨[],by simpa using Reps.nil,List.nil_sublist _⟩
   | succ i =>
    obtain ⟨G',q,s⟩:=ih i r
    exact ⟨F++G',by simpa using Reps.cons p q,List.Sublist.append (List.Sublist.refl _) s⟩
theorem Reps.drop {ds:List D} {xs:List V} {F:List Addr} (i:Nat) (r:Reps K H ds xs F):∃G,Reps K H (ds.drop i) (xs.drop i) G/\G.Sublist F:=by
 induction ds generalizing xs F i with
 | nil=>cases r;exact ⟨[],by simpa using Reps.nil,List.Sublist.slnil⟩
 | cons d ds ih =>
  cases i with
  | zero=>exact ⟨F,by simpa using r,List.Sublist.refl _⟩
  | succ i =>
   cases r with
   | @cons _ v _ vs F G p r =>
    obtain ⟨G',q,s⟩:=ih i r
    exact ⟨G',by simpa using q,s.trans (List.sublist_append_right _ _)⟩
theorem Reps.ints (ns:List Int):Reps K H (ns.map D.int) (ns.map V.int) []:=by
 induction ns with
 | nil=>exact .nil
 | cons n ns ih=>exact .cons (F:=[]) (G:=[]) (.int n) ih
theorem Reps.of_ints {ns:List Int} {xs:List V} {F:List Addr} (r:Reps K H (ns.map D.int) xs F):xs=ns.map V.int/\F=[]:=by
 induction ns generalizing xs F with
 | nil=>cases r;exact ⟨rfl,rfl⟩
 | cons n ns ih =>
  cases r with
  | cons h r =>
   cases h
   obtain ⟨e1,e2⟩:=ih r
   exact ⟨by rw [e1];rfl,by rw [e2];rfl⟩
end
def kcD:KC->D
 | .int i=>.int i
 | .any a=>.kc (.any a)
 | .fn x=>.kc (.fn x)
 | .tup ks=>.kc (.tup ks)
section
variable {K:PySem.W.Frag} {H:Hp}
theorem IsKC.rep {c:KC} {v:V} (h:IsKC K c v):Rep K H (kcD c) v []:=by
 cases h with
 | int i=>exact .int i
 | any a=>exact .kc (.any a)
 | fn h=>exact .kc (.fn h)
 | tup h1 h2 h3 h4 h5 r=>exact .kc (.tup h1 h2 h3 h4 h5 r)
theorem AreKC.reps {cs:List KC} {vs:List V} (h:AreKC K cs vs):Reps K H (cs.map kcD) vs []:=by
 induction cs generalizing vs with
 | nil=>cases h;exact .nil
 | cons c cs ih=>cases h with | cons h r=>exact .cons (F:=[]) (G:=[]) h.rep (ih r)
theorem IsKC.sqT {ks:List KC} {v:V} (h:IsKC K (.tup ks) v):∃a xs,v=.ref a/\(∀H,SqT K H a xs)/\AreKC K ks xs:=by
 cases h with
 | tup h1 h2 h3 h4 h5 r=>exact ⟨_,_,rfl,λH=>.inr ⟨_,_,_,h1,h2,h3,h4,h5⟩,r⟩
end
section
variable {K:PySem.W.Frag} {H:Hp} {v:V} {F:List Addr}
theorem Rep.iInt {i:Int} (r:Rep K H (.int i) v F):v=.int i:=by cases r;rfl
theorem Rep.iStr {i:Str} (r:Rep K H (.str i) v F):v=.str i:=by cases r;rfl
theorem Rep.iBl {i:Bool} (r:Rep K H (.bl i) v F):v=.bl i:=by cases r;rfl
theorem Rep.iTup {ds:List D} (r:Rep K H (.tup ds) v F):∃a xs,v=.ref a/\H a=some (.tup xs)/\Reps K H ds xs F:=by cases r with | tup e r=>exact ⟨_,_,rfl,e,r⟩
theorem Rep.iLst {ds:List D} (r:Rep K H (.lst ds) v F):∃a xs G,v=.ref a/\F=a::G/\H a=some (.lst xs)/\Reps K H ds xs G:=by cases r with | lst e r=>exact ⟨_,_,_,rfl,rfl,e,r⟩
theorem Rep.iDik {ds:List (Key × D)} (r:Rep K H (.dik ds) v F):∃a xs G,v=.ref a/\F=a::G/\H a=some (.dK xs)/\RepK K H ds xs G:=by cases r with | dik e r=>exact ⟨_,_,_,rfl,rfl,e,r⟩
theorem Rep.iDit {ds:List (List Key × D)} (r:Rep K H (.dit ds) v F):∃a xs G,v=.ref a/\F=a::G/\H a=some (.dT xs)/\RepT K H ds xs G:=by cases r with | dit e r=>exact ⟨_,_,_,rfl,rfl,e,r⟩
theorem Rep.iKls {ds:List D} (r:Rep K H (.kls ds) v F):∃a xs,v=.ref a/\F=[]/\FzL K H a xs/\Reps K H ds xs []:=by cases r with | kls e r=>exact ⟨_,_,rfl,rfl,e,r⟩
theorem Rep.iFdk {ds:List (Key × D)} (r:Rep K H (.fdk ds) v F):∃a o xs,v=.ref a/\H a=some (.frz o (.dK xs))/\RepK K H ds xs F:=by cases r with | fdk e r=>exact ⟨_,_,_,rfl,e,r⟩
end
section
variable {κ:Type} [DecidableEq κ]
def valD (kvs:List (κ × D)) (k:κ):Option D:=(kvs.find? λkv=>decide (kv.1=k)).map (·.2)
def putD (kvs:List (κ × D)) (k:κ) (v:D):List (κ × D) :=
 if (kvs.any λkv=>decide (kv.1=k))=true then kvs.map (λkv=>if kv.1=k then (kv.1,v) else kv) else kvs++[(k,v)]
theorem Qml {k:κ}:valD ([]:List (κ × D)) k=none:=rfl
theorem Yr {p:κ × D} {r:List (κ × D)} {k:κ}:valD (p::r) k=if p.1=k then some p.2 else valD r k:=by
 unfold valD
 by_cases h:p.1=k
 ·rw [List.find?_cons_of_pos (by simpa using h),if_pos h];rfl
 ·rw [List.find?_cons_of_neg (by simpa using h),if_neg h]
theorem Xo (k:κ):∀kvs:List (κ × D),(kvs.any λkv=>decide (kv.1=k))=(valD kvs k).isSome
 | []=>rfl
 | p::r=>by
  rw [List.any_cons,Yr,Xo k r]
  by_cases h:p.1=k <;> simp [h]
theorem Qmt {kvs:List (κ × D)} {k:κ} (v:D) (h:valD kvs k=none):putD kvs k v=kvs++[(k,v)]:=by
 unfold putD
 rw [Xo,h]
 rfl
theorem Qat (k j:κ) (y:D):∀kvs:List (κ × D),valD (kvs++[(k,y)]) j=if (valD kvs j).isSome then valD kvs j else if k=j then some y else none
 | []=>by simp [Yr,Qml]
 | p::r=>by
  rw [List.cons_append,Yr,Yr,Qat k j y r]
  by_cases h:p.1=j <;> simp [h]
end
section
variable {K:PySem.W.Frag} {H:Hp}
theorem RepK.length {ds:List (Key × D)} {xs:List (Key × V)} {F:List Addr} (r:RepK K H ds xs F):xs.length=ds.length:=by
 induction ds generalizing xs F with
 | nil=>cases r;rfl
 | cons d ds ih=>cases r with | cons h r=>simp [ih r]
theorem RepK.keys {ds:List (Key × D)} {xs:List (Key × V)} {F:List Addr} (r:RepK K H ds xs F):xs.map (·.1)=ds.map (·.1):=by
 induction ds generalizing xs F with
 | nil=>cases r;rfl
 | cons d ds ih=>cases r with | cons h r=>simp [ih r]
theorem RepK.val {ds:List (Key × D)} {xs:List (Key × V)} {F:List Addr} (r:RepK K H ds xs F) (k:Key) :
  (valD ds k=none/\valV xs k=none)\/∃d v B,valD ds k=some d/\valV xs k=some v/\Rep K H d v B/\B.Sublist F:=by
 induction ds generalizing xs F with
 | nil=>cases r;exact .inl ⟨rfl,rfl⟩
 | cons d ds ih =>
  cases r with
  | @cons j d v _ vs F G h r =>
   rw [Yr]
   by_cases e:j=k
   ·rw [J8 e,if_pos e]
    exact .inr ⟨d,v,F,rfl,rfl,h,List.sublist_append_left _ _⟩
   ·rw [J9 e,if_neg e]
    rcases ih r with q | ⟨d',v',B,h1,h2,h3,h4⟩
    ·exact .inl q
    ·exact .inr ⟨d',v',B,h1,h2,h3,h4.trans (List.sublist_append_right _ _)⟩
theorem RepK.append {ds es:List (Key × D)} {xs ys:List (Key × V)} {F G:List Addr} (r:RepK K H ds xs F) (q:RepK K H es ys G):RepK K H (ds++es) (xs++ys) (F++G):=by
 induction ds generalizing xs F with
 | nil=>cases r;exact q
 | cons d ds ih=>cases r with | cons h r=>rw [List.append_assoc];exact .cons h (ih r)
theorem RepK.put {ds:List (Key × D)} {xs:List (Key × V)} {F:List Addr} {k:Key} {d:D} {v:V} (r:RepK K H ds xs F) (h:Rep K H d v []):∃G,RepK K H (putD ds k d) (putK xs k v) G/\G.Sublist F:=by
 have hk:(xs.any λkv=>decide (kv.1=k))=(ds.any λkv=>decide (kv.1=k)):=by
  have e:=r.keys
  rw [show (xs.any λkv=>decide (kv.1=k))=(xs.map (·.1)).any (λj=>decide (j=k)) by rw [List.any_map];rfl,e,List.any_map];rfl
 unfold putD putK
 rw [hk]
 split
 ·clear hk
  rename_i hc
  clear hc
  induction ds generalizing xs F with
  | nil=>cases r;exact ⟨[],.nil,List.Sublist.slnil⟩
  | cons e ds ih =>
   cases r with
   | @cons j e u _ us F G p r =>
    obtain ⟨G',q,s⟩:=ih r
    by_cases ej:j=k
    ·exact ⟨[]++G',by simpa [ej] using RepK.cons (k:=k) h q,s.trans (List.sublist_append_right _ _)⟩
    ·exact ⟨F++G',by simpa [ej] using RepK.cons (k:=j) p q,List.Sublist.append (List.Sublist.refl _) s⟩
 ·refine ⟨F++[],r.append ?_,by simp⟩
  exact RepK.cons (F:=[]) (G:=[]) h .nil
theorem RepT.length {ds:List (List Key × D)} {xs:List (List Key × V)} {F:List Addr} (r:RepT K H ds xs F):xs.length=ds.length:=by
 induction ds generalizing xs F with
 | nil=>cases r;rfl
 | cons d ds ih=>cases r with | cons h r=>simp [ih r]
theorem RepT.keys {ds:List (List Key × D)} {xs:List (List Key × V)} {F:List Addr} (r:RepT K H ds xs F):xs.map (·.1)=ds.map (·.1):=by
 induction ds generalizing xs F with
 | nil=>cases r;rfl
 | cons d ds ih=>cases r with | cons h r=>simp [ih r]
theorem RepT.val {ds:List (List Key × D)} {xs:List (List Key × V)} {F:List Addr} (r:RepT K H ds xs F) (k:List Key) :
  (valD ds k=none/\valV xs k=none)\/∃d v B,valD ds k=some d/\valV xs k=some v/\Rep K H d v B/\B.Sublist F:=by
 induction ds generalizing xs F with
 | nil=>cases r;exact .inl ⟨rfl,rfl⟩
 | cons d ds ih =>
  cases r with
  | @cons j d v _ vs F G h r =>
   rw [Yr]
   by_cases e:j=k
   ·rw [J8 e,if_pos e]
    exact .inr ⟨d,v,F,rfl,rfl,h,List.sublist_append_left _ _⟩
   ·rw [J9 e,if_neg e]
    rcases ih r with q | ⟨d',v',B,h1,h2,h3,h4⟩
    ·exact .inl q
    ·exact .inr ⟨d',v',B,h1,h2,h3,h4.trans (List.sublist_append_right _ _)⟩
theorem RepT.append {ds es:List (List Key × D)} {xs ys:List (List Key × V)} {F G:List Addr} (r:RepT K H ds xs F) (q:RepT K H es ys G):RepT K H (ds++es) (xs++ys) (F++G):=by
 induction ds generalizing xs F with
 | nil=>cases r;exact q
 | cons d ds ih=>cases r with | cons h r=>rw [List.append_assoc];exact .cons h (ih r)
theorem RepT.put {ds:List (List Key × D)} {xs:List (List Key × V)} {F:List Addr} {k:List Key} {d:D} {v:V} (r:RepT K H ds xs F) (h:Rep K H d v []):∃G,RepT K H (putD ds k d) (putK xs k v) G/\G.Sublist F:=by
 have hk:(xs.any λkv=>decide (kv.1=k))=(ds.any λkv=>decide (kv.1=k)):=by
  have e:=r.keys
  rw [show (xs.any λkv=>decide (kv.1=k))=(xs.map (·.1)).any (λj=>decide (j=k)) by rw [List.any_map];rfl,e,List.any_map];rfl
 unfold putD putK
 rw [hk]
 split
 ·clear hk
  rename_i hc
  clear hc
  induction ds generalizing xs F with
  | nil=>cases r;exact ⟨[],.nil,List.Sublist.slnil⟩
  | cons e ds ih =>
   cases r with
   | @cons j e u _ us F G p r =>
    obtain ⟨G',q,s⟩:=ih r
    by_cases ej:j=k
    ·exact ⟨[]++G',by simpa [ej] using RepT.cons (k:=k) h q,s.trans (List.sublist_append_right _ _)⟩
    ·exact ⟨F++G',by simpa [ej] using RepT.cons (k:=j) p q,List.Sublist.append (List.Sublist.refl _) s⟩
 ·refine ⟨F++[],r.append ?_,by simp⟩
  exact RepT.cons (F:=[]) (G:=[]) h .nil
end
end PV
namespace PV
open PySem PySem.Spec L2
abbrev Env:=List (Option D)
def look:Env->Nat->Option D
 | [],_=>none
 | a::_,0=>a
 | _::r,n+1=>look r n
theorem Qht:∀{ρ:Env} {i:Nat} {d:D},look ρ i=some d->ρ[i]? = some (some d)
 | _::_,0,_,h=>by simpa [look] using h
 | _::r,n+1,_,h=>by simpa using Qht (ρ:=r) (i:=n) (by simpa [look] using h)
theorem Xw {ρ:Env} {i:Nat} {d:D} (h:look ρ i=some d):i<ρ.length:=by
 have:=Qht h
 exact (List.getElem?_eq_some_iff.mp this).1
theorem Uj {o:Option D}:∀{ρ:Env} {i j:Nat},look (ρ.set i o) j=if j=i/\i<ρ.length then o else look ρ j
 | [],i,j=>by simp [look]
 | a::r,0,0=>by simp [look]
 | a::r,0,j+1=>by simp [look]
 | a::r,i+1,0=>by simp [look]
 | a::r,i+1,j+1=>by
  have:=Uj (o:=o) (ρ:=r) (i:=i) (j:=j)
  simp only [List.set_cons_succ,look,this,List.length_cons,Nat.add_right_cancel_iff,Nat.add_lt_add_iff_right]
theorem Vp {o:Option D} {ρ:Env} {i:Nat} (h:i<ρ.length):look (ρ.set i o) i=o:=by rw [Uj,if_pos ⟨rfl,h⟩]
theorem Qu {o:Option D} {ρ:Env} {i j:Nat} (h:j≠i):look (ρ.set i o) j=look ρ j:=by rw [Uj,if_neg (λz=>h z.1)]
structure Tg where
 own:Nat->Bool
 io:List Nat
 xe:D->St->Hp->Prop:=λ_ _ _=>False
structure SR0 (K:PySem.W.Frag) (T:Tg) (z:Nat->V) (R:Addr->Prop) (H:Hp) (W:Addr->Prop) (σ:St) (ρ:Env) (fp:Nat->List Addr):Prop where
 len:ρ.length=σ.length
 wd:∀a,W a->∃ob,H a=some ob/\imm ob=false
 at_:∀i d,look ρ i=some d->∃v,σ[i]? = some (some v)/\Rep K H d v (fp i)
 own:∀i d,look ρ i=some d->T.own i=true->(fp i).Nodup/\∀a∈fp i,W a
 ro:∀i d,look ρ i=some d->T.own i=false->∀a∈fp i,R a
 wr:∀a,W a->¬R a
 rd:∀a,R a->∃ob,H a=some ob/\imm ob=false
 dis:∀i j d e,look ρ i=some d->look ρ j=some e->T.own i=true->T.own j=true->i≠j->∀a∈fp i,a∉fp j
 fix:∀i∈T.io,σ[i]? = some (some (z i))
def SR (K:PySem.W.Frag) (T:Tg) (z:Nat->V) (R:Addr->Prop) (H:Hp) (W:Addr->Prop) (σ:St) (ρ:Env):Prop:=∃fp,SR0 K T z R H W σ ρ fp
structure FrW (H:Hp) (W:Addr->Prop) (H':Hp) (W':Addr->Prop):Prop where
 keep:∀b ob,H b=some ob->¬W b->H' b=some ob
 dom:∀b,H' b=none->H b=none
 imm:ImmK H H'
 new:∀b,W' b->W b\/H b=none
theorem FrW.refl (H:Hp) (W:Addr->Prop):FrW H W H W:=⟨λ_ _ h _=>h,λ_ h=>h,λ_ _ h _=>h,λ_ h=>.inl h⟩
theorem FrW.trans {H H1 H2:Hp} {W W1 W2:Addr->Prop} (a:FrW H W H1 W1) (b:FrW H1 W1 H2 W2):FrW H W H2 W2 where
 keep:=λc ob h n=>b.keep c ob (a.keep c ob h n) λw=>by
  rcases a.new c w with w | w
  ·exact n w
  ·rw [w] at h;cases h
 dom:=λc h=>a.dom c (b.dom c h)
 imm:=λc ob h i=>b.imm c ob (a.imm c ob h i) i
 new:=λc h=>by
  rcases b.new c h with w | w
  ·exact a.new c w
  ·exact .inr (a.dom c w)
theorem Same.imm {H H':Hp} (s:Same H H'):ImmK H H':=λb ob h _=>s b ob h
theorem FrW.same {H H':Hp} (W:Addr->Prop) (s:Same H H'):FrW H W H' W:=⟨λb ob h _=>s b ob h,λb h=>s.free h,Same.imm s,λ_ h=>.inl h⟩
theorem Rep.same {K:PySem.W.Frag} {H H':Hp} {d:D} {v:V} {F:List Addr} (r:Rep K H d v F) (s:Same H H'):Rep K H' d v F :=
 r.frame (Same.imm s) λa m=>by
  obtain ⟨ob,h,_⟩:=r.dom a m
  rw [h];exact s _ _ h
theorem Reps.same {K:PySem.W.Frag} {H H':Hp} {d:List D} {v:List V} {F:List Addr} (r:Reps K H d v F) (s:Same H H'):Reps K H' d v F :=
 r.frame (Same.imm s) λa m=>by
  obtain ⟨ob,h,_⟩:=r.dom a m
  rw [h];exact s _ _ h
theorem Rep.keep {K:PySem.W.Frag} {H H':Hp} {W W':Addr->Prop} {d:D} {v:V} {F:List Addr} (r:Rep K H d v F) (f:FrW H W H' W') (n:∀a∈F,¬W a):Rep K H' d v F :=
 r.frame f.imm λa m=>by
  obtain ⟨ob,h,_⟩:=r.dom a m
  rw [h];exact f.keep _ _ h (n a m)
section
variable {K:PySem.W.Frag} {T:Tg} {z:Nat->V} {R:Addr->Prop} {H H':Hp} {W W':Addr->Prop} {σ:St} {ρ:Env}
theorem SR.same (s:SR K T z R H W σ ρ) (k:Same H H'):SR K T z R H' W σ ρ:=by
 obtain ⟨fp,r⟩:=s
 exact ⟨fp,r.len,λa h=>(r.wd a h).imp λob q=>⟨k _ _ q.1,q.2⟩,λi d h=>(r.at_ i d h).imp λv q=>⟨q.1,q.2.same k⟩,r.own,r.ro,r.wr,λa h=>(r.rd a h).imp λob q=>⟨k _ _ q.1,q.2⟩,r.dis,r.fix⟩
theorem SR.wd (s:SR K T z R H W σ ρ):∀a,W a->∃ob,H a=some ob/\imm ob=false:=by obtain ⟨fp,r⟩:=s;exact r.wd
theorem SR.rd (s:SR K T z R H W σ ρ):∀a,R a->∃ob,H a=some ob/\imm ob=false:=by obtain ⟨fp,r⟩:=s;exact r.rd
theorem SR.nr (s:SR K T z R H W σ ρ) {a:Addr} (h:H a=none):¬R a:=λw=>by
 obtain ⟨ob,q,_⟩:=s.rd a w
 rw [h] at q;cases q
theorem SR.nw (s:SR K T z R H W σ ρ) {a:Addr} (h:H a=none):¬W a:=λw=>by
 obtain ⟨ob,q,_⟩:=s.wd a w
 rw [h] at q;cases q
end
abbrev WE:=Env->(D->Env->Prop)->Prop
structure Post (K:PySem.W.Frag) (T:Tg) (z:Nat->V) (R:Addr->Prop) (m o:Bool) (H:Hp) (W:Addr->Prop) (σ:St) (ρ:Env) (H':Hp) (W':Addr->Prop) (ρ':Env) (d:D) (v:V) (F:List Addr):Prop where
 sr:SR K T z R H' W' σ ρ'
 fr:FrW H W H' W'
 calm:m=false->Same H H'/\W'=W/\ρ'=ρ
 rep:Rep K H' d v F
 own:o=true->F.Nodup/\∀a∈F,H a=none/\¬W' a
def EV (X:Cx) (T:Tg) (m o:Bool) (e:Expr) (w:WE):Prop :=
 ∃te,PE X e te/\∀(z:Nat->V) (R:Addr->Prop) (σ:St) (H:Hp) (W:Addr->Prop) (ρ:Env) (Q:D->Env->Prop) (Q':VK),SR X.K T z R H W σ ρ->w ρ Q ->
  (∀v H' W' d ρ' F,Post X.K T z R m o H W σ ρ H' W' ρ' d v F->Q d ρ'->Q' v H')->te σ H Q'
section
variable {K:PySem.W.Frag} {T:Tg} {z:Nat->V} {R:Addr->Prop} {H H1 H2:Hp} {W W1 W2:Addr->Prop} {σ:St} {ρ ρ1 ρ2:Env} {m1 m2 o1 o2:Bool} {d1 d2:D} {v1 v2:V} {F1 F2:List Addr}
theorem Post.first (p:Post K T z R m1 o1 H W σ ρ H1 W1 ρ1 d1 v1 F1) (q:Post K T z R m2 o2 H1 W1 σ ρ1 H2 W2 ρ2 d2 v2 F2) (hc:o1=true\/m2=false):Rep K H2 d1 v1 F1:=by
 rcases hc with hc | hc
 ·exact p.rep.keep q.fr λa h=>((p.own hc).2 a h).2
 ·exact p.rep.same (q.calm hc).1
theorem Post.firstOwn (p:Post K T z R m1 o1 H W σ ρ H1 W1 ρ1 d1 v1 F1) (q:Post K T z R m2 o2 H1 W1 σ ρ1 H2 W2 ρ2 d2 v2 F2) (h:o1=true):F1.Nodup/\∀a∈F1,H a=none/\¬W2 a:=by
 obtain ⟨h1,h2⟩:=p.own h
 refine ⟨h1,λa m=>⟨(h2 a m).1,λw=>?_⟩⟩
 rcases q.fr.new a w with w | w
 ·exact (h2 a m).2 w
 ·obtain ⟨ob,e,_⟩:=p.rep.dom a m
  rw [e] at w;cases w
theorem Post.lastOwn (p:Post K T z R m1 o1 H W σ ρ H1 W1 ρ1 d1 v1 F1) (q:Post K T z R m2 o2 H1 W1 σ ρ1 H2 W2 ρ2 d2 v2 F2) (h:o2=true):F2.Nodup/\∀a∈F2,H a=none/\¬W2 a:=by
 obtain ⟨h1,h2⟩:=q.own h
 exact ⟨h1,λa m=>⟨p.fr.dom a (h2 a m).1,(h2 a m).2⟩⟩
theorem Post.calm2 (p:Post K T z R m1 o1 H W σ ρ H1 W1 ρ1 d1 v1 F1) (q:Post K T z R m2 o2 H1 W1 σ ρ1 H2 W2 ρ2 d2 v2 F2) (h:(m1 || m2)=false):Same H H2/\W2=W/\ρ2=ρ:=by
 rw [Bool.or_eq_false_iff] at h
 obtain ⟨a1,a2,a3⟩:=p.calm h.1
 obtain ⟨b1,b2,b3⟩:=q.calm h.2
 exact ⟨a1.trans b1,b2.trans a2,b3.trans a3⟩
theorem Post.fin {m:Bool} {d:D} {v:V} {F:List Addr} (s:SR K T z R H1 W1 σ ρ1) (f:FrW H W H1 W1) (c:m=false->Same H H1/\W1=W/\ρ1=ρ) (k:Same H1 H2) (r:Rep K H2 d v F) (nd:F.Nodup) (nw:∀a∈F,H1 a=none) :
  Post K T z R m true H W σ ρ H2 W1 ρ1 d v F where
 sr:=s.same k
 fr:=f.trans (FrW.same W1 k)
 calm:=λh=>⟨(c h).1.trans k,(c h).2⟩
 rep:=r
 own:=λ_=>⟨nd,λa m=>⟨f.dom a (nw a m),s.nw (nw a m)⟩⟩
theorem Post.flat {m:Bool} {d:D} {v:V} (s:SR K T z R H1 W1 σ ρ1) (f:FrW H W H1 W1) (c:m=false->Same H H1/\W1=W/\ρ1=ρ) (r:Rep K H1 d v []):Post K T z R m true H W σ ρ H1 W1 ρ1 d v [] where
 sr:=s
 fr:=f
 calm:=c
 rep:=r
 own:=λ_=>⟨List.nodup_nil,λa m=>nomatch m⟩
end
section
variable {X:Cx} {T:Tg} {m o m1 m2 o1 o2:Bool} {e a b:Expr} {w wa wb:WE} {pos:Pos}
theorem EV.lift (h:EV X T m o e w):EV X T m true e (λρ Q=>w ρ λd ρ'=>d.pure=true/\Q d ρ'):=by
 obtain ⟨te,p,g⟩:=h
 refine ⟨te,p,λz R σ H W ρ Q Q' s hw k=>g z R σ H W ρ _ Q' s hw λv H' W' d ρ' F q ⟨hp,hq⟩=>?_⟩
 obtain ⟨e,r⟩:=q.rep.pure hp
 exact k v H' W' d ρ' [] ⟨q.sr,q.fr,q.calm,r,λ_=>⟨List.nodup_nil,λa m=>nomatch m⟩⟩ hq
theorem EV.ro (h:EV X T m o e w):EV X T m false e w:=by
 obtain ⟨te,p,g⟩:=h
 exact ⟨te,p,λz R σ H W ρ Q Q' s hw k=>g z R σ H W ρ _ Q' s hw λv H' W' d ρ' F q hq=>k v H' W' d ρ' F ⟨q.sr,q.fr,q.calm,q.rep,λh=>nomatch h⟩ hq⟩
def wVar (i:Nat):WE:=λρ Q=>match look ρ i with
 | some d=>Q d ρ
 | none=>False
def wC (d:D):WE:=λρ Q=>Q d ρ
theorem Qu3 (i:Nat) (h:PE X e (tVar i)):EV X T false false e (wVar i):=by
 refine ⟨_,h,λz R σ H W ρ Q Q' s hw k=>?_⟩
 unfold wVar at hw
 cases hl:look ρ i with
 | none=>rw [hl] at hw;exact hw.elim
 | some d =>
  rw [hl] at hw
  obtain ⟨fp,r⟩:=s
  obtain ⟨v,h1,h2⟩:=r.at_ i d hl
  exact ⟨v,h1,k v H W d ρ (fp i) ⟨⟨fp,r⟩,FrW.refl H W,λ_=>⟨Same.refl H,rfl,rfl⟩,h2,λh=>nomatch h⟩ hw⟩
theorem Qd (i:Nat) {x:Str} (hN:X.N[i]? = some x:=by rfl) (hv:Vis X.env.scope x:=by first | exact Or.inl rfl | exact Or.inr (Or.inl rfl) | exact Or.inr (Or.inr rfl)) (hd:(x == ("__debug__" : Str))=false:=by decide)
  (hcd:(x == ("__classdict__" : Str))=false:=by decide):EV X T false false (.Name x pos) (wVar i):=Qu3 i (Ua hN hv hd hcd)
theorem Ul {d:D} {v:V} (h:PE X e (tC v)) (r:∀H,Rep X.K H d v []):EV X T false true e (wC d) :=
 ⟨_,h,λz R σ H W ρ Q Q' s hw k=>k v H W d ρ [] (Post.flat s (FrW.refl H W) (λ_=>⟨Same.refl H,rfl,rfl⟩) (r H)) hw⟩
theorem Qe {i:Int} {j pos}:EV X T false true (.Constant (.int i) j pos) (wC (.int i)):=Ul Qsc λ_=>.int i
theorem Qdw {i:Bool} {j pos}:EV X T false true (.Constant (.bool i) j pos) (wC (.bl i)):=Ul Qup λ_=>.bl i
theorem Ya {i:Str} {j pos}:EV X T false true (.Constant (.str i) j pos) (wC (.str i)):=Ul Qoo λ_=>.str i
theorem Qh4 {j pos}:EV X T false true (.Constant .none j pos) (wC .non):=Ul Qop λ_=>.non
theorem Qq7 {x:Str} {i:Int} {t:Tok} (hm:X.mg x=some (.int i t)) (hg:Gl X x:=by rfl) (hd:(x == ("__debug__" : Str))=false:=by decide):EV X T false true (.Name x pos) (wC (.int i)) :=
 Ul (Y4 hg hm (v:=.int i) ⟨t,rfl⟩ hd) λ_=>.int i
abbrev G2:=D->D->(D->Prop)->Prop
structure Fin (K:PySem.W.Frag) (H H':Hp) (d:D) (v:V) (F:List Addr):Prop where
 same:Same H H'
 rep:Rep K H' d v F
 nd:F.Nodup
 new:∀a∈F,H a=none
theorem Fin.flat {K:PySem.W.Frag} {H:Hp} {d:D} {v:V} (r:Rep K H d v []):Fin K H H d v []:=⟨Same.refl H,r,List.nodup_nil,λ_ m=>nomatch m⟩
theorem Qj {H:Hp} {p:Addr} {ob:HO} (h:H p=none):Same H (upd H p ob):=λb u e=>by rw [Qk (Jj e h)];exact e
def OpD (X:Cx) (f:Value->Value->Sem Value) (g:G2):Prop :=
 ∃r,OpR X f r/\∀(H:Hp) (a b:D) (x y:V) (F1 F2:List Addr) (k:D->Prop) (Q:VK),Rep X.K H a x F1->Rep X.K H b y F2->g a b k ->
  (∀v H' d F,Fin X.K H H' d v F->k d->Q v H')->r x y H Q
def wBin (g:G2) (wa wb:WE):WE:=λρ Q=>wa ρ λx ρ1=>wb ρ1 λy ρ2=>g x y λd=>Q d ρ2
theorem two {ta tb:TE} {z:Nat->V} {R:Addr->Prop} {σ:St} {H:Hp} {W:Addr->Prop} {ρ:Env} {RR:V->V->Hp->Prop} {Q2:D->D->Env->Prop}
  (ga:∀(z:Nat->V) (R:Addr->Prop) (σ:St) (H:Hp) (W:Addr->Prop) (ρ:Env) (Q:D->Env->Prop) (Q':VK),SR X.K T z R H W σ ρ->wa ρ Q->(∀v H' W' d ρ' F,Post X.K T z R m1 o1 H W σ ρ H' W' ρ' d v F->Q d ρ'->Q' v H')->ta σ H Q')
  (gb:∀(z:Nat->V) (R:Addr->Prop) (σ:St) (H:Hp) (W:Addr->Prop) (ρ:Env) (Q:D->Env->Prop) (Q':VK),SR X.K T z R H W σ ρ->wb ρ Q->(∀v H' W' d ρ' F,Post X.K T z R m2 o2 H W σ ρ H' W' ρ' d v F->Q d ρ'->Q' v H')->tb σ H Q')
  (hc:o1=true\/m2=false) (s:SR X.K T z R H W σ ρ) (hw:wa ρ λx ρ1=>wb ρ1 λy ρ2=>Q2 x y ρ2)
  (k:∀x y H2 W2 d1 d2 ρ2 F1 F2,SR X.K T z R H2 W2 σ ρ2->FrW H W H2 W2->((m1 || m2)=false->Same H H2/\W2=W/\ρ2=ρ)->Rep X.K H2 d1 x F1->Rep X.K H2 d2 y F2 ->
   (o1=true->F1.Nodup/\∀a∈F1,H a=none/\¬W2 a)->(o2=true->F2.Nodup/\∀a∈F2,H a=none/\¬W2 a)->(o2=true->∀a∈F1,a∉F2)->Q2 d1 d2 ρ2->RR x y H2) :
  ta σ H λx H1=>tb σ H1 λy H2=>RR x y H2:=by
 refine ga z R σ H W ρ _ _ s hw λv1 H1 W1 d1 ρ1 F1 p q1=>?_
 refine gb z R σ H1 W1 ρ1 _ _ p.sr q1 λv2 H2 W2 d2 ρ2 F2 q q2=>?_
 refine k v1 v2 H2 W2 d1 d2 ρ2 F1 F2 q.sr (p.fr.trans q.fr) (p.calm2 q) (p.first q hc) q.rep (p.firstOwn q) (p.lastOwn q) (λh a m1 m2=>?_) q2
 obtain ⟨ob,e,_⟩:=p.rep.dom a m1
 rw [((q.own h).2 a m2).1] at e
 cases e
theorem Qx {op:Operator} {g:G2} (ho:OpD X (binaryOp op) g) (ha:EV X T m1 o1 a wa) (hb:EV X T m2 o2 b wb) (hc:o1=true\/m2=false:=by first | exact .inl rfl | exact .inr rfl) :
  EV X T (m1 || m2) true (.BinOp a op b pos) (wBin g wa wb):=by
 obtain ⟨r,ro,gr⟩:=ho
 obtain ⟨ta,pa,ga⟩:=ha
 obtain ⟨tb,pb,gb⟩:=hb
 refine ⟨_,Qun ro pa pb,λz R σ H W ρ Q Q' s hw k=>?_⟩
 refine two ga gb hc s hw λx y H2 W2 d1 d2 ρ2 F1 F2 s2 f2 c2 r1 r2 _ _ _ q2=>?_
 exact gr H2 d1 d2 x y F1 F2 _ Q' r1 r2 q2 λv H' d F fi hk=>k v H' W2 d ρ2 F (Post.fin s2 f2 c2 fi.same fi.rep fi.nd fi.new) hk
theorem Qh6 {op:CmpOp} {g:G2} (ho:OpD X (compareOp op) g) (ha:EV X T m1 o1 a wa) (hb:EV X T m2 o2 b wb) (hc:o1=true\/m2=false:=by first | exact .inl rfl | exact .inr rfl)
  (hm:behindInMarks op b=false:=by first | exact Qor _ | with_unfolding_all rfl):EV X T (m1 || m2) true (.Compare a [op] [b] pos) (wBin g wa wb):=by
 obtain ⟨r,ro,gr⟩:=ho
 obtain ⟨ta,pa,ga⟩:=ha
 obtain ⟨tb,pb,gb⟩:=hb
 refine ⟨_,Qqc ro pa pb hm,λz R σ H W ρ Q Q' s hw k=>?_⟩
 refine two ga gb hc s hw λx y H2 W2 d1 d2 ρ2 F1 F2 s2 f2 c2 r1 r2 _ _ _ q2=>?_
 exact gr H2 d1 d2 x y F1 F2 _ Q' r1 r2 q2 λv H' d F fi hk=>k v H' W2 d ρ2 F (Post.fin s2 f2 c2 fi.same fi.rep fi.nd fi.new) hk
def UnD (X:Cx) (f:Value->Sem Value) (g:D->(D->Prop)->Prop):Prop :=
 ∃r,UnR X f r/\∀(H:Hp) (a:D) (x:V) (F1:List Addr) (k:D->Prop) (Q:VK),Rep X.K H a x F1->g a k->(∀v H' d F,Fin X.K H H' d v F->k d->Q v H')->r x H Q
def wUn (g:D->(D->Prop)->Prop) (wa:WE):WE:=λρ Q=>wa ρ λx ρ1=>g x λd=>Q d ρ1
theorem Qno {op:UnaryOp} {g:D->(D->Prop)->Prop} (ho:UnD X (unaryOp op) g) (ha:EV X T m o a wa):EV X T m true (.UnaryOp op a pos) (wUn g wa):=by
 obtain ⟨r,ro,gr⟩:=ho
 obtain ⟨ta,pa,ga⟩:=ha
 refine ⟨_,Qum ro pa,λz R σ H W ρ Q Q' s hw k=>?_⟩
 refine ga z R σ H W ρ _ _ s hw λv1 H1 W1 d1 ρ1 F1 p q1=>?_
 exact gr H1 d1 v1 F1 _ Q' p.rep q1 λv H' d F fi hk=>k v H' W1 d ρ1 F (Post.fin p.sr p.fr p.calm fi.same fi.rep fi.nd fi.new) hk
abbrev WT:=Env->(Bool->Env->Prop)->Prop
structure PostT (K:PySem.W.Frag) (T:Tg) (z:Nat->V) (R:Addr->Prop) (m:Bool) (H:Hp) (W:Addr->Prop) (σ:St) (ρ:Env) (H':Hp) (W':Addr->Prop) (ρ':Env):Prop where
 sr:SR K T z R H' W' σ ρ'
 fr:FrW H W H' W'
 calm:m=false->Same H H'/\W'=W/\ρ'=ρ
def TV (X:Cx) (T:Tg) (m:Bool) (e:Expr) (w:WT):Prop :=
 ∃tt,PT X e tt/\∀(z:Nat->V) (R:Addr->Prop) (σ:St) (H:Hp) (W:Addr->Prop) (ρ:Env) (Q:Bool->Env->Prop) (Q':Bool->Hp->Prop),SR X.K T z R H W σ ρ->w ρ Q ->
  (∀b H' W' ρ',PostT X.K T z R m H W σ ρ H' W' ρ'->Q b ρ'->Q' b H')->tt σ H Q'
def truD:D->Option Bool
 | .non=>some false
 | .bl b=>some b
 | .int i=>some (i != 0)
 | .str y=>if y.length<=sizeLine then some ((y.length:Int) != 0) else none
 | .lst xs=>some (!xs.isEmpty)
 | .tup xs=>some (!xs.isEmpty)
 | .dik kvs=>some (!kvs.isEmpty)
 | .kls xs=>some (!xs.isEmpty)
 | .dit _=>none
 | .ty _=>none
 | .fdk _=>none
 | .ftp _=>none
 | .fls _=>none
 | .fdt _=>none
 | .obj _ _=>none
 | .clo _ _=>none
 | .kc _=>none
 | .dmx _=>none
 | .fmx _=>none
def wTru (wa:WE):WT:=λρ Q=>wa ρ λd ρ'=>match truD d with
 | some b=>Q b ρ'
 | none=>False
theorem Reps.emp {K:PySem.W.Frag} {H:Hp} {ds:List D} {xs:List V} {F:List Addr} (r:Reps K H ds xs F):ds.isEmpty=xs.isEmpty:=by
 have:=r.length
 cases ds <;> cases xs <;> simp at this <;> rfl
theorem RepK.emp {K:PySem.W.Frag} {H:Hp} {ds:List (Key × D)} {xs:List (Key × V)} {F:List Addr} (r:RepK K H ds xs F):ds.isEmpty=xs.isEmpty:=by
 have:=r.length
 cases ds <;> cases xs <;> simp at this <;> rfl
theorem Qpc {K:PySem.W.Frag} {H:Hp} {d:D} {x:V} {F:List Addr} {b:Bool} (r:Rep K H d x F) (h:truD d=some b):TruV K x H b:=by
 cases r with
 | non=>exact (Option.some.inj h).symm
 | bl c=>exact (Option.some.inj h).symm
 | int c=>exact (Option.some.inj h).symm
 | str y =>
  have h:(if y.length<=sizeLine then some ((y.length:Int) != 0) else none)=some b:=h
  split at h
  ·rename_i hl;exact ⟨hl,(Option.some.inj h).symm⟩
  ·cases h
 | tup e r =>
  refine .inr (.inl ⟨_,.of e,?_⟩)
  rw [← Option.some.inj h,r.emp]
 | lst e r =>
  refine .inl ⟨_,.of e,?_⟩
  rw [← Option.some.inj h,r.emp]
 | kls e r =>
  refine .inl ⟨_,e.sq,?_⟩
  rw [← Option.some.inj h,r.emp]
 | dik e r =>
  refine .inr (.inr ⟨_,e,?_⟩)
  rw [← Option.some.inj h,r.emp]
 | dit e r=>cases h
 | ty t=>cases h
 | fdk e r=>cases h
 | ftp e hd r=>cases h
 | fls e r=>cases h
 | fdt e r=>cases h
 | obj e hc hf=>cases h
 | clo e r=>cases h
 | kc a=>cases h
 | dmx e hk hm r=>cases h
 | fmx e hk hm r=>cases h
theorem G0 (ha:EV X T m o a wa) (he:∀whole,isTrue a X.env whole=(do let v ← whole;standAt a.pos;holding [v] (truthy v)):=by intro _;rfl):TV X T m a (wTru wa):=by
 obtain ⟨ta,pa,ga⟩:=ha
 refine ⟨_,Qmu pa he,λz R σ H W ρ Q Q' s hw k=>?_⟩
 refine ga z R σ H W ρ _ _ s hw λv1 H1 W1 d1 ρ1 F1 p q1=>?_
 cases ht:truD d1 with
 | none=>rw [ht] at q1;exact q1.elim
 | some b =>
  rw [ht] at q1
  exact ⟨b,Qpc p.rep ht,k b H1 W1 ρ1 ⟨p.sr,p.fr,p.calm⟩ q1⟩
def wBl (wa:WE):WT:=λρ Q=>wa ρ λd ρ'=>match d with
 | .bl b=>Q b ρ'
 | _=>False
theorem Qhl {K:PySem.W.Frag} {H:Hp} {b:Bool} {x:V} {F:List Addr} (r:Rep K H (.bl b) x F):x=.bl b:=by cases r;rfl
theorem Ys {op:CmpOp} {g:G2} (ho:OpD X (compareOp op) g) (ha:EV X T m1 o1 a wa) (hb:EV X T m2 o2 b wb) (hc:o1=true\/m2=false:=by first | exact .inl rfl | exact .inr rfl)
  (hm:behindInMarks op b=false:=by first | exact Qor _ | with_unfolding_all rfl):TV X T (m1 || m2) (.Compare a [op] [b] pos) (wBl (wBin g wa wb)):=by
 obtain ⟨r,ro,gr⟩:=ho
 obtain ⟨ta,pa,ga⟩:=ha
 obtain ⟨tb,pb,gb⟩:=hb
 refine ⟨_,Qpx ro pa pb hm,λz R σ H W ρ Q Q' s hw k=>?_⟩
 refine two ga gb hc s hw λx y H2 W2 d1 d2 ρ2 F1 F2 s2 f2 c2 r1 r2 _ _ _ q2=>?_
 refine gr H2 d1 d2 x y F1 F2 _ _ r1 r2 q2 λv H' d F fi hk=>?_
 cases d with
 | bl b=>exact ⟨b,Qhl fi.rep,k b H' W2 ρ2 ⟨s2.same fi.same,f2.trans (FrW.same W2 fi.same),λh=>⟨(c2 h).1.trans fi.same,(c2 h).2⟩⟩ hk⟩
 | _=>exact hk.elim
variable {wt wu:WT} {rest:List Expr}
def wNot (wt:WT):WT:=λρ Q=>wt ρ λb ρ'=>Q (!b) ρ'
def wAnd (wt wu:WT):WT:=λρ Q=>wt ρ λb ρ'=>if b=true then wu ρ' Q else Q false ρ'
def wOr (wt wu:WT):WT:=λρ Q=>wt ρ λb ρ'=>if b=true then Q true ρ' else wu ρ' Q
theorem Qee (ha:TV X T m a wt):TV X T m (.UnaryOp .Not a pos) (wNot wt):=by
 obtain ⟨ta,pa,ga⟩:=ha
 exact ⟨_,Qr5 pa,λz R σ H W ρ Q Q' s hw k=>ga z R σ H W ρ _ _ s hw λb H1 W1 ρ1 p q1=>k (!b) H1 W1 ρ1 p q1⟩
def BV (X:Cx) (T:Tg) (m:Bool) (e:Expr) (w:WT):Prop :=
 ∃tt,PW X e tt/\∀(z:Nat->V) (R:Addr->Prop) (σ:St) (H:Hp) (W:Addr->Prop) (ρ:Env) (Q:Bool->Env->Prop) (Q':Bool->Hp->Prop),SR X.K T z R H W σ ρ->w ρ Q ->
  (∀b H' W' ρ',PostT X.K T z R m H W σ ρ H' W' ρ'->Q b ρ'->Q' b H')->tt σ H Q'
theorem PostT.seq {K:PySem.W.Frag} {z:Nat->V} {R:Addr->Prop} {H H1 H2:Hp} {W W1 W2:Addr->Prop} {σ:St} {ρ ρ1 ρ2:Env} (p:PostT K T z R m1 H W σ ρ H1 W1 ρ1) (q:PostT K T z R m2 H1 W1 σ ρ1 H2 W2 ρ2):PostT K T z R (m1 || m2) H W σ ρ H2 W2 ρ2 where
 sr:=q.sr
 fr:=p.fr.trans q.fr
 calm:=λh=>by
  rw [Bool.or_eq_false_iff] at h
  obtain ⟨a1,a2,a3⟩:=p.calm h.1
  obtain ⟨b1,b2,b3⟩:=q.calm h.2
  exact ⟨a1.trans b1,b2.trans a2,b3.trans a3⟩
theorem PostT.left {K:PySem.W.Frag} {z:Nat->V} {R:Addr->Prop} {H H1:Hp} {W W1:Addr->Prop} {σ:St} {ρ ρ1:Env} (p:PostT K T z R m1 H W σ ρ H1 W1 ρ1):PostT K T z R (m1 || m2) H W σ ρ H1 W1 ρ1 :=
 ⟨p.sr,p.fr,λh=>p.calm (Bool.or_eq_false_iff.mp h).1⟩
theorem Qg5 (ha:TV X T m a wt):BV X T m (.BoolOp .And [a] pos) wt:=by
 obtain ⟨ta,pa,ga⟩:=ha
 exact ⟨_,Qps pa,ga⟩
theorem Qij (ha:TV X T m a wt):BV X T m (.BoolOp .Or [a] pos) wt:=by
 obtain ⟨ta,pa,ga⟩:=ha
 exact ⟨_,Qr3 pa,ga⟩
theorem Ql9 (ha:TV X T m1 a wt) (hb:BV X T m2 (.BoolOp .And (b::rest) pos) wu):BV X T (m1 || m2) (.BoolOp .And (a::b::rest) pos) (wAnd wt wu):=by
 obtain ⟨ta,pa,ga⟩:=ha
 obtain ⟨tb,pb,gb⟩:=hb
 refine ⟨_,Qr4 pa pb,λz R σ H W ρ Q Q' s hw k=>ga z R σ H W ρ _ _ s hw λc H1 W1 ρ1 p q1=>?_⟩
 cases c with
 | true=>exact gb z R σ H1 W1 ρ1 Q Q' p.sr q1 λb H2 W2 ρ2 q q2=>k b H2 W2 ρ2 (p.seq q) q2
 | false=>exact k false H1 W1 ρ1 p.left q1
theorem Qn3 (ha:TV X T m1 a wt) (hb:BV X T m2 (.BoolOp .Or (b::rest) pos) wu):BV X T (m1 || m2) (.BoolOp .Or (a::b::rest) pos) (wOr wt wu):=by
 obtain ⟨ta,pa,ga⟩:=ha
 obtain ⟨tb,pb,gb⟩:=hb
 refine ⟨_,Qui pa pb,λz R σ H W ρ Q Q' s hw k=>ga z R σ H W ρ _ _ s hw λc H1 W1 ρ1 p q1=>?_⟩
 cases c with
 | false=>exact gb z R σ H1 W1 ρ1 Q Q' p.sr q1 λb H2 W2 ρ2 q q2=>k b H2 W2 ρ2 (p.seq q) q2
 | true=>exact k true H1 W1 ρ1 p.left q1
theorem U4 (h:BV X T m e wt):TV X T m e wt:=by
 obtain ⟨ta,pa,ga⟩:=h
 exact ⟨_,pa.pt,ga⟩
def wIfE (wt:WT) (wa wb:WE):WE:=λρ Q=>wt ρ λc ρ1=>if c=true then wa ρ1 Q else wb ρ1 Q
end
end PV
namespace PV
open PySem PySem.Spec L2
open PySem.W (Dat kqdP kqdPs kqdOk)
mutual
def Y2:D->Dat
 | .non=>.none
 | .bl b=>.bool b
 | .int i=>.int i
 | .str x=>.str x
 | .tup xs=>.tuple (Zw xs)
 | .lst xs=>.list (Zw xs)
 | .dik _=>.none
 | .dit _=>.none
 | .kls _=>.none
 | .ty _=>.none
 | .fdk _=>.none
 | .ftp _=>.none
 | .fls _=>.none
 | .fdt _=>.none
 | .obj _ _=>.none
 | .clo _ _=>.none
 | .kc _=>.none
 | .dmx _=>.none
 | .fmx _=>.none
def Zw:List D->List Dat
 | []=>[]
 | d::r=>Y2 d::Zw r
end
mutual
def eqOk:Nat->D->Bool
 | _,.non=>true
 | _,.int _=>true
 | _,.str x=>PyData.strOk x
 | n+1,.tup xs=>Uf n xs
 | n+1,.lst xs=>Uf n xs
 | _,_=>false
def Uf:Nat->List D->Bool
 | _,[]=>true
 | n,d::r=>eqOk n d && Uf n r
end
mutual
theorem Qdx:∀(n:Nat) (d:D),eqOk n d=true->kqdOk n (Y2 d)=true
 | _,.non,_=>by simp [Y2,kqdOk]
 | _,.bl _,h=>by cases ‹Nat› <;> simp [eqOk] at h
 | _,.int _,_=>by simp [Y2,kqdOk]
 | _,.str x,h=>by
  cases ‹Nat› <;> (simp only [eqOk] at h;simpa [Y2,kqdOk] using h)
 | 0,.tup _,h=>by simp [eqOk] at h
 | 0,.lst _,h=>by simp [eqOk] at h
 | n+1,.tup xs,h=>by
  simp only [eqOk] at h
  rw [Y2];simp only [kqdOk]
  exact Qb6 n xs h
 | n+1,.lst xs,h=>by
  simp only [eqOk] at h
  rw [Y2];simp only [kqdOk]
  exact Qb6 n xs h
 | n,.dik _,h=>by cases n <;> simp [eqOk] at h
 | n,.dit _,h=>by cases n <;> simp [eqOk] at h
 | n,.kls _,h=>by cases n <;> simp [eqOk] at h
 | n,.ty _,h=>by cases n <;> simp [eqOk] at h
 | n,.fdk _,h=>by cases n <;> simp [eqOk] at h
 | n,.ftp _,h=>by cases n <;> simp [eqOk] at h
 | n,.fls _,h=>by cases n <;> simp [eqOk] at h
 | n,.fdt _,h=>by cases n <;> simp [eqOk] at h
 | n,.obj _ _,h=>by cases n <;> simp [eqOk] at h
 | n,.clo _ _,h=>by cases n <;> simp [eqOk] at h
 | n,.kc _,h=>by cases n <;> simp [eqOk] at h
theorem Qb6:∀(n:Nat) (xs:List D),Uf n xs=true->(Zw xs).all (kqdOk n)=true
 | _,[],_=>by simp [Zw]
 | n,d::r,h=>by
  simp only [Uf,Bool.and_eq_true] at h
  rw [Zw,List.all_cons,Qdx n d h.1,Qb6 n r h.2];rfl
end
mutual
theorem Qeg:∀(n k:Nat) (a b:D),eqOk n a=true->eqOk k b=true->Y2 a=Y2 b->a=b
 | n,k,a,b,ha,hb,h=>by
  cases a with
  | non=>cases b <;> first | rfl | (simp [Y2] at h;done) | (cases k <;> simp [eqOk] at hb)
  | bl x=>cases n <;> simp [eqOk] at ha
  | int x=>cases b <;> first | (simp [Y2] at h;rw [h]) | (simp [Y2] at h)
  | str x=>cases b <;> first | (simp [Y2] at h;rw [h]) | (simp [Y2] at h)
  | tup xs =>
   cases b with
   | tup ys =>
    cases n with
    | zero=>simp [eqOk] at ha
    | succ n =>
     cases k with
     | zero=>simp [eqOk] at hb
     | succ k =>
      simp only [eqOk] at ha hb
      simp only [Y2,Dat.tuple.injEq] at h
      rw [Xq n k xs ys ha hb h]
   | _=>simp [Y2] at h
  | lst xs =>
   cases b with
   | lst ys =>
    cases n with
    | zero=>simp [eqOk] at ha
    | succ n =>
     cases k with
     | zero=>simp [eqOk] at hb
     | succ k =>
      simp only [eqOk] at ha hb
      simp only [Y2,Dat.list.injEq] at h
      rw [Xq n k xs ys ha hb h]
   | _=>simp [Y2] at h
  | dik x=>cases n <;> simp [eqOk] at ha
  | dit x=>cases n <;> simp [eqOk] at ha
  | kls x=>cases n <;> simp [eqOk] at ha
  | ty x=>cases n <;> simp [eqOk] at ha
  | fdk x=>cases n <;> simp [eqOk] at ha
  | ftp x=>cases n <;> simp [eqOk] at ha
  | fls x=>cases n <;> simp [eqOk] at ha
  | fdt x=>cases n <;> simp [eqOk] at ha
  | obj x y=>cases n <;> simp [eqOk] at ha
  | clo x y=>cases n <;> simp [eqOk] at ha
  | kc x=>cases n <;> simp [eqOk] at ha
  | dmx x=>cases n <;> simp [eqOk] at ha
  | fmx x=>cases n <;> simp [eqOk] at ha
theorem Xq:∀(n k:Nat) (a b:List D),Uf n a=true->Uf k b=true->Zw a=Zw b->a=b
 | n,k,[],b,ha,hb,h=>by
  cases b with
  | nil=>rfl
  | cons=>simp [Zw] at h
 | n,k,x::a,b,ha,hb,h=>by
  cases b with
  | nil=>simp [Zw] at h
  | cons y b =>
   simp only [Zw,List.cons.injEq] at h
   simp only [Uf,Bool.and_eq_true] at ha hb
   rw [Qeg n k x y ha.1 hb.1 h.1,Xq n k a b ha.2 hb.2 h.2]
end
theorem Rep.dv {K:PySem.W.Frag} {H:Hp} {d:D} {v:V} {F:List Addr} (n:Nat) (r:Rep K H d v F):eqOk n d=true->DV H v (Y2 d):=by
 have no:∀{P:Prop} {n:Nat} {d:D},(∀n,eqOk n d=false)->eqOk n d=true->P:=λh h'=>absurd ((h _).symm.trans h') (by simp)
 refine Rep.rec (motive_1:=λd v _ _=>∀n,eqOk n d=true->DV H v (Y2 d)) (motive_2:=λd v _ _=>∀n,Uf n d=true->DVs H v (Zw d)) (motive_3:=λ_ _ _ _=>True) (motive_4:=λ_ _ _ _=>True) ?_ ?_ ?_ ?_ ?_ ?_ ?_ ?_ ?_ ?_ ?_ ?_ ?_ ?_ ?_ ?_ ?_ ?_ ?_ ?_ ?_ trivial (λ_ _ _ _=>trivial) trivial (λ_ _ _ _=>trivial) r n
 ·exact λ_ _=>by rw [Y2];exact .non
 ·exact λb n=>no λn=>by cases n <;> rfl
 ·exact λi _ _=>by rw [Y2];exact .int i
 ·exact λi _ _=>by rw [Y2];exact .str i
 ·intro _ _ _ _ e _ ih n h
  cases n with
  | zero=>simp [eqOk] at h
  | succ n=>rw [eqOk] at h;rw [Y2];exact .tup e (ih n h)
 ·intro _ _ _ _ e _ ih n h
  cases n with
  | zero=>simp [eqOk] at h
  | succ n=>rw [eqOk] at h;rw [Y2];exact .lst e (ih n h)
 ·exact λ_ _ _ n=>no λn=>by cases n <;> rfl
 ·exact λ_ _ _ n=>no λn=>by cases n <;> rfl
 ·exact λ_ _ _ n=>no λn=>by cases n <;> rfl
 ·exact λ_ n=>no λn=>by cases n <;> rfl
 ·exact λ_ _ _ n=>no λn=>by cases n <;> rfl
 ·exact λ_ _ _ _ n=>no λn=>by cases n <;> rfl
 ·exact λ_ _ _ n=>no λn=>by cases n <;> rfl
 ·exact λ_ _ _ n=>no λn=>by cases n <;> rfl
 ·exact λ_ _ _ n=>no λn=>by cases n <;> rfl
 ·exact λ_ _ _ n=>no λn=>by cases n <;> rfl
 ·exact λ_ n=>no λn=>by cases n <;> rfl
 ·exact λ_ _ _ _ _ n=>no λn=>by cases n <;> rfl
 ·exact λ_ _ _ _ _ n=>no λn=>by cases n <;> rfl
 ·exact λ_ _=>by rw [Zw];exact .nil
 ·intro _ _ _ _ _ _ _ _ ih1 ih2 n q
  rw [Uf,Bool.and_eq_true] at q
  rw [Zw];exact .cons (ih1 n q.1) (ih2 n q.2)
def dAdd:G2
 | .int i,.int j,k=>k (.int (i+j))
 | .str x,.str y,k=>x.length+y.length<=sizeLine/\k (.str (x++y))
 | .tup xs,.tup ys,k=>Qg xs=true/\Qg ys=true/\xs≠[]/\xs.length+ys.length<=sizeLine/\k (.tup (xs++ys))
 | .lst xs,.lst ys,k=>Qg xs=true/\Qg ys=true/\xs.length+ys.length<=sizeLine/\k (.lst (xs++ys))
 | _,_,_=>False
def dSub:G2
 | .int i,.int j,k=>k (.int (i-j))
 | _,_,_=>False
def dMul:G2
 | .int i,.int j,k=>CMul i j/\k (.int (i*j))
 | .lst xs,.int n,k=>Qg xs=true /\ -(2 ^ 63)<=n/\n<2 ^ 63/\xs.length*n.toNat<=sizeLine/\k (.lst (List.replicate n.toNat xs).flatten)
 | _,_,_=>False
def dDiv:G2
 | .int i,.int j,k=>(0<j/\j<1073741824/\k (.int (i / j)))\/(j<0/\j.natAbs<1073741824/\k (.int (i.fdiv j)))
 | _,_,_=>False
def dMod:G2
 | .int i,.int j,k=>(0<j/\k (.int (i % j)))\/(j<0/\k (.int (i.fmod j)))
 | _,_,_=>False
def dPow:G2
 | .int i,.int j,k=>CPow i j/\k (.int (i ^ j.toNat))
 | _,_,_=>False
def dEq:G2
 | .int i,.int j,k=>k (.bl (decide (i=j)))
 | .bl i,.bl j,k=>k (.bl (i == j))
 | .str i,.str j,k=>k (.bl (decide (i=j)))
 | a,b,k=>eqOk 9 a=true/\eqOk 9 b=true/\(a=b->k (.bl true))/\(a≠b->k (.bl false))
def dNe:G2
 | .int i,.int j,k=>k (.bl (!decide (i=j)))
 | .bl i,.bl j,k=>k (.bl (!(i == j)))
 | .str i,.str j,k=>k (.bl (!decide (i=j)))
 | a,b,k=>eqOk 9 a=true/\eqOk 9 b=true/\(a=b->k (.bl false))/\(a≠b->k (.bl true))
def dCmp (f:Int->Int->Bool):G2
 | .int i,.int j,k=>k (.bl (f i j))
 | _,_,_=>False
section
variable {X:Cx}
theorem Qj2 {K:PySem.W.Frag} {H:Hp} {i:Int} {x:V} {F:List Addr} (r:Rep K H (.int i) x F):x=.int i:=by cases r;rfl
theorem Reps.flatten {K:PySem.W.Frag} {H:Hp} {ds:List D} {xs:List V} (r:Reps K H ds xs []):∀n:Nat,Reps K H (List.replicate n ds).flatten (List.replicate n xs).flatten []
 | 0=>.nil
 | n+1=>by
  have:=r.append (Reps.flatten r n)
  simpa [List.replicate_succ,List.flatten_cons] using this
theorem Qnw {a b:D} {k:D->Prop} (g:dAdd a b k):(∃i j,a=.int i/\b=.int j)\/(∃i j,a=.str i/\b=.str j)\/(∃i j,a=.tup i/\b=.tup j)\/∃i j,a=.lst i/\b=.lst j:=by
 cases a with
 | int i=>cases b with
  | int j=>exact .inl ⟨i,j,rfl,rfl⟩
  | _=>exact (show False from g).elim
 | str i=>cases b with
  | str j=>exact .inr (.inl ⟨i,j,rfl,rfl⟩)
  | _=>exact (show False from g).elim
 | tup i=>cases b with
  | tup j=>exact .inr (.inr (.inl ⟨i,j,rfl,rfl⟩))
  | _=>exact (show False from g).elim
 | lst i=>cases b with
  | lst j=>exact .inr (.inr (.inr ⟨i,j,rfl,rfl⟩))
  | _=>exact (show False from g).elim
 | _=>exact (show False from g).elim
theorem Qsq:OpD X (binaryOp .Add) dAdd:=by
 refine ⟨_,OpR.or Qsn (OpR.or Qsm (OpR.or Qqi Qix)),λH a b x y F1 F2 k Q ra rb g q=>?_⟩
 rcases Qnw g with ⟨i,j,rfl,rfl⟩ | ⟨i,j,rfl,rfl⟩ | ⟨ds,es,rfl,rfl⟩ | ⟨ds,es,rfl,rfl⟩
 ·exact .inl ⟨_,_,ra.iInt,rb.iInt,q _ _ _ _ (.flat (.int _)) g⟩
 ·exact .inr (.inr (.inr ⟨_,_,ra.iStr,rb.iStr,g.1,q _ _ _ _ (.flat (.str _)) g.2⟩))
 ·obtain ⟨a,xs,rfl,e1,r1⟩:=ra.iTup
  obtain ⟨b,ys,rfl,e2,r2⟩:=rb.iTup
  obtain ⟨p1,p2,hne,hz,g⟩:=g
  obtain ⟨-,r1⟩:=r1.pure p1
  obtain ⟨-,r2⟩:=r2.pure p2
  have l1:=r1.length
  have l2:=r2.length
  refine .inr (.inr (.inl ⟨a,b,xs,ys,rfl,rfl,.of e1,.of e2,λz=>hne (List.length_eq_zero_iff.mp (by rw [← l1,z];rfl)),by omega,λz=>?_,λz p hp=>?_⟩))
  ·have:es=[]:=List.length_eq_zero_iff.mp (by rw [← l2,z];rfl)
   subst this
   rw [List.append_nil] at g
   exact q _ _ _ _ (.flat (.tup e1 r1)) g
  ·refine q _ _ _ [] ⟨Qj hp,.tup Qh ?_,List.nodup_nil,λ_ m=>nomatch m⟩ g
   exact (r1.append r2).same (Qj hp)
 ·obtain ⟨a,xs,_,rfl,_,e1,r1⟩:=ra.iLst
  obtain ⟨b,ys,_,rfl,_,e2,r2⟩:=rb.iLst
  obtain ⟨p1,p2,hz,g⟩:=g
  obtain ⟨-,r1⟩:=r1.pure p1
  obtain ⟨-,r2⟩:=r2.pure p2
  have l1:=r1.length
  have l2:=r2.length
  refine .inr (.inl ⟨a,b,xs,ys,rfl,rfl,e1,e2,by omega,λp hp=>?_⟩)
  refine q _ _ _ [p] ⟨Qj hp,.lst Qh ((r1.append r2).same (Qj hp)),by simp,λc m=>by rw [List.mem_singleton.mp m];exact hp⟩ g
theorem Qho:OpD X (binaryOp .Sub) dSub:=by
 refine ⟨_,Qsf,λH a b x y F1 F2 k Q ra rb g q=>?_⟩
 (cases ra <;> first | exact (show False from g).elim | skip) <;> (cases rb <;> first | exact (show False from g).elim | skip)
 exact ⟨_,_,rfl,rfl,q _ _ _ _ (.flat (.int _)) g⟩
theorem Qnu {a b:D} {k:D->Prop} (g:dMul a b k):(∃i j,a=.int i/\b=.int j)\/∃i j,a=.lst i/\b=.int j:=by
 cases a with
 | int i=>cases b with
  | int j=>exact .inl ⟨i,j,rfl,rfl⟩
  | _=>exact (show False from g).elim
 | lst i=>cases b with
  | int j=>exact .inr ⟨i,j,rfl,rfl⟩
  | _=>exact (show False from g).elim
 | _=>exact (show False from g).elim
theorem Zg:OpD X (binaryOp .Mult) dMul:=by
 refine ⟨_,OpR.or Qsj Qsg,λH a b x y F1 F2 k Q ra rb g q=>?_⟩
 rcases Qnu g with ⟨i,j,rfl,rfl⟩ | ⟨ds,n,rfl,rfl⟩
 ·exact .inl ⟨_,_,ra.iInt,rb.iInt,g.1,q _ _ _ _ (.flat (.int _)) g.2⟩
 ·obtain ⟨a,xs,_,rfl,_,e1,r1⟩:=ra.iLst
  obtain rfl:=rb.iInt
  obtain ⟨p1,h1,h2,hz,g⟩:=g
  obtain ⟨-,r1⟩:=r1.pure p1
  have l1:=r1.length
  refine .inr ⟨a,n,xs,rfl,rfl,e1,h1,h2,by rw [l1];exact hz,λp hp=>?_⟩
  refine q _ _ _ [p] ⟨Qj hp,.lst Qh ((r1.flatten _).same (Qj hp)),by simp,λc m=>by rw [List.mem_singleton.mp m];exact hp⟩ g
theorem Qvc:OpD X (binaryOp .FloorDiv) dDiv:=by
 refine ⟨_,OpR.or Qqh Qm8,λH a b x y F1 F2 k Q ra rb g q=>?_⟩
 (cases ra <;> first | exact (show False from g).elim | skip) <;> (cases rb <;> first | exact (show False from g).elim | skip)
 rcases (show _\/_ from g) with ⟨h1,h2,g⟩ | ⟨h1,h2,g⟩
 ·exact .inl ⟨_,_,rfl,rfl,⟨h1,h2⟩,q _ _ _ _ (.flat (.int _)) g⟩
 ·exact .inr ⟨_,_,rfl,rfl,⟨by omega,h2⟩,q _ _ _ _ (.flat (.int _)) g⟩
theorem Qby:OpD X (binaryOp .Mod) dMod:=by
 refine ⟨_,OpR.or Qsk Qqg,λH a b x y F1 F2 k Q ra rb g q=>?_⟩
 (cases ra <;> first | exact (show False from g).elim | skip) <;> (cases rb <;> first | exact (show False from g).elim | skip)
 rcases (show _\/_ from g) with ⟨h1,g⟩ | ⟨h1,g⟩
 ·exact .inl ⟨_,_,rfl,rfl,h1,q _ _ _ _ (.flat (.int _)) g⟩
 ·exact .inr ⟨_,_,rfl,rfl,by omega,q _ _ _ _ (.flat (.int _)) g⟩
theorem Qc0:OpD X (binaryOp .Pow) dPow:=by
 refine ⟨_,Qsh,λH a b x y F1 F2 k Q ra rb g q=>?_⟩
 (cases ra <;> first | exact (show False from g).elim | skip) <;> (cases rb <;> first | exact (show False from g).elim | skip)
 exact ⟨_,_,rfl,rfl,g.1,q _ _ _ _ (.flat (.int _)) g.2⟩
theorem Qgs {op:CmpOp} {f:Int->Int->Bool} (h:OpR X (compareOp op) (rI0 λi j=>.bl (f i j))):OpD X (compareOp op) (dCmp f):=by
 refine ⟨_,h,λH a b x y F1 F2 k Q ra rb g q=>?_⟩
 (cases ra <;> first | exact (show False from g).elim | skip) <;> (cases rb <;> first | exact (show False from g).elim | skip)
 exact ⟨_,_,rfl,rfl,q _ _ _ _ (.flat (.bl _)) g⟩
theorem Qqm:OpD X (compareOp .Lt) (dCmp λi j=>decide (i<j)):=Qgs Qur
theorem Qkk:OpD X (compareOp .Gt) (dCmp λi j=>decide (j<i)):=Qgs Qus
theorem Qsp:OpD X (compareOp .GtE) (dCmp λi j=>decide (j<=i)):=Qgs Qut
theorem Qlh {H:Hp} {a b:D} {x y:V} {F1 F2:List Addr} {k:D->Prop} {Q:VK} {neg:Bool} (ra:Rep X.K H a x F1) (rb:Rep X.K H b y F2)
  (h1:eqOk 9 a=true) (h2:eqOk 9 b=true) (g1:a=b->k (.bl (!neg))) (g2:a≠b->k (.bl neg)) (q:∀v H' d F,Fin X.K H H' d v F->k d->Q v H'):rDat neg x y H Q:=by
 refine ⟨Y2 a,Y2 b,9,ra.dv 9 h1,rb.dv 9 h2,Qdx _ _ h1,Qdx _ _ h2,Nat.le_refl _,λe=>?_,λe=>?_⟩
 ·exact q _ _ _ _ (.flat (.bl _)) (g1 (Qeg 9 9 a b h1 h2 e))
 ·exact q _ _ _ _ (.flat (.bl _)) (g2 λz=>e (by rw [z]))
theorem Qrc {a b:D} {k:D->Prop} (g:dEq a b k):(∃i j,a=.int i/\b=.int j)\/(∃i j,a=.bl i/\b=.bl j)\/(∃i j,a=.str i/\b=.str j)\/(eqOk 9 a=true/\eqOk 9 b=true/\(a=b->k (.bl true))/\(a≠b->k (.bl false))):=by
 cases a with
 | int i=>cases b with
  | int j=>exact .inl ⟨i,j,rfl,rfl⟩
  | _=>exact .inr (.inr (.inr g))
 | bl i=>cases b with
  | bl j=>exact .inr (.inl ⟨i,j,rfl,rfl⟩)
  | _=>exact .inr (.inr (.inr g))
 | str i=>cases b with
  | str j=>exact .inr (.inr (.inl ⟨i,j,rfl,rfl⟩))
  | _=>exact .inr (.inr (.inr g))
 | _=>exact .inr (.inr (.inr g))
theorem Qgr (hu:X.A.units+64<cLine):OpD X (compareOp .Eq) dEq:=by
 refine ⟨_,OpR.or Quu (Qsl hu),λH a b x y F1 F2 k Q ra rb g q=>?_⟩
 rcases Qrc g with ⟨i,j,rfl,rfl⟩ | ⟨i,j,rfl,rfl⟩ | ⟨i,j,rfl,rfl⟩ | ⟨h1,h2,g1,g2⟩
 ·obtain rfl:=ra.iInt
  obtain rfl:=rb.iInt
  refine .inl ⟨rfl,?_⟩
  have e:decide (V.int i=V.int j)=decide (i=j):=by simp
  rw [e]
  exact q _ _ _ _ (.flat (.bl _)) g
 ·obtain rfl:=ra.iBl
  obtain rfl:=rb.iBl
  refine .inl ⟨rfl,?_⟩
  rw [Qic]
  exact q _ _ _ _ (.flat (.bl _)) g
 ·obtain rfl:=ra.iStr
  obtain rfl:=rb.iStr
  refine .inl ⟨rfl,?_⟩
  have e:decide (V.str i=V.str j)=decide (i=j):=by simp
  rw [e]
  exact q _ _ _ _ (.flat (.bl _)) g
 ·exact .inr (Qlh ra rb h1 h2 g1 g2 q)
theorem Qra {a b:D} {k:D->Prop} (g:dNe a b k):(∃i j,a=.int i/\b=.int j)\/(∃i j,a=.bl i/\b=.bl j)\/(∃i j,a=.str i/\b=.str j)\/(eqOk 9 a=true/\eqOk 9 b=true/\(a=b->k (.bl false))/\(a≠b->k (.bl true))):=by
 cases a with
 | int i=>cases b with
  | int j=>exact .inl ⟨i,j,rfl,rfl⟩
  | _=>exact .inr (.inr (.inr g))
 | bl i=>cases b with
  | bl j=>exact .inr (.inl ⟨i,j,rfl,rfl⟩)
  | _=>exact .inr (.inr (.inr g))
 | str i=>cases b with
  | str j=>exact .inr (.inr (.inl ⟨i,j,rfl,rfl⟩))
  | _=>exact .inr (.inr (.inr g))
 | _=>exact .inr (.inr (.inr g))
theorem Qiz (hu:X.A.units+64<cLine):OpD X (compareOp .NotEq) dNe:=by
 refine ⟨_,OpR.or Quq (Qsi hu),λH a b x y F1 F2 k Q ra rb g q=>?_⟩
 rcases Qra g with ⟨i,j,rfl,rfl⟩ | ⟨i,j,rfl,rfl⟩ | ⟨i,j,rfl,rfl⟩ | ⟨h1,h2,g1,g2⟩
 ·obtain rfl:=ra.iInt
  obtain rfl:=rb.iInt
  refine .inl ⟨rfl,?_⟩
  have e:(!decide (V.int i=V.int j)) = !decide (i=j):=by simp
  rw [e]
  exact q _ _ _ _ (.flat (.bl _)) g
 ·obtain rfl:=ra.iBl
  obtain rfl:=rb.iBl
  refine .inl ⟨rfl,?_⟩
  rw [Qic]
  exact q _ _ _ _ (.flat (.bl _)) g
 ·obtain rfl:=ra.iStr
  obtain rfl:=rb.iStr
  refine .inl ⟨rfl,?_⟩
  have e:(!decide (V.str i=V.str j)) = !decide (i=j):=by simp
  rw [e]
  exact q _ _ _ _ (.flat (.bl _)) g
 ·exact .inr (Qlh (neg:=true) ra rb h1 h2 g1 g2 q)
def dNeg:D->(D->Prop)->Prop
 | .int i,k=>k (.int (-i))
 | _,_=>False
theorem Qhf:UnD X (unaryOp .USub) dNeg:=by
 refine ⟨_,Qrn,λH a x F1 k Q ra g q=>?_⟩
 cases ra <;> try exact (show False from g).elim
 exact ⟨_,rfl,q _ _ _ _ (.flat (.int _)) g⟩
end
end PV
namespace PV
open PySem PySem.Spec L2
open PyProof.Rows (subscriptTail)
def Yh:List D->Option (List Key)
 | []=>some []
 | .int i::r=>(Yh r).map λl=>.inl i::l
 | .str x::r=>(Yh r).map λl=>.inr x::l
 | _::_=>none
theorem Reps.keys {K:PySem.W.Frag} {H:Hp}:∀{ds:List D} {xs:List V} {F:List Addr} {l:List Key},Reps K H ds xs F->Yh ds=some l->xs=l.map kV
 | [],_,_,_,r,h=>by
  cases r
  simp only [Yh,Option.some.injEq] at h
  subst h
  rfl
 | d::ds,_,_,_,r,h=>by
  cases r with
  | cons p r =>
   cases d with
   | int i =>
    simp only [Yh,Option.map_eq_some_iff] at h
    obtain ⟨l',h1,rfl⟩:=h
    cases p
    rw [Reps.keys r h1]
    rfl
   | str i =>
    simp only [Yh,Option.map_eq_some_iff] at h
    obtain ⟨l',h1,rfl⟩:=h
    cases p
    rw [Reps.keys r h1]
    rfl
   | _=>simp [Yh] at h
theorem Reps.atI {K:PySem.W.Frag} {H:Hp} {ds:List D} {xs:List V} {F:List Addr} {i:Int} {d:D} (r:Reps K H ds xs F) (h:L2.atI ds i=some d):∃x B,L2.atI xs i=some x/\Rep K H d x B/\B.Sublist F:=by
 unfold L2.atI at h
 cases hj:ixN ds.length i with
 | none=>rw [hj] at h;cases h
 | some j =>
  rw [hj] at h
  obtain ⟨x,B,h1,h2,h3⟩:=r.get (i:=j) h
  refine ⟨x,B,?_,h2,h3⟩
  unfold L2.atI
  rw [r.length,hj]
  exact h1
def oget {α:Type} (o:Option α) (k:α->Prop):Prop:=match o with
 | some d=>k d
 | none=>False
def onI (b:D) (k:Int->Prop):Prop:=match b with
 | .int i=>k i
 | _=>False
def onK (b:D) (k:Key->Prop):Prop:=match b with
 | .int i=>k (.inl i)
 | .str i=>k (.inr i)
 | _=>False
def onT (b:D) (k:List D->Prop):Prop:=match b with
 | .tup l=>k l
 | _=>False
theorem Qbv {b:D} {k:Int->Prop} (h:onI b k):∃i,b=.int i/\k i:=by
 cases b with
 | int i=>exact ⟨i,rfl,h⟩
 | _=>exact (show False from h).elim
theorem Qkh {b:D} {k:List D->Prop} (h:onT b k):∃i,b=.tup i/\k i:=by
 cases b with
 | tup i=>exact ⟨i,rfl,h⟩
 | _=>exact (show False from h).elim
theorem Qgk {b:D} {k:Key->Prop} (h:onK b k):∃key,k key/\∀{K:PySem.W.Frag} {H:Hp} {v:V} {F:List Addr},Rep K H b v F->v=kV key:=by
 cases b with
 | int i=>exact ⟨.inl i,h,λr=>r.iInt⟩
 | str i=>exact ⟨.inr i,h,λr=>r.iStr⟩
 | _=>exact (show False from h).elim
def dIx:G2:=λa b k=>match a with
 | .lst xs=>onI b λi=>oget (L2.atI xs i) k
 | .tup xs=>onI b λi=>oget (L2.atI xs i) k
 | .kls xs=>onI b λi=>oget (L2.atI xs i) k
 | .str z=>onI b λi=>z.length<=sizeLine/\oget (L2.atI z.cps.toList i) λc=>k (.str ⟨#[c]⟩)
 | .dik kvs=>onK b λkey=>oget (valD kvs key) k
 | .dit kvs=>onT b λl=>oget (Yh l) λks=>oget (valD kvs ks) k
 | .fdk kvs=>onK b λkey=>oget (valD kvs key) k
 | _=>False
theorem Qq {α:Type} {o:Option α} {k:α->Prop} (h:oget o k):∃d,o=some d/\k d:=by
 cases o with
 | none=>exact h.elim
 | some d=>exact ⟨d,rfl,h⟩
section
variable {X:Cx}
theorem Qjw {prog:Program} {w:World} {A:Around} {E:Value->Shared->Prop} {s₂:Shared} {value slice:Expr} {o i:Value} {T id:String} {Q:Value->Shared->Prop}
  (hl:typeLookup (.type T) "__getitem__" = pure (some (.builtin id))) (hs:subscripted slice false o i=operate [o,i] (getItem o i)) (hT:s₂.TypeIs o T) (h₂:wpAny (model prog w) A (getItem o i) Q E s₂) :
  wpAny (model prog w) A (subscriptTail value slice o i) Q E s₂:=by
 unfold subscriptTail
 refine wpAny_bind ?_
 rw [getitemInPython_of_ne hT.not_modules]
 refine wpAny_bind (wpAny_specialOf hT hl ?_)
 have fin:wpAny (model prog w) A (subscripted slice false o i) (λr s₃=>wpAny (model prog w) A (letTemporaryGo value o r >>= λ_=>pure r) Q E s₃) E s₂:=by
  rw [hs]
  exact wpAny_operating (wpAny_mono h₂ (λr s₃ h₃=>wpAny_bind (wpAny_letTemporaryGo (wpAny_pure h₃))) λ_ _ x=>x)
 first
  | exact wpAny_pure (wpAny_bind fin)
  | exact wpAny_bind (wpAny_pure (wpAny_bind fin))
  | exact wpAny_bind fin
theorem Qqt (hu:X.A.units+1<cLine):IxR X (λx y H Q=>∃a v,x=.ref a/\DGet H a y (some v)/\Q v H):=by
 intro value slice pins s σ H x y v u Q I rx ry h hs
 obtain ⟨a,z,rfl,g,q⟩:=h
 cases rx
 exact Qjw PySem.F.slot_dict_getitem.lookup hs (Qg2 I g) (Qlq hu I g ry λw' s3 I3 rw'=>⟨z,H,I3,rw',q⟩)
def IxD (X:Cx) (g:G2):Prop :=
 ∃r,IxR X r/\∀(H:Hp) (a b:D) (x y:V) (F1 F2:List Addr) (k:D->Prop) (Q:VK),Rep X.K H a x F1->Rep X.K H b y F2->g a b k ->
  (∀v d F,Rep X.K H d v F->F.Sublist F1->k d->Q v H)->r x y H Q
theorem Q1 (hu:X.A.units+1<cLine):IxD X dIx:=by
 refine ⟨_,IxR.or Qs9 (Qqt hu),λH a b x y F1 F2 k Q ra rb g q=>?_⟩
 cases a with
 | str z =>
  obtain ⟨i,rfl,hz,g⟩:=Qbv g
  obtain ⟨c,e,g⟩:=Qq g
  exact .inl (.inr (.inr ⟨_,_,c,ra.iStr,rb.iInt,hz,e,q _ _ _ (.str _) (List.nil_sublist _) g⟩))
 | tup ds =>
  obtain ⟨i,rfl,g⟩:=Qbv g
  obtain ⟨a,xs,rfl,e,r⟩:=ra.iTup
  obtain ⟨d,h,g⟩:=Qq g
  obtain ⟨v,B,h1,h2,h3⟩:=r.atI h
  exact .inl (.inr (.inl ⟨a,xs,i,v,rfl,rb.iInt,.of e,h1,q _ _ _ h2 h3 g⟩))
 | lst ds =>
  obtain ⟨i,rfl,g⟩:=Qbv g
  obtain ⟨a,xs,G,rfl,rfl,e,r⟩:=ra.iLst
  obtain ⟨d,h,g⟩:=Qq g
  obtain ⟨v,B,h1,h2,h3⟩:=r.atI h
  exact .inl (.inl ⟨a,xs,i,v,rfl,rb.iInt,.of e,h1,q _ _ _ h2 (h3.trans (List.sublist_cons_self _ _)) g⟩)
 | dik ds =>
  obtain ⟨key,g,hy⟩:=Qgk (show onK b (λkey=>oget (valD ds key) k) from g)
  obtain ⟨a,kvs,G,rfl,rfl,e,r⟩:=ra.iDik
  obtain rfl:=hy rb
  obtain ⟨d,h,g⟩:=Qq g
  rcases r.val key with ⟨z,_⟩ | ⟨d',v,B,h1,h2,h3,h4⟩
  ·rw [h] at z;cases z
  ·rw [h] at h1;cases h1
   exact .inr ⟨a,v,rfl,h2 ▸ DGet.k (k:=key) e,q _ _ _ h3 (h4.trans (List.sublist_cons_self _ _)) g⟩
 | dit ds =>
  obtain ⟨l,rfl,g⟩:=Qkh g
  obtain ⟨a,kvs,G,rfl,rfl,e,r⟩:=ra.iDit
  obtain ⟨b,xs,rfl,e2,r2⟩:=rb.iTup
  obtain ⟨ks,hk,g⟩:=Qq g
  obtain ⟨d,h,g⟩:=Qq g
  have hx:=r2.keys hk
  subst hx
  rcases r.val ks with ⟨z,_⟩ | ⟨d',v,B,h1,h2,h3,h4⟩
  ·rw [h] at z;cases z
  ·rw [h] at h1;cases h1
   exact .inr ⟨a,v,rfl,h2 ▸ DGet.t (k:=ks) e e2,q _ _ _ h3 (h4.trans (List.sublist_cons_self _ _)) g⟩
 | kls ds =>
  obtain ⟨i,rfl,g⟩:=Qbv g
  obtain ⟨a,xs,rfl,rfl,e,r⟩:=ra.iKls
  obtain ⟨d,h,g⟩:=Qq g
  obtain ⟨v,B,h1,h2,h3⟩:=r.atI h
  exact .inl (.inl ⟨a,xs,i,v,rfl,rb.iInt,e.sq,h1,q _ _ _ h2 h3 g⟩)
 | fdk ds =>
  obtain ⟨key,g,hy⟩:=Qgk (show onK b (λkey=>oget (valD ds key) k) from g)
  obtain ⟨a,ob,kvs,rfl,e,r⟩:=ra.iFdk
  obtain rfl:=hy rb
  obtain ⟨d,h,g⟩:=Qq g
  rcases r.val key with ⟨z,_⟩ | ⟨d',v,B,h1,h2,h3,h4⟩
  ·rw [h] at z;cases z
  ·rw [h] at h1;cases h1
   exact .inr ⟨a,v,rfl,.inl ⟨kvs,key,.inr ⟨ob,e⟩,rfl,h2.symm⟩,q _ _ _ h3 h4 g⟩
 | _=>exact (show False from g).elim
variable {T:Tg} {m o m1 m2 m3 o1 o2:Bool} {e a b:Expr} {w wa wb:WE} {pos p2:Pos}
theorem Q4 {g:G2} (hg:IxD X g) (ha:EV X T m1 o1 a wa) (hb:EV X T m2 o2 b wb) (hc:o1=true\/m2=false:=by first | exact .inl rfl | exact .inr rfl) (hs:Qmd b:=by intro _ _;rfl) :
  EV X T (m1 || m2) o1 (.Subscript a b pos) (wBin g wa wb):=by
 obtain ⟨r,ro,gr⟩:=hg
 obtain ⟨ta,pa,ga⟩:=ha
 obtain ⟨tb,pb,gb⟩:=hb
 refine ⟨_,Quo ro pa pb hs,λz R σ H W ρ Q Q' s hw k=>?_⟩
 refine two ga gb hc s hw λx y H2 W2 d1 d2 ρ2 F1 F2 s2 f2 c2 r1 r2 o1 _ _ q2=>?_
 exact gr H2 d1 d2 x y F1 F2 _ Q' r1 r2 q2 λv d F rd sub hk=>k v H2 W2 d ρ2 F ⟨s2,f2,c2,rd,λh=>⟨(o1 h).1.sublist sub,λa m=>(o1 h).2 a (sub.subset m)⟩⟩ hk
def inD:D->List D->Option Bool
 | .int i,[]=>some false
 | .int i,.int j::r=>(inD (.int i) r).map λb=>(j == i) || b
 | .str i,[]=>some false
 | .str i,.str j::r=>(inD (.str i) r).map λb=>(j == i) || b
 | _,_=>none
def dIn (neg:Bool):G2
 | .int i,.dik kvs,k=>k (.bl (xor neg (valD kvs (.inl i)).isSome))
 | .str i,.dik kvs,k=>k (.bl (xor neg (valD kvs (.inr i)).isSome))
 | .tup l,.dit kvs,k=>oget (Yh l) λks=>k (.bl (xor neg (valD kvs ks).isSome))
 | .int i,.lst xs,k=>oget (inD (.int i) xs) λb=>k (.bl (xor neg b))
 | .int i,.tup xs,k=>oget (inD (.int i) xs) λb=>k (.bl (xor neg b))
 | .str i,.lst xs,k=>oget (inD (.str i) xs) λb=>k (.bl (xor neg b))
 | .str i,.tup xs,k=>oget (inD (.str i) xs) λb=>k (.bl (xor neg b))
 | .str i,.str j,k=>k (.bl (xor neg (!(Builtin.Str.occurrences j i 0 j.length 1).isEmpty)))
 | _,_,_=>False
abbrev WA:=Env->(List D->Env->Prop)->Prop
structure PostA (K:PySem.W.Frag) (T:Tg) (z:Nat->V) (R:Addr->Prop) (m o:Bool) (H:Hp) (W:Addr->Prop) (σ:St) (ρ:Env) (H':Hp) (W':Addr->Prop) (ρ':Env) (ds:List D) (vs:List V) (F:List Addr):Prop where
 sr:SR K T z R H' W' σ ρ'
 fr:FrW H W H' W'
 calm:m=false->Same H H'/\W'=W/\ρ'=ρ
 rep:Reps K H' ds vs F
 own:o=true->F.Nodup/\∀a∈F,H a=none/\¬W' a
def AV (X:Cx) (T:Tg) (m o:Bool) (es:List Expr) (w:WA):Prop :=
 ∃ta,PA X es ta/\∀(z:Nat->V) (R:Addr->Prop) (σ:St) (H:Hp) (W:Addr->Prop) (ρ:Env) (Q:List D->Env->Prop) (Q':List V->Hp->Prop),SR X.K T z R H W σ ρ->w ρ Q ->
  (∀vs H' W' ds ρ' F,PostA X.K T z R m o H W σ ρ H' W' ρ' ds vs F->Q ds ρ'->Q' vs H')->ta σ H Q'
variable {es:List Expr} {wr:WA}
def wNil:WA:=λρ Q=>Q [] ρ
def Qc (w:WE) (wr:WA):WA:=λρ Q=>w ρ λd ρ1=>wr ρ1 λds ρ2=>Q (d::ds) ρ2
theorem Qf:AV X T false true [] wNil:=⟨_,Ub,λz R σ H W ρ Q Q' s hw k=>k [] H W [] ρ [] ⟨s,FrW.refl H W,λ_=>⟨Same.refl H,rfl,rfl⟩,.nil,λ_=>⟨List.nodup_nil,λa m=>nomatch m⟩⟩ hw⟩
theorem Qa (he:EV X T m1 o1 e w) (hr:AV X T m2 o2 es wr) (hc:o1=true\/m2=false:=by first | exact .inl rfl | exact .inr rfl) (hs:starEach (e::es) X.env=(false,eval e X.env)::starEach es X.env:=by rfl) :
  AV X T (m1 || m2) (o1 && o2) (e::es) (Qc w wr):=by
 obtain ⟨te,pe,ge⟩:=he
 obtain ⟨ta,pa,ga⟩:=hr
 refine ⟨_,Js pe pa hs,λz R σ H W ρ Q Q' s hw k=>?_⟩
 refine ge z R σ H W ρ _ _ s hw λv1 H1 W1 d1 ρ1 F1 p q1=>?_
 refine ga z R σ H1 W1 ρ1 _ _ p.sr q1 λvs H2 W2 ds ρ2 F2 q q2=>?_
 have r1:Rep X.K H2 d1 v1 F1:=by
  rcases hc with hc | hc
  ·exact p.rep.keep q.fr λa h=>((p.own hc).2 a h).2
  ·exact p.rep.same (q.calm hc).1
 refine k (v1::vs) H2 W2 (d1::ds) ρ2 (F1++F2) ⟨q.sr,p.fr.trans q.fr,λh=>?_,.cons r1 q.rep,λh=>?_⟩ q2
 ·rw [Bool.or_eq_false_iff] at h
  obtain ⟨a1,a2,a3⟩:=p.calm h.1
  obtain ⟨b1,b2,b3⟩:=q.calm h.2
  exact ⟨a1.trans b1,b2.trans a2,b3.trans a3⟩
 ·rw [Bool.and_eq_true] at h
  obtain ⟨n1,k1⟩:=p.own h.1
  obtain ⟨n2,k2⟩:=q.own h.2
  refine ⟨List.nodup_append.mpr ⟨n1,n2,λa ma b mb e=>?_⟩,λa ma=>?_⟩
  ·subst e
   obtain ⟨ob,e,_⟩:=p.rep.dom a ma
   rw [(k2 a mb).1] at e;cases e
  ·rcases List.mem_append.mp ma with ma | ma
   ·refine ⟨(k1 a ma).1,λw=>?_⟩
    rcases q.fr.new a w with w | w
    ·exact (k1 a ma).2 w
    ·obtain ⟨ob,e,_⟩:=p.rep.dom a ma
     rw [w] at e;cases e
   ·exact ⟨p.fr.dom a (k2 a ma).1,(k2 a ma).2⟩
def wTup (wr:WA):WE:=λρ Q=>wr ρ λds ρ'=>ds.length<=sizeLine/\Q (.tup ds) ρ'
def wLst (wr:WA):WE:=λρ Q=>wr ρ λds ρ'=>ds.length<=sizeLine/\Q (.lst ds) ρ'
theorem Qs {x1} (h:AV X T m o es wr):EV X T m o (.Tuple es x1 pos) (wTup wr):=by
 obtain ⟨ta,pa,ga⟩:=h
 refine ⟨_,Qke pa,λz R σ H W ρ Q Q' s hw k=>?_⟩
 refine ga z R σ H W ρ _ _ s hw λvs H1 W1 ds ρ1 F p q=>?_
 obtain ⟨hz,q⟩:=q
 refine ⟨by rw [p.rep.length];exact hz,λa ha=>k _ _ W1 (.tup ds) ρ1 F ⟨p.sr.same (Qj ha),p.fr.trans (FrW.same W1 (Qj ha)),λh=>⟨(p.calm h).1.trans (Qj ha),(p.calm h).2⟩,.tup Qh (p.rep.same (Qj ha)),p.own⟩ q⟩
theorem Z2 (h:AV X T m o es wr):EV X T m o (.List es pos) (wLst wr):=by
 obtain ⟨ta,pa,ga⟩:=h
 refine ⟨_,Qoq pa,λz R σ H W ρ Q Q' s hw k=>?_⟩
 refine ga z R σ H W ρ _ _ s hw λvs H1 W1 ds ρ1 F p q=>?_
 obtain ⟨hz,q⟩:=q
 refine ⟨by rw [p.rep.length];exact hz,λa ha=>k _ _ W1 (.lst ds) ρ1 (a::F) ⟨p.sr.same (Qj ha),p.fr.trans (FrW.same W1 (Qj ha)),λh=>⟨(p.calm h).1.trans (Qj ha),(p.calm h).2⟩,.lst Qh (p.rep.same (Qj ha)),λh=>?_⟩ q⟩
 obtain ⟨n1,k1⟩:=p.own h
 refine ⟨List.nodup_cons.mpr ⟨λm=>?_,n1⟩,λb mb=>?_⟩
 ·obtain ⟨ob,e,_⟩:=p.rep.dom a m
  rw [ha] at e;cases e
 ·rcases List.mem_cons.mp mb with rfl | mb
  ·exact ⟨p.fr.dom _ ha,p.sr.nw ha⟩
  ·exact k1 b mb
theorem Qh5:EV X T false true (.Dict [] [] pos) (wC (.dik [])) :=
 ⟨_,Qm4,λz R σ H W ρ Q Q' s hw k a ha=>k _ _ W (.dik []) ρ [a] (Post.fin s (FrW.refl H W) (λ_=>⟨Same.refl H,rfl,rfl⟩) (Qj ha) (.dik Qh .nil) (by simp) (λb m=>by rw [List.mem_singleton.mp m];exact ha)) hw⟩
abbrev GA:=List D->(D->Prop)->Prop
def Qeb (X:Cx) (f:Value) (g:GA):Prop :=
 ∃r,Z5 X f r/\∀(H:Hp) (ds:List D) (xs:List V) (F:List Addr) (k:D->Prop) (Q:VK),Reps X.K H ds xs F->g ds k->(∀v H' d F',Fin X.K H H' d v F'->k d->Q v H')->r xs H Q
def Qr (g:GA) (wr:WA):WE:=λρ Q=>wr ρ λds ρ'=>g ds λd=>Q d ρ'
variable {x:Str} {id T':String} {p:Pos}
theorem Qii {g:GA} {r:List V->Hp->VK->Prop} (gr:∀(H:Hp) (ds:List D) (xs:List V) (F:List Addr) (k:D->Prop) (Q:VK),Reps X.K H ds xs F->g ds k->(∀v H' d F',Fin X.K H H' d v F'->k d->Q v H')->r xs H Q)
  {ta:TA} (ga:∀(z:Nat->V) (R:Addr->Prop) (σ:St) (H:Hp) (W:Addr->Prop) (ρ:Env) (Q:List D->Env->Prop) (Q':List V->Hp->Prop),SR X.K T z R H W σ ρ->wr ρ Q ->
   (∀vs H' W' ds ρ' F,PostA X.K T z R m o H W σ ρ H' W' ρ' ds vs F->Q ds ρ'->Q' vs H')->ta σ H Q')
  {z:Nat->V} {R:Addr->Prop} {σ:St} {H:Hp} {W:Addr->Prop} {ρ:Env} {Q:D->Env->Prop} {Q':VK} (s:SR X.K T z R H W σ ρ) (hw:Qr g wr ρ Q)
  (k:∀v H' W' d ρ' F,Post X.K T z R m true H W σ ρ H' W' ρ' d v F->Q d ρ'->Q' v H'):ta σ H λvs H1=>r vs H1 Q':=by
 refine ga z R σ H W ρ _ _ s hw λvs H1 W1 ds ρ1 F p q=>?_
 exact gr H1 ds vs F _ Q' p.rep q λv H' d F' fi hk=>k v H' W1 d ρ1 F' (Post.fin p.sr p.fr p.calm fi.same fi.rep fi.nd fi.new) hk
theorem Jd {g:GA} (hc:Qeb X (.builtin id) g) (hm:X.mg x=none) (hv:bootBuiltins x=some (.builtin id)) (ha:AV X T m o (e::es) wr) (hg:Gl X x:=by rfl) (hn:x ≠ "__name__":=by decide) (hdb:(x == ("__debug__" : Str))=false:=by decide)
  (he:starEach (e::es) X.env=(false,eval e X.env)::starEach es X.env:=by rfl) (hpl:(backTo pos (starEach es X.env)).any (·.1)=false:=by rfl):EV X T m true (.Call (.Name x p) (e::es) [] pos) (Qr g wr):=by
 obtain ⟨r,rc,gr⟩:=hc
 obtain ⟨ta,pa,ga⟩:=ha
 exact ⟨_,Qdn rc hg hm hv pa hn hdb he hpl,λz R σ H W ρ Q Q' s hw k=>Qii gr ga s hw k⟩
theorem Y9 {g:GA} (hc:Qeb X (.type T') g) (hm:X.mg x=none) (hv:bootBuiltins x=some (.type T')) (ha:AV X T m o (e::es) wr) (hg:Gl X x:=by rfl) (hn:x ≠ "__name__":=by decide) (hdb:(x == ("__debug__" : Str))=false:=by decide)
  (he:starEach (e::es) X.env=(false,eval e X.env)::starEach es X.env:=by rfl) (hpl:(backTo pos (starEach es X.env)).any (·.1)=false:=by rfl):EV X T m true (.Call (.Name x p) (e::es) [] pos) (Qr g wr):=by
 obtain ⟨r,rc,gr⟩:=hc
 obtain ⟨ta,pa,ga⟩:=ha
 exact ⟨_,Qej rc hg hm hv pa hn hdb he hpl,λz R σ H W ρ Q Q' s hw k=>Qii gr ga s hw k⟩
theorem Qlb (t:Ty) (hm:X.mg x=none) (hv:bootBuiltins x=some (.type t.nm)) (hg:Gl X x:=by rfl) (hn:x ≠ "__name__":=by decide) (hdb:(x == ("__debug__" : Str))=false:=by decide):EV X T false true (.Name x pos) (wC (.ty t)) :=
 Ul (Qkg hg hm hv (v:=.ty t.nm) rfl hn hdb) λ_=>.ty t
theorem Reps.at1 {K:PySem.W.Frag} {H:Hp} {d:D} {xs:List V} {F:List Addr} (r:Reps K H [d] xs F):∃v,xs=[v]/\Rep K H d v F:=by
 cases r with
 | cons h r=>cases r;rw [List.append_nil];exact ⟨_,rfl,h⟩
theorem Reps.at2 {K:PySem.W.Frag} {H:Hp} {d e:D} {xs:List V} {F:List Addr} (r:Reps K H [d,e] xs F):∃v u F1 F2,xs=[v,u]/\Rep K H d v F1/\Rep K H e u F2:=by
 cases r with
 | cons h r =>
  obtain ⟨u,rfl,h2⟩:=r.at1
  exact ⟨_,_,_,_,rfl,h,h2⟩
def dLen:GA
 | [.lst xs],k=>k (.int xs.length)
 | [.tup xs],k=>k (.int xs.length)
 | [.kls xs],k=>k (.int xs.length)
 | [.dik xs],k=>k (.int xs.length)
 | [.str z],k=>z.length<=sizeLine/\k (.int z.length)
 | _,_=>False
theorem Vx:Qeb X (.builtin "len") dLen:=by
 refine ⟨_,Z5.or Qn0 Ql3,λH ds xs F k Q r g q=>?_⟩
 cases ds with
 | nil=>exact (show False from g).elim
 | cons d ds =>
  cases ds with
  | cons _ _=>cases d <;> exact (show False from g).elim
  | nil =>
   cases d with
   | lst es =>
    obtain ⟨v,rfl,rd⟩:=r.at1
    clear r
    cases rd with
    | lst e r9=>exact .inl ⟨_,_,rfl,.inl ⟨_,.of e,rfl⟩,by rw [r9.length];exact q _ _ _ _ (.flat (.int _)) g⟩
   | tup es =>
    obtain ⟨v,rfl,rd⟩:=r.at1
    clear r
    cases rd with
    | tup e r9=>exact .inl ⟨_,_,rfl,.inr ⟨_,.of e,rfl⟩,by rw [r9.length];exact q _ _ _ _ (.flat (.int _)) g⟩
   | kls es =>
    obtain ⟨v,rfl,rd⟩:=r.at1
    clear r
    cases rd with
    | kls e r9=>exact .inl ⟨_,_,rfl,.inl ⟨_,e.sq,rfl⟩,by rw [r9.length];exact q _ _ _ _ (.flat (.int _)) g⟩
   | dik es =>
    obtain ⟨v,rfl,rd⟩:=r.at1
    clear r
    cases rd with
    | dik e r9=>exact .inr ⟨_,_,rfl,e,by rw [r9.length];exact q _ _ _ _ (.flat (.int _)) g⟩
   | str es =>
    obtain ⟨v,rfl,rd⟩:=r.at1
    clear r
    cases rd
    exact .inl ⟨_,_,rfl,⟨g.1,rfl⟩,q _ _ _ _ (.flat (.int _)) g.2⟩
   | _=>exact (show False from g).elim
def dInt:GA
 | [.int i],k=>k (.int i)
 | [.bl b],k=>k (.int (if b then 1 else 0))
 | _,_=>False
theorem Qtp:Qeb X (.type "int") dInt:=by
 refine ⟨_,Ql6,λH ds xs F k Q r g q=>?_⟩
 cases ds with
 | nil=>exact (show False from g).elim
 | cons d ds =>
  cases ds with
  | cons _ _=>cases d <;> exact (show False from g).elim
  | nil =>
   cases d with
   | int i =>
    obtain ⟨v,rfl,rd⟩:=r.at1
    cases rd
    exact .inl ⟨_,rfl,q _ _ _ _ (.flat (.int _)) g⟩
   | bl i =>
    obtain ⟨v,rfl,rd⟩:=r.at1
    cases rd
    exact .inr ⟨_,rfl,q _ _ _ _ (.flat (.int _)) g⟩
   | _=>exact (show False from g).elim
def dAbs:GA
 | [.int i],k=>k (.int (if i<0 then -i else i))
 | _,_=>False
def Qu7:GA
 | [.int i,.int j],k=>k (.int (if j<i then j else i))
 | _,_=>False
def Qu8:GA
 | [.int i,.int j],k=>k (.int (if j > i then j else i))
 | _,_=>False
def Qe3:GA
 | [.lst xs],k=>Qg xs=true/\k (.lst xs)
 | [.tup xs],k=>Qg xs=true/\k (.lst xs)
 | [.kls xs],k=>Qg xs=true/\k (.lst xs)
 | _,_=>False
theorem Qd0:Qeb X (.type "list") Qe3:=by
 refine ⟨_,Qe7,λH ds xs F k Q r g q=>?_⟩
 cases ds with
 | nil=>exact (show False from g).elim
 | cons d ds =>
  cases ds with
  | cons _ _=>cases d <;> exact (show False from g).elim
  | nil =>
   cases d with
   | lst es =>
    obtain ⟨v,rfl,rd⟩:=r.at1
    clear r
    cases rd with
    | lst e r9=>exact ⟨_,_,rfl,.inl (.of e),λl hl=>q _ _ _ [l] ⟨Qj hl,.lst Qh ((r9.pure g.1).2.same (Qj hl)),by simp,λb m=>by rw [List.mem_singleton.mp m];exact hl⟩ g.2⟩
   | tup es =>
    obtain ⟨v,rfl,rd⟩:=r.at1
    clear r
    cases rd with
    | tup e r9=>exact ⟨_,_,rfl,.inr (.of e),λl hl=>q _ _ _ [l] ⟨Qj hl,.lst Qh ((r9.pure g.1).2.same (Qj hl)),by simp,λb m=>by rw [List.mem_singleton.mp m];exact hl⟩ g.2⟩
   | kls es =>
    obtain ⟨v,rfl,rd⟩:=r.at1
    clear r
    cases rd with
    | kls e r9=>exact ⟨_,_,rfl,.inl e.sq,λl hl=>q _ _ _ [l] ⟨Qj hl,.lst Qh ((r9.pure g.1).2.same (Qj hl)),by simp,λb m=>by rw [List.mem_singleton.mp m];exact hl⟩ g.2⟩
   | _=>exact (show False from g).elim
def Qc7:GA
 | [.lst xs],k=>Qg xs=true/\k (.tup xs)
 | [.tup xs],k=>Qg xs=true/\k (.tup xs)
 | [.kls xs],k=>Qg xs=true/\k (.tup xs)
 | _,_=>False
theorem Qdz:Qeb X (.type "tuple") Qc7:=by
 refine ⟨_,Qd2,λH ds xs F k Q r g q=>?_⟩
 cases ds with
 | nil=>exact (show False from g).elim
 | cons d ds =>
  cases ds with
  | cons _ _=>cases d <;> exact (show False from g).elim
  | nil =>
   cases d with
   | lst es =>
    obtain ⟨v,rfl,rd⟩:=r.at1
    clear r
    cases rd with
    | lst e r9=>exact ⟨_,_,rfl,.inl ⟨.of e,λl hl=>q _ _ _ [] ⟨Qj hl,.tup Qh ((r9.pure g.1).2.same (Qj hl)),by simp,λb m=>nomatch m⟩ g.2⟩⟩
   | tup es =>
    obtain ⟨v,rfl,rd⟩:=r.at1
    clear r
    cases rd with
    | tup e r9=>exact ⟨_,_,rfl,.inr ⟨.of e,q _ _ _ _ (.flat (.tup e (r9.pure g.1).2)) g.2⟩⟩
   | kls es =>
    obtain ⟨v,rfl,rd⟩:=r.at1
    clear r
    cases rd with
    | kls e r9=>exact ⟨_,_,rfl,.inl ⟨e.sq,λl hl=>q _ _ _ [] ⟨Qj hl,.tup Qh ((r9.pure g.1).2.same (Qj hl)),by simp,λb m=>nomatch m⟩ g.2⟩⟩
   | _=>exact (show False from g).elim
end
end PV
namespace PV
open PySem PySem.Spec L2
section
variable {X:Cx} {T:Tg} {m o m1 m2 m3 o1 o2:Bool} {e a b:Expr} {w wa wb:WE} {pos p2 p:Pos} {es:List Expr} {wr:WA} {x:Str}
def isiD:D->Ty->Option Bool
 | .non,_=>some false
 | .bl _,t=>some (t == .bool || t == .int)
 | .int _,t=>some (t == .int)
 | .str _,t=>some (t == .str)
 | .tup _,t=>some (t == .tuple)
 | .lst _,t=>some (t == .list)
 | .dik _,t=>some (t == .dict)
 | .dit _,t=>some (t == .dict)
 | .kls _,_=>none
 | .ty _,_=>none
 | .fdk _,t=>some (t == .dict)
 | .ftp _,_=>none
 | .fls _,t=>some (t == .list)
 | .fdt _,_=>none
 | .obj _ _,_=>none
 | .clo _ _,_=>none
 | .kc _,_=>none
 | .dmx _,_=>none
 | .fmx _,_=>none
def dIsi:GA
 | [d,.ty t],k=>oget (isiD d t) λb=>k (.bl b)
 | _,_=>False
theorem Qs0 {K:PySem.W.Frag} (t:Ty):PySem.W.kitOne K (.type "NoneType") (.type t.nm)=some false:=by
 cases t <;> (unfold PySem.W.kitOne;rw [if_neg (by decide)];rfl)
theorem Qs2 {K:PySem.W.Frag} (t:Ty):PySem.W.kitOne K (.type "bool") (.type t.nm)=some (t == .bool || t == .int):=by
 cases t <;> first | (unfold PySem.W.kitOne;rw [if_pos (by decide)];rfl) | (unfold PySem.W.kitOne;rw [if_neg (by decide)];rfl)
theorem Qs1 {K:PySem.W.Frag} (t:Ty):PySem.W.kitOne K (.type "int") (.type t.nm)=some (t == .int):=by
 cases t <;> first | (unfold PySem.W.kitOne;rw [if_pos (by decide)];rfl) | (unfold PySem.W.kitOne;rw [if_neg (by decide)];rfl)
theorem Qsz {K:PySem.W.Frag} (t:Ty):PySem.W.kitOne K (.type "str") (.type t.nm)=some (t == .str):=by
 cases t <;> first | (unfold PySem.W.kitOne;rw [if_pos (by decide)];rfl) | (unfold PySem.W.kitOne;rw [if_neg (by decide)];rfl)
theorem Qsy {K:PySem.W.Frag} (t:Ty):PySem.W.kitOne K (.type "tuple") (.type t.nm)=some (t == .tuple):=by
 cases t <;> first | (unfold PySem.W.kitOne;rw [if_pos (by decide)];rfl) | (unfold PySem.W.kitOne;rw [if_neg (by decide)];rfl)
theorem Qos {K:PySem.W.Frag} (t:Ty):PySem.W.kitOne K (.type "list") (.type t.nm)=some (t == .list):=by
 cases t <;> first | (unfold PySem.W.kitOne;rw [if_pos (by decide)];rfl) | (unfold PySem.W.kitOne;rw [if_neg (by decide)];rfl)
theorem Qkp {K:PySem.W.Frag} (t:Ty):PySem.W.kitOne K (.type "dict") (.type t.nm)=some (t == .dict):=by
 cases t <;> first | (unfold PySem.W.kitOne;rw [if_pos (by decide)];rfl) | (unfold PySem.W.kitOne;rw [if_neg (by decide)];rfl)
theorem Ql5:Z5 X (.builtin "isinstance") (λxs H Q=>∃a o kvs T b,xs=[.ref a,.ty T]/\H a=some (.frz o (.dK kvs))/\PySem.W.kitOne X.K (.type "dict") (.type T)=some b/\Q (.bl b) H):=by
 intro pins s σ H xs us Q I r h
 obtain ⟨a,o,kvs,T,b,rfl,ea,e,q⟩:=h
 obtain ⟨u,c,rfl,ru,rc⟩:=Qjr r
 cases (show c=Value.type T from rc)
 cases (show u=Value.ref a from ru)
 obtain ⟨_,_,_,vs,_,p⟩:=(show J2 X.prog X.w H s.heap a (.frz o (.dK kvs)) from I.hok a _ ea)
 obtain ⟨o',es,ep,h1,h2,_⟩:=p
 exact PySem.W.kia_one PySem.W.kitx_dict I.kIn ⟨o',h1,h2.1⟩ e (λz=>nomatch z) λtk=>⟨.bl b,H,I.tok _,rfl,q⟩
theorem Qe6:Qeb X (.builtin "isinstance") dIsi:=by
 refine ⟨_,Z5.or Qg4 Ql5,λH ds xs F k Q r g q=>?_⟩
 match ds,r,g with
 | [d,.ty t],r,g =>
  obtain ⟨v,u,F1,F2,rfl,r1,r2⟩:=r.at2
  obtain ⟨b,hb,g⟩:=Qq g
  cases r2
  have fin:=q _ _ _ _ (.flat (.bl b)) g
  cases r1 with
  | non=>exact .inl ⟨_,_,_,_,rfl,.non,Qs0 t,by cases hb;exact fin⟩
  | bl c=>exact .inl ⟨_,_,_,_,rfl,.bl c,Qs2 t,by cases hb;exact fin⟩
  | int c=>exact .inl ⟨_,_,_,_,rfl,.int c,Qs1 t,by cases hb;exact fin⟩
  | str c=>exact .inl ⟨_,_,_,_,rfl,.str c,Qsz t,by cases hb;exact fin⟩
  | tup e _=>exact .inl ⟨_,_,_,_,rfl,.tup e,Qsy t,by cases hb;exact fin⟩
  | lst e _=>exact .inl ⟨_,_,_,_,rfl,.lst e,Qos t,by cases hb;exact fin⟩
  | dik e _=>exact .inl ⟨_,_,_,_,rfl,.dK e,Qkp t,by cases hb;exact fin⟩
  | dit e _=>exact .inl ⟨_,_,_,_,rfl,.dT e,Qkp t,by cases hb;exact fin⟩
  | kls _ _=>cases hb
  | ty _=>cases hb
  | fdk e _=>exact .inr ⟨_,_,_,_,_,rfl,e,Qkp t,by cases hb;exact fin⟩
  | ftp _ _ _=>cases hb
  | fls e _=>exact .inl ⟨_,_,_,_,rfl,.frz e,Qos t,by cases hb;exact fin⟩
  | fdt _ _=>cases hb
  | obj _ _ _=>cases hb
  | clo _ _=>cases hb
  | kc _=>cases hb
  | dmx _ _ _ _=>cases hb
  | fmx _ _ _ _=>cases hb
theorem SR0.write {K:PySem.W.Frag} {z:Nat->V} {R:Addr->Prop} {H H':Hp} {W:Addr->Prop} {σ:St} {ρ:Env} {fp:Nat->List Addr} {i:Nat} {d d':D} {v:V} {l:Addr} {F':List Addr} (s:SR0 K T z R H W σ ρ fp)
  (hl:look ρ i=some d) (ht:T.own i=true) (hv:σ[i]? = some (some v)) (hm:l∈fp i) (hk:∀b u,H b=some u->b≠l->H' b=some u) (hnew:∃ob,H' l=some ob/\imm ob=false) (r:Rep K H' d' v F') (nd:F'.Nodup)
  (sub:∀a∈F',a∈fp i\/(¬W a/\¬R a)):SR K T z R H' (λa=>W a\/a∈F') σ (ρ.set i (some d')):=by
 have hW:W l:=(s.own i d hl ht).2 l hm
 have hi:ImmK H H':=λb ob' e im=>by
  obtain ⟨ol,e1,e2⟩:=s.wd l hW
  have:b≠l:=λz=>by rw [z,e1] at e;cases e;rw [e2] at im;cases im
  exact hk b _ e this
 refine ⟨λj=>if j=i then F' else fp j,?_,?_,?_,?_,?_,?_,?_,?_,s.fix⟩
 ·rw [List.length_set];exact s.len
 ·intro a ha
  by_cases e:a=l
  ·subst e;exact hnew
  ·rcases ha with ha | ha
   ·exact (s.wd a ha).imp λob q=>⟨hk a ob q.1 e,q.2⟩
   ·exact r.dom a ha
 ·intro j e hj
  by_cases hji:j=i
  ·subst hji
   rw [Vp (Xw hl)] at hj
   cases hj
   exact ⟨v,hv,by rw [if_pos rfl];exact r⟩
  ·rw [Qu hji] at hj
   obtain ⟨u,h1,h2⟩:=s.at_ j e hj
   refine ⟨u,h1,?_⟩
   rw [if_neg hji]
   refine h2.frame hi λa ha=>?_
   obtain ⟨oa,e1,_⟩:=h2.dom a ha
   rw [e1]
   refine hk a _ e1 λz=>?_
   subst z
   cases hto:T.own j with
   | true=>exact s.dis i j d e hl hj ht hto (λz=>hji z.symm) _ hm ha
   | false=>exact s.wr _ hW (s.ro j e hj hto _ ha)
 ·intro j e hj hto
  by_cases hji:j=i
  ·subst hji;simp only [if_pos];exact ⟨nd,λa h=>.inr h⟩
  ·rw [Qu hji] at hj
   simp only [if_neg hji]
   exact ⟨(s.own j e hj hto).1,λa h=>.inl ((s.own j e hj hto).2 a h)⟩
 ·intro j e hj hto
  have hji:j≠i:=λz=>by subst z;rw [ht] at hto;cases hto
  rw [Qu hji] at hj
  simp only [if_neg hji]
  exact s.ro j e hj hto
 ·intro a ha hr
  rcases ha with ha | ha
  ·exact s.wr a ha hr
  ·rcases sub a ha with h | h
   ·exact s.wr a ((s.own i d hl ht).2 a h) hr
   ·exact h.2 hr
 ·intro a hr
  have:a≠l:=λz=>by subst z;exact s.wr _ hW hr
  exact (s.rd a hr).imp λob q=>⟨hk a ob q.1 this,q.2⟩
 ·intro j k e e' hj hk tj tk hne a ha ha'
  by_cases hji:j=i
  ·subst hji
   have hkj:k≠j:=λz=>hne z.symm
   rw [Qu hkj] at hk
   simp only [if_pos,if_neg hkj] at ha ha'
   rcases sub a ha with h | h
   ·exact s.dis j k d e' hl hk ht tk hne a h ha'
   ·exact h.1 ((s.own k e' hk tk).2 a ha')
  ·rw [Qu hji] at hj
   simp only [if_neg hji] at ha
   by_cases hki:k=i
   ·subst hki
    simp only [if_pos] at ha'
    rcases sub a ha' with h | h
    ·exact s.dis j k e d hj hl tj ht hne a ha h
    ·exact h.1 ((s.own j e hj tj).2 a ha)
   ·rw [Qu hki] at hk
    simp only [if_neg hki] at ha'
    exact s.dis j k e e' hj hk tj tk hne a ha ha'
theorem FrW.write {H0 H H':Hp} {W0 W:Addr->Prop} {l:Addr} {F':List Addr} (f:FrW H0 W0 H W) (hl:W l) (hm:∃ol,H l=some ol/\PV.imm ol=false) (hk:∀b u,H b=some u->b≠l->H' b=some u) (hnew:∃ob,H' l=some ob/\PV.imm ob=false)
  (sub:∀a∈F',W a\/H0 a=none):FrW H0 W0 H' (λa=>W a\/a∈F') where
 keep:=λb ob' e n=>by
  have:b≠l:=λz=>by
   subst z
   rcases f.new _ hl with h | h
   ·exact n h
   ·rw [h] at e;cases e
  exact hk b _ (f.keep b ob' e n) this
 dom:=λb e=>by
  by_cases h:b=l
  ·subst h
   obtain ⟨ob,e1,_⟩:=hnew
   rw [e1] at e;cases e
  ·refine f.dom b ?_
   cases q:H b with
   | none=>rfl
   | some u=>rw [hk b u q h] at e;cases e
 imm:=λb ob' e im=>by
  have e':=f.imm b ob' e im
  obtain ⟨ol,e1,e2⟩:=hm
  have:b≠l:=λz=>by rw [z,e1] at e';cases e';rw [e2] at im;cases im
  exact hk b _ e' this
 new:=λb h=>by
  rcases h with h | h
  ·exact f.new b h
  ·rcases sub b h with h | h
   ·exact f.new b h
   ·exact .inr h
theorem Zv {H:Hp} {l:Addr} {ob:HO}:∀b u,H b=some u->b≠l->upd H l ob b=some u:=λb u e n=>by rw [Qk n];exact e
abbrev GM:=D->List D->(D->D->Prop)->Prop
def MtD (X:Cx) (id:String) (g:GM):Prop :=
 ∃r,MtR X id r/\∀(H:Hp) (d:D) (ds:List D) (v:V) (xs:List V) (F G:List Addr) (k:D->D->Prop) (Q:VK),Rep X.K H d v F->F.Nodup->Reps X.K H ds xs G->G.Nodup->(∀a∈G,a∉F)->g d ds k ->
  (∀u l ob e d' F',l∈F->imm ob=false->Rep X.K (upd H l ob) d' v F'->F'.Nodup->(∀a∈F',a∈F\/a∈G)->Rep X.K (upd H l ob) e u []->k e d'->Q u (upd H l ob))->r v xs H Q
def tyD:Option D->String->Bool
 | some (.lst _),t=>t == "list"
 | some (.dik _),t=>t == "dict"
 | some (.dit _),t=>t == "dict"
 | some (.dmx _),t=>t == "dict"
 | _,_=>false
theorem Qob {K:PySem.W.Frag} {H:Hp} {d:D} {v:V} {F:List Addr} {t:String} (r:Rep K H d v F) (h:tyD (some d) t=true):tyV K t v H:=by
 cases r <;> try (simp [tyD] at h)
 ·subst h;exact .inl ⟨rfl,_,.of ‹_›⟩
 ·subst h;exact .inr (.inr (.inl ⟨rfl,.inl ⟨_,‹_›⟩⟩))
 ·subst h;exact .inr (.inr (.inl ⟨rfl,.inr ⟨_,‹_›⟩⟩))
 ·rename_i e hk hm r
  subst h
  refine .inr (.inr (.inr (.inr ⟨Mx.phi _ _,e,λh p=>?_⟩)))
  obtain ⟨_,_,_,_,_,o,_,_,e,x,_⟩:=p
  exact ⟨o,e,x.1,x.2.1⟩
def wMt (i:Nat) (t:String) (g:GM) (wr:WA):WE:=λρ Q=>tyD (look ρ i) t=true/\wr ρ λds ρ1=>oget (look ρ1 i) λd=>g d ds λe d'=>Q e (ρ1.set i (some d'))
theorem Qss {i:Nat} {t:String} {g:GM} {r:V->List V->Hp->VK->Prop} (ht:T.own i=true)
  (gr:∀(H:Hp) (d:D) (ds:List D) (v:V) (xs:List V) (F G:List Addr) (k:D->D->Prop) (Q:VK),Rep X.K H d v F->F.Nodup->Reps X.K H ds xs G->G.Nodup->(∀a∈G,a∉F)->g d ds k ->
   (∀u l ob e d' F',l∈F->imm ob=false->Rep X.K (upd H l ob) d' v F'->F'.Nodup->(∀a∈F',a∈F\/a∈G)->Rep X.K (upd H l ob) e u []->k e d'->Q u (upd H l ob))->r v xs H Q)
  {ta:TA} (ga:∀(z:Nat->V) (R:Addr->Prop) (σ:St) (H:Hp) (W:Addr->Prop) (ρ:Env) (Q:List D->Env->Prop) (Q':List V->Hp->Prop),SR X.K T z R H W σ ρ->wr ρ Q ->
   (∀vs H' W' ds ρ' F,PostA X.K T z R m true H W σ ρ H' W' ρ' ds vs F->Q ds ρ'->Q' vs H')->ta σ H Q')
  {z:Nat->V} {R:Addr->Prop} {σ:St} {H:Hp} {W:Addr->Prop} {ρ:Env} {Q:D->Env->Prop} {Q':VK} (s:SR X.K T z R H W σ ρ) (hw:wMt i t g wr ρ Q)
  (k:∀v H' W' d ρ' F,Post X.K T z R true true H W σ ρ H' W' ρ' d v F->Q d ρ'->Q' v H'):tVar i σ H λx H1=>tyV X.K t x H1/\ta σ H1 λxs H2=>r x xs H2 Q':=by
 obtain ⟨hty,hw⟩:=hw
 obtain ⟨fp0,s0⟩:=id s
 cases hl:look ρ i with
 | none=>rw [hl] at hty;cases hty
 | some d0 =>
  obtain ⟨v,hv,r0⟩:=s0.at_ i d0 hl
  refine ⟨v,hv,Qob r0 (by rw [hl] at hty;exact hty),?_⟩
  refine ga z R σ H W ρ _ _ s hw λvs H1 W1 ds ρ1 G p q=>?_
  obtain ⟨d,hd,q⟩:=Qq q
  obtain ⟨fp,s1⟩:=id p.sr
  obtain ⟨v',hv',r1⟩:=s1.at_ i d hd
  have:v'=v:=by rw [hv] at hv';cases hv';rfl
  subst this
  obtain ⟨nd1,sw⟩:=s1.own i d hd ht
  obtain ⟨ndG,kG⟩:=p.own rfl
  refine gr H1 d ds v' vs (fp i) G _ Q' r1 nd1 p.rep ndG (λa ha hf=>(kG a ha).2 (sw a hf)) q λu l ob e d' F' hlF him rd' ndF sub re hk=>?_
  have hWl:=sw l hlF
  refine k u _ (λa=>W1 a\/a∈F') e _ [] ⟨s1.write hd ht hv' hlF Zv ⟨ob,Qh,him⟩ rd' ndF (λa ha=>?_),p.fr.write hWl (s1.wd l hWl) Zv ⟨ob,Qh,him⟩ (λa ha=>?_),(λh=>nomatch h),re,λ_=>⟨List.nodup_nil,λa m=>nomatch m⟩⟩ hk
  ·rcases sub a ha with h | h
   ·exact .inl h
   ·exact .inr ⟨(kG a h).2,s.nr (kG a h).1⟩
  ·rcases sub a ha with h | h
   ·exact .inl (sw a h)
   ·exact .inr (kG a h).1
variable {name:Str} {apos cpos:Pos} {T' id:String}
theorem Qq6 {i:Nat} {g:GM} (hm:MtD X id g) (pa:PlainAttrs T') (slot:Slot T' name id) (hty:typeOf (.builtin id)=pure (.type "method_descriptor")) (ha:AV X T m true (e::es) wr)
  (ht:T.own i=true:=by rfl) (hN:X.N[i]? = some x:=by rfl) (hv:Vis X.env.scope x:=by first | exact Or.inl rfl | exact Or.inr (Or.inl rfl) | exact Or.inr (Or.inr rfl)) (hd:(x == ("__debug__" : Str))=false:=by decide)
  (hcd:(x == ("__classdict__" : Str))=false:=by decide)
  (hbase:attributeBase (.Name x p) name X.env (eval (.Name x p) X.env)=eval (.Name x p) X.env:=by rfl)
  (hfew:((backTo cpos (starEach (e::es) X.env)).all (λx=>!x.1) && (backToKw cpos (keywordEach [] X.env)).all (λx=>x.1.isSome)
   && decide ((e::es).length+([]:List Keyword).length+(if ([]:List Keyword).isEmpty then 0 else 1)<30))=true:=by rfl)
  (hline:(apos.endLine == cpos.line)=true:=by rfl) (hs:starEach (e::es) X.env=(false,eval e X.env)::starEach es X.env:=by rfl) (hplain:(backTo cpos (starEach es X.env)).any (·.1)=false:=by rfl) :
  EV X T true true (.Call (.Attribute (.Name x p) name apos) (e::es) [] cpos) (wMt i T' g wr):=by
 obtain ⟨r,mr,gr⟩:=hm
 obtain ⟨ta,pa',ga⟩:=ha
 exact ⟨_,Qqd pa slot hty mr (Ua hN hv hd hcd) pa' hbase hfew hline hs hplain,λz R σ H W ρ Q Q' s hw k=>Qss ht gr ga s hw k⟩
def Qg0:GM
 | .lst xs,[d],k=>xs.length<sizeLine/\k .non (.lst (xs++[d]))
 | _,_,_=>False
theorem Xf {α:Type} {F G:List α} (h:F.Nodup) (h':G.Nodup) (d:∀a∈G,a∉F):(F++G).Nodup :=
 List.nodup_append.mpr ⟨h,h',λa ha b hb e=>d b hb (e ▸ ha)⟩
theorem Ud {H:Hp} {l:Addr} {ob ob':HO} (h:H l=some ob) (hi:imm ob=false):ImmK H (upd H l ob'):=λb u e im=>by
 have:b≠l:=λz=>by rw [z,h] at e;cases e;rw [hi] at im;cases im
 rw [Qk this];exact e
theorem Reps.upd {K:PySem.W.Frag} {H:Hp} {ds:List D} {xs:List V} {F:List Addr} {l:Addr} {ob ob':HO} (r:Reps K H ds xs F) (h:H l=some ob) (hi:imm ob=false) (hn:l∉F):Reps K (L2.upd H l ob') ds xs F :=
 r.frame (Ud h hi) λa ha=>Qk λz=>hn (z ▸ ha)
theorem Rep.upd {K:PySem.W.Frag} {H:Hp} {d:D} {x:V} {F:List Addr} {l:Addr} {ob ob':HO} (r:Rep K H d x F) (h:H l=some ob) (hi:imm ob=false) (hn:l∉F):Rep K (L2.upd H l ob') d x F :=
 r.frame (Ud h hi) λa ha=>Qk λz=>hn (z ▸ ha)
theorem RepK.upd {K:PySem.W.Frag} {H:Hp} {ds:List (Key × D)} {xs:List (Key × V)} {F:List Addr} {l:Addr} {ob ob':HO} (r:RepK K H ds xs F) (h:H l=some ob) (hi:imm ob=false) (hn:l∉F):RepK K (L2.upd H l ob') ds xs F :=
 r.frame (Ud h hi) λa ha=>Qk λz=>hn (z ▸ ha)
theorem RepT.upd {K:PySem.W.Frag} {H:Hp} {ds:List (List Key × D)} {xs:List (List Key × V)} {F:List Addr} {l:Addr} {ob ob':HO} (r:RepT K H ds xs F) (h:H l=some ob) (hi:imm ob=false) (hn:l∉F):RepT K (L2.upd H l ob') ds xs F :=
 r.frame (Ud h hi) λa ha=>Qk λz=>hn (z ▸ ha)
theorem Qkl:MtD X "list.append" Qg0:=by
 refine ⟨_,Qeo,λH d ds v xs F G k Q r nd rs ndG dis g q=>?_⟩
 cases d with
 | lst es =>
  cases ds with
  | nil=>exact (show False from g).elim
  | cons d ds =>
   cases ds with
   | cons _ _=>exact (show False from g).elim
   | nil =>
    obtain ⟨u,rfl,rd⟩:=rs.at1
    cases r with
    | @lst l ys _ F e r9 =>
     obtain ⟨hz,g⟩:=g
     obtain ⟨nl,nd⟩:=List.nodup_cons.mp nd
     have hG:l∉G:=λh=>dis l h List.mem_cons_self
     refine ⟨l,ys,u,rfl,rfl,e,by rw [r9.length];exact hz,?_⟩
     refine q .non l _ .non _ (l::(F++G)) List.mem_cons_self rfl (.lst Qh ((r9.upd e rfl nl).snoc (rd.upd e rfl hG))) (List.nodup_cons.mpr ⟨λh=>(List.mem_append.mp h).elim nl hG,Xf nd ndG λa ha hf=>dis a ha (List.mem_cons_of_mem _ hf)⟩) (λa ha=>?_) .non g
     rcases List.mem_cons.mp ha with rfl | ha
     ·exact .inl List.mem_cons_self
     ·rcases List.mem_append.mp ha with ha | ha
      ·exact .inl (List.mem_cons_of_mem _ ha)
      ·exact .inr ha
 | _=>exact (show False from g).elim
def Qh3:GM
 | .lst xs,[.int i],k=>-(2 ^ 63)<=i/\i<2 ^ 63/\oget (seqIndex? i xs.length) λj=>oget xs[j]? λd=>d.pure=true/\k d (.lst (xs.eraseIdx j))
 | _,_,_=>False
theorem sub3 {α:Type} {F A B C:List α} (h:F=A++B++C):(A++C).Sublist F:=by
 rw [h,List.append_assoc]
 exact List.Sublist.append (List.Sublist.refl _) (List.sublist_append_right _ _)
theorem Qhr:MtD X "list.pop" Qh3:=by
 refine ⟨_,Qna,λH d ds v xs F G k Q r nd rs ndG dis g q=>?_⟩
 cases d with
 | lst es =>
  cases ds with
  | nil=>exact (show False from g).elim
  | cons d ds =>
   cases ds with
   | cons _ _=>cases d <;> exact (show False from g).elim
   | nil =>
    cases d with
    | int i =>
     obtain ⟨u,rfl,rd⟩:=rs.at1
     cases rd
     cases r with
     | @lst l ys _ F e r9 =>
      obtain ⟨h1,h2,g⟩:=g
      obtain ⟨j,hj,g⟩:=Qq g
      obtain ⟨d,hd,hp,g⟩:=Qq g
      obtain ⟨nl,nd⟩:=List.nodup_cons.mp nd
      obtain ⟨y,A,B,C,hy,hF,rB,rA,rC⟩:=r9.split hd
      obtain ⟨hB,rB⟩:=rB.pure hp
      have sub:=sub3 hF
      have nAC:l∉A++C:=λh=>nl (sub.subset h)
      refine ⟨l,ys,i,j,y,rfl,rfl,e,h1,h2,by rw [r9.length];exact hj,hy,?_⟩
      refine q y l _ d _ (l::(A++C)) List.mem_cons_self rfl (.lst Qh ?_) (List.nodup_cons.mpr ⟨nAC,nd.sublist sub⟩) (λa ha=>?_) (rB.upd e rfl (λh=>nomatch h)) g
      ·rw [Qh7,Qh7]
       exact (rA.append rC).upd e rfl nAC
      ·rcases List.mem_cons.mp ha with rfl | ha
       ·exact .inl List.mem_cons_self
       ·exact .inl (List.mem_cons_of_mem _ (sub.subset ha))
    | _=>exact (show False from g).elim
 | _=>exact (show False from g).elim
def gPop:GM
 | .lst xs,[],k=>oget xs[xs.length-1]? λd=>d.pure=true/\k d (.lst xs.dropLast)
 | _,_,_=>False
def Qte:GM
 | .lst _,[],k=>k .non (.lst [])
 | _,_,_=>False
end
end PV
namespace PV
open PySem PySem.Spec L2
def spR (K:PySem.W.Frag) (g:GA):Sp:=λvs H Q _=>∃(ds:List D) (F:List Addr) (k:D->Prop),Reps K H ds vs F/\g ds k/\∀v H' d F',Fin K H H' d v F'->k d->Q v H'
abbrev GI:=List D->(D->D->Prop)->Prop
def spI (K:PySem.W.Frag) (p:Nat) (g:GI):Sp:=λvs H Q _=>∃(ds:List D) (a:Addr) (k:D->D->Prop),Reps K H ds vs [a]/\vs[p]? = some (.ref a)/\g ds k /\
 ∀v H' d d' F',Rep K H' d' (.ref a) [a]->Rep K H' d v F'->F'.Nodup->(∀b∈F',H b=none)->(∀b o,H b=some o->b≠a->H' b=some o)->k d d'->Q v H'
def V1:D->Bool
 | .lst xs=>Qg xs
 | .dik kvs=>kvs.all λkv=>kv.2.pure
 | .dit kvs=>kvs.all λkv=>kv.2.pure
 | .dmx _=>true
 | _=>false
theorem RepK.pure {K:PySem.W.Frag} {H:Hp}:∀{ds:List (Key × D)} {xs:List (Key × V)} {F:List Addr},RepK K H ds xs F->(ds.all λkv=>kv.2.pure)=true->F=[]
 | [],_,_,r,_=>by cases r;rfl
 | d::ds,_,_,r,h=>by
  rw [List.all_cons,Bool.and_eq_true] at h
  cases r with
  | cons p r=>rw [(p.pure h.1).1,RepK.pure r h.2];rfl
theorem RepT.pure {K:PySem.W.Frag} {H:Hp}:∀{ds:List (List Key × D)} {xs:List (List Key × V)} {F:List Addr},RepT K H ds xs F->(ds.all λkv=>kv.2.pure)=true->F=[]
 | [],_,_,r,_=>by cases r;rfl
 | d::ds,_,_,r,h=>by
  rw [List.all_cons,Bool.and_eq_true] at h
  cases r with
  | cons p r=>rw [(p.pure h.1).1,RepT.pure r h.2];rfl
theorem Rep.flat1 {K:PySem.W.Frag} {H:Hp} {d:D} {v:V} {F:List Addr} (r:Rep K H d v F) (h:V1 d=true):∃a,v=.ref a/\F=[a]:=by
 cases r with
 | lst e r=>exact ⟨_,rfl,by rw [(r.pure (by simpa [V1] using h)).1]⟩
 | dik e r=>exact ⟨_,rfl,by rw [r.pure (by simpa [V1] using h)]⟩
 | dit e r=>exact ⟨_,rfl,by rw [r.pure (by simpa [V1] using h)]⟩
 | dmx e _ _ _=>exact ⟨_,rfl,rfl⟩
 | _=>simp [V1] at h
section
variable {X:Cx} {T:Tg} {m o m0 m1 m2 m3 o1 o2:Bool} {e a b:Expr} {w wa wb:WE} {pos p2 p:Pos} {es:List Expr} {wr:WA} {x:Str} {k:Nat} {f:Addr} {fd:FuncData} {ps:List Str}
theorem Qq9 {g:GA} (F:FnOk X.prog X.w X.K X.mg X.base CX0 k f fd ps (spR X.K g)) (hr:Room k X.A) (hm:X.mg x=some (.ref f)) (hk:PySem.W.keepIn X.K (.ref f)=true) (hb:Gw X.K fd ps []) (ha:AV X T m o (e::es) wr) (hg:Gl X x:=by rfl)
  (hdb:(x == ("__debug__" : Str))=false:=by decide) (he:starEach (e::es) X.env=(false,eval e X.env)::starEach es X.env:=by rfl) (hpl:(backTo pos (starEach es X.env)).any (·.1)=false:=by rfl) :
  EV X T m true (.Call (.Name x p) (e::es) [] pos) (Qr g wr):=by
 obtain ⟨ta,pa,ga⟩:=ha
 refine ⟨_,Qgj F hr hg hm hk hb .nil Qqe pa hdb he hpl,λz R σ H W ρ Q Q' s hw k=>?_⟩
 refine ga z R σ H W ρ _ _ s hw λvs H1 W1 ds ρ1 F p q=>?_
 refine ⟨ds,F,_,by rw [List.append_nil];exact p.rep,q,λv H' d F' fi hk=>k v H' W1 d ρ1 F' (Post.fin p.sr p.fr p.calm fi.same fi.rep fi.nd fi.new) hk⟩
abbrev WI:=Env->(List D->List D->Env->Prop)->Prop
def AI (X:Cx) (T:Tg) (m:Bool) (i p:Nat) (es:List Expr) (w:WI):Prop :=
 ∃ta,PA X es ta/\∀(z:Nat->V) (R:Addr->Prop) (σ:St) (H:Hp) (W:Addr->Prop) (ρ:Env) (Q:List D->List D->Env->Prop) (Q':List V->Hp->Prop),SR X.K T z R H W σ ρ->w ρ Q ->
  (∀v xs ys H' W' pre post ρ',PostT X.K T z R m H W σ ρ H' W' ρ'->σ[i]? = some (some v)->Reps X.K H' pre xs []->Reps X.K H' post ys []->pre.length=p->Q pre post ρ'->Q' (xs++v::ys) H')->ta σ H Q'
def J7 (i:Nat) (wr:WA):WI:=λρ Q=>(look ρ i).isSome=true/\wr ρ λds ρ'=>Qg ds=true/\Q [] ds ρ'
theorem Jo {i:Nat} (hr:AV X T m o es wr) (hN:X.N[i]? = some x:=by rfl) (hv:Vis X.env.scope x:=by first | exact Or.inl rfl | exact Or.inr (Or.inl rfl) | exact Or.inr (Or.inr rfl)) (hd:(x == ("__debug__" : Str))=false:=by decide)
  (hcd:(x == ("__classdict__" : Str))=false:=by decide) (hs:starEach (.Name x p::es) X.env=(false,eval (.Name x p) X.env)::starEach es X.env:=by rfl):AI X T m i 0 (.Name x p::es) (J7 i wr):=by
 obtain ⟨ta,pa,ga⟩:=hr
 refine ⟨_,Js (Ua hN hv hd hcd) pa hs,λz R σ H W ρ Q Q' s hw k=>?_⟩
 obtain ⟨h1,hw⟩:=hw
 obtain ⟨d,hl⟩:=Option.isSome_iff_exists.mp h1
 obtain ⟨fp,s0⟩:=id s
 obtain ⟨v,hv',_⟩:=s0.at_ i d hl
 refine ⟨v,hv',ga z R σ H W ρ _ _ s hw λvs H1 W1 ds ρ1 F p q=>?_⟩
 exact k v [] vs H1 W1 [] ds ρ1 ⟨p.sr,p.fr,p.calm⟩ hv' .nil (p.rep.pure q.1).2 rfl q.2
def Qca (w:WE) (wi:WI):WI:=λρ Q=>w ρ λd ρ1=>d.pure=true/\wi ρ1 λpre post ρ2=>Q (d::pre) post ρ2
theorem Qrj {i q:Nat} {wi:WI} (he:EV X T m1 o e w) (hr:AI X T m2 i q es wi) (hs:starEach (e::es) X.env=(false,eval e X.env)::starEach es X.env:=by rfl):AI X T (m1 || m2) i (q+1) (e::es) (Qca w wi):=by
 obtain ⟨te,pe,ge⟩:=he
 obtain ⟨ta,pa,ga⟩:=hr
 refine ⟨_,Js pe pa hs,λz R σ H W ρ Q Q' s hw k=>?_⟩
 refine ge z R σ H W ρ _ _ s hw λv1 H1 W1 d1 ρ1 F1 p ⟨hp,q1⟩=>?_
 obtain ⟨_,r1⟩:=p.rep.pure hp
 refine ga z R σ H1 W1 ρ1 _ _ p.sr q1 λv xs ys H2 W2 pre post ρ2 q hv rp rq hl q2=>?_
 exact k v (v1::xs) ys H2 W2 (d1::pre) post ρ2 (PostT.seq ⟨p.sr,p.fr,p.calm⟩ q) hv (.cons (F:=[]) (G:=[]) (r1.keep q.fr λa m=>nomatch m) rp) rq (by rw [List.length_cons,hl]) q2
def Q6 (i:Nat) (g:GI) (wi:WI):WE:=λρ Q=>wi ρ λpre post ρ1=>oget (look ρ1 i) λd0=>V1 d0=true/\g (pre++d0::post) λd d'=>Q d (ρ1.set i (some d'))
theorem Qnq {i q:Nat} {g:GI} {wi:WI} (F:FnOk X.prog X.w X.K X.mg X.base CX0 k f fd ps (spI X.K q g)) (hr:Room k X.A) (hm:X.mg x=some (.ref f)) (hk:PySem.W.keepIn X.K (.ref f)=true) (hb:Gw X.K fd ps []) (ha:AI X T m i q (e::es) wi)
  (ht:T.own i=true:=by rfl) (hg:Gl X x:=by rfl)
  (hdb:(x == ("__debug__" : Str))=false:=by decide) (he:starEach (e::es) X.env=(false,eval e X.env)::starEach es X.env:=by rfl) (hpl:(backTo pos (starEach es X.env)).any (·.1)=false:=by rfl) :
  EV X T true true (.Call (.Name x p) (e::es) [] pos) (Q6 i g wi):=by
 obtain ⟨ta,pa,ga⟩:=ha
 refine ⟨_,Qgj F hr hg hm hk hb .nil Qqe pa hdb he hpl,λz R σ H W ρ Q Q' s hw k=>?_⟩
 refine ga z R σ H W ρ _ _ s hw λv xs ys H1 W1 pre post ρ1 p hv rp rq hl q=>?_
 obtain ⟨d0,hd,hf,q⟩:=Qq q
 obtain ⟨fp,s1⟩:=id p.sr
 obtain ⟨v',hv',r0⟩:=s1.at_ i d0 hd
 have:v'=v:=by rw [hv] at hv';cases hv';rfl
 subst this
 obtain ⟨a,rfl,hF⟩:=r0.flat1 hf
 rw [hF] at r0
 have sw:=(s1.own i d0 hd ht).2
 have hWa:W1 a:=sw a (by rw [hF];exact List.mem_singleton.mpr rfl)
 refine ⟨pre++d0::post,a,_,?_,?_,q,λv H' d d' F' rd' rd nd new kp hk=>?_⟩
 ·rw [List.append_nil]
  have:=rp.append (.cons r0 rq)
  simpa using this
 ·rw [List.append_nil]
  have hx:=rp.length
  rw [List.getElem?_append_right (by omega),show _-xs.length=0 by omega]
  rfl
 ·obtain ⟨oa,ea,ia⟩:=s1.wd a hWa
  have hnew:∃ob,H' a=some ob/\imm ob=false:=rd'.dom a (List.mem_singleton.mpr rfl)
  have nd1:([a]:List Addr).Nodup:=by simp
  have sN:=s1.write (H':=H') (d':=d') (F':=[a]) hd ht hv' (by rw [hF];exact List.mem_singleton.mpr rfl) (λb u e n=>kp b u e n) hnew rd' nd1 (λb hb=>.inl (by rw [hF];exact hb))
  have fN:=p.fr.write (H':=H') (F':=[a]) hWa ⟨oa,ea,ia⟩ (λb u e n=>kp b u e n) hnew (λb hb=>.inl (by rw [List.mem_singleton.mp hb];exact hWa))
  refine k v H' _ d _ F' ⟨sN,fN,(λh=>nomatch h),rd,λ_=>⟨nd,λb hb=>⟨p.fr.dom b (new b hb),λhw=>?_⟩⟩⟩ hk
  rcases hw with hw | hw
  ·exact p.sr.nw (new b hb) hw
  ·rw [List.mem_singleton.mp hw] at hb
   rw [new a hb] at ea;cases ea
abbrev WL:=Env->(List D->Env->Prop)->Prop
def JD (K:PySem.W.Frag) (J:It) (H:Hp) (W:Addr->Prop) (ds:List D):Prop :=
 ∀(i:Nat) (H1:Hp) (W1:Addr->Prop),FrW H W H1 W1->(ds.length<=i->J.stop i H1)/\∀d,ds[i]? = some d->J.go i H1/\∀v H2,J.yld i H1 v H2->Same H1 H2/\∃F,Rep K H2 d v F/\∀a∈F,¬W1 a
def wz (pr:Bool) (W:Addr->Prop):Addr->Prop:=λa=>pr=true/\W a
def IV (X:Cx) (T:Tg) (m pr:Bool) (tg iter:Expr) (w:WL):Prop :=
 ∃wi,PI X tg iter wi/\∀(z:Nat->V) (R:Addr->Prop) (σ:St) (H:Hp) (W:Addr->Prop) (ρ:Env) (Q:List D->Env->Prop) (RR:It->Hp->Prop),SR X.K T z R H W σ ρ->w ρ Q ->
  (∀J H' W' ds ρ',PostT X.K T z R m H W σ ρ H' W' ρ'->JD X.K J H' (wz pr W') ds->Q ds ρ'->RR J H')->wi σ H RR
variable {tg iter:Expr}
theorem Qr8 {l:Expr} {tl:TE} (hl:PE X l tl):PI X tg l (λσ H R=>tl σ H λx H1=>∃a,x=.ref a/\(((∃xs,SqL X.K H1 a xs)/\R (Itl X.K a) H1)\/((∃xs,SqT X.K H1 a xs)/\R (Itt X.K a) H1))):=by
 intro pins s σ H R I h
 refine thn (hl pins s σ H _ I h) λv s1 ⟨x,H1,I1,r1,q1⟩=>?_
 obtain ⟨a,e,q⟩:=q1
 subst e
 cases r1
 rcases q with ⟨⟨xs,hq⟩,q⟩ | ⟨⟨xs,hq⟩,q⟩
 ·obtain ⟨its,rv,p,hz⟩:=I1.list hq
  refine wpAny_pyIter_list p.isList ?_
  refine ⟨s1.heap.objs.size,[s1.heap.objs.size],_,_,H1,rfl,I1.kept (t':=s1.toks) λb o e=>Heap.get?_push_of_some _ e,Qef a _,⟨_,Heap.get?_push_size _ rfl,rfl,rfl⟩,λb hb=>?_,q⟩
  have e:b=s1.heap.objs.size:=by simpa using hb
  subst e
  exact I1.fpOk (Nat.le_refl _) (I1.hok.fresh (Nat.le_refl _))
 ·obtain ⟨its,rv,p,hz⟩:=I1.tuple hq
  refine wpAny_pyIter_tuple (show s1.heap.IsTuple a its.toArray from p) ?_
  refine ⟨s1.heap.objs.size,[s1.heap.objs.size],_,_,H1,rfl,I1.kept (t':=s1.toks) λb o e=>Heap.get?_push_of_some _ e,Qim a _,⟨_,Heap.get?_push_size _ rfl,rfl,rfl⟩,λb hb=>?_,q⟩
  have e:b=s1.heap.objs.size:=by simpa using hb
  subst e
  exact I1.fpOk (Nat.le_refl _) (I1.hok.fresh (Nat.le_refl _))
def Qdc (w:WE):WL:=λρ Q=>w ρ λd ρ'=>match d with
 | .tup ds=>Qg ds=true/\Q ds ρ'
 | .lst ds=>Q ds ρ'
 | .kc (.tup ks)=>Q (ks.map kcD) ρ'
 | _=>False
theorem Quw {K:PySem.W.Frag} {H:Hp} {W:Addr->Prop} {a:Addr} {xs:List V} {ks:List KC} (hs:∀H,SqT K H a xs) (ar:AreKC K ks xs):JD K (Itt K a) H W (ks.map kcD):=by
 intro i H2 W2 f
 have r:Reps K H2 (ks.map kcD) xs []:=ar.reps
 refine ⟨λhi=>⟨xs,hs H2,by rw [r.length];exact hi⟩,λd hd=>?_⟩
 obtain ⟨x,B,hx,rx,sx⟩:=r.get hd
 refine ⟨⟨xs,x,hs H2,hx⟩,λv H3 y=>?_⟩
 obtain ⟨rfl,y⟩:=y
 have:=y xs (hs _)
 rw [hx] at this
 cases this
 exact ⟨Same.refl _,B,rx,λa ha=>nomatch sx.subset ha⟩
theorem Qb1 (h:EV X T m o e w):IV X T m o tg e (Qdc w):=by
 obtain ⟨te,pe,ge⟩:=h
 refine ⟨_,Qr8 pe,λz R σ H W ρ Q RR s hw k=>?_⟩
 refine ge z R σ H W ρ _ _ s hw λv H1 W1 d ρ1 F p q=>?_
 cases d with
 | tup ds =>
  obtain ⟨hp,q⟩:=q
  obtain ⟨hF,rp⟩:=p.rep.pure (by simpa [D.pure] using hp)
  cases rp with
  | @tup a xs _ _ e1 r =>
   refine ⟨a,rfl,.inr ⟨⟨xs,.of e1⟩,k _ H1 W1 ds ρ1 ⟨p.sr,p.fr,p.calm⟩ (λi H2 W2 f=>?_) q⟩⟩
   have e2:H2 a=some (.tup xs):=f.imm _ _ e1 rfl
   refine ⟨λhi=>⟨xs,.of e2,by rw [r.length];exact hi⟩,λd hd=>?_⟩
   obtain ⟨x,B,hx,rx,sx⟩:=r.get hd
   refine ⟨⟨xs,x,.of e2,hx⟩,λv H3 y=>?_⟩
   obtain ⟨rfl,y⟩:=y
   have:=y xs (.of e2)
   rw [hx] at this
   cases this
   exact ⟨Same.refl _,B,rx.keep f (λa ha=>(nomatch sx.subset ha)),(λa ha=>(nomatch sx.subset ha))⟩
 | lst ds =>
  obtain ⟨p1,p2,p3,p4,p5⟩:=p
  cases p4 with
  | @lst a xs _ F e1 r =>
   refine ⟨a,rfl,.inl ⟨⟨xs,.of e1⟩,k _ H1 W1 ds ρ1 ⟨p1,p2,p3⟩ (λi H2 W2 f=>?_) q⟩⟩
   have nW:∀b∈a::F,¬wz o W1 b:=λb hb hw=>by
    obtain ⟨h1,h2⟩:=hw
    exact ((p5 h1).2 b hb).2 h2
   have e2:H2 a=some (.lst xs):=f.keep _ _ e1 (nW a List.mem_cons_self)
   refine ⟨λhi=>⟨xs,.of e2,by rw [r.length];exact hi⟩,λd hd=>?_⟩
   obtain ⟨x,B,hx,rx,sx⟩:=r.get hd
   refine ⟨⟨xs,x,.of e2,hx⟩,λv H3 y=>?_⟩
   obtain ⟨rfl,y⟩:=y
   have:=y xs (.of e2)
   rw [hx] at this
   cases this
   refine ⟨Same.refl _,B,rx.keep f λb hb=>nW b (List.mem_cons_of_mem _ (sx.subset hb)),λb hb hw=>?_⟩
   have hb':b∈a::F:=List.mem_cons_of_mem _ (sx.subset hb)
   rcases f.new b hw with h | h
   ·exact nW b hb' h
   ·obtain ⟨ob,e3,_⟩:=rx.dom b hb
    rw [h] at e3;cases e3
 | kc c =>
  cases c with
  | tup ks =>
   obtain ⟨-,rp⟩:=p.rep.pure (by rw [D.pure])
   cases rp with
   | kc h =>
    obtain ⟨a,xs,rfl,hs,ar⟩:=h.sqT
    exact ⟨a,rfl,.inr ⟨⟨xs,hs H1⟩,k _ H1 W1 (ks.map kcD) ρ1 ⟨p.sr,p.fr,p.calm⟩ (Quw hs ar) q⟩⟩
  | _=>exact (show False from q).elim
 | _=>exact q.elim
def Qtv (w:WE):WL:=λρ Q=>w ρ λd ρ'=>match d with
 | .kls ds=>Q ds ρ'
 | _=>False
def rngD (lo:Int) (n:Nat):List D:=(List.range n).map λ(i:Nat)=>.int (lo+(i:Int))
theorem Qng {K:PySem.W.Frag} {H:Hp} {W:Addr->Prop} {lo:Int} {n:Nat}:JD K (Itr lo n) H W (rngD lo n):=by
 intro i H1 W1 f
 have hl:(rngD lo n).length=n:=by simp [rngD]
 refine ⟨λh=>by rw [hl] at h;exact h,λd hd=>?_⟩
 have hi:i<n:=by have:=(List.getElem?_eq_some_iff.mp hd).1;rwa [hl] at this
 have hd':d=.int (lo+(i:Int)):=by
  simp only [rngD,List.getElem?_map,List.getElem?_range hi,Option.map_some,Option.some.injEq] at hd
  exact hd.symm
 refine ⟨hi,λv H2 y=>?_⟩
 obtain ⟨rfl,rfl⟩:=y
 exact ⟨Same.refl _,[],by rw [hd'];exact .int _,λa m=>nomatch m⟩
def Qmi (wr:WA):WL:=λρ Q=>wr ρ λds ρ'=>match ds with
 | [.int j]=>-(2 ^ 62)<=j/\j<2 ^ 62/\Q (rngD 0 j.toNat) ρ'
 | _=>False
theorem Qeu (hm:X.mg "range" = none) (ha:AV X T m o [a] wr) (hg:Gl X "range":=by rfl) (hs:starEach [a] X.env=[(false,eval a X.env)]:=by rfl):IV X T m true tg (.Call (.Name "range" p) [a] [] pos) (Qmi wr):=by
 obtain ⟨ta,pa,ga⟩:=ha
 refine ⟨_,Qkc hg hm pa hs,λz R σ H W ρ Q RR s hw k=>?_⟩
 refine ga z R σ H W ρ _ _ s hw λvs H1 W1 ds ρ1 F p q=>?_
 obtain ⟨j,rfl⟩:∃j,ds=[D.int j]:=by
  clear p
  cases ds with
  | nil=>exact (show False from q).elim
  | cons d0 r0 =>
   cases r0 with
   | nil =>
    cases d0 with
    | int j=>exact ⟨j,rfl⟩
    | _=>exact (show False from q).elim
   | cons _ _=>cases d0 <;> exact (show False from q).elim
 obtain ⟨v,rfl,rd⟩:=p.rep.at1
 cases rd
 exact ⟨j,rfl,q.1,q.2.1,k _ H1 W1 _ ρ1 ⟨p.sr,p.fr,p.calm⟩ Qng q.2.2⟩
def Qtw (wr:WA):WL:=λρ Q=>wr ρ λds ρ'=>match ds with
 | [.int i,.int j]=>(-(2 ^ 62)<=i/\i<2 ^ 62 /\ -(2 ^ 62)<=j/\j<2 ^ 62)/\Q (rngD i (j-i).toNat) ρ'
 | _=>False
def Up:Nat->List D->List D
 | _,[]=>[]
 | n,d::r=>.tup [.int (n:Int),d]::Up (n+1) r
theorem Ug:∀{ds:List D} {n i:Nat},(Up n ds)[i]? = ds[i]?.map λd=>.tup [.int ((n+i:Nat):Int),d]
 | [],_,_=>by simp [Up]
 | d::r,n,0=>by simp [Up]
 | d::r,n,i+1=>by
  simp only [Up,List.getElem?_cons_succ]
  rw [Ug (ds:=r) (n:=n+1) (i:=i),show n+1+i=n+(i+1) by omega]
theorem Za:∀{ds:List D} {n:Nat},(Up n ds).length=ds.length
 | [],_=>rfl
 | d::r,n=>by simp [Up,Za]
def Qjq (wr:WA):WL:=λρ Q=>wr ρ λds ρ'=>match ds with
 | [.tup es]=>Qg es=true/\Q (Up 0 es) ρ'
 | _=>False
theorem Qgy {ts:List Expr} {kt:Nat} {pt:Pos} (hm:X.mg "enumerate" = none) (ha:AV X T m o [a] wr) (hg:Gl X "enumerate":=by rfl) (hs:starEach [a] X.env=[(false,eval a X.env)]:=by rfl):IV X T m true (.Tuple ts kt pt) (.Call (.Name "enumerate" p) [a] [] pos) (Qjq wr):=by
 obtain ⟨ta,pa,ga⟩:=ha
 refine ⟨_,Qp8 hg hm pa hs,λz R σ H W ρ Q RR s hw k=>?_⟩
 refine ga z R σ H W ρ _ _ s hw λvs H1 W1 ds ρ1 F p q=>?_
 obtain ⟨es,rfl⟩:∃es,ds=[D.tup es]:=by
  clear p
  cases ds with
  | nil=>exact (show False from q).elim
  | cons d0 r0 =>
   cases r0 with
   | nil =>
    cases d0 with
    | tup es=>exact ⟨es,rfl⟩
    | _=>exact (show False from q).elim
   | cons _ _=>cases d0 <;> exact (show False from q).elim
 obtain ⟨hp,q⟩:=q
 obtain ⟨v,rfl,rd⟩:=p.rep.at1
 obtain ⟨hF,rd⟩:=rd.pure (by simpa [D.pure] using hp)
 cases rd with
 | @tup a xs _ _ e1 r =>
  refine ⟨a,rfl,⟨xs,.of e1⟩,k _ H1 W1 _ ρ1 ⟨p.sr,p.fr,p.calm⟩ (λi H2 W2 f=>?_) q⟩
  have e2:H2 a=some (.tup xs):=f.imm _ _ e1 rfl
  refine ⟨λhi=>⟨xs,.of e2,by rw [r.length];rwa [Za] at hi⟩,λd hd=>?_⟩
  rw [Ug] at hd
  cases hd':es[i]? with
  | none=>rw [hd'] at hd;cases hd
  | some d' =>
   rw [hd'] at hd
   obtain ⟨x,B,hx,rx,sx⟩:=r.get hd'
   refine ⟨⟨xs,x,.of e2,hx⟩,λv H3 y=>?_⟩
   obtain ⟨x',t,h1,rfl,h3,rfl⟩:=y xs (.of e2)
   rw [hx] at h1
   cases h1
   have hB:B=[]:=List.sublist_nil.mp sx
   subst hB
   refine ⟨Qj h3,[],?_,λa m=>nomatch m⟩
   cases hd
   rw [Nat.zero_add]
   exact .tup Qh (.cons (F:=[]) (G:=[]) (.int _) (Reps.one ((rx.keep f λa m=>nomatch m).same (Qj h3))))
end
end PV
namespace PV
open PySem PySem.Spec L2
structure EndsP where
 nx:Env->Prop
 rt:D->Env->Prop
 bk:Env->Prop:=λ_=>False
 ct:Env->Prop:=λ_=>False
 xc:D->Env->Prop:=λ_ _=>False
abbrev WS:=EndsP->Env->Prop
structure Lk (K:PySem.W.Frag) (T:Tg) (z:Nat->V) (H:Hp) (W:Addr->Prop) (P:EndsP) (E:Ends):Prop where
 nx:∀R σ' H' W' ρ',SR K T z R H' W' σ' ρ'->FrW H W H' W'->P.nx ρ'->E.nx σ' H'
 bk:∀R σ' H' W' ρ',SR K T z R H' W' σ' ρ'->FrW H W H' W'->P.bk ρ'->E.bk σ' H'
 ct:∀R σ' H' W' ρ',SR K T z R H' W' σ' ρ'->FrW H W H' W'->P.ct ρ'->E.ct σ' H'
 rt:∀R v σ' H' W' ρ' d F,SR K T z R H' W' σ' ρ'->FrW H W H' W'->Rep K H' d v F->F.Nodup->(∀a∈F,¬W' a/\(W a\/H a=none))->P.rt d ρ'->E.rt v H'
 xc:∀R σ' H' W' ρ' d,SR K T z R H' W' σ' ρ'->FrW H W H' W'->P.xc d ρ'->T.xe d σ' H'
theorem Lk.step {K:PySem.W.Frag} {T:Tg} {z:Nat->V} {H H1:Hp} {W W1:Addr->Prop} {P:EndsP} {E:Ends} (l:Lk K T z H W P E) (f:FrW H W H1 W1):Lk K T z H1 W1 P E where
 nx:=λR σ' H' W' ρ' s g q=>l.nx R σ' H' W' ρ' s (f.trans g) q
 bk:=λR σ' H' W' ρ' s g q=>l.bk R σ' H' W' ρ' s (f.trans g) q
 ct:=λR σ' H' W' ρ' s g q=>l.ct R σ' H' W' ρ' s (f.trans g) q
 rt:=λR v σ' H' W' ρ' d F s g r nd k q=>l.rt R v σ' H' W' ρ' d F s (f.trans g) r nd (λa ha=>⟨(k a ha).1,by
  rcases (k a ha).2 with h | h
  ·exact f.new a h
  ·exact .inr (f.dom a h)⟩) q
 xc:=λR σ' H' W' ρ' d s g q=>l.xc R σ' H' W' ρ' d s (f.trans g) q
def SV (X:Cx) (T:Tg) (st:Stmt) (w:WS):Prop :=
 ∃ts,PS X st ts/\∀(z:Nat->V) (R:Addr->Prop) (σ:St) (H:Hp) (W:Addr->Prop) (ρ:Env) (P:EndsP) (E:Ends),SR X.K T z R H W σ ρ->w P ρ->Lk X.K T z H W P E->ts E σ H
def SVs (X:Cx) (T:Tg) (st:List Stmt) (w:WS):Prop :=
 ∃ts,PSs X st ts/\∀(z:Nat->V) (R:Addr->Prop) (σ:St) (H:Hp) (W:Addr->Prop) (ρ:Env) (P:EndsP) (E:Ends),SR X.K T z R H W σ ρ->w P ρ->Lk X.K T z H W P E->ts E σ H
section
variable {X:Cx} {T:Tg} {m o m0 m1 m2 m3 o1 o2:Bool} {e a b:Expr} {w wa wb:WE} {pos p2 p:Pos} {es:List Expr} {wr:WA} {x:Str} {st:Stmt} {rest:List Stmt} {ws wu:WS} {wt:WT}
def Jn:WS:=λP ρ=>P.nx ρ
def wSeq (w u:WS):WS:=λP ρ=>w { P with nx:=u P } ρ
theorem Jw:SVs X T [] Jn:=⟨_,Qpy,λz R σ H W ρ P E s hw l=>l.nx R σ H W ρ s (FrW.refl H W) hw⟩
theorem Qo (h:SV X T st ws):SVs X T [st] ws:=by
 obtain ⟨t,pt,g⟩:=h
 exact ⟨_,Qj5 pt,g⟩
theorem Qi (h:SV X T st ws) (hr:SVs X T rest wu):SVs X T (st::rest) (wSeq ws wu):=by
 obtain ⟨t,pt,g⟩:=h
 obtain ⟨u,pu,gu⟩:=hr
 refine ⟨_,Qdl pt pu,λz R σ H W ρ P E s hw l=>g z R σ H W ρ _ _ s hw ⟨λR' σ' H' W' ρ' s' f q=>gu z R' σ' H' W' ρ' P E s' q (l.step f),l.bk,l.ct,l.rt,l.xc⟩⟩
def U3 (w:WE):WS:=λP ρ=>w ρ λ_ ρ'=>P.nx ρ'
theorem Qpj (he:EV X T m o e w) (hs:swapsWith e none pos.line X.env=pure false:=by rfl):SV X T (.Expr e pos) (U3 w):=by
 obtain ⟨te,pe,ge⟩:=he
 exact ⟨_,Qj8 pe hs,λz R σ H W ρ P E s hw l=>ge z R σ H W ρ _ _ s hw λv H1 W1 d ρ1 F p q=>l.nx R σ H1 W1 ρ1 p.sr p.fr q⟩
def wRet (w:WE):WS:=λP ρ=>w ρ λd ρ'=>P.rt d ρ'
theorem Jk (he:EV X T m true e w):SV X T (.Return (some e) pos) (wRet w):=by
 obtain ⟨te,pe,ge⟩:=he
 exact ⟨_,Qol pe,λz R σ H W ρ P E s hw l=>ge z R σ H W ρ _ _ s hw λv H1 W1 d ρ1 F p q=>l.rt R v σ H1 W1 ρ1 d F p.sr p.fr p.rep (p.own rfl).1 (λa ha=>⟨((p.own rfl).2 a ha).2,.inr ((p.own rfl).2 a ha).1⟩) q⟩
theorem Qt8:SV X T (.Return none pos) (λP ρ=>P.rt .non ρ) :=
 ⟨_,Qp1,λz R σ H W ρ P E s hw l=>l.rt R .non σ H W ρ .non [] s (FrW.refl H W) .non List.nodup_nil (λa m=>nomatch m) hw⟩
def Qcb (i:Nat):WS:=λP ρ=>oget (look ρ i) λd=>P.rt d (ρ.set i none)
theorem Qph {i:Nat} (ht:T.own i=true:=by rfl) (hN:X.N[i]? = some x:=by rfl) (hv:Vis X.env.scope x:=by first | exact Or.inl rfl | exact Or.inr (Or.inl rfl) | exact Or.inr (Or.inr rfl)) (hd:(x == ("__debug__" : Str))=false:=by decide)
  (hcd:(x == ("__classdict__" : Str))=false:=by decide):SV X T (.Return (some (.Name x p)) pos) (Qcb i):=by
 refine ⟨_,Qol (Ua hN hv hd hcd),λz R σ H W ρ P E s hw l=>?_⟩
 obtain ⟨d,hl,q⟩:=Qq hw
 obtain ⟨fp,s0⟩:=s
 obtain ⟨v,h1,h2⟩:=s0.at_ i d hl
 have key:∀j e,look (ρ.set i none) j=some e->j≠i/\look ρ j=some e:=λj e h=>by
  rw [Uj] at h
  split at h
  ·cases h
  ·refine ⟨λz=>?_,h⟩
   subst z
   rename_i hn
   exact hn ⟨rfl,Xw hl⟩
 refine ⟨v,h1,l.rt R v σ H (λa=>W a/\a∉fp i) (ρ.set i none) d (fp i) ⟨fp,?_⟩ ?_ h2 (s0.own i d hl ht).1 (λa ha=>⟨λh=>h.2 ha,.inl ((s0.own i d hl ht).2 a ha)⟩) q⟩
 ·refine ⟨by rw [List.length_set];exact s0.len,λa h=>s0.wd a h.1,λj e h=>s0.at_ j e (key j e h).2,λj e h t=>⟨(s0.own j e (key j e h).2 t).1,λa ha=>⟨(s0.own j e (key j e h).2 t).2 a ha,λha'=>s0.dis j i e d (key j e h).2 hl t ht (key j e h).1 a ha ha'⟩⟩,
   λj e h t=>s0.ro j e (key j e h).2 t,λa h=>s0.wr a h.1,s0.rd,λj k e e' h h' t t'=>s0.dis j k e e' (key j e h).2 (key k e' h').2 t t',s0.fix⟩
 ·exact ⟨λb ob e _=>e,λb e=>e,λb ob e _=>e,λb h=>.inl h.1⟩
theorem SR0.bindE {K:PySem.W.Frag} {z:Nat->V} {R:Addr->Prop} {H:Hp} {W:Addr->Prop} {σ:St} {ρ:Env} {fp:Nat->List Addr} {i:Nat} {d:D} {v:V} {F:List Addr} (s:SR0 K T z R H W σ ρ fp) (hio:i∉T.io) (r:Rep K H d v F) (nd:F.Nodup) (nw:∀a∈F,¬W a/\¬R a) :
  SR K T z (λa=>R a\/(T.own i=false/\a∈F)) H (λa=>W a\/(T.own i=true/\a∈F)) (σ.set i (some v)) (ρ.set i (some d)):=by
 refine ⟨λj=>if j=i then F else fp j,?_,?_,?_,?_,?_,?_,?_,?_,?_⟩
 ·rw [List.length_set,List.length_set];exact s.len
 ·intro a ha
  rcases ha with ha | ⟨_,ha⟩
  ·exact s.wd a ha
  ·exact r.dom a ha
 ·intro j e hj
  rw [Uj] at hj
  split at hj
  ·rename_i h
   obtain ⟨rfl,hlt⟩:=h
   cases hj
   exact ⟨v,by rw [List.getElem?_set_self (by rw [← s.len];exact hlt)],by rw [if_pos rfl];exact r⟩
  ·rename_i h
   obtain ⟨u,h1,h2⟩:=s.at_ j e hj
   have hji:j≠i:=λz=>h ⟨z,by rw [← z];exact Xw hj⟩
   exact ⟨u,by rw [List.getElem?_set_ne (Ne.symm hji)];exact h1,by rw [if_neg hji];exact h2⟩
 ·intro j e hj hto
  by_cases hji:j=i
  ·subst hji;simp only [if_pos];exact ⟨nd,λa h=>.inr ⟨hto,h⟩⟩
  ·rw [Qu hji] at hj
   simp only [if_neg hji]
   exact ⟨(s.own j e hj hto).1,λa h=>.inl ((s.own j e hj hto).2 a h)⟩
 ·intro j e hj hto
  by_cases hji:j=i
  ·subst hji;simp only [if_pos];exact λa h=>.inr ⟨hto,h⟩
  ·rw [Qu hji] at hj
   simp only [if_neg hji]
   exact λa h=>.inl (s.ro j e hj hto a h)
 ·intro a ha hr
  rcases ha with ha | ⟨t,ha⟩
  ·rcases hr with hr | ⟨_,hr⟩
   ·exact s.wr a ha hr
   ·exact (nw a hr).1 ha
  ·rcases hr with hr | ⟨t',hr⟩
   ·exact (nw a ha).2 hr
   ·rw [t] at t';cases t'
 ·intro a hr
  rcases hr with hr | ⟨_,hr⟩
  ·exact s.rd a hr
  ·exact r.dom a hr
 ·intro j k e e' hj hk tj tk hne a ha ha'
  by_cases hji:j=i
  ·subst hji
   have hkj:k≠j:=λz=>hne z.symm
   rw [Qu hkj] at hk
   simp only [if_pos,if_neg hkj] at ha ha'
   exact (nw a ha).1 ((s.own k e' hk tk).2 a ha')
  ·rw [Qu hji] at hj
   simp only [if_neg hji] at ha
   by_cases hki:k=i
   ·subst hki
    simp only [if_pos] at ha'
    exact (nw a ha').1 ((s.own j e hj tj).2 a ha)
   ·rw [Qu hki] at hk
    simp only [if_neg hki] at ha'
    exact s.dis j k e e' hj hk tj tk hne a ha ha'
 ·intro j hj
  have hji:j≠i:=λz=>hio (z ▸ hj)
  rw [List.getElem?_set_ne (Ne.symm hji)]
  exact s.fix j hj
theorem SR0.bind {K:PySem.W.Frag} {z:Nat->V} {R:Addr->Prop} {H:Hp} {W:Addr->Prop} {σ:St} {ρ:Env} {fp:Nat->List Addr} {i:Nat} {d:D} {v:V} {F:List Addr} (s:SR0 K T z R H W σ ρ fp) (hio:i∉T.io) (r:Rep K H d v F) (nd:F.Nodup) (nw:∀a∈F,¬W a/\¬R a) :
  ∃R',SR K T z R' H (λa=>W a\/(T.own i=true/\a∈F)) (σ.set i (some v)) (ρ.set i (some d)):=⟨_,s.bindE hio r nd nw⟩
def wSet (i:Nat) (w:WE):WS:=λP ρ=>w ρ λd ρ'=>P.nx (ρ'.set i (some d))
theorem Xj {H H':Hp} {W W':Addr->Prop} {G:Addr->Prop} (f:FrW H W H' W') (n:∀a,G a->H a=none):FrW H W H' (λa=>W' a\/G a) :=
 ⟨f.keep,f.dom,f.imm,λb h=>h.elim (f.new b) λh=>.inr (n b h)⟩
theorem Jp {i:Nat} {pos':Pos} (he:EV X T m true e w) (hN:X.N.Nodup) (hi:X.N[i]? = some x:=by rfl) (hio:i∉T.io:=by decide) (hx:Loc X.env.scope x:=by first | exact Or.inl rfl | exact Or.inr rfl) (hs:swapsWith e (some (.Name x pos')) pos.line X.env=pure false:=by rfl)
  (hf:X.fn x=true\/X.env.scope.names.lookup x=some .local:=by first | exact .inl rfl | exact .inr rfl | assumption):SV X T (.Assign [.Name x pos'] e pos) (wSet i w):=by
 obtain ⟨te,pe,ge⟩:=he
 refine ⟨_,Qok hN hi hx pe hs hf,λz R σ H W ρ P E s hw l=>ge z R σ H W ρ _ _ s hw λv H1 W1 d ρ1 F p q=>?_⟩
 obtain ⟨fp,s1⟩:=p.sr
 obtain ⟨nd,nw⟩:=p.own rfl
 obtain ⟨R',s2⟩:=s1.bind (i:=i) hio p.rep nd (λa ha=>⟨(nw a ha).2,s.nr (nw a ha).1⟩)
 exact l.nx R' _ H1 _ _ s2 (Xj p.fr λa h=>(nw a h.2).1) q
theorem Qjy {i:Nat} {pos':Pos} (he:∃te,PS X (.Assign [.Name x pos'] e pos) (tAsg te (Qdu i))/\∀(z:Nat->V) (R:Addr->Prop) (σ:St) (H:Hp) (W:Addr->Prop) (ρ:Env) (Q:D->Env->Prop) (Q':VK),SR X.K T z R H W σ ρ->w ρ Q ->
  (∀v H' W' d ρ' F,Post X.K T z R m true H W σ ρ H' W' ρ' d v F->Q d ρ'->Q' v H')->te σ H Q') (hio:i∉T.io:=by decide):SV X T (.Assign [.Name x pos'] e pos) (wSet i w):=by
 obtain ⟨te,pe,ge⟩:=he
 refine ⟨_,pe,λz R σ H W ρ P E s hw l=>ge z R σ H W ρ _ _ s hw λv H1 W1 d ρ1 F p q=>?_⟩
 obtain ⟨fp,s1⟩:=p.sr
 obtain ⟨nd,nw⟩:=p.own rfl
 obtain ⟨R',s2⟩:=s1.bind (i:=i) hio p.rep nd (λa ha=>⟨(nw a ha).2,s.nr (nw a ha).1⟩)
 exact l.nx R' _ H1 _ _ s2 (Xj p.fr λa h=>(nw a h.2).1) q
abbrev WG:=D->Env->(Env->Prop)->Prop
def GV (X:Cx) (T:Tg) (tg:Expr) (wg:WG):Prop :=
 ∃t,PG X tg t/\∀(z:Nat->V) (R:Addr->Prop) (σ:St) (H:Hp) (W:Addr->Prop) (ρ:Env) (d:D) (v:V) (Q:Env->Prop) (Q':St->Hp->Prop),SR X.K T z R H W σ ρ->Rep X.K H d v []->d.pure=true->wg d ρ Q ->
  (∀R' W' σ' ρ',SR X.K T z R' H W' σ' ρ'->FrW H W H W'->Q ρ'->Q' σ' H)->t v σ H Q'
def GVs (X:Cx) (T:Tg) (tgs:List Expr) (wg:List D->Env->(Env->Prop)->Prop):Prop :=
 ∃t,PGs X tgs t/\∀(z:Nat->V) (R:Addr->Prop) (σ:St) (H:Hp) (W:Addr->Prop) (ρ:Env) (ds:List D) (vs:List V) (Q:Env->Prop) (Q':St->Hp->Prop),SR X.K T z R H W σ ρ->Reps X.K H ds vs []->Qg ds=true->wg ds ρ Q ->
  (∀R' W' σ' ρ',SR X.K T z R' H W' σ' ρ'->FrW H W H W'->Q ρ'->Q' σ' H)->t vs σ H Q'
def gN (i:Nat):WG:=λd ρ Q=>Q (ρ.set i (some d))
theorem Yl {i:Nat} (hN:X.N.Nodup) (hi:X.N[i]? = some x:=by rfl) (hio:i∉T.io:=by decide) (hx:Loc X.env.scope x:=by first | exact Or.inl rfl | exact Or.inr rfl) (hf:X.fn x=true\/X.env.scope.names.lookup x=some .local:=by first | exact .inl rfl | exact .inr rfl | assumption):GV X T (.Name x pos) (gN i):=by
 refine ⟨_,Qgi hN hi hx hf,λz R σ H W ρ d v Q Q' s r hp hw k=>?_⟩
 obtain ⟨fp,s1⟩:=s
 obtain ⟨R',s2⟩:=s1.bind (i:=i) hio r List.nodup_nil (λa ha=>nomatch ha)
 exact k R' _ _ _ s2 (Xj (FrW.refl H W) λa h=>nomatch h.2) hw
def Xi:List D->Env->(Env->Prop)->Prop
 | [],ρ,Q=>Q ρ
 | _,_,_=>False
def Yy (wg:WG) (wgs:List D->Env->(Env->Prop)->Prop):List D->Env->(Env->Prop)->Prop
 | d::r,ρ,Q=>wg d ρ λρ'=>wgs r ρ' Q
 | _,_,_=>False
theorem Reps.inv {K:PySem.W.Frag} {H:Hp} {d:D} {ds:List D} {vs:List V} {F:List Addr} (r:Reps K H (d::ds) vs F):∃v us F1 F2,vs=v::us/\Rep K H d v F1/\Reps K H ds us F2:=by
 cases r with
 | cons h r=>exact ⟨_,_,_,_,rfl,h,r⟩
theorem Qb3:GVs X T [] Xi:=by
 refine ⟨_,Qkd,λz R σ H W ρ ds vs Q Q' s r hp hw k=>?_⟩
 cases ds with
 | nil=>cases r;exact ⟨rfl,k R W σ ρ s (FrW.refl H W) hw⟩
 | cons=>exact hw.elim
theorem Y6 {wg:WG} {wgs:List D->Env->(Env->Prop)->Prop} (h:GV X T e wg) (hr:GVs X T es wgs) (hs:(assignEach (e::es) X.env).map (·.2)=assign e X.env::(assignEach es X.env).map (·.2):=by rfl):GVs X T (e::es) (Yy wg wgs):=by
 obtain ⟨t,pt,g⟩:=h
 obtain ⟨u,pu,gu⟩:=hr
 refine ⟨_,Qdm pt pu hs,λz R σ H W ρ ds vs Q Q' s r hp hw k=>?_⟩
 cases ds with
 | nil=>exact hw.elim
 | cons d ds =>
  obtain ⟨v,vs,F,G,rfl,r1,r2⟩:=r.inv
  simp only [Qg,Bool.and_eq_true] at hp
  obtain ⟨e1,r1⟩:=r1.pure hp.1
  obtain ⟨e2,r2⟩:=r2.pure hp.2
  refine ⟨v,vs,rfl,g z R σ H W ρ d v _ _ s r1 hp.1 hw λR' W' σ' ρ' s' f q=>?_⟩
  exact gu z R' σ' H W' ρ' ds vs Q Q' s' r2 hp.2 q λR2 W2 σ2 ρ2 s2 f2 q2=>k R2 W2 σ2 ρ2 s2 (f.trans f2) q2
def Gr (n:Nat) (wgs:List D->Env->(Env->Prop)->Prop):WG:=λd ρ Q=>match d with
 | .tup ds=>ds.length=n/\wgs ds ρ Q
 | _=>False
theorem Qh2 {kt:Nat} {n:Nat} {wgs:List D->Env->(Env->Prop)->Prop} (h:GVs X T es wgs) (hc:X.calm=true:=by rfl) (hn:(assignEach es X.env).length=n:=by rfl) (hst:(assignEach es X.env).findIdx? (·.1)=none:=by rfl):GV X T (.Tuple es kt pos) (Gr n wgs):=by
 obtain ⟨t,pt,g⟩:=h
 refine ⟨_,Qon hc pt hn hst,λz R σ H W ρ d v Q Q' s r hp hw k=>?_⟩
 cases d with
 | tup ds =>
  cases r with
  | @tup a xs _ _ e1 r=>exact ⟨a,xs,rfl,.of e1,by rw [r.length];exact hw.1,g z R σ H W ρ ds xs Q Q' s r (by simpa [D.pure] using hp) hw.2 k⟩
 | _=>exact hw.elim
def wAsg (w:WE) (wg:WG):WS:=λP ρ=>w ρ λd ρ'=>d.pure=true/\wg d ρ' P.nx
theorem Qrt {tg:Expr} {wg:WG} (he:EV X T m o e w) (hg:GV X T tg wg) (hs:swapsWithSole [tg] e pos.line X.env=pure false:=by rfl) (hw:swappedStores [tg] e X.env=pure none:=by rfl)
  (h1:(assignEach [tg] X.env).map (·.2)=[assign tg X.env]:=by rfl):SV X T (.Assign [tg] e pos) (wAsg w wg):=by
 obtain ⟨te,pe,ge⟩:=he
 obtain ⟨t,pt,g⟩:=hg
 refine ⟨_,Qom pe pt hs hw h1,λz R σ H W ρ P E s hw l=>ge z R σ H W ρ _ _ s hw λv H1 W1 d ρ1 F p ⟨hp,q⟩=>?_⟩
 obtain ⟨_,r⟩:=p.rep.pure hp
 exact g z R σ H1 W1 ρ1 d v _ _ p.sr r hp q λR' W' σ' ρ' s' f q'=>l.nx R' σ' H1 W' ρ' s' (p.fr.trans f) q'
def dSet (s c d:D) (k:D->Prop):Prop:=match s with
 | .lst xs=>onI c λj=>oget (ixN xs.length j) λn=>k (.lst (xs.set n d))
 | .dik kvs=>onK c λkey=>kvs.length<sizeLine/\k (.dik (putD kvs key d))
 | .dit kvs=>onT c λl=>kvs.length<sizeLine/\oget (Yh l) λks=>k (.dit (putD kvs ks d))
 | _=>False
theorem Qmq (hu:X.A.units+1<cLine):PSet X (λo i v H Q=>∃a H',o=.ref a/\DPut H a i v H'/\Q H'):=by
 intro pins s σ H o i v ov iv u Q I ro ri rv h
 obtain ⟨a,H',rfl,g,q⟩:=h
 cases ro
 exact Qlp hu I g ri rv λs' I'=>⟨H',I',q⟩
theorem PSet.or {t u:TSet} (h:PSet X t) (h':PSet X u):PSet X (λo i v H Q=>t o i v H Q\/u o i v H Q):=by
 intro pins s σ H o i v ov iv u Q I ro ri rv q
 rcases q with q | q
 ·exact h pins s σ H o i v ov iv u Q I ro ri rv q
 ·exact h' pins s σ H o i v ov iv u Q I ro ri rv q
def Y0 (i:Nat) (wv wi:WE):WS:=λP ρ=>wv ρ λd ρ1=>d.pure=true/\(look ρ1 i).isSome=true/\wi ρ1 λc ρ2=>oget (look ρ2 i) λs=>dSet s c d λs'=>P.nx (ρ2.set i (some s'))
theorem Ui {i:Nat} {v ix:Expr} {wv wi:WE} {px ps':Pos} (hu:X.A.units+1<cLine) (hv:EV X T m1 o1 v wv) (hi:EV X T m2 o2 ix wi) (ht:T.own i=true:=by rfl) (hN:X.N[i]? = some x:=by rfl)
  (hvis:Vis X.env.scope x:=by first | exact Or.inl rfl | exact Or.inr (Or.inl rfl) | exact Or.inr (Or.inr rfl)) (hd:(x == ("__debug__" : Str))=false:=by decide) (hcd:(x == ("__classdict__" : Str))=false:=by decide)
  (ha:∀v,assign (.Subscript (.Name x px) ix ps') X.env v=(do
   let ov ← holding [v] (eval (.Name x px) X.env)
   let iv ← holding [v,ov] (eval ix X.env)
   standAt ps'
   holding [v,ov,iv] (setItem ov iv v)
   release [v,ov,iv] []):=by intro _;rfl) (hs:swapsWithSole [.Subscript (.Name x px) ix ps'] v pos.line X.env=pure false:=by rfl) (hw:swappedStores [.Subscript (.Name x px) ix ps'] v X.env=pure none:=by rfl)
  (h1:(assignEach [.Subscript (.Name x px) ix ps'] X.env).map (·.2)=[assign (.Subscript (.Name x px) ix ps') X.env]:=by rfl):SV X T (.Assign [.Subscript (.Name x px) ix ps'] v pos) (Y0 i wv wi):=by
 obtain ⟨tv,pv,gv⟩:=hv
 obtain ⟨ti,pi,gi⟩:=hi
 refine ⟨_,Qom pv (Qr9 (Ua hN hvis hd hcd) pi (PSet.or Qmp (Qmq hu)) ha) hs hw h1,λz R σ H W ρ P E s hw l=>?_⟩
 refine gv z R σ H W ρ _ _ s hw λv1 H1 W1 d ρ1 F1 p ⟨hp,hso,q⟩=>?_
 obtain ⟨-,rv⟩:=p.rep.pure hp
 obtain ⟨d0,hl0⟩:=Option.isSome_iff_exists.mp hso
 obtain ⟨fp0,s0⟩:=id p.sr
 obtain ⟨u,hu',_⟩:=s0.at_ i d0 hl0
 refine ⟨u,hu',gi z R σ H1 W1 ρ1 _ _ p.sr q λv2 H2 W2 c ρ2 F2 p2 q2=>?_⟩
 obtain ⟨d1,hl,q2⟩:=Qq q2
 obtain ⟨fp,s2⟩:=id p2.sr
 obtain ⟨u',hu2,ru⟩:=s2.at_ i d1 hl
 have:u'=u:=by rw [hu'] at hu2;cases hu2;rfl
 subst this
 have rv2:Rep X.K H2 d v1 []:=rv.keep p2.fr λa m=>nomatch m
 obtain ⟨nd,sw⟩:=s2.own i d1 hl ht
 have fin:∀(lad:Addr) (ob:HO) (d':D) (F':List Addr),lad∈fp i->imm ob=false->Rep X.K (upd H2 lad ob) d' u' F'->F'.Nodup->(∀a∈F',a∈fp i)->P.nx (ρ2.set i (some d'))->E.nx σ (upd H2 lad ob):=λlad ob d' F' hm him r' nd' sub hq=>by
  have hW:=sw lad hm
  exact l.nx R σ _ _ _ (s2.write hl ht hu2 hm Zv ⟨ob,Qh,him⟩ r' nd' λa ha=>.inl (sub a ha)) ((p.fr.trans p2.fr).write hW (s2.wd lad hW) Zv ⟨ob,Qh,him⟩ λa ha=>.inl (sw a (sub a ha))) hq
 have nilnot:∀a:Addr,a∉([]:List Addr):=λa h=>nomatch h
 generalize hF:fp i=F at *
 cases d1 with
 | lst ds =>
  obtain ⟨j,rfl,q2⟩:=Qbv q2
  obtain ⟨a,xs,G,rfl,rfl,e,r⟩:=ru.iLst
  obtain ⟨n,hn,hq⟩:=Qq q2
  have rc:=p2.rep.iInt
  subst rc
  have hlt:=(Qdt hn).2.1
  obtain ⟨dn,hdn⟩:∃dn,ds[n]? = some dn:=⟨ds[n],List.getElem?_eq_getElem hlt⟩
  obtain ⟨y,A,B,C,hy,hG,rB,rA,rC⟩:=r.split hdn
  obtain ⟨na,ndG⟩:=List.nodup_cons.mp nd
  have sub:=sub3 hG
  have nAC:a∉A++C:=λh=>na (sub.subset h)
  have hxl:n<xs.length:=by rw [r.length];exact hlt
  refine .inl ⟨a,xs,j,n,rfl,rfl,e,by rw [r.length];exact hn,?_⟩
  refine fin a _ _ (a::(A++C)) List.mem_cons_self rfl (.lst Qh ?_) (List.nodup_cons.mpr ⟨nAC,ndG.sublist sub⟩) (λb hb=>?_) hq
  ·rw [G1 hlt,G1 hxl]
   have:=(rA.upd (ob':=.lst (xs.take n++v1::xs.drop (n+1))) e rfl (λh=>nAC (List.mem_append.mpr (.inl h)))).append (.cons (rv2.upd e rfl (nilnot a)) (rC.upd e rfl λh=>nAC (List.mem_append.mpr (.inr h))))
   simpa using this
  ·rcases List.mem_cons.mp hb with rfl | hb
   ·exact List.mem_cons_self
   ·exact List.mem_cons_of_mem _ (sub.subset hb)
 | dik ds =>
  obtain ⟨key,⟨hz,hq⟩,hy⟩:=Qgk (show onK c (λkey=>ds.length<sizeLine/\P.nx (ρ2.set i (some (.dik (putD ds key d))))) from q2)
  obtain ⟨a,kvs,G,rfl,rfl,e,r⟩:=ru.iDik
  obtain rfl:=hy p2.rep
  obtain ⟨na,ndG⟩:=List.nodup_cons.mp nd
  obtain ⟨G',rp,sub⟩:=(r.upd (ob':=.dK (putK kvs key v1)) e rfl na).put (k:=key) (rv2.upd e rfl (nilnot a))
  refine .inr ⟨a,_,rfl,DPut.k (k:=key) e (by rw [r.length];exact hz),?_⟩
  refine fin a _ _ (a::G') List.mem_cons_self rfl (.dik Qh rp) (List.nodup_cons.mpr ⟨λh=>na (sub.subset h),ndG.sublist sub⟩) (λb hb=>?_) hq
  rcases List.mem_cons.mp hb with rfl | hb
  ·exact List.mem_cons_self
  ·exact List.mem_cons_of_mem _ (sub.subset hb)
 | dit ds =>
  obtain ⟨l',rfl,hz,q2⟩:=Qkh q2
  obtain ⟨a,kvs,G,rfl,rfl,e,r⟩:=ru.iDit
  obtain ⟨na,ndG⟩:=List.nodup_cons.mp nd
  obtain ⟨ks,hk,hq⟩:=Qq q2
  obtain ⟨b,ys,rfl,e2,r2⟩:=p2.rep.iTup
  have hx:=r2.keys hk
  subst hx
  obtain ⟨G',rp,sub⟩:=(r.upd (ob':=.dT (putK kvs ks v1)) e rfl na).put (k:=ks) (rv2.upd e rfl (nilnot a))
  refine .inr ⟨a,_,rfl,DPut.t (k:=ks) e e2 (by rw [r.length];exact hz),?_⟩
  refine fin a _ _ (a::G') List.mem_cons_self rfl (.dit Qh rp) (List.nodup_cons.mpr ⟨λh=>na (sub.subset h),ndG.sublist sub⟩) (λb hb=>?_) hq
  rcases List.mem_cons.mp hb with rfl | hb
  ·exact List.mem_cons_self
  ·exact List.mem_cons_of_mem _ (sub.subset hb)
 | _=>exact (show False from q2).elim
def wIf (wt:WT) (w u:WS):WS:=λP ρ=>wt ρ λb ρ'=>if b=true then w P ρ' else u P ρ'
theorem Vf {c:Expr} {sa sb:List Stmt} (hc:TV X T m c wt) (ha:SVs X T sa ws) (hb:SVs X T sb wu):SV X T (.If c sa sb pos) (wIf wt ws wu):=by
 obtain ⟨tc,pc,gc⟩:=hc
 obtain ⟨ta,pa,ga⟩:=ha
 obtain ⟨tb,pb,gb⟩:=hb
 refine ⟨_,Quj pc pa pb,λz R σ H W ρ P E s hw l=>gc z R σ H W ρ _ _ s hw λb H1 W1 ρ1 p q=>?_⟩
 cases b with
 | true=>exact ga z R σ H1 W1 ρ1 P E p.sr q (l.step p.fr)
 | false=>exact gb z R σ H1 W1 ρ1 P E p.sr q (l.step p.fr)
def wFor (wl:WL) (wg:WG) (wb:WS):WS:=λP ρ=>wl ρ λds ρ1=>Qg ds=true/\∃I:Nat->Env->Prop,I 0 ρ1 /\
 (∀i d ρ,ds[i]? = some d->I i ρ->wg d ρ λρ'=>wb { P with nx:=I (i+1),ct:=I (i+1),bk:=P.nx } ρ')/\∀ρ,I ds.length ρ->P.nx ρ
theorem Qfg (W:Addr->Prop):wz true W=W:=by funext a;simp [wz]
theorem X2 {tg iter:Expr} {body:List Stmt} {wl:WL} {wg:WG} (hp:PassesOwn (model X.prog X.w) X.A X.env X.xe) (hi:IV X T m true tg iter wl) (hg:GV X T tg wg) (hb:SVs X T body ws) (hc:X.calm=true:=by rfl)
  (hs:∀x,foldedSetIterable iter X.env x=pure x:=by intro _;rfl):SV X T (.For tg iter body [] pos) (wFor wl wg ws):=by
 obtain ⟨ti,pi,gi⟩:=hi
 obtain ⟨tt,pt,gt⟩:=hg
 obtain ⟨tb,pb,gb⟩:=hb
 refine ⟨_,Qr6 hp hc pi pt pb hs,λz R σ H W ρ P E s hw l=>gi z R σ H W ρ _ _ s hw λJ H1 W1 ds ρ1 p jd q=>?_⟩
 rw [Qfg] at jd
 obtain ⟨hpu,I,h0,hI,hd⟩:=q
 refine ⟨λi n σ' H'=>n=ds.length-i/\i<=ds.length/\∃R' W' ρ',SR X.K T z R' H' W' σ' ρ'/\FrW H1 W1 H' W'/\I i ρ',⟨ds.length,by simp,Nat.zero_le _,R,W1,ρ1,p.sr,FrW.refl _ _,h0⟩,?_⟩
 rintro i n σ2 H2 ⟨rfl,hi,R2,W2,ρ2,s2,f2,i2⟩
 obtain ⟨j1,j2⟩:=jd i H2 W2 f2
 by_cases hlt:i<ds.length
 ·have hdi:ds[i]? = some ds[i]:=List.getElem?_eq_getElem hlt
  obtain ⟨hgo,hy⟩:=j2 _ hdi
  have hpd:(ds[i]).pure=true:=Q5.mp hpu _ (List.getElem_mem hlt)
  refine .inr ⟨hgo,λσ' H'=>i+1<=ds.length/\∃R' W' ρ',SR X.K T z R' H' W' σ' ρ'/\FrW H1 W1 H' W'/\I (i+1) ρ',λσ' H' ⟨h1,h2⟩=>⟨ds.length-(i+1),by omega,rfl,h1,h2⟩,λv H3 yl=>?_⟩
  obtain ⟨sm,F,rv,_⟩:=hy v H3 yl
  obtain ⟨-,rv⟩:=rv.pure hpd
  have f3:FrW H1 W1 H3 W2:=f2.trans (FrW.same W2 sm)
  refine gt z R2 σ2 H3 W2 ρ2 _ v _ _ (s2.same sm) rv hpd (hI i _ ρ2 hdi i2) λR4 W4 σ4 ρ4 s4 f4 q4=>?_
  refine gb z R4 σ4 H3 W4 ρ4 _ _ s4 q4 ⟨?_,?_,?_,?_,?_⟩
  ·exact λR' σ' H' W' ρ' s' f' h=>⟨hlt,R',W',ρ',s',(f3.trans f4).trans f',h⟩
  ·exact λR' σ' H' W' ρ' s' f' h=>l.nx R' σ' H' W' ρ' s' (((p.fr.trans f3).trans f4).trans f') h
  ·exact λR' σ' H' W' ρ' s' f' h=>⟨hlt,R',W',ρ',s',(f3.trans f4).trans f',h⟩
  ·exact (((l.step p.fr).step f3).step f4).rt
  ·exact (((l.step p.fr).step f3).step f4).xc
 ·have e:i=ds.length:=by omega
  subst e
  exact .inl ⟨j1 (Nat.le_refl _),l.nx R2 σ2 H2 W2 ρ2 s2 (p.fr.trans f2) (hd ρ2 i2)⟩
end
end PV
namespace PV
open PySem PySem.Spec L2
open PyProof.Rows (envOfC)
def TR:Tg:={ own:=λ_=>false,io:=[] }
def Any (H:Hp):Addr->Prop:=λa=>∃ob,H a=some ob/\imm ob=false
theorem SR.readonly {K:PySem.W.Frag} {T:Tg} {z:Nat->V} {H:Hp} {σ:St} {ρ:Env} (hio:T.io=[]) (hlen:ρ.length=σ.length) (h:∀i d,look ρ i=some d->T.own i=false/\∃v F,σ[i]? = some (some v)/\Rep K H d v F) :
  SR K T z (Any H) H (λ_=>False) σ ρ:=by
 have ch:∀i,∃F,∀d,look ρ i=some d->∃v,σ[i]? = some (some v)/\Rep K H d v F:=λi=>by
  cases hl:look ρ i with
  | none=>exact ⟨[],λd e=>nomatch e⟩
  | some d =>
   obtain ⟨_,v,F,h1,h2⟩:=h i d hl
   exact ⟨F,λd' e=>by cases e;exact ⟨v,h1,h2⟩⟩
 refine ⟨λi=>Classical.choose (ch i),hlen,λa h=>h.elim,λi d hl=>Classical.choose_spec (ch i) d hl,λi d hl ht=>?_,λi d hl ht a ha=>?_,λa h=>h.elim,λa h=>h,λi j d e hl hl' ht=>?_,λi hi=>?_⟩
 ·rw [(h i d hl).1] at ht;cases ht
 ·obtain ⟨v,_,r⟩:=Classical.choose_spec (ch i) d hl
  exact r.dom a ha
 ·rw [(h i d hl).1] at ht;cases ht
 ·rw [hio] at hi;cases hi
theorem Y5:∀{ds:List D} {n i:Nat},look (ds.map some++List.replicate n none) i=ds[i]?
 | [],0,i=>by simp [look]
 | [],n+1,0=>by simp [look,List.replicate_succ]
 | [],n+1,i+1=>by
  have:=Y5 (ds:=[]) (n:=n) (i:=i)
  simpa [look,List.replicate_succ] using this
 | d::ds,n,0=>by simp [look]
 | d::ds,n,i+1=>by
  have:=Y5 (ds:=ds) (n:=n) (i:=i)
  simpa [look] using this
theorem Zl {N:List Str} {vs:List V} {i:Nat} {v:V} (h:vs[i]? = some v):(L2.start N vs)[i]? = some (some v):=by
 have hi:=(List.getElem?_eq_some_iff.mp h).1
 unfold L2.start
 rw [List.getElem?_append_left (by simpa using hi),List.getElem?_map,h]
 rfl
section
variable {P:Program} {w:World} {K:PySem.W.Frag} {mg:Str->Option Value} {base:Heap} {x qual:Str} {st:Stmt} {f:Addr} {fd:FuncData} {N ps:List Str} {k:Nat} {T:Tg} {ww:WS}
def env0 (N:List Str) (ds:List D):Env:=ds.map some++List.replicate (N.length-ds.length) none
theorem Qb4 {g:GA} (F:Fun K x qual st f fd) (S:FnScope N ps (Qb st)) (hio:T.io=[]) (hown:∀i,i<ps.length->T.own i=false) (hg:∀ds kk,g ds kk->ds.length=ps.length)
  (hb:∀(cdv:Value) (A:Around) (outer:List PySem.Env) (s:Shared) (H:Hp) (E:XK),Room k (A.deeper (envOfC qual (Qb st) s.heap.objs.size f cdv))->SVs (cxOf CX0 P w K mg base N qual (Qb st) f cdv A outer s H E).nox T (Qn st) ww)
  (hr:∀ds kk,g ds kk->ww { nx:=λ_=>kk .non,rt:=λd _=>kk d } (env0 N ds)):FnOk P w K mg base CX0 (k+1) f fd ps (spR K g):=by
 refine F.ok S (λvs H Q E h=>?_) (λcdv A outer s H vs Q E hroom h=>?_)
 ·obtain ⟨ds,Fp,kk,rep,hgk,_⟩:=h
  rw [rep.length];exact hg ds kk hgk
 ·obtain ⟨ds,Fp,kk,rep,hgk,q⟩:=h
  obtain ⟨ts,pts,gts⟩:=hb cdv A outer s H E hroom
  have hl:=rep.length
  have hds:=hg ds kk hgk
  refine ⟨ts,pts,gts (λ_=>.non) (Any H) (L2.start N vs) H (λ_=>False) (env0 N ds) _ _ (SR.readonly hio ?_ λi d hli=>?_) (hr ds kk hgk) ⟨?_,?_,?_,?_,λ_ _ _ _ _ _ _ _ hk=>hk.elim⟩⟩
  ·unfold env0 L2.start;simp [hl]
  ·unfold env0 at hli
   rw [Y5] at hli
   obtain ⟨v,B,h1,h2,_⟩:=rep.get hli
   exact ⟨hown i (by rw [← hds];exact (List.getElem?_eq_some_iff.mp hli).1),v,B,Zl h1,h2⟩
  ·intro R' σ' H' W' ρ' s' fr hk
   have sm:Same H H':=λb o e=>fr.keep b o e (λz=>z)
   exact q .non H' .non [] ⟨sm,.non,List.nodup_nil,λ_ m=>nomatch m⟩ hk
  ·exact λR' σ' H' W' ρ' s' fr hk=>hk.elim
  ·exact λR' σ' H' W' ρ' s' fr hk=>hk.elim
  ·intro R' v σ' H' W' ρ' d F' s' fr r nd nw hk
   have sm:Same H H':=λb o e=>fr.keep b o e (λz=>z)
   exact q v H' d F' ⟨sm,r,nd,λa ha=>(nw a ha).2.resolve_left id⟩ hk
theorem Qk4 {p:Nat} {g:GI} (F:Fun K x qual st f fd) (S:FnScope N ps (Qb st)) (hio:T.io=[p]) (hown:T.own p=true) (hg:∀ds kk,g ds kk->ds.length=ps.length/\∃d0,ds[p]? = some d0/\V1 d0=true)
  (hb:∀(cdv:Value) (A:Around) (outer:List PySem.Env) (s:Shared) (H:Hp) (E:XK),Room k (A.deeper (envOfC qual (Qb st) s.heap.objs.size f cdv))->SVs (cxOf CX0 P w K mg base N qual (Qb st) f cdv A outer s H E).nox T (Qn st) ww)
  (hr:∀ds kk,g ds kk->ww { nx:=λρ=>oget (look ρ p) λd'=>V1 d'=true/\kk .non d',rt:=λd ρ=>oget (look ρ p) λd'=>V1 d'=true/\kk d d' } (env0 N ds)):FnOk P w K mg base CX0 (k+1) f fd ps (spI K p g):=by
 refine F.ok S (λvs H Q E h=>?_) (λcdv A outer s H vs Q E hroom h=>?_)
 ·obtain ⟨ds,a,kk,rep,hp,hgk,_⟩:=h
  rw [rep.length];exact (hg ds kk hgk).1
 ·obtain ⟨ds,a,kk,rep,hp,hgk,q⟩:=h
  obtain ⟨ts,pts,gts⟩:=hb cdv A outer s H E hroom
  have hl:=rep.length
  obtain ⟨hds,d0,hd0,hf0⟩:=hg ds kk hgk
  obtain ⟨v0,A',B,C,h1,h2,r0,rA,rC⟩:=rep.split hd0
  rw [hp] at h1;cases h1
  obtain ⟨a',e1,e2⟩:=r0.flat1 hf0
  cases e1
  subst e2
  have hA:A'=[]:=by
   cases A' with
   | nil=>rfl
   | cons y A'=>simp at h2
  subst hA
  have hC:C=[]:=by
   cases C with
   | nil=>rfl
   | cons y C=>simp at h2
  subst hC
  have oth:∀i d,i≠p->ds[i]? = some d->∃v,vs[i]? = some v/\Rep K H d v []:=λi d hne hd=>by
   rcases Nat.lt_or_gt_of_ne hne with h | h
   ·obtain ⟨v,B,h1,h2,h3⟩:=rA.get (i:=i) (by rw [List.getElem?_take_of_lt h];exact hd)
    rw [List.getElem?_take_of_lt h] at h1
    have:=List.sublist_nil.mp h3
    subst this
    exact ⟨v,h1,h2⟩
   ·obtain ⟨v,B,h1,h2,h3⟩:=rC.get (i:=i-(p+1)) (by rw [List.getElem?_drop,show p+1+(i-(p+1))=i by omega];exact hd)
    rw [List.getElem?_drop,show p+1+(i-(p+1))=i by omega] at h1
    have:=List.sublist_nil.mp h3
    subst this
    exact ⟨v,h1,h2⟩
  obtain ⟨oa,ea,ia⟩:=r0.dom a (List.mem_singleton.mpr rfl)
  have fin:∀R' v σ' H' W' ρ' d F',SR K T (λ_=>.ref a) R' H' W' σ' ρ'->FrW H (λb=>b=a) H' W'->Rep K H' d v F'->F'.Nodup->(∀b∈F',¬W' b/\(b=a\/H b=none))->(oget (look ρ' p) λd'=>V1 d'=true/\kk d d')->Q v H':=λR' v σ' H' W' ρ' d F' s' fr r nd nw hk=>by
   obtain ⟨d',hl',hf',hk⟩:=Qq hk
   obtain ⟨fp,s0⟩:=s'
   obtain ⟨u,hu,ru⟩:=s0.at_ p d' hl'
   have hfx:=s0.fix p (by rw [hio];exact List.mem_singleton.mpr rfl)
   rw [hu] at hfx
   cases hfx
   obtain ⟨a'',e1,e2⟩:=ru.flat1 hf'
   cases e1
   rw [e2] at ru
   have hWa:W' a:=(s0.own p d' hl' hown).2 a (by rw [e2];exact List.mem_singleton.mpr rfl)
   refine q v H' d d' F' ru r nd (λb hb=>?_) (λb o e hne=>fr.keep b o e hne) hk
   rcases (nw b hb).2 with h | h
   ·exact absurd hWa (by rw [← h];exact (nw b hb).1)
   ·exact h
  refine ⟨ts,pts,gts (λ_=>.ref a) (λb=>b≠a/\Any H b) (L2.start N vs) H (λb=>b=a) (env0 N ds) _ _ ⟨λi=>if i=p then [a] else [],?_,?_,?_,?_,?_,?_,?_,?_,?_⟩ (hr ds kk hgk) ⟨?_,?_,?_,?_,λ_ _ _ _ _ _ _ _ hk=>hk.elim⟩⟩
  ·unfold env0 L2.start;simp [hl]
  ·rintro b rfl;exact ⟨oa,ea,ia⟩
  ·intro i d hli
   unfold env0 at hli
   rw [Y5] at hli
   by_cases hip:i=p
   ·subst hip
    rw [hd0] at hli;cases hli
    exact ⟨.ref a,Zl hp,by rw [if_pos rfl];exact r0⟩
   ·obtain ⟨v,h1,h2⟩:=oth i d hip hli
    exact ⟨v,Zl h1,by rw [if_neg hip];exact h2⟩
  ·intro i d _ _
   by_cases hip:i=p
   ·rw [if_pos hip];exact ⟨by simp,λb hb=>List.mem_singleton.mp hb⟩
   ·rw [if_neg hip];exact ⟨by simp,λb hb=>nomatch hb⟩
  ·intro i d _ ht b hb
   have hip:i≠p:=λz=>by subst z;rw [hown] at ht;cases ht
   rw [if_neg hip] at hb;cases hb
  ·rintro b rfl ⟨h,_⟩;exact h rfl
  ·exact λb h=>h.2
  ·intro i j d e _ _ _ _ hne b hb hb'
   by_cases hip:i=p
   ·have hjp:j≠p:=λz=>hne (hip.trans z.symm)
    rw [if_neg hjp] at hb';cases hb'
   ·rw [if_neg hip] at hb;cases hb
  ·intro i hi
   rw [hio] at hi
   rw [List.mem_singleton.mp hi]
   exact Zl hp
  ·exact λR' σ' H' W' ρ' s' fr hk=>fin R' .non σ' H' W' ρ' .non [] s' fr .non List.nodup_nil (λb hb=>nomatch hb) hk
  ·exact λR' σ' H' W' ρ' s' fr hk=>hk.elim
  ·exact λR' σ' H' W' ρ' s' fr hk=>hk.elim
  ·exact λR' v σ' H' W' ρ' d F' s' fr r nd nw hk=>fin R' v σ' H' W' ρ' d F' s' fr r nd nw hk
end
section
variable {X:Cx} {T:Tg} {m o m0 m1 m2 m3 o1 o2:Bool} {e a b:Expr} {w wa wb we:WE} {pos p2 p:Pos} {es:List Expr} {wr:WA} {x:Str} {wt:WT}
def CV (X:Cx) (ifs:List Expr) (w:WT):Prop :=
 ∃tt,PIfs X ifs tt/\∀(z:Nat->V) (R:Addr->Prop) (σ:St) (H:Hp) (W:Addr->Prop) (ρ:Env) (Q:Bool->Env->Prop) (Q':Bool->Hp->Prop),SR X.K TR z R H W σ ρ->w ρ Q ->
  (∀b H' W' ρ',PostT X.K TR z R false H W σ ρ H' W' ρ'->Q b ρ'->Q' b H')->tt σ H Q'
def wAll:WT:=λρ Q=>Q true ρ
theorem Qid:CV X [] wAll:=⟨_,Qmz,λz R σ H W ρ Q Q' s hw k=>k true H W ρ ⟨s,FrW.refl H W,λ_=>⟨Same.refl H,rfl,rfl⟩⟩ hw⟩
theorem Qoy {c:Expr} (h:TV X TR false c wt):CV X [c] wt:=by
 obtain ⟨tt,pt,g⟩:=h
 exact ⟨_,Qmy pt,g⟩
def blkE (ρ:Env) (d:D) (ix:List Nat):Env:=some d::ix.map (look ρ)
theorem Qds {f:Nat->Option D}:∀{ix:List Nat} {j:Nat},look (ix.map f) j=ix[j]?.bind f
 | [],_=>by simp [look]
 | i::r,0=>by simp [look]
 | i::r,j+1=>by simpa [look] using Qds (f:=f) (ix:=r) (j:=j)
def Qdd (wl:WL) (wt:WT) (we:WE) (ix:List Nat):WE:=λρ Q=>wl ρ λds ρ1=>∃I:Nat->List D->Prop,I 0 [] /\
 (∀i d ys,ds[i]? = some d->I i ys->ys.length<sizeLine/\wt (blkE ρ1 d ix) λb _=>if b=true then we (blkE ρ1 d ix) (λy _=>I (i+1) (ys++[y])) else I (i+1) ys) /\
 ∀ys,I ds.length ys->ys.length<=sizeLine/\Q (.lst ys) ρ1
def Qff (X:Cx) (T:Tg) (m:Bool) (elt iter:Expr) (x:Str) (px:Pos) (scope:Scope) (ifs:List Expr) (ix:List Nat) (w:WE):Prop :=
 ∃(wi:TI) (tt:TT) (te:TE),PI X (.Name x px) iter wi/\(∀cl C s₀ H₀ fp,PIfs (Yz X scope cl C (bN X.N x ix) s₀ H₀ fp) ifs tt)/\(∀cl C s₀ H₀ fp,PE (Yz X scope cl C (bN X.N x ix) s₀ H₀ fp) elt te) /\
  ∀(z:Nat->V) (R:Addr->Prop) (σ:St) (H:Hp) (W:Addr->Prop) (ρ:Env) (Q:D->Env->Prop) (Q':VK),SR X.K T z R H W σ ρ->w ρ Q ->
   (∀v H' W' d ρ' F,Post X.K T z R m true H W σ ρ H' W' ρ' d v F->Q d ρ'->Q' v H')->Qpe wi tt te ix σ H Q'
theorem Qb8 {elt iter:Expr} {px:Pos} {scope:Scope} {ifs:List Expr} {wl:WL} {pr:Bool} (ix:List Nat) (hi:IV X T m pr (.Name x px) iter wl)
  (ht:∀cl C s₀ H₀ fp,CV (Yz X scope cl C (bN X.N x ix) s₀ H₀ fp) ifs wt) (he:∀cl C s₀ H₀ fp,EV (Yz X scope cl C (bN X.N x ix) s₀ H₀ fp) TR false true elt we) :
  Qff X T m elt iter x px scope ifs ix (Qdd wl wt we ix):=by
 obtain ⟨wi,pi,gi⟩:=hi
 refine ⟨wi,λσ H Q=>∀cl C s₀ H₀ fp,Classical.choose (ht cl C s₀ H₀ fp) σ H Q,λσ H Q=>∀cl C s₀ H₀ fp,Classical.choose (he cl C s₀ H₀ fp) σ H Q,pi,
  λcl C s₀ H₀ fp pins s σ H Q I h=>(Classical.choose_spec (ht cl C s₀ H₀ fp)).1 pins s σ H Q I (h cl C s₀ H₀ fp),λcl C s₀ H₀ fp pins s σ H Q I h=>(Classical.choose_spec (he cl C s₀ H₀ fp)).1 pins s σ H Q I (h cl C s₀ H₀ fp),?_⟩
 intro z R σ H W ρ Q Q' s hw k
 refine gi z R σ H W ρ _ _ s hw λJ H1 W1 ds ρ1 p jd q=>?_
 obtain ⟨I,h0,hI,hd⟩:=q
 refine ⟨λi n ys H2=>n=ds.length-i/\i<=ds.length/\Same H1 H2/\∃es F,Reps X.K H2 es ys F/\F.Nodup/\(∀a∈F,H1 a=none)/\I i es,ds.length,⟨by simp,Nat.zero_le _,Same.refl _,[],[],.nil,List.nodup_nil,(λa m=>(nomatch m)),h0⟩,?_⟩
 rintro i n ys H2 ⟨rfl,hi,sm,es,F,re,nd,nw,i2⟩
 obtain ⟨j1,j2⟩:=jd i H2 (wz pr W1) (FrW.same _ sm)
 by_cases hlt:i<ds.length
 ·have hdi:ds[i]? = some ds[i]:=List.getElem?_eq_getElem hlt
  obtain ⟨hgo,hy⟩:=j2 _ hdi
  obtain ⟨hz,q1⟩:=hI i _ es hdi i2
  refine .inr ⟨hgo,by rw [re.length];exact hz,λv H3 yl=>?_⟩
  obtain ⟨sm3,Fv,rv,_⟩:=hy v H3 yl
  have srB:∀z',SR X.K TR z' (Any H3) H3 (λ_=>False) (bS σ (some v) ix) (blkE ρ1 ds[i] ix):=λz'=>by
   refine SR.readonly rfl (by simp [bS,blkE]) λj d hj=>⟨rfl,?_⟩
   cases j with
   | zero =>
    simp only [blkE,look,Option.some.injEq] at hj
    subst hj
    exact ⟨v,Fv,rfl,rv⟩
   | succ j =>
    have hj':look (ix.map (look ρ1)) j=some d:=hj
    rw [Qds] at hj'
    cases hx:ix[j]? with
    | none=>rw [hx] at hj';cases hj'
    | some q =>
     rw [hx] at hj'
     obtain ⟨fp,s1⟩:=(p.sr.same sm).same sm3
     obtain ⟨u,hu,ru⟩:=s1.at_ q d hj'
     refine ⟨u,fp q,?_,ru⟩
     show (ix.map λi=>(σ[i]?).getD none)[j]? = some (some u)
     rw [List.getElem?_map,hx]
     simp [hu]
  intro cl C s₀ H₀ fp
  refine (Classical.choose_spec (ht cl C s₀ H₀ fp)).2 (λ_=>.non) (Any H3) (bS σ (some v) ix) H3 (λ_=>False) (blkE ρ1 ds[i] ix) _ _ (srB _) q1 λbb H4 W4 ρ4 p4 q4=>?_
  obtain ⟨sm4,hW4,hρ4⟩:=p4.calm rfl
  have re4:=((re.same sm3).same sm4)
  cases bb with
  | false=>exact ⟨ds.length-(i+1),by omega,rfl,hlt,(sm.trans sm3).trans sm4,es,F,re4,nd,nw,q4⟩
  | true =>
   show if true=true then _ else _
   rw [if_pos rfl]
   intro cl C s₀ H₀ fp
   refine (Classical.choose_spec (he cl C s₀ H₀ fp)).2 (λ_=>.non) (Any H3) (bS σ (some v) ix) H4 W4 (blkE ρ1 ds[i] ix) _ _ (hρ4 ▸ p4.sr) (by simpa using q4) λu H5 W5 y ρ5 Fy p5 q5=>?_
   obtain ⟨sm5,_,_⟩:=p5.calm rfl
   obtain ⟨ny,ky⟩:=p5.own rfl
   have sm15:Same H1 H5:=((sm.trans sm3).trans sm4).trans sm5
   refine ⟨ds.length-(i+1),by omega,rfl,hlt,sm15,es++[y],F++Fy,(re4.same sm5).snoc p5.rep,Xf nd ny λa ha hf=>?_,λa ha=>?_,q5⟩
   ·obtain ⟨ob,e1,_⟩:=re4.dom a hf
    rw [(ky a ha).1] at e1;cases e1
   ·rcases List.mem_append.mp ha with ha | ha
    ·exact nw a ha
    ·exact ((sm.trans sm3).trans sm4).free (ky a ha).1
 ·have e:i=ds.length:=by omega
  subst e
  obtain ⟨hz,q1⟩:=hd es i2
  refine .inl ⟨j1 (Nat.le_refl _),by rw [re.length];exact hz,λl hl=>?_⟩
  have hl1:H1 l=none:=sm.free hl
  refine k _ _ W1 (.lst es) ρ1 (l::F) ⟨(p.sr.same sm).same (Qj hl),(p.fr.trans (FrW.same W1 sm)).trans (FrW.same W1 (Qj hl)),λh=>⟨((p.calm h).1.trans sm).trans (Qj hl),(p.calm h).2⟩,.lst Qh (re.same (Qj hl)),λ_=>⟨List.nodup_cons.mpr ⟨λh=>?_,nd⟩,λb hb=>?_⟩⟩ q1
  ·obtain ⟨ob,e1,_⟩:=re.dom l h
   rw [hl] at e1;cases e1
  ·rcases List.mem_cons.mp hb with rfl | hb
   ·exact ⟨p.fr.dom _ hl1,p.sr.nw hl1⟩
   ·exact ⟨p.fr.dom _ (nw b hb),p.sr.nw (nw b hb)⟩
theorem Qq8 {elt iter:Expr} {px:Pos} {scope:Scope} {ifs:List Expr} {ix:List Nat} (h:Qff X T m elt iter x px scope ifs ix w) (B:BlkScope X.env scope x)
  (hix:∀i∈ix,∃y,X.N[i]? = some y/\scope.names.lookup y=some .free) (hN:(bN X.N x ix).Nodup) (hc:X.calm=true:=by rfl)
  (hs:∀x,foldedSetIterable iter X.env x=pure x:=by intro _;rfl):EV X T m true (.ListComp elt [⟨.Name x px,iter,ifs,0⟩] scope pos) w:=by
 obtain ⟨wi,tt,te,h1,h2,h3,h4⟩:=h
 exact ⟨_,Qqb ix hc B hix hN h1 h2 h3 hs,h4⟩
theorem Qpk {elt iter:Expr} {y:Str} {px py spos:Pos} {scope:Scope} {ifs:List Expr} {ix:List Nat} {j:Nat} (h:Qff X T m elt iter x px scope ifs ix w) (B:BlkScope X.env scope x) (hNd:X.N.Nodup)
  (hix:∀i∈ix,∃y,X.N[i]? = some y/\scope.names.lookup y=some .free) (hN:(bN X.N x ix).Nodup) (hj:X.N[j]? = some y:=by rfl) (hy:Loc X.env.scope y:=by first | exact Or.inl rfl | exact Or.inr rfl) (hio:j∉T.io:=by decide)
  (hsw:swapsWith (.ListComp elt [⟨.Name x px,iter,ifs,0⟩] scope pos) (some (.Name y py)) spos.line X.env=pure true:=by rfl)
  (hf:X.fn y=true\/X.env.scope.names.lookup y=some .local:=by first | exact .inl rfl | exact .inr rfl | assumption) (hc:X.calm=true:=by rfl)
  (hs:∀x,foldedSetIterable iter X.env x=pure x:=by intro _;rfl):SV X T (.Assign [.Name y py] (.ListComp elt [⟨.Name x px,iter,ifs,0⟩] scope pos) spos) (wSet j w):=by
 obtain ⟨wi,tt,te,h1,h2,h3,h4⟩:=h
 exact Qjy ⟨_,Qp3 ix hc B hNd hj hy hsw hix hN h1 h2 h3 hf hs,h4⟩ hio
end
end PV
namespace PV
open PySem PySem.Spec L2
section
variable {X:Cx} {T:Tg} {m o m0 m1 m2 m3 o1 o2:Bool} {e a b:Expr} {w wa wb we:WE} {pos p2 p:Pos} {es:List Expr} {wr:WA} {x:Str} {wt:WT}
abbrev WO:=Env->(Option Int->Env->Prop)->Prop
def OV (X:Cx) (T:Tg) (m:Bool) (e:Option Expr) (w:WO):Prop :=
 ∃t,PO X e t/\∀(z:Nat->V) (R:Addr->Prop) (σ:St) (H:Hp) (W:Addr->Prop) (ρ:Env) (Q:Option Int->Env->Prop) (Q':Option Int->Hp->Prop),SR X.K T z R H W σ ρ->w ρ Q ->
  (∀b H' W' ρ',PostT X.K T z R m H W σ ρ H' W' ρ'->Q b ρ'->Q' b H')->t σ H Q'
def Zh:WO:=λρ Q=>Q none ρ
def Vz (w:WE):WO:=λρ Q=>w ρ λd ρ'=>match d with
 | .int i=>Q (some i) ρ'
 | _=>False
theorem Ze:OV X T false none Zh:=⟨_,Qp5,λz R σ H W ρ Q Q' s hw k=>k none H W ρ ⟨s,FrW.refl H W,λ_=>⟨Same.refl H,rfl,rfl⟩⟩ hw⟩
theorem Yg (h:EV X T m o e w):OV X T m (some e) (Vz w):=by
 obtain ⟨t,pt,g⟩:=h
 refine ⟨_,Qp4 pt,λz R σ H W ρ Q Q' s hw k=>g z R σ H W ρ _ _ s hw λv H1 W1 d ρ1 F p q=>?_⟩
 cases d with
 | int i=>exact ⟨i,Qj2 p.rep,k (some i) H1 W1 ρ1 ⟨p.sr,p.fr,p.calm⟩ q⟩
 | _=>exact q.elim
def cutD (xs:List D) (lo hi:Option Int):List D:=(xs.drop (HT.sIx xs.length 0 lo)).take (HT.sIx xs.length xs.length hi-HT.sIx xs.length 0 lo)
def dSl:D->Option Int->Option Int->(D->Prop)->Prop
 | .lst xs,lo,hi,k=>Qg xs=true/\k (.lst (cutD xs lo hi))
 | .kls xs,lo,hi,k=>Qg xs=true/\k (.lst (cutD xs lo hi))
 | .tup xs,lo,hi,k=>Qg xs=true/\¬(HT.sIx xs.length 0 lo=0/\HT.sIx xs.length xs.length hi=xs.length)/\k (.tup (cutD xs lo hi))
 | _,_,_,_=>False
theorem Reps.cut {K:PySem.W.Frag} {H:Hp} {ds:List D} {xs:List V} {lo hi:Option Int} (r:Reps K H ds xs []):Reps K H (cutD ds lo hi) (cutV xs lo hi) []:=by
 unfold cutD cutV
 rw [r.length]
 obtain ⟨G,r1,s1⟩:=r.drop (HT.sIx ds.length 0 lo)
 obtain ⟨G',r2,s2⟩:=r1.take (HT.sIx ds.length ds.length hi-HT.sIx ds.length 0 lo)
 have:=List.sublist_nil.mp s1
 subst this
 have:=List.sublist_nil.mp s2
 subst this
 exact r2
theorem Qrw:SlR X (λx lo hi H Q=>rSlL X.K x lo hi H Q\/rSlT X.K x lo hi H Q):=SlR.or Qpn Qrv
def wSl (w:WE) (wl wh:WO):WE:=λρ Q=>w ρ λd ρ1=>wl ρ1 λlo ρ2=>wh ρ2 λhi ρ3=>dSl d lo hi λd'=>Q d' ρ3
def Qlr:GA
 | [.int j],k=>0<=j/\j<=1000/\k (.lst (rngD 0 j.toNat))
 | _,_=>False
theorem Qe0 {p3 p4 pos2:Pos} (hm:X.mg "range" = none) (hm2:X.mg "list" = none) (ha:AV X T m o [a] wr) (hg:Gl X "range":=by rfl) (hg2:Gl X "list":=by rfl) (hc:X.calm=true:=by rfl) (hs:starEach [a] X.env=[(false,eval a X.env)]:=by rfl)
  (hs2:starEach [.Call (.Name "range" p4) [a] [] pos2] X.env=(false,eval (.Call (.Name "range" p4) [a] [] pos2) X.env)::starEach [] X.env:=by rfl) :
  EV X T m true (.Call (.Name "list" p3) [.Call (.Name "range" p4) [a] [] pos2] [] pos) (Qr Qlr wr):=by
 obtain ⟨ta,pa,ga⟩:=ha
 refine ⟨_,Qej (Qd3 hc) hg2 hm2 (by rfl) (Js (Qkf hg hm pa hs) Ub hs2),λz R σ H W ρ Q Q' s hw k=>?_⟩
 refine ga z R σ H W ρ _ _ s hw λvs H1 W1 ds ρ1 F p q=>?_
 obtain ⟨j,rfl⟩:∃j,ds=[D.int j]:=by
  clear p
  cases ds with
  | nil=>exact (show False from q).elim
  | cons d0 r0 =>
   cases r0 with
   | nil =>
    cases d0 with
    | int j=>exact ⟨j,rfl⟩
    | _=>exact (show False from q).elim
   | cons _ _=>cases d0 <;> exact (show False from q).elim
 obtain ⟨v,rfl,rd⟩:=p.rep.at1
 cases rd
 refine ⟨j,rfl,λr hr=>⟨r,j,rfl,Qh,q.1,q.2.1,λl hl=>?_⟩⟩
 have s12:Same H1 (upd (upd H1 r (.rng 0 j)) l (.lst ((List.range j.toNat).map λi=>.int (i:Nat)))):=(Qj hr).trans (Qj hl)
 refine k _ _ W1 (.lst (rngD 0 j.toNat)) ρ1 [l] (Post.fin p.sr p.fr p.calm s12 (.lst Qh ?_) (by simp) λb mb=>by rw [List.mem_singleton.mp mb];exact (Qj hr).free hl) q.2.2
 have e1:rngD 0 j.toNat=((List.range j.toNat).map λ(i:Nat)=>(i:Int)).map D.int:=by simp [rngD]
 have e2:((List.range j.toNat).map λ(i:Nat)=>V.int (i:Nat))=((List.range j.toNat).map λ(i:Nat)=>(i:Int)).map V.int:=by simp
 rw [e1,e2]
 exact Reps.ints _
def Qrb:D->D->D->(D->Prop)->Prop
 | .dik kvs,.int i,d,k=>k ((valD kvs (.inl i)).getD d)
 | .dik kvs,.str i,d,k=>k ((valD kvs (.inr i)).getD d)
 | .dit kvs,.tup l,d,k=>oget (Yh l) λks=>k ((valD kvs ks).getD d)
 | _,_,_,_=>False
def Qtu (w:WE):WL:=λρ Q=>w ρ λd ρ'=>match d with
 | .dik kvs=>Q (kvs.map (·.2)) ρ'
 | _=>False
theorem RepK.get {K:PySem.W.Frag} {H:Hp}:∀{ds:List (Key × D)} {xs:List (Key × V)} {F:List Addr} {i:Nat} {k:Key} {v:V},RepK K H ds xs F->xs[i]? = some (k,v)->∃d B,ds[i]? = some (k,d)/\Rep K H d v B/\B.Sublist F
 | [],_,_,_,_,_,r,h=>by cases r;simp at h
 | d::ds,_,_,i,_,_,r,h=>by
  cases r with
  | @cons j d v _ vs F G p r =>
   cases i with
   | zero =>
    simp at h
    obtain ⟨rfl,rfl⟩:=h
    exact ⟨d,F,rfl,p,List.sublist_append_left _ _⟩
   | succ i =>
    obtain ⟨d',B,h1,h2,h3⟩:=RepK.get r (i:=i) (by simpa using h)
    exact ⟨d',B,by simpa using h1,h2,h3.trans (List.sublist_append_right _ _)⟩
def Qty (wl:WL) (i₀:Nat) (wb:WS):WS:=λP ρ=>wl ρ λds ρ1=>∃I:Nat->Env->Prop,I 0 ρ1 /\
 (∀i d ρ,ds[i]? = some d->I i ρ->wb { P with nx:=I (i+1),ct:=I (i+1),bk:=P.nx } (ρ.set i₀ (some d)))/\∀ρ,I ds.length ρ->P.nx ρ
end
end PV
namespace PV
open PySem PySem.Spec L2
section
variable {κ:Type} [DecidableEq κ]
theorem Qpu {j k:κ} {d y:D} {r:List (κ × D)} (h:¬j=k):putD ((j,d)::r) k y=(j,d)::putD r k y:=by
 unfold putD
 by_cases q:(r.any λkv=>decide (kv.1=k))=true
 ·rw [if_pos (by rw [List.any_cons,q];simp),if_pos q,List.map_cons,if_neg h]
 ·rw [if_neg (by rw [List.any_cons];simp only [h,decide_false,Bool.false_or];exact q),if_neg q];rfl
theorem map_none {k:κ} {y:D}:∀{r:List (κ × D)},k∉r.map (·.1)->(r.map λkv=>if kv.1=k then (kv.1,y) else kv)=r
 | [],_=>rfl
 | p::r,h=>by
  simp only [List.map_cons,List.mem_cons,not_or] at h
  rw [List.map_cons,if_neg (λz=>h.1 z.symm),map_none h.2]
theorem Qpv {k:κ} {d y:D} {r:List (κ × D)} (h:k∉r.map (·.1)):putD ((k,d)::r) k y=(k,y)::r:=by
 unfold putD
 rw [if_pos (by rw [List.any_cons];simp),List.map_cons,if_pos rfl,map_none h]
end
section
variable {K:PySem.W.Frag} {H:Hp}
theorem RepK.app {k:Key} {xs:List D}:∀{ds:List (Key × D)} {kvs:List (Key × V)} {F:List Addr},RepK K H ds kvs F->F.Nodup->(ds.map (·.1)).Nodup->valD ds k=some (.lst xs) ->
  ∃l ys,valV kvs k=some (.ref l)/\H l=some (.lst ys)/\l∈F/\ys.length=xs.length/\∀v x,Rep K H x v []->RepK K (L2.upd H l (.lst (ys++[v]))) (putD ds k (.lst (xs++[x]))) kvs F
 | [],_,_,r,_,_,h=>by cases h
 | (j,d)::ds,_,_,r,nd,hk,h=>by
  cases r with
  | @cons _ _ v _ vs F G p r =>
   obtain ⟨n1,n2,n3⟩:=List.nodup_append.mp nd
   obtain ⟨k1,k2⟩:=List.nodup_cons.mp (show (j::ds.map (·.1)).Nodup from hk)
   rw [Yr] at h
   by_cases e:j=k
   ·subst e
    rw [if_pos rfl] at h
    cases h
    cases p with
    | @lst l ys _ F0 e1 r1 =>
     obtain ⟨nl,n0⟩:=List.nodup_cons.mp n1
     refine ⟨l,ys,J8 rfl,e1,List.mem_append.mpr (.inl List.mem_cons_self),r1.length,λv x rx=>?_⟩
     rw [Qpv k1]
     refine .cons (.lst Qh ?_) (r.upd e1 rfl λh=>n3 l List.mem_cons_self l h rfl)
     have:=(r1.upd (ob':=.lst (ys++[v])) e1 rfl nl).snoc (rx.upd e1 rfl (λh=>nomatch h))
     simpa using this
   ·rw [if_neg e] at h
    obtain ⟨l,ys,h1,h2,h3,h4,h5⟩:=RepK.app r n2 k2 h
    refine ⟨l,ys,by rw [J9 e];exact h1,h2,List.mem_append.mpr (.inr h3),h4,λv x rx=>?_⟩
    rw [Qpu e]
    exact .cons (p.upd h2 rfl λh=>n3 l h l h3 rfl) (h5 v x rx)
end
section
variable {X:Cx} {T:Tg} {m o m0 m1 m2 m3 o1 o2:Bool} {e a b:Expr} {w wa wb we:WE} {pos p2 p:Pos} {es:List Expr} {wr:WA} {x:Str} {wt:WT}
def Qer:D->Option Key
 | .int i=>some (.inl i)
 | .str i=>some (.inr i)
 | _=>none
theorem Rep.key {K:PySem.W.Frag} {H:Hp} {d:D} {v:V} {F:List Addr} {k:Key} (r:Rep K H d v F) (h:Qer d=some k):v=kV k:=by
 cases r <;> simp [Qer] at h <;> subst h <;> rfl
def Zi (kvs:List (Key × D)) (k:Key):List (Key × D):=if (valD kvs k).isNone then kvs++[(k,.lst [])] else kvs
def wSda (i:Nat) (wk wv:WE):WS:=λP ρ=>oget (look ρ i) λs=>match s with
 | .dik kvs=>kvs.length<sizeLine/\(kvs.map (·.1)).Nodup/\wk ρ λkd _=>oget (Qer kd) λk=>oget (valD (Zi kvs k) k) λl=>match l with
  | .lst xs=>xs.length<sizeLine/\wv (ρ.set i (some (.dik (Zi kvs k)))) λd _=>d.pure=true/\P.nx (ρ.set i (some (.dik (putD (Zi kvs k) k (.lst (xs++[d]))))))
  | _=>False
 | _=>False
theorem Qhj:∀{ρ:Env} {i:Nat} {d:D},look ρ i=some d->ρ.set i (some d)=ρ
 | [],_,_,h=>by simp [look] at h
 | a::r,0,d,h=>by simp only [look] at h;rw [h];rfl
 | a::r,i+1,d,h=>by simp only [List.set_cons_succ];rw [Qhj (ρ:=r) (i:=i) h]
theorem Qsr {κ:Type} [DecidableEq κ] {kvs:List (κ × D)} {k:κ} {d:D} (h:(kvs.map (·.1)).Nodup) (hn:valD kvs k=none):((kvs++[(k,d)]).map (·.1)).Nodup:=by
 rw [List.map_append]
 refine List.nodup_append.mpr ⟨h,by simp,λa ha b hb e=>?_⟩
 have hb':b=k:=by simpa using hb
 subst e hb'
 obtain ⟨q,hq,e⟩:=List.mem_map.mp ha
 have:(kvs.any λkv=>decide (kv.1=a))=true:=List.any_eq_true.mpr ⟨q,hq,decide_eq_true e⟩
 rw [Xo,hn] at this
 cases this
theorem Qof {i:Nat} {ek ev:Expr} {wk wv:WE} {ap1 ap2 cp1 cp2 pl:Pos} (hk:EV X T false o1 ek wk) (hv:EV X T false o2 ev wv) (ht:T.own i=true:=by rfl) (hN:X.N[i]? = some x:=by rfl)
  (hvis:Vis X.env.scope x:=by first | exact Or.inl rfl | exact Or.inr (Or.inl rfl) | exact Or.inr (Or.inr rfl)) (hd:(x == ("__debug__" : Str))=false:=by decide) (hcd:(x == ("__classdict__" : Str))=false:=by decide)
  (b1:attributeBase (.Name x p) "setdefault" X.env (eval (.Name x p) X.env)=eval (.Name x p) X.env:=by rfl)
  (f1:((backTo cp1 (starEach [ek,.List [] pl] X.env)).all (λx=>!x.1) && (backToKw cp1 (keywordEach [] X.env)).all (λx=>x.1.isSome)
   && decide (([ek,.List [] pl]:List Expr).length+([]:List Keyword).length+(if ([]:List Keyword).isEmpty then 0 else 1)<30))=true:=by rfl)
  (l1:(ap1.endLine == cp1.line)=true:=by rfl) (s1:starEach [ek,.List [] pl] X.env=(false,eval ek X.env)::starEach [.List [] pl] X.env:=by rfl) (s1':starEach [.List [] pl] X.env=(false,eval (.List [] pl) X.env)::starEach [] X.env:=by rfl) (q1:(backTo cp1 (starEach [.List [] pl] X.env)).any (·.1)=false:=by rfl)
  (b2:attributeBase (.Call (.Attribute (.Name x p) "setdefault" ap1) [ek,.List [] pl] [] cp1) "append" X.env (eval (.Call (.Attribute (.Name x p) "setdefault" ap1) [ek,.List [] pl] [] cp1) X.env)=eval (.Call (.Attribute (.Name x p) "setdefault" ap1) [ek,.List [] pl] [] cp1) X.env:=by rfl)
  (f2:((backTo cp2 (starEach [ev] X.env)).all (λx=>!x.1) && (backToKw cp2 (keywordEach [] X.env)).all (λx=>x.1.isSome)
   && decide (([ev]:List Expr).length+([]:List Keyword).length+(if ([]:List Keyword).isEmpty then 0 else 1)<30))=true:=by rfl)
  (l2:(ap2.endLine == cp2.line)=true:=by rfl) (s2:starEach [ev] X.env=(false,eval ev X.env)::starEach [] X.env:=by rfl) (q2:(backTo cp2 (starEach [] X.env)).any (·.1)=false:=by rfl)
  (hs:swapsWith (.Call (.Attribute (.Call (.Attribute (.Name x p) "setdefault" ap1) [ek,.List [] pl] [] cp1) "append" ap2) [ev] [] cp2) none pos.line X.env=pure false:=by rfl) :
  SV X T (.Expr (.Call (.Attribute (.Call (.Attribute (.Name x p) "setdefault" ap1) [ek,.List [] pl] [] cp1) "append" ap2) [ev] [] cp2) pos) (wSda i wk wv):=by
 obtain ⟨tk,pk,gk⟩:=hk
 obtain ⟨tv,pv,gv⟩:=hv
 refine ⟨_,Qj8 (Qqd PySem.F.plainAttrs_list PySem.F.slot_list_append PySem.F.type_list_append Qeo (Qqd PySem.F.plainAttrs_dict PySem.F.slot_dict_setdefault PySem.F.type_dict_setdefault Qdr (Ua hN hvis hd hcd) (Js pk (Js (Qoq Ub) Ub s1') s1) b1 f1 l1 s1 q1) (Js pv Ub s2) b2 f2 l2 s2 q2) hs,λz R σ H W ρ P E s hw l=>?_⟩
 obtain ⟨sd,hl0,hw⟩:=Qq hw
 obtain ⟨kvs,rfl⟩:∃kvs,sd=D.dik kvs:=by
  clear hl0
  cases sd with
  | dik kvs=>exact ⟨kvs,rfl⟩
  | _=>exact (show False from hw).elim
 obtain ⟨hz,hnd,hw⟩:=hw
 obtain ⟨fp,s0⟩:=id s
 obtain ⟨v0,hv0,r0⟩:=s0.at_ i _ hl0
 refine ⟨v0,hv0,Qob r0 (t:="dict") rfl,?_⟩
 refine gk z R σ H W ρ _ _ s hw λvk H1 W1 kd ρ1 Fk p q=>?_
 obtain ⟨sm1,hW1,hρ1⟩:=p.calm rfl
 subst hW1 hρ1
 obtain ⟨k,hkey,q⟩:=Qq q
 have ek:=p.rep.key hkey
 subst ek
 obtain ⟨ld,hval,q⟩:=Qq q
 obtain ⟨xs,rfl⟩:∃xs,ld=D.lst xs:=by
  clear hval
  cases ld with
  | lst xs=>exact ⟨xs,rfl⟩
  | _=>exact (show False from q).elim
 obtain ⟨hxz,q⟩:=q
 -- what is to be done with the list that comes
 have fin:∀(Hs:Hp) (Ws:Addr->Prop) (y:V),SR X.K T z R Hs Ws σ (ρ1.set i (some (.dik (Zi kvs k))))->FrW H W1 Hs Ws->((Zi kvs k).map (·.1)).Nodup->(∀a kv,v0=.ref a->Hs a=some (.dK kv)->valV kv k=some y) ->
   tyV X.K "list" y Hs/\Qrs tv tNil σ Hs λxs H2=>Qj4 y xs H2 λ_ H1=>E.nx σ H1:=λHs Ws y ss fs hns hy=>by
  obtain ⟨fpS,sS⟩:=id ss
  have hlS:look (ρ1.set i (some (.dik (Zi kvs k)))) i=some (.dik (Zi kvs k)):=Vp (Xw hl0)
  obtain ⟨vS,hvS,rS⟩:=sS.at_ i _ hlS
  have:vS=v0:=by rw [hv0] at hvS;cases hvS;rfl
  subst this
  obtain ⟨ndS,swS⟩:=sS.own i _ hlS ht
  have app:∃(l:Addr) (ys:List V) (a:Addr) (kvS:List (Key × V)),y=.ref l/\Hs l=some (.lst ys)/\vS=.ref a/\Hs a=some (.dK kvS):=by
   generalize fpS i=Fi at rS ndS
   cases rS with
   | @dik a kv _ F e1 r =>
    obtain ⟨na,nF⟩:=List.nodup_cons.mp ndS
    obtain ⟨l,ys,h1,h2,_⟩:=r.app nF hns hval
    have:=hy a kv rfl e1
    rw [h1] at this
    cases this
    exact ⟨l,ys,a,kv,rfl,h2,rfl,e1⟩
  obtain ⟨l0,ys0,aS,kvS,rfl,hl0',rfl,eS⟩:=app
  refine ⟨.inl ⟨rfl,_,.of hl0'⟩,?_⟩
  refine gv z R σ Hs Ws _ _ _ ss q λvd H2 W2 d ρ2 Fd pd ⟨hp,qn⟩=>?_
  obtain ⟨sm2,hW2,hρ2⟩:=pd.calm rfl
  subst hW2 hρ2
  obtain ⟨_,rd⟩:=pd.rep.pure hp
  obtain ⟨fp2,s2⟩:=id pd.sr
  obtain ⟨v2,hv2,r2⟩:=s2.at_ i _ hlS
  have:v2=.ref aS:=by rw [hvS] at hv2;cases hv2;rfl
  subst this
  obtain ⟨nd2,sw2⟩:=s2.own i _ hlS ht
  have h2l:H2 l0=some (.lst ys0):=sm2 _ _ hl0'
  have fin2:∃(ys:List V) (F':List Addr),H2 l0=some (.lst ys)/\ys.length=xs.length/\l0∈fp2 i/\Rep X.K (upd H2 l0 (.lst (ys++[vd]))) (.dik (putD (Zi kvs k) k (.lst (xs++[d])))) (.ref aS) F'/\F'=fp2 i:=by
   generalize fp2 i=Fi at r2 nd2
   cases r2 with
   | @dik a kv _ F e1 r =>
    obtain ⟨na,nF⟩:=List.nodup_cons.mp nd2
    obtain ⟨l,ys,h1,h2,h3,h4,h5⟩:=r.app nF hns hval
    have hkv:kv=kvS:=by
     have:=sm2 _ _ eS
     rw [e1] at this
     cases this
     rfl
    subst hkv
    have:=hy aS kv rfl eS
    rw [h1] at this
    cases this
    have hne:aS≠l0:=λz=>na (z ▸ h3)
    exact ⟨ys,_,h2,h4,List.mem_cons_of_mem _ h3,.dik (by rw [Qk hne];exact e1) (h5 vd d rd),rfl⟩
  obtain ⟨ys,F',h1,h2,h3,h4,rfl⟩:=fin2
  refine ⟨l0,ys,vd,rfl,rfl,h1,by rw [h2];exact hxz,?_⟩
  have hWl:=sw2 l0 h3
  have sF:=s2.write hlS ht hv2 h3 Zv ⟨_,Qh,rfl⟩ h4 nd2 (λa ha=>.inl ha)
  have fF:=(fs.trans pd.fr).write hWl (s2.wd l0 hWl) (H':=upd H2 l0 (.lst (ys++[vd]))) Zv ⟨_,Qh,rfl⟩ (F':=fp2 i) (λa ha=>.inl (sw2 a ha))
  rw [List.set_set] at sF
  exact l.nx R σ _ _ _ sF fF qn
 refine ⟨Nat.zero_le _,λpn hpn=>?_⟩
 have smn:Same H1 (upd H1 pn (.lst [])):=Qj hpn
 have sn:=p.sr.same smn
 have fn1:FrW H W1 (upd H1 pn (.lst [])) W1:=p.fr.trans (FrW.same W1 smn)
 obtain ⟨fp1,s1⟩:=id sn
 obtain ⟨v1,hv1,r1⟩:=s1.at_ i _ hl0
 have:v1=v0:=by rw [hv0] at hv1;cases hv1;rfl
 subst this
 obtain ⟨nd1,sw1⟩:=s1.own i _ hl0 ht
 have hpnW:¬W1 pn:=p.sr.nw hpn
 have hpnR:¬R pn:=p.sr.nr hpn
 have hpn0:H pn=none:=sm1.free hpn
 have rep1:∃(a:Addr) (kv:List (Key × V)) (F:List Addr),v1=.ref a/\upd H1 pn (.lst []) a=some (.dK kv)/\RepK X.K (upd H1 pn (.lst [])) kvs kv F/\fp1 i=a::F:=by
  generalize fp1 i=Fi at r1
  cases r1 with
  | @dik a kv _ F e1 r=>exact ⟨a,kv,F,rfl,e1,r,rfl⟩
 obtain ⟨a,kv,F,rfl,e1,r,hfp⟩:=rep1
 rw [hfp] at nd1 sw1
 obtain ⟨na,nF⟩:=List.nodup_cons.mp nd1
 refine ⟨a,kv,k,.ref pn,rfl,rfl,e1,by rw [r.length];exact hz,λy hy=>?_,λhn=>?_⟩
 ·have hs:(valD kvs k).isNone=false:=by
   rcases r.val k with ⟨_,h2⟩ | ⟨d,v,B,h1,_⟩
   ·rw [hy] at h2;cases h2
   ·rw [h1];rfl
  have e2:Zi kvs k=kvs:=by unfold Zi;rw [hs];rfl
  refine fin _ W1 y ?_ fn1 (by rw [e2];exact hnd) λa' kv' ea ha=>?_
  ·rw [e2,Qhj hl0];exact sn
  ·cases ea
   rw [e1] at ha
   cases ha
   exact hy
 ·have hs:valD kvs k=none:=by
   rcases r.val k with ⟨h1,_⟩ | ⟨d,v,B,_,h2,_⟩
   ·exact h1
   ·rw [hn] at h2;cases h2
  have e2:Zi kvs k=kvs++[(k,.lst [])]:=by unfold Zi;rw [hs];rfl
  have hapn:a≠pn:=λz=>hpnW (z ▸ sw1 a List.mem_cons_self)
  have hput:=Qms (V.ref pn) hn
  have rN:Rep X.K (upd (upd H1 pn (.lst [])) a (.dK (putK kv k (.ref pn)))) (.dik (Zi kvs k)) (.ref a) (a::(F++[pn])):=by
   rw [e2,hput]
   refine .dik Qh ((r.upd e1 rfl na).append ?_)
   have:Rep X.K (upd (upd H1 pn (.lst [])) a (.dK (kv++[(k,.ref pn)]))) (.lst []) (.ref pn) [pn]:=.lst (by rw [Qk (Ne.symm hapn),Qh]) .nil
   have:=RepK.cons (k:=k) this .nil
   simpa using this
  have ndN:(a::(F++[pn])).Nodup:=by
   refine List.nodup_cons.mpr ⟨λh=>?_,Xf nF (by simp) λb hb hf=>?_⟩
   ·rcases List.mem_append.mp h with h | h
    ·exact na h
    ·exact hapn (List.mem_singleton.mp h)
   ·rw [List.mem_singleton.mp hb] at hf
    exact hpnW (sw1 pn (List.mem_cons_of_mem _ hf))
  have hWa:=sw1 a List.mem_cons_self
  have sN:=s1.write hl0 ht hv1 (by rw [hfp];exact List.mem_cons_self) Zv ⟨_,Qh,rfl⟩ rN ndN (λb hb=>by
   rcases List.mem_cons.mp hb with rfl | hb
   ·exact .inl (by rw [hfp];exact List.mem_cons_self)
   ·rcases List.mem_append.mp hb with hb | hb
    ·exact .inl (by rw [hfp];exact List.mem_cons_of_mem _ hb)
    ·rw [List.mem_singleton.mp hb];exact .inr ⟨hpnW,hpnR⟩)
  have fN:=fn1.write (H':=upd (upd H1 pn (.lst [])) a (.dK (putK kv k (.ref pn)))) (F':=a::(F++[pn])) hWa (s1.wd a hWa) Zv ⟨_,Qh,rfl⟩ (λb hb=>by
   rcases List.mem_cons.mp hb with rfl | hb
   ·exact .inl hWa
   ·rcases List.mem_append.mp hb with hb | hb
    ·exact .inl (sw1 b (List.mem_cons_of_mem _ hb))
    ·rw [List.mem_singleton.mp hb];exact .inr hpn0)
  refine fin _ _ (.ref pn) sN fN (by rw [e2];exact Qsr hnd hs) λa' kv' ea ha=>?_
  cases ea
  rw [Qh] at ha
  cases ha
  rw [Qmk,if_pos rfl]
end
end PV
namespace PV
open PySem PySem.Spec L2
section
variable {X:Cx} {T:Tg} {m o m0 m1 m2 m3 o1 o2:Bool} {e a b:Expr} {w wa wb we:WE} {pos p2 p:Pos} {es:List Expr} {wr:WA} {x:Str} {wt:WT}
def Qfq (wa wb:WE):WE:=λρ Q=>wa ρ λd ρ1=>match d with
 | .bl c=>if c=true then wb ρ1 Q else Q (.bl false) ρ1
 | _=>False
def wOrV (wa wb:WE):WE:=λρ Q=>wa ρ λd ρ1=>match d with
 | .bl c=>if c=true then Q (.bl true) ρ1 else wb ρ1 Q
 | _=>False
variable {rest:List Expr}
theorem Post.after {K:PySem.W.Frag} {z:Nat->V} {R:Addr->Prop} {H H1 H2:Hp} {W W1 W2:Addr->Prop} {σ:St} {ρ ρ1 ρ2:Env} {d1 d2:D} {v1 v2:V} {F1 F2:List Addr} (p:Post K T z R m1 o1 H W σ ρ H1 W1 ρ1 d1 v1 F1) (q:Post K T z R m2 o2 H1 W1 σ ρ1 H2 W2 ρ2 d2 v2 F2) :
  Post K T z R (m1 || m2) o2 H W σ ρ H2 W2 ρ2 d2 v2 F2:=⟨q.sr,p.fr.trans q.fr,p.calm2 q,q.rep,p.lastOwn q⟩
theorem Qez {op} (h:EV X T m o a w):EV X T m o (.BoolOp op [a] pos) w:=by
 obtain ⟨t,pt,g⟩:=h
 exact ⟨t,Qsa pt,g⟩
theorem Qe2 (ha:EV X T m1 o1 a wa) (hb:EV X T m2 true (.BoolOp .And (b::rest) pos) wb):EV X T (m1 || m2) true (.BoolOp .And (a::b::rest) pos) (Qfq wa wb):=by
 obtain ⟨ta,pa,ga⟩:=ha
 obtain ⟨tb,pb,gb⟩:=hb
 refine ⟨_,Qse pa pb,λz R σ H W ρ Q Q' s hw k=>ga z R σ H W ρ _ _ s hw λv H1 W1 d ρ1 F p q=>?_⟩
 cases d with
 | bl c =>
  refine ⟨c,Qhl p.rep,?_⟩
  cases c with
  | true=>exact gb z R σ H1 W1 ρ1 Q Q' p.sr q λv2 H2 W2 d2 ρ2 F2 q2 hq=>k v2 H2 W2 d2 ρ2 F2 (p.after q2) hq
  | false=>exact k _ H1 W1 (.bl false) ρ1 [] ⟨p.sr,p.fr,λh=>p.calm (Bool.or_eq_false_iff.mp h).1,.bl false,λ_=>⟨List.nodup_nil,λa m=>nomatch m⟩⟩ q
 | _=>exact q.elim
def Qo9 (wa:WE):WE:=λρ Q=>wa ρ λd ρ1=>match d with
 | .bl c=>Q (.bl (!c)) ρ1
 | _=>False
theorem Qtj (ha:EV X T m o a wa):EV X T m true (.UnaryOp .Not a pos) (Qo9 wa):=by
 obtain ⟨ta,pa,ga⟩:=ha
 refine ⟨_,Qsb pa,λz R σ H W ρ Q Q' s hw k=>ga z R σ H W ρ _ _ s hw λv H1 W1 d ρ1 F p q=>?_⟩
 cases d with
 | bl c=>exact ⟨c,Qhl p.rep,k _ H1 W1 (.bl (!c)) ρ1 [] (Post.flat p.sr p.fr p.calm (.bl _)) q⟩
 | _=>exact q.elim
end
end PV
namespace PV
open PySem PySem.Spec L2
theorem J1:bootBuiltins "isinstance" = some (.builtin "isinstance"):=by decide +kernel
theorem Qo1:bootBuiltins "min" = some (.builtin "min"):=by decide +kernel
theorem Vy:bootBuiltins "len" = some (.builtin "len"):=by decide +kernel
theorem Qo2:bootBuiltins "int" = some (.type "int"):=by decide +kernel
theorem Qrg:bootBuiltins "bool" = some (.type "bool"):=by decide +kernel
theorem Qd4:bootBuiltins "list" = some (.type "list"):=by decide +kernel
theorem Uo:bootBuiltins "tuple" = some (.type "tuple"):=by decide +kernel
def Q0 (w:WE):WE:=λρ Q=>w ρ λd ρ'=>d.pure=true/\Q d ρ'
def Cal (P:Program) (w:World) (K:PySem.W.Frag) (mg:Str->Option Value) (base:Heap) (x:Str) (k:Nat) (ps:List Str) (sp:Sp):Prop :=
 ∃f fd,FnOk P w K mg base CX0 k f fd ps sp/\mg x=some (.ref f)/\PySem.W.keepIn K (.ref f)=true/\Gw K fd ps []
section
variable {X:Cx} {T:Tg} {m o m0 m1 m2 m3 o1 o2:Bool} {e a b:Expr} {w wa wb we:WE} {pos p2 p:Pos} {es:List Expr} {wr:WA} {x:Str} {wt:WT} {k j:Nat} {ps:List Str}
theorem Qz (h:EV X T m o e w):EV X T m true e (Q0 w):=h.lift
theorem J0 {g:GA} (C:Cal X.prog X.w X.K X.mg X.base x k ps (spR X.K g)) (hr:Room k X.A) (ha:AV X T m o (e::es) wr) (hg:Gl X x:=by rfl)
  (hdb:(x == ("__debug__" : Str))=false:=by decide) (he:starEach (e::es) X.env=(false,eval e X.env)::starEach es X.env:=by rfl) (hpl:(backTo pos (starEach es X.env)).any (·.1)=false:=by rfl) :
  EV X T m true (.Call (.Name x p) (e::es) [] pos) (Qr g wr):=by
 obtain ⟨f,fd,F,h1,h2,h3⟩:=C
 exact Qq9 F hr h1 h2 h3 ha hg hdb he hpl
theorem Qy {i q:Nat} {g:GI} {wi:WI} (C:Cal X.prog X.w X.K X.mg X.base x k ps (spI X.K q g)) (hr:Room k X.A) (ha:AI X T m i q (e::es) wi) (ht:T.own i=true:=by rfl) (hg:Gl X x:=by rfl)
  (hdb:(x == ("__debug__" : Str))=false:=by decide) (he:starEach (e::es) X.env=(false,eval e X.env)::starEach es X.env:=by rfl) (hpl:(backTo pos (starEach es X.env)).any (·.1)=false:=by rfl) :
  EV X T true true (.Call (.Name x p) (e::es) [] pos) (Q6 i g wi):=by
 obtain ⟨f,fd,F,h1,h2,h3⟩:=C
 exact Qnq F hr h1 h2 h3 ha ht hg hdb he hpl
def Qny (sc scope:Scope) (N:List Str) (x:Str) (ix:List Nat):Bool :=
 (scope.kind == .function) && scope.names.all (λy=>y.2 != .cell) && scope.names.all (λy=>y.2 != .local || scope.names.lookup y.1 == some .local) && (scope.names.lookup x == some .local) &&
  scope.names.all (λy=>y.2 != .free || (sc.names.lookup y.1 == some .cell || sc.names.lookup y.1 == some .free)) &&
  ix.all (λi=>match N[i]? with | some y=>scope.names.lookup y == some .free | none=>false) && decide (bN N x ix).Nodup
structure CompB (X:Cx) (scope:Scope) (x:Str) (ix:List Nat):Prop where
 B:BlkScope X.env scope x
 hix:∀i∈ix,∃y,X.N[i]? = some y/\scope.names.lookup y=some .free
 hN:(bN X.N x ix).Nodup
theorem Vq {scope:Scope} {ix:List Nat} (sc:Scope) (N:List Str) (h:Qny sc scope N x ix=true) (h1:X.env.scope=sc:=by rfl) (h2:X.N=N:=by rfl):CompB X scope x ix:=by
 subst h1 h2
 simp only [Qny,Bool.and_eq_true,List.all_eq_true,Bool.or_eq_true,decide_eq_true_eq,beq_iff_eq,bne_iff_ne] at h
 obtain ⟨⟨⟨⟨⟨⟨a1,a2⟩,a3⟩,a4⟩,a5⟩,a6⟩,a7⟩:=h
 refine ⟨⟨a1,a2,λy hy e=>(a3 y hy).resolve_left (λz=>z e),a4,λy hy e=>(a5 y hy).resolve_left (λz=>z e)⟩,λi hi=>?_,a7⟩
 have:=a6 i hi
 cases q:X.N[i]? with
 | none=>rw [q] at this;cases this
 | some y =>
  rw [q] at this
  exact ⟨y,rfl,by simpa using this⟩
theorem Qdv {elt iter:Expr} {px:Pos} {scope:Scope} {ifs:List Expr} {ix:List Nat} (h:Qff X T m elt iter x px scope ifs ix w) (B:CompB X scope x ix) (hc:X.calm=true:=by rfl)
  (hs:∀x,foldedSetIterable iter X.env x=pure x:=by intro _;rfl):EV X T m true (.ListComp elt [⟨.Name x px,iter,ifs,0⟩] scope pos) w:=Qq8 h B.B B.hix B.hN hc hs
theorem Qhi {elt iter:Expr} {y:Str} {px py spos:Pos} {scope:Scope} {ifs:List Expr} {ix:List Nat} {j:Nat} (h:Qff X T m elt iter x px scope ifs ix w) (B:CompB X scope x ix) (hNd:X.N.Nodup)
  (hj:X.N[j]? = some y:=by rfl) (hy:Loc X.env.scope y:=by first | exact Or.inl rfl | exact Or.inr rfl) (hio:j∉T.io:=by decide)
  (hsw:swapsWith (.ListComp elt [⟨.Name x px,iter,ifs,0⟩] scope pos) (some (.Name y py)) spos.line X.env=pure true:=by rfl)
  (hf:X.fn y=true\/X.env.scope.names.lookup y=some .local:=by first | exact .inl rfl | exact .inr rfl | assumption) (hc:X.calm=true:=by rfl)
  (hs:∀x,foldedSetIterable iter X.env x=pure x:=by intro _;rfl):SV X T (.Assign [.Name y py] (.ListComp elt [⟨.Name x px,iter,ifs,0⟩] scope pos) spos) (wSet j w):=Qpk h B.B hNd B.hix B.hN hj hy hio hsw hf hc hs
end
end PV
namespace PV
open PySem PySem.Spec L2
section
variable {X:Cx} {T:Tg} {m o m0 m1 m2 m3 o1 o2:Bool} {e a b:Expr} {w wa wb we:WE} {pos p2 p:Pos} {es:List Expr} {wr:WA} {x y:Str} {wt:WT} {ws:WS}
def U2 (wd wk wx:WE):WE:=λρ Q=>wd ρ λd ρ1=>noDct d=false/\wk ρ1 λk ρ2=>wx ρ2 λx ρ3=>x.pure=true/\Qrb d k x λr=>r.pure=true/\Q r ρ3
where noDct:D->Bool
 | .dik _=>false
 | .dit _=>false
 | _=>true
theorem Rep.isD {K:PySem.W.Frag} {H:Hp} {d:D} {v:V} {F:List Addr} (r:Rep K H d v F) (h:U2.noDct d=false):∃a,v=.ref a/\IsD H a:=by
 cases r with
 | dik e _=>exact ⟨_,rfl,.inl ⟨_,.of e⟩⟩
 | dit e _=>exact ⟨_,rfl,.inr ⟨_,.of e⟩⟩
 | _=>cases h
theorem Qle {oe ek ex:Expr} {wd wk wx:WE} {apos cpos:Pos} (hu:X.A.units+1<cLine) (hd:EV X T false o1 oe wd) (hk:EV X T false o2 ek wk) (hx:EV X T false o ex wx)
  (m:M2 X oe "get" apos ek ex cpos:=by exact ⟨rfl,rfl,rfl,rfl⟩):EV X T false true (.Call (.Attribute oe "get" apos) [ek,ex] [] cpos) (U2 wd wk wx):=by
 obtain ⟨td,pd,gd⟩:=hd
 obtain ⟨tk,pk,gk⟩:=hk
 obtain ⟨tx,px,gx⟩:=hx
 refine ⟨_,Qm6 hu pd pk px m,λz R σ H W ρ Q Q' s hw k=>?_⟩
 refine gd z R σ H W ρ _ _ s hw λv H1 W1 d ρ1 F p ⟨hn,q⟩=>?_
 obtain ⟨sm1,rfl,rfl⟩:=p.calm rfl
 obtain ⟨ad,rfl,isd⟩:=p.rep.isD hn
 refine ⟨ad,rfl,isd,gk z R σ H1 W1 ρ1 _ _ p.sr q λvk H2 W2 kd ρ2 F2 p2 q2=>?_⟩
 obtain ⟨sm2,rfl,rfl⟩:=p2.calm rfl
 refine gx z R σ H2 W2 ρ2 _ _ p2.sr q2 λvx H3 W3 xd ρ3 F3 p3 q3=>?_
 obtain ⟨sm3,rfl,rfl⟩:=p3.calm rfl
 obtain ⟨hxp,q⟩:=q3
 obtain ⟨-,rx⟩:=p3.rep.pure hxp
 have rd:=(p.rep.same sm2).same sm3
 have rk:=p2.rep.same sm3
 have fin:∀(o':Option V) (od:Option D),((od=none/\o'=none)\/∃d v B,od=some d/\o'=some v/\Rep X.K H3 d v B)->((od.getD xd).pure=true/\Q (od.getD xd) ρ3)->Q' (o'.getD vx) H3:=λo' od hh ⟨hp,hq⟩=>by
  have sm:Same H H3:=(sm1.trans sm2).trans sm3
  rcases hh with ⟨rfl,rfl⟩ | ⟨dd,v,B,rfl,rfl,r⟩
  ·exact k _ H3 W3 _ ρ3 [] (Post.flat p3.sr (FrW.same W3 sm) (λ_=>⟨sm,rfl,rfl⟩) rx) hq
  ·obtain ⟨-,r⟩:=r.pure hp
   exact k _ H3 W3 _ ρ3 [] (Post.flat p3.sr (FrW.same W3 sm) (λ_=>⟨sm,rfl,rfl⟩) r) hq
 cases rd with
 | @dik a kvs ds G e r =>
  cases kd with
  | int i =>
   have:=Qj2 rk;subst this
   refine ⟨valV kvs (.inl i),DGet.k (k:=.inl i) e,fin _ (valD ds (.inl i)) ?_ q⟩
   rcases r.val (.inl i) with h | ⟨d,v,B,h1,h2,h3,_⟩
   ·exact .inl h
   ·exact .inr ⟨d,v,B,h1,h2,h3⟩
  | str i =>
   have:vk=.str i:=by cases rk;rfl
   subst this
   refine ⟨valV kvs (.inr i),DGet.k (k:=.inr i) e,fin _ (valD ds (.inr i)) ?_ q⟩
   rcases r.val (.inr i) with h | ⟨d,v,B,h1,h2,h3,_⟩
   ·exact .inl h
   ·exact .inr ⟨d,v,B,h1,h2,h3⟩
  | _=>exact (show False from q).elim
 | @dit a kvs ds G e r =>
  cases kd with
  | tup l =>
   obtain ⟨ks,hks,q⟩:=Qq q
   cases rk with
   | @tup b xs _ _ eb rb =>
    have hx:=rb.keys hks
    subst hx
    refine ⟨valV kvs ks,DGet.t (k:=ks) e eb,fin _ (valD ds ks) ?_ q⟩
    rcases r.val ks with h | ⟨d,v,B,h1,h2,h3,_⟩
    ·exact .inl h
    ·exact .inr ⟨d,v,B,h1,h2,h3⟩
  | _=>exact (show False from q).elim
 | _=>cases hn
end
end PV
namespace PV
open PySem PySem.Spec L2
section
variable {X:Cx} {T:Tg} {m o m0 m1 m2 m3 o1 o2:Bool} {e a b:Expr} {w wa wb we:WE} {pos p2 p:Pos} {es:List Expr} {wr:WA} {x y:Str} {wt:WT} {ws:WS}
def kD:Key->D
 | .inl i=>.int i
 | .inr x=>.str x
theorem Qoi {K:PySem.W.Frag} {H:Hp} (k:Key):Rep K H (kD k) (kV k) []:=by
 cases k with
 | inl i=>exact .int i
 | inr x=>exact .str x
def Xx (kvs:List (Key × D)):List D:=kvs.map λkv=>kD kv.1
def Qtx (w:WE):WL:=λρ Q=>w ρ λd ρ'=>match d with
 | .dik kvs=>Q (Xx kvs) ρ'
 | _=>False
end
end PV
namespace PV
open PySem PySem.Spec L2
open PySem.W (Dat kqdP kqdPs kqdOk)
section
variable {X:Cx}
def Qiu (ds es:List (Key × D)):Prop:=ds.length=es.length/\∀p∈ds,valD es p.1=some p.2
def eqK (ds es:List (Key × D)):Prop:=(∀p∈ds,eqOk 9 p.2=true)/\∀k d,valD es k=some d->eqOk 9 d=true
def dkD:D->Option (List (Key × D))
 | .dik ds=>some ds
 | .fdk ds=>some ds
 | _=>none
def dEqK (neg:Bool):G2:=λx y k=>oget (dkD x) λds=>oget (dkD y) λes=>eqK ds es/\(Qiu ds es->k (.bl (!neg)))/\(¬Qiu ds es->k (.bl neg))
end
end PV
namespace PV
open PySem PySem.Spec L2
section
variable {X:Cx} {T:Tg} {m o m0 m1 m2 m3 o1 o2:Bool} {e a b:Expr} {w wa wb we:WE} {pos p2 p:Pos} {es:List Expr} {wr:WA} {x y:Str} {wt:WT} {ws:WS}
def Qtn:GA
 | [.dik kvs],k=>k (.lst (Xx kvs))
 | _,_=>False
def Yb:G2
 | .int i,.int j,k=>k (.int (i+j))
 | .str x,.str y,k=>x.length+y.length<=sizeLine/\k (.str (x++y))
 | .tup xs,.tup ys,k=>Qg xs=true/\Qg ys=true/\xs.length+ys.length<=sizeLine/\k (.tup (xs++ys))
 | .lst xs,.lst ys,k=>Qg xs=true/\Qg ys=true/\xs.length+ys.length<=sizeLine/\k (.lst (xs++ys))
 | _,_,_=>False
theorem Qn6 {a b:D} {k:D->Prop} (g:Yb a b k):(∃i j,a=.int i/\b=.int j)\/(∃i j,a=.str i/\b=.str j)\/(∃i j,a=.lst i/\b=.lst j)\/∃i j,a=.tup i/\b=.tup j:=by
 cases a with
 | int i=>cases b with
  | int j=>exact .inl ⟨i,j,rfl,rfl⟩
  | _=>exact (show False from g).elim
 | str i=>cases b with
  | str j=>exact .inr (.inl ⟨i,j,rfl,rfl⟩)
  | _=>exact (show False from g).elim
 | lst i=>cases b with
  | lst j=>exact .inr (.inr (.inl ⟨i,j,rfl,rfl⟩))
  | _=>exact (show False from g).elim
 | tup i=>cases b with
  | tup j=>exact .inr (.inr (.inr ⟨i,j,rfl,rfl⟩))
  | _=>cases i <;> exact (show False from g).elim
 | _=>exact (show False from g).elim
theorem Q3:OpD X (binaryOp .Add) Yb:=by
 obtain ⟨r0,o0,g0⟩:=Qsq (X:=X)
 refine ⟨_,OpR.or Qqj o0,λH a b x y F1 F2 k Q ra rb g q=>?_⟩
 rcases Qn6 g with ⟨i,j,rfl,rfl⟩ | ⟨i,j,rfl,rfl⟩ | ⟨i,j,rfl,rfl⟩ | ⟨i,ys,rfl,rfl⟩
 ·exact .inr (g0 H _ _ x y F1 F2 k Q ra rb g q)
 ·exact .inr (g0 H _ _ x y F1 F2 k Q ra rb g q)
 ·exact .inr (g0 H _ _ x y F1 F2 k Q ra rb g q)
 ·cases i with
  | nil =>
   cases ra with
   | @tup p _ _ _ e1 r1 =>
    cases r1
    cases rb with
    | @tup p' us _ _ e2 r2=>exact .inl ⟨p,p',us,rfl,rfl,.of e1,.of e2,q _ _ _ _ (.flat (.tup e2 (r2.pure g.2.1).2)) g.2.2.2⟩
  | cons d xs=>exact .inr (g0 H _ _ x y F1 F2 k Q ra rb ⟨g.1,g.2.1,by simp,g.2.2⟩ q)
def dSlT:D->Option Int->Option Int->(D->Prop)->Prop
 | .lst xs,lo,hi,k=>Qg xs=true/\k (.lst (cutD xs lo hi))
 | .kls xs,lo,hi,k=>Qg xs=true/\k (.lst (cutD xs lo hi))
 | .tup xs,lo,hi,k=>Qg xs=true/\k (.tup (cutD xs lo hi))
 | _,_,_,_=>False
theorem Qpp {d:D} {lo hi:Option Int} {k:D->Prop} (g:dSlT d lo hi k):(∃ds,d=.lst ds)\/(∃ds,d=.kls ds)\/∃ds,d=.tup ds:=by
 cases d with
 | lst ds=>exact .inl ⟨ds,rfl⟩
 | kls ds=>exact .inr (.inl ⟨ds,rfl⟩)
 | tup ds=>exact .inr (.inr ⟨ds,rfl⟩)
 | _=>exact (show False from g).elim
theorem Qpo:SlR X (λx lo hi H Q=>(rSlL X.K x lo hi H Q\/rSlT X.K x lo hi H Q)\/rSlW X.K x lo hi H Q):=SlR.or Qrw Qpm
def wSlT (w:WE) (wl wh:WO):WE:=λρ Q=>w ρ λd ρ1=>wl ρ1 λlo ρ2=>wh ρ2 λhi ρ3=>dSlT d lo hi λd'=>Q d' ρ3
theorem Qls {xs:List D} {lo hi:Option Int} (h:HT.sIx xs.length 0 lo=0/\HT.sIx xs.length xs.length hi=xs.length):cutD xs lo hi=xs:=by
 unfold cutD
 rw [h.1,h.2]
 simp
theorem Z1 {lo hi:Option Expr} {wl wh:WO} (he:EV X T m1 o1 e w) (hl:OV X T m2 lo wl) (hh:OV X T m3 hi wh) (hc:o1=true\/(m2 || m3)=false:=by first | exact .inl rfl | exact .inr rfl) :
  EV X T (m1 || (m2 || m3)) true (.Subscript e (.Slice lo hi none p2) pos) (wSlT w wl wh):=by
 obtain ⟨te,pe,ge⟩:=he
 obtain ⟨tl,pl,gl⟩:=hl
 obtain ⟨th,ph,gh⟩:=hh
 refine ⟨_,Qm3 Qpo pe pl ph,λz R σ H W ρ Q Q' s hw k=>?_⟩
 refine ge z R σ H W ρ _ _ s hw λv H1 W1 d ρ1 F p q=>?_
 refine gl z R σ H1 W1 ρ1 _ _ p.sr q λlo H2 W2 ρ2 p2 q2=>?_
 refine gh z R σ H2 W2 ρ2 _ _ p2.sr q2 λhi H3 W3 ρ3 p3 q3=>?_
 have pp:=p2.seq p3
 have r3:Rep X.K H3 d v F:=by
  rcases hc with hc | hc
  ·exact p.rep.keep pp.fr λa h=>((p.own hc).2 a h).2
  ·exact p.rep.same (pp.calm hc).1
 have fin:∀ad d' v' Fn,Fin X.K H3 ad d' v' Fn->Q d' ρ3->Q' v' ad:=λH' d' v' F' fi hq=>by
  refine k v' H' W3 d' ρ3 F' (Post.fin p3.sr (p.fr.trans pp.fr) (λh=>?_) fi.same fi.rep fi.nd fi.new) hq
  rw [Bool.or_eq_false_iff] at h
  obtain ⟨a1,a2,a3⟩:=p.calm h.1
  obtain ⟨b1,b2,b3⟩:=pp.calm h.2
  exact ⟨a1.trans b1,b2.trans a2,b3.trans a3⟩
 have q4:dSlT d lo hi λd'=>Q d' ρ3:=q3
 clear q3
 rcases Qpp q4 with ⟨ds,rfl⟩ | ⟨ds,rfl⟩ | ⟨ds,rfl⟩
 ·have q3:=q4
  cases r3 with
  | @lst a xs _ F e1 r9 =>
   obtain ⟨hp,hq⟩:=q3
   obtain ⟨_,r9⟩:=r9.pure hp
   exact .inl (.inl ⟨a,xs,rfl,.of e1,λl hl=>fin _ _ _ [l] ⟨Qj hl,.lst Qh (r9.cut.same (Qj hl)),by simp,λb m=>by rw [List.mem_singleton.mp m];exact hl⟩ hq⟩)
 ·have q3:=q4
  cases r3 with
  | @kls a xs _ e1 r9 =>
   obtain ⟨hp,hq⟩:=q3
   exact .inl (.inl ⟨a,xs,rfl,e1.sq,λl hl=>fin _ _ _ [l] ⟨Qj hl,.lst Qh (r9.cut.same (Qj hl)),by simp,λb m=>by rw [List.mem_singleton.mp m];exact hl⟩ hq⟩)
 ·have q3:=q4
  cases r3 with
  | @tup a xs _ F e1 r9 =>
   obtain ⟨hp,hq⟩:=q3
   obtain ⟨_,r9⟩:=r9.pure hp
   by_cases hn:HT.sIx ds.length 0 lo=0/\HT.sIx ds.length ds.length hi=ds.length
   ·rw [Qls hn] at hq
    exact .inr ⟨a,xs,rfl,.of e1,by rw [r9.length];exact hn,fin _ _ _ [] (.flat (.tup e1 r9)) hq⟩
   ·exact .inl (.inr ⟨a,xs,rfl,.of e1,by rw [r9.length];exact hn,λl hl=>fin _ _ _ [] ⟨Qj hl,.tup Qh (r9.cut.same (Qj hl)),by simp,λb m=>nomatch m⟩ hq⟩)
def Qfn (wd wk wx:WE):WE:=λρ Q=>wd ρ λd ρ1=>U2.noDct d=false/\wk ρ1 λk ρ2=>wx ρ2 λx ρ3=>Qrb d k x λr=>Q r ρ3
def Qqz:GM
 | .dik _,[],k=>k .non (.dik [])
 | _,_,_=>False
end
end PV
namespace PV
open PySem PySem.Spec L2
section
variable {κ:Type} [DecidableEq κ]
end
section
variable {K:PySem.W.Frag} {H:Hp}
end
section
variable {X:Cx} {T:Tg} {m o m0 m1 m2 m3 o1 o2:Bool} {e a b:Expr} {w wa wb we:WE} {pos p2 p:Pos} {es:List Expr} {wr:WA} {x y:Str} {wt:WT} {ws:WS}
def Qlk (d:D) (k:List (Key × D)->Prop):Prop:=match d with
 | .dik kvs=>k kvs
 | _=>False
def Qfk (i:Nat) (wv wi:WE):WS:=λP ρ=>wv ρ λd ρ1=>(look ρ1 i).isSome=true/\wi ρ1 λc _=>oget (look ρ1 i) λs=>Qlk s λkvs=>kvs.length<sizeLine/\(kvs.map (·.1)).Nodup /\
 oget (Qer c) λk=>P.nx (ρ1.set i (some (.dik (putD kvs k d))))
def Qhs (d:D) (k:List D->Prop):Prop:=match d with
 | .lst xs=>k xs
 | _=>False
def wDka (i:Nat) (wk wv:WE):WS:=λP ρ=>oget (look ρ i) λs=>Qlk s λkvs=>(kvs.map (·.1)).Nodup/\wk ρ λkd _=>oget (Qer kd) λk=>oget (valD kvs k) λl=>Qhs l λxs =>
 xs.length<sizeLine/\wv ρ λd _=>d.pure=true/\P.nx (ρ.set i (some (.dik (putD kvs k (.lst (xs++[d]))))))
end
end PV
namespace PV
open PySem PySem.Spec L2
section
variable {X:Cx} {T:Tg} {m o m0 m1 m2 m3 o1 o2:Bool} {e a b:Expr} {w wa wb we:WE} {pos p2 p:Pos} {es:List Expr} {wr:WA} {x y:Str} {wt:WT} {ws:WS}
theorem SR0.freeze {K:PySem.W.Frag} {z:Nat->V} {R:Addr->Prop} {H:Hp} {W:Addr->Prop} {σ:St} {ρ:Env} {fp:Nat->List Addr} {s:Nat} {ds:List (Key × D)} {a:Addr} {kvs:List (Key × V)} {F:List Addr} {ob:Obj} (h:SR0 K T z R H W σ ρ fp)
  (hl:look ρ s=some (.dik ds)) (ht:T.own s=true) (hv:σ[s]? = some (some (.ref a))) (e:H a=some (.dK kvs)) (r:RepK K H ds kvs F) (hF:fp s=a::F) :
  SR K T z R (upd H a (.frz ob (.dK kvs))) (λb=>W b/\b≠a) σ (ρ.set s (some (.fdk ds))):=by
 obtain ⟨nd,sw⟩:=h.own s _ hl ht
 rw [hF] at nd sw
 obtain ⟨na,ndF⟩:=List.nodup_cons.mp nd
 have hWa:=sw a List.mem_cons_self
 have hRa:¬R a:=h.wr a hWa
 have hi:ImmK H (upd H a (.frz ob (.dK kvs))):=Ud e rfl
 have notin:∀j d,look ρ j=some d->j≠s->a∉fp j:=λj d hj hne ha=>by
  cases hto:T.own j with
  | true=>exact h.dis s j _ d hl hj ht hto (λz=>hne z.symm) a (by rw [hF];exact List.mem_cons_self) ha
  | false=>exact hRa (h.ro j d hj hto a ha)
 refine ⟨λj=>if j=s then F else fp j,?_,?_,?_,?_,?_,?_,?_,?_,h.fix⟩
 ·rw [List.length_set];exact h.len
 ·rintro b ⟨hb,hne⟩
  rw [Qk hne];exact h.wd b hb
 ·intro j d hj
  by_cases hjs:j=s
  ·subst hjs
   rw [Vp (Xw hl)] at hj
   cases hj
   exact ⟨_,hv,by rw [if_pos rfl];exact .fdk Qh (r.upd e rfl na)⟩
  ·rw [Qu hjs] at hj
   obtain ⟨u,h1,h2⟩:=h.at_ j d hj
   refine ⟨u,h1,?_⟩
   rw [if_neg hjs]
   exact h2.frame hi λb hb=>Qk λz=>notin j d hj hjs (z ▸ hb)
 ·intro j d hj hto
  by_cases hjs:j=s
  ·subst hjs
   simp only [if_pos]
   exact ⟨ndF,λb hb=>⟨sw b (List.mem_cons_of_mem _ hb),λz=>na (z ▸ hb)⟩⟩
  ·rw [Qu hjs] at hj
   simp only [if_neg hjs]
   exact ⟨(h.own j d hj hto).1,λb hb=>⟨(h.own j d hj hto).2 b hb,λz=>notin j d hj hjs (z ▸ hb)⟩⟩
 ·intro j d hj hto
  have hjs:j≠s:=λz=>by subst z;rw [ht] at hto;cases hto
  rw [Qu hjs] at hj
  simp only [if_neg hjs]
  exact h.ro j d hj hto
 ·exact λb hb hr=>h.wr b hb.1 hr
 ·intro b hr
  rw [Qk (show b≠a from λz=>hRa (z ▸ hr))];exact h.rd b hr
 ·intro j k d d' hj hk tj tk hne b hb hb'
  by_cases hjs:j=s
  ·subst hjs
   have hkj:k≠j:=λz=>hne z.symm
   rw [Qu hkj] at hk
   simp only [if_pos,if_neg hkj] at hb hb'
   exact h.dis j k _ d' hl hk ht tk hne b (by rw [hF];exact List.mem_cons_of_mem _ hb) hb'
  ·rw [Qu hjs] at hj
   simp only [if_neg hjs] at hb
   by_cases hks:k=s
   ·subst hks
    simp only [if_pos] at hb'
    exact h.dis j k d _ hj hl tj ht hne b hb (by rw [hF];exact List.mem_cons_of_mem _ hb')
   ·rw [Qu hks] at hk
    simp only [if_neg hks] at hb'
    exact h.dis j k d d' hj hk tj tk hne b hb hb'
def Ut (s:Nat):WL:=λρ Q=>oget (look ρ s) λc=>Qlk c λkvs=>Q (Xx kvs) (ρ.set s (some (.fdk kvs)))
theorem Qnh {tg:Expr} {s:Nat} (ht:T.own s=true:=by rfl) (hN:X.N[s]? = some x:=by rfl) (hv:Vis X.env.scope x:=by first | exact Or.inl rfl | exact Or.inr (Or.inl rfl) | exact Or.inr (Or.inr rfl)) (hd:(x == ("__debug__" : Str))=false:=by decide)
  (hcd:(x == ("__classdict__" : Str))=false:=by decide):IV X T true true tg (.Name x p) (Ut s):=by
 refine ⟨_,Qp7 (Ua hN hv hd hcd),λz R σ H W ρ Q RR sr hw k=>?_⟩
 obtain ⟨c,hl,hw⟩:=Qq hw
 obtain ⟨ds,rfl⟩:∃ds,c=D.dik ds:=by
  clear hl
  cases c with
  | dik ds=>exact ⟨ds,rfl⟩
  | _=>exact (show False from hw).elim
 obtain ⟨fp,s0⟩:=id sr
 obtain ⟨v,hv0,r0⟩:=s0.at_ s _ hl
 obtain ⟨a,kvs,F,rfl,e,r,hF⟩:∃(a:Addr) (kvs:List (Key × V)) (F:List Addr),v=.ref a/\H a=some (.dK kvs)/\RepK X.K H ds kvs F/\fp s=a::F:=by
  generalize fp s=Fi at r0
  cases r0 with
  | @dik a kv _ F e1 r=>exact ⟨a,kv,F,rfl,e1,r,rfl⟩
 have hWa:W a:=(s0.own s _ hl ht).2 a (by rw [hF];exact List.mem_cons_self)
 refine ⟨_,hv0,a,kvs,rfl,e,λob=>k _ _ (λb=>W b/\b≠a) (Xx ds) _ ⟨s0.freeze hl ht hv0 e r hF,⟨λb u eb nb=>?_,λb eb=>?_,Ud e rfl,λb hb=>.inl hb.1⟩,λh=>nomatch h⟩ ?_ hw⟩
 ·rw [Qk (show b≠a from λz=>nb (z ▸ hWa))];exact eb
 ·by_cases hb:b=a
  ·rw [hb,Qh] at eb;cases eb
  ·rw [Qk hb] at eb;exact eb
 ·rw [Qfg]
  intro i H2 W2 f
  have e2:H2 a=some (.frz ob (.dK kvs)):=f.imm _ _ Qh rfl
  have hlen:kvs.length=ds.length:=r.length
  refine ⟨λhi=>⟨e2,by rw [Xx,List.length_map] at hi;omega⟩,λd hd=>?_⟩
  have hi:i<ds.length:=by have:=(List.getElem?_eq_some_iff.mp hd).1;rwa [Xx,List.length_map] at this
  refine ⟨⟨e2,by omega⟩,λv H3 y=>?_⟩
  obtain ⟨rfl,kk,vv,hk,rfl⟩:=y
  obtain ⟨d',B,h1,h2,h3⟩:=r.get hk
  rw [Xx,List.getElem?_map,h1] at hd
  cases hd
  exact ⟨Same.refl _,[],Qoi kk,λa ha=>nomatch ha⟩
end
end PV
namespace PV
open PySem PySem.Spec L2
section
variable {X:Cx} {T:Tg} {m o m0 m1 m2 m3 o1 o2:Bool} {e a b:Expr} {w wa wb we:WE} {pos p2 p:Pos} {es:List Expr} {wr:WA} {x y:Str} {wt:WT} {ws:WS}
def zipD (kvs:List (Key × D)) (xs:List D):List D:=(kvs.zip xs).map λp=>.tup [kD p.1.1,p.2]
def wZip (wr:WA):WL:=λρ Q=>wr ρ λds ρ'=>match ds with
 | [.dik kvs,.lst xs]=>Qg xs=true/\Q (zipD kvs xs) ρ'
 | _=>False
end
end PV
namespace PV
open PySem PySem.Spec L2
section
variable {X:Cx} {T:Tg} {m o m0 m1 m2 m3 o1 o2:Bool} {e a b:Expr} {w wa wb we:WE} {pos p2 p:Pos} {es:List Expr} {wr:WA} {x y:Str} {wt:WT} {ws:WS}
def Qtd (i:Nat) (wi:WE):WG:=λd ρ Q=>(look ρ i).isSome=true/\wi ρ λc _=>oget (look ρ i) λs=>Qhs s λxs=>match c with
 | .int j=>oget (ixN xs.length j) λn=>Q (ρ.set i (some (.lst (xs.set n d))))
 | _=>False
end
end PV
namespace PV
open PySem PySem.Spec L2
section
variable {X:Cx} {T:Tg} {m o:Bool}
end
end PV
namespace PV
open PySem PySem.Spec L2
section
variable {X:Cx} {T:Tg} {m o m0 m1 m2 m3 o1 o2:Bool} {e a b:Expr} {w wa wb we:WE} {pos p2 p:Pos} {es:List Expr} {wr:WA} {x y:Str} {wt:WT} {ws:WS}
def dSum:GA
 | [.lst ds],k=>∃ns:List Int,ds=ns.map D.int/\k (.int ns.sum)
 | _,_=>False
def Qu6:GA
 | [.lst xs],k=>Qg xs=true/\k (.ftp xs)
 | _,_=>False
def Qtm:GA
 | [.dik kvs],k=>∃ns:List Int,kvs.map (·.1)=ns.map Sum.inl/\kvs.length<64/\∀out:List Int,out.Perm ns->out.Pairwise (· <= ·)->k (.lst (out.map D.int))
 | _,_=>False
def Qox (d:D) (ds:List D) (k:D->Prop):Prop:=match d,ds with
 | .ftp xs,[.int n]=>∃ns:List Int,xs=ns.map D.int/\k (.int (ns.count n:Nat))
 | _,_=>False
def isFt:D->Bool
 | .ftp _=>true
 | _=>false
def Qaq (w:WE) (wr:WA):WE:=λρ Q=>w ρ λd ρ1=>isFt d=true/\wr ρ1 λds ρ2=>Qox d ds λr=>Q r ρ2
def Qap (wk wv:WE):WE:=λρ Q=>wk ρ λkd ρ1=>wv ρ1 λd ρ2=>d.pure=true/\oget (Qer kd) λk=>Q (.dik [(k,d)]) ρ2
def Qfm (i j:Nat):WS:=λP ρ=>oget (look ρ j) λd=>P.nx ((ρ.set j none).set i (some d))
end
end PV
namespace PV
open PySem PySem.Spec L2
section
variable {X:Cx} {T:Tg} {m o m0 m1 m2 m3 me o1 o2:Bool} {e a b:Expr} {w wa wb we:WE} {pos p2 p:Pos} {es:List Expr} {wr:WA} {x y:Str} {wt:WT} {ws:WS}
def TB (q:Nat):Tg:={ own:=λi=>i == q,io:=[q] }
def Qar (i j:Nat) (wl:WL) (we:WE) (ix:List Nat):WE:=λρ Q=>wl ρ λds ρ1=>Qg ds=true/\oget (look ρ1 i) λd0=>V1 d0=true/\∃I:Nat->List D->D->Prop,I 0 [] d0 /\
 (∀k d ys dd,ds[k]? = some d->I k ys dd->ys.length<sizeLine/\we (blkE (ρ1.set i (some dd)) d ix) (λy ρ'=>oget (look ρ' (j+1)) λdd'=>V1 dd'=true/\I (k+1) (ys++[y]) dd')) /\
 ∀ys dd,I ds.length ys dd->ys.length<=sizeLine/\Q (.lst ys) (ρ1.set i (some dd))
end
end PV
namespace PV
open PySem PySem.Spec L2
open PyProof.Rows (envOfC)
section
variable {X:Cx} {T:Tg} {m o m0 m1 m2 m3 o1 o2:Bool} {e a b:Expr} {w wa wb we:WE} {pos p2 p:Pos} {es:List Expr} {wr:WA} {x y:Str} {wt:WT} {ws:WS} {k:Nat} {ps:List Str}
def Qao (wr:WA):WI:=λρ Q=>wr ρ λds ρ'=>Q [] ds ρ'
def Qam (w:WE) (wi:WI):WI:=λρ Q=>w ρ λd ρ1=>wi ρ1 λpre post ρ2=>Q (d::pre) post ρ2
def Qas (i:Nat) (g:GI) (wi:WI):WE:=λρ Q=>oget (look ρ i) λd0=>V1 d0=true/\wi ρ λpre post ρ1=>g (pre++d0::post) λd d'=>Q d (ρ1.set i (some d'))
end
section
variable {K:PySem.W.Frag} {x:Str} {qual:Str} {st:Stmt} {f:Addr} {fd:FuncData} {N ps:List Str} {T:Tg} {P:Program} {w:World} {mg:Str->Option Value} {base:Heap} {k:Nat} {ww:WS}
end
end PV
namespace L2
open PySem PySem.Spec PyProof.Rows
section
variable {X:Cx} {es:List Expr} {t:TA} {pos:Pos}
theorem Qm9:OpR X (binaryOp .FloorDiv) (rI (λ_ j=>0<j/\j<2 ^ 256) λi j=>.int (i / j)):=opI λi j _ _ _ _ _ hc q=>by
 have h1:(0:Int)<j:=hc.1
 refine floordiv_int (by omega) (by rw [Int.fdiv_eq_ediv_of_nonneg i (by omega)];exact q) (.inl (PyProof.noPylong_of_log2 ?_))
 have h2:j.natAbs<2 ^ 256:=by have:=hc.2;omega
 have h3:j.natAbs.log2<256:=(Nat.log2_lt (by omega)).mpr h2
 omega
def Qt4 (t:TA):TE:=λσ H Q=>t σ H λxs H1=>xs.length<=sizeLine/\∀p o,H1 p=none->Q (.ref p) (upd H1 p (.frz o (.lst xs)))
theorem Qqa (h:PA X es t):PE X (.List es pos) (Qt4 t):=by
 intro pins s σ H Q I hq
 refine wpAny_List_spliced (thn (h pos pins s σ H _ I hq) λus s1 ⟨xs,H1,I1,r,z,q⟩=>⟨by rw [← r.length];exact z,?_⟩)
 have hf:H1 s1.heap.objs.size=none:=I1.hok.fresh (Nat.le_refl _)
 refine ⟨.ref s1.heap.objs.size,upd H1 s1.heap.objs.size (.frz { cls:=.type "list",data:=.seq us.toArray } (.lst xs)),I1.laid (t':=s1.toks) (λb u e=>Heap.get?_push_of_some _ e) (Nat.le_refl _) ?_,rfl,q _ _ hf⟩
 exact ⟨Heap.get?_push_size _ rfl,z,us,0,r,Heap.get?_push_size _ rfl⟩
end
end L2
namespace PV
open PySem PySem.Spec L2
section
variable {X:Cx} {T:Tg} {m o m0 m1 m2 m3 me o1 o2:Bool} {e a b:Expr} {w wa wb we:WE} {pos p2 p:Pos} {es:List Expr} {wr:WA} {x y:Str} {wt:WT} {ws:WS}
def Qe4:G2
 | .int i,.int j,k=>0<j/\j<2 ^ 256/\k (.int (i / j))
 | _,_,_=>False
theorem Xv:OpD X (binaryOp .FloorDiv) Qe4:=by
 refine ⟨_,Qm9,λH a b x y F1 F2 k Q ra rb g q=>?_⟩
 (cases ra <;> first | exact (show False from g).elim | skip) <;> (cases rb <;> first | exact (show False from g).elim | skip)
 exact ⟨_,_,rfl,rfl,⟨g.1,g.2.1⟩,q _ _ _ _ (.flat (.int _)) g.2.2⟩
def Qfp (i:Nat) (g:G2) (wb:WE):WE:=λρ Q=>oget (look ρ i) λd1=>wb ρ λd2 ρ2=>look ρ2 i=some d1/\g d1 d2 λd=>Q d ρ2
def dAll:GA
 | [.lst ds],k=>∃bs:List Bool,ds=bs.map D.bl/\k (.bl (bs.all id))
 | _,_=>False
theorem Reps.of_bls {K:PySem.W.Frag} {H:Hp}:∀{bs:List Bool} {xs:List V} {F:List Addr},Reps K H (bs.map D.bl) xs F->xs=bs.map V.bl
 | [],_,_,r=>by cases r;rfl
 | b::bs,_,_,r=>by
  cases r with
  | cons h r=>cases h;rw [Reps.of_bls r];rfl
theorem Qo0 (hc:X.calm=true):Qeb X (.builtin "all") dAll:=by
 refine ⟨_,Qn2 hc,λH ds xs F k Q r g q=>?_⟩
 cases ds with
 | nil=>exact (show False from g).elim
 | cons d ds =>
  cases ds with
  | cons _ _=>cases d <;> exact (show False from g).elim
  | nil =>
   cases d with
   | lst es =>
    obtain ⟨v,rfl,rd⟩:=r.at1
    obtain ⟨bs,rfl,g⟩:=g
    cases rd with
    | lst e r9 =>
    have:=r9.of_bls
    subst this
    exact ⟨_,bs,rfl,e,q _ _ _ _ (.flat (.bl _)) g⟩
   | _=>exact (show False from g).elim
def Qan (wr:WA):WE:=λρ Q=>wr ρ λds ρ'=>Qg ds=true/\ds.length<=sizeLine/\Q (.fls ds) ρ'
theorem Qlc (h:AV X T m o es wr):EV X T m true (.List es pos) (Qan wr):=by
 obtain ⟨ta,pa,ga⟩:=h
 refine ⟨_,Qqa pa,λz R σ H W ρ Q Q' s hw k=>?_⟩
 refine ga z R σ H W ρ _ _ s hw λvs H1 W1 ds ρ1 F p q=>?_
 obtain ⟨hp,hz,q⟩:=q
 obtain ⟨-,r⟩:=p.rep.pure hp
 exact ⟨by rw [p.rep.length];exact hz,λa ob ha=>k _ _ W1 (.fls ds) ρ1 [] (Post.fin p.sr p.fr p.calm (Qj ha) (.fls Qh (r.same (Qj ha))) List.nodup_nil (λb m=>nomatch m)) q⟩
def Qrk (xs ys:List D):List D:=(xs.zip ys).map λp=>.tup [p.1,p.2]
def Qn9 (ds:List D) (k:List D->Prop):Prop:=match ds with
 | [.tup xs,.tup ys]=>Qg xs=true/\Qg ys=true/\k (Qrk xs ys)
 | _=>False
def Qfj (wr:WA):WL:=λρ Q=>wr ρ λds ρ'=>Qn9 ds λl=>Q l ρ'
def Xm (ρ:Env) (d1 d2:D) (ix:List Nat):Env:=some d1::some d2::ix.map (look ρ)
def two2 (d:D) (k:D->D->Prop):Prop:=match d with
 | .tup [a,b]=>k a b
 | .kc (.tup [a,b])=>k (kcD a) (kcD b)
 | _=>False
theorem two2_rep {K:PySem.W.Frag} {H:Hp} {d:D} {v:V} {F:List Addr} {k:D->D->Prop} (r:Rep K H d v F) (q:two2 d k):∃av v1 v2 d1 d2 F1 F2,v=.ref av/\SqT K H av [v1,v2]/\Rep K H d1 v1 F1/\Rep K H d2 v2 F2/\k d1 d2:=by
 cases r with
 | @tup a xs ds F e r =>
  match ds,r,q with
  | [d1,d2],r,q =>
   obtain ⟨v1,v2,F1,F2,rfl,r1,r2⟩:=r.at2
   exact ⟨a,v1,v2,d1,d2,F1,F2,rfl,.of e,r1,r2,q⟩
 | @kc c v h =>
  match c,h,q with
  | .tup [d1,d2],h,q =>
   obtain ⟨a,xs,rfl,hs,ar⟩:=h.sqT
   have r:Reps K H [kcD d1,kcD d2] xs []:=ar.reps
   obtain ⟨v1,v2,F1,F2,rfl,r1,r2⟩:=r.at2
   exact ⟨a,v1,v2,kcD d1,kcD d2,F1,F2,rfl,hs H,r1,r2,q⟩
 | _=>exact (show False from q).elim
def Qoz (ds:List D) (wt:WT) (we:WE) (ρ1:Env) (ix:List Nat) (Q:D->Env->Prop):Prop:=∃I:Nat->List D->Prop,I 0 [] /\
 (∀i d ys,ds[i]? = some d->I i ys->ys.length<sizeLine/\two2 d λd1 d2=>wt (Xm ρ1 d1 d2 ix) λb _=>if b=true then we (Xm ρ1 d1 d2 ix) (λy _=>I (i+1) (ys++[y])) else I (i+1) ys) /\
 ∀ys,I ds.length ys->ys.length<=sizeLine/\Q (.lst ys) ρ1
def Uu (wl:WL) (wt:WT) (we:WE) (ix:List Nat):WE:=λρ Q=>wl ρ λds ρ1=>Qoz ds wt we ρ1 ix Q
def Qmg (X:Cx) (T:Tg) (m:Bool) (elt iter tg:Expr) (ts:List Str) (gt:TG) (scope:Scope) (ifs:List Expr) (ix:List Nat) (w:WE):Prop :=
 ∃(wi:TI) (tt:TT) (te:TE),PI X tg iter wi/\(∀cl C s₀ H₀ fp,PIfs (Yz X scope cl C (bN2 X.N ts ix) s₀ H₀ fp) ifs tt)/\(∀cl C s₀ H₀ fp,PE (Yz X scope cl C (bN2 X.N ts ix) s₀ H₀ fp) elt te) /\
  ∀(z:Nat->V) (R:Addr->Prop) (σ:St) (H:Hp) (W:Addr->Prop) (ρ:Env) (Q:D->Env->Prop) (Q':VK),SR X.K T z R H W σ ρ->w ρ Q ->
   (∀v H' W' d ρ' F,Post X.K T z R m true H W σ ρ H' W' ρ' d v F->Q d ρ'->Q' v H')->Qoe ts wi gt tt te ix σ H Q'
theorem Qo3:bootBuiltins "all" = some (.builtin "all"):=by decide +kernel
def g2 (K:PySem.W.Frag):TG:=gTup K 2 (Qqy (Qdu 0) (Qqy (Qdu 1) gNil))
theorem Qnx {elt iter:Expr} {px py pt:Pos} {kt:Nat} {scope:Scope} {ifs:List Expr} {wl:WL} {pr:Bool} (ix:List Nat) (hi:IV X T m pr (.Tuple [.Name x px,.Name y py] kt pt) iter wl)
  (ht:∀cl C s₀ H₀ fp,CV (Yz X scope cl C (bN2 X.N [x,y] ix) s₀ H₀ fp) ifs wt) (he:∀cl C s₀ H₀ fp,EV (Yz X scope cl C (bN2 X.N [x,y] ix) s₀ H₀ fp) TR false true elt we) :
  Qmg X T m elt iter (.Tuple [.Name x px,.Name y py] kt pt) [x,y] (g2 X.K) scope ifs ix (Uu wl wt we ix):=by
 obtain ⟨wi,pi,gi⟩:=hi
 refine ⟨wi,λσ H Q=>∀cl C s₀ H₀ fp,Classical.choose (ht cl C s₀ H₀ fp) σ H Q,λσ H Q=>∀cl C s₀ H₀ fp,Classical.choose (he cl C s₀ H₀ fp) σ H Q,pi,
  λcl C s₀ H₀ fp pins s σ H Q I h=>(Classical.choose_spec (ht cl C s₀ H₀ fp)).1 pins s σ H Q I (h cl C s₀ H₀ fp),λcl C s₀ H₀ fp pins s σ H Q I h=>(Classical.choose_spec (he cl C s₀ H₀ fp)).1 pins s σ H Q I (h cl C s₀ H₀ fp),?_⟩
 intro z R σ H W ρ Q Q' s hw k
 refine gi z R σ H W ρ _ _ s hw λJ H1 W1 ds ρ1 p jd q=>?_
 obtain ⟨I,h0,hI,hd⟩:=q
 refine ⟨λi n ys H2=>n=ds.length-i/\i<=ds.length/\Same H1 H2/\∃es F,Reps X.K H2 es ys F/\F.Nodup/\(∀a∈F,H1 a=none)/\I i es,ds.length,⟨by simp,Nat.zero_le _,Same.refl _,[],[],.nil,List.nodup_nil,(λa m=>(nomatch m)),h0⟩,?_⟩
 rintro i n ys H2 ⟨rfl,hi,sm,es,F,re,nd,nw,i2⟩
 obtain ⟨j1,j2⟩:=jd i H2 (wz pr W1) (FrW.same _ sm)
 by_cases hlt:i<ds.length
 ·have hdi:ds[i]? = some ds[i]:=List.getElem?_eq_getElem hlt
  obtain ⟨hgo,hy⟩:=j2 _ hdi
  obtain ⟨hz,q1⟩:=hI i _ es hdi i2
  refine .inr ⟨hgo,by rw [re.length];exact hz,λv H3 yl o ol=>?_⟩
  obtain ⟨sm3,Fv,rv,_⟩:=hy v H3 yl
  generalize ds[i]=dd at q1 rv
  obtain ⟨av,v1,v2,d1,d2,F1,F2,rfl,ev,r1,r2,q1⟩:=two2_rep rv q1
  ··refine ⟨av,[v1,v2],rfl,ev,rfl,v1,[v2],rfl,v2,[],rfl,rfl,[some v1,some v2],?_,rfl,?_⟩
    ·match o,ol with
     | [o1,o2],_=>rfl
    have srB:∀z',SR X.K TR z' (Any H3) H3 (λ_=>False) (((bS2 σ o ix).set 0 (some v1)).set 1 (some v2)) (Xm ρ1 d1 d2 ix):=λz'=>by
     have eS:((bS2 σ o ix).set 0 (some v1)).set 1 (some v2)=bS2 σ [some v1,some v2] ix:=by
      match o,ol with
      | [o1,o2],_=>rfl
     rw [eS]
     refine SR.readonly rfl (by simp [bS2,Xm]) λj d hj=>⟨rfl,?_⟩
     match j with
     | 0 =>
      simp only [Xm,look,Option.some.injEq] at hj
      subst hj
      exact ⟨v1,F1,rfl,r1⟩
     | 1 =>
      simp only [Xm,look,Option.some.injEq] at hj
      subst hj
      exact ⟨v2,F2,rfl,r2⟩
     | j+2 =>
      have hj':look (ix.map (look ρ1)) j=some d:=hj
      rw [Qds] at hj'
      cases hx:ix[j]? with
      | none=>rw [hx] at hj';cases hj'
      | some q =>
       rw [hx] at hj'
       obtain ⟨fp,s1⟩:=(p.sr.same sm).same sm3
       obtain ⟨u,hu,ru⟩:=s1.at_ q d hj'
       refine ⟨u,fp q,?_,ru⟩
       show (ix.map λi=>(σ[i]?).getD none)[j]? = some (some u)
       rw [List.getElem?_map,hx]
       simp [hu]
    intro cl C s₀ H₀ fp
    refine (Classical.choose_spec (ht cl C s₀ H₀ fp)).2 (λ_=>.non) (Any H3) _ H3 (λ_=>False) (Xm ρ1 d1 d2 ix) _ _ (srB _) q1 λbb H4 W4 ρ4 p4 q4=>?_
    obtain ⟨sm4,hW4,hρ4⟩:=p4.calm rfl
    have re4:=((re.same sm3).same sm4)
    cases bb with
    | false=>exact ⟨ds.length-(i+1),by omega,rfl,hlt,(sm.trans sm3).trans sm4,es,F,re4,nd,nw,q4⟩
    | true =>
     show if true=true then _ else _
     rw [if_pos rfl]
     intro cl C s₀ H₀ fp
     refine (Classical.choose_spec (he cl C s₀ H₀ fp)).2 (λ_=>.non) (Any H3) _ H4 W4 (Xm ρ1 d1 d2 ix) _ _ (hρ4 ▸ p4.sr) (by simpa using q4) λu H5 W5 y ρ5 Fy p5 q5=>?_
     obtain ⟨sm5,_,_⟩:=p5.calm rfl
     obtain ⟨ny,ky⟩:=p5.own rfl
     have sm15:Same H1 H5:=((sm.trans sm3).trans sm4).trans sm5
     refine ⟨ds.length-(i+1),by omega,rfl,hlt,sm15,es++[y],F++Fy,(re4.same sm5).snoc p5.rep,Xf nd ny λa ha hf=>?_,λa ha=>?_,q5⟩
     ·obtain ⟨ob,e1,_⟩:=re4.dom a hf
      rw [(ky a ha).1] at e1;cases e1
     ·rcases List.mem_append.mp ha with ha | ha
      ·exact nw a ha
      ·exact ((sm.trans sm3).trans sm4).free (ky a ha).1
 ·have e:i=ds.length:=by omega
  subst e
  obtain ⟨hz,q1⟩:=hd es i2
  refine .inl ⟨j1 (Nat.le_refl _),by rw [re.length];exact hz,λl hl=>?_⟩
  have hl1:H1 l=none:=sm.free hl
  refine k _ _ W1 (.lst es) ρ1 (l::F) ⟨(p.sr.same sm).same (Qj hl),(p.fr.trans (FrW.same W1 sm)).trans (FrW.same W1 (Qj hl)),λh=>⟨((p.calm h).1.trans sm).trans (Qj hl),(p.calm h).2⟩,.lst Qh (re.same (Qj hl)),λ_=>⟨List.nodup_cons.mpr ⟨λh=>?_,nd⟩,λb hb=>?_⟩⟩ q1
  ·obtain ⟨ob,e1,_⟩:=re.dom l h
   rw [hl] at e1;cases e1
  ·rcases List.mem_cons.mp hb with rfl | hb
   ·exact ⟨p.fr.dom _ hl1,p.sr.nw hl1⟩
   ·exact ⟨p.fr.dom _ (nw b hb),p.sr.nw (nw b hb)⟩
structure CompB2 (X:Cx) (scope:Scope) (x y:Str) (ix:List Nat):Prop where
 B1:CompB X scope x ix
 B2:CompB X scope y ix
 nd:(bN2 X.N [x,y] ix).Nodup
theorem Qlx {scope:Scope} {ix:List Nat} (sc:Scope) (N:List Str) (h:(Qny sc scope N x ix && Qny sc scope N y ix && decide (bN2 N [x,y] ix).Nodup)=true) (h1:X.env.scope=sc:=by rfl) (h2:X.N=N:=by rfl):CompB2 X scope x y ix:=by
 simp only [Bool.and_eq_true,decide_eq_true_eq] at h
 exact ⟨Vq sc N h.1.1 h1 h2,Vq sc N h.1.2 h1 h2,by rw [h2];exact h.2⟩
theorem pg2 {scope:Scope} {ix:List Nat} {px py pt:Pos} {kt:Nat} (B:CompB2 X scope x y ix) (hc:X.calm=true) (cl:List (Str × Addr)) (C:Addr) (s₀:Shared) (H₀:Hp) (fp:List Addr) :
  PG (Yz X scope cl C (bN2 X.N [x,y] ix) s₀ H₀ fp) (.Tuple [.Name x px,.Name y py] kt pt) (g2 X.K):=by
 have l1:(Yz X scope cl C (bN2 X.N [x,y] ix) s₀ H₀ fp).env.scope.names.lookup x=some .local:=lookup_relabel_local B.B1.B.lx
 have l2:(Yz X scope cl C (bN2 X.N [x,y] ix) s₀ H₀ fp).env.scope.names.lookup y=some .local:=lookup_relabel_local B.B2.B.lx
 exact Qon hc (Qdm (Qgi (i:=0) B.nd rfl (.inl l1) (.inr l1)) (Qdm (Qgi (i:=1) B.nd rfl (.inl l2) (.inr l2)) Qkd))
end
end PV
namespace PV
open PySem PySem.Spec L2
open Builtin.Str (glued tooLong)
section
variable {X:Cx} {T:Tg} {m o m0 m1 m2 m3 me o1 o2:Bool} {e a b:Expr} {w wa wb we:WE} {pos p2 p:Pos} {es:List Expr} {wr:WA} {x y:Str} {wt:WT} {ws:WS}
def Qc4 (kvs:List (Key × D)):List D:=kvs.map λkv=>.tup [kD kv.1,kv.2]
def Qky (d:D) (k:List D->Prop):Prop:=match d with
 | .dik kvs=>k (Qc4 kvs)
 | _=>False
def Qjp (w:WE):WL:=λρ Q=>w ρ λd ρ'=>Qky d λds=>Q ds ρ'
theorem Qni {ts:List Expr} {kt:Nat} {pt:Pos} {oe:Expr} {apos cpos:Pos} (h:EV X T m true oe w) (hbase:attributeBase oe "items" X.env (eval oe X.env)=eval oe X.env:=by rfl) (hline:(apos.endLine == cpos.line)=true:=by rfl):IV X T m true (.Tuple ts kt pt) (.Call (.Attribute oe "items" apos) [] [] cpos) (Qjp w):=by
 obtain ⟨te,pe,ge⟩:=h
 refine ⟨_,Qm1 pe hbase hline,λz R σ H W ρ Q RR s hw k=>?_⟩
 refine ge z R σ H W ρ _ _ s hw λv H1 W1 d ρ1 F p q=>?_
 obtain ⟨es,rfl⟩:∃es,d=D.dik es:=by
  clear p
  cases d with
  | dik es=>exact ⟨es,rfl⟩
  | _=>exact (show False from q).elim
 obtain ⟨p1,p2,p3,p4,p5⟩:=p
 obtain ⟨nd,kF⟩:=p5 rfl
 cases p4 with
 | @dik dd kvs _ F e1 r =>
  have hd0:=kF dd List.mem_cons_self
  obtain ⟨nF,ndF⟩:=List.nodup_cons.mp nd
  refine ⟨dd,kvs,rfl,e1,λob=>k _ _ W1 (Qc4 es) ρ1 ⟨?_,?_,λh=>?_⟩ ?_ q⟩
  ·-- the state: nobody's address
   obtain ⟨fp,s1⟩:=p1
   have hi:ImmK H1 (upd H1 dd (.frz ob (.dK kvs))):=Ud e1 rfl
   refine ⟨fp,s1.len,λa ha=>?_,λi d hl=>?_,s1.own,s1.ro,s1.wr,λa ha=>?_,s1.dis,s1.fix⟩
   ·have:a≠dd:=λz=>hd0.2 (z ▸ ha)
    rw [Qk this];exact s1.wd a ha
   ·obtain ⟨u,h1,h2⟩:=s1.at_ i d hl
    refine ⟨u,h1,h2.frame hi λa ha=>Qk λz=>?_⟩
    subst z
    cases hto:T.own i with
    | true=>exact hd0.2 ((s1.own i d hl hto).2 _ ha)
    | false=>exact s.nr hd0.1 (s1.ro i d hl hto _ ha)
   ·have:a≠dd:=λz=>s.nr hd0.1 (z ▸ ha)
    rw [Qk this];exact s1.rd a ha
  ·refine ⟨λb u e n=>?_,λb e=>?_,λb u e im=>?_,p2.new⟩
   ·have:b≠dd:=λz=>by rw [z,hd0.1] at e;cases e
    rw [Qk this];exact p2.keep b u e n
   ·by_cases hb:b=dd
    ·rw [hb,Qh] at e;cases e
    ·rw [Qk hb] at e;exact p2.dom b e
   ·have:b≠dd:=λz=>by rw [z,hd0.1] at e;cases e
    rw [Qk this];exact p2.imm b u e im
  ·obtain ⟨a1,a2,a3⟩:=p3 h
   refine ⟨λb u e=>?_,a2,a3⟩
   have:b≠dd:=λz=>by rw [z,hd0.1] at e;cases e
   rw [Qk this];exact a1 b u e
  ·rw [Qfg]
   intro i H2 W2 f
   have e2:H2 dd=some (.frz ob (.dK kvs)):=f.imm _ _ Qh rfl
   have hlen:kvs.length=es.length:=r.length
   refine ⟨λhi=>⟨e2,by unfold Qc4 at hi;rw [List.length_map] at hi;omega⟩,λd hd=>?_⟩
   unfold Qc4 at hd
   have hi:i<es.length:=by have:=(List.getElem?_eq_some_iff.mp hd).1;rwa [List.length_map] at this
   refine ⟨⟨e2,by omega⟩,λv H3 y=>?_⟩
   obtain ⟨kk,yy,pp,hk,rfl,hp,rfl⟩:=y
   obtain ⟨d',B,h1,h2,h3⟩:=r.get hk
   rw [List.getElem?_map,h1] at hd
   cases hd
   have hB:∀a∈B,¬W1 a:=λa ha=>(kF a (List.mem_cons_of_mem _ (h3.subset ha))).2
   have hBd:dd∉B:=λhb=>nF (h3.subset hb)
   have h2':=(h2.upd (ob':=.frz ob (.dK kvs)) e1 rfl hBd)
   have h2'':=h2'.keep f hB
   refine ⟨Qj hp,[]++(B++[]),.tup Qh (.cons (Qoi kk) (.cons (h2''.same (Qj hp)) .nil)),λa ha hw=>?_⟩
   have ha:a∈B:=by simpa using ha
   rcases f.new a hw with h | h
   ·exact hB a ha h
   ·obtain ⟨ob,e3,_⟩:=h2'.dom a ha
    rw [h] at e3;cases e3
theorem Qmo {elt iter:Expr} {v:Str} {px py pv pt spos:Pos} {kt:Nat} {scope:Scope} {ifs:List Expr} {ix:List Nat} {j:Nat} (h:Qmg X T m elt iter (.Tuple [.Name x px,.Name y py] kt pt) [x,y] (g2 X.K) scope ifs ix w) (B:CompB2 X scope x y ix) (hNd:X.N.Nodup)
  (hj:X.N[j]? = some v:=by rfl) (hy:Loc X.env.scope v:=by first | exact Or.inl rfl | exact Or.inr rfl) (hio:j∉T.io:=by decide)
  (hsw:swapsWith (.ListComp elt [⟨.Tuple [.Name x px,.Name y py] kt pt,iter,ifs,0⟩] scope pos) (some (.Name v pv)) spos.line X.env=pure true:=by rfl)
  (hf:X.fn v=true\/X.env.scope.names.lookup v=some .local:=by first | exact .inl rfl | exact .inr rfl | assumption) (hc:X.calm=true:=by rfl)
  (hs:∀x,foldedSetIterable iter X.env x=pure x:=by intro _;rfl):SV X T (.Assign [.Name v pv] (.ListComp elt [⟨.Tuple [.Name x px,.Name y py] kt pt,iter,ifs,0⟩] scope pos) spos) (wSet j w):=by
 obtain ⟨wi,tt,te,h1,h2,h3,h4⟩:=h
 exact Qjy ⟨_,Qmw ix hc B.B1.B hNd hj hy hsw B.B1.hix B.nd h1 (pg2 B hc) h2 h3 hf hs,h4⟩ hio
end
end PV
namespace PV
open PySem PySem.Spec L2
open Builtin.Str (glued tooLong subAt)
section
variable {X:Cx} {T:Tg} {m o m0 m1 m2 m3 m4 me o1 o2:Bool} {e a b:Expr} {w wa wb we:WE} {pos p2 p:Pos} {es:List Expr} {wr:WA} {x y:Str} {wt:WT} {ws:WS}
end
end PV
namespace PV
open PySem PySem.Spec L2
section
variable {X:Cx} {T:Tg} {m o m0 m1 m2 m3 o1 o2:Bool} {e a b:Expr} {w wa wb we:WE} {pos p2 p:Pos} {es:List Expr} {wr:WA} {x y:Str}
end
end PV
namespace PV
open PySem PySem.Spec L2 PyProof.Rows
section
variable {X:Cx} {T:Tg} {m o m0 m1 m2 m3 me o1 o2:Bool} {e a b c:Expr} {w wa wb we:WE} {pos p2 p:Pos} {es:List Expr} {wr:WA} {x y:Str} {wt:WT} {ws:WS} {k:Nat} {ps:List Str} {tg:Expr}
end
section
variable {i j:Int} {k:D->Prop} {kk:D->D->Prop} {kvs:List (List Key × D)} {xs:List D}
theorem sz0:(0<=sizeLine)=True:=propext ⟨λ_=>trivial,λ_=>by decide⟩
theorem sz1:(1<=sizeLine)=True:=propext ⟨λ_=>trivial,λ_=>by decide⟩
theorem sz2:(2<=sizeLine)=True:=propext ⟨λ_=>trivial,λ_=>by decide⟩
theorem sz3:(3<=sizeLine)=True:=propext ⟨λ_=>trivial,λ_=>by decide⟩
theorem sz4:(4<=sizeLine)=True:=propext ⟨λ_=>trivial,λ_=>by decide⟩
theorem sz5:(5<=sizeLine)=True:=propext ⟨λ_=>trivial,λ_=>by decide⟩
end
end PV
namespace L2
open PySem PySem.Spec PyProof.Rows
section
variable {X:Cx} {e:Expr} {te:TE}
def tFrz (te:TE):TE:=λσ H Q=>te σ H λv H1=>∃a xs,v=.ref a/\H1 a=some (.lst xs)/\∀o,Q v (upd H1 a (.frz o (.lst xs)))
theorem Qsd (he:PE X e te):PE X e (tFrz te):=by
 intro pins s σ H Q I h
 refine thn (he pins s σ H _ I h) λv s1 ⟨x,H1,I1,r1,q⟩=>?_
 obtain ⟨a,xs,rfl,ha,q⟩:=q
 obtain ⟨z,its,n,rv,hob⟩:=(show J2 X.prog X.w H1 s1.heap a (.lst xs) from I1.hok a _ ha)
 exact ⟨.ref a,_,I1.write (x:=a) (e:=a) (o:=.frz _ (.lst xs)) (t':=s1.toks) (by rw [ha];trivial) (.inl rfl) (λb u _ q=>q) ⟨_,hob⟩ (show J2 X.prog X.w _ s1.heap a (.frz _ (.lst xs)) from ⟨hob,z,its,n,rv,hob⟩),r1,q _⟩
end
end L2
namespace PV
open PySem PySem.Spec L2 PyProof.Rows
section
variable {X:Cx} {T:Tg} {m o:Bool} {e:Expr} {w:WE} {tg:Expr}
def Qq0 (d:D) (k:D->Prop):Prop:=match d with
 | .lst xs=>Qg xs=true/\k (.fls xs)
 | _=>False
def wFrz (w:WE):WE:=λρ Q=>w ρ λd ρ'=>Qq0 d λd'=>Q d' ρ'
theorem Qe1 (h:EV X T m true e w):EV X T m true e (wFrz w):=by
 obtain ⟨te,pe,ge⟩:=h
 refine ⟨_,Qsd pe,λz R σ H W ρ Q Q' s hw k=>?_⟩
 refine ge z R σ H W ρ _ _ s hw λv H1 W1 d ρ1 F p q=>?_
 cases d with
 | lst xs =>
  obtain ⟨hp,q⟩:=q
  obtain ⟨sr,fr,calm,rep,own⟩:=p
  obtain ⟨nd,own⟩:=own rfl
  cases rep with
  | @lst a ys _ G e1 r =>
   obtain ⟨hG,r⟩:=r.pure hp
   subst hG
   obtain ⟨ha,hW⟩:=own a List.mem_cons_self
   have hR:¬R a:=s.nr ha
   refine ⟨a,ys,rfl,e1,λob=>?_⟩
   have im:ImmK H1 (upd H1 a (.frz ob (.lst ys))):=Ud e1 rfl
   have ne:∀{b:Addr} {u:HO},H b=some u->b≠a:=λ{b u} hb z=>by rw [z,ha] at hb;cases hb
   have sr':SR X.K T z R (upd H1 a (.frz ob (.lst ys))) W1 σ ρ1:=by
    obtain ⟨fp,s0⟩:=sr
    have off:∀i d,look ρ1 i=some d->∀b∈fp i,b≠a:=λi d hl b hb hz=>by
     subst hz
     cases ht:T.own i with
     | true=>exact hW ((s0.own i d hl ht).2 b hb)
     | false=>exact hR (s0.ro i d hl ht b hb)
    refine ⟨fp,s0.len,λb hb=>?_,λi d hl=>?_,s0.own,s0.ro,s0.wr,λb hb=>?_,s0.dis,s0.fix⟩
    ·obtain ⟨u,h1,h2⟩:=s0.wd b hb
     exact ⟨u,by rw [Qk (show b≠a from λhz=>hW (by rw [← hz];exact hb))];exact h1,h2⟩
    ·obtain ⟨v,h1,h2⟩:=s0.at_ i d hl
     exact ⟨v,h1,h2.frame im λb hb=>Qk (off i d hl b hb)⟩
    ·obtain ⟨u,h1,h2⟩:=s0.rd b hb
     exact ⟨u,by rw [Qk (show b≠a from λhz=>hR (by rw [← hz];exact hb))];exact h1,h2⟩
   have fr':FrW H W (upd H1 a (.frz ob (.lst ys))) W1:=by
    refine ⟨λb u hb hn=>?_,λb hb=>?_,λb u hb hi=>?_,fr.new⟩
    ·rw [Qk (ne hb)];exact fr.keep b u hb hn
    ·by_cases hz:b=a
     ·rw [hz];exact ha
     ·rw [Qk hz] at hb;exact fr.dom b hb
    ·rw [Qk (ne hb)];exact fr.imm b u hb hi
   refine k _ _ W1 (.fls xs) ρ1 [] ⟨sr',fr',λhm=>?_,.fls Qh (r.frame im λb hb=>nomatch hb),λ_=>⟨List.nodup_nil,λb hb=>nomatch hb⟩⟩ q
   obtain ⟨c1,c2,c3⟩:=calm hm
   exact ⟨λb u hb=>by rw [Qk (ne hb)];exact c1 b u hb,c2,c3⟩
 | _=>exact (show False from q).elim
theorem Qoj {xs:List D} {k:D->Prop}:Qq0 (.lst xs) k=(Qg xs=true/\k (.fls xs)):=rfl
end
end PV
namespace PV
open PySem PySem.Spec L2
open PyProof.Rows (envOfC)
section
variable {X:Cx} {T:Tg} {m:Bool} {w:WE} {pos:Pos} {x:Str}
end
end PV
namespace PV
open PySem PySem.Spec L2
section
variable {X:Cx} {T:Tg} {m o m0 m1 m2 m3 o1 o2:Bool} {e a b:Expr} {w wa wb we:WE} {pos p2 p:Pos} {es:List Expr} {wr:WA} {x y:Str} {wt:WT} {ws:WS}
end
end PV
namespace PV
open PySem PySem.Spec L2
section
variable {X:Cx} {T:Tg} {m o:Bool} {a:Expr} {pos p2 p:Pos} {wr:WA} {x:Str}
end
end PV
namespace PV
open PySem PySem.Spec L2
theorem Zb {α:Type} (xs:List α) (j:Nat):L2.atI xs (j:Int)=xs[j]?:=by
 unfold L2.atI ixN
 rw [if_pos (by omega)]
 by_cases h:j<xs.length
 ·rw [if_pos (by omega)];simp
 ·rw [if_neg (by omega)];simp;omega
theorem Zt {α:Type} (xs:List α):L2.atI xs 0=xs[0]?:=Zb xs 0
theorem Uq {α:Type} (xs:List α):L2.atI xs 1=xs[1]?:=Zb xs 1
theorem Xz {α:Type} (xs:List α):L2.atI xs 2=xs[2]?:=Zb xs 2
theorem Qd7 {α:Type} (xs:List α):L2.atI xs 3=xs[3]?:=Zb xs 3
theorem Zp {n j:Nat} (h:j<n):ixN n (j:Int)=some j:=by
 unfold ixN
 rw [if_pos (by omega),if_pos (by omega)];simp
theorem Qet {n:Nat} (h:0<n):ixN n 0=some 0:=Zp h
theorem Qes {n:Nat} (h:1<n):ixN n 1=some 1:=Zp h
theorem Qgx {n:Nat} (h:2<n):ixN n 2=some 2:=Zp h
theorem Qgw {n:Nat} (h:3<n):ixN n 3=some 3:=Zp h
theorem Qa1 {n j:Nat} (h:j<n):seqIndex? (j:Int) n=some j:=(Qdt (Zp h)).1
theorem V4 {n:Nat} (h:0<n):seqIndex? 0 n=some 0:=Qa1 h
theorem Ql {α:Type} {d:α} {k:α->Prop}:oget (some d) k=k d:=rfl
theorem Q8 {i:Nat} {ρ:Env} {Q:D->Env->Prop}:wVar i ρ Q=oget (look ρ i) λd=>Q d ρ:=by
 unfold wVar oget
 cases look ρ i <;> rfl
section
variable {i j:Int} {x y:Str} {xs ys:List D} {k:D->Prop} {b c:Bool} {d e:D} {kvs:List (Key × D)} {kts:List (List Key × D)}
theorem Qgf:dAdd (.int i) (.int j) k=k (.int (i+j)):=rfl
theorem Qbn:dAdd (.str x) (.str y) k=(x.length+y.length<=sizeLine/\k (.str (x++y))):=rfl
theorem Qbm:dAdd (.tup xs) (.tup ys) k=(Qg xs=true/\Qg ys=true/\xs≠[]/\xs.length+ys.length<=sizeLine/\k (.tup (xs++ys))):=rfl
theorem Qbo:dAdd (.lst xs) (.lst ys) k=(Qg xs=true/\Qg ys=true/\xs.length+ys.length<=sizeLine/\k (.lst (xs++ys))):=rfl
theorem Qcd:dSub (.int i) (.int j) k=k (.int (i-j)):=rfl
theorem Qr1:dMul (.int i) (.int j) k=(CMul i j/\k (.int (i*j))):=rfl
theorem X5:dMul (.lst xs) (.int j) k=(Qg xs=true /\ -(2 ^ 63)<=j/\j<2 ^ 63/\xs.length*j.toNat<=sizeLine/\k (.lst (List.replicate j.toNat xs).flatten)):=rfl
theorem Qud:dDiv (.int i) (.int j) k=((0<j/\j<1073741824/\k (.int (i / j)))\/(j<0/\j.natAbs<1073741824/\k (.int (i.fdiv j)))):=rfl
theorem Quc:dMod (.int i) (.int j) k=((0<j/\k (.int (i % j)))\/(j<0/\k (.int (i.fmod j)))):=rfl
theorem Qub:dPow (.int i) (.int j) k=(CPow i j/\k (.int (i ^ j.toNat))):=rfl
theorem Qei:dNeg (.int i) k=k (.int (-i)):=rfl
theorem Zs:dEq (.int i) (.int j) k=k (.bl (decide (i=j))):=rfl
theorem Xs:dNe (.int i) (.int j) k=k (.bl (!decide (i=j))):=rfl
theorem Qge:dEq (.bl b) (.bl c) k=k (.bl (b == c)):=rfl
theorem Qf4:dNe (.bl b) (.bl c) k=k (.bl (!(b == c))):=rfl
theorem Qgc:dEq (.str x) (.str y) k=k (.bl (decide (x=y))):=rfl
theorem Qf2:dNe (.str x) (.str y) k=k (.bl (!decide (x=y))):=rfl
theorem Qdk:dEq (.tup xs) d k=(eqOk 9 (.tup xs)=true/\eqOk 9 d=true/\(.tup xs=d->k (.bl true))/\(.tup xs≠d->k (.bl false))):=by cases d <;> rfl
theorem Qdj:dNe (.tup xs) d k=(eqOk 9 (.tup xs)=true/\eqOk 9 d=true/\(.tup xs=d->k (.bl false))/\(.tup xs≠d->k (.bl true))):=by cases d <;> rfl
theorem Qgd:dEq (.lst xs) d k=(eqOk 9 (.lst xs)=true/\eqOk 9 d=true/\(.lst xs=d->k (.bl true))/\(.lst xs≠d->k (.bl false))):=by cases d <;> rfl
theorem Qf3:dNe (.lst xs) d k=(eqOk 9 (.lst xs)=true/\eqOk 9 d=true/\(.lst xs=d->k (.bl false))/\(.lst xs≠d->k (.bl true))):=by cases d <;> rfl
theorem Zc {f:Int->Int->Bool}:dCmp f (.int i) (.int j) k=k (.bl (f i j)):=rfl
theorem Yj:dIx (.lst xs) (.int i) k=oget (L2.atI xs i) k:=rfl
theorem Z8:dIx (.tup xs) (.int i) k=oget (L2.atI xs i) k:=rfl
theorem Qce:dIx (.kls xs) (.int i) k=oget (L2.atI xs i) k:=rfl
theorem Qbg:dIx (.dik kvs) (.int i) k=oget (valD kvs (.inl i)) k:=rfl
theorem Qbf:dIx (.dik kvs) (.str x) k=oget (valD kvs (.inr x)) k:=rfl
theorem Qbe:dIx (.dit kts) (.tup xs) k=oget (Yh xs) λks=>oget (valD kts ks) k:=rfl
theorem Vu:dLen [.lst xs] k=k (.int xs.length):=rfl
theorem Z7:dLen [.tup xs] k=k (.int xs.length):=rfl
theorem X7:dLen [.kls xs] k=k (.int xs.length):=rfl
theorem Qbc:dLen [.dik kvs] k=k (.int kvs.length):=rfl
theorem Qf8:dInt [.int i] k=k (.int i):=rfl
theorem X8:dInt [.bl b] k=k (.int (if b then 1 else 0)):=rfl
theorem Qgg:dAbs [.int i] k=k (.int (if i<0 then -i else i)):=rfl
theorem Qf5:Qu7 [.int i,.int j] k=k (.int (if j<i then j else i)):=rfl
theorem Qf6:Qu8 [.int i,.int j] k=k (.int (if j > i then j else i)):=rfl
theorem Ga:Qe3 [.lst xs] k=(Qg xs=true/\k (.lst xs)):=rfl
theorem Vl:Qe3 [.tup xs] k=(Qg xs=true/\k (.lst xs)):=rfl
theorem Gb:Qe3 [.kls xs] k=(Qg xs=true/\k (.lst xs)):=rfl
theorem G5:Qc7 [.lst xs] k=(Qg xs=true/\k (.tup xs)):=rfl
theorem Qa7:Qc7 [.tup xs] k=(Qg xs=true/\k (.tup xs)):=rfl
theorem V5:Qlr [.int i] k=(0<=i/\i<=1000/\k (.lst (rngD 0 i.toNat))):=rfl
theorem Qcf {t:Ty}:dIsi [d,.ty t] k=oget (isiD d t) λb=>k (.bl b):=rfl
theorem Qfy {lo hi:Option Int}:dSl (.lst xs) lo hi k=(Qg xs=true/\k (.lst (cutD xs lo hi))):=rfl
theorem Qfz {lo hi:Option Int}:dSl (.kls xs) lo hi k=(Qg xs=true/\k (.lst (cutD xs lo hi))):=rfl
theorem Qfx {lo hi:Option Int}:dSl (.tup xs) lo hi k=(Qg xs=true/\¬(HT.sIx xs.length 0 lo=0/\HT.sIx xs.length xs.length hi=xs.length)/\k (.tup (cutD xs lo hi))):=rfl
theorem Ux:dSet (.lst xs) (.int i) d k=oget (ixN xs.length i) λn=>k (.lst (xs.set n d)):=rfl
theorem Vi:dSet (.dik kvs) (.int i) d k=(kvs.length<sizeLine/\k (.dik (putD kvs (.inl i) d))):=rfl
theorem U7:dSet (.dik kvs) (.str x) d k=(kvs.length<sizeLine/\k (.dik (putD kvs (.inr x) d))):=rfl
theorem U6:dSet (.dit kts) (.tup xs) d k=(kts.length<sizeLine/\oget (Yh xs) λks=>k (.dit (putD kts ks d))):=rfl
theorem Qbj {n:Bool}:dIn n (.int i) (.dik kvs) k=k (.bl (xor n (valD kvs (.inl i)).isSome)):=rfl
theorem Qbi {n:Bool}:dIn n (.str x) (.dik kvs) k=k (.bl (xor n (valD kvs (.inr x)).isSome)):=rfl
theorem Qbh {n:Bool}:dIn n (.tup xs) (.dit kts) k=oget (Yh xs) λks=>k (.bl (xor n (valD kts ks).isSome)):=rfl
theorem Qf9 {n:Bool}:dIn n (.str x) (.str y) k=k (.bl (xor n (!(Builtin.Str.occurrences y x 0 y.length 1).isEmpty))):=rfl
variable {kk:D->D->Prop}
theorem Xt:Qg0 (.lst xs) [d] kk=(xs.length<sizeLine/\kk .non (.lst (xs++[d]))):=rfl
theorem Vk:Qh3 (.lst xs) [.int i] kk=(-(2 ^ 63)<=i/\i<2 ^ 63/\oget (seqIndex? i xs.length) λj=>oget xs[j]? λd=>d.pure=true/\kk d (.lst (xs.eraseIdx j))):=rfl
theorem Qf0:gPop (.lst xs) [] kk=oget xs[xs.length-1]? λd=>d.pure=true/\kk d (.lst xs.dropLast):=rfl
theorem Gc:Qte (.lst xs) [] kk=kk .non (.lst []):=rfl
variable {ρ:Env} {w:WE} {QE:D->Env->Prop} {QL:List D->Env->Prop} {QB:Bool->Env->Prop}
end
section
variable {i j:Int} {k:D->Prop}
theorem Qbl (h:0<j) (h2:j<1073741824):dDiv (.int i) (.int j) k=k (.int (i / j)):=by
 rw [Qud]
 apply propext
 exact ⟨λq=>q.elim (λz=>z.2.2) (λz=>absurd z.1 (by omega)),λq=>.inl ⟨h,h2,q⟩⟩
theorem V6 (h:0<j):dMod (.int i) (.int j) k=k (.int (i % j)):=by
 rw [Quc]
 apply propext
 exact ⟨λq=>q.elim (λz=>z.2) (λz=>absurd z.1 (by omega)),λq=>.inl ⟨h,q⟩⟩
theorem Zf (h:-18446744073709551616<i) (h2:i<18446744073709551616):dMul (.int i) (.int j) k=k (.int (i*j)):=by
 rw [Qr1]
 exact propext ⟨λq=>q.2,λq=>⟨.inl ⟨by omega,by omega⟩,q⟩⟩
theorem X6 (h:-18446744073709551616<j) (h2:j<18446744073709551616):dMul (.int i) (.int j) k=k (.int (i*j)):=by
 rw [Qr1]
 exact propext ⟨λq=>q.2,λq=>⟨.inr ⟨by omega,by omega⟩,q⟩⟩
theorem G8 (h:0<=j) (h2:j<=1000000) (h3:-18446744073709551616<i) (h4:i<18446744073709551616):dPow (.int i) (.int j) k=k (.int (i ^ j.toNat)):=by
 rw [Qub]
 exact propext ⟨λq=>q.2,λq=>⟨⟨h,h2,by omega⟩,q⟩⟩
end
def blOf (d:D) (k:Bool->Prop):Prop:=match d with
 | .bl b=>k b
 | _=>False
theorem r_bl {w:WE} {ρ:Env} {Q:Bool->Env->Prop}:wBl w ρ Q=w ρ λd ρ'=>blOf d λb=>Q b ρ':=by
 show (w ρ λd ρ'=>match d with | .bl b=>Q b ρ' | _=>False)=_
 rfl
theorem Q9 {b:Bool} {k:Bool->Prop}:blOf (.bl b) k=k b:=rfl
def Qip (d:D) (k:Bool->Prop):Prop:=oget (truD d) k
theorem V0 {w:WE} {ρ:Env} {Q:Bool->Env->Prop}:wTru w ρ Q=w ρ λd ρ'=>Qip d λb=>Q b ρ':=by
 unfold wTru
 congr 1
 funext d ρ'
 unfold Qip oget
 cases truD d <;> rfl
theorem Ym {b:Bool} {k:Bool->Prop}:Qip (.bl b) k=k b:=rfl
theorem Qa9 {i:Int} {k:Bool->Prop}:Qip (.int i) k=k (i != 0):=rfl
theorem X4 {xs:List D} {k:Bool->Prop}:Qip (.lst xs) k=k (!xs.isEmpty):=rfl
theorem Qa8 {xs:List D} {k:Bool->Prop}:Qip (.tup xs) k=k (!xs.isEmpty):=rfl
def Qpq (d:D) (k:List D->Prop):Prop:=match d with
 | .tup ds=>Qg ds=true/\k ds
 | .lst ds=>k ds
 | .kc (.tup ks)=>k (ks.map kcD)
 | _=>False
theorem U8 {w:WE} {ρ:Env} {Q:List D->Env->Prop}:Qdc w ρ Q=w ρ λd ρ'=>Qpq d λds=>Q ds ρ':=by
 show (w ρ λd ρ'=>match d with | .tup ds=>Qg ds=true/\Q ds ρ' | .lst ds=>Q ds ρ' | .kc (.tup ks)=>Q (ks.map kcD) ρ' | _=>False)=_
 rfl
theorem Vt {xs:List D} {k:List D->Prop}:Qpq (.tup xs) k=(Qg xs=true/\k xs):=rfl
theorem G6 {xs:List D} {k:List D->Prop}:Qpq (.lst xs) k=k xs:=rfl
def Qsx (d:D) (k:List D->Prop):Prop:=match d with
 | .kls ds=>k ds
 | _=>False
theorem Qf7 {w:WE} {ρ:Env} {Q:List D->Env->Prop}:Qtv w ρ Q=w ρ λd ρ'=>Qsx d λds=>Q ds ρ':=by
 show (w ρ λd ρ'=>match d with | .kls ds=>Q ds ρ' | _=>False)=_
 rfl
theorem Qbd {xs:List D} {k:List D->Prop}:Qsx (.kls xs) k=k xs:=rfl
def Qoa (d:D) (k:List D->Prop):Prop:=match d with
 | .dik kvs=>k (kvs.map (·.2))
 | _=>False
theorem Qa6 {w:WE} {ρ:Env} {Q:List D->Env->Prop}:Qtu w ρ Q=w ρ λd ρ'=>Qoa d λds=>Q ds ρ':=by
 show (w ρ λd ρ'=>match d with | .dik kvs=>Q (kvs.map (·.2)) ρ' | _=>False)=_
 rfl
theorem U5 {kvs:List (Key × D)} {k:List D->Prop}:Qoa (.dik kvs) k=k (kvs.map (·.2)):=rfl
def Qqu (d:D) (k:Option Int->Prop):Prop:=match d with
 | .int i=>k (some i)
 | _=>False
theorem Z6 {w:WE} {ρ:Env} {Q:Option Int->Env->Prop}:Vz w ρ Q=w ρ λd ρ'=>Qqu d λi=>Q i ρ':=by
 show (w ρ λd ρ'=>match d with | .int i=>Q (some i) ρ' | _=>False)=_
 rfl
theorem Yt {i:Int} {k:Option Int->Prop}:Qqu (.int i) k=k (some i):=rfl
theorem Vv {wa wb:WE} {ρ:Env} {Q:D->Env->Prop}:Qfq wa wb ρ Q=wa ρ λd ρ1=>blOf d λc=>if c=true then wb ρ1 Q else Q (.bl false) ρ1:=by
 show (wa ρ λd ρ1=>match d with | .bl c=>if c=true then wb ρ1 Q else Q (.bl false) ρ1 | _=>False)=_
 rfl
theorem Qf1 {wa wb:WE} {ρ:Env} {Q:D->Env->Prop}:wOrV wa wb ρ Q=wa ρ λd ρ1=>blOf d λc=>if c=true then Q (.bl true) ρ1 else wb ρ1 Q:=by
 show (wa ρ λd ρ1=>match d with | .bl c=>if c=true then Q (.bl true) ρ1 else wb ρ1 Q | _=>False)=_
 rfl
theorem Qbb {wa:WE} {ρ:Env} {Q:D->Env->Prop}:Qo9 wa ρ Q=wa ρ λd ρ1=>blOf d λc=>Q (.bl (!c)) ρ1:=by
 show (wa ρ λd ρ1=>match d with | .bl c=>Q (.bl (!c)) ρ1 | _=>False)=_
 rfl
def Qoh (ds:List D) (k:List D->Prop):Prop:=match ds with
 | [.int j]=>-(2 ^ 62)<=j/\j<2 ^ 62/\k (rngD 0 j.toNat)
 | _=>False
theorem G7 {wr:WA} {ρ:Env} {Q:List D->Env->Prop}:Qmi wr ρ Q=wr ρ λds ρ'=>Qoh ds λl=>Q l ρ':=by
 show (wr ρ λds ρ'=>match ds with | [.int j]=>-(2 ^ 62)<=j/\j<2 ^ 62/\Q (rngD 0 j.toNat) ρ' | _=>False)=_
 rfl
theorem Vj {j:Int} {k:List D->Prop}:Qoh [.int j] k=(-(2 ^ 62)<=j/\j<2 ^ 62/\k (rngD 0 j.toNat)):=rfl
def Qog (ds:List D) (k:List D->Prop):Prop:=match ds with
 | [.int i,.int j]=>(-(2 ^ 62)<=i/\i<2 ^ 62 /\ -(2 ^ 62)<=j/\j<2 ^ 62)/\k (rngD i (j-i).toNat)
 | _=>False
theorem Qba {wr:WA} {ρ:Env} {Q:List D->Env->Prop}:Qtw wr ρ Q=wr ρ λds ρ'=>Qog ds λl=>Q l ρ':=by
 show (wr ρ λds ρ'=>match ds with | [.int i,.int j]=>(-(2 ^ 62)<=i/\i<2 ^ 62 /\ -(2 ^ 62)<=j/\j<2 ^ 62)/\Q (rngD i (j-i).toNat) ρ' | _=>False)=_
 rfl
theorem U9 {i j:Int} {k:List D->Prop}:Qog [.int i,.int j] k=((-(2 ^ 62)<=i/\i<2 ^ 62 /\ -(2 ^ 62)<=j/\j<2 ^ 62)/\k (rngD i (j-i).toNat)):=rfl
def Qov (ds:List D) (k:List D->Prop):Prop:=match ds with
 | [.tup es]=>Qg es=true/\k (Up 0 es)
 | _=>False
theorem U0 {wr:WA} {ρ:Env} {Q:List D->Env->Prop}:Qjq wr ρ Q=wr ρ λds ρ'=>Qov ds λl=>Q l ρ':=by
 show (wr ρ λds ρ'=>match ds with | [.tup es]=>Qg es=true/\Q (Up 0 es) ρ' | _=>False)=_
 rfl
theorem Z4 {xs:List D} {k:List D->Prop}:Qov [.tup xs] k=(Qg xs=true/\k (Up 0 xs)):=rfl
theorem Uy {n:Nat} {wgs:List D->Env->(Env->Prop)->Prop} {xs:List D} {ρ:Env} {Q:Env->Prop}:Gr n wgs (.tup xs) ρ Q=(xs.length=n/\wgs xs ρ Q):=rfl
theorem Z3 {wg:WG} {wgs:List D->Env->(Env->Prop)->Prop} {d:D} {r:List D} {ρ:Env} {Q:Env->Prop}:Yy wg wgs (d::r) ρ Q=wg d ρ λρ'=>wgs r ρ' Q:=rfl
theorem Uz {ρ:Env} {Q:Env->Prop}:Xi [] ρ Q=Q ρ:=rfl
theorem G4 {xs:List D} {t:String}:tyD (some (.lst xs)) t=(t == "list"):=rfl
theorem Qfw {xs:List (Key × D)} {t:String}:tyD (some (.dik xs)) t=(t == "dict"):=rfl
theorem Qfv {xs:List (List Key × D)} {t:String}:tyD (some (.dit xs)) t=(t == "dict"):=rfl
theorem Jl {xs:List D}:V1 (.lst xs)=Qg xs:=rfl
theorem Qgb {xs:List (Key × D)}:V1 (.dik xs)=xs.all λkv=>kv.2.pure:=rfl
theorem Qga {xs:List (List Key × D)}:V1 (.dit xs)=xs.all λkv=>kv.2.pure:=rfl
theorem Qp {α:Type} {f:α->D} {l:List α} (h:∀a∈l,(f a).pure=true):Qg (l.map f)=true:=by
 rw [Q5]
 intro x hx
 obtain ⟨a,ha,rfl⟩:=List.mem_map.mp hx
 exact h a ha
theorem Qtt {wl:WL} {we:WE} {ix:List Nat} {ρ:Env} {Q:D->Env->Prop} {f:D->D} (ds:List D) (ρ1:Env) (h:wl ρ=λq=>q ds ρ1) (hz:ds.length<sizeLine) (he:∀d∈ds,∀Q',Q' (f d) (blkE ρ1 d ix)->we (blkE ρ1 d ix) Q') (hQ:Q (.lst (ds.map f)) ρ1) :
  Qdd wl wAll we ix ρ Q:=by
 unfold Qdd
 rw [h]
 refine ⟨λi ys=>ys=(ds.take i).map f/\i<=ds.length,⟨by simp,Nat.zero_le _⟩,λi d ys hd ⟨hy,hi⟩=>?_,λys ⟨hy,_⟩=>?_⟩
 ·have hlt:=(List.getElem?_eq_some_iff.mp hd).1
  refine ⟨by rw [hy];simp;omega,?_⟩
  simp only [wAll,reduceIte]
  refine he d (List.mem_of_getElem? hd) _ ⟨?_,hlt⟩
  rw [hy,List.take_add_one,hd]
  simp
 ·rw [hy,List.take_length]
  exact ⟨by simp;omega,hQ⟩
def Qre (ds:List D) (wt:WT) (we:WE) (ρ1:Env) (ix:List Nat) (Q:D->Env->Prop):Prop:=∃I:Nat->List D->Prop,I 0 [] /\
 (∀i d ys,ds[i]? = some d->I i ys->ys.length<sizeLine/\wt (blkE ρ1 d ix) λb _=>if b=true then we (blkE ρ1 d ix) (λy _=>I (i+1) (ys++[y])) else I (i+1) ys) /\
 ∀ys,I ds.length ys->ys.length<=sizeLine/\Q (.lst ys) ρ1
theorem Z9 {wl:WL} {wt:WT} {we:WE} {ix:List Nat} {ρ:Env} {Q:D->Env->Prop}:Qdd wl wt we ix ρ Q=wl ρ λds ρ1=>Qre ds wt we ρ1 ix Q:=rfl
theorem Xl {ds:List D} {we:WE} {ρ1:Env} {ix:List Nat} {Q:D->Env->Prop} (f:D->D) (hz:ds.length<sizeLine) (he:∀d∈ds,∀Q':D->Env->Prop,Q' (f d) (blkE ρ1 d ix)->we (blkE ρ1 d ix) Q') (hQ:Q (.lst (ds.map f)) ρ1):Qre ds wAll we ρ1 ix Q:=by
 refine ⟨λi ys=>ys=(ds.take i).map f/\i<=ds.length,⟨by simp,Nat.zero_le _⟩,λi d ys hd ⟨hy,hi⟩=>?_,λys ⟨hy,_⟩=>?_⟩
 ·have hlt:=(List.getElem?_eq_some_iff.mp hd).1
  refine ⟨by rw [hy];simp;omega,?_⟩
  simp only [wAll,reduceIte]
  refine he d (List.mem_of_getElem? hd) _ ⟨?_,hlt⟩
  rw [hy,List.take_add_one,hd]
  simp
 ·rw [hy,List.take_length]
  exact ⟨by simp;omega,hQ⟩
def forI (ds:List D) (wg:WG) (wb:WS) (P:EndsP) (ρ1:Env):Prop:=∃I:Nat->Env->Prop,I 0 ρ1 /\
 (∀i d ρ,ds[i]? = some d->I i ρ->wg d ρ λρ'=>wb { P with nx:=I (i+1),ct:=I (i+1),bk:=P.nx } ρ')/\∀ρ,I ds.length ρ->P.nx ρ
theorem V7 {wl:WL} {wg:WG} {wb:WS} {P:EndsP} {ρ:Env}:wFor wl wg wb P ρ=wl ρ λds ρ1=>Qg ds=true/\forI ds wg wb P ρ1:=rfl
def forR (ds:List D) (i₀:Nat) (wb:WS) (P:EndsP) (ρ1:Env):Prop:=∃I:Nat->Env->Prop,I 0 ρ1 /\
 (∀i d ρ,ds[i]? = some d->I i ρ->wb { P with nx:=I (i+1),ct:=I (i+1),bk:=P.nx } (ρ.set i₀ (some d)))/\∀ρ,I ds.length ρ->P.nx ρ
theorem Qbk {wl:WL} {i₀:Nat} {wb:WS} {P:EndsP} {ρ:Env}:Qty wl i₀ wb P ρ=wl ρ λds ρ1=>forR ds i₀ wb P ρ1:=rfl
end PV
namespace PV
open PySem PySem.Spec L2
section
variable {X:Cx} {T:Tg} {m o o1 o2 o3:Bool} {a b c:Expr} {wa wb wc:WE} {pos p2 p:Pos} {wr:WA} {x:Str}
end
end PV
namespace PV
open PySem PySem.Spec L2
open PyProof.Rows (envOfC)
abbrev GX:=List D->(D->Prop)->(D->Prop)->Prop
abbrev atN (K:PySem.W.Frag) (x:Str) (C:Addr):Prop:=PySem.W.nsIn K mainGlobals x=some (some (.ref C))
def spX (K:PySem.W.Frag) (g:GX):Sp:=λvs H Q E=>∃(ds:List D) (F:List Addr) (k kx:D->Prop),Reps K H ds vs F/\g ds k kx/\(∀v H' d F',Fin K H H' d v F'->k d->Q v H')/\∀x C H',atN K x C->Same H H'->kx (.obj x [])->E (.ref C) none H'
def Qd9 (X:Cx) (T:Tg) (x:Str) (C:Addr):Prop:=∀pins σ H s h1 e vs,Inv X pins σ H s->Heap.MadeExcOf s.heap h1 e (.ref C) vs->T.xe (.obj x []) σ H->X.xe (.ref e) { s with heap:=h1 }
def Qts (X:Cx) (T:Tg):Prop:=∀pins σ H s e s',Inv X pins σ H s->CXE X.prog X.w X.base X.stack H s (λc _ H'=>∃C,c=.ref C/\∃x,atN X.K x C/\T.xe (.obj x []) σ H') e s'->X.xe e s'
def EndsP.un (P:EndsP) (j:Nat):EndsP:={ nx:=λρ=>P.nx (ρ.set j none),rt:=P.rt,bk:=λρ=>P.bk (ρ.set j none),ct:=λρ=>P.ct (ρ.set j none) }
section
variable {X:Cx} {T:Tg} {m o o1 o2 o3:Bool} {e a b c e₀:Expr} {es:List Expr} {w wa wb wc:WE} {pos p2 p np cpos hpos px:Pos} {wr:WA} {x y:Str} {ws wh:WS}
def Qjo (x:Str) (wr:WA):WS:=λP ρ=>wr ρ λds ρ'=>ds.length<=1000/\P.xc (.obj x []) ρ'
theorem Qmn {C:Addr} (k:ExcK X.K X.mg x C) (hX:Qd9 X T x C) (ha:AV X T m o (e₀::es) wr) (hg:Gl X x:=by rfl) (hc:X.calm=true:=by rfl)
  (hdb:(x == ("__debug__" : Str))=false:=by decide) (he:starEach (e₀::es) X.env=(false,eval e₀ X.env)::starEach es X.env:=by rfl) (hpl:(backTo cpos (starEach es X.env)).any (·.1)=false:=by rfl) :
  SV X T (.Raise (some (.Call (.Name x np) (e₀::es) [] cpos)) none pos) (Qjo x wr):=by
 obtain ⟨ta,pa,ga⟩:=ha
 refine ⟨_,Qmv (Ξ:=λσ H=>T.xe (.obj x []) σ H) k hg hc pa hX hdb he hpl,λz R σ H W ρ P E s hw l=>?_⟩
 refine ga z R σ H W ρ _ _ s hw λvs H1 W1 ds ρ1 F p q=>⟨?_,l.xc R σ H1 W1 ρ1 _ p.sr p.fr q.2⟩
 rw [p.rep.length]
 exact Nat.le_trans q.1 (by decide)
theorem SR.unset {K:PySem.W.Frag} {z:Nat->V} {R:Addr->Prop} {H:Hp} {W:Addr->Prop} {σ:St} {ρ:Env} {j:Nat} (hj:j∉T.io) (s:SR K T z R H W σ ρ):SR K T z R H W (σ.set j none) (ρ.set j none):=by
 obtain ⟨fp,s⟩:=s
 have key:∀i d,look (ρ.set j none) i=some d->i≠j/\look ρ i=some d:=λi d h=>by
  rw [Uj] at h
  split at h
  ·cases h
  ·rename_i hn
   refine ⟨λz=>hn ⟨z,?_⟩,h⟩
   rw [← z];exact Xw h
 refine ⟨fp,by rw [List.length_set,List.length_set];exact s.len,s.wd,λi d h=>?_,λi d h=>s.own i d (key i d h).2,λi d h=>s.ro i d (key i d h).2,s.wr,s.rd,λi k d d' h h'=>s.dis i k d d' (key i d h).2 (key k d' h').2,λi hi=>?_⟩
 ·obtain ⟨h1,h2⟩:=key i d h
  obtain ⟨v,e1,e2⟩:=s.at_ i d h2
  exact ⟨v,by rw [List.getElem?_set_ne (Ne.symm h1)];exact e1,e2⟩
 ·rw [List.getElem?_set_ne (λz=>hj (by rw [z];exact hi))]
  exact s.fix i hi
end
end PV
namespace PV
open PySem PySem.Spec L2
open PyProof.Rows (envOfC)
section
variable {P:Program} {w:World} {K:PySem.W.Frag} {mg:Str->Option Value} {base:Heap} {x qual:Str} {st:Stmt} {f:Addr} {fd:FuncData} {N ps:List Str} {k:Nat} {T:Tg} {ww:WS}
theorem fn_x {g:GX} (F:Fun K x qual st f fd) (S:FnScope N ps (Qb st)) (hio:T.io=[]) (hown:∀i,i<ps.length->T.own i=false) (hg:∀ds kk kx,g ds kk kx->ds.length=ps.length)
  (hb:∀(cdv:Value) (A:Around) (outer:List PySem.Env) (s:Shared) (H:Hp) (E:XK) (XE:D->St->Hp->Prop),Room k (A.deeper (envOfC qual (Qb st) s.heap.objs.size f cdv)) ->
   (∀x C,atN K x C->Qd9 (cxOf (CXE P w base) P w K mg base N qual (Qb st) f cdv A outer s H E) ⟨T.own,T.io,XE⟩ x C)->Qts (cxOf (CXE P w base) P w K mg base N qual (Qb st) f cdv A outer s H E) ⟨T.own,T.io,XE⟩->SVs (cxOf (CXE P w base) P w K mg base N qual (Qb st) f cdv A outer s H E) ⟨T.own,T.io,XE⟩ (Qn st) ww)
  (hr:∀ds kk kx,g ds kk kx->ww { nx:=λ_=>kk .non,rt:=λd _=>kk d,xc:=λd _=>kx d } (env0 N ds)):FnOk P w K mg base (CXE P w base) (k+1) f fd ps (spX K g):=by
 obtain ⟨oc,od,kV,doc,pm,an,cdv,ct,osl,rfl,lk,hcd⟩:=F.ex
 refine Qq1 lk hcd S (λvs H Q E h=>?_) λA outer s H vs Q E hroom h=>?_
 ·obtain ⟨ds,Fp,kk,kx,rep,hgk,_⟩:=h
  rw [rep.length];exact hg ds kk kx hgk
 ·obtain ⟨ds,Fp,kk,kx,rep,hgk,q,qx⟩:=h
  obtain ⟨ts,pts,gts⟩:=hb cdv A outer s H E (λd _ H'=>∀x C,atN K x C->d=.obj x []->E (.ref C) none H') hroom (λx C hn pins σ H1 s1 h1 e vs I hx hT =>
   Qi5 (X:=cxOf (CXE P w base) P w K mg base N qual (Qb st) f cdv A outer s H E) ⟨rfl,rfl,rfl⟩ I hx λh' t B fl=>⟨e,C,t,B,H1,rfl,fl,hT x C hn rfl⟩) (λpins σ H1 s1 e s' I z=>by
   obtain ⟨ea,C,t,B,H',rfl,fl,C',eC,y,hn,hT⟩:=z
   cases eC
   exact Qnb (X:=cxOf (CXE P w base) P w K mg base N qual (Qb st) f cdv A outer s H E) ⟨rfl,rfl,rfl⟩ I fl λh' fl'=>⟨ea,C,t,B,H',rfl,fl',hT y C hn rfl⟩)
  have hl:=rep.length
  have hds:=hg ds kk kx hgk
  refine ⟨ts,pts,gts (λ_=>.non) (Any H) (L2.start N vs) H (λ_=>False) (env0 N ds) _ _ (SR.readonly hio ?_ λi d hli=>?_) (hr ds kk kx hgk) ⟨?_,?_,?_,?_,?_⟩⟩
  ·unfold env0 L2.start;simp [hl]
  ·unfold env0 at hli
   rw [Y5] at hli
   obtain ⟨v,B,h1,h2,_⟩:=rep.get hli
   exact ⟨hown i (by rw [← hds];exact (List.getElem?_eq_some_iff.mp hli).1),v,B,Zl h1,h2⟩
  ·intro R' σ' H' W' ρ' s' fr hk
   have sm:Same H H':=λb o e=>fr.keep b o e (λz=>z)
   exact q .non H' .non [] ⟨sm,.non,List.nodup_nil,λ_ m=>nomatch m⟩ hk
  ·exact λR' σ' H' W' ρ' s' fr hk=>hk.elim
  ·exact λR' σ' H' W' ρ' s' fr hk=>hk.elim
  ·intro R' v σ' H' W' ρ' d F' s' fr r nd nw hk
   have sm:Same H H':=λb o e=>fr.keep b o e (λz=>z)
   exact q v H' d F' ⟨sm,r,nd,λa ha=>(nw a ha).2.resolve_left id⟩ hk
  ·intro R' σ' H' W' ρ' d s' fr hk x C hn e
   subst e
   exact qx x C H' hn (λb o e=>fr.keep b o e (λz=>z)) hk
def Vg (es:Array DictEntry):Bool:=es.toList.all λe=>match e.key with
 | .str _ _=>true
 | _=>false
theorem Qis {es:Array DictEntry} (h:Vg es=true):StrKeys es:=λe he=>by
 have:=List.all_eq_true.mp h e (by simpa using he)
 split at this
 ·rename_i n t q;exact ⟨n,t,q⟩
 ·cases this
theorem Qqn {h:Heap} {a:Addr} {oc:Value} {od:Option Addr} {es:Array DictEntry} {ep:Nat} {sl:Array (Option Value)} (X:K.In h) (l:K.lookup a=some ⟨oc,od,.dict es ep,sl⟩) (s:Vg es=true):h.Ns a (nsFind es):=⟨_,es,ep,X _ _ l,rfl,Qis s,λ_=>rfl⟩
theorem Qq4 {C TE N:Addr} {nm q:Str} {bs:List Value} {hdct:Bool} {sn:List Str} {sub:List Value} {ab:Bool} {col:Option Bool} {dd dd' od1 od2:Option Addr} {k0 k1 k2 k3 k5:Option Value} {c0 oc1 oc2:Value} {cd:ClassData} {sl sl1 sl2:Array (Option Value)} {es1 es2:Array DictEntry} {ep1 ep2:Nat}
  (hm:mg x=some (.ref C)) (l1:K.lookup C=some (excClassObj nm q C N bs (.ref TE::[.type "ValueError",.type "Exception",.type "BaseException",.type "object"]) hdct sn sub ab col dd k0 k1 k2 k3 k5 "ValueError.__new__")) (l2:K.lookup TE=some ⟨c0,dd',.cls cd,sl⟩)
  (n1:K.lookup N=some ⟨oc1,od1,.dict es1 ep1,sl1⟩) (n2:K.lookup cd.ns=some ⟨oc2,od2,.dict es2 ep2,sl2⟩) (s1:Vg es1=true) (s2:Vg es2=true) (i1:nsFind es1 "__init__" = none) (i2:nsFind es2 "__init__" = none):ExcK K mg x C :=
 ⟨hm,"ValueError","ValueError.__new__","ValueError.__init__",_,_,bs,nm,q,N,hdct,sn,sub,ab,col,dd,k0,k1,k2,k3,k5,nsFind es1,F.excBase_ValueError,rfl,i1,λh X=>⟨X _ _ l1,Qqn X n1 s1,.own (X _ _ l2) (Qqn X n2 s2) i2 .base⟩⟩
theorem Qhv {C:Addr}:PySem.W.kitOne K (.ref C) (.ref C)=some true:=by unfold PySem.W.kitOne;rw [if_pos (by simp)]
theorem Q7 {C D:Addr} {cd:ClassData} {b:Bool} (hne:(Value.ref C == Value.ref D)=false) (h1:PySem.W.clsIn K D=some cd) (h2:PySem.W.typeIn K (.ref D)=some (.type "type")) (h3:PySem.W.subIn K (.ref C) (.ref D)=some b):PySem.W.kitOne K (.ref C) (.ref D)=some b:=by
 unfold PySem.W.kitOne
 rw [if_neg (by rw [hne];decide)]
 show (if ((PySem.W.clsIn K D).isSome && PySem.W.typeIn K (.ref D) == some (.type "type"))=true then PySem.W.subIn K (.ref C) (.ref D) else none)=some b
 rw [if_pos (by rw [h1,h2];rfl)]
 exact h3
theorem Qko {C:Addr} {b:Bool} (h3:PySem.W.subIn K (.ref C) (.type "ValueError")=some b):PySem.W.kitOne K (.ref C) (.type "ValueError")=some b:=by
 unfold PySem.W.kitOne
 rw [if_neg (by intro z;cases (beq_iff_eq.mp z))]
 show (if PySem.W.kitMeta "ValueError" = true then PySem.W.subIn K (.ref C) (.type "ValueError") else none)=some b
 rw [if_pos (by decide +kernel)]
 exact h3
theorem Qou {C D:Addr} {cd:ClassData} {b:Bool} (h0:PySem.W.subIn K (.ref D) (.type "BaseException")=some true) (h1:PySem.W.clsIn K D=some cd) (h2:PySem.W.typeIn K (.ref D)=some (.type "type")) (h3:PySem.W.subIn K (.ref C) (.ref D)=some b):PySem.W.exmOne K (.ref C) (.ref D)=some b:=by
 unfold PySem.W.exmOne
 rw [if_pos (by rw [h0];rfl)]
 show (if ((PySem.W.clsIn K D).isSome && PySem.W.typeIn K (.ref D) == some (.type "type"))=true then PySem.W.subIn K (.ref C) (.ref D) else none)=some b
 rw [if_pos (by rw [h1,h2];rfl)]
 exact h3
theorem Uk {t c:Value} {cs:List Value} {b:Bool} (h1:PySem.W.kitOne K t c=some false) (h2:PySem.W.kitAny K t cs=some b):PySem.W.kitAny K t (c::cs)=some b:=by
 unfold PySem.W.kitAny
 rw [h1]
 exact h2
theorem Qhw {t:Value}:PySem.W.kitAny K t []=some false:=rfl
end
section
variable {X:Cx} {T:Tg} {o1 o2 o3:Bool} {a b c:Expr} {es:List Expr} {wa wb wc:WE} {pos p2 p q:Pos} {wr:WA} {x y v:Str} {ta:TA} {cv:V} {cl:Value} {i:Nat} {m o:Bool}
def wIsx (i:Nat) (tab:Str->Option Bool):WE:=λρ Q=>oget (look ρ i) λd=>match d with
 | .obj x _=>oget (tab x) λk=>Q (.bl k) ρ
 | _=>False
theorem Qb5 {tab:Str->Option Bool} (hb:X.mg "isinstance" = none) (hy:PE X (.Name y q) (tC cv)) (hcv:clsV cv=some cl) (ht:∀x k C,tab x=some k->atN X.K x C->ExcQ X.K C/\PySem.W.kitOne X.K (.ref C) cl=some k)
  (hN:X.N[i]? = some v:=by rfl) (hv:Vis X.env.scope v:=by first | exact Or.inl rfl | exact Or.inr (Or.inl rfl) | exact Or.inr (Or.inr rfl)) (hg:Gl X "isinstance":=by rfl) (hd:(v == ("__debug__" : Str))=false:=by decide) (hcd:(v == ("__classdict__" : Str))=false:=by decide)
  (he:starEach [.Name v p2,.Name y q] X.env=(false,eval (.Name v p2) X.env)::starEach [.Name y q] X.env:=by rfl) (he2:starEach [.Name y q] X.env=(false,eval (.Name y q) X.env)::starEach [] X.env:=by rfl) (hpl:(backTo pos (starEach [.Name y q] X.env)).any (·.1)=false:=by rfl) :
  EV X T false true (.Call (.Name "isinstance" p) [.Name v p2,.Name y q] [] pos) (wIsx i tab):=by
 refine ⟨_,Qdn (Qn1 F.attrBase_ValueError) hg hb J1 (Js (Ua hN hv hd hcd) (Js hy Ub he2) he) (by decide) (by decide) he hpl,λz R σ H W ρ Q Q' s hw k=>?_⟩
 obtain ⟨d,hl,hq⟩:=Qq hw
 obtain ⟨fp,s0⟩:=id s
 obtain ⟨u,h1,h2⟩:=s0.at_ i d hl
 generalize fp i=Fi at h2
 match d,h2,hq with
 | .obj x fs,h2,hq =>
  obtain ⟨r,hr,hq⟩:=Qq hq
  cases h2 with
  | @obj a1 _ ob φ _ e1 hc hf =>
   obtain ⟨C,hc,hn⟩:=hc
   obtain ⟨q1,q2⟩:=ht x r C hr hn
   exact ⟨_,h1,a1,ob,φ,C,cv,cl,r,rfl,e1,hc,q1,hcv,q2,k (.bl r) H W (.bl r) ρ [] (Post.flat s (FrW.refl H W) (λ_=>⟨Same.refl H,rfl,rfl⟩) (.bl r)) hq⟩
theorem Qld {tab:Str->Option Bool} {vs:List V} {cs:List Value} {kx1} (hb:X.mg "isinstance" = none) (hy:PA X es ta) (hta:∀σ H Q,Q vs H->ta σ H Q) (hcs:vs.mapM clsV=some cs) (hvs:vs.length<=sizeLine) (ht:∀x k C,tab x=some k->atN X.K x C->ExcQ X.K C/\PySem.W.kitAny X.K (.ref C) cs=some k)
  (hN:X.N[i]? = some v:=by rfl) (hv:Vis X.env.scope v:=by first | exact Or.inl rfl | exact Or.inr (Or.inl rfl) | exact Or.inr (Or.inr rfl)) (hg:Gl X "isinstance":=by rfl) (hd:(v == ("__debug__" : Str))=false:=by decide) (hcd:(v == ("__classdict__" : Str))=false:=by decide)
  (he:starEach [.Name v p2,.Tuple es kx1 q] X.env=(false,eval (.Name v p2) X.env)::starEach [.Tuple es kx1 q] X.env:=by rfl) (he2:starEach [.Tuple es kx1 q] X.env=(false,eval (.Tuple es kx1 q) X.env)::starEach [] X.env:=by rfl) (hpl:(backTo pos (starEach [.Tuple es kx1 q] X.env)).any (·.1)=false:=by rfl) :
  EV X T false true (.Call (.Name "isinstance" p) [.Name v p2,.Tuple es kx1 q] [] pos) (wIsx i tab):=by
 refine ⟨_,Qdn (Ql4 F.attrBase_ValueError) hg hb J1 (Js (Ua hN hv hd hcd) (Js (Qke hy) Ub he2) he) (by decide) (by decide) he hpl,λz R σ H W ρ Q Q' s hw k=>?_⟩
 obtain ⟨d,hl,hq⟩:=Qq hw
 obtain ⟨fp,s0⟩:=id s
 obtain ⟨u,h1,h2⟩:=s0.at_ i d hl
 generalize fp i=Fi at h2
 match d,h2,hq with
 | .obj x fs,h2,hq =>
  obtain ⟨r,hr,hq⟩:=Qq hq
  cases h2 with
  | @obj a1 _ ob φ _ e1 hc hf =>
   obtain ⟨C,hc,hn⟩:=hc
   obtain ⟨q1,q2⟩:=ht x r C hr hn
   refine ⟨_,h1,hta _ _ _ ⟨hvs,λtp htp=>?_⟩⟩
   have sm:Same H (upd H tp (.tup vs)):=Qj htp
   exact ⟨a1,ob,φ,C,tp,vs,cs,r,rfl,sm _ _ e1,hc,q1,Qh,hcs,q2,k (.bl r) _ W (.bl r) ρ [] (Post.fin s (FrW.refl H W) (λ_=>⟨Same.refl H,rfl,rfl⟩) sm (.bl r) (by simp) λb m=>nomatch m) hq⟩
end
end PV
namespace L2
open PySem PySem.Spec PyProof.Rows
section
variable {X:Cx}
end
end L2
namespace PV
open PySem PySem.Spec L2
section
variable {X:Cx} {T:Tg} {m o:Bool} {a b:Expr} {pos p:Pos} {wr:WA} {x:Str}
end
end PV
namespace PV
open PySem PySem.Spec L2
section
variable {X:Cx} {T:Tg} {o1:Bool} {e:Expr} {w:WE} {pos p q:Pos} {x:Str}
end
end PV
namespace PV
open PySem PySem.Spec L2
section
variable {i j:Int} {x y:Str} {xs ys:List D} {k:D->Prop} {b c:Bool} {d e:D} {kvs kus:List (Key × D)}
theorem Y1:Yb (.int i) (.int j) k=k (.int (i+j)):=rfl
theorem Gm:Yb (.str x) (.str y) k=(x.length+y.length<=sizeLine/\k (.str (x++y))):=rfl
theorem Zd:Yb (.tup xs) (.tup ys) k=(Qg xs=true/\Qg ys=true/\xs.length+ys.length<=sizeLine/\k (.tup (xs++ys))):=rfl
theorem Gn:Yb (.lst xs) (.lst ys) k=(Qg xs=true/\Qg ys=true/\xs.length+ys.length<=sizeLine/\k (.lst (xs++ys))):=rfl
theorem Xa {lo hi:Option Int}:dSlT (.lst xs) lo hi k=(Qg xs=true/\k (.lst (cutD xs lo hi))):=rfl
theorem Qaa {lo hi:Option Int}:dSlT (.kls xs) lo hi k=(Qg xs=true/\k (.lst (cutD xs lo hi))):=rfl
theorem Vw {lo hi:Option Int}:dSlT (.tup xs) lo hi k=(Qg xs=true/\k (.tup (cutD xs lo hi))):=rfl
theorem Gg:Qtn [.dik kvs] k=k (.lst (Xx kvs)):=rfl
theorem V8:dIx (.fdk kvs) (.int i) k=oget (valD kvs (.inl i)) k:=rfl
theorem Gk {n:Bool}:dEqK n (.dik kvs) (.dik kus) k=(eqK kvs kus/\(Qiu kvs kus->k (.bl (!n)))/\(¬Qiu kvs kus->k (.bl n))):=rfl
theorem Gj {n:Bool}:dEqK n (.dik kvs) (.fdk kus) k=(eqK kvs kus/\(Qiu kvs kus->k (.bl (!n)))/\(¬Qiu kvs kus->k (.bl n))):=rfl
theorem Xb:U2.noDct (.dik kvs)=false:=rfl
theorem Xc:Qrb (.dik kvs) (.int i) d k=k ((valD kvs (.inl i)).getD d):=rfl
theorem Vo {kk:D->D->Prop}:Qqz (.dik kvs) [] kk=kk .non (.dik []):=rfl
theorem Qab {k:List (Key × D)->Prop}:Qlk (.dik kvs) k=k kvs:=rfl
theorem Qbt {k:List D->Prop}:Qhs (.lst xs) k=k xs:=rfl
theorem Gi:Qer (.int i)=some (.inl i):=rfl
end
def Qkq (d:D) (k:List D->Prop):Prop:=Qlk d λkvs=>k (Xx kvs)
theorem Gh {w:WE} {ρ:Env} {Q:List D->Env->Prop}:Qtx w ρ Q=w ρ λd ρ'=>Qkq d λds=>Q ds ρ':=by
 show (w ρ λd ρ'=>match d with | .dik kvs=>Q (Xx kvs) ρ' | _=>False)=_
 first | rfl | (congr 1;funext d ρ';cases d <;> rfl)
theorem Vn {kvs:List (Key × D)} {k:List D->Prop}:Qkq (.dik kvs) k=k (Xx kvs):=rfl
def Qrl (ds:List D) (k:List D->Prop):Prop:=match ds with
 | [.dik kvs,.lst xs]=>Qg xs=true/\k (zipD kvs xs)
 | _=>False
theorem Qbr {wr:WA} {ρ:Env} {Q:List D->Env->Prop}:wZip wr ρ Q=wr ρ λds ρ'=>Qrl ds λl=>Q l ρ':=by
 show (wr ρ λds ρ'=>match ds with | [.dik kvs,.lst xs]=>Qg xs=true/\Q (zipD kvs xs) ρ' | _=>False)=_
 rfl
theorem Gf {kvs:List (Key × D)} {xs:List D} {k:List D->Prop}:Qrl [.dik kvs,.lst xs] k=(Qg xs=true/\k (zipD kvs xs)):=rfl
theorem Qbs {i:Nat} {wi:WE} {d:D} {ρ:Env} {Q:Env->Prop}:Qtd i wi d ρ Q=((look ρ i).isSome=true/\wi ρ λc _=>oget (look ρ i) λs=>Qhs s λxs=>Qqu c λj=>oget (j.bind (ixN xs.length)) λn=>Q (ρ.set i (some (.lst (xs.set n d))))):=by
 unfold Qtd
 first | rfl | (congr 1;congr 1;funext c _;congr 1;funext s;congr 1;funext xs;cases c <;> rfl)
end PV
namespace PV
open PySem PySem.Spec L2
theorem Xg:∀{a b:List Int},a.map D.int=b.map D.int->a=b
 | [],[],_=>rfl
 | [],_::_,h=>by simp at h
 | _::_,[],h=>by simp at h
 | x::a,y::b,h=>by
  simp only [List.map_cons,List.cons.injEq,D.int.injEq] at h
  rw [h.1,Xg h.2]
section
variable {ns:List Int} {n:Int} {k:D->Prop} {xs:List D} {kvs:List (Key × D)}
theorem Qbq:Qox (.ftp (ns.map D.int)) [.int n] k=k (.int (ns.count n:Nat)):=by
 show (∃ms:List Int,ns.map D.int=ms.map D.int/\k (.int (ms.count n:Nat)))=_
 exact propext ⟨λ⟨ms,e,h⟩=>by rw [Xg e];exact h,λh=>⟨ns,rfl,h⟩⟩
theorem Qgh:isFt (.ftp xs)=true:=rfl
theorem Qbp:dSum [.lst (ns.map D.int)] k=k (.int ns.sum):=by
 show (∃ms:List Int,ns.map D.int=ms.map D.int/\k (.int ms.sum))=_
 exact propext ⟨λ⟨ms,e,h⟩=>by rw [Xg e];exact h,λh=>⟨ns,rfl,h⟩⟩
theorem Ge:Qu6 [.lst xs] k=(Qg xs=true/\k (.ftp xs)):=rfl
theorem Vm:Qtm [.dik kvs] k=∃ns:List Int,kvs.map (·.1)=ns.map Sum.inl/\kvs.length<64/\∀out:List Int,out.Perm ns->out.Pairwise (· <= ·)->k (.lst (out.map D.int)):=rfl
end
end PV
namespace PV
open PySem PySem.Spec L2
section
variable {i j:Int} {k:D->Prop} {xs ys:List D} {bs:List Bool} {d e:D}
theorem Zo (h:0<j) (h2:j<115792089237316195423570985008687907853269984665640564039457584007913129639936):Qe4 (.int i) (.int j) k=k (.int (i / j)):=by
 show (0<j/\j<2 ^ 256/\k (.int (i / j)))=_
 exact propext ⟨λq=>q.2.2,λq=>⟨h,by omega,q⟩⟩
theorem Qma:∀{a b:List Bool},a.map D.bl=b.map D.bl->a=b
 | [],[],_=>rfl
 | [],_::_,h=>by simp at h
 | _::_,[],h=>by simp at h
 | x::a,y::b,h=>by
  simp only [List.map_cons,List.cons.injEq,D.bl.injEq] at h
  rw [h.1,Qma h.2]
theorem G9:dAll [.lst (bs.map D.bl)] k=k (.bl (bs.all id)):=by
 show (∃cs:List Bool,bs.map D.bl=cs.map D.bl/\k (.bl (cs.all id)))=_
 exact propext ⟨λ⟨cs,e,h⟩=>by rw [Qma e];exact h,λh=>⟨bs,rfl,h⟩⟩
theorem Gd {k:List D->Prop}:Qn9 [.tup xs,.tup ys] k=(Qg xs=true/\Qg ys=true/\k (Qrk xs ys)):=rfl
theorem X9 {k:D->D->Prop}:two2 (.tup [d,e]) k=k d e:=rfl
end
end PV
namespace PV
open PySem PySem.Spec L2
theorem Qr7 {a b:D} {r:Int} (h0:0<=r) (h1:r<2):(r=0/\L2.atI [a,b] r=some a)\/(r=1/\L2.atI [a,b] r=some b):=by
 have:r=0\/r=1:=by omega
 rcases this with rfl | rfl
 ·exact .inl ⟨rfl,rfl⟩
 ·exact .inr ⟨rfl,rfl⟩
theorem Qul {a b c:D} {r:Int} (h0:0<=r) (h1:r<3):L2.atI [a,b,c] r=some a\/L2.atI [a,b,c] r=some b\/L2.atI [a,b,c] r=some c:=by
 have:r=0\/r=1\/r=2:=by omega
 rcases this with rfl | rfl | rfl
 ·exact .inl rfl
 ·exact .inr (.inl rfl)
 ·exact .inr (.inr rfl)
theorem Quk {a b c d:D} {r:Int} (h0:0<=r) (h1:r<4):L2.atI [a,b,c,d] r=some a\/L2.atI [a,b,c,d] r=some b\/L2.atI [a,b,c,d] r=some c\/L2.atI [a,b,c,d] r=some d:=by
 have:r=0\/r=1\/r=2\/r=3:=by omega
 rcases this with rfl | rfl | rfl | rfl
 ·exact .inl rfl
 ·exact .inr (.inl rfl)
 ·exact .inr (.inr (.inl rfl))
 ·exact .inr (.inr (.inr rfl))
theorem Qhq {lo:Int} {n:Nat} {d:D} (h:d∈rngD lo n):∃i:Nat,i<n/\d=.int (lo+(i:Int)):=by
 obtain ⟨i,hi,rfl⟩:=List.mem_map.mp h
 exact ⟨i,List.mem_range.mp hi,rfl⟩
theorem Qa4 {lo:Int} {n:Nat}:(rngD lo n).length=n:=by simp [rngD]
theorem V9 {ns:List Int}:Qg (ns.map D.int)=true:=Qp λ_ _=>rfl
def isP (p:Int):Prop:=p=101\/p=10007\/p=999999937
theorem cop (p:Nat) (hp:p=101\/p=10007\/p=999999937):∀d:Nat,d<101->0<d->Nat.gcd p d=1:=by
 rcases hp with rfl | rfl | rfl <;> decide +kernel
theorem Qri {p leap off:Int} (hp:isP p) (h1:0<leap) (h2:leap<p) {i j:Nat} (hi:i<101) (hij:j<i) (h:(off+(i:Int)*leap) % p=(off+(j:Int)*leap) % p):False:=by
 obtain ⟨q,rfl⟩:=Int.eq_ofNat_of_zero_le (show 0<=leap by omega)
 obtain ⟨P,rfl⟩:∃P:Nat,p=(P:Int):=Int.eq_ofNat_of_zero_le (by rcases hp with z | z | z <;> omega)
 have hP:P=101\/P=10007\/P=999999937:=by
  rcases hp with z | z | z
  ·exact .inl (by omega)
  ·exact .inr (.inl (by omega))
  ·exact .inr (.inr (by omega))
 have e:=Int.emod_eq_emod_iff_emod_sub_eq_zero.mp h
 have e2:off+(i:Int)*(q:Int)-(off+(j:Int)*(q:Int))=(((i-j)*q:Nat):Int):=by
  rw [Int.natCast_mul,Int.ofNat_sub (by omega),Int.sub_mul]
  omega
 rw [e2] at e
 have e3:((i-j)*q) % P=0:=by exact_mod_cast e
 have d1:P ∣ (i-j)*q:=Nat.dvd_of_mod_eq_zero e3
 have c1:Nat.gcd P (i-j)=1:=cop P hP _ (by omega) (by omega)
 have d2:P ∣ q:=Nat.Coprime.dvd_of_dvd_mul_left c1 d1
 have:=Nat.le_of_dvd (by omega) d2
 omega
theorem Qjk {p leap off:Int} (hp:isP p) (h1:0<leap) (h2:leap<p) {q:Nat} (hq:q<=101):((List.range q).map λ(i:Nat)=>(off+(i:Int)*leap) % p).Nodup:=by
 rw [List.nodup_iff_pairwise_ne,List.pairwise_map]
 refine List.Pairwise.imp_of_mem ?_ (List.pairwise_lt_range)
 intro i j hi hj hlt h
 exact Qri hp h1 h2 (by have:=List.mem_range.mp hj;omega) hlt h.symm
theorem Qrd {ds:List D} {a b:Nat} (h:a<=b) (hb:b<=ds.length):cutD ds (some (a:Int)) (some (b:Int))=(ds.drop a).take (b-a):=by
 unfold cutD
 rw [HT.Qdi,HT.Qdi,Nat.min_eq_left hb,Nat.min_eq_left (Nat.le_trans h hb)]
theorem Xk {ds:List D} {a:Nat} (h:a<=ds.length):cutD ds (some (a:Int)) none=ds.drop a:=by
 unfold cutD
 rw [HT.Qdi,HT.Qhk,Nat.min_eq_left h,List.take_of_length_le (by simp)]
theorem Qlt {ds:List D} {b:Nat}:cutD ds none (some (b:Int))=ds.take b:=by
 unfold cutD
 rw [HT.Qdi,HT.Qhk,List.drop_zero,Nat.sub_zero]
 by_cases h:b<=ds.length
 ·rw [Nat.min_eq_left h]
 ·rw [Nat.min_eq_right (by omega),List.take_of_length_le (by omega),List.take_of_length_le (by omega)]
def rowD (c n:Int):D:=.lst [.int c,.int n]
def webD (m e:Nat) (A:Nat->Int) (r:Int):D:=.tup [.tup ((List.range m).map λk=>.tup ((List.range 4).map λj=>.int (A (4*k+j)))),.tup ((List.range e).map λj=>.int (A (4*m+j))),.int r]
structure Pr (N:Nat) (xs:List Int) (t:Nat) (L:List Nat) (Bs:List Int) (ps:List (Nat × Nat)):Prop where
 bl:Bs.length=N
 pl:ps.length=t
 perm:(ps.flatMap (λp=>[p.1,p.2])++L).Perm (List.range N)
 val:∀(s:Nat) p,ps[s]? = some p->∃x,xs[s]? = some x/\Bs[p.1]? = some x/\Bs[p.2]? = some x
theorem Pr.lt {N:Nat} {xs:List Int} {t:Nat} {L:List Nat} {Bs:List Int} {ps:List (Nat × Nat)} (h:Pr N xs t L Bs ps) {i:Nat} (hi:i∈L):i<N:=by
 have:=h.perm.mem_iff.mp (List.mem_append.mpr (.inr hi))
 exact List.mem_range.mp this
theorem Pr.nd {N:Nat} {xs:List Int} {t:Nat} {L:List Nat} {Bs:List Int} {ps:List (Nat × Nat)} (h:Pr N xs t L Bs ps):(ps.flatMap (λp=>[p.1,p.2])++L).Nodup:=h.perm.nodup_iff.mpr List.nodup_range
theorem Pr.start (N:Nat) (xs:List Int):Pr N xs 0 (List.range N) (List.replicate N 0) []:=⟨by simp,rfl,by simp,λs p h=>by simp at h⟩
theorem Qcz {α:Type}:∀{l:List α} {i:Nat} (h:i<l.length),(l[i]::l.eraseIdx i).Perm l
 | a::l,0,_=>List.Perm.refl _
 | a::l,i+1,h=>by
  have:=Qcz (l:=l) (i:=i) (by simpa using h)
  simp only [List.getElem_cons_succ,List.eraseIdx_cons_succ]
  exact (List.Perm.swap _ _ _).trans (this.cons a)
theorem Qep {α β:Type} {f:α->β}:∀{l:List α} {i:Nat},(l.map f).eraseIdx i=(l.eraseIdx i).map f
 | [],_=>rfl
 | a::l,0=>rfl
 | a::l,i+1=>by simp only [List.map_cons,List.eraseIdx_cons_succ,Qep]
theorem Pr.step {N:Nat} {xs:List Int} {t i s:Nat} {L:List Nat} {Bs:List Int} {ps:List (Nat × Nat)} {x:Int} (h:Pr N xs t (i::L) Bs ps) (hx:xs[t]? = some x) (hs:s<L.length) :
  Pr N xs (t+1) (L.eraseIdx s) ((Bs.set i x).set L[s] x) (ps++[(i,L[s])]):=by
 have nd:=h.nd
 obtain ⟨n1,n2,n3⟩:=List.nodup_append.mp nd
 have hjm:L[s]∈L:=List.getElem_mem hs
 have hij:i≠L[s]:=λz=>(List.nodup_cons.mp n2).1 (z ▸ hjm)
 have hi:=h.lt (List.mem_cons_self (a:=i))
 have hj:=h.lt (List.mem_cons_of_mem i hjm)
 refine ⟨by simp [h.bl],by simp [h.pl],?_,λs' p hp=>?_⟩
 ·rw [List.flatMap_append]
  refine List.Perm.trans ?_ h.perm
  rw [List.append_assoc]
  refine List.Perm.append_left _ ?_
  show (i::L[s]::L.eraseIdx s).Perm (i::L)
  exact List.Perm.cons _ (Qcz hs)
 ·by_cases hs':s' < ps.length
  ·rw [List.getElem?_append_left hs'] at hp
   obtain ⟨y,h1,h2,h3⟩:=h.val s' p hp
   have mem:∀a,a=p.1\/a=p.2->a∈ps.flatMap (λp=>[p.1,p.2]):=λa ha=>List.mem_flatMap.mpr ⟨p,List.mem_of_getElem? hp,by simpa using ha⟩
   have ne:∀a,a=p.1\/a=p.2->i≠a/\L[s]≠a:=λa ha=>⟨λz=>n3 a (mem a ha) i List.mem_cons_self z.symm,λz=>n3 a (mem a ha) L[s] (List.mem_cons_of_mem _ hjm) z.symm⟩
   refine ⟨y,h1,?_,?_⟩
   ·rw [List.getElem?_set_ne (ne _ (.inl rfl)).2,List.getElem?_set_ne (ne _ (.inl rfl)).1];exact h2
   ·rw [List.getElem?_set_ne (ne _ (.inr rfl)).2,List.getElem?_set_ne (ne _ (.inr rfl)).1];exact h3
  ·have e:s'=t:=by
    have:=(List.getElem?_eq_some_iff.mp hp).1
    have:=h.pl
    simp at *
    omega
   subst e
   rw [List.getElem?_append_right (by omega),h.pl,Nat.sub_self] at hp
   simp at hp
   subst hp
   refine ⟨x,hx,?_,?_⟩
   ·rw [List.getElem?_set_ne (Ne.symm hij),List.getElem?_set_self (by rw [h.bl];exact hi)]
   ·rw [List.getElem?_set_self (by rw [List.length_set,h.bl];exact hj)]
theorem Pr.tw {N:Nat} {xs:List Int} {t:Nat} {Bs:List Int} {ps:List (Nat × Nat)} (h:Pr N xs t [] Bs ps) (nd:xs.Nodup):∃g,M.Tw N (λi=>Bs.getD i 0) g:=by
 have nf:=h.nd
 rw [List.append_nil] at nf
 have val:∀i,i<N->∃(s:Nat) (p:Nat × Nat) (x:Int),ps[s]? = some p/\(i=p.1\/i=p.2)/\xs[s]? = some x/\Bs.getD i 0=x:=λi hi=>by
  have:=h.perm.mem_iff.mpr (List.mem_range.mpr hi)
  rw [List.append_nil] at this
  obtain ⟨p,hp,hip⟩:=List.mem_flatMap.mp this
  obtain ⟨s,hs⟩:=List.mem_iff_getElem?.mp hp
  obtain ⟨x,h1,h2,h3⟩:=h.val s p hs
  have hip':i=p.1\/i=p.2:=by simpa using hip
  refine ⟨s,p,x,hs,hip',h1,?_⟩
  rcases hip' with z | z
  ·rw [List.getD_eq_getElem?_getD,z,h2];rfl
  ·rw [List.getD_eq_getElem?_getD,z,h3];rfl
 have ne:∀p∈ps,p.1≠p.2:=λp hp z=>by
  have:[p.1,p.2].Nodup:=by
   have hsub:[p.1,p.2].Sublist (ps.flatMap λp=>[p.1,p.2]):=by
    obtain ⟨a,b,rfl⟩:=List.append_of_mem hp
    rw [List.flatMap_append,List.flatMap_cons]
    exact (List.sublist_append_left _ _).trans (List.sublist_append_right _ _)
   exact nf.sublist hsub
  simp [z] at this
 have ltp:∀p∈ps,p.1<N/\p.2<N:=λp hp=>by
  have m1:=h.perm.mem_iff.mp (List.mem_append.mpr (.inl (List.mem_flatMap.mpr ⟨p,hp,List.mem_cons_self⟩)))
  have m2:=h.perm.mem_iff.mp (List.mem_append.mpr (.inl (List.mem_flatMap.mpr ⟨p,hp,List.mem_cons_of_mem _ List.mem_cons_self⟩)))
  exact ⟨List.mem_range.mp m1,List.mem_range.mp m2⟩
 have ex:∀i,∃j,i<N->j<N/\j≠i/\Bs.getD j 0=Bs.getD i 0/\∀k,k<N->Bs.getD k 0=Bs.getD i 0->k=i\/k=j:=λi=>by
  by_cases hi:i<N
  ·obtain ⟨s,p,x,hs,hip,hx,hv⟩:=val i hi
   have hp:=List.mem_of_getElem? hs
   obtain ⟨x',h1,h2,h3⟩:=h.val s p hs
   rw [hx] at h1;cases h1
   have only:∀k,k<N->Bs.getD k 0=Bs.getD i 0->k=p.1\/k=p.2:=λk hk e=>by
    obtain ⟨s',p',y,hs',hkp,hy,hw⟩:=val k hk
    rw [hw,hv] at e
    subst e
    have:s'=s:=by
     have l1:=(List.getElem?_eq_some_iff.mp hx)
     have l2:=(List.getElem?_eq_some_iff.mp hy)
     obtain ⟨a1,a2⟩:=l1
     obtain ⟨b1,b2⟩:=l2
     exact (List.getElem_inj nd).mp (b2.trans a2.symm)
    subst this
    rw [hs] at hs';cases hs'
    exact hkp
   rcases hip with z | z
   ·refine ⟨p.2,λ_=>⟨(ltp p hp).2,λq=>ne p hp (by rw [← z,q]),?_,λk hk e=>(only k hk e).imp (λq=>q.trans z.symm) id⟩⟩
    rw [hv,List.getD_eq_getElem?_getD,h3];rfl
   ·refine ⟨p.1,λ_=>⟨(ltp p hp).1,λq=>ne p hp (by rw [q,z]),?_,λk hk e=>(only k hk e).elim .inr (λq=>.inl (q.trans z.symm))⟩⟩
    rw [hv,List.getD_eq_getElem?_getD,h2];rfl
  ·exact ⟨0,λz=>absurd z hi⟩
 refine ⟨λi=>Classical.choose (ex i),λi hi=>(Classical.choose_spec (ex i) hi).1,λi hi=>(Classical.choose_spec (ex i) hi).2.1,λi hi=>(Classical.choose_spec (ex i) hi).2.2.1,λi k hi hk e=>(Classical.choose_spec (ex i) hi).2.2.2 k hk e⟩
theorem Uh {Bs:List Int} {a b:Nat} (h:a+b<=Bs.length):((Bs.map D.int).drop a).take b=(List.range b).map λj=>D.int (Bs.getD (a+j) 0):=by
 apply List.ext_getElem?
 intro j
 rw [List.getElem?_take,List.getElem?_map]
 by_cases hj:j<b
 ·rw [if_pos hj,List.getElem?_drop,List.getElem?_map,List.getElem?_range hj,List.getElem?_eq_getElem (by omega)]
  simp [List.getD_eq_getElem?_getD,List.getElem?_eq_getElem (show a+j<Bs.length by omega)]
 ·rw [if_neg hj,List.getElem?_eq_none (by simpa using hj)];rfl
def Qlu (Bs:List Int):D->D
 | .int k=>.tup ((List.range 4).map λj=>.int (Bs.getD (4*k.toNat+j) 0))
 | d=>d
theorem Qc8 {Bs:List Int} {i:Nat}:Qlu Bs (.int (0+(i:Int)))=.tup ((List.range 4).map λj=>.int (Bs.getD (4*i+j) 0)):=by
 show D.tup ((List.range 4).map λj=>.int (Bs.getD (4*(0+(i:Int)).toNat+j) 0))=_
 rw [show (0+(i:Int)).toNat=i by omega]
theorem Qjc {Bs:List Int} {m:Nat}:(rngD 0 m).map (Qlu Bs)=(List.range m).map λk=>.tup ((List.range 4).map λj=>.int (Bs.getD (4*k+j) 0)):=by
 unfold rngD
 rw [List.map_map]
 apply List.map_congr_left
 intro i _
 exact Qc8
theorem Qnk {Bs:List Int} {P:Int->Prop} (h0:P 0) (h:∀b∈Bs,P b) (i:Nat):P (Bs.getD i 0):=by
 rw [List.getD_eq_getElem?_getD]
 cases q:Bs[i]? with
 | none=>exact h0
 | some b=>exact h b (List.mem_of_getElem? q)
theorem len1 {α:Type}:∀{us:List α},us.length=1->∃a,us=[a]
 | [a],_=>⟨a,rfl⟩
theorem len2 {α:Type} {us:List α} (h:us.length=2):∃a b,us=[a,b]:=by
 cases us with
 | nil=>cases h
 | cons a us=>obtain ⟨b,rfl⟩:=len1 (Nat.succ.inj h);exact ⟨a,b,rfl⟩
theorem len3 {α:Type} {us:List α} (h:us.length=3):∃a b c,us=[a,b,c]:=by
 cases us with
 | nil=>cases h
 | cons a us=>obtain ⟨b,c,rfl⟩:=len2 (Nat.succ.inj h);exact ⟨a,b,c,rfl⟩
end PV
namespace PV
open PySem PySem.Spec L2
def spD (m i:Nat):D:=.tup [.int (M.sp m i).1,.int (M.sp m i).2]
def encP (s:Nat->D) (P:List (Int × List Nat)):List (Key × D):=P.map λe=>((.inl e.1:Key),D.lst (e.2.map s))
theorem Qli {s:Nat->D} {P:List (Int × List Nat)} (nd:(P.map (·.1)).Nodup):((encP s P).map (·.1)).Nodup:=by
 unfold encP
 rw [List.map_map]
 have:(P.map ((λ(x:Key × D)=>x.1) ∘ λe=>((.inl e.1:Key),D.lst (e.2.map s))))=(P.map (·.1)).map (λa=>(.inl a:Key)):=by rw [List.map_map];rfl
 rw [this,List.nodup_iff_pairwise_ne,List.pairwise_map]
 exact List.Pairwise.imp (λh z=>h (by injection z)) (List.nodup_iff_pairwise_ne.mp nd)
theorem Qh8 {s:Nat->D} {a:Int}:∀{P:List (Int × List Nat)},valD (encP s P) (.inl a)=(P.find? λe=>decide (e.1=a)).map λe=>D.lst (e.2.map s)
 | []=>rfl
 | e::P=>by
  show valD (((.inl e.1:Key),D.lst (e.2.map s))::encP s P) (.inl a)=_
  rw [Yr]
  by_cases h:e.1=a
  ·rw [if_pos (by rw [h]),List.find?_cons_of_pos (by simp [h])];rfl
  ·rw [if_neg (λz=>h (by injection z)),Qh8,List.find?_cons_of_neg (by simp [h])]
theorem Qhx {α β:Type} {f:α->β}:∀{l:List α} {a b:α},(l.map f).Nodup->a∈l->b∈l->f a=f b->a=b
 | [],_,_,_,h,_,_=>by cases h
 | x::l,a,b,nd,ha,hb,e=>by
  obtain ⟨n1,n2⟩:=List.nodup_cons.mp (show (f x::l.map f).Nodup from nd)
  rcases List.mem_cons.mp ha with za | ha
  ·rcases List.mem_cons.mp hb with zb | hb
   ·rw [za,zb]
   ·exact absurd (by rw [← za,e];exact List.mem_map.mpr ⟨b,hb,rfl⟩) n1
  ·rcases List.mem_cons.mp hb with zb | hb
   ·exact absurd (by rw [← zb,← e];exact List.mem_map.mpr ⟨a,ha,rfl⟩) n1
   ·exact Qhx n2 ha hb e
theorem Qj0 {s:Nat->D} {P:List (Int × List Nat)} {a:Int} {i:Nat} (nd:(P.map (·.1)).Nodup):∃l:List Nat,(l=[]\/∃e∈P,l=e.2)/\valD (Zi (encP s P) (.inl a)) (.inl a)=some (.lst (l.map s)) /\
  putD (Zi (encP s P) (.inl a)) (.inl a) (.lst (l.map s++[s i]))=encP s (M.addP P a i):=by
 have hv:=Qh8 (s:=s) (a:=a) (P:=P)
 cases hf:P.find? λe=>decide (e.1=a) with
 | none =>
  rw [hf] at hv
  have hv:valD (encP s P) (.inl a)=none:=hv
  have e1:Zi (encP s P) (.inl a)=encP s P++[((.inl a:Key),.lst [])]:=by unfold Zi;rw [hv];rfl
  have hany:¬(P.any λe=>decide (e.1=a))=true:=λz=>by
   obtain ⟨e,he,h⟩:=List.any_eq_true.mp z
   exact List.find?_eq_none.mp hf e he h
  refine ⟨[],.inl rfl,?_,?_⟩
  ·rw [e1,Qat,hv];simp
  ·have hadd:M.addP P a i=P++[(a,[i])]:=by unfold M.addP;rw [if_neg hany]
   have hno:∀kv∈encP s P,kv.1≠(.inl a:Key):=λkv hkv z=>by
    obtain ⟨e,he,rfl⟩:=List.mem_map.mp hkv
    exact hany (List.any_eq_true.mpr ⟨e,he,by simpa using z⟩)
   rw [hadd,e1]
   unfold putD
   rw [if_pos (by simp),List.map_append]
   have:(encP s P).map (λkv=>if kv.1=(.inl a:Key) then (kv.1,D.lst (([]:List Nat).map s++[s i])) else kv)=encP s P:=by
    conv=>rhs;rw [← List.map_id (encP s P)]
    apply List.map_congr_left
    intro kv hkv
    rw [if_neg (hno kv hkv)];rfl
   rw [this]
   simp [encP]
 | some e =>
  rw [hf] at hv
  have hv:valD (encP s P) (.inl a)=some (.lst (e.2.map s)):=hv
  have he:=List.mem_of_find?_eq_some hf
  have hk:e.1=a:=by have:=List.find?_some hf;simpa using this
  have e1:Zi (encP s P) (.inl a)=encP s P:=by unfold Zi;rw [hv];rfl
  have hany:(P.any λe=>decide (e.1=a))=true:=List.any_eq_true.mpr ⟨e,he,by simpa using hk⟩
  refine ⟨e.2,.inr ⟨e,he,rfl⟩,by rw [e1];exact hv,?_⟩
  have hadd:M.addP P a i=P.map (λx=>if x.1=a then (x.1,x.2++[i]) else x):=by unfold M.addP;rw [if_pos hany]
  rw [e1,hadd]
  unfold putD
  rw [if_pos (by rw [Xo,hv];rfl)]
  unfold encP
  rw [List.map_map,List.map_map]
  apply List.map_congr_left
  intro x hx
  show (if (.inl x.1:Key)=.inl a then ((.inl x.1:Key),D.lst (e.2.map s++[s i])) else ((.inl x.1:Key),D.lst (x.2.map s)))=((.inl (if x.1=a then (x.1,x.2++[i]) else x).1:Key),D.lst ((if x.1=a then (x.1,x.2++[i]) else x).2.map s))
  by_cases q:x.1=a
  ·have:x=e:=Qhx nd hx he (q.trans hk.symm)
   subst this
   rw [if_pos (by rw [q]),if_pos q]
   simp
  ·rw [if_neg (λz=>q (by injection z)),if_neg q]
theorem Qbu (A:Nat->Int):∀t,(M.plc A t).length<=t
 | 0=>Nat.le_refl _
 | t+1=>by
  rw [M.Xe]
  have:=Qbu A t
  unfold M.addP
  split <;> simp <;> omega
theorem Qmx (A:Nat->Int) (t:Nat):∀e∈M.plc A t,e.2.length<=t:=λe he=>by
 obtain ⟨_,h2,_⟩:=M.Qcy A t
 rw [(h2 e he).1]
 have:=List.length_filter_le (λi=>decide (A i=e.1)) (List.range t)
 simpa using this
theorem Xd:∀{ds:List D} {n:Nat},Qg ds=true->Qg (Up n ds)=true
 | [],_,_=>rfl
 | d::r,n,h=>by
  simp only [Qg,Bool.and_eq_true] at h
  simp only [Up,Qg,D.pure,Bool.and_eq_true]
  exact ⟨⟨trivial,h.1,trivial⟩,Xd h.2⟩
theorem Qpw {m i:Nat}:(spD m i).pure=true:=rfl
end PV
namespace M
open PySem PySem.Spec L2 PV
end M
namespace PV
open PySem PySem.Spec L2
theorem V2 {m e:Nat} {A:Nat->Int} {r:Int}:(webD m e A r).pure=true:=by
 unfold webD
 simp only [D.pure,Qg,Bool.and_true,Bool.and_eq_true]
 exact ⟨Qp λ_ _=>by simp only [D.pure];exact Qp λ_ _=>rfl,Qp λ_ _=>rfl⟩
end PV
namespace PV
open PySem PySem.Spec L2
section
variable {X:Cx} {T:Tg} {m o m1 m2 m3 o1 o2:Bool} {e a b:Expr} {w wa wb:WE} {pos p2 p:Pos} {es:List Expr} {wr:WA} {x:Str}
variable {name:Str} {apos cpos:Pos} {T' id:String}
end
end PV
namespace S03
open PySem PySem.Spec L2 PV
open PySem.Builtin.Str (glued)
variable {k:D->Prop} {kk:D->D->Prop} {i:Int} {x y:Str} {xs ys:List D} {kvs:List (Key × D)}
end S03
namespace S24
open PySem PySem.Spec L2 PV S03
open PySem.Builtin.Str (glued occurrences strSub subAt)
section
variable {k:D->Prop} {i:Int} {x y:Str} {xs zs:List D}
end
end S24
namespace PV
open PySem PySem.Spec L2
open PyProof.Rows (envOfC)
section
variable {X:Cx} {T:Tg} {m o:Bool} {e:Expr} {w:WE} {pos p:Pos} {x:Str} {k:Nat} {ps:List Str} {L:Lam} {g:GA}
end
section
variable {P:Program} {w:World} {K:PySem.W.Frag} {mg:Str->Option Value} {base:Heap} {x qual:Str} {st:Stmt} {f:Addr} {fd:FuncData} {N ps:List Str} {k:Nat} {T:Tg} {ww:WS} {TB:List (Addr × Array Value)}
end
end PV
namespace PV
open PySem PySem.Spec L2
section
variable {X:Cx} {T:Tg} {m o:Bool} {e:Expr} {w:WE} {pos p q:Pos} {x y:Str} {k:Nat}
end
end PV
namespace PV
open PySem PySem.Spec L2
section
variable {X:Cx} {T:Tg} {m o:Bool} {e:Expr} {w:WE} {pos p q:Pos} {x y:Str} {k:Nat}
end
end PV
namespace PV
open PySem PySem.Spec L2
open PySem.W (Dat kqdP kqdPs kqdOk)
open PyProof.Rows (reads_tuple_at eq_dataH)
section
variable {X:Cx}
end
section
variable {X:Cx} {T:Tg} {m o o1 o2:Bool} {e a b e₀:Expr} {es:List Expr} {w wa wb:WE} {pos p2 p np cpos hpos px:Pos} {wr:WA} {x y:Str} {ws wh:WS} {k:Nat} {ps:List Str}
end
end PV
namespace L2
open PySem PySem.Spec PyProof.Rows
open PySem.W (Dat kqdP kqdPs kqdOk)
section
variable {X:Cx}
end
end L2
namespace PV
open PySem PySem.Spec L2 PyProof.Rows
section
variable {X:Cx} {T:Tg} {m o m1 m2 o1 o2:Bool} {e a b tg:Expr} {w wa wb:WE} {pos p q cp:Pos} {x y:Str}
def frzK (d:D) (k:D->Prop):Prop:=match d with
 | .lst xs=>Qg xs=true/\k (.kls xs)
 | _=>False
def Qil (w:WE):WE:=λρ Q=>w ρ λd ρ'=>frzK d λd'=>Q d' ρ'
def asK (Q:D->Env->Prop) (d:D) (ρ:Env):Prop:=match d with
 | .fls xs=>Q (.kls xs) ρ
 | _=>False
theorem Qlf (h:EV X T m true e w):EV X T m true e (Qil w):=by
 obtain ⟨te,pe,ge⟩:=Qe1 h
 refine ⟨te,pe,λz R σ H W ρ Q Q' s hw k=>ge z R σ H W ρ (asK Q) Q' s ?_ λv H1 W1 d ρ1 F pp qq=>?_⟩
 ·have:(λ(d:D) (ρ':Env)=>frzK d λd'=>Q d' ρ')=λd ρ'=>Qq0 d λd'=>asK Q d' ρ':=by
   funext d ρ'
   cases d <;> rfl
  unfold Qil at hw
  rw [this] at hw
  exact hw
 ·cases d with
  | fls xs =>
   obtain ⟨sr,fr,calm,rep,own⟩:=pp
   cases rep with
   | fls e1 r=>exact k _ H1 W1 (.kls xs) ρ1 [] ⟨sr,fr,calm,.kls (.inl ⟨_,e1⟩) r,own⟩ qq
  | _=>exact (show False from qq).elim
theorem Qhn {xs:List D} {k:D->Prop}:frzK (.lst xs) k=(Qg xs=true/\k (.kls xs)):=rfl
mutual
def nF:D->D
 | .tup xs=>.tup (nFs xs)
 | .lst xs=>.lst (nFs xs)
 | .kls xs=>.lst (nFs xs)
 | .non=>.non
 | .int i=>.int i
 | .str x=>.str x
 | _=>.ty .int
def nFs:List D->List D
 | []=>[]
 | d::r=>nF d::nFs r
end
end
end PV
namespace L2
open PySem PySem.Spec PyProof.Rows
section
variable {X:Cx}
end
end L2
namespace PV
open PySem PySem.Spec L2 PyProof.Rows
section
variable {X:Cx} {T:Tg} {m o o1 o2:Bool} {e oe tg:Expr} {w we:WE} {wr:WA} {pos p q p2 ps1 ap2 cp2 apos cpos:Pos} {x y:Str}
end
end PV
namespace Mx
open PySem PySem.Spec L2
variable {X:Cx}
end Mx
namespace PV
open PySem PySem.Spec L2 Mx
section
variable {K:PySem.W.Frag} {H:Hp}
end
section
variable {X:Cx} {T:Tg}
end
end PV
namespace Mx
open PySem PySem.Spec L2
variable {X:Cx}
end Mx
namespace PV
open PySem PySem.Spec L2 Mx
section
variable {K:PySem.W.Frag} {H:Hp}
end
section
variable {X:Cx} {T:Tg} {m1 o1 m2 o2:Bool} {x:Str} {pos:Pos}
end
end PV
namespace PV
open PySem PySem.Spec L2
section
variable {X:Cx}
end
end PV
namespace PV
open PySem PySem.Spec L2 Mx
section
variable {X:Cx} {T:Tg} {m o m0 m1 m2 m3 o1 o2:Bool} {e a b:Expr} {w wa wb we:WE} {pos p2 p:Pos} {es:List Expr} {wr:WA} {x y:Str} {wt:WT} {ws:WS}
end
end PV
namespace PV
open PySem PySem.Spec L2
section
variable {X:Cx}
end
end PV
namespace PV
open PySem PySem.Spec L2 Mx
open PyProof.Rows (envOfC)
section
variable {P:Program} {w:World} {K:PySem.W.Frag} {mg:Str->Option Value} {base:Heap} {x qual:Str} {st:Stmt} {f:Addr} {fd:FuncData} {N ps:List Str} {k:Nat} {T:Tg} {ww:WS}
end
end PV
namespace L2
open PySem PySem.Spec PyProof.Rows
open PySem.Sem (wp)
def DK (h h':Heap):Prop:=∀b o,h.get? b=some o->∃o',h'.get? b=some o'/\o'.dict=o.dict/\∀vs,o.data=.fields vs->∃vs':Array Value,o'.data=.fields vs'/\vs'[2]? = vs[2]?
theorem DK.refl (h:Heap):DK h h:=λ_ o e=>⟨o,e,rfl,λvs d=>⟨vs,d,rfl⟩⟩
theorem DK.trans {h h1 h2:Heap} (x:DK h h1) (y:DK h1 h2):DK h h2:=λb o e =>
 let ⟨o1,e1,d1,f1⟩:=x b o e
 let ⟨o2,e2,d2,f2⟩:=y b o1 e1
 ⟨o2,e2,d2.trans d1,λvs d=>let ⟨v1,g1,k1⟩:=f1 vs d;let ⟨v2,g2,k2⟩:=f2 v1 g1;⟨v2,g2,k2.trans k1⟩⟩
theorem DK.upd {h:Heap} {a:Addr} {f:Obj->Obj} (hf:∀o,h.get? a=some o->(f o).isFreed=false/\(f o).dict=o.dict/\∀vs,o.data=.fields vs->∃vs':Array Value,(f o).data=.fields vs'/\vs'[2]? = vs[2]?):DK h (h.update a f):=λb o e=>by
 by_cases z:a=b
 ·subst z
  exact ⟨_,Heap.get?_update_self f e (hf o e).1,(hf o e).2⟩
 ·exact ⟨o,by rw [Heap.get?_update_other _ _ z];exact e,rfl,λvs d=>⟨vs,d,rfl⟩⟩
theorem DK.psh (h:Heap) (o:Obj):DK h (h.push o):=λb o' e=>⟨o',Heap.get?_push_of_some _ e,rfl,λvs d=>⟨vs,d,rfl⟩⟩
structure KD {α:Type} (t:Sem α):Prop where
 out:∀(M:Model) (Γ:PySem.Ctx) (Q:α->Pos->Shared->Prop) (E:Value->Pos->Shared->Prop) (p:Pos) (s:Shared),wp M Γ t Q E p s->wp M Γ t (λa p' s'=>Q a p' s'/\DK s.heap s'.heap) (λe p' s'=>E e p' s'/\DK s.heap s'.heap) p s
namespace KD
variable {α β:Type}
theorem pure (a:α):KD (Pure.pure a:Sem α):=⟨λ_ _ _ _ _ _ h=>⟨h,.refl _⟩⟩
theorem unsupported (w:String):KD (PySem.unsupported w:Sem α):=⟨λ_ _ _ _ _ _ h=>h⟩
theorem bind {m:Sem α} {f:α->Sem β} (hm:KD m) (hf:∀a,KD (f a)):KD (m >>= f):=⟨λM Γ Q E p s h=>by
 rw [Sem.wp_bind'] at h ⊢
 refine Sem.wp_mono M Γ m (λa p' s' h'=>?_) (λ_ _ _ x=>x) p s (hm.out M Γ _ E p s h)
 exact Sem.wp_mono M Γ (f a) (λ_ _ _ x=>⟨x.1,h'.2.trans x.2⟩) (λ_ _ _ x=>⟨x.1,h'.2.trans x.2⟩) p' s' ((hf a).out M Γ Q E p' s' h'.1)⟩
theorem ite {c:Prop} [Decidable c] {t u:Sem α} (ht:KD t) (hu:KD u):KD (if c then t else u):=by split <;> assumption
theorem load (a:Addr):KD (PySem.load a):=⟨λ_ _ _ _ _ _ ⟨o,e,h⟩=>⟨o,e,h,.refl _⟩⟩
theorem update {a:Addr} {f:Obj->Obj} (hf:∀o:Obj,o.isFreed=false->(f o).isFreed=false/\(f o).dict=o.dict/\(f o).data=o.data):KD (PySem.update a f):=⟨λ_ _ _ _ _ _ ⟨e,h⟩=>⟨e,h,DK.upd λo q=>let ⟨a1,a2,a3⟩:=hf o (Heap.get?_some_iff.mp q).2;⟨a1,a2,λvs d=>⟨vs,a3.trans d,rfl⟩⟩⟩⟩
theorem stack:KD PySem.stack:=⟨λ_ _ _ _ _ _ h=>⟨h,.refl _⟩⟩
theorem alloc (o:Obj):KD (PySem.alloc o):=⟨λ_ _ _ _ _ _ h=>⟨h,.psh _ _⟩⟩
theorem field (v:Value) (i:Nat):KD (PySem.field v i):=⟨λM Γ Q E p s h=>by
 obtain ⟨a,o,vs,x,e1,e2,e3,e4,q⟩:=(wp_field_iff Γ v i Q E p s).mp h
 exact (wp_field_iff Γ v i _ _ p s).mpr ⟨a,o,vs,x,e1,e2,e3,e4,q,.refl _⟩⟩
theorem setField (v:Value) (i:Nat) (x:Value) (hi:i≠2:=by decide):KD (PySem.setField v i x):=⟨λM Γ Q E p s h=>by
 obtain ⟨a,o,vs,e1,e2,e3,e4,q⟩:=(wp_setField_iff Γ v i x Q E p s).mp h
 refine (wp_setField_iff Γ v i x _ _ p s).mpr ⟨a,o,vs,e1,e2,e3,e4,q,DK.upd λo' q'=>?_⟩
 rw [e2] at q'
 cases q'
 refine ⟨Obj.isFreed_of_fields (Obj.data_mapFields e3 _),by obtain ⟨c,d,dt,sl⟩:=o;cases e3;rfl,λvs' q=>⟨_,Obj.data_mapFields e3 _,?_⟩⟩
 rw [e3] at q
 cases q
 rw [Array.getElem?_setIfInBounds_ne hi]⟩
end KD
theorem Qkv (env:PySem.Env) (outer:List PySem.Env):KD (behindIsImport env outer):=by
 unfold behindIsImport
 repeat' (with_reducible first | assumption | exact KD.pure _ | exact KD.unsupported _ | exact KD.field _ _ | exact KD.setField _ _ _ | exact KD.load _ | exact KD.stack | exact KD.alloc _ | apply KD.ite | apply KD.bind | intro _ | split)
theorem Qnd:KD underTheClaimsCaller:=by
 unfold underTheClaimsCaller
 repeat' (with_reducible first | assumption | exact KD.pure _ | exact KD.unsupported _ | exact KD.field _ _ | exact KD.setField _ _ _ | exact KD.load _ | exact KD.stack | exact KD.alloc _ | apply KD.ite | apply KD.bind | intro _ | split)
theorem Qqr (env:PySem.Env) (i:Bool) (l:List PySem.Env):KD (keptBack env i l):=by
 have:=Qnd
 cases l <;> unfold keptBack <;> repeat' (with_reducible first | assumption | exact KD.pure _ | exact KD.unsupported _ | exact KD.field _ _ | exact KD.setField _ _ _ | exact KD.load _ | exact KD.stack | exact KD.alloc _ | apply KD.ite | apply KD.bind | intro _ | split)
theorem Qhz:∀l:List PySem.Env,KD (readyFrames l)
 | []=>KD.pure _
 | env::outer=>by
  have ih:=Qhz outer
  have h1:=Qkv env outer
  have h2:=λi=>Qqr env i outer
  unfold readyFrames
  repeat' (with_reducible first | assumption | exact KD.pure _ | exact KD.unsupported _ | exact KD.field _ _ | exact KD.setField _ _ _ | exact KD.load _ | exact KD.stack | exact KD.alloc _ | apply KD.ite | apply KD.bind | intro _ | split)
  ·exact h2 _
  ·refine KD.update ?_
   intro o h
   obtain ⟨c,d,dt,sl⟩:=o
   cases dt <;> first | exact ⟨rfl,rfl,rfl⟩ | cases h
theorem Qku:KD frameEnvs:=by
 unfold frameEnvs
 repeat' (with_reducible first | assumption | exact KD.pure _ | exact KD.unsupported _ | exact KD.field _ _ | exact KD.setField _ _ _ | exact KD.load _ | exact KD.stack | exact KD.alloc _ | apply KD.ite | apply KD.bind | intro _ | split)
theorem Qch (l:List PySem.Env):KD (frameObject l):=by
 cases l with
 | nil=>exact KD.pure _
 | cons env outer =>
  have:=Qhz (env::outer)
  unfold frameObject
  repeat' (with_reducible first | assumption | exact KD.pure _ | exact KD.unsupported _ | exact KD.field _ _ | exact KD.setField _ _ _ | exact KD.load _ | exact KD.stack | exact KD.alloc _ | apply KD.ite | apply KD.bind | intro _ | split)
theorem Qi6 (env:PySem.Env):KD (PySem.frameOf env):=by
 have h1:=Qku
 have h2:=Qch
 unfold PySem.frameOf
 repeat' (with_reducible first | assumption | exact KD.pure _ | exact KD.unsupported _ | exact KD.field _ _ | exact KD.setField _ _ _ | exact KD.load _ | exact KD.stack | exact KD.alloc _ | apply KD.ite | apply KD.bind | intro _ | split)
 all_goals first | exact h2 _ | skip
theorem Qne (f:Addr) (b:Bool):KD (entryPlaceOf f b):=by
 unfold entryPlaceOf
 repeat' (with_reducible first | assumption | exact KD.pure _ | exact KD.unsupported _ | exact KD.field _ _ | exact KD.setField _ _ _ | exact KD.load _ | exact KD.stack | exact KD.alloc _ | apply KD.ite | apply KD.bind | intro _ | split)
theorem Qnf (a b c d e:Value) (l:List Value):KD (EntryCells.newEntry a b c d e l):=by
 unfold EntryCells.newEntry newFields newObj newObjAsIs
 repeat' (with_reducible first | assumption | exact KD.pure _ | exact KD.unsupported _ | exact KD.field _ _ | exact KD.setField _ _ _ | exact KD.load _ | exact KD.stack | exact KD.alloc _ | apply KD.ite | apply KD.bind | intro _ | split)
theorem Qkt (e:Value) (env:PySem.Env):KD (noteFrame e env):=by
 have h1:=Qi6 env
 have h2:=λf b=>Qne f b
 have h3:=λa b c d e l=>Qnf a b c d e l
 unfold noteFrame
 repeat' (with_reducible first | assumption | exact KD.pure _ | exact KD.unsupported _ | exact KD.field _ _ | exact KD.setField _ _ _ | exact KD.load _ | exact KD.stack | exact KD.alloc _ | apply KD.ite | apply KD.bind | intro _ | split)
 all_goals first | exact h2 _ _ | exact h3 _ _ _ _ _ _ | skip
theorem Qb0 (e:Value) (f:Option Addr):KD (setFlight e f):=by
 unfold setFlight
 repeat' (with_reducible first | assumption | exact KD.pure _ | exact KD.unsupported _ | exact KD.field _ _ | exact KD.setField _ _ _ | exact KD.load _ | exact KD.stack | exact KD.alloc _ | apply KD.ite | apply KD.bind | intro _ | split)
theorem Qc3 (env:PySem.Env) (e:Value):KD (leaving env e):=by
 have h1:=Qkt e env
 have h2:=λf=>Qb0 e f
 unfold leaving
 repeat' (with_reducible first | assumption | exact KD.pure _ | exact KD.unsupported _ | exact KD.field _ _ | exact KD.setField _ _ _ | exact KD.load _ | exact KD.stack | exact KD.alloc _ | apply KD.ite | apply KD.bind | intro _ | split)
 all_goals exact h2 _
theorem KD.any {α:Type} {t:Sem α} (k:KD t) {M:Model} {A:Around} {s:Shared} {Q:α->Shared->Prop} {E:Value->Shared->Prop} (h:wpAny M A t Q E s):wpAny M A t (λa s'=>Q a s'/\DK s.heap s'.heap) (λe s'=>E e s'/\DK s.heap s'.heap) s:=λΓ p i=>k.out M Γ _ _ p s (h Γ p i)
end L2
namespace L2
open PySem PySem.Spec PyProof.Rows
open PySem.W (findIn subIn mroIn clsIn Looks looks_findIn looks_subIn)
section
variable {prog:Program} {w:World} {A:Around} {E:Value->Shared->Prop} {h:Heap} {g:Array GenState} {d:Drawn} {t:Nat} {os:OsState} {K:PySem.W.Frag}
variable {nm q:Str} {C N:Addr} {bs bm bmB:List Value} {hdct:Bool} {sn:List Str} {sub:List Value} {ab:Bool} {col:Option Bool} {dd:Option Addr} {k0 k1 k2 k3 k5:Option Value} {B newId initId:String}
theorem Qiq (F:ExcBaseFacts B newId initId bmB) (T:OwnTail h bmB bm) {rest:List Value} {fI:Addr} {Q:Fin->Shared->Prop} (X:K.In h)
  (hC:h.get? C=some (excClassObj nm q C N bs bm hdct sn sub ab col dd k0 k1 k2 k3 k5 newId)) (hi:findIn K (.ref C) "__init__" = some (some (.ref fI))) (hf:PySem.W.typeIn K (.ref fI)=some (.type "function"))
  (hq:∀h' e,Heap.MadeExcOf h h' e (.ref C) rest->e=h.objs.size+1 -> 
   codeAny (model prog w) A (.call (.ref fI) ⟨.ref e::rest,[]⟩) (λr s'=>r=.ok (.ret .none)/\Q (.done (.ret (.ref e))) s') ⟨h',g,d,t,os⟩) (hrest:rest.length<=sizeLine:=by size_fits) :
  wpAny (model prog w) A (Builtin.«type.__call__» ⟨.ref C::rest,[]⟩) Q E ⟨h,g,d,t,os⟩:=by
 repeat (first | with_reducible refine wpAny_loadPart_at hC ?_ | with_reducible refine wpAny_madeBy_exc hC ?_ | wp_step)
 refine codeAny_call_builtin_code (Code.quiet_builtin _ F.quiet) (wpAny_check_new_subT F T hC ?_)
 refine codeAny_exc_new_subT F T hC ?_ hrest
 show wpAny _ _ _ _ _ _
 have kp:∀b o,h.get? b=some o->((h.push { cls:=.type "tuple",data:=.seq rest.toArray }).push { cls:=.ref C,data:=.fields #[.ref h.objs.size,.none,.none,.none,.bool false,.none] }).get? b=some o:=λb o e=>Heap.get?_push_of_some _ (Heap.get?_push_of_some _ e)
 have hC₁:=kp _ _ hC
 have X₁:=X.keeps kp
 have hget:((h.push { cls:=.type "tuple",data:=.seq rest.toArray }).push
   { cls:=.ref C,data:=.fields #[.ref h.objs.size,.none,.none,.none,.bool false,.none] }).get? (h.objs.size+1)=some
   { cls:=.ref C,data:=.fields #[.ref h.objs.size,.none,.none,.none,.bool false,.none] }:=by heap_get
 have hcC:(Value.ref C::bm).contains (.ref C)=true:=by simp
 have L1:=looks_findIn (M:=model prog w) X₁ hi
 have L2:=PySem.W.bind_fn (M:=model prog w) X₁ (.ref (h.objs.size+1)) hf
 unfold isInstance
 repeat (first | with_reducible refine wpAny_loadPart_at hget ?_ | (with_reducible refine wpAny_isSubtype_exc hC₁ ?_;rw [hcC]) | wp_step)
 show wpAny _ _ (typeLookup (.ref C) _) _ _ _
 refine L1.at ?_
 refine wpAny_holding (wpAny_bind (L2.at ?_))
 refine wpAny_bind (wpAny_call (codeAny_mono (hq _ (h.objs.size+1) ⟨kp,Heap.get?_none_of_le (Nat.le_succ _),h.objs.size,hget,Heap.get?_none_of_le (Nat.le_refl _),Heap.get?_push_of_some _ (Heap.get?_push_at rfl rfl)⟩ rfl) λr s' hr=>?_))
 obtain ⟨rfl,hQ⟩:=hr
 wp_walk
 exact hQ
theorem Ql7 (F:ExcBaseFacts B newId initId bmB) (T:OwnTail h bmB bm) {rest:List Value} {fI:Addr} {Q:Value->Shared->Prop} (X:K.In h)
  (hC:h.get? C=some (excClassObj nm q C N bs bm hdct sn sub ab col dd k0 k1 k2 k3 k5 newId)) (hi:findIn K (.ref C) "__init__" = some (some (.ref fI))) (hf:PySem.W.typeIn K (.ref fI)=some (.type "function"))
  (hq:∀h' e,Heap.MadeExcOf h h' e (.ref C) rest->e=h.objs.size+1 ->
   codeAny (model prog w) (A.under (.builtin "type.__call__" ⟨.ref C::rest,[]⟩)) (.call (.ref fI) ⟨.ref e::rest,[]⟩) (λr s'=>r=.ok (.ret .none)/\Q (.ref e) s') ⟨h',g,d,t,os⟩) (hrest:rest.length<=sizeLine:=by size_fits) :
  wpAny (model prog w) A (call (.ref C) rest) Q E ⟨h,g,d,t,os⟩:=by
 have f1:=tc_lookup
 have f2:=tc_bind (.ref C)
 have hT:(⟨h,g,d,t,os⟩:Shared).TypeIs (.ref C) "type":=⟨_,hC,rfl⟩
 refine wpAny_call (codeAny_of_tree ?_)
 show wpAny _ _ (callAny (.ref C) _) _ _ _
 repeat (any_goals (first | assumption | with_reducible refine wpAny_loadPart_at hC ?_ | wp_step))
 refine ⟨rfl,?_⟩
 refine codeAny_call_builtin_at (Code.quiet_builtin _ (by decide +kernel)) entry_typeCall (wpAny_check_type_call_sub hC (Qiq (hrest:=hrest) F T X hC hi hf λh' e hm he=>?_))
 exact hq h' e hm he
end
end L2
namespace L2
open PySem PySem.Spec PyProof.Rows
open PySem.W (findIn subIn mroIn clsIn Looks looks_findIn looks_subIn)
open Builtin Builtin.ObjectAttr
abbrev Gs (C t:Addr) (dx:Option Addr):Obj:={ cls:=.ref C,dict:=dx,data:=.fields #[.ref t,.none,.none,.none,.bool false,.none] }
theorem Qa5 {h:Heap} {bmB bm:List Value} (T:OwnTail h bmB bm) (self:Value) (what:Str):refuseLoop self what bm=refuseLoop self what bmB:=by
 induction T with
 | base=>rfl
 | own _ _ _ _ ih=>rw [refuseLoop_ref,ih]
section
variable {prog:Program} {w:World} {A:Around} {E:Value->Shared->Prop} {h:Heap} {g:Array GenState} {d:Drawn} {t:Nat} {os:OsState} {K:PySem.W.Frag}
variable {nm q:Str} {C N x t0:Addr} {bs bm bmB:List Value} {sn:List Str} {sub:List Value} {ab hdct:Bool} {col:Option Bool} {dd dx:Option Addr} {k0 k1 k2 k3 k5:Option Value} {B newId initId sa owner:String} {v:Value} {name:Str}
theorem Qi9 (F:ExcBaseFacts B newId initId bmB) (T:OwnTail h bmB bm) {u:Value} {R:Result->Shared->Prop}
  (hC:h.get? C=some (excClassObj nm q C N bs bm hdct sn sub ab col dd k0 k1 k2 k3 k5 newId)) (he:h.get? x=some (Gs C t0 dx))
  (hq:∀h',(∃t1,h'.get? x=some (Gs C t1 dx))->(∀b o,b≠x->h.get? b=some o->h'.get? b=some o)->R (.ok (.ret .none)) ⟨h',g,d,t,os⟩) :
  codeAny (model prog w) A (.call (.builtin initId) ⟨[.ref x,u],[]⟩) R ⟨h,g,d,t,os⟩:=by
 refine codeAny_call_builtin F.init.plain F.initEntry (wpAny_check_init_subT F T hC he rfl ?_)
 wp_walk
 refine hq _ ⟨h.objs.size,?_⟩ λb o hb e=>?_
 ·rw [Heap.get?_update_self _ (Heap.get?_push_of_some _ he) rfl]
  rfl
 ·rw [Heap.get?_update_other _ _ (Ne.symm hb)]
  exact Heap.get?_push_of_some _ e
theorem Qja (SF:StoreFacts B bmB sa owner) (T:OwnTail h bmB bm) {tk:Tok} {Q:Fin->Shared->Prop} (X:K.In h)
  (hC:h.get? C=some (excClassObj nm q C N bs bm true sn sub ab col dd k0 k1 k2 k3 k5 newId)) (hna:findIn K (.ref C) name=some none) (he:h.get? x=some (Gs C t0 none))
  (hq:∀h' tk',h'.get? x=some (Gs C t0 (some h.objs.size))->h'.Ns1 h.objs.size (λy=>if y=name then some v else none)->(∀b o,b≠x->h.get? b=some o->h'.get? b=some o)->Q (.done (.ret .none)) ⟨h',g,d,tk',os⟩) :
  wpAny (model prog w) A (Builtin.«object.__setattr__» ⟨[.ref x,.str name tk,v],[]⟩) Q E ⟨h,g,d,t,os⟩:=by
 have L2:=looks_findIn (M:=model prog w) X hna
 have hpass:refuseLoop (.ref x) "__setattr__" (.ref C::bm)=pure ():=by rw [refuseLoop_ref,Qa5 T];exact SF.passes _
 obtain ⟨o,eo⟩:∃o,o=Gs C t0 none:=⟨_,rfl⟩
 have hc:o.cls=.ref C:=by rw [eo]
 have hdn:o.dict=none:=by rw [eo]
 have hdt:∀c,o.data ≠ .cls c:=λc z=>by rw [eo] at z;cases z
 rw [← eo] at he
 unfold Builtin.«object.__setattr__»
 repeat (first | rw [refuse_eq] | rw [hpass] | (with_reducible refine wpAny_loadPart_at he ?_;rw [hc]) | with_reducible refine wpAny_mroOf_exc hC ?_ | with_reducible refine L2.at ?_ | wp_step)
 rw [hdn,if_neg (by simp [typeHasDict])]
 split
 ·rename_i hcd
  cases hcd
 split
 ·rename_i c hcd
  exact absurd hcd (hdt c)
 have hx₁:(h.push { cls:=.type "dict",data:=.dict #[] }).get? x=some o:=Heap.get?_push_of_some _ he
 have hxs:x≠h.objs.size:=Nat.ne_of_lt (Heap.lt_size he)
 refine wpAny_bind (wpAny_alloc' ?_)
 refine wpAny_bind (wpAny_update' hx₁ ?_)
 refine wpAny_pure ?_
 have hgd:((h.push { cls:=.type "dict",data:=.dict #[] }).update x λo=>{ cls:=o.cls,dict:=some h.objs.size,data:=o.data,slots:=o.slots }).get? h.objs.size
   = some { cls:=.type "dict",data:=.dict #[] }:=(Heap.get?_update_ne _ _ _ _ hxs.symm).trans (Heap.get?_push_at rfl rfl)
 have hnd:((h.push { cls:=.type "dict",data:=.dict #[] }).update x λo=>{ cls:=o.cls,dict:=some h.objs.size,data:=o.data,slots:=o.slots }).Ns h.objs.size (λ_=>none) :=
  ⟨_,#[],_,hgd,rfl,λe he=>absurd he (by simp),λ_=>rfl⟩
 show wpAny _ _ (storeInDict h.objs.size (.str name tk) name v) _ _ _
 unfold storeInDict newKeyGuard
 refine wpAny_bind (wpAny_pure (wpAny_bind (wpAny_nsSet1 (Heap.Ns1.of_empty hnd) λh' hn' hs=>?_)))
 obtain ⟨oD,esD,epD,hoD,hdD,hcD⟩:=hn'.count (Within.cons name v Within.nil)
 refine wpAny_bind (wpAny_lookBehind hoD (by rw [hdD];exact pastItsLine_dict (Nat.le_trans hcD (by rw [List.length_cons,List.length_nil,sizeLine_eq];omega))) ?_)
 wp_walk
 subst eo
 refine hq h' _ ((hs.2 x hxs).trans (Heap.get?_update_self _ hx₁ rfl)) hn' λb ob hbx hb=>?_
 exact (hs.2 b (Nat.ne_of_lt (Heap.lt_size hb))).trans ((Heap.get?_update_ne _ _ _ _ hbx).trans (Heap.get?_push_of_some _ hb))
theorem Qk7 (SF:StoreFacts B bmB sa owner) (T:OwnTail h bmB bm) {Q:Unit->Shared->Prop} (X:K.In h)
  (hC:h.get? C=some (excClassObj nm q C N bs bm true sn sub ab col dd k0 k1 k2 k3 k5 newId)) (hs:findIn K (.ref C) "__setattr__" = some (some (.builtin sa))) (hna:findIn K (.ref C) name=some none) (he:h.get? x=some (Gs C t0 none))
  (hq:∀h' tk',h'.get? x=some (Gs C t0 (some h.objs.size))->h'.Ns1 h.objs.size (λy=>if y=name then some v else none)->(∀b o,b≠x->h.get? b=some o->h'.get? b=some o)->Q () ⟨h',g,d,tk',os⟩) :
  wpAny (model prog w) A (setAttr (.ref x) name v) Q E ⟨h,g,d,t,os⟩:=by
 have f3:=SF.slot.bind (.ref x)
 have hc:(Gs C t0 none).cls=.ref C:=rfl
 have L1:=looks_findIn (M:=model prog w) X hs
 have L2:=looks_findIn (M:=model prog w) X hna
 have hcB:(Value.ref C::bm).contains (.type owner)=true:=by rw [List.contains_cons,T.hasType SF.hasOwner,Bool.or_true]
 have hpass:refuseLoop (.ref x) "__setattr__" (.ref C::bm)=pure ():=by rw [refuseLoop_ref,Qa5 T];exact SF.passes _
 unfold setAttr callSpecial? specialOf
 repeat (any_goals (first | assumption | with_reducible refine wpAny_loadPart_at he ?_ | with_reducible refine L1.at ?_ | wp_step))
 refine codeAny_call_builtin SF.slot.plain SF.entry ?_
 have ha:=SF.args (.ref x) (.str name t) v
 simp only [checkBuiltinCall,SF.kind,SF.split]
 refine wpAny_bind ?_
 unfold isInstance
 repeat (first | with_reducible refine wpAny_loadPart_at he ?_ | (with_reducible refine wpAny_isSubtype_exc hC ?_;rw [hcB]) | wp_step)
 have key:=Qja (prog:=prog) (w:=w) (A:=A.in1) (E:=E) (g:=g) (d:=d) (t:=t+1) (os:=os) (tk:=t) SF T X hC hna he (Q:=λfin s'=>match fin with
  | .done (.ret _)=>Q () s'
  | _=>False) λh' tk' a b c=>hq h' tk' a b c
 cases hsig:Manifest.signature? sa with
 | none =>
  refine wpAny_pure (wpAny_mono key (λfin s' z=>?_) λ_ _ y=>y)
  rcases fin with (_ | _ | _ | _) | _ <;> first | exact wpAny_pure (wpAny_pure z) | exact False.elim z
 | some sig =>
  simp only [argsOk,hsig] at ha
  have h2:Bind.checkArgs sa sig ⟨[.ref x,.str name t,v],[]⟩=pure ():=ha
  show wpAny (model prog w) A.in1 (Bind.checkArgs sa sig ⟨[.ref x,.str name t,v],[]⟩) _ E _
  rw [h2]
  refine wpAny_pure (wpAny_mono key (λfin s' z=>?_) λ_ _ y=>y)
  rcases fin with (_ | _ | _ | _) | _ <;> first | exact wpAny_pure (wpAny_pure z) | exact False.elim z
end
end L2
namespace L2
open PySem PySem.Spec PyProof.Rows
open PySem.W (findIn subIn mroIn clsIn Looks looks_findIn looks_subIn hideAll of_hideAll hideAll_get hideAll_none funFrames_hide)
def exO (a C:Addr) (dx:Option Addr):HO:=.ext λh=>∃t,h.get? a=some (Gs C t dx)
theorem Qla {P:Program} {w:World} {H:Hp} {h:Heap} {a C:Addr} {dx:Option Addr} (e:∃t,h.get? a=some (Gs C t dx)):J2 P w H h a (exO a C dx):=⟨e,let ⟨_,q⟩:=e;⟨_,q⟩,λ_ _ ⟨t,q⟩ k=>⟨t,k _ q⟩⟩
abbrev mroV:List Value:=[.type "ValueError",.type "Exception",.type "BaseException",.type "object"]
structure ExcC (K:PySem.W.Frag) (C:Addr):Prop where
 obj:∃(nm q:Str) (N:Addr) (bs bm:List Value) (sn:List Str) (sub:List Value) (ab:Bool) (col:Option Bool) (dd:Option Addr) (k0 k1 k2 k3 k5:Option Value),bm.contains (.type "BaseException")=true /\
  ∀h:Heap,K.In h->h.get? C=some (excClassObj nm q C N bs bm true sn sub ab col dd k0 k1 k2 k3 k5 "ValueError.__new__")/\OwnTail h mroV bm
 sa:findIn K (.ref C) "__setattr__" = some (some (.builtin "object.__setattr__"))
section
variable {X:Cx} {pins:List (Addr × Obj)} {σ:St} {H H':Hp} {s s':Shared} {x te attr:Str} {np apos cpos pos p pos':Pos} {e₀ e1 o value:Expr} {es:List Expr} {ta:TA} {C tE f:Addr}
theorem Qj6 (hg:Gl X te) (hm:X.mg te=some (.ref tE)) (hsp:PySem.W.specialIn X.K (.ref tE) "__getattribute__" = some (some (.builtin "type.__getattribute__"))) (hrd:PySem.W.readsIn X.K tE (.type "type")=true)
  (hfc:PySem.W.findCls X.K (.ref tE) (.type "type") "__init__" = some (.val (.builtin "ValueError.__init__"))) (ha:PA X (e₀::es) ta)
  (hs:swapsWith (.Call (.Attribute (.Name te p) "__init__" apos) (e₀::es) [] cpos) none pos.line X.env=pure false:=by rfl) (hdb:(te == ("__debug__" : Str))=false:=by decide)
  (he:starEach (e₀::es) X.env=(false,eval e₀ X.env)::starEach es X.env:=by rfl) (hpl:(backTo cpos (starEach es X.env)).any (·.1)=false:=by rfl)
  {pl:Sem Bool} (ht:eval (.Call (.Attribute (.Name te p) "__init__" apos) (e₀::es) [] cpos) X.env=(do
   let ov ← eval (.Name te p) X.env
   standAt apos.atName
   let (f,first) ← holding [ov] (getMethod ov "__init__" pl)
   callWith cpos f first (backTo cpos (starEach (e₀::es) X.env)) (backToKw cpos (keywordEach [] X.env))):=by rfl) :
  PS X (.Expr (.Call (.Attribute (.Name te p) "__init__" apos) (e₀::es) [] cpos) pos) (λD σ H=>ta σ H λvs H1=>∃a C v,vs=[.ref a,v]/\H1 a=some (exO a C none)/\ExcC X.K C/\D.nx σ H1):=by
 intro pins s σ H D I h
 refine wpAny_Expr_any ?_ I.quiet hs
 refine PySem.W.methodCall_KW (pl:=pl) (Uc I hg hm ?_ hdb) ht
 refine PySem.W.method_cls I.kIn hsp (PySem.W.cls_value I.kIn hrd hfc rfl ?_)
 have hA:=ha cpos pins { s with toks:=s.toks+1 } σ H _ (I.tok _) h
 rw [he] at hA ⊢
 refine Calls.callWith_builtin (by show (false || (backTo cpos (starEach es X.env)).any (·.1))=false;rw [hpl] <;> rfl) (Calls.evalArgs_plain ?_)
 refine thn hA λus s2 ⟨vs,H2,I2,r2,a,C,v,ev,hH,hC,q⟩=>?_
 subst ev
 obtain ⟨u,u2,rfl,ru,ru2⟩:=Qjr r2
 cases ru
 obtain ⟨nm,qq,N,bs,bm,sn,sub,ab,col,dd,k0,k1,k2,k3,k5,hb,hob⟩:=hC.obj
 obtain ⟨h1,h2⟩:=hob s2.heap I2.kIn
 obtain ⟨⟨t,e⟩,_⟩:=I2.hok a _ hH
 obtain ⟨hp,g,d,tk,os⟩:=s2
 refine wpAny_call (Qi9 F.excBase_ValueError h2 h1 e λh' hx hk=>?_)
 refine ⟨σ,H2,?_,q⟩
 have I3:=I2.write (x:=a) (e:=a) (o:=exO a C none) (h':=h') (t':=tk) (by rw [hH];exact True.intro) (.inl rfl) (λb u hb z=>hk b u hb z) (let ⟨_,q⟩:=hx;⟨_,q⟩) (Qla hx)
 have eq:upd H2 a (exO a C none)=H2:=funext λb=>by
  by_cases z:b=a
  ·subst z;rw [Qh,hH]
  ·rw [Qk z]
 rw [eq] at I3
 exact I3
theorem Qpz {to tv:TE} (ha:PE X o to) (hv:PE X value tv) (hs:swapsWith value (some (.Attribute o attr pos')) pos.line X.env=pure false:=by rfl) :
  PS X (.Assign [.Attribute o attr pos'] value pos) (λD σ H=>tv σ H λv H1=>to σ H1 λy H2=>∃a C,y=.ref a/\H2 a=some (exO a C none)/\ExcC X.K C/\findIn X.K (.ref C) attr=some none /\
   ∀d,H2 d=none->d≠a->D.nx σ (upd (upd H2 a (exO a C (some d))) d (.xd [(attr,v)]))):=by
 intro pins s σ H D I h
 refine plainObj_wpAny_Assign_Attribute (thn (hv pins s σ H _ I h) λu s1 ⟨y,H1,I1,ry,q⟩=>thn (ha pins s1 σ H1 _ I1 q) λov s2 ⟨x,H2,I2,rx,a,C,ex,hH,hC,hn,q2⟩=>?_) hs
 subst ex
 obtain rfl:ov=Value.ref a:=rx
 obtain ⟨nm,qq,N,bs,bm,sn,sub,ab,col,dd,k0,k1,k2,k3,k5,hb,hob⟩:=hC.obj
 obtain ⟨h1,h2⟩:=hob s2.heap I2.kIn
 obtain ⟨⟨t,e⟩,_⟩:=I2.hok a _ hH
 obtain ⟨hp,g,dr,tk,os⟩:=s2
 refine Qk7 F.store_ValueError h2 I2.kIn h1 hC.sa hn e λh' tk' e1 ns hk=>?_
 have hne:hp.objs.size≠a:=Nat.ne_of_gt (Heap.lt_size e)
 have hf:H2 hp.objs.size=none:=I2.hok.fresh (Nat.le_refl _)
 refine ⟨σ,_,?_,q2 hp.objs.size hf hne⟩
 have nk:∀b u,H2 b=some u->¬Mut (some u)->b≠a:=λb u q nm z=>by subst z;rw [hH] at q;cases q;exact nm True.intro
 have nd:∀b u,H2 b=some u->b≠hp.objs.size:=λb u q z=>by rw [z,hf] at q;cases q
 refine I2.un (h':=h') (t':=tk') ⟨λb o q n _ _=>hk b o (λz=>by rw [z,hH] at n;cases n) q,λb o q n _ _=>⟨o.slots,hk b o (λz=>by rw [z,hH] at n;cases n) q⟩,λb o q n _=>?_,λb o q _=>?_,λb xs q=>?_,λb o u q=>?_,λb ps q=>⟨#[],?_⟩⟩ λb u q=>?_
 ·rw [Qk (Nat.ne_of_lt (Heap.lt_size q)),Qk (λz=>by rw [z,hH] at n;cases n)]
  exact n
 ·by_cases z:b=a
  ·subst z;exact ⟨_,e1⟩
  ·exact ⟨_,hk b o z q⟩
 ·rw [Qk (nd b _ q),Qk (nk b _ q λz=>z)];exact q
 ·rw [Qk (nd b _ q),Qk (nk b _ q λz=>z)];exact q
 ·rw [Qk (nd b _ q),Qk (nk b _ q λz=>z),q];simp
 ·by_cases z:b=hp.objs.size
  ·subst z
   rw [Qh] at q
   cases q
   refine ⟨_,ns,λg=>?_⟩
   by_cases zz:g=attr
   ·subst zz
    simp only [List.lookup,beq_self_eq_true,if_true]
    exact ry
   ·have:(g == attr)=false:=by simpa using zz
    simp only [List.lookup,this,if_neg zz]
    exact True.intro
  ·rw [Qk z] at q
   by_cases z2:b=a
   ·subst z2
    rw [Qh] at q
    cases q
    exact Qla ⟨t,e1⟩
   ·rw [Qk z2] at q
    refine (I2.hok b u q).stay (λc w hc y=>hk c w ?_ y) (λc y=>?_) (λc xs y=>?_) λc o1 o2 _ y _=>?_
    ·rcases hc with rfl | hc
     ·exact z2
     ·exact nk c _ hc λz=>z
    ·rw [Qk (nd c _ y),Qk (nk c _ y λz=>z)];exact y
    ·rw [Qk (nd c _ y),Qk (nk c _ y λz=>z)];exact y
    ·rw [Qk (nd c _ y),Qk (nk c _ y λz=>z)];exact y
end
end L2
namespace L2
open PySem PySem.Spec PyProof.Rows
open PySem.W (findIn subIn mroIn clsIn Looks looks_findIn looks_subIn hideAll of_hideAll hideAll_get hideAll_none funFrames_hide)
section
variable {X:Cx} {pins:List (Addr × Obj)} {σ:St} {H H':Hp} {s s':Shared} {x te attr:Str} {np apos cpos pos p pos':Pos} {e₀ e1 o value:Expr} {es:List Expr} {ta:TA} {C tE f e d:Addr} {dx:Option Addr} {fs:List (Str × V)}
def Qb9 (H:Hp) (e d:Addr) (u:HO):Hp:=λb=>if b=e then none else if b=d then some u else H b
theorem Inv.refrz (I:Inv X pins σ H s) (he:H e=some (exO e C dx)) (hd:H d=some (.xd fs)):∃od t,s.heap.get? e=some (Gs C t dx)/\Inv X pins σ (Qb9 H e d (.frz od (.xd fs))) s:=by
 obtain ⟨⟨t,e1⟩,_⟩:=I.hok e _ he
 obtain ⟨od,e2⟩:=(I.hok d _ hd).there
 refine ⟨od,t,e1,?_⟩
 have kd:∀b u,H b=some u->(∀φ,u ≠ .ext φ)->(∀fs,u ≠ .xd fs)->Qb9 H e d (.frz od (.xd fs)) b=some u:=λb u q n1 n2=>by
  unfold Qb9
  rw [if_neg (λz=>by rw [z,he] at q;cases q;exact n1 _ rfl),if_neg (λz=>by rw [z,hd] at q;cases q;exact n2 _ rfl)]
  exact q
 refine I.un (h':=s.heap) (t':=s.toks) ⟨λb o q n _ _=>q,λb o q n _ _=>⟨o.slots,q⟩,λb o q n _=>?_,λb o q _=>⟨o,q⟩,λb xs q=>kd _ _ q (λ_ z=>by cases z) (λ_ z=>by cases z),λb o u q=>kd _ _ q (λ_ z=>by cases z) (λ_ z=>by cases z),λb ps q=>⟨#[],?_⟩⟩ λb u q=>?_
 ·unfold Qb9
  by_cases z:b=e
  ·rw [if_pos z]
  ·rw [if_neg z,if_neg (λz=>by rw [z,hd] at n;cases n)]
   exact n
 ·rw [kd _ _ q (λ_ z=>by cases z) (λ_ z=>by cases z)];simp
 ·have st:∀{a u},J2 X.prog X.w H s.heap a u->J2 X.prog X.w (Qb9 H e d (.frz od (.xd fs))) s.heap a u:=λok=>ok.stay (λ_ _ _ z=>z) (λc y=>kd _ _ y (λ_ z=>by cases z) (λ_ z=>by cases z)) (λc xs y=>kd _ _ y (λ_ z=>by cases z) (λ_ z=>by cases z)) λc o1 o2 _ y _=>kd _ _ y (λ_ z=>by cases z) (λ_ z=>by cases z)
  unfold Qb9 at q
  by_cases z:b=e
  ·rw [if_pos z] at q;cases q
  ·rw [if_neg z] at q
   by_cases z2:b=d
   ·rw [if_pos z2] at q
    cases q
    subst z2
    exact ⟨e2,st (I.hok b _ hd)⟩
   ·rw [if_neg z2] at q
    exact st (I.hok b u q)
def spI (K:PySem.W.Frag) (C:Addr) (attr:Str):Sp:=λvs H Q _=>∃a v,vs=[.ref a,v]/\H a=some (exO a C none)/\∀d,H d=none->d≠a->Q .non (upd (upd H a (exO a C (some d))) d (.xd [(attr,v)]))
section
variable {M:Model} {A:Around} {E:Value->Shared->Prop} {env:PySem.Env}
variable {nm q:Str} {N:Addr} {bs bm:List Value} {hdct:Bool} {sn:List Str} {sub:List Value} {ab:Bool} {col:Option Bool} {dd:Option Addr} {k0 k1 k2 k3 k5:Option Value} {newId:String}
theorem Qiv {s:Shared} {x:Sem Value} {Q:Flow->Shared->Prop} (hbase:bm.contains (.type "BaseException")=true) (hh:A.handled=none)
  (h:wpAny M A x (λv s₁=>∃e t dx,v=.ref e/\s₁.heap.get? C=some (excClassObj nm q C N bs bm hdct sn sub ab col dd k0 k1 k2 k3 k5 newId)/\s₁.heap.get? e=some (Gs C t dx)/\E (.ref e) s₁) E s) :
  wpAny M A (raiseStmt env (some x) none) Q E s:=by
 have hcB:(Value.ref C::bm).contains (.type "BaseException")=true:=by rw [List.contains_cons,hbase,Bool.or_true]
 unfold raiseStmt
 refine wpAny_bind (wpAny_mono h (λv s₁ h₁=>?_) λ_ _ x=>x)
 obtain ⟨e,t,dx,rfl,hC,he,hE⟩:=h₁
 obtain ⟨hp,g,d,tk,os⟩:=s₁
 repeat (first | with_reducible refine wpAny_loadPart_at he ?_ | with_reducible refine wpAny_loadPart_at hC ?_ | (with_reducible refine wpAny_isSubtype_exc hC ?_;rw [hcB]) | wp_step)
 exact wpAny_raiseNew_none hh hE
end
theorem Qj7 {k:Nat} {fd:FuncData} {ps:List Str} {Ξ:V->Addr->St->Hp->Prop} (hbd:X.mg x=some (.ref C)) (hkp:PySem.W.keepIn X.K (.ref C)=true) (k1:ExcC X.K C) (hi:findIn X.K (.ref C) "__init__" = some (some (.ref f))) (hf:PySem.W.typeIn X.K (.ref f)=some (.type "function"))
  (F:FnOk X.prog X.w X.K X.mg X.base CX0 k f fd ps (spI X.K C attr)) (hr:Room (k+1) X.A) (hb:Gw X.K fd ps []) (hg:Gl X x) (hc:X.calm=true) (ha:PA X (e₀::es) ta)
  (hX:∀pins σ H s e d od t v,Inv X pins σ H s->s.heap.get? e=some (Gs C t (some d))->H e=none->X.s₀.heap.get? e=none->H d=some (.frz od (.xd [(attr,v)]))->Ξ v d σ H->X.xe (.ref e) s)
  (hdb:(x == ("__debug__" : Str))=false:=by decide) (he:starEach (e₀::es) X.env=(false,eval e₀ X.env)::starEach es X.env:=by rfl) (hpl:(backTo cpos (starEach es X.env)).any (·.1)=false:=by rfl) :
  PS X (.Raise (some (.Call (.Name x np) (e₀::es) [] cpos)) none pos) (λD σ H=>ta σ H λvs H1=>∃v,vs=[v]/\∀H2 d od,(∀b o,H1 b=some o->H2 b=some o)->H2 d=some (.frz od (.xd [(attr,v)]))->Ξ v d σ H2):=by
 intro pins s σ H D I h
 obtain ⟨nm,qq,N,bs,bm,sn,sub,ab,col,dd,k0,k1',k2,k3,k5,hbx,hob⟩:=k1.obj
 rw [arm_exec_Raise]
 refine wpAny_bind (wpAny_standAt (Qiv (C:=C) (nm:=nm) (q:=qq) (N:=N) (bs:=bs) (bm:=bm) (hdct:=true) (sn:=sn) (sub:=sub) (ab:=ab) (col:=col) (dd:=dd) (k0:=k0) (k1:=k1') (k2:=k2) (k3:=k3) (k5:=k5) (newId:="ValueError.__new__") hbx (I.ok.hd hc) ?_))
 refine wpAny_bind (wpAny_mono (wpAny_Call_ofName (Uc I hg hbd ?_ hdb)) (λv s₃ h₃=>wpAny_bind (wpAny_standAt (wpAny_pure h₃))) λ_ _ x=>x)
 refine PySem.W.callWith_K (h₀:=X.base) I.ok.mod.kin hkp (thn (ha cpos pins s σ H _ I h) λus s2 ⟨vs,H1,I1,r,v,ev,hΞ⟩=>⟨I1.kIn,?_⟩) he hpl
 subst ev
 obtain ⟨u,rfl,ru⟩:=Qae r
 obtain ⟨c1,c2⟩:=hob s2.heap I1.kIn
 obtain ⟨hp,g,dr,tk,os⟩:=s2
 refine Ql7 PySem.F.excBase_ValueError c2 I1.kIn c1 hi hf (λh' e hm he=>?_) (by show 1<=sizeLine;decide)
 obtain ⟨t0,et,_⟩:=hm.there
 have hfe:H1 e=none:=I1.hok.fresh (by rw [he];exact Nat.le_succ _)
 have I2:=I1.laid (a:=e) (o:=exO e C none) (h':=h') (t':=tk) hm.keeps (by rw [he];exact Nat.le_succ _) (Qla ⟨t0,et⟩)
 have r2:Vals [V.ref e,v] [Value.ref e,u]:=.cons rfl (.cons ru .nil)
 have hq:spI X.K C attr [V.ref e,v] (upd H1 e (exO e C none)) (λw H'=>w=.non/\∃d,H1 d=none/\d≠e/\H'=upd (upd (upd H1 e (exO e C none)) e (exO e C (some d))) d (.xd [(attr,v)])) E0 :=
  ⟨e,v,rfl,Qh,λd hd hne=>⟨rfl,d,by rw [Qk hne] at hd;exact hd,hne,rfl⟩⟩
 have hl:([Value.ref e,u]++([]:List Value)).length=ps.length:=by
  have:=F.len _ _ _ _ hq
  rw [← this];rfl
 have hbb:=hb { heap:=h',gens:=g,drawn:=dr,toks:=tk,os:=os } [Value.ref e,u] I2.kIn hl
 rw [List.append_nil] at hbb
 refine codeAny_mono (F.run _ X.stack _ _ ⟨[Value.ref e,u],[]⟩ [Value.ref e,u] _ _ E0 (hr.make C [u] []) (I2.env0.make C [u] []) hbb r2 hq) λr s' hq'=>?_
 cases r with
 | error e=>exact False.elim hq'
 | ok fl =>
  cases fl with
  | ret u' =>
   obtain ⟨v',H',I3,rv,ev,d,hd,hne,eH⟩:=I2.after hq'
   subst ev
   have he':H' e=some (exO e C (some d)):=by rw [eH,Qk (Ne.symm hne),Qh]
   have hd':H' d=some (.xd [(attr,v)]):=by rw [eH,Qh]
   obtain ⟨od,t,e1,I4⟩:=I3.refrz he' hd'
   have hn4:X.s₀.heap.get? e=none:=Heap.get?_none_of_le (Nat.le_trans I1.sz (by rw [he];exact Nat.le_succ _))
   have b1:Qb9 H' e d (.frz od (.xd [(attr,v)])) e=none:=by unfold Qb9;rw [if_pos rfl]
   have b2:Qb9 H' e d (.frz od (.xd [(attr,v)])) d=some (.frz od (.xd [(attr,v)])):=by unfold Qb9;rw [if_neg hne,if_pos rfl]
   refine ⟨by cases rv;rfl,e,t,some d,rfl,(hob s'.heap I3.kIn).1,e1,hX pins σ _ s' e d od t v I4 e1 b1 hn4 b2 (hΞ _ d od (λb o q=>?_) b2)⟩
   unfold Qb9
   rw [if_neg (λz=>by rw [z,hfe] at q;cases q),if_neg (λz=>by rw [z,hd] at q;cases q),eH,Qk (λz=>by rw [z,hd] at q;cases q),Qk (λz=>by rw [z,hfe] at q;cases q),Qk (λz=>by rw [z,hfe] at q;cases q)]
   exact q
  | next=>exact False.elim hq'
  | brk=>exact False.elim hq'
  | cont=>exact False.elim hq'
end
end L2
namespace L2
open PySem PySem.Spec PyProof.Rows
open PySem.W (hideAll of_hideAll hideAll_get hideAll_none funFrames_hide)
section
variable {M:Model} {A:Around} {E:Value->Shared->Prop} {s:Shared} {base:Heap} {env:PySem.Env} {outer l:List PySem.Env} {L e:Addr} {cls a0:Value} {Q:Unit->Shared->Prop}
theorem KD.unit {t:Sem Unit} (k:KD t) {R:Heap->Prop} (h:wpAny M A t (λ_ s'=>∃h',s'={ s with heap:=h' }/\R h') (λ_ _=>False) s) (hQ:∀h',R h'->DK s.heap h'->Q () { s with heap:=h' }):wpAny M A t Q E s :=
 wpAny_mono (k.any h) (λ_ s' ⟨⟨h',e,r⟩,d⟩=>by subst e;exact hQ h' r d) λ_ _ z=>z.1.elim
theorem Qqp (hfr:A.frames=some (env::outer)) (hf:env.frame=some L) (hfl:Heap.FlyingW base (env::outer) e cls a0 s.heap)
  (hQ:∀h',Heap.FlyingW base outer e cls a0 h'/\s.heap.UpToSlots h'->DK s.heap h'->Q () { s with heap:=h' }):wpAny M A (leaving env (.ref e)) Q E s :=
 (Qc3 _ _).unit (wpAny_leaves_onW hfr hf hfl λh' a b=>⟨h',rfl,a,b⟩) hQ
theorem Qsu (hfr:A.frames=some (env::outer)) (hf:env.frame=some L) (hfl:Heap.FlyingW base (env::outer) e cls a0 s.heap)
  (hQ:∀h',Heap.HeldW base (env::outer) e cls a0 L h'/\s.heap.UpToSlots h'->DK s.heap h'->Q () { s with heap:=h' }):wpAny M A (noteFrame (.ref e) env) Q E s :=
 (Qkt _ _).unit (wpAny_looks_onW hfr hf hfl λh' a b=>⟨h',rfl,a,b⟩) hQ
theorem Qsw (hh:Heap.HeldW base l e cls a0 L s.heap) (hQ:∀h',Heap.FlyingW base l e cls a0 h'/\s.heap.UpToSlots h'->DK s.heap h'->Q () { s with heap:=h' }):wpAny M A (setFlight (.ref e) none) Q E s :=
 (Qb0 _ _).unit (wpAny_landsW hh λh' a b=>⟨h',rfl,a,b⟩) hQ
theorem Qtr (hh:Heap.FlyingW base l e cls a0 s.heap) (hQ:∀h',Heap.FlyingW base l e cls a0 h'/\s.heap.UpToSlots h'->DK s.heap h'->Q () { s with heap:=h' }):wpAny M A (setFlight (.ref e) none) Q E s :=
 (Qb0 _ _).unit (lands_againW hh λh' a b=>⟨h',rfl,a,b⟩) hQ
end
def DictAt (h:Heap) (e:Addr) (dx:Option Addr):Prop:=∃o,h.get? e=some o/\o.dict=dx/\∃vs:Array Value,o.data=.fields vs/\vs[2]? = some .none
theorem DictAt.on {h h':Heap} {e:Addr} {dx:Option Addr} (x:DictAt h e dx) (k:DK h h'):DictAt h' e dx:=by
 obtain ⟨o,a,b,vs,c1,c2⟩:=x
 obtain ⟨o',a',b',f⟩:=k e o a
 obtain ⟨vs',g1,g2⟩:=f vs c1
 exact ⟨o',a',b'.trans b,vs',g1,g2.trans c2⟩
def CXD (P:Program) (w:World) (base:Heap):CXT:=λouter H s E e s'=>∃ea C t dx B H',e=.ref ea/\Fly P w base B outer H s C ea t H' s'/\DictAt s'.heap ea dx/\E (.ref C) dx H'
section
variable {X:Cx} {pins:List (Addr × Obj)} {σ:St} {H H':Hp} {s s':Shared} {C ea t:Addr} {h'' B:Heap} {dx:Option Addr}
theorem Qbz {M:Model} {E:Value->Shared->Prop} {Q:Unit->Shared->Prop} (p:X.Plain) (I:Inv X pins σ H s) (he:s.heap.get? ea=some (Gs C t dx)) (hn:H ea=none) (h0:X.s₀.heap.get? ea=none)
  (hQ:∀h' B,Fly X.prog X.w X.base B X.outer X.H₀ X.s₀ C ea t H { s with heap:=h' }->DictAt h' ea dx->Q () { s with heap:=h' }):wpAny M X.A (leaving X.env (.ref ea)) Q E s:=by
 have hex:∀b,b∉X.ex:=λb=>by rw [p.ex];simp
 have hne:∀b o,X.s₀.heap.get? b=some o->b≠ea:=λb o q z=>by rw [z,h0] at q;cases q
 have hB:(hideAll s.heap (ea::frs X.stack)).StaysIn s.heap:=λb o q=>of_hideAll _ q
 have inB:∀b o,s.heap.get? b=some o->b≠ea->b∉frs X.stack->(hideAll s.heap (ea::frs X.stack)).get? b=some o:=λb o e n1 n=>hideAll_get _ e (λz=>(List.mem_cons.mp z).elim n1 n)
 have hfrm:s.heap.FunFrames (hideAll s.heap (ea::frs X.stack)) X.stack:=funFrames_hide I.stack λenv he a ha=>List.mem_cons_of_mem _ (List.mem_filterMap.mpr ⟨env,he,ha⟩)
 have hen:(hideAll s.heap (ea::frs X.stack)).get? ea=none:=hideAll_none _ (List.mem_cons_self ..)
 refine (Qc3 _ _).unit (R:=λh'=>Heap.LeftW (hideAll s.heap (ea::frs X.stack)) (X.env::X.outer) ea (.ref C) (.ref t) s.heap h') (wpAny_leaving_firstW (outer:=X.outer) (env:=X.env) (a0:=.ref t) (by rw [← p.stk];exact I.ok.frames) (by rw [← p.stk];exact hfrm) p.frame he hB hen rfl rfl rfl λh' hL=>⟨h',rfl,hL⟩) λh' hL dk=>?_
 obtain ⟨k1,⟨_,_,k2⟩,k3,x4⟩:=hL
 have x1:Heap.FlyingW (hideAll s.heap (ea::frs X.stack)) X.outer ea (.ref C) (.ref t) h':=⟨k1,hen,k2,k3⟩
 refine hQ h' (hideAll s.heap (ea::frs X.stack)) ?_ (DictAt.on ⟨_,he,rfl,_,rfl,rfl⟩ dk)
 have nst:∀b o,X.s₀.heap.get? b=some o->b∉frs X.outer->b∉frs X.stack:=λb o e nf z=>(p.mem.mp z).elim (I.old e) nf
 have kp:∀b ob,X.s₀.heap.get? b=some ob->X.H₀ b=none->b∉frs X.outer->(hideAll s.heap (ea::frs X.stack)).get? b=some ob:=λb o e n nf=>inB b o (I.base.keep b o e n nf (hex b)) (hne b o e) (nst b o e nf)
 have th:∀b ob,X.s₀.heap.get? b=some ob->b∉frs X.outer->∃o',(hideAll s.heap (ea::frs X.stack)).get? b=some o':=λb o e nf=>by
  obtain ⟨o1,e1⟩:=I.base.there b o e (hex b)
  exact ⟨o1,inB b o1 e1 (hne b o e) (nst b o e nf)⟩
 have dom:∀b o,H b=some o->∃ob,(hideAll s.heap (ea::frs X.stack)).get? b=some ob:=λb o e=>by
  obtain ⟨ob,eb⟩:=(I.hok b o e).there
  exact ⟨ob,inB b ob eb (λz=>by rw [z,hn] at e;cases e) λz=>by rw [I.stkFree b z] at e;cases e⟩
 refine ⟨I.os,I.bare,⟨λb o e n nf _=>x1.1 b o (kp b o e n nf),λb o e n hb _=>?_,λb o e n _=>I.base.free b o e n (hex b),λb o e _=>?_,I.base.tups,I.base.frzs,I.base.tbls⟩,Qh0 I.hok dom hB x1.1,λb o e=>inB b o (I.bk b o e) (hne b o (I.ok.bs b o e).1) λz=>?_,dom,kp,th,x1,h0⟩
 ·obtain ⟨sl,e1⟩:=I.base.slot b o e n hb (hex b)
  obtain ⟨_,o',e3,nd⟩:=I.stack.mem (p.mem.mpr (.inr hb))
  have z:=e1.symm.trans e3
  cases z
  obtain ⟨sl',e4⟩:=x4 b { o with slots:=sl } e1 nd
  exact ⟨sl',e4⟩
 ·by_cases hb:b∈frs X.outer
  ·obtain ⟨_,o',e3,nd⟩:=I.stack.mem (p.mem.mpr (.inr hb))
   obtain ⟨sl,e4⟩:=x4 b _ e3 nd
   exact ⟨_,e4⟩
  ·obtain ⟨o',e1⟩:=th b o e hb
   exact ⟨_,x1.1 b o' e1⟩
 ·have:=(I.stack.mem z).1
  rw [e] at this
  cases this
theorem Qkn {M:Model} {E:Value->Shared->Prop} {Q:Unit->Shared->Prop} (p:X.Plain) (I:Inv X pins σ H s) (f:Fly X.prog X.w X.base B X.stack H s C ea t H' s') (fd:DictAt s'.heap ea dx)
  (hQ:∀h',Fly X.prog X.w X.base B X.outer X.H₀ X.s₀ C ea t H' { s' with heap:=h' }->DictAt h' ea dx->Q () { s' with heap:=h' }):wpAny M X.A (leaving X.env (.ref ea)) Q E s' :=
 Qqp (by rw [← p.stk];exact I.ok.frames) p.frame (by rw [← p.stk];exact f.fly) λh' x k=>hQ h' (f.out p I x.1 x.2) (fd.on k)
theorem Fly.landedD (I:Inv X pins σ H s) (f:Fly X.prog X.w X.base B X.stack H s C ea t H' s') (fd:DictAt s'.heap ea dx):∃(ob:Obj) (φ:Heap->Prop),ob.cls=.ref C/\(ob.dict=dx/\∃vs:Array Value,ob.data=.fields vs/\vs[2]? = some .none)/\H' ea=none/\Inv X pins σ (upd H' ea (.frz ob (.ext φ))) s':=by
 obtain ⟨ob,φ,hc,hn,J⟩:=f.landed I
 refine ⟨ob,φ,hc,?_,hn,J⟩
 obtain ⟨o1,e1,d1⟩:=fd
 obtain ⟨e2,_⟩:=J.hok ea _ Qh
 rw [e1] at e2
 cases e2
 exact d1
variable {cx n:Str} {np pos hpos:Pos} {b₀:Stmt} {suite body:List Stmt} {j:Nat} {C0:Addr} {th:TS}
theorem Ql0 {D:Ends} (p:X.Plain) (I:Inv X pins σ H s) (f:Fly X.prog X.w X.base B X.stack H s C ea t H' s') (fd:DictAt s'.heap ea dx) (hcx:X.mg cx=some (.ref C0)) (hg:Gl X cx) (hm:PySem.W.exmOne X.K (.ref C) (.ref C0)=some true)
  (hN:X.N.Nodup) (hj:X.N[j]? = some n) (hl:X.env.kindOf n=some .local) (hlo:X.env.scope.names.lookup n=some .local) (hh:PSs (X.han ea) (b₀::suite) th)
  (hw:∀(ob:Obj) (φ:Heap->Prop),ob.cls=.ref C->(ob.dict=dx/\∃vs:Array Value,ob.data=.fields vs/\vs[2]? = some .none)->H' ea=none->th (D.un j) (σ.set j (some (.ref ea))) (upd H' ea (.frz ob (.ext φ)))) (hdb:(cx == ("__debug__" : Str))=false:=by decide) :
  wpAny (model X.prog X.w) X.A (noteFrame (.ref ea) X.env) (λ_ s₂=>wpAny (model X.prog X.w) X.A (setFlight (.ref ea) none) (λ_ s₃=>wpAny (model X.prog X.w) X.A (handleBy (.ref ea) X.env [.ExceptHandler (some (.Name cx np)) (some n) (b₀::suite) hpos]) (SP X pins D) X.xe s₃) X.xe s₂) X.xe s':=by
 have hfr:X.A.frames=some (X.env::X.outer):=by rw [← p.stk];exact I.ok.frames
 have fl:=f.fly
 have fl':Heap.FlyingW B (X.env::X.outer) ea (.ref C) (.ref t) s'.heap:=by rw [← p.stk];exact fl
 refine Qsu hfr p.frame fl' λh₄ ⟨hheld,hsm₄⟩ d4=>?_
 refine Qsw hheld λh₅ ⟨hfl5,hsm5⟩ d5=>?_
 have f5:=f.on (by rw [p.stk];exact hfl5) (hsm₄.trans hsm5)
 have fd5:=(fd.on d4).on d5
 refine wpAny_handleBy_cons (codeAny_handlers_test ?_) (by intro q;cases q)
 obtain ⟨ob5,φ5,hc5,hn5,I5⟩:=f5.landed I
 have I5h:=I5.han ea
 refine Uc (X:=X.han ea) I5h hg hcx ?_ hdb
 obtain ⟨oe,eoe,hoe⟩:=f5.fly.there
 have LT:PySem.W.Looks (model X.prog X.w) h₅ (typeOf (.ref ea)) (.ref C):=by
  rw [← hoe]
  exact (PySem.W.Looks.ld eoe).andThen .now
 refine (PySem.W.exm_one (M:=model X.prog X.w) I5.kIn LT hm).at ?_
 refine codeAny_handlers_suite_as ?_
 refine Qtr hfl5 λh₆ ⟨hfl6,hsm6⟩ d6=>?_
 have f6:=f5.on (by rw [p.stk];exact hfl6) hsm6
 obtain ⟨ob,φ,hc,hdx,hn,I6⟩:=f6.landedD I (fd5.on d6)
 refine Qah I6 hN hj (.inl hlo) (v:=.ref ea) rfl (λs7 I7=>?_) (.inr hlo)
 refine wpAny_mono (hh pins s7 _ _ (D.un j) (I7.han ea) (hw ob φ hc hdx hn)) (λfl s8 q=>?_) λ_ _ z=>False.elim z
 cases fl with
 | next =>
  obtain ⟨σ',H'',J,q⟩:=q
  exact Gz (J.unhan I.ok) hN hj hl λs9 I9=>⟨_,_,I9,q⟩
 | brk =>
  obtain ⟨σ',H'',J,q⟩:=q
  exact Gz (J.unhan I.ok) hN hj hl λs9 I9=>⟨_,_,I9,q⟩
 | cont =>
  obtain ⟨σ',H'',J,q⟩:=q
  exact Gz (J.unhan I.ok) hN hj hl λs9 I9=>⟨_,_,I9,q⟩
 | ret u =>
  obtain ⟨v,σ',H'',J,r,q⟩:=q
  exact Gz (J.unhan I.ok) hN hj hl λs9 I9=>⟨v,_,_,I9,r,q⟩
def Qo5 (X:Cx) (body:List Stmt) (tb:Ends->XK->St->Hp->Prop):Prop:=∀(pins:List (Addr × Obj)) (s:Shared) (σ:St) (H:Hp) (D:Ends) (E:XK),Inv X pins σ H s->tb D E σ H ->
 wpAny (model X.prog X.w) X.A (execs body X.env) (SP X pins D) (λe s'=>∃s1 H1,Inv X pins σ H1 s1/\CXD X.prog X.w X.base X.stack H1 s1 E e s') s
theorem Qp0 {tb:Ends->XK->St->Hp->Prop} {th:Addr->TS} (p:X.Plain) (hb:Qo5 X body tb) (hcx:X.mg cx=some (.ref C0)) (hg:Gl X cx) (hN:X.N.Nodup) (hj:X.N[j]? = some n) (hl:X.env.kindOf n=some .local) (hlo:X.env.scope.names.lookup n=some .local)
  (hh:∀ea,PSs (X.han ea) (b₀::suite) (th ea)) (hdb:(cx == ("__debug__" : Str))=false:=by decide) :
  PS X (.Try body [.ExceptHandler (some (.Name cx np)) (some n) (b₀::suite) hpos] [] [] pos) (λD σ H=>tb D (λc dx H'=>∃C,c=.ref C/\PySem.W.exmOne X.K (.ref C) (.ref C0)=some true/\∀(ea:Addr) (ob:Obj) (φ:Heap->Prop),ob.cls=.ref C->(ob.dict=dx/\∃vs:Array Value,ob.data=.fields vs/\vs[2]? = some .none)->H' ea=none->th ea (D.un j) (σ.set j (some (.ref ea))) (upd H' ea (.frz ob (.ext φ)))) σ H):=by
 intro pins s σ H D I h
 refine wpAny_Try_except (wpAny_mono (hb pins s σ H D _ I h) (λfl s1 q=>?_) λe s' z=>?_)
 ·cases fl with
  | next=>exact wpAny_execs_nil q
  | brk=>exact q
  | cont=>exact q
  | ret u=>exact q
 ·obtain ⟨s1,H1,I1,ea,C,t,dx,B,H',rfl,f,fd,C',e,hm,hw⟩:=z
  cases e
  exact Ql0 p I1 f fd hcx hg hm hN hj hl hlo (hh ea) (λob φ h1 h2 h3=>hw ea ob φ h1 h2 h3) hdb
theorem Ql1 {CX:CXT} {k:Nat} {f:Addr} {fd:FuncData} {ps:List Str} {sp:Sp} {Q:VK} {E:XK} {x:Str} {p pos:Pos} {e₀:Expr} {es:List Expr} {ta:TA} (F:FnOk X.prog X.w X.K X.mg X.base CX k f fd ps sp) (hr:Room k X.A) (hg:Gl X x) (hm:X.mg x=some (.ref f)) (hk:PySem.W.keepIn X.K (.ref f)=true) (hb:Gw X.K fd ps [])
  (ha:PA X.nox (e₀::es) ta) (I:Inv X pins σ H s) (h:ta σ H λvs H1=>sp vs H1 Q E) (hdb:(x == ("__debug__" : Str))=false:=by decide)
  (he:starEach (e₀::es) X.env=(false,eval e₀ X.env)::starEach es X.env:=by rfl) (hpl:(backTo pos (starEach es X.env)).any (·.1)=false:=by rfl) :
  wpAny (model X.prog X.w) X.A (eval (.Call (.Name x p) (e₀::es) [] pos) X.env) (EP X pins σ Q) (λe s'=>∃s1 H1,Inv X pins σ H1 s1/\CX X.stack H1 s1 E e s') s:=by
 refine wpAny_Call_Name_kw (Uc I hg hm ?_ hdb)
 refine PySem.W.callWith_K (K:=X.K) (h₀:=X.base) I.ok.mod.kin hk (wpAny_mono (ha pos pins s σ H _ (I.wish _) h) (λus s1 z=>?_) λ_ _ z=>False.elim z) he hpl
 obtain ⟨vs,H1,I1,r,q⟩:=z
 have I1:=I1.unwish
 have hl:(us++[]).length=ps.length:=by rw [List.append_nil,← r.length];exact F.len _ _ _ _ q
 have hbb:=hb s1 us I1.kIn hl
 rw [List.append_nil] at hbb
 refine ⟨I1.kIn,wpAny_call (codeAny_mono (F.run X.A X.stack s1 H1 ⟨us,[]⟩ us vs Q E hr I1.env0 hbb r q) λr s' hq=>?_)⟩
 cases r with
 | error e=>exact ⟨s1,H1,I1,hq⟩
 | ok fl =>
  cases fl with
  | ret u=>exact I1.after hq
  | next=>exact False.elim hq
  | brk=>exact False.elim hq
  | cont=>exact False.elim hq
end
end L2
namespace L2
open PySem PySem.Spec PyProof.Rows
open PySem.W (findIn subIn mroIn clsIn Looks looks_findIn looks_subIn InstAt KitX)
section
variable {prog:Program} {w:World} {A:Around} {E:Value->Shared->Prop} {h:Heap} {g:Array GenState} {d:Drawn} {t:Nat} {os:OsState} {a C dx:Addr} {o:Obj} {K:PySem.W.Frag} {Bx:String} {bmB:List Value} {name:Str} {u:Value} {mA:Str->Option Value}
theorem Qk6 {tk:Tok} {Q:Fin->Shared->Prop} (X:K.In h) (kc:ExcC K C) (hl:findIn K (.ref C) name=some none) (hx:h.get? a=some o) (hc:o.cls=.ref C) (hd:o.dict=some dx) (hdt:∃vs,o.data=.fields vs) (hn:h.Ns dx mA) (hu:mA name=some u) (hh:PySem.W.handedIn u=true) (hq:Q (.done (.ret u)) ⟨h,g,d,t,os⟩) :
  wpAny (model prog w) A (Builtin.«object.__getattribute__» ⟨[.ref a,.str name tk],[]⟩) Q E ⟨h,g,d,t,os⟩:=by
 have L1:=looks_findIn (M:=model prog w) X hl
 unfold Builtin.«object.__getattribute__»
 repeat (any_goals (first | assumption | (with_reducible refine wpAny_loadPart_at hx ?_;first | rw [hc] | rw [hd]) | with_reducible refine L1.at ?_ | wp_step))
 obtain ⟨vs,hdt⟩:=hdt
 rw [hdt]
 unfold instanceDict
 obtain ⟨nm,qq,N,bs,bm,sn,sub,ab,col,dd,k0,k1,k2,k3,k5,hb,hob⟩:=kc.obj
 obtain ⟨hC,_⟩:=hob h X
 repeat (any_goals (first | assumption | (with_reducible refine wpAny_loadPart_at hx ?_;first | rw [hc] | rw [hd]) | with_reducible refine L1.at ?_ | wp_step))
 rw [hd]
 refine wpAny_pure (wpAny_nsGet hn ?_)
 rw [hu]
 repeat (any_goals (first | assumption | wp_step))
 done
theorem Qth {tk:Tok} {fill expr:Bool} {Q:Value->Shared->Prop} (FB:ExcAttrBase Bx bmB) (X:K.In h) (kc:ExcC K C) (q:ExcQ K C) (hl:findIn K (.ref C) name=some none) (hx:h.get? a=some o) (hc:o.cls=.ref C) (hd:o.dict=some dx) (hdt:∃vs,o.data=.fields vs) (hn:h.Ns dx mA) (hu:mA name=some u) (hh:PySem.W.handedIn u=true) (hq:Q u ⟨h,g,d,t,os⟩) :
  wpAny (model prog w) A (getAttrBy (.ref a) (.str name tk) fill expr) Q E ⟨h,g,d,t,os⟩:=by
 have f3:=FB.ga.bind (.ref a)
 have hx0:(expr && onTheHeap (Value.builtin "BaseException.__getattribute__"))=false:=by cases expr <;> rfl
 have hx2:(Value.builtin "BaseException.__getattribute__" == Value.builtin "object.__getattribute__")=false:=by decide +kernel
 have hx1:(onTheHeap (Value.ref C) && Value.builtin "BaseException.__getattribute__" == Value.builtin "object.__getattribute__")=false:=by rw [hx2];rfl
 have L1:=looks_findIn (M:=model prog w) X q.ga
 have L2:=looks_findIn (M:=model prog w) X q.gt
 have hho:=PySem.W.handedOut_of hh
 repeat (any_goals (first | assumption | (with_reducible refine wpAny_loadPart_at hx ?_;rw [hc]) | with_reducible refine L1.at ?_ | with_reducible refine L2.at ?_ | wp_step))
 refine codeAny_call_builtin FB.ga.plain F.entry_bexc_ga (Qey X q hx hc (Qk6 X kc hl hx hc hd hdt hn hu hh ?_))
 repeat (any_goals (first | assumption | rw [hho] | wp_step))
theorem Qq2 {expr:Bool} {Q:Value->Shared->Prop} (FB:ExcAttrBase Bx bmB) (X:K.In h) (kc:ExcC K C) (q:ExcQ K C) (hl:findIn K (.ref C) name=some none) (hx:h.get? a=some o) (hc:o.cls=.ref C) (hd:o.dict=some dx) (hdt:∃vs,o.data=.fields vs) (hn:h.Ns dx mA) (hu:mA name=some u) (hh:PySem.W.handedIn u=true) (hq:Q u ⟨h,g,d,t+1,os⟩) :
  wpAny (model prog w) A (getAttr (.ref a) name expr) Q E ⟨h,g,d,t,os⟩:=by
 unfold getAttr
 repeat (any_goals (first | assumption | with_reducible apply Qth FB X kc q hl hx hc hd hdt hn hu hh | wp_step))
end
section
variable {X:Cx} {pins:List (Addr × Obj)} {σ:St} {H H':Hp} {s s':Shared} {x attr:Str} {pos p cpos:Pos} {e e₀:Expr} {es:List Expr} {ta:TA}
theorem Qm2 {te:TE} {Bx:String} {bmB:List Value} (FB:ExcAttrBase Bx bmB) (he:PE X e te) (hb:attributeBase e attr X.env (eval e X.env)=eval e X.env:=by rfl) :
  PE X (.Attribute e attr pos) (λσ H Q=>te σ H λy H1=>∃a C o φ dx od fs v,y=.ref a/\H1 a=some (.frz o (.ext φ))/\o.cls=.ref C/\o.dict=some dx/\(∃vs,o.data=.fields vs)/\H1 dx=some (.frz od (.xd fs))/\ExcC X.K C/\ExcQ X.K C/\findIn X.K (.ref C) attr=some none/\fs.lookup attr=some v/\Q v H1):=by
 intro pins s σ H Q I h
 refine Qrh hb (thn (he pins s σ H _ I h) λu s1 ⟨y,H1,I1,rx,a,C,o,φ,dx,od,fs,v,ey,ha,hc,hd,hdt,hx,kc,q,hl,hf,hq⟩=>?_)
 subst ey
 obtain rfl:u=Value.ref a:=rx
 obtain ⟨e1,_⟩:=I1.hok a _ ha
 obtain ⟨_,mA,ns,rr⟩:=I1.hok dx _ hx
 obtain ⟨u,hu,ru⟩:=RelO.some_of (v:=v) (o:=mA attr) (by rw [← hf];exact rr attr)
 obtain ⟨hp,g,d,tk,os⟩:=s1
 exact Qq2 FB I1.kIn kc q hl e1 hc hd hdt ns.ns hu (Qk1 ru) ⟨v,H1,I1.tok _,ru,hq⟩
theorem Qju {k:Nat} {f:Addr} {fd:FuncData} {ps:List Str} {sp:Sp} {bd:List Stmt} {j pos' cp} (F:FnOk X.prog X.w X.K X.mg X.base (CXD X.prog X.w X.base) k f fd ps sp) (hr:Room k X.A) (hg:Gl X x) (hm:X.mg x=some (.ref f)) (hk:PySem.W.keepIn X.K (.ref f)=true) (hb:Gw X.K fd ps [])
  (ha:PA X.nox (e₀::es) ta) (hdb:(x == ("__debug__" : Str))=false:=by decide)
  (he:starEach (e₀::es) X.env=(false,eval e₀ X.env)::starEach es X.env:=by rfl) (hpl:(backTo cpos (starEach es X.env)).any (·.1)=false:=by rfl) :
  Qo5 X [.If (.Compare (.Call (.Name x p) (e₀::es) [] cpos) [.IsNot] [.Constant .none j pos'] cp) bd [] pos] (λD E σ H=>ta σ H λvs H1=>sp vs H1 (λv H2=>v=.non/\D.nx σ H2) E):=by
 intro pins s σ H D E I h
 refine wpAny_execs_cons (wpAny_If (wpAny_isTrue_Compare1 (wpAny_mono (Ql1 F hr hg hm hk hb ha I h hdb he hpl) (λv s1 z=>?_) λ_ _ z=>z)))
 obtain ⟨y1,H1,I1,r1,rfl,q1⟩:=z
 refine wpAny_mono (Qop (X:=X.nox) pins s1 σ H1 (λy H=>y=.non/\H=H1) (I1.wish _) ⟨rfl,rfl⟩) (λu s2 z=>?_) λ_ _ z=>False.elim z
 obtain ⟨y2,H2,I2,r2,rfl,rfl⟩:=z
 refine wpAny_mono (Qqf (X:=X.nox) pins s2 σ H2 _ _ _ _ (λy H=>y=.bl false/\H=H2) I2 r1 r2 ⟨rfl,by simp,rfl⟩) (λc s3 z=>?_) λ_ _ z=>False.elim z
 obtain ⟨y3,H3,I3,r3,rfl,rfl⟩:=z
 cases r3
 exact wpAny_truthy_bool (wpAny_execs_nil (wpAny_execs_nil ⟨σ,H3,I3.unwish,q1⟩))
end
end L2
namespace L2
open PySem PySem.Spec PyProof.Rows
def HnAt (h:Heap) (x:Addr):Prop:=∃o vs,h.get? x=some o/\o.data=.fields vs/\vs[2]? = some .none
theorem Qdy:entryFor table "proto.unchain" = some Builtin.«proto.unchain»:=entryFor_of_tree (by kernel_rfl)
section
variable {prog:Program} {w:World} {A:Around} {E:Value->Shared->Prop} {s:Shared} {x:Addr}
theorem HnAt.extBut {h h':Heap} {b:Addr} (k:HnAt h x) (e:Heap.ExtBut b h h') (hn:x≠b):HnAt h' x:=by
 obtain ⟨o,vs,q,r⟩:=k
 exact ⟨o,vs,e x o hn q,r⟩
theorem Qj3 {α:Type} {a:Addr} {oa:Obj} {ws:Array Value} {Q:α->Shared->Prop} (hh:A.handled=some (.ref x)) (k:HnAt s.heap x) (hne:x≠a) (h4:s.heap.get? a=some oa) (h5:oa.data=.fields ws) (h6:2<ws.size)
  (hE:E (.ref a) { s with heap:=s.heap.update a (Obj.mapFields (·.setIfInBounds 2 (.ref x))) }):wpAny (model prog w) A (raiseNew (.ref a):Sem α) Q E s:=by
 obtain ⟨o,vs,k1,k2,k3⟩:=k
 unfold raiseNew
 refine wpAny_bind (wpAny_handled ?_)
 rw [hh]
 show wpAny _ _ (if ((Value.ref x) != (Value.ref a))=true then _ else _) _ _ _
 rw [if_pos (by simpa using hne)]
 refine wpAny_bind (wpAny_holding (runValue_entry Qdy ?_))
 show wpAny _ _ (field (.ref x) 2 >>= _) _ _ _
 refine wpAny_bind (wpAny_field k1 k2 k3 ?_)
 rw [if_pos (by rfl)]
 refine wpAny_pure ⟨_,rfl,?_⟩
 refine wpAny_bind ?_
 show wpAny _ _ (setField (.ref a) 2 (.ref x)) _ _ _
 exact wpAny_setField h4 h5 h6 (wpAny_throw hE)
theorem Qk5 {b:Addr} {h h1:Heap} {f:Obj->Obj} {o1 o2:Obj} (e:Heap.ExtBut b h h1):Heap.ExtBut b h (((h1.push o1).push o2).update (h1.push o1).objs.size f):=λc o hc q=>by
 have q1:=e c o hc q
 have q2:=Heap.get?_push_of_some o1 q1
 rw [Heap.get?_update_other _ _ (Nat.ne_of_gt (Heap.lt_size q2))]
 exact Heap.get?_push_of_some _ q2
theorem Qi4 {it l:Addr} {i:Nat} {items} {Q:Option Value->Shared->Prop} (hh:A.handled=some (.ref x)) (k:HnAt s.heap x)
  (hit:s.heap.IsListIter it l i) (hl:s.heap.IsList l items) (hx:items[i]? = none)
  (hQ:∀h',Heap.ExtBut it s.heap h'->Q none { s with heap:=h' }):wpAny (model prog w) A (pyNext (.ref it)) Q E s:=by
 obtain ⟨o,ho,hc,hd⟩:=id hit
 obtain ⟨ol,hol,_,nl,hdl⟩:=hl
 have hxi:x≠it:=λz=>by
  obtain ⟨o',vs,q1,q2,q3⟩:=k
  rw [z,ho] at q1
  cases q1
  rw [hd] at q2
  cases q2
  simp at q3
 unfold pyNext
 refine wpAny_bind (wpAny_attempt (wpAny_callSpecial?_slot (name:=Str.ofString "__next__") hit.typeIs slot_listiter_next
  (wpAny_call_entry slot_listiter_next hit.typeIs entry_listiter_next ?_ (args_listiter_next _))))
 show wpAny _ _ (field (.ref it) 0 >>= _) _ _ s
 refine wpAny_bind (wpAny_field ho hd (x:=.ref l) rfl ?_)
 show wpAny _ _ (if (Value.ref l == Value.none)=true then _ else _) _ _ s
 rw [if_neg (show ¬((Value.ref l == Value.none)=true) from Bool.false_ne_true)]
 show wpAny _ _ (field (.ref it) 1 >>= _) _ _ s
 refine wpAny_bind (wpAny_field ho hd (x:=.int i 0) rfl ?_)
 show wpAny _ _ (seqItems? (.ref l) >>= _) _ _ s
 refine wpAny_bind (wpAny_seqItems hol hdl ?_)
 simp only [Int.toNat_natCast,hx]
 refine wpAny_bind (wpAny_rule (wpAny_bind (wpAny_setField ho hd (by simp) ?_)))
 show wpAny _ _ (newExc (.type "StopIteration") [] >>= _) _ _ _
 refine wpAny_bind ?_
 simp only [newExc,newTuple]
 refine wpAny_bind (wpAny_newObj_type ?_ (by size_fits))
 refine wpAny_bind (m:=firstArgMember _ _) (wpAny_of_eq (a:=Value.none) (by first | rfl | (simp only [firstArgMember];rfl)) ?_)
 refine wpAny_newObj_type ?_ (by size_fits)
 refine Qj3 (x:=x) hh ?_ ?_ (Heap.get?_push_size _ rfl) rfl (by rw [Array.size_append];show 2<6+_;omega) ?_
 ·exact k.extBut (((Heap.SameBut.update ..).extBut.push _).push _) hxi
 ·obtain ⟨o',_,q1,_⟩:=k
  have:=Heap.lt_size q1
  have hz:=(Heap.SameBut.update s.heap it (Obj.mapFields λx=>x.setIfInBounds 0 Value.none)).1
  simp only [Heap.size_push,hz]
  exact Nat.ne_of_lt (Nat.lt_succ_of_lt this)
 ·refine wpAny_bind (wpAny_isInstance (T:="StopIteration") (b:=true) ⟨_,Heap.get?_update_self _ (Heap.get?_push_size _ rfl) rfl,rfl⟩ isSubtype_stop ?_)
  exact wpAny_pure (hQ _ (Qk5 (Heap.SameBut.update ..).extBut))
theorem Qfr {it l:Addr} {i:Nat} {items} {Q:Option Value->Shared->Prop} (hh:A.handled=some (.ref x)) (k:HnAt s.heap x)
  (hit:IsTupIter s.heap it l i) (hl:IsTup s.heap l items) (hx:items[i]? = none)
  (hQ:∀h',Heap.ExtBut it s.heap h'->Q none { s with heap:=h' }):wpAny (model prog w) A (pyNext (.ref it)) Q E s:=by
 obtain ⟨o,ho,hc,hd⟩:=id hit
 obtain ⟨ol,hol,_,nl,hdl⟩:=hl
 have hxi:x≠it:=λz=>by
  obtain ⟨o',vs,q1,q2,q3⟩:=k
  rw [z,ho] at q1
  cases q1
  rw [hd] at q2
  cases q2
  simp at q3
 unfold pyNext
 refine wpAny_bind (wpAny_attempt (wpAny_callSpecial?_slot (name:=Str.ofString "__next__") hit.typeIs slot_tupleiter_next
  (wpAny_call_entry slot_tupleiter_next hit.typeIs entry_tupleiter_next ?_ (args_tupleiter_next _))))
 show wpAny _ _ (field (.ref it) 0 >>= _) _ _ s
 refine wpAny_bind (wpAny_field ho hd (x:=.ref l) rfl ?_)
 show wpAny _ _ (if (Value.ref l == Value.none)=true then _ else _) _ _ s
 rw [if_neg (show ¬((Value.ref l == Value.none)=true) from Bool.false_ne_true)]
 show wpAny _ _ (field (.ref it) 1 >>= _) _ _ s
 refine wpAny_bind (wpAny_field ho hd (x:=.int i 0) rfl ?_)
 show wpAny _ _ (seqItems? (.ref l) >>= _) _ _ s
 refine wpAny_bind (wpAny_seqItems hol hdl ?_)
 simp only [Int.toNat_natCast,hx]
 refine wpAny_bind (wpAny_rule (wpAny_bind (wpAny_setField ho hd (by simp) ?_)))
 show wpAny _ _ (newExc (.type "StopIteration") [] >>= _) _ _ _
 refine wpAny_bind ?_
 simp only [newExc,newTuple]
 refine wpAny_bind (wpAny_newObj_type ?_ (by size_fits))
 refine wpAny_bind (m:=firstArgMember _ _) (wpAny_of_eq (a:=Value.none) (by first | rfl | (simp only [firstArgMember];rfl)) ?_)
 refine wpAny_newObj_type ?_ (by size_fits)
 refine Qj3 (x:=x) hh ?_ ?_ (Heap.get?_push_size _ rfl) rfl (by rw [Array.size_append];show 2<6+_;omega) ?_
 ·exact k.extBut (((Heap.SameBut.update ..).extBut.push _).push _) hxi
 ·obtain ⟨o',_,q1,_⟩:=k
  have:=Heap.lt_size q1
  have hz:=(Heap.SameBut.update s.heap it (Obj.mapFields λx=>x.setIfInBounds 0 Value.none)).1
  simp only [Heap.size_push,hz]
  exact Nat.ne_of_lt (Nat.lt_succ_of_lt this)
 ·refine wpAny_bind (wpAny_isInstance (T:="StopIteration") (b:=true) ⟨_,Heap.get?_update_self _ (Heap.get?_push_size _ rfl) rfl,rfl⟩ isSubtype_stop ?_)
  exact wpAny_pure (hQ _ (Qk5 (Heap.SameBut.update ..).extBut))
theorem Qde {t:Addr} {items:Array Value} {Q:List Value->Shared->Prop} (hh:A.handled=some (.ref x)) (k:HnAt s.heap x) (ht:IsTup s.heap t items)
  (hQ:∀h',Heap.ExtBut s.heap.objs.size s.heap h'->Q items.toList { s with heap:=h' }):wpAny (model prog w) A (unpackItems (.ref t) items.size none) Q E s:=by
 have hlt:t≠s.heap.objs.size:=by obtain ⟨o,ho,_⟩:=ht;exact Nat.ne_of_lt (Heap.lt_size ho)
 have hxs:x≠s.heap.objs.size:=by obtain ⟨o,_,ho,_⟩:=k;exact Nat.ne_of_lt (Heap.lt_size ho)
 unfold unpackItems
 refine wpAny_bind ?_
 unfold notIterableAtAll
 refine wpAny_bind (wpAny_specialOf ht.typeIs slot_tuple_iter.lookup ?_)
 refine wpAny_pure ?_
 simp only [Bool.false_eq_true,if_false]
 refine wpAny_bind (wpAny_holding (iter_tuple ht ?_))
 refine wpAny_bind (wpAny_holding (draw_tuple hlt items.size 0 _ _ ⟨_,Heap.get?_push_size _ rfl,rfl,rfl⟩ (ht.push _) (by omega) λh₁ hit₁ hs₁=>?_))
 have hall:List.take items.size (List.drop 0 items.toList)=items.toList:=by
  rw [List.drop_zero];exact List.take_of_length_le (by simp)
 rw [hall]
 rw [if_neg (by simp)]
 have ht₁:IsTup h₁ t items:=(ht.push _).extBut hs₁.extBut hlt
 have k₁:HnAt h₁ x:=by
  obtain ⟨o,vs,q,r⟩:=k
  exact ⟨o,vs,(hs₁.2 x hxs).trans (Heap.get?_push_of_some _ q),r⟩
 refine wpAny_bind (wpAny_holding (Qfr hh k₁ hit₁ ht₁ (by simp) λh₂ he₂=>?_))
 simp only [Option.isSome_none,Bool.false_eq_true,if_false]
 exact wpAny_pure (hQ h₂ λb o hb e=>he₂ b o hb (hs₁.extBut b o hb (Heap.get?_push_of_some _ e)))
theorem Qn5 {env:PySem.Env} {elts:List Expr} {x1} {pos:Pos} {t:Addr} {items:Array Value} {Q:Unit->Shared->Prop} (hh:A.handled=some (.ref x)) (k:HnAt s.heap x) (ht:IsTup s.heap t items)
  (hn:(assignEach elts env).length=items.size) (hstar:(assignEach elts env).findIdx? (·.1)=none)
  (h:∀h',Heap.ExtBut s.heap.objs.size s.heap h'->wpAny (model prog w) A (assignInOrder ((assignEach elts env).map (·.2)) items.toList) Q E { s with heap:=h' }) :
  wpAny (model prog w) A (assign (.Tuple elts x1 pos) env (.ref t)) Q E s:=by
 rw [assign_Tuple]
 refine wpAny_bind (wpAny_standAt ?_)
 unfold unpack
 rw [hn,hstar]
 exact wpAny_bind (wpAny_holding (Qde hh k ht h))
end
section
variable {X:Cx} {pins:List (Addr × Obj)} {σ:St} {H:Hp} {s:Shared} {pos:Pos}
def Qea (X:Cx):Prop:=∃(x:Addr) (o:Obj) (φ:Heap->Prop) (vs:Array Value),X.A.handled=some (.ref x)/\X.H₀ x=some (.frz o (.ext φ))/\o.data=.fields vs/\vs[2]? = some .none
theorem Qea.at_ (k:Qea X):∃x,X.A.handled=some (.ref x)/\∀(pins:List (Addr × Obj)) (σ:St) (H:Hp) (s:Shared),Inv X pins σ H s->HnAt s.heap x:=by
 obtain ⟨x,o,φ,vs,h1,h2,h3,h4⟩:=k
 refine ⟨x,h1,λpins σ H s I=>?_⟩
 obtain ⟨e,_⟩:=I.hok x _ (I.base.frzs x o _ h2)
 exact ⟨o,vs,e,h3,h4⟩
theorem Qp9 {es:List Expr} {k:Nat} {t:TGs} {n:Nat} (hc:Qea X) (h:PGs X es t)
  (hn:(assignEach es X.env).length=n:=by rfl) (hst:(assignEach es X.env).findIdx? (·.1)=none:=by rfl):PG X (.Tuple es k pos) (gTup X.K n t):=by
 obtain ⟨x,hh,hx⟩:=hc.at_
 intro pins s σ H v u Q I r hw
 obtain ⟨a,xs,e1,hq,hl,hw⟩:=hw
 subst e1
 cases r
 obtain ⟨its,rv,ht,hz⟩:=I.tuple hq
 refine Qn5 hh (hx pins σ H s I) ht (by simp [hn,← hl,rv.length]) hst λh' hx=>?_
 have I1:Inv X pins σ H { s with heap:=h' }:=I.kept (t':=s.toks) λb o e=>hx b o (Nat.ne_of_lt (Heap.lt_size e)) e
 exact h pins _ σ H xs _ Q I1 (by simpa using rv) hw
end
end L2
namespace L2
open PySem PySem.Spec PyProof.Rows
section
variable {X:Cx} {tg:Expr}
def Qtb (K:PySem.W.Frag) (tl:TE):TI:=λσ H R=>tl σ H λx H1=>∃a,x=.ref a/\(∃xs,SqL K H1 a xs)/\R (Itl K a) H1
theorem Qp2 {l:Expr} {body:List Stmt} {tl:TE} {g:TG} {tb:TS} {pos:Pos} (hp:PassesOwn (model X.prog X.w) X.A X.env X.xe) (hc:Qea X) (hl:PE X l tl) (hg:PG X tg g) (hb:PSs X body tb)
  (hs:∀x,foldedSetIterable l X.env x=pure x:=by intro _;rfl):PS X (.For tg l body [] pos) (tFor (Qtb X.K tl) g tb):=by
 obtain ⟨hx,hh,hk⟩:=hc.at_
 intro pins s σ H D I h
 refine wpAny_For (thn (hl pins s σ H _ I h) λv s1 ⟨y,H1,I1,r1,a,ey,⟨xs0,hq0⟩,W,⟨m0,w0⟩,turn⟩=>?_) hs
 subst ey
 cases r1
 obtain ⟨its,rv,p0,hz⟩:=I1.list hq0
 refine wpAny_pyIter_list p0.isList ?_
 have hf:∀b∈[s1.heap.objs.size],FpOk X pins H1 b:=λb hb=>by
  have e:b=s1.heap.objs.size:=by simpa using hb
  subst e
  exact I1.fpOk (Nat.le_refl _) (I1.hok.fresh (Nat.le_refl _))
 have I2:Inv X pins σ H1 { s1 with heap:=s1.heap.push { cls:=.type "list_iterator",data:=.fields #[.ref a,.int 0 0] } }:=I1.kept (t':=s1.toks) λb o e=>Heap.get?_push_of_some _ e
 have T:Turn X.prog X.w X.K tg (Itl X.K a) [s1.heap.objs.size] s1.heap.objs.size (λi h=>h.IsListIter s1.heap.objs.size a i):=Qef a _
 have st2:(s1.heap.push { cls:=.type "list_iterator",data:=.fields #[.ref a,.int 0 0] }).IsListIter s1.heap.objs.size a 0:=⟨_,Heap.get?_push_size _ rfl,rfl,rfl⟩
 generalize s1.heap.objs.size=it at hf I2 T st2 ⊢
 have stat:∀{H':Hp},(∀b∈[it],H' b=none)->∀b∈[it],FpOk X pins H' b:=λhn b hb=>⟨hn b hb,(hf b hb).2⟩
 refine codeAny_forLoop_any (λn s'=>∃i σ' H',Inv X pins σ' H' s'/\s'.heap.IsListIter it a i/\(∀b∈[it],H' b=none)/\W i n σ' H') ?_ m0 ⟨0,σ,H1,I2,st2,λb hb=>(hf b hb).1,w0⟩
 rintro n s3 ⟨i,σ3,H3,I3,st3,fr3,w3⟩
 obtain ⟨f0,f1,f2,f3,f4,f5⟩:=stat fr3 it (by simp)
 rcases turn i n σ3 H3 w3 with ⟨stop,qn⟩ | ⟨go,N,hN,step⟩
 ·obtain ⟨xs,hq,hxl⟩:=stop
  obtain ⟨its,rv,p,hz⟩:=I3.list hq
  have hll:=rv.length
  refine wpAny_passesOwn hp (Qi4 hh (hk pins σ3 H3 s3 I3) st3 p.isList (by simp;omega) λh' eb=>?_)
  exact wpAny_execs_nil ⟨σ3,H3,I3.turned (t':=s3.toks) (λb o hb e=>eb b o hb e) f0 f1 f3 f4 f5,qn⟩
 ·obtain ⟨xs,x,hq,hxx⟩:=go
  obtain ⟨its,rv,p,hz⟩:=I3.list hq
  obtain ⟨u,hu,ru⟩:=rv.get hxx
  refine wpAny_passesOwn hp (wpAny_pyNext_list_item st3 p.isList (x:=u) (by simpa using hu) λh' st' sb=>?_)
  have I4:Inv X pins σ3 H3 { s3 with heap:=h' }:=I3.turned (t':=s3.toks) (λb o hb e=>(sb.2 b hb).trans e) f0 f1 f3 f4 f5
  obtain ⟨o4,e4,c4,d4⟩:=id st'
  refine wpAny_passesOwn hp (Qk2 (s:={ s3 with heap:=h' }) e4 c4 d4 (by decide) ?_)
  have I5':=I4.pinned (stat fr3) (T.obj _ _ st')
  refine wpAny_passesOwn hp (thn (hg _ _ σ3 H3 x u _ I5' ru (step x H3 ⟨rfl,λys hy=>by rw [I3.list_inj hy hq];exact hxx⟩)) λ_ s6 ⟨σ6,H6,I6,q6⟩=>?_)
  refine wpAny_passesOwn hp (thn (hb _ s6 σ6 H6 _ I6 q6) λf s7 q7=>?_)
  have again:∀{σ7:St} {H7:Hp},Inv X (pins++Qac [it] h') σ7 H7 s7->N σ7 H7->∃m,m<n/\∃i σ' H',Inv X pins σ' H' s7/\s7.heap.IsListIter it a i/\(∀b∈[it],H' b=none)/\W i m σ' H':=λ{σ7 H7} I7 n7=>by
   obtain ⟨m',hm,w7⟩:=hN σ7 H7 n7
   refine ⟨m',hm,i+1,σ7,H7,I7.unpinned,T.keep _ _ _ st' λb hb o e=>(I7.pin (b,o) (List.mem_append_right _ (List.mem_append_right _ (Yn hb e)))).1,λb hb=>?_,w7⟩
   obtain ⟨o,e,d⟩:=T.obj _ _ st' b hb
   exact (I7.pin (b,o) (List.mem_append_right _ (List.mem_append_right _ (Yn hb e)))).2.1
  cases f with
  | next=>obtain ⟨σ7,H7,I7,n7⟩:=q7;exact again I7 n7
  | cont=>obtain ⟨σ7,H7,I7,n7⟩:=q7;exact again I7 n7
  | brk=>obtain ⟨σ7,H7,I7,q7⟩:=q7;exact ⟨σ7,H7,I7.unpinned,q7⟩
  | ret v=>obtain ⟨x7,σ7,H7,I7,r7,q7⟩:=q7;exact ⟨x7,σ7,H7,I7.unpinned,r7,q7⟩
end
abbrev Qd1 (A:Around):Around:={ A with handled:=none }
def HnH (A:Around) (H:Hp):Prop:=∃(x:Addr) (o:Obj) (φ:Heap->Prop) (vs:Array Value),A.handled=some (.ref x)/\H x=some (.frz o (.ext φ))/\o.data=.fields vs/\vs[2]? = some .none
structure FnOkH (P:Program) (w:World) (K:PySem.W.Frag) (mg:Str->Option Value) (base:Heap) (k:Nat) (f:Addr) (fd:FuncData) (ps:List Str) (sp:Sp):Prop where
 len:∀vs H Q E,sp vs H Q E->vs.length=ps.length
 run:∀(A:Around) (outer:List PySem.Env) (s:Shared) (H:Hp) (args:Args) (us:List Value) (vs:List V) (Q:VK),Room k (Qd1 A)->HnH A H->Env0 P w K mg base A outer s H->BindsTo s fd args (ps.zip us)->Vals vs us->sp vs H Q E0 ->
  codeAny (model P w) A (.call (.ref f) args) (CR CX0 outer P w H s Q E0) s
def cxH (P:Program) (w:World) (K:PySem.W.Frag) (mg:Str->Option Value) (base:Heap) (N:List Str) (qual:Str) (scope:Scope) (f:Addr) (cd:Value) (A:Around) (outer:List PySem.Env) (s:Shared) (H:Hp):Cx :=
 { (cxOf CX0 P w K mg base N qual scope f cd A outer s H E0) with calm:=false,xe:=λ_ _=>False }
theorem Qtg {P:Program} {w:World} {K:PySem.W.Frag} {mg:Str->Option Value} {base:Heap} {k:Nat} {f:Addr} {name qual:Str} {params:Arguments} {body:List Stmt} {scope:Scope} {dV kV doc pm cdv ct oc:Value} {an od:Option Addr}
  {osl:Array (Option Value)} {N ps:List Str} {sp:Sp} (lk:K.lookup f=some ⟨oc,od,.func (PySem.W.fnOf name qual params body scope dV kV doc pm an cdv ct),osl⟩) (hcd:PySem.W.codeIn K cdv qual=true) (S:FnScope N ps scope)
  (len:∀vs H Q E,sp vs H Q E->vs.length=ps.length)
  (hbody:∀(A:Around) (outer:List PySem.Env) (s:Shared) (H:Hp) (vs:List V) (Q:VK),Room k ((Qd1 A).deeper (envOfC qual scope s.heap.objs.size f cdv))->Qea (cxH P w K mg base N qual scope f cdv A outer s H)->sp vs H Q E0 ->
   ∃t,PSs (cxH P w K mg base N qual scope f cdv A outer s H) body t/\t { nx:=λ_ H'=>Q .non H',rt:=Q } (start N vs) H) :
  FnOkH P w K mg base (k+1) f (PySem.W.fnOf name qual params body scope dV kV doc pm an cdv ct) ps sp:=by
 refine ⟨len,λA outer s H args us vs Q hr hx e0 hb r hsp=>?_⟩
 have hl:=len _ _ _ _ hsp
 have KX:K.In s.heap:=e0.mod.kin.keeps λb o e=>(e0.bs b o e).1
 have lim:s.heap.NoLimit:=e0.mod.nolimit.keeps λb o e=>(e0.bs b o e).1
 have hkind:∀y∈ps.zip us,scope.names.lookup y.1=some .local\/(scope.names.lookup y.1=some .cell/\((cellsFrom (s.heap.objs.size+1) scope.names []).lookup y.1).isSome=true):=λ⟨n,v⟩ hy=>by
  rcases S.par n (List.of_mem_zip hy).1 with q | q
  ·exact .inl q
  ·exact .inr ⟨q,PySem.W.cellsFrom_some _ _ _ (.inl q)⟩
 have e1:Env0 P w K mg base (Qd1 A) outer s H:=⟨e0.frames,e0.mod,e0.bs,e0.bsz,e0.funs,e0.frf,e0.hok,e0.bare⟩
 refine codeAny_call_function (show A.depth<recursionLimit from hr.depth) (KX _ _ lk) rfl S.co S.gen rfl (PySem.W.codeRec_of KX hcd) (hb _ _ _ _ ?_)
 refine wpAny_newFunctionEnv_cells S.kind hkind λenv he s1 x=>?_
 subst he
 refine ⟨lim.keeps x.toInCall.keep,codeAny_func ?_⟩
 obtain ⟨t,ht,hq⟩:=hbody A outer s H vs Q (hr.deeper _) hx hsp
 have I0:Inv (cxOf CX0 P w K mg base N qual scope f cdv (Qd1 A) outer s H E0) [] (start N vs) H s1:=Qew S rfl e1 hl r x
 have ok0:=I0.ok
 have ok:(cxH P w K mg base N qual scope f cdv A outer s H).Ok:=⟨ok0.mod,ok0.kind,ok0.glob,ok0.blt,ok0.above,ok0.inj,ok0.has,ok0.cab,λz=>(Bool.noConfusion z),ok0.frames,ok0.stk,ok0.exf,ok0.bs,ok0.bsz,ok0.noex,ok0.exfs,ok0.funs,ok0.frf⟩
 have I:Inv (cxH P w K mg base N qual scope f cdv A outer s H) [] (start N vs) H s1:=⟨ok,I0.os,I0.bare,I0.base,I0.loc,I0.cell,I0.free,I0.freeC,I0.pin,I0.hok,I0.len⟩
 refine wpAny_mono (ht [] s1 (start N vs) H _ I hq) (λfl s' hs=>?_) λe s' hs=>False.elim hs
 have fin:∀{σ':St} {H':Hp} {v:V} {u:Value},Inv (cxH P w K mg base N qual scope f cdv A outer s H) [] σ' H' s'->RelV v u->Q v H'->CE outer P w H s Q u s' :=
  λ{σ' H' v u} J rv q=>⟨v,H',J.os,J.bare,J.base,J.hok,rv,q⟩
 cases fl with
 | ret u =>
  obtain ⟨v,σ',H',J,rv,q⟩:=hs
  exact fin J rv q
 | next =>
  obtain ⟨σ',H',J,q⟩:=hs
  exact fin (v:=V.non) (u:=Value.none) J rfl q
 | brk =>
  obtain ⟨_,_,_,q⟩:=hs
  exact False.elim q
 | cont =>
  obtain ⟨_,_,_,q⟩:=hs
  exact False.elim q
theorem Qm7 {X:Cx} {k:Nat} {f:Addr} {fd:FuncData} {ps:List Str} {sp:Sp} {x:Str} {p pos:Pos} {e₀:Expr} {es:List Expr} {ta:TA} (F:FnOkH X.prog X.w X.K X.mg X.base k f fd ps sp) (hr:Room k (Qd1 X.A)) (hg:Gl X x) (hm:X.mg x=some (.ref f)) (hk:PySem.W.keepIn X.K (.ref f)=true) (hb:Gw X.K fd ps [])
  (ha:PA X (e₀::es) ta) (hdb:(x == ("__debug__" : Str))=false:=by decide)
  (he:starEach (e₀::es) X.env=(false,eval e₀ X.env)::starEach es X.env:=by rfl) (hpl:(backTo pos (starEach es X.env)).any (·.1)=false:=by rfl) :
  PE X (.Call (.Name x p) (e₀::es) [] pos) (λσ H Q=>ta σ H λvs H1=>HnH X.A H1/\sp vs H1 Q E0):=by
 intro pins s σ H Q I h
 refine wpAny_Call_Name_kw (Uc I hg hm ?_ hdb)
 refine PySem.W.callWith_K (K:=X.K) (h₀:=X.base) I.ok.mod.kin hk (thn (ha pos pins s σ H _ I h) λus s1 ⟨vs,H1,I1,r,hx,q⟩=>?_) he hpl
 have hl:(us++[]).length=ps.length:=by rw [List.append_nil,← r.length];exact F.len _ _ _ _ q
 have hbb:=hb s1 us I1.kIn hl
 rw [List.append_nil] at hbb
 refine ⟨I1.kIn,wpAny_call (codeAny_mono (F.run X.A X.stack s1 H1 ⟨us,[]⟩ us vs Q hr hx I1.env0 hbb r q) λr s' hq=>?_)⟩
 cases r with
 | error e=>exact False.elim hq
 | ok fl =>
  cases fl with
  | ret u=>exact I1.after hq
  | next=>exact False.elim hq
  | brk=>exact False.elim hq
  | cont=>exact False.elim hq
end L2
namespace PV
open PySem PySem.Spec L2
open PyProof.Rows (envOfC)
def Fld (H:Hp) (dx:Option Addr) (fs:List (Str × Int)):Prop:=fs=[]\/∃d od,dx=some d/\H d=some (.frz od (.xd (fs.map λp=>(p.1,V.int p.2))))
def spXD (K:PySem.W.Frag) (g:GX):Sp:=λvs H Q E=>∃(ds:List D) (F:List Addr) (k kx:D->Prop),Reps K H ds vs F/\g ds k kx/\(∀v H' d F',Fin K H H' d v F'->k d->Q v H')/\∀x C dx fs H',atN K x C->Same H H'->Fld H' dx fs->kx (.obj x fs)->E (.ref C) dx H'
def Qd8 (X:Cx) (T:Tg) (x:Str) (C:Addr) (attr:Str):Prop:=∀pins σ H s e d od t i,Inv X pins σ H s->s.heap.get? e=some (Gs C t (some d))->H e=none->X.s₀.heap.get? e=none->H d=some (.frz od (.xd [(attr,.int i)]))->T.xe (.obj x [(attr,i)]) σ H->X.xe (.ref e) s
def Qmf (X:Cx) (T:Tg):Prop:=∀pins σ H s e s',Inv X pins σ H s->CXD X.prog X.w X.base X.stack H s (λc dx H'=>∃C,c=.ref C/\∃x fs,atN X.K x C/\Fld H' dx fs/\T.xe (.obj x fs) σ H') e s'->X.xe e s'
def Qn7 (P:Program) (w:World) (K:PySem.W.Frag) (mg:Str->Option Value) (base:Heap) (x attr:Str) (k:Nat):Prop:=∃C f fd ps,mg x=some (.ref C)/\atN K x C/\PySem.W.keepIn K (.ref C)=true/\ExcC K C/\PySem.W.findIn K (.ref C) "__init__" = some (some (.ref f))/\PySem.W.typeIn K (.ref f)=some (.type "function") /\
 FnOk P w K mg base CX0 k f fd ps (L2.spI K C attr)/\Gw K fd ps []
def CalD (P:Program) (w:World) (K:PySem.W.Frag) (mg:Str->Option Value) (base:Heap) (x:Str) (k:Nat) (ps:List Str) (sp:Sp):Prop :=
 ∃f fd,FnOk P w K mg base (CXD P w base) k f fd ps sp/\mg x=some (.ref f)/\PySem.W.keepIn K (.ref f)=true/\Gw K fd ps []
section
variable {X:Cx} {T:Tg} {m o o1 o2 o3:Bool} {e a b c e₀:Expr} {es:List Expr} {w wa wb wc:WE} {pos p2 p np cpos hpos px:Pos} {wr:WA} {x y attr:Str} {ws wh:WS}
def Qfl (x attr:Str) (wr:WA):WS:=λP ρ=>wr ρ λds ρ'=>match ds with
 | [.int i]=>P.xc (.obj x [(attr,i)]) ρ'
 | _=>False
theorem Qjz {k:Nat} (hI:Qn7 X.prog X.w X.K X.mg X.base x attr k) (hr:Room (k+1) X.A) (hX:∀C,atN X.K x C->Qd8 X T x C attr) (ha:AV X T m o (e₀::es) wr) (hg:Gl X x:=by rfl) (hc:X.calm=true:=by rfl)
  (hdb:(x == ("__debug__" : Str))=false:=by decide) (he:starEach (e₀::es) X.env=(false,eval e₀ X.env)::starEach es X.env:=by rfl) (hpl:(backTo cpos (starEach es X.env)).any (·.1)=false:=by rfl) :
  SV X T (.Raise (some (.Call (.Name x np) (e₀::es) [] cpos)) none pos) (Qfl x attr wr):=by
 obtain ⟨C,f,fd,ps,h1,h2,h3,h4,h5,h6,F,hb⟩:=hI
 obtain ⟨ta,pa,ga⟩:=ha
 refine ⟨_,Qj7 (Ξ:=λv d σ H=>∃i,v=.int i/\T.xe (.obj x [(attr,i)]) σ H) h1 h3 h4 h5 h6 F hr hb hg hc pa (λpins σ H s e d od t v I q1 q2 q3 q4 q5=>?_) hdb he hpl,λz R σ H W ρ P E s hw l=>?_⟩
 ·obtain ⟨i,rfl,q5⟩:=q5
  exact hX C h2 pins σ H s e d od t i I q1 q2 q3 q4 q5
 ·refine ga z R σ H W ρ _ _ s hw λvs H1 W1 ds ρ1 F p q=>?_
  split at q
  ·rename_i i
   cases p.rep with
   | cons r rs =>
    cases rs
    cases r
    exact ⟨_,rfl,λH2 d od sm hd=>⟨i,rfl,l.xc R σ H2 W1 ρ1 _ (p.sr.same sm) (p.fr.trans (FrW.same W1 sm)) q⟩⟩
  ·exact q.elim
theorem Qc6 {attr:Str} {n:Int}:∀{fs:List (Str × Int)},fs.lookup attr=some n->(fs.map λp=>(p.1,V.int p.2)).lookup attr=some (V.int n)
 | [],h=>by cases h
 | (a,b)::fs,h=>by
  simp only [List.map_cons,List.lookup] at h ⊢
  split
  ·rename_i z;rw [z] at h;cases h;rfl
  ·rename_i z;rw [z] at h;exact Qc6 h
def Qjn (i:Nat) (attr:Str) (has:Str->Bool):WE:=λρ Q=>oget (look ρ i) λd=>match d with
 | .obj x fs=>has x=true/\oget (fs.lookup attr) λn=>Q (.int n) ρ
 | _=>False
theorem Qnn {i:Nat} {v:Str} {has:Str->Bool} (ht:∀x C,has x=true->atN X.K x C->ExcC X.K C/\ExcQ X.K C/\PySem.W.findIn X.K (.ref C) attr=some none)
  (hN:X.N[i]? = some v:=by rfl) (hv:Vis X.env.scope v:=by first | exact Or.inl rfl | exact Or.inr (Or.inl rfl) | exact Or.inr (Or.inr rfl)) (hd:(v == ("__debug__" : Str))=false:=by decide) (hcd:(v == ("__classdict__" : Str))=false:=by decide)
  (hb:attributeBase (.Name v p2) attr X.env (eval (.Name v p2) X.env)=eval (.Name v p2) X.env:=by rfl):EV X T false true (.Attribute (.Name v p2) attr pos) (Qjn i attr has):=by
 refine ⟨_,Qm2 F.attrBase_ValueError (Ua hN hv hd hcd) hb,λz R σ H W ρ Q Q' s hw k=>?_⟩
 obtain ⟨d,hl,hq⟩:=Qq hw
 obtain ⟨fp,s0⟩:=id s
 obtain ⟨u,h1,h2⟩:=s0.at_ i d hl
 generalize fp i=Fi at h2
 match d,h2,hq with
 | .obj x fs,h2,hq =>
  obtain ⟨hs,hq⟩:=hq
  obtain ⟨n,hn,hq⟩:=Qq hq
  cases h2 with
  | @obj a1 _ ob φ _ e1 hc hf =>
   obtain ⟨C,hc,hnm⟩:=hc
   obtain ⟨t1,t2,t3⟩:=ht x C hs hnm
   rcases hf with rfl | ⟨dx,od,vs,g1,g2,g3⟩
   ·cases hn
   ·refine ⟨_,h1,a1,C,ob,φ,dx,od,_,.int n,rfl,e1,hc,g1,⟨vs,g2⟩,g3,t1,t2,t3,?_,k (.int n) H W (.int n) ρ [] (Post.flat s (FrW.refl H W) (λ_=>⟨Same.refl H,rfl,rfl⟩) (.int n)) hq⟩
    exact Qc6 hn
def SVsJ (X:Cx) (T:Tg) (st:List Stmt) (w:WS):Prop :=
 ∃ts,PSs X st ts/\∀(z:Nat->V) (R:Addr->Prop) (σ:St) (H:Hp) (W:Addr->Prop) (ρ:Env) (P:EndsP) (E:Ends),SR X.K T z R H W σ ρ->HnH X.A H->w P ρ->Lk X.K T z H W P E->ts E σ H
def SVJ (X:Cx) (T:Tg) (st:Stmt) (w:WS):Prop :=
 ∃ts,PS X st ts/\∀(z:Nat->V) (R:Addr->Prop) (σ:St) (H:Hp) (W:Addr->Prop) (ρ:Env) (P:EndsP) (E:Ends),SR X.K T z R H W σ ρ->HnH X.A H->w P ρ->Lk X.K T z H W P E->ts E σ H
def EVJ (X:Cx) (T:Tg) (e:Expr) (w:WE):Prop :=
 ∃te,PE X e te/\∀(z:Nat->V) (R:Addr->Prop) (σ:St) (H:Hp) (W:Addr->Prop) (ρ:Env) (Q:D->Env->Prop) (Q':VK),SR X.K T z R H W σ ρ->HnH X.A H->w ρ Q ->
  (∀v H' W' d ρ' F,Post X.K T z R false true H W σ ρ H' W' ρ' d v F->Q d ρ'->Q' v H')->te σ H Q'
def Qo8 (g:GX) (wr:WA) (cat:Str->Bool) (j:Nat) (wh:WS):WS:=λP ρ=>wr ρ λds ρ'=>g ds (λd=>d=.non/\P.nx ρ') λd=>match d with
 | .obj x fs=>cat x=true/\wh (P.un j) (ρ'.set j (some (.obj x fs)))
 | _=>False
theorem Qpg {j k:Nat} {f cx n:Str} {ps:List Str} {g:GX} {cat:Str->Bool} {C0:Addr} {b₀:Stmt} {suite bd:List Stmt} {j0 pos' cp} (C:CalD X.prog X.w X.K X.mg X.base f k ps (spXD X.K g)) (hr:Room k X.A) (hp:X.Plain) (ha:AV X.nox T false o (e₀::es) wr) (hcx:X.mg cx=some (.ref C0))
  (hcat:∀x C,cat x=true->atN X.K x C->PySem.W.exmOne X.K (.ref C) (.ref C0)=some true) (hh:∀ea,SVsJ (X.han ea) T (b₀::suite) wh) (hN:X.N.Nodup)
  (hj:X.N[j]? = some n:=by rfl) (hjo:j∉T.io:=by decide) (hg:Gl X f:=by rfl) (hgc:Gl X cx:=by rfl)
  (hl:X.env.kindOf n=some .local:=by rfl) (hlo:X.env.scope.names.lookup n=some .local:=by rfl) (hdb:(f == ("__debug__" : Str))=false:=by decide) (hdc:(cx == ("__debug__" : Str))=false:=by decide)
  (he:starEach (e₀::es) X.env=(false,eval e₀ X.env)::starEach es X.env:=by rfl) (hpl:(backTo cpos (starEach es X.env)).any (·.1)=false:=by rfl) :
  SV X T (.Try [.If (.Compare (.Call (.Name f p) (e₀::es) [] cpos) [.IsNot] [.Constant .none j0 pos'] cp) bd [] p2] [.ExceptHandler (some (.Name cx np)) (some n) (b₀::suite) hpos] [] [] pos) (Qo8 g wr cat j wh):=by
 obtain ⟨fa,fd,F,h1,h2,h3⟩:=C
 obtain ⟨ta,pa,ga⟩:=ha
 have ph:∀ea,PSs (X.han ea) (b₀::suite) (λE σ H=>∃(z:Nat->V) (R:Addr->Prop) (W:Addr->Prop) (ρ:Env) (P:EndsP),SR X.K T z R H W σ ρ/\HnH (X.han ea).A H/\wh P ρ/\Lk X.K T z H W P E):=λea=>by
  obtain ⟨t1,p1,g1⟩:=hh ea
  intro pins s σ H D I ⟨z,R,W,ρ,P,s0,hx,hw,l⟩
  exact p1 pins s σ H D I (g1 z R σ H W ρ P D s0 hx hw l)
 refine ⟨_,Qp0 (C0:=C0) hp (Qju F hr hg h1 h2 h3 pa hdb he hpl) hcx hgc hN hj hl hlo ph hdc,λz R σ H W ρ P E s hw l=>?_⟩
 refine ga z R σ H W ρ _ _ s hw λvs H1 W1 ds ρ1 Fp p q=>?_
 obtain ⟨sm0,hW,hρ⟩:=p.calm rfl
 refine ⟨ds,Fp,_,_,p.rep,q,λv H' d F' fi hk=>?_,λx C dx fs H' hn sm hfl hk=>?_⟩
 ·obtain ⟨rfl,hk⟩:=hk
  refine ⟨by cases fi.rep;rfl,?_⟩
  exact l.nx R _ H' _ _ (p.sr.same fi.same) (p.fr.trans (FrW.same W1 fi.same)) hk
 ·obtain ⟨hc1,hk⟩:=hk
  refine ⟨C,rfl,hcat x C hc1 hn,λea ob φ hcl hdx hne=>?_⟩
  obtain ⟨hdx,vs',hdt,hd2⟩:=hdx
  have smu:Same H' (upd H' ea (.frz ob (.ext φ))):=Qj hne
  obtain ⟨fp,s1⟩:=(p.sr.same sm).same smu
  have rep:Rep X.K (upd H' ea (.frz ob (.ext φ))) (.obj x fs) (.ref ea) []:=.obj Qh ⟨C,hcl,hn⟩ (hfl.imp id λ⟨d,od,e1,e2⟩=>⟨d,od,vs',hdx.trans e1,hdt,smu _ _ e2⟩)
  obtain ⟨R',s2⟩:=s1.bind (i:=j) hjo rep (by simp) (λa ha=>nomatch ha)
  have fr0:FrW H W (upd H' ea (.frz ob (.ext φ))) (λa=>W1 a\/(T.own j=true/\a∈([]:List Addr))):=Xj ((p.fr.trans (FrW.same W1 sm)).trans (FrW.same W1 smu)) λa h=>nomatch h.2
  have l2:=l.step fr0
  refine ⟨z,R',_,_,P.un j,s2,⟨ea,ob,φ,vs',rfl,Qh,hdt,hd2⟩,hk,λR σ' H' W' ρ' s' f' h=>?_,λR σ' H' W' ρ' s' f' h=>?_,λR σ' H' W' ρ' s' f' h=>?_,l2.rt,λR σ' H' W' ρ' d s' f' h=>h.elim⟩
  ·exact l2.nx R _ H' W' _ (s'.unset hjo) f' h
  ·exact l2.bk R _ H' W' _ (s'.unset hjo) f' h
  ·exact l2.ct R _ H' W' _ (s'.unset hjo) f' h
end
section
variable {P:Program} {w:World} {K:PySem.W.Frag} {mg:Str->Option Value} {base:Heap} {x qual:Str} {st:Stmt} {f:Addr} {fd:FuncData} {N ps:List Str} {k:Nat} {T:Tg} {ww:WS}
theorem Qu2 {g:GX} (F:Fun K x qual st f fd) (S:FnScope N ps (Qb st)) (hio:T.io=[]) (hown:∀i,i<ps.length->T.own i=false) (hg:∀ds kk kx,g ds kk kx->ds.length=ps.length)
  (hb:∀(cdv:Value) (A:Around) (outer:List PySem.Env) (s:Shared) (H:Hp) (E:XK) (XE:D->St->Hp->Prop),Room k (A.deeper (envOfC qual (Qb st) s.heap.objs.size f cdv)) ->
   (∀x C,atN K x C->Qd9 (cxOf (CXD P w base) P w K mg base N qual (Qb st) f cdv A outer s H E) ⟨T.own,T.io,XE⟩ x C)->(∀x attr C,atN K x C->Qd8 (cxOf (CXD P w base) P w K mg base N qual (Qb st) f cdv A outer s H E) ⟨T.own,T.io,XE⟩ x C attr)->Qmf (cxOf (CXD P w base) P w K mg base N qual (Qb st) f cdv A outer s H E) ⟨T.own,T.io,XE⟩->SVs (cxOf (CXD P w base) P w K mg base N qual (Qb st) f cdv A outer s H E) ⟨T.own,T.io,XE⟩ (Qn st) ww)
  (hr:∀ds kk kx,g ds kk kx->ww { nx:=λ_=>kk .non,rt:=λd _=>kk d,xc:=λd _=>kx d } (env0 N ds)):FnOk P w K mg base (CXD P w base) (k+1) f fd ps (spXD K g):=by
 obtain ⟨oc,od,kV,doc,pm,an,cdv,ct,osl,rfl,lk,hcd⟩:=F.ex
 refine Qq1 lk hcd S (λvs H Q E h=>?_) λA outer s H vs Q E hroom h=>?_
 ·obtain ⟨ds,Fp,kk,kx,rep,hgk,_⟩:=h
  rw [rep.length];exact hg ds kk kx hgk
 ·obtain ⟨ds,Fp,kk,kx,rep,hgk,q,qx⟩:=h
  obtain ⟨ts,pts,gts⟩:=hb cdv A outer s H E (λd _ H'=>∀x C fs dx,atN K x C->d=.obj x fs->Fld H' dx fs->E (.ref C) dx H') hroom (λx C hn pins σ H1 s1 h1 e vs I hx hT=>by
   obtain ⟨t,ht,_,_⟩:=hx.there
   have hn1:H1 e=none:=by
    cases q:H1 e with
    | none=>rfl
    | some o =>
     obtain ⟨o1,e1⟩:=(I.hok e o q).there
     rw [hx.new] at e1
     cases e1
   refine Qbz (X:=cxOf (CXD P w base) P w K mg base N qual (Qb st) f cdv A outer s H E) ⟨rfl,rfl,rfl⟩ (I.kept (t':=s1.toks) hx.keeps) ht hn1 ?_ λh' B fl da=>⟨e,C,t,none,B,H1,rfl,fl,da,hT x C [] none hn rfl (.inl rfl)⟩
   cases q:s.heap.get? e with
   | none=>exact q
   | some o =>
    obtain ⟨o1,e1⟩:=I.base.there e o q (by show e∉[];simp)
    rw [hx.new] at e1
    cases e1) (λx attr C hn pins σ H1 s1 e d od t i I he hn1 h0 hd hT =>
   Qbz (X:=cxOf (CXD P w base) P w K mg base N qual (Qb st) f cdv A outer s H E) ⟨rfl,rfl,rfl⟩ I he hn1 h0 λh' B fl da=>⟨e,C,t,some d,B,H1,rfl,fl,da,hT x C _ (some d) hn rfl (.inr ⟨d,od,rfl,hd⟩)⟩) (λpins σ H1 s1 e s' I z=>by
   obtain ⟨ea,C,t,dx,B,H',rfl,fl,da,C',eC,y,fs,hn,hfl,hT⟩:=z
   cases eC
   exact Qkn (X:=cxOf (CXD P w base) P w K mg base N qual (Qb st) f cdv A outer s H E) ⟨rfl,rfl,rfl⟩ I fl da λh' fl' da'=>⟨ea,C,t,dx,B,H',rfl,fl',da',hT y C fs dx hn rfl hfl⟩)
  have hl:=rep.length
  have hds:=hg ds kk kx hgk
  refine ⟨ts,pts,gts (λ_=>.non) (Any H) (L2.start N vs) H (λ_=>False) (env0 N ds) _ _ (SR.readonly hio ?_ λi d hli=>?_) (hr ds kk kx hgk) ⟨?_,?_,?_,?_,?_⟩⟩
  ·unfold env0 L2.start;simp [hl]
  ·unfold env0 at hli
   rw [Y5] at hli
   obtain ⟨v,B,h1,h2,_⟩:=rep.get hli
   exact ⟨hown i (by rw [← hds];exact (List.getElem?_eq_some_iff.mp hli).1),v,B,Zl h1,h2⟩
  ·intro R' σ' H' W' ρ' s' fr hk
   have sm:Same H H':=λb o e=>fr.keep b o e (λz=>z)
   exact q .non H' .non [] ⟨sm,.non,List.nodup_nil,λ_ m=>nomatch m⟩ hk
  ·exact λR' σ' H' W' ρ' s' fr hk=>hk.elim
  ·exact λR' σ' H' W' ρ' s' fr hk=>hk.elim
  ·intro R' v σ' H' W' ρ' d F' s' fr r nd nw hk
   have sm:Same H H':=λb o e=>fr.keep b o e (λz=>z)
   exact q v H' d F' ⟨sm,r,nd,λa ha=>(nw a ha).2.resolve_left id⟩ hk
  ·intro R' σ' H' W' ρ' d s' fr hk x C fs dx hn e hfl
   subst e
   exact qx x C dx fs H' hn (λb o e=>fr.keep b o e (λz=>z)) hfl hk
end
end PV
namespace PV
open PySem PySem.Spec L2
def Qto (s:Stmt):Stmt:=match s with
 | .ClassDef _ _ _ b _ _ _ _ _ _ _=>b.getD 0 (.Pass ⟨0,0,0,0⟩)
 | _=>.Pass ⟨0,0,0,0⟩
section
variable {K:PySem.W.Frag} {mg:Str->Option Value}
theorem Qq5 {C TE N:Addr} {nm q:Str} {bs:List Value} {sn:List Str} {sub:List Value} {ab:Bool} {col:Option Bool} {dd dd' od2:Option Addr} {k0 k1 k2 k3 k5:Option Value} {c0 oc2:Value} {cd:ClassData} {sl sl2:Array (Option Value)} {es2:Array DictEntry} {ep2:Nat}
  (l1:K.lookup C=some (excClassObj nm q C N bs (.ref TE::mroV) true sn sub ab col dd k0 k1 k2 k3 k5 "ValueError.__new__")) (l2:K.lookup TE=some ⟨c0,dd',.cls cd,sl⟩)
  (n2:K.lookup cd.ns=some ⟨oc2,od2,.dict es2 ep2,sl2⟩) (s2:Vg es2=true) (i2:nsFind es2 "__init__" = none) (sa:PySem.W.findIn K (.ref C) "__setattr__" = some (some (.builtin "object.__setattr__"))):ExcC K C :=
 ⟨⟨nm,q,N,bs,_,sn,sub,ab,col,dd,k0,k1,k2,k3,k5,rfl,λh X=>⟨X _ _ l1,.own (X _ _ l2) (Qqn X n2 s2) i2 .base⟩⟩,sa⟩
end
end PV
namespace L2
open PySem PySem.Spec PyProof.Rows
section
variable {X:Cx} {pos:Pos}
theorem Ql2 (hc:X.calm=true):Z5 X (.builtin "min") (λxs H Q=>∃(a:Addr) (ns:List Int),xs=[.ref a]/\SqL X.K H a (ns.map V.int)/\0<ns.length/\∀M,M∈ns->(∀b,b∈ns->M<=b)->Q (.int M) H):=by
 intro pins s σ H xs us Q I r h
 obtain ⟨a,ns,rfl,hq,hn,q⟩:=h
 obtain ⟨u,rfl,ru⟩:=Qae r
 cases ru
 obtain ⟨its,rv,pd,hz⟩:=I.list hq
 have il:s.heap.IsList a its.toArray:=pd.isList
 have hi:IntsAre its ns:=Qi8 rv
 obtain ⟨ys,e⟩:=hi.allInts.items
 have hns:ns=ys.toList.map (·.1):=by rw [← hi.numsOf,← nums_intItems,← e]
 have hsz:0<ys.size:=by rw [hns,List.length_map,Array.length_toList] at hn;exact hn
 rw [e] at il
 refine min_intList (I.ok.hd hc) il hsz λv h' tk hv hk=>?_
 obtain ⟨t,rfl⟩:=intItems_at hv
 obtain ⟨h1,h2⟩:=argBest_lt (numAt ys) (ys.size-1)
 refine ⟨.int _,H,I.kept hk,⟨t,rfl⟩,q _ ?_ λb hb=>?_⟩
 ·rw [hns,numAt_eq];exact getD_mem (by rw [List.length_map,Array.length_toList];omega)
 ·rw [hns] at hb
  obtain ⟨j,hj,rfl⟩:=mem_getD hb
  rw [List.length_map,Array.length_toList] at hj
  rw [← numAt_eq];exact h2 j (by omega)
theorem Qm5:PE X (.Dict [] [] pos) (λ_ H Q=>∀a o,H a=none->Q (.ref a) (upd H a (.frz o (.dK [])))):=λpins s σ H Q I h =>
 wpAny_Dict_empty ⟨.ref s.heap.objs.size,_,I.laid (a:=s.heap.objs.size) (o:=.frz _ (.dK [])) (t':=s.toks) (λ_ _ q=>Heap.get?_push_of_some _ q) (Nat.le_refl _) ⟨Heap.get?_push_size _ rfl,Qib s.heap I.big⟩,rfl,h _ _ (I.hok.fresh (Nat.le_refl _))⟩
end
end L2
namespace PV
open PySem PySem.Spec L2
section
variable {X:Cx} {T:Tg} {pos:Pos}
def Qnv:GA
 | [.lst ds],k=>∃ns:List Int,ds=ns.map .int/\0<ns.length/\∀M,M∈ns->(∀b,b∈ns->M<=b)->k (.int M)
 | _,_=>False
theorem Qlz (hc:X.calm=true):Qeb X (.builtin "min") Qnv:=by
 refine ⟨_,Ql2 hc,λH ds xs F k Q r g q=>?_⟩
 cases ds with
 | nil=>exact (show False from g).elim
 | cons d ds =>
  cases ds with
  | cons _ _=>cases d <;> exact (show False from g).elim
  | nil =>
   cases d with
   | lst es =>
    obtain ⟨ns,rfl,hn,g⟩:=g
    obtain ⟨v,rfl,rd⟩:=r.at1
    clear r
    cases rd with
    | lst e r9 =>
    obtain ⟨rfl,rfl⟩:=r9.of_ints
    exact ⟨_,ns,rfl,.inl (.of e),hn,λM h1 h2=>q _ _ _ _ (.flat (.int _)) (g M h1 h2)⟩
   | _=>exact (show False from g).elim
theorem Qhm {ds:List D} {k:D->Prop}:Qnv [.lst ds] k=(∃ns:List Int,ds=ns.map .int/\0<ns.length/\∀M,M∈ns->(∀b,b∈ns->M<=b)->k (.int M)):=rfl
theorem Qnp:EV X T false true (.Dict [] [] pos) (wC (.fdk [])) :=
 ⟨_,Qm5,λz R σ H W ρ Q Q' s hw k a o ha=>k _ _ W (.fdk []) ρ [] (Post.fin s (FrW.refl H W) (λ_=>⟨Same.refl H,rfl,rfl⟩) (Qj ha) (.fdk Qh .nil) (by simp) (λb m=>nomatch m)) hw⟩
def Qfo (g:GI) (wr:WA):WE:=λρ Q=>wr ρ λds ρ1=>match ds with
 | [d1,d0]=>d1.pure=true/\V1 d0=true/\g [d1,d0] λd _=>Q d ρ1
 | _=>False
theorem Qlg {g:GI} {x:Str} {k:Nat} {ps:List Str} {e:Expr} {es:List Expr} {wr:WA} {p pos:Pos} (C:Cal X.prog X.w X.K X.mg X.base x k ps (spI X.K 1 g)) (hr:Room k X.A) (ha:AV X T false true (e::es) wr) (hg:Gl X x:=by rfl)
  (hdb:(x == ("__debug__" : Str))=false:=by decide) (he:starEach (e::es) X.env=(false,eval e X.env)::starEach es X.env:=by rfl) (hpl:(backTo pos (starEach es X.env)).any (·.1)=false:=by rfl) :
  EV X T false true (.Call (.Name x p) (e::es) [] pos) (Qfo g wr):=by
 obtain ⟨f,fd,F,hm,hk,hb⟩:=C
 obtain ⟨ta,pa,ga⟩:=ha
 refine ⟨_,Qgj F hr hg hm hk hb .nil Qqe pa hdb he hpl,λz R σ H W ρ Q Q' s hw k=>?_⟩
 refine ga z R σ H W ρ _ _ s hw λvs H1 W1 ds ρ1 F p q=>?_
 obtain ⟨sm,rfl,rfl⟩:=p.calm rfl
 obtain ⟨nd,own⟩:=p.own rfl
 have rp:=p.rep
 match ds,rp,q with
 | [d1,d0],rp,q =>
  obtain ⟨hp,hf,q⟩:=q
  cases rp with
  | @cons _ v1 _ vs F1 G r1 rr =>
   cases rr with
   | @cons _ v0 _ vs F0 G r0 rr =>
    cases rr
    obtain ⟨a,rfl,hF⟩:=r0.flat1 hf
    obtain ⟨hE,r1⟩:=r1.pure hp
    subst hF hE
    refine ⟨[d1,d0],a,_,.cons (F:=[]) (G:=[a]) r1 (.cons (F:=[a]) (G:=[]) r0 .nil),rfl,q,λv H' d d' F' rd' rd nd new kp hk=>?_⟩
    have ha:H a=none:=(own a (by simp)).1
    have same:Same H H':=λb ob eb=>kp b ob (sm b ob eb) λz=>by rw [z,ha] at eb;cases eb
    refine k v H' W1 d ρ1 F' (Post.fin s (FrW.refl H W1) (λ_=>⟨Same.refl H,rfl,rfl⟩) same rd nd λb hb=>?_) hk
    cases hq:H b with
    | none=>rfl
    | some ob=>have:=sm b ob hq;rw [new b hb] at this;cases this
end
end PV
namespace PV
open PySem PySem.Spec L2
open PyProof.Rows (envOfC)
def CalH (P:Program) (w:World) (K:PySem.W.Frag) (mg:Str->Option Value) (base:Heap) (x:Str) (k:Nat) (ps:List Str) (sp:Sp):Prop :=
 ∃f fd,FnOkH P w K mg base k f fd ps sp/\mg x=some (.ref f)/\PySem.W.keepIn K (.ref f)=true/\Gw K fd ps []
theorem HnH.same {A:Around} {H H':Hp} (h:HnH A H) (sm:Same H H'):HnH A H':=by
 obtain ⟨x,o,φ,vs,h1,h2,h3⟩:=h
 exact ⟨x,o,φ,vs,h1,sm _ _ h2,h3⟩
theorem Qua {X:Cx} {j k:Nat} (r:Room k X.A) (h:j<=k) (ea:Addr):Room j (Qd1 (X.han ea).A) :=
 let r:=r.mono h
 ⟨rfl,r.dp,r.un⟩
section
variable {X:Cx} {T:Tg} {m o:Bool} {e:Expr} {es:List Expr} {w:WE} {pos p pos':Pos} {wr:WA} {x:Str} {ws wt:WS} {k:Nat} {ps:List Str}
theorem Qnm {g:GA} (C:CalH X.prog X.w X.K X.mg X.base x k ps (spR X.K g)) (hr:Room k (Qd1 X.A)) (ha:AV X T false o (e::es) wr) (hg:Gl X x:=by rfl)
  (hdb:(x == ("__debug__" : Str))=false:=by decide) (he:starEach (e::es) X.env=(false,eval e X.env)::starEach es X.env:=by rfl) (hpl:(backTo pos (starEach es X.env)).any (·.1)=false:=by rfl) :
  EVJ X T (.Call (.Name x p) (e::es) [] pos) (Qr g wr):=by
 obtain ⟨f,fd,F,h1,h2,h3⟩:=C
 obtain ⟨ta,pa,ga⟩:=ha
 refine ⟨_,Qm7 F hr hg h1 h2 h3 pa hdb he hpl,λz R σ H W ρ Q Q' s hx hw k=>?_⟩
 refine ga z R σ H W ρ _ _ s hw λvs H1 W1 ds ρ1 F p q=>?_
 exact ⟨HnH.same hx (p.calm rfl).1,ds,F,_,p.rep,q,λv H' d F' fi hk=>k v H' W1 d ρ1 F' (Post.fin p.sr p.fr p.calm fi.same fi.rep fi.nd fi.new) hk⟩
theorem Qnl {x1} (h:EVJ X T e w) (hs:starEach [e] X.env=(false,eval e X.env)::starEach [] X.env:=by rfl):EVJ X T (.Tuple [e] x1 pos) (wTup (Qc w wNil)):=by
 obtain ⟨te,pe,ge⟩:=h
 refine ⟨_,Qke (Js pe Ub hs),λz R σ H W ρ Q Q' s hx hw k=>?_⟩
 refine ge z R σ H W ρ _ _ s hx hw λv H1 W1 d ρ1 F p q=>?_
 obtain ⟨hz,q⟩:=q
 refine ⟨hz,λa ha=>?_⟩
 have rs:Reps X.K H1 [d] [v] (F++[]):=.cons p.rep .nil
 rw [List.append_nil] at rs
 exact k _ _ W1 (.tup [d]) ρ1 F ⟨p.sr.same (Qj ha),p.fr.trans (FrW.same W1 (Qj ha)),λh=>⟨(p.calm h).1.trans (Qj ha),(p.calm h).2⟩,.tup Qh (rs.same (Qj ha)),p.own⟩ q
theorem Qpf {i:Nat} (he:EVJ X T e w) (hN:X.N.Nodup) (hi:X.N[i]? = some x:=by rfl) (hio:i∉T.io:=by decide) (hx:Loc X.env.scope x:=by first | exact Or.inl rfl | exact Or.inr rfl) (hs:swapsWith e (some (.Name x pos')) pos.line X.env=pure false:=by rfl)
  (hf:X.fn x=true\/X.env.scope.names.lookup x=some .local:=by first | exact .inl rfl | exact .inr rfl | assumption):SVJ X T (.Assign [.Name x pos'] e pos) (wSet i w):=by
 obtain ⟨te,pe,ge⟩:=he
 refine ⟨_,Qok hN hi hx pe hs hf,λz R σ H W ρ P E s hj hw l=>ge z R σ H W ρ _ _ s hj hw λv H1 W1 d ρ1 F p q=>?_⟩
 obtain ⟨fp,s1⟩:=p.sr
 obtain ⟨nd,nw⟩:=p.own rfl
 obtain ⟨R',s2⟩:=s1.bind (i:=i) hio p.rep nd (λa ha=>⟨(nw a ha).2,s.nr (nw a ha).1⟩)
 exact l.nx R' _ H1 _ _ s2 (Xj p.fr λa h=>(nw a h.2).1) q
theorem Qjx {st:Stmt} {r:List Stmt} (h:SVJ X T st ws) (hr:SVs X T r wt):SVsJ X T (st::r) (wSeq ws wt):=by
 obtain ⟨t1,p1,g1⟩:=h
 obtain ⟨t2,p2,g2⟩:=hr
 refine ⟨_,Qdl p1 p2,λz R σ H W ρ P E s hj hw l=>g1 z R σ H W ρ _ _ s hj hw ⟨?_,l.bk,l.ct,l.rt,l.xc⟩⟩
 exact λR' σ' H' W' ρ' s' f' h=>g2 z R' σ' H' W' ρ' P E s' h (l.step f')
theorem Qqw {kt:Nat} {n:Nat} {wgs:List D->Env->(Env->Prop)->Prop} (hc:Qea X) (h:GVs X T es wgs) (hn:(assignEach es X.env).length=n:=by rfl) (hst:(assignEach es X.env).findIdx? (·.1)=none:=by rfl):GV X T (.Tuple es kt pos) (Gr n wgs):=by
 obtain ⟨t,pt,g⟩:=h
 refine ⟨_,Qp9 hc pt hn hst,λz R σ H W ρ d v Q Q' s r hp hw k=>?_⟩
 cases d with
 | tup ds =>
  cases r with
  | @tup a xs _ _ e1 r=>exact ⟨a,xs,rfl,.of e1,by rw [r.length];exact hw.1,g z R σ H W ρ ds xs Q Q' s r (by simpa [D.pure] using hp) hw.2 k⟩
 | _=>exact hw.elim
def Qmj (w:WE):WL:=λρ Q=>w ρ λd ρ'=>match d with
 | .lst ds=>Q ds ρ'
 | _=>False
theorem Qpi {tg iter:Expr} {body:List Stmt} {wg:WG} (hc:Qea X) (hp:PassesOwn (model X.prog X.w) X.A X.env X.xe) (hi:EV X T m true iter w) (hg:GV X T tg wg) (hb:SVs X T body ws)
  (hs:∀x,foldedSetIterable iter X.env x=pure x:=by intro _;rfl):SV X T (.For tg iter body [] pos) (wFor (Qmj w) wg ws):=by
 obtain ⟨te,pe,ge⟩:=hi
 obtain ⟨tt,pt,gt⟩:=hg
 obtain ⟨tb,pb,gb⟩:=hb
 refine ⟨_,Qp2 hp hc pe pt pb hs,λz R σ H W ρ P E s hw l=>?_⟩
 refine ge z R σ H W ρ _ _ s hw λv H1 W1 d ρ1 F p q=>?_
 cases d with
 | lst ds =>
  obtain ⟨p1,p2,p3,p4,p5⟩:=p
  cases p4 with
  | @lst a xs _ F e1 r =>
   have nW:∀b∈a::F,¬W1 b:=λb hb=>((p5 rfl).2 b hb).2
   have jd:∀(i:Nat) (H2:Hp) (W2:Addr->Prop),FrW H1 W1 H2 W2->(ds.length<=i->(Itl X.K a).stop i H2)/\∀d,ds[i]? = some d->(Itl X.K a).go i H2/\∀v H3,(Itl X.K a).yld i H2 v H3->Same H2 H3/\∃B,Rep X.K H3 d v B:=λi H2 W2 f=>by
    have e2:H2 a=some (.lst xs):=f.keep _ _ e1 (nW a List.mem_cons_self)
    refine ⟨λhi=>⟨xs,.of e2,by rw [r.length];exact hi⟩,λd hd=>?_⟩
    obtain ⟨x,B,hx,rx,sx⟩:=r.get hd
    refine ⟨⟨xs,x,.of e2,hx⟩,λv H3 y=>?_⟩
    obtain ⟨rfl,y⟩:=y
    have:=y xs (.of e2)
    rw [hx] at this
    cases this
    exact ⟨Same.refl _,B,rx.keep f λb hb=>nW b (List.mem_cons_of_mem _ (sx.subset hb))⟩
   refine ⟨a,rfl,⟨xs,.of e1⟩,?_⟩
   obtain ⟨hpu,I,h0,hI,hd⟩:=q
   refine ⟨λi n σ' H'=>n=ds.length-i/\i<=ds.length/\∃R' W' ρ',SR X.K T z R' H' W' σ' ρ'/\FrW H1 W1 H' W'/\I i ρ',⟨ds.length,by simp,Nat.zero_le _,R,W1,ρ1,p1,FrW.refl _ _,h0⟩,?_⟩
   rintro i n σ2 H2 ⟨rfl,hi,R2,W2,ρ2,s2,f2,i2⟩
   obtain ⟨j1,j2⟩:=jd i H2 W2 f2
   by_cases hlt:i<ds.length
   ·have hdi:ds[i]? = some ds[i]:=List.getElem?_eq_getElem hlt
    obtain ⟨hgo,hy⟩:=j2 _ hdi
    have hpd:(ds[i]).pure=true:=Q5.mp hpu _ (List.getElem_mem hlt)
    refine .inr ⟨hgo,λσ' H'=>i+1<=ds.length/\∃R' W' ρ',SR X.K T z R' H' W' σ' ρ'/\FrW H1 W1 H' W'/\I (i+1) ρ',λσ' H' ⟨h1,h2⟩=>⟨ds.length-(i+1),by omega,rfl,h1,h2⟩,λv H3 yl=>?_⟩
    obtain ⟨sm,F,rv⟩:=hy v H3 yl
    obtain ⟨-,rv⟩:=rv.pure hpd
    have f3:FrW H1 W1 H3 W2:=f2.trans (FrW.same W2 sm)
    refine gt z R2 σ2 H3 W2 ρ2 _ v _ _ (s2.same sm) rv hpd (hI i _ ρ2 hdi i2) λR4 W4 σ4 ρ4 s4 f4 q4=>?_
    refine gb z R4 σ4 H3 W4 ρ4 _ _ s4 q4 ⟨?_,?_,?_,?_,?_⟩
    ·exact λR' σ' H' W' ρ' s' f' h=>⟨hlt,R',W',ρ',s',(f3.trans f4).trans f',h⟩
    ·exact λR' σ' H' W' ρ' s' f' h=>l.nx R' σ' H' W' ρ' s' (((p2.trans f3).trans f4).trans f') h
    ·exact λR' σ' H' W' ρ' s' f' h=>⟨hlt,R',W',ρ',s',(f3.trans f4).trans f',h⟩
    ·exact (((l.step p2).step f3).step f4).rt
    ·exact (((l.step p2).step f3).step f4).xc
   ·have e:i=ds.length:=by omega
    subst e
    exact .inl ⟨j1 (Nat.le_refl _),l.nx R2 σ2 H2 W2 ρ2 s2 (p2.trans f2) (hd ρ2 i2)⟩
 | _=>exact (show False from q).elim
end
section
variable {P:Program} {w:World} {K:PySem.W.Frag} {mg:Str->Option Value} {base:Heap} {x qual:Str} {st:Stmt} {f:Addr} {fd:FuncData} {N ps:List Str} {k:Nat} {T:Tg} {ww:WS}
theorem Qtf {g:GA} (F:Fun K x qual st f fd) (S:FnScope N ps (Qb st)) (hio:T.io=[]) (hown:∀i,i<ps.length->T.own i=false) (hg:∀ds kk,g ds kk->ds.length=ps.length)
  (hb:∀(cdv:Value) (A:Around) (outer:List PySem.Env) (s:Shared) (H:Hp),Room k ((Qd1 A).deeper (envOfC qual (Qb st) s.heap.objs.size f cdv))->Qea (cxH P w K mg base N qual (Qb st) f cdv A outer s H)->SVs (cxH P w K mg base N qual (Qb st) f cdv A outer s H) T (Qn st) ww)
  (hr:∀ds kk,g ds kk->ww { nx:=λ_=>kk .non,rt:=λd _=>kk d } (env0 N ds)):FnOkH P w K mg base (k+1) f fd ps (spR K g):=by
 obtain ⟨oc,od,kV,doc,pm,an,cdv,ct,osl,rfl,lk,hcd⟩:=F.ex
 refine Qtg lk hcd S (λvs H Q E h=>?_) (λA outer s H vs Q hroom hx h=>?_)
 ·obtain ⟨ds,Fp,kk,rep,hgk,_⟩:=h
  rw [rep.length];exact hg ds kk hgk
 ·obtain ⟨ds,Fp,kk,rep,hgk,q⟩:=h
  obtain ⟨ts,pts,gts⟩:=hb cdv A outer s H hroom hx
  have hl:=rep.length
  have hds:=hg ds kk hgk
  refine ⟨ts,pts,gts (λ_=>.non) (Any H) (L2.start N vs) H (λ_=>False) (env0 N ds) _ _ (SR.readonly hio ?_ λi d hli=>?_) (hr ds kk hgk) ⟨?_,?_,?_,?_,λ_ _ _ _ _ _ _ _ hk=>hk.elim⟩⟩
  ·unfold env0 L2.start;simp [hl]
  ·unfold env0 at hli
   rw [Y5] at hli
   obtain ⟨v,B,h1,h2,_⟩:=rep.get hli
   exact ⟨hown i (by rw [← hds];exact (List.getElem?_eq_some_iff.mp hli).1),v,B,Zl h1,h2⟩
  ·intro R' σ' H' W' ρ' s' fr hk
   have sm:Same H H':=λb o e=>fr.keep b o e (λz=>z)
   exact q .non H' .non [] ⟨sm,.non,List.nodup_nil,λ_ m=>nomatch m⟩ hk
  ·exact λR' σ' H' W' ρ' s' fr hk=>hk.elim
  ·exact λR' σ' H' W' ρ' s' fr hk=>hk.elim
  ·intro R' v σ' H' W' ρ' d F' s' fr r nd nw hk
   have sm:Same H H':=λb o e=>fr.keep b o e (λz=>z)
   exact q v H' d F' ⟨sm,r,nd,λa ha=>(nw a ha).2.resolve_left id⟩ hk
end
end PV
namespace L2
open PySem PySem.Spec PyProof.Rows
end L2
namespace K01
open PySem PySem.Spec L2 PV
open PyProof.Rows (envOfC)
def top (i:Nat):Stmt:=PySem.Challenge.pw_tanglehouse_k01_what_is_a_web.main.body.getD i (.Pass ⟨0,0,0,0⟩)
def tbF (x:Str):Option Bool:=if x=(Str.ofString "NoWeb") then some false else if x=(Str.ofString "Odd") then some false else none
theorem Qaw {x:Str} {k:Bool} (h:tbF x=some k):(x=(Str.ofString "NoWeb")/\k=false)\/(x=(Str.ofString "Odd")/\k=false):=by
 unfold tbF at h
 split at h
 ·rename_i h1;exact .inl ⟨h1,by cases h;rfl⟩
 split at h
 ·rename_i h1;exact .inr (⟨h1,by cases h;rfl⟩)
 ·cases h
theorem Qjv {k:Bool} {x:Str} (h:tbF x=some k):k=false:=by
 rcases Qaw h with h | h <;> exact h.2
def Ve (x:Str):Option Bool:=if x=(Str.ofString "NoWeb") then some true else if x=(Str.ofString "Odd") then some false else none
theorem Qir {x:Str} {k:Bool} (h:Ve x=some k):(x=(Str.ofString "NoWeb")/\k=true)\/(x=(Str.ofString "Odd")/\k=false):=by
 unfold Ve at h
 split at h
 ·rename_i h1;exact .inl ⟨h1,by cases h;rfl⟩
 split at h
 ·rename_i h1;exact .inr (⟨h1,by cases h;rfl⟩)
 ·cases h
def Qav (x:Str):Option Bool:=if x=(Str.ofString "NoWeb") then some false else if x=(Str.ofString "Odd") then some true else none
theorem Qmm {x:Str} {k:Bool} (h:Qav x=some k):(x=(Str.ofString "NoWeb")/\k=false)\/(x=(Str.ofString "Odd")/\k=true):=by
 unfold Qav at h
 split at h
 ·rename_i h1;exact .inl ⟨h1,by cases h;rfl⟩
 split at h
 ·rename_i h1;exact .inr (⟨h1,by cases h;rfl⟩)
 ·cases h
def Ju (x:Str):Option Bool:=if x=(Str.ofString "NoWeb") then some true else if x=(Str.ofString "Odd") then some true else none
theorem Qau {x:Str} {k:Bool} (h:Ju x=some k):(x=(Str.ofString "NoWeb")/\k=true)\/(x=(Str.ofString "Odd")/\k=true):=by
 unfold Ju at h
 split at h
 ·rename_i h1;exact .inl ⟨h1,by cases h;rfl⟩
 split at h
 ·rename_i h1;exact .inr (⟨h1,by cases h;rfl⟩)
 ·cases h
def isR (x:Str):Bool:=decide (x=(Str.ofString "NoWeb")) || decide (x=(Str.ofString "Odd"))
theorem Qux {x:Str} (h:isR x=true):x=(Str.ofString "NoWeb")\/x=(Str.ofString "Odd"):=by
 simpa [isR] using h
def Qh1 (x:Str):Bool:=decide (x=(Str.ofString "Odd"))
abbrev Zn:Stmt:=Qto (top 3)
structure Bn (K:PySem.W.Frag) (mg:Str->Option Value):Prop where
 nb_all:mg "all" = none
 nb_bool:mg "bool" = none
 nb_enumerate:mg "enumerate" = none
 nb_int:mg "int" = none
 nb_isinstance:mg "isinstance" = none
 nb_len:mg "len" = none
 nb_list:mg "list" = none
 nb_min:mg "min" = none
 nb_range:mg "range" = none
 nb_tuple:mg "tuple" = none
 c_RIM:∃t:Tok,mg "RIM" = some (.int (-1) t)
 e_NoWeb:∃C,ExcK K mg "NoWeb" C/\atN K "NoWeb" C
 h_TangleError:∃C0,mg "TangleError" = some (.ref C0)/\∀x C,isR x=true->atN K x C->PySem.W.exmOne K (.ref C) (.ref C0)=some true
 i_NoWeb:∃C,mg "NoWeb" = some (.ref C)/\∀x k R,Ve x=some k->atN K x R->ExcQ K R/\PySem.W.kitOne K (.ref R) (.ref C)=some k
 i_Odd:∃C,mg "Odd" = some (.ref C)/\∀x k R,Qav x=some k->atN K x R->ExcQ K R/\PySem.W.kitOne K (.ref R) (.ref C)=some k
 i_NoText:∃C,mg "NoText" = some (.ref C)/\∀x k R,tbF x=some k->atN K x R->ExcQ K R/\PySem.W.kitOne K (.ref R) (.ref C)=some k
 i_NotFlat:∃C,mg "NotFlat" = some (.ref C)/\∀x k R,tbF x=some k->atN K x R->ExcQ K R/\PySem.W.kitOne K (.ref R) (.ref C)=some k
 i_TooMany:∃C,mg "TooMany" = some (.ref C)/\∀x k R,tbF x=some k->atN K x R->ExcQ K R/\PySem.W.kitOne K (.ref R) (.ref C)=some k
 i_TooWide:∃C,mg "TooWide" = some (.ref C)/\∀x k R,tbF x=some k->atN K x R->ExcQ K R/\PySem.W.kitOne K (.ref R) (.ref C)=some k
 i_NoStep:∃C,mg "NoStep" = some (.ref C)/\∀x k R,tbF x=some k->atN K x R->ExcQ K R/\PySem.W.kitOne K (.ref R) (.ref C)=some k
 i_NoTurning:∃C,mg "NoTurning" = some (.ref C)/\∀x k R,tbF x=some k->atN K x R->ExcQ K R/\PySem.W.kitOne K (.ref R) (.ref C)=some k
 i_BadPace:∃C,mg "BadPace" = some (.ref C)/\∀x k R,tbF x=some k->atN K x R->ExcQ K R/\PySem.W.kitOne K (.ref R) (.ref C)=some k
 i_NoMatch:∃C,mg "NoMatch" = some (.ref C)/\∀x k R,tbF x=some k->atN K x R->ExcQ K R/\PySem.W.kitOne K (.ref R) (.ref C)=some k
 i_NoName:∃C,mg "NoName" = some (.ref C)/\∀x k R,tbF x=some k->atN K x R->ExcQ K R/\PySem.W.kitOne K (.ref R) (.ref C)=some k
 i_NoRow:∃C,mg "NoRow" = some (.ref C)/\∀x k R,tbF x=some k->atN K x R->ExcQ K R/\PySem.W.kitOne K (.ref R) (.ref C)=some k
 i_ValueError:mg "ValueError" = none/\∀x k R,Ju x=some k->atN K x R->ExcQ K R/\PySem.W.kitOne K (.ref R) (.type "ValueError")=some k
 a_arc:∀x C,Qh1 x=true->atN K x C->ExcC K C/\ExcQ K C/\PySem.W.findIn K (.ref C) "arc" = some none
def Qm:GI:=λds k=>∃c n b,ds=[rowD c n,.int b]/\0<b/\b<115792089237316195423570985008687907853269984665640564039457584007913129639936/\0<=n/\n<=1000000/\∀c' r,0<=r->r<b->k (.int r) (rowD c' (n+1))
abbrev Jz:Stmt:=top 26
theorem Zy:FnScope ["_law_row","_law_base","_law_rest","_law_number"] ["_law_row","_law_base"] (Qb Jz):=⟨rfl,rfl,rfl,by decide +kernel,rfl,by decide +kernel,by decide +kernel⟩
def Qay:Tg:={ own:=λi=>i == 0 || i == 2 || i == 3,io:=[0] }
def Qak:WS:=(wSeq (Y0 0 (wBin Yb (wBin dIx (wVar 0) (wC (.int 1))) (wC (.int 1))) (wC (.int 1)))
 (wSeq (wIf (wBl (wBin (dCmp λi j=>decide (j<i)) (wBin dIx (wVar 0) (wC (.int 0))) (wBin dPow (wC (.int 10)) (wC (.int 18))))) (wSeq (wSet 2 (wBin dSub (wBin dIx (wVar 0) (wC (.int 0))) (wBin dPow (wC (.int 10)) (wC (.int 18)))))
 (wSeq (Y0 0 (wBin Yb (wBin dPow (wC (.int 10)) (wC (.int 18))) (wBin Qe4 (wVar 2) (wVar 1))) (wC (.int 0)))
 (wRet (wBin dMod (wVar 2) (wVar 1))))) Jn)
 (wSeq (wSet 3 (wBin dMod (wBin Yb (wBin Yb (wBin dMul (wBin dIx (wVar 0) (wC (.int 0))) (wC (.int 48271))) (wBin dMul (wBin dMul (wC (.int 7919)) (wBin dIx (wVar 0) (wC (.int 1)))) (wBin dIx (wVar 0) (wC (.int 1))))) (wC (.int 11))) (wC (.int 2147483629))))
 (wSeq (wSet 3 (wBin dMod (wBin Yb (wBin Yb (wBin dMul (wVar 3) (wVar 3)) (wBin dMul (wC (.int 69621)) (wBin dIx (wVar 0) (wC (.int 1))))) (wC (.int 7))) (wC (.int 2147483587))))
 (wRet (wBin dMod (wBin Qe4 (wVar 3) (wC (.int 5))) (wVar 1)))))))
theorem Qg8 {P:Program} {w:World} {K:PySem.W.Frag} {mg:Str->Option Value} {base:Heap} {f:Addr} (B:Bn K mg):∀(cdv:Value) (A:Around) (outer:List PySem.Env) (s:Shared) (H:Hp) (E:XK),Room 0 (A.deeper (envOfC "_law_take" (Qb Jz) s.heap.objs.size f cdv))->SVs (cxOf CX0 P w K mg base ["_law_row","_law_base","_law_rest","_law_number"] "_law_take" (Qb Jz) f cdv A outer s H E).nox Qay (Qn Jz) Qak:=λcdv A outer s H E hr =>
  (Qi (Ui (i:=0) (Qw hr) (Qx Q3 (Q4 (Q1 (Qw hr)) (Qd 0) Qe) Qe) Qe)
  (Qi (Vf (Ys Qkk (Q4 (Q1 (Qw hr)) (Qd 0) Qe) (Qx Qc0 Qe Qe)) (Qi (Jp (i:=2) (Qx Qho (Q4 (Q1 (Qw hr)) (Qd 0) Qe) (Qx Qc0 Qe Qe)) Zy.nd)
  (Qi (Ui (i:=0) (Qw hr) (Qx Q3 (Qx Qc0 Qe Qe) (Qx Xv (Qd 2) (Qd 1))) Qe)
  (Qo (Jk (Qx Qby (Qd 2) (Qd 1)))))) Jw)
  (Qi (Jp (i:=3) (Qx Qby (Qx Q3 (Qx Q3 (Qx Zg (Q4 (Q1 (Qw hr)) (Qd 0) Qe) Qe) (Qx Zg (Qx Zg Qe (Q4 (Q1 (Qw hr)) (Qd 0) Qe)) (Q4 (Q1 (Qw hr)) (Qd 0) Qe))) Qe) Qe) Zy.nd)
  (Qi (Jp (i:=3) (Qx Qby (Qx Q3 (Qx Q3 (Qx Zg (Qd 3) (Qd 3)) (Qx Zg Qe (Q4 (Q1 (Qw hr)) (Qd 0) Qe))) Qe) Qe) Zy.nd)
  (Qo (Jk (Qx Qby (Qx Xv (Qd 3) Qe) (Qd 1))))))))
theorem Qem {P:Program} {w:World} {K:PySem.W.Frag} {mg:Str->Option Value} {base:Heap} {f:Addr} {fd:FuncData} (F:Fun K "_law_take" "_law_take" Jz f fd) (B:Bn K mg):FnOk P w K mg base CX0 1 f fd ["_law_row","_law_base"] (spI K 0 Qm):=by
 refine Qk4 (T:=Qay) F Zy rfl rfl (λds kk h=>?_) (Qg8 B) (λds kk h=>?_)
 ·obtain ⟨c,n,b,rfl,_⟩:=h
  exact ⟨rfl,_,rfl,rfl⟩
 ·obtain ⟨c,n,b,rfl,hb,hb2,hn,hn2,k⟩:=h
  have hn1:-18446744073709551616<n+1:=by omega
  have hn2':n+1<18446744073709551616:=by omega
  simp only [Qak,wSeq,Y0,wBin,env0,rowD,List.map_cons,List.map_nil,List.length_cons,List.length_nil,Nat.zero_add,Nat.reduceAdd,List.replicate,List.cons_append,List.nil_append,wC,wIf,wSet,wRet,Q8,Int.reduceLE,Int.reduceNeg,Int.reduceLT,G8,Int.reduceToNat,Int.reducePow,Jn,r_bl,look,Option.isSome_some,List.set_cons_zero,List.set_cons_succ,Ql,true_and,Ux,Nat.lt_add_one,Qes,List.length_set,Nat.zero_lt_succ,Qet,Jl,Yj,Zt,Uq,List.getElem?_cons_zero,Qg,Bool.and_true,Qcd,hb,V6,hb2,Zo,Y1,D.pure,Bool.true_and,List.getElem?_cons_succ,X6,Zc,Q9,Zf,hn1,hn2']
  split
  ·exact k _ _ (Int.emod_nonneg _ (by omega)) (Int.emod_lt_of_pos _ hb)
  ·have hx:-18446744073709551616<(c*48271+7919*(n+1)*(n+1)+11) % 2147483629/\(c*48271+7919*(n+1)*(n+1)+11) % 2147483629<18446744073709551616:=by omega
   generalize (c*48271+7919*(n+1)*(n+1)+11) % 2147483629=x at hx
   simp only [Int.reduceNeg,hx.1,hx.2,Zf,Y1,Int.reduceLT,V6,Zo,hb]
   exact k _ _ (Int.emod_nonneg _ (by omega)) (Int.emod_lt_of_pos _ hb)
def arcF (r l p:Int):D->D
 | .int i=>.int ((r+i*l) % p)
 | d=>d
def Vc:GI:=λds k=>∃(c n:Int) (q:Nat),ds=[rowD c n,.int q]/\q<=100/\0<=n/\n<=999990/\∀(c':Int) (xs:List Int),xs.length=q->xs.Nodup->(∀x∈xs,0<=x/\x<1000000000)->k (.lst (xs.map .int)) (rowD c' (n+3))
abbrev Jq:Stmt:=top 27
theorem Zz:FnScope ["_law_row","_law_many","_law_prime","_law_leap","_law_offset"] ["_law_row","_law_many"] (Qb Jq):=⟨rfl,rfl,rfl,by decide +kernel,rfl,by decide +kernel,by decide +kernel⟩
def Qaz:Tg:={ own:=λi=>i == 0 || i == 2 || i == 3 || i == 4,io:=[0] }
def Qal:WS:=(wSeq (wSet 2 (wBin dIx (wLst (Qc (wC (.int 101)) (Qc (wC (.int 10007)) (Qc (wC (.int 999999937)) wNil)))) (Q6 0 Qm (J7 0 (Qc (wC (.int 3)) wNil)))))
 (wSeq (wSet 3 (wBin Yb (wC (.int 1)) (Q6 0 Qm (J7 0 (Qc (wBin dSub (wVar 2) (wC (.int 1))) wNil)))))
 (wSeq (wSet 4 (Q6 0 Qm (J7 0 (Qc (wVar 2) wNil))))
 (wRet (Qdd (Qmi (Qc (wVar 1) wNil)) wAll (wBin dMod (wBin Yb (wVar 2) (wBin dMul (wVar 0) (wVar 1))) (wVar 3)) [3,4,2])))))
theorem Qg9 {P:Program} {w:World} {K:PySem.W.Frag} {mg:Str->Option Value} {base:Heap} {f:Addr} (B:Bn K mg) (C__law_take:Cal P w K mg base "_law_take" 1 ["_law_row","_law_base"] (spI K 0 Qm)):∀(cdv:Value) (A:Around) (outer:List PySem.Env) (s:Shared) (H:Hp) (E:XK),Room 1 (A.deeper (envOfC "_law_arcs" (Qb Jq) s.heap.objs.size f cdv))->SVs (cxOf CX0 P w K mg base ["_law_row","_law_many","_law_prime","_law_leap","_law_offset"] "_law_arcs" (Qb Jq) f cdv A outer s H E).nox Qaz (Qn Jq) Qal:=λcdv A outer s H E hr =>
  (Qi (Jp (i:=2) (Q4 (Q1 (Qw hr)) (Z2 (Qa Qe (Qa Qe (Qa Qe Qf)))) (Qy C__law_take (hr.mono (by decide)) (Jo (i:=0) (Qa Qe Qf)))) Zz.nd)
  (Qi (Jp (i:=3) (Qx Q3 Qe (Qy C__law_take (hr.mono (by decide)) (Jo (i:=0) (Qa (Qx Qho (Qd 2) Qe) Qf)))) Zz.nd)
  (Qi (Jp (i:=4) (Qy C__law_take (hr.mono (by decide)) (Jo (i:=0) (Qa (Qd 2) Qf))) Zz.nd)
  (Qo (Jk (Qdv (Qb8 [3,4,2] (Qeu B.nb_range (Qa (Qd 1) Qf)) (λ_ _ _ _ _=>Qid) (λ_ _ _ _ _=>(Qx Qby (Qx Q3 (Qd 2) (Qx Zg (Qd 0) (Qd 1))) (Qd 3)))) (Vq (Qb Jq) ["_law_row","_law_many","_law_prime","_law_leap","_law_offset"] (by decide +kernel))))))))
theorem Qen {P:Program} {w:World} {K:PySem.W.Frag} {mg:Str->Option Value} {base:Heap} {f:Addr} {fd:FuncData} (F:Fun K "_law_arcs" "_law_arcs" Jq f fd) (B:Bn K mg) (C1:Cal P w K mg base "_law_take" 1 ["_law_row","_law_base"] (spI K 0 Qm)):FnOk P w K mg base CX0 2 f fd ["_law_row","_law_many"] (spI K 0 Vc):=by
 refine Qk4 (T:=Qaz) F Zz rfl rfl (λds kk h=>?_) (Qg9 B C1) (λds kk h=>?_)
 ·obtain ⟨c,n,q,rfl,_⟩:=h
  exact ⟨rfl,_,rfl,rfl⟩
 ·obtain ⟨c,n,q,rfl,hq,hn,hn2,k⟩:=h
  simp only [Qal,wSeq,wSet,wBin,wLst,Qc,wC,wNil,List.length_cons,List.length_nil,Nat.zero_add,Nat.reduceAdd,Q6,J7,env0,rowD,List.map_cons,List.map_nil,List.replicate,List.cons_append,List.nil_append,look,Option.isSome_some,Qg,D.pure,Bool.and_self,List.set_cons_zero,List.set_cons_succ,Bool.and_true,wRet,Z9,G7,Q8,Ql,Vj,Int.reducePow,Int.reduceNeg,Int.toNat_natCast,true_and,Jl]
  refine ⟨by decide,c,n,3,rfl,by decide,by decide,hn,by omega,λc1 r1 h1 h2=>?_⟩
  obtain ⟨p,hat,hp⟩:∃p,L2.atI [D.int 101,D.int 10007,D.int 999999937] r1=some (.int p)/\isP p:=by
   rcases Qul (a:=D.int 101) (b:=.int 10007) (c:=.int 999999937) h1 h2 with e | e | e
   ·exact ⟨_,e,.inl rfl⟩
   ·exact ⟨_,e,.inr (.inl rfl)⟩
   ·exact ⟨_,e,.inr (.inr rfl)⟩
  have hpb:100<p/\p<1073741824:=by rcases hp with z | z | z <;> omega
  simp only [rowD,Jl,Qg,D.pure,Bool.and_self,Int.reduceNeg,true_and,Yj,hat,Ql,Qcd]
  refine ⟨c1,n+1,p-1,rfl,by omega,by omega,by omega,by omega,λc2 r2 h3 h4=>?_⟩
  simp only [rowD,Jl,Qg,D.pure,Bool.and_self,Int.reduceNeg,true_and,Y1]
  refine ⟨c2,n+1+1,p,rfl,by omega,by omega,by omega,by omega,λc3 r3 h5 h6=>?_⟩
  simp only [Int.reduceNeg,rowD]
  refine ⟨by omega,by omega,Xl (arcF r3 (1+r2) p) (by rw [Qa4];exact Nat.lt_of_le_of_lt (show _<=1000 by omega) (by decide)) (λd hd Q' hQ=>?_) ?_⟩
  ·obtain ⟨i,hi,rfl⟩:=Qhq hd
   have hi1:-18446744073709551616<0+(i:Int):=by omega
   have hi2:0+(i:Int)<18446744073709551616:=by omega
   have hp0:0<p:=by omega
   simp only [wBin,blkE,List.map_cons,look,List.map_nil,Q8,Ql,Int.reduceNeg,hi1,hi2,Zf,Y1,hp0,V6]
   exact hQ
  ·simp only [look,Ql,Jl,Qg,D.pure,Bool.and_self,true_and]
   have e:(rngD 0 q).map (arcF r3 (1+r2) p)=((List.range q).map λ(i:Nat)=>(r3+(i:Int)*(1+r2)) % p).map D.int:=by
    simp [rngD,arcF]
   rw [e]
   have:=k c3 ((List.range q).map λ(i:Nat)=>(r3+(i:Int)*(1+r2)) % p) (by simp) (Qjk hp (by omega) (by omega) (by omega)) (λx hx=>by
    obtain ⟨i,_,rfl⟩:=List.mem_map.mp hx
    refine ⟨Int.emod_nonneg _ (by omega),Int.lt_of_lt_of_le (Int.emod_lt_of_pos _ (by omega)) (by rcases hp with z | z | z <;> omega)⟩)
   simpa [rowD,Int.add_assoc] using this
def Ue:GI:=λds k=>∃(c n:Int) (m e:Nat),ds=[rowD c n,.int m,.int e]/\m<=40/\e<=12/\e % 2=0/\0<=n/\n<=900000 /\
 ∀(c' n':Int) (A:Nat->Int) (g:Nat->Nat) (r:Int),M.Tw (4*m+e) A g->(∀i,0<=A i/\A i<1000000000)->(r=0\/r=1\/r=2\/r=20)->n<=n'->n'<=n+1000->k (webD m e A r) (rowD c' n')
abbrev J5:Stmt:=top 28
theorem Zm:FnScope ["_law_row","_law_many","_law_ends","_law_arcs_here","_law_left","_law_arc","_law_crossings"] ["_law_row","_law_many","_law_ends"] (Qb J5):=⟨rfl,rfl,rfl,by decide +kernel,rfl,by decide +kernel,by decide +kernel⟩
def Qcu:Tg:={ own:=λi=>i == 0 || i == 3 || i == 4 || i == 5 || i == 6,io:=[0] }
def Qcn:WS:=(wSeq (wSet 3 (wBin dMul (wLst (Qc (wC (.int 0)) wNil)) (wBin Yb (wBin dMul (wC (.int 4)) (wVar 1)) (wVar 2))))
 (wSeq (wSet 4 (Qr Qlr (Qc (wBin Yb (wBin dMul (wC (.int 4)) (wVar 1)) (wVar 2)) wNil)))
 (wSeq (wFor (Qdc (Q6 0 Vc (J7 0 (Qc (wBin Yb (wBin dMul (wC (.int 2)) (wVar 1)) (wBin Qe4 (wVar 2) (wC (.int 2)))) wNil)))) (gN 5) (wSeq (Y0 3 (wVar 5) (wMt 4 "list" Qh3 (Qc (wC (.int 0)) wNil)))
 (Y0 3 (wVar 5) (wMt 4 "list" Qh3 (Qc (Q6 0 Qm (J7 0 (Qc (Qr dLen (Qc (wVar 4) wNil)) wNil))) wNil)))))
 (wSeq (wSet 6 (Qdd (Qmi (Qc (wVar 1) wNil)) wAll (Qr Qc7 (Qc (wSlT (wVar 1) (Vz (wBin dMul (wC (.int 4)) (wVar 0))) (Vz (wBin Yb (wBin dMul (wC (.int 4)) (wVar 0)) (wC (.int 4))))) wNil)) [3]))
 (wRet (wTup (Qc (Qr Qc7 (Qc (wVar 6) wNil)) (Qc (Qr Qc7 (Qc (wSlT (wVar 3) (Vz (wBin dMul (wC (.int 4)) (wVar 1))) Zh) wNil)) (Qc (wBin dIx (wLst (Qc (wC (.int 0)) (Qc (wC (.int 1)) (Qc (wC (.int 2)) (Qc (wC (.int 20)) wNil))))) (Q6 0 Qm (J7 0 (Qc (wC (.int 4)) wNil)))) wNil)))))))))
theorem Qjh {P:Program} {w:World} {K:PySem.W.Frag} {mg:Str->Option Value} {base:Heap} {f:Addr} (B:Bn K mg) (C__law_take:Cal P w K mg base "_law_take" 1 ["_law_row","_law_base"] (spI K 0 Qm)) (C__law_arcs:Cal P w K mg base "_law_arcs" 2 ["_law_row","_law_many"] (spI K 0 Vc)):∀(cdv:Value) (A:Around) (outer:List PySem.Env) (s:Shared) (H:Hp) (E:XK),Room 2 (A.deeper (envOfC "_law_web" (Qb J5) s.heap.objs.size f cdv))->SVs (cxOf CX0 P w K mg base ["_law_row","_law_many","_law_ends","_law_arcs_here","_law_left","_law_arc","_law_crossings"] "_law_web" (Qb J5) f cdv A outer s H E).nox Qcu (Qn J5) Qcn:=λcdv A outer s H E hr =>
  (Qi (Jp (i:=3) (Qx Zg (Z2 (Qa Qe Qf)) (Qx Q3 (Qx Zg Qe (Qd 1)) (Qd 2))) Zm.nd)
  (Qi (Jp (i:=4) (Qe0 B.nb_range B.nb_list (Qa (Qx Q3 (Qx Zg Qe (Qd 1)) (Qd 2)) Qf)) Zm.nd)
  (Qi (X2 PassesOwn.never (Qb1 (Qy C__law_arcs (hr.mono (by decide)) (Jo (i:=0) (Qa (Qx Q3 (Qx Zg Qe (Qd 1)) (Qx Xv (Qd 2) Qe)) Qf)))) (Yl (i:=5) Zm.nd) (Qi (Ui (i:=3) (Qw hr) (Qd 5) (Qq6 (i:=4) Qhr PySem.F.plainAttrs_list PySem.F.slot_list_pop PySem.F.type_list_pop (Qa Qe Qf)))
  (Qo (Ui (i:=3) (Qw hr) (Qd 5) (Qq6 (i:=4) Qhr PySem.F.plainAttrs_list PySem.F.slot_list_pop PySem.F.type_list_pop (Qa (Qy C__law_take (hr.mono (by decide)) (Jo (i:=0) (Qa (Jd Vx B.nb_len Vy (Qa (Qd 4) Qf)) Qf))) Qf))))))
  (Qi (Qhi (j:=6) (Qb8 [3] (Qeu B.nb_range (Qa (Qd 1) Qf)) (λ_ _ _ _ _=>Qid) (λ_ _ _ _ _=>(Y9 Qdz B.nb_tuple Uo (Qa (Z1 (Qd 1) (Yg (Qx Zg Qe (Qd 0))) (Yg (Qx Q3 (Qx Zg Qe (Qd 0)) Qe))) Qf)))) (Vq (Qb J5) ["_law_row","_law_many","_law_ends","_law_arcs_here","_law_left","_law_arc","_law_crossings"] (by decide +kernel)) Zm.nd)
  (Qo (Jk (Qs (Qa (Y9 Qdz B.nb_tuple Uo (Qa (Qd 6) Qf)) (Qa (Y9 Qdz B.nb_tuple Uo (Qa (Z1 (Qd 3) (Yg (Qx Zg Qe (Qd 1))) Ze) Qf)) (Qa (Q4 (Q1 (Qw hr)) (Z2 (Qa Qe (Qa Qe (Qa Qe (Qa Qe Qf))))) (Qy C__law_take (hr.mono (by decide)) (Jo (i:=0) (Qa Qe Qf)))) Qf))))))))))
theorem Qgo {P:Program} {w:World} {K:PySem.W.Frag} {mg:Str->Option Value} {base:Heap} {f:Addr} {fd:FuncData} (F:Fun K "_law_web" "_law_web" J5 f fd) (B:Bn K mg) (C1:Cal P w K mg base "_law_take" 1 ["_law_row","_law_base"] (spI K 0 Qm)) (C2:Cal P w K mg base "_law_arcs" 2 ["_law_row","_law_many"] (spI K 0 Vc)) :
  FnOk P w K mg base CX0 3 f fd ["_law_row","_law_many","_law_ends"] (spI K 0 Ue):=by
 refine Qk4 (T:=Qcu) F Zm rfl rfl (λds kk h=>?_) (Qjh B C1 C2) (λds kk h=>?_)
 ·obtain ⟨c,n,m,e,rfl,_⟩:=h
  exact ⟨rfl,_,rfl,rfl⟩
 ·obtain ⟨c,n,m,e,rfl,hm,he,he2,hn,hn2,k⟩:=h
  simp only [Qcn,wSeq,wSet,wBin,wLst,Qc,wC,wNil,List.length_cons,List.length_nil,Nat.zero_add,env0,rowD,List.map_cons,List.map_nil,Nat.reduceAdd,List.replicate,List.cons_append,List.nil_append,Qr,V7,U8,Q6,J7,Qg,Bool.and_true,Q8,look,List.set_cons_succ,List.set_cons_zero,Option.isSome_some,Ql,Jl,D.pure,Bool.and_self,true_and,Int.reduceLT,Zo,Int.reduceNeg,Zf,Y1,V5,X5,Int.reducePow]
  have hN:(4*(m:Int)+(e:Int)).toNat=4*m+e:=by omega
  have e1:(List.replicate (4*(m:Int)+(e:Int)).toNat [D.int 0]).flatten=(List.replicate (4*m+e) (0:Int)).map D.int:=by rw [hN];simp
  have e2:rngD 0 (4*(m:Int)+(e:Int)).toNat=(List.range (4*m+e)).map λ(i:Nat)=>D.int (i:Int):=by rw [hN];simp [rngD]
  have big:∀n:Nat,n<=1000->n<sizeLine:=λn h=>Nat.lt_of_le_of_lt h (by decide)
  rw [e1,e2]
  refine ⟨by decide,by omega,by omega,by rw [hN];exact Nat.le_of_lt (big _ (by omega)),by omega,by omega,c,n,2*m+e / 2,by simp [rowD],by omega,hn,by omega,λc1 xs hl nd hxs=>?_⟩
  simp only [rowD,G6]
  refine ⟨V9,λt ρ=>∃(c' n':Int) (L:List Nat) (Bs:List Int) (ps:List (Nat × Nat)) (o:Option D),ρ=[some (rowD c' n'),some (.int m),some (.int e),some (.lst (Bs.map D.int)),some (.lst (L.map λ(i:Nat)=>D.int (i:Int))),o,none]/\Pr (4*m+e) xs t L Bs ps/\L.length=4*m+e-2*t/\n'=n+3+t/\t<=xs.length/\∀b∈Bs,0<=b/\b<1000000000,
   ⟨c1,n+3,List.range (4*m+e),List.replicate (4*m+e) 0,[],none,rfl,Pr.start _ _,by simp,by simp,Nat.zero_le _,λb hb=>by rw [(List.mem_replicate.mp hb).2];decide⟩,?_,?_⟩
  ·rintro t d ρ hd ⟨c',n',L,Bs,ps,o,rfl,hp,hL,hn',ht,hB⟩
   obtain ⟨x,hx,rfl⟩:∃x,xs[t]? = some x/\d=.int x:=by
    rw [List.getElem?_map] at hd
    cases q:xs[t]? with
    | none=>rw [q] at hd;cases hd
    | some x=>rw [q] at hd;exact ⟨x,rfl,(Option.some.inj hd).symm⟩
   have htl:=(List.getElem?_eq_some_iff.mp hx).1
   cases L with
   | nil=>simp at hL;omega
   | cons i L =>
    simp only [List.length_cons] at hL
    have hi:=hp.lt (List.mem_cons_self (a:=i))
    have hbl:=hp.bl
    have hix:ixN Bs.length (i:Int)=some i:=Zp (by omega)
    simp only [gN,wSeq,Y0,rowD,List.map_cons,List.set_cons_succ,List.set_cons_zero,wMt,Qc,wC,wNil,Q6,J7,Qr,Qg,Bool.and_true,List.nil_append,Q8,look,Option.isSome_some,G4,BEq.rfl,Ql,Jl,D.pure,Bool.and_self,true_and,Vk,Int.reducePow,Int.reduceNeg,Int.reduceLE,Int.reduceLT,List.length_cons,List.length_map,Nat.zero_lt_succ,V4,Vu,List.getElem?_cons_zero,List.eraseIdx_cons_zero,Ux,hix]
    refine ⟨c',n',(L.length:Int),rfl,by omega,by omega,by omega,by omega,λc2 r h1 h2=>?_⟩
    obtain ⟨s,rfl⟩:=Int.eq_ofNat_of_zero_le h1
    have hs:s<L.length:=by omega
    have hj:=hp.lt (List.mem_cons_of_mem i (List.getElem_mem hs))
    have hsx:seqIndex? (s:Int) L.length=some s:=Qa1 hs
    have hjx:ixN Bs.length ((L[s]:Nat):Int)=some L[s]:=Zp (by omega)
    simp only [rowD,Vk,Int.reducePow,Int.reduceNeg,List.length_map,hsx,List.getElem?_map,Ql,List.getElem?_eq_getElem hs,Option.map_some,D.pure,Ux,List.length_set,hjx,true_and]
    refine ⟨by omega,by omega,c2,n'+1,L.eraseIdx s,(Bs.set i x).set L[s] x,ps++[(i,L[s])],some (.int x),?_,hp.step hx hs,?_,by omega,by omega,λb hb=>?_⟩
    ·simp [rowD,List.map_set,Qep]
    ·rw [List.length_eraseIdx_of_lt hs];omega
    ·rcases List.mem_or_eq_of_mem_set hb with hb | rfl
     ·rcases List.mem_or_eq_of_mem_set hb with hb | rfl
      ·exact hB b hb
      ·exact hxs _ (List.mem_of_getElem? hx)
     ·exact hxs _ (List.mem_of_getElem? hx)
  ·rintro ρ ⟨c',n',L,Bs,ps,o,rfl,hp,hL,hn',ht,hB⟩
   simp only [List.length_map] at hp hL hn' ht
   have hL0:L=[]:=List.length_eq_zero_iff.mp (by omega)
   subst hL0
   obtain ⟨g,tw⟩:=hp.tw nd
   have hbl:=hp.bl
   simp only [wSeq,wSet,rowD,wRet,wTup,Qc,Qr,wNil,wSlT,Zh,wBin,wLst,wC,List.length_cons,List.length_nil,Nat.zero_add,Nat.reduceAdd,Q6,J7,Qg,D.pure,Bool.and_self,List.nil_append,true_and,Z6,Q8,Z9,G7,look,Ql,Vj,Int.reducePow,Int.reduceNeg,Int.toNat_natCast]
   refine ⟨by omega,by omega,Xl (Qlu Bs) (by rw [Qa4];exact big _ (by omega)) (λd hd Q' hQ=>?_) ?_⟩
   ·obtain ⟨i,hi,rfl⟩:=Qhq hd
    have hb1:-18446744073709551616<0+(i:Int):=by omega
    have hb2:0+(i:Int)<18446744073709551616:=by omega
    have q1:4*(0+(i:Int))=((4*i:Nat):Int):=by omega
    have q2:((4*i:Nat):Int)+4=((4*i+4:Nat):Int):=by omega
    simp only [Qr,Qc,wSlT,blkE,List.map_nil,List.map_cons,look,wNil,Z6,wBin,wC,Q8,Ql,Int.reduceNeg,Int.reduceLT,Zf,Y1,Yt,Xa,G5]
    rw [q1,q2,Qrd (by omega) (by rw [List.length_map];omega),show 4*i+4-4*i=4 by omega,Uh (by omega)]
    refine ⟨V9,Qp λ_ _=>rfl,?_⟩
    rw [Qc8] at hQ
    exact hQ
   ·simp only [List.set_cons_succ,List.set_cons_zero,look,Option.isSome_some,Ql,Jl,Qg,D.pure,Bool.and_self,true_and,Int.reduceNeg,Int.reduceLT,Zf,Yt,Xa,G5]
    rw [Qjc,show (4*(m:Int))=((4*m:Nat):Int) by omega,Xk (by rw [List.length_map];omega)]
    have e3:(Bs.map D.int).drop (4*m)=(List.range e).map λj=>.int (Bs.getD (4*m+j) 0):=by
     rw [← Uh (by omega),List.take_of_length_le (by simp;omega)]
    rw [e3]
    refine ⟨Qp λ_ _=>by simp only [D.pure];exact Qp λ_ _=>rfl,V9,Qp λ_ _=>rfl,by decide,c',n',4,rfl,by decide,by decide,by omega,by omega,λc4 r4 h1 h2=>?_⟩
    obtain ⟨p,hat,hp4⟩:∃p,L2.atI [D.int 0,D.int 1,D.int 2,D.int 20] r4=some (.int p)/\(p=0\/p=1\/p=2\/p=20):=by
     rcases Quk (a:=D.int 0) (b:=.int 1) (c:=.int 2) (d:=.int 20) h1 h2 with q | q | q | q
     ·exact ⟨_,q,.inl rfl⟩
     ·exact ⟨_,q,.inr (.inl rfl)⟩
     ·exact ⟨_,q,.inr (.inr (.inl rfl))⟩
     ·exact ⟨_,q,.inr (.inr (.inr rfl))⟩
    simp only [rowD,Jl,Qg,D.pure,Bool.and_self,true_and,Yj,hat,Ql]
    exact ⟨by decide,k c4 (n'+1) (λi=>Bs.getD i 0) g p tw (λi=>Qnk (by decide) hB i) hp4 (by omega) (by omega)⟩
end K01
namespace K01
open PySem PySem.Spec L2 PV
open PyProof.Rows (envOfC)
theorem big {n:Nat} (h:n<=1000):n<sizeLine:=Nat.lt_of_le_of_lt h (by decide)
def crD (A:Nat->Int) (k:Nat):D:=.tup ((List.range 4).map λj=>.int (A (4*k+j)))
def Xh:GA:=λds k=>∃(m e:Nat) (A:Nat->Int) (r:Int),ds=[webD m e A r]/\m<=100/\e<=100/\k (.dik (encP (spD m) (M.plc A (4*m+e))))
abbrev Zk:Stmt:=top 22
theorem Y7:FnScope ["web","told","k","crossing","j","arc"] ["web"] (Qb Zk):=⟨rfl,rfl,rfl,by decide +kernel,rfl,by decide +kernel,by decide +kernel⟩
def Qhh:Tg:={ own:=λi=>i == 1 || i == 2 || i == 3 || i == 4 || i == 5,io:=[] }
def Qhd:WS:=(wSeq (wSet 1 (wC (.dik [])))
 (wSeq (wFor (Qjq (Qc (wBin dIx (wVar 0) (wC (.int 0))) wNil)) (Gr 2 (Yy (gN 2) (Yy (gN 3) Xi))) (wFor (Qjq (Qc (wVar 3) wNil)) (Gr 2 (Yy (gN 4) (Yy (gN 5) Xi))) (wSda 1 (wVar 5) (wTup (Qc (wVar 2) (Qc (wVar 4) wNil))))))
 (wSeq (wFor (Qjq (Qc (wBin dIx (wVar 0) (wC (.int 1))) wNil)) (Gr 2 (Yy (gN 4) (Yy (gN 5) Xi))) (wSda 1 (wVar 5) (wTup (Qc (wC (.int (-1))) (Qc (Q0 (wVar 4)) wNil)))))
 (Qcb 1))))
theorem Qn4 {P:Program} {w:World} {K:PySem.W.Frag} {mg:Str->Option Value} {base:Heap} {f:Addr} (B:Bn K mg):∀(cdv:Value) (A:Around) (outer:List PySem.Env) (s:Shared) (H:Hp) (E:XK),Room 0 (A.deeper (envOfC "places" (Qb Zk) s.heap.objs.size f cdv))->SVs (cxOf CX0 P w K mg base ["web","told","k","crossing","j","arc"] "places" (Qb Zk) f cdv A outer s H E).nox Qhh (Qn Zk) Qhd:=λcdv A outer s H E hr =>
  (Qi (Jp (i:=1) Qh5 Y7.nd)
  (Qi (X2 PassesOwn.never (Qgy B.nb_enumerate (Qa (Q4 (Q1 (Qw hr)) (Qd 0) Qe) Qf)) (Qh2 (Y6 (Yl (i:=2) Y7.nd) (Y6 (Yl (i:=3) Y7.nd) Qb3))) (Qo (X2 PassesOwn.never (Qgy B.nb_enumerate (Qa (Qd 3) Qf)) (Qh2 (Y6 (Yl (i:=4) Y7.nd) (Y6 (Yl (i:=5) Y7.nd) Qb3))) (Qo (Qof (i:=1) (Qd 5) (Qs (Qa (Qd 2) (Qa (Qd 4) Qf))))))))
  (Qi (X2 PassesOwn.never (Qgy B.nb_enumerate (Qa (Q4 (Q1 (Qw hr)) (Qd 0) Qe) Qf)) (Qh2 (Y6 (Yl (i:=4) Y7.nd) (Y6 (Yl (i:=5) Y7.nd) Qb3))) (Qo (Qof (i:=1) (Qd 5) (Qs (Qa (Qq7 B.c_RIM.choose_spec) (Qa (Qz (Qd 4)) Qf))))))
  (Qo (Qph (i:=1))))))
theorem Qka {m t:Nat} {A:Nat->Int} (ht:t<900) {P:EndsP} {ρ:PV.Env} {wk wv:WE} {a:Int} (ha:a=A t)
  (h1:look ρ 1=some (.dik (encP (spD m) (M.plc A t)))) (hk:∀Q,Q (.int a) ρ->wk ρ Q) (hv:∀d Q,Q (spD m t) (ρ.set 1 d)->wv (ρ.set 1 d) Q) (hn:P.nx (ρ.set 1 (some (.dik (encP (spD m) (M.plc A (t+1))))))):wSda 1 wk wv P ρ:=by
 obtain ⟨k1,k2,_⟩:=M.Qcy A t
 unfold wSda
 rw [h1]
 obtain ⟨l,hl,v1,v2⟩:=Qj0 (s:=spD m) (P:=M.plc A t) (a:=a) (i:=t) k1
 have hlen:l.length<=t:=by
  rcases hl with rfl | ⟨e,he,rfl⟩
  ·exact Nat.zero_le _
  ·exact Qmx A t e he
 refine ⟨?_,Qli k1,hk _ ?_⟩
 ·have:=Qbu A t
  unfold encP
  rw [List.length_map]
  exact big (by omega)
 ·show oget (valD (Zi (encP (spD m) (M.plc A t)) (.inl a)) (.inl a)) _
  rw [v1]
  refine ⟨by rw [List.length_map];exact big (by omega),hv _ _ ⟨Qpw,?_⟩⟩
  rw [v2,ha,← M.Xe]
  exact hn
theorem Qki {P:Program} {w:World} {K:PySem.W.Frag} {mg:Str->Option Value} {base:Heap} {f:Addr} {fd:FuncData} (F:Fun K "places" "places" Zk f fd) (B:Bn K mg):FnOk P w K mg base CX0 1 f fd ["web"] (spR K Xh):=by
 refine Qb4 (T:=Qhh) F Y7 rfl (by decide) (λds kk h=>?_) (Qn4 B) (λds kk h=>?_)
 ·obtain ⟨m,e,A,r,rfl,_⟩:=h
  rfl
 ·obtain ⟨m,e,A,r,rfl,hm,he,k⟩:=h
  simp only [Qhd,wSeq,wSet,wC,Int.reduceNeg,env0,webD,List.map_cons,List.map_nil,List.length_cons,List.length_nil,Nat.zero_add,Nat.reduceAdd,List.replicate,List.cons_append,List.nil_append,List.set_cons_succ,List.set_cons_zero,V7,U0,Qc,wBin,wNil,Q8,look,Ql,Z8,Zt,List.getElem?_cons_zero,Z4]
  have pc:Qg ((List.range m).map λk=>D.tup ((List.range 4).map λj=>.int (A (4*k+j))))=true:=Qp λ_ _=>by simp only [D.pure];exact Qp λ_ _=>rfl
  have pe:Qg ((List.range e).map λj=>D.int (A (4*m+j)))=true:=Qp λ_ _=>rfl
  refine ⟨pc,Xd pc,λk ρ=>∃o2 o3 o4 o5:Option D,ρ=[some (webD m e A r),some (.dik (encP (spD m) (M.plc A (4*k)))),o2,o3,o4,o5],⟨none,none,none,none,rfl⟩,?_,?_⟩
  ·rintro i d ρ hd ⟨o2,o3,o4,o5,rfl⟩
   rw [Ug] at hd
   have hi:i<m:=by
    cases q:((List.range m).map λk=>D.tup ((List.range 4).map λj=>.int (A (4*k+j))))[i]? with
    | none=>rw [q] at hd;cases hd
    | some z=>simpa using (List.getElem?_eq_some_iff.mp q).1
   rw [List.getElem?_map,List.getElem?_range hi] at hd
   have hd:=(Option.some.inj hd).symm
   subst hd
   have pi:Qg ((List.range 4).map λj=>D.int (A (4*i+j)))=true:=Qp λ_ _=>rfl
   simp only [Nat.zero_add,Int.reduceNeg,V7,U0,Qc,wNil,Q8,Uy,List.length_cons,List.length_nil,Nat.reduceAdd,Z3,gN,List.set_cons_succ,List.set_cons_zero,Uz,look,Ql,Z4,true_and]
   refine ⟨pi,Xd pi,λj ρ=>∃o4 o5:Option D,ρ=[some (webD m e A r),some (.dik (encP (spD m) (M.plc A (4*i+j)))),some (.int (i:Int)),some (crD A i),o4,o5],⟨o4,o5,by simp [crD]⟩,?_,?_⟩
   ·rintro j d ρ hd ⟨o4,o5,rfl⟩
    rw [Ug] at hd
    have hj:j<4:=by
     cases q:((List.range 4).map λj=>D.int (A (4*i+j)))[j]? with
     | none=>rw [q] at hd;cases hd
     | some z=>simpa using (List.getElem?_eq_some_iff.mp q).1
    rw [List.getElem?_map,List.getElem?_range hj] at hd
    have hd:=(Option.some.inj hd).symm
    subst hd
    simp only [Nat.zero_add,Uy,List.length_cons,List.length_nil,Nat.reduceAdd,Z3,gN,List.set_cons_succ,List.set_cons_zero,Uz,true_and]
    refine Qka (m:=m) (t:=4*i+j) (A:=A) (a:=A (4*i+j)) (by omega) rfl rfl (λQ hQ=>?_) (λd Q hQ=>?_) ?_
    ·simp only [Q8,look,Ql];exact hQ
    ·simp only [wTup,Qc,List.set_cons_succ,List.set_cons_zero,wNil,List.length_cons,List.length_nil,Nat.zero_add,Nat.reduceAdd,Q8,look,Ql]
     refine ⟨by decide,?_⟩
     simpa [spD,M.Qt9 hi hj] using hQ
    ·exact ⟨some (.int (j:Int)),some (.int (A (4*i+j))),by simp [Nat.add_assoc]⟩
   ·rintro ρ ⟨o4,o5,rfl⟩
    have hl:(Up 0 ((List.range 4).map λj=>D.int (A (4*i+j)))).length=4:=by rw [Za];simp
    exact ⟨some (.int (i:Int)),some (crD A i),o4,o5,by rw [hl,Nat.mul_add]⟩
  ·rintro ρ ⟨o2,o3,o4,o5,rfl⟩
   have hl:(Up 0 ((List.range m).map λk=>D.tup ((List.range 4).map λj=>.int (A (4*k+j))))).length=m:=by rw [Za];simp
   rw [hl]
   simp only [wSeq,Int.reduceNeg,webD,V7,U0,Qc,wBin,wC,wNil,Q8,look,Ql,Z8,Uq,List.getElem?_cons_succ,List.getElem?_cons_zero,Z4]
   refine ⟨pe,Xd pe,λj ρ=>∃o4 o5:Option D,ρ=[some (webD m e A r),some (.dik (encP (spD m) (M.plc A (4*m+j)))),o2,o3,o4,o5],⟨o4,o5,by simp [webD]⟩,?_,?_⟩
   ·rintro j d ρ hd ⟨o4,o5,rfl⟩
    rw [Ug] at hd
    have hj:j<e:=by
     cases q:((List.range e).map λj=>D.int (A (4*m+j)))[j]? with
     | none=>rw [q] at hd;cases hd
     | some z=>simpa using (List.getElem?_eq_some_iff.mp q).1
    rw [List.getElem?_map,List.getElem?_range hj] at hd
    have hd:=(Option.some.inj hd).symm
    subst hd
    simp only [Nat.zero_add,Int.reduceNeg,Uy,List.length_cons,List.length_nil,Nat.reduceAdd,Z3,gN,List.set_cons_succ,List.set_cons_zero,Uz,true_and]
    refine Qka (m:=m) (t:=4*m+j) (A:=A) (a:=A (4*m+j)) (by omega) rfl rfl (λQ hQ=>?_) (λd Q hQ=>?_) ?_
    ·simp only [Q8,look,Ql];exact hQ
    ·simp only [wTup,Qc,wC,Q0,List.set_cons_succ,List.set_cons_zero,wNil,Int.reduceNeg,List.length_cons,List.length_nil,Nat.zero_add,Nat.reduceAdd,Q8,look,Ql,D.pure,true_and]
     refine ⟨by decide,?_⟩
     simpa [spD,M.Qru] using hQ
    ·exact ⟨some (.int (j:Int)),some (.int (A (4*m+j))),by simp [Nat.add_assoc]⟩
   ·rintro ρ ⟨o4,o5,rfl⟩
    have hl:(Up 0 ((List.range e).map λj=>D.int (A (4*m+j)))).length=e:=by rw [Za];simp
    rw [hl]
    simp only [Qcb,look,Ql]
    exact k
end K01
namespace K01
open PySem PySem.Spec L2 PV
open PyProof.Rows (envOfC)
inductive El:D->Prop
 | int (i:Int):El (.int i)
 | bl (b:Bool):El (.bl b)
 | non:El .non
 | str (x:Str):El (.str x)
 | tup (xs:List D):El (.tup xs)
 | fls (xs:List D):El (.fls xs)
 | fdk (xs:List (Key × D)):El (.fdk xs)
def wh:D->Bool
 | .int _=>true
 | _=>false
def cnt:D->Bool
 | .int i=>decide (0<=i)
 | _=>false
def arcs:D->Bool
 | .tup xs=>xs.all cnt
 | _=>false
def cro:D->Bool
 | .tup xs=>xs.all cnt && decide (xs.length=4)
 | _=>false
def rows:D->Bool
 | .tup xs=>xs.all cro
 | _=>false
def isW:D->Bool
 | .tup [a,b,c]=>rows a && (arcs b && cnt c)
 | _=>false
def R1 (d:D):Prop:=El d/\∀xs,d=.tup xs->xs.length<=1000/\Qg xs=true/\∀x∈xs,El x
def R2 (d:D):Prop:=El d/\∀xs,d=.tup xs->xs.length<=1000/\Qg xs=true/\∀x∈xs,R1 x
def R3 (d:D):Prop:=El d/\d.pure=true/\∀a b c,d=.tup [a,b,c]->R2 a/\R1 b/\El c
def Vd:GA:=λds k=>∃d,ds=[d]/\El d/\k (.bl (wh d))
abbrev Yc:Stmt:=top 15
theorem Qfs:FnScope ["thing"] ["thing"] (Qb Yc):=⟨rfl,rfl,rfl,by decide +kernel,rfl,by decide +kernel,by decide +kernel⟩
def Qcr:Tg:={ own:=λi=>false,io:=[] }
def Qcl:WS:=(wRet (Qfq (Qr dIsi (Qc (wVar 0) (Qc (wC (.ty .int)) wNil))) (Qo9 (Qr dIsi (Qc (wVar 0) (Qc (wC (.ty .bool)) wNil))))))
theorem Qje {P:Program} {w:World} {K:PySem.W.Frag} {mg:Str->Option Value} {base:Heap} {f:Addr} (B:Bn K mg):∀(cdv:Value) (A:Around) (outer:List PySem.Env) (s:Shared) (H:Hp) (E:XK),Room 0 (A.deeper (envOfC "is_whole" (Qb Yc) s.heap.objs.size f cdv))->SVs (cxOf CX0 P w K mg base ["thing"] "is_whole" (Qb Yc) f cdv A outer s H E).nox Qcr (Qn Yc) Qcl:=λcdv A outer s H E hr =>
  (Qo (Jk (Qe2 (Jd Qe6 B.nb_isinstance J1 (Qa (Qd 0) (Qa (Qlb .int B.nb_int Qo2) Qf))) (Qez (Qtj (Jd Qe6 B.nb_isinstance J1 (Qa (Qd 0) (Qa (Qlb .bool B.nb_bool Qrg) Qf))))))))
theorem Qgl {P:Program} {w:World} {K:PySem.W.Frag} {mg:Str->Option Value} {base:Heap} {f:Addr} {fd:FuncData} (F:Fun K "is_whole" "is_whole" Yc f fd) (B:Bn K mg):FnOk P w K mg base CX0 1 f fd ["thing"] (spR K Vd):=by
 refine Qb4 (T:=Qcr) F Qfs rfl (by decide) (λds kk h=>?_) (Qje B) (λds kk h=>?_)
 ·obtain ⟨d,rfl,_⟩:=h
  rfl
 ·obtain ⟨d,rfl,h,k⟩:=h
  cases h <;> (simp only [Qcl,env0,rowD,List.length_cons,List.length_nil,List.map_cons,List.map_nil,List.cons_append,List.nil_append,List.replicate,wSeq,wSet,Y0,wIf,V7,Qbk,wRet,Qcb,U3,Jn,wAsg,wBin,wUn,Q8,wC,Q0,Qr,Q6,J7,Qca,Qc,wNil,wTup,wLst,wMt,wSl,Z6,Zh,r_bl,Q9,V0,Ym,Qa9,X4,Qa8,wNot,wAnd,wOr,wIfE,Vv,Qf1,Qbb,G7,Vj,Qba,U9,U0,Z4,Qa6,U5,U8,Vt,G6,Qf7,Qbd,Yt,Z9,gN,Uy,Z3,Uz,Qgf,Qbn,Qbm,Qbo,Qcd,Zf,X6,X5,Qbl,V6,G8,Qei,Zs,Xs,Qge,Qf4,Qgc,Qf2,Qdk,Qdj,Qgd,Qf3,Zc,Yj,Z8,Qce,Qbg,Qbf,Qbe,Vu,Z7,X7,Qbc,Qf8,X8,Qgg,Qf5,Qf6,Ga,Vl,Gb,G5,Qa7,V5,Qcf,isiD,Qfy,Qfz,Qfx,Ux,Vi,U7,U6,Qbj,Qbi,Qbh,Qf9,Xt,Vk,Qf0,Gc,G4,Qfw,Qfv,Jl,Qgb,Qga,Ql,look,List.set_cons_zero,List.set_cons_succ,D.pure,Qg,wAll,Zt,Uq,Xz,Qd7,Qet,Qes,Qgx,Qgw,V4,List.getElem?_cons_zero,List.getElem?_cons_succ,List.length_cons,List.length_nil,List.length_set,Nat.zero_add,Nat.reduceAdd,Nat.reduceLT,Nat.lt_add_one,Nat.zero_lt_succ,Bool.and_true,Bool.true_and,Bool.and_self,true_and,and_true,Option.isSome_some,BEq.rfl,Yh,Option.map_some,Option.map_none,reduceIte,Bool.false_eq_true,Bool.not_true,Bool.not_false,Int.reduceToNat,Int.reduceLT,Int.reduceLE,Int.reduceNeg,Int.reducePow,Int.reduceAdd,Int.reduceSub,Int.reduceMul,List.eraseIdx_cons_zero,Int.toNat_natCast,List.nil_append,List.cons_append,wSlT,Y1,Gm,Zd,Gn,Xa,Qaa,Vw,Gg,V8,Gk,Gj,Xb,Xc,Vo,Qab,Qbt,Gi,Gh,Vn,Qbr,Gf,Qbs,Qfn,U2,Qfk,wDka,Ut,Option.bind_some,kD,Qaq,Qbq,Qgh,Qbp,Ge,Vm,Qap,Qfm,Qar,Qas,Qao,Qam,Zo,G9,Gd,X9,Qfj,Uu,Qan,Qfp];exact k)
def Yo:GA:=λds k=>∃d,ds=[d]/\El d/\k (.bl (cnt d))
abbrev Yd:Stmt:=top 18
theorem Qft:FnScope ["thing"] ["thing"] (Qb Yd):=⟨rfl,rfl,rfl,by decide +kernel,rfl,by decide +kernel,by decide +kernel⟩
def Qcs:Tg:={ own:=λi=>false,io:=[] }
def Qcm:WS:=(wRet (Qfq (Qr Vd (Qc (wVar 0) wNil)) (wBin (dCmp λi j=>decide (j<=i)) (wVar 0) (wC (.int 0)))))
theorem Qjf {P:Program} {w:World} {K:PySem.W.Frag} {mg:Str->Option Value} {base:Heap} {f:Addr} (B:Bn K mg) (C_is_whole:Cal P w K mg base "is_whole" 1 ["thing"] (spR K Vd)):∀(cdv:Value) (A:Around) (outer:List PySem.Env) (s:Shared) (H:Hp) (E:XK),Room 1 (A.deeper (envOfC "is_count" (Qb Yd) s.heap.objs.size f cdv))->SVs (cxOf CX0 P w K mg base ["thing"] "is_count" (Qb Yd) f cdv A outer s H E).nox Qcs (Qn Yd) Qcm:=λcdv A outer s H E hr =>
  (Qo (Jk (Qe2 (J0 C_is_whole (hr.mono (by decide)) (Qa (Qd 0) Qf)) (Qez (Qh6 Qsp (Qd 0) Qe)))))
theorem Qgm {P:Program} {w:World} {K:PySem.W.Frag} {mg:Str->Option Value} {base:Heap} {f:Addr} {fd:FuncData} (F:Fun K "is_count" "is_count" Yd f fd) (B:Bn K mg) (C1:Cal P w K mg base "is_whole" 1 ["thing"] (spR K Vd)):FnOk P w K mg base CX0 2 f fd ["thing"] (spR K Yo):=by
 refine Qb4 (T:=Qcs) F Qft rfl (by decide) (λds kk h=>?_) (Qjf B C1) (λds kk h=>?_)
 ·obtain ⟨d,rfl,_⟩:=h
  rfl
 ·obtain ⟨d,rfl,h,k⟩:=h
  simp only [Qcm,wRet,env0,List.map_cons,List.map_nil,List.length_cons,List.length_nil,Nat.zero_add,List.cons_append,List.nil_append,Vv,Qr,Qc,wNil,wBin,wC,Q8,look,Ql]
  refine ⟨d,rfl,h,?_⟩
  cases h <;> (simp only [wh,wSeq,wSet,Y0,wIf,V7,Qbk,wRet,Qcb,U3,Jn,wAsg,wBin,wUn,Q8,wC,Q0,Qr,Q6,J7,Qca,Qc,wNil,wTup,wLst,wMt,wSl,Z6,Zh,r_bl,Q9,V0,Ym,Qa9,X4,Qa8,wNot,wAnd,wOr,wIfE,Vv,Qf1,Qbb,G7,Vj,Qba,U9,U0,Z4,Qa6,U5,U8,Vt,G6,Qf7,Qbd,Yt,Z9,gN,Uy,Z3,Uz,Qgf,Qbn,Qbm,Qbo,Qcd,Zf,X6,X5,Qbl,V6,G8,Qei,Zs,Xs,Qge,Qf4,Qgc,Qf2,Qdk,Qdj,Qgd,Qf3,Zc,Yj,Z8,Qce,Qbg,Qbf,Qbe,Vu,Z7,X7,Qbc,Qf8,X8,Qgg,Qf5,Qf6,Ga,Vl,Gb,G5,Qa7,V5,Qcf,isiD,Qfy,Qfz,Qfx,Ux,Vi,U7,U6,Qbj,Qbi,Qbh,Qf9,Xt,Vk,Qf0,Gc,G4,Qfw,Qfv,Jl,Qgb,Qga,Ql,look,List.set_cons_zero,List.set_cons_succ,D.pure,Qg,wAll,Zt,Uq,Xz,Qd7,Qet,Qes,Qgx,Qgw,V4,List.getElem?_cons_zero,List.getElem?_cons_succ,List.length_cons,List.length_nil,List.length_set,Nat.zero_add,Nat.reduceAdd,Nat.reduceLT,Nat.lt_add_one,Nat.zero_lt_succ,Bool.and_true,Bool.true_and,Bool.and_self,true_and,and_true,Option.isSome_some,BEq.rfl,Yh,Option.map_some,Option.map_none,reduceIte,Bool.false_eq_true,Bool.not_true,Bool.not_false,Int.reduceToNat,Int.reduceLT,Int.reduceLE,Int.reduceNeg,Int.reducePow,Int.reduceAdd,Int.reduceSub,Int.reduceMul,List.eraseIdx_cons_zero,Int.toNat_natCast,List.nil_append,List.cons_append,wSlT,Y1,Gm,Zd,Gn,Xa,Qaa,Vw,Gg,V8,Gk,Gj,Xb,Xc,Vo,Qab,Qbt,Gi,Gh,Vn,Qbr,Gf,Qbs,Qfn,U2,Qfk,wDka,Ut,Option.bind_some,kD,Qaq,Qbq,Qgh,Qbp,Ge,Vm,Qap,Qfm,Qar,Qas,Qao,Qam,Zo,G9,Gd,X9,Qfj,Uu,Qan,Qfp];exact k)
def Yp:GA:=λds k=>∃d,ds=[d]/\R1 d/\k (.bl (arcs d))
abbrev J4:Stmt:=top 19
theorem Qfu:FnScope ["thing"] ["thing"] (Qb J4):=⟨rfl,rfl,rfl,by decide +kernel,rfl,by decide +kernel,by decide +kernel⟩
def Qct:Tg:={ own:=λi=>false,io:=[] }
def Xp:WS:=(wRet (Qfq (Qr dIsi (Qc (wVar 0) (Qc (wC (.ty .tuple)) wNil))) (Qr dAll (Qc (Qdd (Qdc (wVar 0)) wAll (Qr Yo (Qc (wVar 0) wNil)) []) wNil))))
theorem Qjg {P:Program} {w:World} {K:PySem.W.Frag} {mg:Str->Option Value} {base:Heap} {f:Addr} (B:Bn K mg) (C_is_count:Cal P w K mg base "is_count" 2 ["thing"] (spR K Yo)):∀(cdv:Value) (A:Around) (outer:List PySem.Env) (s:Shared) (H:Hp) (E:XK),Room 2 (A.deeper (envOfC "are_arcs" (Qb J4) s.heap.objs.size f cdv))->SVs (cxOf CX0 P w K mg base ["thing"] "are_arcs" (Qb J4) f cdv A outer s H E).nox Qct (Qn J4) Xp:=λcdv A outer s H E hr =>
  (Qo (Jk (Qe2 (Jd Qe6 B.nb_isinstance J1 (Qa (Qd 0) (Qa (Qlb .tuple B.nb_tuple Uo) Qf))) (Qez (Jd (Qo0 rfl) B.nb_all Qo3 (Qa (Qdv (Qb8 [] (Qb1 (Qd 0)) (λ_ _ _ _ _=>Qid) (λ_ _ _ _ _=>(J0 C_is_count (hr.mono (by decide)) (Qa (Qd 0) Qf)))) (Vq (Qb J4) ["thing"] (by decide +kernel))) Qf))))))
theorem Qgn {P:Program} {w:World} {K:PySem.W.Frag} {mg:Str->Option Value} {base:Heap} {f:Addr} {fd:FuncData} (F:Fun K "are_arcs" "are_arcs" J4 f fd) (B:Bn K mg) (C1:Cal P w K mg base "is_count" 2 ["thing"] (spR K Yo)):FnOk P w K mg base CX0 3 f fd ["thing"] (spR K Yp):=by
 refine Qb4 (T:=Qct) F Qfu rfl (by decide) (λds kk h=>?_) (Qjg B C1) (λds kk h=>?_)
 ·obtain ⟨d,rfl,_⟩:=h
  rfl
 ·obtain ⟨d,rfl,⟨h,hr⟩,k⟩:=h
  cases h with
  | tup xs =>
   obtain ⟨hl,hp,hx⟩:=hr xs rfl
   simp only [Xp,wRet,env0,List.map_cons,List.map_nil,List.length_cons,List.length_nil,Nat.zero_add,List.cons_append,List.nil_append,Vv,Qr,Qc,wC,wNil,Z9,U8,Q8,Qcf,isiD,Q9,look,Ql,Vt,BEq.rfl,reduceIte]
   refine ⟨hp,Xl (λd=>.bl (cnt d)) (big (by omega)) (λd hd Q' hQ=>?_) ?_⟩
   ·simp only [Qr,Qc,blkE,List.map_nil,wNil,Q8,look,Ql]
    exact ⟨d,rfl,hx d hd,hQ⟩
   ·have e:xs.map (λd=>D.bl (cnt d))=(xs.map cnt).map D.bl:=by rw [List.map_map];rfl
    rw [e]
    simp only [G9]
    have e2:(xs.map cnt).all id=arcs (.tup xs):=by simp [arcs,List.all_map,Function.comp_def]
    rw [e2]
    exact k
  | _=>simp only [Xp,env0,rowD,List.length_cons,List.length_nil,List.map_cons,List.map_nil,List.cons_append,List.nil_append,List.replicate,wSeq,wSet,Y0,wIf,V7,Qbk,wRet,Qcb,U3,Jn,wAsg,wBin,wUn,Q8,wC,Q0,Qr,Q6,J7,Qca,Qc,wNil,wTup,wLst,wMt,wSl,Z6,Zh,r_bl,Q9,V0,Ym,Qa9,X4,Qa8,wNot,wAnd,wOr,wIfE,Vv,Qf1,Qbb,G7,Vj,Qba,U9,U0,Z4,Qa6,U5,U8,Vt,G6,Qf7,Qbd,Yt,Z9,gN,Uy,Z3,Uz,Qgf,Qbn,Qbm,Qbo,Qcd,Zf,X6,X5,Qbl,V6,G8,Qei,Zs,Xs,Qge,Qf4,Qgc,Qf2,Qdk,Qdj,Qgd,Qf3,Zc,Yj,Z8,Qce,Qbg,Qbf,Qbe,Vu,Z7,X7,Qbc,Qf8,X8,Qgg,Qf5,Qf6,Ga,Vl,Gb,G5,Qa7,V5,Qcf,isiD,Qfy,Qfz,Qfx,Ux,Vi,U7,U6,Qbj,Qbi,Qbh,Qf9,Xt,Vk,Qf0,Gc,G4,Qfw,Qfv,Jl,Qgb,Qga,Ql,look,List.set_cons_zero,List.set_cons_succ,D.pure,Qg,wAll,Zt,Uq,Xz,Qd7,Qet,Qes,Qgx,Qgw,V4,List.getElem?_cons_zero,List.getElem?_cons_succ,List.length_cons,List.length_nil,List.length_set,Nat.zero_add,Nat.reduceAdd,Nat.reduceLT,Nat.lt_add_one,Nat.zero_lt_succ,Bool.and_true,Bool.true_and,Bool.and_self,true_and,and_true,Option.isSome_some,BEq.rfl,Yh,Option.map_some,Option.map_none,reduceIte,Bool.false_eq_true,Bool.not_true,Bool.not_false,Int.reduceToNat,Int.reduceLT,Int.reduceLE,Int.reduceNeg,Int.reducePow,Int.reduceAdd,Int.reduceSub,Int.reduceMul,List.eraseIdx_cons_zero,Int.toNat_natCast,List.nil_append,List.cons_append,wSlT,Y1,Gm,Zd,Gn,Xa,Qaa,Vw,Gg,V8,Gk,Gj,Xb,Xc,Vo,Qab,Qbt,Gi,Gh,Vn,Qbr,Gf,Qbs,Qfn,U2,Qfk,wDka,Ut,Option.bind_some,kD,Qaq,Qbq,Qgh,Qbp,Ge,Vm,Qap,Qfm,Qar,Qas,Qao,Qam,Zo,G9,Gd,X9,Qfj,Uu,Qan,Qfp];exact k
def Yx:GA:=λds k=>∃d,ds=[d]/\R1 d/\k (.bl (cro d))
abbrev Jf:Stmt:=top 20
theorem Qcc:FnScope ["thing"] ["thing"] (Qb Jf):=⟨rfl,rfl,rfl,by decide +kernel,rfl,by decide +kernel,by decide +kernel⟩
def G3:Tg:={ own:=λi=>false,io:=[] }
def Gx:WS:=(wRet (Qfq (Qr Yp (Qc (wVar 0) wNil)) (wBin dEq (Qr dLen (Qc (wVar 0) wNil)) (wC (.int 4)))))
theorem Qd6 {P:Program} {w:World} {K:PySem.W.Frag} {mg:Str->Option Value} {base:Heap} {f:Addr} (B:Bn K mg) (C_are_arcs:Cal P w K mg base "are_arcs" 3 ["thing"] (spR K Yp)):∀(cdv:Value) (A:Around) (outer:List PySem.Env) (s:Shared) (H:Hp) (E:XK),Room 3 (A.deeper (envOfC "is_crossing" (Qb Jf) s.heap.objs.size f cdv))->SVs (cxOf CX0 P w K mg base ["thing"] "is_crossing" (Qb Jf) f cdv A outer s H E).nox G3 (Qn Jf) Gx:=λcdv A outer s H E hr =>
  (Qo (Jk (Qe2 (J0 C_are_arcs (hr.mono (by decide)) (Qa (Qd 0) Qf)) (Qez (Qh6 (Qgr hr.units) (Jd Vx B.nb_len Vy (Qa (Qd 0) Qf)) Qe)))))
theorem Qcg {P:Program} {w:World} {K:PySem.W.Frag} {mg:Str->Option Value} {base:Heap} {f:Addr} {fd:FuncData} (F:Fun K "is_crossing" "is_crossing" Jf f fd) (B:Bn K mg) (C1:Cal P w K mg base "are_arcs" 3 ["thing"] (spR K Yp)):FnOk P w K mg base CX0 4 f fd ["thing"] (spR K Yx):=by
 refine Qb4 (T:=G3) F Qcc rfl (by decide) (λds kk h=>?_) (Qd6 B C1) (λds kk h=>?_)
 ·obtain ⟨d,rfl,_⟩:=h
  rfl
 ·obtain ⟨d,rfl,h,k⟩:=h
  simp only [Gx,wRet,env0,List.map_cons,List.map_nil,List.length_cons,List.length_nil,Nat.zero_add,List.cons_append,List.nil_append,Vv,Qr,Qc,wNil,wBin,wC,Q8,look,Ql]
  refine ⟨d,rfl,h,?_⟩
  obtain ⟨h,hr⟩:=h
  cases h with
  | tup xs =>
   simp only [arcs,Z7,Zs,Q9]
   have e:decide ((xs.length:Int)=4)=decide (xs.length=4):=by simp;omega
   have k:kk (.bl (xs.all cnt && decide (xs.length=4))):=k
   rw [e]
   cases hx:xs.all cnt with
   | false=>rw [hx] at k;exact k
   | true=>rw [hx] at k;exact k
  | _=>simp only [wSeq,wSet,Y0,wIf,V7,Qbk,wRet,Qcb,U3,Jn,wAsg,wBin,wUn,Q8,wC,Q0,Qr,Q6,J7,Qca,Qc,wNil,wTup,wLst,wMt,wSl,Z6,Zh,r_bl,Q9,V0,Ym,Qa9,X4,Qa8,wNot,wAnd,wOr,wIfE,Vv,Qf1,Qbb,G7,Vj,Qba,U9,U0,Z4,Qa6,U5,U8,Vt,G6,Qf7,Qbd,Yt,Z9,gN,Uy,Z3,Uz,Qgf,Qbn,Qbm,Qbo,Qcd,Zf,X6,X5,Qbl,V6,G8,Qei,Zs,Xs,Qge,Qf4,Qgc,Qf2,Qdk,Qdj,Qgd,Qf3,Zc,Yj,Z8,Qce,Qbg,Qbf,Qbe,Vu,Z7,X7,Qbc,Qf8,X8,Qgg,Qf5,Qf6,Ga,Vl,Gb,G5,Qa7,V5,Qcf,isiD,Qfy,Qfz,Qfx,Ux,Vi,U7,U6,Qbj,Qbi,Qbh,Qf9,Xt,Vk,Qf0,Gc,G4,Qfw,Qfv,Jl,Qgb,Qga,Ql,look,List.set_cons_zero,List.set_cons_succ,D.pure,Qg,wAll,Zt,Uq,Xz,Qd7,Qet,Qes,Qgx,Qgw,V4,List.getElem?_cons_zero,List.getElem?_cons_succ,List.length_cons,List.length_nil,List.length_set,Nat.zero_add,Nat.reduceAdd,Nat.reduceLT,Nat.lt_add_one,Nat.zero_lt_succ,Bool.and_true,Bool.true_and,Bool.and_self,true_and,and_true,Option.isSome_some,BEq.rfl,Yh,Option.map_some,Option.map_none,reduceIte,Bool.false_eq_true,Bool.not_true,Bool.not_false,Int.reduceToNat,Int.reduceLT,Int.reduceLE,Int.reduceNeg,Int.reducePow,Int.reduceAdd,Int.reduceSub,Int.reduceMul,List.eraseIdx_cons_zero,Int.toNat_natCast,List.nil_append,List.cons_append,wSlT,Y1,Gm,Zd,Gn,Xa,Qaa,Vw,Gg,V8,Gk,Gj,Xb,Xc,Vo,Qab,Qbt,Gi,Gh,Vn,Qbr,Gf,Qbs,Qfn,U2,Qfk,wDka,Ut,Option.bind_some,kD,Qaq,Qbq,Qgh,Qbp,Ge,Vm,Qap,Qfm,Qar,Qas,Qao,Qam,Zo,G9,Gd,X9,Qfj,Uu,Qan,Qfp,arcs];exact k
def J3:GA:=λds k=>∃d,ds=[d]/\R3 d/\k (.bl (isW d))
abbrev Qv:Stmt:=top 21
theorem Xr:FnScope ["thing"] ["thing"] (Qb Qv):=⟨rfl,rfl,rfl,by decide +kernel,rfl,by decide +kernel,by decide +kernel⟩
def Vr:Tg:={ own:=λi=>false,io:=[] }
def Yi:WS:=(wSeq (wIf (wOr (wNot (wTru (Qr dIsi (Qc (wVar 0) (Qc (wC (.ty .tuple)) wNil))))) (wBl (wBin dNe (Qr dLen (Qc (wVar 0) wNil)) (wC (.int 3))))) (wRet (wC (.bl false))) Jn)
 (wSeq (wIf (wOr (wNot (wTru (Qr dIsi (Qc (wBin dIx (wVar 0) (wC (.int 0))) (Qc (wC (.ty .tuple)) wNil))))) (wNot (wTru (Qr dAll (Qc (Qdd (Qdc (wBin dIx (wVar 0) (wC (.int 0)))) wAll (Qr Yx (Qc (wVar 0) wNil)) []) wNil))))) (wRet (wC (.bl false))) Jn)
 (wRet (Qfq (Qr Yp (Qc (wBin dIx (wVar 0) (wC (.int 1))) wNil)) (Qr Yo (Qc (wBin dIx (wVar 0) (wC (.int 2))) wNil))))))
theorem Qag {P:Program} {w:World} {K:PySem.W.Frag} {mg:Str->Option Value} {base:Heap} {f:Addr} (B:Bn K mg) (C_is_count:Cal P w K mg base "is_count" 2 ["thing"] (spR K Yo)) (C_are_arcs:Cal P w K mg base "are_arcs" 3 ["thing"] (spR K Yp)) (C_is_crossing:Cal P w K mg base "is_crossing" 4 ["thing"] (spR K Yx)):∀(cdv:Value) (A:Around) (outer:List PySem.Env) (s:Shared) (H:Hp) (E:XK),Room 4 (A.deeper (envOfC "is_made_as_web" (Qb Qv) s.heap.objs.size f cdv))->SVs (cxOf CX0 P w K mg base ["thing"] "is_made_as_web" (Qb Qv) f cdv A outer s H E).nox Vr (Qn Qv) Yi:=λcdv A outer s H E hr =>
  (Qi (Vf (U4 (Qn3 (Qee (G0 (Jd Qe6 B.nb_isinstance J1 (Qa (Qd 0) (Qa (Qlb .tuple B.nb_tuple Uo) Qf))))) (Qij (Ys (Qiz hr.units) (Jd Vx B.nb_len Vy (Qa (Qd 0) Qf)) Qe)))) (Qo (Jk Qdw)) Jw)
  (Qi (Vf (U4 (Qn3 (Qee (G0 (Jd Qe6 B.nb_isinstance J1 (Qa (Q4 (Q1 (Qw hr)) (Qd 0) Qe) (Qa (Qlb .tuple B.nb_tuple Uo) Qf))))) (Qij (Qee (G0 (Jd (Qo0 rfl) B.nb_all Qo3 (Qa (Qdv (Qb8 [] (Qb1 (Q4 (Q1 (Qw hr)) (Qd 0) Qe)) (λ_ _ _ _ _=>Qid) (λ_ _ _ _ _=>(J0 C_is_crossing (hr.mono (by decide)) (Qa (Qd 0) Qf)))) (Vq (Qb Qv) ["thing"] (by decide +kernel))) Qf))))))) (Qo (Jk Qdw)) Jw)
  (Qo (Jk (Qe2 (J0 C_are_arcs (hr.mono (by decide)) (Qa (Q4 (Q1 (Qw hr)) (Qd 0) Qe) Qf)) (Qez (J0 C_is_count (hr.mono (by decide)) (Qa (Q4 (Q1 (Qw hr)) (Qd 0) Qe) Qf))))))))
theorem Qgz {xs:List D} (h:xs.length≠3):isW (.tup xs)=false:=by
 unfold isW
 split
 ·rename_i e
  cases e
  simp at h
 ·rfl
theorem Xu {P:Program} {w:World} {K:PySem.W.Frag} {mg:Str->Option Value} {base:Heap} {f:Addr} {fd:FuncData} (F:Fun K "is_made_as_web" "is_made_as_web" Qv f fd) (B:Bn K mg) (C1:Cal P w K mg base "is_count" 2 ["thing"] (spR K Yo)) (C2:Cal P w K mg base "are_arcs" 3 ["thing"] (spR K Yp)) (C3:Cal P w K mg base "is_crossing" 4 ["thing"] (spR K Yx)):FnOk P w K mg base CX0 5 f fd ["thing"] (spR K J3):=by
 refine Qb4 (T:=Vr) F Xr rfl (by decide) (λds kk h=>?_) (Qag B C1 C2 C3) (λds kk h=>?_)
 ·obtain ⟨d,rfl,_⟩:=h
  rfl
 ·obtain ⟨d,rfl,⟨h,hp,hr⟩,k⟩:=h
  cases h with
  | tup xs =>
   by_cases hl:xs.length=3
   ·match xs,hl with
    | [a,b,c],_ =>
     obtain ⟨⟨ha,ha2⟩,hb,hc⟩:=hr a b c rfl
     simp only [Yi,wSeq,wIf,wOr,wNot,env0,List.map_cons,List.map_nil,List.length_cons,List.length_nil,Nat.zero_add,List.cons_append,List.nil_append,wRet,wC,Jn,Vv,Qr,Qc,wBin,wNil,Q8,reduceIte,V0,Z9,U8,Qcf,isiD,Ym,r_bl,look,Ql,Z8,Zt,List.getElem?_cons_zero,Z7,Nat.reduceAdd,Xs,Q9,BEq.rfl,Bool.not_true,Bool.false_eq_true]
     rw [show (!decide (((3:Nat):Int)=3))=false from rfl]
     simp only [Bool.false_eq_true,if_false]
     have k:kk (.bl (rows a && (arcs b && cnt c))):=k
     cases ha with
     | tup ys =>
      obtain ⟨ya,yb,yc⟩:=ha2 ys rfl
      simp only [BEq.rfl,Vt,Ql,Bool.not_true,Bool.false_eq_true,reduceIte]
      refine ⟨yb,Xl (λd=>.bl (cro d)) (big (by omega)) (λd hd Q' hQ=>?_) ?_⟩
      ·simp only [Qr,Qc,blkE,List.map_nil,wNil,Q8,look,Ql]
       exact ⟨d,rfl,yc d hd,hQ⟩
      ·have e:ys.map (λd=>D.bl (cro d))=(ys.map cro).map D.bl:=by rw [List.map_map];rfl
       have e2:(ys.map cro).all id=rows (.tup ys):=by simp [rows,List.all_map,Function.comp_def]
       rw [e]
       simp only [look,Ql,Z8,Xz,List.getElem?_cons_succ,List.getElem?_cons_zero,Uq,G9,e2,Ym]
       cases hx:rows (.tup ys) with
       | false=>rw [hx] at k;exact k
       | true =>
        rw [hx] at k
        simp only [Bool.not_true,Bool.false_eq_true,reduceIte]
        refine ⟨b,rfl,hb,?_⟩
        cases hy:arcs b with
        | false=>rw [hy] at k;simp only [wSeq,wSet,Y0,wIf,V7,Qbk,wRet,Qcb,U3,Jn,wAsg,wBin,wUn,Q8,wC,Q0,Qr,Q6,J7,Qca,Qc,wNil,wTup,wLst,wMt,wSl,Z6,Zh,r_bl,Q9,V0,Ym,Qa9,X4,Qa8,wNot,wAnd,wOr,wIfE,Vv,Qf1,Qbb,G7,Vj,Qba,U9,U0,Z4,Qa6,U5,U8,Vt,G6,Qf7,Qbd,Yt,Z9,gN,Uy,Z3,Uz,Qgf,Qbn,Qbm,Qbo,Qcd,Zf,X6,X5,Qbl,V6,G8,Qei,Zs,Xs,Qge,Qf4,Qgc,Qf2,Qdk,Qdj,Qgd,Qf3,Zc,Yj,Z8,Qce,Qbg,Qbf,Qbe,Vu,Z7,X7,Qbc,Qf8,X8,Qgg,Qf5,Qf6,Ga,Vl,Gb,G5,Qa7,V5,Qcf,isiD,Qfy,Qfz,Qfx,Ux,Vi,U7,U6,Qbj,Qbi,Qbh,Qf9,Xt,Vk,Qf0,Gc,G4,Qfw,Qfv,Jl,Qgb,Qga,Ql,look,List.set_cons_zero,List.set_cons_succ,D.pure,Qg,wAll,Zt,Uq,Xz,Qd7,Qet,Qes,Qgx,Qgw,V4,List.getElem?_cons_zero,List.getElem?_cons_succ,List.length_cons,List.length_nil,List.length_set,Nat.zero_add,Nat.reduceAdd,Nat.reduceLT,Nat.lt_add_one,Nat.zero_lt_succ,Bool.and_true,Bool.true_and,Bool.and_self,true_and,and_true,Option.isSome_some,BEq.rfl,Yh,Option.map_some,Option.map_none,reduceIte,Bool.false_eq_true,Bool.not_true,Bool.not_false,Int.reduceToNat,Int.reduceLT,Int.reduceLE,Int.reduceNeg,Int.reducePow,Int.reduceAdd,Int.reduceSub,Int.reduceMul,List.eraseIdx_cons_zero,Int.toNat_natCast,List.nil_append,List.cons_append,wSlT,Y1,Gm,Zd,Gn,Xa,Qaa,Vw,Gg,V8,Gk,Gj,Xb,Xc,Vo,Qab,Qbt,Gi,Gh,Vn,Qbr,Gf,Qbs,Qfn,U2,Qfk,wDka,Ut,Option.bind_some,kD,Qaq,Qbq,Qgh,Qbp,Ge,Vm,Qap,Qfm,Qar,Qas,Qao,Qam,Zo,G9,Gd,X9,Qfj,Uu,Qan,Qfp];exact k
        | true =>
         rw [hy] at k
         simp only [Q9,reduceIte]
         exact ⟨c,rfl,hc,k⟩
     | _=>simp only [wSeq,wSet,Y0,wIf,V7,Qbk,wRet,Qcb,U3,Jn,wAsg,wBin,wUn,Q8,wC,Q0,Qr,Q6,J7,Qca,Qc,wNil,wTup,wLst,wMt,wSl,Z6,Zh,r_bl,Q9,V0,Ym,Qa9,X4,Qa8,wNot,wAnd,wOr,wIfE,Vv,Qf1,Qbb,G7,Vj,Qba,U9,U0,Z4,Qa6,U5,U8,Vt,G6,Qf7,Qbd,Yt,Z9,gN,Uy,Z3,Uz,Qgf,Qbn,Qbm,Qbo,Qcd,Zf,X6,X5,Qbl,V6,G8,Qei,Zs,Xs,Qge,Qf4,Qgc,Qf2,Qdk,Qdj,Qgd,Qf3,Zc,Yj,Z8,Qce,Qbg,Qbf,Qbe,Vu,Z7,X7,Qbc,Qf8,X8,Qgg,Qf5,Qf6,Ga,Vl,Gb,G5,Qa7,V5,Qcf,isiD,Qfy,Qfz,Qfx,Ux,Vi,U7,U6,Qbj,Qbi,Qbh,Qf9,Xt,Vk,Qf0,Gc,G4,Qfw,Qfv,Jl,Qgb,Qga,Ql,look,List.set_cons_zero,List.set_cons_succ,D.pure,Qg,wAll,Zt,Uq,Xz,Qd7,Qet,Qes,Qgx,Qgw,V4,List.getElem?_cons_zero,List.getElem?_cons_succ,List.length_cons,List.length_nil,List.length_set,Nat.zero_add,Nat.reduceAdd,Nat.reduceLT,Nat.lt_add_one,Nat.zero_lt_succ,Bool.and_true,Bool.true_and,Bool.and_self,true_and,and_true,Option.isSome_some,BEq.rfl,Yh,Option.map_some,Option.map_none,reduceIte,Bool.false_eq_true,Bool.not_true,Bool.not_false,Int.reduceToNat,Int.reduceLT,Int.reduceLE,Int.reduceNeg,Int.reducePow,Int.reduceAdd,Int.reduceSub,Int.reduceMul,List.eraseIdx_cons_zero,Int.toNat_natCast,List.nil_append,List.cons_append,wSlT,Y1,Gm,Zd,Gn,Xa,Qaa,Vw,Gg,V8,Gk,Gj,Xb,Xc,Vo,Qab,Qbt,Gi,Gh,Vn,Qbr,Gf,Qbs,Qfn,U2,Qfk,wDka,Ut,Option.bind_some,kD,Qaq,Qbq,Qgh,Qbp,Ge,Vm,Qap,Qfm,Qar,Qas,Qao,Qam,Zo,G9,Gd,X9,Qfj,Uu,Qan,Qfp];exact k
   ·rw [Qgz hl] at k
    have hl':¬((xs.length:Int)=3):=by omega
    simp only [Yi,wSeq,wIf,wOr,wNot,env0,List.map_cons,List.map_nil,List.length_cons,List.length_nil,Nat.zero_add,List.cons_append,List.nil_append,wRet,wC,Jn,Vv,Qr,Qc,wBin,wNil,Q8,reduceIte,V0,Z9,U8,Qcf,isiD,Ym,r_bl,look,Ql,Z8,Zt,Z7,Xs,hl',decide_false,Bool.not_false,Q9,BEq.rfl,Bool.not_true,Bool.false_eq_true]
    exact k
  | _=>simp only [Yi,env0,rowD,List.length_cons,List.length_nil,List.map_cons,List.map_nil,List.cons_append,List.nil_append,List.replicate,wSeq,wSet,Y0,wIf,V7,Qbk,wRet,Qcb,U3,Jn,wAsg,wBin,wUn,Q8,wC,Q0,Qr,Q6,J7,Qca,Qc,wNil,wTup,wLst,wMt,wSl,Z6,Zh,r_bl,Q9,V0,Ym,Qa9,X4,Qa8,wNot,wAnd,wOr,wIfE,Vv,Qf1,Qbb,G7,Vj,Qba,U9,U0,Z4,Qa6,U5,U8,Vt,G6,Qf7,Qbd,Yt,Z9,gN,Uy,Z3,Uz,Qgf,Qbn,Qbm,Qbo,Qcd,Zf,X6,X5,Qbl,V6,G8,Qei,Zs,Xs,Qge,Qf4,Qgc,Qf2,Qdk,Qdj,Qgd,Qf3,Zc,Yj,Z8,Qce,Qbg,Qbf,Qbe,Vu,Z7,X7,Qbc,Qf8,X8,Qgg,Qf5,Qf6,Ga,Vl,Gb,G5,Qa7,V5,Qcf,isiD,Qfy,Qfz,Qfx,Ux,Vi,U7,U6,Qbj,Qbi,Qbh,Qf9,Xt,Vk,Qf0,Gc,G4,Qfw,Qfv,Jl,Qgb,Qga,Ql,look,List.set_cons_zero,List.set_cons_succ,D.pure,Qg,wAll,Zt,Uq,Xz,Qd7,Qet,Qes,Qgx,Qgw,V4,List.getElem?_cons_zero,List.getElem?_cons_succ,List.length_cons,List.length_nil,List.length_set,Nat.zero_add,Nat.reduceAdd,Nat.reduceLT,Nat.lt_add_one,Nat.zero_lt_succ,Bool.and_true,Bool.true_and,Bool.and_self,true_and,and_true,Option.isSome_some,BEq.rfl,Yh,Option.map_some,Option.map_none,reduceIte,Bool.false_eq_true,Bool.not_true,Bool.not_false,Int.reduceToNat,Int.reduceLT,Int.reduceLE,Int.reduceNeg,Int.reducePow,Int.reduceAdd,Int.reduceSub,Int.reduceMul,List.eraseIdx_cons_zero,Int.toNat_natCast,List.nil_append,List.cons_append,wSlT,Y1,Gm,Zd,Gn,Xa,Qaa,Vw,Gg,V8,Gk,Gj,Xb,Xc,Vo,Qab,Qbt,Gi,Gh,Vn,Qbr,Gf,Qbs,Qfn,U2,Qfk,wDka,Ut,Option.bind_some,kD,Qaq,Qbq,Qgh,Qbp,Ge,Vm,Qap,Qfm,Qar,Qas,Qao,Qam,Zo,G9,Gd,X9,Qfj,Uu,Qan,Qfp];exact k
end K01
namespace K01
open PySem PySem.Spec L2 PV
open PyProof.Rows (envOfC)
theorem Qit:FnScope ["self","arc"] ["self","arc"] (Qb Zn):=⟨rfl,rfl,rfl,by decide +kernel,rfl,by decide +kernel,by decide +kernel⟩
theorem Qiy {P:Program} {w:World} {K:PySem.W.Frag} {mg:Str->Option Value} {base:Heap} {f C tE:Addr} {fd:FuncData} (F:Fun K "__init__" "Odd.__init__" Zn f fd) (hm:mg "TangleError" = some (.ref tE))
  (hsp:PySem.W.specialIn K (.ref tE) "__getattribute__" = some (some (.builtin "type.__getattribute__"))) (hrd:PySem.W.readsIn K tE (.type "type")=true)
  (hfc:PySem.W.findCls K (.ref tE) (.type "type") "__init__" = some (.val (.builtin "ValueError.__init__"))) (kc:ExcC K C) (hna:PySem.W.findIn K (.ref C) "arc" = some none):FnOk P w K mg base CX0 1 f fd ["self","arc"] (L2.spI K C "arc"):=by
 refine F.ok Qit (λvs H Q E h=>by obtain ⟨a,v,rfl,_⟩:=h;rfl) λcdv A outer s H vs Q E hr h=>?_
 obtain ⟨a,v,rfl,ha,q⟩:=h
 refine ⟨_,Qdl (Qj6 (tE:=tE) rfl hm hsp hrd hfc (Js (pv 0) (Js Qoo Ub))) (Qj5 (Qpz (pv 0) (pv 1))),?_⟩
 exact ⟨_,rfl,a,C,_,rfl,ha,kc,_,rfl,_,rfl,a,C,rfl,ha,kc,hna,q⟩
theorem Qhg {α:Type} {L:List α} {p:α->Bool} {i:Nat} {t:α} (h:L[i]? = some t):(L.take (i+1)).filter p=(L.take i).filter p++if p t=true then [t] else []:=by
 rw [List.take_add_one,h,List.filter_append]
 congr 1
 cases hp:p t <;> simp [hp]
theorem Qjd {α:Type} {L:List α} {a b:α->D} {wt:WT} {we:WE} {ρ1:PV.Env} {ix:List Nat} {Q:D->PV.Env->Prop} (f:α->D) (p:α->Bool) (hz:L.length<sizeLine) (ht:∀t∈L,∀k:Bool->PV.Env->Prop,k (p t) (Xm ρ1 (a t) (b t) ix)->wt (Xm ρ1 (a t) (b t) ix) k)
  (he:∀t∈L,p t=true->∀Q':D->PV.Env->Prop,Q' (f t) (Xm ρ1 (a t) (b t) ix)->we (Xm ρ1 (a t) (b t) ix) Q') (hQ:Q (.lst ((L.filter p).map f)) ρ1):Qoz (L.map λt=>.tup [a t,b t]) wt we ρ1 ix Q:=by
 have hlen:∀i,(((L.take i).filter p).map f).length<=L.length:=λi=>by
  rw [List.length_map]
  exact Nat.le_trans (List.length_filter_le _ _) (by rw [List.length_take];omega)
 refine ⟨λi ys=>ys=((L.take i).filter p).map f,by simp,λi d ys hd hy=>⟨by rw [hy];exact Nat.lt_of_le_of_lt (hlen i) hz,?_⟩,λys hy=>⟨by rw [hy];exact Nat.le_of_lt (Nat.lt_of_le_of_lt (hlen _) hz),?_⟩⟩
 ·rw [List.getElem?_map] at hd
  obtain ⟨t,htt,hd⟩:=Option.map_eq_some_iff.mp hd
  subst hd
  have hs:=Qhg (p:=p) htt
  have hm:=List.mem_of_getElem? htt
  rw [X9]
  refine ht t hm _ ?_
  cases hp:p t with
  | true =>
   rw [if_pos rfl]
   refine he t hm hp _ ?_
   show ys++[f t]=((L.take (i+1)).filter p).map f
   rw [hs,hy,hp,if_pos rfl,List.map_append];rfl
  | false =>
   rw [if_neg (by decide)]
   show ys=((L.take (i+1)).filter p).map f
   rw [hs,hy,hp,if_neg (by decide),List.append_nil]
 ·rw [hy,List.length_map,List.take_of_length_le (Nat.le_refl _)];exact hQ
abbrev nNW:Str:=Str.ofString "NoWeb"
abbrev nOd:Str:=Str.ofString "Odd"
def odds (A:Nat->Int) (n:Nat):List Int:=((M.plc A n).filter λe=>decide (e.2.length≠2)).map (·.1)
def Qqq (l:List Int) (x:Int):Prop:=x∈l/\∀y∈l,x<=y
def due (A:Nat->Int) (n:Nat) (kr:Prop) (ko:Int->Prop):Prop:=(odds A n=[]->kr)/\∀x,Qqq (odds A n) x->ko x
def Zr:GX:=λds k kx=>∃d,ds=[d]/\R3 d/\(isW d=false->kx (.obj nNW []))/\(isW d=true->∃m e A r,d=webD m e A r/\m<=100/\e<=100/\due A (4*m+e) (k .non) λx=>kx (.obj nOd [(Str.ofString "arc",x)]))
abbrev Ja:Stmt:=top 23
theorem X3:FnScope ["thing","odd"] ["thing"] (Qb Ja):=⟨rfl,rfl,rfl,by decide +kernel,rfl,by decide +kernel,by decide +kernel⟩
def Jv:Tg:={ own:=λi=>i == 1,io:=[] }
def Qai:WS:=(wSeq (wIf (wNot (wTru (Qr J3 (Qc (wVar 0) wNil)))) (Qjo (Str.ofString "NoWeb") (Qc (wC (.str (Str.ofString "it isn't made as a web is"))) wNil)) Jn)
 (wSeq (wSet 1 (Uu (Qjp (Qr Xh (Qc (wVar 0) wNil))) (wBl (wBin dNe (Qr dLen (Qc (wVar 1) wNil)) (wC (.int 2)))) (Q0 (wVar 0)) []))
 (wIf (wTru (wVar 1)) (Qfl (Str.ofString "Odd") (Str.ofString "arc") (Qc (Qr Qnv (Qc (wVar 1) wNil)) wNil)) Jn)))
theorem Qg6 {P:Program} {w:World} {K:PySem.W.Frag} {mg:Str->Option Value} {base:Heap} {f:Addr} (B:Bn K mg) (C_is_made_as_web:Cal P w K mg base "is_made_as_web" 5 ["thing"] (spR K J3)) (C_places:Cal P w K mg base "places" 1 ["web"] (spR K Xh)) (I_Odd:Qn7 P w K mg base "Odd" "arc" 1):∀(cdv:Value) (A:Around) (outer:List PySem.Env) (s:Shared) (H:Hp) (E:XK) (XE:D->St->Hp->Prop),Room 5 (A.deeper (envOfC "check_web" (Qb Ja) s.heap.objs.size f cdv))->(∀x C,atN K x C->Qd9 (cxOf (CXD P w base) P w K mg base ["thing","odd"] "check_web" (Qb Ja) f cdv A outer s H E) ⟨Jv.own,Jv.io,XE⟩ x C)->(∀x attr C,atN K x C->Qd8 (cxOf (CXD P w base) P w K mg base ["thing","odd"] "check_web" (Qb Ja) f cdv A outer s H E) ⟨Jv.own,Jv.io,XE⟩ x C attr)->Qmf (cxOf (CXD P w base) P w K mg base ["thing","odd"] "check_web" (Qb Ja) f cdv A outer s H E) ⟨Jv.own,Jv.io,XE⟩->SVs (cxOf (CXD P w base) P w K mg base ["thing","odd"] "check_web" (Qb Ja) f cdv A outer s H E) ⟨Jv.own,Jv.io,XE⟩ (Qn Ja) Qai:=λcdv A outer s H E XE hr hX hXI hP =>
  (Qi (Vf (Qee (G0 (J0 C_is_made_as_web (hr.mono (by decide)) (Qa (Qd 0) Qf)))) (Qo (Qmn B.e_NoWeb.choose_spec.1 (hX _ _ B.e_NoWeb.choose_spec.2) (Qa Ya Qf))) Jw)
  (Qi (Qmo (hio:=List.not_mem_nil) (j:=1) (Qnx [] (Qni (J0 C_places (hr.mono (by decide)) (Qa (Qd 0) Qf))) (λ_ _ _ _ _=>Qoy (Ys (Qiz hr.units) (Jd Vx B.nb_len Vy (Qa (Qd 1) Qf)) Qe)) (λ_ _ _ _ _=>(Qz (Qd 0)))) (Qlx (Qb Ja) ["thing","odd"] (by decide +kernel)) X3.nd)
  (Qo (Vf (G0 (Qd 1)) (Qo (Qjz I_Odd (hr.mono (by decide)) (λC h=>hXI _ _ C h) (Qa (Jd (Qlz rfl) B.nb_min Qo1 (Qa (Qd 1) Qf)) Qf))) Jw))))
theorem Qek {P:Program} {w:World} {K:PySem.W.Frag} {mg:Str->Option Value} {base:Heap} {f:Addr} {fd:FuncData} (F:Fun K "check_web" "check_web" Ja f fd) (B:Bn K mg) (C1:Cal P w K mg base "is_made_as_web" 5 ["thing"] (spR K J3)) (C2:Cal P w K mg base "places" 1 ["web"] (spR K Xh)) (I1:Qn7 P w K mg base "Odd" "arc" 1):FnOk P w K mg base (CXD P w base) 6 f fd ["thing"] (spXD K Zr):=by
 refine Qu2 (T:=Jv) F X3 rfl (by decide) (λds kk kx h=>?_) (Qg6 B C1 C2 I1) (λds kk kx h=>?_)
 ·obtain ⟨d,rfl,_⟩:=h
  rfl
 ·obtain ⟨d,rfl,hd,h1,h2⟩:=h
  simp only [Qai,wSeq,wIf,wNot,env0,List.map_cons,List.map_nil,List.length_cons,List.length_nil,Nat.zero_add,Nat.reduceAdd,List.replicate,List.cons_append,List.nil_append,Qjo,Qc,wC,wNil,Jn,wSet,Uu,Qjp,Qr,Qky,Qfl,Q8,V0,look,Ql]
  refine ⟨d,rfl,hd,?_⟩
  cases hw:isW d with
  | false =>
   simp only [Ym,Bool.not_false,reduceIte]
   exact ⟨by decide,h1 hw⟩
  | true =>
   obtain ⟨m,e,A,r,rfl,hm,he,q1,q2⟩:=h2 hw
   simp only [Ym,Bool.not_true,Bool.false_eq_true,reduceIte]
   refine ⟨m,e,A,r,rfl,hm,he,?_⟩
   simp only []
   have ei:Qc4 (encP (spD m) (M.plc A (4*m+e)))=(M.plc A (4*m+e)).map λt=>D.tup [.int t.1,.lst (t.2.map (spD m))]:=by
    unfold Qc4 encP
    rw [List.map_map]
    apply List.map_congr_left
    intro t _
    rfl
   rw [ei]
   have hpl:=Qbu A (4*m+e)
   refine Qjd (L:=M.plc A (4*m+e)) (a:=λt=>.int t.1) (b:=λt=>.lst (t.2.map (spD m))) (λt=>.int t.1) (λt=>decide (t.2.length≠2)) (big (by omega)) (λt ht k hk=>?_) (λt ht hp Q' hQ=>?_) ?_
   ·simp only [Xm,List.map_nil,r_bl,wBin,Qr,Qc,wNil,wC,Q8,look,Ql,Vu,List.length_map,Xs,Q9]
    have e2:(!decide ((t.2.length:Int)=2))=decide (t.2.length≠2):=by
     by_cases z:t.2.length=2
     ·simp [z]
     ·have:¬((t.2.length:Int)=2):=by omega
      simp [z,this]
    first | (rw [e2];exact hk) | (simp only [e2];exact hk)
   ·simp only [Q0,Xm,List.map_nil,Q8,look,Ql,D.pure,true_and]
    exact hQ
   ·simp only [List.set_cons_succ,List.set_cons_zero,look,Ql,Qhm,X4]
    have e3:((M.plc A (4*m+e)).filter λt=>decide (t.2.length≠2)).map (λt=>D.int t.1)=(odds A (4*m+e)).map D.int:=by
     unfold odds
     rw [List.map_map]
     rfl
    rw [e3]
    cases ho:odds A (4*m+e) with
    | nil=>exact q1 ho
    | cons x xs=>exact ⟨x::xs,rfl,by simp,λM hM hb=>q2 M ⟨by rw [ho];exact hM,λy hy=>by rw [ho] at hy;exact hb y hy⟩⟩
end K01
namespace K01
open PySem PySem.Spec L2 PV
open PyProof.Rows (envOfC)
abbrev sNW:D:=.str (Str.ofString "noweb")
abbrev sOd:D:=.str (Str.ofString "odd")
theorem t1:Ve nNW=some true:=by decide
theorem t2:Ve nOd=some false:=by decide
theorem t3:Qav nNW=some false:=by decide
theorem t4:Qav nOd=some true:=by decide
theorem t5:tbF nNW=some false:=by decide
theorem t6:tbF nOd=some false:=by decide
theorem t7:Ju nNW=some true:=by decide
theorem t8:Ju nOd=some true:=by decide
def Zq:GA:=λds k=>(∃fs,ds=[.obj nNW fs]/\k sNW)\/∃fs,ds=[.obj nOd fs]/\k sOd
abbrev Ji:Stmt:=top 29
theorem Zj:FnScope ["_law_error","_law_found","_law_name","_law_isof"] ["_law_error"] (Qb Ji):=⟨rfl,rfl,rfl,by decide +kernel,rfl,by decide +kernel,by decide +kernel⟩
def X1:Tg:={ own:=λi=>i == 1 || i == 2 || i == 3,io:=[] }
def V3:WS:=(wSeq (wSet 1 (wLst wNil))
 (wSeq (wFor (Qmj (wLst (Qc (wTup (Qc (wC (.str (Str.ofString "noweb"))) (Qc (wIsx 0 Ve) wNil))) (Qc (wTup (Qc (wC (.str (Str.ofString "odd"))) (Qc (wIsx 0 Qav) wNil))) (Qc (wTup (Qc (wC (.str (Str.ofString "notext"))) (Qc (wIsx 0 tbF) wNil))) (Qc (wTup (Qc (wC (.str (Str.ofString "notflat"))) (Qc (wIsx 0 tbF) wNil))) (Qc (wTup (Qc (wC (.str (Str.ofString "toomany"))) (Qc (wIsx 0 tbF) wNil))) (Qc (wTup (Qc (wC (.str (Str.ofString "toowide"))) (Qc (wIsx 0 tbF) wNil))) wNil)))))))) (Gr 2 (Yy (gN 2) (Yy (gN 3) Xi))) (wIf (wTru (wVar 3)) (U3 (wMt 1 "list" Qg0 (Qc (Q0 (wVar 2)) wNil))) Jn))
 (wSeq (wIf (wOr (wBl (wBin dNe (Qr dLen (Qc (wVar 1) wNil)) (wC (.int 1)))) (wNot (wTru (wIsx 0 Ju)))) (wRet (wC (.str (Str.ofString "none")))) Jn)
 (wSeq (wIf (wOr (wTru (wIsx 0 tbF)) (wTru (wIsx 0 tbF))) (wRet (wC (.str (Str.ofString "none")))) Jn)
 (wRet (Q0 (wBin dIx (wVar 1) (wC (.int 0)))))))))
theorem Qfc {P:Program} {w:World} {K:PySem.W.Frag} {mg:Str->Option Value} {base:Heap} {f:Addr} (B:Bn K mg):∀(cdv:Value) (A:Around) (outer:List PySem.Env) (s:Shared) (H:Hp),Room 0 ((Qd1 A).deeper (envOfC "_law_class" (Qb Ji) s.heap.objs.size f cdv))->Qea (cxH P w K mg base ["_law_error","_law_found","_law_name","_law_isof"] "_law_class" (Qb Ji) f cdv A outer s H)->SVs (cxH P w K mg base ["_law_error","_law_found","_law_name","_law_isof"] "_law_class" (Qb Ji) f cdv A outer s H) X1 (Qn Ji) V3:=λcdv A outer s H hr hH =>
  (Qi (Jp (i:=1) (Z2 Qf) Zj.nd)
  (Qi (Qpi hH PassesOwn.never ((Z2 (Qa (Qs (Qa Ya (Qa (Qb5 (i:=0) (tab:=Ve) B.nb_isinstance (by exact Y4 rfl B.i_NoWeb.choose_spec.1 (v:=.ref B.i_NoWeb.choose) rfl) rfl B.i_NoWeb.choose_spec.2) Qf))) (Qa (Qs (Qa Ya (Qa (Qb5 (i:=0) (tab:=Qav) B.nb_isinstance (by exact Y4 rfl B.i_Odd.choose_spec.1 (v:=.ref B.i_Odd.choose) rfl) rfl B.i_Odd.choose_spec.2) Qf))) (Qa (Qs (Qa Ya (Qa (Qb5 (i:=0) (tab:=tbF) B.nb_isinstance (by exact Y4 rfl B.i_NoText.choose_spec.1 (v:=.ref B.i_NoText.choose) rfl) rfl B.i_NoText.choose_spec.2) Qf))) (Qa (Qs (Qa Ya (Qa (Qb5 (i:=0) (tab:=tbF) B.nb_isinstance (by exact Y4 rfl B.i_NotFlat.choose_spec.1 (v:=.ref B.i_NotFlat.choose) rfl) rfl B.i_NotFlat.choose_spec.2) Qf))) (Qa (Qs (Qa Ya (Qa (Qb5 (i:=0) (tab:=tbF) B.nb_isinstance (by exact Y4 rfl B.i_TooMany.choose_spec.1 (v:=.ref B.i_TooMany.choose) rfl) rfl B.i_TooMany.choose_spec.2) Qf))) (Qa (Qs (Qa Ya (Qa (Qb5 (i:=0) (tab:=tbF) B.nb_isinstance (by exact Y4 rfl B.i_TooWide.choose_spec.1 (v:=.ref B.i_TooWide.choose) rfl) rfl B.i_TooWide.choose_spec.2) Qf))) Qf)))))))) (Qqw hH (Y6 (Yl (i:=2) Zj.nd) (Y6 (Yl (i:=3) Zj.nd) Qb3))) (Qo (Vf (G0 (Qd 3)) (Qo (Qpj (Qq6 (i:=1) Qkl PySem.F.plainAttrs_list PySem.F.slot_list_append PySem.F.type_list_append (Qa (Qz (Qd 2)) Qf)))) Jw)))
  (Qi (Vf (U4 (Qn3 (Ys (Qiz hr.units) (Jd Vx B.nb_len Vy (Qa (Qd 1) Qf)) Qe) (Qij (Qee (G0 (Qb5 (i:=0) (tab:=Ju) B.nb_isinstance (by exact Qkg rfl B.i_ValueError.1 PyProof.Rows.Boot.«ValueError» (v:=.ty "ValueError") rfl) rfl B.i_ValueError.2)))))) (Qo (Jk Ya)) Jw)
  (Qi (Vf (U4 (Qn3 (G0 (Qld (i:=0) (tab:=tbF) (vs:=[.ref B.i_NoStep.choose,.ref B.i_NoTurning.choose,.ref B.i_BadPace.choose]) B.nb_isinstance (Js (Y4 rfl B.i_NoStep.choose_spec.1 (v:=.ref B.i_NoStep.choose) rfl) (Js (Y4 rfl B.i_NoTurning.choose_spec.1 (v:=.ref B.i_NoTurning.choose) rfl) (Js (Y4 rfl B.i_BadPace.choose_spec.1 (v:=.ref B.i_BadPace.choose) rfl) Ub))) (λ_ _ _ q=>q) rfl (show 3<=sizeLine by decide) (λx k R h1 h2=>by obtain rfl:=Qjv h1;exact ⟨(B.i_NoStep.choose_spec.2 x _ R h1 h2).1,(Uk (B.i_NoStep.choose_spec.2 x _ R h1 h2).2 (Uk (B.i_NoTurning.choose_spec.2 x _ R h1 h2).2 (Uk (B.i_BadPace.choose_spec.2 x _ R h1 h2).2 Qhw)))⟩))) (Qij (G0 (Qld (i:=0) (tab:=tbF) (vs:=[.ref B.i_NoMatch.choose,.ref B.i_NoName.choose,.ref B.i_NoRow.choose]) B.nb_isinstance (Js (Y4 rfl B.i_NoMatch.choose_spec.1 (v:=.ref B.i_NoMatch.choose) rfl) (Js (Y4 rfl B.i_NoName.choose_spec.1 (v:=.ref B.i_NoName.choose) rfl) (Js (Y4 rfl B.i_NoRow.choose_spec.1 (v:=.ref B.i_NoRow.choose) rfl) Ub))) (λ_ _ _ q=>q) rfl (show 3<=sizeLine by decide) (λx k R h1 h2=>by obtain rfl:=Qjv h1;exact ⟨(B.i_NoMatch.choose_spec.2 x _ R h1 h2).1,(Uk (B.i_NoMatch.choose_spec.2 x _ R h1 h2).2 (Uk (B.i_NoName.choose_spec.2 x _ R h1 h2).2 (Uk (B.i_NoRow.choose_spec.2 x _ R h1 h2).2 Qhw)))⟩)))))) (Qo (Jk Ya)) Jw)
  (Qo (Jk (Qz (Q4 (Q1 (by have h:=Qw hr;exact h)) (Qd 1) Qe))))))))
theorem Qdp {P:Program} {w:World} {K:PySem.W.Frag} {mg:Str->Option Value} {base:Heap} {f:Addr} {fd:FuncData} (F:Fun K "_law_class" "_law_class" Ji f fd) (B:Bn K mg):FnOkH P w K mg base 1 f fd ["_law_error"] (spR K Zq):=by
 refine Qtf (T:=X1) F Zj rfl (by decide) (λds kk h=>?_) (Qfc B) (λds kk h=>?_)
 ·rcases h with ⟨fs,rfl,_⟩ | ⟨fs,rfl,_⟩ <;> rfl
 ·rcases h with ⟨fs,rfl,k⟩ | ⟨fs,rfl,k⟩
  ·simp only [V3,wSeq,wSet,wLst,wNil,List.length_nil,sz0,env0,List.map_cons,List.map_nil,List.length_cons,Nat.zero_add,Nat.reduceAdd,List.replicate,List.cons_append,List.nil_append,List.set_cons_succ,List.set_cons_zero,V7,Qmj,Qc,wTup,wC,wIsx,look,sz2,Qg,D.pure,Bool.and_self,true_and,Ql,t5,t3,t1]
   refine ⟨by decide,λt ρ=>∃o2 o3:Option D,ρ=[some (.obj nNW fs),some (.lst (if t=0 then [] else [sNW])),o2,o3],⟨none,none,rfl⟩,?_,?_⟩
   ·rintro i d ρ hd ⟨o2,o3,rfl⟩
    rcases i with _ | _ | _ | _ | _ | _ | i
    all_goals first
     | cases hd
     | skip
    all_goals first
     | (simp only [Gr,List.length_cons,List.length_nil,Nat.zero_add,Nat.reduceAdd,Yy,gN,Xi,wIf,reduceIte,List.set_cons_succ,List.set_cons_zero,U3,wMt,Qc,Q0,wNil,Q8,Jn,V0,look,G4,BEq.rfl,Ql,Xt,List.nil_append,D.pure,true_and,Ym,Bool.false_eq_true];exact ⟨_,_,rfl⟩)
     | (simp only [Gr,List.length_cons,List.length_nil,Nat.zero_add,Nat.reduceAdd,Yy,gN,Xi,wIf,reduceIte,List.set_cons_succ,List.set_cons_zero,U3,wMt,Qc,Q0,wNil,Q8,Jn,V0,look,G4,BEq.rfl,Ql,Xt,List.nil_append,D.pure,true_and,Ym,Bool.false_eq_true];exact ⟨by decide,_,_,rfl⟩)
     | (simp only [Gr,List.length_cons,List.length_nil,Nat.zero_add,Nat.reduceAdd,Yy,gN,Xi,wIf,reduceIte,List.set_cons_succ,List.set_cons_zero,U3,wMt,Qc,Q0,wNil,Q8,Jn,V0,look,G4,BEq.rfl,Ql,Xt,List.nil_append,D.pure,true_and,Ym,Bool.false_eq_true];done)
   ·rintro ρ ⟨o2,o3,rfl⟩
    simp only [wSeq,wIf,wOr,List.length_cons,List.length_nil,Nat.zero_add,Nat.reduceAdd,wRet,wC,Jn,Q0,wBin,Q8,reduceIte,V0,wIsx,Ym,wNot,r_bl,Qr,Qc,wNil,look,Ql,Yj,Zt,t5,Bool.false_eq_true,t7,Bool.not_true,Vu,Xs,Q9]
    rw [if_neg (by decide)]
    exact ⟨rfl,k⟩
  ·simp only [V3,wSeq,wSet,wLst,wNil,List.length_nil,sz0,env0,List.map_cons,List.map_nil,List.length_cons,Nat.zero_add,Nat.reduceAdd,List.replicate,List.cons_append,List.nil_append,List.set_cons_succ,List.set_cons_zero,V7,Qmj,Qc,wTup,wC,wIsx,look,sz2,Qg,D.pure,Bool.and_self,true_and,Ql,t6,t4,t2]
   refine ⟨by decide,λt ρ=>∃o2 o3:Option D,ρ=[some (.obj nOd fs),some (.lst (if t=0\/t=1 then [] else [sOd])),o2,o3],⟨none,none,rfl⟩,?_,?_⟩
   ·rintro i d ρ hd ⟨o2,o3,rfl⟩
    rcases i with _ | _ | _ | _ | _ | _ | i
    all_goals first
     | cases hd
     | skip
    all_goals first
     | (simp only [Gr,List.length_cons,List.length_nil,Nat.zero_add,Nat.reduceAdd,Yy,gN,Xi,wIf,reduceIte,List.set_cons_succ,List.set_cons_zero,U3,wMt,Qc,Q0,wNil,Q8,Jn,V0,look,G4,BEq.rfl,Ql,Xt,List.nil_append,D.pure,true_and,Ym,Bool.false_eq_true];exact ⟨_,_,rfl⟩)
     | (simp only [Gr,List.length_cons,List.length_nil,Nat.zero_add,Nat.reduceAdd,Yy,gN,Xi,wIf,reduceIte,List.set_cons_succ,List.set_cons_zero,U3,wMt,Qc,Q0,wNil,Q8,Jn,V0,look,G4,BEq.rfl,Ql,Xt,List.nil_append,D.pure,true_and,Ym,Bool.false_eq_true];exact ⟨by decide,_,_,rfl⟩)
     | (simp only [Gr,List.length_cons,List.length_nil,Nat.zero_add,Nat.reduceAdd,Yy,gN,Xi,wIf,reduceIte,List.set_cons_succ,List.set_cons_zero,U3,wMt,Qc,Q0,wNil,Q8,Jn,V0,look,G4,BEq.rfl,Ql,Xt,List.nil_append,D.pure,true_and,Ym,Bool.false_eq_true];done)
   ·rintro ρ ⟨o2,o3,rfl⟩
    simp only [wSeq,wIf,wOr,List.length_cons,List.length_nil,Nat.zero_add,Nat.reduceAdd,wRet,wC,Jn,Q0,wBin,Q8,reduceIte,V0,wIsx,Ym,wNot,r_bl,Qr,Qc,wNil,look,Ql,Yj,Zt,t6,Bool.false_eq_true,t8,Bool.not_true,Vu,Xs,Q9]
    rw [if_neg (by decide)]
    exact ⟨rfl,k⟩
abbrev sRt:D:=.str (Str.ofString "right")
def Yf:GA:=λds k=>∃d,ds=[d]/\R3 d/\(isW d=false->k (.tup [sNW]))/\(isW d=true->∃m e A r,d=webD m e A r/\m<=100/\e<=100/\due A (4*m+e) (k (.tup [sRt])) λx=>k (.tup [sOd,.int x]))
abbrev Jy:Stmt:=top 30
theorem Y8:FnScope ["_law_thing","_law_found","e"] ["_law_thing"] (Qb Jy):=⟨rfl,rfl,rfl,by decide +kernel,rfl,by decide +kernel,by decide +kernel⟩
def Qax:Tg:={ own:=λi=>i == 1 || i == 2,io:=[] }
def Qaj:WS:=(wSeq (wSet 1 (wTup (Qc (wC (.str (Str.ofString "right"))) wNil)))
 (wSeq (Qo8 Zr (Qc (wVar 0) wNil) isR 2 (wSeq (wSet 1 (wTup (Qc (Qr Zq (Qc (wVar 2) wNil)) wNil))) (wIf (wBl (wBin dEq (wVar 1) (wTup (Qc (wC (.str (Str.ofString "odd"))) wNil)))) (wSet 1 (wTup (Qc (wC (.str (Str.ofString "odd"))) (Qc (Qjn 2 (Str.ofString "arc") Qh1) wNil)))) Jn)))
 (wRet (Q0 (wVar 1)))))
theorem Qg7 {P:Program} {w:World} {K:PySem.W.Frag} {mg:Str->Option Value} {base:Heap} {f:Addr} (B:Bn K mg) (C_check_web:CalD P w K mg base "check_web" 6 ["thing"] (spXD K Zr)) (C__law_class:CalH P w K mg base "_law_class" 1 ["_law_error"] (spR K Zq)):∀(cdv:Value) (A:Around) (outer:List PySem.Env) (s:Shared) (H:Hp) (E:XK),Room 6 (A.deeper (envOfC "_law_told" (Qb Jy) s.heap.objs.size f cdv))->SVs (cxOf CX0 P w K mg base ["_law_thing","_law_found","e"] "_law_told" (Qb Jy) f cdv A outer s H E).nox Qax (Qn Jy) Qaj:=λcdv A outer s H E hr =>
  (Qi (Jp (i:=1) (Qs (Qa Ya Qf)) Y8.nd)
  (Qi (Qpg (j:=2) (cat:=isR) C_check_web (hr.mono (by decide)) ⟨rfl,rfl,rfl⟩ (Qa (Qd 0) Qf) B.h_TangleError.choose_spec.1 B.h_TangleError.choose_spec.2 (λea=>(Qjx (Qpf (i:=1) (Qnl (Qnm C__law_class (Qua hr (by decide) ea) (Qa (Qd 2) Qf))) Y8.nd) (Qo (Vf (Ys (Qgr hr.units) (Qd 1) (Qs (Qa Ya Qf))) (Qo (Jp (i:=1) (Qs (Qa Ya (Qa (Qnn (i:=2) (has:=Qh1) B.a_arc) Qf))) Y8.nd)) Jw)))) Y8.nd)
  (Qo (Jk (Qz (Qd 1))))))
theorem isR1:isR nNW=true:=by decide
theorem isR2:isR nOd=true:=by decide
theorem hf1:Qh1 nOd=true:=by decide
theorem Qel {P:Program} {w:World} {K:PySem.W.Frag} {mg:Str->Option Value} {base:Heap} {f:Addr} {fd:FuncData} (F:Fun K "_law_told" "_law_told" Jy f fd) (B:Bn K mg) (C1:CalD P w K mg base "check_web" 6 ["thing"] (spXD K Zr)) (C2:CalH P w K mg base "_law_class" 1 ["_law_error"] (spR K Zq)):FnOk P w K mg base CX0 7 f fd ["_law_thing"] (spR K Yf):=by
 refine Qb4 (T:=Qax) F Y8 rfl (by decide) (λds kk h=>?_) (Qg7 B C1 C2) (λds kk h=>?_)
 ·obtain ⟨d,rfl,_⟩:=h
  rfl
 ·obtain ⟨d,rfl,hd,h1,h2⟩:=h
  simp only [Qaj,wSeq,wSet,wTup,Qc,wC,wNil,List.length_cons,List.length_nil,Nat.zero_add,sz1,Qo8,env0,List.map_cons,List.map_nil,Nat.reduceAdd,List.replicate,List.cons_append,List.nil_append,List.set_cons_succ,List.set_cons_zero,wRet,Q0,Q8,Qr,wIf,Qjn,sz2,EndsP.un,true_and,Jn,r_bl,wBin,look,Ql,D.pure,Qg,Bool.and_self,Bool.and_true,Qdk,Q9,reduceIte,Bool.false_eq_true]
  refine ⟨d,rfl,hd,λhw=>?_,λhw=>?_⟩
  ·simp only [isR1,true_and]
   refine .inl ⟨[],rfl,by simp only [eqOk,Uf,Bool.and_true];decide +kernel,by simp only [eqOk,Uf,Bool.and_true];decide +kernel,λh=>?_,λ_=>⟨rfl,h1 hw⟩⟩
   injection h with h
   injection h with h
   injection h with h
   exact absurd h (by decide)
  ·obtain ⟨m,e,A,r,rfl,hm,he,q1,q2⟩:=h2 hw
   refine ⟨m,e,A,r,rfl,hm,he,λho=>?_,λx hx=>?_⟩
   ·simp only [true_and]
    exact q1 ho
   ·simp only [isR2,true_and]
    have lk:List.lookup (Str.ofString "arc") [(Str.ofString "arc",x)]=some x:=by simp [List.lookup]
    refine .inr ⟨_,rfl,by simp only [eqOk,Uf,Bool.and_true];decide +kernel,by simp only [eqOk,Uf,Bool.and_true];decide +kernel,λ_=>⟨hf1,?_⟩,λh=>absurd rfl h⟩
    rw [lk]
    exact q2 x hx
def Yw:GA:=λds k=>∃(ns:List Int) (i:Nat),ds=[.kls (ns.map .int),.int i]/\∀c:Int,k (.int c)
abbrev Jc:Stmt:=top 25
theorem Qa3:FnScope ["_law_script","_law_k"] ["_law_script","_law_k"] (Qb Jc):=⟨rfl,rfl,rfl,by decide +kernel,rfl,by decide +kernel,by decide +kernel⟩
def Uw:Tg:={ own:=λi=>false,io:=[] }
def Us:WS:=(wSeq (wIf (wBl (wBin (dCmp λi j=>decide (i<j)) (wVar 1) (Qr dLen (Qc (wVar 0) wNil)))) (wRet (Q0 (wBin dIx (wVar 0) (wVar 1)))) Jn)
 (wRet (wC (.int 0))))
theorem Qck {P:Program} {w:World} {K:PySem.W.Frag} {mg:Str->Option Value} {base:Heap} {f:Addr} (B:Bn K mg):∀(cdv:Value) (A:Around) (outer:List PySem.Env) (s:Shared) (H:Hp) (E:XK),Room 0 (A.deeper (envOfC "_law_cell_at" (Qb Jc) s.heap.objs.size f cdv))->SVs (cxOf CX0 P w K mg base ["_law_script","_law_k"] "_law_cell_at" (Qb Jc) f cdv A outer s H E).nox Uw (Qn Jc) Us:=λcdv A outer s H E hr =>
  (Qi (Vf (Ys Qqm (Qd 1) (Jd Vx B.nb_len Vy (Qa (Qd 0) Qf))) (Qo (Jk (Qz (Q4 (Q1 (Qw hr)) (Qd 0) (Qd 1))))) Jw)
  (Qo (Jk Qe)))
theorem Qbx {P:Program} {w:World} {K:PySem.W.Frag} {mg:Str->Option Value} {base:Heap} {f:Addr} {fd:FuncData} (F:Fun K "_law_cell_at" "_law_cell_at" Jc f fd) (B:Bn K mg):FnOk P w K mg base CX0 1 f fd ["_law_script","_law_k"] (spR K Yw):=by
 refine Qb4 (T:=Uw) F Qa3 rfl (by decide) (λds kk h=>?_) (Qck B) (λds kk h=>?_)
 ·obtain ⟨ns,i,rfl,_⟩:=h
  rfl
 ·obtain ⟨ns,i,rfl,k⟩:=h
  simp only [Us,wSeq,wIf,env0,List.map_cons,List.map_nil,List.length_cons,List.length_nil,Nat.zero_add,Nat.reduceAdd,List.cons_append,List.nil_append,wRet,Q0,wBin,Q8,Jn,wC,r_bl,Qr,Qc,wNil,look,Ql,Qce,X7,Zc,Q9]
  split
  ·rename_i h
   have h:(i:Int)<((ns.map D.int).length:Int):=by simpa using h
   have hi:i<ns.length:=by rw [List.length_map] at h;omega
   rw [Zb,List.getElem?_map,List.getElem?_eq_getElem hi]
   exact ⟨rfl,k _⟩
  ·exact k 0
theorem Qqx {s:Nat->D} {P:List (Int × List Nat)} {a:Int} {i:Nat} (nd:(P.map (·.1)).Nodup):∃l:List Nat,(l=[]\/∃e∈P,l=e.2)/\(valD (encP s P) (.inl a)).getD (.lst [])=.lst (l.map s) /\
  putD (encP s P) (.inl a) (.lst (l.map s++[s i]))=encP s (M.addP P a i):=by
 obtain ⟨l,hl,h1,h2⟩:=Qj0 (s:=s) (P:=P) (a:=a) (i:=i) nd
 cases hv:valD (encP s P) (.inl a) with
 | some d =>
  have e1:Zi (encP s P) (.inl a)=encP s P:=by unfold Zi;rw [hv];rfl
  rw [e1] at h1 h2
  rw [hv] at h1;cases h1
  exact ⟨l,hl,rfl,h2⟩
 | none =>
  have e1:Zi (encP s P) (.inl a)=encP s P++[((.inl a:Key),.lst [])]:=by unfold Zi;rw [hv];rfl
  rw [e1,Qat,hv] at h1
  simp at h1
  subst h1
  refine ⟨[],.inl rfl,rfl,?_⟩
  rw [← h2,e1,Qmt _ hv]
  have hno:∀kv∈encP s P,kv.1≠(.inl a:Key):=λkv hkv z=>by
   have:((encP s P).any λkv=>decide (kv.1=(.inl a:Key)))=true:=List.any_eq_true.mpr ⟨kv,hkv,decide_eq_true z⟩
   rw [Xo,hv] at this;cases this
  unfold putD
  rw [if_pos (by simp),List.map_append]
  congr 1
  ·conv=>lhs;rw [← List.map_id (encP s P)]
   apply List.map_congr_left
   intro kv hkv
   rw [if_neg (hno kv hkv)];rfl
  ·simp
def lenD:D->D
 | .lst xs=>.int xs.length
 | d=>d
theorem Qpa {f:D->D} {k:Key}:∀{l:List (Key × D)},valD (l.map λkv=>(kv.1,f kv.2)) k=(valD l k).map f:=by
 intro l
 unfold valD
 rw [List.find?_map,Option.map_map,Option.map_map]
 rfl
theorem Qpt {f:D->D} {k:Key} {d:D} {l:List (Key × D)}:putD (l.map λkv=>(kv.1,f kv.2)) k (f d)=(putD l k d).map λkv=>(kv.1,f kv.2):=by
 unfold putD
 rw [List.any_map]
 show (if (l.any λkv=>decide (kv.1=k))=true then _ else _)=_
 split
 ·rw [List.map_map,List.map_map]
  apply List.map_congr_left
  intro kv _
  simp only [Function.comp]
  split <;> rfl
 ·rw [List.map_append];rfl
def encC (P:List (Int × List Nat)):List (Key × D):=P.map λe=>((.inl e.1:Key),.int e.2.length)
theorem Qg1 {P:List (Int × List Nat)}:encC P=(encP (λ_=>D.non) P).map λkv=>(kv.1,lenD kv.2):=by
 unfold encC encP
 rw [List.map_map]
 apply List.map_congr_left
 intro e _
 simp [lenD]
theorem Qif {P:List (Int × List Nat)} {a:Int} {i:Nat} (nd:(P.map (·.1)).Nodup):∃n:Nat,(n=0\/∃e∈P,n=e.2.length)/\(valD (encC P) (.inl a)).getD (.int 0)=.int n/\putD (encC P) (.inl a) (.int ((n:Int)+1))=encC (M.addP P a i):=by
 obtain ⟨l,hl,h1,h2⟩:=Qqx (s:=λ_=>D.non) (P:=P) (a:=a) (i:=i) nd
 refine ⟨l.length,?_,?_,?_⟩
 ·rcases hl with rfl | ⟨e,he,rfl⟩
  ·exact .inl rfl
  ·exact .inr ⟨e,he,rfl⟩
 ·rw [Qg1,Qpa]
  cases hv:valD (encP (λ_=>D.non) P) (.inl a) with
  | none =>
   rw [hv] at h1
   simp at h1
   subst h1
   rfl
  | some d =>
   rw [hv] at h1
   have h1:d=D.lst (l.map λ_=>D.non):=h1
   subst h1
   simp [lenD]
 ·have e:D.int ((l.length:Int)+1)=lenD (.lst (l.map (λ_=>D.non)++[D.non])):=by simp [lenD]
  rw [Qg1,e,Qpt,h2,← Qg1]
theorem Qlw {α:Type} {L:List α} {a:α->D} {wt:WT} {we:WE} {ρ1:PV.Env} {ix:List Nat} {Q:D->PV.Env->Prop} (f:α->D) (p:α->Bool) (hz:L.length<sizeLine) (ht:∀t∈L,∀k:Bool->PV.Env->Prop,k (p t) (blkE ρ1 (a t) ix)->wt (blkE ρ1 (a t) ix) k)
  (he:∀t∈L,p t=true->∀Q':D->PV.Env->Prop,Q' (f t) (blkE ρ1 (a t) ix)->we (blkE ρ1 (a t) ix) Q') (hQ:Q (.lst ((L.filter p).map f)) ρ1):Qre (L.map a) wt we ρ1 ix Q:=by
 have hlen:∀i,(((L.take i).filter p).map f).length<=L.length:=λi=>by
  rw [List.length_map]
  exact Nat.le_trans (List.length_filter_le _ _) (by rw [List.length_take];omega)
 refine ⟨λi ys=>ys=((L.take i).filter p).map f,by simp,λi d ys hd hy=>⟨by rw [hy];exact Nat.lt_of_le_of_lt (hlen i) hz,?_⟩,λys hy=>⟨by rw [hy];exact Nat.le_of_lt (Nat.lt_of_le_of_lt (hlen _) hz),?_⟩⟩
 ·rw [List.getElem?_map] at hd
  obtain ⟨t,htt,hd⟩:=Option.map_eq_some_iff.mp hd
  subst hd
  have hs:=Qhg (p:=p) htt
  have hm:=List.mem_of_getElem? htt
  refine ht t hm _ ?_
  cases hp:p t with
  | true =>
   rw [if_pos rfl]
   refine he t hm hp _ ?_
   show ys++[f t]=((L.take (i+1)).filter p).map f
   rw [hs,hy,hp,if_pos rfl,List.map_append];rfl
  | false =>
   rw [if_neg (by decide)]
   show ys=((L.take (i+1)).filter p).map f
   rw [hs,hy,hp,if_neg (by decide),List.append_nil]
 ·rw [hy,List.length_map,List.take_of_length_le (Nat.le_refl _)];exact hQ
theorem Qh9:∀{P:List (Int × List Nat)} {t:Int × List Nat},(P.map (·.1)).Nodup->t∈P->valD (encC P) (.inl t.1)=some (.int t.2.length)
 | p::P,t,nd,ht=>by
  show valD (((.inl p.1:Key),D.int p.2.length)::encC P) _=_
  rw [Yr]
  rcases List.mem_cons.mp ht with rfl | h
  ·rw [if_pos rfl]
  ·have hne:p.1≠t.1:=λz=>(List.nodup_cons.mp nd).1 (show p.1∈P.map (·.1) from by rw [z];exact List.mem_map_of_mem (f:=(·.1)) h)
   rw [if_neg (λz=>hne (by injection z))]
   exact Qh9 (List.nodup_cons.mp nd).2 h
theorem Qia {A:Nat->Int} {t:Nat}:(encC (M.plc A t)).length<=t:=by unfold encC;rw [List.length_map];exact Qbu A t
def dueD (A:Nat->Int) (n:Nat) (k:D->Prop):Prop:=due A n (k (.tup [sRt])) λx=>k (.tup [sOd,.int x])
def Vb:GA:=λds k=>∃m e A r,ds=[webD m e A r]/\m<=100/\e<=100/\dueD A (4*m+e) k
abbrev J6:Stmt:=top 31
theorem Y3:FnScope ["_law_web_here","_law_counts","_law_crossing","_law_arc","_law_odd"] ["_law_web_here"] (Qb J6):=⟨rfl,rfl,rfl,by decide +kernel,rfl,by decide +kernel,by decide +kernel⟩
def Qcw:Tg:={ own:=λi=>i == 1 || i == 2 || i == 3 || i == 4,io:=[] }
def Qcp:WS:=(wSeq (wSet 1 (wC (.dik [])))
 (wSeq (wFor (Qdc (Q0 (wBin dIx (wVar 0) (wC (.int 0))))) (gN 2) (wFor (Qdc (Q0 (wVar 2))) (gN 3) (Y0 1 (wBin Yb (U2 (wVar 1) (wVar 3) (wC (.int 0))) (wC (.int 1))) (wVar 3))))
 (wSeq (wFor (Qdc (Q0 (wBin dIx (wVar 0) (wC (.int 1))))) (gN 3) (Y0 1 (wBin Yb (U2 (wVar 1) (wVar 3) (wC (.int 0))) (wC (.int 1))) (wVar 3)))
 (wSeq (wSet 4 (Qdd (Ut 1) (wBl (wBin dNe (wBin dIx (wVar 1) (wVar 0)) (wC (.int 2)))) (Q0 (wVar 0)) [1]))
 (wSeq (wIf (wBl (wBin (dCmp λi j=>decide (j<i)) (Qr dLen (Qc (wVar 4) wNil)) (wC (.int 0)))) (wRet (wTup (Qc (wC (.str (Str.ofString "odd"))) (Qc (Qr Qnv (Qc (wVar 4) wNil)) wNil)))) Jn)
 (wRet (wTup (Qc (wC (.str (Str.ofString "right"))) wNil))))))))
theorem Qjj {P:Program} {w:World} {K:PySem.W.Frag} {mg:Str->Option Value} {base:Heap} {f:Addr} (B:Bn K mg):∀(cdv:Value) (A:Around) (outer:List PySem.Env) (s:Shared) (H:Hp) (E:XK),Room 0 (A.deeper (envOfC "_law_due" (Qb J6) s.heap.objs.size f cdv))->SVs (cxOf CX0 P w K mg base ["_law_web_here","_law_counts","_law_crossing","_law_arc","_law_odd"] "_law_due" (Qb J6) f cdv A outer s H E).nox Qcw (Qn J6) Qcp:=λcdv A outer s H E hr =>
  (Qi (Jp (i:=1) Qh5 Y3.nd)
  (Qi (X2 PassesOwn.never (Qb1 (Qz (Q4 (Q1 (Qw hr)) (Qd 0) Qe))) (Yl (i:=2) Y3.nd) (Qo (X2 PassesOwn.never (Qb1 (Qz (Qd 2))) (Yl (i:=3) Y3.nd) (Qo (Ui (i:=1) (Qw hr) (Qx Q3 (Qle (Qw hr) (Qd 1) (Qd 3) Qe) Qe) (Qd 3))))))
  (Qi (X2 PassesOwn.never (Qb1 (Qz (Q4 (Q1 (Qw hr)) (Qd 0) Qe))) (Yl (i:=3) Y3.nd) (Qo (Ui (i:=1) (Qw hr) (Qx Q3 (Qle (Qw hr) (Qd 1) (Qd 3) Qe) Qe) (Qd 3))))
  (Qi (Qhi (j:=4) (Qb8 [1] (Qnh (s:=1)) (λ_ _ _ _ _=>Qoy (Ys (Qiz hr.units) (Q4 (Q1 (Qw hr)) (Qd 1) (Qd 0)) Qe)) (λ_ _ _ _ _=>(Qz (Qd 0)))) (Vq (Qb J6) ["_law_web_here","_law_counts","_law_crossing","_law_arc","_law_odd"] (by decide +kernel)) Y3.nd)
  (Qi (Vf (Ys Qkk (Jd Vx B.nb_len Vy (Qa (Qd 4) Qf)) Qe) (Qo (Jk (Qs (Qa Ya (Qa (Jd (Qlz rfl) B.nb_min Qo1 (Qa (Qd 4) Qf)) Qf))))) Jw)
  (Qo (Jk (Qs (Qa Ya Qf)))))))))
theorem Qgq {P:Program} {w:World} {K:PySem.W.Frag} {mg:Str->Option Value} {base:Heap} {f:Addr} {fd:FuncData} (F:Fun K "_law_due" "_law_due" J6 f fd) (B:Bn K mg):FnOk P w K mg base CX0 1 f fd ["_law_web_here"] (spR K Vb):=by
 refine Qb4 (T:=Qcw) F Y3 rfl (by decide) (λds kk h=>?_) (Qjj B) (λds kk h=>?_)
 ·obtain ⟨m,e,A,r,rfl,_⟩:=h
  rfl
 ·obtain ⟨m,e,A,r,rfl,hm,he,q1,q2⟩:=h
  simp only [Qcp,wSeq,wSet,wC,env0,webD,List.map_cons,List.map_nil,List.length_cons,List.length_nil,Nat.zero_add,Nat.reduceAdd,List.replicate,List.cons_append,List.nil_append,List.set_cons_succ,List.set_cons_zero,V7,U8,Q0,wBin,Q8,look,Ql,Z8,Zt,List.getElem?_cons_zero,D.pure,Vt]
  have pc:Qg ((List.range m).map λk=>D.tup ((List.range 4).map λj=>.int (A (4*k+j))))=true:=Qp λ_ _=>by simp only [D.pure];exact Qp λ_ _=>rfl
  have pe:Qg ((List.range e).map λj=>D.int (A (4*m+j)))=true:=Qp λ_ _=>rfl
  refine ⟨pc,pc,pc,λt ρ=>∃o2 o3:Option D,ρ=[some (webD m e A r),some (.dik (encC (M.plc A (4*t)))),o2,o3,none],⟨none,none,rfl⟩,?_,?_⟩
  ·rintro i d ρ hd ⟨o2,o3,rfl⟩
   have hi:i<m:=by
    have:=(List.getElem?_eq_some_iff.mp hd).1
    simpa using this
   rw [List.getElem?_map,List.getElem?_range hi] at hd
   have hd:=(Option.some.inj hd).symm
   subst hd
   have pi:Qg ((List.range 4).map λj=>D.int (A (4*i+j)))=true:=Qp λ_ _=>rfl
   simp only [gN,List.set_cons_succ,List.set_cons_zero,V7,U8,Q0,Q8,look,Ql,D.pure,Vt]
   refine ⟨pi,pi,pi,λj ρ=>∃o3:Option D,ρ=[some (webD m e A r),some (.dik (encC (M.plc A (4*i+j)))),some (crD A i),o3,none],⟨o3,by simp [crD]⟩,?_,?_⟩
   ·rintro j d ρ hd ⟨o3,rfl⟩
    have hj:j<4:=by
     have:=(List.getElem?_eq_some_iff.mp hd).1
     simpa using this
    rw [List.getElem?_map,List.getElem?_range hj] at hd
    have hd:=(Option.some.inj hd).symm
    subst hd
    obtain ⟨k1,k2,_⟩:=M.Qcy A (4*i+j)
    obtain ⟨n,hn0,v1,v2⟩:=Qif (P:=M.plc A (4*i+j)) (a:=A (4*i+j)) (i:=4*i+j) k1
    simp only [gN,Y0,wBin,U2,List.set_cons_succ,List.set_cons_zero,wC,D.pure,Q8,true_and,look,Option.isSome_some,Ql,Vi,Xb,Xc,v1,Y1]
    have hz:=Qia (A:=A) (t:=4*i+j)
    exact ⟨big (by omega),some (.int (A (4*i+j))),by rw [v2,← M.Xe,Nat.add_assoc]⟩
   ·rintro ρ ⟨o3,rfl⟩
    exact ⟨some (crD A i),o3,by simp [Nat.mul_add]⟩
  ·rintro ρ ⟨o2,o3,rfl⟩
   have hl:((List.range m).map λk=>D.tup ((List.range 4).map λj=>.int (A (4*k+j)))).length=m:=by simp
   rw [hl]
   simp only [wSeq,webD,V7,U8,Q0,wBin,wC,Q8,look,Ql,Z8,Uq,List.getElem?_cons_succ,List.getElem?_cons_zero,D.pure,Vt]
   refine ⟨pe,pe,pe,λj ρ=>∃o3:Option D,ρ=[some (webD m e A r),some (.dik (encC (M.plc A (4*m+j)))),o2,o3,none],⟨o3,by simp [webD]⟩,?_,?_⟩
   ·rintro j d ρ hd ⟨o3,rfl⟩
    have hj:j<e:=by
     have:=(List.getElem?_eq_some_iff.mp hd).1
     simpa using this
    rw [List.getElem?_map,List.getElem?_range hj] at hd
    have hd:=(Option.some.inj hd).symm
    subst hd
    obtain ⟨k1,k2,_⟩:=M.Qcy A (4*m+j)
    obtain ⟨n,hn0,v1,v2⟩:=Qif (P:=M.plc A (4*m+j)) (a:=A (4*m+j)) (i:=4*m+j) k1
    simp only [gN,Y0,wBin,U2,List.set_cons_succ,List.set_cons_zero,wC,D.pure,Q8,true_and,look,Option.isSome_some,Ql,Vi,Xb,Xc,v1,Y1]
    have hz:=Qia (A:=A) (t:=4*m+j)
    exact ⟨big (by omega),some (.int (A (4*m+j))),by rw [v2,← M.Xe,Nat.add_assoc]⟩
   ·rintro ρ ⟨o3,rfl⟩
    have hl:((List.range e).map λj=>D.int (A (4*m+j))).length=e:=by simp
    rw [hl]
    simp only [wSeq,wSet,wIf,wRet,wTup,Qc,wC,Qr,wNil,List.length_cons,List.length_nil,Nat.zero_add,Nat.reduceAdd,sz2,true_and,Q8,Jn,sz1,r_bl,wBin,Z9,Ut,look,List.set_cons_succ,List.set_cons_zero,Ql,Qab]
    have ek:Xx (encC (M.plc A (4*m+e)))=(M.plc A (4*m+e)).map λt=>D.int t.1:=by
     unfold Xx encC
     rw [List.map_map]
     rfl
    rw [ek]
    obtain ⟨k1,k2,_⟩:=M.Qcy A (4*m+e)
    have hpl:=Qbu A (4*m+e)
    refine Qlw (L:=M.plc A (4*m+e)) (a:=λt=>.int t.1) (λt=>.int t.1) (λt=>decide (t.2.length≠2)) (big (by omega)) (λt ht k hk=>?_) (λt ht hp Q' hQ=>?_) ?_
    ·simp only [blkE,List.map_cons,look,List.map_nil,r_bl,wBin,wC,Q8,Ql,V8,Qh9 k1 ht,Xs,Q9]
     have e2:(!decide ((t.2.length:Int)=2))=decide (t.2.length≠2):=by
      by_cases z:t.2.length=2
      ·simp [z]
      ·have:¬((t.2.length:Int)=2):=by omega
       simp [z,this]
     first | (rw [e2];exact hk) | (simp only [e2];exact hk)
    ·simp only [Q0,blkE,List.map_cons,look,List.map_nil,Q8,Ql,D.pure,true_and]
     exact hQ
    ·simp only [List.set_cons_succ,List.set_cons_zero,look,Ql,Qhm,Vu,Zc,Q9]
     have e3:((M.plc A (4*m+e)).filter λt=>decide (t.2.length≠2)).map (λt=>D.int t.1)=(odds A (4*m+e)).map D.int:=by
      unfold odds
      rw [List.map_map]
      rfl
     rw [e3]
     cases ho:odds A (4*m+e) with
     | nil=>exact q1 ho
     | cons x xs =>
      have:(0:Int)<(((x::xs).map D.int).length:Int):=by first | (simp;done) | (simp;omega)
      simp only [this,decide_true,if_true]
      exact ⟨x::xs,rfl,by simp,λM hM hb=>q2 M ⟨by rw [ho];exact hM,λy hy=>by rw [ho] at hy;exact hb y hy⟩⟩
end K01
namespace K01
open PySem PySem.Spec L2 PV
open PyProof.Rows (envOfC)
theorem Qad {xs:List D} (hl:xs.length<=1000) (hp:Qg xs=true) (h:∀x∈xs,El x):R1 (.tup xs):=⟨.tup _,λys e=>by cases e;exact ⟨hl,hp,h⟩⟩
theorem Qfe {d:D} (h:El d) (hn:∀xs,d ≠ .tup xs):R1 d:=⟨h,λxs e=>absurd e (hn xs)⟩
theorem Qmc {xs:List D} (hl:xs.length<=1000) (hp:Qg xs=true) (h:∀x∈xs,R1 x):R2 (.tup xs):=⟨.tup _,λys e=>by cases e;exact ⟨hl,hp,h⟩⟩
theorem Qo6 {d:D} (h:El d) (hn:∀xs,d ≠ .tup xs):R2 d:=⟨h,λxs e=>absurd e (hn xs)⟩
theorem Qc9 {a b c:D} (hp:Qg [a,b,c]=true) (ha:R2 a) (hb:R1 b) (hc:El c):R3 (.tup [a,b,c]):=⟨.tup _,by simpa [D.pure] using hp,λx y z e=>by cases e;exact ⟨ha,hb,hc⟩⟩
theorem U1 {d:D} (h:El d) (hp:d.pure=true) (hn:∀a b c,d ≠ .tup [a,b,c]):R3 d:=⟨h,hp,λa b c e=>absurd e (hn a b c)⟩
def webG (m e:Nat) (F:Nat->D) (r:D):D:=.tup [.tup ((List.range m).map λk=>.tup ((List.range 4).map λj=>F (4*k+j))),.tup ((List.range e).map λj=>F (4*m+j)),r]
theorem Qda {m e:Nat} {A:Nat->Int} {r:Int}:webG m e (λi=>.int (A i)) (.int r)=webD m e A r:=rfl
theorem mapR {n:Nat} {F:Nat->D} {p:D->Bool}:((List.range n).map F).all p=true↔∀j,j<n->p (F j)=true:=by
 simp [List.all_eq_true]
theorem Qjm {m e:Nat} {F:Nat->D} {r:D} (hF:∀i,i<4*m+e->(F i).pure=true) (hr:r.pure=true):Qg [.tup ((List.range m).map λk=>.tup ((List.range 4).map λj=>F (4*k+j))),.tup ((List.range e).map λj=>F (4*m+j)),r]=true:=by
 refine Q5.mpr λx hx=>?_
 simp only [List.mem_cons,List.mem_nil_iff,or_false] at hx
 rcases hx with rfl | rfl | rfl
 ·simp only [D.pure]
  refine Q5.mpr λx hx=>?_
  obtain ⟨k,hk,rfl⟩:=List.mem_map.mp hx
  have hk:=List.mem_range.mp hk
  simp only [D.pure]
  refine Q5.mpr λx hx=>?_
  obtain ⟨j,hj,rfl⟩:=List.mem_map.mp hx
  have hj:=List.mem_range.mp hj
  exact hF _ (by omega)
 ·simp only [D.pure]
  refine Q5.mpr λx hx=>?_
  obtain ⟨j,hj,rfl⟩:=List.mem_map.mp hx
  have hj:=List.mem_range.mp hj
  exact hF _ (by omega)
 ·exact hr
theorem Qfi {m e:Nat} {F:Nat->D} {r:D} (hm:m<=100) (he:e<=100) (hF:∀i,i<4*m+e->El (F i)/\(F i).pure=true) (hr:El r) (hrp:r.pure=true):R3 (webG m e F r):=by
 have hp:=Qjm (m:=m) (e:=e) (F:=F) (r:=r) (λi hi=>(hF i hi).2) hrp
 have hp':=Q5.mp hp
 refine Qc9 hp (Qmc (by simp;omega) (by simpa [D.pure] using hp' _ (List.mem_cons_self ..)) λx hx=>?_) (Qad (by simp;omega) (by simpa [D.pure] using hp' _ (List.mem_cons_of_mem _ (List.mem_cons_self ..))) λx hx=>?_) hr
 ·obtain ⟨k,hk,rfl⟩:=List.mem_map.mp hx
  have hk:=List.mem_range.mp hk
  refine Qad (by simp) (Q5.mpr λx hx=>?_) λx hx=>?_
  ·obtain ⟨j,hj,rfl⟩:=List.mem_map.mp hx
   have hj:=List.mem_range.mp hj
   exact (hF _ (by omega)).2
  ·obtain ⟨j,hj,rfl⟩:=List.mem_map.mp hx
   have hj:=List.mem_range.mp hj
   exact (hF _ (by omega)).1
 ·obtain ⟨j,hj,rfl⟩:=List.mem_map.mp hx
  have hj:=List.mem_range.mp hj
  exact (hF _ (by omega)).1
theorem Qdb {m e:Nat} {F:Nat->D} {r:D}:isW (webG m e F r)=true↔(∀i,i<4*m+e->cnt (F i)=true)/\cnt r=true:=by
 unfold webG isW
 simp only [Bool.and_eq_true,rows,arcs,mapR,cro]
 constructor
 ·rintro ⟨h1,h2,h3⟩
  refine ⟨λi hi=>?_,h3⟩
  by_cases hk:i<4*m
  ·have:=(h1 (i / 4) (by omega)).1 (i % 4) (by omega)
   rwa [show 4*(i / 4)+i % 4=i by omega] at this
  ·have:=h2 (i-4*m) (by omega)
   rwa [show 4*m+(i-4*m)=i by omega] at this
 ·rintro ⟨h1,h3⟩
  exact ⟨λk hk=>⟨λj hj=>h1 _ (by omega),by simp⟩,λj hj=>h1 _ (by omega),h3⟩
theorem Qdh {L:List D} {n:Nat} {y:D} (h:n<L.length):L.take n++[y]++L.drop (n+1)=L.set n y:=by
 rw [List.set_eq_take_append_cons_drop,if_pos h,List.append_assoc];rfl
theorem Qdg {n t:Nat} {F:Nat->D} {y:D} (h:t<n):((List.range n).map F).set t y=(List.range n).map λj=>if j=t then y else F j:=by
 apply List.ext_getElem?
 intro i
 rw [List.getElem?_set,List.getElem?_map,List.getElem?_map]
 by_cases hi:i<n
 ·rw [List.getElem?_range hi]
  by_cases z:t=i
  ·subst z;simp [h]
  ·simp [z,Ne.symm z]
 ·rw [List.getElem?_eq_none (by simpa using Nat.le_of_not_lt hi)]
  by_cases z:t=i
  ·omega
  ·simp [z]
theorem Yu {xs ys:List D} (h:Qg xs=true) (hs:∀y∈ys,y∈xs):Qg ys=true:=Q5.mpr λy hy=>Q5.mp h y (hs y hy)
def Va:GA:=λds k=>∃(m e:Nat) (A:Nat->Int) (r:Int) (t:Nat) (x:D),ds=[webD m e A r,.int t,x]/\t<4*m+e/\m<=100/\e<=100/\x.pure=true/\k (webG m e (λi=>if i=t then x else .int (A i)) (.int r))
abbrev Ye:Stmt:=top 32
theorem Vh:FnScope ["_law_web_here","_law_at","_law_arc","_law_many","_law_crossing"] ["_law_web_here","_law_at","_law_arc"] (Qb Ye):=⟨rfl,rfl,rfl,by decide +kernel,rfl,by decide +kernel,by decide +kernel⟩
def Qcv:Tg:={ own:=λi=>i == 3 || i == 4,io:=[] }
def Qco:WS:=(wSeq (wSet 3 (wBin dMul (wC (.int 4)) (Qr dLen (Qc (wBin dIx (wVar 0) (wC (.int 0))) wNil))))
 (wSeq (wIf (wBl (wBin (dCmp λi j=>decide (j<=i)) (wVar 1) (wVar 3))) (wRet (wTup (Qc (Q0 (wBin dIx (wVar 0) (wC (.int 0)))) (Qc (wBin Yb (wBin Yb (wSlT (wBin dIx (wVar 0) (wC (.int 1))) Zh (Vz (wBin dSub (wVar 1) (wVar 3)))) (wTup (Qc (wVar 2) wNil))) (wSlT (wBin dIx (wVar 0) (wC (.int 1))) (Vz (wBin Yb (wBin dSub (wVar 1) (wVar 3)) (wC (.int 1)))) Zh)) (Qc (Q0 (wBin dIx (wVar 0) (wC (.int 2)))) wNil))))) Jn)
 (wSeq (wSet 4 (Q0 (wBin dIx (wBin dIx (wVar 0) (wC (.int 0))) (wBin Qe4 (wVar 1) (wC (.int 4))))))
 (wSeq (wSet 4 (wBin Yb (wBin Yb (wSlT (wVar 4) Zh (Vz (wBin dMod (wVar 1) (wC (.int 4))))) (wTup (Qc (wVar 2) wNil))) (wSlT (wVar 4) (Vz (wBin Yb (wBin dMod (wVar 1) (wC (.int 4))) (wC (.int 1)))) Zh)))
 (wRet (wTup (Qc (wBin Yb (wBin Yb (wSlT (wBin dIx (wVar 0) (wC (.int 0))) Zh (Vz (wBin Qe4 (wVar 1) (wC (.int 4))))) (wTup (Qc (wVar 4) wNil))) (wSlT (wBin dIx (wVar 0) (wC (.int 0))) (Vz (wBin Yb (wBin Qe4 (wVar 1) (wC (.int 4))) (wC (.int 1)))) Zh)) (Qc (Q0 (wBin dIx (wVar 0) (wC (.int 1)))) (Qc (Q0 (wBin dIx (wVar 0) (wC (.int 2)))) wNil)))))))))
theorem Qji {P:Program} {w:World} {K:PySem.W.Frag} {mg:Str->Option Value} {base:Heap} {f:Addr} (B:Bn K mg):∀(cdv:Value) (A:Around) (outer:List PySem.Env) (s:Shared) (H:Hp) (E:XK),Room 0 (A.deeper (envOfC "_law_put" (Qb Ye) s.heap.objs.size f cdv))->SVs (cxOf CX0 P w K mg base ["_law_web_here","_law_at","_law_arc","_law_many","_law_crossing"] "_law_put" (Qb Ye) f cdv A outer s H E).nox Qcv (Qn Ye) Qco:=λcdv A outer s H E hr =>
  (Qi (Jp (i:=3) (Qx Zg Qe (Jd Vx B.nb_len Vy (Qa (Q4 (Q1 (Qw hr)) (Qd 0) Qe) Qf))) Vh.nd)
  (Qi (Vf (Ys Qsp (Qd 1) (Qd 3)) (Qo (Jk (Qs (Qa (Qz (Q4 (Q1 (Qw hr)) (Qd 0) Qe)) (Qa (Qx Q3 (Qx Q3 (Z1 (Q4 (Q1 (Qw hr)) (Qd 0) Qe) Ze (Yg (Qx Qho (Qd 1) (Qd 3)))) (Qs (Qa (Qd 2) Qf))) (Z1 (Q4 (Q1 (Qw hr)) (Qd 0) Qe) (Yg (Qx Q3 (Qx Qho (Qd 1) (Qd 3)) Qe)) Ze)) (Qa (Qz (Q4 (Q1 (Qw hr)) (Qd 0) Qe)) Qf)))))) Jw)
  (Qi (Jp (i:=4) (Qz (Q4 (Q1 (Qw hr)) (Q4 (Q1 (Qw hr)) (Qd 0) Qe) (Qx Xv (Qd 1) Qe))) Vh.nd)
  (Qi (Jp (i:=4) (Qx Q3 (Qx Q3 (Z1 (Qd 4) Ze (Yg (Qx Qby (Qd 1) Qe))) (Qs (Qa (Qd 2) Qf))) (Z1 (Qd 4) (Yg (Qx Q3 (Qx Qby (Qd 1) Qe) Qe)) Ze)) Vh.nd)
  (Qo (Jk (Qs (Qa (Qx Q3 (Qx Q3 (Z1 (Q4 (Q1 (Qw hr)) (Qd 0) Qe) Ze (Yg (Qx Xv (Qd 1) Qe))) (Qs (Qa (Qd 4) Qf))) (Z1 (Q4 (Q1 (Qw hr)) (Qd 0) Qe) (Yg (Qx Q3 (Qx Xv (Qd 1) Qe) Qe)) Ze)) (Qa (Qz (Q4 (Q1 (Qw hr)) (Qd 0) Qe)) (Qa (Qz (Q4 (Q1 (Qw hr)) (Qd 0) Qe)) Qf))))))))))
theorem Qgp {P:Program} {w:World} {K:PySem.W.Frag} {mg:Str->Option Value} {base:Heap} {f:Addr} {fd:FuncData} (F:Fun K "_law_put" "_law_put" Ye f fd) (B:Bn K mg):FnOk P w K mg base CX0 1 f fd ["_law_web_here","_law_at","_law_arc"] (spR K Va):=by
 refine Qb4 (T:=Qcv) F Vh rfl (by decide) (λds kk h=>?_) (Qji B) (λds kk h=>?_)
 ·obtain ⟨m,e,A,r,t,x,rfl,_⟩:=h
  rfl
 ·obtain ⟨m,e,A,r,t,x,rfl,ht,hm,he,hx,k⟩:=h
  simp only [Qco,wSeq,wSet,wBin,wC,Qr,Qc,env0,webD,List.map_cons,List.map_nil,List.length_cons,List.length_nil,Nat.zero_add,Nat.reduceAdd,List.replicate,List.cons_append,List.nil_append,wNil,wIf,wRet,wTup,Q0,wSlT,Zh,sz1,sz3,true_and,Q8,Z6,Jn,r_bl,look,List.set_cons_succ,List.set_cons_zero,Ql,Z8,Xz,List.getElem?_cons_succ,List.getElem?_cons_zero,D.pure,Uq,Vw,Zd,Qg,Bool.and_true,Zt,Int.reduceLT,Zo,Y1,Yt,V6,Z7,List.length_map,List.length_range,Int.reduceNeg,Zf,Qcd,Zc,Q9]
  have pc:Qg ((List.range m).map λk=>D.tup ((List.range 4).map λj=>.int (A (4*k+j))))=true:=Qp λ_ _=>by simp only [D.pure];exact Qp λ_ _=>rfl
  have pe:Qg ((List.range e).map λj=>D.int (A (4*m+j)))=true:=Qp λ_ _=>rfl
  by_cases h4:4*m<=t
  ·rw [if_pos (decide_eq_true (show 4*(m:Int)<=(t:Int) by omega))]
   obtain ⟨s,rfl⟩:∃s,t=4*m+s:=⟨t-4*m,by omega⟩
   have hs:s<e:=by omega
   rw [show ((4*m+s:Nat):Int)-4*(m:Int)=(s:Int) by omega,show (s:Int)+1=((s+1:Nat):Int) by omega,Qlt,Xk (by simp;omega)]
   have e1:webG m e (λi=>if i=4*m+s then x else .int (A i)) (.int r)=.tup [.tup ((List.range m).map λk=>.tup ((List.range 4).map λj=>.int (A (4*k+j)))),.tup (((List.range e).map λj=>D.int (A (4*m+j))).set s x),.int r]:=by
    unfold webG
    rw [Qdg hs]
    congr 2
    ·congr 1
     apply List.map_congr_left
     intro k hk
     have hk:=List.mem_range.mp hk
     congr 1
     apply List.map_congr_left
     intro j hj
     have hj:=List.mem_range.mp hj
     show (if 4*k+j=4*m+s then x else D.int (A (4*k+j)))=_
     rw [if_neg (by omega)]
    ·congr 2
     apply List.map_congr_left
     intro j hj
     show (if 4*m+j=4*m+s then x else D.int (A (4*m+j)))=if j=s then x else _
     by_cases z:j=s
     ·rw [if_pos (by omega),if_pos z]
     ·rw [if_neg (by omega),if_neg z]
   have hp1:Qg (((List.range e).map λj=>D.int (A (4*m+j))).take s)=true:=Yu pe λy hy=>List.mem_of_mem_take hy
   have hp2:Qg (((List.range e).map λj=>D.int (A (4*m+j))).drop (s+1))=true:=Yu pe λy hy=>List.mem_of_mem_drop hy
   refine ⟨pc,pe,hp1,hx,?_,pe,?_,hp2,?_,?_⟩
   ·simp;exact Nat.le_of_lt (big (by omega))
   ·refine Q5.mpr λy hy=>?_
    rcases List.mem_append.mp hy with hy | hy
    ·exact Q5.mp hp1 y hy
    ·rw [List.mem_singleton.mp hy];exact hx
   ·simp;exact Nat.le_of_lt (big (by omega))
   ·rw [Qdh (by simp;omega),← e1]
    exact k
  ·rw [if_neg (by simp;omega)]
   obtain ⟨q,s,hq,hs,rfl⟩:∃q s,q<m/\s<4/\t=4*q+s:=⟨t / 4,t % 4,by omega,by omega,by omega⟩
   rw [show ((4*q+s:Nat):Int) / 4=(q:Int) by omega,show ((4*q+s:Nat):Int) % 4=(s:Int) by omega,show (s:Int)+1=((s+1:Nat):Int) by omega,show (q:Int)+1=((q+1:Nat):Int) by omega,Zb,List.getElem?_map,List.getElem?_range hq]
   simp only [Option.map_some,Qlt,Xk (show q+1<=((List.range m).map λk=>D.tup ((List.range 4).map λj=>.int (A (4*k+j)))).length by simp;omega),Ql,D.pure,Vw,Xk (show s+1<=((List.range 4).map λj=>D.int (A (4*q+j))).length by simp;omega),Zd,Qg,Bool.and_true,List.length_cons,List.length_nil,Nat.zero_add]
   have p4:Qg ((List.range 4).map λj=>D.int (A (4*q+j)))=true:=Qp λ_ _=>rfl
   have hp1:Qg (((List.range 4).map λj=>D.int (A (4*q+j))).take s)=true:=Yu p4 λy hy=>List.mem_of_mem_take hy
   have hp2:Qg (((List.range 4).map λj=>D.int (A (4*q+j))).drop (s+1))=true:=Yu p4 λy hy=>List.mem_of_mem_drop hy
   have app:∀{xs ys:List D},Qg xs=true->Qg ys=true->Qg (xs++ys)=true:=λh1 h2=>Q5.mpr λy hy=>(List.mem_append.mp hy).elim (Q5.mp h1 y) (Q5.mp h2 y)
   have one:∀{y:D},y.pure=true->Qg [y]=true:=λh=>by simp [Qg,h]
   have hp3:=app (app hp1 (one hx)) hp2
   have hq1:Qg (((List.range m).map λk=>D.tup ((List.range 4).map λj=>.int (A (4*k+j)))).take q)=true:=Yu pc λy hy=>List.mem_of_mem_take hy
   have hq2:Qg (((List.range m).map λk=>D.tup ((List.range 4).map λj=>.int (A (4*k+j)))).drop (q+1))=true:=Yu pc λy hy=>List.mem_of_mem_drop hy
   have hq3:=app hq1 (one (y:=.tup ((((List.range 4).map λj=>D.int (A (4*q+j))).take s++[x])++((List.range 4).map λj=>D.int (A (4*q+j))).drop (s+1))) (by simpa [D.pure] using hp3))
   have e1:webG m e (λi=>if i=4*q+s then x else .int (A i)) (.int r)=.tup [.tup (((List.range m).map λk=>D.tup ((List.range 4).map λj=>.int (A (4*k+j)))).set q (.tup (((List.range 4).map λj=>D.int (A (4*q+j))).set s x))),.tup ((List.range e).map λj=>D.int (A (4*m+j))),.int r]:=by
    unfold webG
    rw [Qdg hq,Qdg hs]
    congr 2
    ·congr 1
     apply List.map_congr_left
     intro c hc
     have hc:=List.mem_range.mp hc
     by_cases z:c=q
     ·subst z
      rw [if_pos rfl]
      congr 1
      apply List.map_congr_left
      intro j hj
      show (if 4*c+j=4*c+s then x else D.int (A (4*c+j)))=if j=s then x else _
      by_cases z:j=s
      ·rw [if_pos (by omega),if_pos z]
      ·rw [if_neg (by omega),if_neg z]
     ·rw [if_neg z]
      congr 1
      apply List.map_congr_left
      intro j hj
      have hj:=List.mem_range.mp hj
      show (if 4*c+j=4*q+s then x else D.int (A (4*c+j)))=_
      rw [if_neg (by omega)]
    ·congr 2
     apply List.map_congr_left
     intro j hj
     show (if 4*m+j=4*q+s then x else D.int (A (4*m+j)))=_
     rw [if_neg (by omega)]
   rw [e1,← Qdh (L:=(List.range 4).map λj=>D.int (A (4*q+j))) (by simp;omega),← Qdh (by simp;omega)] at k
   repeat' apply And.intro
   all_goals first
    | assumption
    | exact app hp1 (one hx)
    | (simp;exact Nat.le_of_lt (big (by omega)))
    | skip
   done
end K01
namespace K01
open PySem PySem.Spec L2 PV
open PyProof.Rows (envOfC)
theorem Qr0 {α:Type} {f:Nat->α}:(List.range 4).map f=[f 0,f 1,f 2,f 3]:=rfl
theorem cutA {a b c d:D}:cutD [a,b,c,d] none (some 1)=[a]:=rfl
theorem cutB {a b c d:D}:cutD [a,b,c,d] none (some 3)=[a,b,c]:=rfl
theorem Qkb {L:List D} {r:Int} (h0:0<=r) (h1:r<(L.length:Int)):∃x,L2.atI L r=some x/\x∈L:=by
 obtain ⟨n,rfl⟩:=Int.eq_ofNat_of_zero_le h0
 have hn:n<L.length:=by omega
 exact ⟨_,by rw [Zb,List.getElem?_eq_getElem hn],List.getElem_mem hn⟩
theorem Qmb {m e:Nat} {A:Nat->Int} {r:Int} {t:Nat} {y:D} (hm:m<=100) (he:e<=100) (ht:t<m) (h1:R1 y) (hp:y.pure=true) (hb:cro y=false) :
  R3 (.tup [.tup (((List.range m).map λk=>D.tup ((List.range 4).map λj=>.int (A (4*k+j)))).set t y),.tup ((List.range e).map λj=>D.int (A (4*m+j))),.int r]) /\
  isW (.tup [.tup (((List.range m).map λk=>D.tup ((List.range 4).map λj=>.int (A (4*k+j)))).set t y),.tup ((List.range e).map λj=>D.int (A (4*m+j))),.int r])=false:=by
 have hmem:∀x∈((List.range m).map λk=>D.tup ((List.range 4).map λj=>.int (A (4*k+j)))).set t y,x=y\/∃k,x=D.tup ((List.range 4).map λj=>.int (A (4*k+j))):=λx hx=>by
  rcases List.mem_or_eq_of_mem_set hx with h | h
  ·obtain ⟨k,_,rfl⟩:=List.mem_map.mp h
   exact .inr ⟨k,rfl⟩
  ·exact .inl h
 have pp:Qg (((List.range m).map λk=>D.tup ((List.range 4).map λj=>.int (A (4*k+j)))).set t y)=true:=Q5.mpr λx hx=>by
  rcases hmem x hx with rfl | ⟨k,rfl⟩
  ·exact hp
  ·simp only [D.pure];exact Qp λ_ _=>rfl
 have pe:Qg ((List.range e).map λj=>D.int (A (4*m+j)))=true:=Qp λ_ _=>rfl
 refine ⟨Qc9 ?_ (Qmc (by simp;omega) pp λx hx=>?_) (Qad (by simp;omega) pe λx hx=>?_) (.int _),?_⟩
 ·simp [Qg,D.pure,pp,pe]
 ·rcases hmem x hx with rfl | ⟨k,rfl⟩
  ·exact h1
  ·exact Qad (by simp) (Qp λ_ _=>rfl) λx hx=>by obtain ⟨j,_,rfl⟩:=List.mem_map.mp hx;exact .int _
 ·obtain ⟨j,_,rfl⟩:=List.mem_map.mp hx
  exact .int _
 ·unfold isW rows
  have:(((List.range m).map λk=>D.tup ((List.range 4).map λj=>.int (A (4*k+j)))).set t y).all cro=false:=by
   refine List.all_eq_false.mpr ⟨y,List.mem_set (by simp;exact ht) _,by rw [hb];decide⟩
  simp only [this,Bool.false_and]
def Jt:GI:=λds k=>∃(m e:Nat) (A:Nat->Int) (r c n:Int),ds=[webD m e A r,rowD c n]/\0<m/\m<=100/\e<=100/\0<=n/\n<=1000/\∀c' n' d,n<=n'->n'<=n+10->R3 d->isW d=false->k d (rowD c' n')
abbrev Qt:Stmt:=top 33
theorem Jx:FnScope ["_law_web_here","_law_row","_law_at","_law_crossing","_law_some"] ["_law_web_here","_law_row"] (Qb Qt):=⟨rfl,rfl,rfl,by decide +kernel,rfl,by decide +kernel,by decide +kernel⟩
def Zx:Tg:={ own:=λi=>i == 1 || i == 2 || i == 3 || i == 4,io:=[1] }
def Zu:WS:=(wSeq (wSet 2 (Q6 1 Qm (J7 1 (Qc (Qr dLen (Qc (wBin dIx (wVar 0) (wC (.int 0))) wNil)) wNil))))
 (wSeq (wSet 3 (Q0 (wBin dIx (wBin dIx (wVar 0) (wC (.int 0))) (wVar 2))))
 (wSeq (wSet 4 (Qil (wLst (Qc (wSlT (wVar 3) Zh (Vz (wC (.int 3)))) (Qc (wBin Yb (wVar 3) (wSlT (wVar 3) Zh (Vz (wC (.int 1))))) (Qc (wFrz (Qr Qe3 (Qc (wVar 3) wNil))) (Qc (wTup wNil) (Qc (Q0 (wBin dIx (wVar 3) (wC (.int 0)))) (Qc (wC .non) wNil)))))))))
 (wRet (wTup (Qc (wBin Yb (wBin Yb (wSlT (wBin dIx (wVar 0) (wC (.int 0))) Zh (Vz (wVar 2))) (wTup (Qc (wBin dIx (Q0 (wVar 4)) (Q6 1 Qm (J7 1 (Qc (wC (.int 6)) wNil)))) wNil))) (wSlT (wBin dIx (wVar 0) (wC (.int 0))) (Vz (wBin Yb (wVar 2) (wC (.int 1)))) Zh)) (Qc (Q0 (wBin dIx (wVar 0) (wC (.int 1)))) (Qc (Q0 (wBin dIx (wVar 0) (wC (.int 2)))) wNil))))))))
theorem Xn {P:Program} {w:World} {K:PySem.W.Frag} {mg:Str->Option Value} {base:Heap} {f:Addr} (B:Bn K mg) (C__law_take:Cal P w K mg base "_law_take" 1 ["_law_row","_law_base"] (spI K 0 Qm)):∀(cdv:Value) (A:Around) (outer:List PySem.Env) (s:Shared) (H:Hp) (E:XK),Room 1 (A.deeper (envOfC "_law_no_crossing" (Qb Qt) s.heap.objs.size f cdv))->SVs (cxOf CX0 P w K mg base ["_law_web_here","_law_row","_law_at","_law_crossing","_law_some"] "_law_no_crossing" (Qb Qt) f cdv A outer s H E).nox Zx (Qn Qt) Zu:=λcdv A outer s H E hr =>
  (Qi (Jp (i:=2) (Qy C__law_take (hr.mono (by decide)) (Jo (i:=1) (Qa (Jd Vx B.nb_len Vy (Qa (Q4 (Q1 (Qw hr)) (Qd 0) Qe) Qf)) Qf))) Jx.nd)
  (Qi (Jp (i:=3) (Qz (Q4 (Q1 (Qw hr)) (Q4 (Q1 (Qw hr)) (Qd 0) Qe) (Qd 2))) Jx.nd)
  (Qi (Jp (i:=4) (Qlf (Z2 (Qa (Z1 (Qd 3) Ze (Yg Qe)) (Qa (Qx Q3 (Qd 3) (Z1 (Qd 3) Ze (Yg Qe))) (Qa (Qe1 (Y9 Qd0 B.nb_list Qd4 (Qa (Qd 3) Qf))) (Qa (Qs Qf) (Qa (Qz (Q4 (Q1 (Qw hr)) (Qd 3) Qe)) (Qa Qh4 Qf)))))))) Jx.nd)
  (Qo (Jk (Qs (Qa (Qx Q3 (Qx Q3 (Z1 (Q4 (Q1 (Qw hr)) (Qd 0) Qe) Ze (Yg (Qd 2))) (Qs (Qa (Q4 (Q1 (Qw hr)) (Qz (Qd 4)) (Qy C__law_take (hr.mono (by decide)) (Jo (i:=1) (Qa Qe Qf)))) Qf))) (Z1 (Q4 (Q1 (Qw hr)) (Qd 0) Qe) (Yg (Qx Q3 (Qd 2) Qe)) Ze)) (Qa (Qz (Q4 (Q1 (Qw hr)) (Qd 0) Qe)) (Qa (Qz (Q4 (Q1 (Qw hr)) (Qd 0) Qe)) Qf)))))))))
theorem Go {P:Program} {w:World} {K:PySem.W.Frag} {mg:Str->Option Value} {base:Heap} {f:Addr} {fd:FuncData} (F:Fun K "_law_no_crossing" "_law_no_crossing" Qt f fd) (B:Bn K mg) (C1:Cal P w K mg base "_law_take" 1 ["_law_row","_law_base"] (spI K 0 Qm)):FnOk P w K mg base CX0 2 f fd ["_law_web_here","_law_row"] (spI K 1 Jt):=by
 refine Qk4 (T:=Zx) F Jx rfl rfl (λds kk h=>?_) (Xn B C1) (λds kk h=>?_)
 ·obtain ⟨m,e,A,r,c,n,rfl,_⟩:=h
  exact ⟨rfl,_,rfl,rfl⟩
 ·obtain ⟨m,e,A,r,c,n,rfl,hm0,hm,he,hn,hn2,k⟩:=h
  have pc:Qg ((List.range m).map λk=>D.tup ((List.range 4).map λj=>.int (A (4*k+j))))=true:=Qp λ_ _=>by simp only [D.pure];exact Qp λ_ _=>rfl
  simp only [Zu,wSeq,wSet,Q6,J7,env0,webD,rowD,List.map_cons,List.map_nil,List.length_cons,List.length_nil,Nat.zero_add,Nat.reduceAdd,List.replicate,List.cons_append,List.nil_append,look,Option.isSome_some,Qc,Qr,wBin,wC,wNil,Qg,Bool.and_true,Q0,Qil,wLst,wSlT,Zh,wFrz,wTup,sz0,wRet,D.pure,Bool.and_self,sz1,sz3,true_and,Q8,Z6,Qhn,Bool.true_and,Yt,List.set_cons_succ,List.set_cons_zero,Ql,Z8,Xz,List.getElem?_cons_succ,List.getElem?_cons_zero,Uq,Zt,Vw,Zd,Jl,Z7,List.length_map,List.length_range]
  refine ⟨c,n,(m:Int),rfl,by omega,by omega,hn,by omega,λc1 r1 h1 h2=>?_⟩
  obtain ⟨t,rfl⟩:=Int.eq_ofNat_of_zero_le h1
  have ht:t<m:=by omega
  simp only [Qr0,rowD,Jl,Qg,D.pure,Bool.and_self,Y1,Yt,true_and,Z8,Zb,List.getElem?_map,List.getElem?_range ht,Option.map_some,Ql,Zt,List.getElem?_cons_zero,Bool.and_true,Vl,Qoj,Vw,cutA,Zd,List.length_cons,List.length_nil,Nat.zero_add,Nat.reduceAdd,sz5,List.cons_append,List.nil_append,cutB]
  have pc':Qg ((List.range m).map λk=>D.tup [D.int (A (4*k+0)),D.int (A (4*k+1)),D.int (A (4*k+2)),D.int (A (4*k+3))])=true:=pc
  refine ⟨by decide,pc',c1,n+1,6,rfl,by decide,by decide,by omega,by omega,λc2 r2 h3 h4=>?_⟩
  obtain ⟨y,hat,hy⟩:=Qkb (L:=[D.tup [D.int (A (4*t+0)),D.int (A (4*t+1)),D.int (A (4*t+2))],D.tup [D.int (A (4*t+0)),D.int (A (4*t+1)),D.int (A (4*t+2)),D.int (A (4*t+3)),D.int (A (4*t+0))],D.fls [D.int (A (4*t+0)),D.int (A (4*t+1)),D.int (A (4*t+2)),D.int (A (4*t+3))],D.tup [],D.int (A (4*t+0)),D.non]) h3 h4
  have els:∀{l:List Int},R1 (.tup (l.map D.int))->True:=λ_=>trivial
  obtain ⟨y1,y2,y3⟩:R1 y/\y.pure=true/\cro y=false:=by
   simp only [List.mem_cons,List.mem_nil_iff,or_false] at hy
   rcases hy with rfl | rfl | rfl | rfl | rfl | rfl
   ·exact ⟨Qad (by simp) rfl (λx hx=>by simp only [List.mem_cons,List.mem_nil_iff,or_false] at hx;rcases hx with rfl | rfl | rfl <;> exact .int _),rfl,by simp [cro]⟩
   ·exact ⟨Qad (by simp) rfl (λx hx=>by simp only [List.mem_cons,List.mem_nil_iff,or_false] at hx;rcases hx with rfl | rfl | rfl | rfl | rfl <;> exact .int _),rfl,by simp [cro]⟩
   ·exact ⟨Qfe (.fls _) (λ_ z=>by cases z),rfl,rfl⟩
   ·exact ⟨Qad (by simp) rfl (λx hx=>nomatch hx),rfl,rfl⟩
   ·exact ⟨Qfe (.int _) (λ_ z=>by cases z),rfl,rfl⟩
   ·exact ⟨Qfe .non (λ_ z=>by cases z),rfl,rfl⟩
  obtain ⟨z1,z2⟩:=Qmb (A:=A) (r:=r) hm he ht y1 y2 y3
  rw [← Qdh (by simp;omega)] at z1 z2
  simp only [Qlt,rowD,Jl,Qg,D.pure,Bool.and_self,true_and,Qce,hat,Ql,y2]
  rw [show (t:Int)+1=((t+1:Nat):Int) by omega,Xk (by simp;omega)]
  have hp1:Qg (((List.range m).map λk=>D.tup [D.int (A (4*k+0)),D.int (A (4*k+1)),D.int (A (4*k+2)),D.int (A (4*k+3))]).take t)=true:=Yu pc' λy hy=>List.mem_of_mem_take hy
  have hp2:Qg (((List.range m).map λk=>D.tup [D.int (A (4*k+0)),D.int (A (4*k+1)),D.int (A (4*k+2)),D.int (A (4*k+3))]).drop (t+1))=true:=Yu pc' λy hy=>List.mem_of_mem_drop hy
  have hp3:Qg (((List.range m).map λk=>D.tup [D.int (A (4*k+0)),D.int (A (4*k+1)),D.int (A (4*k+2)),D.int (A (4*k+3))]).take t++[y])=true:=Q5.mpr λz hz=>(List.mem_append.mp hz).elim (Q5.mp hp1 z) λh=>by rw [List.mem_singleton.mp h];exact y2
  have fin:=k c2 (n+1+1) _ (by omega) (by omega) z1 z2
  have pe:Qg ((List.range e).map λj=>D.int (A (4*m+j)))=true:=Qp λ_ _=>rfl
  repeat' apply And.intro
  all_goals first
   | assumption
   | exact fin
   | (simp;exact Nat.le_of_lt (big (by omega)))
   | skip
end K01
namespace K01
open PySem PySem.Spec L2 PV
open PyProof.Rows (envOfC)
def Good (d u:D):Prop:=R3 d/\((isW d=false/\u=.tup [sNW])\/(isW d=true/\∃m e A r,d=webD m e A r/\m<=100/\e<=100/\((odds A (4*m+e)=[]/\u=.tup [sRt])\/∃x,Qqq (odds A (4*m+e)) x/\u=.tup [sOd,.int x])))
theorem Qhc {m e:Nat} {A:Nat->Int} {r:Int} (hm:m<=100) (he:e<=100):R3 (webD m e A r):=by
 rw [← Qda]
 exact Qfi hm he (λi _=>⟨.int _,rfl⟩) (.int _) rfl
theorem Qfh {m e:Nat} {A:Nat->Int} {r:Int} (hA:∀i,i<4*m+e->0<=A i) (hr:0<=r):isW (webD m e A r)=true:=by
 rw [← Qda,Qdb]
 exact ⟨λi hi=>by simpa [cnt] using hA i hi,by simpa [cnt] using hr⟩
theorem Good.put {m e t:Nat} {A:Nat->Int} {r:Int} {x:D} (hm:m<=100) (he:e<=100) (ht:t<4*m+e) (hx:El x) (hp:x.pure=true) (hc:cnt x=false):Good (webG m e (λi=>if i=t then x else .int (A i)) (.int r)) (.tup [sNW]):=by
 refine ⟨Qfi hm he (λi hi=>?_) (.int _) rfl,.inl ⟨?_,rfl⟩⟩
 ·show El (if i=t then x else .int (A i))/\(if i=t then x else .int (A i)).pure=true
  split
  ·exact ⟨hx,hp⟩
  ·exact ⟨.int _,rfl⟩
 ·refine Bool.eq_false_iff.mpr λh=>?_
  have:=(Qdb.mp h).1 t ht
  rw [show (if t=t then x else D.int (A t))=x from if_pos rfl,hc] at this
  cases this
theorem Qmh {m e t:Nat} {A:Nat->Int} {r x:Int}:webG m e (λi=>if i=t then .int x else .int (A i)) (.int r)=webD m e (λi=>if i=t then x else A i) r:=by
 rw [← Qda]
 congr 1
 funext i
 split <;> rfl
theorem Good.web {m e:Nat} {A:Nat->Int} {r:Int} (hm:m<=100) (he:e<=100) (hA:∀i,0<=A i) (hr:0<=r) (ho:odds A (4*m+e)=[]):Good (webD m e A r) (.tup [sRt]):=⟨Qhc hm he,.inr ⟨Qfh (λi _=>hA i) hr,m,e,A,r,rfl,hm,he,.inl ⟨ho,rfl⟩⟩⟩
theorem Qot {m e:Nat} {A:Nat->Int} (h:0<4*m+e):∃l:List D,(((List.range m).map λk=>D.tup ((List.range 4).map λj=>.int (A (4*k+j))))++[D.tup ((List.range e).map λj=>D.int (A (4*m+j)))])[0]? = some (.tup l)/\l[0]? = some (.int (A 0)):=by
 cases m with
 | zero =>
  cases e with
  | zero=>omega
  | succ e=>exact ⟨_,rfl,by simp⟩
 | succ m=>exact ⟨(List.range 4).map λj=>.int (A (4*0+j)),by simp,by simp⟩
theorem Qtk {m e t:Nat} {A:Nat->Int} {r x c n:Int} {kk:D->D->Prop} (k:∀c' n' d u,Good d u->d.pure=true->kk (.tup [d,u]) (rowD c' n')) (hm:m<=100) (he:e<=100) (hA:∀i,0<=A i) (hr:0<=r) (hx:0<=x) :
  (webG m e (λi=>if i=t then .int x else .int (A i)) (.int r)).pure=true/\Vb [webG m e (λi=>if i=t then .int x else .int (A i)) (.int r)] λd=>V1 (rowD c n)=true/\kk (.tup [webG m e (λi=>if i=t then .int x else .int (A i)) (.int r),d]) (rowD c n):=by
 rw [Qmh]
 have hA':∀i,0<=(if i=t then x else A i):=λi=>by split;exact hx;exact hA i
 have g:∀u,((odds (λi=>if i=t then x else A i) (4*m+e)=[]/\u=.tup [sRt])\/∃y,Qqq (odds (λi=>if i=t then x else A i) (4*m+e)) y/\u=.tup [sOd,.int y])->Good (webD m e (λi=>if i=t then x else A i) r) u:=λu hu=>⟨Qhc hm he,.inr ⟨Qfh (λi _=>hA' i) hr,m,e,_,r,rfl,hm,he,hu⟩⟩
 exact ⟨V2,m,e,_,r,rfl,hm,he,λho=>⟨rfl,k _ _ _ _ (g _ (.inl ⟨ho,rfl⟩)) V2⟩,λy hy=>⟨rfl,k _ _ _ _ (g _ (.inr ⟨y,hy,rfl⟩)) V2⟩⟩
theorem cutC {a b c:D}:cutD [a,b,c] none (some 2)=[a,b]:=rfl
theorem ixK {L:List D} {r:Int} {k:D->Prop} (h0:0<=r) (h1:r<(L.length:Int)) (h:∀x∈L,k x):dIx (.kls L) (.int r) k:=by
 obtain ⟨x,hat,hx⟩:=Qkb h0 h1
 rw [Qce,hat]
 exact h x hx
def Yv:GI:=λds k=>∃(m e:Nat) (A:Nat->Int) (r c:Int),ds=[webD m e A r,rowD c 0]/\m<=40/\e<=12/\(∀i,0<=A i)/\0<=r/\odds A (4*m+e)=[]/\∀c' n' d u,Good d u->d.pure=true->k (.tup [d,u]) (rowD c' n')
abbrev Jb:Stmt:=top 34
theorem Je:FnScope ["_law_web_here","_law_row","_law_spots","_law_way","_law_arc","_law_thing","_law_rings","_law_some"] ["_law_web_here","_law_row"] (Qb Jb):=⟨rfl,rfl,rfl,by decide +kernel,rfl,by decide +kernel,by decide +kernel⟩
def Uv:Tg:={ own:=λi=>i == 1 || i == 2 || i == 3 || i == 4 || i == 5 || i == 6 || i == 7,io:=[1] }
def Ur:WS:=(wSeq (wSet 2 (wBin Yb (wBin dMul (wC (.int 4)) (Qr dLen (Qc (wBin dIx (wVar 0) (wC (.int 0))) wNil))) (Qr dLen (Qc (wBin dIx (wVar 0) (wC (.int 1))) wNil))))
 (wSeq (wSet 3 (Q6 1 Qm (J7 1 (Qc (wC (.int 8)) wNil))))
 (wSeq (wIf (wAnd (wBl (wBin (dCmp λi j=>decide (i<j)) (wVar 3) (wC (.int 2)))) (wBl (wBin (dCmp λi j=>decide (j<i)) (wVar 2) (wC (.int 0))))) (wSeq (wSet 4 (wBin dIx (wLst (Qc (Q6 1 Qm (J7 1 (Qc (wBin dIx (wLst (Qc (wBin dPow (wC (.int 10)) (wC (.int 9))) (Qc (wBin dPow (wC (.int 10)) (wC (.int 40))) wNil))) (Q6 1 Qm (J7 1 (Qc (wC (.int 2)) wNil)))) wNil))) (Qc (wBin dIx (wBin dIx (wBin Yb (wBin dIx (wVar 0) (wC (.int 0))) (wTup (Qc (wBin dIx (wVar 0) (wC (.int 1))) wNil))) (wC (.int 0))) (wC (.int 0))) wNil))) (wVar 3)))
 (wSeq (wSet 5 (Qr Va (Qc (Q0 (wVar 0)) (Qc (Q6 1 Qm (J7 1 (Qc (wVar 2) wNil))) (Qc (wVar 4) wNil)))))
 (wRet (wTup (Qc (Q0 (wVar 5)) (Qc (Qr Vb (Qc (wVar 5) wNil)) wNil)))))) Jn)
 (wSeq (wIf (wAnd (wBl (wBin (dCmp λi j=>decide (i<j)) (wVar 3) (wC (.int 4)))) (wBl (wBin (dCmp λi j=>decide (j<i)) (wVar 2) (wC (.int 0))))) (wSeq (wSet 4 (wBin dIx (wLst (Qc (wUn dNeg (wC (.int 1))) (Qc (wC (.bl true)) (Qc (wC (.bl false)) (Qc (wC (.str (Str.ofString "1"))) (Qc (wC .non) (Qc (wTup (Qc (wC (.int 0)) wNil)) (Qc (wUn dNeg (wBin dPow (wC (.int 10)) (wC (.int 9)))) wNil)))))))) (Q6 1 Qm (J7 1 (Qc (wC (.int 7)) wNil)))))
 (wRet (wTup (Qc (Qr Va (Qc (Q0 (wVar 0)) (Qc (Q6 1 Qm (J7 1 (Qc (wVar 2) wNil))) (Qc (wVar 4) wNil)))) (Qc (wTup (Qc (wC (.str (Str.ofString "noweb"))) wNil)) wNil))))) Jn)
 (wSeq (wIf (wAnd (wBl (wBin dEq (wVar 3) (wC (.int 4)))) (wBl (wBin (dCmp λi j=>decide (j<i)) (Qr dLen (Qc (wBin dIx (wVar 0) (wC (.int 0))) wNil)) (wC (.int 0))))) (wRet (wTup (Qc (Q6 1 Jt (Qca (wVar 0) (J7 1 wNil))) (Qc (wTup (Qc (wC (.str (Str.ofString "noweb"))) wNil)) wNil)))) Jn)
 (wSeq (wIf (wBl (wBin dEq (wVar 3) (wC (.int 5)))) (wSeq (wSet 6 (wBin dIx (wLst (Qc (wUn dNeg (wC (.int 1))) (Qc (wC (.bl true)) (Qc (wC (.bl false)) (Qc (wC .non) (Qc (wC (.str (Str.ofString "0"))) (Qc (wTup wNil) (Qc (wUn dNeg (wC (.int 20))) wNil)))))))) (Q6 1 Qm (J7 1 (Qc (wC (.int 7)) wNil)))))
 (wRet (wTup (Qc (Q0 (wTup (Qc (wBin dIx (wVar 0) (wC (.int 0))) (Qc (wBin dIx (wVar 0) (wC (.int 1))) (Qc (wVar 6) wNil))))) (Qc (wTup (Qc (wC (.str (Str.ofString "noweb"))) wNil)) wNil))))) Jn)
 (wSeq (wIf (wBl (wBin dEq (wVar 3) (wC (.int 6)))) (wSeq (wSet 7 (Qil (wLst (Qc (wTup wNil) (Qc (wSlT (wVar 0) Zh (Vz (wC (.int 2)))) (Qc (wBin Yb (wVar 0) (wTup (Qc (wC (.int 0)) wNil))) (Qc (wFrz (Qr Qe3 (Qc (wVar 0) wNil))) (Qc (wC .non) (Qc (wC (.int 0)) (Qc (wC (.str (Str.ofString "x 0 0 1 1"))) (Qc (wTup (Qc (wFrz (Qr Qe3 (Qc (wBin dIx (wVar 0) (wC (.int 0))) wNil))) (Qc (Q0 (wBin dIx (wVar 0) (wC (.int 1)))) (Qc (Q0 (wBin dIx (wVar 0) (wC (.int 2)))) wNil)))) (Qc (wTup (Qc (Q0 (wBin dIx (wVar 0) (wC (.int 0)))) (Qc (wFrz (Qr Qe3 (Qc (wBin dIx (wVar 0) (wC (.int 1))) wNil))) (Qc (Q0 (wBin dIx (wVar 0) (wC (.int 2)))) wNil)))) (Qc (wC (.fdk [])) (Qc (wC (.bl true)) (Qc (wTup (Qc (wTup wNil) (Qc (wTup wNil) (Qc (wC (.int 0)) (Qc (wC (.int 0)) wNil))))) (Qc (wTup (Qc (Qan wNil) (Qc (wTup wNil) (Qc (wC (.int 0)) wNil)))) (Qc (wTup (Qc (wTup wNil) (Qc (Qan wNil) (Qc (wC (.int 0)) wNil)))) wNil)))))))))))))))))
 (wRet (wTup (Qc (wBin dIx (Q0 (wVar 7)) (Q6 1 Qm (J7 1 (Qc (wC (.int 14)) wNil)))) (Qc (wTup (Qc (wC (.str (Str.ofString "noweb"))) wNil)) wNil))))) Jn)
 (wRet (wTup (Qc (Q0 (wVar 0)) (Qc (wTup (Qc (wC (.str (Str.ofString "right"))) wNil)) wNil)))))))))))
theorem Qcj {P:Program} {w:World} {K:PySem.W.Frag} {mg:Str->Option Value} {base:Heap} {f:Addr} (B:Bn K mg) (C__law_take:Cal P w K mg base "_law_take" 1 ["_law_row","_law_base"] (spI K 0 Qm)) (C__law_due:Cal P w K mg base "_law_due" 1 ["_law_web_here"] (spR K Vb)) (C__law_put:Cal P w K mg base "_law_put" 1 ["_law_web_here","_law_at","_law_arc"] (spR K Va)) (C__law_no_crossing:Cal P w K mg base "_law_no_crossing" 2 ["_law_web_here","_law_row"] (spI K 1 Jt)):∀(cdv:Value) (A:Around) (outer:List PySem.Env) (s:Shared) (H:Hp) (E:XK),Room 2 (A.deeper (envOfC "_law_spoiled" (Qb Jb) s.heap.objs.size f cdv))->SVs (cxOf CX0 P w K mg base ["_law_web_here","_law_row","_law_spots","_law_way","_law_arc","_law_thing","_law_rings","_law_some"] "_law_spoiled" (Qb Jb) f cdv A outer s H E).nox Uv (Qn Jb) Ur:=λcdv A outer s H E hr =>
  (Qi (Jp (i:=2) (Qx Q3 (Qx Zg Qe (Jd Vx B.nb_len Vy (Qa (Q4 (Q1 (Qw hr)) (Qd 0) Qe) Qf))) (Jd Vx B.nb_len Vy (Qa (Q4 (Q1 (Qw hr)) (Qd 0) Qe) Qf))) Je.nd)
  (Qi (Jp (i:=3) (Qy C__law_take (hr.mono (by decide)) (Jo (i:=1) (Qa Qe Qf))) Je.nd)
  (Qi (Vf (U4 (Ql9 (Ys Qqm (Qd 3) Qe) (Qg5 (Ys Qkk (Qd 2) Qe)))) (Qi (Jp (i:=4) (Q4 (Q1 (Qw hr)) (Z2 (Qa (Qy C__law_take (hr.mono (by decide)) (Jo (i:=1) (Qa (Q4 (Q1 (Qw hr)) (Z2 (Qa (Qx Qc0 Qe Qe) (Qa (Qx Qc0 Qe Qe) Qf))) (Qy C__law_take (hr.mono (by decide)) (Jo (i:=1) (Qa Qe Qf)))) Qf))) (Qa (Q4 (Q1 (Qw hr)) (Q4 (Q1 (Qw hr)) (Qx Q3 (Q4 (Q1 (Qw hr)) (Qd 0) Qe) (Qs (Qa (Q4 (Q1 (Qw hr)) (Qd 0) Qe) Qf))) Qe) Qe) Qf))) (Qd 3)) Je.nd)
  (Qi (Jp (i:=5) (J0 C__law_put (hr.mono (by decide)) (Qa (Qz (Qd 0)) (Qa (Qy C__law_take (hr.mono (by decide)) (Jo (i:=1) (Qa (Qd 2) Qf))) (Qa (Qd 4) Qf)))) Je.nd)
  (Qo (Jk (Qs (Qa (Qz (Qd 5)) (Qa (J0 C__law_due (hr.mono (by decide)) (Qa (Qd 5) Qf)) Qf))))))) Jw)
  (Qi (Vf (U4 (Ql9 (Ys Qqm (Qd 3) Qe) (Qg5 (Ys Qkk (Qd 2) Qe)))) (Qi (Jp (i:=4) (Q4 (Q1 (Qw hr)) (Z2 (Qa (Qno Qhf Qe) (Qa Qdw (Qa Qdw (Qa Ya (Qa Qh4 (Qa (Qs (Qa Qe Qf)) (Qa (Qno Qhf (Qx Qc0 Qe Qe)) Qf)))))))) (Qy C__law_take (hr.mono (by decide)) (Jo (i:=1) (Qa Qe Qf)))) Je.nd)
  (Qo (Jk (Qs (Qa (J0 C__law_put (hr.mono (by decide)) (Qa (Qz (Qd 0)) (Qa (Qy C__law_take (hr.mono (by decide)) (Jo (i:=1) (Qa (Qd 2) Qf))) (Qa (Qd 4) Qf)))) (Qa (Qs (Qa Ya Qf)) Qf)))))) Jw)
  (Qi (Vf (U4 (Ql9 (Ys (Qgr hr.units) (Qd 3) Qe) (Qg5 (Ys Qkk (Jd Vx B.nb_len Vy (Qa (Q4 (Q1 (Qw hr)) (Qd 0) Qe) Qf)) Qe)))) (Qo (Jk (Qs (Qa (Qy C__law_no_crossing (hr.mono (by decide)) (Qrj (Qd 0) (Jo (i:=1) Qf))) (Qa (Qs (Qa Ya Qf)) Qf))))) Jw)
  (Qi (Vf (Ys (Qgr hr.units) (Qd 3) Qe) (Qi (Jp (i:=6) (Q4 (Q1 (Qw hr)) (Z2 (Qa (Qno Qhf Qe) (Qa Qdw (Qa Qdw (Qa Qh4 (Qa Ya (Qa (Qs Qf) (Qa (Qno Qhf Qe) Qf)))))))) (Qy C__law_take (hr.mono (by decide)) (Jo (i:=1) (Qa Qe Qf)))) Je.nd)
  (Qo (Jk (Qs (Qa (Qz (Qs (Qa (Q4 (Q1 (Qw hr)) (Qd 0) Qe) (Qa (Q4 (Q1 (Qw hr)) (Qd 0) Qe) (Qa (Qd 6) Qf))))) (Qa (Qs (Qa Ya Qf)) Qf)))))) Jw)
  (Qi (Vf (Ys (Qgr hr.units) (Qd 3) Qe) (Qi (Jp (i:=7) (Qlf (Z2 (Qa (Qs Qf) (Qa (Z1 (Qd 0) Ze (Yg Qe)) (Qa (Qx Q3 (Qd 0) (Qs (Qa Qe Qf))) (Qa (Qe1 (Y9 Qd0 B.nb_list Qd4 (Qa (Qd 0) Qf))) (Qa Qh4 (Qa Qe (Qa Ya (Qa (Qs (Qa (Qe1 (Y9 Qd0 B.nb_list Qd4 (Qa (Q4 (Q1 (Qw hr)) (Qd 0) Qe) Qf))) (Qa (Qz (Q4 (Q1 (Qw hr)) (Qd 0) Qe)) (Qa (Qz (Q4 (Q1 (Qw hr)) (Qd 0) Qe)) Qf)))) (Qa (Qs (Qa (Qz (Q4 (Q1 (Qw hr)) (Qd 0) Qe)) (Qa (Qe1 (Y9 Qd0 B.nb_list Qd4 (Qa (Q4 (Q1 (Qw hr)) (Qd 0) Qe) Qf))) (Qa (Qz (Q4 (Q1 (Qw hr)) (Qd 0) Qe)) Qf)))) (Qa Qnp (Qa Qdw (Qa (Qs (Qa (Qs Qf) (Qa (Qs Qf) (Qa Qe (Qa Qe Qf))))) (Qa (Qs (Qa (Qlc Qf) (Qa (Qs Qf) (Qa Qe Qf)))) (Qa (Qs (Qa (Qs Qf) (Qa (Qlc Qf) (Qa Qe Qf)))) Qf)))))))))))))))) Je.nd)
  (Qo (Jk (Qs (Qa (Q4 (Q1 (Qw hr)) (Qz (Qd 7)) (Qy C__law_take (hr.mono (by decide)) (Jo (i:=1) (Qa Qe Qf)))) (Qa (Qs (Qa Ya Qf)) Qf)))))) Jw)
  (Qo (Jk (Qs (Qa (Qz (Qd 0)) (Qa (Qs (Qa Ya Qf)) Qf))))))))))))
theorem Qbw {P:Program} {w:World} {K:PySem.W.Frag} {mg:Str->Option Value} {base:Heap} {f:Addr} {fd:FuncData} (F:Fun K "_law_spoiled" "_law_spoiled" Jb f fd) (B:Bn K mg) (C1:Cal P w K mg base "_law_take" 1 ["_law_row","_law_base"] (spI K 0 Qm)) (C2:Cal P w K mg base "_law_due" 1 ["_law_web_here"] (spR K Vb)) (C3:Cal P w K mg base "_law_put" 1 ["_law_web_here","_law_at","_law_arc"] (spR K Va)) (C4:Cal P w K mg base "_law_no_crossing" 2 ["_law_web_here","_law_row"] (spI K 1 Jt)):FnOk P w K mg base CX0 3 f fd ["_law_web_here","_law_row"] (spI K 1 Yv):=by
 refine Qk4 (T:=Uv) F Je rfl rfl (λds kk h=>?_) (Qcj B C1 C2 C3 C4) (λds kk h=>?_)
 ·obtain ⟨m,e,A,r,c,rfl,_⟩:=h
  exact ⟨rfl,_,rfl,rfl⟩
 ·obtain ⟨m,e,A,r,c,rfl,hm,he,hA,hr,ho,k⟩:=h
  have pc:Qg ((List.range m).map λk=>D.tup ((List.range 4).map λj=>.int (A (4*k+j))))=true:=Qp λ_ _=>by simp only [D.pure];exact Qp λ_ _=>rfl
  have pe:Qg ((List.range e).map λj=>D.int (A (4*m+j)))=true:=Qp λ_ _=>rfl
  have gw:=Good.web (m:=m) (e:=e) (A:=A) (r:=r) (by omega) (by omega) hA hr ho
  simp only [Ur,wSeq,wSet,wBin,wC,Qr,Qc,env0,webD,rowD,List.map_cons,List.map_nil,List.length_cons,List.length_nil,Nat.zero_add,Nat.reduceAdd,List.replicate,List.cons_append,List.nil_append,wNil,Q6,J7,Qg,D.pure,Bool.and_self,wIf,wAnd,wLst,sz2,Bool.and_true,wTup,sz1,Q0,wRet,true_and,Q8,Int.reduceLE,Int.reduceNeg,Int.reduceLT,G8,Int.reduceToNat,Int.reducePow,Jn,wUn,Qei,Qca,sz0,sz3,Qil,wSlT,Zh,wFrz,sz4,Qan,Qhn,Bool.true_and,Z6,Yt,r_bl,Bool.false_eq_true,reduceIte,look,List.set_cons_succ,List.set_cons_zero,Option.isSome_some,Ql,Z8,Uq,List.getElem?_cons_succ,List.getElem?_cons_zero,Zt,Zd,List.length_map,List.length_range,Xz,Vl,Qoj,Vw,Z7,Zc,Q9,Jl,Zf,Y1]
  refine ⟨c,0,8,rfl,by decide,by decide,by decide,by decide,λc1 w h1 h2=>?_⟩
  have hw:w=0\/w=1\/w=2\/w=3\/w=4\/w=5\/w=6\/w=7:=by omega
  have fin:kk (D.tup [webD m e A r,.tup [sRt]]) (rowD c1 1):=k c1 1 _ _ gw V2
  rcases hw with rfl | rfl | rfl | rfl | rfl | rfl | rfl | rfl
  ·by_cases hs:0<4*m+e
   ·have hs':(0:Int)<4*(m:Int)+(e:Int):=by omega
    simp only [hs',decide_true,rowD,Int.reduceAdd,Jl,Qg,D.pure,Bool.and_self,pc,pe,true_and,Yj,Zt,List.getElem?_cons_zero,Ql,Int.reduceNeg,Bool.true_and,Zs,Int.reduceEq,decide_false,Q9,Bool.false_eq_true,reduceIte,Zc,Int.reduceLT]
    refine ⟨c1,1,2,rfl,by decide,by decide,by decide,by decide,λc2 r2 h3 h4=>?_⟩
    obtain ⟨b,hb,hb0,hb1⟩:∃b:Int,L2.atI [D.int 1000000000,D.int 10000000000000000000000000000000000000000] r2=some (.int b)/\0<b/\b<115792089237316195423570985008687907853269984665640564039457584007913129639936:=by
     rcases Qr7 (a:=D.int 1000000000) (b:=D.int 10000000000000000000000000000000000000000) h3 h4 with ⟨_,q⟩ | ⟨_,q⟩
     ·exact ⟨_,q,by decide,by decide⟩
     ·exact ⟨_,q,by decide,by decide⟩
    simp only [rowD,Int.reduceAdd,Jl,Qg,D.pure,Bool.and_self,true_and,Yj,hb,Ql]
    refine ⟨c2,1+1,b,rfl,hb0,hb1,by decide,by decide,λc3 r3 h5 h6=>?_⟩
    obtain ⟨l,f1,f2⟩:=Qot (A:=A) hs
    simp only [f1,rowD,Int.reduceAdd,Jl,Qg,D.pure,Bool.and_self,true_and,Ql,Z8,Zt,f2]
    refine ⟨Nat.le_of_lt (big (by omega)),c3,1+1+1,4*(m:Int)+(e:Int),rfl,hs',by omega,by decide,by decide,λc4 r4 h7 h8=>?_⟩
    obtain ⟨t,rfl⟩:=Int.eq_ofNat_of_zero_le h7
    refine ⟨m,e,A,r,t,.int r3,rfl,by omega,by omega,by omega,rfl,?_⟩
    exact Qtk (m:=m) (e:=e) k (by omega) (by omega) hA hr h5
   ·have hs':¬((0:Int)<4*(m:Int)+(e:Int)):=by omega
    simp only [hs',decide_false,Bool.false_eq_true,rowD,Int.reduceAdd,Jl,Qg,D.pure,Bool.and_self,pc,pe,true_and,Yj,Zt,List.getElem?_cons_zero,Ql,Int.reduceNeg,Bool.true_and,Zs,Int.reduceEq,Q9,reduceIte,Zc,Int.reduceLT,decide_true]
    exact fin
  ·by_cases hs:0<4*m+e
   ·have hs':(0:Int)<4*(m:Int)+(e:Int):=by omega
    simp only [hs',decide_true,rowD,Int.reduceAdd,Jl,Qg,D.pure,Bool.and_self,pc,pe,true_and,Yj,Uq,List.getElem?_cons_succ,List.getElem?_cons_zero,Ql,Int.reduceNeg,Bool.true_and,Zs,Int.reduceEq,decide_false,Q9,Bool.false_eq_true,reduceIte,Zc,Int.reduceLT]
    refine ⟨c1,1,2,rfl,by decide,by decide,by decide,by decide,λc2 r2 h3 h4=>?_⟩
    obtain ⟨b,hb,hb0,hb1⟩:∃b:Int,L2.atI [D.int 1000000000,D.int 10000000000000000000000000000000000000000] r2=some (.int b)/\0<b/\b<115792089237316195423570985008687907853269984665640564039457584007913129639936:=by
     rcases Qr7 (a:=D.int 1000000000) (b:=D.int 10000000000000000000000000000000000000000) h3 h4 with ⟨_,q⟩ | ⟨_,q⟩
     ·exact ⟨_,q,by decide,by decide⟩
     ·exact ⟨_,q,by decide,by decide⟩
    simp only [rowD,Int.reduceAdd,Jl,Qg,D.pure,Bool.and_self,true_and,Yj,hb,Ql]
    refine ⟨c2,1+1,b,rfl,hb0,hb1,by decide,by decide,λc3 r3 h5 h6=>?_⟩
    obtain ⟨l,f1,f2⟩:=Qot (A:=A) hs
    simp only [f1,rowD,Int.reduceAdd,Jl,Qg,D.pure,Bool.and_self,true_and,Ql,Z8,Zt,f2]
    refine ⟨Nat.le_of_lt (big (by omega)),c3,1+1+1,4*(m:Int)+(e:Int),rfl,hs',by omega,by decide,by decide,λc4 r4 h7 h8=>?_⟩
    obtain ⟨t,rfl⟩:=Int.eq_ofNat_of_zero_le h7
    refine ⟨m,e,A,r,t,.int (A 0),rfl,by omega,by omega,by omega,rfl,?_⟩
    exact Qtk (m:=m) (e:=e) k (by omega) (by omega) hA hr (hA 0)
   ·have hs':¬((0:Int)<4*(m:Int)+(e:Int)):=by omega
    simp only [hs',decide_false,Bool.false_eq_true,rowD,Int.reduceAdd,Jl,Qg,D.pure,Bool.and_self,pc,pe,true_and,Yj,Uq,List.getElem?_cons_succ,List.getElem?_cons_zero,Ql,Int.reduceNeg,Bool.true_and,Zs,Int.reduceEq,Q9,reduceIte,Zc,Int.reduceLT,decide_true]
    exact fin
  ·by_cases hs:0<4*m+e
   ·have hs':(0:Int)<4*(m:Int)+(e:Int):=by omega
    simp only [hs',decide_true,rowD,Int.reduceAdd,Jl,Qg,D.pure,Bool.and_self,pc,pe,true_and,Yj,Xz,List.getElem?_cons_succ,Int.reduceNeg,Bool.true_and,Zs,Int.reduceEq,decide_false,Q9,Bool.false_eq_true,reduceIte,Zc,Int.reduceLT]
    refine ⟨by decide,c1,1,7,rfl,by decide,by decide,by decide,by decide,λc2 r2 h3 h4=>?_⟩
    obtain ⟨x,hat,hx⟩:=Qkb (L:=[D.int (-1),D.bl true,D.bl false,D.str (Str.ofString "1"),D.non,D.tup [D.int 0],D.int (-1000000000)]) h3 h4
    obtain ⟨x1,x2,x3⟩:El x/\x.pure=true/\cnt x=false:=by
     simp only [List.mem_cons,List.mem_nil_iff,or_false] at hx
     rcases hx with rfl | rfl | rfl | rfl | rfl | rfl | rfl
     ·exact ⟨.int _,rfl,rfl⟩
     ·exact ⟨.bl _,rfl,rfl⟩
     ·exact ⟨.bl _,rfl,rfl⟩
     ·exact ⟨.str _,rfl,rfl⟩
     ·exact ⟨.non,rfl,rfl⟩
     ·exact ⟨.tup _,rfl,rfl⟩
     ·exact ⟨.int _,rfl,rfl⟩
    simp only [Int.reduceNeg,rowD,Int.reduceAdd,Jl,Qg,D.pure,Bool.and_self,true_and,Yj,hat,Ql]
    refine ⟨c2,1+1,4*(m:Int)+(e:Int),rfl,hs',by omega,by decide,by decide,λc4 r4 h7 h8=>?_⟩
    obtain ⟨t,rfl⟩:=Int.eq_ofNat_of_zero_le h7
    refine ⟨m,e,A,r,t,x,rfl,by omega,by omega,by omega,x2,rfl,?_⟩
    have g:=Good.put (m:=m) (e:=e) (t:=t) (A:=A) (r:=r) (x:=x) (by omega) (by omega) (by omega) x1 x2 x3
    exact k _ _ _ _ g g.1.2.1
   ·have hs':¬((0:Int)<4*(m:Int)+(e:Int)):=by omega
    simp only [hs',decide_false,Bool.false_eq_true,rowD,Int.reduceAdd,Jl,Qg,D.pure,Bool.and_self,pc,pe,true_and,Yj,Xz,List.getElem?_cons_succ,Int.reduceNeg,Bool.true_and,Zs,Int.reduceEq,Q9,reduceIte,Zc,Int.reduceLT,decide_true]
    exact fin
  ·by_cases hs:0<4*m+e
   ·have hs':(0:Int)<4*(m:Int)+(e:Int):=by omega
    simp only [hs',decide_true,rowD,Int.reduceAdd,Jl,Qg,D.pure,Bool.and_self,pc,pe,true_and,Yj,Qd7,List.getElem?_cons_succ,Int.reduceNeg,Bool.true_and,Zs,Int.reduceEq,decide_false,Q9,Bool.false_eq_true,reduceIte,Zc,Int.reduceLT]
    refine ⟨by decide,c1,1,7,rfl,by decide,by decide,by decide,by decide,λc2 r2 h3 h4=>?_⟩
    obtain ⟨x,hat,hx⟩:=Qkb (L:=[D.int (-1),D.bl true,D.bl false,D.str (Str.ofString "1"),D.non,D.tup [D.int 0],D.int (-1000000000)]) h3 h4
    obtain ⟨x1,x2,x3⟩:El x/\x.pure=true/\cnt x=false:=by
     simp only [List.mem_cons,List.mem_nil_iff,or_false] at hx
     rcases hx with rfl | rfl | rfl | rfl | rfl | rfl | rfl
     ·exact ⟨.int _,rfl,rfl⟩
     ·exact ⟨.bl _,rfl,rfl⟩
     ·exact ⟨.bl _,rfl,rfl⟩
     ·exact ⟨.str _,rfl,rfl⟩
     ·exact ⟨.non,rfl,rfl⟩
     ·exact ⟨.tup _,rfl,rfl⟩
     ·exact ⟨.int _,rfl,rfl⟩
    simp only [Int.reduceNeg,rowD,Int.reduceAdd,Jl,Qg,D.pure,Bool.and_self,true_and,Yj,hat,Ql]
    refine ⟨c2,1+1,4*(m:Int)+(e:Int),rfl,hs',by omega,by decide,by decide,λc4 r4 h7 h8=>?_⟩
    obtain ⟨t,rfl⟩:=Int.eq_ofNat_of_zero_le h7
    refine ⟨m,e,A,r,t,x,rfl,by omega,by omega,by omega,x2,rfl,?_⟩
    have g:=Good.put (m:=m) (e:=e) (t:=t) (A:=A) (r:=r) (x:=x) (by omega) (by omega) (by omega) x1 x2 x3
    exact k _ _ _ _ g g.1.2.1
   ·have hs':¬((0:Int)<4*(m:Int)+(e:Int)):=by omega
    simp only [hs',decide_false,Bool.false_eq_true,rowD,Int.reduceAdd,Jl,Qg,D.pure,Bool.and_self,pc,pe,true_and,Yj,Qd7,List.getElem?_cons_succ,Int.reduceNeg,Bool.true_and,Zs,Int.reduceEq,Q9,reduceIte,Zc,Int.reduceLT,decide_true]
    exact fin
  ·by_cases hm0:0<m
   ·have hm1:(0:Int)<(m:Int):=by omega
    simp only [rowD,Int.reduceAdd,Jl,Qg,D.pure,Bool.and_self,pc,pe,true_and,Yj,Int.reduceNeg,hm1,decide_true,Bool.true_and,Zs,Int.reduceEq,decide_false,Q9,Bool.false_eq_true,reduceIte,Zc,Int.reduceLT]
    exact ⟨m,e,A,r,c1,1,rfl,hm0,by omega,by omega,by decide,by decide,λc' n' d _ _ hR hW=>⟨rfl,k c' n' d _ ⟨hR,.inl ⟨hW,rfl⟩⟩ hR.2.1⟩⟩
   ·have hm1:¬((0:Int)<(m:Int)):=by omega
    simp only [rowD,Int.reduceAdd,Jl,Qg,D.pure,Bool.and_self,pc,pe,true_and,Yj,Int.reduceNeg,hm1,decide_false,Bool.false_eq_true,Bool.true_and,Zs,Int.reduceEq,Q9,reduceIte,decide_true,Zc,Int.reduceLT]
    exact fin
  ·simp only [rowD,Int.reduceAdd,Jl,Qg,D.pure,Bool.and_self,pc,pe,true_and,Yj,Int.reduceNeg,Bool.true_and,Zs,Int.reduceEq,decide_false,Q9,Bool.false_eq_true,reduceIte,decide_true,Zc,Int.reduceLT]
   refine ⟨by decide,c1,1,7,rfl,by decide,by decide,by decide,by decide,λc2 r2 h3 h4=>?_⟩
   obtain ⟨x,hat,hx⟩:=Qkb (L:=[D.int (-1),D.bl true,D.bl false,D.non,D.str (Str.ofString "0"),D.tup [],D.int (-20)]) h3 h4
   obtain ⟨x1,x2,x3⟩:El x/\x.pure=true/\cnt x=false:=by
    simp only [List.mem_cons,List.mem_nil_iff,or_false] at hx
    rcases hx with rfl | rfl | rfl | rfl | rfl | rfl | rfl
    ·exact ⟨.int _,rfl,rfl⟩
    ·exact ⟨.bl _,rfl,rfl⟩
    ·exact ⟨.bl _,rfl,rfl⟩
    ·exact ⟨.non,rfl,rfl⟩
    ·exact ⟨.str _,rfl,rfl⟩
    ·exact ⟨.tup _,rfl,rfl⟩
    ·exact ⟨.int _,rfl,rfl⟩
   simp only [Int.reduceNeg,rowD,Int.reduceAdd,Jl,Qg,D.pure,Bool.and_self,true_and,Yj,hat,Ql]
   have g:Good (webG m e (λi=>.int (A i)) x) (.tup [sNW]):=⟨Qfi (by omega) (by omega) (λi _=>⟨.int _,rfl⟩) x1 x2,.inl ⟨Bool.eq_false_iff.mpr (λh=>by have:=(Qdb.mp h).2;rw [x3] at this;cases this),rfl⟩⟩
   exact ⟨x2,k _ _ _ _ g g.1.2.1⟩
  ·simp only [rowD,Int.reduceAdd,Jl,Qg,D.pure,Bool.and_self,pc,pe,true_and,Yj,Int.reduceNeg,Bool.true_and,Zs,decide_true,Q9,reduceIte,Int.reduceEq,decide_false,Bool.false_eq_true,Zc,Int.reduceLT]
   simp only [cutC]
   obtain ⟨q2,q1,q0⟩:=(Qhc (m:=m) (e:=e) (A:=A) (r:=r) (by omega) (by omega)).2.2 _ _ _ rfl
   have pw:Qg [D.tup ((List.range m).map λk=>D.tup ((List.range 4).map λj=>.int (A (4*k+j)))),D.tup ((List.range e).map λj=>D.int (A (4*m+j)))]=true:=by simp [Qg,D.pure,pc,pe]
   refine ⟨by decide,by simp [pw],c1,1,14,rfl,by decide,by decide,by decide,by decide,λc2 r2 h3 h4=>?_⟩
   refine ixK h3 h4 λx hx=>?_
   have nw:R3 x/\isW x=false:=by
    simp only [List.mem_cons,List.mem_nil_iff,or_false] at hx
    rcases hx with rfl | rfl | rfl | rfl | rfl | rfl | rfl | rfl | rfl | rfl | rfl | rfl | rfl | rfl
    ·exact ⟨U1 (.tup _) rfl (λ_ _ _ z=>by cases z),rfl⟩
    ·exact ⟨U1 (.tup _) (by simpa [D.pure] using pw) (λ_ _ _ z=>by cases z),Qgz (by simp)⟩
    ·exact ⟨U1 (.tup _) (by simp [D.pure,Qg,pc,pe]) (λ_ _ _ z=>by cases z),Qgz (by simp)⟩
    ·exact ⟨U1 (.fls _) rfl (λ_ _ _ z=>by cases z),rfl⟩
    ·exact ⟨U1 .non rfl (λ_ _ _ z=>by cases z),rfl⟩
    ·exact ⟨U1 (.int _) rfl (λ_ _ _ z=>by cases z),rfl⟩
    ·exact ⟨U1 (.str _) rfl (λ_ _ _ z=>by cases z),rfl⟩
    ·exact ⟨Qc9 (by simp [D.pure,Qg,pe]) (Qo6 (.fls _) (λ_ z=>by cases z)) q1 (.int _),rfl⟩
    ·exact ⟨Qc9 (by simp [D.pure,Qg,pc]) q2 (Qfe (.fls _) (λ_ z=>by cases z)) (.int _),by simp [isW,arcs]⟩
    ·exact ⟨U1 (.fdk _) rfl (λ_ _ _ z=>by cases z),rfl⟩
    ·exact ⟨U1 (.bl _) rfl (λ_ _ _ z=>by cases z),rfl⟩
    ·exact ⟨U1 (.tup _) rfl (λ_ _ _ z=>by cases z),rfl⟩
    ·exact ⟨Qc9 rfl (Qo6 (.fls _) (λ_ z=>by cases z)) (Qad (by simp) rfl (λx hx=>nomatch hx)) (.int _),rfl⟩
    ·exact ⟨Qc9 rfl (Qmc (by simp) rfl (λx hx=>nomatch hx)) (Qfe (.fls _) (λ_ z=>by cases z)) (.int _),rfl⟩
   simp only [rowD,Int.reduceAdd,Jl,Qg,D.pure,Bool.and_self,true_and]
   have fk:=k c2 (1+1) x (.tup [sNW]) ⟨nw.1,.inl ⟨nw.2,rfl⟩⟩ nw.1.2.1
   first | exact ⟨nw.1.2.1,fk⟩ | exact fk
  ·simp only [rowD,Int.reduceAdd,Jl,Qg,D.pure,Bool.and_self,pc,pe,true_and,Yj,Int.reduceNeg,Bool.true_and,Zs,Int.reduceEq,decide_false,Q9,Bool.false_eq_true,reduceIte,Zc,Int.reduceLT]
   exact fin
end K01
namespace K01
open PySem PySem.Spec L2 PV
open PyProof.Rows (envOfC)
theorem Qql {n:Nat} {A:Nat->Int} {g:Nat->Nat} (T:M.Tw n A g):odds A n=[]:=by
 unfold odds
 rw [List.filter_eq_nil_iff.mpr λe he=>by obtain ⟨i,_,q⟩:=(M.Qp6 T).1 e he;rw [q];simp]
 rfl
def Qk3:GA:=λds k=>∃ns:List Int,ds=[.kls (ns.map .int)]/\ns.length<=63/\k (.bl true)
abbrev Qaf:Stmt:=top 35
theorem Qa2:FnScope ["_law_script","_law_row","_law_many","_law_web_here","_law_cell","_law_thing","_law_due_here"] ["_law_script"] (Qb Qaf):=⟨rfl,rfl,rfl,by decide +kernel,rfl,by decide +kernel,by decide +kernel⟩
def Qrp:Tg:={ own:=λi=>i == 1 || i == 2 || i == 3 || i == 4 || i == 5 || i == 6,io:=[] }
def Qrm:WS:=(wSeq (wSet 1 (wLst (Qc (Qr Yw (Qc (wVar 0) (Qc (wC (.int 0)) wNil))) (Qc (wC (.int 0)) wNil))))
 (wSeq (wSet 2 (wBin dIx (wLst (Qc (Q6 1 Qm (J7 1 (Qc (wC (.int 7)) wNil))) (Qc (Q6 1 Qm (J7 1 (Qc (wC (.int 41)) wNil))) wNil))) (Qr dInt (Qc (wBin dEq (Q6 1 Qm (J7 1 (Qc (wC (.int 6)) wNil))) (wC (.int 1))) wNil))))
 (wSeq (wSet 3 (Q6 1 Ue (J7 1 (Qc (Q0 (wVar 2)) (Qc (wBin dMul (wC (.int 2)) (Q6 1 Qm (J7 1 (Qc (wC (.int 5)) wNil)))) wNil)))))
 (wSeq (wIf (wBl (wBin dNe (Qr Yf (Qc (wVar 3) wNil)) (wTup (Qc (wC (.str (Str.ofString "right"))) wNil)))) (wRet (wC (.bl false))) Jn)
 (wSeq (wFor (Qdc (wSlT (wVar 0) (Vz (wC (.int 1))) (Vz (wC (.int 63))))) (gN 4) (wSeq (wAsg (Qfo Yv (Qc (Q0 (wVar 3)) (Qc (wLst (Qc (Q0 (wVar 4)) (Qc (wC (.int 0)) wNil))) wNil))) (Gr 2 (Yy (gN 5) (Yy (gN 6) Xi))))
 (wIf (wBl (wBin dNe (Qr Yf (Qc (wVar 5) wNil)) (wVar 6))) (wRet (wC (.bl false))) Jn)))
 (wRet (wBin dEq (Qr Yf (Qc (wVar 3) wNil)) (wTup (Qc (wC (.str (Str.ofString "right"))) wNil)))))))))
theorem Qu9 {P:Program} {w:World} {K:PySem.W.Frag} {mg:Str->Option Value} {base:Heap} {f:Addr} (B:Bn K mg) (C__law_cell_at:Cal P w K mg base "_law_cell_at" 1 ["_law_script","_law_k"] (spR K Yw)) (C__law_take:Cal P w K mg base "_law_take" 1 ["_law_row","_law_base"] (spI K 0 Qm)) (C__law_web:Cal P w K mg base "_law_web" 3 ["_law_row","_law_many","_law_ends"] (spI K 0 Ue)) (C__law_told:Cal P w K mg base "_law_told" 7 ["_law_thing"] (spR K Yf)) (C__law_spoiled:Cal P w K mg base "_law_spoiled" 3 ["_law_web_here","_law_row"] (spI K 1 Yv)):∀(cdv:Value) (A:Around) (outer:List PySem.Env) (s:Shared) (H:Hp) (E:XK),Room 7 (A.deeper (envOfC "law" (Qb Qaf) s.heap.objs.size f cdv))->SVs (cxOf CX0 P w K mg base ["_law_script","_law_row","_law_many","_law_web_here","_law_cell","_law_thing","_law_due_here"] "law" (Qb Qaf) f cdv A outer s H E).nox Qrp (Qn Qaf) Qrm:=λcdv A outer s H E hr =>
  (Qi (Jp (i:=1) (Z2 (Qa (J0 C__law_cell_at (hr.mono (by decide)) (Qa (Qd 0) (Qa Qe Qf))) (Qa Qe Qf))) Qa2.nd)
  (Qi (Jp (i:=2) (Q4 (Q1 (Qw hr)) (Z2 (Qa (Qy C__law_take (hr.mono (by decide)) (Jo (i:=1) (Qa Qe Qf))) (Qa (Qy C__law_take (hr.mono (by decide)) (Jo (i:=1) (Qa Qe Qf))) Qf))) (Y9 Qtp B.nb_int Qo2 (Qa (Qh6 (Qgr hr.units) (Qy C__law_take (hr.mono (by decide)) (Jo (i:=1) (Qa Qe Qf))) Qe) Qf))) Qa2.nd)
  (Qi (Jp (i:=3) (Qy C__law_web (hr.mono (by decide)) (Jo (i:=1) (Qa (Qz (Qd 2)) (Qa (Qx Zg Qe (Qy C__law_take (hr.mono (by decide)) (Jo (i:=1) (Qa Qe Qf)))) Qf)))) Qa2.nd)
  (Qi (Vf (Ys (Qiz hr.units) (J0 C__law_told (hr.mono (by decide)) (Qa (Qd 3) Qf)) (Qs (Qa Ya Qf))) (Qo (Jk Qdw)) Jw)
  (Qi (X2 PassesOwn.never (Qb1 (Z1 (Qd 0) (Yg Qe) (Yg Qe))) (Yl (i:=4) Qa2.nd) (Qi (Qrt (Qlg C__law_spoiled (hr.mono (by decide)) (Qa (Qz (Qd 3)) (Qa (Z2 (Qa (Qz (Qd 4)) (Qa Qe Qf))) Qf))) (Qh2 (Y6 (Yl (i:=5) Qa2.nd) (Y6 (Yl (i:=6) Qa2.nd) Qb3))))
  (Qo (Vf (Ys (Qiz hr.units) (J0 C__law_told (hr.mono (by decide)) (Qa (Qd 5) Qf)) (Qd 6)) (Qo (Jk Qdw)) Jw))))
  (Qo (Jk (Qh6 (Qgr hr.units) (J0 C__law_told (hr.mono (by decide)) (Qa (Qd 3) Qf)) (Qs (Qa Ya Qf))))))))))
theorem Qso {P:Program} {w:World} {K:PySem.W.Frag} {mg:Str->Option Value} {base:Heap} {f:Addr} {fd:FuncData} (F:Fun K "law" "law" Qaf f fd) (B:Bn K mg) (C1:Cal P w K mg base "_law_cell_at" 1 ["_law_script","_law_k"] (spR K Yw)) (C2:Cal P w K mg base "_law_take" 1 ["_law_row","_law_base"] (spI K 0 Qm)) (C3:Cal P w K mg base "_law_web" 3 ["_law_row","_law_many","_law_ends"] (spI K 0 Ue)) (C4:Cal P w K mg base "_law_told" 7 ["_law_thing"] (spR K Yf)) (C5:Cal P w K mg base "_law_spoiled" 3 ["_law_web_here","_law_row"] (spI K 1 Yv)):FnOk P w K mg base CX0 8 f fd ["_law_script"] (spR K Qk3):=by
 refine Qb4 (T:=Qrp) F Qa2 rfl (by decide) (λds kk h=>?_) (Qu9 B C1 C2 C3 C4 C5) (λds kk h=>?_)
 ·obtain ⟨ns,rfl,_⟩:=h
  rfl
 ·obtain ⟨ns,rfl,hl,k⟩:=h
  simp only [Qrm,wSeq,wSet,wLst,Qc,Qr,env0,List.map_cons,List.map_nil,List.length_cons,List.length_nil,Nat.zero_add,Nat.reduceAdd,List.replicate,List.cons_append,List.nil_append,wC,wNil,sz2,wBin,Q6,J7,Qg,D.pure,Bool.and_self,Q0,Bool.and_true,wIf,wRet,Jn,V7,U8,wSlT,Z6,Yt,Q8,r_bl,wTup,sz1,true_and,look,List.set_cons_succ,List.set_cons_zero,Option.isSome_some,Ql,Qaa,G6,Jl]
  refine ⟨ns,0,rfl,λc0=>?_⟩
  simp only [D.pure,true_and]
  refine ⟨c0,0,7,rfl,by decide,by decide,by decide,by decide,λc1 r1 h1 h2=>?_⟩
  simp only [rowD,Int.reduceAdd,Jl,Qg,D.pure,Bool.and_self,true_and]
  refine ⟨c1,0+1,41,rfl,by decide,by decide,by decide,by decide,λc2 r2 h3 h4=>?_⟩
  simp only [rowD,Int.reduceAdd,Jl,Qg,D.pure,Bool.and_self,true_and]
  refine ⟨c2,0+1+1,6,rfl,by decide,by decide,by decide,by decide,λc3 r3 h5 h6=>?_⟩
  simp only [rowD,Int.reduceAdd,Jl,Qg,D.pure,Bool.and_self,true_and,Zs,X8,Yj]
  obtain ⟨mm,hat,hmm⟩:∃mm:Nat,L2.atI [D.int r1,D.int r2] (if decide (r3=1)=true then 1 else 0)=some (.int mm)/\mm<=40:=by
   by_cases z:r3=1
   ·exact ⟨r2.toNat,by rw [if_pos (decide_eq_true z),show ((r2.toNat:Nat):Int)=r2 by omega];rfl,by omega⟩
   ·exact ⟨r1.toNat,by rw [if_neg (by simpa using z),show ((r1.toNat:Nat):Int)=r1 by omega];rfl,by omega⟩
  rw [hat]
  simp only [Ql,D.pure,Bool.true_and,true_and]
  refine ⟨c3,3,5,rfl,by decide,by decide,by decide,by decide,λc4 r4 h7 h8=>?_⟩
  obtain ⟨q,rfl⟩:=Int.eq_ofNat_of_zero_le h7
  simp only [rowD,Int.reduceAdd,Jl,Qg,D.pure,Bool.and_self,true_and,Int.reduceNeg,Int.reduceLT,Zf]
  refine ⟨c4,3+1,mm,2*q,by simp [rowD],by omega,by omega,by omega,by decide,by decide,λc5 n5 A g r T hA hr hn1 hn2=>?_⟩
  have ho:=Qql T
  have hA0:∀i,0<=A i:=λi=>(hA i).1
  have hr0:0<=r:=by rcases hr with rfl | rfl | rfl | rfl <;> decide
  have rt:∀{kx:D->Prop},kx (.tup [sRt])->Yf [webD mm (2*q) A r] kx:=λ{kx} h=>by
   refine ⟨_,rfl,Qhc (by omega) (by omega),λhw=>?_,λ_=>⟨mm,2*q,A,r,rfl,by omega,by omega,λ_=>h,λx hx=>?_⟩⟩
   ·rw [Qfh (λi _=>hA0 i) hr0] at hw;cases hw
   ·rw [ho] at hx;exact nomatch hx.1
  refine rt ?_
  simp only [Qdj,Q9,Bool.false_eq_true,reduceIte]
  have ok1:eqOk 9 (.tup [sRt])=true:=by simp only [eqOk,Uf,Bool.and_true];decide +kernel
  have ok2:eqOk 9 (.tup [sNW])=true:=by simp only [eqOk,Uf,Bool.and_true];decide +kernel
  have ok3:∀x:Int,eqOk 9 (.tup [sOd,.int x])=true:=λx=>by simp only [eqOk,Uf,Bool.and_true];decide +kernel
  have pcut:Qg (cutD (ns.map D.int) (some 1) (some 63))=true:=Yu V9 λy hy=>List.mem_of_mem_drop (List.mem_of_mem_take hy)
  refine ⟨ok1,ok1,λ_=>⟨V9,pcut,λt ρ=>∃o4 o5 o6:Option D,ρ=[some (.kls (ns.map D.int)),some (rowD c5 n5),some (.int mm),some (webD mm (2*q) A r),o4,o5,o6],⟨none,none,none,rfl⟩,?_,?_⟩,λh=>absurd rfl h⟩
  ·rintro i d ρ hd ⟨o4,o5,o6,rfl⟩
   obtain ⟨cc,rfl⟩:∃cc:Int,d=.int cc:=by
    have:=List.mem_of_mem_drop (List.mem_of_mem_take (List.mem_of_getElem? hd))
    obtain ⟨cc,_,rfl⟩:=List.mem_map.mp this
    exact ⟨cc,rfl⟩
   simp only [gN,wSeq,wAsg,Qfo,Qc,Q0,List.set_cons_succ,List.set_cons_zero,wLst,wC,wNil,List.length_cons,List.length_nil,Nat.zero_add,Nat.reduceAdd,sz2,Jl,Qg,D.pure,Bool.and_self,Bool.and_true,true_and,Q8,look,Ql,V2]
   refine ⟨mm,2*q,A,r,cc,rfl,by omega,by omega,hA0,hr0,ho,λc' n' d u hG hp=>?_⟩
   have hu:u.pure=true:=by
    rcases hG.2 with ⟨_,rfl⟩ | ⟨_,_,_,_,_,_,_,_,⟨_,rfl⟩ | ⟨_,_,rfl⟩⟩ <;> rfl
   have he:eqOk 9 u=true:=by
    rcases hG.2 with ⟨_,rfl⟩ | ⟨_,_,_,_,_,_,_,_,⟨_,rfl⟩ | ⟨_,_,rfl⟩⟩
    ·exact ok2
    ·exact ok1
    ·exact ok3 _
   have tl:∀{kx:D->Prop},kx u->Yf [d] kx:=λ{kx} h=>by
    obtain ⟨hR,hG⟩:=hG
    refine ⟨d,rfl,hR,λhw=>?_,λhw=>?_⟩
    ·rcases hG with ⟨_,rfl⟩ | ⟨hw',_⟩
     ·exact h
     ·rw [hw] at hw';cases hw'
    ·rcases hG with ⟨hw',_⟩ | ⟨_,m',e',A',r',rfl,hm',he',hu⟩
     ·rw [hw] at hw';cases hw'
     ·refine ⟨m',e',A',r',rfl,hm',he',λho'=>?_,λx hx=>?_⟩
      ·rcases hu with ⟨_,rfl⟩ | ⟨y,hy,_⟩
       ·exact h
       ·rw [ho'] at hy;exact nomatch hy.1
      ·rcases hu with ⟨ho',_⟩ | ⟨y,hy,rfl⟩
       ·rw [ho'] at hx;exact nomatch hx.1
       ·have:x=y:=Int.le_antisymm (hx.2 y hy.1) (hy.2 x hx.1)
        rw [this];exact h
   refine ⟨by simp [D.pure,Qg,hp,hu],?_⟩
   simp only [Gr,List.length_cons,List.length_nil,Nat.zero_add,Nat.reduceAdd,Yy,gN,Xi,wIf,List.set_cons_succ,List.set_cons_zero,wRet,wC,Jn,r_bl,wBin,Qr,Qc,wNil,Q8,look,Ql,true_and]
   have hux:∃xs,u=D.tup xs:=by
    rcases hG.2 with ⟨_,rfl⟩ | ⟨_,_,_,_,_,_,_,_,⟨_,rfl⟩ | ⟨_,_,rfl⟩⟩
    ·exact ⟨_,rfl⟩
    ·exact ⟨_,rfl⟩
    ·exact ⟨_,rfl⟩
   refine tl ?_
   obtain ⟨xs,rfl⟩:=hux
   rw [Qdj]
   exact ⟨he,he,λ_=>by simp only [Q9,Bool.false_eq_true,reduceIte];exact ⟨_,_,_,rfl⟩,λh=>absurd rfl h⟩
  ·rintro ρ ⟨o4,o5,o6,rfl⟩
   simp only [wRet,wBin,Qr,Qc,wNil,wTup,wC,List.length_cons,List.length_nil,Nat.zero_add,sz1,true_and,Q8,look,Ql]
   refine rt ?_
   simp only [Qdk]
   exact ⟨ok1,ok1,λ_=>k,λh=>absurd rfl h⟩
theorem Qtq {l:PySem.W.OpenLaw} {w:World} {K:PySem.W.Frag} {h:Heap} {mg:Str->Option Value} {fa:Addr} (X:K.In h) (G:h.Ns mainGlobals mg) (hfa:mg "law" = some (.ref fa))
  {f1:Addr} {od1 an1:Option Addr} {sl1:Array (Option Value)} {oc1 kV1 dc1 pm1 cd1 ct1:Value}
  (a1:PySem.W.nsIn K mainGlobals "is_whole" = some (some (.ref f1))) (l1:K.lookup f1=some ⟨oc1,od1,.func (PySem.W.fnOf "is_whole" "is_whole" (Jh Yc) (Qn Yc) (Qb Yc) .none kV1 dc1 pm1 an1 cd1 ct1),sl1⟩) (c1:PySem.W.codeIn K cd1 "is_whole" = true) (k1:PySem.W.keepIn K (.ref f1)=true)
  {f2:Addr} {od2 an2:Option Addr} {sl2:Array (Option Value)} {oc2 kV2 dc2 pm2 cd2 ct2:Value}
  (a2:PySem.W.nsIn K mainGlobals "is_count" = some (some (.ref f2))) (l2:K.lookup f2=some ⟨oc2,od2,.func (PySem.W.fnOf "is_count" "is_count" (Jh Yd) (Qn Yd) (Qb Yd) .none kV2 dc2 pm2 an2 cd2 ct2),sl2⟩) (c2:PySem.W.codeIn K cd2 "is_count" = true) (k2:PySem.W.keepIn K (.ref f2)=true)
  {f3:Addr} {od3 an3:Option Addr} {sl3:Array (Option Value)} {oc3 kV3 dc3 pm3 cd3 ct3:Value}
  (a3:PySem.W.nsIn K mainGlobals "are_arcs" = some (some (.ref f3))) (l3:K.lookup f3=some ⟨oc3,od3,.func (PySem.W.fnOf "are_arcs" "are_arcs" (Jh J4) (Qn J4) (Qb J4) .none kV3 dc3 pm3 an3 cd3 ct3),sl3⟩) (c3:PySem.W.codeIn K cd3 "are_arcs" = true) (k3:PySem.W.keepIn K (.ref f3)=true)
  {f4:Addr} {od4 an4:Option Addr} {sl4:Array (Option Value)} {oc4 kV4 dc4 pm4 cd4 ct4:Value}
  (a4:PySem.W.nsIn K mainGlobals "is_crossing" = some (some (.ref f4))) (l4:K.lookup f4=some ⟨oc4,od4,.func (PySem.W.fnOf "is_crossing" "is_crossing" (Jh Jf) (Qn Jf) (Qb Jf) .none kV4 dc4 pm4 an4 cd4 ct4),sl4⟩) (c4:PySem.W.codeIn K cd4 "is_crossing" = true) (k4:PySem.W.keepIn K (.ref f4)=true)
  {f5:Addr} {od5 an5:Option Addr} {sl5:Array (Option Value)} {oc5 kV5 dc5 pm5 cd5 ct5:Value}
  (a5:PySem.W.nsIn K mainGlobals "is_made_as_web" = some (some (.ref f5))) (l5:K.lookup f5=some ⟨oc5,od5,.func (PySem.W.fnOf "is_made_as_web" "is_made_as_web" (Jh Qv) (Qn Qv) (Qb Qv) .none kV5 dc5 pm5 an5 cd5 ct5),sl5⟩) (c5:PySem.W.codeIn K cd5 "is_made_as_web" = true) (k5:PySem.W.keepIn K (.ref f5)=true)
  {f6:Addr} {od6 an6:Option Addr} {sl6:Array (Option Value)} {oc6 kV6 dc6 pm6 cd6 ct6:Value}
  (a6:PySem.W.nsIn K mainGlobals "places" = some (some (.ref f6))) (l6:K.lookup f6=some ⟨oc6,od6,.func (PySem.W.fnOf "places" "places" (Jh Zk) (Qn Zk) (Qb Zk) .none kV6 dc6 pm6 an6 cd6 ct6),sl6⟩) (c6:PySem.W.codeIn K cd6 "places" = true) (k6:PySem.W.keepIn K (.ref f6)=true)
  {f7:Addr} {od7 an7:Option Addr} {sl7:Array (Option Value)} {oc7 kV7 dc7 pm7 cd7 ct7:Value}
  (a7:PySem.W.nsIn K mainGlobals "check_web" = some (some (.ref f7))) (l7:K.lookup f7=some ⟨oc7,od7,.func (PySem.W.fnOf "check_web" "check_web" (Jh Ja) (Qn Ja) (Qb Ja) .none kV7 dc7 pm7 an7 cd7 ct7),sl7⟩) (c7:PySem.W.codeIn K cd7 "check_web" = true) (k7:PySem.W.keepIn K (.ref f7)=true)
  {f8:Addr} {od8 an8:Option Addr} {sl8:Array (Option Value)} {oc8 kV8 dc8 pm8 cd8 ct8:Value}
  (a8:PySem.W.nsIn K mainGlobals "_law_cell_at" = some (some (.ref f8))) (l8:K.lookup f8=some ⟨oc8,od8,.func (PySem.W.fnOf "_law_cell_at" "_law_cell_at" (Jh Jc) (Qn Jc) (Qb Jc) .none kV8 dc8 pm8 an8 cd8 ct8),sl8⟩) (c8:PySem.W.codeIn K cd8 "_law_cell_at" = true) (k8:PySem.W.keepIn K (.ref f8)=true)
  {f9:Addr} {od9 an9:Option Addr} {sl9:Array (Option Value)} {oc9 kV9 dc9 pm9 cd9 ct9:Value}
  (a9:PySem.W.nsIn K mainGlobals "_law_take" = some (some (.ref f9))) (l9:K.lookup f9=some ⟨oc9,od9,.func (PySem.W.fnOf "_law_take" "_law_take" (Jh Jz) (Qn Jz) (Qb Jz) .none kV9 dc9 pm9 an9 cd9 ct9),sl9⟩) (c9:PySem.W.codeIn K cd9 "_law_take" = true) (k9:PySem.W.keepIn K (.ref f9)=true)
  {f10:Addr} {od10 an10:Option Addr} {sl10:Array (Option Value)} {oc10 kV10 dc10 pm10 cd10 ct10:Value}
  (a10:PySem.W.nsIn K mainGlobals "_law_arcs" = some (some (.ref f10))) (l10:K.lookup f10=some ⟨oc10,od10,.func (PySem.W.fnOf "_law_arcs" "_law_arcs" (Jh Jq) (Qn Jq) (Qb Jq) .none kV10 dc10 pm10 an10 cd10 ct10),sl10⟩) (c10:PySem.W.codeIn K cd10 "_law_arcs" = true) (k10:PySem.W.keepIn K (.ref f10)=true)
  {f11:Addr} {od11 an11:Option Addr} {sl11:Array (Option Value)} {oc11 kV11 dc11 pm11 cd11 ct11:Value}
  (a11:PySem.W.nsIn K mainGlobals "_law_web" = some (some (.ref f11))) (l11:K.lookup f11=some ⟨oc11,od11,.func (PySem.W.fnOf "_law_web" "_law_web" (Jh J5) (Qn J5) (Qb J5) .none kV11 dc11 pm11 an11 cd11 ct11),sl11⟩) (c11:PySem.W.codeIn K cd11 "_law_web" = true) (k11:PySem.W.keepIn K (.ref f11)=true)
  {f12:Addr} {od12 an12:Option Addr} {sl12:Array (Option Value)} {oc12 kV12 dc12 pm12 cd12 ct12:Value}
  (a12:PySem.W.nsIn K mainGlobals "_law_class" = some (some (.ref f12))) (l12:K.lookup f12=some ⟨oc12,od12,.func (PySem.W.fnOf "_law_class" "_law_class" (Jh Ji) (Qn Ji) (Qb Ji) .none kV12 dc12 pm12 an12 cd12 ct12),sl12⟩) (c12:PySem.W.codeIn K cd12 "_law_class" = true) (k12:PySem.W.keepIn K (.ref f12)=true)
  {f13:Addr} {od13 an13:Option Addr} {sl13:Array (Option Value)} {oc13 kV13 dc13 pm13 cd13 ct13:Value}
  (a13:PySem.W.nsIn K mainGlobals "_law_told" = some (some (.ref f13))) (l13:K.lookup f13=some ⟨oc13,od13,.func (PySem.W.fnOf "_law_told" "_law_told" (Jh Jy) (Qn Jy) (Qb Jy) .none kV13 dc13 pm13 an13 cd13 ct13),sl13⟩) (c13:PySem.W.codeIn K cd13 "_law_told" = true) (k13:PySem.W.keepIn K (.ref f13)=true)
  {f14:Addr} {od14 an14:Option Addr} {sl14:Array (Option Value)} {oc14 kV14 dc14 pm14 cd14 ct14:Value}
  (a14:PySem.W.nsIn K mainGlobals "_law_due" = some (some (.ref f14))) (l14:K.lookup f14=some ⟨oc14,od14,.func (PySem.W.fnOf "_law_due" "_law_due" (Jh J6) (Qn J6) (Qb J6) .none kV14 dc14 pm14 an14 cd14 ct14),sl14⟩) (c14:PySem.W.codeIn K cd14 "_law_due" = true) (k14:PySem.W.keepIn K (.ref f14)=true)
  {f15:Addr} {od15 an15:Option Addr} {sl15:Array (Option Value)} {oc15 kV15 dc15 pm15 cd15 ct15:Value}
  (a15:PySem.W.nsIn K mainGlobals "_law_put" = some (some (.ref f15))) (l15:K.lookup f15=some ⟨oc15,od15,.func (PySem.W.fnOf "_law_put" "_law_put" (Jh Ye) (Qn Ye) (Qb Ye) .none kV15 dc15 pm15 an15 cd15 ct15),sl15⟩) (c15:PySem.W.codeIn K cd15 "_law_put" = true) (k15:PySem.W.keepIn K (.ref f15)=true)
  {f16:Addr} {od16 an16:Option Addr} {sl16:Array (Option Value)} {oc16 kV16 dc16 pm16 cd16 ct16:Value}
  (a16:PySem.W.nsIn K mainGlobals "_law_no_crossing" = some (some (.ref f16))) (l16:K.lookup f16=some ⟨oc16,od16,.func (PySem.W.fnOf "_law_no_crossing" "_law_no_crossing" (Jh Qt) (Qn Qt) (Qb Qt) .none kV16 dc16 pm16 an16 cd16 ct16),sl16⟩) (c16:PySem.W.codeIn K cd16 "_law_no_crossing" = true) (k16:PySem.W.keepIn K (.ref f16)=true)
  {f17:Addr} {od17 an17:Option Addr} {sl17:Array (Option Value)} {oc17 kV17 dc17 pm17 cd17 ct17:Value}
  (a17:PySem.W.nsIn K mainGlobals "_law_spoiled" = some (some (.ref f17))) (l17:K.lookup f17=some ⟨oc17,od17,.func (PySem.W.fnOf "_law_spoiled" "_law_spoiled" (Jh Jb) (Qn Jb) (Qb Jb) .none kV17 dc17 pm17 an17 cd17 ct17),sl17⟩) (c17:PySem.W.codeIn K cd17 "_law_spoiled" = true) (k17:PySem.W.keepIn K (.ref f17)=true)
  {f18:Addr} {od18 an18:Option Addr} {sl18:Array (Option Value)} {oc18 kV18 dc18 pm18 cd18 ct18:Value}
  (a18:PySem.W.nsIn K mainGlobals "law" = some (some (.ref f18))) (l18:K.lookup f18=some ⟨oc18,od18,.func (PySem.W.fnOf "law" "law" (Jh Qaf) (Qn Qaf) (Qb Qaf) .none kV18 dc18 pm18 an18 cd18 ct18),sl18⟩) (c18:PySem.W.codeIn K cd18 "law" = true) (k18:PySem.W.keepIn K (.ref f18)=true)
  (z_all:PySem.W.nsIn K mainGlobals "all" = some none)
  (z_bool:PySem.W.nsIn K mainGlobals "bool" = some none)
  (z_enumerate:PySem.W.nsIn K mainGlobals "enumerate" = some none)
  (z_int:PySem.W.nsIn K mainGlobals "int" = some none)
  (z_isinstance:PySem.W.nsIn K mainGlobals "isinstance" = some none)
  (z_len:PySem.W.nsIn K mainGlobals "len" = some none)
  (z_list:PySem.W.nsIn K mainGlobals "list" = some none)
  (z_min:PySem.W.nsIn K mainGlobals "min" = some none)
  (z_range:PySem.W.nsIn K mainGlobals "range" = some none)
  (z_tuple:PySem.W.nsIn K mainGlobals "tuple" = some none)
  {tk_RIM:Tok} (z_RIM:PySem.W.nsIn K mainGlobals "RIM" = some (some (.int (-1) tk_RIM)))
  {C_NoWeb:Addr} {cd_NoWeb:ClassData} (zx_NoWeb:atN K "NoWeb" C_NoWeb) (zc_NoWeb:PySem.W.clsIn K C_NoWeb=some cd_NoWeb) (zt_NoWeb:PySem.W.typeIn K (.ref C_NoWeb)=some (.type "type"))
  {C_Odd:Addr} {cd_Odd:ClassData} (zx_Odd:atN K "Odd" C_Odd) (zc_Odd:PySem.W.clsIn K C_Odd=some cd_Odd) (zt_Odd:PySem.W.typeIn K (.ref C_Odd)=some (.type "type"))
  {C_TangleError:Addr} {cd_TangleError:ClassData} (zx_TangleError:atN K "TangleError" C_TangleError) (zc_TangleError:PySem.W.clsIn K C_TangleError=some cd_TangleError) (zt_TangleError:PySem.W.typeIn K (.ref C_TangleError)=some (.type "type"))
  {C_NoText:Addr} {cd_NoText:ClassData} (zx_NoText:atN K "NoText" C_NoText) (zc_NoText:PySem.W.clsIn K C_NoText=some cd_NoText) (zt_NoText:PySem.W.typeIn K (.ref C_NoText)=some (.type "type"))
  {C_NotFlat:Addr} {cd_NotFlat:ClassData} (zx_NotFlat:atN K "NotFlat" C_NotFlat) (zc_NotFlat:PySem.W.clsIn K C_NotFlat=some cd_NotFlat) (zt_NotFlat:PySem.W.typeIn K (.ref C_NotFlat)=some (.type "type"))
  {C_TooMany:Addr} {cd_TooMany:ClassData} (zx_TooMany:atN K "TooMany" C_TooMany) (zc_TooMany:PySem.W.clsIn K C_TooMany=some cd_TooMany) (zt_TooMany:PySem.W.typeIn K (.ref C_TooMany)=some (.type "type"))
  {C_TooWide:Addr} {cd_TooWide:ClassData} (zx_TooWide:atN K "TooWide" C_TooWide) (zc_TooWide:PySem.W.clsIn K C_TooWide=some cd_TooWide) (zt_TooWide:PySem.W.typeIn K (.ref C_TooWide)=some (.type "type"))
  {C_NoStep:Addr} {cd_NoStep:ClassData} (zx_NoStep:atN K "NoStep" C_NoStep) (zc_NoStep:PySem.W.clsIn K C_NoStep=some cd_NoStep) (zt_NoStep:PySem.W.typeIn K (.ref C_NoStep)=some (.type "type"))
  {C_NoTurning:Addr} {cd_NoTurning:ClassData} (zx_NoTurning:atN K "NoTurning" C_NoTurning) (zc_NoTurning:PySem.W.clsIn K C_NoTurning=some cd_NoTurning) (zt_NoTurning:PySem.W.typeIn K (.ref C_NoTurning)=some (.type "type"))
  {C_BadPace:Addr} {cd_BadPace:ClassData} (zx_BadPace:atN K "BadPace" C_BadPace) (zc_BadPace:PySem.W.clsIn K C_BadPace=some cd_BadPace) (zt_BadPace:PySem.W.typeIn K (.ref C_BadPace)=some (.type "type"))
  {C_NoMatch:Addr} {cd_NoMatch:ClassData} (zx_NoMatch:atN K "NoMatch" C_NoMatch) (zc_NoMatch:PySem.W.clsIn K C_NoMatch=some cd_NoMatch) (zt_NoMatch:PySem.W.typeIn K (.ref C_NoMatch)=some (.type "type"))
  {C_NoName:Addr} {cd_NoName:ClassData} (zx_NoName:atN K "NoName" C_NoName) (zc_NoName:PySem.W.clsIn K C_NoName=some cd_NoName) (zt_NoName:PySem.W.typeIn K (.ref C_NoName)=some (.type "type"))
  {C_NoRow:Addr} {cd_NoRow:ClassData} (zx_NoRow:atN K "NoRow" C_NoRow) (zc_NoRow:PySem.W.clsIn K C_NoRow=some cd_NoRow) (zt_NoRow:PySem.W.typeIn K (.ref C_NoRow)=some (.type "type"))
  (zb_TangleError:PySem.W.subIn K (.ref C_TangleError) (.type "BaseException")=some true)
  {dd2_ od2_:Option Addr} {c0_ oc2_:Value} {cdT_:ClassData} {slT_ sl2_:Array (Option Value)} {es2_:Array DictEntry} {ep2_:Nat} (xl2:K.lookup C_TangleError=some ⟨c0_,dd2_,.cls cdT_,slT_⟩) (xn2:K.lookup cdT_.ns=some ⟨oc2_,od2_,.dict es2_ ep2_,sl2_⟩) (xs2:Vg es2_=true) (xi2:nsFind es2_ "__init__" = none)
  (xsp:PySem.W.specialIn K (.ref C_TangleError) "__getattribute__" = some (some (.builtin "type.__getattribute__"))) (xrd:PySem.W.readsIn K C_TangleError (.type "type")=true) (xfc:PySem.W.findCls K (.ref C_TangleError) (.type "type") "__init__" = some (.val (.builtin "ValueError.__init__")))
  (zs_NoWeb_Odd:PySem.W.subIn K (.ref C_NoWeb) (.ref C_Odd)=some false) (zn_NoWeb_Odd:(Value.ref C_NoWeb == Value.ref C_Odd)=false)
  (zs_NoWeb_TangleError:PySem.W.subIn K (.ref C_NoWeb) (.ref C_TangleError)=some true) (zn_NoWeb_TangleError:(Value.ref C_NoWeb == Value.ref C_TangleError)=false)
  (zs_NoWeb_NoText:PySem.W.subIn K (.ref C_NoWeb) (.ref C_NoText)=some false) (zn_NoWeb_NoText:(Value.ref C_NoWeb == Value.ref C_NoText)=false)
  (zs_NoWeb_NotFlat:PySem.W.subIn K (.ref C_NoWeb) (.ref C_NotFlat)=some false) (zn_NoWeb_NotFlat:(Value.ref C_NoWeb == Value.ref C_NotFlat)=false)
  (zs_NoWeb_TooMany:PySem.W.subIn K (.ref C_NoWeb) (.ref C_TooMany)=some false) (zn_NoWeb_TooMany:(Value.ref C_NoWeb == Value.ref C_TooMany)=false)
  (zs_NoWeb_TooWide:PySem.W.subIn K (.ref C_NoWeb) (.ref C_TooWide)=some false) (zn_NoWeb_TooWide:(Value.ref C_NoWeb == Value.ref C_TooWide)=false)
  (zs_NoWeb_NoStep:PySem.W.subIn K (.ref C_NoWeb) (.ref C_NoStep)=some false) (zn_NoWeb_NoStep:(Value.ref C_NoWeb == Value.ref C_NoStep)=false)
  (zs_NoWeb_NoTurning:PySem.W.subIn K (.ref C_NoWeb) (.ref C_NoTurning)=some false) (zn_NoWeb_NoTurning:(Value.ref C_NoWeb == Value.ref C_NoTurning)=false)
  (zs_NoWeb_BadPace:PySem.W.subIn K (.ref C_NoWeb) (.ref C_BadPace)=some false) (zn_NoWeb_BadPace:(Value.ref C_NoWeb == Value.ref C_BadPace)=false)
  (zs_NoWeb_NoMatch:PySem.W.subIn K (.ref C_NoWeb) (.ref C_NoMatch)=some false) (zn_NoWeb_NoMatch:(Value.ref C_NoWeb == Value.ref C_NoMatch)=false)
  (zs_NoWeb_NoName:PySem.W.subIn K (.ref C_NoWeb) (.ref C_NoName)=some false) (zn_NoWeb_NoName:(Value.ref C_NoWeb == Value.ref C_NoName)=false)
  (zs_NoWeb_NoRow:PySem.W.subIn K (.ref C_NoWeb) (.ref C_NoRow)=some false) (zn_NoWeb_NoRow:(Value.ref C_NoWeb == Value.ref C_NoRow)=false)
  {nm_NoWeb q_NoWeb:Str} {bs_NoWeb sub_NoWeb:List Value} {N_NoWeb:Addr} {ab_NoWeb:Bool} {sn_NoWeb:List Str} {col_NoWeb:Option Bool} {dd_NoWeb:Option Addr} {k0_NoWeb k1_NoWeb k2_NoWeb k3_NoWeb k5_NoWeb:Option Value} {hd_NoWeb:Bool} {od1_NoWeb:Option Addr} {oc1_NoWeb:Value} {sl1_NoWeb:Array (Option Value)} {es1_NoWeb:Array DictEntry} {ep1_NoWeb:Nat}
  (xl1_NoWeb:K.lookup C_NoWeb=some (excClassObj nm_NoWeb q_NoWeb C_NoWeb N_NoWeb bs_NoWeb (.ref C_TangleError::[.type "ValueError",.type "Exception",.type "BaseException",.type "object"]) hd_NoWeb sn_NoWeb sub_NoWeb ab_NoWeb col_NoWeb dd_NoWeb k0_NoWeb k1_NoWeb k2_NoWeb k3_NoWeb k5_NoWeb "ValueError.__new__"))
  (xq1_NoWeb:PySem.W.findIn K (.ref C_NoWeb) "__getattribute__" = some (some (.builtin "BaseException.__getattribute__"))) (xq2_NoWeb:PySem.W.findIn K (.ref C_NoWeb) "__getattr__" = some none) (xq3_NoWeb:PySem.W.findIn K (.ref C_NoWeb) "__class__" = some (some (.builtin "object.__class__"))) (xq4_NoWeb:PySem.W.subIn K (.ref C_NoWeb) (.type "object")=some true) (xq5_NoWeb:PySem.W.subIn K (.ref C_NoWeb) (.type "BaseException")=some true)
  (xn1_NoWeb:K.lookup N_NoWeb=some ⟨oc1_NoWeb,od1_NoWeb,.dict es1_NoWeb ep1_NoWeb,sl1_NoWeb⟩) (xs1_NoWeb:Vg es1_NoWeb=true) (xi1_NoWeb:nsFind es1_NoWeb "__init__" = none)
  (zs_Odd_NoWeb:PySem.W.subIn K (.ref C_Odd) (.ref C_NoWeb)=some false) (zn_Odd_NoWeb:(Value.ref C_Odd == Value.ref C_NoWeb)=false)
  (zs_Odd_TangleError:PySem.W.subIn K (.ref C_Odd) (.ref C_TangleError)=some true) (zn_Odd_TangleError:(Value.ref C_Odd == Value.ref C_TangleError)=false)
  (zs_Odd_NoText:PySem.W.subIn K (.ref C_Odd) (.ref C_NoText)=some false) (zn_Odd_NoText:(Value.ref C_Odd == Value.ref C_NoText)=false)
  (zs_Odd_NotFlat:PySem.W.subIn K (.ref C_Odd) (.ref C_NotFlat)=some false) (zn_Odd_NotFlat:(Value.ref C_Odd == Value.ref C_NotFlat)=false)
  (zs_Odd_TooMany:PySem.W.subIn K (.ref C_Odd) (.ref C_TooMany)=some false) (zn_Odd_TooMany:(Value.ref C_Odd == Value.ref C_TooMany)=false)
  (zs_Odd_TooWide:PySem.W.subIn K (.ref C_Odd) (.ref C_TooWide)=some false) (zn_Odd_TooWide:(Value.ref C_Odd == Value.ref C_TooWide)=false)
  (zs_Odd_NoStep:PySem.W.subIn K (.ref C_Odd) (.ref C_NoStep)=some false) (zn_Odd_NoStep:(Value.ref C_Odd == Value.ref C_NoStep)=false)
  (zs_Odd_NoTurning:PySem.W.subIn K (.ref C_Odd) (.ref C_NoTurning)=some false) (zn_Odd_NoTurning:(Value.ref C_Odd == Value.ref C_NoTurning)=false)
  (zs_Odd_BadPace:PySem.W.subIn K (.ref C_Odd) (.ref C_BadPace)=some false) (zn_Odd_BadPace:(Value.ref C_Odd == Value.ref C_BadPace)=false)
  (zs_Odd_NoMatch:PySem.W.subIn K (.ref C_Odd) (.ref C_NoMatch)=some false) (zn_Odd_NoMatch:(Value.ref C_Odd == Value.ref C_NoMatch)=false)
  (zs_Odd_NoName:PySem.W.subIn K (.ref C_Odd) (.ref C_NoName)=some false) (zn_Odd_NoName:(Value.ref C_Odd == Value.ref C_NoName)=false)
  (zs_Odd_NoRow:PySem.W.subIn K (.ref C_Odd) (.ref C_NoRow)=some false) (zn_Odd_NoRow:(Value.ref C_Odd == Value.ref C_NoRow)=false)
  {nm_Odd q_Odd:Str} {bs_Odd sub_Odd:List Value} {N_Odd:Addr} {ab_Odd:Bool} {sn_Odd:List Str} {col_Odd:Option Bool} {dd_Odd:Option Addr} {k0_Odd k1_Odd k2_Odd k3_Odd k5_Odd:Option Value}
  (xl1_Odd:K.lookup C_Odd=some (excClassObj nm_Odd q_Odd C_Odd N_Odd bs_Odd (.ref C_TangleError::[.type "ValueError",.type "Exception",.type "BaseException",.type "object"]) true sn_Odd sub_Odd ab_Odd col_Odd dd_Odd k0_Odd k1_Odd k2_Odd k3_Odd k5_Odd "ValueError.__new__"))
  (xq1_Odd:PySem.W.findIn K (.ref C_Odd) "__getattribute__" = some (some (.builtin "BaseException.__getattribute__"))) (xq2_Odd:PySem.W.findIn K (.ref C_Odd) "__getattr__" = some none) (xq3_Odd:PySem.W.findIn K (.ref C_Odd) "__class__" = some (some (.builtin "object.__class__"))) (xq4_Odd:PySem.W.subIn K (.ref C_Odd) (.type "object")=some true) (xq5_Odd:PySem.W.subIn K (.ref C_Odd) (.type "BaseException")=some true)
  {fi_Odd:Addr} {odi_Odd ani_Odd:Option Addr} {sli_Odd:Array (Option Value)} {oci_Odd kVi_Odd dci_Odd pmi_Odd cdi_Odd cti_Odd:Value} (xsa_Odd:PySem.W.findIn K (.ref C_Odd) "__setattr__" = some (some (.builtin "object.__setattr__"))) (xii_Odd:PySem.W.findIn K (.ref C_Odd) "__init__" = some (some (.ref fi_Odd))) (xti_Odd:PySem.W.typeIn K (.ref fi_Odd)=some (.type "function")) (xkp_Odd:PySem.W.keepIn K (.ref C_Odd)=true) (xna_Odd:PySem.W.findIn K (.ref C_Odd) "arc" = some none)
  (li_Odd:K.lookup fi_Odd=some ⟨oci_Odd,odi_Odd,.func (PySem.W.fnOf "__init__" "Odd.__init__" (Jh Zn) (Qn Zn) (Qb Zn) .none kVi_Odd dci_Odd pmi_Odd ani_Odd cdi_Odd cti_Odd),sli_Odd⟩) (ci_Odd:PySem.W.codeIn K cdi_Odd "Odd.__init__" = true) (ki_Odd:PySem.W.keepIn K (.ref fi_Odd)=true)
  (zV:PySem.W.nsIn K mainGlobals "ValueError" = some none)
  (zVs_NoWeb:PySem.W.subIn K (.ref C_NoWeb) (.type "ValueError")=some true)
  (zVs_Odd:PySem.W.subIn K (.ref C_Odd) (.type "ValueError")=some true)
  : ∃fd:FuncData,(∀(s:Shared) (v:Value),BindsTo s fd ⟨[v],[]⟩ [("_law_script",v)])/\∀base:Heap,K.In base->base.Ns mainGlobals mg->FnOk l.prog w K mg base CX0 8 fa fd ["_law_script"] (spR K Qk3):=by
 have e:=hfa.symm.trans (PySem.W.mg_of X G a18)
 cases e
 have xQ_NoWeb:ExcQ K C_NoWeb:=⟨xq1_NoWeb,xq2_NoWeb,xq3_NoWeb,xq4_NoWeb,xq5_NoWeb,by rw [zc_NoWeb];rfl⟩
 have xR_NoWeb:∀C,atN K "NoWeb" C->C=C_NoWeb:=λC h=>by have:=h.symm.trans zx_NoWeb;cases this;rfl
 have xQ_Odd:ExcQ K C_Odd:=⟨xq1_Odd,xq2_Odd,xq3_Odd,xq4_Odd,xq5_Odd,by rw [zc_Odd];rfl⟩
 have xR_Odd:∀C,atN K "Odd" C->C=C_Odd:=λC h=>by have:=h.symm.trans zx_Odd;cases this;rfl
 have xC_Odd:ExcC K C_Odd:=Qq5 xl1_Odd xl2 xn2 xs2 xi2 xsa_Odd
 have B:Bn K mg:=⟨PySem.W.mg_none_of X G z_all,PySem.W.mg_none_of X G z_bool,PySem.W.mg_none_of X G z_enumerate,PySem.W.mg_none_of X G z_int,PySem.W.mg_none_of X G z_isinstance,PySem.W.mg_none_of X G z_len,PySem.W.mg_none_of X G z_list,PySem.W.mg_none_of X G z_min,PySem.W.mg_none_of X G z_range,PySem.W.mg_none_of X G z_tuple,⟨tk_RIM,PySem.W.mg_of X G z_RIM⟩,⟨C_NoWeb,Qq4 (PySem.W.mg_of X G zx_NoWeb) xl1_NoWeb xl2 xn1_NoWeb xn2 xs1_NoWeb xs2 xi1_NoWeb xi2,zx_NoWeb⟩,⟨C_TangleError,PySem.W.mg_of X G zx_TangleError,λx C h1 h2=>by
  rcases Qux h1 with rfl | rfl
  ·obtain rfl:=xR_NoWeb C h2;exact Qou zb_TangleError zc_TangleError zt_TangleError zs_NoWeb_TangleError
  ·obtain rfl:=xR_Odd C h2;exact Qou zb_TangleError zc_TangleError zt_TangleError zs_Odd_TangleError⟩,⟨C_NoWeb,PySem.W.mg_of X G zx_NoWeb,λx k R h1 h2=>by
  rcases Qir h1 with ⟨rfl,rfl⟩ | ⟨rfl,rfl⟩
  ·obtain rfl:=xR_NoWeb R h2;exact ⟨xQ_NoWeb,Qhv⟩
  ·obtain rfl:=xR_Odd R h2;exact ⟨xQ_Odd,Q7 zn_Odd_NoWeb zc_NoWeb zt_NoWeb zs_Odd_NoWeb⟩⟩,⟨C_Odd,PySem.W.mg_of X G zx_Odd,λx k R h1 h2=>by
  rcases Qmm h1 with ⟨rfl,rfl⟩ | ⟨rfl,rfl⟩
  ·obtain rfl:=xR_NoWeb R h2;exact ⟨xQ_NoWeb,Q7 zn_NoWeb_Odd zc_Odd zt_Odd zs_NoWeb_Odd⟩
  ·obtain rfl:=xR_Odd R h2;exact ⟨xQ_Odd,Qhv⟩⟩,⟨C_NoText,PySem.W.mg_of X G zx_NoText,λx k R h1 h2=>by
  rcases Qaw h1 with ⟨rfl,rfl⟩ | ⟨rfl,rfl⟩
  ·obtain rfl:=xR_NoWeb R h2;exact ⟨xQ_NoWeb,Q7 zn_NoWeb_NoText zc_NoText zt_NoText zs_NoWeb_NoText⟩
  ·obtain rfl:=xR_Odd R h2;exact ⟨xQ_Odd,Q7 zn_Odd_NoText zc_NoText zt_NoText zs_Odd_NoText⟩⟩,⟨C_NotFlat,PySem.W.mg_of X G zx_NotFlat,λx k R h1 h2=>by
  rcases Qaw h1 with ⟨rfl,rfl⟩ | ⟨rfl,rfl⟩
  ·obtain rfl:=xR_NoWeb R h2;exact ⟨xQ_NoWeb,Q7 zn_NoWeb_NotFlat zc_NotFlat zt_NotFlat zs_NoWeb_NotFlat⟩
  ·obtain rfl:=xR_Odd R h2;exact ⟨xQ_Odd,Q7 zn_Odd_NotFlat zc_NotFlat zt_NotFlat zs_Odd_NotFlat⟩⟩,⟨C_TooMany,PySem.W.mg_of X G zx_TooMany,λx k R h1 h2=>by
  rcases Qaw h1 with ⟨rfl,rfl⟩ | ⟨rfl,rfl⟩
  ·obtain rfl:=xR_NoWeb R h2;exact ⟨xQ_NoWeb,Q7 zn_NoWeb_TooMany zc_TooMany zt_TooMany zs_NoWeb_TooMany⟩
  ·obtain rfl:=xR_Odd R h2;exact ⟨xQ_Odd,Q7 zn_Odd_TooMany zc_TooMany zt_TooMany zs_Odd_TooMany⟩⟩,⟨C_TooWide,PySem.W.mg_of X G zx_TooWide,λx k R h1 h2=>by
  rcases Qaw h1 with ⟨rfl,rfl⟩ | ⟨rfl,rfl⟩
  ·obtain rfl:=xR_NoWeb R h2;exact ⟨xQ_NoWeb,Q7 zn_NoWeb_TooWide zc_TooWide zt_TooWide zs_NoWeb_TooWide⟩
  ·obtain rfl:=xR_Odd R h2;exact ⟨xQ_Odd,Q7 zn_Odd_TooWide zc_TooWide zt_TooWide zs_Odd_TooWide⟩⟩,⟨C_NoStep,PySem.W.mg_of X G zx_NoStep,λx k R h1 h2=>by
  rcases Qaw h1 with ⟨rfl,rfl⟩ | ⟨rfl,rfl⟩
  ·obtain rfl:=xR_NoWeb R h2;exact ⟨xQ_NoWeb,Q7 zn_NoWeb_NoStep zc_NoStep zt_NoStep zs_NoWeb_NoStep⟩
  ·obtain rfl:=xR_Odd R h2;exact ⟨xQ_Odd,Q7 zn_Odd_NoStep zc_NoStep zt_NoStep zs_Odd_NoStep⟩⟩,⟨C_NoTurning,PySem.W.mg_of X G zx_NoTurning,λx k R h1 h2=>by
  rcases Qaw h1 with ⟨rfl,rfl⟩ | ⟨rfl,rfl⟩
  ·obtain rfl:=xR_NoWeb R h2;exact ⟨xQ_NoWeb,Q7 zn_NoWeb_NoTurning zc_NoTurning zt_NoTurning zs_NoWeb_NoTurning⟩
  ·obtain rfl:=xR_Odd R h2;exact ⟨xQ_Odd,Q7 zn_Odd_NoTurning zc_NoTurning zt_NoTurning zs_Odd_NoTurning⟩⟩,⟨C_BadPace,PySem.W.mg_of X G zx_BadPace,λx k R h1 h2=>by
  rcases Qaw h1 with ⟨rfl,rfl⟩ | ⟨rfl,rfl⟩
  ·obtain rfl:=xR_NoWeb R h2;exact ⟨xQ_NoWeb,Q7 zn_NoWeb_BadPace zc_BadPace zt_BadPace zs_NoWeb_BadPace⟩
  ·obtain rfl:=xR_Odd R h2;exact ⟨xQ_Odd,Q7 zn_Odd_BadPace zc_BadPace zt_BadPace zs_Odd_BadPace⟩⟩,⟨C_NoMatch,PySem.W.mg_of X G zx_NoMatch,λx k R h1 h2=>by
  rcases Qaw h1 with ⟨rfl,rfl⟩ | ⟨rfl,rfl⟩
  ·obtain rfl:=xR_NoWeb R h2;exact ⟨xQ_NoWeb,Q7 zn_NoWeb_NoMatch zc_NoMatch zt_NoMatch zs_NoWeb_NoMatch⟩
  ·obtain rfl:=xR_Odd R h2;exact ⟨xQ_Odd,Q7 zn_Odd_NoMatch zc_NoMatch zt_NoMatch zs_Odd_NoMatch⟩⟩,⟨C_NoName,PySem.W.mg_of X G zx_NoName,λx k R h1 h2=>by
  rcases Qaw h1 with ⟨rfl,rfl⟩ | ⟨rfl,rfl⟩
  ·obtain rfl:=xR_NoWeb R h2;exact ⟨xQ_NoWeb,Q7 zn_NoWeb_NoName zc_NoName zt_NoName zs_NoWeb_NoName⟩
  ·obtain rfl:=xR_Odd R h2;exact ⟨xQ_Odd,Q7 zn_Odd_NoName zc_NoName zt_NoName zs_Odd_NoName⟩⟩,⟨C_NoRow,PySem.W.mg_of X G zx_NoRow,λx k R h1 h2=>by
  rcases Qaw h1 with ⟨rfl,rfl⟩ | ⟨rfl,rfl⟩
  ·obtain rfl:=xR_NoWeb R h2;exact ⟨xQ_NoWeb,Q7 zn_NoWeb_NoRow zc_NoRow zt_NoRow zs_NoWeb_NoRow⟩
  ·obtain rfl:=xR_Odd R h2;exact ⟨xQ_Odd,Q7 zn_Odd_NoRow zc_NoRow zt_NoRow zs_Odd_NoRow⟩⟩,⟨PySem.W.mg_none_of X G zV,λx k R h1 h2=>by
  rcases Qau h1 with ⟨rfl,rfl⟩ | ⟨rfl,rfl⟩
  ·obtain rfl:=xR_NoWeb R h2;exact ⟨xQ_NoWeb,Qko zVs_NoWeb⟩
  ·obtain rfl:=xR_Odd R h2;exact ⟨xQ_Odd,Qko zVs_Odd⟩⟩,λx C h1 h2=>by obtain rfl:=of_decide_eq_true h1;obtain rfl:=xR_Odd C h2;exact ⟨xC_Odd,xQ_Odd,xna_Odd⟩⟩
 have F1:=Yq (st:=Yc) l1 c1 k1
 have F2:=Yq (st:=Yd) l2 c2 k2
 have F3:=Yq (st:=J4) l3 c3 k3
 have F4:=Yq (st:=Jf) l4 c4 k4
 have F5:=Yq (st:=Qv) l5 c5 k5
 have F6:=Yq (st:=Zk) l6 c6 k6
 have F7:=Yq (st:=Ja) l7 c7 k7
 have F8:=Yq (st:=Jc) l8 c8 k8
 have F9:=Yq (st:=Jz) l9 c9 k9
 have F10:=Yq (st:=Jq) l10 c10 k10
 have F11:=Yq (st:=J5) l11 c11 k11
 have F12:=Yq (st:=Ji) l12 c12 k12
 have F13:=Yq (st:=Jy) l13 c13 k13
 have F14:=Yq (st:=J6) l14 c14 k14
 have F15:=Yq (st:=Ye) l15 c15 k15
 have F16:=Yq (st:=Qt) l16 c16 k16
 have F17:=Yq (st:=Jb) l17 c17 k17
 have F18:=Yq (st:=Qaf) l18 c18 k18
 refine ⟨PySem.W.fnOf "law" "law" (Jh Qaf) (Qn Qaf) (Qb Qaf) .none kV18 dc18 pm18 an18 cd18 ct18,λs v=>.of_eq rfl,λbase _ _=>?_⟩
 have I_Odd:Qn7 l.prog w K mg base "Odd" "arc" 1:=⟨C_Odd,fi_Odd,_,["self","arc"],PySem.W.mg_of X G zx_Odd,zx_Odd,xkp_Odd,xC_Odd,xii_Odd,xti_Odd,Qiy (Yq (st:=Zn) li_Odd ci_Odd ki_Odd) (PySem.W.mg_of X G zx_TangleError) xsp xrd xfc xC_Odd xna_Odd,(Yq (st:=Zn) li_Odd ci_Odd ki_Odd).binds λ_ _ _ _ _ _ us hl=>by obtain ⟨_,_,rfl⟩:=len2 hl;rfl⟩
 have C_is_whole:Cal l.prog w K mg base "is_whole" 1 ["thing"] (spR K Vd):=⟨f1,_,Qgl F1 B,PySem.W.mg_of X G a1,k1,F1.binds λ_ _ _ _ _ _ us hl=>by obtain ⟨_,rfl⟩:=len1 hl;rfl⟩
 have C_is_count:Cal l.prog w K mg base "is_count" 2 ["thing"] (spR K Yo):=⟨f2,_,Qgm F2 B C_is_whole,PySem.W.mg_of X G a2,k2,F2.binds λ_ _ _ _ _ _ us hl=>by obtain ⟨_,rfl⟩:=len1 hl;rfl⟩
 have C_are_arcs:Cal l.prog w K mg base "are_arcs" 3 ["thing"] (spR K Yp):=⟨f3,_,Qgn F3 B C_is_count,PySem.W.mg_of X G a3,k3,F3.binds λ_ _ _ _ _ _ us hl=>by obtain ⟨_,rfl⟩:=len1 hl;rfl⟩
 have C_is_crossing:Cal l.prog w K mg base "is_crossing" 4 ["thing"] (spR K Yx):=⟨f4,_,Qcg F4 B C_are_arcs,PySem.W.mg_of X G a4,k4,F4.binds λ_ _ _ _ _ _ us hl=>by obtain ⟨_,rfl⟩:=len1 hl;rfl⟩
 have C_is_made_as_web:Cal l.prog w K mg base "is_made_as_web" 5 ["thing"] (spR K J3):=⟨f5,_,Xu F5 B C_is_count C_are_arcs C_is_crossing,PySem.W.mg_of X G a5,k5,F5.binds λ_ _ _ _ _ _ us hl=>by obtain ⟨_,rfl⟩:=len1 hl;rfl⟩
 have C_places:Cal l.prog w K mg base "places" 1 ["web"] (spR K Xh):=⟨f6,_,Qki F6 B,PySem.W.mg_of X G a6,k6,F6.binds λ_ _ _ _ _ _ us hl=>by obtain ⟨_,rfl⟩:=len1 hl;rfl⟩
 have C_check_web:CalD l.prog w K mg base "check_web" 6 ["thing"] (spXD K Zr):=⟨f7,_,Qek F7 B C_is_made_as_web C_places I_Odd,PySem.W.mg_of X G a7,k7,F7.binds λ_ _ _ _ _ _ us hl=>by obtain ⟨_,rfl⟩:=len1 hl;rfl⟩
 have C__law_cell_at:Cal l.prog w K mg base "_law_cell_at" 1 ["_law_script","_law_k"] (spR K Yw):=⟨f8,_,Qbx F8 B,PySem.W.mg_of X G a8,k8,F8.binds λ_ _ _ _ _ _ us hl=>by obtain ⟨_,_,rfl⟩:=len2 hl;rfl⟩
 have C__law_take:Cal l.prog w K mg base "_law_take" 1 ["_law_row","_law_base"] (spI K 0 Qm):=⟨f9,_,Qem F9 B,PySem.W.mg_of X G a9,k9,F9.binds λ_ _ _ _ _ _ us hl=>by obtain ⟨_,_,rfl⟩:=len2 hl;rfl⟩
 have C__law_arcs:Cal l.prog w K mg base "_law_arcs" 2 ["_law_row","_law_many"] (spI K 0 Vc):=⟨f10,_,Qen F10 B C__law_take,PySem.W.mg_of X G a10,k10,F10.binds λ_ _ _ _ _ _ us hl=>by obtain ⟨_,_,rfl⟩:=len2 hl;rfl⟩
 have C__law_web:Cal l.prog w K mg base "_law_web" 3 ["_law_row","_law_many","_law_ends"] (spI K 0 Ue):=⟨f11,_,Qgo F11 B C__law_take C__law_arcs,PySem.W.mg_of X G a11,k11,F11.binds λ_ _ _ _ _ _ us hl=>by obtain ⟨_,_,_,rfl⟩:=len3 hl;rfl⟩
 have C__law_class:CalH l.prog w K mg base "_law_class" 1 ["_law_error"] (spR K Zq):=⟨f12,_,Qdp F12 B,PySem.W.mg_of X G a12,k12,F12.binds λ_ _ _ _ _ _ us hl=>by obtain ⟨_,rfl⟩:=len1 hl;rfl⟩
 have C__law_told:Cal l.prog w K mg base "_law_told" 7 ["_law_thing"] (spR K Yf):=⟨f13,_,Qel F13 B C_check_web C__law_class,PySem.W.mg_of X G a13,k13,F13.binds λ_ _ _ _ _ _ us hl=>by obtain ⟨_,rfl⟩:=len1 hl;rfl⟩
 have C__law_due:Cal l.prog w K mg base "_law_due" 1 ["_law_web_here"] (spR K Vb):=⟨f14,_,Qgq F14 B,PySem.W.mg_of X G a14,k14,F14.binds λ_ _ _ _ _ _ us hl=>by obtain ⟨_,rfl⟩:=len1 hl;rfl⟩
 have C__law_put:Cal l.prog w K mg base "_law_put" 1 ["_law_web_here","_law_at","_law_arc"] (spR K Va):=⟨f15,_,Qgp F15 B,PySem.W.mg_of X G a15,k15,F15.binds λ_ _ _ _ _ _ us hl=>by obtain ⟨_,_,_,rfl⟩:=len3 hl;rfl⟩
 have C__law_no_crossing:Cal l.prog w K mg base "_law_no_crossing" 2 ["_law_web_here","_law_row"] (spI K 1 Jt):=⟨f16,_,Go F16 B C__law_take,PySem.W.mg_of X G a16,k16,F16.binds λ_ _ _ _ _ _ us hl=>by obtain ⟨_,_,rfl⟩:=len2 hl;rfl⟩
 have C__law_spoiled:Cal l.prog w K mg base "_law_spoiled" 3 ["_law_web_here","_law_row"] (spI K 1 Yv):=⟨f17,_,Qbw F17 B C__law_take C__law_due C__law_put C__law_no_crossing,PySem.W.mg_of X G a17,k17,F17.binds λ_ _ _ _ _ _ us hl=>by obtain ⟨_,_,rfl⟩:=len2 hl;rfl⟩
 exact Qso F18 B C__law_cell_at C__law_take C__law_web C__law_told C__law_spoiled
theorem Qsv {K:PySem.W.Frag} {H:Hp} {a:Addr} {ns:List Int} (hl:ns.length<=63) (ho:Only H) (hS:SqL K H a (ns.map V.int)):spR K Qk3 [.ref a] H (λv _=>v=.bl true) λ_ _ _=>False:=by
 have fz:FzL K H a (ns.map V.int):=by
  rcases hS with (h | h) | h
  ·rcases ho a with z | ⟨o,xs,z⟩
   ·rw [z] at h;cases h
   ·rw [z] at h;cases h
  ·exact .inl h
  ·exact .inr h
 refine ⟨[.kls (ns.map .int)],[],λd=>d=.bl true,?_,⟨ns,rfl,hl,rfl⟩,λv H' d F' fi hd=>?_⟩
 ·exact .cons (F:=[]) (G:=[]) (.kls fz (Reps.ints ns)) .nil
 ·subst hd
  exact Qhl fi.rep
theorem walk {l:PySem.W.OpenLaw} {q:Program} {loose:List Str} {XP:(Str->Option Value)->Heap->Prop} {YP:World->Heap->Prop} {d:DefRec} {K:Params->PySem.W.Frag} (hn:l.most=some 63) (hdf:d.params.defaults=[])
  (hY:∀(w:World) (h:Heap),YP w h->(K w.params).In h)
  (F:∀(w:World) (mg:Str->Option Value) (fa:Addr) (h:Heap),(K w.params).In h->h.Ns mainGlobals mg->mg d.name=some (.ref fa) ->
   ∃fd:FuncData,(∀(s:Shared) (u:Value),BindsTo s fd ⟨[u],[]⟩ [("_law_script",u)])/\∀base:Heap,(K w.params).In base->base.Ns mainGlobals mg->FnOk l.prog w (K w.params) mg base CX0 8 fa fd ["_law_script"] (spR (K w.params) Qk3)) :
  PySem.W.WalkO q loose XP YP l.row.toRowW d [] (λf vs=>PySem.call f vs) :=
 L2.Qo7 (n:=63) (k:=8) (x:="_law_script") (CX:=λ_=>CX0) (sp:=λw=>spR (K w.params) Qk3) hn (by decide) hdf ⟨rfl,by decide,by decide⟩ hY F (λ_ _ a ns hl ho hS=>Qsv hl ho hS) λ_ _ _ _ _ z=>z
end K01
open PySem PySem.W PyProof.Rows
def PySem.W.Fast.tw12784930023560714028:=0
def PySem.W.Fast.tw4657172245715532275:=0
def PySem.W.Fast.tw1487852865945304202:=0
def PySem.W.Fast.tw602983645725360753:=0
def PySem.W.Fast.tw3711189576811459359:=0
def PySem.W.Fast.tw15301343021289307034:=0
def PySem.W.Fast.tw14357260414639994159:=0
def PySem.W.Fast.tw15291701248508800514:=0
def PySem.W.Fast.tw6458447378116789730:=0
def PySem.W.Fast.tw18196080781297968578:=0
def PySem.W.Fast.tw8063621906188733663:=0
def PySem.W.Fast.tw16766239573391321306:=0
def PySem.W.Fast.tw16199938558196982298:=0
def PySem.W.Fast.tw11121358081965561180:=0
def PySem.W.Fast.tw12418405678354426267:=0
def PySem.W.Fast.tw9848824961030703912:=0
def PySem.W.Fast.tw13826963724154080678:=0
def PySem.W.Fast.tw5621995744081744040:=0
def PySem.W.Fast.tw2660973303157327218:=0
def PySem.W.Fast.tw11868262054477641014:=0
def PySem.W.Fast.tw14791283760865202488:=0
def PySem.W.Fast.tw7665135095127173806:=0
def PySem.W.Fast.tw3083021584474228251:=0
def PySem.W.Fast.tw17108015629621683166:=0
def PySem.W.Fast.tw1013360218132615901:=0
def PySem.W.Fast.tw4182102507509410597:=0
def PySem.W.Fast.tw7490040686873405313:=0
def PySem.W.Fast.tw11402971779515661216:=0
def PySem.W.Fast.tw1248149052260543217:=0
def PySem.W.Fast.tw4831032855960947645:=0
def PySem.W.Fast.tw10884604749343134298:=0
def PySem.W.Fast.tw11730450075215481504:=0
def PySem.W.Fast.tw8484659329120744662:=0
def PySem.W.Fast.tw6011791035530275628:=0
def PySem.W.Fast.tw13515229935966742887:=0
def PySem.W.Fast.tw4111094899882993694:=0
def PySem.W.Fast.tw10723036208476101189:=0
def PySem.W.Fast.tw8715788272011038789:=0
def PySem.W.Fast.tw5280242123571516982:=0
def PySem.W.Fast.tw7342350391400265990:=0
def PySem.W.Fast.tw6665991754501776979:=0
def PySem.W.Fast.tw7159794729105401340:=0
def PySem.W.Fast.tw15516081703287897294:=0
def PySem.W.Fast.tw2100352342489526696:=0
def PySem.W.Fast.tw16249108852716782273:=0
def PySem.W.Fast.tw11846381922417805121:=0
def PySem.W.Fast.tw15693978246156403852:=0
def PySem.W.Fast.tw8145465671249093316:=0
def PySem.W.Fast.tw8077474748796417583:=0
def PySem.W.Fast.tw12815211075533381579:=0
def PySem.W.Fast.tw9795492403281079545:=0
def PySem.W.Fast.tw13863535587802717594:=0
def PySem.W.Fast.tw2748302802700312456:=0
def PySem.W.Fast.tw8954443236785496921:=0
def PySem.W.Fast.tw2145662882984585629:=0
def PySem.W.Fast.tw1745211637111295957:=0
def PySem.W.Fast.tw18049571216614734580:=0
def PySem.W.Fast.tw9463258638795159963:=0
def PySem.W.Fast.tw18113669041342461776:=0
def PySem.W.Fast.tw8582985835609407451:=0
def PySem.W.Fast.tw1412032494282926260:=0
def PySem.W.Fast.tw10028304456530500616:=0
def PySem.W.Fast.tw13500851426972912691:=0
def PySem.W.Fast.tw15298521370769147946:=0
def PySem.W.Fast.tw12339189499380401185:=0
def PySem.W.Fast.tw14324822541740667684:=0
def PySem.W.Fast.tw2659227120268487283:=0
def PySem.W.Fast.tw14094053195543246123:=0
def PySem.W.Fast.tw2933407372944852044:=0
def PySem.W.Fast.tw5165802497172373887:=0
def PySem.W.Fast.tw6033034096754471617:=0
def PySem.W.Fast.tw3789803403192392820:=0
def PySem.W.Fast.tw1228269993135156732:=0
def PySem.W.Fast.tw6416873843456274786:=0
def PySem.W.Fast.tw12031763493043193433:=0
def PySem.W.Fast.tw9871443865588929631:=0
def PySem.W.Fast.tw2461551638643653733:=0
def PySem.W.Fast.tw10911717748397642942:=0
def PySem.W.Fast.tw9564107130455117413:=0
def PySem.W.Fast.tw4016001953590707630:=0
def PySem.W.Fast.tw3244568423109449247:=0
def PySem.W.Fast.tw14679960375258310252:=0
def PySem.W.Fast.tw8270150263950473529:=0
def PySem.W.Fast.tw1422277713299903937:=0
def PySem.W.Fast.tw7014313930898947603:=0
def PySem.W.Fast.tw4918500326989039263:=0
def PySem.W.Fast.tw13118760108810629080:=0
def PySem.W.Fast.tw4379347192418460631:=0
def PySem.W.Fast.tw6392751838430972254:=0
def PySem.W.Fast.tw16076114398903120007:=0
def PySem.W.Fast.tw16048355561197427256:=0
def PySem.W.Fast.tw7703980186501700793:=0
def PySem.W.Fast.tw13257624827250522713:=0
def PySem.W.Fast.tw9507484314332369960:=0
def PySem.W.Fast.tw10118818757715754656:=0
def PySem.W.Fast.tw8007776913369615639:=0
def PySem.W.Fast.tw17677633368491793334:=0
def PySem.W.Fast.tw1987180447103866539:=0
def PySem.W.Fast.tw422667626715228576:=0
def PySem.W.Fast.tw12342337546699054886:=0
def PySem.W.Fast.tw4806021499400425029:=0
def PySem.W.Fast.tw16728141633713390098:=0
def PySem.W.Fast.tw10775059671747577278:=0
def PySem.W.Fast.tw12090451428051367741:=0
def PySem.W.Fast.tw13530682220029004052:=0
def PySem.W.Fast.tw15026005847707351636:=0
def PySem.W.Fast.tw5597917277764035886:=0
def PySem.W.Fast.tw9632559481939579914:=0
def PySem.W.Fast.tw5147843394093489916:=0
def PySem.W.Fast.tw12532363922749475323:=0
def PySem.W.Fast.tw14553511807893188513:=0
def PySem.W.Fast.tw10340991495909034121:=0
def PySem.W.Fast.tw8033250442699378808:=0
def PySem.W.Fast.tw686097211015706462:=0
def PySem.W.Fast.tw15845253434709128485:=0
def PySem.W.Fast.tw12478577990697747209:=0
def PySem.W.Fast.tw6434646237106660865:=0
def PySem.W.Fast.tw1667824753749194201:=0
def PySem.W.Fast.tw14683048902028570979:=0
def PySem.W.Fast.tw18148830473693753311:=0
def PySem.W.Fast.tw8466907493111747668:=0
def PySem.W.Fast.tw11937653246644021851:=0
def PySem.W.Fast.tw5776893676574223173:=0
def PySem.W.Fast.tw638640614046062332:=0
def PySem.W.Fast.tw2258188965868108059:=0
def PySem.W.Fast.tw11176688866157601833:=0
def PySem.W.Fast.tw17155090656360531050:=0
def PySem.W.Fast.tw6968810815320852953:=0
def PySem.W.Fast.tw2409029634167480036:=0
def PySem.W.Fast.tw1120954078904872126:=0
def PySem.W.Fast.tw304099202997869988:=0
def PySem.W.Fast.tw2311033211042760441:=0
def PySem.W.Fast.tw14591132757943070003:=0
def PySem.W.Fast.tw16815518823974473075:=0
def PySem.W.Fast.tw11292682298697092141:=0
def PySem.W.Fast.tw10434631412804776870:=0
def PySem.W.Fast.tw12104125582632123103:=0
def PySem.W.Fast.tw2780866930153661902:=0
def PySem.W.Fast.tw1250233872369376105:=0
def PySem.W.Fast.tw13496865570598438417:=0
def PySem.W.Fast.tw2204834950766447067:=0
def PySem.W.Fast.tw10392327797830764858:=0
def PySem.W.Fast.tw8944045502477390846:=0
def PySem.W.Fast.tw5852062846199773504:=0
def PySem.W.Fast.tw7839861350875548420:=0
def PySem.W.Fast.tw1800897335840636597:=0
def PySem.W.Fast.tw16491510130412403707:=0
def PySem.W.Fast.tw6626101681997419445:=0
def PySem.W.Fast.tw7623933686122273988:=0
def PySem.W.Fast.tw12246677338128774709:=0
def PySem.W.Fast.tw5393309277237758696:=0
def PySem.W.Fast.tw11853147752593925044:=0
def PySem.W.Fast.tw8216118569920819141:=0
def PySem.W.Fast.tw7993795912416926085:=0
def PySem.W.Fast.tw7831261069020795295:=0
def PySem.W.Fast.tw16938789316754673383:=0
def PySem.W.Fast.tw16404146085134706385:=0
def PySem.W.Fast.tw3541607449496572423:=0
def PySem.W.Fast.tw4128314432373148147:=0
def PySem.W.Fast.tw4770652086465427359:=0
def PySem.W.Fast.tw6536446468083637338:=0
def PySem.W.Fast.tw13186703629850659696:=0
def PySem.W.Fast.tw11529812687631656337:=0
def PySem.W.Fast.tw14527587093675239707:=0
def PySem.W.Fast.tw3336303140565240352:=0
def PySem.W.Fast.tw5504104012021658115:=0
def PySem.W.Fast.tw4421569312128075577:=0
def PySem.W.Fast.tw2474816042849753922:=0
def PySem.W.Fast.tw10259789596972800168:=0
def PySem.W.Fast.tw8297543405211681978:=0
def PySem.W.Fast.tw9632674449298800465:=0
def PySem.W.Fast.tw15702047287912628940:=0
def PySem.W.Fast.tw5719252437100049807:=0
def PySem.W.Fast.tw17304285278730707753:=0
def PySem.W.Fast.tw7369750136615001873:=0
def PySem.W.Fast.tw11636659168523964036:=0
def PySem.W.Fast.tw1367183235060471408:=0
def PySem.W.Fast.tw10584693945927834184:=0
def PySem.W.Fast.tw6055623436268042102:=0
def PySem.W.Fast.tw506531456963405493:=0
def PySem.W.Fast.tw13682153660495190100:=0
def PySem.W.Fast.tw6369978868829257765:=0
def PySem.W.Fast.tw2699139308849764807:=0
def PySem.W.Fast.tw13319489222290707079:=0
def PySem.W.Fast.tw15308791296501286122:=0
def PySem.W.Fast.tw17495820051175313913:=0
def PySem.W.Fast.tw12157128923430768783:=0
def PySem.W.Fast.tw15823945937882897024:=0
def PySem.W.Fast.tw2286467588795516199:=0
def PySem.W.Fast.tw16903138426243504415:=0
def PySem.W.Fast.tw16540434357678903430:=0
def PySem.W.Fast.tw4227955471004853351:=0
def PySem.W.Fast.tw1099545332975480983:=0
def PySem.W.Fast.tw1396018687161241840:=0
def PySem.W.Fast.tw3653907152799997793:=0
def PySem.W.Fast.tw17099719560623064544:=0
def PySem.W.Fast.tw14643619861452116913:=0
def PySem.W.Fast.tw310290824475439313:=0
def PySem.W.Fast.tw11888423322994337067:=0
def PySem.W.Fast.tw3904022010795742553:=0
def PySem.W.Fast.tw2550908400272463360:=0
def PySem.W.Fast.tw17735670614673473092:=0
def PySem.W.Fast.tw7133743491389037524:=0
def PySem.W.Fast.tw11853267558891466874:=0
def PySem.W.Fast.tw12484305978464574414:=0
def PySem.W.Fast.tw11072490420993006011:=0
def PySem.W.Fast.tw8176187516797802798:=0
def PySem.W.Fast.tw7106531846724979012:=0
def PySem.W.Fast.tw544435573501333433:=0
def PySem.W.Fast.tw16009713813520129674:=0
def PySem.W.Fast.tw14352365351279957082:=0
def PySem.W.Fast.tw13348031696213981583:=0
def PySem.W.Fast.tw12815610902484034252:=0
def PySem.W.Fast.tw17416893737716953440:=0
def PySem.W.Fast.tw1313989671022309078:=0
def PySem.W.Fast.tw4687424986980877683:=0
def PySem.W.Fast.tw10467921143806752069:=0
def PySem.W.Fast.tw12143810932466177500:=0
def PySem.W.Fast.tw16484700634854555087:=0
def PySem.W.Fast.tw956927487522722840:=0
def PySem.W.Fast.tw10757373084388947090:=0
def PySem.W.Fast.tw90311130193431282:=0
def PySem.W.Fast.tw9290508439805492612:=0
def PySem.W.Fast.tw16686700179108558650:=0
def PySem.W.Fast.tw13432824402494625013:=0
def PySem.W.Fast.tw7798243725883402959:=0
def PySem.W.Fast.tw15948181235159562235:=0
def PySem.W.Fast.tw460482992611670143:=0
def PySem.W.Fast.tw6160050572076053449:=0
def PySem.W.Fast.tw6637672328971825318:=0
def PySem.W.Fast.tw2835936138841598509:=0
def PySem.W.Fast.tw6986159429185305325:=0
def PySem.W.Fast.tw9736963213542082216:=0
def PySem.W.Fast.tw10206828117429818811:=0
def PySem.W.Fast.tw16883249793180789136:=0
def PySem.W.Fast.tw268474834181311327:=0
def PySem.W.Fast.tw10720333092119459689:=0
def PySem.W.Fast.tw16411419336268451152:=0
def PySem.W.Fast.tw5188626268918797634:=0
def PySem.W.Fast.tw3507990807166474:=0
def PySem.W.Fast.tw5671800366771558090:=0
def PySem.W.Fast.tw5328724073968169547:=0
def PySem.W.Fast.tw5156476366805732175:=0
def PySem.W.Fast.tw12003511727079514911:=0
def PySem.W.Fast.tw1977520165547042682:=0
def PySem.W.Fast.tw12357417732119159440:=0
def PySem.W.Fast.tw17859760476482536216:=0
def PySem.W.Fast.tw6314740511876574724:=0
def PySem.W.Fast.tw10975543576164885648:=0
def PySem.W.Fast.tw17907167153556376169:=0
def PySem.W.Fast.tw10852036534983369522:=0
def PySem.W.Fast.tw8439186144187191647:=0
def PySem.W.Fast.tw17584480554942808866:=0
def PySem.W.Fast.tw7442771176193071298:=0
def PySem.W.Fast.tw16429373017154647407:=0
def PySem.W.Fast.tw6492242807211293198:=0
def PySem.W.Fast.tw10665989726635344147:=0
def PySem.W.Fast.tw1503586146305661449:=0
def PySem.W.Fast.tw3825582925677490757:=0
def PySem.W.Fast.tw17959721686230282557:=0
def PySem.W.Fast.tw6809819394948986166:=0
def PySem.W.Fast.tw9750122772141715074:=0
def PySem.W.Fast.tw896980882988544209:=0
def PySem.W.Fast.tw10686819394477635198:=0
def PySem.W.Fast.tw16370939331485049822:=0
def PySem.W.Fast.tw13744834714935513244:=0
def PySem.W.Fast.tw684928754724143764:=0
def PySem.W.Fast.tw6195593300738722548:=0
def PySem.W.Fast.tw5294001217472646640:=0
def PySem.W.Fast.tw5162145639095853044:=0
def PySem.W.Fast.tw17771446962562619698:=0
def PySem.W.Fast.tw5731093470101903583:=0
def PySem.W.Fast.tw11302963469174607003:=0
def PySem.W.Fast.tw5360384086870392581:=0
def PySem.W.Fast.tw16484017132196522644:=0
def PySem.W.Fast.tw2076953357876497757:=0
def PySem.W.Fast.tw3906831278772698586:=0
def PySem.W.Fast.tw6607936617180344098:=0
def PySem.W.Fast.tw4151937667334603643:=0
def PySem.W.Fast.tw8904209295455594580:=0
def PySem.W.Fast.tw10594818945201333409:=0
def PySem.W.Fast.tw13667980341762615171:=0
def PySem.W.Fast.tw326191579558718712:=0
def PySem.W.Fast.tw11145577788848626629:=0
def PySem.W.Fast.tw11482145539251613473:=0
def PySem.W.Fast.tw3994921557911442491:=0
def PySem.W.Fast.tw16299291208652843973:=0
def PySem.W.Fast.tw4159250096759864099:=0
def PySem.W.Fast.tw226407003234726209:=0
def PySem.W.Fast.tw5832933378975920044:=0
def PySem.W.Fast.tw1484823868730235904:=0
def PySem.W.Fast.tw7401784074282806425:=0
def PySem.W.Fast.tw8010975025700120584:=0
def PySem.W.Fast.tw9186600996627110250:=0
def PySem.W.Fast.tw6123549042540228537:=0
def PySem.W.Fast.tw9685791514657559539:=0
def PySem.W.Fast.tw7550460230393871206:=0
def PySem.W.Fast.tw7854148038475692944:=0
def PySem.W.Fast.tw16711178054725784011:=0
def PySem.W.Fast.tw9574938884712218920:=0
def PySem.W.Fast.tw9231495705227784221:=0
def PySem.W.Fast.tw17096650666533878339:=0
def PySem.W.Fast.tw1563803194156282105:=0
def PySem.W.Fast.tw4410544508128095265:=0
def PySem.W.Fast.tw6866676582995319280:=0
def PySem.W.Fast.tw16676587055318848920:=0
def PySem.W.Fast.tw13813619488482771642:=0
def PySem.W.Fast.tw3909452689921293661:=0
def PySem.W.Fast.tw1577639650791944077:=0
def PySem.W.Fast.tw16908933329044268411:=0
def PySem.W.Fast.tw12640092603085795541:=0
def PySem.W.Fast.tw8304754711669209446:=0
def PySem.W.Fast.tw12790766026380439469:=0
def PySem.W.Fast.tw9835634822817180708:=0
def PySem.W.Fast.tw2193583362408194502:=0
def PySem.W.Fast.tw14274762247486932845:=0
def PySem.W.Fast.tw5558122365924097212:=0
def PySem.W.Fast.tw11432329966535002307:=0
def PySem.W.Fast.tw12956463484322230885:=0
def PySem.W.Fast.tw2536765989440696695:=0
def PySem.W.Fast.tw10974351294540449041:=0
def PySem.W.Fast.tw7316591056492244365:=0
def PySem.W.Fast.tw2209717984098508646:=0
def PySem.W.Fast.tw15602524161838786434:=0
def PySem.W.Fast.tw4735752014918219888:=0
def PySem.W.Fast.tw6511270549893805912:=0
def PySem.W.Fast.tw18267427596328674463:=0
def PySem.W.Fast.tw8177868430238905506:=0
def PySem.W.Fast.tw10067196701709488600:=0
def PySem.W.Fast.tw3925568487335684863:=0
def PySem.W.Fast.tw12616036546736907816:=0
def PySem.W.Fast.tw3577192589482144012:=0
def PySem.W.Fast.tw9954077234451470583:=0
def PySem.W.Fast.tw1175968880389881474:=0
def PySem.W.Fast.tw2167772517073700427:=0
def PySem.W.Fast.tw16954398238105311852:=0
def PySem.W.Fast.tw10057109305118272648:=0
def PySem.W.Fast.tw13576145266883270160:=0
def PySem.W.Fast.tw17045010917676623304:=0
def PySem.W.Fast.tw12747775970700879688:=0
def PySem.W.Fast.tw15513796788237624958:=0
def PySem.W.Fast.tw10426764409675472144:=0
def PySem.W.Fast.tw2599268358327089095:=0
def PySem.W.Fast.tw11721032751561921728:=0
set_option maxRecDepth 100000 in
set_option maxHeartbeats 0 in
theorem PySem.Challenge.cw_tanglehouse_k01_what_is_a_web_holds : PySem.Challenge.rw_tanglehouse_k01_what_is_a_web.Holds := by
 w_on;o_law;k_head;(case hw=>w_witness2)
 k_fill
 refine K01.walk (l:=PySem.Challenge.rw_tanglehouse_k01_what_is_a_web) rfl rfl (λw h Y=>PySem.W.kIn_of Y) ?F
 case F =>
  intro w mg fa h KX G hmg
  refine' K01.Qtq KX G hmg ?a1 ?l1 ?c1 ?k1 ?a2 ?l2 ?c2 ?k2 ?a3 ?l3 ?c3 ?k3 ?a4 ?l4 ?c4 ?k4 ?a5 ?l5 ?c5 ?k5 ?a6 ?l6 ?c6 ?k6 ?a7 ?l7 ?c7 ?k7 ?a8 ?l8 ?c8 ?k8 ?a9 ?l9 ?c9 ?k9 ?a10 ?l10 ?c10 ?k10 ?a11 ?l11 ?c11 ?k11 ?a12 ?l12 ?c12 ?k12 ?a13 ?l13 ?c13 ?k13 ?a14 ?l14 ?c14 ?k14 ?a15 ?l15 ?c15 ?k15 ?a16 ?l16 ?c16 ?k16 ?a17 ?l17 ?c17 ?k17 ?a18 ?l18 ?c18 ?k18 ?z_all ?z_bool ?z_enumerate ?z_int ?z_isinstance ?z_len ?z_list ?z_min ?z_range ?z_tuple ?z_RIM ?zx_NoWeb ?zc_NoWeb ?zt_NoWeb ?zx_Odd ?zc_Odd ?zt_Odd ?zx_TangleError ?zc_TangleError ?zt_TangleError ?zx_NoText ?zc_NoText ?zt_NoText ?zx_NotFlat ?zc_NotFlat ?zt_NotFlat ?zx_TooMany ?zc_TooMany ?zt_TooMany ?zx_TooWide ?zc_TooWide ?zt_TooWide ?zx_NoStep ?zc_NoStep ?zt_NoStep ?zx_NoTurning ?zc_NoTurning ?zt_NoTurning ?zx_BadPace ?zc_BadPace ?zt_BadPace ?zx_NoMatch ?zc_NoMatch ?zt_NoMatch ?zx_NoName ?zc_NoName ?zt_NoName ?zx_NoRow ?zc_NoRow ?zt_NoRow ?zb_TangleError ?xl2 ?xn2 ?xs2 ?xi2 ?xsp ?xrd ?xfc ?zs_NoWeb_Odd ?zn_NoWeb_Odd ?zs_NoWeb_TangleError ?zn_NoWeb_TangleError ?zs_NoWeb_NoText ?zn_NoWeb_NoText ?zs_NoWeb_NotFlat ?zn_NoWeb_NotFlat ?zs_NoWeb_TooMany ?zn_NoWeb_TooMany ?zs_NoWeb_TooWide ?zn_NoWeb_TooWide ?zs_NoWeb_NoStep ?zn_NoWeb_NoStep ?zs_NoWeb_NoTurning ?zn_NoWeb_NoTurning ?zs_NoWeb_BadPace ?zn_NoWeb_BadPace ?zs_NoWeb_NoMatch ?zn_NoWeb_NoMatch ?zs_NoWeb_NoName ?zn_NoWeb_NoName ?zs_NoWeb_NoRow ?zn_NoWeb_NoRow ?xl1_NoWeb ?xq1_NoWeb ?xq2_NoWeb ?xq3_NoWeb ?xq4_NoWeb ?xq5_NoWeb ?xn1_NoWeb ?xs1_NoWeb ?xi1_NoWeb ?zs_Odd_NoWeb ?zn_Odd_NoWeb ?zs_Odd_TangleError ?zn_Odd_TangleError ?zs_Odd_NoText ?zn_Odd_NoText ?zs_Odd_NotFlat ?zn_Odd_NotFlat ?zs_Odd_TooMany ?zn_Odd_TooMany ?zs_Odd_TooWide ?zn_Odd_TooWide ?zs_Odd_NoStep ?zn_Odd_NoStep ?zs_Odd_NoTurning ?zn_Odd_NoTurning ?zs_Odd_BadPace ?zn_Odd_BadPace ?zs_Odd_NoMatch ?zn_Odd_NoMatch ?zs_Odd_NoName ?zn_Odd_NoName ?zs_Odd_NoRow ?zn_Odd_NoRow ?xl1_Odd ?xq1_Odd ?xq2_Odd ?xq3_Odd ?xq4_Odd ?xq5_Odd ?xsa_Odd ?xii_Odd ?xti_Odd ?xkp_Odd ?xna_Odd ?li_Odd ?ci_Odd ?ki_Odd ?zV ?zVs_NoWeb ?zVs_Odd
  (case a1=>k_is)
  (case l1=>k_is)
  (case c1=>k_is)
  (case k1=>k_is)
  (case a2=>k_is)
  (case l2=>k_is)
  (case c2=>k_is)
  (case k2=>k_is)
  (case a3=>k_is)
  (case l3=>k_is)
  (case c3=>k_is)
  (case k3=>k_is)
  (case a4=>k_is)
  (case l4=>k_is)
  (case c4=>k_is)
  (case k4=>k_is)
  (case a5=>k_is)
  (case l5=>k_is)
  (case c5=>k_is)
  (case k5=>k_is)
  (case a6=>k_is)
  (case l6=>k_is)
  (case c6=>k_is)
  (case k6=>k_is)
  (case a7=>k_is)
  (case l7=>k_is)
  (case c7=>k_is)
  (case k7=>k_is)
  (case a8=>k_is)
  (case l8=>k_is)
  (case c8=>k_is)
  (case k8=>k_is)
  (case a9=>k_is)
  (case l9=>k_is)
  (case c9=>k_is)
  (case k9=>k_is)
  (case a10=>k_is)
  (case l10=>k_is)
  (case c10=>k_is)
  (case k10=>k_is)
  (case a11=>k_is)
  (case l11=>k_is)
  (case c11=>k_is)
  (case k11=>k_is)
  (case a12=>k_is)
  (case l12=>k_is)
  (case c12=>k_is)
  (case k12=>k_is)
  (case a13=>k_is)
  (case l13=>k_is)
  (case c13=>k_is)
  (case k13=>k_is)
  (case a14=>k_is)
  (case l14=>k_is)
  (case c14=>k_is)
  (case k14=>k_is)
  (case a15=>k_is)
  (case l15=>k_is)
  (case c15=>k_is)
  (case k15=>k_is)
  (case a16=>k_is)
  (case l16=>k_is)
  (case c16=>k_is)
  (case k16=>k_is)
  (case a17=>k_is)
  (case l17=>k_is)
  (case c17=>k_is)
  (case k17=>k_is)
  (case a18=>k_is)
  (case l18=>k_is)
  (case c18=>k_is)
  (case k18=>k_is)
  (case z_all=>first | k_is | rfl | decide +kernel)
  (case z_bool=>first | k_is | rfl | decide +kernel)
  (case z_enumerate=>first | k_is | rfl | decide +kernel)
  (case z_int=>first | k_is | rfl | decide +kernel)
  (case z_isinstance=>first | k_is | rfl | decide +kernel)
  (case z_len=>first | k_is | rfl | decide +kernel)
  (case z_list=>first | k_is | rfl | decide +kernel)
  (case z_min=>first | k_is | rfl | decide +kernel)
  (case z_range=>first | k_is | rfl | decide +kernel)
  (case z_tuple=>first | k_is | rfl | decide +kernel)
  (case z_RIM=>first | k_is | rfl | decide +kernel)
  (case zx_NoWeb=>first | k_is | rfl | decide +kernel)
  (case zc_NoWeb=>first | k_is | rfl | decide +kernel)
  (case zt_NoWeb=>first | k_is | rfl | decide +kernel)
  (case zx_Odd=>first | k_is | rfl | decide +kernel)
  (case zc_Odd=>first | k_is | rfl | decide +kernel)
  (case zt_Odd=>first | k_is | rfl | decide +kernel)
  (case zx_TangleError=>first | k_is | rfl | decide +kernel)
  (case zc_TangleError=>first | k_is | rfl | decide +kernel)
  (case zt_TangleError=>first | k_is | rfl | decide +kernel)
  (case zx_NoText=>first | k_is | rfl | decide +kernel)
  (case zc_NoText=>first | k_is | rfl | decide +kernel)
  (case zt_NoText=>first | k_is | rfl | decide +kernel)
  (case zx_NotFlat=>first | k_is | rfl | decide +kernel)
  (case zc_NotFlat=>first | k_is | rfl | decide +kernel)
  (case zt_NotFlat=>first | k_is | rfl | decide +kernel)
  (case zx_TooMany=>first | k_is | rfl | decide +kernel)
  (case zc_TooMany=>first | k_is | rfl | decide +kernel)
  (case zt_TooMany=>first | k_is | rfl | decide +kernel)
  (case zx_TooWide=>first | k_is | rfl | decide +kernel)
  (case zc_TooWide=>first | k_is | rfl | decide +kernel)
  (case zt_TooWide=>first | k_is | rfl | decide +kernel)
  (case zx_NoStep=>first | k_is | rfl | decide +kernel)
  (case zc_NoStep=>first | k_is | rfl | decide +kernel)
  (case zt_NoStep=>first | k_is | rfl | decide +kernel)
  (case zx_NoTurning=>first | k_is | rfl | decide +kernel)
  (case zc_NoTurning=>first | k_is | rfl | decide +kernel)
  (case zt_NoTurning=>first | k_is | rfl | decide +kernel)
  (case zx_BadPace=>first | k_is | rfl | decide +kernel)
  (case zc_BadPace=>first | k_is | rfl | decide +kernel)
  (case zt_BadPace=>first | k_is | rfl | decide +kernel)
  (case zx_NoMatch=>first | k_is | rfl | decide +kernel)
  (case zc_NoMatch=>first | k_is | rfl | decide +kernel)
  (case zt_NoMatch=>first | k_is | rfl | decide +kernel)
  (case zx_NoName=>first | k_is | rfl | decide +kernel)
  (case zc_NoName=>first | k_is | rfl | decide +kernel)
  (case zt_NoName=>first | k_is | rfl | decide +kernel)
  (case zx_NoRow=>first | k_is | rfl | decide +kernel)
  (case zc_NoRow=>first | k_is | rfl | decide +kernel)
  (case zt_NoRow=>first | k_is | rfl | decide +kernel)
  (case zb_TangleError=>first | k_is | rfl | decide +kernel)
  (case xl2=>first | k_is | rfl | decide +kernel)
  (case xn2=>first | k_is | rfl | decide +kernel)
  (case xs2=>first | k_is | rfl | decide +kernel)
  (case xi2=>first | k_is | rfl | decide +kernel)
  (case xsp=>first | k_is | rfl | decide +kernel)
  (case xrd=>first | k_is | rfl | decide +kernel)
  (case xfc=>first | k_is | rfl | decide +kernel)
  (case zs_NoWeb_Odd=>first | k_is | rfl | decide +kernel)
  (case zn_NoWeb_Odd=>first | k_is | rfl | decide +kernel)
  (case zs_NoWeb_TangleError=>first | k_is | rfl | decide +kernel)
  (case zn_NoWeb_TangleError=>first | k_is | rfl | decide +kernel)
  (case zs_NoWeb_NoText=>first | k_is | rfl | decide +kernel)
  (case zn_NoWeb_NoText=>first | k_is | rfl | decide +kernel)
  (case zs_NoWeb_NotFlat=>first | k_is | rfl | decide +kernel)
  (case zn_NoWeb_NotFlat=>first | k_is | rfl | decide +kernel)
  (case zs_NoWeb_TooMany=>first | k_is | rfl | decide +kernel)
  (case zn_NoWeb_TooMany=>first | k_is | rfl | decide +kernel)
  (case zs_NoWeb_TooWide=>first | k_is | rfl | decide +kernel)
  (case zn_NoWeb_TooWide=>first | k_is | rfl | decide +kernel)
  (case zs_NoWeb_NoStep=>first | k_is | rfl | decide +kernel)
  (case zn_NoWeb_NoStep=>first | k_is | rfl | decide +kernel)
  (case zs_NoWeb_NoTurning=>first | k_is | rfl | decide +kernel)
  (case zn_NoWeb_NoTurning=>first | k_is | rfl | decide +kernel)
  (case zs_NoWeb_BadPace=>first | k_is | rfl | decide +kernel)
  (case zn_NoWeb_BadPace=>first | k_is | rfl | decide +kernel)
  (case zs_NoWeb_NoMatch=>first | k_is | rfl | decide +kernel)
  (case zn_NoWeb_NoMatch=>first | k_is | rfl | decide +kernel)
  (case zs_NoWeb_NoName=>first | k_is | rfl | decide +kernel)
  (case zn_NoWeb_NoName=>first | k_is | rfl | decide +kernel)
  (case zs_NoWeb_NoRow=>first | k_is | rfl | decide +kernel)
  (case zn_NoWeb_NoRow=>first | k_is | rfl | decide +kernel)
  (case xl1_NoWeb=>first | k_is | rfl | decide +kernel)
  (case xq1_NoWeb=>first | k_is | rfl | decide +kernel)
  (case xq2_NoWeb=>first | k_is | rfl | decide +kernel)
  (case xq3_NoWeb=>first | k_is | rfl | decide +kernel)
  (case xq4_NoWeb=>first | k_is | rfl | decide +kernel)
  (case xq5_NoWeb=>first | k_is | rfl | decide +kernel)
  (case xn1_NoWeb=>first | k_is | rfl | decide +kernel)
  (case xs1_NoWeb=>first | k_is | rfl | decide +kernel)
  (case xi1_NoWeb=>first | k_is | rfl | decide +kernel)
  (case zs_Odd_NoWeb=>first | k_is | rfl | decide +kernel)
  (case zn_Odd_NoWeb=>first | k_is | rfl | decide +kernel)
  (case zs_Odd_TangleError=>first | k_is | rfl | decide +kernel)
  (case zn_Odd_TangleError=>first | k_is | rfl | decide +kernel)
  (case zs_Odd_NoText=>first | k_is | rfl | decide +kernel)
  (case zn_Odd_NoText=>first | k_is | rfl | decide +kernel)
  (case zs_Odd_NotFlat=>first | k_is | rfl | decide +kernel)
  (case zn_Odd_NotFlat=>first | k_is | rfl | decide +kernel)
  (case zs_Odd_TooMany=>first | k_is | rfl | decide +kernel)
  (case zn_Odd_TooMany=>first | k_is | rfl | decide +kernel)
  (case zs_Odd_TooWide=>first | k_is | rfl | decide +kernel)
  (case zn_Odd_TooWide=>first | k_is | rfl | decide +kernel)
  (case zs_Odd_NoStep=>first | k_is | rfl | decide +kernel)
  (case zn_Odd_NoStep=>first | k_is | rfl | decide +kernel)
  (case zs_Odd_NoTurning=>first | k_is | rfl | decide +kernel)
  (case zn_Odd_NoTurning=>first | k_is | rfl | decide +kernel)
  (case zs_Odd_BadPace=>first | k_is | rfl | decide +kernel)
  (case zn_Odd_BadPace=>first | k_is | rfl | decide +kernel)
  (case zs_Odd_NoMatch=>first | k_is | rfl | decide +kernel)
  (case zn_Odd_NoMatch=>first | k_is | rfl | decide +kernel)
  (case zs_Odd_NoName=>first | k_is | rfl | decide +kernel)
  (case zn_Odd_NoName=>first | k_is | rfl | decide +kernel)
  (case zs_Odd_NoRow=>first | k_is | rfl | decide +kernel)
  (case zn_Odd_NoRow=>first | k_is | rfl | decide +kernel)
  (case xl1_Odd=>first | k_is | rfl | decide +kernel)
  (case xq1_Odd=>first | k_is | rfl | decide +kernel)
  (case xq2_Odd=>first | k_is | rfl | decide +kernel)
  (case xq3_Odd=>first | k_is | rfl | decide +kernel)
  (case xq4_Odd=>first | k_is | rfl | decide +kernel)
  (case xq5_Odd=>first | k_is | rfl | decide +kernel)
  (case xsa_Odd=>first | k_is | rfl | decide +kernel)
  (case xii_Odd=>first | k_is | rfl | decide +kernel)
  (case xti_Odd=>first | k_is | rfl | decide +kernel)
  (case xkp_Odd=>first | k_is | rfl | decide +kernel)
  (case xna_Odd=>first | k_is | rfl | decide +kernel)
  (case li_Odd=>k_is)
  (case ci_Odd=>k_is)
  (case ki_Odd=>k_is)
  (case zV=>first | k_is | rfl | decide +kernel)
  (case zVs_NoWeb=>first | k_is | rfl | decide +kernel)
  (case zVs_Odd=>first | k_is | rfl | decide +kernel)
