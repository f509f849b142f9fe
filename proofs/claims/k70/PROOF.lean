import PyProof.Rows.All
import Wide.All
import OpenK.AllK
import Wide.FinOn
import Lean
import PyProof.EqAt
import PyProof.EqKinds
import PyProof.TupleCall
import PyProof.EnumMake
import PyProof.EnumFor
import PyProof.Draws
import PyProof.DictWalks
import PyProof.ListRange
import PyProof.ZipIter
import PyProof.Rows.SortWalk
import PyProof.Rows.SumAny
import PyProof.TupleIter
import PyProof.MeetsStr2
import PyProof.StrWalks
import Wide.Txt
import PyProof.Rows.SortRuns
import PyProof.Rows.MinMaxN
import PyProof.ExcClass2
import PyProof.NsDelKeeps
import PyProof.ExcArgsOwn
import PyProof.ExcAttrAll.ValueError
import PyProof.ExcBaseAll.ValueError
import PySem.Challenge.RW_tanglehouse_k70_whole_eased
set_option Elab.async false
set_option linter.all false
set_option maxRecDepth 100000
namespace L2
open PySem PySem.Spec PyProof.Rows
abbrev Key:=Sum Int Str
def Qfg:Key->Value->Bool
 | .inl k,v=>Value.isInt k v
 | .inr x,v=>Value.isStrOf x v
def keyH (w:World):Key->Int
 | .inl k=>hashInt k
 | .inr x=>hashStr w x
theorem J4:∀{k:Key} {v:Value},Qfg k v=true->(∃i t,k=Sum.inl i/\v=Value.int i t)\/(∃x t,k=Sum.inr x/\v=Value.str x t)
 | .inl i,v,h=>by
  obtain ⟨t,e⟩:=Value.isInt_shape (k:=i) (v:=v) h
  exact .inl ⟨i,t,rfl,e⟩
 | .inr x,v,h=>by
  obtain ⟨t,e⟩:=Value.isStrOf_shape (x:=x) (v:=v) h
  exact .inr ⟨x,t,rfl,e⟩
theorem Qjm (i:Int) (t:Tok):Qfg (.inl i) (.int i t)=true:=by simp [Qfg,Value.isInt]
theorem Qjl (x:Str) (t:Tok):Qfg (.inr x) (.str x t)=true:=by simp [Qfg,Value.isStrOf]
theorem Qsr (a b:Int):decide ((Sum.inl a:Key)=Sum.inl b)=(a == b):=by
 by_cases e:a=b
 ·subst e;simp
 ·have h:¬(Sum.inl a:Key)=Sum.inl b:=λq=>e (Sum.inl.inj q)
  rw [decide_eq_false h]
  exact (beq_eq_false_iff_ne.mpr e).symm
theorem Qso (a b:Str):decide ((Sum.inr a:Key)=Sum.inr b)=decide (a=b):=by
 by_cases e:a=b
 ·subst e;simp
 ·have h:¬(Sum.inr a:Key)=Sum.inr b:=λq=>e (Sum.inr.inj q)
  rw [decide_eq_false h,decide_eq_false e]
theorem Qsq (a:Int) (b:Str):decide ((Sum.inl a:Key)=Sum.inr b)=false:=decide_eq_false (λq=>nomatch q)
theorem Qsp (a:Str) (b:Int):decide ((Sum.inr a:Key)=Sum.inl b)=false:=decide_eq_false (λq=>nomatch q)
def J8 (prog:Program) (w:World):PySem.KeyKind prog w Key where
 is:=Qfg
 hash:=keyH w
 inj:=λv a b ha hb=>by
  rcases J4 ha with ⟨i,t,rfl,rfl⟩ | ⟨x,t,rfl,rfl⟩
  ·rcases J4 hb with ⟨j,u,rfl,e⟩ | ⟨y,u,rfl,e⟩
   ·injection e with e1 _;rw [e1]
   ·exact nomatch e
  ·rcases J4 hb with ⟨j,u,rfl,e⟩ | ⟨y,u,rfl,e⟩
   ·exact nomatch e
   ·injection e with e1 _;rw [e1]
 byValue:=λk v h=>by
  rcases J4 h with ⟨i,t,rfl,rfl⟩ | ⟨x,t,rfl,rfl⟩ <;> rfl
 pyHash:=λhv h=>by
  rcases J4 hv with ⟨i,t,rfl,rfl⟩ | ⟨x,t,rfl,rfl⟩
  ·exact wpAny_pyHash_int h
  ·exact wpAny_pyHash_str h
 eqBool:=λhu hv h=>by
  rcases J4 hu with ⟨i,t,rfl,rfl⟩ | ⟨x,t,rfl,rfl⟩
  ·rcases J4 hv with ⟨j,u,rfl,rfl⟩ | ⟨y,u,rfl,rfl⟩
   ·rw [Qsr] at h;exact wpAny_eqBool_int h
   ·rw [Qsq] at h;exact SeqAt.EqAt.int_str i t y u _ _ _ _ h
  ·rcases J4 hv with ⟨j,u,rfl,rfl⟩ | ⟨y,u,rfl,rfl⟩
   ·rw [Qsp] at h;exact SeqAt.EqAt.str_int x t j u _ _ _ _ h
   ·rw [Qso] at h;exact wpAny_eqBool_str h
 «strs»:=λk x t v h=>by
  rcases J4 h with ⟨i,u,rfl,e⟩ | ⟨y,u,rfl,e⟩
  ·exact nomatch e
  ·injection e with e1 _
   subst e1
   cases v <;> rfl
theorem Qhn (prog:Program) (w:World) (k:Key) (v:Value):(J8 prog w).is k v=Qfg k v:=rfl
theorem Qfe (prog:Program) (w:World) (i:Int) (t:Tok):(J8 prog w).is (.inl i) (.int i t)=true:=Qjm i t
theorem Qfd (prog:Program) (w:World) (x:Str) (t:Tok):(J8 prog w).is (.inr x) (.str x t)=true:=Qjl x t
end L2
namespace L2
open PySem PySem.Spec PyProof.Rows
inductive V where
 | non | bl (b:Bool) | int (i:Int) | str (x:Str) | byt (b:Array UInt8) | flt (b:UInt64) | ref (a:Addr) | ty (n:String)
 deriving DecidableEq
def RelV:V->Value->Prop
 | .non,u=>u=Value.none
 | .bl b,u=>u=Value.bool b
 | .int i,u=>∃t,u=Value.int i t
 | .str x,u=>∃t,u=Value.str x t
 | .byt b,u=>∃t,u=Value.bytes b t
 | .flt b,u=>∃t,u=Value.float b t
 | .ref a,u=>u=Value.ref a
 | .ty n,u=>u=Value.type n
abbrev Vals:List V->List Value->Prop:=Paired RelV
theorem Vals.length {xs:List V} {us:List Value} (r:Vals xs us):xs.length=us.length:=Paired.length r
theorem Vals.get:∀{xs:List V} {us:List Value} {i:Nat} {x:V},Vals xs us->xs[i]? = some x->∃u,us[i]? = some u/\RelV x u
 | _,_,_,_,.nil,e=>by simp at e
 | _,_,0,_,.cons r _,e=>by simp at e;subst e;exact ⟨_,rfl,r⟩
 | _,_,i+1,x,.cons _ t,e=>by
  obtain ⟨u,h1,h2⟩:=Vals.get (i:=i) (x:=x) t (by simpa using e)
  exact ⟨u,by simpa using h1,h2⟩
theorem Vals.set {x:V} {u:Value} (r:RelV x u):∀{xs:List V} {us:List Value} (i:Nat),Vals xs us->Vals (xs.set i x) (us.set i u)
 | _,_,_,.nil=>.nil
 | _,_,0,.cons _ t=>.cons r t
 | _,_,i+1,.cons q t=>.cons q (Vals.set r i t)
theorem Vals.append:∀{xs ys:List V} {us ws:List Value},Vals xs us->Vals ys ws->Vals (xs++ys) (us++ws)
 | _,_,_,_,.nil,s=>s
 | _,_,_,_,.cons r t,s=>.cons r (Vals.append t s)
theorem Vals.take:∀{xs:List V} {us:List Value} (n:Nat),Vals xs us->Vals (xs.take n) (us.take n)
 | _,_,0,_=>.nil
 | _,_,_+1,.nil=>.nil
 | _,_,n+1,.cons r t=>.cons r (Vals.take n t)
theorem Vals.drop:∀{xs:List V} {us:List Value} (n:Nat),Vals xs us->Vals (xs.drop n) (us.drop n)
 | _,_,0,r=>r
 | _,_,_+1,.nil=>.nil
 | _,_,n+1,.cons _ t=>Vals.drop n t
def RelO:Option V->Option Value->Prop
 | some v,some u=>RelV v u
 | none,none=>True
 | _,_=>False
def KV {κ:Type}:List (κ × V)->List (κ × Value)->Prop:=Paired λ(p:κ × V) (q:κ × Value)=>p.1=q.1/\RelV p.2 q.2
def kV:Key->V
 | .inl i=>.int i
 | .inr x=>.str x
inductive HO where
 | lst (xs:List V)
 | tup (xs:List V)
 | dK (kvs:List (Key × V)) | dT (kvs:List (List Key × V))
 | set (S:Int->Bool) (n:Nat)
 | ins (C dx:Addr) (fs:List (Str × V))
 | own (x:Addr)
 | xd (fs:List (Str × V))
 | met (f x:Addr)
 | rng (lo hi:Int)
 | frz (o:Obj) (u:HO)
 | tbl (ps:Array Value)
 | ext (φ:Heap->Prop)
abbrev Hp:=Addr->Option HO
def upd (H:Hp) (a:Addr) (o:HO):Hp:=λb=>if b=a then some o else H b
theorem Qn {H:Hp} {a:Addr} {o:HO}:upd H a o a=some o:=by unfold upd;rw [if_pos rfl]
theorem Qy {H:Hp} {a b:Addr} {o:HO} (h:b≠a):upd H a o b=H b:=by unfold upd;rw [if_neg h]
theorem Qur {H:Hp} {a b:Addr} {o u:HO} (h:H a=some o) (h':H b=some u) (d:o≠u):a≠b:=by
 intro e;subst e;rw [h] at h';exact d (Option.some.inj h')
theorem Jx {H:Hp} {a b:Addr} {o:HO} (h:H a=some o) (h':H b=none):a≠b:=by
 intro e;subst e;rw [h] at h';cases h'
section
variable (P:Program) (w:World)
def Yx (H:Hp) (h:Heap) (a:Addr):HO->Prop
 | .lst xs=>xs.length<=sizeLine/\∃(its:List Value) (n:Nat),Vals xs its/\h.get? a=some { cls:=.type "list",data:=.seq its.toArray n }
 | .tup xs=>xs.length<=sizeLine/\∃its:List Value,Vals xs its/\IsTup h a its.toArray
 | .dK kvs=>kvs.length<=sizeLine/\(a == sysModules)=false/\∃vs,KV kvs vs/\h.DictOf (J8 P w) a vs
 | .dT kvs=>kvs.length<=sizeLine/\(a == sysModules)=false/\∃xs:List (List Key × Addr × Value),
   Paired (λ(p:List Key × V) (q:List Key × Addr × Value)=>p.1=q.1/\H q.2.1=some (.tup (p.1.map kV))/\RelV p.2 q.2.2) kvs xs /\
   ∃o es ep,h.get? a=some o/\o.ExactDict/\o.data=.dict es ep/\es.toList=xs.map (entryOfKey (tupleKind (J8 P w)))/\(xs.map (·.1)).Nodup
 | .set S n=>h.SetOf (intKind P w) a S n
 | .ins C dx fs=>H dx=some (.own a)/\fs.length<=1000/\dx≠a/\h.get? a=some (PySem.W.instObj C dx) /\
   ∃mA,h.Ns1 dx mA/\(∀f,RelO (fs.lookup f) (mA f))/\PySem.Within mA (fs.map (·.1))
 | .own _=>∃o,h.get? a=some o
 | .xd fs=>∃mA,h.Ns1 a mA/\∀f,RelO (fs.lookup f) (mA f)
 | .rng lo hi=>∃t u v,h.get? a=some { cls:=.type "range",data:=.fields #[.int lo t,.int hi u,.int 1 v] }
 | .frz o u=>h.get? a=some o/\Yx H h a u
 | .tbl ps=>∃ts:Array Value,h.get? a=some { cls:=.none,data:=.fields ts }/\(ts = #[]\/∃(b:Addr) (oc:Obj) (u:HO) (vs:Array Value) (t:Tok) (q:Str) (t':Tok),ts = #[ps.getD 0 .none,ps.getD 1 .none,.ref b]/\H b=some (.frz oc u)/\oc.data=.fields vs/\ps.getD 2 .none=.str q t'/\vs[1]? = some (.str q t))
 | .met f x=>h.get? a=some (PySem.W.methodObj (.ref f) (.ref x))
 | .ext φ=>φ h/\(∃o,h.get? a=some o)/\∀h1 h2:Heap,φ h1->(∀o,h1.get? a=some o->h2.get? a=some o)->φ h2
def HOk (H:Hp) (h:Heap):Prop:=∀a o,H a=some o->Yx P w H h a o
end
section
variable {P:Program} {w:World} {H H':Hp} {h h':Heap} {a:Addr} {o:HO}
theorem Yx.lt (x:Yx P w H h a o):a<h.objs.size:=by
 cases o with
 | lst xs=>obtain ⟨_,_,_,_,e⟩:=x;exact Heap.lt_size e
 | tup xs=>obtain ⟨_,_,_,p⟩:=x;exact p.lt
 | dK kvs=>obtain ⟨_,_,_,_,o,_,_,e,_⟩:=x;exact Heap.lt_size e
 | dT kvs=>obtain ⟨_,_,_,_,o,_,_,e,_⟩:=x;exact Heap.lt_size e
 | set S n=>obtain ⟨o,_,_,_,e,_⟩:=x;exact Heap.lt_size e
 | ins C dx fs=>obtain ⟨_,_,_,e,_⟩:=x;exact Heap.lt_size e
 | own y=>obtain ⟨_,e⟩:=x;exact Heap.lt_size e
 | xd fs=>obtain ⟨_,⟨_,_,_,e,_⟩,_⟩:=x;exact Heap.lt_size e
 | rng lo hi=>obtain ⟨_,_,_,e⟩:=x;exact Heap.lt_size e
 | frz ob u=>obtain ⟨e,_⟩:=x;exact Heap.lt_size e
 | tbl ps=>obtain ⟨_,e,_⟩:=x;exact Heap.lt_size e
 | met f y=>exact Heap.lt_size (show h.get? a=some _ from x)
 | ext φ=>obtain ⟨_,⟨_,e⟩,_⟩:=x;exact Heap.lt_size e
theorem Paired.mapP {α β:Type} {F G:α->β->Prop}:∀{l₁:List α} {l₂:List β},Paired F l₁ l₂->(∀a b,F a b->G a b)->Paired G l₁ l₂
 | _,_,.nil,_=>.nil
 | _,_,.cons r t,f=>.cons (f _ _ r) (Paired.mapP t f)
theorem Yx.stay (x:Yx P w H h a o) (k:∀b u,(b=a\/H b=some (.own a))->h.get? b=some u->h'.get? b=some u)
  (ho:∀b,H b=some (.own a)->H' b=some (.own a)) (ht:∀b xs,H b=some (.tup xs)->H' b=some (.tup xs)) (hf:∀b u v vs,H b=some (.frz u v)->u.data=.fields vs->H' b=some (.frz u v):=by exact λ_ _ _ _ q _=>q):Yx P w H' h' a o:=by
 induction o with
 | lst xs=>obtain ⟨z,its,n,r,e⟩:=x;exact ⟨z,its,n,r,k _ _ (.inl rfl) e⟩
 | tup xs=>obtain ⟨z,its,r,ob,e,c⟩:=x;exact ⟨z,its,r,ob,k _ _ (.inl rfl) e,c⟩
 | dK kvs=>obtain ⟨z,y,vs,r,ob,es,ep,e,c⟩:=x;exact ⟨z,y,vs,r,ob,es,ep,k _ _ (.inl rfl) e,c⟩
 | dT kvs =>
  obtain ⟨z,y,xs,r,ob,es,ep,e,c⟩:=x
  exact ⟨z,y,xs,Paired.mapP r λp q z=>⟨z.1,ht _ _ z.2.1,z.2.2⟩,ob,es,ep,k _ _ (.inl rfl) e,c⟩
 | set S n=>obtain ⟨ob,es,ep,t,e,c⟩:=x;exact ⟨ob,es,ep,t,k _ _ (.inl rfl) e,c⟩
 | ins C dx fs =>
  obtain ⟨d,z,ne,e,mA,⟨od,es,ep,e2,c⟩,r⟩:=x
  exact ⟨ho _ d,z,ne,k _ _ (.inl rfl) e,mA,⟨od,es,ep,k _ _ (.inr d) e2,c⟩,r⟩
 | own y=>obtain ⟨ob,e⟩:=x;exact ⟨ob,k _ _ (.inl rfl) e⟩
 | xd fs=>obtain ⟨mA,⟨od,es,ep,e,c⟩,r⟩:=x;exact ⟨mA,⟨od,es,ep,k _ _ (.inl rfl) e,c⟩,r⟩
 | rng lo hi=>obtain ⟨t,u,v,e⟩:=x;exact ⟨t,u,v,k _ _ (.inl rfl) e⟩
 | frz ob u ih=>obtain ⟨e,q⟩:=x;exact ⟨k _ _ (.inl rfl) e,ih q⟩
 | tbl ps =>
  obtain ⟨ts,e,r⟩:=x
  exact ⟨ts,k _ _ (.inl rfl) e,r.imp id λ⟨b,oc,u,vs,t,q,t',z1,z2,z3⟩=>⟨b,oc,u,vs,t,q,t',z1,hf _ _ _ _ z2 z3.1,z3⟩⟩
 | met f y =>
  have e:h.get? a=some (PySem.W.methodObj (.ref f) (.ref y)):=x
  show h'.get? a=some (PySem.W.methodObj (.ref f) (.ref y))
  exact k a _ (.inl rfl) e
 | ext φ=>obtain ⟨p,⟨o,e⟩,st⟩:=x;exact ⟨st _ _ p λo q=>k _ _ (.inl rfl) q,⟨o,k _ _ (.inl rfl) e⟩,st⟩
theorem HOk.lt (x:HOk P w H h) (e:H a=some o):a<h.objs.size:=(x a o e).lt
theorem HOk.fresh (x:HOk P w H h) (e:h.objs.size<=a):H a=none:=by
 cases q:H a with
 | none=>rfl
 | some u=>exact absurd (Nat.lt_of_lt_of_le (x.lt q) e) (Nat.lt_irrefl _)
theorem HOk.kept (x:HOk P w H h) (k:∀b u,h.get? b=some u->h'.get? b=some u):HOk P w H h':=λa o e =>
 (x a o e).stay (λb u _ q=>k b u q) (λ_ q=>q) λ_ _ q=>q
theorem HOk.laid (x:HOk P w H h) (k:∀b u,h.get? b=some u->h'.get? b=some u) (hp:h.objs.size<=a) (new:Yx P w (upd H a o) h' a o):HOk P w (upd H a o) h':=λb u e=>by
 have hn:=x.fresh hp
 by_cases hb:b=a
 ·subst hb;rw [Qn] at e;cases e;exact new
 ·rw [Qy hb] at e
  exact (x b u e).stay (λc v _ q=>k c v q) (λc q=>by rw [Qy (Jx q hn)];exact q) (λc xs q=>by rw [Qy (Jx q hn)];exact q) λc _ _ _ q _=>by rw [Qy (Jx q hn)];exact q
end
def Rd (H:Hp) (a:Addr) (u:HO):Prop:=H a=some u\/∃o,H a=some (.frz o u)
theorem Rd.of {H:Hp} {a:Addr} {u:HO} (h:H a=some u):Rd H a u:=.inl h
theorem Rd.ok {P:Program} {w:World} {H:Hp} {h:Heap} {a:Addr} {u:HO} (r:Rd H a u) (x:HOk P w H h):Yx P w H h a u:=by
 rcases r with r | ⟨o,r⟩
 ·exact x a u r
 ·obtain ⟨_,q⟩:=x a _ r
  exact q
def Mut:Option HO->Prop
 | some (.lst _)=>True
 | some (.dK _)=>True
 | some (.dT _)=>True
 | some (.set _ _)=>True
 | some (.ins _ _ _)=>True
 | some (.ext _)=>True
 | _=>False
section
variable {P:Program} {w:World} {H:Hp} {h h':Heap} {x e:Addr} {o':HO}
theorem HOk.write (ok:HOk P w H h) (mu:Mut (H x)) (he:e=x\/H e=some (.own x)) (k:∀b u,b≠e->h.get? b=some u->h'.get? b=some u) (heo:∃u,h'.get? e=some u)
  (new:Yx P w (upd H x o') h' x o'):HOk P w (upd H x o') h':=λb u q=>by
 have nown:∀c y,H c=some (.own y)->c≠x:=λc y r z=>by subst z;rw [r] at mu;exact mu
 have ntup:∀c xs,H c=some (.tup xs)->c≠x:=λc xs r z=>by subst z;rw [r] at mu;exact mu
 have nfrz:∀c o v,H c=some (.frz o v)->c≠x:=λc o v r z=>by subst z;rw [r] at mu;exact mu
 by_cases hb:b=x
 ·subst hb;rw [Qn] at q;cases q;exact new
 ·rw [Qy hb] at q
  by_cases hbe:b=e
  ·have q':H b=some (.own x):=by
    rcases he with z | z
    ·exact absurd (hbe.trans z) hb
    ·rw [hbe];exact z
   rw [q] at q';cases q'
   obtain ⟨v,hv⟩:=heo
   exact ⟨v,by rw [hbe];exact hv⟩
  ·refine (ok b u q).stay (λc v hc r=>k c v ?_ r) (λc r=>by rw [Qy (nown c b r)];exact r) (λc xs r=>by rw [Qy (ntup c xs r)];exact r) λc o v _ r _=>by rw [Qy (nfrz c o v r)];exact r
   rcases hc with rfl | hc
   ·exact hbe
   ·rintro rfl
    rcases he with z | z
    ·exact nown c b hc z
    ·rw [hc] at z;cases z;exact hb rfl
end
structure Un (fs ex:List Addr) (H H':Hp) (h h':Heap):Prop where
 keep:∀b o,h.get? b=some o->H b=none->b∉fs->b∉ex->h'.get? b=some o
 slot:∀b o,h.get? b=some o->H b=none->b∈fs->b∉ex->∃sl,h'.get? b=some { o with slots:=sl }
 free:∀b o,h.get? b=some o->H b=none->b∉ex->H' b=none
 there:∀b o,h.get? b=some o->b∉ex->∃o',h'.get? b=some o'
 tups:∀b xs,H b=some (.tup xs)->H' b=some (.tup xs)
 frzs:∀b o u,H b=some (.frz o u)->H' b=some (.frz o u)
 tbls:∀b ps,H b=some (.tbl ps)->∃more,H' b=some (.tbl (ps++more))
section
variable {fs fs' ex ex':List Addr} {H H1 H2:Hp} {h h1 h2 h':Heap} {a x e:Addr} {o:HO}
theorem Un.any (u:Un fs ex H H1 h h1) {b:Addr} {ob:Obj} (q:h.get? b=some ob) (n:H b=none) (hx:b∉ex):∃sl,h1.get? b=some { ob with slots:=sl }:=by
 by_cases hb:b∈fs
 ·exact u.slot b ob q n hb hx
 ·exact ⟨ob.slots,u.keep b ob q n hb hx⟩
theorem Un.kept (k:∀b u,h.get? b=some u->h'.get? b=some u):Un fs ex H H h h' :=
 ⟨λb ob q _ _ _=>k b ob q,λb ob q _ _ _=>⟨ob.slots,k b ob q⟩,λ_ _ _ n _=>n,λb ob q _=>⟨ob,k b ob q⟩,λ_ _ q=>q,λ_ _ _ q=>q,λ_ ps q=>⟨#[],by rw [q];simp⟩⟩
theorem Un.refl:Un fs ex H H h h:=Un.kept λ_ _ q=>q
theorem Un.laid (k:∀b u,h.get? b=some u->h'.get? b=some u) (hp:h.objs.size<=a) (hn:H a=none):Un fs ex H (upd H a o) h h' where
 keep:=λb u q _ _ _=>k b u q
 slot:=λb u q _ _ _=>⟨u.slots,k b u q⟩
 free:=λb u q n _=>by rw [Qy (Nat.ne_of_lt (Nat.lt_of_lt_of_le (Heap.lt_size q) hp))];exact n
 there:=λb u q _=>⟨u,k b u q⟩
 tups:=λb xs q=>by rw [Qy (Jx q hn)];exact q
 frzs:=λb u xs q=>by rw [Qy (Jx q hn)];exact q
 tbls:=λb ps q=>⟨#[],by rw [Qy (Jx q hn),q];simp⟩
theorem Un.write (mu:Mut (H x)) (he:e=x\/H e=some (.own x)) (k:∀b u,b≠e->h.get? b=some u->h'.get? b=some u) (heo:∃u,h'.get? e=some u):Un fs ex H (upd H x o) h h':=by
 have hx:∀b,H b=none->b≠x:=λb n z=>by subst z;rw [n] at mu;exact mu
 have hb:∀b,H b=none->b≠e:=λb n z=>by
  subst z
  rcases he with r | r
  ·exact hx b n r
  ·rw [n] at r;cases r
 have hm:∀b u,H b=some u->¬Mut (some u)->b≠x:=λb u q nm z=>by subst z;rw [q] at mu;exact nm mu
 refine ⟨λb u q n _ _=>k b u (hb b n) q,λb u q n _ _=>⟨u.slots,k b u (hb b n) q⟩,λb u q n _=>by rw [Qy (hx b n)];exact n,λb u q _=>?_,
  λb xs q=>by rw [Qy (hm b _ q λz=>z)];exact q,λb u xs q=>by rw [Qy (hm b _ q λz=>z)];exact q,λb ps q=>⟨#[],by rw [Qy (hm b _ q λz=>z),q];simp⟩⟩
 by_cases hbe:b=e
 ·subst hbe;exact heo
 ·exact ⟨u,k b u hbe q⟩
end
def trk (h:Heap) (H:Hp):List Addr:=(List.range h.objs.size).filter λa=>(H a).isSome
def hidT (h:Heap) (H:Hp):Heap:=PySem.W.hideAll h (trk h H)
theorem Qju (h:Heap) (H:Hp):(hidT h H).objs.size=h.objs.size:=PySem.W.hideAll_size _ _
theorem Qmb {h:Heap} {H:Hp} {b:Addr} {o:Obj} (e:h.get? b=some o) (n:H b=none):(hidT h H).get? b=some o :=
 PySem.W.hideAll_get _ e λhm=>by
  have q:(H b).isSome=true:=(List.mem_filter.mp hm).2
  rw [n] at q;simp at q
theorem Qpg {h:Heap} {H:Hp} {b:Addr} {o:Obj} (e:(hidT h H).get? b=some o):h.get? b=some o/\H b=none:=by
 have e':h.get? b=some o:=PySem.W.of_hideAll (trk h H) e
 refine ⟨e',?_⟩
 cases q:H b with
 | none=>rfl
 | some x =>
  have hm:b∈trk h H:=List.mem_filter.mpr ⟨List.mem_range.mpr (Heap.lt_size e'),by simp [q]⟩
  have z:(hidT h H).get? b=none:=PySem.W.hideAll_none (trk h H) hm
  rw [z] at e;cases e
end L2
namespace L2
open PySem PySem.Spec PyProof.Rows
structure Mod (K:PySem.W.Frag) (mg:Str->Option Value) (base:Heap):Prop where
 kin:K.In base
 glob:base.Ns mainGlobals mg
 blt:∃mb,base.Ns builtinsNs mb/\∀x:Str,x ≠ "__name__" -> mb x=bootBuiltins x
 nolimit:base.NoLimit
structure Cx where
 prog:Program
 w:World
 K:PySem.W.Frag
 mg:Str->Option Value
 base:Heap
 A:Around
 N:List Str
 s₀:Shared
 H₀:Hp
 env:Env
 outer:List Env
 stack:List Env
 ex:List Addr
 fn:Str->Bool
 calm:Bool
 pn:List (Addr × Obj)
 xe:Value->Shared->Prop
def frs (l:List Env):List Addr:=l.filterMap (·.frame)
abbrev Cx.fs (X:Cx):List Addr:=frs X.outer
def Vis (sc:Scope) (x:Str):Prop:=sc.names.lookup x=some .local\/sc.names.lookup x=some .cell\/sc.names.lookup x=some .free
def Loc (sc:Scope) (x:Str):Prop:=sc.names.lookup x=some .local\/sc.names.lookup x=some .cell
def Look (env:Env) (h:Heap) (m:Str->Option Value) (x:Str) (u:Value):Prop :=
 (env.kindOf x=some .local/\m x=some u)\/((env.kindOf x=some .cell\/env.kindOf x=some .free)/\∃c,env.cells.lookup x=some c/\h.IsCell c (some u))
structure Cx.Ok (X:Cx):Prop where
 mod:Mod X.K X.mg X.base
 kind:X.env.scope.kind=.function
 glob:X.env.globals=mainGlobals
 blt:X.env.builtins=builtinsNs
 above:X.s₀.heap.objs.size<=X.env.locals
 inj:∀x y c,X.env.cells.lookup x=some c->X.env.cells.lookup y=some c->x=y
 has:∀x,(X.env.kindOf x=some .cell\/X.env.kindOf x=some .free)->∃c,X.env.cells.lookup x=some c
 cab:∀x c,X.fn x=true->X.env.cells.lookup x=some c->X.s₀.heap.objs.size<=c
 hd:X.calm=true->X.A.handled=none
 frames:X.A.frames=some X.stack
 stk:X.stack=X.outer\/(X.stack=X.env::X.outer/\X.env.frame=some X.env.locals)
 exf:∀b∈X.ex,b≠X.env.locals/\∀x c,X.env.cells.lookup x=some c->c≠b
 bs:∀b o,X.base.get? b=some o->X.s₀.heap.get? b=some o/\X.H₀ b=none
 bsz:X.base.objs.size<=X.s₀.heap.objs.size
 noex:∀b o,X.base.get? b=some o->b∉X.ex
 exfs:∀b∈X.ex,b∉X.fs
 funs:X.s₀.heap.FunFrames X.base X.outer
 frf:∀b∈X.fs,X.H₀ b=none
structure Inv (X:Cx) (pins:List (Addr × Obj)) (σ:List (Option V)) (H:Hp) (s:Shared):Prop where
 ok:X.Ok
 os:s.os=X.s₀.os
 bare:AllBare s.gens
 base:Un X.fs X.ex X.H₀ H X.s₀.heap s.heap
 loc:∃m,s.heap.Ns X.env.locals m/\∀(i:Nat) (x:Str) (v:V),X.N[i]? = some x->σ[i]? = some (some v)->Vis X.env.scope x->∃u,RelV v u/\Look X.env s.heap m x u
 cell:∀x c,X.env.cells.lookup x=some c->∃v,s.heap.IsCell c v
 free:H X.env.locals=none
 freeC:∀x c,X.env.cells.lookup x=some c->H c=none
 pin:∀p∈X.pn++pins,s.heap.get? p.1=some p.2/\H p.1=none/\p.1≠X.env.locals/\p.1∉X.fs/\∀v,p.2.data ≠ .cell v
 hok:HOk X.prog X.w H s.heap
 len:σ.length=X.N.length
section
variable {X:Cx} {pins:List (Addr × Obj)} {σ:List (Option V)} {H H':Hp} {s:Shared} {h':Heap}
theorem Cx.Ok.nofr (ok:X.Ok) {b:Addr} {o:Obj} (e:X.base.get? b=some o):b∉X.fs:=λhb=>by
 have:=(ok.funs.mem hb).1
 rw [e] at this;cases this
theorem Inv.bs (I:Inv X pins σ H s):∀b o,X.base.get? b=some o->s.heap.get? b=some o/\H b=none:=λb o e =>
 ⟨I.base.keep b o (I.ok.bs b o e).1 (I.ok.bs b o e).2 (I.ok.nofr e) (I.ok.noex b o e),I.base.free b o (I.ok.bs b o e).1 (I.ok.bs b o e).2 (I.ok.noex b o e)⟩
theorem Inv.bk (I:Inv X pins σ H s):∀b o,X.base.get? b=some o->s.heap.get? b=some o:=λb o e=>(I.bs b o e).1
theorem Inv.mod (I:Inv X pins σ H s):Mod X.K X.mg X.base:=I.ok.mod
theorem Inv.kIn (I:Inv X pins σ H s):X.K.In s.heap:=I.ok.mod.kin.keeps I.bk
theorem Inv.lt (I:Inv X pins σ H s):X.env.locals<s.heap.objs.size:=let ⟨_,hn,_⟩:=I.loc;hn.lt
theorem Inv.sz (I:Inv X pins σ H s):X.s₀.heap.objs.size<=s.heap.objs.size:=Nat.le_trans I.ok.above (Nat.le_of_lt I.lt)
theorem Inv.nofs (I:Inv X pins σ H s) {a:Addr} (h:s.heap.objs.size<=a):a∉X.fs:=λhb=>by
 obtain ⟨_,o,ho,_⟩:=I.ok.funs.mem hb
 exact absurd (Nat.lt_of_lt_of_le (Heap.lt_size ho) (Nat.le_trans I.sz h)) (Nat.lt_irrefl _)
theorem Inv.cne (I:Inv X pins σ H s):∀x c,X.env.cells.lookup x=some c->c≠X.env.locals:=λx c e z=>by
 obtain ⟨v,o,ho,hd⟩:=I.cell x c e
 obtain ⟨m,⟨o',es,ep,ho',hd',_⟩,_⟩:=I.loc
 rw [z,ho'] at ho;cases ho;rw [hd'] at hd;cases hd
theorem Inv.funs (I:Inv X pins σ H s):s.heap.FunFrames X.base X.outer:=by
 have all:∀(l:List Env),(∀b∈frs l,b∈X.fs)->X.s₀.heap.FunFrames X.base l->s.heap.FunFrames X.base l:=by
  intro l
  induction l with
  | nil=>intro _ _;trivial
  | cons env r ih =>
   intro hs hl
   obtain ⟨hk,⟨L,o,hf,hn,ho,hd⟩,hr⟩:=hl
   have hL:L∈X.fs:=hs L (by unfold frs;rw [List.filterMap_cons,hf];exact List.mem_cons_self)
   obtain ⟨sl,e⟩:=I.base.slot L o ho (I.ok.frf L hL) hL λz=>I.ok.exfs L z hL
   exact ⟨hk,⟨L,_,hf,hn,e,hd⟩,ih (λb hb=>hs b (by unfold frs;rw [List.filterMap_cons,hf];exact List.mem_cons_of_mem _ hb)) hr⟩
 exact all X.outer (λ_ hb=>hb) I.ok.funs
theorem Inv.stack (I:Inv X pins σ H s):s.heap.FunFrames X.base X.stack:=by
 rcases I.ok.stk with e | ⟨e,hf⟩
 ·rw [e];exact I.funs
 ·rw [e]
  obtain ⟨m,hn,_⟩:=I.loc
  refine .cons (by rw [I.ok.kind];decide) hf hn ?_ I.funs
  exact Heap.get?_none_of_le (Nat.le_trans I.ok.bsz I.ok.above)
theorem Inv.stkSub (I:Inv X pins σ H s):∀b∈frs X.stack,b∈X.env.locals::X.fs:=λb hb=>by
 rcases I.ok.stk with e | ⟨e,hf⟩
 ·rw [e] at hb;exact List.mem_cons_of_mem _ hb
 ·rw [e] at hb
  unfold frs at hb
  rw [List.filterMap_cons,hf] at hb
  exact hb
theorem Inv.stkFree (I:Inv X pins σ H s):∀b∈frs X.stack,H b=none:=λb hb=>by
 rcases List.mem_cons.mp (I.stkSub b hb) with e | hb
 ·rw [e];exact I.free
 ·obtain ⟨_,o,ho,_⟩:=I.ok.funs.mem hb
  exact I.base.free b o ho (I.ok.frf b hb) λz=>I.ok.exfs b z hb
theorem Inv.step {g':Array GenState} {t':Nat} {d':Drawn} {ch:List Addr} (I:Inv X pins σ H s)
  (hch:∀b∈ch,(b∈X.ex\/X.s₀.heap.objs.size<=b)/\b≠X.env.locals/\(∀x c,X.env.cells.lookup x=some c->c≠b)/\∀p∈X.pn++pins,p.1≠b)
  (keep:∀b o,b≠X.env.locals->b∉X.fs->b∉ch->s.heap.get? b=some o->H b=none->h'.get? b=some o)
  (slot:∀b o,b≠X.env.locals->b∈X.fs->b∉ch->s.heap.get? b=some o->H b=none->∃sl,h'.get? b=some { o with slots:=sl }) (free:∀b o,b∉ch->s.heap.get? b=some o->H b=none->H' b=none)
  (there:∀b o,b∉ch->s.heap.get? b=some o->∃o',h'.get? b=some o')
  (tups:∀b xs,H b=some (.tup xs)->H' b=some (.tup xs)) (frzs:∀b o u,H b=some (.frz o u)->H' b=some (.frz o u)) (tbls:∀b ps,H b=some (.tbl ps)->∃more,H' b=some (.tbl (ps++more)))
  (ns:∀m,s.heap.Ns X.env.locals m->h'.Ns X.env.locals m) (hok:HOk X.prog X.w H' h') (hg:AllBare g') :
  Inv X pins σ H' { s with heap:=h',gens:=g',drawn:=d',toks:=t' }:=by
 have neL:∀b o,X.s₀.heap.get? b=some o->b≠X.env.locals:=λb o e=>Nat.ne_of_lt (Nat.lt_of_lt_of_le (Heap.lt_size e) I.ok.above)
 have neC:∀b o,X.s₀.heap.get? b=some o->b∉X.ex->b∉ch:=λb o e hx hb=>by
  rcases (hch b hb).1 with z | z
  ·exact hx z
  ·exact absurd (Nat.lt_of_lt_of_le (Heap.lt_size e) z) (Nat.lt_irrefl _)
 have cellK:∀x c,X.env.cells.lookup x=some c->∀v,s.heap.IsCell c v->h'.IsCell c v:=λx c e v ⟨o,ho,hd⟩=>by
  have nch:c∉ch:=λz=>(hch c z).2.2.1 x c e rfl
  by_cases hc:c∈X.fs
  ·obtain ⟨sl,q⟩:=slot c o (I.cne x c e) hc nch ho (I.freeC x c e)
   exact ⟨_,q,hd⟩
  ·exact ⟨o,keep c o (I.cne x c e) hc nch ho (I.freeC x c e),hd⟩
 refine ⟨I.ok,I.os,hg,⟨λb o e n hb hx=>?_,λb o e n hb hx=>?_,λb o e n hx=>?_,λb o e hx=>?_,λb xs e=>tups b xs (I.base.tups b xs e),λb o xs e=>frzs b o xs (I.base.frzs b o xs e),λb ps e=>?_⟩,?_,λx c e=>?_,?_,λx c e=>?_,λp hp=>?_,hok,I.len⟩
 ·exact keep b o (neL b o e) hb (neC b o e hx) (I.base.keep b o e n hb hx) (I.base.free b o e n hx)
 ·obtain ⟨sl,e1⟩:=I.base.slot b o e n hb hx
  obtain ⟨sl',e2⟩:=slot b _ (neL b o e) hb (neC b o e hx) e1 (I.base.free b o e n hx)
  exact ⟨sl',e2⟩
 ·obtain ⟨o',e1⟩:=I.base.there b o e hx
  exact free b o' (neC b o e hx) e1 (I.base.free b o e n hx)
 ·obtain ⟨o',e1⟩:=I.base.there b o e hx
  exact there b o' (neC b o e hx) e1
 ·obtain ⟨m1,e1⟩:=I.base.tbls b ps e
  obtain ⟨m2,e2⟩:=tbls b _ e1
  exact ⟨m1++m2,by rw [e2,Array.append_assoc]⟩
 ·obtain ⟨m,hn,hl⟩:=I.loc
  refine ⟨m,ns m hn,λi x v e1 e2 e3=>?_⟩
  obtain ⟨u,r,l⟩:=hl i x v e1 e2 e3
  refine ⟨u,r,?_⟩
  rcases l with l | ⟨k,c,e,z⟩
  ·exact .inl l
  ·exact .inr ⟨k,c,e,cellK x c e _ z⟩
 ·obtain ⟨v,z⟩:=I.cell x c e
  exact ⟨v,cellK x c e v z⟩
 ·obtain ⟨m,⟨o,_,_,ho,_⟩,_⟩:=I.loc
  exact free _ o (λz=>(hch _ z).2.1 rfl) ho I.free
 ·obtain ⟨v,o,ho,hd⟩:=I.cell x c e
  exact free c o (λz=>(hch c z).2.2.1 x c e rfl) ho (I.freeC x c e)
 ·obtain ⟨e,n,ne,nf,d⟩:=I.pin p hp
  have nch:p.1∉ch:=λz=>(hch p.1 z).2.2.2 p hp rfl
  exact ⟨keep p.1 p.2 ne nf nch e n,free p.1 p.2 nch e n,ne,nf,d⟩
theorem Inv.un {t':Nat} (I:Inv X pins σ H s) (u:Un X.fs [] H H' s.heap h') (hok:HOk X.prog X.w H' h'):Inv X pins σ H' { s with heap:=h',toks:=t' }:=by
 obtain ⟨m,⟨o,es,ep,ho,r⟩,_⟩:=id I.loc
 obtain ⟨sl,hL⟩:=u.any ho I.free (by simp)
 exact I.step (g':=s.gens) (d':=s.drawn) (ch:=[]) (λ_ z=>nomatch z) (λb o _ hb _ e n=>u.keep b o e n hb (by simp)) (λb o _ hb _ e n=>u.slot b o e n hb (by simp)) (λb o _ e n=>u.free b o e n (by simp)) (λb o _ e=>u.there b o e (by simp)) u.tups u.frzs u.tbls (λm' hm=>by
  obtain ⟨o',es',ep',ho',r'⟩:=hm
  rw [ho] at ho';cases ho'
  exact ⟨_,es',ep',hL,r'⟩) hok I.bare
theorem Inv.call {g':Array GenState} {t':Nat} {d':Drawn} {ch:List Addr} (I:Inv X pins σ H s) (u:Un (frs X.stack) ch H H' s.heap h') (hok:HOk X.prog X.w H' h') (hg:AllBare g')
  (hch:∀b∈ch,(b∈X.ex\/X.s₀.heap.objs.size<=b)/\b≠X.env.locals/\(∀x c,X.env.cells.lookup x=some c->c≠b)/\∀p∈X.pn++pins,p.1≠b) :
  Inv X pins σ H' { s with heap:=h',gens:=g',drawn:=d',toks:=t' }:=by
 obtain ⟨m,⟨o,es,ep,ho,r⟩,_⟩:=id I.loc
 obtain ⟨sl,hL⟩:=u.any ho I.free λz=>(hch _ z).2.1 rfl
 exact I.step (ch:=ch) hch (λb o hL hb hc e n=>u.keep b o e n (λz=>(List.mem_cons.mp (I.stkSub b z)).elim hL hb) hc) (λb o _ _ hc e n=>u.any e n hc) (λb o hc e n=>u.free b o e n hc) (λb o hc e=>u.there b o e hc) u.tups u.frzs u.tbls (λm' hm=>by
  obtain ⟨o',es',ep',ho',r'⟩:=hm
  rw [ho] at ho';cases ho'
  exact ⟨_,es',ep',hL,r'⟩) hok hg
theorem Inv.turned {t':Nat} {it:Addr} (I:Inv X pins σ H s) (k:∀b o,b≠it->s.heap.get? b=some o->h'.get? b=some o) (hn:H it=none) (hL:it≠X.env.locals)
  (h1:it∈X.ex\/X.s₀.heap.objs.size<=it) (h2:∀x c,X.env.cells.lookup x=some c->c≠it) (h3:∀p∈X.pn++pins,p.1≠it):Inv X pins σ H { s with heap:=h',toks:=t' }:=by
 have nit:∀b u,H b=some u->b≠it:=λb u e z=>by rw [z,hn] at e;cases e
 refine I.step (g':=s.gens) (d':=s.drawn) (ch:=[it]) (λb hb=>?_) (λb o _ _ hc e _=>k b o (λz=>hc (by simp [z])) e) (λb o _ _ hc e _=>⟨o.slots,k b o (λz=>hc (by simp [z])) e⟩) (λ_ _ _ _ n=>n)
  (λb o hc e=>⟨o,k b o (λz=>hc (by simp [z])) e⟩) (λ_ _ e=>e) (λ_ _ _ e=>e) (λb ps e=>⟨#[],by rw [e];simp⟩) (λm hm=>?_) (λb u e=>?_) I.bare
 ·have e:b=it:=by simpa using hb
  subst e
  exact ⟨h1,hL,h2,h3⟩
 ·obtain ⟨o,es,ep,ho,r⟩:=hm
  exact ⟨o,es,ep,k _ o (Ne.symm hL) ho,r⟩
 ·refine (I.hok b u e).stay (λc v hc q=>k c v ?_ q) (λ_ q=>q) λ_ _ q=>q
  rcases hc with z | z
  ·rw [z];exact nit b u e
  ·exact nit c _ z
theorem Inv.tok (I:Inv X pins σ H s) (t:Nat):Inv X pins σ H { s with toks:=t }:=I.un (h':=s.heap) (t':=t) Un.refl I.hok
theorem Inv.kept {t':Nat} (I:Inv X pins σ H s) (k:∀b u,s.heap.get? b=some u->h'.get? b=some u):Inv X pins σ H { s with heap:=h',toks:=t' }:=I.un (Un.kept k) (I.hok.kept k)
theorem Inv.laid {a:Addr} {o:HO} {t':Nat} (I:Inv X pins σ H s) (k:∀b u,s.heap.get? b=some u->h'.get? b=some u) (hp:s.heap.objs.size<=a) (new:Yx X.prog X.w (upd H a o) h' a o) :
  Inv X pins σ (upd H a o) { s with heap:=h',toks:=t' }:=I.un (Un.laid k hp (I.hok.fresh hp)) (I.hok.laid k hp new)
theorem Inv.write {x e:Addr} {o:HO} {t':Nat} (I:Inv X pins σ H s) (mu:Mut (H x)) (he:e=x\/H e=some (.own x)) (k:∀b u,b≠e->s.heap.get? b=some u->h'.get? b=some u) (heo:∃u,h'.get? e=some u)
  (new:Yx X.prog X.w (upd H x o) h' x o):Inv X pins σ (upd H x o) { s with heap:=h',toks:=t' }:=I.un (Un.write mu he k heo) (I.hok.write mu he k heo new)
theorem Inv.pins_of {pins':List (Addr × Obj)} (I:Inv X pins σ H s) (h:∀p∈pins',s.heap.get? p.1=some p.2/\H p.1=none/\p.1≠X.env.locals/\p.1∉X.fs/\∀v,p.2.data ≠ .cell v):Inv X pins' σ H s :=
 ⟨I.ok,I.os,I.bare,I.base,I.loc,I.cell,I.free,I.freeC,λp hp=>(List.mem_append.mp hp).elim (λz=>I.pin p (List.mem_append_left _ z)) (h p),I.hok,I.len⟩
theorem Qgh {N:List Str} (hN:N.Nodup) {i j:Nat} {x:Str} (a:N[i]? = some x) (b:N[j]? = some x):i=j:=by
 obtain ⟨h1,e1⟩:=List.getElem?_eq_some_iff.mp a
 obtain ⟨h2,e2⟩:=List.getElem?_eq_some_iff.mp b
 exact (List.getElem_inj hN).mp (e1.trans e2.symm)
theorem Qdj {M:Model} {A:Around} {E:Value->Shared->Prop} {i:Nat} {x:Str} {v:V} {u:Value} {Q:Unit->Shared->Prop} (I:Inv X pins σ H s) (hN:X.N.Nodup) (hi:X.N[i]? = some x) (hx:Loc X.env.scope x) (r:RelV v u)
  (h:∀s',Inv X pins (σ.set i (some v)) H s'->(∃a,Heap.SameBut a s.heap s'.heap/\(a=X.env.locals\/X.env.cells.lookup x=some a))->Q () s') (hf:X.fn x=true\/X.env.scope.names.lookup x=some .local:=by first | exact .inl rfl | exact .inr rfl | assumption):wpAny M A (storeName X.env x u) Q E s:=by
 obtain ⟨m,hn,hl⟩:=id I.loc
 have hcls:(X.env.scope.kind == .class || (X.env.scope.kind == .module && X.env.locals != X.env.globals))=false:=by rw [I.ok.kind];rfl
 have hiσ:i<σ.length:=by rw [I.len];exact (List.getElem?_eq_some_iff.mp hi).1
 have cne:=I.cne
 have tracked:∀{a:Addr} {h':Heap},(∃o,s.heap.get? a=some o/\H a=none)->Heap.SameBut a s.heap h'->HOk X.prog X.w H h':=λ{a h'} ha hs b ob e=>by
  obtain ⟨_,_,hfree⟩:=ha
  refine (I.hok b ob e).stay (λc w' hc q=>(hs.2 c ?_).trans q) (λ_ q=>q) λ_ _ q=>q
  rintro rfl
  rcases hc with rfl | hc
  ·rw [hfree] at e;cases e
  ·rw [hfree] at hc;cases hc
 rcases hx with hk | hk
 ·refine wpAny_storeName_local hk hn (λh' hn' hs=>?_) hcls
  obtain ⟨oL,_,_,hoL,_⟩:=id hn
  refine h _ ⟨I.ok,I.os,I.bare,⟨λb o e n hb hx=>?_,λb o e n hb hx=>?_,I.base.free,λb o e hx=>?_,I.base.tups,I.base.frzs,I.base.tbls⟩,⟨_,hn',λj y v' e1 e2 e3=>?_⟩,λy c e=>?_,I.free,I.freeC,λp hp=>?_,tracked ⟨oL,hoL,I.free⟩ hs,by simpa using I.len⟩ ⟨_,hs,.inl rfl⟩
  ·exact (hs.2 b (Nat.ne_of_lt (Nat.lt_of_lt_of_le (Heap.lt_size e) I.ok.above))).trans (I.base.keep b o e n hb hx)
  ·obtain ⟨sl,e1⟩:=I.base.slot b o e n hb hx
   exact ⟨sl,(hs.2 b (Nat.ne_of_lt (Nat.lt_of_lt_of_le (Heap.lt_size e) I.ok.above))).trans e1⟩
  ·obtain ⟨o',e1⟩:=I.base.there b o e hx
   exact ⟨o',(hs.2 b (Nat.ne_of_lt (Nat.lt_of_lt_of_le (Heap.lt_size e) I.ok.above))).trans e1⟩
  ·by_cases hj:j=i
   ·subst hj
    rw [hi] at e1;cases e1
    rw [List.getElem?_set_self hiσ] at e2
    cases e2
    exact ⟨u,r,.inl ⟨hk,by simp⟩⟩
   ·rw [List.getElem?_set_ne (Ne.symm hj)] at e2
    obtain ⟨u',r',q⟩:=hl j y v' e1 e2 e3
    refine ⟨u',r',?_⟩
    rcases q with ⟨k,e⟩ | ⟨k,c,e,z⟩
    ·refine .inl ⟨k,?_⟩
     have:y≠x:=λe=>hj (Qgh hN e1 (e ▸ hi))
     simp [this,e]
    ·exact .inr ⟨k,c,e,z.sameBut hs (cne y c e)⟩
  ·obtain ⟨w',z⟩:=I.cell y c e
   exact ⟨w',z.sameBut hs (cne y c e)⟩
  ·obtain ⟨e,n,ne,nf,d⟩:=I.pin p hp
   exact ⟨(hs.2 p.1 ne).trans e,n,ne,nf,d⟩
 ·have hfn:X.fn x=true:=by
   rcases hf with z | z
   ·exact z
   ·rw [z] at hk;cases hk
  obtain ⟨c,hc⟩:=I.ok.has x (.inl hk)
  obtain ⟨w',z⟩:=I.cell x c hc
  refine wpAny_storeName_cell I.ok.kind hk hc z (λh' hc' hs=>?_)
  obtain ⟨oc,hoc,hocd⟩:=id z
  refine h { s with heap:=h' } ⟨I.ok,I.os,I.bare,⟨λb o e n hb hx=>?_,λb o e n hb hx=>?_,I.base.free,λb o e hx=>?_,I.base.tups,I.base.frzs,I.base.tbls⟩,⟨m,hn.sameBut hs (Ne.symm (cne x c hc)),λj y v' e1 e2 e3=>?_⟩,λy c' e=>?_,I.free,I.freeC,λp hp=>?_,tracked ⟨oc,hoc,I.freeC x c hc⟩ hs,by simpa using I.len⟩ ⟨c,hs,.inr hc⟩
  ·exact (hs.2 b (Nat.ne_of_lt (Nat.lt_of_lt_of_le (Heap.lt_size e) (I.ok.cab x c hfn hc)))).trans (I.base.keep b o e n hb hx)
  ·obtain ⟨sl,e1⟩:=I.base.slot b o e n hb hx
   exact ⟨sl,(hs.2 b (Nat.ne_of_lt (Nat.lt_of_lt_of_le (Heap.lt_size e) (I.ok.cab x c hfn hc)))).trans e1⟩
  ·obtain ⟨o',e1⟩:=I.base.there b o e hx
   exact ⟨o',(hs.2 b (Nat.ne_of_lt (Nat.lt_of_lt_of_le (Heap.lt_size e) (I.ok.cab x c hfn hc)))).trans e1⟩
  ·by_cases hj:j=i
   ·subst hj
    rw [hi] at e1;cases e1
    rw [List.getElem?_set_self hiσ] at e2
    cases e2
    exact ⟨u,r,.inr ⟨.inl hk,c,hc,hc'⟩⟩
   ·rw [List.getElem?_set_ne (Ne.symm hj)] at e2
    obtain ⟨u',r',q⟩:=hl j y v' e1 e2 e3
    refine ⟨u',r',?_⟩
    rcases q with q | ⟨k,c',e,z'⟩
    ·exact .inl q
    ·refine .inr ⟨k,c',e,z'.sameBut hs ?_⟩
     rintro rfl
     exact hj (Qgh hN e1 (I.ok.inj _ _ _ e hc ▸ hi))
  ·by_cases hcc:c'=c
   ·subst hcc;exact ⟨_,hc'⟩
   ·obtain ⟨w2,z2⟩:=I.cell y c' e
    exact ⟨w2,z2.sameBut hs hcc⟩
  ·obtain ⟨e,n,ne,nf,d⟩:=I.pin p hp
   refine ⟨(hs.2 p.1 ?_).trans e,n,ne,nf,d⟩
   intro q
   rw [q,hoc] at e
   have q':oc=p.2:=Option.some.inj e
   exact d w' (by rw [← q'];exact hocd)
theorem X0 {M:Model} {A:Around} {E:Value->Shared->Prop} {i:Nat} {x:Str} {v:V} {u:Value} {Q:Unit->Shared->Prop} (I:Inv X pins σ H s) (hN:X.N.Nodup) (hi:X.N[i]? = some x) (hx:Loc X.env.scope x) (r:RelV v u)
  (h:∀s',Inv X pins (σ.set i (some v)) H s'->Q () s') (hf:X.fn x=true\/X.env.scope.names.lookup x=some .local:=by first | exact .inl rfl | exact .inr rfl | assumption):wpAny M A (storeName X.env x u) Q E s :=
 Qdj I hN hi hx r (λs' I' _=>h s' I') hf
theorem Inv.call' {s':Shared} {ch:List Addr} (I:Inv X pins σ H s) (ho:s'.os=s.os) (u:Un (frs X.stack) ch H H' s.heap s'.heap) (hok:HOk X.prog X.w H' s'.heap) (hg:AllBare s'.gens)
  (hch:∀b∈ch,(b∈X.ex\/X.s₀.heap.objs.size<=b)/\b≠X.env.locals/\(∀x c,X.env.cells.lookup x=some c->c≠b)/\∀p∈X.pn++pins,p.1≠b):Inv X pins σ H' s':=by
 obtain ⟨h',g',d',t',o'⟩:=s'
 have e:o'=s.os:=ho
 subst e
 exact I.call (g':=g') (t':=t') (d':=d') u hok hg hch
end
abbrev XK:=Value->Option Addr->Hp->Prop
abbrev St:=List (Option V)
abbrev VK:=V->Hp->Prop
abbrev TE:=St->Hp->VK->Prop
abbrev TT:=St->Hp->(Bool->Hp->Prop)->Prop
abbrev TA:=St->Hp->(List V->Hp->Prop)->Prop
structure Ends where
 nx:St->Hp->Prop
 rt:VK
 bk:St->Hp->Prop:=λ_ _=>False
 ct:St->Hp->Prop:=λ_ _=>False
abbrev TS:=Ends->St->Hp->Prop
def EP (X:Cx) (pins:List (Addr × Obj)) (σ:St) (Q:VK) (u:Value) (s':Shared):Prop:=∃v H',Inv X pins σ H' s'/\RelV v u/\Q v H'
def TP (X:Cx) (pins:List (Addr × Obj)) (σ:St) (Q:Bool->Hp->Prop) (b:Bool) (s':Shared):Prop:=∃H',Inv X pins σ H' s'/\Q b H'
def AP (X:Cx) (pins:List (Addr × Obj)) (σ:St) (Q:List V->Hp->Prop) (us:List Value) (s':Shared):Prop:=∃vs H',Inv X pins σ H' s'/\Vals vs us/\Q vs H'
def SP (X:Cx) (pins:List (Addr × Obj)) (D:Ends) (f:Flow) (s':Shared):Prop :=
 match f with
 | .next=>∃σ' H',Inv X pins σ' H' s'/\D.nx σ' H'
 | .brk=>∃σ' H',Inv X pins σ' H' s'/\D.bk σ' H'
 | .cont=>∃σ' H',Inv X pins σ' H' s'/\D.ct σ' H'
 | .ret u=>∃v σ' H',Inv X pins σ' H' s'/\RelV v u/\D.rt v H'
def PE (X:Cx) (e:Expr) (t:TE):Prop :=
 ∀(pins:List (Addr × Obj)) (s:Shared) (σ:St) (H:Hp) (Q:VK),Inv X pins σ H s->t σ H Q->wpAny (model X.prog X.w) X.A (eval e X.env) (EP X pins σ Q) X.xe s
def PT (X:Cx) (e:Expr) (t:TT):Prop :=
 ∀(pins:List (Addr × Obj)) (s:Shared) (σ:St) (H:Hp) (Q:Bool->Hp->Prop),Inv X pins σ H s->t σ H Q->wpAny (model X.prog X.w) X.A (isTrue e X.env (eval e X.env)) (TP X pins σ Q) X.xe s
def PW (X:Cx) (e:Expr) (t:TT):Prop :=
 ∀(whole:Sem Value) (pins:List (Addr × Obj)) (s:Shared) (σ:St) (H:Hp) (Q:Bool->Hp->Prop),Inv X pins σ H s->t σ H Q->wpAny (model X.prog X.w) X.A (isTrue e X.env whole) (TP X pins σ Q) X.xe s
theorem PW.pt {X:Cx} {e:Expr} {t:TT} (h:PW X e t):PT X e t:=h _
def PA (X:Cx) (es:List Expr) (t:TA):Prop :=
 ∀(pos:Pos) (pins:List (Addr × Obj)) (s:Shared) (σ:St) (H:Hp) (Q:List V->Hp->Prop),Inv X pins σ H s->t σ H Q->wpAny (model X.prog X.w) X.A (spliced (backTo pos (starEach es X.env))) (AP X pins σ Q) X.xe s
def PS (X:Cx) (st:Stmt) (t:TS):Prop :=
 ∀(pins:List (Addr × Obj)) (s:Shared) (σ:St) (H:Hp) (D:Ends),Inv X pins σ H s->t D σ H->wpAny (model X.prog X.w) X.A (exec st X.env) (SP X pins D) X.xe s
def PSs (X:Cx) (st:List Stmt) (t:TS):Prop :=
 ∀(pins:List (Addr × Obj)) (s:Shared) (σ:St) (H:Hp) (D:Ends),Inv X pins σ H s->t D σ H->wpAny (model X.prog X.w) X.A (execs st X.env) (SP X pins D) X.xe s
theorem thn {α:Type} {t:Sem α} {Q Q':α->Shared->Prop} {M:Model} {A:Around} {E:Value->Shared->Prop} {s:Shared} (h:wpAny M A t Q E s) (hQ:∀a s,Q a s->Q' a s):wpAny M A t Q' E s:=wpAny_mono h hQ λ_ _ x=>x
end L2
namespace L2
open PySem PySem.Spec PyProof.Rows
section
variable {X:Cx}
theorem bin {a b:Expr} {ta tb:TE} (ha:PE X a ta) (hb:PE X b tb) {pins:List (Addr × Obj)} {s:Shared} {σ:St} {H:Hp} {R:V->V->Hp->Prop} (I:Inv X pins σ H s) (h:ta σ H λx H1=>tb σ H1 λy H2=>R x y H2)
  {α:Type} {Q:α->Shared->Prop} {f:Value->Value->Sem α}
  (hf:∀v u s2 x y H2,Inv X pins σ H2 s2->RelV x v->RelV y u->R x y H2->wpAny (model X.prog X.w) X.A (f v u) Q X.xe s2) :
  wpAny (model X.prog X.w) X.A (eval a X.env) (λv s₁=>wpAny (model X.prog X.w) X.A (eval b X.env) (λu s₂=>wpAny (model X.prog X.w) X.A (f v u) Q X.xe s₂) X.xe s₁) X.xe s:=by
 refine thn (ha pins s σ H _ I h) λv s1 ⟨x,H1,I1,r1,q1⟩=>?_
 refine thn (hb pins s1 σ H1 _ I1 q1) λu s2 ⟨y,H2,I2,r2,q2⟩=>?_
 exact hf v u s2 x y H2 I2 r1 r2 q2
def tVar (i:Nat):TE:=λσ H Q=>∃v,σ[i]? = some (some v)/\Q v H
def tC (v:V):TE:=λ_ H Q=>Q v H
theorem Vd {i:Nat} {x:Str} {pos:Pos} (hN:X.N[i]? = some x) (hv:Vis X.env.scope x) (hd:(x == ("__debug__" : Str))=false:=by decide) (hcd:(x == ("__classdict__" : Str))=false:=by decide):PE X (.Name x pos) (tVar i):=by
 intro pins s σ H Q I h
 obtain ⟨v,e,h⟩:=h
 obtain ⟨m,hn,hl⟩:=I.loc
 obtain ⟨u,r,l⟩:=hl i x v hN e hv
 have fin:EP X pins σ Q u s:=⟨v,H,I,r,h⟩
 rcases l with ⟨hk,hm⟩ | ⟨hk,c,hc,hcell⟩
 ·exact wpAny_Name (wpAny_loadName_local I.ok.kind hk hn hm fin) hd
 ·rcases hk with hk | hk
  ·exact wpAny_Name (wpAny_loadName_cell I.ok.kind hk hc hcell fin) hd
  ·exact wpAny_Name (wpAny_loadName_free I.ok.kind hk hc hcell fin hcd) hd
theorem Qd0 {i j pos}:PE X (.Constant (.int i) j pos) (tC (.int i)):=λ_ _ _ H _ I h=>wpAny_Constant_int ⟨.int i,H,I.tok _,⟨_,rfl⟩,h⟩
theorem Qui {b j pos}:PE X (.Constant (.bool b) j pos) (tC (.bl b)):=λ_ _ _ H _ I h=>Constant_bool ⟨.bl b,H,I,rfl,h⟩
theorem Qro {j pos}:PE X (.Constant .none j pos) (tC .non):=λ_ _ _ H _ I h=>Constant_none ⟨.non,H,I,rfl,h⟩
theorem Qrl {x j pos}:PE X (.Constant (.str x) j pos) (tC (.str x)):=λ_ _ _ H _ I h=>Calls.Constant_str ⟨.str x,H,I.tok _,⟨_,rfl⟩,h⟩
def Gl (X:Cx) (x:Str):Prop:=X.env.kindOf x=some .globalImplicit
theorem Qcv {E:Value->Shared->Prop} {pins:List (Addr × Obj)} {s:Shared} {σ:St} {H:Hp} {x:Str} {u:Value} {pos:Pos} {Q:Value->Shared->Prop} (I:Inv X pins σ H s) (hg:Gl X x) (hm:X.mg x=some u) (h:Q u s)
  (hd:(x == ("__debug__" : Str))=false:=by decide):wpAny (model X.prog X.w) X.A (eval (.Name x pos) X.env) Q E s :=
 Calls.Name_function_global I.ok.kind hg (Calls.loadGlobal_global (by rw [I.ok.glob];exact I.mod.glob.keeps I.bk) hm h) hd
theorem Qay {E:Value->Shared->Prop} {pins:List (Addr × Obj)} {s:Shared} {σ:St} {H:Hp} {x:Str} {u:Value} {pos:Pos} {Q:Value->Shared->Prop} (I:Inv X pins σ H s) (hg:Gl X x) (hm:X.mg x=none) (hv:bootBuiltins x=some u) (h:Q u s)
  (hn:x ≠ "__name__":=by decide) (hd:(x == ("__debug__" : Str))=false:=by decide):wpAny (model X.prog X.w) X.A (eval (.Name x pos) X.env) Q E s:=by
 obtain ⟨mb,h1,h2⟩:=I.mod.blt
 exact Calls.Name_function_global I.ok.kind hg (Calls.loadGlobal_builtin (by rw [I.ok.glob];exact I.mod.glob.keeps I.bk) hm (by rw [I.ok.blt];exact h1.keeps I.bk) ((h2 x hn).trans hv) h) hd
theorem Qe7 {x:Str} {v:V} {u:Value} {pos:Pos} (hg:Gl X x) (hm:X.mg x=some u) (r:RelV v u) (hd:(x == ("__debug__" : Str))=false:=by decide):PE X (.Name x pos) (tC v) :=
 λ_ _ _ H _ I h=>Qcv I hg hm ⟨v,H,I,r,h⟩ hd
theorem Qo7 {x:Str} {v:V} {u:Value} {pos:Pos} (hg:Gl X x) (hm:X.mg x=none) (hv:bootBuiltins x=some u) (r:RelV v u) (hn:x ≠ "__name__":=by decide) (hd:(x == ("__debug__" : Str))=false:=by decide):PE X (.Name x pos) (tC v) :=
 λ_ _ _ H _ I h=>Qay I hg hm hv ⟨v,H,I,r,h⟩ hn hd
variable {a b:Expr} {ta tb:TE} {pos:Pos}
variable {tA tB':TT} {rest:List Expr}
def tAnd (t u:TT):TT:=λσ H Q=>t σ H λc H1=>if c=true then u σ H1 Q else Q false H1
def tOr (t u:TT):TT:=λσ H Q=>t σ H λc H1=>if c=true then Q true H1 else u σ H1 Q
def tNot (t:TT):TT:=λσ H Q=>t σ H λc H1=>Q (!c) H1
theorem Qos (ha:PT X a tA):PW X (.BoolOp .And [a] pos) tA:=by
 intro wh pins s σ H Q I h
 refine isTrue_and (thn (ha pins s σ H Q I h) λc s1 e=>?_)
 cases c with
 | true=>exact isTrue_and_nil e
 | false=>exact e
theorem Qrf (ha:PT X a tA):PW X (.BoolOp .Or [a] pos) tA:=by
 intro wh pins s σ H Q I h
 refine isTrue_or (thn (ha pins s σ H Q I h) λc s1 e=>?_)
 cases c with
 | false=>exact isTrue_or_nil e
 | true=>exact e
theorem Qrg (ha:PT X a tA) (hb:PW X (.BoolOp .And (b::rest) pos) tB'):PW X (.BoolOp .And (a::b::rest) pos) (tAnd tA tB'):=by
 intro wh pins s σ H Q I h
 refine isTrue_and (thn (ha pins s σ H _ I h) λc s1 ⟨H1,I1,q1⟩=>?_)
 cases c with
 | true=>exact hb wh pins s1 σ H1 Q I1 q1
 | false=>exact ⟨H1,I1,q1⟩
theorem Qud (ha:PT X a tA) (hb:PW X (.BoolOp .Or (b::rest) pos) tB'):PW X (.BoolOp .Or (a::b::rest) pos) (tOr tA tB'):=by
 intro wh pins s σ H Q I h
 refine isTrue_or (thn (ha pins s σ H _ I h) λc s1 ⟨H1,I1,q1⟩=>?_)
 cases c with
 | true=>exact ⟨H1,I1,q1⟩
 | false=>exact hb wh pins s1 σ H1 Q I1 q1
theorem Qrh (ha:PT X a tA):PT X (.UnaryOp .Not a pos) (tNot tA):=by
 intro pins s σ H Q I h
 exact isTrue_not (ha pins s σ H (λc H1=>Q (!c) H1) I h)
def Qt1 (ta tb:TE):TE:=λσ H Q=>ta σ H λx H1=>∃c,x=.bl c/\if c=true then tb σ H1 Q else Q (.bl false) H1
def tOrV (ta tb:TE):TE:=λσ H Q=>ta σ H λx H1=>∃c,x=.bl c/\if c=true then Q (.bl true) H1 else tb σ H1 Q
def Qtv (ta:TE):TE:=λσ H Q=>ta σ H λx H1=>∃c,x=.bl c/\Q (.bl (!c)) H1
theorem Qrm {op} {t:TE} (h:PE X a t):PE X (.BoolOp op [a] pos) t:=λpins s σ H Q I hw=>BoolOp_one (h pins s σ H Q I hw)
theorem Qrq (ha:PE X a ta) (hb:PE X (.BoolOp .And (b::rest) pos) tb):PE X (.BoolOp .And (a::b::rest) pos) (Qt1 ta tb):=by
 intro pins s σ H Q I h
 refine BoolOp_and (thn (ha pins s σ H _ I h) λv s1 ⟨x,H1,I1,r1,q1⟩=>?_)
 obtain ⟨c,rfl,q1⟩:=q1
 cases r1
 refine wpAny_truthy_bool ?_
 cases c with
 | true=>exact hb pins s1 σ H1 Q I1 q1
 | false=>exact ⟨.bl false,H1,I1,rfl,q1⟩
theorem Qug (ha:PE X a ta) (hb:PE X (.BoolOp .Or (b::rest) pos) tb):PE X (.BoolOp .Or (a::b::rest) pos) (tOrV ta tb):=by
 intro pins s σ H Q I h
 refine BoolOp_or (thn (ha pins s σ H _ I h) λv s1 ⟨x,H1,I1,r1,q1⟩=>?_)
 obtain ⟨c,rfl,q1⟩:=q1
 cases r1
 refine wpAny_truthy_bool ?_
 cases c with
 | false=>exact hb pins s1 σ H1 Q I1 q1
 | true=>exact ⟨.bl true,H1,I1,rfl,q1⟩
theorem Qrn (ha:PE X a ta):PE X (.UnaryOp .Not a pos) (Qtv ta):=by
 intro pins s σ H Q I h
 refine UnaryOp_ (thn (ha pins s σ H _ I h) λv s1 ⟨x,H1,I1,r1,q1⟩=>?_)
 obtain ⟨c,rfl,q1⟩:=q1
 cases r1
 exact not_of (wpAny_truthy_bool ⟨.bl (!c),H1,I1,rfl,q1⟩)
def tIf (t:TT) (ta tb:TE):TE:=λσ H Q=>t σ H λc H1=>if c=true then ta σ H1 Q else tb σ H1 Q
theorem Qln {c:Expr} (hc:PT X c tA) (ha:PE X a ta) (hb:PE X b tb):PE X (.IfExp c a b pos) (tIf tA ta tb):=by
 intro pins s σ H Q I h
 refine wpAny_IfExp (thn (hc pins s σ H _ I h) λd s1 ⟨H1,I1,q1⟩=>?_)
 cases d with
 | true=>exact ha pins s1 σ H1 Q I1 q1
 | false=>exact hb pins s1 σ H1 Q I1 q1
end
end L2
namespace L2
open PySem PySem.Spec PyProof.Rows
def SqL (K:PySem.W.Frag) (H:Hp) (a:Addr) (xs:List V):Prop :=
 Rd H a (.lst xs) \/
  ∃(o:Obj) (its:Array Value) (n:Nat),K.lookup a=some o/\o.cls=.type "list" /\ o.dict=none/\o.data=.seq its n/\its.size<=sizeLine/\Vals xs its.toList
def SqT (K:PySem.W.Frag) (H:Hp) (a:Addr) (xs:List V):Prop :=
 Rd H a (.tup xs) \/
  ∃(o:Obj) (its:Array Value) (n:Nat),K.lookup a=some o/\o.cls=.type "tuple" /\ o.data=.seq its n/\its.size<=sizeLine/\Vals xs its.toList
def absV:Value->Option V
 | .none=>some .non
 | .bool b=>some (.bl b)
 | .int i _=>some (.int i)
 | .str x _=>some (.str x)
 | .bytes b _=>some (.byt b)
 | .float b _=>some (.flt b)
 | .ref a=>some (.ref a)
 | .type n=>some (.ty n)
 | _=>none
theorem RelV.abs {x:V} {u:Value} (r:RelV x u):absV u=some x:=by
 cases x with
 | non=>cases r;rfl
 | bl _=>cases r;rfl
 | int _=>obtain ⟨t,rfl⟩:=r;rfl
 | str _=>obtain ⟨t,rfl⟩:=r;rfl
 | byt _=>obtain ⟨t,rfl⟩:=r;rfl
 | flt _=>obtain ⟨t,rfl⟩:=r;rfl
 | ref _=>cases r;rfl
 | ty _=>cases r;rfl
theorem RelV.inj {x y:V} {u:Value} (r:RelV x u) (q:RelV y u):x=y:=Option.some.inj (r.abs.symm.trans q.abs)
theorem Vals.inj:∀{xs ys:List V} {us:List Value},Vals xs us->Vals ys us->xs=ys
 | _,_,_,.nil,.nil=>rfl
 | _,_,_,.cons r t,.cons r' t'=>by rw [r.inj r',Vals.inj t t']
section
variable {X:Cx} {pins:List (Addr × Obj)} {σ:St} {H:Hp} {s:Shared} {a:Addr} {xs ys:List V}
theorem SqL.of {K:PySem.W.Frag} (h:H a=some (.lst xs)):SqL K H a xs:=.inl (.inl h)
theorem SqT.of {K:PySem.W.Frag} (h:H a=some (.tup xs)):SqT K H a xs:=.inl (.inl h)
theorem Inv.list (I:Inv X pins σ H s) (h:SqL X.K H a xs):∃its:List Value,Vals xs its/\PlainL s.heap a its.toArray/\xs.length<=sizeLine:=by
 rcases h with h | ⟨o,its,n,hk,hc,hd,hs,hz,r⟩
 ·obtain ⟨z,its,n,r,e⟩:=h.ok I.hok
  exact ⟨its,r,⟨_,n,e,rfl,rfl,rfl⟩,z⟩
 ·refine ⟨its.toList,r,⟨o,n,I.kIn a o hk,hc,hd,by simpa using hs⟩,?_⟩
  have e:=r.length
  simp only [Array.length_toList] at e
  omega
theorem Inv.tuple (I:Inv X pins σ H s) (h:SqT X.K H a xs):∃its:List Value,Vals xs its/\IsTup s.heap a its.toArray/\xs.length<=sizeLine:=by
 rcases h with h | ⟨o,its,n,hk,hc,hs,hz,r⟩
 ·obtain ⟨z,its,r,p⟩:=h.ok I.hok
  exact ⟨its,r,p,z⟩
 ·refine ⟨its.toList,r,⟨o,I.kIn a o hk,hc,n,by simpa using hs⟩,?_⟩
  have e:=r.length
  simp only [Array.length_toList] at e
  omega
theorem Inv.list_inj (I:Inv X pins σ H s) (h:SqL X.K H a xs) (h':SqL X.K H a ys):xs=ys:=by
 obtain ⟨its,r,⟨o,n,e,_,_,d⟩,_⟩:=I.list h
 obtain ⟨its',r',⟨o',n',e',_,_,d'⟩,_⟩:=I.list h'
 rw [e] at e';cases e'
 rw [d] at d'
 injection d' with d1 _
 have:its=its':=by simpa using congrArg Array.toList d1
 subst this
 exact r.inj r'
theorem Inv.tuple_inj (I:Inv X pins σ H s) (h:SqT X.K H a xs) (h':SqT X.K H a ys):xs=ys:=by
 obtain ⟨its,r,⟨o,e,_,n,d⟩,_⟩:=I.tuple h
 obtain ⟨its',r',⟨o',e',_,n',d'⟩,_⟩:=I.tuple h'
 rw [e] at e';cases e'
 rw [d] at d'
 injection d' with d1 _
 have:its=its':=by simpa using congrArg Array.toList d1
 subst this
 exact r.inj r'
end
abbrev Cx.wish (X:Cx) (E:Value->Shared->Prop):Cx:={ X with xe:=E }
abbrev Cx.nox (X:Cx):Cx:=X.wish λ_ _=>False
theorem Cx.Ok.wish {X:Cx} (ok:X.Ok) (E:Value->Shared->Prop):(X.wish E).Ok :=
 ⟨ok.mod,ok.kind,ok.glob,ok.blt,ok.above,ok.inj,ok.has,ok.cab,ok.hd,ok.frames,ok.stk,ok.exf,ok.bs,ok.bsz,ok.noex,ok.exfs,ok.funs,ok.frf⟩
theorem Cx.Ok.unwish {X:Cx} {E:Value->Shared->Prop} (ok:(X.wish E).Ok):X.Ok :=
 ⟨ok.mod,ok.kind,ok.glob,ok.blt,ok.above,ok.inj,ok.has,ok.cab,ok.hd,ok.frames,ok.stk,ok.exf,ok.bs,ok.bsz,ok.noex,ok.exfs,ok.funs,ok.frf⟩
section
variable {X:Cx} {pins:List (Addr × Obj)} {σ:St} {H:Hp} {s:Shared} {E:Value->Shared->Prop}
theorem Inv.wish (I:Inv X pins σ H s) (E:Value->Shared->Prop):Inv (X.wish E) pins σ H s:=⟨I.ok.wish E,I.os,I.bare,I.base,I.loc,I.cell,I.free,I.freeC,I.pin,I.hok,I.len⟩
theorem Inv.unwish (I:Inv (X.wish E) pins σ H s):Inv X pins σ H s:=⟨I.ok.unwish,I.os,I.bare,I.base,I.loc,I.cell,I.free,I.freeC,I.pin,I.hok,I.len⟩
theorem SP.unwish {D:Ends} {f:Flow} {s':Shared} (h:SP (X.wish E) pins D f s'):SP X pins D f s':=by
 cases f with
 | next=>obtain ⟨σ',H',I,q⟩:=h;exact ⟨σ',H',I.unwish,q⟩
 | brk=>obtain ⟨σ',H',I,q⟩:=h;exact ⟨σ',H',I.unwish,q⟩
 | cont=>obtain ⟨σ',H',I,q⟩:=h;exact ⟨σ',H',I.unwish,q⟩
 | ret u=>obtain ⟨v,σ',H',I,r,q⟩:=h;exact ⟨v,σ',H',I.unwish,r,q⟩
theorem PSs.nox {st:List Stmt} {t:TS} (h:PSs X.nox st t):PSs X st t:=λpins s σ H D I hw =>
 wpAny_mono (h pins s σ H D (I.wish _) hw) (λ_ _ q=>q.unwish) λ_ _ z=>False.elim z
end
section
variable {X:Cx} {st:Stmt} {rest:List Stmt} {t u:TS} {e:Expr} {te:TE} {pos:Pos}
def Qtw:TS:=λD σ H=>D.nx σ H
def tSeq (t u:TS):TS:=λD σ H=>t { D with nx:=u D } σ H
theorem Qox:PSs X [] Qtw:=λ_ _ σ H _ I h=>wpAny_execs_nil ⟨σ,H,I,h⟩
theorem Qlf (h1:PS X st t) (h2:PSs X rest u):PSs X (st::rest) (tSeq t u):=by
 intro pins s σ H D I h
 refine wpAny_execs_cons (thn (h1 pins s σ H { D with nx:=u D } I h) λf s1 q=>?_)
 cases f with
 | next =>
  obtain ⟨σ',H',I',q⟩:=q
  exact h2 pins s1 σ' H' D I' q
 | ret v=>exact q
 | brk=>exact q
 | cont=>exact q
theorem Qow (h1:PS X st t):PSs X [st] t:=by
 intro pins s σ H D I h
 refine wpAny_execs_cons (thn (h1 pins s σ H D I h) λf s1 q=>?_)
 cases f with
 | next=>exact wpAny_execs_nil q
 | ret v=>exact q
 | brk=>exact q
 | cont=>exact q
theorem Inv.quiet {pins:List (Addr × Obj)} {σ:St} {H:Hp} {s:Shared} (I:Inv X pins σ H s):interactive X.env=false:=by simp [interactive,I.ok.kind]
def Qty (te:TE):TS:=λD σ H=>te σ H λ_ H1=>D.nx σ H1
theorem Qe5 (he:PE X e te) (hs:swapsWith e none pos.line X.env=pure false:=by rfl):PS X (.Expr e pos) (Qty te):=by
 intro pins s σ H D I h
 exact wpAny_Expr_any (thn (he pins s σ H _ I h) λv s1 ⟨x,H1,I1,r1,q1⟩=>⟨σ,H1,I1,q1⟩) I.quiet hs
def tRet (te:TE):TS:=λD σ H=>te σ H D.rt
theorem Qgc (he:PE X e te):PS X (.Return (some e) pos) (tRet te):=by
 intro pins s σ H D I h
 exact wpAny_Return_some (thn (he pins s σ H _ I h) λv s1 ⟨x,H1,I1,r1,q1⟩=>⟨x,σ,H1,I1,r1,q1⟩)
def Qtt:TS:=λD _ H=>D.rt .non H
theorem Qoz:PS X (.Return none pos) Qtt:=λ_ _ σ H _ I h=>wpAny_Return_none ⟨.non,σ,H,I,rfl,h⟩
def tIfS (c:TT) (t u:TS):TS:=λD σ H=>c σ H λb H1=>if b=true then t D σ H1 else u D σ H1
theorem Que {c:Expr} {a b:List Stmt} {tc:TT} (hc:PT X c tc) (ha:PSs X a t) (hb:PSs X b u):PS X (.If c a b pos) (tIfS tc t u):=by
 intro pins s σ H D I h
 refine wpAny_If (thn (hc pins s σ H _ I h) λd s1 ⟨H1,I1,q1⟩=>?_)
 cases d with
 | true=>exact ha pins s1 σ H1 D I1 q1
 | false=>exact hb pins s1 σ H1 D I1 q1
end
abbrev TG:=V->St->Hp->(St->Hp->Prop)->Prop
abbrev TGs:=List V->St->Hp->(St->Hp->Prop)->Prop
def PG (X:Cx) (target:Expr) (t:TG):Prop :=
 ∀(pins:List (Addr × Obj)) (s:Shared) (σ:St) (H:Hp) (v:V) (u:Value) (Q:St->Hp->Prop),Inv X pins σ H s->RelV v u->t v σ H Q ->
  wpAny (model X.prog X.w) X.A (assign target X.env u) (λ_ s'=>∃σ' H',Inv X pins σ' H' s'/\Q σ' H') X.xe s
def PGs (X:Cx) (ts:List Expr) (t:TGs):Prop :=
 ∀(pins:List (Addr × Obj)) (s:Shared) (σ:St) (H:Hp) (vs:List V) (us:List Value) (Q:St->Hp->Prop),Inv X pins σ H s->Vals vs us->t vs σ H Q ->
  wpAny (model X.prog X.w) X.A (assignInOrder ((assignEach ts X.env).map (·.2)) us) (λ_ s'=>∃σ' H',Inv X pins σ' H' s'/\Q σ' H') X.xe s
abbrev TSet:=V->V->V->Hp->(Hp->Prop)->Prop
def PSet (X:Cx) (t:TSet):Prop :=
 ∀(pins:List (Addr × Obj)) (s:Shared) (σ:St) (H:Hp) (o i v:V) (ov iv u:Value) (Q:Hp->Prop),Inv X pins σ H s->RelV o ov->RelV i iv->RelV v u->t o i v H Q ->
  wpAny (model X.prog X.w) X.A (setItem ov iv u) (λ_ s'=>∃H',Inv X pins σ H' s'/\Q H') X.xe s
section
variable {X:Cx} {pos:Pos}
def Qfi (i:Nat):TG:=λv σ H Q=>Q (σ.set i (some v)) H
theorem Qe6 {i:Nat} {x:Str} (hN:X.N.Nodup) (hi:X.N[i]? = some x) (hx:Loc X.env.scope x) (hf:X.fn x=true\/X.env.scope.names.lookup x=some .local:=by first | exact .inl rfl | exact .inr rfl | assumption):PG X (.Name x pos) (Qfi i):=by
 intro pins s σ H v u Q I r h
 exact wpAny_assign_Name (X0 I hN hi hx r (λs' I'=>⟨_,H,I',h⟩) hf)
def gNil:TGs:=λvs σ H Q=>vs=[]/\Q σ H
def Qpt (t:TG) (u:TGs):TGs:=λvs σ H Q=>∃v r,vs=v::r/\t v σ H λσ' H'=>u r σ' H' Q
theorem Qi6:PGs X [] gNil:=by
 intro pins s σ H vs us Q I r h
 obtain ⟨e,h⟩:=h
 subst e
 cases r
 exact assignInOrder_nil ⟨σ,H,I,h⟩
theorem Qcl {e:Expr} {es:List Expr} {t:TG} {u:TGs} (h1:PG X e t) (h2:PGs X es u)
  (hs:(assignEach (e::es) X.env).map (·.2)=assign e X.env::(assignEach es X.env).map (·.2):=by rfl):PGs X (e::es) (Qpt t u):=by
 intro pins s σ H vs us Q I r h
 obtain ⟨v,vr,e1,h⟩:=h
 subst e1
 cases r with
 | cons r rr =>
  rw [hs]
  refine assignInOrder_cons (thn (h1 pins s σ H _ _ _ I r h) λ_ s1 ⟨σ1,H1,I1,q1⟩=>?_)
  exact h2 pins s1 σ1 H1 _ _ Q I1 rr q1
def gTup (K:PySem.W.Frag) (n:Nat) (t:TGs):TG:=λv σ H Q=>∃a xs,v=.ref a/\SqT K H a xs/\xs.length=n/\t xs σ H Q
theorem Qng {es:List Expr} {k:Nat} {t:TGs} {n:Nat} (hc:X.calm=true) (h:PGs X es t)
  (hn:(assignEach es X.env).length=n:=by rfl) (hst:(assignEach es X.env).findIdx? (·.1)=none:=by rfl):PG X (.Tuple es k pos) (gTup X.K n t):=by
 intro pins s σ H v u Q I r hw
 obtain ⟨a,xs,e1,hq,hl,hw⟩:=hw
 subst e1
 cases r
 obtain ⟨its,rv,ht,hz⟩:=I.tuple hq
 refine assign_Tuple_tuple (I.ok.hd hc) ht (by simp [hn,← hl,rv.length]) hst λh' hx=>?_
 have I1:Inv X pins σ H { s with heap:=h' }:=I.kept (t':=s.toks) λb o e=>hx b o (Nat.ne_of_lt (Heap.lt_size e)) e
 exact h pins _ σ H xs _ Q I1 (by simpa using rv) hw
def gSub (to ti:TE) (t:TSet):TG:=λv σ H Q=>to σ H λo H1=>ti σ H1 λi H2=>t o i v H2 λH3=>Q σ H3
theorem Qrk {o i:Expr} {to ti:TE} {t:TSet} (ho:PE X o to) (hi:PE X i ti) (hs:PSet X t)
  (ha:∀v,assign (.Subscript o i pos) X.env v=(do
   let ov ← holding [v] (eval o X.env)
   let iv ← holding [v,ov] (eval i X.env)
   standAt pos
   holding [v,ov,iv] (setItem ov iv v)
   release [v,ov,iv] []):=by intro _;rfl):PG X (.Subscript o i pos) (gSub to ti t):=by
 intro pins s σ H v u Q I r h
 rw [ha]
 refine wpAny_bind (wpAny_holding (thn (ho pins s σ H _ I h) λov s1 ⟨x,H1,I1,r1,q1⟩=>?_))
 refine wpAny_bind (wpAny_holding (thn (hi pins s1 σ H1 _ I1 q1) λiv s2 ⟨y,H2,I2,r2,q2⟩=>?_))
 refine wpAny_bind (wpAny_standAt (wpAny_bind (wpAny_holding (thn (hs pins s2 σ H2 x y v ov iv u _ I2 r1 r2 r q2) λ_ s3 ⟨H3,I3,q3⟩=>?_))))
 exact wpAny_release ⟨σ,H3,I3,q3⟩
def tAsg (te:TE) (g:TG):TS:=λD σ H=>te σ H λx H1=>g x σ H1 D.nx
theorem Qnf {tg e:Expr} {te:TE} {g:TG} (he:PE X e te) (hg:PG X tg g) (hs:swapsWithSole [tg] e pos.line X.env=pure false:=by rfl) (hw:swappedStores [tg] e X.env=pure none:=by rfl)
  (h1:(assignEach [tg] X.env).map (·.2)=[assign tg X.env]:=by rfl):PS X (.Assign [tg] e pos) (tAsg te g):=by
 intro pins s σ H D I h
 refine wpAny_Assign_stores (thn (he pins s σ H _ I h) λv s1 ⟨x,H1,I1,r1,q1⟩=>?_) hs hw
 rw [h1]
 exact thn (hg pins s1 σ H1 x v _ I1 r1 q1) λ_ s2 q=>q
theorem Qne {i:Nat} {x:Str} {e:Expr} {te:TE} {pos':Pos} (hN:X.N.Nodup) (hi:X.N[i]? = some x) (hx:Loc X.env.scope x) (he:PE X e te) (hs:swapsWith e (some (.Name x pos')) pos.line X.env=pure false:=by rfl) (hf:X.fn x=true\/X.env.scope.names.lookup x=some .local:=by first | exact .inl rfl | exact .inr rfl | assumption) :
  PS X (.Assign [.Name x pos'] e pos) (tAsg te (Qfi i)):=by
 intro pins s σ H D I h
 refine wpAny_Assign_Name (thn (he pins s σ H _ I h) λv s1 ⟨y,H1,I1,r1,q1⟩=>?_) hs
 exact X0 I1 hN hi hx r1 (λs2 I2=>⟨_,H1,I2,q1⟩) hf
end
section
variable {X:Cx} {pos:Pos}
def Qqm (c:TT) (tb:TS):TS:=λD σ H=>∃W:Nat->St->Hp->Prop,(∃m,W m σ H)/\∀m σ H,W m σ H ->
 c σ H λb H1=>if b=true then ∃N:St->Hp->Prop,(∀σ' H',N σ' H'->∃m',m' < m/\W m' σ' H')/\tb { D with nx:=N,ct:=N,bk:=D.nx } σ H1 else D.nx σ H1
theorem Qlg {c:Expr} {body:List Stmt} {tc:TT} {tb:TS} (hp:PassesOwn (model X.prog X.w) X.A X.env X.xe) (hc:PT X c tc) (hb:PSs X body tb):PS X (.While c body [] pos) (Qqm tc tb):=by
 intro pins s σ H D I h
 obtain ⟨W,⟨m0,w0⟩,turn⟩:=h
 refine wpAny_While (codeAny_whileLoop (λn s'=>∃σ' H',Inv X pins σ' H' s'/\W n σ' H') ?_ m0 ⟨σ,H,I,w0⟩)
 rintro n s1 ⟨σ1,H1,I1,w1⟩
 refine wpAny_passesOwn hp (thn (hc pins s1 σ1 H1 _ I1 (turn n σ1 H1 w1)) λb s2 ⟨H2,I2,q2⟩=>?_)
 cases b with
 | true =>
  obtain ⟨N,hN,q2⟩:=q2
  rw [if_pos rfl]
  refine wpAny_passesOwn hp (thn (hb pins s2 σ1 H2 _ I2 q2) λf s3 q3=>?_)
  cases f with
  | next =>
   obtain ⟨σ3,H3,I3,n3⟩:=q3
   obtain ⟨m',hm,w3⟩:=hN σ3 H3 n3
   exact ⟨m',hm,σ3,H3,I3,w3⟩
  | cont =>
   obtain ⟨σ3,H3,I3,n3⟩:=q3
   obtain ⟨m',hm,w3⟩:=hN σ3 H3 n3
   exact ⟨m',hm,σ3,H3,I3,w3⟩
  | brk=>exact q3
  | ret v=>exact q3
 | false =>
  rw [if_neg Bool.false_ne_true]
  exact wpAny_execs_nil ⟨σ1,H2,I2,q2⟩
end
structure It where
 go:Nat->Hp->Prop
 yld:Nat->Hp->V->Hp->Prop
 stop:Nat->Hp->Prop
def FpOk (X:Cx) (pins:List (Addr × Obj)) (H:Hp) (b:Addr):Prop :=
 H b=none/\b≠X.env.locals/\b∉X.fs/\(b∈X.ex\/X.s₀.heap.objs.size<=b)/\(∀x c,X.env.cells.lookup x=some c->c≠b)/\∀p∈X.pn++pins,p.1≠b
theorem Inv.fpOk {X:Cx} {pins:List (Addr × Obj)} {σ:St} {H H':Hp} {s:Shared} {b:Addr} (I:Inv X pins σ H s) (hb:s.heap.objs.size<=b) (hn:H' b=none):FpOk X pins H' b:=by
 refine ⟨hn,Nat.ne_of_gt (Nat.lt_of_lt_of_le I.lt hb),I.nofs hb,.inr (Nat.le_trans I.sz hb),λx c e z=>?_,λp hp z=>?_⟩
 ·obtain ⟨v,q⟩:=I.cell x c e
  exact absurd (Nat.lt_of_lt_of_le q.lt (by rw [z];exact hb)) (Nat.lt_irrefl _)
 ·exact absurd (Nat.lt_of_lt_of_le (Heap.lt_size (I.pin p hp).1) (by rw [z];exact hb)) (Nat.lt_irrefl _)
structure Turn (P:Program) (w:World) (K:PySem.W.Frag) (tg:Expr) (J:It) (fp:List Addr) (it:Addr) (tn:Nat->Heap->Prop):Prop where
 mem:it∈fp
 obj:∀i h,tn i h->∀b∈fp,∃o,h.get? b=some o/\∀v,o.data ≠ .cell v
 keep:∀i h h',tn i h->(∀b∈fp,∀o,h.get? b=some o->h'.get? b=some o)->tn i h'
 item:∀(X:Cx),X.prog=P->X.w=w->X.K=K->X.calm=true->∀(i:Nat) (pins:List (Addr × Obj)) (s:Shared) (σ:St) (H:Hp) (E:Value->Shared->Prop),Inv X pins σ H s->(∀b∈fp,FpOk X pins H b)->tn i s.heap->J.go i H ->
  wpAny (model P w) X.A (pyNext (.ref it)) (λr s1=>∃u,r=some u /\
   wpAny (model P w) X.A (letOwnedTupleGo tg (.ref it) u) (λ_ s2=>∃x H',Inv X pins σ H' s2/\RelV x u/\J.yld i H x H'/\tn (i+1) s2.heap/\∀b∈fp,H' b=none) E s1) E s
 done:∀(X:Cx),X.prog=P->X.w=w->X.K=K->X.calm=true->∀(i:Nat) (pins:List (Addr × Obj)) (s:Shared) (σ:St) (H:Hp) (E:Value->Shared->Prop),Inv X pins σ H s->(∀b∈fp,FpOk X pins H b)->tn i s.heap->J.stop i H ->
  wpAny (model P w) X.A (pyNext (.ref it)) (λr s1=>r=none/\Inv X pins σ H s1) E s
 self:∀(A:Around) (i:Nat) (s:Shared) (Q:Value->Shared->Prop) (E:Value->Shared->Prop),tn i s.heap->Q (.ref it) s->wpAny (model P w) A (pyIter (.ref it)) Q E s
abbrev TI:=St->Hp->(It->Hp->Prop)->Prop
def PIE (X:Cx) (pins:List (Addr × Obj)) (σ:St) (tg:Expr) (R:It->Hp->Prop) (itv:Value) (s2:Shared):Prop :=
 ∃(it:Addr) (fp:List Addr) (tn:Nat->Heap->Prop) (J:It) (H':Hp),itv=.ref it/\Inv X pins σ H' s2/\Turn X.prog X.w X.K tg J fp it tn/\tn 0 s2.heap/\(∀b∈fp,FpOk X pins H' b)/\R J H'
def PI (X:Cx) (tg iter:Expr) (wi:TI):Prop :=
 ∀(pins:List (Addr × Obj)) (s:Shared) (σ:St) (H:Hp) (R:It->Hp->Prop),Inv X pins σ H s->wi σ H R ->
  wpAny (model X.prog X.w) X.A (eval iter X.env) (λv s1=>wpAny (model X.prog X.w) X.A (pyIter v) (PIE X pins σ tg R) X.xe s1) X.xe s
theorem Qps {M:Model} {A:Around} {E:Value->Shared->Prop} {s:Shared} {tg:Expr} {it:Addr} {u:Value} {o:Obj} {n:String} {vs:Array Value} {Q:Unit->Shared->Prop} (ho:s.heap.get? it=some o) (hc:o.cls=.type n) (hd:o.data=.fields vs)
    (hn:["enumerate","zip","dict_itemiterator","dict_reverseitemiterator","odict_iterator","itertools.zip_longest","itertools.pairwise"].contains n=false) (hQ:Q () s):wpAny M A (letOwnedTupleGo tg (.ref it) u) Q E s:=by
  unfold letOwnedTupleGo
  cases tg <;> first
    | exact wpAny_pure hQ
    | (cases u <;> first
        | exact wpAny_pure hQ
        | (refine wpAny_bind (wpAny_load ho ?_)
           rw [hc,hd]
           show wpAny M A (if (["enumerate","zip","dict_itemiterator","dict_reverseitemiterator","odict_iterator","itertools.zip_longest","itertools.pairwise"].contains n && vs[0]? == some (rawInt _))=true then _ else _) Q E s
           rw [if_neg (by intro h;rw [hn,Bool.false_and] at h;cases h)]
           exact wpAny_pure hQ))
def Itl (K:PySem.W.Frag) (a:Addr):It :=
 ⟨λi H=>∃xs x,SqL K H a xs/\xs[i]? = some x,λi H x H'=>H'=H/\∀xs,SqL K H a xs->xs[i]? = some x,λi H=>∃xs,SqL K H a xs/\xs.length<=i⟩
def Itt (K:PySem.W.Frag) (a:Addr):It :=
 ⟨λi H=>∃xs x,SqT K H a xs/\xs[i]? = some x,λi H x H'=>H'=H/\∀xs,SqT K H a xs->xs[i]? = some x,λi H=>∃xs,SqT K H a xs/\xs.length<=i⟩
def Itr (lo:Int) (n:Nat):It:=⟨λi _=>i<n,λi H x H'=>H'=H/\x=.int (lo+i),λi _=>n<=i⟩
theorem Qig {P:Program} {w:World} {K:PySem.W.Frag} {tg:Expr} (a it:Addr):Turn P w K tg (Itl K a) [it] it (λi h=>h.IsListIter it a i) where
 mem:=by simp
 obj:=λi h st b hb=>by
  have e:b=it:=by simpa using hb
  subst e
  obtain ⟨o,e,c,d⟩:=st
  exact ⟨o,e,λv z=>by rw [d] at z;cases z⟩
 keep:=λi h h' st k=>st.at λo e=>k it (by simp) o e
 item:=by
  intro X hP hw hK hc i pins s σ H E I hf st hg
  subst hP hw hK
  obtain ⟨xs,x,hq,hx⟩:=hg
  obtain ⟨its,rv,p,hz⟩:=I.list hq
  obtain ⟨u,hu,ru⟩:=rv.get hx
  obtain ⟨f0,f1,f2,f3,f4,f5⟩:=hf it (by simp)
  refine wpAny_pyNext_list_item st p.isList (x:=u) (by simpa using hu) λh' st' sb=>?_
  have I1:Inv X pins σ H { s with heap:=h' }:=I.turned (t':=s.toks) (λb o hb e=>(sb.2 b hb).trans e) f0 f1 f3 f4 f5
  obtain ⟨o,e,c,d⟩:=id st'
  exact ⟨u,rfl,Qps (s:={ s with heap:=h' }) e c d (by decide) ⟨x,H,I1,ru,⟨rfl,λys hy=>by rw [I.list_inj hy hq];exact hx⟩,st',λb hb=>(hf b hb).1⟩⟩
 done:=by
  intro X hP hw hK hc i pins s σ H E I hf st hg
  subst hP hw hK
  obtain ⟨xs,hq,hx⟩:=hg
  obtain ⟨its,rv,p,hz⟩:=I.list hq
  obtain ⟨f0,f1,f2,f3,f4,f5⟩:=hf it (by simp)
  have hl:=rv.length
  exact wpAny_pyNext_list_end (I.ok.hd hc) st p.isList (by simp;omega) λh' eb=>⟨rfl,I.turned (t':=s.toks) (λb o hb e=>eb b o hb e) f0 f1 f3 f4 f5⟩
 self:=λ_ _ _ _ _ st h=>wpAny_pyIter_listiter st h
theorem Qhd {P:Program} {w:World} {K:PySem.W.Frag} {tg:Expr} (a it:Addr):Turn P w K tg (Itt K a) [it] it (λi h=>h.IsTupleIter it a i) where
 mem:=by simp
 obj:=λi h st b hb=>by
  have e:b=it:=by simpa using hb
  subst e
  obtain ⟨o,e,c,d⟩:=st
  exact ⟨o,e,λv z=>by rw [d] at z;cases z⟩
 keep:=λi h h' st k=>st.at λo e=>k it (by simp) o e
 item:=by
  intro X hP hw hK hc i pins s σ H E I hf st hg
  subst hP hw hK
  obtain ⟨xs,x,hq,hx⟩:=hg
  obtain ⟨its,rv,p,hz⟩:=I.tuple hq
  obtain ⟨u,hu,ru⟩:=rv.get hx
  obtain ⟨f0,f1,f2,f3,f4,f5⟩:=hf it (by simp)
  refine wpAny_pyNext_tuple_item st (show s.heap.IsTuple a its.toArray from p) (x:=u) (by simpa using hu) λh' st' sb=>?_
  have I1:Inv X pins σ H { s with heap:=h' }:=I.turned (t':=s.toks) (λb o hb e=>(sb.2 b hb).trans e) f0 f1 f3 f4 f5
  obtain ⟨o,e,c,d⟩:=id st'
  exact ⟨u,rfl,Qps (s:={ s with heap:=h' }) e c d (by decide) ⟨x,H,I1,ru,⟨rfl,λys hy=>by rw [I.tuple_inj hy hq];exact hx⟩,st',λb hb=>(hf b hb).1⟩⟩
 done:=by
  intro X hP hw hK hc i pins s σ H E I hf st hg
  subst hP hw hK
  obtain ⟨xs,hq,hx⟩:=hg
  obtain ⟨its,rv,p,hz⟩:=I.tuple hq
  obtain ⟨f0,f1,f2,f3,f4,f5⟩:=hf it (by simp)
  have hl:=rv.length
  exact wpAny_pyNext_tuple_end (I.ok.hd hc) st (show s.heap.IsTuple a its.toArray from p) (by simp;omega) λh' eb=>⟨rfl,I.turned (t':=s.toks) (λb o hb e=>eb b o hb e) f0 f1 f3 f4 f5⟩
 self:=λ_ _ _ _ _ st h=>wpAny_pyIter_tupleiter st h
theorem Qhe {P:Program} {w:World} {K:PySem.W.Frag} {tg:Expr} (it:Addr) (lo:Int) (n:Nat):Turn P w K tg (Itr lo n) [it] it (λi h=>IsRangeIter h it (lo+(i:Nat)*1) ((n:Int)-(i:Nat)) 1) where
 mem:=by simp
 obj:=λi h st b hb=>by
  have e:b=it:=by simpa using hb
  subst e
  exact ⟨_,st,λv z=>by
   have z':Data.fields _=Data.cell v:=z
   cases z'⟩
 keep:=λi h h' st k=>k it (by simp) _ st
 item:=by
  intro X hP hw hK hc i pins s σ H E I hf st hg
  subst hP hw hK
  obtain ⟨f0,f1,f2,f3,f4,f5⟩:=hf it (by simp)
  have W:=Walks.range (prog:=X.prog) (w:=X.w) (I.ok.hd hc) it lo 1 n
  refine W.item i s _ _ hg st λv h' tk hv st' kk=>?_
  obtain ⟨t,rfl⟩:=hv
  have I1:Inv X pins σ H { s with heap:=h',toks:=tk }:=I.turned (λb o hb e=>kk b o (by simpa using hb) e) f0 f1 f3 f4 f5
  refine ⟨_,rfl,Qps (s:={ s with heap:=h',toks:=tk }) (n:="range_iterator") st' rfl rfl (by decide) ⟨.int (lo+i),H,I1,⟨t,?_⟩,⟨rfl,rfl⟩,st',λb hb=>(hf b hb).1⟩⟩
  rw [Int.mul_one]
 done:=by
  intro X hP hw hK hc i pins s σ H E I hf st hg
  subst hP hw hK
  obtain ⟨f0,f1,f2,f3,f4,f5⟩:=hf it (by simp)
  exact wpAny_pyNext_range_end (I.ok.hd hc) st (by have:n<=i:=hg;omega) λh' eb=>⟨rfl,I.turned (t':=s.toks) (λb o hb e=>eb b o hb e) f0 f1 f3 f4 f5⟩
 self:=λ_ _ _ _ _ st h=>wpAny_pyIter_rangeiter st h
end L2
namespace L2
open PySem PySem.Spec PyProof.Rows
section
variable {X:Cx} {tg:Expr}
theorem Qla {pins:List (Addr × Obj)} {σ:St} {H:Hp} {s:Shared} {R:It->Hp->Prop} {E:Value->Shared->Prop} {lo hi:Int} {t u v:Tok} {tk:Nat} (I:Inv X pins σ H s) (h1:-(2 ^ 62)<=lo) (h2:lo<2 ^ 62) (h3:-(2 ^ 62)<=hi) (h4:hi<2 ^ 62)
  (q:R (Itr lo (hi-lo).toNat) H):wpAny (model X.prog X.w) X.A (pyIter (.ref s.heap.objs.size)) (PIE X pins σ tg R) E { s with heap:=s.heap.push { cls:=.type "range",data:=.fields #[.int lo t,.int hi u,.int 1 v] },toks:=tk }:=by
 refine wpAny_pyIter_range (IsRange.new ..) (small_one h1 h2 h3 h4) ?_
 have I1:Inv X pins σ H { s with heap:=s.heap.push { cls:=.type "range",data:=.fields #[.int lo t,.int hi u,.int 1 v] },toks:=tk }:=I.kept λb o e=>Heap.get?_push_of_some _ e
 refine ⟨(s.heap.push { cls:=.type "range",data:=.fields #[.int lo t,.int hi u,.int 1 v] }).objs.size,[(s.heap.push { cls:=.type "range",data:=.fields #[.int lo t,.int hi u,.int 1 v] }).objs.size],_,_,H,rfl,
  I1.kept (t':=tk) λb o e=>Heap.get?_push_of_some _ e,Qhe _ lo (hi-lo).toNat,?_,λb hb=>?_,q⟩
 ·have e1:lo+((0:Nat):Int)*1=lo:=by simp
  have e2:(((hi-lo).toNat:Nat):Int)-((0:Nat):Int)=Builtin.Range.rangeSize lo hi 1:=by rw [rangeSize_one];split <;> omega
  show IsRangeIter _ _ (lo+((0:Nat):Int)*1) ((((hi-lo).toNat:Nat):Int)-((0:Nat):Int)) 1
  rw [e1,e2]
  exact Heap.get?_push_size _ rfl
 ·have e:b=(s.heap.push { cls:=.type "range",data:=.fields #[.int lo t,.int hi u,.int 1 v] }).objs.size:=by simpa using hb
  subst e
  exact I1.fpOk (Nat.le_refl _) (I1.hok.fresh (Nat.le_refl _))
def Qux (ta:TA):TI:=λσ H R=>ta σ H λvs H1=>∃j:Int,vs=[.int j] /\ -(2 ^ 62)<=j/\j<2 ^ 62/\R (Itr 0 j.toNat) H1
theorem Qi5 {a:Expr} {ta:TA} {p pos:Pos} (hg:Gl X "range") (hm:X.mg "range" = none) (ha:PA X [a] ta) (hs:starEach [a] X.env=[(false,eval a X.env)]:=by rfl):PI X tg (.Call (.Name "range" p) [a] [] pos) (Qux ta):=by
 intro pins s σ H R I h
 refine Call_ (Qay I hg hm boot_range (PyProof.Rows.callWith_type1 (thn (ha pos pins s σ H _ I h) λus s1 ⟨vs,H1,I1,r1,q1⟩=>?_) hs rfl))
 obtain ⟨j,e,q1,q2,q⟩:=q1
 subst e
 cases r1 with
 | cons r rr =>
  cases rr
  obtain ⟨t,rfl⟩:=r
  exact call_range_1 (Qla I1 (by omega) (by omega) q1 q2 (by simpa using q))
def tFor (wi:TI) (g:TG) (tb:TS):TS:=λD σ H=>wi σ H λJ H1=>∃W:Nat->Nat->St->Hp->Prop,(∃m,W 0 m σ H1)/\∀i m σ H,W i m σ H ->
 (J.stop i H/\D.nx σ H)\/(J.go i H/\∃N:St->Hp->Prop,(∀σ' H',N σ' H'->∃m',m' < m/\W (i+1) m' σ' H')/\∀x H',J.yld i H x H'->g x σ H' λσ2 H2=>tb { D with nx:=N,ct:=N,bk:=D.nx } σ2 H2)
def Qap (fp:List Addr) (h:Heap):List (Addr × Obj):=fp.filterMap λb=>(h.get? b).map λo=>(b,o)
theorem Zz {fp:List Addr} {h:Heap} {b:Addr} {o:Obj} (hb:b∈fp) (e:h.get? b=some o):(b,o)∈Qap fp h:=List.mem_filterMap.mpr ⟨b,hb,by rw [e];rfl⟩
theorem Qjc {fp:List Addr} {h:Heap} {p:Addr × Obj} (hp:p∈Qap fp h):p.1∈fp/\h.get? p.1=some p.2:=by
 obtain ⟨b,hb,e⟩:=List.mem_filterMap.mp hp
 cases q:h.get? b with
 | none=>rw [q] at e;cases e
 | some o =>
  rw [q] at e
  have e':(b,o)=p:=Option.some.inj e
  subst e'
  exact ⟨hb,q⟩
theorem Inv.pinned {pins:List (Addr × Obj)} {σ:St} {H:Hp} {s:Shared} {fp:List Addr} (I:Inv X pins σ H s) (hf:∀b∈fp,FpOk X pins H b) (ho:∀b∈fp,∃o,s.heap.get? b=some o/\∀v,o.data ≠ .cell v):Inv X (pins++Qap fp s.heap) σ H s :=
 I.pins_of λp hp=>(List.mem_append.mp hp).elim (λz=>I.pin p (List.mem_append_right _ z)) λz=>by
  obtain ⟨hb,e⟩:=Qjc z
  obtain ⟨f0,f1,f2,_⟩:=hf p.1 hb
  obtain ⟨o,e',d⟩:=ho p.1 hb
  rw [e] at e';cases e'
  exact ⟨e,f0,f1,f2,d⟩
theorem Inv.unpinned {pins pl:List (Addr × Obj)} {σ:St} {H:Hp} {s:Shared} (I:Inv X (pins++pl) σ H s):Inv X pins σ H s:=I.pins_of λp hp=>I.pin p (List.mem_append_right _ (List.mem_append_left _ hp))
theorem Qri {iter:Expr} {body:List Stmt} {wi:TI} {g:TG} {tb:TS} {pos:Pos} (hp:PassesOwn (model X.prog X.w) X.A X.env X.xe) (hc:X.calm=true) (hi:PI X tg iter wi) (hg:PG X tg g) (hb:PSs X body tb)
  (hs:∀x,foldedSetIterable iter X.env x=pure x:=by intro _;rfl):PS X (.For tg iter body [] pos) (tFor wi g tb):=by
 intro pins s σ H D I h
 refine wpAny_For (thn (hi pins s σ H _ I h) λv s1 h1=>thn h1 λitv s2 h2=>?_) hs
 obtain ⟨it,fp,tn,J,H2,e,I2,T,st2,f2,W,⟨m0,w0⟩,turn⟩:=h2
 subst e
 -- what stays true of the iterator's objects through the loop
 have stat:∀{H':Hp},(∀b∈fp,H' b=none)->∀b∈fp,FpOk X pins H' b:=λhn b hb=>⟨hn b hb,(f2 b hb).2⟩
 refine codeAny_forLoop_any (λn s'=>∃i σ' H',Inv X pins σ' H' s'/\tn i s'.heap/\(∀b∈fp,H' b=none)/\W i n σ' H') ?_ m0 ⟨0,σ,H2,I2,st2,λb hb=>(f2 b hb).1,w0⟩
 rintro n s3 ⟨i,σ3,H3,I3,st3,fr3,w3⟩
 rcases turn i n σ3 H3 w3 with ⟨stop,qn⟩ | ⟨go,N,hN,step⟩
 ·refine wpAny_passesOwn hp (thn (T.done X rfl rfl rfl hc i pins s3 σ3 H3 X.xe I3 (stat fr3) st3 stop) λr s4 ⟨hr,I4⟩=>?_)
  subst hr
  exact wpAny_execs_nil ⟨σ3,H3,I4,qn⟩
 ·refine wpAny_passesOwn hp (thn (T.item X rfl rfl rfl hc i pins s3 σ3 H3 X.xe I3 (stat fr3) st3 go) λr s4 ⟨u,hr,h4⟩=>?_)
  subst hr
  refine wpAny_passesOwn hp (thn h4 λ_ s5 ⟨x,H5,I5,r5,y5,st5,fr5⟩=>?_)
  have I5':=I5.pinned (stat fr5) (T.obj _ _ st5)
  refine wpAny_passesOwn hp (thn (hg _ s5 σ3 H5 x u _ I5' r5 (step x H5 y5)) λ_ s6 ⟨σ6,H6,I6,q6⟩=>?_)
  refine wpAny_passesOwn hp (thn (hb _ s6 σ6 H6 _ I6 q6) λf s7 q7=>?_)
  have again:∀{σ7:St} {H7:Hp},Inv X (pins++Qap fp s5.heap) σ7 H7 s7->N σ7 H7->∃m,m<n/\∃i σ' H',Inv X pins σ' H' s7/\tn i s7.heap/\(∀b∈fp,H' b=none)/\W i m σ' H':=λ{σ7 H7} I7 n7=>by
   obtain ⟨m',hm,w7⟩:=hN σ7 H7 n7
   refine ⟨m',hm,i+1,σ7,H7,I7.unpinned,T.keep _ _ _ st5 λb hb o e=>(I7.pin (b,o) (List.mem_append_right _ (List.mem_append_right _ (Zz hb e)))).1,λb hb=>?_,w7⟩
   obtain ⟨o,e,d⟩:=T.obj _ _ st5 b hb
   exact (I7.pin (b,o) (List.mem_append_right _ (List.mem_append_right _ (Zz hb e)))).2.1
  cases f with
  | next=>obtain ⟨σ7,H7,I7,n7⟩:=q7;exact again I7 n7
  | cont=>obtain ⟨σ7,H7,I7,n7⟩:=q7;exact again I7 n7
  | brk=>obtain ⟨σ7,H7,I7,q7⟩:=q7;exact ⟨σ7,H7,I7.unpinned,q7⟩
  | ret v=>obtain ⟨x7,σ7,H7,I7,r7,q7⟩:=q7;exact ⟨x7,σ7,H7,I7.unpinned,r7,q7⟩
end
end L2
namespace L2
open PySem PySem.Spec PyProof.Rows
abbrev R2:=V->V->Hp->VK->Prop
def OpR (X:Cx) (f:Value->Value->Sem Value) (r:R2):Prop :=
 ∀(pins:List (Addr × Obj)) (s:Shared) (σ:St) (H:Hp) (x y:V) (v u:Value) (Q:VK),Inv X pins σ H s->RelV x v->RelV y u->r x y H Q ->
  wpAny (model X.prog X.w) X.A (f v u) (EP X pins σ Q) X.xe s
def UnR (X:Cx) (f:Value->Sem Value) (r:V->Hp->VK->Prop):Prop :=
 ∀(pins:List (Addr × Obj)) (s:Shared) (σ:St) (H:Hp) (x:V) (v:Value) (Q:VK),Inv X pins σ H s->RelV x v->r x H Q ->
  wpAny (model X.prog X.w) X.A (f v) (EP X pins σ Q) X.xe s
def Uo (X:Cx) (f:Value) (r:List V->Hp->VK->Prop):Prop :=
 ∀(pins:List (Addr × Obj)) (s:Shared) (σ:St) (H:Hp) (xs:List V) (us:List Value) (Q:VK),Inv X pins σ H s->Vals xs us->r xs H Q ->
  wpAny (model X.prog X.w) X.A (call f us) (EP X pins σ Q) X.xe s
def TruR (X:Cx) (r:V->Hp->(Bool->Hp->Prop)->Prop):Prop :=
 ∀(pins:List (Addr × Obj)) (s:Shared) (σ:St) (H:Hp) (x:V) (v:Value) (Q:Bool->Hp->Prop),Inv X pins σ H s->RelV x v->r x H Q ->
  wpAny (model X.prog X.w) X.A (truthy v) (TP X pins σ Q) X.xe s
def tOp (r:R2) (ta tb:TE):TE:=λσ H Q=>ta σ H λx H1=>tb σ H1 λy H2=>r x y H2 Q
def tUn (r:V->Hp->VK->Prop) (ta:TE):TE:=λσ H Q=>ta σ H λx H1=>r x H1 Q
def rI (C:Int->Int->Prop) (g:Int->Int->V):R2:=λx y H Q=>∃i j,x=.int i/\y=.int j/\C i j/\Q (g i j) H
def rI0 (g:Int->Int->V):R2:=λx y H Q=>∃i j,x=.int i/\y=.int j/\Q (g i j) H
def rU (g:Int->V):V->Hp->VK->Prop:=λx H Q=>∃i,x=.int i/\Q (g i) H
section
variable {X:Cx} {a b c:Expr} {ta tb tc:TE} {pos:Pos}
theorem binT (ha:PE X a ta) (hb:PE X b tb) {pins:List (Addr × Obj)} {s:Shared} {σ:St} {H:Hp} {R:V->V->Hp->Prop} (I:Inv X pins σ H s)
  (h:ta σ H λx H1=>tb σ H1 λy H2=>R x y H2) {Q:Value->Shared->Prop} {f:Value->Value->Sem Value}
  (hf:∀v u s2 x y H2,Inv X pins σ H2 s2->RelV x v->RelV y u->R x y H2->wpAny (model X.prog X.w) X.A (f v u) Q X.xe s2) :
  wpAny (model X.prog X.w) X.A (eval a X.env) (λv s₁=>wpAny (model X.prog X.w) X.A (eval b X.env) (λu s₂=>wpAny (model X.prog X.w) X.A (f v u) Q X.xe s₂) X.xe s₁) X.xe s:=by
 refine thn (ha pins s σ H _ I h) λv s1 ⟨x,H1,I1,r1,q1⟩=>?_
 refine thn (hb pins s1 σ H1 _ I1 q1) λu s2 ⟨y,H2,I2,r2,q2⟩=>?_
 exact hf v u s2 x y H2 I2 r1 r2 q2
theorem Quh {op:Operator} {r:R2} (ho:OpR X (binaryOp op) r) (ha:PE X a ta) (hb:PE X b tb):PE X (.BinOp a op b pos) (tOp r ta tb):=by
 intro pins s σ H Q I h
 exact wpAny_BinOp (binT ha hb I h λv u s2 x y H2 I2 rx ry q=>ho pins s2 σ H2 x y v u Q I2 rx ry q)
theorem Quf {op:UnaryOp} {r:V->Hp->VK->Prop} (ho:UnR X (unaryOp op) r) (ha:PE X a ta):PE X (.UnaryOp op a pos) (tUn r ta):=by
 intro pins s σ H Q I h
 exact UnaryOp_ (thn (ha pins s σ H _ I h) λv s1 ⟨x,H1,I1,r1,q1⟩=>ho pins s1 σ H1 x v Q I1 r1 q1)
theorem opI {f:Value->Value->Sem Value} {C:Int->Int->Prop} {g:Int->Int->Int}
  (rule:∀(i j:Int) (t u:Tok) (s:Shared) (Q:Value->Shared->Prop) (E:Value->Shared->Prop),C i j->Q (.int (g i j) s.toks) { s with toks:=s.toks+1 }->wpAny (model X.prog X.w) X.A (f (.int i t) (.int j u)) Q E s) :
  OpR X f (rI C λi j=>.int (g i j)):=by
 intro pins s σ H x y v u Q I rx ry h
 obtain ⟨i,j,rfl,rfl,hc,q⟩:=h
 obtain ⟨t,rfl⟩:=rx
 obtain ⟨t',rfl⟩:=ry
 exact rule i j t t' s _ _ hc ⟨.int (g i j),H,I.tok _,⟨_,rfl⟩,q⟩
theorem opI0 {f:Value->Value->Sem Value} {g:Int->Int->Int}
  (rule:∀(i j:Int) (t u:Tok) (s:Shared) (Q:Value->Shared->Prop) (E:Value->Shared->Prop),Q (.int (g i j) s.toks) { s with toks:=s.toks+1 }->wpAny (model X.prog X.w) X.A (f (.int i t) (.int j u)) Q E s) :
  OpR X f (rI0 λi j=>.int (g i j)):=by
 intro pins s σ H x y v u Q I rx ry h
 obtain ⟨i,j,rfl,rfl,q⟩:=h
 obtain ⟨t,rfl⟩:=rx
 obtain ⟨t',rfl⟩:=ry
 exact rule i j t t' s _ _ ⟨.int (g i j),H,I.tok _,⟨_,rfl⟩,q⟩
theorem opB0 {f:Value->Value->Sem Value} {g:Int->Int->Bool}
  (rule:∀(i j:Int) (t u:Tok) (s:Shared) (Q:Value->Shared->Prop) (E:Value->Shared->Prop),Q (.bool (g i j)) s->wpAny (model X.prog X.w) X.A (f (.int i t) (.int j u)) Q E s) :
  OpR X f (rI0 λi j=>.bl (g i j)):=by
 intro pins s σ H x y v u Q I rx ry h
 obtain ⟨i,j,rfl,rfl,q⟩:=h
 obtain ⟨t,rfl⟩:=rx
 obtain ⟨t',rfl⟩:=ry
 exact rule i j t t' s _ _ ⟨.bl (g i j),H,I,rfl,q⟩
def CDiv (i j:Int):Prop:=0<j/\j<1073741824
def Qvb (i j:Int):Prop:=j≠0/\j.natAbs<1073741824
def CMul (i j:Int):Prop:=(-(2 ^ 64)<i/\i<2 ^ 64)\/(-(2 ^ 64)<j/\j<2 ^ 64)
theorem CMul.ok {i j:Int} (h:CMul i j):IntMulOk i j:=by
 rcases h with ⟨h1,h2⟩ | ⟨h1,h2⟩
 ·exact .of_left (intBits_le_64 h1 h2)
 ·exact .of_right (intBits_le_64 h1 h2)
theorem Qr1:OpR X (binaryOp .Add) (rI0 λi j=>.int (i+j)):=opI0 λ_ _ _ _ _ _ _ q=>add_int q
theorem Qrs:OpR X (binaryOp .Sub) (rI0 λi j=>.int (i-j)):=opI0 λ_ _ _ _ _ _ _ q=>sub_int q
theorem Qrw:OpR X (binaryOp .Mult) (rI CMul λi j=>.int (i*j)):=opI λ_ _ _ _ _ _ _ hc q=>mul_int q hc.ok
theorem Qpa:OpR X (binaryOp .FloorDiv) (rI CDiv λi j=>.int (i / j)):=opI λi j _ _ _ _ _ hc q=>by
 have h1:(0:Int)<j:=hc.1
 have h2:j<1073741824:=hc.2
 exact floordiv_int (by omega) (by rw [Int.fdiv_eq_ediv_of_nonneg i (by omega)];exact q) (.inl (PyProof.noPylong_small (by omega)))
theorem Qlx:OpR X (binaryOp .FloorDiv) (rI Qvb λi j=>.int (i.fdiv j)):=opI λ_ _ _ _ _ _ _ hc q=>floordiv_int hc.1 q (.inl (PyProof.noPylong_small hc.2))
theorem Qrx:OpR X (binaryOp .Mod) (rI (λ_ j=>0<j) λi j=>.int (i % j)):=opI λi j _ _ _ _ _ hc q=>by
 have h1:(0:Int)<j:=hc
 exact mod_int' (by omega) (by rw [Int.fmod_eq_emod_of_nonneg i (by omega)];exact q)
theorem Qo9:OpR X (binaryOp .Mod) (rI (λ_ j=>j≠0) λi j=>.int (i.fmod j)):=opI λ_ _ _ _ _ _ _ hc q=>mod_int' hc q
theorem unI {f:Value->Sem Value} {g:Int->Int}
  (rule:∀(i:Int) (t:Tok) (s:Shared) (Q:Value->Shared->Prop) (E:Value->Shared->Prop),Q (.int (g i) s.toks) { s with toks:=s.toks+1 }->wpAny (model X.prog X.w) X.A (f (.int i t)) Q E s) :
  UnR X f (rU λi=>.int (g i)):=by
 intro pins s σ H x v Q I rx h
 obtain ⟨i,rfl,q⟩:=h
 obtain ⟨t,rfl⟩:=rx
 exact rule i t s _ _ ⟨.int (g i),H,I.tok _,⟨_,rfl⟩,q⟩
theorem Qqh:UnR X (unaryOp .USub) (rU λi=>.int (-i)):=unI λ_ _ _ _ _ q=>neg_int q
end
def scal:V->V->Bool
 | .non,.non=>true | .non,.int _=>true | .int _,.non=>true | .non,.bl _=>true | .bl _,.non=>true | .non,.str _=>true | .str _,.non=>true
 | .int _,.int _=>true | .bl _,.bl _=>true | .str _,.str _=>true | .byt _,.byt _=>true
 | .int _,.str _=>true | .str _,.int _=>true | .bl _,.str _=>true | .str _,.bl _=>true
 | _,_=>false
def rEq:R2:=λx y H Q=>scal x y=true/\Q (.bl (decide (x=y))) H
def rNe:R2:=λx y H Q=>scal x y=true/\Q (.bl (!decide (x=y))) H
theorem Qkb {i j:Int}:decide (V.int i=V.int j)=(i == j):=by
 rw [Bool.eq_iff_iff]
 simp
theorem Qgy {i j:Bool}:decide (V.bl i=V.bl j)=(i == j):=by
 rw [Bool.eq_iff_iff]
 simp
theorem Qka {i j:Str}:decide (V.str i=V.str j)=(i == j):=by
 rw [Bool.eq_iff_iff]
 simp
theorem Qkc {i j:Array UInt8}:decide (V.byt i=V.byt j)=(i.toList == j.toList):=by
 rw [Bool.eq_iff_iff]
 cases i
 cases j
 simp
section
variable {X:Cx} {a b c:Expr} {ta tb tc:TE} {pos:Pos}
theorem Jv {pins:List (Addr × Obj)} {σ:St} {H:Hp} {s:Shared} {Q:VK} {k k':Bool} (I:Inv X pins σ H s) (q:Q (.bl k) H) (e:k=k'):EP X pins σ Q (.bool k') s:=by
 subst e
 exact ⟨.bl k,H,I,rfl,q⟩
theorem Quo:OpR X (compareOp .Eq) rEq:=by
 intro pins s σ H x y v u Q I rx ry h
 obtain ⟨hs,q⟩:=h
 cases x with
 | non =>
  cases rx
  cases y with
  | non=>cases ry;exact PySem.EqNone.eq_none_none (Jv I q (by simp))
  | bl j=>cases ry;exact PySem.EqNone.eq_none_bool (Jv I q (by simp))
  | int j=>obtain ⟨t',rfl⟩:=ry;exact PySem.EqNone.eq_none_int (Jv I q (by simp))
  | str j=>obtain ⟨t',rfl⟩:=ry;exact PySem.EqNone.eq_none_str (Jv I q (by simp))
  | _=>exact absurd (show false=true from hs) Bool.false_ne_true
 | bl i =>
  cases rx
  cases y with
  | non=>cases ry;exact PySem.EqNone.eq_bool_none (Jv I q (by simp))
  | bl j=>cases ry;exact eq_bool (Jv I q Qgy)
  | str j=>obtain ⟨t',rfl⟩:=ry;exact PySem.EqMixed.eq_bool_str (Jv I q (by simp))
  | _=>exact absurd (show false=true from hs) Bool.false_ne_true
 | int i =>
  obtain ⟨t,rfl⟩:=rx
  cases y with
  | non=>cases ry;exact PySem.EqNone.eq_int_none (Jv I q (by simp))
  | int j=>obtain ⟨t',rfl⟩:=ry;exact eq_int (Jv I q Qkb)
  | str j=>obtain ⟨t',rfl⟩:=ry;exact PySem.EqMixed.eq_int_str (Jv I q (by simp))
  | _=>exact absurd (show false=true from hs) Bool.false_ne_true
 | str i =>
  obtain ⟨t,rfl⟩:=rx
  cases y with
  | non=>cases ry;exact PySem.EqNone.eq_str_none (Jv I q (by simp))
  | bl j=>cases ry;exact PySem.EqMixed.eq_str_bool (Jv I q (by simp))
  | int j=>obtain ⟨t',rfl⟩:=ry;exact PySem.EqMixed.eq_str_int (Jv I q (by simp))
  | str j=>obtain ⟨t',rfl⟩:=ry;exact eq_str (Jv I q Qka)
  | _=>exact absurd (show false=true from hs) Bool.false_ne_true
 | byt i =>
  obtain ⟨t,rfl⟩:=rx
  cases y with
  | byt j=>obtain ⟨t',rfl⟩:=ry;exact PySem.W.eq_bytes (Jv I q Qkc)
  | _=>exact absurd (show false=true from hs) Bool.false_ne_true
 | _=>cases y <;> exact absurd (show false=true from hs) Bool.false_ne_true
theorem Quj:OpR X (compareOp .NotEq) rNe:=by
 intro pins s σ H x y v u Q I rx ry h
 obtain ⟨hs,q⟩:=h
 cases x with
 | non =>
  cases rx
  cases y with
  | non=>cases ry;exact PySem.EqNone.ne_none_none (Jv I q (by simp))
  | bl j=>cases ry;exact PySem.EqNone.ne_none_bool (Jv I q (by simp))
  | int j=>obtain ⟨t',rfl⟩:=ry;exact PySem.EqNone.ne_none_int (Jv I q (by simp))
  | str j=>obtain ⟨t',rfl⟩:=ry;exact PySem.EqNone.ne_none_str (Jv I q (by simp))
  | _=>exact absurd (show false=true from hs) Bool.false_ne_true
 | bl i =>
  cases rx
  cases y with
  | non=>cases ry;exact PySem.EqNone.ne_bool_none (Jv I q (by simp))
  | bl j=>cases ry;exact ne_bool (Jv I q (congrArg not Qgy))
  | str j=>obtain ⟨t',rfl⟩:=ry;exact PySem.EqMixed.ne_bool_str (Jv I q (by simp))
  | _=>exact absurd (show false=true from hs) Bool.false_ne_true
 | int i =>
  obtain ⟨t,rfl⟩:=rx
  cases y with
  | non=>cases ry;exact PySem.EqNone.ne_int_none (Jv I q (by simp))
  | int j=>obtain ⟨t',rfl⟩:=ry;exact ne_int (Jv I q (congrArg not Qkb))
  | str j=>obtain ⟨t',rfl⟩:=ry;exact PySem.EqMixed.ne_int_str (Jv I q (by simp))
  | _=>exact absurd (show false=true from hs) Bool.false_ne_true
 | str i =>
  obtain ⟨t,rfl⟩:=rx
  cases y with
  | non=>cases ry;exact PySem.EqNone.ne_str_none (Jv I q (by simp))
  | bl j=>cases ry;exact PySem.EqMixed.ne_str_bool (Jv I q (by simp))
  | int j=>obtain ⟨t',rfl⟩:=ry;exact PySem.EqMixed.ne_str_int (Jv I q (by simp))
  | str j=>obtain ⟨t',rfl⟩:=ry;exact ne_str (Jv I q (congrArg not Qka))
  | _=>exact absurd (show false=true from hs) Bool.false_ne_true
 | byt i =>
  obtain ⟨t,rfl⟩:=rx
  cases y with
  | byt j=>obtain ⟨t',rfl⟩:=ry;exact PySem.W.ne_bytes (Jv I q (congrArg not Qkc))
  | _=>exact absurd (show false=true from hs) Bool.false_ne_true
 | _=>cases y <;> exact absurd (show false=true from hs) Bool.false_ne_true
theorem Quk:OpR X (compareOp .Lt) (rI0 λi j=>.bl (decide (i<j))):=opB0 λ_ _ _ _ _ _ _ q=>lt_int q
theorem Qul:OpR X (compareOp .LtE) (rI0 λi j=>.bl (decide (i<=j))):=opB0 λ_ _ _ _ _ _ _ q=>le_int q
theorem Qum:OpR X (compareOp .Gt) (rI0 λi j=>.bl (decide (j<i))):=opB0 λ_ _ _ _ _ _ _ q=>gt_int q
theorem Qun:OpR X (compareOp .GtE) (rI0 λi j=>.bl (decide (j<=i))):=opB0 λ_ _ _ _ _ _ _ q=>ge_int q
theorem Qi8:OpR X (compareOp .In) (λx y H Q=>∃i j,x=.str i/\y=.str j/\Q (.bl (!(Builtin.Str.occurrences j i 0 j.length 1).isEmpty)) H):=by
 intro pins s σ H x y v u Q I rx ry h
 obtain ⟨i,j,rfl,rfl,q⟩:=h
 obtain ⟨t,rfl⟩:=rx
 obtain ⟨t',rfl⟩:=ry
 exact in_str (Jv I q rfl)
theorem Qo8:OpR X (compareOp .IsNot) (λx y H Q=>y=.non/\Q (.bl (!decide (x=.non))) H):=by
 intro pins s σ H x y v u Q I rx ry h
 obtain ⟨rfl,q⟩:=h
 cases ry
 refine isnot_none_gen (Jv I q ?_)
 cases x <;> first
  | (cases rx;rfl)
  | (obtain ⟨t,rfl⟩:=rx;rfl)
theorem OpR.or {f:Value->Value->Sem Value} {r r':R2} (h:OpR X f r) (h':OpR X f r'):OpR X f (λx y H Q=>r x y H Q\/r' x y H Q):=by
 intro pins s σ H x y v u Q I rx ry q
 rcases q with q | q
 ·exact h pins s σ H x y v u Q I rx ry q
 ·exact h' pins s σ H x y v u Q I rx ry q
theorem Qnj (b:Expr) {op:CmpOp} (h:op ≠ .In:=by decide) (h2:op ≠ .NotIn:=by decide):behindInMarks op b=false:=by
 have e1:(op == CmpOp.In)=false:=by cases op <;> first | rfl | exact absurd rfl h
 have e2:(op == CmpOp.NotIn)=false:=by cases op <;> first | rfl | exact absurd rfl h2
 cases b <;> simp [behindInMarks,e1,e2]
theorem Qo5 {op:CmpOp} {r:R2} (ho:OpR X (compareOp op) r) (ha:PE X a ta) (hb:PE X b tb) (hm:behindInMarks op b=false):PE X (.Compare a [op] [b] pos) (tOp r ta tb):=by
 intro pins s σ H Q I h
 exact wpAny_Compare1 (binT ha hb I h λv u s2 x y H2 I2 rx ry q=>ho pins s2 σ H2 x y v u Q I2 rx ry q) hm
def Qts (t:TE):TT:=λσ H Q=>t σ H λx H'=>∃k,x=.bl k/\Q k H'
theorem Qov {op:CmpOp} {r:R2} (ho:OpR X (compareOp op) r) (ha:PE X a ta) (hb:PE X b tb) (hm:behindInMarks op b=false):PT X (.Compare a [op] [b] pos) (Qts (tOp r ta tb)):=by
 intro pins s σ H Q I h
 refine wpAny_isTrue_Compare1 (thn (ha pins s σ H _ I h) λv s1 ⟨x,H1,I1,r1,q1⟩=>thn (hb pins s1 σ H1 _ I1 q1) λu s2 ⟨y,H2,I2,r2,q2⟩ =>
  thn (ho pins s2 σ H2 x y v u _ I2 r1 r2 q2) λc s3 ⟨z,H3,I3,r3,k,e,q3⟩=>?_) hm
 subst e
 cases r3
 exact wpAny_truthy_bool ⟨H3,I3,q3⟩
def Qqp (r r':R2) (ta tb tc:TE):TE:=λσ H Q=>ta σ H λx H1=>tb σ H1 λy H2=>r x y H2 λz H3=>∃k,z=.bl k /\
 (if k=true then tc σ H3 λw' H4=>r' y w' H4 Q else Q (.bl false) H3)
theorem Qlr {op op':CmpOp} {r r':R2} (ho:OpR X (compareOp op) r) (ho':OpR X (compareOp op') r') (ha:PE X a ta) (hb:PE X b tb) (hc:PE X c tc)
  (hm:lastMarks [op,op'] [b,c]=false:=by with_unfolding_all rfl):PE X (.Compare a [op,op'] [b,c] pos) (Qqp r r' ta tb tc):=by
 intro pins s σ H Q I h
 refine Compare_chain (thn (ha pins s σ H _ I h) λv s1 ⟨x,H1,I1,r1,q1⟩=>chain_link (thn (hb pins s1 σ H1 _ I1 q1) λu s2 ⟨y,H2,I2,r2,q2⟩ =>
  thn (ho pins s2 σ H2 x y v u _ I2 r1 r2 q2) λd s3 ⟨z,H3,I3,r3,k,e,q3⟩=>?_)) hm
 subst e
 cases r3
 refine wpAny_truthy_bool ?_
 cases k with
 | false=>exact ite_ff ⟨.bl false,H3,I3,rfl,q3⟩
 | true=>exact ite_tt (chain_last (thn (hc pins s3 σ H3 _ I3 q3) λw' s4 ⟨z',H4,I4,r4,q4⟩=>ho' pins s4 σ H4 y z' u w' Q I4 r2 r4 q4))
def TruV (K:PySem.W.Frag) (x:V) (H:Hp) (k:Bool):Prop :=
 match x with
 | .non=>k=false
 | .bl b=>k=b
 | .int i=>k=(i != 0)
 | .str y=>y.length<=sizeLine/\k=((y.length:Int) != 0)
 | .byt y=>y.size<=sizeLine/\k=((y.size:Int) != 0)
 | .ref p=>(∃xs,SqL K H p xs/\k = !xs.isEmpty)\/(∃xs,SqT K H p xs/\k = !xs.isEmpty)\/∃kvs,H p=some (.dK kvs)/\k = !kvs.isEmpty
 | _=>False
theorem Qht {κ:Type} {kvs:List (κ × V)} {vs:List (κ × Value)} (r:KV kvs vs):(!vs.isEmpty) = !kvs.isEmpty:=by
 cases r <;> rfl
theorem Qb7 {xs:List V} {its:List Value} (r:Vals xs its):(!its.toArray.isEmpty) = !xs.isEmpty:=by
 cases r <;> simp
theorem Qb5:(sizeLine:Nat)<2 ^ 63:=by rw [sizeLine_eq];decide
theorem Qqk:TruR X (λx H Q=>∃k,TruV X.K x H k/\Q k H):=by
 intro pins s σ H x v Q I rx h
 obtain ⟨k,e,q⟩:=h
 have hl:=Qb5
 have hs:sizeLine=16777216:=sizeLine_eq
 cases x with
 | non =>
  cases rx
  have e':k=false:=e
  subst e'
  exact truthy_none ⟨H,I,q⟩
 | bl b =>
  cases rx
  have e':k=b:=e
  subst e'
  exact wpAny_truthy_bool ⟨H,I,q⟩
 | int i =>
  obtain ⟨t,rfl⟩:=rx
  have e':k=(i != 0):=e
  subst e'
  exact PySem.P.truthy_int ⟨H,I,q⟩
 | str y =>
  obtain ⟨t,rfl⟩:=rx
  obtain ⟨hy,e'⟩:y.length<=sizeLine/\k=((y.length:Int) != 0):=e
  subst e'
  exact PySem.P.truthy_str (by omega) ⟨H,I.tok _,q⟩
 | byt y =>
  obtain ⟨t,rfl⟩:=rx
  obtain ⟨hy,e'⟩:y.size<=sizeLine/\k=((y.size:Int) != 0):=e
  subst e'
  exact PySem.W.truthy_bytes (by omega) ⟨H,I.tok _,q⟩
 | ref p =>
  cases rx
  have e':(∃xs,SqL X.K H p xs/\k = !xs.isEmpty)\/(∃xs,SqT X.K H p xs/\k = !xs.isEmpty)\/∃kvs,H p=some (.dK kvs)/\k = !kvs.isEmpty:=e
  rcases e' with ⟨xs,hx,e'⟩ | ⟨xs,hx,e'⟩ | ⟨kvs,hx,e'⟩
  ·subst e'
   obtain ⟨its,r,pl,hz⟩:=I.list hx
   have hlen:=r.length
   exact wpAny_truthy_list pl.isList (by simp only [List.size_toArray];omega) ⟨H,I.tok _,by rw [Qb7 r];exact q⟩
  ·subst e'
   obtain ⟨its,r,pl,hz⟩:=I.tuple hx
   have hlen:=r.length
   exact truthy_tuple pl (by simp only [List.size_toArray];omega) ⟨H,I.tok _,by rw [Qb7 r];exact q⟩
  ·subst e'
   obtain ⟨hz,hS,vs,r,m⟩:kvs.length<=sizeLine/\(p == sysModules)=false/\∃vs,KV kvs vs/\s.heap.DictOf (J8 X.prog X.w) p vs:=I.hok p _ hx
   have hlen:kvs.length=vs.length:=Paired.length r
   exact wpAny_truthy_dict hS m (by omega) ⟨H,I.tok _,by rw [Qht r];exact q⟩
 | _=>exact (show False from e).elim
theorem Qle (ha:PE X a ta) (he:∀whole,isTrue a X.env whole=(do let v ← whole;standAt a.pos;holding [v] (truthy v))) :
  PT X a (λσ H Q=>ta σ H λx H'=>∃k,TruV X.K x H' k/\Q k H'):=by
 intro pins s σ H Q I h
 exact isTrue_plain (thn (ha pins s σ H _ I h) λv s1 ⟨x,H1,I1,r1,q1⟩=>Qqk pins s1 σ H1 x v Q I1 r1 q1) (he _)
theorem Qhl:OpR X (binaryOp .Add) (λx y H Q=>∃i j,x=.str i/\y=.str j/\i.length+j.length<=sizeLine/\Q (.str (i++j)) H):=by
 intro pins s σ H x y v u Q I rx ry h
 obtain ⟨i,j,rfl,rfl,hz,q⟩:=h
 obtain ⟨t,rfl⟩:=rx
 obtain ⟨t',rfl⟩:=ry
 exact add_str (λt' tk=>⟨.str (i++j),H,I.tok _,⟨_,rfl⟩,q⟩) hz
theorem Qcc {x:V} {us:List Value} (r:Vals [x] us):∃u,us=[u]/\RelV x u:=by
 cases r with
 | cons r1 r2=>cases r2;exact ⟨_,rfl,r1⟩
theorem Qqg {x y:V} {us:List Value} (r:Vals [x,y] us):∃u w',us=[u,w']/\RelV x u/\RelV y w':=by
 cases r with
 | cons r1 r2 =>
  cases r2 with
  | cons r3 r4=>cases r4;exact ⟨_,_,rfl,r1,r3⟩
theorem Qms:Uo X (.builtin "abs") (λxs H Q=>∃i,xs=[.int i]/\Q (.int (if i<0 then -i else i)) H):=by
 intro pins s σ H xs us Q I r h
 obtain ⟨i,rfl,q⟩:=h
 obtain ⟨u,rfl,t,rfl⟩:=Qcc r
 exact call_abs_int λu tk=>⟨.int (if i<0 then -i else i),H,I.tok _,⟨_,rfl⟩,q⟩
theorem Qkm (hc:X.calm=true):Uo X (.builtin "max") (λxs H Q=>∃i j,xs=[.int i,.int j]/\Q (.int (if j > i then j else i)) H):=by
 intro pins s σ H xs us Q I r h
 obtain ⟨i,j,rfl,q⟩:=h
 obtain ⟨u,w',rfl,⟨t,rfl⟩,⟨t',rfl⟩⟩:=Qqg r
 refine max_two_ints (I.ok.hd hc) λh' tk k=>⟨_,H,I.kept k,?_,q⟩
 by_cases hj:j > i
 ·rw [if_pos hj,if_pos hj];exact ⟨_,rfl⟩
 ·rw [if_neg hj,if_neg hj];exact ⟨_,rfl⟩
theorem Qkp:Uo X (.type "int") (λxs H Q=>(∃i,xs=[.int i]/\Q (.int i) H)\/∃k,xs=[.bl k]/\Q (.int (if k then 1 else 0)) H):=by
 intro pins s σ H xs us Q I r h
 rcases h with ⟨i,rfl,q⟩ | ⟨k,rfl,q⟩
 ·obtain ⟨u,rfl,t,rfl⟩:=Qcc r
  exact call_int_int ⟨.int i,H,I,⟨_,rfl⟩,q⟩
 ·obtain ⟨u,rfl,r1⟩:=Qcc r
  cases r1
  exact call_int_bool ⟨.int (if k then 1 else 0),H,I.tok _,⟨_,rfl⟩,q⟩
def LenV (K:PySem.W.Frag) (x:V) (H:Hp) (n:Nat):Prop :=
 match x with
 | .str y=>y.length<=sizeLine/\n=y.length
 | .byt y=>y.size<=sizeLine/\n=y.size
 | .ref p=>(∃xs,SqL K H p xs/\n=xs.length)\/∃xs,SqT K H p xs/\n=xs.length
 | _=>False
theorem Qmr:Uo X (.builtin "len") (λxs H Q=>∃x n,xs=[x]/\LenV X.K x H n/\Q (.int n) H):=by
 intro pins s σ H xs us Q I r h
 obtain ⟨x,n,rfl,e,q⟩:=h
 obtain ⟨u,rfl,rx⟩:=Qcc r
 have hl:=Qb5
 have hs:sizeLine=16777216:=sizeLine_eq
 cases x with
 | str y =>
  obtain ⟨t,rfl⟩:=rx
  obtain ⟨hy,e'⟩:y.length<=sizeLine/\n=y.length:=e
  subst e'
  exact len_str (by omega) ⟨.int _,H,I.tok _,⟨_,rfl⟩,q⟩
 | byt y =>
  obtain ⟨t,rfl⟩:=rx
  obtain ⟨hy,e'⟩:y.size<=sizeLine/\n=y.size:=e
  subst e'
  exact PySem.W.len_bytes (by omega) ⟨.int _,H,I.tok _,⟨_,rfl⟩,q⟩
 | ref p =>
  cases rx
  have e':(∃xs,SqL X.K H p xs/\n=xs.length)\/∃xs,SqT X.K H p xs/\n=xs.length:=e
  rcases e' with ⟨xs,hx,e'⟩ | ⟨xs,hx,e'⟩
  ·subst e'
   obtain ⟨its,r',pl,hz⟩:=I.list hx
   have hlen:=r'.length
   exact Calls.call_len_list pl.isList (by simp only [List.size_toArray];omega) ⟨.int xs.length,H,I.tok _,⟨_,by simp only [List.size_toArray];rw [hlen]⟩,q⟩
  ·subst e'
   obtain ⟨its,r',pl,hz⟩:=I.tuple hx
   have hlen:=r'.length
   exact len_tuple pl (by simp only [List.size_toArray];omega) ⟨.int xs.length,H,I.tok _,⟨_,by simp only [List.size_toArray];rw [hlen]⟩,q⟩
 | _=>exact (show False from e).elim
end
end L2
namespace L2
open PySem PySem.Spec PyProof.Rows
structure ObjM (h:Heap) (x dx C:Addr) (mA:Str->Option Value):Prop where
 obj:h.get? x=some (PySem.W.instObj C dx)
 ns:h.Ns1 dx mA
 ne:dx≠x
theorem Qjh {h:Heap} {dx:Addr} {mA:Str->Option Value} (n:h.Ns1 dx mA):∃od,h.get? dx=some od/\∀name,PySem.W.lookIn name od=some (mA name):=by
 obtain ⟨o,es,ep,ho,hd,hk,_,hm⟩:=n
 refine ⟨o,ho,λname=>?_⟩
 have e:=hm name
 unfold nsFind findBy at e
 rw [← Array.find?_toList] at e
 unfold PySem.W.lookIn
 rw [hd]
 dsimp only
 split
 ·rename_i y q
  rw [q] at e
  exact congrArg some e
 ·rename_i q
  rw [q] at e
  have a:es.toList.any (·.refKey)=false:=by
   rw [List.any_eq_false]
   intro y hy
   obtain ⟨z,t,hkey⟩:=hk y (Array.mem_toList_iff.mp hy)
   simp [DictEntry.refKey,hkey]
  have a':¬es.toList.any (·.refKey)=true:=by rw [a];exact Bool.false_ne_true
  rw [if_neg a']
  exact congrArg some e
theorem ObjM.look {h:Heap} {x dx C:Addr} {mA:Str->Option Value} (I:ObjM h x dx C mA):∃od,PySem.W.InstAt h x (PySem.W.instObj C dx) C (some od)/\∀name,PySem.W.lookIn name od=some (mA name) :=
 let ⟨od,ho,hl⟩:=Qjh I.ns
 ⟨od,⟨I.obj,rfl,rfl,ho⟩,hl⟩
section
variable {prog:Program} {w:World} {A:Around} {E:Value->Shared->Prop} {s:Shared} {K:PySem.W.Frag} {x dx C f:Addr} {mA:Str->Option Value} {name:Str} {v:Value}
end
theorem RelO.some_of {v:V} {o:Option Value} (r:RelO (some v) o):∃u,o=some u/\RelV v u:=by
 cases o with
 | none=>exact (show False from r).elim
 | some u=>exact ⟨u,rfl,r⟩
section
variable {P:Program} {w:World} {H H':Hp} {h h':Heap} {a C dx:Addr} {fs fs':List (Str × V)}
theorem Qpr (hok:HOk P w H h) (e:H a=some (.ins C dx fs)):∃mA,ObjM h a dx C mA/\(∀f,RelO (fs.lookup f) (mA f))/\PySem.Within mA (fs.map (·.1))/\fs.length<=1000/\H dx=some (.own a):=by
 obtain ⟨d,z,ne,ob,mA,n,r,q⟩:=(show Yx P w H h a (.ins C dx fs) from hok a _ e)
 exact ⟨mA,⟨ob,n,ne⟩,r,q,z,d⟩
end
structure Cls (K:PySem.W.Frag) (C:Addr):Prop where
 pg:PySem.W.plainGet K C Str.empty=true
 hd:PySem.W.hasDictIn K C=true
 po:PySem.W.plainOver K C=true
 sa:PySem.W.findIn K (.ref C) "__setattr__" = some (some (.builtin "object.__setattr__"))
theorem Cls.get {K:PySem.W.Frag} {C:Addr} (c:Cls K C) (f:Str):PySem.W.plainGet K C f=true:=c.pg
section
variable {X:Cx} {pins:List (Addr × Obj)} {σ:St} {H:Hp} {s:Shared} {a C dx:Addr} {fs:List (Str × V)} {f:Str} {v:V} {A:Around} {E:Value->Shared->Prop}
end
section
variable {X:Cx} {o e value:Expr} {f:Str} {pos pos' tpos:Pos} {ta tv:TE}
end
section
variable {X:Cx} {pins:List (Addr × Obj)} {σ:St} {H:Hp} {s:Shared} {A:Around} {E:Value->Shared->Prop} {Q:Value->Shared->Prop} {c:Value} {b:Bool}
inductive TyOf (K:PySem.W.Frag) (H:Hp):V->Value->Prop where
 | non:TyOf K H .non (.type "NoneType")
 | bl (x:Bool):TyOf K H (.bl x) (.type "bool")
 | int (i:Int):TyOf K H (.int i) (.type "int")
 | str (x:Str):TyOf K H (.str x) (.type "str")
 | flt (x:UInt64):TyOf K H (.flt x) (.type "float")
 | lst {a:Addr} {xs:List V} (e:H a=some (.lst xs)):TyOf K H (.ref a) (.type "list")
 | frz {a:Addr} {o:Obj} {xs:List V} (e:H a=some (.frz o (.lst xs))):TyOf K H (.ref a) (.type "list")
 | tup {a:Addr} {xs:List V} (e:H a=some (.tup xs)):TyOf K H (.ref a) (.type "tuple")
 | dK {a:Addr} {kvs:List (Key × V)} (e:H a=some (.dK kvs)):TyOf K H (.ref a) (.type "dict")
 | dT {a:Addr} {kvs:List (List Key × V)} (e:H a=some (.dT kvs)):TyOf K H (.ref a) (.type "dict")
 | ins {a C dx:Addr} {fs:List (Str × V)} (e:H a=some (.ins C dx fs)) (cl:Cls K C) (ha:PySem.W.findIn K (.ref C) "__class__" = some (some (.builtin "object.__class__")))
   (hn:PySem.W.specialIn K (.builtin "object.__class__") "__get__" = some (some (.builtin "getset_descriptor.__get__"))) (htk:PySem.W.takesIn K (.builtin "object.__class__")=some true)
   (hm:PySem.W.mroIn K C (.type "object")=some true):TyOf K H (.ref a) (.ref C)
theorem Qjp {x:V} {u t:Value} (I:Inv X pins σ H s) (rx:RelV x u) (ty:TyOf X.K H x t) (e:PySem.W.kitOne X.K t c=some b) (h:∀tk,Q (.bool b) { s with toks:=tk }) :
  wpAny (model X.prog X.w) A (call (.builtin "isinstance") [u,c]) Q E s:=by
 cases ty with
 | non=>cases (show u=Value.none from rx);exact PySem.W.kia_one PySem.W.kitx_none I.kIn True.intro e (λz=>nomatch z) h
 | bl y=>cases (show u=Value.bool y from rx);exact PySem.W.kia_one PySem.W.kitx_bool I.kIn True.intro e (λz=>nomatch z) h
 | int i=>obtain ⟨t,q⟩:=(show ∃t,u=Value.int i t from rx);cases q;exact PySem.W.kia_one PySem.W.kitx_int I.kIn True.intro e (λz=>nomatch z) h
 | str y=>obtain ⟨t,q⟩:=(show ∃t,u=Value.str y t from rx);cases q;exact PySem.W.kia_one PySem.W.kitx_str I.kIn True.intro e (λz=>nomatch z) h
 | flt y=>obtain ⟨t,q⟩:=(show ∃t,u=Value.float y t from rx);cases q;exact PySem.W.kia_one PySem.W.kitx_float I.kIn True.intro e (λz=>nomatch z) h
 | @lst a xs ea =>
  cases (show u=Value.ref a from rx)
  obtain ⟨_,_,n,_,h1⟩:=(show Yx X.prog X.w H s.heap a (.lst xs) from I.hok a _ ea)
  exact PySem.W.kia_one PySem.W.kitx_list I.kIn ⟨_,h1,rfl⟩ e (λz=>nomatch z) h
 | @frz a ob xs ea =>
  cases (show u=Value.ref a from rx)
  obtain ⟨_,_,_,n,_,h1⟩:=(show Yx X.prog X.w H s.heap a (.frz ob (.lst xs)) from I.hok a _ ea)
  exact PySem.W.kia_one PySem.W.kitx_list I.kIn ⟨_,h1,rfl⟩ e (λz=>nomatch z) h
 | @tup a xs ea =>
  cases (show u=Value.ref a from rx)
  obtain ⟨_,_,_,p⟩:=(show Yx X.prog X.w H s.heap a (.tup xs) from I.hok a _ ea)
  obtain ⟨o,h1,h2,_⟩:=p
  exact PySem.W.kia_one PySem.W.kitx_tuple I.kIn ⟨o,h1,h2⟩ e (λz=>nomatch z) h
 | @dK a kvs ea =>
  cases (show u=Value.ref a from rx)
  obtain ⟨_,_,vs,_,p⟩:=(show Yx X.prog X.w H s.heap a (.dK kvs) from I.hok a _ ea)
  obtain ⟨o,es,ep,h1,h2,_⟩:=p
  exact PySem.W.kia_one PySem.W.kitx_dict I.kIn ⟨o,h1,h2.1⟩ e (λz=>nomatch z) h
 | @dT a kvs ea =>
  cases (show u=Value.ref a from rx)
  obtain ⟨_,_,xs,_,o,es,ep,h1,h2,_⟩:=(show Yx X.prog X.w H s.heap a (.dT kvs) from I.hok a _ ea)
  exact PySem.W.kia_one PySem.W.kitx_dict I.kIn ⟨o,h1,h2.1⟩ e (λz=>nomatch z) h
 | @ins a C dx fs ea cl ha hn htk hm =>
  cases (show u=Value.ref a from rx)
  obtain ⟨mA,O,_⟩:=Qpr I.hok ea
  obtain ⟨od,J,_⟩:=O.look
  exact PySem.W.kia_one (PySem.W.kitx_own (cl.get _) cl.hd ha hn htk hm) I.kIn J e (λz=>nomatch z) h
end
end L2
namespace L2
open PySem PySem.Spec PyProof.Rows
structure Room (k:Nat) (A:Around):Prop where
 hd:A.handled=none
 dp:A.depth+3*k+5<recursionLimit
 un:A.units+16*k+200<cLine
theorem Room.mono {j k:Nat} {A:Around} (r:Room k A) (h:j<=k):Room j A:=⟨r.hd,by have:=r.dp;omega,by have:=r.un;omega⟩
theorem Room.deeper {k:Nat} {A:Around} (r:Room (k+1) A) (env:Env):Room k (A.deeper env) :=
 ⟨r.hd,by have:=r.dp;show A.depth+1+3*k+5<_;omega,by have:=r.un;show A.units+3+16*k+200<_;omega⟩
theorem Room.depth {k:Nat} {A:Around} (r:Room k A):A.depth<recursionLimit:=by have:=r.dp;omega
theorem Room.units {k:Nat} {A:Around} (r:Room k A):A.units+64<cLine:=by have:=r.un;omega
def tNil:TA:=λ_ H Q=>Q [] H
def Qtz (ta:TE) (tr:TA):TA:=λσ H Q=>ta σ H λx H1=>tr σ H1 λxs H2=>Q (x::xs) H2
section
variable {X:Cx} {e:Expr} {es:List Expr} {te:TE} {t:TA} {pos:Pos}
theorem Xr:PA X [] tNil:=λ_ _ _ _ H Q I h=>Calls.spliced_nil ⟨[],H,I,.nil,h⟩
theorem Z4 (ha:PE X e te) (hr:PA X es t) (hs:starEach (e::es) X.env=(false,eval e X.env)::starEach es X.env:=by rfl):PA X (e::es) (Qtz te t):=by
 intro pos pins s σ H Q I h
 rw [hs]
 show wpAny _ _ (spliced ((false,eval e X.env)::backTo pos (starEach es X.env))) _ _ s
 refine Calls.spliced_cons (thn (ha pins s σ H _ I h) λu s1 ⟨x,H1,I1,r1,q1⟩=>?_)
 exact thn (hr pos pins s1 σ H1 _ I1 q1) λus s2 ⟨xs,H2,I2,r2,q2⟩=>⟨x::xs,H2,I2,.cons r1 r2,q2⟩
def tTup (t:TA):TE:=λσ H Q=>t σ H λxs H1=>xs.length<=sizeLine/\∀p,H1 p=none->Q (.ref p) (upd H1 p (.tup xs))
def tLst (t:TA):TE:=λσ H Q=>t σ H λxs H1=>xs.length<=sizeLine/\∀p,H1 p=none->Q (.ref p) (upd H1 p (.lst xs))
theorem Qi7 {x1} (h:PA X es t):PE X (.Tuple es x1 pos) (tTup t):=by
 intro pins s σ H Q I hq
 refine wpAny_Tuple_spliced (thn (h pos pins s σ H _ I hq) λus s1 ⟨xs,H1,I1,r,z,q⟩=>⟨by rw [← r.length];exact z,?_⟩)
 have hf:H1 s1.heap.objs.size=none:=I1.hok.fresh (Nat.le_refl _)
 refine ⟨.ref s1.heap.objs.size,upd H1 s1.heap.objs.size (.tup xs),I1.laid (t':=s1.toks) (λb u e=>Heap.get?_push_of_some _ e) (Nat.le_refl _) ?_,rfl,q _ hf⟩
 exact ⟨z,us,r,⟨_,Heap.get?_push_size _ rfl,rfl,_,rfl⟩⟩
theorem Qrp (h:PA X es t):PE X (.List es pos) (tLst t):=by
 intro pins s σ H Q I hq
 refine wpAny_List_spliced (thn (h pos pins s σ H _ I hq) λus s1 ⟨xs,H1,I1,r,z,q⟩=>⟨by rw [← r.length];exact z,?_⟩)
 have hf:H1 s1.heap.objs.size=none:=I1.hok.fresh (Nat.le_refl _)
 refine ⟨.ref s1.heap.objs.size,upd H1 s1.heap.objs.size (.lst xs),I1.laid (t':=s1.toks) (λb u e=>Heap.get?_push_of_some _ e) (Nat.le_refl _) ?_,rfl,q _ hf⟩
 exact ⟨z,us,0,r,Heap.get?_push_size _ rfl⟩
end
abbrev Sp:=List V->Hp->VK->XK->Prop
abbrev CXT:=List Env->Hp->Shared->XK->Value->Shared->Prop
structure Env0 (P:Program) (w:World) (K:PySem.W.Frag) (mg:Str->Option Value) (base:Heap) (A:Around) (outer:List Env) (s:Shared) (H:Hp):Prop where
 frames:A.frames=some outer
 mod:Mod K mg base
 bs:∀b o,base.get? b=some o->s.heap.get? b=some o/\H b=none
 bsz:base.objs.size<=s.heap.objs.size
 funs:s.heap.FunFrames base outer
 frf:∀b∈frs outer,H b=none
 hok:HOk P w H s.heap
 bare:AllBare s.gens
def CE (outer:List Env) (P:Program) (w:World) (H:Hp) (s:Shared) (Q:VK) (u:Value) (s':Shared):Prop :=
 ∃v H',s'.os=s.os/\AllBare s'.gens/\Un (frs outer) [] H H' s.heap s'.heap/\HOk P w H' s'.heap/\RelV v u/\Q v H'
def CR (CX:CXT) (outer:List Env) (P:Program) (w:World) (H:Hp) (s:Shared) (Q:VK) (E:XK) (r:Result) (s':Shared):Prop :=
 match r with
 | .ok (.ret u)=>CE outer P w H s Q u s'
 | .ok _=>False
 | .error e=>CX outer H s E e s'
structure FnOk (P:Program) (w:World) (K:PySem.W.Frag) (mg:Str->Option Value) (base:Heap) (CX:CXT) (k:Nat) (f:Addr) (fd:FuncData) (ps:List Str) (sp:Sp):Prop where
 len:∀vs H Q E,sp vs H Q E->vs.length=ps.length
 run:∀(A:Around) (outer:List Env) (s:Shared) (H:Hp) (args:Args) (us:List Value) (vs:List V) (Q:VK) (E:XK),Room k A->Env0 P w K mg base A outer s H->BindsTo s fd args (ps.zip us)->Vals vs us->sp vs H Q E ->
  codeAny (model P w) A (.call (.ref f) args) (CR CX outer P w H s Q E) s
section
variable {X:Cx} {pins:List (Addr × Obj)} {σ:St} {H:Hp} {s s':Shared}
theorem Inv.env0 (I:Inv X pins σ H s):Env0 X.prog X.w X.K X.mg X.base X.A X.stack s H :=
 ⟨I.ok.frames,I.ok.mod,I.bs,Nat.le_trans I.ok.bsz I.sz,I.stack,I.stkFree,I.hok,I.bare⟩
theorem Inv.after {Q:VK} {u:Value} (I:Inv X pins σ H s) (h:CE X.stack X.prog X.w H s Q u s'):EP X pins σ Q u s':=by
 obtain ⟨v,H',os,bare,un,hok,r,q⟩:=h
 obtain ⟨hh,g,d,t,os'⟩:=s'
 obtain rfl:os'=s.os:=os
 exact ⟨v,H',I.call (h':=hh) (g':=g) (d':=d) (t':=t) (ch:=[]) un hok bare (λb z=>absurd z (by simp)),r,q⟩
end
def Qt0 (sp:Sp) (dvs:List V) (E:XK) (t:TA):TE:=λσ H Q=>t σ H λvs H1=>sp (vs++dvs) H1 Q E
def Qbe (K:PySem.W.Frag) (fd:FuncData) (ps:List Str) (ds:List Value):Prop :=
 ∀(s:Shared) (us:List Value),K.In s.heap->(us++ds).length=ps.length->BindsTo s fd ⟨us,[]⟩ (ps.zip (us++ds))
theorem Qbe.all {K:PySem.W.Frag} {fd:FuncData} {ps:List Str} (h:∀us:List Value,us.length=ps.length->bindArgs fd ⟨us,[]⟩=pure (ps.zip us)):Qbe K fd ps []:=λs us _ hl=>by
 rw [List.append_nil] at hl ⊢
 exact .of_eq (h us hl)
def Qkv (CX:CXT) (X:Cx) (E:XK):Prop:=∀(pins:List (Addr × Obj)) (σ:St) (H:Hp) (s:Shared) (e:Value) (s':Shared),Inv X pins σ H s->CX X.stack H s E e s'->X.xe e s'
section
variable {X:Cx} {CX:CXT} {k:Nat} {f C:Addr} {fd:FuncData} {ps:List Str} {sp:Sp} {dvs:List V} {ds:List Value} {E:XK} {x m:Str} {p pos apos:Pos} {e o:Expr} {es:List Expr} {ta:TE} {t:TA}
theorem Qm7 {pins:List (Addr × Obj)} {σ:St} {H:Hp} {s:Shared} {Q:VK} {us:List Value} {vs:List V} (F:FnOk X.prog X.w X.K X.mg X.base CX k f fd ps sp) (hr:Room k X.A) (hb:Qbe X.K fd ps ds) (hd:Vals dvs ds) (hx:Qkv CX X E)
  (I:Inv X pins σ H s) (r:Vals vs us) (h:sp (vs++dvs) H Q E):wpAny (model X.prog X.w) X.A (call (.ref f) us) (EP X pins σ Q) X.xe s:=by
 have r2:Vals (vs++dvs) (us++ds):=r.append hd
 have hl:(us++ds).length=ps.length:=by rw [← r2.length];exact F.len _ _ _ _ h
 refine wpAny_call (codeAny_mono (F.run X.A X.stack s H ⟨us,[]⟩ (us++ds) (vs++dvs) Q E hr I.env0 (hb s us I.kIn hl) r2 h) λr s' hq=>?_)
 cases r with
 | error e=>exact hx pins σ H s e s' I hq
 | ok fl =>
  cases fl with
  | ret u=>exact I.after hq
  | next=>exact False.elim hq
  | brk=>exact False.elim hq
  | cont=>exact False.elim hq
theorem Qo6 (F:FnOk X.prog X.w X.K X.mg X.base CX k f fd ps sp) (hr:Room k X.A) (hg:Gl X x) (hm:X.mg x=some (.ref f)) (hk:PySem.W.keepIn X.K (.ref f)=true) (hb:Qbe X.K fd ps ds) (hd:Vals dvs ds) (hx:Qkv CX X E)
  (ha:PA X (e::es) t) (hdb:(x == ("__debug__" : Str))=false:=by decide) (he:starEach (e::es) X.env=(false,eval e X.env)::starEach es X.env:=by rfl) (hpl:(backTo pos (starEach es X.env)).any (·.1)=false:=by rfl) :
  PE X (.Call (.Name x p) (e::es) [] pos) (Qt0 sp dvs E t):=by
 intro pins s σ H Q I h
 refine wpAny_Call_Name_kw (Qcv I hg hm ?_ hdb)
 refine PySem.W.callWith_K (h₀:=X.base) I.ok.mod.kin hk (thn (ha pos pins s σ H _ I h) λus s1 ⟨vs,H1,I1,r,q⟩=>⟨I1.kIn,?_⟩) he hpl
 exact Qm7 F hr hb hd hx I1 r q
end
section
variable {X:Cx} {CX:CXT} {k:Nat} {f C:Addr} {fd:FuncData} {ps ks:List Str} {sp:Sp} {E:XK} {x m:Str} {p pos apos kpos:Pos} {e o:Expr} {es:List Expr} {kws:List Keyword} {te ta:TE} {t tk:TA} {nm:Option Str}
variable {g:List Value->List Value->List Value} {gV:List V->List V->List V}
end
structure FnScope (N P:List Str) (sc:Scope):Prop where
 kind:sc.kind=.function
 co:sc.isCoroutine=false
 gen:sc.isGenerator=false
 nd:N.Nodup
 pre:N.take P.length=P
 par:∀x∈P,sc.names.lookup x=some .local\/sc.names.lookup x=some .cell
 nofree:∀y∈sc.names,y.2 ≠ .free
theorem Qen {kindOf:Str->Option NameKind} {x:Str}:∀{binds:List (Str × Value)} {m:Str->Option Value},(∀v,(x,v)∉binds)->bindL kindOf binds m x=m x
 | [],_,_=>rfl
 | (n,v)::r,m,h=>by
  unfold bindL
  rw [Qen λw hw=>h w (List.mem_cons_of_mem _ hw)]
  split
  ·have:x≠n:=by rintro rfl;exact h v List.mem_cons_self
   simp [this]
  ·rfl
theorem Qep {kindOf:Str->Option NameKind} {x:Str}:∀{binds:List (Str × Value)} {m:Str->Option Value},(∀v,(x,v)∉binds)->bindC kindOf binds m x=m x
 | [],_,_=>rfl
 | (n,v)::r,m,h=>by
  unfold bindC
  rw [Qep λw hw=>h w (List.mem_cons_of_mem _ hw)]
  split
  ·rfl
  ·have:x≠n:=by rintro rfl;exact h v List.mem_cons_self
   simp [this]
theorem Qeo {kindOf:Str->Option NameKind} {x:Str} {v:Value}:∀{P:List Str} {vs:List Value} {i:Nat} {m:Str->Option Value},P.Nodup->P[i]? = some x->vs[i]? = some v->kindOf x=some .local ->
  bindL kindOf (P.zip vs) m x=some v
 | [],_,_,_,_,h,_,_=>by simp at h
 | _::_,[],_,_,_,_,h,_=>by simp at h
 | p::P,w::vs,0,m,nd,h1,h2,hk=>by
  simp at h1 h2;subst h1;subst h2
  show bindL kindOf ((p,w)::P.zip vs) m p=_
  unfold bindL
  rw [Qen λv hv=>(List.nodup_cons.mp nd).1 (List.of_mem_zip hv).1,if_pos hk]
  simp
 | p::P,w::vs,i+1,m,nd,h1,h2,hk=>by
  show bindL kindOf ((p,w)::P.zip vs) m x=_
  unfold bindL
  exact Qeo (i:=i) (List.nodup_cons.mp nd).2 (by simpa using h1) (by simpa using h2) hk
theorem Qeq {kindOf:Str->Option NameKind} {x:Str} {v:Value}:∀{P:List Str} {vs:List Value} {i:Nat} {m:Str->Option Value},P.Nodup->P[i]? = some x->vs[i]? = some v->kindOf x≠some .local ->
  bindC kindOf (P.zip vs) m x=some v
 | [],_,_,_,_,h,_,_=>by simp at h
 | _::_,[],_,_,_,_,h,_=>by simp at h
 | p::P,w::vs,0,m,nd,h1,h2,hk=>by
  simp at h1 h2;subst h1;subst h2
  show bindC kindOf ((p,w)::P.zip vs) m p=_
  unfold bindC
  rw [Qep λv hv=>(List.nodup_cons.mp nd).1 (List.of_mem_zip hv).1,if_neg hk]
  simp
 | p::P,w::vs,i+1,m,nd,h1,h2,hk=>by
  show bindC kindOf ((p,w)::P.zip vs) m x=_
  unfold bindC
  exact Qeq (i:=i) (List.nodup_cons.mp nd).2 (by simpa using h1) (by simpa using h2) hk
def start (N:List Str) (vs:List V):St:=vs.map some++List.replicate (N.length-vs.length) none
def cxOf (CX:CXT) (P:Program) (w:World) (K:PySem.W.Frag) (mg:Str->Option Value) (base:Heap) (N:List Str) (qual:Str) (scope:Scope) (f:Addr) (cd:Value) (A:Around) (outer:List Env) (s:Shared) (H:Hp) (E:XK):Cx where
 prog:=P
 w:=w
 K:=K
 mg:=mg
 base:=base
 A:=A.deeper (envOfC qual scope s.heap.objs.size f cd)
 N:=N
 s₀:=s
 H₀:=H
 env:=envOfC qual scope s.heap.objs.size f cd
 outer:=outer
 stack:=envOfC qual scope s.heap.objs.size f cd::outer
 ex:=[]
 calm:=true
 fn:=λ_=>true
 pn:=[]
 xe:=λe s'=>wpAny (model P w) (A.deeper (envOfC qual scope s.heap.objs.size f cd)) (leaving (envOfC qual scope s.heap.objs.size f cd) e) (λ_ s''=>CX outer H s E e s'') (λe' s''=>CX outer H s E e' s'') s'
theorem Qg4 {sc:Scope} {n:Nat} {x:Str} (h:sc.names.lookup x=some .cell):∃c,(cellsFrom n sc.names []).lookup x=some c:=by
 have q:=PySem.W.cellsFrom_some sc.names n [] (.inl h)
 exact Option.isSome_iff_exists.mp q
theorem Qjq {CX:CXT} {P:Program} {w:World} {K:PySem.W.Frag} {mg:Str->Option Value} {base:Heap} {N ps:List Str} {qual:Str} {scope:Scope} {f:Addr} {cd:Value} {A:Around} {outer:List Env} {s s1:Shared} {H:Hp} {E:XK} {us:List Value} {vs:List V}
  (S:FnScope N ps scope) (hd:A.handled=none) (e0:Env0 P w K mg base A outer s H) (hl:vs.length=ps.length) (r:Vals vs us)
  (x:InCallC s s.heap.objs.size (bindL (envOfC qual scope s.heap.objs.size f cd).kindOf (ps.zip us) λ_=>none) (cellsFrom (s.heap.objs.size+1) scope.names []) (bindC (envOfC qual scope s.heap.objs.size f cd).kindOf (ps.zip us) λ_=>none) s1) :
  Inv (cxOf CX P w K mg base N qual scope f cd A outer s H E) [] (start N vs) H s1:=by
 have hpl:ps.length<=N.length:=by have:=congrArg List.length S.pre;rw [List.length_take] at this;omega
 obtain ⟨h1,tk,rfl,hk⟩:=x.done
 have noA:∀b:Addr,b∉(cxOf CX P w K mg base N qual scope f cd A outer s H E).ex:=λb z=>absurd (show b∈([]:List Addr) from z) (by simp)
 refine ⟨⟨e0.mod,S.kind,rfl,rfl,Nat.le_refl _,λy z c h1 h2=>?_,λy hy=>?_,λy c _ h=>?_,λ_=>hd,Around.frames_deeper e0.frames,.inr ⟨rfl,rfl⟩,λb z=>absurd z (noA b),e0.bs,e0.bsz,λb _ _=>noA b,λb z=>absurd z (noA b),e0.funs,e0.frf⟩,
  rfl,e0.bare,Un.kept hk,⟨_,x.toInCall.ns,λi y v h1 h2 h3=>?_⟩,λy c h=>⟨_,x.cell y c h⟩,e0.hok.fresh (Nat.le_refl _),λy c h=>?_,λp hp=>absurd (show p∈([]:List (Addr × Obj)) from hp) (by simp),e0.hok.kept hk,?_⟩
 ·exact name_of_addr x.apart (PySem.mem_of_lookup h1) (PySem.mem_of_lookup h2)
 ·have hy:scope.names.lookup y=some .cell\/scope.names.lookup y=some .free:=hy
  rcases hy with hy | hy
  ·exact Qg4 hy
  ·exact absurd rfl (S.nofree _ (PySem.mem_of_lookup hy))
 ·exact Nat.le_of_lt (x.above y c (PySem.mem_of_lookup h))
 ·have hi:i<vs.length:=by
   unfold start at h2
   by_cases hi:i<vs.length
   ·exact hi
   ·rw [List.getElem?_append_right (by simpa using hi)] at h2
    rw [List.getElem?_replicate] at h2
    split at h2 <;> cases h2
  have ha:vs[i]? = some v:=by
   unfold start at h2
   rw [List.getElem?_append_left (by simpa using hi),List.getElem?_map] at h2
   cases e:vs[i]? with
   | none=>rw [e] at h2;cases h2
   | some a=>rw [e] at h2;cases h2;rfl
  obtain ⟨u,hu,rv⟩:=r.get ha
  have hp:ps[i]? = some y:=by
   rw [← S.pre,List.getElem?_take_of_lt (by omega)];exact h1
  have ndP:ps.Nodup:=by rw [← S.pre];exact S.nd.sublist (List.take_sublist _ _)
  refine ⟨u,rv,?_⟩
  rcases S.par y (List.mem_of_getElem? hp) with k | k
  ·exact .inl ⟨k,Qeo ndP hp hu k⟩
  ·obtain ⟨c,e⟩:=Qg4 (n:=s.heap.objs.size+1) k
   refine .inr ⟨.inl k,c,e,?_⟩
   have q:=x.cell y c e
   rw [Qeq ndP hp hu (by show scope.names.lookup y≠_;rw [k];decide)] at q
   exact q
 ·exact e0.hok.fresh (Nat.le_of_lt (x.above y c (PySem.mem_of_lookup h)))
 ·unfold start
  show _=N.length
  rw [List.length_append,List.length_map,List.length_replicate]
  omega
theorem Qs7 {CX:CXT} {P:Program} {w:World} {K:PySem.W.Frag} {mg:Str->Option Value} {base:Heap} {k:Nat} {f:Addr} {name qual:Str} {params:Arguments} {body:List Stmt} {scope:Scope} {dV kV doc pm cdv ct oc:Value} {an od:Option Addr}
  {osl:Array (Option Value)} {N ps:List Str} {sp:Sp} (lk:K.lookup f=some ⟨oc,od,.func (PySem.W.fnOf name qual params body scope dV kV doc pm an cdv ct),osl⟩) (hcd:PySem.W.codeIn K cdv qual=true) (S:FnScope N ps scope)
  (len:∀vs H Q E,sp vs H Q E->vs.length=ps.length)
  (hbody:∀(A:Around) (outer:List Env) (s:Shared) (H:Hp) (vs:List V) (Q:VK) (E:XK),Room k (A.deeper (envOfC qual scope s.heap.objs.size f cdv))->sp vs H Q E ->
   ∃t,PSs (cxOf CX P w K mg base N qual scope f cdv A outer s H E) body t/\t { nx:=λ_ H'=>Q .non H',rt:=Q } (start N vs) H) :
  FnOk P w K mg base CX (k+1) f (PySem.W.fnOf name qual params body scope dV kV doc pm an cdv ct) ps sp:=by
 refine ⟨len,λA outer s H args us vs Q E hr e0 hb r hsp=>?_⟩
 have hl:=len _ _ _ _ hsp
 have KX:K.In s.heap:=e0.mod.kin.keeps λb o e=>(e0.bs b o e).1
 have lim:s.heap.NoLimit:=e0.mod.nolimit.keeps λb o e=>(e0.bs b o e).1
 have hkind:∀y∈ps.zip us,scope.names.lookup y.1=some .local\/(scope.names.lookup y.1=some .cell/\((cellsFrom (s.heap.objs.size+1) scope.names []).lookup y.1).isSome=true):=λ⟨n,v⟩ hy=>by
  rcases S.par n (List.of_mem_zip hy).1 with q | q
  ·exact .inl q
  ·exact .inr ⟨q,PySem.W.cellsFrom_some _ _ _ (.inl q)⟩
 refine codeAny_call_function hr.depth (KX _ _ lk) rfl S.co S.gen rfl (PySem.W.codeRec_of KX hcd) (hb _ _ _ _ ?_)
 refine wpAny_newFunctionEnv_cells S.kind hkind λenv he s1 x=>?_
 subst he
 refine ⟨lim.keeps x.toInCall.keep,codeAny_func ?_⟩
 obtain ⟨t,ht,hq⟩:=hbody A outer s H vs Q E (hr.deeper _) hsp
 have I:Inv (cxOf CX P w K mg base N qual scope f cdv A outer s H E) [] (start N vs) H s1:=Qjq S hr.hd e0 hl r x
 refine wpAny_mono (ht [] s1 (start N vs) H _ I hq) (λfl s' hs=>?_) λe s' hs=>hs
 have fin:∀{σ':St} {H':Hp} {v:V} {u:Value},Inv (cxOf CX P w K mg base N qual scope f cdv A outer s H E) [] σ' H' s'->RelV v u->Q v H'->CE outer P w H s Q u s' :=
  λ{σ' H' v u} J rv q=>⟨v,H',J.os,J.bare,J.base,J.hok,rv,q⟩
 cases fl with
 | ret u =>
  obtain ⟨v,σ',H',J,rv,q⟩:=hs
  exact fin J rv q
 | next =>
  obtain ⟨σ',H',J,q⟩:=hs
  exact fin (v:=V.non) (u:=Value.none) J rfl q
 | brk =>
  obtain ⟨_,_,_,q⟩:=hs
  exact False.elim q
 | cont =>
  obtain ⟨_,_,_,q⟩:=hs
  exact False.elim q
end L2
namespace L2
open PySem PySem.Spec PyProof.Rows
section
variable {X:Cx} {x:Str} {p pos:Pos} {e:Expr} {es:List Expr} {t:TA} {id T:String} {r:List V->Hp->VK->Prop}
def tCB (r:List V->Hp->VK->Prop) (t:TA):TE:=λσ H Q=>t σ H λvs H1=>r vs H1 Q
theorem Qls (hc:Uo X (.builtin id) r) (hg:Gl X x) (hm:X.mg x=none) (hv:bootBuiltins x=some (.builtin id)) (ha:PA X (e::es) t) (hn:x ≠ "__name__":=by decide) (hdb:(x == ("__debug__" : Str))=false:=by decide)
  (he:starEach (e::es) X.env=(false,eval e X.env)::starEach es X.env:=by rfl) (hpl:(backTo pos (starEach es X.env)).any (·.1)=false:=by rfl):PE X (.Call (.Name x p) (e::es) [] pos) (tCB r t):=by
 intro pins s σ H Q I h
 refine wpAny_Call_Name_kw (Qay I hg hm hv ?_ hn hdb)
 exact PyProof.Rows.callWith_builtin1 (thn (ha pos pins s σ H _ I h) λus s1 ⟨vs,H1,I1,r1,q1⟩=>hc pins s1 σ H1 vs us Q I1 r1 q1) he hpl
theorem Qd1 (hc:Uo X (.type T) r) (hg:Gl X x) (hm:X.mg x=none) (hv:bootBuiltins x=some (.type T)) (ha:PA X (e::es) t) (hn:x ≠ "__name__":=by decide) (hdb:(x == ("__debug__" : Str))=false:=by decide)
  (he:starEach (e::es) X.env=(false,eval e X.env)::starEach es X.env:=by rfl) (hpl:(backTo pos (starEach es X.env)).any (·.1)=false:=by rfl):PE X (.Call (.Name x p) (e::es) [] pos) (tCB r t):=by
 intro pins s σ H Q I h
 refine wpAny_Call_Name_kw (Qay I hg hm hv ?_ hn hdb)
 exact PyProof.Rows.callWith_type1 (thn (ha pos pins s σ H _ I h) λus s1 ⟨vs,H1,I1,r1,q1⟩=>hc pins s1 σ H1 vs us Q I1 r1 q1) he hpl
end
end L2
namespace HT
open PySem PyProof.Rows
section
open PySem.SeqAt
open PySem.AutoSeq1 (wpAny_loadPart')
open PySem.MeetsSeq PySem.MeetsSeq2 PySem.MeetsSeq3
end
section
variable {prog:Program} {w:World} {A:Around} {E:Value->Shared->Prop} {s:Shared}
theorem Qp7 {t b:Addr} {vs ws:List Value} {Q:Value->Shared->Prop} (ht:IsTup s.heap t vs.toArray) (hb:IsTup s.heap b ws.toArray) (hv:vs≠[])
  (h1:ws=[]->Q (.ref t) s) (h2:ws≠[]->Q (.ref s.heap.objs.size) { s with heap:=s.heap.push { cls:=.type "tuple",data:=.seq (vs++ws).toArray } })
  (hsz:vs.length+ws.length<=sizeLine):wpAny (model prog w) A (binaryOp .Add (.ref t) (.ref b)) Q E s:=by
 obtain ⟨⟨cls,dd,data,sl⟩,ho,hc,n,hd⟩:=id ht
 obtain ⟨⟨cls2,dd2,data2,sl2⟩,ho2,hc2,n2,hd2⟩:=id hb
 simp only at hc hd hc2 hd2
 subst hc hd hc2 hd2
 have e:vs.toArray++ws.toArray=(vs++ws).toArray:=by simp
 by_cases hw:ws=[]
 ·exact concat_meets ⟨_,ho,rfl⟩ ⟨_,ho2,rfl⟩ noFill_tuple_add seq_tuple_add PySem.F.slot_tuple_add PySem.F.entry_tuple_add (PySem.F.args_tuple_add_2 _ _)
   (tuple_addW1 t b vs.toArray ws.toArray n n2 dd dd2 sl sl2 (by simpa using hv) (by simp [hw])) ⟨ho,ho2,h1 hw⟩
 ·refine concat_meets ⟨_,ho,rfl⟩ ⟨_,ho2,rfl⟩ noFill_tuple_add seq_tuple_add PySem.F.slot_tuple_add PySem.F.entry_tuple_add (PySem.F.args_tuple_add_2 _ _)
   (tuple_addW2 t b vs.toArray ws.toArray n n2 dd dd2 sl sl2 (by simpa using hv) (by simpa using hw) (by rw [List.size_toArray,List.size_toArray];exact hsz)) ⟨ho,ho2,?_⟩
  rw [e]
  exact h2 hw
def sIx (n d:Nat):Option Int->Nat
 | none=>d
 | some v=>if v<0 then (v+(n:Int)).toNat else min v.toNat n
theorem Qf6 (n d:Nat):sIx n d none=d:=rfl
theorem Qis (n d k:Nat):sIx n d (some (k:Int))=min k n:=by
 show (if (k:Int)<0 then ((k:Int)+(n:Int)).toNat else min (k:Int).toNat n)=min k n
 rw [if_neg (by omega),Int.toNat_natCast]
theorem Qqw (n d:Nat) (hd:d<=n) (o:Option Int):sIx n d o<=n:=by
 cases o with
 | none=>exact hd
 | some v =>
  show (if v<0 then (v+(n:Int)).toNat else min v.toNat n)<=n
  by_cases hv:v<0
  ·rw [if_pos hv];omega
  ·rw [if_neg hv];exact Nat.min_le_right _ _
theorem Qki (v:Int) (n d:Nat):(if v<0 then max (v+(n:Int)) 0 else min v (n:Int))=((sIx n d (some v):Nat):Int):=by
 show (if v<0 then max (v+(n:Int)) 0 else min v (n:Int))=(((if v<0 then (v+(n:Int)).toNat else min v.toNat n):Nat):Int)
 by_cases hv:v<0
 ·simp only [if_pos hv];omega
 ·simp only [if_neg hv];omega
theorem Qh5 (lo hi:Option Int) (n:Nat):Builtin.Slice.sliceAdjust lo hi 1 (n:Int)=(((sIx n 0 lo:Nat):Int),((sIx n n hi:Nat):Int)):=by
 have h1:¬((1:Int)<0):=by omega
 unfold Builtin.Slice.sliceAdjust
 simp only [h1,if_false]
 refine Prod.ext ?_ ?_
 ·cases lo with
  | none=>rfl
  | some v=>exact Qki v n 0
 ·cases hi with
  | none=>rfl
  | some v=>exact Qki v n n
theorem Qhi (i j:Nat):Builtin.Slice.slicePlaces (i:Int) (j:Int) 1=j-i:=by
 unfold Builtin.Slice.slicePlaces
 have h1:(1:Int) > 0:=by omega
 simp only [h1,if_true,Int.ediv_one]
 split <;> omega
theorem Qbz {v:Value} {o:Option Int} {Q:Option Int->Shared->Prop} (p:IsPart v o) (h:Q o s):wpAny (model prog w) A (Builtin.Slice.slicePartIndex v) Q E s:=by
 cases p with
 | none=>exact slicePart_none h
 | int i t=>exact slicePart_int h
theorem V6 {sl:Addr} {vl vu:Value} {lo hi:Option Int} {n:Nat} {Q:Int × Int × Nat->Shared->Prop} (hs:s.heap.IsSliceOf sl vl vu .none) (pl:IsPart vl lo) (pu:IsPart vu hi)
  (h:Q (((sIx n 0 lo:Nat):Int),1,sIx n n hi-sIx n 0 lo) s):wpAny (model prog w) A (Builtin.Slice.sliceApplied (.ref sl) (pure (n:Int))) Q E s:=by
 obtain ⟨os,hos,hcs,hds⟩:=id hs
 unfold Builtin.Slice.sliceApplied Builtin.Slice.sliceFields
 refine wpAny_bind (wpAny_bind (wpAny_field hos hds (x:=vl) rfl (wpAny_bind (wpAny_field hos hds (x:=vu) rfl (wpAny_bind (wpAny_field hos hds (x:=.none) rfl (wpAny_pure ?_)))))))
 refine wpAny_bind (slicePart_none ?_)
 show wpAny _ _ (if ((1:Int) == 0)=true then _ else _) _ _ s
 rw [if_neg (by decide)]
 refine wpAny_bind (Qbz pl (wpAny_bind (Qbz pu (wpAny_bind (wpAny_pure ?_)))))
 show wpAny _ _ (match Builtin.Slice.sliceAdjust lo hi 1 (n:Int) with | (lo,hi)=>pure (lo,(1:Int),Builtin.Slice.slicePlaces lo hi 1)) _ _ s
 rw [Qh5 lo hi n]
 show wpAny _ _ (pure (((sIx n 0 lo:Nat):Int),(1:Int),Builtin.Slice.slicePlaces ((sIx n 0 lo:Nat):Int) ((sIx n n hi:Nat):Int) 1)) _ _ s
 rw [Qhi]
 exact wpAny_pure h
theorem Qlk (xs:Array Value) (i k:Nat):((List.range k).filterMap λ(m:Nat)=>xs[((i:Int)+(m:Int)*1).toNat]?).toArray=((xs.toList.drop i).take k).toArray:=by
 have e:(λ(m:Nat)=>xs[((i:Int)+(m:Int)*1).toNat]?)=λm=>xs[i+m]?:=by
  funext m
  have:((i:Int)+(m:Int)*1).toNat=i+m:=by omega
  rw [this]
 rw [e]
 have:=pick_run xs i k
 rw [List.filterMap_map] at this
 have e2:((λx=>xs[x]?) ∘ λx=>i+x)=λm=>xs[i+m]?:=rfl
 rw [e2] at this
 rw [this]
theorem Xf {t sl:Addr} {items:Array Value} {vl vu:Value} {lo hi:Option Int} {Q:Value->Shared->Prop} (ht:IsTup s.heap t items) (hs:s.heap.IsSliceOf sl vl vu .none) (pl:IsPart vl lo) (pu:IsPart vu hi)
  (hw:¬(sIx items.size 0 lo=0/\sIx items.size items.size hi=items.size))
  (h:Q (.ref s.heap.objs.size) { s with heap:=s.heap.push { cls:=.type "tuple",data:=.seq ((items.toList.drop (sIx items.size 0 lo)).take (sIx items.size items.size hi-sIx items.size 0 lo)).toArray } })
  (hsz:items.size<=sizeLine):wpAny (model prog w) A (getItem (.ref t) (.ref sl)) Q E s:=by
 have htake:sizeOk (.seq ((items.toList.drop (sIx items.size 0 lo)).take (sIx items.size items.size hi-sIx items.size 0 lo)).toArray):=by
  show ((items.toList.drop (sIx items.size 0 lo)).take (sIx items.size items.size hi-sIx items.size 0 lo)).toArray.size<=sizeLine
  rw [List.size_toArray,List.length_take,List.length_drop,Array.length_toList]
  omega
 have hj:sIx items.size items.size hi<=items.size:=Qqw _ _ (Nat.le_refl _) hi
 obtain ⟨os,hos,hcs,hds⟩:=id hs
 have hTs:s.TypeIs (.ref sl) "slice":=⟨os,hos,hcs⟩
 unfold getItem
 try with_reducible refine wpAny_holding ?_
 first | refine wpAny_bind (wpAny_pure ?_) | skip
 refine wpAny_bind (wpAny_sequenceKey ht.typeIs (by decide) ?_)
 refine wpAny_bind (wpAny_callSpecial?_slot (name:=Str.ofString "__getitem__") ht.typeIs PyProof.Rows.slot_tuple_getitem
  (wpAny_call_entry PyProof.Rows.slot_tuple_getitem ht.typeIs entry_tuple_getitem ?_ (args_tuple_getitem _ _)))
 show wpAny _ _ (Builtin.Tuple.tupleItemsOf (.ref t) >>= _) _ _ s
 refine wpAny_bind (tupleItemsOf_ ht ?_)
 refine wpAny_bind (wpAny_typeOf hTs ?_)
 rw [if_pos (by decide)]
 refine wpAny_bind (V6 hs pl pu ?_)
 have hno:¬((((sIx items.size 0 lo:Nat):Int) == 0 && (1:Int) == 1 && (sIx items.size items.size hi-sIx items.size 0 lo) == items.size)=true):=by
  intro q
  rw [Bool.and_eq_true,Bool.and_eq_true] at q
  have q1:((sIx items.size 0 lo:Nat):Int)=0:=eq_of_beq q.1.1
  have q2:sIx items.size items.size hi-sIx items.size 0 lo=items.size:=eq_of_beq q.2
  exact hw ⟨by omega,by omega⟩
 show wpAny _ _ (if (((sIx items.size 0 lo:Nat):Int) == 0 && (1:Int) == 1 && (sIx items.size items.size hi-sIx items.size 0 lo) == items.size)=true then _ else _) _ _ s
 rw [if_neg hno,Qlk]
 first
  | exact wpAny_bind (m:=Builtin.Tuple.tupleExact _) (wpAny_newObj_type (wpAny_pure ⟨_,rfl,wpAny_pure h⟩) htake)
  | exact wpAny_bind (m:=Builtin.Tuple.tupleExact _) (wpAny_newObj_type (wpAny_bind (wpAny_pure (wpAny_pure ⟨_,rfl,wpAny_pure h⟩))) htake)
  | exact wpAny_bind (wpAny_bind (m:=Builtin.Tuple.tupleExact _) (wpAny_newObj_type (wpAny_pure (wpAny_pure ⟨_,rfl,wpAny_pure h⟩)) htake))
  | exact wpAny_bind (wpAny_bind (m:=Builtin.Tuple.tupleExact _) (wpAny_newObj_type (wpAny_pure ⟨_,rfl,wpAny_pure h⟩) htake))
end
end HT
namespace L2
open PySem PySem.Spec PyProof.Rows
abbrev TO:=St->Hp->(Option Int->Hp->Prop)->Prop
def PO (X:Cx) (e:Option Expr) (t:TO):Prop :=
 ∀(pins:List (Addr × Obj)) (s:Shared) (σ:St) (H:Hp) (Q:Option Int->Hp->Prop),Inv X pins σ H s->t σ H Q ->
  wpAny (model X.prog X.w) X.A (evalPart e X.env) (λu s'=>∃o H',Inv X pins σ H' s'/\IsPart u o/\Q o H') X.xe s
def Qn7:TO:=λ_ H Q=>Q none H
def Qtu (t:TE):TO:=λσ H Q=>t σ H λx H1=>∃i,x=.int i/\Q (some i) H1
section
variable {X:Cx} {e:Expr} {te:TE} {lo hi:Option Expr} {tl th:TO} {pos p2:Pos}
theorem Qo2:PO X none Qn7:=by
 intro pins s σ H Q I h
 rw [evalPart_none]
 exact wpAny_pure ⟨none,H,I,.none,h⟩
theorem Qo1 (h:PE X e te):PO X (some e) (Qtu te):=by
 intro pins s σ H Q I hw
 rw [evalPart_some]
 refine thn (h pins s σ H _ I hw) λu s1 ⟨x,H1,I1,r1,q1⟩=>?_
 obtain ⟨i,rfl,q⟩:=q1
 obtain ⟨t,rfl⟩:=r1
 exact ⟨some i,H1,I1,.int i t,q⟩
def SlR (X:Cx) (r:V->Option Int->Option Int->Hp->VK->Prop):Prop :=
 ∀(pins:List (Addr × Obj)) (s:Shared) (σ:St) (H:Hp) (x:V) (v vl vu:Value) (lo hi:Option Int) (sl:Addr) (Q:VK),Inv X pins σ H s->RelV x v->s.heap.IsSliceOf sl vl vu .none->IsPart vl lo->IsPart vu hi->r x lo hi H Q ->
  ∃T id,typeLookup (.type T) "__getitem__" = pure (some (.builtin id))/\s.TypeIs v T/\wpAny (model X.prog X.w) X.A (getItem v (.ref sl)) (EP X pins σ Q) X.xe s
theorem SlR.or {r r':V->Option Int->Option Int->Hp->VK->Prop} (h:SlR X r) (h':SlR X r'):SlR X (λx lo hi H Q=>r x lo hi H Q\/r' x lo hi H Q):=by
 intro pins s σ H x v vl vu lo hi sl Q I rx hs pl pu q
 rcases q with q | q
 ·exact h pins s σ H x v vl vu lo hi sl Q I rx hs pl pu q
 ·exact h' pins s σ H x v vl vu lo hi sl Q I rx hs pl pu q
def tSl (r:V->Option Int->Option Int->Hp->VK->Prop) (te:TE) (tl th:TO):TE:=λσ H Q=>te σ H λx H1=>tl σ H1 λl H2=>th σ H2 λu H3=>r x l u H3 Q
theorem Qll {r:V->Option Int->Option Int->Hp->VK->Prop} (hr:SlR X r) (he:PE X e te) (hl:PO X lo tl) (hu:PO X hi th):PE X (.Subscript e (.Slice lo hi none p2) pos) (tSl r te tl th):=by
 intro pins s σ H Q I h
 refine Subscript_ (thn (he pins s σ H _ I h) λv s1 ⟨x,H1,I1,r1,q1⟩=>?_)
 refine wpAny_Slice (thn (hl pins s1 σ H1 _ I1 q1) λvl s2 ⟨l,H2,I2,pl,q2⟩=>thn (hu pins s2 σ H2 _ I2 q2) λvu s3 ⟨u,H3,I3,pu,q3⟩=>?_)
 rw [evalPart_none]
 refine wpAny_pure ?_
 have I4:Inv X pins σ H3 { s3 with heap:=s3.heap.push { cls:=.type "slice",data:=.fields #[vl,vu,.none] } }:=I3.kept (t':=s3.toks) λb ob q=>Heap.get?_push_of_some _ q
 obtain ⟨T,id,hT,ht,hg⟩:=hr pins { s3 with heap:=s3.heap.push { cls:=.type "slice",data:=.fields #[vl,vu,.none] } } σ H3 x v vl vu l u s3.heap.objs.size Q I4 r1 (Heap.IsSliceOf.new ..) pl pu q3
 show wpAny (model X.prog X.w) X.A (subscriptTail e (.Slice lo hi none p2) v (.ref s3.heap.objs.size)) (EP X pins σ Q) X.xe { s3 with heap:=s3.heap.push { cls:=.type "slice",data:=.fields #[vl,vu,.none] } }
 exact tail_any (ops:=[.ref s3.heap.objs.size,v]) ht hT hg (by with_unfolding_all rfl)
def cutV (xs:List V) (lo hi:Option Int):List V:=(xs.drop (HT.sIx xs.length 0 lo)).take (HT.sIx xs.length xs.length hi-HT.sIx xs.length 0 lo)
theorem Qa9 (xs:List V) (lo hi:Option Int):(cutV xs lo hi).length<=xs.length:=by
 unfold cutV
 rw [List.length_take,List.length_drop]
 omega
def rSlT (K:PySem.W.Frag):V->Option Int->Option Int->Hp->VK->Prop:=λx lo hi H Q=>∃a xs,x=.ref a/\SqT K H a xs /\
 ¬(HT.sIx xs.length 0 lo=0/\HT.sIx xs.length xs.length hi=xs.length)/\∀p,H p=none->Q (.ref p) (upd H p (.tup (cutV xs lo hi)))
theorem Qqt:SlR X (rSlT X.K):=by
 intro pins s σ H x v vl vu lo hi sl Q I rx hs pl pu h
 obtain ⟨a,xs,rfl,hx,hw,q⟩:=h
 cases rx
 obtain ⟨its,r,ht,hz⟩:=I.tuple hx
 have hlen:its.toArray.size=xs.length:=by rw [List.size_toArray];exact r.length.symm
 refine ⟨"tuple",_,PyProof.Rows.slot_tuple_getitem.lookup,ht.typeIs,?_⟩
 refine HT.Xf ht hs pl pu (by rw [hlen];exact hw) ?_ (by rw [hlen];exact hz)
 rw [hlen]
 refine ⟨.ref s.heap.objs.size,_,I.laid (t':=s.toks) (o:=.tup (cutV xs lo hi)) (λb ob q=>Heap.get?_push_of_some _ q) (Nat.le_refl _) ?_,rfl,q _ (I.hok.fresh (Nat.le_refl _))⟩
 exact ⟨Nat.le_trans (Qa9 xs lo hi) hz,_,(r.drop (HT.sIx xs.length 0 lo)).take (HT.sIx xs.length xs.length hi-HT.sIx xs.length 0 lo),IsTup.new _ _⟩
def Qub (K:PySem.W.Frag):R2:=λx y H Q=>∃a b xs ys,x=.ref a/\y=.ref b/\SqT K H a xs/\SqT K H b ys/\xs≠[]/\xs.length+ys.length<=sizeLine /\
 (ys=[]->Q (.ref a) H)/\(ys≠[]->∀p,H p=none->Q (.ref p) (upd H p (.tup (xs++ys))))
theorem Vals.nil_iff {xs:List V} {us:List Value} (r:Vals xs us):us=[]↔xs=[]:=by
 cases r with
 | nil=>simp
 | cons _ _=>simp
theorem Qpd:OpR X (binaryOp .Add) (Qub X.K):=by
 intro pins s σ H x y v u Q I rx ry h
 obtain ⟨a,b,xs,ys,rfl,rfl,ha,hb,hx,hz,q1,q2⟩:=h
 cases rx
 cases ry
 obtain ⟨its,r1,p1,_⟩:=I.tuple ha
 obtain ⟨its2,r2,p2,_⟩:=I.tuple hb
 refine HT.Qp7 p1 p2 (λz=>hx (r1.nil_iff.mp z)) (λz=>⟨.ref a,H,I,rfl,q1 (r2.nil_iff.mp z)⟩) (λz=>?_) (by rw [← r1.length,← r2.length];exact hz)
 refine ⟨.ref s.heap.objs.size,_,I.laid (t':=s.toks) (o:=.tup (xs++ys)) (λb ob q=>Heap.get?_push_of_some _ q) (Nat.le_refl _) ?_,rfl,q2 (λw=>z (r2.nil_iff.mpr w)) _ (I.hok.fresh (Nat.le_refl _))⟩
 exact ⟨by rw [List.length_append];exact hz,_,r1.append r2,IsTup.new _ _⟩
end
end L2
namespace L2
open PySem PySem.Spec PyProof.Rows
def ixN (n:Nat) (i:Int):Option Nat:=if 0<=i then (if i<n then some i.toNat else none) else if -(n:Int)<=i then some (i+n).toNat else none
def atI {α:Type} (xs:List α) (i:Int):Option α:=(ixN xs.length i).bind λj=>xs[j]?
theorem Qfh {n:Nat} {i:Int} {j:Nat} (h:ixN n i=some j):seqIndex? i n=some j/\j<n /\ -(n:Int)<=i/\i<n:=by
 unfold ixN at h
 by_cases h0:0<=i
 ·rw [if_pos h0] at h
  by_cases h1:i<n
  ·rw [if_pos h1] at h
   have e:i.toNat=j:=Option.some.inj h
   exact ⟨by rw [seqIndex_of h0 h1,e],by omega,by omega,h1⟩
  ·rw [if_neg h1] at h;cases h
 ·rw [if_neg h0] at h
  by_cases h1:-(n:Int)<=i
  ·rw [if_pos h1] at h
   have e:(i+n).toNat=j:=Option.some.inj h
   exact ⟨by rw [seqIndex_neg (by omega) h1,e],by omega,h1,by omega⟩
  ·rw [if_neg h1] at h;cases h
theorem Qfw {α:Type} {xs:List α} {i:Int} {v:α} (h:atI xs i=some v):∃j,seqIndex? i xs.length=some j/\xs[j]? = some v/\j<xs.length /\ -(xs.length:Int)<=i/\i<xs.length:=by
 unfold atI at h
 cases e:ixN xs.length i with
 | none=>rw [e] at h;cases h
 | some j =>
  rw [e] at h
  obtain ⟨h1,h2,h3,h4⟩:=Qfh e
  exact ⟨j,h1,h,h2,h3,h4⟩
theorem Qfv {α:Type} {xs:List α} {j:Nat} {v:α} (h:xs[j]? = some v):atI xs (j:Int)=some v:=by
 have hj:j<xs.length:=(List.getElem?_eq_some_iff.mp h).1
 have e:ixN xs.length (j:Int)=some j:=by
  unfold ixN
  rw [if_pos (by omega),if_pos (by omega)];simp
 unfold atI;rw [e];exact h
def Qbd (b:Expr):Prop:=∀o i,subscripted b false o i=operate [o,i] (getItem o i)
def IxR (X:Cx) (r:R2):Prop :=
 ∀(value slice:Expr) (pins:List (Addr × Obj)) (s:Shared) (σ:St) (H:Hp) (x y:V) (v u:Value) (Q:VK),Inv X pins σ H s->RelV x v->RelV y u->r x y H Q ->
  subscripted slice false v u=operate [v,u] (getItem v u)->wpAny (model X.prog X.w) X.A (subscriptTail value slice v u) (EP X pins σ Q) X.xe s
def MtR (X:Cx) (id:String) (r:V->List V->Hp->VK->Prop):Prop :=
 ∀(pins:List (Addr × Obj)) (s:Shared) (σ:St) (H:Hp) (x:V) (xs:List V) (v:Value) (us:List Value) (Q:VK),Inv X pins σ H s->RelV x v->Vals xs us->r x xs H Q ->
  wpAny (model X.prog X.w) X.A (call (.builtin id) (v::us)) (EP X pins σ Q) X.xe s
section
variable {X:Cx} {a b:Expr} {ta tb:TE} {pos:Pos}
theorem IxR.or {r r':R2} (h:IxR X r) (h':IxR X r'):IxR X (λx y H Q=>r x y H Q\/r' x y H Q):=by
 intro value slice pins s σ H x y v u Q I rx ry q hs
 rcases q with q | q
 ·exact h value slice pins s σ H x y v u Q I rx ry q hs
 ·exact h' value slice pins s σ H x y v u Q I rx ry q hs
theorem Qlm {r:R2} (hr:IxR X r) (ha:PE X a ta) (hb:PE X b tb) (hs:Qbd b):PE X (.Subscript a b pos) (tOp r ta tb):=by
 intro pins s σ H Q I h
 exact Subscript_ (binT ha hb I h λv u s2 x y H2 I2 rx ry q=>hr a b pins s2 σ H2 x y v u Q I2 rx ry q (hs _ _))
def rIxL (K:PySem.W.Frag):R2:=λx y H Q=>∃p xs i v,x=.ref p/\y=.int i/\SqL K H p xs/\atI xs i=some v/\Q v H
def rIxT (K:PySem.W.Frag):R2:=λx y H Q=>∃p xs i v,x=.ref p/\y=.int i/\SqT K H p xs/\atI xs i=some v/\Q v H
def rIxS:R2:=λx y H Q=>∃z i c,x=.str z/\y=.int i/\z.length<=sizeLine/\atI z.cps.toList i=some c/\Q (.str ⟨#[c]⟩) H
theorem Qpo:IxR X (rIxL X.K):=by
 intro value slice pins s σ H x y v u Q I rx ry h hs
 obtain ⟨p,xs,i,z,rfl,rfl,hq,he,q⟩:=h
 cases rx
 obtain ⟨t,rfl⟩:=ry
 obtain ⟨its,r,pl,hz⟩:=I.list hq
 obtain ⟨j,h1,h2,h3,h4,h5⟩:=Qfw he
 obtain ⟨w,ew,rw'⟩:=r.get h2
 have hl:=r.length
 have hn:=Qb5
 have fin:EP X pins σ Q w s:=⟨z,H,I,rw',q⟩
 by_cases h0:0<=i
 ·have hj:i.toNat=j:=by
   rw [seqIndex_of h0 h5] at h1
   exact Option.some.inj h1
  exact item_listR pl.isList h0 (by omega) (by rw [hj];simpa using ew) fin hs
 ·have hj:(i+(its.toArray.size:Int)).toNat=j:=by
   rw [seqIndex_neg (by omega) h4] at h1
   rw [List.size_toArray,← hl]
   exact Option.some.inj h1
  exact subscriptTail_builtinR (x:=w) pl.isList.typeIs slot_list_getitem.lookup
   (wpAny_getItem_list_neg (Q:=λr s'=>r=w/\EP X pins σ Q r s') pl.isList (by omega) (by rw [List.size_toArray] <;> omega) (by omega) (by rw [hj];simpa using ew) ⟨rfl,fin⟩) hs
theorem Qgo:IxR X (rIxT X.K):=by
 intro value slice pins s σ H x y v u Q I rx ry h hs
 obtain ⟨p,xs,i,z,rfl,rfl,hq,he,q⟩:=h
 cases rx
 obtain ⟨t,rfl⟩:=ry
 obtain ⟨its,r,pl,hz⟩:=I.tuple hq
 obtain ⟨j,h1,h2,h3,h4,h5⟩:=Qfw he
 obtain ⟨w,ew,rw'⟩:=r.get h2
 have hl:=r.length
 have hn:=Qb5
 have fin:EP X pins σ Q w s:=⟨z,H,I,rw',q⟩
 exact subscriptTail_builtinR (x:=w) pl.typeIs slot_tuple_getitem.lookup
  (getItem_tuple (j:=j) (Q:=λr s'=>r=w/\EP X pins σ Q r s') pl (by omega) (by omega) (by rw [List.size_toArray,← hl];exact h1) (by simpa using ew) ⟨rfl,fin⟩) hs
theorem Qst:IxR X rIxS:=by
 intro value slice pins s σ H x y v u Q I rx ry h hs
 obtain ⟨z,i,c,rfl,rfl,hz,he,q⟩:=h
 obtain ⟨t,rfl⟩:=rx
 obtain ⟨t',rfl⟩:=ry
 obtain ⟨j,h1,h2,h3,h4,h5⟩:=Qfw he
 have hl:z.cps.toList.length=z.length:=by simp [Str.length]
 rw [hl] at h1 h4 h5
 have hn:=Qb5
 exact tail_any (typeIs_str s z t) slot_str_getitem.lookup (getItem_str (c:=c) (by
  have e1:decide (i < -(2 ^ 63:Int))=false:=decide_eq_false (by omega)
  have e2:decide (i ≥ 2 ^ 63)=false:=decide_eq_false (by omega)
  rw [e1,e2,Bool.or_false]) (by rw [h1];simpa using h2) ⟨.str ⟨#[c]⟩,H,I.tok _,⟨_,rfl⟩,q⟩) hs
def rIx (K:PySem.W.Frag):R2:=λx y H Q=>rIxL K x y H Q\/rIxT K x y H Q\/rIxS x y H Q
theorem Qsu:IxR X (rIx X.K):=Qpo.or (Qgo.or Qst)
theorem Qho (its:List Value) (n j:Nat) (u:Value):Obj.mapSeq (·.setIfInBounds j u) { cls:=.type "list",data:=.seq its.toArray n }={ cls:=.type "list",data:=.seq (its.set j u).toArray n }:=by
 simp [Obj.mapSeq]
theorem Inv.lst {pins:List (Addr × Obj)} {σ:St} {H:Hp} {s:Shared} {p:Addr} {xs:List V} (I:Inv X pins σ H s) (h:H p=some (.lst xs)) :
  ∃(its:List Value) (n:Nat),Vals xs its/\s.heap.get? p=some { cls:=.type "list",data:=.seq its.toArray n }/\xs.length<=sizeLine:=by
 obtain ⟨z,its,n,r,e⟩:=I.hok p _ h
 exact ⟨its,n,r,e,z⟩
theorem Inv.lstUpd {pins:List (Addr × Obj)} {σ:St} {H:Hp} {s:Shared} {p:Addr} {xs ys:List V} {its its':List Value} {n n':Nat} {f:Obj->Obj} (I:Inv X pins σ H s) (h:H p=some (.lst xs))
  (ho:s.heap.get? p=some { cls:=.type "list",data:=.seq its.toArray n }) (hf:f { cls:=.type "list",data:=.seq its.toArray n }={ cls:=.type "list",data:=.seq its'.toArray n' }) (r:Vals ys its') (hz:ys.length<=sizeLine) (t:Nat) :
  Inv X pins σ (upd H p (.lst ys)) { s with heap:=s.heap.update p f,toks:=t }:=by
 have e:(s.heap.update p f).get? p=some { cls:=.type "list",data:=.seq its'.toArray n' }:=by
  rw [Heap.get?_update_self f ho (by rw [hf] <;> rfl),hf]
 refine I.write (x:=p) (e:=p) (by rw [h];trivial) (.inl rfl) (λb u hb q=>(Heap.get?_update_other _ _ (Ne.symm hb)).trans q) ⟨_,e⟩ ?_
 exact ⟨hz,its',n',r,e⟩
def Qt9:V->V->V->Hp->(Hp->Prop)->Prop:=λo i v H Q=>∃p xs k j,o=.ref p/\i=.int k/\H p=some (.lst xs)/\ixN xs.length k=some j/\Q (upd H p (.lst (xs.set j v)))
theorem Qk7:PSet X Qt9:=by
 intro pins s σ H o i v ov iv u Q I ro ri rv h
 obtain ⟨p,xs,k,j,rfl,rfl,hp,hj,q⟩:=h
 cases ro
 obtain ⟨t,rfl⟩:=ri
 obtain ⟨its,n,r,ho,hz⟩:=I.lst hp
 obtain ⟨h1,h2,h3,h4⟩:=Qfh hj
 have hl:=r.length
 have hn:=Qb5
 have I':Inv X pins σ (upd H p (.lst (xs.set j v))) { s with heap:=s.heap.update p (Obj.mapSeq (·.setIfInBounds j u)) } :=
  I.lstUpd hp ho (Qho its n j u) (r.set rv j) (by rw [List.length_set];exact hz) s.toks
 by_cases h0:0<=k
 ·have hk:k.toNat=j:=by
   rw [seqIndex_of h0 h4] at h1
   exact Option.some.inj h1
  exact PySem.W.ki_setAt ho h0 (by omega) (by rw [List.size_toArray,← hl];exact h4) (by rw [hk];exact ⟨_,I',q⟩)
 ·have hk:(k+(its.toArray.size:Int)).toNat=j:=by
   rw [seqIndex_neg (by omega) h3] at h1
   rw [List.size_toArray,← hl]
   exact Option.some.inj h1
  exact PySem.W.ki_setBack ho (by omega) (by rw [List.size_toArray,← hl];exact h3) (by omega) (by rw [hk];exact ⟨_,I',q⟩)
theorem Qdm (lo hi:Option Int) (n:Nat):(sliceBounds lo hi none n).1=((HT.sIx n 0 lo:Nat):Int)/\(sliceBounds lo hi none n).2.1=((HT.sIx n n hi:Nat):Int)/\(sliceBounds lo hi none n).2.2=1:=by
 refine ⟨?_,?_,rfl⟩
 ·cases lo with
  | none=>simp [sliceBounds,HT.sIx]
  | some i =>
   simp only [sliceBounds,HT.sIx,Option.getD_none,show (1:Int) > 0 by decide,if_true]
   by_cases h:i<0
   ·simp only [h,if_true] <;> omega
   ·simp only [h,if_false] <;> omega
 ·cases hi with
  | none=>simp [sliceBounds,HT.sIx]
  | some i =>
   simp only [sliceBounds,HT.sIx,Option.getD_none,show (1:Int) > 0 by decide,if_true]
   by_cases h:i<0
   ·simp only [h,if_true] <;> omega
   ·simp only [h,if_false] <;> omega
theorem Qch (its:List Value) (lo hi:Option Int):slicePick its.toArray lo hi none=((its.drop (HT.sIx its.length 0 lo)).take (HT.sIx its.length its.length hi-HT.sIx its.length 0 lo)).toArray:=by
 obtain ⟨h1,h2,h3⟩:=Qdm lo hi its.toArray.size
 unfold slicePick
 rw [h1,h2,h3]
 simp only [sliceRange_one,pick_run,List.size_toArray] <;> rfl
def rSlL (K:PySem.W.Frag):V->Option Int->Option Int->Hp->VK->Prop:=λx lo hi H Q=>∃a xs,x=.ref a/\SqL K H a xs/\∀p,H p=none->Q (.ref p) (upd H p (.lst (cutV xs lo hi)))
theorem Qoi:SlR X (rSlL X.K):=by
 intro pins s σ H x v vl vu lo hi sl Q I rx hs pl pu h
 obtain ⟨a,xs,rfl,hx,q⟩:=h
 cases rx
 obtain ⟨its,r,ht,hz⟩:=I.list hx
 have hlen:=r.length
 refine ⟨"list",_,slot_list_getitem.lookup,ht.isList.typeIs,?_⟩
 refine wpAny_getItem_list_slice ht.isList hs pl pu .none (by simp) ?_ (by rw [List.size_toArray] <;> omega)
 rw [Qch,← hlen]
 refine ⟨.ref s.heap.objs.size,_,I.laid (t':=s.toks) (o:=.lst (cutV xs lo hi)) (λb ob q=>Heap.get?_push_of_some _ q) (Nat.le_refl _) ?_,rfl,q _ (I.hok.fresh (Nat.le_refl _))⟩
 exact ⟨Nat.le_trans (Qa9 xs lo hi) hz,_,0,(r.drop (HT.sIx xs.length 0 lo)).take (HT.sIx xs.length xs.length hi-HT.sIx xs.length 0 lo),Heap.get?_push_size _ rfl⟩
def Qbl:V->Bool
 | .non=>true
 | .bl _=>true
 | .int _=>true
 | .str _=>true
 | _=>false
def eqV:V->V->Bool
 | .non,.non=>true
 | .bl a,.bl b=>a == b
 | .bl a,.int b=>(if a then 1 else 0) == b
 | .int a,.bl b=>a == (if b then 1 else 0)
 | .int a,.int b=>a == b
 | .str a,.str b=>a == b
 | _,_=>false
theorem Qte {A:Around} {s:Shared} {y x:V} {u v:Value} (ry:RelV y u) (rx:RelV x v) (fy:Qbl y=true) (fx:Qbl x=true):SeqAt.EqAt A s u v (eqV y x):=by
 cases y with
 | non =>
  cases ry
  cases x with
  | non=>cases rx;exact SeqAt.EqAt.same _
  | bl b=>cases rx;exact SeqAt.EqAt.none_bool b
  | int b=>obtain ⟨t,rfl⟩:=rx;exact SeqAt.EqAt.none_int b t
  | str b=>obtain ⟨t,rfl⟩:=rx;exact SeqAt.EqAt.none_str b t
  | _=>exact absurd (show false=true from fx) Bool.false_ne_true
 | bl a =>
  cases ry
  cases x with
  | non=>cases rx;exact SeqAt.EqAt.bool_none a
  | bl b=>cases rx;exact SeqAt.EqAt.bool_bool a b
  | int b=>obtain ⟨t,rfl⟩:=rx;exact SeqAt.EqAt.bool_int a b t
  | str b=>obtain ⟨t,rfl⟩:=rx;exact SeqAt.EqAt.bool_str a b t
  | _=>exact absurd (show false=true from fx) Bool.false_ne_true
 | int a =>
  obtain ⟨t',rfl⟩:=ry
  cases x with
  | non=>cases rx;exact SeqAt.EqAt.int_none a t'
  | bl b=>cases rx;exact SeqAt.EqAt.int_bool a t' b
  | int b=>obtain ⟨t,rfl⟩:=rx;exact SeqAt.EqAt.int_int a t' b t
  | str b=>obtain ⟨t,rfl⟩:=rx;exact SeqAt.EqAt.int_str a t' b t
  | _=>exact absurd (show false=true from fx) Bool.false_ne_true
 | str a =>
  obtain ⟨t',rfl⟩:=ry
  cases x with
  | non=>cases rx;exact SeqAt.EqAt.str_none a t'
  | bl b=>cases rx;exact SeqAt.EqAt.str_bool a t' b
  | int b=>obtain ⟨t,rfl⟩:=rx;exact SeqAt.EqAt.str_int a t' b t
  | str b=>obtain ⟨t,rfl⟩:=rx;exact SeqAt.EqAt.str_str a t' b t
  | _=>exact absurd (show false=true from fx) Bool.false_ne_true
 | _=>exact absurd (show false=true from fy) Bool.false_ne_true
def eqU (x:V) (u:Value):Bool:=match u with
 | .none=>eqV .non x
 | .bool b=>eqV (.bl b) x
 | .int i _=>eqV (.int i) x
 | .str z _=>eqV (.str z) x
 | _=>false
theorem Qnu {x y:V} {u:Value} (r:RelV y u) (f:Qbl y=true):eqU x u=eqV y x:=by
 cases y with
 | non=>cases r;rfl
 | bl b=>cases r;rfl
 | int i=>obtain ⟨t,rfl⟩:=r;rfl
 | str z=>obtain ⟨t,rfl⟩:=r;rfl
 | _=>exact absurd (show false=true from f) Bool.false_ne_true
theorem Qbc {x:V}:∀{xs:List V} {us:List Value},Vals xs us->xs.all Qbl=true->us.any (eqU x)=xs.any λy=>eqV y x
 | _,_,.nil,_=>rfl
 | y::xs,u::us,.cons r t,f=>by
  rw [List.all_cons,Bool.and_eq_true] at f
  rw [List.any_cons,List.any_cons,Qnu r f.1,Qbc t f.2]
theorem Gv {A:Around} {s:Shared} {x:V} {v:Value} (rx:RelV x v) (fx:Qbl x=true):∀{xs:List V} {us:List Value},Vals xs us->xs.all Qbl=true->∀u∈us,SeqAt.EqAt A s u v (eqU x u)
 | _,_,.nil,_=>λu hu=>by cases hu
 | y::xs,u::us,.cons r t,f=>λu' hu=>by
  rw [List.all_cons,Bool.and_eq_true] at f
  rcases List.mem_cons.mp hu with rfl | hu
  ·rw [Qnu r f.1];exact Qte r rx f.1 fx
  ·exact Gv rx fx t f.2 u' hu
def inV (x:V) (xs:List V):Bool:=xs.any λy=>eqV y x
def rIn (K:PySem.W.Frag) (neg:Bool):R2:=λx y H Q=>∃p xs,y=.ref p/\(SqL K H p xs\/SqT K H p xs)/\Qbl x=true/\xs.all Qbl=true/\Q (.bl (if neg then !inV x xs else inV x xs)) H
theorem Qi9:OpR X (compareOp .In) (rIn X.K false):=by
 intro pins s σ H x y v u Q I rx ry h
 obtain ⟨p,xs,rfl,hq,fx,fs,q⟩:=h
 cases ry
 rcases hq with hq | hq
 ·obtain ⟨its,r,pl,hz⟩:=I.list hq
  refine SeqAt.in_listAt (eqU x) pl.isList (λw hw=>Gv rx fx r fs w (by simpa using hw)) ⟨.bl _,H,I,rfl,?_⟩
  rw [show its.toArray.any (eqU x)=its.any (eqU x) by simp,Qbc r fs]
  exact q
 ·obtain ⟨its,r,pl,hz⟩:=I.tuple hq
  refine SeqAt.in_tupleAt (eqU x) pl (λw hw=>Gv rx fx r fs w (by simpa using hw)) ⟨.bl _,H,I,rfl,?_⟩
  rw [show its.toArray.any (eqU x)=its.any (eqU x) by simp,Qbc r fs]
  exact q
theorem Qd3:OpR X (compareOp .NotIn) (rIn X.K true):=by
 intro pins s σ H x y v u Q I rx ry h
 obtain ⟨p,xs,rfl,hq,fx,fs,q⟩:=h
 cases ry
 rcases hq with hq | hq
 ·obtain ⟨its,r,pl,hz⟩:=I.list hq
  refine SeqAt.notIn_listAt (eqU x) pl.isList (λw hw=>Gv rx fx r fs w (by simpa using hw)) ⟨.bl _,H,I,rfl,?_⟩
  rw [show its.toArray.any (eqU x)=its.any (eqU x) by simp,Qbc r fs]
  exact q
 ·obtain ⟨its,r,pl,hz⟩:=I.tuple hq
  refine SeqAt.notIn_tupleAt (eqU x) pl (λw hw=>Gv rx fx r fs w (by simpa using hw)) ⟨.bl _,H,I,rfl,?_⟩
  rw [show its.toArray.any (eqU x)=its.any (eqU x) by simp,Qbc r fs]
  exact q
theorem Qd2:OpR X (compareOp .NotIn) (λx y H Q=>∃i j,x=.str i/\y=.str j/\Q (.bl (!(!(Builtin.Str.occurrences j i 0 j.length 1).isEmpty))) H):=by
 intro pins s σ H x y v u Q I rx ry h
 obtain ⟨i,j,rfl,rfl,q⟩:=h
 obtain ⟨t,rfl⟩:=rx
 obtain ⟨t',rfl⟩:=ry
 exact notIn_str ⟨.bl _,H,I,rfl,q⟩
theorem Uo.or {f:Value} {r r':List V->Hp->VK->Prop} (h:Uo X f r) (h':Uo X f r'):Uo X f (λxs H Q=>r xs H Q\/r' xs H Q):=by
 intro pins s σ H xs us Q I rs q
 rcases q with q | q
 ·exact h pins s σ H xs us Q I rs q
 ·exact h' pins s σ H xs us Q I rs q
theorem Xt:Uo X (.type "list") (λxs H Q=>∃p ys,xs=[.ref p]/\(SqL X.K H p ys\/SqT X.K H p ys)/\∀l,H l=none->Q (.ref l) (upd H l (.lst ys))):=by
 intro pins s σ H xs us Q I r h
 obtain ⟨p,ys,rfl,hq,q⟩:=h
 obtain ⟨u,rfl,rx⟩:=Qcc r
 cases rx
 have fin:∀(its:List Value),Vals ys its->ys.length<=sizeLine->∀(h':Heap) (c':Nat),(∀b o',s.heap.get? b=some o'->h'.get? b=some o') ->
   h'.get? s.heap.objs.size=some { cls:=.type "list",dict:=none,data:=.seq its.toArray c',slots:=#[] }->EP X pins σ Q (.ref s.heap.objs.size) { s with heap:=h' }:=λits r' hz h' c' kp e =>
  ⟨.ref s.heap.objs.size,_,I.laid (t':=s.toks) kp (Nat.le_refl _) (show Yx X.prog X.w _ h' _ (.lst ys) from ⟨hz,its,c',r',e⟩),rfl,q _ (I.hok.fresh (Nat.le_refl _))⟩
 rcases hq with hq | hq
 ·obtain ⟨its,r',pl,hz⟩:=I.list hq
  have hlen:=r'.length
  obtain ⟨o,ho,hc,n,hd⟩:=pl.isList
  exact call_list_seq p (.inl rfl) ho hc hd (λh' c' kp e=>fin its r' hz h' c' kp e) (by simp only [List.size_toArray] <;> omega)
 ·obtain ⟨its,r',pl,hz⟩:=I.tuple hq
  have hlen:=r'.length
  obtain ⟨o,ho,hc,n,hd⟩:=pl
  exact call_list_seq p (.inr rfl) ho hc hd (λh' c' kp e=>fin its r' hz h' c' kp e) (by simp only [List.size_toArray] <;> omega)
theorem Qc6:Uo X (.type "tuple") (λxs H Q=>∃p ys,xs=[.ref p]/\((SqL X.K H p ys/\∀l,H l=none->Q (.ref l) (upd H l (.tup ys)))\/(SqT X.K H p ys/\Q (.ref p) H))):=by
 intro pins s σ H xs us Q I r h
 obtain ⟨p,ys,rfl,h⟩:=h
 obtain ⟨u,rfl,rx⟩:=Qcc r
 cases rx
 rcases h with ⟨hq,q⟩ | ⟨hq,q⟩
 ·obtain ⟨its,r',pl,hz⟩:=I.list hq
  have hlen:=r'.length
  refine call_tuple_list pl.isList (λh' kp=>?_) (by simp only [List.size_toArray] <;> omega)
  have I1:Inv X pins σ H { s with heap:=h' }:=I.kept (t':=s.toks) kp
  have I2:Inv X pins σ (upd H h'.objs.size (.tup ys)) { s with heap:=h'.push { cls:=.type "tuple",data:=.seq its.toArray } } :=
   I1.laid (t':=s.toks) (λb o e=>Heap.get?_push_of_some _ e) (Nat.le_refl _) (show Yx X.prog X.w _ _ _ (.tup ys) from ⟨hz,its,r',IsTup.new _ _⟩)
  exact ⟨.ref h'.objs.size,_,I2,rfl,q _ (I1.hok.fresh (Nat.le_refl _))⟩
 ·obtain ⟨its,r',pl,hz⟩:=I.tuple hq
  exact call_tuple_same pl ⟨.ref p,H,I,rfl,q⟩
def tyV (K:PySem.W.Frag) (T:String) (x:V) (H:Hp):Prop:=match x with
 | .str _=>T = "str"
 | .int _=>T = "int"
 | .ref p=>(T = "list" /\ ∃xs,SqL K H p xs)\/(T = "tuple" /\ ∃o,K.lookup p=some o/\o.cls=.type "tuple" /\ o.dict=none) \/
   (T = "dict" /\ ((∃kvs,H p=some (.dK kvs))\/∃kvs,H p=some (.dT kvs)))\/(T = "set" /\ ∃S n,H p=some (.set S n))
 | _=>False
theorem Qqj {pins:List (Addr × Obj)} {σ:St} {H:Hp} {s:Shared} {T:String} {x:V} {v:Value} (I:Inv X pins σ H s) (r:RelV x v) (ty:tyV X.K T x H) :
  s.TypeIs v T/\∀a,v=.ref a->∃ob,s.heap.get? a=some ob/\ob.dict=none:=by
 cases x with
 | str z =>
  obtain ⟨t,rfl⟩:=r
  cases (show T = "str" from ty)
  exact ⟨typeIs_str s z t,λ_ e=>nomatch e⟩
 | int i =>
  obtain ⟨t,rfl⟩:=r
  cases (show T = "int" from ty)
  exact ⟨typeIs_int s i t,λ_ e=>nomatch e⟩
 | ref p =>
  cases r
  rcases ty with ⟨rfl,xs,hq⟩ | ⟨rfl,o,hk,hc,hd⟩ | ⟨rfl,hk⟩ | ⟨rfl,S,n,hk⟩
  ·obtain ⟨its,_,pl,_⟩:=I.list hq
   refine ⟨pl.isList.typeIs,λa e=>?_⟩
   cases e
   obtain ⟨o,n,e,c,hd,_⟩:=pl
   exact ⟨o,e,hd⟩
  ·refine ⟨⟨o,I.kIn p o hk,hc⟩,λa e=>?_⟩
   cases e
   exact ⟨o,I.kIn _ o hk,hd⟩
  ·have z:∃o,s.heap.get? p=some o/\o.ExactDict:=by
    rcases hk with ⟨kvs,hk⟩ | ⟨kvs,hk⟩
    ·obtain ⟨_,_,_,_,o,_,_,e,ex,_⟩:=I.hok p _ hk
     exact ⟨o,e,ex⟩
    ·obtain ⟨_,_,_,_,o,_,_,e,ex,_⟩:=I.hok p _ hk
     exact ⟨o,e,ex⟩
   obtain ⟨o,e,ex⟩:=z
   refine ⟨⟨o,e,ex.1⟩,λa e2=>?_⟩
   cases e2
   exact ⟨o,e,ex.2.1⟩
  ·obtain ⟨o,_,_,_,e,ex,_⟩:=I.hok p _ hk
   refine ⟨⟨o,e,ex.1⟩,λa e2=>?_⟩
   cases e2
   exact ⟨o,e,ex.2.1⟩
 | _=>exact False.elim ty
def tBM (K:PySem.W.Frag) (T:String) (r:V->List V->Hp->VK->Prop) (to:TE) (t:TA):TE:=λσ H Q=>to σ H λx H1=>tyV K T x H1/\t σ H1 λxs H2=>r x xs H2 Q
variable {o e:Expr} {es:List Expr} {to:TE} {t:TA} {name:Str} {apos cpos:Pos} {T id:String} {r:V->List V->Hp->VK->Prop}
theorem Qlt (pa:PlainAttrs T) (slot:Slot T name id) (hty:typeOf (.builtin id)=pure (.type "method_descriptor")) (hm:MtR X id r) (ho:PE X o to) (ha:PA X (e::es) t)
  (hbase:attributeBase o name X.env (eval o X.env)=eval o X.env:=by rfl)
  (hfew:((backTo cpos (starEach (e::es) X.env)).all (λx=>!x.1) && (backToKw cpos (keywordEach [] X.env)).all (λx=>x.1.isSome)
   && decide ((e::es).length+([]:List Keyword).length+(if ([]:List Keyword).isEmpty then 0 else 1)<30))=true:=by rfl)
  (hline:(apos.endLine == cpos.line)=true:=by rfl) (hs:starEach (e::es) X.env=(false,eval e X.env)::starEach es X.env:=by rfl) (hplain:(backTo cpos (starEach es X.env)).any (·.1)=false:=by rfl) :
  PE X (.Call (.Attribute o name apos) (e::es) [] cpos) (tBM X.K T r to t):=by
 intro pins s σ H Q I h
 refine wpAny_Call_method_late hbase hfew hline rfl (thn (ho pins s σ H _ I h) λv s1 ⟨x,H1,I1,r1,ty,q1⟩=>?_)
 obtain ⟨h1,h2⟩:=Qqj I1 r1 ty
 refine ⟨T,id,pa,slot,hty,h1,h2,?_⟩
 have hA:=ha cpos pins s1 σ H1 _ I1 q1
 rw [hs] at hA ⊢
 refine Calls.callWith_builtin (by show (false || (backTo cpos (starEach es X.env)).any (·.1))=false;rw [hplain] <;> rfl) (Calls.evalArgs_plain ?_)
 exact thn hA λus s2 ⟨vs,H2,I2,r2,q2⟩=>hm pins s2 σ H2 x vs v us Q I2 r1 r2 q2
end
end L2
namespace L2
open PySem PySem.Spec PyProof.Rows
def MtM (X:Cx) (id:String) (r:V->List V->Hp->VK->Prop):Prop :=
 ∀(pins:List (Addr × Obj)) (s:Shared) (σ:St) (H:Hp) (x:V) (xs:List V) (v:Value) (us:List Value) (Q:VK),Inv X pins σ H s->RelV x v->Vals xs us->r x xs H Q ->
  wpAny (model X.prog X.w) X.A (call (.builtin id) (v::us)) (EP X pins σ Q) X.xe s
theorem Vals.one:∀{x:V} {us:List Value},Vals [x] us->∃u,us=[u]/\RelV x u
 | _,_,.cons r .nil=>⟨_,rfl,r⟩
theorem Vals.eraseIdx:∀{xs:List V} {us:List Value} (i:Nat),Vals xs us->Vals (xs.eraseIdx i) (us.eraseIdx i)
 | _,_,_,.nil=>.nil
 | _,_,0,.cons _ t=>t
 | _,_,i+1,.cons r t=>.cons r (Vals.eraseIdx i t)
theorem Vals.rep {xs:List V} {us:List Value} (h:Vals xs us):∀k:Nat,Vals (List.replicate k xs).flatten (List.replicate k us).flatten
 | 0=>.nil
 | k+1=>by
  rw [List.replicate_succ,List.replicate_succ,List.flatten_cons,List.flatten_cons]
  exact Vals.append h (Vals.rep h k)
theorem Qea {α:Type}:∀(l:List α) (i:Nat),(l.eraseIdx i).length<=l.length
 | [],_=>Nat.le_refl _
 | _::_,0=>Nat.le_succ _
 | _::r,i+1=>Nat.succ_le_succ (Qea r i)
theorem Qef (its:List Value):∀(k:Nat) (acc:List Value),
  List.foldl (λx1 x2=>x1++x2) acc.toArray (List.replicate k its.toArray)=(acc++(List.replicate k its).flatten).toArray
 | 0,acc=>by simp
 | k+1,acc=>by
  have e:acc.toArray++its.toArray=(acc++its).toArray:=by simp
  have e2:(acc++its)++(List.replicate k its).flatten=acc++(List.replicate (k+1) its).flatten:=by
   rw [List.replicate_succ,List.flatten_cons,List.append_assoc]
  rw [← e2,← Qef its k (acc++its),← e,List.replicate_succ,List.foldl_cons]
section
variable {X:Cx} {pins:List (Addr × Obj)} {σ:St} {H:Hp} {s:Shared} {l b:Addr} {xs ys zs:List V}
theorem Inv.lset {its its':List Value} {n:Nat} {f:Array Value->Array Value} {t':Nat} (I:Inv X pins σ H s) (hH:H l=some (.lst xs))
  (e:s.heap.get? l=some { cls:=.type "list",data:=.seq its.toArray n }) (hf:f its.toArray=its'.toArray) (hv:Vals ys its') (hz:ys.length<=sizeLine) :
  Inv X pins σ (upd H l (.lst ys)) { s with heap:=s.heap.update l (Obj.mapSeq f),toks:=t' }:=by
 have q:=PySem.IsL.update e f
 rw [hf] at q
 refine I.write (x:=l) (e:=l) (by rw [hH];exact trivial) (.inl rfl) (λb' u hb hu=>(Heap.get?_update_other s.heap (Obj.mapSeq f) (Ne.symm hb)).trans hu) ⟨_,q⟩ ?_
 exact ⟨hz,its',_,hv,q⟩
theorem Inv.lnew {its:List Value} {t':Nat} (I:Inv X pins σ H s) (hv:Vals ys its) (hz:ys.length<=sizeLine) :
  Inv X pins σ (upd H s.heap.objs.size (.lst ys)) { s with heap:=s.heap.push { cls:=.type "list",data:=.seq its.toArray },toks:=t' } :=
 I.laid (λ_ _ q=>Heap.get?_push_of_some _ q) (Nat.le_refl _) ⟨hz,its,0,hv,Heap.get?_push_size _ rfl⟩
theorem Inv.fresh (I:Inv X pins σ H s):H s.heap.objs.size=none:=I.hok.fresh (Nat.le_refl _)
theorem Inv.lstM (I:Inv X pins σ H s) (hH:H l=some (.lst xs)):xs.length<=sizeLine/\∃(its:List Value) (n:Nat),Vals xs its/\xs.length=its.length/\s.heap.get? l=some { cls:=.type "list",data:=.seq its.toArray n }:=by
 obtain ⟨z,its,n,r,e⟩:=I.hok l _ hH
 exact ⟨z,its,n,r,r.length,e⟩
theorem Qgg {n:Nat} (h:n<=sizeLine):Builtin.List.listTooLong n=false:=by
 unfold Builtin.List.listTooLong
 exact decide_eq_false (by omega)
end
section
variable {X:Cx}
def Qoo:V->List V->Hp->VK->Prop:=λx vs H Q=>∃l xs y,x=.ref l/\vs=[y]/\H l=some (.lst xs)/\xs.length<sizeLine/\Q .non (upd H l (.lst (xs++[y])))
theorem Qaw:MtM X "list.append" Qoo:=by
 intro pins s σ H x vs v us Q I rx rv h
 obtain ⟨l,xs,y,rfl,rfl,hH,hz,q⟩:=h
 cases rx
 obtain ⟨u,rfl,ru⟩:=rv.one
 obtain ⟨z,its,n,r,hl,e⟩:=I.lstM hH
 refine call_meets F.slot_list_append ⟨_,e,rfl⟩ F.entry_list_append (F.args_list_append_2 _ _) (PySem.list_append l its.toArray n u (by rw [List.size_toArray];omega)) ⟨e,?_⟩
 refine ⟨.non,_,I.lset (its':=its++[u]) hH e (by simp) (r.append (.cons ru .nil)) ?_,rfl,q⟩
 rw [List.length_append,List.length_singleton]
 omega
def Qon:V->List V->Hp->VK->Prop:=λx vs H Q=>∃l b xs zs,x=.ref l/\vs=[.ref b]/\H l=some (.lst xs)/\H b=some (.lst zs)/\xs.length+zs.length<=sizeLine/\Q .non (upd H l (.lst (xs++zs)))
theorem Qse:MtM X "list.extend" Qon:=by
 intro pins s σ H x vs v us Q I rx rv h
 obtain ⟨l,b,xs,zs,rfl,rfl,hH,hB,hz,q⟩:=h
 cases rx
 obtain ⟨u,rfl,ru⟩:=rv.one
 cases ru
 obtain ⟨z,its,n,r,hl,e⟩:=I.lstM hH
 obtain ⟨z2,its2,n2,r2,hl2,e2⟩:=I.lstM hB
 have hsz:its.toArray.size+its2.toArray.size<=sizeLine:=by rw [List.size_toArray,List.size_toArray];omega
 have hlong:¬(!its.toArray.isEmpty && Builtin.List.listTooLong (its.toArray.size+its2.toArray.size))=true:=by
  rw [Qgg hsz,Bool.and_false]
  exact Bool.false_ne_true
 refine call_meets F.slot_list_extend ⟨_,e,rfl⟩ F.entry_list_extend (F.args_list_extend_2 _ _)
  (AutoSeq1.list_extend_list_list_0 l its.toArray n b its2.toArray n2 hlong (by rw [List.size_toArray];omega) (by omega)) ⟨e,e2,?_⟩
 refine ⟨.non,_,I.lset (its':=its++its2) hH e (by simp) (r.append r2) ?_,rfl,q⟩
 rw [List.length_append]
 omega
def Qq8:V->List V->Hp->VK->Prop:=λx vs H Q=>∃l xs i k y,x=.ref l/\vs=[.int i]/\H l=some (.lst xs) /\ -(2 ^ 63)<=i/\i<2 ^ 63/\seqIndex? i xs.length=some k/\xs[k]? = some y/\Q y (upd H l (.lst (xs.eraseIdx k)))
theorem Ql2:MtM X "list.pop" Qq8:=by
 intro pins s σ H x vs v us Q I rx rv h
 obtain ⟨l,xs,i,k,y,rfl,rfl,hH,h1,h2,hk,hy,q⟩:=h
 cases rx
 obtain ⟨u,rfl,ru⟩:=rv.one
 obtain ⟨t,rfl⟩:=ru
 obtain ⟨z,its,n,r,hl,e⟩:=I.lstM hH
 obtain ⟨w,hw,rw'⟩:=r.get hy
 refine call_meets F.slot_list_pop ⟨_,e,rfl⟩ F.entry_list_pop (F.args_list_pop_2 _ _)
  (MeetsSeq.list_pop_at l its.toArray n i t k w (fitsIndex_both h1 h2) (by rw [List.size_toArray,← hl];exact hk) (by rw [← Array.getElem?_toList];exact hw) (by rw [List.size_toArray];omega)) ⟨e,?_⟩
 refine ⟨y,_,I.lset (its':=its.eraseIdx k) hH e ?_ (r.eraseIdx k) ?_,rw',q⟩
 ·show its.toArray.eraseIdxIfInBounds k=(its.eraseIdx k).toArray
  rw [List.eraseIdxIfInBounds_toArray]
 ·have:=Qea xs k
  omega
def rCat:R2:=λx y H Q=>∃l b xs zs,x=.ref l/\y=.ref b/\H l=some (.lst xs)/\H b=some (.lst zs)/\xs.length+zs.length<=sizeLine/\∀p,H p=none->Q (.ref p) (upd H p (.lst (xs++zs)))
theorem Qr0:OpR X (binaryOp .Add) rCat:=by
 intro pins s σ H x y v u Q I rx ry h
 obtain ⟨l,b,xs,zs,rfl,rfl,hH,hB,hz,q⟩:=h
 cases rx
 cases ry
 obtain ⟨z,its,n,r,hl,e⟩:=I.lstM hH
 obtain ⟨z2,its2,n2,r2,hl2,e2⟩:=I.lstM hB
 refine PySem.P.add_list e e2 ?_ (by rw [List.size_toArray,List.size_toArray];omega)
 have ea:its.toArray++its2.toArray=(its++its2).toArray:=by simp
 rw [ea]
 exact ⟨.ref _,_,I.lnew (t':=s.toks) (r.append r2) (by rw [List.length_append];omega),rfl,q _ I.fresh⟩
def rRep:R2:=λx y H Q=>∃l k xs,x=.ref l/\y=.int k/\H l=some (.lst xs) /\ -(2 ^ 63)<=k/\k<2 ^ 63/\xs.length*k.toNat<=sizeLine /\
 ∀p,H p=none->Q (.ref p) (upd H p (.lst (List.replicate k.toNat xs).flatten))
theorem Qpl {α:Type} (xs:List α) (k:Nat):(List.replicate k xs).flatten.length=k*xs.length:=by
 induction k with
 | zero=>simp
 | succ k ih=>rw [List.replicate_succ,List.flatten_cons,List.length_append,ih,Nat.succ_mul,Nat.add_comm]
theorem Qrt:OpR X (binaryOp .Mult) rRep:=by
 intro pins s σ H x y v u Q I rx ry h
 obtain ⟨l,k,xs,rfl,rfl,hH,h1,h2,hz,q⟩:=h
 cases rx
 obtain ⟨t,rfl⟩:=ry
 obtain ⟨z,its,n,r,hl,e⟩:=I.lstM hH
 have hlen:its.toArray.size*k.toNat<=sizeLine:=by rw [List.size_toArray,← hl];exact hz
 have hcap:¬its.toArray.size*k.toNat > (2 ^ 63-1) / 8:=by
  have:(sizeLine:Nat)<=(2 ^ 63-1) / 8:=by decide
  omega
 have hfit:¬(!Builtin.List.listFitsIndex k)=true:=by
  rw [fitsIndex_both h1 h2]
  exact Bool.false_ne_true
 have hlong:¬Builtin.List.listTooLong (its.toArray.size*k.toNat)=true:=by
  rw [Qgg hlen]
  exact Bool.false_ne_true
 have hnew:List.foldl (λx1 x2=>x1++x2) #[] (List.replicate (if its.toArray.isEmpty=true then 0 else k.toNat) its.toArray)=(List.replicate k.toNat its).flatten.toArray:=by
  have f0:∀m:Nat,List.foldl (λx1 x2=>x1++x2) #[] (List.replicate m its.toArray)=(List.replicate m its).flatten.toArray:=λm=>by
   have:=Qef its m []
   rw [List.nil_append] at this
   exact this
  rw [f0]
  cases its with
  | nil=>simp
  | cons a r'=>rw [if_neg (by simp)]
 refine wpAny_binaryOp_repeat_ref (T:="list") (U:="int") (by decide) ⟨_,e,rfl⟩ (λs'=>typeIs_int s' k t) noFill_list_mul F.fills_int_mul F.slot_int_rmul repeat_list F.slot_int_index.lookup
  (call_meets F.slot_int_rmul (typeIs_int s k t) F.entry_int_rmul (F.args_int_rmul_2 _ _) (int___rmul___int_list k t l its.toArray n)
   ⟨e,rfl,⟨_,e,rfl⟩,call_meets F.slot_list_mul ⟨_,e,rfl⟩ F.entry_list_mul (F.args_list_mul_2 _ _) (AutoListH.list___mul___list_int_3 l its.toArray n k t hfit hcap hlong) ⟨e,?_⟩⟩)
 rw [hnew]
 exact ⟨.ref _,_,I.lnew (t':=s.toks) (r.rep k.toNat) (by rw [Qpl,Nat.mul_comm];exact hz),rfl,q _ I.fresh⟩
end
section
variable {prog:Program} {w:World} {A:Around} {E:Value->Shared->Prop} {s:Shared}
end
section
variable {X:Cx}
end
end L2
namespace L2
open PySem PySem.Spec PyProof.Rows
section
variable {κ:Type} [DecidableEq κ]
def valV (kvs:List (κ × V)) (k:κ):Option V:=(kvs.find? λkv=>decide (kv.1=k)).map (·.2)
def putK (kvs:List (κ × V)) (k:κ) (v:V):List (κ × V) :=
 if (kvs.any λkv=>decide (kv.1=k))=true then kvs.map (λkv=>if kv.1=k then (kv.1,v) else kv) else kvs++[(k,v)]
theorem Ga {p:κ × V} {r:List (κ × V)} {k:κ} (e:p.1=k):valV (p::r) k=some p.2:=by simp [valV,List.find?_cons,e]
theorem Gb {p:κ × V} {r:List (κ × V)} {k:κ} (e:¬p.1=k):valV (p::r) k=valV r k:=by simp [valV,List.find?_cons,e]
theorem Qfz (k:κ):∀kvs:List (κ × V),(kvs.any λkv=>decide (kv.1=k))=(valV kvs k).isSome
 | []=>rfl
 | p::r=>by
  rw [List.any_cons]
  by_cases e:p.1=k
  ·simp only [Ga e,decide_eq_true e,Bool.true_or,Option.isSome_some]
  ·rw [Gb e,decide_eq_false e,Bool.false_or];exact Qfz k r
theorem Qax (kvs:List (κ × V)) (k:κ) (v:V):(putK kvs k v).length<=kvs.length+1:=by
 unfold putK
 split
 ·rw [List.length_map];omega
 ·rw [List.length_append,List.length_cons,List.length_nil];omega
theorem RelO.isSome_eq {o:Option V} {u:Option Value} (r:RelO o u):o.isSome=u.isSome:=by
 cases o with
 | none=>cases u with
  | none=>rfl
  | some _=>exact (show False from r).elim
 | some _=>cases u with
  | none=>exact (show False from r).elim
  | some _=>rfl
theorem RelO.getD {o:Option V} {u:Option Value} {d:V} {d':Value} (r:RelO o u) (rd:RelV d d'):RelV (o.getD d) (u.getD d'):=by
 cases o with
 | none=>cases u with
  | none=>exact rd
  | some _=>exact (show False from r).elim
 | some _=>cases u with
  | none=>exact (show False from r).elim
  | some _=>exact r
theorem KV.val {kvs:List (κ × V)} {vs:List (κ × Value)} (r:KV kvs vs) (k:κ):RelO (valV kvs k) (valueAt vs k):=by
 unfold KV at r
 induction r with
 | nil=>exact True.intro
 | @cons p q ps qs h t ih =>
  obtain ⟨h1,h2⟩:=h
  by_cases e:p.1=k
  ·have e':q.1=k:=h1.symm.trans e
   have b:valueAt (q::qs) k=some q.2:=by simp [valueAt,List.find?_cons,e']
   rw [Ga e,b];exact h2
  ·have e':¬q.1=k:=λz=>e (h1.trans z)
   have b:valueAt (q::qs) k=valueAt qs k:=by simp [valueAt,List.find?_cons,e']
   rw [Gb e,b];exact ih
theorem KV.any {kvs:List (κ × V)} {vs:List (κ × Value)} (r:KV kvs vs) (k:κ):(kvs.any λkv=>decide (kv.1=k))=vs.any λkv=>decide (kv.1=k):=by
 unfold KV at r
 induction r with
 | nil=>rfl
 | cons h t ih=>rw [List.any_cons,List.any_cons,ih,h.1]
theorem KV.repl {kvs:List (κ × V)} {vs:List (κ × Value)} (r:KV kvs vs) (k:κ) {y:V} {u:Value} (ry:RelV y u) :
  KV (kvs.map λkv=>if kv.1=k then (kv.1,y) else kv) (vs.map λkv=>if kv.1=k then (kv.1,u) else kv):=by
 unfold KV at r ⊢
 induction r with
 | nil=>exact .nil
 | @cons p q ps qs h t ih =>
  rw [List.map_cons,List.map_cons]
  refine .cons ?_ ih
  obtain ⟨h1,h2⟩:=h
  by_cases e:p.1=k
  ·rw [if_pos e,if_pos (h1.symm.trans e)];exact ⟨h1,ry⟩
  ·rw [if_neg e,if_neg (λz=>e (h1.trans z))];exact ⟨h1,h2⟩
theorem KV.put {kvs:List (κ × V)} {vs:List (κ × Value)} (r:KV kvs vs) (k:κ) {y:V} {u:Value} (ry:RelV y u):KV (putK kvs k y) (stored vs k u):=by
 unfold putK stored
 rw [r.any k]
 by_cases e:(vs.any λkv=>decide (kv.1=k))=true
 ·rw [if_pos e,if_pos e];exact r.repl k ry
 ·rw [if_neg e,if_neg e];exact Paired.snoc r ⟨rfl,ry⟩
theorem KV.length {kvs:List (κ × V)} {vs:List (κ × Value)} (r:KV kvs vs):kvs.length=vs.length:=Paired.length r
end
theorem Qhs {P:Program} {w:World} {k:Key} {u:Value} (r:RelV (kV k) u):(J8 P w).is k u=true:=by
 cases k with
 | inl i=>obtain ⟨t,e⟩:=(show ∃t,u=Value.int i t from r);subst e;exact Qfe P w i t
 | inr x=>obtain ⟨t,e⟩:=(show ∃t,u=Value.str x t from r);subst e;exact Qfd P w x t
theorem Qeb {P:Program} {w:World}:∀{ks:List Key} {us:List Value},Vals (ks.map kV) us->ItemsAre (J8 P w) ks us
 | [],_,r=>by rw [List.map_nil] at r;cases r;exact .nil
 | k::ks,_,r=>by
  rw [List.map_cons] at r
  cases r with
  | cons h t=>exact .cons (Qhs h) (Qeb t)
abbrev KT (H:Hp):List (List Key × V)->List (List Key × Addr × Value)->Prop:=Paired λp q=>p.1=q.1/\H q.2.1=some (.tup (p.1.map kV))/\RelV p.2 q.2.2
theorem KT.val {H:Hp} {kvs:List (List Key × V)} {xs:List (List Key × Addr × Value)} (r:KT H kvs xs) (k:List Key):RelO (valV kvs k) ((atKey xs k).map (·.2)):=by
 induction r with
 | nil=>exact True.intro
 | @cons p q ps qs h t ih =>
  obtain ⟨h1,_,h2⟩:=h
  by_cases e:p.1=k
  ·have e':q.1=k:=h1.symm.trans e
   have b:atKey (q::qs) k=some q.2:=by simp [atKey,List.find?_cons,e']
   rw [Ga e,b];exact h2
  ·have e':¬q.1=k:=λz=>e (h1.trans z)
   have b:atKey (q::qs) k=atKey qs k:=by simp [atKey,List.find?_cons,e']
   rw [Gb e,b];exact ih
theorem KT.repl {H:Hp} {kvs:List (List Key × V)} {xs:List (List Key × Addr × Value)} (r:KT H kvs xs) (k:List Key) {y:V} {u:Value} (ry:RelV y u) :
  KT H (kvs.map λkv=>if kv.1=k then (kv.1,y) else kv) (xs.map (putAt k u)):=by
 induction r with
 | nil=>exact .nil
 | @cons p q ps qs h t ih =>
  rw [List.map_cons,List.map_cons]
  refine .cons ?_ ih
  obtain ⟨h1,h2,h3⟩:=h
  unfold putAt
  by_cases e:p.1=k
  ·rw [if_pos e,if_pos (h1.symm.trans e)];exact ⟨h1,h2,ry⟩
  ·rw [if_neg e,if_neg (λz=>e (h1.trans z))];exact ⟨h1,h2,h3⟩
theorem KT.put {H:Hp} {kvs:List (List Key × V)} {xs:List (List Key × Addr × Value)} (r:KT H kvs xs) (k:List Key) {b:Addr} {y:V} {u:Value} (hb:H b=some (.tup (k.map kV))) (ry:RelV y u) :
  KT H (putK kvs k y) (storedH xs k b u):=by
 have e:(kvs.any λkv=>decide (kv.1=k))=(atKey xs k).isSome:=by
  rw [Qfz,(r.val k).isSome_eq,Option.isSome_map]
 unfold putK storedH
 rw [e]
 by_cases q:(atKey xs k).isSome=true
 ·rw [if_pos q,if_pos q];exact r.repl k ry
 ·rw [if_neg q,if_neg q];exact Paired.snoc r ⟨rfl,hb,ry⟩
theorem KT.keeps {H H':Hp} {kvs:List (List Key × V)} {xs:List (List Key × Addr × Value)} (r:KT H kvs xs) (ht:∀b ys,H b=some (.tup ys)->H' b=some (.tup ys)):KT H' kvs xs :=
 Paired.mapP r λ_ _ z=>⟨z.1,ht _ _ z.2.1,z.2.2⟩
section
variable {P:Program} {w:World} {H:Hp} {h:Heap} {a:Addr}
theorem Qqx {u:HO} (ok:HOk P w H h) (e:Rd H a u):Yx P w H h a u:=e.ok ok
theorem Qc2 {kvs:List (Key × V)} (ok:HOk P w H h) (e:Rd H a (.dK kvs)):kvs.length<=sizeLine/\(a == sysModules)=false/\∃vs,KV kvs vs/\h.DictOf (J8 P w) a vs :=
 show Yx P w H h a (.dK kvs) from Qqx ok e
theorem Qu5 {kvs:List (Key × V)} (ok:HOk P w H h) (e:H a=some (.dK kvs)):kvs.length<=sizeLine/\(a == sysModules)=false/\∃vs,KV kvs vs/\h.DictOf (J8 P w) a vs:=Qc2 ok (.inl e)
theorem Qb6 {ks:List Key} (ok:HOk P w H h) (e:H a=some (.tup (ks.map kV))):(tupleKind (J8 P w)).is h ks a:=by
 obtain ⟨_,its,r,o,h1,h2,n,h3⟩:=(show Yx P w H h a (.tup (ks.map kV)) from ok a _ e)
 exact ⟨o,its.toArray,n,h1,h2,h3,by simpa using Qeb r⟩
theorem Qfk {kvs:List (List Key × V)} (ok:HOk P w H h) (e:Rd H a (.dT kvs)):kvs.length<=sizeLine/\(a == sysModules)=false /\
  ∃xs,KT H kvs xs/\h.DictOfH (tupleKind (J8 P w)) a xs:=by
 obtain ⟨z,y,xs,r,o,es,ep,h1,h2,h3,h4,h5⟩:=(show Yx P w H h a (.dT kvs) from Qqx ok e)
 refine ⟨z,y,xs,r,o,es,ep,h1,h2,h3,h4,λx hx=>?_,h5⟩
 have all:∀{l:List (List Key × V)} {m:List (List Key × Addr × Value)},KT H l m->∀x∈m,(tupleKind (J8 P w)).is h x.1 x.2.1:=by
  intro l m q
  induction q with
  | nil=>intro x hx;exact nomatch hx
  | @cons p q ps qs hq t ih =>
   intro x hx
   rcases List.mem_cons.mp hx with e | hx
   ·subst e
    exact Qb6 ok (by rw [← hq.1];exact hq.2.1)
   ·exact ih x hx
 exact all r x hx
theorem Qu4 {kvs:List (List Key × V)} (ok:HOk P w H h) (e:H a=some (.dT kvs)):kvs.length<=sizeLine/\(a == sysModules)=false /\
  ∃xs,KT H kvs xs/\h.DictOfH (tupleKind (J8 P w)) a xs:=Qfk ok (.inl e)
end
def DGet (H:Hp) (a:Addr) (y:V) (r:Option V):Prop :=
 (∃kvs k,Rd H a (.dK kvs)/\y=kV k/\r=valV kvs k)\/∃kvs k b,Rd H a (.dT kvs)/\y=.ref b/\H b=some (.tup (k.map kV))/\r=valV kvs k
def DPut (H:Hp) (a:Addr) (y v:V) (H':Hp):Prop :=
 (∃kvs k,H a=some (.dK kvs)/\y=kV k/\kvs.length<sizeLine/\H'=upd H a (.dK (putK kvs k v))) \/
 ∃kvs k b,H a=some (.dT kvs)/\y=.ref b/\H b=some (.tup (k.map kV))/\kvs.length<sizeLine/\H'=upd H a (.dT (putK kvs k v))
theorem DGet.k {H:Hp} {a:Addr} {kvs:List (Key × V)} {k:Key} (e:H a=some (.dK kvs)):DGet H a (kV k) (valV kvs k):=.inl ⟨kvs,k,.inl e,rfl,rfl⟩
theorem DGet.t {H:Hp} {a b:Addr} {kvs:List (List Key × V)} {k:List Key} (e:H a=some (.dT kvs)) (eb:H b=some (.tup (k.map kV))):DGet H a (.ref b) (valV kvs k):=.inr ⟨kvs,k,b,.inl e,rfl,eb,rfl⟩
theorem DPut.k {H:Hp} {a:Addr} {kvs:List (Key × V)} {k:Key} {v:V} (e:H a=some (.dK kvs)) (hl:kvs.length<sizeLine):DPut H a (kV k) v (upd H a (.dK (putK kvs k v))):=.inl ⟨kvs,k,e,rfl,hl,rfl⟩
theorem DPut.t {H:Hp} {a b:Addr} {kvs:List (List Key × V)} {k:List Key} {v:V} (e:H a=some (.dT kvs)) (eb:H b=some (.tup (k.map kV))) (hl:kvs.length<sizeLine) :
  DPut H a (.ref b) v (upd H a (.dT (putK kvs k v))):=.inr ⟨kvs,k,b,e,rfl,eb,hl,rfl⟩
section
variable {X:Cx} {pins:List (Addr × Obj)} {σ:St} {H:Hp} {s:Shared} {a:Addr} {y v:V} {u r:Value} {o:Option V} {A:Around} {E:Value->Shared->Prop}
theorem Inv.big (I:Inv X pins σ H s):sysModules<s.heap.objs.size:=by
 have h:mainGlobals<s.heap.objs.size:=(I.mod.glob.keeps I.bk).lt
 exact Nat.lt_trans (by decide) h
theorem Qkf {Q:Value->Shared->Prop} (hu:A.units+1<cLine) (I:Inv X pins σ H s) (g:DGet H a y (some v)) (ry:RelV y u) (h:∀w' s',Inv X pins σ H s'->RelV v w'->Q w' s') :
  wpAny (model X.prog X.w) A (getItem (.ref a) u) Q E s:=by
 rcases g with ⟨kvs,k,e,ey,l⟩ | ⟨kvs,k,b,e,ey,eb,l⟩
 ·subst ey
  obtain ⟨z,hd,vs,rel,dd⟩:=Qc2 I.hok e
  obtain ⟨w',hw,rw'⟩:=RelO.some_of (v:=v) (o:=valueAt vs k) (by rw [l];exact rel.val k)
  exact wpAny_getItem_of (Qhs ry) dd.mapOf hw (h w' _ (I.tok _) rw')
 ·subst ey
  cases (show u=Value.ref b from ry)
  obtain ⟨z,hd,xs,rel,dd⟩:=Qfk I.hok e
  obtain ⟨w',hw,rw'⟩:=RelO.some_of (v:=v) (o:=(atKey xs k).map (·.2)) (by rw [l];exact rel.val k)
  obtain ⟨p,hp,hp2⟩:=Option.map_eq_some_iff.mp hw
  refine wpAny_getItem_heap (tupleKind_room_in1 hu) (Qb6 I.hok eb) dd hp ?_
  rw [hp2]
  exact h w' _ (I.tok _) rw'
theorem d_in {Q:Value->Shared->Prop} (hu:A.units+1<cLine) (I:Inv X pins σ H s) (g:DGet H a y o) (ry:RelV y u) (h:∀s',Inv X pins σ H s'->Q (.bool o.isSome) s') :
  wpAny (model X.prog X.w) A (compareOp .In u (.ref a)) Q E s:=by
 rcases g with ⟨kvs,k,e,ey,l⟩ | ⟨kvs,k,b,e,ey,eb,l⟩
 ·subst ey
  obtain ⟨z,hd,vs,rel,dd⟩:=Qc2 I.hok e
  refine wpAny_in_of (Qhs ry) hd dd.mapOf ?_
  rw [← (rel.val k).isSome_eq,← l]
  exact h _ (I.tok _)
 ·subst ey
  cases (show u=Value.ref b from ry)
  obtain ⟨z,hd,xs,rel,dd⟩:=Qfk I.hok e
  refine wpAny_in_heap (tupleKind_room_in1 hu) (Qb6 I.hok eb) hd dd ?_
  have q:=(rel.val k).isSome_eq
  rw [Option.isSome_map] at q
  rw [← q,← l]
  exact h _ (I.tok _)
theorem Qp2 {Q:Value->Shared->Prop} (hu:A.units+1<cLine) (I:Inv X pins σ H s) (g:DGet H a y o) (ry:RelV y u) (h:∀s',Inv X pins σ H s'->Q (.bool (!o.isSome)) s') :
  wpAny (model X.prog X.w) A (compareOp .NotIn u (.ref a)) Q E s:=by
 rcases g with ⟨kvs,k,e,ey,l⟩ | ⟨kvs,k,b,e,ey,eb,l⟩
 ·subst ey
  obtain ⟨z,hd,vs,rel,dd⟩:=Qc2 I.hok e
  refine wpAny_notIn_of (Qhs ry) hd dd.mapOf ?_
  rw [← (rel.val k).isSome_eq,← l]
  exact h _ (I.tok _)
 ·subst ey
  cases (show u=Value.ref b from ry)
  obtain ⟨z,hd,xs,rel,dd⟩:=Qfk I.hok e
  refine wpAny_notIn_heap (tupleKind_room_in1 hu) (Qb6 I.hok eb) hd dd ?_
  have q:=(rel.val k).isSome_eq
  rw [Option.isSome_map] at q
  rw [← q,← l]
  exact h _ (I.tok _)
theorem Qkd {h':Heap} {t':Nat} {ob:HO} (I:Inv X pins σ H s) (mu:Mut (H a)) (hs:Heap.SameBut a s.heap h') (he:∃q,h'.get? a=some q) (new:Yx X.prog X.w (upd H a ob) h' a ob) :
  Inv X pins σ (upd H a ob) { s with heap:=h',toks:=t' } :=
 I.write (x:=a) (e:=a) mu (.inl rfl) (λb q hb z=>(hs.2 b hb).trans z) he new
theorem Qtg {P:Program} {w:World} {H':Hp} {h':Heap} {kvs:List (Key × V)} {vs:List (Key × Value)} (z:kvs.length<=sizeLine) (hd:(a == sysModules)=false) (rel:KV kvs vs) (dd:h'.DictOf (J8 P w) a vs) :
  Yx P w H' h' a (.dK kvs):=⟨z,hd,vs,rel,dd⟩
theorem Qke {H':Hp} {Q:Unit->Shared->Prop} (hu:A.units+1<cLine) (I:Inv X pins σ H s) (g:DPut H a y v H') (ry:RelV y u) (rv:RelV v r) (h:∀s',Inv X pins σ H' s'->Q () s') :
  wpAny (model X.prog X.w) A (setItem (.ref a) u r) Q E s:=by
 rcases g with ⟨kvs,k,e,ey,l,eH⟩ | ⟨kvs,k,b,e,ey,eb,l,eH⟩
 ·subst ey eH
  obtain ⟨z,hd,vs,rel,dd⟩:=Qu5 I.hok e
  have hz:vs.length<=sizeLine:=by rw [← rel.length];exact z
  have hl:(putK kvs k v).length<=sizeLine:=by have:=Qax kvs k v;omega
  refine wpAny_setItem_pairs (hsz:=hz) (Qhs ry) dd λh' dd' hs=>h _ ?_
  have he:∃q,h'.get? a=some q:=let ⟨q,_,_,hq,_⟩:=dd';⟨q,hq⟩
  exact Qkd I (by rw [e];exact True.intro) hs he (Qtg hl hd (rel.put k rv) dd')
 ·subst ey eH
  cases (show u=Value.ref b from ry)
  obtain ⟨z,hd,xs,rel,dd⟩:=Qu4 I.hok e
  have hz:xs.length<=sizeLine:=by rw [← Paired.length rel];exact z
  have hl:(putK kvs k v).length<=sizeLine:=by have:=Qax kvs k v;omega
  refine wpAny_setItem_heap (hsz:=hz) (tupleKind_room_in1 hu) (Qb6 I.hok eb) dd λh' dd' hs=>h _ ?_
  obtain ⟨q,es,ep,hq,h2,h3,h4,_,h5⟩:=dd'
  refine Qkd I (by rw [e];exact True.intro) hs ⟨q,hq⟩ ⟨hl,hd,_,(rel.put k eb rv).keeps λc ys ec=>?_,q,es,ep,hq,h2,h3,h4,h5⟩
  rw [Qy (Qur ec e (λz=>nomatch z))]
  exact ec
end
section
variable {X:Cx} {pins:List (Addr × Obj)} {σ:St} {H:Hp} {s:Shared} {a:Addr} {kvs:List (Key × V)} {k:Key} {u:Value} {A:Around} {E:Value->Shared->Prop}
theorem Qu6 {Q:Value->Shared->Prop} (I:Inv X pins σ H s) (e:Rd H a (.dK kvs)) (h:∀t s',Inv X pins σ H s'->Q (.int kvs.length t) s'):wpAny (model X.prog X.w) A (call (.builtin "len") [.ref a]) Q E s:=by
 obtain ⟨z,hd,vs,rel,dd⟩:=Qc2 I.hok e
 refine call_len_dict hd dd (by rw [← rel.length];rw [sizeLine_eq] at z;omega) ?_
 rw [← rel.length]
 exact h _ _ (I.tok _)
end
theorem Qfl {X:Cx} {pins:List (Addr × Obj)} {σ:St} {H:Hp} {s:Shared} {a:Addr} {y:V} {o:Option V} (I:Inv X pins σ H s) (g:DGet H a y o):s.TypeIs (.ref a) "dict":=by
 rcases g with ⟨kvs,k,e,_,_⟩ | ⟨kvs,k,b,e,_,_,_⟩
 ·obtain ⟨_,_,vs,_,dd⟩:=Qc2 I.hok e
  exact dd.typeIs
 ·obtain ⟨_,_,xs,_,dd⟩:=Qfk I.hok e
  exact dd.typeIs
section
variable {X:Cx} {o i e value:Expr} {pos pos' tpos:Pos} {td ty tv:TE}
end
theorem Qmj {P:Program} {w:World} {H:Hp} (h:Heap) (hb:sysModules<h.objs.size):Yx P w H (h.push { cls:=.type "dict",data:=.dict #[] }) h.objs.size (.dK []) :=
 ⟨Nat.zero_le _,beq_eq_false_iff_ne.mpr (Ne.symm (Nat.ne_of_lt hb)),[],.nil,Heap.DictOf.new h⟩
def Qqn:TE:=λ_ H Q=>∀p,H p=none->Q (.ref p) (upd H p (.dK []))
section
variable {X:Cx} {pos:Pos}
theorem Qlo:PE X (.Dict [] [] pos) Qqn:=λpins s σ H Q I h =>
 wpAny_Dict_empty ⟨.ref s.heap.objs.size,_,I.laid (a:=s.heap.objs.size) (o:=.dK []) (t':=s.toks) (λ_ _ q=>Heap.get?_push_of_some _ q) (Nat.le_refl _) (Qmj s.heap I.big),rfl,h _ (I.hok.fresh (Nat.le_refl _))⟩
end
structure M2 (X:Cx) (o:Expr) (m:Str) (apos:Pos) (e f:Expr) (cpos:Pos):Prop where
 base:attributeBase o m X.env (eval o X.env)=eval o X.env
 few:((backTo cpos (starEach [e,f] X.env)).all (λx=>!x.1) && (backToKw cpos (keywordEach [] X.env)).all (λx=>x.1.isSome)
  && decide (([e,f]:List Expr).length+([]:List Keyword).length+(if ([]:List Keyword).isEmpty then 0 else 1)<30))=true
 line:(apos.endLine == cpos.line)=true
 trees:backTo cpos (starEach [e,f] X.env)=[(false,eval e X.env),(false,eval f X.env)]
def IsD (H:Hp) (a:Addr):Prop:=(∃kvs,Rd H a (.dK kvs))\/∃kvs,Rd H a (.dT kvs)
theorem Qsz {X:Cx} {pins:List (Addr × Obj)} {σ:St} {H:Hp} {s:Shared} {a:Addr} (I:Inv X pins σ H s) (d:IsD H a) :
  s.TypeIs (.ref a) "dict" /\ (∀b,Value.ref a=.ref b->∃ob,s.heap.get? b=some ob/\ob.dict=none)/\(a == sysModules)=false:=by
 rcases d with ⟨kvs,e⟩ | ⟨kvs,e⟩
 ·obtain ⟨_,hd,vs,_,dd⟩:=Qc2 I.hok e
  refine ⟨dd.typeIs,λb q=>?_,hd⟩
  cases q
  obtain ⟨ob,_,_,h1,h2,_⟩:=dd
  exact ⟨ob,h1,h2.2.1⟩
 ·obtain ⟨_,hd,xs,_,dd⟩:=Qfk I.hok e
  refine ⟨dd.typeIs,λb q=>?_,hd⟩
  cases q
  obtain ⟨ob,_,_,h1,h2,_⟩:=dd
  exact ⟨ob,h1,h2.2.1⟩
section
variable {X:Cx} {pins:List (Addr × Obj)} {σ:St} {H:Hp} {s:Shared} {a:Addr} {y d:V} {u r:Value} {o:Option V} {A:Around} {E:Value->Shared->Prop}
theorem Qth {Q:Value->Shared->Prop} (hu:A.units+1<cLine) (I:Inv X pins σ H s) (g:DGet H a y o) (ry:RelV y u) (rd:RelV d r) (h:∀w' s',Inv X pins σ H s'->RelV (o.getD d) w'->Q w' s') :
  wpAny (model X.prog X.w) A (call (.builtin "dict.get") [.ref a,u,r]) Q E s:=by
 rcases g with ⟨kvs,k,e,ey,l⟩ | ⟨kvs,k,b,e,ey,eb,l⟩
 ·subst ey
  obtain ⟨z,hd,vs,rel,dd⟩:=Qc2 I.hok e
  refine call_meetsIn PySem.F.slot_dict_get dd.typeIs PySem.F.entry_dict_get (PySem.F.args_dict_get_3 _ _ _) (meets_dict_get_default (J8 X.prog X.w) a (Qhs ry) hd r) ⟨_,dd.mapOf,h _ _ (I.tok _) ?_⟩
  rw [l]
  exact (rel.val k).getD rd
 ·subst ey
  cases (show u=Value.ref b from ry)
  obtain ⟨z,hd,xs,rel,dd⟩:=Qfk I.hok e
  refine call_meetsIn PySem.F.slot_dict_get dd.typeIs PySem.F.entry_dict_get (PySem.F.args_dict_get_3 _ _ _) (meetsH_dict_get_default (tupleKind (J8 X.prog X.w)) a b hd r) ⟨tupleKind_room_in1 hu,k,xs,Qb6 I.hok eb,dd,h _ _ (I.tok _) ?_⟩
  rw [l]
  exact (rel.val k).getD rd
end
def Qqo (td ty tx:TE):TE:=λσ H Q=>td σ H λx H1=>∃a,x=.ref a/\IsD H1 a/\ty σ H1 λy H2=>tx σ H2 λz H3=>∃o,DGet H3 a y o/\Q (o.getD z) H3
section
variable {X:Cx} {o e f:Expr} {apos cpos:Pos} {td ty tx:TE}
theorem Qlp (hu:X.A.units+1<cLine) (ho:PE X o td) (he:PE X e ty) (hf:PE X f tx) (m:M2 X o "get" apos e f cpos):PE X (.Call (.Attribute o "get" apos) [e,f] [] cpos) (Qqo td ty tx):=by
 intro pins s σ H Q I h
 refine wpAny_Call_method m.base m.few m.line PySem.F.plainAttrs_dict PySem.F.slot_dict_get PySem.F.type_dict_get (thn (ho pins s σ H _ I h) λu s1 ⟨x,H1,I1,rx,a,ex,d,q1⟩=>?_)
 subst ex
 obtain rfl:u=Value.ref a:=rx
 obtain ⟨t1,t2,_⟩:=Qsz I1 d
 refine ⟨t1,t2,?_⟩
 rw [m.trees]
 refine Calls.callWith_builtin rfl (Calls.evalArgs_plain (Calls.spliced_cons (thn (he pins s1 σ H1 _ I1 q1) λiv s2 ⟨y,H2,I2,ry,q2⟩ =>
  Calls.spliced_cons (thn (hf pins s2 σ H2 _ I2 q2) λfv s3 ⟨z,H3,I3,rz,ov,g,q3⟩=>Calls.spliced_nil ?_))))
 exact Qth hu I3 g ry rz λw' s4 I4 rw'=>⟨_,H3,I4,rw',q3⟩
end
section
variable {X:Cx} {pins:List (Addr × Obj)} {σ:St} {H:Hp} {s:Shared} {a:Addr} {kvs:List (Key × V)} {A:Around} {E:Value->Shared->Prop}
end
section
variable {X:Cx} {pins:List (Addr × Obj)} {σ:St} {H:Hp} {s:Shared} {a:Addr} {y:V} {u:Value} {A:Around} {E:Value->Shared->Prop}
end
end L2
namespace Att
open PySem PySem.W PySem.Calls PyProof.Rows
theorem Qa1 {P:Params} {h:Heap}:∀(ns:List Int) (vs:List Value),WellAll P h vs (ns.map WData.int)->IntsAre vs ns:=by
 intro ns
 induction ns with
 | nil =>
  intro vs w
  rw [List.map_nil] at w
  cases w
  exact .nil
 | cons n ns ih =>
  intro vs w
  rw [List.map_cons] at w
  cases w with
  | cons a b =>
   cases a
   exact .cons _ _ (ih _ b)
theorem Qiq {l:OpenLaw} {n:Nat} (hn:l.most=some n) {P:Params} {h:Heap} {args:List WData} {vals:List Value}
  (hpre:l.row.toRowW.claim.pre args=true) (hwl:WellAll P h vals args) :
  ∃a vs ns,vals=[Value.ref a]/\args=[WData.list (ns.map WData.int)]/\h.get? a=some { cls:=.type "list",data:=.seq vs.toArray }/\IntsAre vs ns/\ns.length<=n:=by
 have hsh:WShape.hasAll [] args [.list .int]=true:=(pre_splitW hpre).1
 have hc:l.pre.holds [] { args:=args }=true:=(pre_splitW hpre).2
 obtain ⟨d,r,rfl,h1,h2⟩:=hasAllW_cons hsh
 obtain rfl:=hasAllW_nil h2
 obtain ⟨xs,rfl,h3⟩:=hasW_list h1
 obtain ⟨ns,rfl⟩:=items_int h3
 have hlen:ns.length<=n:=by
  unfold OpenLaw.pre at hc
  have h4:(WTm.not (.lt (.lit (.int (n:Int))) (.len (.arg 0)))).holds [] { args:=[.list (ns.map .int)] }=true:=by
   have h4:=(holds_andW hc).1
   rw [hn] at h4
   exact h4
  have h5:=condW_of h4 (w_not (w_lt w_lit (w_len_list (w_arg rfl))))
  rw [List.length_map] at h5
  refine Nat.le_of_not_lt λq=>?_
  have q':(n:Int)<((ns.length:Nat):Int):=by omega
  first
   | (rw [decide_eq_true q'] at h5;exact absurd h5 (by decide))
   | (simp at h5;omega)
 cases hwl with
 | cons w1 w2 =>
  cases w2
  cases w1 with
  | list ho hall=>exact ⟨_,_,ns,rfl,rfl,ho,Qa1 ns _ hall,hlen⟩
theorem Qi3 (l:OpenLaw) (args:List WData):l.row.toRowW.claim.post args (.bool true) args=true :=
 postW_of (r:=l.row.toRowW) (X:=(true == true))
  (show WShape.has [] (.bool true) .bool=true by first | rfl | decide | simp [WShape.has,WShape.arms,WShape.armsAll])
  (show (WTm.eq .res (.lit (.bool true))).value [] { args:=args,res:=some (.bool true),after:=args }=some (.bool (true == true)) from w_eq_bool (w_res rfl) w_lit) rfl
theorem Qfu {l:OpenLaw} {n:Nat} {q:Program} {loose:List Str} {XP:(Str->Option Value)->Heap->Prop} {YP:World->Heap->Prop} {d:DefRec}
  (hn:l.most=some n) (hdf:d.params.defaults=[])
  (call:∀(w:World) (s₀ s₁:Shared) (mg mb:Str->Option Value) (fa:Addr) (o:Obj) (pm cd doc:Value) (a:Addr) (vs:List Value) (ns:List Int),
   Ground q loose [] XP w s₀ mg mb s₁.heap->YP w s₁.heap ->
   s₁.heap.get? fa=some o->o.data=.func (docDef d.name d.params d.body d.scope pm cd doc)->s₁.heap.CodeRec cd d.name->mg d.name=some (.ref fa) ->
   s₁.heap.get? a=some { cls:=.type "list",data:=.seq vs.toArray }->IntsAre vs ns->ns.length<=n->s₁.gens = #[] ->
   codeAny (model l.prog w) callerA (.call (.ref fa) ⟨[.ref a],[]⟩) (λr s'=>r=.ok (.ret (.bool true))/\OldK s₁.heap s'.heap/\s'.os=s₁.os/\AllBare s'.gens) s₁) :
  WalkO q loose XP YP l.row.toRowW d [] (λf vs=>PySem.call f vs):=by
 intro w s₀ s₁ mg mb G Y fa o pm cd doc dV kV ho hd hcd hD hmg hg args vals as hpre hlay hrd hwl hlo
 obtain rfl:dV=.none:=Dflts.none hD hdf
 obtain rfl:kV=.none:=Dflts.noKw hD
 obtain ⟨a,vs,ns,rfl,rfl,hobj,hints,hlen⟩:=Qiq hn hpre hwl
 refine enter_call (codeAny_mono (call w s₀ s₁ mg mb fa o pm cd doc a vs ns G Y ho (fd_plain hd) hcd hmg hobj hints hlen hg) λr s' hq=>?_)
 obtain ⟨rfl,h2,h3,h4⟩:=hq
 exact ⟨.inl ⟨.bool true,.bool true,[],rfl,λ_=>rfl,.bool true,Qi3 l _,λ_=>⟨List.Pairwise.nil,λ_ hm=>(nomatch hm)⟩⟩,h2,h3,h4⟩
section
variable {prog:Program} {w:World} {A:Around} {E:Value->Shared->Prop} {s:Shared} {K:Frag}
end
end Att
namespace L2
open PySem PySem.Spec PyProof.Rows
theorem Qdg:∀{vs:List Value} {ns:List Int},IntsAre vs ns->Vals (ns.map V.int) vs
 | _,_,.nil=>.nil
 | _,_,.cons n t h=>.cons ⟨t,rfl⟩ (Qdg h)
def Only (H:Hp):Prop:=∀b,H b=none\/∃o xs,H b=some (.frz o (.lst xs))
theorem Ql8 {P:Program} {w:World} {K:PySem.W.Frag} {mg mb:Str->Option Value} {CX:CXT} {k:Nat} {fa a:Addr} {fd:FuncData} {x:Str} {sp:Sp} {s₁:Shared} {vs:List Value} {ns:List Int}
  (KX:K.In s₁.heap) (hns:s₁.heap.Ns mainGlobals mg) (hb:s₁.heap.Ns builtinsNs mb) (hbb:∀x:Str,x ≠ "__name__" -> mb x=bootBuiltins x) (hlim:s₁.heap.NoLimit) (hg:s₁.gens = #[])
  (ha:s₁.heap.get? a=some { cls:=.type "list",data:=.seq vs.toArray }) (hi:IntsAre vs ns) (hl:ns.length<=sizeLine) (hr:Room k callerA)
  (F:∀base:Heap,K.In base->base.Ns mainGlobals mg->FnOk P w K mg base CX k fa fd [x] sp) (hbind:∀(s:Shared) (u:Value),BindsTo s fd ⟨[u],[]⟩ [(x,u)])
  (hsp:∀H:Hp,Only H->SqL K H a (ns.map V.int)->sp [.ref a] H (λv _=>v=.bl true) λ_ _ _=>False)
  (hCX:∀H e s',CX [] H s₁ (λ_ _ _=>False) e s'->False) :
  codeAny (model P w) callerA (.call (.ref fa) ⟨[.ref a],[]⟩) (λr s'=>r=.ok (.ret (.bool true))/\OldK s₁.heap s'.heap/\s'.os=s₁.os/\AllBare s'.gens) s₁:=by
 have rv:=Qdg hi
 have lenV:=hi.length
 -- from an abstract heap in which nothing but the script may be tracked
 have core:∀H:Hp,Only H->SqL K H a (ns.map V.int)->HOk P w H s₁.heap->(∀b,H b≠none->b=a)->(H a≠none->K.lookup a=none) ->
   codeAny (model P w) callerA (.call (.ref fa) ⟨[.ref a],[]⟩) (λr s'=>r=.ok (.ret (.bool true))/\OldK s₁.heap s'.heap/\s'.os=s₁.os/\AllBare s'.gens) s₁:=by
  intro H hO hS hok hA hK
  have base_of:∀{b:Addr} {o:Obj},s₁.heap.get? b=some o->H b=none->(hidT s₁.heap H).get? b=some o:=λe n=>Qmb e n
  have noA:∀{b:Addr} {o:Obj} {es:Array DictEntry} {ep:Nat},s₁.heap.get? b=some o->o.data=.dict es ep->H b=none:=λ{b o es ep} e d=>by
   cases q:H b with
   | none=>rfl
   | some u =>
    have e':b=a:=hA b (by rw [q];simp)
    subst e'
    rw [ha] at e;cases e
    have d':Data.seq vs.toArray _=Data.dict es ep:=d
    cases d'
  have nsK:∀{b:Addr} {m:Str->Option Value},s₁.heap.Ns b m->(hidT s₁.heap H).Ns b m:=λ{b m} ⟨o,es,ep,e,d,r⟩=>⟨o,es,ep,base_of e (noA e d),d,r⟩
  have hKb:K.In (hidT s₁.heap H):=λb o e=>base_of (KX b o e) (by
   cases q:H b with
   | none=>rfl
   | some u =>
    have e':b=a:=hA b (by rw [q];simp)
    subst e'
    rw [hK (by rw [q];simp)] at e;cases e)
  have hM:Mod K mg (hidT s₁.heap H):=⟨hKb,nsK hns,⟨mb,nsK hb,hbb⟩,let ⟨mc,h1,h2⟩:=hlim;⟨mc,nsK h1,h2⟩⟩
  have e0:Env0 P w K mg (hidT s₁.heap H) callerA [] s₁ H:=⟨rfl,hM,λb o e=>Qpg e,Nat.le_of_eq (Qju _ _),trivial,λb hb=>absurd (show b∈([]:List Addr) from hb) (by simp),hok,.of_eq hg⟩
  refine codeAny_mono ((F _ hKb (nsK hns)).run callerA [] s₁ H ⟨[.ref a],[]⟩ [.ref a] [.ref a] _ _ hr e0 (hbind s₁ (.ref a)) (.cons rfl .nil) (hsp H hO hS)) λr s' h=>?_
  cases r with
  | error e=>exact (hCX H e s' h).elim
  | ok fl =>
   cases fl with
   | next=>exact False.elim h
   | brk=>exact False.elim h
   | cont=>exact False.elim h
   | ret u =>
    obtain ⟨v,H',os,bare,un,hok',r',q⟩:=h
    have q':v=.bl true:=q
    subst q'
    obtain rfl:u=Value.bool true:=r'
    refine ⟨rfl,OldK.of_keep λb o e=>?_,os,bare⟩
    cases q:H b with
    | none=>exact un.keep b o e q (by intro z;exact absurd (show b∈([]:List Addr) from z) (by simp)) (by simp)
    | some u =>
     rcases hO b with z | ⟨ob,xs,z⟩
     ·rw [q] at z;cases z
     ·have z2:=un.frzs b ob _ z
      obtain ⟨e1,_⟩:=hok b _ z
      obtain ⟨e2,_⟩:=hok' b _ z2
      rw [e] at e1;cases e1
      exact e2
 cases hk:K.lookup a with
 | some o =>
  -- the script is one of the module's own objects
  have e:=KX a o hk
  rw [ha] at e
  cases e
  refine core (λ_=>none) (λ_=>.inl rfl) (.inr ⟨_,vs.toArray,_,hk,rfl,rfl,rfl,by rw [List.size_toArray,lenV];exact hl,by simpa using rv⟩) (λb u z=>by have z':(none:Option HO)=some u:=z;cases z') (λb z=>absurd rfl z) λz=>absurd rfl z
 | none =>
  refine core (λb=>if b=a then some (.frz { cls:=.type "list",data:=.seq vs.toArray } (.lst (ns.map V.int))) else none) (λb=>?_) (.inl (.inr ⟨{ cls:=.type "list",data:=.seq vs.toArray },if_pos rfl⟩)) (λb u z=>?_) (λb z=>?_) λ_=>hk
  ·by_cases hb:b=a
   ·exact .inr ⟨_,_,if_pos hb⟩
   ·exact .inl (if_neg hb)
  ·by_cases hb:b=a
   ·have z':=(if_pos hb).symm.trans z
    cases z'
    subst hb
    exact ⟨ha,by rw [List.length_map];exact hl,vs,_,rv,ha⟩
   ·have z':=(if_neg hb).symm.trans z
    cases z'
  ·by_cases hb:b=a
   ·exact hb
   ·exact absurd (if_neg hb) z
end L2
namespace L2
open PySem PySem.Spec PyProof.Rows
theorem Qn0 {l:PySem.W.OpenLaw} {n k:Nat} {q:Program} {loose:List Str} {XP:(Str->Option Value)->Heap->Prop} {YP:World->Heap->Prop} {d:DefRec} {K:Params->PySem.W.Frag} {CX:World->CXT} {sp:World->Sp} {x:Str}
  (hn:l.most=some n) (hn2:n<=sizeLine) (hdf:d.params.defaults=[]) (hr:Room k callerA)
  (hY:∀(w:World) (h:Heap),YP w h->(K w.params).In h)
  (F:∀(w:World) (mg:Str->Option Value) (fa:Addr) (h:Heap),(K w.params).In h->h.Ns mainGlobals mg->mg d.name=some (.ref fa) ->
   ∃fd:FuncData,(∀(s:Shared) (u:Value),BindsTo s fd ⟨[u],[]⟩ [(x,u)]) /\
    ∀base:Heap,(K w.params).In base->base.Ns mainGlobals mg->FnOk l.prog w (K w.params) mg base (CX w) k fa fd [x] (sp w))
  (hsp:∀(w:World) (H:Hp) (a:Addr) (ns:List Int),ns.length<=n->Only H->SqL (K w.params) H a (ns.map V.int)->sp w [.ref a] H (λv _=>v=.bl true) λ_ _ _=>False)
  (hCX:∀(w:World) (H:Hp) (s:Shared) (e:Value) (s':Shared),CX w [] H s (λ_ _ _=>False) e s'->False) :
  PySem.W.WalkO q loose XP YP l.row.toRowW d [] (λf vs=>PySem.call f vs):=by
 refine Att.Qfu hn hdf λw s₀ s₁ mg mb fa o pm cd doc a vs ns G Y ho hd hcd hmg hobj hints hlen hg=>?_
 have KX:=hY w _ Y
 obtain ⟨fd,hb,hF⟩:=F w mg fa _ KX G.T.g hmg
 exact Ql8 KX G.T.g G.T.b G.T.builtins G.T.nolimit hg hobj hints (Nat.le_trans hlen hn2) hr hF hb (λH hO hS=>hsp w H a ns hlen hO hS) λH e s'=>hCX w H s₁ e s'
end L2
namespace L2
open PySem PySem.Spec PyProof.Rows
def Q7 (s:Stmt):Arguments:=match s with
 | .FunctionDef _ a _ _ _ _ _ _ _ _=>a
 | _=>{ posonlyargs:=[],args:=[],vararg:=none,kwonlyargs:=[],kw_defaults:=[],kwarg:=none,defaults:=[] }
def Ql (s:Stmt):List Stmt:=match s with
 | .FunctionDef _ _ b _ _ _ _ _ _ _=>b
 | _=>[]
def Qd (s:Stmt):Scope:=match s with
 | .FunctionDef _ _ _ _ _ _ sc _ _ _=>sc
 | _=>{ kind:=.function,names:=[],isGenerator:=false,isCoroutine:=false }
abbrev CX0:CXT:=λ_ _ _ _ _ _=>False
abbrev E0:XK:=λ_ _ _=>False
theorem Qrr {X:Cx}:Qkv CX0 X E0:=λ_ _ _ _ _ _ _ h=>h.elim
structure Fun (K:PySem.W.Frag) (x qual:Str) (st:Stmt) (f:Addr) (fd:FuncData):Prop where
 ex:∃(oc:Value) (od:Option Addr) (kV doc pm:Value) (an:Option Addr) (cdv ct:Value) (osl:Array (Option Value)),
  fd=PySem.W.fnOf x qual (Q7 st) (Ql st) (Qd st) .none kV doc pm an cdv ct/\K.lookup f=some ⟨oc,od,.func fd,osl⟩/\PySem.W.codeIn K cdv qual=true
 kp:PySem.W.keepIn K (.ref f)=true
section
variable {P:Program} {w:World} {K:PySem.W.Frag} {mg:Str->Option Value} {base:Heap}
theorem Fun.ok {x qual:Str} {st:Stmt} {f:Addr} {fd:FuncData} {N ps:List Str} {k:Nat} {sp:Sp} (F:Fun K x qual st f fd) (S:FnScope N ps (Qd st)) (len:∀vs H Q E,sp vs H Q E->vs.length=ps.length)
  (hbody:∀(cdv:Value) (A:Around) (outer:List Env) (s:Shared) (H:Hp) (vs:List V) (Q:VK) (E:XK),Room k (A.deeper (envOfC qual (Qd st) s.heap.objs.size f cdv))->sp vs H Q E ->
   ∃t,PSs (cxOf CX0 P w K mg base N qual (Qd st) f cdv A outer s H E).nox (Ql st) t/\t { nx:=λ_ H'=>Q .non H',rt:=Q } (start N vs) H):FnOk P w K mg base CX0 (k+1) f fd ps sp:=by
 obtain ⟨oc,od,kV,doc,pm,an,cdv,ct,osl,rfl,lk,hcd⟩:=F.ex
 refine Qs7 lk hcd S len λA outer s H vs Q E hr hsp=>?_
 obtain ⟨t,h,q⟩:=hbody cdv A outer s H vs Q E hr hsp
 exact ⟨t,h.nox,q⟩
theorem Fun.binds {x qual:Str} {st:Stmt} {f:Addr} {fd:FuncData} {ps:List Str} (F:Fun K x qual st f fd)
  (h:∀(kV doc pm:Value) (an:Option Addr) (cdv ct:Value) (us:List Value),us.length=ps.length->bindArgs (PySem.W.fnOf x qual (Q7 st) (Ql st) (Qd st) .none kV doc pm an cdv ct) ⟨us,[]⟩=pure (ps.zip us)):Qbe K fd ps []:=by
 obtain ⟨oc,od,kV,doc,pm,an,cdv,ct,osl,rfl,lk,hcd⟩:=F.ex
 exact .all (h kV doc pm an cdv ct)
theorem J5 {x qual:Str} {st:Stmt} {f:Addr} {oc:Value} {od an:Option Addr} {osl:Array (Option Value)} {kV doc pm cdv ct:Value} (l:K.lookup f=some ⟨oc,od,.func (PySem.W.fnOf x qual (Q7 st) (Ql st) (Qd st) .none kV doc pm an cdv ct),osl⟩)
  (c:PySem.W.codeIn K cdv qual=true) (k:PySem.W.keepIn K (.ref f)=true):Fun K x qual st f (PySem.W.fnOf x qual (Q7 st) (Ql st) (Qd st) .none kV doc pm an cdv ct):=⟨⟨oc,od,kV,doc,pm,an,cdv,ct,osl,rfl,l,c⟩,k⟩
end
theorem Q5 {A:Around} {k:Nat} (hr:Room k A):A.units+1<cLine:=Nat.lt_of_le_of_lt (Nat.add_le_add_left (by decide:1<=64) _) hr.units
section
variable {X:Cx}
theorem Qko:Uo X (.builtin "len") (λxs H Q=>∃a kvs,xs=[V.ref a]/\H a=some (.dK kvs)/\Q (.int kvs.length) H):=by
 intro pins s σ H xs us Q I r h
 obtain ⟨a,kvs,rfl,ha,q⟩:=h
 obtain ⟨u,rfl,ru⟩:=Qcc r
 cases ru
 exact Qu6 I (.inl ha) λt s' I'=>⟨.int kvs.length,H,I',⟨t,rfl⟩,q⟩
end
def Same (H H':Hp):Prop:=∀b o,H b=some o->H' b=some o
theorem Same.refl (H:Hp):Same H H:=λ_ _ h=>h
theorem Same.trans {H H1 H2:Hp} (a:Same H H1) (b:Same H1 H2):Same H H2:=λc o h=>b c o (a c o h)
theorem Same.free {H H':Hp} (e:Same H H') {l:Addr} (h:H' l=Option.none):H l=Option.none:=by
 cases q:H l with
 | none=>rfl
 | some o =>
  rw [e l o q] at h
  cases h
section
variable {κ:Type} [DecidableEq κ]
end
end L2
set_option maxHeartbeats 4000000
namespace L2
open PySem PySem.Spec PyProof.Rows
theorem U5 {env:Env}:∀(names:List (Str × NameKind)) (acc:List (Str × Addr)),
  (∀x∈names,x.2=.free->∃c,env.cells.lookup x.1=some c)->(∀y c,acc.lookup y=some c->env.cells.lookup y=some c) ->
  ∃cl:List (Str × Addr),(forIn names acc (λ(x:Str × NameKind) (cs:List (Str × Addr)) =>
    if (x.2 == NameKind.free)=true then do
     let c ← cellOf env x.1
     pure (ForInStep.yield ((x.1,c)::cs))
    else pure (ForInStep.yield cs)):Sem (List (Str × Addr)))=pure cl /\
   (∀y c,cl.lookup y=some c->env.cells.lookup y=some c)/\(∀y,(acc.lookup y).isSome=true->(cl.lookup y).isSome=true) /\
   ∀x∈names,x.2=.free->(cl.lookup x.1).isSome=true
 | [],acc,_,ha=>⟨acc,by rw [List.forIn_nil],ha,λ_ h=>h,λ_ h=>nomatch h⟩
 | (n,k)::r,acc,hn,ha=>by
  rw [List.forIn_cons]
  by_cases hk:k=.free
  ·subst hk
   obtain ⟨c,hc⟩:=hn (n,.free) List.mem_cons_self rfl
   have hc':env.cells.lookup n=some c:=hc
   obtain ⟨cl,e,h1,h2,h3⟩:=U5 r ((n,c)::acc) (λx hx=>hn x (List.mem_cons_of_mem _ hx)) (λy c' h=>by
    rw [List.lookup_cons] at h
    cases q:y == n with
    | true=>rw [q] at h;cases h;rw [beq_iff_eq.mp q];exact hc'
    | false=>rw [q] at h;exact ha y c' h)
   refine ⟨cl,?_,h1,λy hy=>h2 y ?_,λx hx hf=>?_⟩
   ·have e0:cellOf env n=pure c:=by unfold cellOf;rw [hc']
    show ((if ((NameKind.free == NameKind.free)=true) then (cellOf env n >>= λc=>pure (ForInStep.yield ((n,c)::acc))) else pure (ForInStep.yield acc)) >>= _)=_
    rw [if_pos (by decide),e0]
    exact e
   ·rw [List.lookup_cons]
    cases q:y == n with
    | true=>rfl
    | false=>exact hy
   ·rcases List.mem_cons.mp hx with rfl | hx
    ·exact h2 n (by simp [List.lookup_cons])
    ·exact h3 x hx hf
  ·obtain ⟨cl,e,h1,h2,h3⟩:=U5 r acc (λx hx=>hn x (List.mem_cons_of_mem _ hx)) ha
   refine ⟨cl,?_,h1,h2,λx hx hf=>?_⟩
   ·show ((if ((k == NameKind.free)=true) then (cellOf env n >>= λc=>pure (ForInStep.yield ((n,c)::acc))) else pure (ForInStep.yield acc)) >>= _)=_
    rw [if_neg (by simpa using hk)]
    exact e
   ·rcases List.mem_cons.mp hx with rfl | hx
    ·exact absurd hf hk
    ·exact h3 x hx hf
theorem U6 {env:Env} {scope:Scope} (h:∀x∈scope.names,x.2=.free->∃c,env.cells.lookup x.1=some c) :
  ∃cl,closureFor scope env=pure cl/\(∀y c,cl.lookup y=some c->env.cells.lookup y=some c)/\∀x∈scope.names,x.2=.free->∃c,cl.lookup x.1=some c:=by
 obtain ⟨cl,e,h1,_,h3⟩:=U5 scope.names [] h (λy c q=>by simp at q)
 refine ⟨cl,?_,h1,λx hx hf=>Option.isSome_iff_exists.mp (h3 x hx hf)⟩
 simp only [closureFor]
 show (forIn scope.names [] _ >>= λr=>pure r)=_
 rw [e]
 rfl
theorem Y6 {env:Env} {x:Str}:∀{names:List (Str × NameKind)},names.lookup x=some .free ->
  (names.map λ(n,k)=>if (k == NameKind.free && env.scope.kind == .function && env.kindOf n == some .cell) then (n,NameKind.cell) else (n,k)).lookup x=some .cell \/
  (names.map λ(n,k)=>if (k == NameKind.free && env.scope.kind == .function && env.kindOf n == some .cell) then (n,NameKind.cell) else (n,k)).lookup x=some .free
 | [],h=>by simp at h
 | (n,k)::r,h=>by
  have ih:=@Y6 env x r
  show List.lookup x ((if (k == NameKind.free && env.scope.kind == .function && env.kindOf n == some .cell)=true then (n,NameKind.cell) else (n,k))::_)=_\/List.lookup x ((if (k == NameKind.free && env.scope.kind == .function && env.kindOf n == some .cell)=true then (n,NameKind.cell) else (n,k))::_)=_
  cases hx:x == n with
  | true =>
   simp only [List.lookup_cons,hx] at h
   cases h
   by_cases hc:(NameKind.free == NameKind.free && env.scope.kind == .function && env.kindOf n == some .cell)=true
   ·rw [if_pos hc];left;simp only [List.lookup_cons,hx]
   ·rw [if_neg hc];right;simp only [List.lookup_cons,hx]
  | false =>
   simp only [List.lookup_cons,hx] at h
   by_cases hc:(k == NameKind.free && env.scope.kind == .function && env.kindOf n == some .cell)=true
   ·rw [if_pos hc];simp only [List.lookup_cons,hx];exact ih h
   ·rw [if_neg hc];simp only [List.lookup_cons,hx];exact ih h
theorem Vb {env:Env} {x:Str} {q:NameKind}:∀{names:List (Str × NameKind)},(∀y∈names,y.2 ≠ .cell)->q=.cell\/q=.free ->
  (names.map λ(n,k)=>if (k == NameKind.free && env.scope.kind == .function && env.kindOf n == some .cell) then (n,NameKind.cell) else (n,k)).lookup x=some q->(x,NameKind.free)∈names
 | [],_,_,h=>by simp at h
 | (n,k)::r,hn,hq,h=>by
  have h:List.lookup x ((if (k == NameKind.free && env.scope.kind == .function && env.kindOf n == some .cell)=true then (n,NameKind.cell) else (n,k))::(r.map λ(n,k)=>if (k == NameKind.free && env.scope.kind == .function && env.kindOf n == some .cell) then (n,NameKind.cell) else (n,k)))=some q:=h
  by_cases hc:(k == NameKind.free && env.scope.kind == .function && env.kindOf n == some .cell)=true
  ·rw [if_pos hc] at h
   cases hx:x == n with
   | true =>
    have hk:k=.free:=by
     cases k <;> first | rfl | (simp at hc)
    rw [beq_iff_eq.mp hx,hk]
    exact List.mem_cons_self
   | false =>
    simp only [List.lookup_cons,hx] at h
    exact List.mem_cons_of_mem _ (Vb (λy hy=>hn y (List.mem_cons_of_mem _ hy)) hq h)
  ·rw [if_neg hc] at h
   cases hx:x == n with
   | true =>
    simp only [List.lookup_cons,hx] at h
    have hk:k=q:=Option.some.inj h
    have hk2:k=.free:=by
     rcases hq with rfl | rfl
     ·exact absurd hk (hn (n,k) List.mem_cons_self)
     ·exact hk
    rw [beq_iff_eq.mp hx,hk2]
    exact List.mem_cons_self
   | false =>
    simp only [List.lookup_cons,hx] at h
    exact List.mem_cons_of_mem _ (Vb (λy hy=>hn y (List.mem_cons_of_mem _ hy)) hq h)
def Zg (X:Cx) (scope:Scope) (cl:List (Str × Addr)) (C:Addr) (N:List Str) (s₀:Shared) (H₀:Hp) (fp:List Addr):Cx :=
 { X with N:=N,s₀:=s₀,H₀:=H₀,env:=compEnvC scope cl C X.env,outer:=X.stack,stack:=X.stack,ex:=fp,fn:=λ_=>false,pn:=[],xe:=λ_ _=>False }
structure BlkScope (env:Env) (scope:Scope) (x:Str):Prop where
 kind:scope.kind=.function
 cells:∀y∈scope.names,y.2 ≠ .cell
 names:∀y∈scope.names,y.2=.local->scope.names.lookup y.1=some .local
 lx:scope.names.lookup x=some .local
 free:∀y∈scope.names,y.2=.free->env.kindOf y.1=some .cell\/env.kindOf y.1=some .free
def bN (N:List Str) (x:Str) (ix:List Nat):List Str:=x::ix.map λi=>N.getD i Str.empty
def bS (σ:St) (o:Option V) (ix:List Nat):St:=o::ix.map λi=>(σ[i]?).getD none
def PIfs (X:Cx) (ifs:List Expr) (tt:TT):Prop :=
 ∀(pins:List (Addr × Obj)) (s:Shared) (σ:St) (H:Hp) (Q:Bool->Hp->Prop),Inv X pins σ H s->tt σ H Q ->
  wpAny (model X.prog X.w) X.A (forIn ifs true λc r=>if r=true then do let ok ← isTrue c X.env (eval c X.env);pure (ForInStep.yield ok) else pure (ForInStep.yield r)) (TP X pins σ Q) X.xe s
def tAll:TT:=λ_ H Q=>Q true H
theorem Qlj {X:Cx}:PIfs X [] tAll:=by
 intro pins s σ H Q I h
 rw [List.forIn_nil]
 exact wpAny_pure ⟨H,I,h⟩
theorem Qli {X:Cx} {c:Expr} {tt:TT} (h:PT X c tt):PIfs X [c] tt:=by
 intro pins s σ H Q I hw
 rw [List.forIn_cons]
 refine wpAny_bind ?_
 rw [if_pos rfl]
 refine wpAny_bind (thn (h pins s σ H _ I hw) λok s1 q=>wpAny_pure ?_)
 show wpAny _ _ (forIn [] ok _) _ _ s1
 rw [List.forIn_nil]
 exact wpAny_pure q
section
variable {X:Cx}
theorem Qny {pins:List (Addr × Obj)} {σ:St} {H:Hp} {s:Shared} {scope:Scope} {cl:List (Str × Addr)} {C:Addr} {N:List Str} {fp:List Addr} {x:Str} (I:Inv X pins σ H s) (B:BlkScope X.env scope x)
  (h1:∀y c,cl.lookup y=some c->X.env.cells.lookup y=some c) (h3:∀y∈scope.names,y.2=.free->∃c,cl.lookup y.1=some c) (hC:s.heap.objs.size<=C) (hf:∀b∈fp,FpOk X pins H b) (hl:∀b∈fp,b<s.heap.objs.size) :
  (Zg X scope cl C N s H fp).Ok where
 mod:=I.ok.mod
 kind:=by show (relabel scope X.env).kind=_;exact B.kind
 glob:=I.ok.glob
 blt:=I.ok.blt
 above:=hC
 inj:=λy z c q r=>I.ok.inj y z c (h1 y c q) (h1 z c r)
 has:=λy hy=>by
  have hy:(relabel scope X.env).names.lookup y=some .cell\/(relabel scope X.env).names.lookup y=some .free:=hy
  have m:(y,NameKind.free)∈scope.names:=by
   rcases hy with q | q
   ·exact Vb B.cells (.inl rfl) q
   ·exact Vb B.cells (.inr rfl) q
  exact h3 _ m rfl
 cab:=λy c q=>by cases (show false=true from q)
 hd:=I.ok.hd
 frames:=I.ok.frames
 stk:=.inl rfl
 exf:=λb hb=>⟨Nat.ne_of_lt (Nat.lt_of_lt_of_le (hl b hb) hC),λy c q=>(hf b hb).2.2.2.2.1 y c (h1 y c q)⟩
 bs:=I.bs
 bsz:=Nat.le_trans I.ok.bsz I.sz
 noex:=λb o e hb=>by
  rcases (hf b hb).2.2.2.1 with z | z
  ·exact I.ok.noex b o e z
  ·exact absurd (Nat.lt_of_lt_of_le (Heap.lt_size e) (Nat.le_trans I.ok.bsz z)) (Nat.lt_irrefl _)
 exfs:=λb hb z=>by
  have z':=I.stkSub b z
  rcases List.mem_cons.mp z' with q | q
  ·exact (hf b hb).2.1 q
  ·exact (hf b hb).2.2.1 q
 funs:=I.stack
 frf:=I.stkFree
theorem HOk.add {P:Program} {w:World} {H:Hp} {h:Heap} {a:Addr} {o:HO} (x:HOk P w H h) (hn:H a=none) (new:Yx P w (upd H a o) h a o):HOk P w (upd H a o) h:=λb u e=>by
 by_cases hb:b=a
 ·subst hb;rw [Qn] at e;cases e;exact new
 ·rw [Qy hb] at e
  exact (x b u e).stay (λc v _ q=>q) (λc q=>by rw [Qy (Jx q hn)];exact q) (λc xs q=>by rw [Qy (Jx q hn)];exact q) λc _ _ _ q _=>by rw [Qy (Jx q hn)];exact q
theorem Un.add {fs ex:List Addr} {H H':Hp} {h h':Heap} {a:Addr} {o:HO} (u:Un fs ex H H' h h') (hn:h.get? a=none) (hH:H a=none):Un fs ex H (upd H' a o) h h' where
 keep:=u.keep
 slot:=u.slot
 free:=λb ob e n hx=>by
  have:b≠a:=λz=>by rw [z,hn] at e;cases e
  rw [Qy this];exact u.free b ob e n hx
 there:=u.there
 tups:=λb xs e=>by rw [Qy (Jx e hH)];exact u.tups b xs e
 frzs:=λb ob w e=>by rw [Qy (Jx e hH)];exact u.frzs b ob w e
 tbls:=λb ps e=>by rw [Qy (Jx e hH)];exact u.tbls b ps e
end
end L2
namespace L2
open PySem PySem.Spec PyProof.Rows
section
variable {X:Cx}
theorem Qg2 {elt iter:Expr} {x:Str} {px pos:Pos} {scope:Scope} {te:TE} {tt:TT} {ifs:List Expr} {ix:List Nat} {pins:List (Addr × Obj)} {s:Shared} {σ:St} {H:Hp} {cl:List (Str × Addr)}
  {J:It} {fp:List Addr} {it:Addr} {tn:Nat->Heap->Prop} {E:Value->Shared->Prop} {RR:Value->Addr->Result->Shared->Prop} {G:List V->Hp->Prop}
  (I:Inv X pins σ H s) (hc:X.calm=true) (B:BlkScope X.env scope x) (h1:∀y c,cl.lookup y=some c->X.env.cells.lookup y=some c) (h3:∀y∈scope.names,y.2=.free->∃c,cl.lookup y.1=some c)
  (hix:∀i∈ix,∃y,X.N[i]? = some y/\scope.names.lookup y=some .free) (hN:(bN X.N x ix).Nodup)
  (T:Turn X.prog X.w X.K (.Name x px) J fp it tn) (st:tn 0 s.heap) (hf:∀b∈fp,FpOk X pins H b)
  (he:∀cl C s₀ H₀ fp,PE (Zg X scope cl C (bN X.N x ix) s₀ H₀ fp) elt te)
  (hi:∀cl C s₀ H₀ fp,PIfs (Zg X scope cl C (bN X.N x ix) s₀ H₀ fp) ifs tt)
  (W:Nat->Nat->List V->Hp->Prop) (m₀:Nat) (w0:W 0 m₀ [] H)
  (turn:∀i m ys H,W i m ys H->(J.stop i H/\ys.length<=sizeLine/\G ys H)\/(J.go i H/\ys.length<sizeLine/\∀v H',J.yld i H v H' ->
    tt (bS σ (some v) ix) H' λb H1=>if b=true then te (bS σ (some v) ix) H1 λy H2=>∃m',m' < m/\W (i+1) m' (ys++[y]) H2 else ∃m',m' < m/\W (i+1) m' ys H1))
  (hRR:∀D C s' ys H',Inv X pins σ (upd H' D (.lst ys)) s'->H' D=none->H' C=none->(∃m,s'.heap.Ns C m)->s.heap.objs.size<=C->D≠C->G ys H'->RR (.ref D) C (.ok .next) s') :
  wpAny (model X.prog X.w) X.A (newList []) (λacc s₃=>wpAny (model X.prog X.w) X.A (newFunctionEnv scope X.env.globals cl [] X.env.qual none .none (some X.env)) (λcenv s₄ =>
   codeAny (model X.prog X.w) X.A (.compStart (.ListComp elt [⟨.Name x px,iter,ifs,0⟩] scope pos) 0 (.ref it) acc { cenv with scope:=relabel scope X.env }) (RR acc cenv.locals) s₄) E s₃) E s:=by
 have hl:∀b∈fp,b<s.heap.objs.size:=λb hb=>by obtain ⟨o,e,_⟩:=T.obj 0 _ st b hb;exact Heap.lt_size e
 refine wpAny_newObj_type (wpAny_newFunctionEnv B.cells (by intro y hy;simp at hy) (λh₁ hns₁ hsb₁=>?_) B.kind)
 dsimp only at hns₁ hsb₁ ⊢
 generalize hH2:s.heap.push { cls:=.type "list",dict:=none,data:=.seq ([]:List Value).toArray }=H2 at hns₁ hsb₁ ⊢
 have hC:H2.objs.size=s.heap.objs.size+1:=by rw [← hH2,Heap.size_push]
 generalize hD:s.heap.objs.size=D at hC hl hRR ⊢
 generalize hCC:H2.objs.size=C at hC hns₁ hsb₁ ⊢
 have hDC:D≠C:=by omega
 have old:∀b o,s.heap.get? b=some o->h₁.get? b=some o:=λb o e=>hsb₁.extBut b o (Nat.ne_of_lt (by have z:=Heap.lt_size e;rw [hD] at z;exact Nat.lt_of_lt_of_le z (by rw [hC];exact Nat.le_succ _))) (Heap.get?_push_of_some _ (hH2 ▸ Heap.get?_push_of_some _ e))
 have hacc:h₁.get? D=some { cls:=.type "list",data:=.seq ([]:List Value).toArray 0 }:=hsb₁.extBut _ _ hDC (Heap.get?_push_of_some _ (hH2 ▸ (by rw [← hD];exact Heap.get?_push_size _ rfl)))
 have hfr:∀a,D<=a->s.heap.get? a=none:=λa ha=>by
  cases e:s.heap.get? a with
  | none=>rfl
  | some o=>exact absurd (Heap.lt_size e) (by rw [hD];exact Nat.not_lt.mpr ha)
 have hHn:∀a,D<=a->H a=none:=λa ha=>I.hok.fresh (by omega)
 have ok:(Zg X scope cl C (bN X.N x ix) s H fp).Ok:=Qny I B h1 h3 (by omega) hf (by rw [hD];exact hl)
 generalize hK:Zg X scope cl C (bN X.N x ix) s H fp=K at ok
 have kp:K.prog=X.prog:=by rw [← hK];rfl
 have kw:K.w=X.w:=by rw [← hK];rfl
 have kK:K.K=X.K:=by rw [← hK];rfl
 have kA:K.A=X.A:=by rw [← hK];rfl
 have kc:K.calm=true:=by rw [← hK];exact hc
 have kN:K.N=bN X.N x ix:=by rw [← hK];rfl
 have kenv:K.env=compEnvC scope cl C X.env:=by rw [← hK];rfl
 have kloc:K.env.locals=C:=by rw [← hK];rfl
 have kfs:K.fs=frs X.stack:=by rw [← hK];rfl
 have kex:K.ex=fp:=by rw [← hK];rfl
 have kpn:K.pn=[]:=by rw [← hK];rfl
 have ks:K.s₀=s:=by rw [← hK];rfl
 have kH:K.H₀=H:=by rw [← hK];rfl
 have kx:K.xe=λ_ _=>False:=by rw [← hK];rfl
 have kcl:K.env.cells=cl:=by rw [← hK];rfl
 have cellLt:∀y c,cl.lookup y=some c->c<D:=λy c q=>by obtain ⟨v,z⟩:=I.cell y c (h1 y c q);rw [← hD];exact z.lt
 have stkLt:∀b∈frs X.stack,b<D:=λb hb=>by
  rcases List.mem_cons.mp (I.stkSub b hb) with q | q
  ·rw [q,← hD];exact I.lt
  ·rcases Nat.lt_or_ge b D with z | z
   ·exact z
   ·exact absurd q (I.nofs (by omega))
 -- the state at the block's begin
 have I0:∀tk,Inv K [(D,{ cls:=.type "list",data:=.seq ([]:List Value).toArray 0 })] (bS σ none ix) H { s with heap:=h₁,toks:=tk }:=λtk=>by
  refine ⟨ok,by rw [ks],I.bare,by rw [ks,kH];exact Un.kept old,?_,?_,?_,?_,?_,by rw [kp,kw];exact I.hok.kept old,?_⟩
  ·refine ⟨_,by rw [kloc];exact hns₁,λi y v e1 e2 e3=>?_⟩
   rw [kN] at e1
   cases i with
   | zero =>
    have:(none:Option V)=some v:=by simpa [bS] using e2
    cases this
   | succ i =>
    have e1':(ix.map λi=>X.N.getD i Str.empty)[i]? = some y:=by simpa [bN] using e1
    have e2':(ix.map λi=>(σ[i]?).getD none)[i]? = some (some v):=by simpa [bS] using e2
    rw [List.getElem?_map] at e1' e2'
    cases q:ix[i]? with
    | none=>rw [q] at e1';cases e1'
    | some j =>
     rw [q] at e1' e2'
     obtain ⟨y',a1,a2⟩:=hix j (List.mem_of_getElem? q)
     have a3:X.N.getD j Str.empty=y':=by simp [List.getD,a1]
     have ey:y'=y:=by rw [← a3];exact Option.some.inj e1'
     subst ey
     have es:σ[j]? = some (some v):=by
      have z:(σ[j]?).getD none=some v:=Option.some.inj e2'
      cases w:σ[j]? with
      | none=>rw [w] at z;cases z
      | some o=>rw [w] at z;have z':o=some v:=z;rw [z']
     obtain ⟨m,hn,hlk⟩:=I.loc
     have hk:=B.free (y',.free) (PySem.mem_of_lookup a2) rfl
     have hk:X.env.kindOf y'=some .cell\/X.env.kindOf y'=some .free:=hk
     have vis:Vis X.env.scope y':=hk.elim (λz=>.inr (.inl z)) λz=>.inr (.inr z)
     obtain ⟨u,ru,lk⟩:=hlk j y' v a1 es vis
     refine ⟨u,ru,?_⟩
     rcases lk with ⟨k,_⟩ | ⟨_,c,ec,ce⟩
     ·rcases hk with z | z <;> (rw [k] at z;cases z)
     ·obtain ⟨c',ec'⟩:=h3 (y',.free) (PySem.mem_of_lookup a2) rfl
      have ec':cl.lookup y'=some c':=ec'
      have:c'=c:=Option.some.inj ((h1 y' c' ec').symm.trans ec)
      subst this
      refine .inr ⟨?_,c',by rw [kcl];exact ec',?_⟩
      ·show K.env.scope.names.lookup y'=_\/K.env.scope.names.lookup y'=_
       rw [kenv]
       exact Y6 a2
      ·obtain ⟨oc,hoc,r⟩:=ce
       exact ⟨oc,old _ _ hoc,r⟩
  ·intro y c q
   rw [kcl] at q
   obtain ⟨v,oc,hoc,r⟩:=I.cell y c (h1 y c q)
   exact ⟨v,oc,old _ _ hoc,r⟩
  ·rw [kloc];exact hHn _ (by omega)
  ·intro y c q
   rw [kcl] at q
   exact I.freeC y c (h1 y c q)
  ·intro p hp
   rw [kpn] at hp
   have e:p=(D,{ cls:=.type "list",data:=.seq ([]:List Value).toArray 0 }):=by simpa using hp
   subst e
   refine ⟨hacc,hHn _ (Nat.le_refl _),by rw [kloc];exact hDC,?_,λv z=>?_⟩
   ·rw [kfs];intro z;exact absurd (stkLt D z) (Nat.lt_irrefl _)
   ·have z':Data.seq _ _=Data.cell v:=z
    cases z'
  ·rw [kN];simp [bS,bN]
 have stat:∀{H':Hp} {ob:Obj},(∀b∈fp,H' b=none)->∀b∈fp,FpOk K [(D,ob)] H' b:=λ{H' ob} hn b hb=>by
  refine ⟨hn b hb,?_,?_,.inl (by rw [kex];exact hb),?_,?_⟩
  ·rw [kloc];exact Nat.ne_of_lt (Nat.lt_of_lt_of_le (hl b hb) (by rw [hC];exact Nat.le_succ _))
  ·rw [kfs];intro z
   rcases List.mem_cons.mp (I.stkSub b z) with q | q
   ·exact (hf b hb).2.1 q
   ·exact (hf b hb).2.2.1 q
  ·intro y c q;rw [kcl] at q;exact (hf b hb).2.2.2.2.1 y c (h1 y c q)
  ·intro p hp;rw [kpn] at hp
   have e:p=(D,ob):=by simpa using hp
   subst e
   exact Nat.ne_of_gt (hl b hb)
 have st₁:tn 0 h₁:=T.keep _ _ _ st λb hb o e=>old b o e
 have loop:∀tk,codeAny (model X.prog X.w) X.A (.compLoop (.ListComp elt [⟨.Name x px,iter,ifs,0⟩] scope pos) 0 (.ref it) (.ref D) (compEnvC scope cl C X.env)) (RR (.ref D) C) { s with heap:=h₁,toks:=tk }:=by
  intro tk
  refine codeAny_compLoop_tests (λn s'=>∃i o H' ys its c,Inv K [(D,{ cls:=.type "list",data:=.seq (its:List Value).toArray c })] (bS σ o ix) H' s'/\Vals ys its/\tn i s'.heap/\(∀b∈fp,H' b=none)/\W i n ys H') ?_ m₀
   ⟨0,none,H,[],[],0,I0 tk,.nil,st₁,λb hb=>(hf b hb).1,w0⟩
  rintro n s1 ⟨i,o,H1,ys,its,c,I1,rv,t1,f1,w1⟩
  rcases turn i n ys H1 w1 with ⟨stop,hz,g⟩ | ⟨go,hz,step⟩
  ·have dn:=T.done K kp kw kK kc i _ s1 _ H1 (notedBy (model X.prog X.w) X.A (compEnvC scope cl C X.env) λe s'=>RR (.ref D) C (.error e) s') I1 (stat f1) t1 stop
   rw [kA] at dn
   refine thn dn λr s2 ⟨hr,I2⟩=>?_
   subst hr
   obtain ⟨p1,p2,p3,p4,p5⟩:=I2.pin (D,{ cls:=.type "list",data:=.seq its.toArray c }) (List.mem_append_right _ (List.mem_singleton.mpr rfl))
   have u2:=I2.base
   rw [kfs,kex,kH,ks] at u2
   refine hRR D C s2 ys H1 ?_ p2 (by rw [← kloc];exact I2.free) (by obtain ⟨m,hm,_⟩:=I2.loc;rw [kloc] at hm;exact ⟨m,hm⟩) (by omega) hDC g
   have hk2:HOk X.prog X.w H1 s2.heap:=by have:=I2.hok;rw [kp,kw] at this;exact this
   refine I.call' (ch:=fp) (by have:=I2.os;rw [ks] at this;exact this) (u2.add (hfr D (Nat.le_refl _)) (hHn D (Nat.le_refl _))) (hk2.add p2 ⟨hz,its,c,rv,p1⟩) I2.bare λb hb=>?_
   exact ⟨(hf b hb).2.2.2.1,(hf b hb).2.1,(hf b hb).2.2.2.2.1,(hf b hb).2.2.2.2.2⟩
  ·have im:=T.item K kp kw kK kc i _ s1 _ H1 (notedBy (model X.prog X.w) X.A (compEnvC scope cl C X.env) λe s'=>RR (.ref D) C (.error e) s') I1 (stat f1) t1 go
   rw [kA] at im
   refine thn im λr s2 ⟨u,hr,h2⟩=>?_
   subst hr
   show wpAny _ _ (assign (.Name x px) (compEnvC scope cl C X.env) u) _ _ s2
   have h2':wpAny (model X.prog X.w) X.A (pure ():Sem Unit) _ _ s2:=h2
   suffices q:wpAny (model X.prog X.w) X.A ((pure ():Sem Unit) >>= λ_=>assign (.Name x px) (compEnvC scope cl C X.env) u) _ _ s2 from q
   refine wpAny_bind (thn h2' λ_ s3 ⟨v,H3,I3,r3,y3,t3,f3⟩=>?_)
   have q3:=step v H3 y3
   have I3':=I3.pinned (stat f3) (T.obj _ _ t3)
   rw [← kenv]
   refine wpAny_assign_Name (X0 I3' (i:=0) (x:=x) (by rw [kN];exact hN) (by rw [kN];rfl) (.inl (by rw [kenv];exact lookup_relabel_local B.lx)) r3 (λs4 I4=>?_) (.inr (by rw [kenv];exact lookup_relabel_local B.lx)))
   have I4:Inv K ([(D,{ cls:=.type "list",data:=.seq its.toArray c })]++Qap fp s3.heap) (bS σ (some v) ix) H3 s4:=I4
   have hi':=hi cl C s H fp
   rw [hK] at hi'
   have hiv:=hi' _ s4 _ H3 _ I4 q3
   rw [kx,kp,kw,kA] at hiv
   refine wpAny_mono hiv (λok s5 ⟨H5,I5,q5⟩=>?_) λ_ _ z=>z.elim
   have back:∀{H7:Hp} {s7:Shared} {o7:Option V},Inv K ([(D,{ cls:=.type "list",data:=.seq its.toArray c })]++Qap fp s3.heap) (bS σ o7 ix) H7 s7->tn (i+1) s7.heap/\∀b∈fp,H7 b=none:=λ{H7 s7 o7} I7=>by
    refine ⟨T.keep _ _ _ t3 λb hb o e=>(I7.pin (b,o) (List.mem_append_right _ (List.mem_append_right _ (Zz hb e)))).1,λb hb=>?_⟩
    obtain ⟨ob,e,d⟩:=T.obj _ _ t3 b hb
    exact (I7.pin (b,ob) (List.mem_append_right _ (List.mem_append_right _ (Zz hb e)))).2.1
   cases ok with
   | false =>
    rw [if_neg Bool.false_ne_true]
    have q5:∃m',m' < n/\W (i+1) m' ys H5:=q5
    obtain ⟨m',hm,w5⟩:=q5
    obtain ⟨b1,b2⟩:=back I5
    exact ⟨m',hm,i+1,some v,H5,ys,its,c,I5.unpinned,rv,b1,b2,w5⟩
   | true =>
    rw [if_pos rfl]
    have q5:te (bS σ (some v) ix) H5 λy H2=>∃m',m' < n/\W (i+1) m' (ys++[y]) H2:=q5
    have he':=he cl C s H fp
    rw [hK] at he'
    have hev:=he' _ s5 _ H5 _ I5 q5
    rw [kx,kp,kw,kA] at hev
    refine wpAny_mono hev (λy s6 ⟨yv,H6,I6,r6,m',hm,w6⟩=>?_) λ_ _ z=>z.elim
    obtain ⟨b1,b2⟩:=back I6
    have I6':=I6.unpinned
    obtain ⟨p1,p2,p3,p4,p5⟩:=I6'.pin (D,{ cls:=.type "list",data:=.seq its.toArray c }) (List.mem_append_right _ (List.mem_singleton.mpr rfl))
    have hlen:=rv.length
    refine call_meets F.slot_list_append ⟨_,p1,rfl⟩ F.entry_list_append (F.args_list_append_2 _ _) (PySem.list_append D its.toArray c y (by rw [List.size_toArray];omega)) ⟨p1,?_⟩
    have ea:its.toArray.push y=(its++[y]).toArray:=by simp
    obtain ⟨c',q⟩:∃c',(s6.heap.update D (Obj.mapSeq (·.push y))).get? D=some { cls:=.type "list",data:=.seq (its++[y]).toArray c' }:=⟨_,by rw [← ea];exact PySem.IsL.update p1 (·.push y)⟩
    refine ⟨m',hm,i+1,some v,H6,ys++[yv],its++[y],c',?_,rv.append (.cons r6 .nil),T.keep _ _ _ b1 λb hb o e=>?_,b2,w6⟩
    ·have Id:Inv K [] (bS σ (some v) ix) H6 s6:=I6'.pins_of λp hp=>by simp at hp
     have It:Inv K [] (bS σ (some v) ix) H6 { s6 with heap:=s6.heap.update D (Obj.mapSeq (·.push y)) }:=Id.turned (t':=s6.toks) (it:=D) (λb o hb e=>(Heap.get?_update_other _ _ (Ne.symm hb)).trans e) p2 p3
      (.inr (by rw [ks];omega)) (λy' c' e=>by rw [kcl] at e;exact Nat.ne_of_lt (cellLt y' c' e)) (λp hp=>by rw [kpn] at hp;simp at hp)
     refine It.pins_of λp hp=>?_
     obtain rfl:p=(D,{ cls:=.type "list",data:=.seq (its++[y]).toArray c' }):=by simpa using hp
     refine ⟨q,p2,p3,p4,λv z=>?_⟩
     have z':Data.seq _ _=Data.cell v:=z
     cases z'
    ·exact (Heap.get?_update_other _ _ (Nat.ne_of_gt (hl b hb))).trans e
 have selfs:wpAny (model X.prog X.w) X.A (pyIter (.ref it)) (λit' s'=>codeAny (model X.prog X.w) X.A (.compLoop (.ListComp elt [⟨.Name x px,iter,ifs,0⟩] scope pos) 0 it' (.ref D) (compEnvC scope cl C X.env)) (RR (.ref D) C) s')
   (notedBy (model X.prog X.w) X.A (compEnvC scope cl C X.env) λe s'=>RR (.ref D) C (.error e) s') { s with heap:=h₁,toks:=s.toks+([]:List (Str × Value)).length }:=T.self X.A 0 _ _ _ st₁ (loop _)
 exact codeAny_compStart_list (loop _) selfs
def Qn8 (wi:TI) (tt:TT) (te:TE) (ix:List Nat):TE:=λσ H Q=>wi σ H λJ H1=>∃(W:Nat->Nat->List V->Hp->Prop) (m₀:Nat),W 0 m₀ [] H1 /\
 ∀i m ys H,W i m ys H->(J.stop i H/\ys.length<=sizeLine/\∀l,H l=none->Q (.ref l) (upd H l (.lst ys)))\/(J.go i H/\ys.length<sizeLine/\∀v H',J.yld i H v H' ->
  tt (bS σ (some v) ix) H' λb H1=>if b=true then te (bS σ (some v) ix) H1 λy H2=>∃m',m' < m/\W (i+1) m' (ys++[y]) H2 else ∃m',m' < m/\W (i+1) m' ys H1)
theorem Qc7 {scope:Scope} {x:Str} {pins:List (Addr × Obj)} {σ:St} {H:Hp} {s:Shared} (I:Inv X pins σ H s) (B:BlkScope X.env scope x):∀y∈scope.names,y.2=.free->∃c,X.env.cells.lookup y.1=some c :=
 λy hy hf=>I.ok.has y.1 (B.free y hy hf)
theorem Inv.blkGone {pins:List (Addr × Obj)} {σ:St} {H:Hp} {s s₀:Shared} {H₀:Hp} {C:Addr} {h':Heap} {σ₀:St} (I₀:Inv X pins σ₀ H₀ s₀) (I:Inv X pins σ H s) (hC:s₀.heap.objs.size<=C) (hn:H C=none) (hs:Heap.SameBut C s.heap h'):Inv X pins σ H { s with heap:=h' } :=
 I.turned (t':=s.toks) (it:=C) (λb o hb e=>(hs.2 b hb).trans e) hn (Nat.ne_of_gt (Nat.lt_of_lt_of_le I₀.lt hC)) (.inr (Nat.le_trans I₀.sz hC))
  (λx c e=>by obtain ⟨v,z⟩:=I₀.cell x c e;exact Nat.ne_of_lt (Nat.lt_of_lt_of_le z.lt hC)) (λp hp=>Nat.ne_of_lt (Nat.lt_of_lt_of_le (Heap.lt_size (I₀.pin p hp).1) hC))
theorem Qo4 {elt iter:Expr} {x:Str} {px pos:Pos} {scope:Scope} {te:TE} {tt:TT} {wi:TI} {ifs:List Expr} (ix:List Nat) (hc:X.calm=true) (B:BlkScope X.env scope x)
  (hix:∀i∈ix,∃y,X.N[i]? = some y/\scope.names.lookup y=some .free) (hN:(bN X.N x ix).Nodup) (hi:PI X (.Name x px) iter wi)
  (ht:∀cl C s₀ H₀ fp,PIfs (Zg X scope cl C (bN X.N x ix) s₀ H₀ fp) ifs tt)
  (he:∀cl C s₀ H₀ fp,PE (Zg X scope cl C (bN X.N x ix) s₀ H₀ fp) elt te)
  (hs:∀x,foldedSetIterable iter X.env x=pure x:=by intro _;rfl) :
  PE X (.ListComp elt [⟨.Name x px,iter,ifs,0⟩] scope pos) (Qn8 wi tt te ix):=by
 intro pins s σ H Q I h
 obtain ⟨cl,hcl,h1,h3⟩:=U6 (Qc7 I B)
 rw [eval_ListComp]
 refine wpAny_comprehension_free (use:=none) rfl hs hcl B.kind B.names (thn (hi pins s σ H _ I h) λv s1 h1'=>thn h1' λitv s2 h2=>?_)
 obtain ⟨it,fp,tn,J,H2,e,I2,T,st2,f2,W,m0,w0,turn⟩:=h2
 subst e
 refine Qg2 (G:=λys H'=>∀l,H' l=none->Q (.ref l) (upd H' l (.lst ys))) I2 hc B h1 h3 hix hN T st2 f2 he ht W m0 w0 turn λD C s' ys H' I' hD hC hm hCs hDC g=>?_
 obtain ⟨m,hm⟩:=hm
 refine ⟨m,hm,λh' hsb=>⟨.ref D,upd H' D (.lst ys),I2.blkGone I' hCs (by rw [Qy (Ne.symm hDC)];exact hC) hsb,rfl,g D hD⟩⟩
theorem Qo0 {elt iter:Expr} {x y:Str} {px py pos spos:Pos} {scope:Scope} {te:TE} {tt:TT} {wi:TI} {ifs:List Expr} {j:Nat} (ix:List Nat) (hc:X.calm=true) (B:BlkScope X.env scope x)
  (hNd:X.N.Nodup) (hj:X.N[j]? = some y) (hy:Loc X.env.scope y)
  (hsw:swapsWith (.ListComp elt [⟨.Name x px,iter,ifs,0⟩] scope pos) (some (.Name y py)) spos.line X.env=pure true)
  (hix:∀i∈ix,∃y,X.N[i]? = some y/\scope.names.lookup y=some .free) (hN:(bN X.N x ix).Nodup) (hi:PI X (.Name x px) iter wi)
  (ht:∀cl C s₀ H₀ fp,PIfs (Zg X scope cl C (bN X.N x ix) s₀ H₀ fp) ifs tt)
  (he:∀cl C s₀ H₀ fp,PE (Zg X scope cl C (bN X.N x ix) s₀ H₀ fp) elt te)
  (hf:X.fn y=true\/X.env.scope.names.lookup y=some .local:=by first | exact .inl rfl | exact .inr rfl | assumption)
  (hs:∀x,foldedSetIterable iter X.env x=pure x:=by intro _;rfl) :
  PS X (.Assign [.Name y py] (.ListComp elt [⟨.Name x px,iter,ifs,0⟩] scope pos) spos) (tAsg (Qn8 wi tt te ix) (Qfi j)):=by
 intro pins s σ H D0 I h
 obtain ⟨cl,hcl,h1,h3⟩:=U6 (Qc7 I B)
 rw [exec_Assign_Name_used _ _ _ _ hsw]
 refine wpAny_bind (wpAny_standAt (wpAny_bind ?_))
 show wpAny _ X.A (do let _ ← comprehension (.ListComp elt [⟨.Name x px,iter,ifs,0⟩] scope pos) scope X.env _ (newList []) false (eval iter X.env) (some (assign (.Name y py) X.env))) _ _ s
 refine wpAny_bind (wpAny_mono (wpAny_comprehension_free (use:=some (assign (.Name y py) X.env)) (Q:=λ_ s'=>SP X pins D0 .next s') rfl hs hcl B.kind B.names
  (thn (hi pins s σ H _ I h) λv s1 h1'=>thn h1' λitv s2 h2=>?_)) (λ_ s' hq=>wpAny_pure (wpAny_pure hq)) λ_ _ e=>e)
 obtain ⟨it,fp,tn,J,H2,e,I2,T,st2,f2,W,m0,w0,turn⟩:=h2
 subst e
 refine Qg2 (G:=λys H'=>∀l,H' l=none->Qfi j (.ref l) σ (upd H' l (.lst ys)) D0.nx) I2 hc B h1 h3 hix hN T st2 f2 he ht W m0 w0 turn λD C s' ys H' I' hD hC hm hCs hDC g=>?_
 obtain ⟨m,hm⟩:=hm
 have hCn:upd H' D (.lst ys) C=none:=by rw [Qy (Ne.symm hDC)];exact hC
 show wpAny _ _ (assign (.Name y py) X.env (.ref D)) _ _ s'
 refine wpAny_assign_Name (Qdj I' hNd hj hy (show RelV (.ref D) (.ref D) from rfl) (λs3 I3 ⟨a,hsa,ha⟩=>?_) hf)
 have hCa:C≠a:=by
  rcases ha with z | z
  ·rw [z];exact Nat.ne_of_gt (Nat.lt_of_lt_of_le I2.lt hCs)
  ·obtain ⟨v,q⟩:=I2.cell y a z;exact Nat.ne_of_gt (Nat.lt_of_lt_of_le q.lt hCs)
 exact ⟨m,hm.sameBut hsa hCa,λh' hsb=>⟨_,_,I2.blkGone I3 hCs hCn hsb,g D hD⟩⟩
end
end L2
namespace L2
open PySem PySem.Spec PyProof.Rows
section
variable {X:Cx}
theorem Inv.turnNew {pins:List (Addr × Obj)} {σ:St} {H:Hp} {s:Shared} {ch:List Addr} {T:Addr} {o:HO} {h':Heap} {t':Nat} (I:Inv X pins σ H s) (hT:s.heap.objs.size<=T)
  (k:∀b u,b∉ch->s.heap.get? b=some u->h'.get? b=some u) (hch:∀b∈ch,FpOk X pins H b) (new:Yx X.prog X.w (upd H T o) h' T o):Inv X pins σ (upd H T o) { s with heap:=h',toks:=t' }:=by
 have hn:H T=none:=I.hok.fresh hT
 have hg:s.heap.get? T=none:=by
  cases e:s.heap.get? T with
  | none=>rfl
  | some u=>exact absurd (Heap.lt_size e) (Nat.not_lt.mpr hT)
 have u:Un (frs X.stack) ch H H s.heap h':=⟨λb q e _ _ hx=>k b q hx e,λb q e _ _ hx=>⟨q.slots,k b q hx e⟩,λb q e n _=>n,λb q e hx=>⟨q,k b q hx e⟩,λ_ _ e=>e,λ_ _ _ e=>e,λb ps e=>⟨#[],by rw [Array.append_empty];exact e⟩⟩
 have hok:HOk X.prog X.w H h':=λb q e=>(I.hok b q e).stay (λc v hc z=>k c v (λm=>by
  have q1:=(hch c m).1
  rcases hc with rfl | hc
  ·rw [q1] at e;cases e
  ·rw [q1] at hc;cases hc) z) (λ_ z=>z) λ_ _ z=>z
 exact I.call' (s':={ s with heap:=h',toks:=t' }) rfl (u.add hg hn) (hok.add hn new) I.bare λb hb=>⟨(hch b hb).2.2.2.1,(hch b hb).2.1,(hch b hb).2.2.2.2.1,(hch b hb).2.2.2.2.2⟩
theorem Inv.turnAll {pins:List (Addr × Obj)} {σ:St} {H:Hp} {s:Shared} {ch:List Addr} {h':Heap} {t':Nat} (I:Inv X pins σ H s)
  (k:∀b u,b∉ch->s.heap.get? b=some u->h'.get? b=some u) (hch:∀b∈ch,FpOk X pins H b):Inv X pins σ H { s with heap:=h',toks:=t' }:=by
 have u:Un (frs X.stack) ch H H s.heap h':=⟨λb q e _ _ hx=>k b q hx e,λb q e _ _ hx=>⟨q.slots,k b q hx e⟩,λb q e n _=>n,λb q e hx=>⟨q,k b q hx e⟩,λ_ _ e=>e,λ_ _ _ e=>e,λb ps e=>⟨#[],by rw [Array.append_empty];exact e⟩⟩
 have hok:HOk X.prog X.w H h':=λb q e=>(I.hok b q e).stay (λc v hc z=>k c v (λm=>by
  have q1:=(hch c m).1
  rcases hc with rfl | hc
  ·rw [q1] at e;cases e
  ·rw [q1] at hc;cases hc) z) (λ_ z=>z) λ_ _ z=>z
 exact I.call' (s':={ s with heap:=h',toks:=t' }) rfl u hok I.bare λb hb=>⟨(hch b hb).2.2.2.1,(hch b hb).2.1,(hch b hb).2.2.2.2.1,(hch b hb).2.2.2.2.2⟩
end
section
variable {prog:Program} {w:World} {A:Around} {E:Value->Shared->Prop} {s:Shared}
end
section
variable {X:Cx}
end
end L2
namespace L2
open PySem PySem.Spec PyProof.Rows
section
variable {X:Cx}
end
section
variable {X:Cx}
end
end L2
namespace L2
open PySem PySem.Spec PyProof.Rows
open PySem.W (Dat kqdP kqdPs kqdOk)
mutual
inductive DV (H:Hp):V->Dat->Prop
 | non:DV H .non .none
 | int (i:Int):DV H (.int i) (.int i)
 | str (x:Str):DV H (.str x) (.str x)
 | tup {a:Addr} {xs:List V} {ds:List Dat} (e:H a=some (.tup xs)) (r:DVs H xs ds):DV H (.ref a) (.tuple ds)
 | lst {a:Addr} {xs:List V} {ds:List Dat} (e:H a=some (.lst xs)) (r:DVs H xs ds):DV H (.ref a) (.list ds)
inductive DVs (H:Hp):List V->List Dat->Prop
 | nil:DVs H [] []
 | cons {x:V} {d:Dat} {xs:List V} {ds:List Dat} (h:DV H x d) (r:DVs H xs ds):DVs H (x::xs) (d::ds)
end
mutual
theorem DV.reads {P:Program} {w:World} {H:Hp} {h:Heap} (ok:HOk P w H h):∀{x:V} {d:Dat} {u:Value},DV H x d->RelV x u->∃as,Reads h u (kqdP d) as
 | _,_,_,.non,r=>by cases r;exact ⟨_,by rw [kqdP];exact Reads.none⟩
 | _,_,_,.int i,r=>by obtain ⟨t,rfl⟩:=r;exact ⟨_,by rw [kqdP];exact Reads.int i t⟩
 | _,_,_,.str x,r=>by obtain ⟨t,rfl⟩:=r;exact ⟨_,by rw [kqdP];exact Reads.str x t⟩
 | _,_,_,.tup (a:=a) e q,r=>by
  cases r
  obtain ⟨_,its,rv,o,h1,h2,n,h3⟩:=ok a _ e
  obtain ⟨as,z⟩:=DVs.reads ok q rv
  rw [kqdP]
  exact ⟨as,reads_tuple_at h1 h2 h3 (by simpa using z)⟩
 | _,_,_,.lst (a:=a) e q,r=>by
  cases r
  obtain ⟨_,its,n,rv,h1⟩:=ok a _ e
  obtain ⟨as,z⟩:=DVs.reads ok q rv
  rw [kqdP]
  exact ⟨_,reads_list_at h1 rfl rfl (by simpa using z)⟩
theorem DVs.reads {P:Program} {w:World} {H:Hp} {h:Heap} (ok:HOk P w H h):∀{xs:List V} {ds:List Dat} {us:List Value},DVs H xs ds->Vals xs us->∃as,ReadsAll h us (kqdPs ds) as
 | _,_,_,.nil,r=>by cases r;exact ⟨_,by rw [kqdPs];exact ReadsAll.nil⟩
 | _,_,_,.cons p q,r=>by
  cases r with
  | cons r1 r2 =>
   obtain ⟨as,z⟩:=DV.reads ok p r1
   obtain ⟨bs,y⟩:=DVs.reads ok q r2
   rw [kqdPs]
   exact ⟨_,ReadsAll.cons z y⟩
end
theorem Yp {n:Nat} {d:Dat} (h:kqdOk n d=true) (hn:n<=9):SeqAt.shaped (kqdP d)=true:=by
 have l:=PySem.W.kqd_lay n d h
 unfold SeqAt.shaped
 rw [l.1,Bool.true_and]
 exact decide_eq_true (Nat.le_trans l.2 (Nat.le_trans hn (by decide)))
open Classical in
theorem Qa8 {n k:Nat} {d e:Dat} (h:kqdOk n d=true) (h':kqdOk k e=true):PyData.eqv (kqdP d) (kqdP e)=decide (d=e):=by
 have q:=PySem.W.kqd_eqv n d e k h h'
 by_cases hq:d=e
 ·rw [decide_eq_true hq];exact q.mpr hq
 ·rw [decide_eq_false hq];exact Bool.eq_false_iff.mpr λx=>hq (q.mp x)
section
variable {X:Cx}
def rDat (neg:Bool):R2:=λx y H Q=>∃d e n,DV H x d/\DV H y e/\kqdOk n d=true/\kqdOk n e=true/\n<=9/\((d=e->Q (.bl (!neg)) H)/\(d≠e->Q (.bl neg) H))
theorem Qrz (hu:X.A.units+64<cLine):OpR X (compareOp .Eq) (rDat false):=by
 classical
 intro pins s σ H x y v u Q I rx ry h
 obtain ⟨d,e,n,dx,dy,hd,he,hn,q1,q2⟩:=h
 obtain ⟨as,ra⟩:=dx.reads I.hok rx
 obtain ⟨bs,rb⟩:=dy.reads I.hok ry
 refine eq_dataH ra rb (Yp hd hn) (Yp he hn) hu ?_
 rw [Qa8 hd he]
 by_cases hq:d=e
 ·rw [decide_eq_true hq];exact ⟨.bl true,H,I,rfl,q1 hq⟩
 ·rw [decide_eq_false hq];exact ⟨.bl false,H,I,rfl,q2 hq⟩
theorem Qrv (hu:X.A.units+64<cLine):OpR X (compareOp .NotEq) (rDat true):=by
 classical
 intro pins s σ H x y v u Q I rx ry h
 obtain ⟨d,e,n,dx,dy,hd,he,hn,q1,q2⟩:=h
 obtain ⟨as,ra⟩:=dx.reads I.hok rx
 obtain ⟨bs,rb⟩:=dy.reads I.hok ry
 refine ne_dataH ra rb (Yp hd hn) (Yp he hn) hu ?_
 rw [Qa8 hd he]
 by_cases hq:d=e
 ·rw [decide_eq_true hq];exact ⟨.bl false,H,I,rfl,q1 hq⟩
 ·rw [decide_eq_false hq];exact ⟨.bl true,H,I,rfl,q2 hq⟩
theorem Qfn:Uo X (.builtin "isinstance") (λxs H Q=>∃x T t b,xs=[x,.ty T]/\TyOf X.K H x (.type t)/\PySem.W.kitOne X.K (.type t) (.type T)=some b/\Q (.bl b) H):=by
 intro pins s σ H xs us Q I r h
 obtain ⟨x,T,t,b,rfl,ty,e,q⟩:=h
 obtain ⟨u,c,rfl,ru,rc⟩:=Qqg r
 cases (show c=Value.type T from rc)
 exact Qjp I ru ty e λtk=>⟨.bl b,H,I.tok _,rfl,q⟩
end
end L2
namespace SortT
open PySem PySem.W PyProof.Rows
structure Ord (f:Nat->Nat->Bool):Prop where
 asym:∀i j,f i j=true->f j i=false
 tr:∀i j k,f j i=false->f k j=false->f k i=false
section
variable {f:Nat->Nat->Bool} (O:Ord f)
include O in
abbrev at_ (p:Array Nat) (i:Nat):Nat:=p.getD i 0
end
end SortT
namespace SortT
open PySem PySem.W PyProof.Rows
section
variable {N:Nat}
end
section
variable {prog:Program} {w:World} {A:Around} {E:Value->Shared->Prop} {s:Shared}
end
end SortT
namespace L2
open PySem PySem.Spec PyProof.Rows
theorem Yx.there {P:Program} {w:World} {H:Hp} {h:Heap} {a:Addr} {o:HO} (x:Yx P w H h a o):∃ob,h.get? a=some ob:=by
 cases o with
 | lst xs=>obtain ⟨_,_,_,_,e⟩:=x;exact ⟨_,e⟩
 | tup xs=>obtain ⟨_,_,_,o,e,_⟩:=x;exact ⟨_,e⟩
 | dK kvs=>obtain ⟨_,_,_,_,o,_,_,e,_⟩:=x;exact ⟨_,e⟩
 | dT kvs=>obtain ⟨_,_,_,_,o,_,_,e,_⟩:=x;exact ⟨_,e⟩
 | set S n=>obtain ⟨o,_,_,_,e,_⟩:=x;exact ⟨_,e⟩
 | ins C dx fs=>obtain ⟨_,_,_,e,_⟩:=x;exact ⟨_,e⟩
 | own y=>exact x
 | xd fs=>obtain ⟨_,⟨_,_,_,e,_⟩,_⟩:=x;exact ⟨_,e⟩
 | rng lo hi=>obtain ⟨_,_,_,e⟩:=x;exact ⟨_,e⟩
 | frz ob u=>obtain ⟨e,_⟩:=x;exact ⟨_,e⟩
 | tbl ps=>obtain ⟨_,e,_⟩:=x;exact ⟨_,e⟩
 | met f y=>exact ⟨_,(show h.get? a=some _ from x)⟩
 | ext φ=>obtain ⟨_,e,_⟩:=x;exact e
section
variable {X:Cx}
end
end L2
namespace L2
open PySem PySem.Spec PyProof.Rows
end L2
namespace L2
open PySem PySem.Spec PyProof.Rows
theorem Qpn {P:Program} {w:World} {k:Key} {u:Value} (h:(J8 P w).is k u=true):RelV (kV k) u:=by
 rw [Qhn] at h
 rcases J4 h with ⟨i,t,rfl,rfl⟩ | ⟨x,t,rfl,rfl⟩
 ·exact ⟨t,rfl⟩
 ·exact ⟨t,rfl⟩
section
variable {X:Cx}
end
end L2
namespace HT
open PySem PySem.Spec PyProof.Rows L2
section
variable {prog:Program} {w:World} {A:Around} {E:Value->Shared->Prop} {s:Shared}
theorem Qmp {t b:Addr} {ws:List Value} {Q:Value->Shared->Prop} (ht:IsTup s.heap t ([]:List Value).toArray) (hb:IsTup s.heap b ws.toArray) (h1:Q (.ref b) s):wpAny (model prog w) A (binaryOp .Add (.ref t) (.ref b)) Q E s:=by
 obtain ⟨⟨cls,dd,data,sl⟩,ho,hc,n,hd⟩:=id ht
 obtain ⟨⟨cls2,dd2,data2,sl2⟩,ho2,hc2,n2,hd2⟩:=id hb
 simp only at hc hd hc2 hd2
 subst hc hd hc2 hd2
 exact concat_meets ⟨_,ho,rfl⟩ ⟨_,ho2,rfl⟩ noFill_tuple_add seq_tuple_add PySem.F.slot_tuple_add PySem.F.entry_tuple_add (PySem.F.args_tuple_add_2 _ _)
   (tuple_addW0 t b ([]:List Value).toArray ws.toArray n n2 dd dd2 sl sl2 rfl) ⟨ho,ho2,h1⟩
theorem U4 {t sl:Addr} {items:Array Value} {vl vu:Value} {lo hi:Option Int} {Q:Value->Shared->Prop} (ht:IsTup s.heap t items) (hs:s.heap.IsSliceOf sl vl vu .none) (pl:IsPart vl lo) (pu:IsPart vu hi)
  (hw:sIx items.size 0 lo=0/\sIx items.size items.size hi=items.size)
  (h:Q (.ref t) s):wpAny (model prog w) A (getItem (.ref t) (.ref sl)) Q E s:=by
 obtain ⟨os,hos,hcs,hds⟩:=id hs
 have hTs:s.TypeIs (.ref sl) "slice":=⟨os,hos,hcs⟩
 unfold getItem
 try with_reducible refine wpAny_holding ?_
 first | refine wpAny_bind (wpAny_pure ?_) | skip
 refine wpAny_bind (wpAny_sequenceKey ht.typeIs (by decide) ?_)
 refine wpAny_bind (wpAny_callSpecial?_slot (name:=Str.ofString "__getitem__") ht.typeIs PyProof.Rows.slot_tuple_getitem
  (wpAny_call_entry PyProof.Rows.slot_tuple_getitem ht.typeIs entry_tuple_getitem ?_ (args_tuple_getitem _ _)))
 show wpAny _ _ (Builtin.Tuple.tupleItemsOf (.ref t) >>= _) _ _ s
 refine wpAny_bind (tupleItemsOf_ ht ?_)
 refine wpAny_bind (wpAny_typeOf hTs ?_)
 rw [if_pos (by decide)]
 refine wpAny_bind (V6 hs pl pu ?_)
 have hyes:(((sIx items.size 0 lo:Nat):Int) == 0 && (1:Int) == 1 && (sIx items.size items.size hi-sIx items.size 0 lo) == items.size)=true:=by
  rw [hw.1,hw.2];simp
 show wpAny _ _ (if (((sIx items.size 0 lo:Nat):Int) == 0 && (1:Int) == 1 && (sIx items.size items.size hi-sIx items.size 0 lo) == items.size)=true then _ else _) _ _ s
 rw [if_pos hyes]
 refine wpAny_bind (wpAny_bind (wpAny_typeOf ht.typeIs (wpAny_pure ?_)))
 rw [if_pos (by decide)]
 refine wpAny_bind (wpAny_rule ?_)
 first
  | exact wpAny_bind (wpAny_pure (wpAny_pure ⟨_,rfl,wpAny_pure h⟩))
  | exact wpAny_pure ⟨_,rfl,wpAny_pure h⟩
  | exact wpAny_bind (wpAny_pure ⟨_,rfl,wpAny_pure h⟩)
end
end HT
namespace L2
open PySem PySem.Spec PyProof.Rows
section
variable {X:Cx}
def Quc (K:PySem.W.Frag):R2:=λx y H Q=>∃a b ys,x=.ref a/\y=.ref b/\SqT K H a []/\SqT K H b ys/\Q (.ref b) H
theorem Qpe:OpR X (binaryOp .Add) (Quc X.K):=by
 intro pins s σ H x y v u Q I rx ry h
 obtain ⟨a,b,ys,rfl,rfl,ha,hb,q⟩:=h
 cases rx
 cases ry
 obtain ⟨its,r1,p1,_⟩:=I.tuple ha
 obtain ⟨its2,r2,p2,_⟩:=I.tuple hb
 have:its=[]:=by cases r1;rfl
 subst this
 exact HT.Qmp p1 p2 ⟨.ref b,H,I,rfl,q⟩
def rSlW (K:PySem.W.Frag):V->Option Int->Option Int->Hp->VK->Prop:=λx lo hi H Q=>∃a xs,x=.ref a/\SqT K H a xs /\
 (HT.sIx xs.length 0 lo=0/\HT.sIx xs.length xs.length hi=xs.length)/\Q (.ref a) H
theorem Qoh:SlR X (rSlW X.K):=by
 intro pins s σ H x v vl vu lo hi sl Q I rx hs pl pu h
 obtain ⟨a,xs,rfl,hx,hw,q⟩:=h
 cases rx
 obtain ⟨its,r,ht,hz⟩:=I.tuple hx
 have hlen:its.toArray.size=xs.length:=by rw [List.size_toArray];exact r.length.symm
 refine ⟨"tuple",_,PyProof.Rows.slot_tuple_getitem.lookup,ht.typeIs,?_⟩
 exact HT.U4 ht hs pl pu (by rw [hlen];exact hw) ⟨.ref a,H,I,rfl,q⟩
theorem Qdf {P:Program} {w:World}:∀{kvs:List (Key × V)} {vs:List (Key × Value)} {us:List Value},KV kvs vs->us.length=vs.length ->
  (∀(j:Nat) v,us[j]? = some v->∃k x,vs[j]? = some (k,x)/\(J8 P w).is k v=true)->Vals (kvs.map λkv=>kV kv.1) us
 | [],_,us,.nil,hl,_=>by
  cases us with
  | nil=>exact .nil
  | cons _ _=>simp at hl
 | p::r,q::t,us,.cons h rel,hl,hv=>by
  cases us with
  | nil=>simp at hl
  | cons u us =>
   obtain ⟨k,x,e,hk⟩:=hv 0 u rfl
   simp only [List.getElem?_cons_zero,Option.some.injEq] at e
   refine .cons ?_ (Qdf (P:=P) (w:=w) rel (by simpa using hl) λj v e=>?_)
   ·show RelV (kV p.1) u
    rw [h.1,e];exact Qpn hk
   ·obtain ⟨k,x,e',hk⟩:=hv (j+1) v (by simpa using e)
    exact ⟨k,x,by simpa using e',hk⟩
end
end L2
namespace HT
open PySem PySem.Spec PyProof.Rows L2
section
variable {prog:Program} {w:World} {K:Type} [DecidableEq K] {knd:KeyKind prog w K} {A:Around} {E:Value->Shared->Prop} {s:Shared}
end
section
variable {prog:Program} {w:World} {A:Around} {E:Value->Shared->Prop} {s:Shared}
end
section
variable {prog:Program} {w:World} {K:Type} [DecidableEq K] {knd:KeyKind prog w K} {A:Around} {E:Value->Shared->Prop} {s:Shared}
end
end HT
namespace L2
open PySem PySem.Spec PyProof.Rows
section
variable {X:Cx}
end
end L2
namespace L2
open PySem PySem.Spec PyProof.Rows
section
variable {X:Cx}
theorem Qcw:∀{ns:List Int} {its:List Value},Vals (ns.map V.int) its->IntsAre its ns
 | [],_,r=>by rw [List.map_nil] at r;cases r;exact .nil
 | n::ns,_,r=>by
  rw [List.map_cons] at r
  cases r with
  | cons h t=>obtain ⟨tk,rfl⟩:=h;exact .cons n tk (Qcw t)
theorem Qec:∀{ns:List Int} {its:List Value},IntsAre its ns->Vals (ns.map V.int) its
 | _,_,.nil=>.nil
 | _,_,.cons n t h=>.cons ⟨t,rfl⟩ (Qec h)
variable {o e:Expr} {es:List Expr} {to:TE} {t:TA} {name:Str} {apos cpos:Pos} {T id:String} {r:V->List V->Hp->VK->Prop}
def isN (n:Int):Value->Bool
 | .int m _=>m == n
 | _=>false
theorem Qjr {its:List Value} {ns:List Int} (h:IntsAre its ns):∀v∈its,∃m t,v=Value.int m t:=by
 induction h with
 | nil=>intro v hv;cases hv
 | cons n t h ih =>
  intro v hv
  rcases List.mem_cons.mp hv with rfl | hv
  ·exact ⟨n,t,rfl⟩
  ·exact ih v hv
theorem Qem {P:Program} {w:World} {A:Around} {E:Value->Shared->Prop} {s:Shared} {T:String} {r d:Addr} {n:Nat} {Pv:Nat->Value->Prop} {OK:Heap->Prop} {Q:List Value->Shared->Prop} (K:PySem.W.KdlSrc P w T r d n Pv OK) (hh:A.handled=none) (hok:OK s.heap) (hn:n<=sizeLine)
  (h:∀h' tk (vs:List Value),(∀b o,s.heap.get? b=some o->h'.get? b=some o)->vs.length=n->(∀j v,vs[j]? = some v->Pv j v)->Q vs { s with heap:=h',toks:=tk }) :
  wpAny (model P w) A (collect (.ref r)) Q E s:=by
 unfold collect
 refine wpAny_bind (wpAny_runValue (codeAny_builtin entry_proto_collect' ?_))
 show wpAny _ _ (do again (.builtin "list.__iadd__" ⟨[← newList [],.ref r],[]⟩)) _ _ s
 refine wpAny_bind (wpAny_newList (wpAny_pure ⟨Code.quiet_builtin _ (by decide +kernel),codeAny_builtin entry_list_iadd' ?_⟩))
 show wpAny _ _ (Builtin.List.listExtendWith (.ref s.heap.objs.size) (.ref r) (.ref s.heap.objs.size)) _ _ { s with heap:=s.heap.push (seqObj "list" #[] 0) }
 have hlt:=K.there _ hok
 rw [Around.under_plainId (by decide +kernel) _]
 refine PySem.W.kdl_extend (R:=λr s'=>match r with
  | .ok (.ret v)=>wpAny (model P w) A (match v with
   | .ref a=>do
    let o ← load a
    match o.data with
    | .seq xs _=>pure xs.toList
    | _=>unsupported "internal:collect"
   | _=>unsupported "internal:collect") Q E s'
  | .ok _=>False
  | .error e=>E e s') (s:={ s with heap:=s.heap.push (seqObj "list" #[] 0) }) K hh (K.keep _ _ hok λb _ o e=>Heap.get?_push_of_some _ e) s.heap.objs.size (Nat.ne_of_gt hlt.1) (Nat.ne_of_gt hlt.2) (.ref s.heap.objs.size) 0 (Heap.get?_push_size _ rfl) (λh' tk acc' c' hk hS' hacc=>?_) hn
 show wpAny (model P w) A (do
   let o ← load s.heap.objs.size
   match o.data with
   | .seq xs _=>pure xs.toList
   | _=>unsupported "internal:collect") Q E { s with heap:=h',toks:=tk }
 refine wpAny_bind (wpAny_load hS' ?_)
 show wpAny _ _ (pure acc'.toList) Q E _
 exact wpAny_pure (h h' tk acc'.toList (λb o e=>hk b o (Nat.ne_of_lt (Heap.lt_size e)) (Heap.get?_push_of_some _ e)) (by rw [Array.length_toList];exact hacc.1) λj v e=>hacc.2 j v (by rw [← Array.getElem?_toList];exact e))
def Qq7:List V->Hp->VK->Prop:=λxs H Q=>∃(a:Addr) (kvs:List (Key × V)) (ns:List Int),xs=[.ref a]/\Rd H a (.dK kvs)/\kvs.map (·.1)=ns.map Sum.inl/\kvs.length<64 /\
 ∀(out:List Int) D,out.Perm ns->out.Pairwise (· <= ·)->H D=none->Q (.ref D) (upd H D (.lst (out.map V.int)))
theorem Qh1 (hc:X.calm=true):Uo X (.builtin "sorted") Qq7:=by
 intro pins s σ H xs us Q I r h
 obtain ⟨a,kvs,ns,rfl,ha,hks,h64,q⟩:=h
 obtain ⟨u,rfl,ru⟩:=Qcc r
 cases ru
 obtain ⟨z,hs,vs,rel,dd⟩:=Qc2 I.hok ha
 obtain ⟨ep,da⟩:=dd.dictAt
 have hlen:kvs.length=vs.length:=Paired.length rel
 refine Calls.call_function_entry kind_sorted plain_sorted entry_sorted (args_sorted1 _) ?_
 unfold Builtin.«sorted»
 refine wpAny_bind (m:=checkCount "sorted" 1 1 _) (wpAny_pure ?_)
 refine wpAny_bind (Qem (PySem.W.kdl_dict (knd:=J8 X.prog X.w) (kvs:=vs) (ep:=ep) hs) (I.ok.hd hc) da (by omega) λh1 tk us hk hul hit=>?_)
 have rv:Vals (kvs.map λkv=>kV kv.1) us:=Qdf (P:=X.prog) (w:=X.w) rel hul λj v e=>hit j v e
 have rv':Vals (ns.map V.int) us:=by
  have:(kvs.map λkv=>kV kv.1)=ns.map V.int:=by
   have h0:(kvs.map λkv=>kV kv.1)=(kvs.map (·.1)).map kV:=by rw [List.map_map];rfl
   rw [h0,hks,List.map_map];rfl
  rw [← this];exact rv
 have hI:=Qcw rv'
 have hus:us.length<64:=by omega
 refine wpAny_bind (wpAny_newList ?_)
 have hoL:(h1.push (seqObj "list" us.toArray 0)).get? h1.objs.size=some (seqObj "list" us.toArray 0):=Heap.get?_push_size _ rfl
 refine wpAny_bind (wpAny_holding (wpAny_call_entry slot_list_sort ⟨_,hoL,rfl⟩ entry_list_sort (list_sort_tree hoL hI hus λout ns' a1 a2 a3=>⟨_,rfl,?_⟩) (args_list_sort _)))
 refine wpAny_pure ⟨_,rfl,?_⟩
 obtain ⟨e,he⟩:=sortedHeap_at (out:=out) hoL
 have I1:Inv X pins σ H { s with heap:=h1,toks:=tk }:=I.kept (t':=tk) hk
 have I2:Inv X pins σ (upd H h1.objs.size (.lst (ns'.map V.int))) { s with heap:=sortedHeap (h1.push (seqObj "list" us.toArray 0)) h1.objs.size us out,toks:=tk }:=by
  refine I1.laid (t':=tk) (λb o eb=>?_) (Nat.le_refl _) ⟨?_,out.toList,e,Qec a1,?_⟩
  ·have hb:=Heap.lt_size eb
   rw [sortedHeap_old (Nat.ne_of_lt hb) (by rw [size_push'];exact Nat.lt_succ_of_lt hb)]
   exact Heap.get?_push_of_some _ eb
  ·have:=a2.length_eq
   have h2:=rv'.length
   rw [List.length_map] at h2 ⊢
   rw [this,h2,sizeLine_eq];omega
  ·rw [Array.toArray_toList];exact he
 exact ⟨.ref h1.objs.size,_,I2,rfl,q ns' _ a2 a3 (I1.hok.fresh (Nat.le_refl _))⟩
end
end L2
namespace L2
open PySem PySem.Spec PyProof.Rows
section
variable {prog:Program} {w:World} {A:Around} {R:Result->Shared->Prop} {s:Shared}
theorem Qbm {elt target iter:Expr} {ifs:List Expr} {scope:Scope} {pos:Pos} {it acc:Value} {env:Env} (I:Nat->Shared->Prop)
  (turn:∀n s,I n s->wpAny (model prog w) A (pyNext it) (λr s₁=>match r with
   | none=>R (.ok .next) s₁
   | some v=>wpAny (model prog w) A (letOwnedTupleGo target it v) (λ_ s₀=>wpAny (model prog w) A (assign target env v) (λ_ s₂ =>
     wpAny (model prog w) A (forIn ifs true λc r=>if r=true then do let ok ← isTrue c env (eval c env);pure (ForInStep.yield ok) else pure (ForInStep.yield r)) (λok s₃ =>
      if ok=true then wpAny (model prog w) A (eval elt env) (λx s₄ =>
       wpAny (model prog w) A (call (.builtin "list.append") [acc,x]) (λ_ s₅=>∃m,m<n/\I m s₅) (notedBy (model prog w) A env λe s'=>R (.error e) s') s₄) (notedBy (model prog w) A env λe s'=>R (.error e) s') s₃
      else ∃m,m<n/\I m s₃) (notedBy (model prog w) A env λe s'=>R (.error e) s') s₂) (notedBy (model prog w) A env λe s'=>R (.error e) s') s₀) (notedBy (model prog w) A env λe s'=>R (.error e) s') s₁) (notedBy (model prog w) A env λe s'=>R (.error e) s') s)
  (n:Nat) (h:I n s):codeAny (model prog w) A (.compLoop (.ListComp elt [⟨target,iter,ifs,0⟩] scope pos) 0 it acc env) R s:=by
 refine codeAny_loop rfl I (λn s hI=>?_) n h
 show wpAny _ A ((compTurn (.ListComp elt [⟨target,iter,ifs,0⟩] scope pos) 0 it acc env).onRaise (λx=>do noteFrame x env;theTreesLotGoes x)) _ _ s
 refine wpAny_noted ?_
 rw [compTurn_list]
 refine wpAny_bind (wpAny_standAt (wpAny_bind (wpAny_mono (turn n s hI) (λr s₁ h₁=>?_) λ_ _ h'=>h')))
 cases r with
 | none=>exact wpAny_pure h₁
 | some v =>
  refine wpAny_bind (wpAny_mono h₁ (λ_ s₀ h₀=>?_) λ_ _ h'=>h')
  refine wpAny_bind (wpAny_mono h₀ (λ_ s₂ h₂=>wpAny_bind (wpAny_mono h₂ (λok s₃ h₃=>?_) λ_ _ h'=>h')) λ_ _ h'=>h')
  cases ok with
  | false=>exact wpAny_pure ⟨rfl,h₃⟩
  | true =>
   exact wpAny_bind (wpAny_bind (wpAny_mono h₃ (λx s₄ h₄=>wpAny_bind (wpAny_mono h₄ (λ_ s₅ h₅=>wpAny_pure (wpAny_pure ⟨rfl,h₅⟩)) λ_ _ h'=>h')) λ_ _ h'=>h'))
end
def bN2 (N:List Str) (ts:List Str) (ix:List Nat):List Str:=ts++ix.map λi=>N.getD i Str.empty
def bS2 (σ:St) (o:List (Option V)) (ix:List Nat):St:=o++ix.map λi=>(σ[i]?).getD none
section
variable {X:Cx}
theorem Qkh {elt iter:Expr} {x:Str} {ts:List Str} {tg:Expr} {gt:TG} {pos:Pos} {scope:Scope} {te:TE} {tt:TT} {ifs:List Expr} {ix:List Nat} {pins:List (Addr × Obj)} {s:Shared} {σ:St} {H:Hp} {cl:List (Str × Addr)}
  {J:It} {fp:List Addr} {it:Addr} {tn:Nat->Heap->Prop} {E:Value->Shared->Prop} {RR:Value->Addr->Result->Shared->Prop} {G:List V->Hp->Prop}
  (I:Inv X pins σ H s) (hc:X.calm=true) (B:BlkScope X.env scope x) (h1:∀y c,cl.lookup y=some c->X.env.cells.lookup y=some c) (h3:∀y∈scope.names,y.2=.free->∃c,cl.lookup y.1=some c)
  (hix:∀i∈ix,∃y,X.N[i]? = some y/\scope.names.lookup y=some .free) (hN:(bN2 X.N ts ix).Nodup)
  (T:Turn X.prog X.w X.K tg J fp it tn) (st:tn 0 s.heap) (hf:∀b∈fp,FpOk X pins H b)
  (hg:∀cl C s₀ H₀ fp,PG (Zg X scope cl C (bN2 X.N ts ix) s₀ H₀ fp) tg gt)
  (he:∀cl C s₀ H₀ fp,PE (Zg X scope cl C (bN2 X.N ts ix) s₀ H₀ fp) elt te)
  (hi:∀cl C s₀ H₀ fp,PIfs (Zg X scope cl C (bN2 X.N ts ix) s₀ H₀ fp) ifs tt)
  (W:Nat->Nat->List V->Hp->Prop) (m₀:Nat) (w0:W 0 m₀ [] H)
  (turn:∀i m ys H,W i m ys H->(J.stop i H/\ys.length<=sizeLine/\G ys H)\/(J.go i H/\ys.length<sizeLine/\∀v H',J.yld i H v H'->∀o:List (Option V),o.length=ts.length->gt v (bS2 σ o ix) H' λσ2 H2=>∃o2:List (Option V),σ2=bS2 σ o2 ix/\o2.length=ts.length /\
    tt σ2 H2 λb H1=>if b=true then te σ2 H1 λy H2=>∃m',m' < m/\W (i+1) m' (ys++[y]) H2 else ∃m',m' < m/\W (i+1) m' ys H1))
  (hRR:∀D C s' ys H',Inv X pins σ (upd H' D (.lst ys)) s'->H' D=none->H' C=none->(∃m,s'.heap.Ns C m)->s.heap.objs.size<=C->D≠C->G ys H'->RR (.ref D) C (.ok .next) s') :
  wpAny (model X.prog X.w) X.A (newList []) (λacc s₃=>wpAny (model X.prog X.w) X.A (newFunctionEnv scope X.env.globals cl [] X.env.qual none .none (some X.env)) (λcenv s₄ =>
   codeAny (model X.prog X.w) X.A (.compStart (.ListComp elt [⟨tg,iter,ifs,0⟩] scope pos) 0 (.ref it) acc { cenv with scope:=relabel scope X.env }) (RR acc cenv.locals) s₄) E s₃) E s:=by
 have hl:∀b∈fp,b<s.heap.objs.size:=λb hb=>by obtain ⟨o,e,_⟩:=T.obj 0 _ st b hb;exact Heap.lt_size e
 refine wpAny_newObj_type (wpAny_newFunctionEnv B.cells (by intro y hy;simp at hy) (λh₁ hns₁ hsb₁=>?_) B.kind)
 dsimp only at hns₁ hsb₁ ⊢
 generalize hH2:s.heap.push { cls:=.type "list",dict:=none,data:=.seq ([]:List Value).toArray }=H2 at hns₁ hsb₁ ⊢
 have hC:H2.objs.size=s.heap.objs.size+1:=by rw [← hH2,Heap.size_push]
 generalize hD:s.heap.objs.size=D at hC hl hRR ⊢
 generalize hCC:H2.objs.size=C at hC hns₁ hsb₁ ⊢
 have hDC:D≠C:=by omega
 have old:∀b o,s.heap.get? b=some o->h₁.get? b=some o:=λb o e=>hsb₁.extBut b o (Nat.ne_of_lt (by have z:=Heap.lt_size e;rw [hD] at z;exact Nat.lt_of_lt_of_le z (by rw [hC];exact Nat.le_succ _))) (Heap.get?_push_of_some _ (hH2 ▸ Heap.get?_push_of_some _ e))
 have hacc:h₁.get? D=some { cls:=.type "list",data:=.seq ([]:List Value).toArray 0 }:=hsb₁.extBut _ _ hDC (Heap.get?_push_of_some _ (hH2 ▸ (by rw [← hD];exact Heap.get?_push_size _ rfl)))
 have hfr:∀a,D<=a->s.heap.get? a=none:=λa ha=>by
  cases e:s.heap.get? a with
  | none=>rfl
  | some o=>exact absurd (Heap.lt_size e) (by rw [hD];exact Nat.not_lt.mpr ha)
 have hHn:∀a,D<=a->H a=none:=λa ha=>I.hok.fresh (by omega)
 have ok:(Zg X scope cl C (bN2 X.N ts ix) s H fp).Ok:=Qny I B h1 h3 (by omega) hf (by rw [hD];exact hl)
 generalize hK:Zg X scope cl C (bN2 X.N ts ix) s H fp=K at ok
 have kp:K.prog=X.prog:=by rw [← hK];rfl
 have kw:K.w=X.w:=by rw [← hK];rfl
 have kK:K.K=X.K:=by rw [← hK];rfl
 have kA:K.A=X.A:=by rw [← hK];rfl
 have kc:K.calm=true:=by rw [← hK];exact hc
 have kN:K.N=bN2 X.N ts ix:=by rw [← hK];rfl
 have kenv:K.env=compEnvC scope cl C X.env:=by rw [← hK];rfl
 have kloc:K.env.locals=C:=by rw [← hK];rfl
 have kfs:K.fs=frs X.stack:=by rw [← hK];rfl
 have kex:K.ex=fp:=by rw [← hK];rfl
 have kpn:K.pn=[]:=by rw [← hK];rfl
 have ks:K.s₀=s:=by rw [← hK];rfl
 have kH:K.H₀=H:=by rw [← hK];rfl
 have kx:K.xe=λ_ _=>False:=by rw [← hK];rfl
 have kcl:K.env.cells=cl:=by rw [← hK];rfl
 have cellLt:∀y c,cl.lookup y=some c->c<D:=λy c q=>by obtain ⟨v,z⟩:=I.cell y c (h1 y c q);rw [← hD];exact z.lt
 have stkLt:∀b∈frs X.stack,b<D:=λb hb=>by
  rcases List.mem_cons.mp (I.stkSub b hb) with q | q
  ·rw [q,← hD];exact I.lt
  ·rcases Nat.lt_or_ge b D with z | z
   ·exact z
   ·exact absurd q (I.nofs (by omega))
 -- the state at the block's begin
 have I0:∀tk,Inv K [(D,{ cls:=.type "list",data:=.seq ([]:List Value).toArray 0 })] (bS2 σ (ts.map λ_=>none) ix) H { s with heap:=h₁,toks:=tk }:=λtk=>by
  refine ⟨ok,by rw [ks],I.bare,by rw [ks,kH];exact Un.kept old,?_,?_,?_,?_,?_,by rw [kp,kw];exact I.hok.kept old,?_⟩
  ·refine ⟨_,by rw [kloc];exact hns₁,λi y v e1 e2 e3=>?_⟩
   rw [kN] at e1
   by_cases hlt:i<ts.length
   ·unfold bS2 at e2
    rw [List.getElem?_append_left (by simpa using hlt),List.getElem?_map] at e2
    cases hts:ts[i]? with
    | none=>rw [hts] at e2;cases e2
    | some y'=>rw [hts] at e2;have e2:(some (none:Option V))=some (some v):=e2;cases e2
   ·obtain ⟨i,rfl⟩:∃i',i=ts.length+i':=⟨i-ts.length,by omega⟩
    have e1':(ix.map λi=>X.N.getD i Str.empty)[i]? = some y:=by
     unfold bN2 at e1
     rw [List.getElem?_append_right (by omega),show ts.length+i-ts.length=i by omega] at e1
     exact e1
    have e2':(ix.map λi=>(σ[i]?).getD none)[i]? = some (some v):=by
     unfold bS2 at e2
     rw [List.getElem?_append_right (by rw [List.length_map];omega),List.length_map,show ts.length+i-ts.length=i by omega] at e2
     exact e2
    rw [List.getElem?_map] at e1' e2'
    cases q:ix[i]? with
    | none=>rw [q] at e1';cases e1'
    | some j =>
     rw [q] at e1' e2'
     obtain ⟨y',a1,a2⟩:=hix j (List.mem_of_getElem? q)
     have a3:X.N.getD j Str.empty=y':=by simp [List.getD,a1]
     have ey:y'=y:=by rw [← a3];exact Option.some.inj e1'
     subst ey
     have es:σ[j]? = some (some v):=by
      have z:(σ[j]?).getD none=some v:=Option.some.inj e2'
      cases w:σ[j]? with
      | none=>rw [w] at z;cases z
      | some o=>rw [w] at z;have z':o=some v:=z;rw [z']
     obtain ⟨m,hn,hlk⟩:=I.loc
     have hk:=B.free (y',.free) (PySem.mem_of_lookup a2) rfl
     have hk:X.env.kindOf y'=some .cell\/X.env.kindOf y'=some .free:=hk
     have vis:Vis X.env.scope y':=hk.elim (λz=>.inr (.inl z)) λz=>.inr (.inr z)
     obtain ⟨u,ru,lk⟩:=hlk j y' v a1 es vis
     refine ⟨u,ru,?_⟩
     rcases lk with ⟨k,_⟩ | ⟨_,c,ec,ce⟩
     ·rcases hk with z | z <;> (rw [k] at z;cases z)
     ·obtain ⟨c',ec'⟩:=h3 (y',.free) (PySem.mem_of_lookup a2) rfl
      have ec':cl.lookup y'=some c':=ec'
      have:c'=c:=Option.some.inj ((h1 y' c' ec').symm.trans ec)
      subst this
      refine .inr ⟨?_,c',by rw [kcl];exact ec',?_⟩
      ·show K.env.scope.names.lookup y'=_\/K.env.scope.names.lookup y'=_
       rw [kenv]
       exact Y6 a2
      ·obtain ⟨oc,hoc,r⟩:=ce
       exact ⟨oc,old _ _ hoc,r⟩
  ·intro y c q
   rw [kcl] at q
   obtain ⟨v,oc,hoc,r⟩:=I.cell y c (h1 y c q)
   exact ⟨v,oc,old _ _ hoc,r⟩
  ·rw [kloc];exact hHn _ (by omega)
  ·intro y c q
   rw [kcl] at q
   exact I.freeC y c (h1 y c q)
  ·intro p hp
   rw [kpn] at hp
   have e:p=(D,{ cls:=.type "list",data:=.seq ([]:List Value).toArray 0 }):=by simpa using hp
   subst e
   refine ⟨hacc,hHn _ (Nat.le_refl _),by rw [kloc];exact hDC,?_,λv z=>?_⟩
   ·rw [kfs];intro z;exact absurd (stkLt D z) (Nat.lt_irrefl _)
   ·have z':Data.seq _ _=Data.cell v:=z
    cases z'
  ·rw [kN];simp [bS2,bN2]
 have stat:∀{H':Hp} {ob:Obj},(∀b∈fp,H' b=none)->∀b∈fp,FpOk K [(D,ob)] H' b:=λ{H' ob} hn b hb=>by
  refine ⟨hn b hb,?_,?_,.inl (by rw [kex];exact hb),?_,?_⟩
  ·rw [kloc];exact Nat.ne_of_lt (Nat.lt_of_lt_of_le (hl b hb) (by rw [hC];exact Nat.le_succ _))
  ·rw [kfs];intro z
   rcases List.mem_cons.mp (I.stkSub b z) with q | q
   ·exact (hf b hb).2.1 q
   ·exact (hf b hb).2.2.1 q
  ·intro y c q;rw [kcl] at q;exact (hf b hb).2.2.2.2.1 y c (h1 y c q)
  ·intro p hp;rw [kpn] at hp
   have e:p=(D,ob):=by simpa using hp
   subst e
   exact Nat.ne_of_gt (hl b hb)
 have st₁:tn 0 h₁:=T.keep _ _ _ st λb hb o e=>old b o e
 have loop:∀tk,codeAny (model X.prog X.w) X.A (.compLoop (.ListComp elt [⟨tg,iter,ifs,0⟩] scope pos) 0 (.ref it) (.ref D) (compEnvC scope cl C X.env)) (RR (.ref D) C) { s with heap:=h₁,toks:=tk }:=by
  intro tk
  refine Qbm (λn s'=>∃i o H' ys its c,o.length=ts.length/\Inv K [(D,{ cls:=.type "list",data:=.seq (its:List Value).toArray c })] (bS2 σ o ix) H' s'/\Vals ys its/\tn i s'.heap/\(∀b∈fp,H' b=none)/\W i n ys H') ?_ m₀
   ⟨0,ts.map (λ_=>none),H,[],[],0,by simp,I0 tk,.nil,st₁,λb hb=>(hf b hb).1,w0⟩
  rintro n s1 ⟨i,o,H1,ys,its,c,ol,I1,rv,t1,f1,w1⟩
  rcases turn i n ys H1 w1 with ⟨stop,hz,g⟩ | ⟨go,hz,step⟩
  ·have dn:=T.done K kp kw kK kc i _ s1 _ H1 (notedBy (model X.prog X.w) X.A (compEnvC scope cl C X.env) λe s'=>RR (.ref D) C (.error e) s') I1 (stat f1) t1 stop
   rw [kA] at dn
   refine thn dn λr s2 ⟨hr,I2⟩=>?_
   subst hr
   obtain ⟨p1,p2,p3,p4,p5⟩:=I2.pin (D,{ cls:=.type "list",data:=.seq its.toArray c }) (List.mem_append_right _ (List.mem_singleton.mpr rfl))
   have u2:=I2.base
   rw [kfs,kex,kH,ks] at u2
   refine hRR D C s2 ys H1 ?_ p2 (by rw [← kloc];exact I2.free) (by obtain ⟨m,hm,_⟩:=I2.loc;rw [kloc] at hm;exact ⟨m,hm⟩) (by omega) hDC g
   have hk2:HOk X.prog X.w H1 s2.heap:=by have:=I2.hok;rw [kp,kw] at this;exact this
   refine I.call' (ch:=fp) (by have:=I2.os;rw [ks] at this;exact this) (u2.add (hfr D (Nat.le_refl _)) (hHn D (Nat.le_refl _))) (hk2.add p2 ⟨hz,its,c,rv,p1⟩) I2.bare λb hb=>?_
   exact ⟨(hf b hb).2.2.2.1,(hf b hb).2.1,(hf b hb).2.2.2.2.1,(hf b hb).2.2.2.2.2⟩
  ·have im:=T.item K kp kw kK kc i _ s1 _ H1 (notedBy (model X.prog X.w) X.A (compEnvC scope cl C X.env) λe s'=>RR (.ref D) C (.error e) s') I1 (stat f1) t1 go
   rw [kA] at im
   refine thn im λr s2 ⟨u,hr,h2⟩=>?_
   subst hr
   refine thn h2 λ_ s3 ⟨v,H3,I3,r3,y3,t3,f3⟩=>?_
   have q3:=step v H3 y3 o ol
   have I3':=I3.pinned (stat f3) (T.obj _ _ t3)
   have hg':=hg cl C s H fp
   rw [hK] at hg'
   have hgv:=hg' _ s3 _ H3 v u _ I3' r3 q3
   rw [kx,kp,kw,kA,kenv] at hgv
   refine wpAny_mono hgv (λ_ s4 ⟨σ4,H4,I4,o4,e4,l4,q4⟩=>?_) λ_ _ z=>z.elim
   subst e4
   have hi':=hi cl C s H fp
   rw [hK] at hi'
   have hiv:=hi' _ s4 _ H4 _ I4 q4
   rw [kx,kp,kw,kA,kenv] at hiv
   refine wpAny_mono hiv (λok s5 ⟨H5,I5,q5⟩=>?_) λ_ _ z=>z.elim
   have back:∀{H7:Hp} {s7:Shared} {o7:List (Option V)},Inv K ([(D,{ cls:=.type "list",data:=.seq its.toArray c })]++Qap fp s3.heap) (bS2 σ o7 ix) H7 s7->tn (i+1) s7.heap/\∀b∈fp,H7 b=none:=λ{H7 s7 o7} I7=>by
    refine ⟨T.keep _ _ _ t3 λb hb o e=>(I7.pin (b,o) (List.mem_append_right _ (List.mem_append_right _ (Zz hb e)))).1,λb hb=>?_⟩
    obtain ⟨ob,e,d⟩:=T.obj _ _ t3 b hb
    exact (I7.pin (b,ob) (List.mem_append_right _ (List.mem_append_right _ (Zz hb e)))).2.1
   cases ok with
   | false =>
    rw [if_neg Bool.false_ne_true]
    have q5:∃m',m' < n/\W (i+1) m' ys H5:=q5
    obtain ⟨m',hm,w5⟩:=q5
    obtain ⟨b1,b2⟩:=back I5
    exact ⟨m',hm,i+1,o4,H5,ys,its,c,l4,I5.unpinned,rv,b1,b2,w5⟩
   | true =>
    rw [if_pos rfl]
    have q5:te (bS2 σ o4 ix) H5 λy H2=>∃m',m' < n/\W (i+1) m' (ys++[y]) H2:=q5
    have he':=he cl C s H fp
    rw [hK] at he'
    have hev:=he' _ s5 _ H5 _ I5 q5
    rw [kx,kp,kw,kA,kenv] at hev
    refine wpAny_mono hev (λy s6 ⟨yv,H6,I6,r6,m',hm,w6⟩=>?_) λ_ _ z=>z.elim
    obtain ⟨b1,b2⟩:=back I6
    have I6':=I6.unpinned
    obtain ⟨p1,p2,p3,p4,p5⟩:=I6'.pin (D,{ cls:=.type "list",data:=.seq its.toArray c }) (List.mem_append_right _ (List.mem_singleton.mpr rfl))
    have hlen:=rv.length
    refine call_meets F.slot_list_append ⟨_,p1,rfl⟩ F.entry_list_append (F.args_list_append_2 _ _) (PySem.list_append D its.toArray c y (by rw [List.size_toArray];omega)) ⟨p1,?_⟩
    have ea:its.toArray.push y=(its++[y]).toArray:=by simp
    obtain ⟨c',q⟩:∃c',(s6.heap.update D (Obj.mapSeq (·.push y))).get? D=some { cls:=.type "list",data:=.seq (its++[y]).toArray c' }:=⟨_,by rw [← ea];exact PySem.IsL.update p1 (·.push y)⟩
    refine ⟨m',hm,i+1,o4,H6,ys++[yv],its++[y],c',l4,?_,rv.append (.cons r6 .nil),T.keep _ _ _ b1 λb hb o e=>?_,b2,w6⟩
    ·have Id:Inv K [] (bS2 σ o4 ix) H6 s6:=I6'.pins_of λp hp=>by simp at hp
     have It:Inv K [] (bS2 σ o4 ix) H6 { s6 with heap:=s6.heap.update D (Obj.mapSeq (·.push y)) }:=Id.turned (t':=s6.toks) (it:=D) (λb o hb e=>(Heap.get?_update_other _ _ (Ne.symm hb)).trans e) p2 p3
      (.inr (by rw [ks];omega)) (λy' c' e=>by rw [kcl] at e;exact Nat.ne_of_lt (cellLt y' c' e)) (λp hp=>by rw [kpn] at hp;simp at hp)
     refine It.pins_of λp hp=>?_
     obtain rfl:p=(D,{ cls:=.type "list",data:=.seq (its++[y]).toArray c' }):=by simpa using hp
     refine ⟨q,p2,p3,p4,λv z=>?_⟩
     have z':Data.seq _ _=Data.cell v:=z
     cases z'
    ·exact (Heap.get?_update_other _ _ (Nat.ne_of_gt (hl b hb))).trans e
 have selfs:wpAny (model X.prog X.w) X.A (pyIter (.ref it)) (λit' s'=>codeAny (model X.prog X.w) X.A (.compLoop (.ListComp elt [⟨tg,iter,ifs,0⟩] scope pos) 0 it' (.ref D) (compEnvC scope cl C X.env)) (RR (.ref D) C) s')
   (notedBy (model X.prog X.w) X.A (compEnvC scope cl C X.env) λe s'=>RR (.ref D) C (.error e) s') { s with heap:=h₁,toks:=s.toks+([]:List (Str × Value)).length }:=T.self X.A 0 _ _ _ st₁ (loop _)
 exact codeAny_compStart_list (loop _) selfs
def Qm1 (ts:List Str) (wi:TI) (gt:TG) (tt:TT) (te:TE) (ix:List Nat):TE:=λσ H Q=>wi σ H λJ H1=>∃(W:Nat->Nat->List V->Hp->Prop) (m₀:Nat),W 0 m₀ [] H1 /\
 ∀i m ys H,W i m ys H->(J.stop i H/\ys.length<=sizeLine/\∀l,H l=none->Q (.ref l) (upd H l (.lst ys)))\/(J.go i H/\ys.length<sizeLine/\∀v H',J.yld i H v H'->∀o:List (Option V),o.length=ts.length->gt v (bS2 σ o ix) H' λσ2 H2=>∃o2:List (Option V),σ2=bS2 σ o2 ix/\o2.length=ts.length /\
  tt σ2 H2 λb H1=>if b=true then te σ2 H1 λy H2=>∃m',m' < m/\W (i+1) m' (ys++[y]) H2 else ∃m',m' < m/\W (i+1) m' ys H1)
theorem Qlq {elt iter:Expr} {x:Str} {ts:List Str} {tg:Expr} {gt:TG} {pos:Pos} {scope:Scope} {te:TE} {tt:TT} {wi:TI} {ifs:List Expr} (ix:List Nat) (hc:X.calm=true) (B:BlkScope X.env scope x)
  (hix:∀i∈ix,∃y,X.N[i]? = some y/\scope.names.lookup y=some .free) (hN:(bN2 X.N ts ix).Nodup) (hi:PI X tg iter wi)
  (hg:∀cl C s₀ H₀ fp,PG (Zg X scope cl C (bN2 X.N ts ix) s₀ H₀ fp) tg gt)
  (ht:∀cl C s₀ H₀ fp,PIfs (Zg X scope cl C (bN2 X.N ts ix) s₀ H₀ fp) ifs tt)
  (he:∀cl C s₀ H₀ fp,PE (Zg X scope cl C (bN2 X.N ts ix) s₀ H₀ fp) elt te)
  (hs:∀x,foldedSetIterable iter X.env x=pure x:=by intro _;rfl) :
  PE X (.ListComp elt [⟨tg,iter,ifs,0⟩] scope pos) (Qm1 ts wi gt tt te ix):=by
 intro pins s σ H Q I h
 obtain ⟨cl,hcl,h1,h3⟩:=U6 (Qc7 I B)
 rw [eval_ListComp]
 refine wpAny_comprehension_free (use:=none) rfl hs hcl B.kind B.names (thn (hi pins s σ H _ I h) λv s1 h1'=>thn h1' λitv s2 h2=>?_)
 obtain ⟨it,fp,tn,J,H2,e,I2,T,st2,f2,W,m0,w0,turn⟩:=h2
 subst e
 refine Qkh (G:=λys H'=>∀l,H' l=none->Q (.ref l) (upd H' l (.lst ys))) I2 hc B h1 h3 hix hN T st2 f2 hg he ht W m0 w0 turn λD C s' ys H' I' hD hC hm hCs hDC g=>?_
 obtain ⟨m,hm⟩:=hm
 refine ⟨m,hm,λh' hsb=>⟨.ref D,upd H' D (.lst ys),I2.blkGone I' hCs (by rw [Qy (Ne.symm hDC)];exact hC) hsb,rfl,g D hD⟩⟩
end
end L2
namespace HT
open PySem PySem.Spec PyProof.Rows L2
section
variable {prog:Program} {w:World} {A:Around} {E:Value->Shared->Prop} {s:Shared}
end
section
variable {prog:Program} {w:World} {A:Around} {E:Value->Shared->Prop} {s:Shared}
end
end HT
namespace L2
open PySem PySem.Spec PyProof.Rows
section
variable {X:Cx}
end
end L2
namespace L2
open PySem PySem.Spec PyProof.Rows
open Builtin.Str (glued partsBetween occurrences tooLong strSub)
section
variable {X:Cx}
end
end L2
namespace L2
open PySem PySem.Spec PyProof.Rows
section
variable {X:Cx}
end
end L2
namespace HT
open PySem PySem.Spec PyProof.Rows L2
section
variable {prog:Program} {w:World} {A:Around} {E:Value->Shared->Prop} {s:Shared}
end
section
variable {prog:Program} {w:World} {A:Around} {E:Value->Shared->Prop} {s:Shared}
end
end HT
namespace L2
open PySem PySem.Spec PyProof.Rows
section
variable {X:Cx}
end
end L2
namespace L2
open PySem PySem.Spec PyProof.Rows
open Builtin.Str (occurrences strSub subAt)
section
variable {X:Cx} {e:Expr} {te:TE} {lo hi st:Option Expr} {tl th ts:TO} {p2 pos:Pos}
end
end L2
namespace Srt
open PySem PyProof.Rows
class KN where
 nk:Keyed->Int
 isN:Keyed->Prop
 kind:SortKind
open KN (nk isN kind)
class KL [KN] (prog:Program) (w:World) (A:Around) (E:Value->Shared->Prop) (s:Shared):Prop where
 lt:∀{st:SortSt} {x y:Keyed} {Q:Option Bool->SortSt->Prop},kindOf st=kind->isN x->isN y->Q (some (decide (nk x<nk y))) st->wpS (model prog w) A E s (lt' x y) Q st
variable [KN]
def K (xs:Array Keyed) (i:Nat):Int:=match xs[i]? with
 | some p=>nk p
 | none=>0
section
variable {prog:Program} {w:World} {A:Around} {E:Value->Shared->Prop} {s:Shared} [KL prog w A E s]
variable {st:SortSt} {left:Bool} {key:Keyed} {xs:Array Keyed} {b n hint:Nat}
end
end Srt
namespace Srt
open PySem PyProof.Rows
open KN (nk isN kind)
variable [KN]
section
variable {prog:Program} {w:World} {A:Around} {E:Value->Shared->Prop} {s:Shared} [KL prog w A E s] {st:SortSt} {x y:Array Keyed}
abbrev R1:=Option (Array Keyed) × Array Keyed × Nat × Nat × Nat × Nat
end
end Srt
namespace Srt
open PySem PyProof.Rows
open KN (nk isN kind)
variable [KN]
section
variable {prog:Program} {w:World} {A:Around} {E:Value->Shared->Prop} {s:Shared} [KL prog w A E s] {st:SortSt} {x y:Array Keyed}
end
end Srt
namespace Srt
open PySem PyProof.Rows
open KN (nk isN kind)
variable [KN]
section
variable {prog:Program} {w:World} {A:Around} {E:Value->Shared->Prop} {s:Shared} [KL prog w A E s] {st:SortSt}
structure Ok (st:SortSt):Prop where
 k:kindOf st=kind
 n:∀p∈(arrOf st).toList,isN p
 f:failedOf st=none
end
end Srt
namespace Srt
open PySem PyProof.Rows
open KN (nk isN kind)
variable [KN]
section
variable {prog:Program} {w:World} {A:Around} {E:Value->Shared->Prop} {s:Shared} [KL prog w A E s] {st st0:SortSt} {lo:Nat}
end
end Srt
namespace Srt
open PySem PyProof.Rows
open KN (nk isN kind)
variable [KN]
section
variable {prog:Program} {w:World} {A:Around} {E:Value->Shared->Prop} {s:Shared} [KL prog w A E s] {st st0:SortSt} {lo:Nat}
end
end Srt
namespace Srt
open PySem PyProof.Rows
open KN (nk isN kind)
variable [KN]
section
variable {prog:Program} {w:World} {A:Around} {E:Value->Shared->Prop} {s:Shared} [KL prog w A E s] {st:SortSt} {a₀:Array Keyed} {runs:List (List Keyed)} {T:List Keyed}
end
end Srt
namespace Srt
open PySem PyProof.Rows
section
variable {prog:Program} {w:World} {A:Around} {E:Value->Shared->Prop} {s:Shared}
end
end Srt
namespace Srt
open PySem PyProof.Rows
section
variable {prog:Program} {w:World} {A:Around} {E:Value->Shared->Prop} {s:Shared}
end
end Srt
namespace Srt
open PySem PyProof.Rows
open PySem.SeqAt
open PySem.AutoSeq1 (wpAny_loadPart')
open PySem.MeetsSeq PySem.MeetsSeq2 PySem.MeetsSeq3
theorem Qjr {vs:List Value} {ns:List Int} (h:IntsAre vs ns):∀{i:Nat} (hi:i<ns.length),∃t,vs[i]? = some (.int ns[i] t):=by
 induction h with
 | nil=>intro i hi;exact absurd hi (Nat.not_lt_zero _)
 | cons n t _ ih =>
  intro i hi
  cases i with
  | zero=>exact ⟨t,rfl⟩
  | succ i=>obtain ⟨u,hu⟩:=ih (i:=i) (by simpa using hi);exact ⟨u,by simpa using hu⟩
section
variable {prog:Program} {w:World} {A:Around} {E:Value->Shared->Prop} {s:Shared}
end
end Srt
namespace L2
open PySem PySem.Spec PyProof.Rows
section
variable {X:Cx}
end
end L2
namespace RV
open PySem PySem.Spec
section
variable {prog:Program} {w:World} {A:Around} {E:Value->Shared->Prop} {s:Shared}
end
theorem boot:bootBuiltins "reversed" = some (.type "reversed"):=by decide +kernel
end RV
namespace L2
open PySem PySem.Spec PyProof.Rows
section
variable {X:Cx} {tg:Expr}
end
end L2
namespace PT
open PySem PySem.Spec
section
variable {prog:Program} {w:World} {K:Type} [DecidableEq K] {knd:HeapKind prog w K} {A:Around} {E:Value->Shared->Prop} {s:Shared}
end
end PT
namespace L2
open PySem PySem.Spec PyProof.Rows
section
variable {X:Cx} {pins:List (Addr × Obj)} {σ:St} {H:Hp} {s:Shared} {a b:Addr} {kvs:List (List Key × V)} {k:List Key} {A:Around} {E:Value->Shared->Prop}
end
end L2
namespace L2
open PySem PySem.Spec PyProof.Rows
section
variable {M:Model} {A:Around} {E:Value->Shared->Prop} {s:Shared}
end
section
variable {X:Cx}
end
end L2
namespace L2
open PySem PySem.Spec PyProof.Rows
section
variable {prog:Program} {w:World} {A:Around} {E:Value->Shared->Prop} {s:Shared}
end
section
variable {X:Cx}
end
end L2
namespace LR
open PySem PySem.Spec PyProof.Rows
theorem Qsa:typeLookup (.type "list_reverseiterator") "__len__" = pure none:=by rw [typeLookup_type,builtinLookup_eq_fast];kernel_rfl
theorem Qmc:typeLookup (.type "list_reverseiterator") "__length_hint__" = pure (some (.builtin "list_reverseiterator.__length_hint__")):=by rw [typeLookup_type,builtinLookup_eq_fast];kernel_rfl
section
variable {prog:Program} {w:World} {A:Around} {E:Value->Shared->Prop} {s:Shared}
theorem hint {r:Addr} {Q:Bool->Shared->Prop} (ty:s.TypeIs (.ref r) "list_reverseiterator") (q:Q false s):wpAny (model prog w) A (Builtin.List.listLengthHint (.ref r)) Q E s:=by
 unfold Builtin.List.listLengthHint
 refine wpAny_bind (wpAny_specialOf ty Qsa ?_)
 refine wpAny_ite_split (λz=>absurd z (by decide)) (λ_=>?_)
 refine wpAny_ite_split (λz=>absurd z (by decide)) (λ_=>?_)
 refine wpAny_bind (wpAny_specialOf ty Qmc ?_)
 generalize hid:("list_reverseiterator.__length_hint__" : String)=id0
 wp_delta
 rw [show splitId id0=some ("list_reverseiterator","__length_hint__") from by subst hid;decide +kernel]
 subst hid
 refine wpAny_bind (wpAny_isInstance (T:="list_reverseiterator") (b:=true) ty (by rw [isSubtype_type];kernel_rfl) ?_)
 refine wpAny_ite_split (λz=>absurd z (by decide)) (λ_=>?_)
 refine wpAny_ite_split (λ_=>?_) (λz=>absurd (by decide +kernel) z)
 refine wpAny_ite_split (λz=>absurd z (by decide +kernel)) (λ_=>?_)
 exact wpAny_pure q
abbrev Back (items:Array Value):Nat->Value->Prop:=λi v=>items[items.size-1-i]? = some v
theorem more {R:Result->Shared->Prop} {r l S:Addr} {items:Array Value} {res:Value} {c₀:Nat} (hh:A.handled=none) (hl:s.heap.IsList l items) (hr:s.heap.IsRevIter r l ((items.size:Int)-1)) (hne:l≠r) (h1:S≠r) (h2:S≠l) (hz:items.size<=sizeLine)
  (hS:s.heap.get? S=some { cls:=.type "list",data:=.seq #[] c₀ })
  (q:∀h' tk acc c,(∀b o,b≠S->b≠r->s.heap.get? b=some o->h'.get? b=some o)->h'.get? S=some { cls:=.type "list",dict:=none,data:=.seq acc c,slots:=#[] }->ItemsOf (Back items) acc items.size->R (.ok (.ret res)) { s with heap:=h',toks:=tk }) :
  wpAny (model prog w) A.in1 (Builtin.List.listExtendWith (.ref S) (.ref r) res)
   (λfin s'=>match fin with | .done f=>R (.ok f) s' | .again c'=>c'.quiet=true/\codeAny (model prog w) A c' R s') (λe s'=>R (.error e) s') s:=by
 have Wk:=Walks.listRev (prog:=prog) (w:=w) (A:=A.in1) hh r l hne items
 have out:S∉[r,l]:=by simp [h1,h2]
 have st0:∀h:Heap,h.IsRevIter r l ((items.size:Int)-1)->h.IsList l items->0<=items.size/\h.IsRevIter r l ((items.size:Int)-1-((0:Nat):Int))/\h.IsList l items:=λh x y=>⟨Nat.zero_le _,by rw [show (items.size:Int)-1-((0:Nat):Int)=(items.size:Int)-1 by omega];exact x,y⟩
 unfold Builtin.List.listExtendWith
 refine wpAny_bind (wpAny_typeOf (T:="list_reverseiterator") hr.typeIs ?_)
 have e1:Builtin.List.listSameRef (.ref S) (.ref r)=false:=by simp [Builtin.List.listSameRef,h1]
 have e2:(Value.type "list_reverseiterator" == Value.type "list")=false:=by decide
 have e3:(Value.type "list_reverseiterator" == Value.type "tuple")=false:=by decide
 simp only [e1,e2,e3,Bool.or_false,Bool.false_eq_true,if_false]
 refine wpAny_bind (wpAny_pyIter_revIter hr ?_)
 refine wpAny_bind (wpAny_holding (hint hr.typeIs ?_))
 have key:∀(h:Heap) (c₁ tk:Nat),h.IsRevIter r l ((items.size:Int)-1)->h.IsList l items->(∀b o,b≠S->s.heap.get? b=some o->h.get? b=some o) ->
   h.get? S=some { cls:=.type "list",data:=.seq #[] c₁ }->codeAny (model prog w) A (.builtin "list.extend.loop" ⟨[.ref S,.ref r,res],[]⟩) R { s with heap:=h,toks:=tk }:=by
  intro h c₁ tk x1 x2 hk x3
  refine codeAny_extend_loopS Wk.toS hz S out res items.size 0 _ #[] c₁ rfl (Nat.zero_le _) (st0 h x1 x2) x3 (ItemsOf.nil _) λs' acc c mv x4 x5=>?_
  rw [Moved.eq_with mv]
  exact q s'.heap s'.toks acc c (λb o b1 b2 e=>mv.heap b o (λz=>by
   rcases List.mem_cons.mp z with z | z
   ·exact b1 z
   ·exact b2 (List.mem_singleton.mp z)) (hk b o b1 e)) x4 x5
 refine wpAny_ite_split (λ_=>?_) (λ_=>wpAny_pure ⟨plainId_quiet PySem.F.plain_extend_loop _,key _ c₀ _ hr hl (λb o _ e=>e) hS⟩)
 refine wpAny_bind (wpAny_rule ?_)
 refine wpAny_bind ?_
 show wpAny _ _ (updateSeq S (·.push .none) >>= λ_=>updateSeq S (·.pop)) _ _ _
 refine wpAny_bind (wpAny_updateSeq hS rfl ?_)
 have y1:=Heap.get?_update_self (Obj.mapSeq (·.push Value.none)) hS rfl
 refine wpAny_updateSeq (hz:=by seq_fits) y1 rfl ?_
 have y2:=Heap.get?_update_self (Obj.mapSeq (·.pop)) y1 rfl
 have oth:∀b o,b≠S->s.heap.get? b=some o->((s.heap.update S (Obj.mapSeq (·.push Value.none))).update S (Obj.mapSeq (·.pop))).get? b=some o:=λb o hb e =>
  (Heap.get?_update_other _ _ (Ne.symm hb)).trans ((Heap.get?_update_other _ _ (Ne.symm hb)).trans e)
 exact wpAny_pure ⟨plainId_quiet PySem.F.plain_extend_loop _,key _ _ _ (hr.at λo e=>oth r o (Ne.symm h1) e) (hl.at λo e=>oth l o (Ne.symm h2) e) oth y2⟩
theorem Qkn {Q:Value->Shared->Prop} {r l:Addr} {items:Array Value} (hh:A.handled=none) (hl:s.heap.IsList l items) (hr:s.heap.IsRevIter r l ((items.size:Int)-1)) (hne:l≠r) (hz:items.size<=sizeLine)
  (q:∀h' tk acc c,(∀b o,b≠r->s.heap.get? b=some o->h'.get? b=some o)->h'.get? s.heap.objs.size=some { cls:=.type "list",dict:=none,data:=.seq acc c,slots:=#[] }->ItemsOf (Back items) acc items.size->Q (.ref s.heap.objs.size) { s with heap:=h',toks:=tk }) :
  wpAny (model prog w) A (call (.type "list") [.ref r]) Q E s:=by
 refine callType_codes (Q₁:=λobj s₁=>obj=.ref s.heap.objs.size/\s₁={ s with heap:=s.heap.push { cls:=.type "list",data:=.seq #[] } }) PySem.F.called_list (PySem.F.typeCall_list_1 _) PySem.F.entry_list_init
  (code_list_new _ ⟨rfl,rfl⟩) λobj s₁ e₁=>?_
 obtain ⟨rfl,rfl⟩:=e₁
 have hS:(s.heap.push { cls:=.type "list",data:=.seq #[] }).get? s.heap.objs.size=some { cls:=.type "list",data:=.seq #[] }:=Heap.get?_push_size _ rfl
 have g1:r<s.heap.objs.size:=let ⟨_,ho,_⟩:=hr;Heap.lt_size ho
 have g2:l<s.heap.objs.size:=let ⟨_,ho,_⟩:=hl;Heap.lt_size ho
 refine ⟨⟨_,hS,rfl⟩,PySem.F.args_list_init_2 _ _,?_⟩
 show wpAny _ _ (do let old ← Builtin.List.listItems (.ref s.heap.objs.size);Builtin.List.listUpdate (.ref s.heap.objs.size) (λ_=>#[]);letGo old.toList.reverse;Builtin.List.listExtendWith (.ref s.heap.objs.size) (.ref r) .none) _ _ _
 refine wpAny_bind ?_
 unfold Builtin.List.listItems
 refine wpAny_bind (wpAny_seqItems hS rfl (wpAny_pure ?_))
 show wpAny _ _ (updateSeq s.heap.objs.size (λ_=>#[]) >>= λ_=>letGo (#[]:Array Value).toList.reverse >>= λ_=>Builtin.List.listExtendWith (.ref s.heap.objs.size) (.ref r) .none) _ _ _
 refine wpAny_bind (wpAny_updateSeq hS rfl ?_)
 have y2:=Heap.get?_update_self (Obj.mapSeq (λ_=>(#[]:Array Value))) hS rfl
 have oth:∀b o,b≠s.heap.objs.size->s.heap.get? b=some o->((s.heap.push { cls:=.type "list",data:=.seq #[] }).update s.heap.objs.size (Obj.mapSeq (λ_=>(#[]:Array Value)))).get? b=some o :=
  λb o hb e=>(Heap.get?_update_other _ _ (Ne.symm hb)).trans (Heap.get?_push_of_some _ e)
 refine wpAny_bind (wpAny_letGo ?_)
 refine more (A:=A.in1) hh (hl.at λo e=>oth l o (Nat.ne_of_lt g2) e) (hr.at λo e=>oth r o (Nat.ne_of_lt g1) e) hne (Nat.ne_of_gt g1) (Nat.ne_of_gt g2) hz y2 λh' tk acc c k1 k2 k3=>?_
 exact ⟨rfl,q h' tk acc c (λb o hb e=>k1 b o (Nat.ne_of_lt (Heap.lt_size e)) hb (oth b o (Nat.ne_of_lt (Heap.lt_size e)) e)) k2 k3⟩
end
end LR
namespace L2
open PySem PySem.Spec PyProof.Rows
section
variable {X:Cx}
theorem Qid:∀{xs:List V} {us ws:List Value},Vals xs us->ws.length=us.length->(∀(j:Nat) v,ws[j]? = some v->us[us.length-1-j]? = some v)->Vals xs.reverse ws:=by
 intro xs us ws r hl hw
 have e:ws=us.reverse:=by
  refine List.ext_getElem? λj=>?_
  by_cases hj:j<ws.length
  ·rw [List.getElem?_reverse (by omega)]
   exact (List.getElem?_eq_getElem hj).trans (hw j _ (List.getElem?_eq_getElem hj)).symm
  ·rw [List.getElem?_eq_none (by omega),List.getElem?_eq_none (by rw [List.length_reverse];omega)]
 subst e
 clear hl hw
 induction r with
 | nil=>exact .nil
 | cons h _ ih =>
  rw [List.reverse_cons,List.reverse_cons]
  exact ih.append (.cons h .nil)
def tLR (K:PySem.W.Frag) (ta:TA):TE:=λσ H Q=>ta σ H λvs H1=>∃a xs,vs=[.ref a]/\SqL K H1 a xs/\∀l,H1 l=none->Q (.ref l) (upd H1 l (.lst xs.reverse))
theorem Qhj {a:Expr} {ta:TA} {p1 p2 pos pos2:Pos} (hc:X.calm=true) (hg:Gl X "reversed") (hm:X.mg "reversed" = none) (hg2:Gl X "list") (hm2:X.mg "list" = none) (ha:PA X [a] ta) (hs:starEach [a] X.env=[(false,eval a X.env)]:=by rfl)
  (hs2:starEach [.Call (.Name "reversed" p2) [a] [] pos2] X.env=(false,eval (.Call (.Name "reversed" p2) [a] [] pos2) X.env)::starEach [] X.env:=by rfl) :
  PE X (.Call (.Name "list" p1) [.Call (.Name "reversed" p2) [a] [] pos2] [] pos) (tLR X.K ta):=by
 intro pins s σ H Q I h
 refine wpAny_Call_Name_kw (Qay I hg2 hm2 (by rfl) (PyProof.Rows.callWith_type1 ?_ hs2 rfl))
 rw [hs2]
 show wpAny _ _ (spliced ((false,eval (.Call (.Name "reversed" p2) [a] [] pos2) X.env)::backTo pos (starEach [] X.env))) _ _ s
 refine Calls.spliced_cons ?_
 refine Call_ (Qay I hg hm RV.boot (PyProof.Rows.callWith_type1 (thn (ha pos2 pins s σ H _ I h) λus s1 ⟨vs,H1,I1,r1,q1⟩=>?_) hs rfl))
 obtain ⟨t,xs,e,hq,q⟩:=q1
 subst e
 obtain ⟨u,rfl,ru⟩:=Vals.one r1
 cases ru
 obtain ⟨its,rv,pd,hz⟩:=I1.list hq
 have hl:=rv.length
 have il:s1.heap.IsList t its.toArray:=pd.isList
 refine call_reversed_list il ?_
 refine Calls.spliced_nil ?_
 have lt:t<s1.heap.objs.size:=let ⟨_,ho,_⟩:=il;Heap.lt_size ho
 have I2:Inv X pins σ H1 { s1 with heap:=s1.heap.push (revObj t ((its.toArray.size:Int)-1)) }:=I1.kept λb o e=>Heap.get?_push_of_some _ e
 refine LR.Qkn (s:={ s1 with heap:=s1.heap.push (revObj t ((its.toArray.size:Int)-1)) }) (I1.ok.hd hc) (il.at λo e=>Heap.get?_push_of_some _ e) ⟨_,Heap.get?_push_size _ rfl,rfl,rfl⟩ (Nat.ne_of_lt lt) (by simp;omega) λh' tk acc c' kp hl' hacc=>?_
 obtain ⟨hsz,hit⟩:=hacc
 have sz:(s1.heap.push (revObj t ((its.toArray.size:Int)-1))).objs.size=s1.heap.objs.size+1:=by simp [Heap.push]
 have rv2:Vals xs.reverse acc.toList:=Qid rv (by rw [Array.length_toList,hsz];simp) λj v e=>by
  have:=hit j v (by simpa using e)
  simpa [LR.Back] using this
 refine ⟨.ref _,_,I1.laid (o:=.lst xs.reverse) (t':=tk) (λb o e=>kp b o (Nat.ne_of_lt (Heap.lt_size e)) (Heap.get?_push_of_some _ e)) (by rw [sz];omega) ?_,rfl,q _ (I1.hok.fresh (by rw [sz];omega))⟩
 exact ⟨by rw [List.length_reverse];exact hz,acc.toList,c',rv2,by rw [Array.toArray_toList];exact hl'⟩
end
end L2
namespace L2
open PySem PySem.Spec PyProof.Rows
section
variable {X:Cx}
end
end L2
namespace L2
open PySem PySem.Spec PyProof.Rows
open PySem.W (hideAll of_hideAll hideAll_get hideAll_none funFrames_hide)
structure Fly (P:Program) (w:World) (base B:Heap) (l:List PySem.Env) (H:Hp) (s:Shared) (C ea t:Addr) (H':Hp) (s':Shared):Prop where
 os:s'.os=s.os
 bare:AllBare s'.gens
 un:Un (frs l) [] H H' s.heap s'.heap
 hok:HOk P w H' s'.heap
 bb:base.StaysIn B
 dom:∀b o,H' b=some o->∃ob,B.get? b=some ob
 kp:∀b ob,s.heap.get? b=some ob->H b=none->b∉frs l->B.get? b=some ob
 th:∀b ob,s.heap.get? b=some ob->b∉frs l->∃o',B.get? b=some o'
 fly:Heap.FlyingW B l ea (.ref C) (.ref t) s'.heap
 new:s.heap.get? ea=none
theorem Qnp {P:Program} {w:World} {H':Hp} {B h h'':Heap} (ok:HOk P w H' h) (dom:∀b o,H' b=some o->∃ob,B.get? b=some ob) (k1:B.StaysIn h) (k2:B.StaysIn h''):HOk P w H' h'':=λa o e =>
 (ok a o e).stay (λb u hb q=>by
  have:∃o',H' b=some o':=by
   rcases hb with rfl | hb
   ·exact ⟨_,e⟩
   ·exact ⟨_,hb⟩
  obtain ⟨o',e'⟩:=this
  obtain ⟨ob,eb⟩:=dom b o' e'
  have:=k1 b ob eb
  rw [q] at this
  cases this
  exact k2 b _ eb) (λ_ q=>q) λ_ _ q=>q
section
variable {P:Program} {w:World} {base B:Heap} {l:List PySem.Env} {H H':Hp} {s s':Shared} {C ea t:Addr} {h'':Heap}
end
section
variable {X:Cx} {pins:List (Addr × Obj)} {σ:St} {H H':Hp} {s s':Shared} {C ea t:Addr} {h'' B:Heap}
structure Cx.Plain (X:Cx):Prop where
 ex:X.ex=[]
 stk:X.stack=X.env::X.outer
 frame:X.env.frame=some X.env.locals
theorem Cx.Plain.mem (p:X.Plain) {b:Addr}:b∈frs X.stack↔b=X.env.locals\/b∈frs X.outer:=by
 rw [p.stk]
 unfold frs
 rw [List.filterMap_cons,p.frame]
 exact List.mem_cons
theorem Inv.old (I:Inv X pins σ H s) {b:Addr} {o:Obj} (e:X.s₀.heap.get? b=some o):b≠X.env.locals:=Nat.ne_of_lt (Nat.lt_of_lt_of_le (Heap.lt_size e) I.ok.above)
theorem Fly.out (p:X.Plain) (I:Inv X pins σ H s) (f:Fly X.prog X.w X.base B X.stack H s C ea t H' s') (hf:Heap.FlyingW B X.outer ea (.ref C) (.ref t) h'') (hu:s'.heap.UpToSlots h''):Fly X.prog X.w X.base B X.outer X.H₀ X.s₀ C ea t H' { s' with heap:=h'' }:=by
 have hex:∀b,b∉X.ex:=λb=>by rw [p.ex];simp
 have nst:∀b o,X.s₀.heap.get? b=some o->b∉frs X.outer->b∉frs X.stack:=λb o e nf z=>(p.mem.mp z).elim (I.old e) nf
 have kp:∀b ob,X.s₀.heap.get? b=some ob->X.H₀ b=none->b∉frs X.outer->B.get? b=some ob:=λb o e n nf=>f.kp b o (I.base.keep b o e n nf (hex b)) (I.base.free b o e n (hex b)) (nst b o e nf)
 have th:∀b ob,X.s₀.heap.get? b=some ob->b∉frs X.outer->∃o',B.get? b=some o':=λb o e nf=>by
  obtain ⟨o1,e1⟩:=I.base.there b o e (hex b)
  exact f.th b o1 e1 (nst b o e nf)
 refine ⟨f.os.trans I.os,f.bare,⟨λb o e n nf _=>hf.1 b o (kp b o e n nf),λb o e n hb _=>?_,λb o e n _=>?_,λb o e _=>?_,λb xs e=>f.un.tups b xs (I.base.tups b xs e),λb o u e=>f.un.frzs b o u (I.base.frzs b o u e),λb ps e=>?_⟩,Qnp f.hok f.dom f.fly.1 hf.1,f.bb,f.dom,kp,th,hf,?_⟩
 ·obtain ⟨sl,e1⟩:=I.base.slot b o e n hb (hex b)
  obtain ⟨sl2,e2⟩:=f.un.slot b _ e1 (I.base.free b o e n (hex b)) (p.mem.mpr (.inr hb)) (by simp)
  obtain ⟨_,o',e3,nd⟩:=f.fly.2.2.1.mem (p.mem.mpr (.inr hb))
  have z:=e2.symm.trans e3
  cases z
  obtain ⟨sl',e4⟩:=hu b { o with slots:=sl2 } e2 nd
  exact ⟨sl',e4⟩
 ·obtain ⟨sl,e1⟩:=I.base.any e n (hex b)
  exact f.un.free b _ e1 (I.base.free b o e n (hex b)) (by simp)
 ·by_cases hb:b∈frs X.outer
  ·obtain ⟨_,o',e3,nd⟩:=f.fly.2.2.1.mem (p.mem.mpr (.inr hb))
   obtain ⟨sl,e4⟩:=hu b _ e3 nd
   exact ⟨_,e4⟩
  ·obtain ⟨o',e1⟩:=th b o e hb
   exact ⟨_,hf.1 b o' e1⟩
 ·obtain ⟨m1,e1⟩:=I.base.tbls b ps e
  obtain ⟨m2,e2⟩:=f.un.tbls b _ e1
  exact ⟨m1++m2,by rw [e2,Array.append_assoc]⟩
 ·cases q:X.s₀.heap.get? ea with
  | none=>rfl
  | some o =>
   obtain ⟨o1,e1⟩:=I.base.there ea o q (hex ea)
   rw [f.new] at e1
   cases e1
theorem Qhq {M:Model} {E:Value->Shared->Prop} {h1:Heap} {vs:List Value} {Q:Unit->Shared->Prop} (p:X.Plain) (I:Inv X pins σ H s) (hx:Heap.MadeExcOf s.heap h1 ea (.ref C) vs)
  (hQ:∀h' t B,Fly X.prog X.w X.base B X.outer X.H₀ X.s₀ C ea t H { s with heap:=h' }->Q () { s with heap:=h' }):wpAny M X.A (leaving X.env (.ref ea)) Q E { s with heap:=h1 }:=by
 have hex:∀b,b∉X.ex:=λb=>by rw [p.ex];simp
 have hB:(hideAll s.heap (frs X.stack)).StaysIn s.heap:=λb o q=>of_hideAll _ q
 have inB:∀b o,s.heap.get? b=some o->b∉frs X.stack->(hideAll s.heap (frs X.stack)).get? b=some o:=λb o e n=>hideAll_get _ e n
 have hfrm:s.heap.FunFrames (hideAll s.heap (frs X.stack)) X.stack:=funFrames_hide I.stack λenv he a ha=>List.mem_filterMap.mpr ⟨env,he,ha⟩
 refine wpAny_leaves_madeW (base:=hideAll s.heap (frs X.stack)) (h:=s.heap) (s:={ s with heap:=h1 }) (outer:=X.outer) (env:=X.env) (by rw [← p.stk];exact I.ok.frames) p.frame hB (by rw [← p.stk];exact hfrm) hx λh' t x1 x2 x3 x4=>hQ h' t (hideAll s.heap (frs X.stack)) ?_
 have nst:∀b o,X.s₀.heap.get? b=some o->b∉frs X.outer->b∉frs X.stack:=λb o e nf z=>(p.mem.mp z).elim (I.old e) nf
 have kp:∀b ob,X.s₀.heap.get? b=some ob->X.H₀ b=none->b∉frs X.outer->(hideAll s.heap (frs X.stack)).get? b=some ob:=λb o e n nf=>inB b o (I.base.keep b o e n nf (hex b)) (nst b o e nf)
 have th:∀b ob,X.s₀.heap.get? b=some ob->b∉frs X.outer->∃o',(hideAll s.heap (frs X.stack)).get? b=some o':=λb o e nf=>by
  obtain ⟨o1,e1⟩:=I.base.there b o e (hex b)
  exact ⟨o1,inB b o1 e1 (nst b o e nf)⟩
 have dom:∀b o,H b=some o->∃ob,(hideAll s.heap (frs X.stack)).get? b=some ob:=λb o e=>by
  obtain ⟨ob,eb⟩:=(I.hok b o e).there
  exact ⟨ob,inB b ob eb λz=>by rw [I.stkFree b z] at e;cases e⟩
 refine ⟨I.os,I.bare,⟨λb o e n nf _=>x1.1 b o (kp b o e n nf),λb o e n hb _=>?_,λb o e n _=>I.base.free b o e n (hex b),λb o e _=>?_,I.base.tups,I.base.frzs,I.base.tbls⟩,Qnp I.hok dom hB x1.1,λb o e=>inB b o (I.bk b o e) λz=>?_,dom,kp,th,x1,?_⟩
 ·obtain ⟨sl,e1⟩:=I.base.slot b o e n hb (hex b)
  obtain ⟨_,o',e3,nd⟩:=I.stack.mem (p.mem.mpr (.inr hb))
  have z:=e1.symm.trans e3
  cases z
  obtain ⟨sl',e4⟩:=x4 b { o with slots:=sl } (hx.keeps b { o with slots:=sl } e1) nd
  exact ⟨sl',e4⟩
 ·by_cases hb:b∈frs X.outer
  ·obtain ⟨_,o',e3,nd⟩:=I.stack.mem (p.mem.mpr (.inr hb))
   obtain ⟨sl,e4⟩:=x4 b _ (hx.keeps b _ e3) nd
   exact ⟨_,e4⟩
  ·obtain ⟨o',e1⟩:=th b o e hb
   exact ⟨_,x1.1 b o' e1⟩
 ·have:=(I.stack.mem z).1
  rw [e] at this
  cases this
 ·cases q:X.s₀.heap.get? ea with
  | none=>rfl
  | some o =>
   obtain ⟨o1,e1⟩:=I.base.there ea o q (hex ea)
   rw [hx.new] at e1
   cases e1
end
def CXE (P:Program) (w:World) (base:Heap):CXT:=λouter H s E e s'=>∃ea C t B H',e=.ref ea/\Fly P w base B outer H s C ea t H' s'/\E (.ref C) none H'
end L2
namespace L2
open PySem PySem.Spec PyProof.Rows
structure ExcK (K:PySem.W.Frag) (mg:Str->Option Value) (x:Str) (C:Addr):Prop where
 bound:mg x=some (.ref C)
 obj:∃(B newId initId:String) (bmB bm bs:List Value) (nm q:Str) (N:Addr) (hdct:Bool) (sn:List Str) (sub:List Value) (ab:Bool) (col:Option Bool) (dd:Option Addr) (k0 k1 k2 k3 k5:Option Value) (mN:Str->Option Value),
  ExcBaseFacts B newId initId bmB/\bm.contains (.type "BaseException")=true/\mN "__init__" = none/\∀h:Heap,K.In h->h.get? C=some (excClassObj nm q C N bs bm hdct sn sub ab col dd k0 k1 k2 k3 k5 newId)/\h.Ns N mN/\OwnTail h bmB bm
section
variable {X:Cx} {pins:List (Addr × Obj)} {σ:St} {H:Hp} {s:Shared} {x:Str} {np cpos pos p:Pos} {e₀:Expr} {es:List Expr} {ta:TA}
theorem Qlh {C:Addr} {Ξ:St->Hp->Prop} (k:ExcK X.K X.mg x C) (hg:Gl X x) (hc:X.calm=true) (ha:PA X (e₀::es) ta)
  (hX:∀pins σ H s h1 e vs,Inv X pins σ H s->Heap.MadeExcOf s.heap h1 e (.ref C) vs->Ξ σ H->X.xe (.ref e) { s with heap:=h1 })
  (hdb:(x == ("__debug__" : Str))=false:=by decide) (he:starEach (e₀::es) X.env=(false,eval e₀ X.env)::starEach es X.env:=by rfl) (hpl:(backTo cpos (starEach es X.env)).any (·.1)=false:=by rfl) :
  PS X (.Raise (some (.Call (.Name x np) (e₀::es) [] cpos)) none pos) (λD σ H=>ta σ H λvs H1=>vs.length<=sizeLine/\Ξ σ H1):=by
 intro pins s σ H D I h
 obtain ⟨B,newId,initId,bmB,bm,bs,nm,q,N,hdct,sn,sub,ab,col,dd,k0,k1,k2,k3,k5,mN,FB,hbase,hni,hob⟩:=k.obj
 refine wpAny_Raise_call_subT (C:=C) (N:=N) (nm:=nm) (q:=q) (bs:=bs) (bm:=bm) (hdct:=hdct) (sn:=sn) (sub:=sub) (ab:=ab) (col:=col) (dd:=dd) (k0:=k0) (k1:=k1) (k2:=k2) (k3:=k3) (k5:=k5) (mN:=mN) FB hbase (I.ok.hd hc) (by rw [he];show (false || (backTo cpos (starEach es X.env)).any (·.1))=false;rw [hpl];rfl) hni (Qcv I hg k.bound ⟨rfl,?_⟩ hdb)
 have h2:=ha cpos pins s σ H _ I h
 rw [he] at h2 ⊢
 refine Calls.evalArgs_plain (wpAny_mono h2 (λus s2 z=>?_) λ_ _ y=>y)
 obtain ⟨vs,H1,I1,r1,hl,hΞ⟩:=z
 obtain ⟨o1,o2,o3⟩:=hob s2.heap I1.kIn
 exact ⟨rfl,by rw [← r1.length];exact hl,o1,o2,o3,λh' e hm=>hX pins σ H1 s2 h' e us I1 hm hΞ⟩
theorem Qmq {k:Nat} {f:Addr} {fd:FuncData} {ps:List Str} {sp:Sp} {Q:VK} {E:XK} (F:FnOk X.prog X.w X.K X.mg X.base (CXE X.prog X.w X.base) k f fd ps sp) (hr:Room k X.A) (hg:Gl X x) (hm:X.mg x=some (.ref f)) (hk:PySem.W.keepIn X.K (.ref f)=true) (hb:Qbe X.K fd ps [])
  (ha:PA X.nox (e₀::es) ta) (I:Inv X pins σ H s) (h:ta σ H λvs H1=>sp vs H1 Q E) (hdb:(x == ("__debug__" : Str))=false:=by decide)
  (he:starEach (e₀::es) X.env=(false,eval e₀ X.env)::starEach es X.env:=by rfl) (hpl:(backTo pos (starEach es X.env)).any (·.1)=false:=by rfl) :
  wpAny (model X.prog X.w) X.A (eval (.Call (.Name x p) (e₀::es) [] pos) X.env) (EP X pins σ Q) (λe s'=>∃s1 H1,Inv X pins σ H1 s1/\CXE X.prog X.w X.base X.stack H1 s1 E e s') s:=by
 refine wpAny_Call_Name_kw (Qcv I hg hm ?_ hdb)
 refine PySem.W.callWith_K (K:=X.K) (h₀:=X.base) I.ok.mod.kin hk (wpAny_mono (ha pos pins s σ H _ (I.wish _) h) (λus s1 z=>?_) λ_ _ z=>False.elim z) he hpl
 obtain ⟨vs,H1,I1,r,q⟩:=z
 have I1:=I1.unwish
 have hl:(us++[]).length=ps.length:=by rw [List.append_nil,← r.length];exact F.len _ _ _ _ q
 have hbb:=hb s1 us I1.kIn hl
 rw [List.append_nil] at hbb
 refine ⟨I1.kIn,wpAny_call (codeAny_mono (F.run X.A X.stack s1 H1 ⟨us,[]⟩ us vs Q E hr I1.env0 hbb r q) λr s' hq=>?_)⟩
 cases r with
 | error e=>exact ⟨s1,H1,I1,hq⟩
 | ok fl =>
  cases fl with
  | ret u=>exact I1.after hq
  | next=>exact False.elim hq
  | brk=>exact False.elim hq
  | cont=>exact False.elim hq
end
end L2
namespace L2
open PySem PySem.Spec PyProof.Rows
section
variable {X:Cx} {pins:List (Addr × Obj)} {σ:St} {H H':Hp} {s s':Shared} {C ea t:Addr} {B h'':Heap}
variable {cx n:Str} {np pos hpos:Pos} {b₀:Stmt} {suite body:List Stmt} {j:Nat} {C0:Addr} {th:TS}
end
end L2
namespace L2
open PySem PySem.Spec PyProof.Rows
open PySem.W (findIn subIn mroIn clsIn Looks looks_findIn looks_subIn InstAt KitX)
structure ExcQ (K:PySem.W.Frag) (C:Addr):Prop where
 ga:findIn K (.ref C) "__getattribute__" = some (some (.builtin "BaseException.__getattribute__"))
 gt:findIn K (.ref C) "__getattr__" = some none
 cl:findIn K (.ref C) "__class__" = some (some (.builtin "object.__class__"))
 so:subIn K (.ref C) (.type "object")=some true
 sb:subIn K (.ref C) (.type "BaseException")=some true
 kc:(clsIn K C).isSome=true
section
variable {prog:Program} {w:World} {A:Around} {E:Value->Shared->Prop} {h:Heap} {g:Array GenState} {d:Drawn} {t:Nat} {os:OsState} {a C:Addr} {o:Obj} {K:PySem.W.Frag} {Bx:String} {bmB:List Value}
end
section
variable {X:Cx}
end
end L2
namespace L2
open PySem PySem.Spec PyProof.Rows
def Itel (K:PySem.W.Frag) (a:Addr):It :=
 ⟨λi H=>∃xs x,SqL K H a xs/\xs[i]? = some x,λi H v H'=>∀xs,SqL K H a xs->∃x p,xs[i]? = some x/\v=.ref p/\H p=none/\H'=upd H p (.tup [.int i,x]),λi H=>∃xs,SqL K H a xs/\xs.length<=i⟩
theorem Qhf {P:Program} {w:World} {K:PySem.W.Frag} {es:List Expr} {kt:Nat} {pt:Pos} (a e it:Addr) (hei:e≠it):Turn P w K (.Tuple es kt pt) (Itel K a) [e,it] e (λi h=>(∃old,IsEnum h e it i old)/\h.IsListIter it a i) where
 mem:=by simp
 obj:=λi h st b hb=>by
  obtain ⟨⟨old,h1⟩,o,h2,c,d⟩:=st
  rcases List.mem_cons.mp hb with z | z
  ·subst z;exact ⟨_,h1,λv z=>by have z':Data.fields _=Data.cell v:=z;cases z'⟩
  ·have z':b=it:=by simpa using z
   subst z';exact ⟨o,h2,λv z=>by rw [d] at z;cases z⟩
 keep:=λi h h' st k=>⟨let ⟨old,h1⟩:=st.1;⟨old,k e (by simp) _ h1⟩,st.2.at λo q=>k it (by simp) o q⟩
 item:=by
  intro X hP hw hK hc i pins s σ H E I hf st hg
  subst hP hw hK
  obtain ⟨⟨old,he⟩,hit⟩:=st
  obtain ⟨xs,x,hq,hx⟩:=hg
  obtain ⟨its,rv,⟨ol,nl,g1,g2,g3,g4⟩,hz⟩:=I.list hq
  have p:s.heap.IsList a its.toArray:=⟨ol,g1,g2,nl,g4⟩
  obtain ⟨u',hu',ru⟩:=rv.get hx
  refine wpAny_pyNext_enum_item he hit p (x:=u') (by simpa using hu') hei λh' ho hst' hT hsz hk=>?_
  refine ⟨_,rfl,wpAny_letOwnedTupleGo_enum ho λh2 he2 hs2=>?_⟩
  have hTe:s.heap.objs.size≠e:=Nat.ne_of_gt (Heap.lt_size he)
  have hT2:h2.get? s.heap.objs.size=some { cls:=.type "tuple",data:=.seq #[.int i s.toks,u'] }:=(hs2.2 _ hTe).trans hT
  have hn:H s.heap.objs.size=none:=I.hok.fresh (Nat.le_refl _)
  refine ⟨.ref s.heap.objs.size,upd H s.heap.objs.size (.tup [.int i,x]),I.turnNew (ch:=[e,it]) (t':=s.toks+1) (Nat.le_refl _) (λb o hb q=>?_) hf ?_,rfl,λys hy=>?_,⟨⟨_,he2⟩,hst'.at λo q=>?_⟩,λb hb=>?_⟩
  ·have h1:b≠e:=λz=>hb (by simp [z])
   have h2':b≠it:=λz=>hb (by simp [z])
   exact (hs2.2 b h1).trans (hk b o h1 h2' q)
  ·exact ⟨by show 2<=sizeLine;decide,[.int i s.toks,u'],.cons ⟨_,rfl⟩ (.cons ru .nil),⟨_,hT2,rfl,_,rfl⟩⟩
  ·rw [I.list_inj hy hq]
   exact ⟨x,_,hx,rfl,hn,rfl⟩
  ·exact (hs2.2 it (Ne.symm hei)).trans q
  ·obtain ⟨o,q,_⟩:∃o,s.heap.get? b=some o/\True:=by
    rcases List.mem_cons.mp hb with z | z
    ·exact ⟨_,z ▸ he,trivial⟩
    ·have z':b=it:=by simpa using z
     obtain ⟨o,q,_⟩:=hit
     exact ⟨o,z' ▸ q,trivial⟩
   rw [Qy (Nat.ne_of_lt (Heap.lt_size q))]
   exact (hf b hb).1
 done:=by
  intro X hP hw hK hc i pins s σ H E I hf st hg
  subst hP hw hK
  obtain ⟨⟨old,he⟩,hit⟩:=st
  obtain ⟨xs,hq,hx⟩:=hg
  obtain ⟨its,rv,⟨ol,nl,g1,g2,g3,g4⟩,hz⟩:=I.list hq
  have p:s.heap.IsList a its.toArray:=⟨ol,g1,g2,nl,g4⟩
  have hlen:=rv.length
  refine wpAny_pyNext_enum_end (I.ok.hd hc) he hit p (by simp;omega) λh' he'=>?_
  exact ⟨rfl,I.turnAll (ch:=[e,it]) (t':=s.toks) (λb u hb q=>he' b u (λz=>hb (by simp [z])) q) hf⟩
 self:=λ_ _ _ _ _ st h=>by
  obtain ⟨⟨old,q⟩,_⟩:=st
  exact wpAny_pyIter_enum q h
section
variable {X:Cx} {pins:List (Addr × Obj)} {σ:St} {H H':Hp} {s s':Shared} {C ea t:Addr} {B h'':Heap}
def Qs2 (K:PySem.W.Frag) (ta:TA):TI:=λσ H R=>ta σ H λvs H1=>∃a,vs=[.ref a]/\(∃xs,SqL K H1 a xs)/\R (Itel K a) H1
theorem Qgd {a:Expr} {ta:TA} {p pos:Pos} {es:List Expr} {kt:Nat} {pt:Pos} (hg:Gl X "enumerate") (hm:X.mg "enumerate" = none) (ha:PA X [a] ta) (hs:starEach [a] X.env=[(false,eval a X.env)]:=by rfl) :
  PI X (.Tuple es kt pt) (.Call (.Name "enumerate" p) [a] [] pos) (Qs2 X.K ta):=by
 intro pins s σ H R I h
 refine Call_ (Qay I hg hm boot_enumerate (PyProof.Rows.callWith_type1 (thn (ha pos pins s σ H _ I h) λus s1 ⟨vs,H1,I1,r1,q1⟩=>?_) hs rfl))
 obtain ⟨x,e,⟨xs,hq⟩,q⟩:=q1
 subst e
 obtain ⟨u,rfl,ru⟩:=Qcc r1
 cases ru
 obtain ⟨its,rv,⟨ol,nl,g1,g2,g3,g4⟩,hz⟩:=I1.list hq
 refine call_enumerate_list (show s1.heap.IsList x its.toArray from ⟨ol,g1,g2,nl,g4⟩) λh' he hit hz kp=>?_
 have I2:Inv X pins σ H1 { s1 with heap:=h' }:=I1.kept (t':=s1.toks) kp
 refine wpAny_pyIter_enum he ⟨s1.heap.objs.size+1,[s1.heap.objs.size+1,s1.heap.objs.size],_,_,H1,rfl,I2,Qhf x _ _ (Nat.ne_of_gt (Nat.lt_succ_self _)),⟨⟨_,he⟩,hit⟩,λb hb=>?_,q⟩
 have hb':s1.heap.objs.size<=b:=by
  rcases List.mem_cons.mp hb with z | z
  ·rw [z];exact Nat.le_succ _
  ·have z':b=s1.heap.objs.size:=by simpa using z
   rw [z'];exact Nat.le_refl _
 exact I1.fpOk hb' (I1.hok.fresh hb')
theorem Qhk {k i:Nat} {f:Addr} {fd:FuncData} {ps:List Str} {sp:Sp} {v:Str} {p pos:Pos} {e:Expr} {es:List Expr} {t:TA} (F:FnOk X.prog X.w X.K X.mg X.base CX0 k f fd ps sp) (hr:Room k X.A) (hk:PySem.W.keepIn X.K (.ref f)=true) (hb:Qbe X.K fd ps [])
  (ha:PA X (e::es) t) (hN:X.N[i]? = some v) (hv:Vis X.env.scope v) (hd:(v == ("__debug__" : Str))=false:=by decide) (hcd:(v == ("__classdict__" : Str))=false:=by decide)
  (he:starEach (e::es) X.env=(false,eval e X.env)::starEach es X.env:=by rfl) (hpl:(backTo pos (starEach es X.env)).any (·.1)=false:=by rfl) :
  PE X (.Call (.Name v p) (e::es) [] pos) (λσ H Q=>σ[i]? = some (some (.ref f))/\t σ H λvs H1=>sp vs H1 Q E0):=by
 intro pins s σ H Q I h
 obtain ⟨h1,h2⟩:=h
 refine wpAny_Call_Name_kw (thn (Vd hN hv hd hcd pins s σ H (λx H'=>x=.ref f/\H'=H) I ⟨_,h1,rfl,rfl⟩) λu s1 z=>?_)
 obtain ⟨x,H0,I0,rx,rfl,rfl⟩:=z
 cases rx
 refine PySem.W.callWith_K (h₀:=X.base) I0.ok.mod.kin hk (thn (ha pos pins s1 σ H0 _ I0 h2) λus s2 ⟨vs,H1,I1,r,q⟩=>⟨I1.kIn,?_⟩) he hpl
 exact Qm7 F hr hb .nil Qrr I1 r (by rw [List.append_nil];exact q)
theorem Ql7 {M:Model} {E:Value->Shared->Prop} {Q:Unit->Shared->Prop} (p:X.Plain) (I:Inv X pins σ H s) (f:Fly X.prog X.w X.base B X.stack H s C ea t H' s')
  (hQ:∀h',Fly X.prog X.w X.base B X.outer X.H₀ X.s₀ C ea t H' { s' with heap:=h' }->Q () { s' with heap:=h' }):wpAny M X.A (leaving X.env (.ref ea)) Q E s' :=
 wpAny_leaves_onW (by rw [← p.stk];exact I.ok.frames) p.frame (by rw [← p.stk];exact f.fly) λh' x1 x2=>hQ h' (f.out p I x1 x2)
theorem Qoy {k i:Nat} {f:Addr} {fd:FuncData} {ps:List Str} {sp:Sp} {x y:Str} {e₀:Expr} {es:List Expr} {ta:TA} {px p cpos pos:Pos} {Ξ:Addr->St->Hp->Prop} (F:FnOk X.prog X.w X.K X.mg X.base (CXE X.prog X.w X.base) k f fd ps sp) (hr:Room k X.A) (hg:Gl X x) (hm:X.mg x=some (.ref f)) (hk:PySem.W.keepIn X.K (.ref f)=true) (hb:Qbe X.K fd ps [])
  (ha:PA X.nox (e₀::es) ta) (hX:∀pins σ H s e s',Inv X pins σ H s->CXE X.prog X.w X.base X.stack H s (λc _ H'=>∃C,c=.ref C/\Ξ C σ H') e s'->X.xe e s') (hN:X.N.Nodup) (hi:X.N[i]? = some y) (hy:Loc X.env.scope y)
  (hs:swapsWith (.Call (.Name x p) (e₀::es) [] cpos) (some (.Name y px)) pos.line X.env=pure false:=by rfl) (hf:X.fn y=true\/X.env.scope.names.lookup y=some .local:=by first | exact .inl rfl | exact .inr rfl | assumption) (hdb:(x == ("__debug__" : Str))=false:=by decide)
  (he:starEach (e₀::es) X.env=(false,eval e₀ X.env)::starEach es X.env:=by rfl) (hpl:(backTo cpos (starEach es X.env)).any (·.1)=false:=by rfl) :
  PS X (.Assign [.Name y px] (.Call (.Name x p) (e₀::es) [] cpos) pos) (λD σ H=>ta σ H λvs H1=>sp vs H1 (λv H2=>D.nx (σ.set i (some v)) H2) λc _ H'=>∃C,c=.ref C/\Ξ C σ H'):=by
 intro pins s σ H D I h
 refine wpAny_Assign_Name (wpAny_mono (Qmq F hr hg hm hk hb ha I h hdb he hpl) (λv s1 z=>?_) λe s' ⟨s1,H1,I1,z⟩=>hX pins σ H1 s1 e s' I1 z) hs
 obtain ⟨y1,H1,I1,r1,q1⟩:=z
 exact X0 I1 hN hi hy r1 (λs2 I2=>⟨_,H1,I2,q1⟩) hf
variable {cx:Str} {np pos hpos:Pos} {b₀:Stmt} {suite body:List Stmt} {C0:Addr} {th:TS}
end
end L2
namespace L2
open PySem PySem.Spec PyProof.Rows
section
variable {prog:Program} {w:World}
end
section
variable {X:Cx}
end
end L2
namespace L2
open PySem PySem.Spec PyProof.Rows
open PySem.W (Dat kqdP kqdPs kqdOk)
open AutoSeq1 (wpAny_loadPart')
open MeetsSeq (plain_remove_loop entry_remove_loop size_erased)
section
variable {X:Cx}
end
end L2
namespace L2
open PySem PySem.Spec PyProof.Rows
section
variable {X:Cx}
end
end L2
namespace M
end M
namespace L2
open PySem PySem.Spec PyProof.Rows
structure Lam where
 qual:Str
 args:Arguments
 body:Expr
 scope:Scope
 names:List Str
abbrev anyO:HO:=.ext λ_=>True
abbrev Lam.obj (L:Lam) (cl:List (Str × Addr)) (pm:Value) (c':Addr) (ctv:Value):Obj:=PySem.W.kla_obj "<lambda>" L.qual L.args L.body L.scope cl pm c' ctv
def Qg9 (H:Hp) (L:Lam) (a:Addr) (cl:List (Str × Addr)):Prop :=
 ∃(c':Addr) (oc:Obj) (vs:Array Value) (t:Tok) (pm ctv:Value) (u:HO),H a=some (.frz (L.obj cl pm c' ctv) anyO)/\H c'=some (.frz oc u)/\oc.data=.fields vs/\vs[1]? = some (.str L.qual t)
def Xh (H:Hp):List (Str × Addr)->List V->Prop
 | [],[]=>True
 | p::cl,x::xs=>(∃oo v,H p.2=some (.frz oo anyO)/\oo.data=.cell (some v)/\RelV x v)/\Xh H cl xs
 | _,_=>False
def Qmw (H:Hp) (L:Lam) (a:Addr) (xs:List V):Prop :=
 ∃cl:List (Str × Addr),Qg9 H L a cl/\cl.map (·.1)=L.names/\(cl.map (·.2)).Nodup/\Xh H cl xs
section
variable {H H':Hp} {L:Lam} {a:Addr} {cl:List (Str × Addr)} {xs:List V}
theorem Qg9.keeps (hi:∀b o u,H b=some (.frz o u)->H' b=some (.frz o u)) (x:Qg9 H L a cl):Qg9 H' L a cl:=by
 obtain ⟨c',oc,vs,t,pm,ctv,u,h1,h2,r⟩:=x
 exact ⟨c',oc,vs,t,pm,ctv,u,hi _ _ _ h1,hi _ _ _ h2,r⟩
theorem Xh.keeps (hi:∀b o u,H b=some (.frz o u)->H' b=some (.frz o u)):∀{cl:List (Str × Addr)} {xs:List V},Xh H cl xs->Xh H' cl xs
 | [],[],_=>trivial
 | p::cl,x::xs,⟨⟨oo,v,h1,r⟩,q⟩=>⟨⟨oo,v,hi _ _ _ h1,r⟩,Xh.keeps hi q⟩
 | [],_::_,h=>h.elim
 | _::_,[],h=>h.elim
theorem Qmw.keeps (hi:∀b o u,H b=some (.frz o u)->H' b=some (.frz o u)) (x:Qmw H L a xs):Qmw H' L a xs:=by
 obtain ⟨cl,h1,h2,h3,h4⟩:=x
 exact ⟨cl,h1.keeps hi,h2,h3,h4.keeps hi⟩
end
section
variable {P:Program} {w:World} {K:PySem.W.Frag} {mg:Str->Option Value} {base:Heap} {A:Around} {outer:List Env} {s s':Shared} {H H2:Hp} {cs:List Addr} {h:Heap}
end
section
variable {P:Program} {w:World} {K:PySem.W.Frag} {mg:Str->Option Value} {base:Heap} {A:Around} {outer:List Env} {s s':Shared} {H H2:Hp} {cs:List Addr}
end
end L2
namespace L2
open PySem PySem.Spec PyProof.Rows
open PySem.W (kla_obj kla_fn envX CodeHd codeHd_of_K codeHdIn tabObj)
section
variable {X:Cx}
end
section
variable {X:Cx} {k:Nat}
end
end L2
namespace PV
open PySem PySem.Spec L2
inductive Ty where
 | int | bool | str | tuple | list | dict
 deriving DecidableEq
def Ty.nm:Ty->String
 | .int=>"int" | .bool=>"bool" | .str=>"str" | .tuple=>"tuple" | .list=>"list" | .dict=>"dict"
inductive KC where
 | any (a:Addr)
 | fn (x:Str)
 | int (i:Int)
 | tup (ks:List KC)
mutual
inductive IsKC (K:PySem.W.Frag):KC->V->Prop
 | any (a:Addr):IsKC K (.any a) (.ref a)
 | fn {x:Str} {f:Addr} (h:PySem.W.nsIn K mainGlobals x=some (some (.ref f))):IsKC K (.fn x) (.ref f)
 | int (i:Int):IsKC K (.int i) (.int i)
 | tup {a:Addr} {xs:List V} {ks:List KC} {o:Obj} {its:Array Value} {n:Nat} (h1:K.lookup a=some o) (h2:o.cls=.type "tuple") (h3:o.data=.seq its n) (h4:its.size<=sizeLine) (h5:Vals xs its.toList) (r:AreKC K ks xs):IsKC K (.tup ks) (.ref a)
inductive AreKC (K:PySem.W.Frag):List KC->List V->Prop
 | nil:AreKC K [] []
 | cons {c:KC} {v:V} {cs:List KC} {vs:List V} (h:IsKC K c v) (r:AreKC K cs vs):AreKC K (c::cs) (v::vs)
end
inductive D where
 | non
 | bl (b:Bool)
 | int (i:Int)
 | str (x:Str)
 | tup (xs:List D)
 | lst (xs:List D)
 | dik (kvs:List (Key × D))
 | dit (kvs:List (List Key × D))
 | kls (xs:List D)
 | ty (t:Ty)
 | fdk (kvs:List (Key × D))
 | ftp (xs:List D)
 | fls (xs:List D)
 | fdt (kvs:List (List Key × D))
 | obj (x:Str) (fs:List (Str × Int))
 | clo (L:Lam) (ds:List D)
 | kc (c:KC)
def imm:HO->Bool
 | .tup _=>true
 | .frz _ _=>true
 | _=>false
def FzL (K:PySem.W.Frag) (H:Hp) (a:Addr) (xs:List V):Prop :=
 (∃o,H a=some (.frz o (.lst xs))) \/
  ∃(o:Obj) (its:Array Value) (n:Nat),K.lookup a=some o/\o.cls=.type "list" /\ o.dict=none/\o.data=.seq its n/\its.size<=sizeLine/\Vals xs its.toList
theorem FzL.sq {K:PySem.W.Frag} {H:Hp} {a:Addr} {xs:List V} (h:FzL K H a xs):SqL K H a xs:=by
 rcases h with h | h
 ·exact .inl (.inr h)
 ·exact .inr h
mutual
inductive Rep (K:PySem.W.Frag) (H:Hp):D->V->List Addr->Prop
 | non:Rep K H .non .non []
 | bl (b:Bool):Rep K H (.bl b) (.bl b) []
 | int (i:Int):Rep K H (.int i) (.int i) []
 | str (x:Str):Rep K H (.str x) (.str x) []
 | tup {a:Addr} {xs:List V} {ds:List D} {F:List Addr} (e:H a=some (.tup xs)) (r:Reps K H ds xs F):Rep K H (.tup ds) (.ref a) F
 | lst {a:Addr} {xs:List V} {ds:List D} {F:List Addr} (e:H a=some (.lst xs)) (r:Reps K H ds xs F):Rep K H (.lst ds) (.ref a) (a::F)
 | dik {a:Addr} {kvs:List (Key × V)} {ds:List (Key × D)} {F:List Addr} (e:H a=some (.dK kvs)) (r:RepK K H ds kvs F):Rep K H (.dik ds) (.ref a) (a::F)
 | dit {a:Addr} {kvs:List (List Key × V)} {ds:List (List Key × D)} {F:List Addr} (e:H a=some (.dT kvs)) (r:RepT K H ds kvs F):Rep K H (.dit ds) (.ref a) (a::F)
 | kls {a:Addr} {xs:List V} {ds:List D} (e:FzL K H a xs) (r:Reps K H ds xs []):Rep K H (.kls ds) (.ref a) []
 | ty (t:Ty):Rep K H (.ty t) (.ty t.nm) []
 | fdk {a:Addr} {o:Obj} {kvs:List (Key × V)} {ds:List (Key × D)} {F:List Addr} (e:H a=some (.frz o (.dK kvs))) (r:RepK K H ds kvs F):Rep K H (.fdk ds) (.ref a) F
 | ftp {a:Addr} {o:Obj} {xs:List V} {ds:List D} (e:H a=some (.frz o (.tup xs))) (hd:o.dict=none) (r:Reps K H ds xs []):Rep K H (.ftp ds) (.ref a) []
 | fls {a:Addr} {o:Obj} {xs:List V} {ds:List D} (e:H a=some (.frz o (.lst xs))) (r:Reps K H ds xs []):Rep K H (.fls ds) (.ref a) []
 | fdt {a:Addr} {o:Obj} {kvs:List (List Key × V)} {ds:List (List Key × D)} {F:List Addr} (e:H a=some (.frz o (.dT kvs))) (r:RepT K H ds kvs F):Rep K H (.fdt ds) (.ref a) F
 | obj {a:Addr} {x:Str} {o:Obj} {φ:Heap->Prop} {fs:List (Str × Int)} (e:H a=some (.frz o (.ext φ))) (hc:∃C,o.cls=.ref C/\PySem.W.nsIn K mainGlobals x=some (some (.ref C))) (hf:fs=[]\/∃dx od,o.dict=some dx/\H dx=some (.frz od (.xd (fs.map λp=>(p.1,V.int p.2))))):Rep K H (.obj x fs) (.ref a) []
 | clo {a:Addr} {L:Lam} {xs:List V} {ds:List D} {F:List Addr} (e:Qmw H L a xs) (r:Reps K H ds xs F):Rep K H (.clo L ds) (.ref a) F
 | kc {c:KC} {v:V} (h:IsKC K c v):Rep K H (.kc c) v []
inductive Reps (K:PySem.W.Frag) (H:Hp):List D->List V->List Addr->Prop
 | nil:Reps K H [] [] []
 | cons {d:D} {v:V} {ds:List D} {vs:List V} {F G:List Addr} (h:Rep K H d v F) (r:Reps K H ds vs G):Reps K H (d::ds) (v::vs) (F++G)
inductive RepK (K:PySem.W.Frag) (H:Hp):List (Key × D)->List (Key × V)->List Addr->Prop
 | nil:RepK K H [] [] []
 | cons {k:Key} {d:D} {v:V} {ds:List (Key × D)} {vs:List (Key × V)} {F G:List Addr} (h:Rep K H d v F) (r:RepK K H ds vs G):RepK K H ((k,d)::ds) ((k,v)::vs) (F++G)
inductive RepT (K:PySem.W.Frag) (H:Hp):List (List Key × D)->List (List Key × V)->List Addr->Prop
 | nil:RepT K H [] [] []
 | cons {k:List Key} {d:D} {v:V} {ds:List (List Key × D)} {vs:List (List Key × V)} {F G:List Addr} (h:Rep K H d v F) (r:RepT K H ds vs G):RepT K H ((k,d)::ds) ((k,v)::vs) (F++G)
end
def ImmK (H H':Hp):Prop:=∀b ob,H b=some ob->imm ob=true->H' b=some ob
theorem ImmK.fzL {K:PySem.W.Frag} {H H':Hp} (hi:ImmK H H') {a:Addr} {xs:List V} (e:FzL K H a xs):FzL K H' a xs:=by
 rcases e with ⟨o,e⟩ | e
 ·exact .inl ⟨o,hi _ _ e rfl⟩
 ·exact .inr e
theorem Rep.frame {K:PySem.W.Frag} {H H':Hp} (hi:ImmK H H') {d:D} {v:V} {F:List Addr} (r:Rep K H d v F):(∀a∈F,H' a=H a)->Rep K H' d v F:=by
 refine Rep.rec (motive_1:=λd v F _=>(∀a∈F,H' a=H a)->Rep K H' d v F) (motive_2:=λd v F _=>(∀a∈F,H' a=H a)->Reps K H' d v F) (motive_3:=λd v F _=>(∀a∈F,H' a=H a)->RepK K H' d v F) (motive_4:=λd v F _=>(∀a∈F,H' a=H a)->RepT K H' d v F) ?_ ?_ ?_ ?_ ?_ ?_ ?_ ?_ ?_ ?_ ?_ ?_ ?_ ?_ ?_ ?_ ?_ ?_ ?_ ?_ ?_ ?_ ?_ r
 ·exact λ_=>.non
 ·exact λb _=>.bl b
 ·exact λb _=>.int b
 ·exact λb _=>.str b
 ·exact λe _ ih k=>.tup (hi _ _ e rfl) (ih k)
 ·exact λe _ ih k=>.lst ((k _ (List.mem_cons_self)).trans e) (ih λa h=>k a (List.mem_cons_of_mem _ h))
 ·exact λe _ ih k=>.dik ((k _ (List.mem_cons_self)).trans e) (ih λa h=>k a (List.mem_cons_of_mem _ h))
 ·exact λe _ ih k=>.dit ((k _ (List.mem_cons_self)).trans e) (ih λa h=>k a (List.mem_cons_of_mem _ h))
 ·exact λe _ ih k=>.kls (hi.fzL e) (ih k)
 ·exact λt _=>.ty t
 ·exact λe _ ih k=>.fdk (hi _ _ e rfl) (ih k)
 ·exact λe hd _ ih k=>.ftp (hi _ _ e rfl) hd (ih k)
 ·exact λe _ ih k=>.fls (hi _ _ e rfl) (ih k)
 ·exact λe _ ih k=>.fdt (hi _ _ e rfl) (ih k)
 ·exact λe hc hf _=>.obj (hi _ _ e rfl) hc (hf.imp id λ⟨dx,od,h1,h2⟩=>⟨dx,od,h1,hi _ _ h2 rfl⟩)
 ·exact λe _ ih k=>.clo (e.keeps λ_ _ _ q=>hi _ _ q rfl) (ih k)
 ·exact λh _=>.kc h
 ·exact λ_=>.nil
 ·exact λ_ _ ih1 ih2 k=>.cons (ih1 λa q=>k a (List.mem_append.mpr (.inl q))) (ih2 λa q=>k a (List.mem_append.mpr (.inr q)))
 ·exact λ_=>.nil
 ·exact λ_ _ ih1 ih2 k=>.cons (ih1 λa q=>k a (List.mem_append.mpr (.inl q))) (ih2 λa q=>k a (List.mem_append.mpr (.inr q)))
 ·exact λ_=>.nil
 ·exact λ_ _ ih1 ih2 k=>.cons (ih1 λa q=>k a (List.mem_append.mpr (.inl q))) (ih2 λa q=>k a (List.mem_append.mpr (.inr q)))
theorem Reps.frame {K:PySem.W.Frag} {H H':Hp} (hi:ImmK H H') {d:List D} {v:List V} {F:List Addr} (r:Reps K H d v F) (k:∀a∈F,H' a=H a):Reps K H' d v F:=by
 induction d generalizing v F with
 | nil=>cases r;exact .nil
 | cons d ds ih=>cases r with | cons h r=>exact .cons (Rep.frame hi h λa q=>k a (List.mem_append.mpr (.inl q))) (ih r λa q=>k a (List.mem_append.mpr (.inr q)))
theorem RepK.frame {K:PySem.W.Frag} {H H':Hp} (hi:ImmK H H') {d:List (Key × D)} {v:List (Key × V)} {F:List Addr} (r:RepK K H d v F) (k:∀a∈F,H' a=H a):RepK K H' d v F:=by
 induction d generalizing v F with
 | nil=>cases r;exact .nil
 | cons d ds ih=>cases r with | cons h r=>exact .cons (Rep.frame hi h λa q=>k a (List.mem_append.mpr (.inl q))) (ih r λa q=>k a (List.mem_append.mpr (.inr q)))
theorem RepT.frame {K:PySem.W.Frag} {H H':Hp} (hi:ImmK H H') {d:List (List Key × D)} {v:List (List Key × V)} {F:List Addr} (r:RepT K H d v F) (k:∀a∈F,H' a=H a):RepT K H' d v F:=by
 induction d generalizing v F with
 | nil=>cases r;exact .nil
 | cons d ds ih=>cases r with | cons h r=>exact .cons (Rep.frame hi h λa q=>k a (List.mem_append.mpr (.inl q))) (ih r λa q=>k a (List.mem_append.mpr (.inr q)))
theorem Rep.dom {K:PySem.W.Frag} {H:Hp} {d:D} {v:V} {F:List Addr} (r:Rep K H d v F):∀a∈F,∃ob,H a=some ob/\imm ob=false:=by
 have cn:∀{b:Addr} {F:List Addr} {ob:HO},H b=some ob->imm ob=false->(∀a∈F,∃ob,H a=some ob/\imm ob=false)->∀a∈b::F,∃ob,H a=some ob/\imm ob=false:=λe hb ih a m=>(List.mem_cons.mp m).elim (λz=>z ▸ ⟨_,e,hb⟩) (ih a)
 have ap:∀{F G:List Addr},(∀a∈F,∃ob,H a=some ob/\imm ob=false)->(∀a∈G,∃ob,H a=some ob/\imm ob=false)->∀a∈F++G,∃ob,H a=some ob/\imm ob=false:=λih1 ih2 a m=>(List.mem_append.mp m).elim (ih1 a) (ih2 a)
 have no:∀a∈([]:List Addr),∃ob,H a=some ob/\imm ob=false:=λ_ m=>nomatch m
 refine Rep.rec (motive_1:=λ_ _ F _=>∀a∈F,∃ob,H a=some ob/\imm ob=false) (motive_2:=λ_ _ F _=>∀a∈F,∃ob,H a=some ob/\imm ob=false) (motive_3:=λ_ _ F _=>∀a∈F,∃ob,H a=some ob/\imm ob=false) (motive_4:=λ_ _ F _=>∀a∈F,∃ob,H a=some ob/\imm ob=false) no (λ_=>no) (λ_=>no) (λ_=>no) (λ_ _ ih=>ih) (λe _ ih=>cn e rfl ih) (λe _ ih=>cn e rfl ih) (λe _ ih=>cn e rfl ih) (λ_ _ _=>no) (λ_=>no) (λ_ _ ih=>ih) (λ_ _ _ _=>no) (λ_ _ _=>no) (λ_ _ ih=>ih) (λ_ _ _=>no) (λ_ _ ih=>ih) (λ_=>no) no (λ_ _=>ap) no (λ_ _=>ap) no (λ_ _=>ap) r
theorem Reps.dom {K:PySem.W.Frag} {H:Hp} {d:List D} {v:List V} {F:List Addr} (r:Reps K H d v F):∀a∈F,∃ob,H a=some ob/\imm ob=false:=by
 induction d generalizing v F with
 | nil=>cases r;exact λ_ m=>nomatch m
 | cons d ds ih=>cases r with | cons h r=>exact λa m=>(List.mem_append.mp m).elim (Rep.dom h a) (ih r a)
mutual
def D.pure:D->Bool
 | .tup xs=>Qm xs
 | .lst _=>false
 | .dik _=>false
 | .dit _=>false
 | .kls _=>true
 | .non=>true
 | .bl _=>true
 | .int _=>true
 | .str _=>true
 | .ty _=>true
 | .fdk _=>false
 | .ftp _=>true
 | .fls _=>true
 | .fdt _=>false
 | .obj _ _=>true
 | .clo _ _=>false
 | .kc _=>true
def Qm:List D->Bool
 | []=>true
 | d::r=>d.pure && Qm r
end
theorem Uf {xs:List D}:Qm xs=true↔∀x∈xs,x.pure=true:=by
 induction xs with
 | nil=>simp [Qm]
 | cons d r ih=>simp only [Qm,Bool.and_eq_true,ih,List.mem_cons,forall_eq_or_imp]
theorem Rep.pure {K:PySem.W.Frag} {H:Hp} {d:D} {v:V} {F:List Addr} (r:Rep K H d v F):d.pure=true->F=[]/\Rep K H d v []:=by
 have no:∀{P:Prop} {b:Bool},b=false->b=true->P:=λh h'=>absurd (h.symm.trans h') (by simp)
 refine Rep.rec (motive_1:=λd v F _=>d.pure=true->F=[]/\Rep K H d v []) (motive_2:=λd v F _=>Qm d=true->F=[]/\Reps K H d v []) (motive_3:=λ_ _ _ _=>True) (motive_4:=λ_ _ _ _=>True) ?_ ?_ ?_ ?_ ?_ ?_ ?_ ?_ ?_ ?_ ?_ ?_ ?_ ?_ ?_ ?_ ?_ ?_ ?_ trivial (λ_ _ _ _=>trivial) trivial (λ_ _ _ _=>trivial) r
 ·exact λ_=>⟨rfl,.non⟩
 ·exact λb _=>⟨rfl,.bl b⟩
 ·exact λb _=>⟨rfl,.int b⟩
 ·exact λb _=>⟨rfl,.str b⟩
 ·exact λe _ ih p=>⟨(ih (by rw [D.pure] at p;exact p)).1,.tup e (ih (by rw [D.pure] at p;exact p)).2⟩
 ·exact λ_ _ _=>no (by rw [D.pure])
 ·exact λ_ _ _=>no (by rw [D.pure])
 ·exact λ_ _ _=>no (by rw [D.pure])
 ·exact λe r _ _=>⟨rfl,.kls e r⟩
 ·exact λb _=>⟨rfl,.ty b⟩
 ·exact λ_ _ _=>no (by rw [D.pure])
 ·exact λe hd r _ _=>⟨rfl,.ftp e hd r⟩
 ·exact λe r _ _=>⟨rfl,.fls e r⟩
 ·exact λ_ _ _=>no (by rw [D.pure])
 ·exact λe hc hf _=>⟨rfl,.obj e hc hf⟩
 ·exact λ_ _ _=>no (by rw [D.pure])
 ·exact λh _=>⟨rfl,.kc h⟩
 ·exact λ_=>⟨rfl,.nil⟩
 ·intro _ _ _ _ _ _ _ _ ih1 ih2 p
  rw [Qm,Bool.and_eq_true] at p
  obtain ⟨e1,r1⟩:=ih1 p.1
  obtain ⟨e2,r2⟩:=ih2 p.2
  subst e1 e2
  exact ⟨rfl,.cons (F:=[]) (G:=[]) r1 r2⟩
theorem Reps.pure {K:PySem.W.Frag} {H:Hp} {d:List D} {v:List V} {F:List Addr} (r:Reps K H d v F) (p:Qm d=true):F=[]/\Reps K H d v []:=by
 induction d generalizing v F with
 | nil=>cases r;exact ⟨rfl,.nil⟩
 | cons d ds ih =>
  cases r with
  | cons h r =>
   rw [Qm,Bool.and_eq_true] at p
   obtain ⟨e1,r1⟩:=h.pure p.1
   obtain ⟨e2,r2⟩:=ih r p.2
   subst e1 e2
   exact ⟨rfl,.cons (F:=[]) (G:=[]) r1 r2⟩
section
variable {K:PySem.W.Frag} {H:Hp}
theorem Reps.length {ds:List D} {xs:List V} {F:List Addr} (r:Reps K H ds xs F):xs.length=ds.length:=by
 induction ds generalizing xs F with
 | nil=>cases r;rfl
 | cons d ds ih=>cases r with | cons h r=>simp [ih r]
theorem Reps.append {ds es:List D} {xs ys:List V} {F G:List Addr} (r:Reps K H ds xs F) (q:Reps K H es ys G):Reps K H (ds++es) (xs++ys) (F++G):=by
 induction ds generalizing xs F with
 | nil=>cases r;exact q
 | cons d ds ih=>cases r with | cons h r=>rw [List.append_assoc];exact .cons h (ih r)
theorem Reps.one {d:D} {x:V} {F:List Addr} (h:Rep K H d x F):Reps K H [d] [x] F:=by
 have:=Reps.cons h (Reps.nil (K:=K) (H:=H))
 rwa [List.append_nil] at this
theorem Reps.snoc {ds:List D} {xs:List V} {d:D} {x:V} {F G:List Addr} (r:Reps K H ds xs F) (h:Rep K H d x G):Reps K H (ds++[d]) (xs++[x]) (F++G):=r.append (.one h)
theorem Reps.split {ds:List D} {xs:List V} {F:List Addr} {i:Nat} {d:D} (r:Reps K H ds xs F) (h:ds[i]? = some d) :
  ∃x A B C,xs[i]? = some x/\F=A++B++C/\Rep K H d x B/\Reps K H (ds.take i) (xs.take i) A/\Reps K H (ds.drop (i+1)) (xs.drop (i+1)) C:=by
 induction ds generalizing xs F i with
 | nil=>simp at h
 | cons e ds ih =>
  cases r with
  | @cons _ v _ vs F G p r =>
   cases i with
   | zero =>
    simp at h
    subst h
    exact ⟨v,[],F,G,rfl,by simp,p,.nil,by simpa using r⟩
   | succ i =>
    obtain ⟨x,A,B,C,h1,h2,h3,h4,h5⟩:=ih r (i:=i) (by simpa using h)
    exact ⟨x,F++A,B,C,by simpa using h1,by rw [h2];simp,h3,by simpa using Reps.cons p h4,by simpa using h5⟩
theorem Reps.get {ds:List D} {xs:List V} {F:List Addr} {i:Nat} {d:D} (r:Reps K H ds xs F) (h:ds[i]? = some d):∃x B,xs[i]? = some x/\Rep K H d x B/\B.Sublist F:=by
 obtain ⟨x,A,B,C,h1,h2,h3,_⟩:=r.split h
 exact ⟨x,B,h1,h3,h2 ▸ (List.sublist_append_right A B).trans (List.sublist_append_left _ C)⟩
theorem Gf {α:Type} {l:List α} {i:Nat} {a:α} (h:i<l.length):l.set i a=l.take i++a::l.drop (i+1):=by
 rw [List.set_eq_take_append_cons_drop,if_pos h]
theorem Qgw {α:Type} (l:List α) (i:Nat):l.eraseIdx i=l.take i++l.drop (i+1):=List.eraseIdx_eq_take_drop_succ l i
theorem Reps.take {ds:List D} {xs:List V} {F:List Addr} (i:Nat) (r:Reps K H ds xs F):∃G,Reps K H (ds.take i) (xs.take i) G/\G.Sublist F:=by
 induction ds generalizing xs F i with
 | nil=>cases r;exact ⟨[],by simpa using Reps.nil,List.Sublist.slnil⟩
 | cons d ds ih =>
  cases r with
  | @cons _ v _ vs F G p r =>
   cases i with
   | zero=>exact ⟨[],by simpa using Reps.nil,List.nil_sublist _⟩
   | succ i =>
    obtain ⟨G',q,s⟩:=ih i r
    exact ⟨F++G',by simpa using Reps.cons p q,List.Sublist.append (List.Sublist.refl _) s⟩
theorem Reps.drop {ds:List D} {xs:List V} {F:List Addr} (i:Nat) (r:Reps K H ds xs F):∃G,Reps K H (ds.drop i) (xs.drop i) G/\G.Sublist F:=by
 induction ds generalizing xs F i with
 | nil=>cases r;exact ⟨[],by simpa using Reps.nil,List.Sublist.slnil⟩
 | cons d ds ih =>
  cases i with
  | zero=>exact ⟨F,by simpa using r,List.Sublist.refl _⟩
  | succ i =>
   cases r with
   | @cons _ v _ vs F G p r =>
    obtain ⟨G',q,s⟩:=ih i r
    exact ⟨G',by simpa using q,s.trans (List.sublist_append_right _ _)⟩
theorem Reps.ints (ns:List Int):Reps K H (ns.map D.int) (ns.map V.int) []:=by
 induction ns with
 | nil=>exact .nil
 | cons n ns ih=>exact .cons (F:=[]) (G:=[]) (.int n) ih
end
def kcD:KC->D
 | .int i=>.int i
 | .any a=>.kc (.any a)
 | .fn x=>.kc (.fn x)
 | .tup ks=>.kc (.tup ks)
section
variable {K:PySem.W.Frag} {H:Hp}
theorem IsKC.rep {c:KC} {v:V} (h:IsKC K c v):Rep K H (kcD c) v []:=by
 cases h with
 | int i=>exact .int i
 | any a=>exact .kc (.any a)
 | fn h=>exact .kc (.fn h)
 | tup h1 h2 h3 h4 h5 r=>exact .kc (.tup h1 h2 h3 h4 h5 r)
theorem AreKC.reps {cs:List KC} {vs:List V} (h:AreKC K cs vs):Reps K H (cs.map kcD) vs []:=by
 induction cs generalizing vs with
 | nil=>cases h;exact .nil
 | cons c cs ih=>cases h with | cons h r=>exact .cons (F:=[]) (G:=[]) h.rep (ih r)
theorem IsKC.sqT {ks:List KC} {v:V} (h:IsKC K (.tup ks) v):∃a xs,v=.ref a/\(∀H,SqT K H a xs)/\AreKC K ks xs:=by
 cases h with
 | tup h1 h2 h3 h4 h5 r=>exact ⟨_,_,rfl,λH=>.inr ⟨_,_,_,h1,h2,h3,h4,h5⟩,r⟩
end
section
variable {K:PySem.W.Frag} {H:Hp} {v:V} {F:List Addr}
theorem Rep.iInt {i:Int} (r:Rep K H (.int i) v F):v=.int i:=by cases r;rfl
theorem Rep.iStr {i:Str} (r:Rep K H (.str i) v F):v=.str i:=by cases r;rfl
theorem Rep.iBl {i:Bool} (r:Rep K H (.bl i) v F):v=.bl i:=by cases r;rfl
theorem Rep.iTup {ds:List D} (r:Rep K H (.tup ds) v F):∃a xs,v=.ref a/\H a=some (.tup xs)/\Reps K H ds xs F:=by cases r with | tup e r=>exact ⟨_,_,rfl,e,r⟩
theorem Rep.iLst {ds:List D} (r:Rep K H (.lst ds) v F):∃a xs G,v=.ref a/\F=a::G/\H a=some (.lst xs)/\Reps K H ds xs G:=by cases r with | lst e r=>exact ⟨_,_,_,rfl,rfl,e,r⟩
theorem Rep.iDik {ds:List (Key × D)} (r:Rep K H (.dik ds) v F):∃a xs G,v=.ref a/\F=a::G/\H a=some (.dK xs)/\RepK K H ds xs G:=by cases r with | dik e r=>exact ⟨_,_,_,rfl,rfl,e,r⟩
theorem Rep.iDit {ds:List (List Key × D)} (r:Rep K H (.dit ds) v F):∃a xs G,v=.ref a/\F=a::G/\H a=some (.dT xs)/\RepT K H ds xs G:=by cases r with | dit e r=>exact ⟨_,_,_,rfl,rfl,e,r⟩
theorem Rep.iKls {ds:List D} (r:Rep K H (.kls ds) v F):∃a xs,v=.ref a/\F=[]/\FzL K H a xs/\Reps K H ds xs []:=by cases r with | kls e r=>exact ⟨_,_,rfl,rfl,e,r⟩
theorem Rep.iFdk {ds:List (Key × D)} (r:Rep K H (.fdk ds) v F):∃a o xs,v=.ref a/\H a=some (.frz o (.dK xs))/\RepK K H ds xs F:=by cases r with | fdk e r=>exact ⟨_,_,_,rfl,e,r⟩
end
section
variable {κ:Type} [DecidableEq κ]
def valD (kvs:List (κ × D)) (k:κ):Option D:=(kvs.find? λkv=>decide (kv.1=k)).map (·.2)
def putD (kvs:List (κ × D)) (k:κ) (v:D):List (κ × D) :=
 if (kvs.any λkv=>decide (kv.1=k))=true then kvs.map (λkv=>if kv.1=k then (kv.1,v) else kv) else kvs++[(k,v)]
theorem Gc {p:κ × D} {r:List (κ × D)} {k:κ}:valD (p::r) k=if p.1=k then some p.2 else valD r k:=by
 unfold valD
 by_cases h:p.1=k
 ·rw [List.find?_cons_of_pos (by simpa using h),if_pos h];rfl
 ·rw [List.find?_cons_of_neg (by simpa using h),if_neg h]
end
section
variable {K:PySem.W.Frag} {H:Hp}
theorem RepK.length {ds:List (Key × D)} {xs:List (Key × V)} {F:List Addr} (r:RepK K H ds xs F):xs.length=ds.length:=by
 induction ds generalizing xs F with
 | nil=>cases r;rfl
 | cons d ds ih=>cases r with | cons h r=>simp [ih r]
theorem RepK.keys {ds:List (Key × D)} {xs:List (Key × V)} {F:List Addr} (r:RepK K H ds xs F):xs.map (·.1)=ds.map (·.1):=by
 induction ds generalizing xs F with
 | nil=>cases r;rfl
 | cons d ds ih=>cases r with | cons h r=>simp [ih r]
theorem RepK.val {ds:List (Key × D)} {xs:List (Key × V)} {F:List Addr} (r:RepK K H ds xs F) (k:Key) :
  (valD ds k=none/\valV xs k=none)\/∃d v B,valD ds k=some d/\valV xs k=some v/\Rep K H d v B/\B.Sublist F:=by
 induction ds generalizing xs F with
 | nil=>cases r;exact .inl ⟨rfl,rfl⟩
 | cons d ds ih =>
  cases r with
  | @cons j d v _ vs F G h r =>
   rw [Gc]
   by_cases e:j=k
   ·rw [Ga e,if_pos e]
    exact .inr ⟨d,v,F,rfl,rfl,h,List.sublist_append_left _ _⟩
   ·rw [Gb e,if_neg e]
    rcases ih r with q | ⟨d',v',B,h1,h2,h3,h4⟩
    ·exact .inl q
    ·exact .inr ⟨d',v',B,h1,h2,h3,h4.trans (List.sublist_append_right _ _)⟩
theorem RepK.append {ds es:List (Key × D)} {xs ys:List (Key × V)} {F G:List Addr} (r:RepK K H ds xs F) (q:RepK K H es ys G):RepK K H (ds++es) (xs++ys) (F++G):=by
 induction ds generalizing xs F with
 | nil=>cases r;exact q
 | cons d ds ih=>cases r with | cons h r=>rw [List.append_assoc];exact .cons h (ih r)
theorem RepK.put {ds:List (Key × D)} {xs:List (Key × V)} {F:List Addr} {k:Key} {d:D} {v:V} (r:RepK K H ds xs F) (h:Rep K H d v []):∃G,RepK K H (putD ds k d) (putK xs k v) G/\G.Sublist F:=by
 have hk:(xs.any λkv=>decide (kv.1=k))=(ds.any λkv=>decide (kv.1=k)):=by
  have e:=r.keys
  rw [show (xs.any λkv=>decide (kv.1=k))=(xs.map (·.1)).any (λj=>decide (j=k)) by rw [List.any_map];rfl,e,List.any_map];rfl
 unfold putD putK
 rw [hk]
 split
 ·clear hk
  rename_i hc
  clear hc
  induction ds generalizing xs F with
  | nil=>cases r;exact ⟨[],.nil,List.Sublist.slnil⟩
  | cons e ds ih =>
   cases r with
   | @cons j e u _ us F G p r =>
    obtain ⟨G',q,s⟩:=ih r
    by_cases ej:j=k
    ·exact ⟨[]++G',by simpa [ej] using RepK.cons (k:=k) h q,s.trans (List.sublist_append_right _ _)⟩
    ·exact ⟨F++G',by simpa [ej] using RepK.cons (k:=j) p q,List.Sublist.append (List.Sublist.refl _) s⟩
 ·refine ⟨F++[],r.append ?_,by simp⟩
  exact RepK.cons (F:=[]) (G:=[]) h .nil
theorem RepT.length {ds:List (List Key × D)} {xs:List (List Key × V)} {F:List Addr} (r:RepT K H ds xs F):xs.length=ds.length:=by
 induction ds generalizing xs F with
 | nil=>cases r;rfl
 | cons d ds ih=>cases r with | cons h r=>simp [ih r]
theorem RepT.keys {ds:List (List Key × D)} {xs:List (List Key × V)} {F:List Addr} (r:RepT K H ds xs F):xs.map (·.1)=ds.map (·.1):=by
 induction ds generalizing xs F with
 | nil=>cases r;rfl
 | cons d ds ih=>cases r with | cons h r=>simp [ih r]
theorem RepT.val {ds:List (List Key × D)} {xs:List (List Key × V)} {F:List Addr} (r:RepT K H ds xs F) (k:List Key) :
  (valD ds k=none/\valV xs k=none)\/∃d v B,valD ds k=some d/\valV xs k=some v/\Rep K H d v B/\B.Sublist F:=by
 induction ds generalizing xs F with
 | nil=>cases r;exact .inl ⟨rfl,rfl⟩
 | cons d ds ih =>
  cases r with
  | @cons j d v _ vs F G h r =>
   rw [Gc]
   by_cases e:j=k
   ·rw [Ga e,if_pos e]
    exact .inr ⟨d,v,F,rfl,rfl,h,List.sublist_append_left _ _⟩
   ·rw [Gb e,if_neg e]
    rcases ih r with q | ⟨d',v',B,h1,h2,h3,h4⟩
    ·exact .inl q
    ·exact .inr ⟨d',v',B,h1,h2,h3,h4.trans (List.sublist_append_right _ _)⟩
theorem RepT.append {ds es:List (List Key × D)} {xs ys:List (List Key × V)} {F G:List Addr} (r:RepT K H ds xs F) (q:RepT K H es ys G):RepT K H (ds++es) (xs++ys) (F++G):=by
 induction ds generalizing xs F with
 | nil=>cases r;exact q
 | cons d ds ih=>cases r with | cons h r=>rw [List.append_assoc];exact .cons h (ih r)
theorem RepT.put {ds:List (List Key × D)} {xs:List (List Key × V)} {F:List Addr} {k:List Key} {d:D} {v:V} (r:RepT K H ds xs F) (h:Rep K H d v []):∃G,RepT K H (putD ds k d) (putK xs k v) G/\G.Sublist F:=by
 have hk:(xs.any λkv=>decide (kv.1=k))=(ds.any λkv=>decide (kv.1=k)):=by
  have e:=r.keys
  rw [show (xs.any λkv=>decide (kv.1=k))=(xs.map (·.1)).any (λj=>decide (j=k)) by rw [List.any_map];rfl,e,List.any_map];rfl
 unfold putD putK
 rw [hk]
 split
 ·clear hk
  rename_i hc
  clear hc
  induction ds generalizing xs F with
  | nil=>cases r;exact ⟨[],.nil,List.Sublist.slnil⟩
  | cons e ds ih =>
   cases r with
   | @cons j e u _ us F G p r =>
    obtain ⟨G',q,s⟩:=ih r
    by_cases ej:j=k
    ·exact ⟨[]++G',by simpa [ej] using RepT.cons (k:=k) h q,s.trans (List.sublist_append_right _ _)⟩
    ·exact ⟨F++G',by simpa [ej] using RepT.cons (k:=j) p q,List.Sublist.append (List.Sublist.refl _) s⟩
 ·refine ⟨F++[],r.append ?_,by simp⟩
  exact RepT.cons (F:=[]) (G:=[]) h .nil
end
end PV
namespace PV
open PySem PySem.Spec L2
abbrev Env:=List (Option D)
def look:Env->Nat->Option D
 | [],_=>none
 | a::_,0=>a
 | _::r,n+1=>look r n
theorem Qgk:∀{ρ:Env} {i:Nat} {d:D},look ρ i=some d->ρ[i]? = some (some d)
 | _::_,0,_,h=>by simpa [look] using h
 | _::r,n+1,_,h=>by simpa using Qgk (ρ:=r) (i:=n) (by simpa [look] using h)
theorem Uh {ρ:Env} {i:Nat} {d:D} (h:look ρ i=some d):i<ρ.length:=by
 have:=Qgk h
 exact (List.getElem?_eq_some_iff.mp this).1
theorem Zw {o:Option D}:∀{ρ:Env} {i j:Nat},look (ρ.set i o) j=if j=i/\i<ρ.length then o else look ρ j
 | [],i,j=>by simp [look]
 | a::r,0,0=>by simp [look]
 | a::r,0,j+1=>by simp [look]
 | a::r,i+1,0=>by simp [look]
 | a::r,i+1,j+1=>by
  have:=Zw (o:=o) (ρ:=r) (i:=i) (j:=j)
  simp only [List.set_cons_succ,look,this,List.length_cons,Nat.add_right_cancel_iff,Nat.add_lt_add_iff_right]
theorem Gw {o:Option D} {ρ:Env} {i:Nat} (h:i<ρ.length):look (ρ.set i o) i=o:=by rw [Zw,if_pos ⟨rfl,h⟩]
theorem Q1 {o:Option D} {ρ:Env} {i j:Nat} (h:j≠i):look (ρ.set i o) j=look ρ j:=by rw [Zw,if_neg (λz=>h z.1)]
structure Tg where
 own:Nat->Bool
 io:List Nat
 xe:D->St->Hp->Prop:=λ_ _ _=>False
structure SR0 (K:PySem.W.Frag) (T:Tg) (z:Nat->V) (R:Addr->Prop) (H:Hp) (W:Addr->Prop) (σ:St) (ρ:Env) (fp:Nat->List Addr):Prop where
 len:ρ.length=σ.length
 wd:∀a,W a->∃ob,H a=some ob/\imm ob=false
 at_:∀i d,look ρ i=some d->∃v,σ[i]? = some (some v)/\Rep K H d v (fp i)
 own:∀i d,look ρ i=some d->T.own i=true->(fp i).Nodup/\∀a∈fp i,W a
 ro:∀i d,look ρ i=some d->T.own i=false->∀a∈fp i,R a
 wr:∀a,W a->¬R a
 rd:∀a,R a->∃ob,H a=some ob/\imm ob=false
 dis:∀i j d e,look ρ i=some d->look ρ j=some e->T.own i=true->T.own j=true->i≠j->∀a∈fp i,a∉fp j
 fix:∀i∈T.io,σ[i]? = some (some (z i))
def SR (K:PySem.W.Frag) (T:Tg) (z:Nat->V) (R:Addr->Prop) (H:Hp) (W:Addr->Prop) (σ:St) (ρ:Env):Prop:=∃fp,SR0 K T z R H W σ ρ fp
structure FrW (H:Hp) (W:Addr->Prop) (H':Hp) (W':Addr->Prop):Prop where
 keep:∀b ob,H b=some ob->¬W b->H' b=some ob
 dom:∀b,H' b=none->H b=none
 imm:ImmK H H'
 new:∀b,W' b->W b\/H b=none
theorem FrW.refl (H:Hp) (W:Addr->Prop):FrW H W H W:=⟨λ_ _ h _=>h,λ_ h=>h,λ_ _ h _=>h,λ_ h=>.inl h⟩
theorem FrW.trans {H H1 H2:Hp} {W W1 W2:Addr->Prop} (a:FrW H W H1 W1) (b:FrW H1 W1 H2 W2):FrW H W H2 W2 where
 keep:=λc ob h n=>b.keep c ob (a.keep c ob h n) λw=>by
  rcases a.new c w with w | w
  ·exact n w
  ·rw [w] at h;cases h
 dom:=λc h=>a.dom c (b.dom c h)
 imm:=λc ob h i=>b.imm c ob (a.imm c ob h i) i
 new:=λc h=>by
  rcases b.new c h with w | w
  ·exact a.new c w
  ·exact .inr (a.dom c w)
theorem Same.imm {H H':Hp} (s:Same H H'):ImmK H H':=λb ob h _=>s b ob h
theorem FrW.same {H H':Hp} (W:Addr->Prop) (s:Same H H'):FrW H W H' W:=⟨λb ob h _=>s b ob h,λb h=>s.free h,Same.imm s,λ_ h=>.inl h⟩
theorem Rep.same {K:PySem.W.Frag} {H H':Hp} {d:D} {v:V} {F:List Addr} (r:Rep K H d v F) (s:Same H H'):Rep K H' d v F :=
 r.frame (Same.imm s) λa m=>by
  obtain ⟨ob,h,_⟩:=r.dom a m
  rw [h];exact s _ _ h
theorem Reps.same {K:PySem.W.Frag} {H H':Hp} {d:List D} {v:List V} {F:List Addr} (r:Reps K H d v F) (s:Same H H'):Reps K H' d v F :=
 r.frame (Same.imm s) λa m=>by
  obtain ⟨ob,h,_⟩:=r.dom a m
  rw [h];exact s _ _ h
theorem Rep.keep {K:PySem.W.Frag} {H H':Hp} {W W':Addr->Prop} {d:D} {v:V} {F:List Addr} (r:Rep K H d v F) (f:FrW H W H' W') (n:∀a∈F,¬W a):Rep K H' d v F :=
 r.frame f.imm λa m=>by
  obtain ⟨ob,h,_⟩:=r.dom a m
  rw [h];exact f.keep _ _ h (n a m)
section
variable {K:PySem.W.Frag} {T:Tg} {z:Nat->V} {R:Addr->Prop} {H H':Hp} {W W':Addr->Prop} {σ:St} {ρ:Env}
theorem SR.same (s:SR K T z R H W σ ρ) (k:Same H H'):SR K T z R H' W σ ρ:=by
 obtain ⟨fp,r⟩:=s
 exact ⟨fp,r.len,λa h=>(r.wd a h).imp λob q=>⟨k _ _ q.1,q.2⟩,λi d h=>(r.at_ i d h).imp λv q=>⟨q.1,q.2.same k⟩,r.own,r.ro,r.wr,λa h=>(r.rd a h).imp λob q=>⟨k _ _ q.1,q.2⟩,r.dis,r.fix⟩
theorem SR.wd (s:SR K T z R H W σ ρ):∀a,W a->∃ob,H a=some ob/\imm ob=false:=by obtain ⟨fp,r⟩:=s;exact r.wd
theorem SR.rd (s:SR K T z R H W σ ρ):∀a,R a->∃ob,H a=some ob/\imm ob=false:=by obtain ⟨fp,r⟩:=s;exact r.rd
theorem SR.nr (s:SR K T z R H W σ ρ) {a:Addr} (h:H a=none):¬R a:=λw=>by
 obtain ⟨ob,q,_⟩:=s.rd a w
 rw [h] at q;cases q
theorem SR.nw (s:SR K T z R H W σ ρ) {a:Addr} (h:H a=none):¬W a:=λw=>by
 obtain ⟨ob,q,_⟩:=s.wd a w
 rw [h] at q;cases q
end
abbrev WE:=Env->(D->Env->Prop)->Prop
structure Post (K:PySem.W.Frag) (T:Tg) (z:Nat->V) (R:Addr->Prop) (m o:Bool) (H:Hp) (W:Addr->Prop) (σ:St) (ρ:Env) (H':Hp) (W':Addr->Prop) (ρ':Env) (d:D) (v:V) (F:List Addr):Prop where
 sr:SR K T z R H' W' σ ρ'
 fr:FrW H W H' W'
 calm:m=false->Same H H'/\W'=W/\ρ'=ρ
 rep:Rep K H' d v F
 own:o=true->F.Nodup/\∀a∈F,H a=none/\¬W' a
def EV (X:Cx) (T:Tg) (m o:Bool) (e:Expr) (w:WE):Prop :=
 ∃te,PE X e te/\∀(z:Nat->V) (R:Addr->Prop) (σ:St) (H:Hp) (W:Addr->Prop) (ρ:Env) (Q:D->Env->Prop) (Q':VK),SR X.K T z R H W σ ρ->w ρ Q ->
  (∀v H' W' d ρ' F,Post X.K T z R m o H W σ ρ H' W' ρ' d v F->Q d ρ'->Q' v H')->te σ H Q'
section
variable {K:PySem.W.Frag} {T:Tg} {z:Nat->V} {R:Addr->Prop} {H H1 H2:Hp} {W W1 W2:Addr->Prop} {σ:St} {ρ ρ1 ρ2:Env} {m1 m2 o1 o2:Bool} {d1 d2:D} {v1 v2:V} {F1 F2:List Addr}
theorem Post.first (p:Post K T z R m1 o1 H W σ ρ H1 W1 ρ1 d1 v1 F1) (q:Post K T z R m2 o2 H1 W1 σ ρ1 H2 W2 ρ2 d2 v2 F2) (hc:o1=true\/m2=false):Rep K H2 d1 v1 F1:=by
 rcases hc with hc | hc
 ·exact p.rep.keep q.fr λa h=>((p.own hc).2 a h).2
 ·exact p.rep.same (q.calm hc).1
theorem Post.firstOwn (p:Post K T z R m1 o1 H W σ ρ H1 W1 ρ1 d1 v1 F1) (q:Post K T z R m2 o2 H1 W1 σ ρ1 H2 W2 ρ2 d2 v2 F2) (h:o1=true):F1.Nodup/\∀a∈F1,H a=none/\¬W2 a:=by
 obtain ⟨h1,h2⟩:=p.own h
 refine ⟨h1,λa m=>⟨(h2 a m).1,λw=>?_⟩⟩
 rcases q.fr.new a w with w | w
 ·exact (h2 a m).2 w
 ·obtain ⟨ob,e,_⟩:=p.rep.dom a m
  rw [e] at w;cases w
theorem Post.lastOwn (p:Post K T z R m1 o1 H W σ ρ H1 W1 ρ1 d1 v1 F1) (q:Post K T z R m2 o2 H1 W1 σ ρ1 H2 W2 ρ2 d2 v2 F2) (h:o2=true):F2.Nodup/\∀a∈F2,H a=none/\¬W2 a:=by
 obtain ⟨h1,h2⟩:=q.own h
 exact ⟨h1,λa m=>⟨p.fr.dom a (h2 a m).1,(h2 a m).2⟩⟩
theorem Post.calm2 (p:Post K T z R m1 o1 H W σ ρ H1 W1 ρ1 d1 v1 F1) (q:Post K T z R m2 o2 H1 W1 σ ρ1 H2 W2 ρ2 d2 v2 F2) (h:(m1 || m2)=false):Same H H2/\W2=W/\ρ2=ρ:=by
 rw [Bool.or_eq_false_iff] at h
 obtain ⟨a1,a2,a3⟩:=p.calm h.1
 obtain ⟨b1,b2,b3⟩:=q.calm h.2
 exact ⟨a1.trans b1,b2.trans a2,b3.trans a3⟩
theorem Post.fin {m:Bool} {d:D} {v:V} {F:List Addr} (s:SR K T z R H1 W1 σ ρ1) (f:FrW H W H1 W1) (c:m=false->Same H H1/\W1=W/\ρ1=ρ) (k:Same H1 H2) (r:Rep K H2 d v F) (nd:F.Nodup) (nw:∀a∈F,H1 a=none) :
  Post K T z R m true H W σ ρ H2 W1 ρ1 d v F where
 sr:=s.same k
 fr:=f.trans (FrW.same W1 k)
 calm:=λh=>⟨(c h).1.trans k,(c h).2⟩
 rep:=r
 own:=λ_=>⟨nd,λa m=>⟨f.dom a (nw a m),s.nw (nw a m)⟩⟩
theorem Post.flat {m:Bool} {d:D} {v:V} (s:SR K T z R H1 W1 σ ρ1) (f:FrW H W H1 W1) (c:m=false->Same H H1/\W1=W/\ρ1=ρ) (r:Rep K H1 d v []):Post K T z R m true H W σ ρ H1 W1 ρ1 d v [] where
 sr:=s
 fr:=f
 calm:=c
 rep:=r
 own:=λ_=>⟨List.nodup_nil,λa m=>nomatch m⟩
end
section
variable {X:Cx} {T:Tg} {m o m1 m2 o1 o2:Bool} {e a b:Expr} {w wa wb:WE} {pos:Pos}
theorem EV.lift (h:EV X T m o e w):EV X T m true e (λρ Q=>w ρ λd ρ'=>d.pure=true/\Q d ρ'):=by
 obtain ⟨te,p,g⟩:=h
 refine ⟨te,p,λz R σ H W ρ Q Q' s hw k=>g z R σ H W ρ _ Q' s hw λv H' W' d ρ' F q ⟨hp,hq⟩=>?_⟩
 obtain ⟨e,r⟩:=q.rep.pure hp
 exact k v H' W' d ρ' [] ⟨q.sr,q.fr,q.calm,r,λ_=>⟨List.nodup_nil,λa m=>nomatch m⟩⟩ hq
theorem EV.ro (h:EV X T m o e w):EV X T m false e w:=by
 obtain ⟨te,p,g⟩:=h
 exact ⟨te,p,λz R σ H W ρ Q Q' s hw k=>g z R σ H W ρ _ Q' s hw λv H' W' d ρ' F q hq=>k v H' W' d ρ' F ⟨q.sr,q.fr,q.calm,q.rep,λh=>nomatch h⟩ hq⟩
def wVar (i:Nat):WE:=λρ Q=>match look ρ i with
 | some d=>Q d ρ
 | none=>False
def wC (d:D):WE:=λρ Q=>Q d ρ
theorem Qu1 (i:Nat) (h:PE X e (tVar i)):EV X T false false e (wVar i):=by
 refine ⟨_,h,λz R σ H W ρ Q Q' s hw k=>?_⟩
 unfold wVar at hw
 cases hl:look ρ i with
 | none=>rw [hl] at hw;exact hw.elim
 | some d =>
  rw [hl] at hw
  obtain ⟨fp,r⟩:=s
  obtain ⟨v,h1,h2⟩:=r.at_ i d hl
  exact ⟨v,h1,k v H W d ρ (fp i) ⟨⟨fp,r⟩,FrW.refl H W,λ_=>⟨Same.refl H,rfl,rfl⟩,h2,λh=>nomatch h⟩ hw⟩
theorem Qa (i:Nat) {x:Str} (hN:X.N[i]? = some x:=by rfl) (hv:Vis X.env.scope x:=by first | exact Or.inl rfl | exact Or.inr (Or.inl rfl) | exact Or.inr (Or.inr rfl)) (hd:(x == ("__debug__" : Str))=false:=by decide)
  (hcd:(x == ("__classdict__" : Str))=false:=by decide):EV X T false false (.Name x pos) (wVar i):=Qu1 i (Vd hN hv hd hcd)
theorem V0 {d:D} {v:V} (h:PE X e (tC v)) (r:∀H,Rep X.K H d v []):EV X T false true e (wC d) :=
 ⟨_,h,λz R σ H W ρ Q Q' s hw k=>k v H W d ρ [] (Post.flat s (FrW.refl H W) (λ_=>⟨Same.refl H,rfl,rfl⟩) (r H)) hw⟩
theorem Qe {i:Int} {j pos}:EV X T false true (.Constant (.int i) j pos) (wC (.int i)):=V0 Qd0 λ_=>.int i
theorem Qfj {i:Bool} {j pos}:EV X T false true (.Constant (.bool i) j pos) (wC (.bl i)):=V0 Qui λ_=>.bl i
theorem Ys {i:Str} {j pos}:EV X T false true (.Constant (.str i) j pos) (wC (.str i)):=V0 Qrl λ_=>.str i
theorem Qa3 {j pos}:EV X T false true (.Constant .none j pos) (wC .non):=V0 Qro λ_=>.non
abbrev G2:=D->D->(D->Prop)->Prop
structure Fin (K:PySem.W.Frag) (H H':Hp) (d:D) (v:V) (F:List Addr):Prop where
 same:Same H H'
 rep:Rep K H' d v F
 nd:F.Nodup
 new:∀a∈F,H a=none
theorem Fin.flat {K:PySem.W.Frag} {H:Hp} {d:D} {v:V} (r:Rep K H d v []):Fin K H H d v []:=⟨Same.refl H,r,List.nodup_nil,λ_ m=>nomatch m⟩
theorem Qk {H:Hp} {p:Addr} {ob:HO} (h:H p=none):Same H (upd H p ob):=λb u e=>by rw [Qy (Jx e h)];exact e
def OpD (X:Cx) (f:Value->Value->Sem Value) (g:G2):Prop :=
 ∃r,OpR X f r/\∀(H:Hp) (a b:D) (x y:V) (F1 F2:List Addr) (k:D->Prop) (Q:VK),Rep X.K H a x F1->Rep X.K H b y F2->g a b k ->
  (∀v H' d F,Fin X.K H H' d v F->k d->Q v H')->r x y H Q
def wBin (g:G2) (wa wb:WE):WE:=λρ Q=>wa ρ λx ρ1=>wb ρ1 λy ρ2=>g x y λd=>Q d ρ2
theorem two {ta tb:TE} {z:Nat->V} {R:Addr->Prop} {σ:St} {H:Hp} {W:Addr->Prop} {ρ:Env} {RR:V->V->Hp->Prop} {Q2:D->D->Env->Prop}
  (ga:∀(z:Nat->V) (R:Addr->Prop) (σ:St) (H:Hp) (W:Addr->Prop) (ρ:Env) (Q:D->Env->Prop) (Q':VK),SR X.K T z R H W σ ρ->wa ρ Q->(∀v H' W' d ρ' F,Post X.K T z R m1 o1 H W σ ρ H' W' ρ' d v F->Q d ρ'->Q' v H')->ta σ H Q')
  (gb:∀(z:Nat->V) (R:Addr->Prop) (σ:St) (H:Hp) (W:Addr->Prop) (ρ:Env) (Q:D->Env->Prop) (Q':VK),SR X.K T z R H W σ ρ->wb ρ Q->(∀v H' W' d ρ' F,Post X.K T z R m2 o2 H W σ ρ H' W' ρ' d v F->Q d ρ'->Q' v H')->tb σ H Q')
  (hc:o1=true\/m2=false) (s:SR X.K T z R H W σ ρ) (hw:wa ρ λx ρ1=>wb ρ1 λy ρ2=>Q2 x y ρ2)
  (k:∀x y H2 W2 d1 d2 ρ2 F1 F2,SR X.K T z R H2 W2 σ ρ2->FrW H W H2 W2->((m1 || m2)=false->Same H H2/\W2=W/\ρ2=ρ)->Rep X.K H2 d1 x F1->Rep X.K H2 d2 y F2 ->
   (o1=true->F1.Nodup/\∀a∈F1,H a=none/\¬W2 a)->(o2=true->F2.Nodup/\∀a∈F2,H a=none/\¬W2 a)->(o2=true->∀a∈F1,a∉F2)->Q2 d1 d2 ρ2->RR x y H2) :
  ta σ H λx H1=>tb σ H1 λy H2=>RR x y H2:=by
 refine ga z R σ H W ρ _ _ s hw λv1 H1 W1 d1 ρ1 F1 p q1=>?_
 refine gb z R σ H1 W1 ρ1 _ _ p.sr q1 λv2 H2 W2 d2 ρ2 F2 q q2=>?_
 refine k v1 v2 H2 W2 d1 d2 ρ2 F1 F2 q.sr (p.fr.trans q.fr) (p.calm2 q) (p.first q hc) q.rep (p.firstOwn q) (p.lastOwn q) (λh a m1 m2=>?_) q2
 obtain ⟨ob,e,_⟩:=p.rep.dom a m1
 rw [((q.own h).2 a m2).1] at e
 cases e
theorem Qv {op:Operator} {g:G2} (ho:OpD X (binaryOp op) g) (ha:EV X T m1 o1 a wa) (hb:EV X T m2 o2 b wb) (hc:o1=true\/m2=false:=by first | exact .inl rfl | exact .inr rfl) :
  EV X T (m1 || m2) true (.BinOp a op b pos) (wBin g wa wb):=by
 obtain ⟨r,ro,gr⟩:=ho
 obtain ⟨ta,pa,ga⟩:=ha
 obtain ⟨tb,pb,gb⟩:=hb
 refine ⟨_,Quh ro pa pb,λz R σ H W ρ Q Q' s hw k=>?_⟩
 refine two ga gb hc s hw λx y H2 W2 d1 d2 ρ2 F1 F2 s2 f2 c2 r1 r2 _ _ _ q2=>?_
 exact gr H2 d1 d2 x y F1 F2 _ Q' r1 r2 q2 λv H' d F fi hk=>k v H' W2 d ρ2 F (Post.fin s2 f2 c2 fi.same fi.rep fi.nd fi.new) hk
theorem Gz {op:CmpOp} {g:G2} (ho:OpD X (compareOp op) g) (ha:EV X T m1 o1 a wa) (hb:EV X T m2 o2 b wb) (hc:o1=true\/m2=false:=by first | exact .inl rfl | exact .inr rfl)
  (hm:behindInMarks op b=false:=by first | exact Qnj _ | with_unfolding_all rfl):EV X T (m1 || m2) true (.Compare a [op] [b] pos) (wBin g wa wb):=by
 obtain ⟨r,ro,gr⟩:=ho
 obtain ⟨ta,pa,ga⟩:=ha
 obtain ⟨tb,pb,gb⟩:=hb
 refine ⟨_,Qo5 ro pa pb hm,λz R σ H W ρ Q Q' s hw k=>?_⟩
 refine two ga gb hc s hw λx y H2 W2 d1 d2 ρ2 F1 F2 s2 f2 c2 r1 r2 _ _ _ q2=>?_
 exact gr H2 d1 d2 x y F1 F2 _ Q' r1 r2 q2 λv H' d F fi hk=>k v H' W2 d ρ2 F (Post.fin s2 f2 c2 fi.same fi.rep fi.nd fi.new) hk
def UnD (X:Cx) (f:Value->Sem Value) (g:D->(D->Prop)->Prop):Prop :=
 ∃r,UnR X f r/\∀(H:Hp) (a:D) (x:V) (F1:List Addr) (k:D->Prop) (Q:VK),Rep X.K H a x F1->g a k->(∀v H' d F,Fin X.K H H' d v F->k d->Q v H')->r x H Q
def wUn (g:D->(D->Prop)->Prop) (wa:WE):WE:=λρ Q=>wa ρ λx ρ1=>g x λd=>Q d ρ1
theorem Zs {op:UnaryOp} {g:D->(D->Prop)->Prop} (ho:UnD X (unaryOp op) g) (ha:EV X T m o a wa):EV X T m true (.UnaryOp op a pos) (wUn g wa):=by
 obtain ⟨r,ro,gr⟩:=ho
 obtain ⟨ta,pa,ga⟩:=ha
 refine ⟨_,Quf ro pa,λz R σ H W ρ Q Q' s hw k=>?_⟩
 refine ga z R σ H W ρ _ _ s hw λv1 H1 W1 d1 ρ1 F1 p q1=>?_
 exact gr H1 d1 v1 F1 _ Q' p.rep q1 λv H' d F fi hk=>k v H' W1 d ρ1 F (Post.fin p.sr p.fr p.calm fi.same fi.rep fi.nd fi.new) hk
abbrev WT:=Env->(Bool->Env->Prop)->Prop
structure PostT (K:PySem.W.Frag) (T:Tg) (z:Nat->V) (R:Addr->Prop) (m:Bool) (H:Hp) (W:Addr->Prop) (σ:St) (ρ:Env) (H':Hp) (W':Addr->Prop) (ρ':Env):Prop where
 sr:SR K T z R H' W' σ ρ'
 fr:FrW H W H' W'
 calm:m=false->Same H H'/\W'=W/\ρ'=ρ
def TV (X:Cx) (T:Tg) (m:Bool) (e:Expr) (w:WT):Prop :=
 ∃tt,PT X e tt/\∀(z:Nat->V) (R:Addr->Prop) (σ:St) (H:Hp) (W:Addr->Prop) (ρ:Env) (Q:Bool->Env->Prop) (Q':Bool->Hp->Prop),SR X.K T z R H W σ ρ->w ρ Q ->
  (∀b H' W' ρ',PostT X.K T z R m H W σ ρ H' W' ρ'->Q b ρ'->Q' b H')->tt σ H Q'
def truD:D->Option Bool
 | .non=>some false
 | .bl b=>some b
 | .int i=>some (i != 0)
 | .str y=>if y.length<=sizeLine then some ((y.length:Int) != 0) else none
 | .lst xs=>some (!xs.isEmpty)
 | .tup xs=>some (!xs.isEmpty)
 | .dik kvs=>some (!kvs.isEmpty)
 | .kls xs=>some (!xs.isEmpty)
 | .dit _=>none
 | .ty _=>none
 | .fdk _=>none
 | .ftp _=>none
 | .fls _=>none
 | .fdt _=>none
 | .obj _ _=>none
 | .clo _ _=>none
 | .kc _=>none
def wTru (wa:WE):WT:=λρ Q=>wa ρ λd ρ'=>match truD d with
 | some b=>Q b ρ'
 | none=>False
theorem Reps.emp {K:PySem.W.Frag} {H:Hp} {ds:List D} {xs:List V} {F:List Addr} (r:Reps K H ds xs F):ds.isEmpty=xs.isEmpty:=by
 have:=r.length
 cases ds <;> cases xs <;> simp at this <;> rfl
theorem RepK.emp {K:PySem.W.Frag} {H:Hp} {ds:List (Key × D)} {xs:List (Key × V)} {F:List Addr} (r:RepK K H ds xs F):ds.isEmpty=xs.isEmpty:=by
 have:=r.length
 cases ds <;> cases xs <;> simp at this <;> rfl
theorem Qn5 {K:PySem.W.Frag} {H:Hp} {d:D} {x:V} {F:List Addr} {b:Bool} (r:Rep K H d x F) (h:truD d=some b):TruV K x H b:=by
 cases r with
 | non=>exact (Option.some.inj h).symm
 | bl c=>exact (Option.some.inj h).symm
 | int c=>exact (Option.some.inj h).symm
 | str y =>
  have h:(if y.length<=sizeLine then some ((y.length:Int) != 0) else none)=some b:=h
  split at h
  ·rename_i hl;exact ⟨hl,(Option.some.inj h).symm⟩
  ·cases h
 | tup e r =>
  refine .inr (.inl ⟨_,.of e,?_⟩)
  rw [← Option.some.inj h,r.emp]
 | lst e r =>
  refine .inl ⟨_,.of e,?_⟩
  rw [← Option.some.inj h,r.emp]
 | kls e r =>
  refine .inl ⟨_,e.sq,?_⟩
  rw [← Option.some.inj h,r.emp]
 | dik e r =>
  refine .inr (.inr ⟨_,e,?_⟩)
  rw [← Option.some.inj h,r.emp]
 | dit e r=>cases h
 | ty t=>cases h
 | fdk e r=>cases h
 | ftp e hd r=>cases h
 | fls e r=>cases h
 | fdt e r=>cases h
 | obj e hc hf=>cases h
 | clo e r=>cases h
 | kc a=>cases h
theorem Qf0 (ha:EV X T m o a wa) (he:∀whole,isTrue a X.env whole=(do let v ← whole;standAt a.pos;holding [v] (truthy v)):=by intro _;rfl):TV X T m a (wTru wa):=by
 obtain ⟨ta,pa,ga⟩:=ha
 refine ⟨_,Qle pa he,λz R σ H W ρ Q Q' s hw k=>?_⟩
 refine ga z R σ H W ρ _ _ s hw λv1 H1 W1 d1 ρ1 F1 p q1=>?_
 cases ht:truD d1 with
 | none=>rw [ht] at q1;exact q1.elim
 | some b =>
  rw [ht] at q1
  exact ⟨b,Qn5 p.rep ht,k b H1 W1 ρ1 ⟨p.sr,p.fr,p.calm⟩ q1⟩
def wBl (wa:WE):WT:=λρ Q=>wa ρ λd ρ'=>match d with
 | .bl b=>Q b ρ'
 | _=>False
theorem Qb1 {K:PySem.W.Frag} {H:Hp} {b:Bool} {x:V} {F:List Addr} (r:Rep K H (.bl b) x F):x=.bl b:=by cases r;rfl
theorem Qq {op:CmpOp} {g:G2} (ho:OpD X (compareOp op) g) (ha:EV X T m1 o1 a wa) (hb:EV X T m2 o2 b wb) (hc:o1=true\/m2=false:=by first | exact .inl rfl | exact .inr rfl)
  (hm:behindInMarks op b=false:=by first | exact Qnj _ | with_unfolding_all rfl):TV X T (m1 || m2) (.Compare a [op] [b] pos) (wBl (wBin g wa wb)):=by
 obtain ⟨r,ro,gr⟩:=ho
 obtain ⟨ta,pa,ga⟩:=ha
 obtain ⟨tb,pb,gb⟩:=hb
 refine ⟨_,Qov ro pa pb hm,λz R σ H W ρ Q Q' s hw k=>?_⟩
 refine two ga gb hc s hw λx y H2 W2 d1 d2 ρ2 F1 F2 s2 f2 c2 r1 r2 _ _ _ q2=>?_
 refine gr H2 d1 d2 x y F1 F2 _ _ r1 r2 q2 λv H' d F fi hk=>?_
 cases d with
 | bl b=>exact ⟨b,Qb1 fi.rep,k b H' W2 ρ2 ⟨s2.same fi.same,f2.trans (FrW.same W2 fi.same),λh=>⟨(c2 h).1.trans fi.same,(c2 h).2⟩⟩ hk⟩
 | _=>exact hk.elim
variable {wt wu:WT} {rest:List Expr}
def wNot (wt:WT):WT:=λρ Q=>wt ρ λb ρ'=>Q (!b) ρ'
def wAnd (wt wu:WT):WT:=λρ Q=>wt ρ λb ρ'=>if b=true then wu ρ' Q else Q false ρ'
def wOr (wt wu:WT):WT:=λρ Q=>wt ρ λb ρ'=>if b=true then Q true ρ' else wu ρ' Q
theorem Qmz (ha:TV X T m a wt):TV X T m (.UnaryOp .Not a pos) (wNot wt):=by
 obtain ⟨ta,pa,ga⟩:=ha
 exact ⟨_,Qrh pa,λz R σ H W ρ Q Q' s hw k=>ga z R σ H W ρ _ _ s hw λb H1 W1 ρ1 p q1=>k (!b) H1 W1 ρ1 p q1⟩
def BV (X:Cx) (T:Tg) (m:Bool) (e:Expr) (w:WT):Prop :=
 ∃tt,PW X e tt/\∀(z:Nat->V) (R:Addr->Prop) (σ:St) (H:Hp) (W:Addr->Prop) (ρ:Env) (Q:Bool->Env->Prop) (Q':Bool->Hp->Prop),SR X.K T z R H W σ ρ->w ρ Q ->
  (∀b H' W' ρ',PostT X.K T z R m H W σ ρ H' W' ρ'->Q b ρ'->Q' b H')->tt σ H Q'
theorem PostT.seq {K:PySem.W.Frag} {z:Nat->V} {R:Addr->Prop} {H H1 H2:Hp} {W W1 W2:Addr->Prop} {σ:St} {ρ ρ1 ρ2:Env} (p:PostT K T z R m1 H W σ ρ H1 W1 ρ1) (q:PostT K T z R m2 H1 W1 σ ρ1 H2 W2 ρ2):PostT K T z R (m1 || m2) H W σ ρ H2 W2 ρ2 where
 sr:=q.sr
 fr:=p.fr.trans q.fr
 calm:=λh=>by
  rw [Bool.or_eq_false_iff] at h
  obtain ⟨a1,a2,a3⟩:=p.calm h.1
  obtain ⟨b1,b2,b3⟩:=q.calm h.2
  exact ⟨a1.trans b1,b2.trans a2,b3.trans a3⟩
theorem PostT.left {K:PySem.W.Frag} {z:Nat->V} {R:Addr->Prop} {H H1:Hp} {W W1:Addr->Prop} {σ:St} {ρ ρ1:Env} (p:PostT K T z R m1 H W σ ρ H1 W1 ρ1):PostT K T z R (m1 || m2) H W σ ρ H1 W1 ρ1 :=
 ⟨p.sr,p.fr,λh=>p.calm (Bool.or_eq_false_iff.mp h).1⟩
theorem Zf (ha:TV X T m a wt):BV X T m (.BoolOp .And [a] pos) wt:=by
 obtain ⟨ta,pa,ga⟩:=ha
 exact ⟨_,Qos pa,ga⟩
theorem Qb8 (ha:TV X T m a wt):BV X T m (.BoolOp .Or [a] pos) wt:=by
 obtain ⟨ta,pa,ga⟩:=ha
 exact ⟨_,Qrf pa,ga⟩
theorem Zc (ha:TV X T m1 a wt) (hb:BV X T m2 (.BoolOp .And (b::rest) pos) wu):BV X T (m1 || m2) (.BoolOp .And (a::b::rest) pos) (wAnd wt wu):=by
 obtain ⟨ta,pa,ga⟩:=ha
 obtain ⟨tb,pb,gb⟩:=hb
 refine ⟨_,Qrg pa pb,λz R σ H W ρ Q Q' s hw k=>ga z R σ H W ρ _ _ s hw λc H1 W1 ρ1 p q1=>?_⟩
 cases c with
 | true=>exact gb z R σ H1 W1 ρ1 Q Q' p.sr q1 λb H2 W2 ρ2 q q2=>k b H2 W2 ρ2 (p.seq q) q2
 | false=>exact k false H1 W1 ρ1 p.left q1
theorem Qfo (ha:TV X T m1 a wt) (hb:BV X T m2 (.BoolOp .Or (b::rest) pos) wu):BV X T (m1 || m2) (.BoolOp .Or (a::b::rest) pos) (wOr wt wu):=by
 obtain ⟨ta,pa,ga⟩:=ha
 obtain ⟨tb,pb,gb⟩:=hb
 refine ⟨_,Qud pa pb,λz R σ H W ρ Q Q' s hw k=>ga z R σ H W ρ _ _ s hw λc H1 W1 ρ1 p q1=>?_⟩
 cases c with
 | false=>exact gb z R σ H1 W1 ρ1 Q Q' p.sr q1 λb H2 W2 ρ2 q q2=>k b H2 W2 ρ2 (p.seq q) q2
 | true=>exact k true H1 W1 ρ1 p.left q1
theorem J7 (h:BV X T m e wt):TV X T m e wt:=by
 obtain ⟨ta,pa,ga⟩:=h
 exact ⟨_,pa.pt,ga⟩
def wIfE (wt:WT) (wa wb:WE):WE:=λρ Q=>wt ρ λc ρ1=>if c=true then wa ρ1 Q else wb ρ1 Q
theorem Qmf {c:Expr} {m0:Bool} (hc:TV X T m0 c wt) (ha:EV X T m1 o a wa) (hb:EV X T m2 o b wb):EV X T (m0 || (m1 || m2)) o (.IfExp c a b pos) (wIfE wt wa wb):=by
 obtain ⟨tc,pc,gc⟩:=hc
 obtain ⟨ta,pa,ga⟩:=ha
 obtain ⟨tb,pb,gb⟩:=hb
 refine ⟨_,Qln pc pa pb,λz R σ H W ρ Q Q' s hw k=>gc z R σ H W ρ _ _ s hw λc H1 W1 ρ1 p q1=>?_⟩
 have fin:∀{m':Bool} v H' W' d ρ' F,Post X.K T z R m' o H1 W1 σ ρ1 H' W' ρ' d v F->((m1 || m2)=false->m'=false)->Q d ρ'->Q' v H':=λv H' W' d ρ' F q hm hq=>by
  refine k v H' W' d ρ' F ⟨q.sr,p.fr.trans q.fr,λh=>?_,q.rep,λh=>⟨(q.own h).1,λa ma=>⟨p.fr.dom a ((q.own h).2 a ma).1,((q.own h).2 a ma).2⟩⟩⟩ hq
  rw [Bool.or_eq_false_iff] at h
  obtain ⟨a1,a2,a3⟩:=p.calm h.1
  obtain ⟨b1,b2,b3⟩:=q.calm (hm h.2)
  exact ⟨a1.trans b1,b2.trans a2,b3.trans a3⟩
 cases c with
 | true=>exact ga z R σ H1 W1 ρ1 Q Q' p.sr q1 λv H' W' d ρ' F q hq=>fin v H' W' d ρ' F q (λh=>(Bool.or_eq_false_iff.mp h).1) hq
 | false=>exact gb z R σ H1 W1 ρ1 Q Q' p.sr q1 λv H' W' d ρ' F q hq=>fin v H' W' d ρ' F q (λh=>(Bool.or_eq_false_iff.mp h).2) hq
end
end PV
namespace PV
open PySem PySem.Spec L2
open PySem.W (Dat kqdP kqdPs kqdOk)
mutual
def Jw:D->Dat
 | .non=>.none
 | .bl b=>.bool b
 | .int i=>.int i
 | .str x=>.str x
 | .tup xs=>.tuple (Yy xs)
 | .lst xs=>.list (Yy xs)
 | .dik _=>.none
 | .dit _=>.none
 | .kls _=>.none
 | .ty _=>.none
 | .fdk _=>.none
 | .ftp _=>.none
 | .fls _=>.none
 | .fdt _=>.none
 | .obj _ _=>.none
 | .clo _ _=>.none
 | .kc _=>.none
def Yy:List D->List Dat
 | []=>[]
 | d::r=>Jw d::Yy r
end
mutual
def eqOk:Nat->D->Bool
 | _,.non=>true
 | _,.int _=>true
 | _,.str x=>PyData.strOk x
 | n+1,.tup xs=>Zp n xs
 | n+1,.lst xs=>Zp n xs
 | _,_=>false
def Zp:Nat->List D->Bool
 | _,[]=>true
 | n,d::r=>eqOk n d && Zp n r
end
theorem Qei {n:Nat} {xs:List D}:Zp n xs=true↔∀x∈xs,eqOk n x=true:=by
 induction xs with
 | nil=>simp [Zp]
 | cons d r ih=>simp only [Zp,Bool.and_eq_true,ih,List.mem_cons,forall_eq_or_imp]
mutual
theorem Zy:∀(n:Nat) (d:D),eqOk n d=true->kqdOk n (Jw d)=true
 | _,.non,_=>by simp [Jw,kqdOk]
 | _,.bl _,h=>by cases ‹Nat› <;> simp [eqOk] at h
 | _,.int _,_=>by simp [Jw,kqdOk]
 | _,.str x,h=>by
  cases ‹Nat› <;> (simp only [eqOk] at h;simpa [Jw,kqdOk] using h)
 | 0,.tup _,h=>by simp [eqOk] at h
 | 0,.lst _,h=>by simp [eqOk] at h
 | n+1,.tup xs,h=>by
  simp only [eqOk] at h
  rw [Jw];simp only [kqdOk]
  exact Qa7 n xs h
 | n+1,.lst xs,h=>by
  simp only [eqOk] at h
  rw [Jw];simp only [kqdOk]
  exact Qa7 n xs h
 | n,.dik _,h=>by cases n <;> simp [eqOk] at h
 | n,.dit _,h=>by cases n <;> simp [eqOk] at h
 | n,.kls _,h=>by cases n <;> simp [eqOk] at h
 | n,.ty _,h=>by cases n <;> simp [eqOk] at h
 | n,.fdk _,h=>by cases n <;> simp [eqOk] at h
 | n,.ftp _,h=>by cases n <;> simp [eqOk] at h
 | n,.fls _,h=>by cases n <;> simp [eqOk] at h
 | n,.fdt _,h=>by cases n <;> simp [eqOk] at h
 | n,.obj _ _,h=>by cases n <;> simp [eqOk] at h
 | n,.clo _ _,h=>by cases n <;> simp [eqOk] at h
 | n,.kc _,h=>by cases n <;> simp [eqOk] at h
theorem Qa7:∀(n:Nat) (xs:List D),Zp n xs=true->(Yy xs).all (kqdOk n)=true
 | _,[],_=>by simp [Yy]
 | n,d::r,h=>by
  simp only [Zp,Bool.and_eq_true] at h
  rw [Yy,List.all_cons,Zy n d h.1,Qa7 n r h.2];rfl
end
mutual
theorem Ub:∀(n k:Nat) (a b:D),eqOk n a=true->eqOk k b=true->Jw a=Jw b->a=b
 | n,k,a,b,ha,hb,h=>by
  cases a with
  | non=>cases b <;> first | rfl | (simp [Jw] at h;done) | (cases k <;> simp [eqOk] at hb)
  | bl x=>cases n <;> simp [eqOk] at ha
  | int x=>cases b <;> first | (simp [Jw] at h;rw [h]) | (simp [Jw] at h)
  | str x=>cases b <;> first | (simp [Jw] at h;rw [h]) | (simp [Jw] at h)
  | tup xs =>
   cases b with
   | tup ys =>
    cases n with
    | zero=>simp [eqOk] at ha
    | succ n =>
     cases k with
     | zero=>simp [eqOk] at hb
     | succ k =>
      simp only [eqOk] at ha hb
      simp only [Jw,Dat.tuple.injEq] at h
      rw [G6 n k xs ys ha hb h]
   | _=>simp [Jw] at h
  | lst xs =>
   cases b with
   | lst ys =>
    cases n with
    | zero=>simp [eqOk] at ha
    | succ n =>
     cases k with
     | zero=>simp [eqOk] at hb
     | succ k =>
      simp only [eqOk] at ha hb
      simp only [Jw,Dat.list.injEq] at h
      rw [G6 n k xs ys ha hb h]
   | _=>simp [Jw] at h
  | dik x=>cases n <;> simp [eqOk] at ha
  | dit x=>cases n <;> simp [eqOk] at ha
  | kls x=>cases n <;> simp [eqOk] at ha
  | ty x=>cases n <;> simp [eqOk] at ha
  | fdk x=>cases n <;> simp [eqOk] at ha
  | ftp x=>cases n <;> simp [eqOk] at ha
  | fls x=>cases n <;> simp [eqOk] at ha
  | fdt x=>cases n <;> simp [eqOk] at ha
  | obj x y=>cases n <;> simp [eqOk] at ha
  | clo x y=>cases n <;> simp [eqOk] at ha
  | kc x=>cases n <;> simp [eqOk] at ha
theorem G6:∀(n k:Nat) (a b:List D),Zp n a=true->Zp k b=true->Yy a=Yy b->a=b
 | n,k,[],b,ha,hb,h=>by
  cases b with
  | nil=>rfl
  | cons=>simp [Yy] at h
 | n,k,x::a,b,ha,hb,h=>by
  cases b with
  | nil=>simp [Yy] at h
  | cons y b =>
   simp only [Yy,List.cons.injEq] at h
   simp only [Zp,Bool.and_eq_true] at ha hb
   rw [Ub n k x y ha.1 hb.1 h.1,G6 n k a b ha.2 hb.2 h.2]
end
theorem Rep.dv {K:PySem.W.Frag} {H:Hp} {d:D} {v:V} {F:List Addr} (n:Nat) (r:Rep K H d v F):eqOk n d=true->DV H v (Jw d):=by
 have no:∀{P:Prop} {n:Nat} {d:D},(∀n,eqOk n d=false)->eqOk n d=true->P:=λh h'=>absurd ((h _).symm.trans h') (by simp)
 refine Rep.rec (motive_1:=λd v _ _=>∀n,eqOk n d=true->DV H v (Jw d)) (motive_2:=λd v _ _=>∀n,Zp n d=true->DVs H v (Yy d)) (motive_3:=λ_ _ _ _=>True) (motive_4:=λ_ _ _ _=>True) ?_ ?_ ?_ ?_ ?_ ?_ ?_ ?_ ?_ ?_ ?_ ?_ ?_ ?_ ?_ ?_ ?_ ?_ ?_ trivial (λ_ _ _ _=>trivial) trivial (λ_ _ _ _=>trivial) r n
 ·exact λ_ _=>by rw [Jw];exact .non
 ·exact λb n=>no λn=>by cases n <;> rfl
 ·exact λi _ _=>by rw [Jw];exact .int i
 ·exact λi _ _=>by rw [Jw];exact .str i
 ·intro _ _ _ _ e _ ih n h
  cases n with
  | zero=>simp [eqOk] at h
  | succ n=>rw [eqOk] at h;rw [Jw];exact .tup e (ih n h)
 ·intro _ _ _ _ e _ ih n h
  cases n with
  | zero=>simp [eqOk] at h
  | succ n=>rw [eqOk] at h;rw [Jw];exact .lst e (ih n h)
 ·exact λ_ _ _ n=>no λn=>by cases n <;> rfl
 ·exact λ_ _ _ n=>no λn=>by cases n <;> rfl
 ·exact λ_ _ _ n=>no λn=>by cases n <;> rfl
 ·exact λ_ n=>no λn=>by cases n <;> rfl
 ·exact λ_ _ _ n=>no λn=>by cases n <;> rfl
 ·exact λ_ _ _ _ n=>no λn=>by cases n <;> rfl
 ·exact λ_ _ _ n=>no λn=>by cases n <;> rfl
 ·exact λ_ _ _ n=>no λn=>by cases n <;> rfl
 ·exact λ_ _ _ n=>no λn=>by cases n <;> rfl
 ·exact λ_ _ _ n=>no λn=>by cases n <;> rfl
 ·exact λ_ n=>no λn=>by cases n <;> rfl
 ·exact λ_ _=>by rw [Yy];exact .nil
 ·intro _ _ _ _ _ _ _ _ ih1 ih2 n q
  rw [Zp,Bool.and_eq_true] at q
  rw [Yy];exact .cons (ih1 n q.1) (ih2 n q.2)
def dAdd:G2
 | .int i,.int j,k=>k (.int (i+j))
 | .str x,.str y,k=>x.length+y.length<=sizeLine/\k (.str (x++y))
 | .tup xs,.tup ys,k=>Qm xs=true/\Qm ys=true/\xs≠[]/\xs.length+ys.length<=sizeLine/\k (.tup (xs++ys))
 | .lst xs,.lst ys,k=>Qm xs=true/\Qm ys=true/\xs.length+ys.length<=sizeLine/\k (.lst (xs++ys))
 | _,_,_=>False
def dSub:G2
 | .int i,.int j,k=>k (.int (i-j))
 | _,_,_=>False
def dMul:G2
 | .int i,.int j,k=>CMul i j/\k (.int (i*j))
 | .lst xs,.int n,k=>Qm xs=true /\ -(2 ^ 63)<=n/\n<2 ^ 63/\xs.length*n.toNat<=sizeLine/\k (.lst (List.replicate n.toNat xs).flatten)
 | _,_,_=>False
def dDiv:G2
 | .int i,.int j,k=>(0<j/\j<1073741824/\k (.int (i / j)))\/(j<0/\j.natAbs<1073741824/\k (.int (i.fdiv j)))
 | _,_,_=>False
def dMod:G2
 | .int i,.int j,k=>(0<j/\k (.int (i % j)))\/(j<0/\k (.int (i.fmod j)))
 | _,_,_=>False
def dEq:G2
 | .int i,.int j,k=>k (.bl (decide (i=j)))
 | .bl i,.bl j,k=>k (.bl (i == j))
 | .str i,.str j,k=>k (.bl (decide (i=j)))
 | a,b,k=>eqOk 9 a=true/\eqOk 9 b=true/\(a=b->k (.bl true))/\(a≠b->k (.bl false))
def dNe:G2
 | .int i,.int j,k=>k (.bl (!decide (i=j)))
 | .bl i,.bl j,k=>k (.bl (!(i == j)))
 | .str i,.str j,k=>k (.bl (!decide (i=j)))
 | a,b,k=>eqOk 9 a=true/\eqOk 9 b=true/\(a=b->k (.bl false))/\(a≠b->k (.bl true))
def dCmp (f:Int->Int->Bool):G2
 | .int i,.int j,k=>k (.bl (f i j))
 | _,_,_=>False
section
variable {X:Cx}
theorem Qit {K:PySem.W.Frag} {H:Hp} {i:Int} {x:V} {F:List Addr} (r:Rep K H (.int i) x F):x=.int i:=by cases r;rfl
theorem Reps.flatten {K:PySem.W.Frag} {H:Hp} {ds:List D} {xs:List V} (r:Reps K H ds xs []):∀n:Nat,Reps K H (List.replicate n ds).flatten (List.replicate n xs).flatten []
 | 0=>.nil
 | n+1=>by
  have:=r.append (Reps.flatten r n)
  simpa [List.replicate_succ,List.flatten_cons] using this
theorem Qml {a b:D} {k:D->Prop} (g:dAdd a b k):(∃i j,a=.int i/\b=.int j)\/(∃i j,a=.str i/\b=.str j)\/(∃i j,a=.tup i/\b=.tup j)\/∃i j,a=.lst i/\b=.lst j:=by
 cases a with
 | int i=>cases b with
  | int j=>exact .inl ⟨i,j,rfl,rfl⟩
  | _=>exact (show False from g).elim
 | str i=>cases b with
  | str j=>exact .inr (.inl ⟨i,j,rfl,rfl⟩)
  | _=>exact (show False from g).elim
 | tup i=>cases b with
  | tup j=>exact .inr (.inr (.inl ⟨i,j,rfl,rfl⟩))
  | _=>exact (show False from g).elim
 | lst i=>cases b with
  | lst j=>exact .inr (.inr (.inr ⟨i,j,rfl,rfl⟩))
  | _=>exact (show False from g).elim
 | _=>exact (show False from g).elim
theorem Qr8:OpD X (binaryOp .Add) dAdd:=by
 refine ⟨_,OpR.or Qr1 (OpR.or Qr0 (OpR.or Qpd Qhl)),λH a b x y F1 F2 k Q ra rb g q=>?_⟩
 rcases Qml g with ⟨i,j,rfl,rfl⟩ | ⟨i,j,rfl,rfl⟩ | ⟨ds,es,rfl,rfl⟩ | ⟨ds,es,rfl,rfl⟩
 ·exact .inl ⟨_,_,ra.iInt,rb.iInt,q _ _ _ _ (.flat (.int _)) g⟩
 ·exact .inr (.inr (.inr ⟨_,_,ra.iStr,rb.iStr,g.1,q _ _ _ _ (.flat (.str _)) g.2⟩))
 ·obtain ⟨a,xs,rfl,e1,r1⟩:=ra.iTup
  obtain ⟨b,ys,rfl,e2,r2⟩:=rb.iTup
  obtain ⟨p1,p2,hne,hz,g⟩:=g
  obtain ⟨-,r1⟩:=r1.pure p1
  obtain ⟨-,r2⟩:=r2.pure p2
  have l1:=r1.length
  have l2:=r2.length
  refine .inr (.inr (.inl ⟨a,b,xs,ys,rfl,rfl,.of e1,.of e2,λz=>hne (List.length_eq_zero_iff.mp (by rw [← l1,z];rfl)),by omega,λz=>?_,λz p hp=>?_⟩))
  ·have:es=[]:=List.length_eq_zero_iff.mp (by rw [← l2,z];rfl)
   subst this
   rw [List.append_nil] at g
   exact q _ _ _ _ (.flat (.tup e1 r1)) g
  ·refine q _ _ _ [] ⟨Qk hp,.tup Qn ?_,List.nodup_nil,λ_ m=>nomatch m⟩ g
   exact (r1.append r2).same (Qk hp)
 ·obtain ⟨a,xs,_,rfl,_,e1,r1⟩:=ra.iLst
  obtain ⟨b,ys,_,rfl,_,e2,r2⟩:=rb.iLst
  obtain ⟨p1,p2,hz,g⟩:=g
  obtain ⟨-,r1⟩:=r1.pure p1
  obtain ⟨-,r2⟩:=r2.pure p2
  have l1:=r1.length
  have l2:=r2.length
  refine .inr (.inl ⟨a,b,xs,ys,rfl,rfl,e1,e2,by omega,λp hp=>?_⟩)
  refine q _ _ _ [p] ⟨Qk hp,.lst Qn ((r1.append r2).same (Qk hp)),by simp,λc m=>by rw [List.mem_singleton.mp m];exact hp⟩ g
theorem Y9:OpD X (binaryOp .Sub) dSub:=by
 refine ⟨_,Qrs,λH a b x y F1 F2 k Q ra rb g q=>?_⟩
 (cases ra <;> first | exact (show False from g).elim | skip) <;> (cases rb <;> first | exact (show False from g).elim | skip)
 exact ⟨_,_,rfl,rfl,q _ _ _ _ (.flat (.int _)) g⟩
theorem Qmk {a b:D} {k:D->Prop} (g:dMul a b k):(∃i j,a=.int i/\b=.int j)\/∃i j,a=.lst i/\b=.int j:=by
 cases a with
 | int i=>cases b with
  | int j=>exact .inl ⟨i,j,rfl,rfl⟩
  | _=>exact (show False from g).elim
 | lst i=>cases b with
  | int j=>exact .inr ⟨i,j,rfl,rfl⟩
  | _=>exact (show False from g).elim
 | _=>exact (show False from g).elim
theorem Qat:OpD X (binaryOp .Mult) dMul:=by
 refine ⟨_,OpR.or Qrw Qrt,λH a b x y F1 F2 k Q ra rb g q=>?_⟩
 rcases Qmk g with ⟨i,j,rfl,rfl⟩ | ⟨ds,n,rfl,rfl⟩
 ·exact .inl ⟨_,_,ra.iInt,rb.iInt,g.1,q _ _ _ _ (.flat (.int _)) g.2⟩
 ·obtain ⟨a,xs,_,rfl,_,e1,r1⟩:=ra.iLst
  obtain rfl:=rb.iInt
  obtain ⟨p1,h1,h2,hz,g⟩:=g
  obtain ⟨-,r1⟩:=r1.pure p1
  have l1:=r1.length
  refine .inr ⟨a,n,xs,rfl,rfl,e1,h1,h2,by rw [l1];exact hz,λp hp=>?_⟩
  refine q _ _ _ [p] ⟨Qk hp,.lst Qn ((r1.flatten _).same (Qk hp)),by simp,λc m=>by rw [List.mem_singleton.mp m];exact hp⟩ g
theorem Qau:OpD X (binaryOp .FloorDiv) dDiv:=by
 refine ⟨_,OpR.or Qpa Qlx,λH a b x y F1 F2 k Q ra rb g q=>?_⟩
 (cases ra <;> first | exact (show False from g).elim | skip) <;> (cases rb <;> first | exact (show False from g).elim | skip)
 rcases (show _\/_ from g) with ⟨h1,h2,g⟩ | ⟨h1,h2,g⟩
 ·exact .inl ⟨_,_,rfl,rfl,⟨h1,h2⟩,q _ _ _ _ (.flat (.int _)) g⟩
 ·exact .inr ⟨_,_,rfl,rfl,⟨by omega,h2⟩,q _ _ _ _ (.flat (.int _)) g⟩
theorem Gu:OpD X (binaryOp .Mod) dMod:=by
 refine ⟨_,OpR.or Qrx Qo9,λH a b x y F1 F2 k Q ra rb g q=>?_⟩
 (cases ra <;> first | exact (show False from g).elim | skip) <;> (cases rb <;> first | exact (show False from g).elim | skip)
 rcases (show _\/_ from g) with ⟨h1,g⟩ | ⟨h1,g⟩
 ·exact .inl ⟨_,_,rfl,rfl,h1,q _ _ _ _ (.flat (.int _)) g⟩
 ·exact .inr ⟨_,_,rfl,rfl,by omega,q _ _ _ _ (.flat (.int _)) g⟩
theorem Qcs {op:CmpOp} {f:Int->Int->Bool} (h:OpR X (compareOp op) (rI0 λi j=>.bl (f i j))):OpD X (compareOp op) (dCmp f):=by
 refine ⟨_,h,λH a b x y F1 F2 k Q ra rb g q=>?_⟩
 (cases ra <;> first | exact (show False from g).elim | skip) <;> (cases rb <;> first | exact (show False from g).elim | skip)
 exact ⟨_,_,rfl,rfl,q _ _ _ _ (.flat (.bl _)) g⟩
theorem Qcr:OpD X (compareOp .Lt) (dCmp λi j=>decide (i<j)):=Qcs Quk
theorem Qr4:OpD X (compareOp .LtE) (dCmp λi j=>decide (i<=j)):=Qcs Qul
theorem Qbk:OpD X (compareOp .Gt) (dCmp λi j=>decide (j<i)):=Qcs Qum
theorem Quq:OpD X (compareOp .GtE) (dCmp λi j=>decide (j<=i)):=Qcs Qun
theorem Qj8 {H:Hp} {a b:D} {x y:V} {F1 F2:List Addr} {k:D->Prop} {Q:VK} {neg:Bool} (ra:Rep X.K H a x F1) (rb:Rep X.K H b y F2)
  (h1:eqOk 9 a=true) (h2:eqOk 9 b=true) (g1:a=b->k (.bl (!neg))) (g2:a≠b->k (.bl neg)) (q:∀v H' d F,Fin X.K H H' d v F->k d->Q v H'):rDat neg x y H Q:=by
 refine ⟨Jw a,Jw b,9,ra.dv 9 h1,rb.dv 9 h2,Zy _ _ h1,Zy _ _ h2,Nat.le_refl _,λe=>?_,λe=>?_⟩
 ·exact q _ _ _ _ (.flat (.bl _)) (g1 (Ub 9 9 a b h1 h2 e))
 ·exact q _ _ _ _ (.flat (.bl _)) (g2 λz=>e (by rw [z]))
theorem Qp6 {a b:D} {k:D->Prop} (g:dEq a b k):(∃i j,a=.int i/\b=.int j)\/(∃i j,a=.bl i/\b=.bl j)\/(∃i j,a=.str i/\b=.str j)\/(eqOk 9 a=true/\eqOk 9 b=true/\(a=b->k (.bl true))/\(a≠b->k (.bl false))):=by
 cases a with
 | int i=>cases b with
  | int j=>exact .inl ⟨i,j,rfl,rfl⟩
  | _=>exact .inr (.inr (.inr g))
 | bl i=>cases b with
  | bl j=>exact .inr (.inl ⟨i,j,rfl,rfl⟩)
  | _=>exact .inr (.inr (.inr g))
 | str i=>cases b with
  | str j=>exact .inr (.inr (.inl ⟨i,j,rfl,rfl⟩))
  | _=>exact .inr (.inr (.inr g))
 | _=>exact .inr (.inr (.inr g))
theorem Yq (hu:X.A.units+64<cLine):OpD X (compareOp .Eq) dEq:=by
 refine ⟨_,OpR.or Quo (Qrz hu),λH a b x y F1 F2 k Q ra rb g q=>?_⟩
 rcases Qp6 g with ⟨i,j,rfl,rfl⟩ | ⟨i,j,rfl,rfl⟩ | ⟨i,j,rfl,rfl⟩ | ⟨h1,h2,g1,g2⟩
 ·obtain rfl:=ra.iInt
  obtain rfl:=rb.iInt
  refine .inl ⟨rfl,?_⟩
  have e:decide (V.int i=V.int j)=decide (i=j):=by simp
  rw [e]
  exact q _ _ _ _ (.flat (.bl _)) g
 ·obtain rfl:=ra.iBl
  obtain rfl:=rb.iBl
  refine .inl ⟨rfl,?_⟩
  rw [Qgy]
  exact q _ _ _ _ (.flat (.bl _)) g
 ·obtain rfl:=ra.iStr
  obtain rfl:=rb.iStr
  refine .inl ⟨rfl,?_⟩
  have e:decide (V.str i=V.str j)=decide (i=j):=by simp
  rw [e]
  exact q _ _ _ _ (.flat (.bl _)) g
 ·exact .inr (Qj8 ra rb h1 h2 g1 g2 q)
theorem Qp4 {a b:D} {k:D->Prop} (g:dNe a b k):(∃i j,a=.int i/\b=.int j)\/(∃i j,a=.bl i/\b=.bl j)\/(∃i j,a=.str i/\b=.str j)\/(eqOk 9 a=true/\eqOk 9 b=true/\(a=b->k (.bl false))/\(a≠b->k (.bl true))):=by
 cases a with
 | int i=>cases b with
  | int j=>exact .inl ⟨i,j,rfl,rfl⟩
  | _=>exact .inr (.inr (.inr g))
 | bl i=>cases b with
  | bl j=>exact .inr (.inl ⟨i,j,rfl,rfl⟩)
  | _=>exact .inr (.inr (.inr g))
 | str i=>cases b with
  | str j=>exact .inr (.inr (.inl ⟨i,j,rfl,rfl⟩))
  | _=>exact .inr (.inr (.inr g))
 | _=>exact .inr (.inr (.inr g))
theorem Qcq (hu:X.A.units+64<cLine):OpD X (compareOp .NotEq) dNe:=by
 refine ⟨_,OpR.or Quj (Qrv hu),λH a b x y F1 F2 k Q ra rb g q=>?_⟩
 rcases Qp4 g with ⟨i,j,rfl,rfl⟩ | ⟨i,j,rfl,rfl⟩ | ⟨i,j,rfl,rfl⟩ | ⟨h1,h2,g1,g2⟩
 ·obtain rfl:=ra.iInt
  obtain rfl:=rb.iInt
  refine .inl ⟨rfl,?_⟩
  have e:(!decide (V.int i=V.int j)) = !decide (i=j):=by simp
  rw [e]
  exact q _ _ _ _ (.flat (.bl _)) g
 ·obtain rfl:=ra.iBl
  obtain rfl:=rb.iBl
  refine .inl ⟨rfl,?_⟩
  rw [Qgy]
  exact q _ _ _ _ (.flat (.bl _)) g
 ·obtain rfl:=ra.iStr
  obtain rfl:=rb.iStr
  refine .inl ⟨rfl,?_⟩
  have e:(!decide (V.str i=V.str j)) = !decide (i=j):=by simp
  rw [e]
  exact q _ _ _ _ (.flat (.bl _)) g
 ·exact .inr (Qj8 (neg:=true) ra rb h1 h2 g1 g2 q)
def dNeg:D->(D->Prop)->Prop
 | .int i,k=>k (.int (-i))
 | _,_=>False
theorem Yl:UnD X (unaryOp .USub) dNeg:=by
 refine ⟨_,Qqh,λH a x F1 k Q ra g q=>?_⟩
 cases ra <;> try exact (show False from g).elim
 exact ⟨_,rfl,q _ _ _ _ (.flat (.int _)) g⟩
end
end PV
namespace PV
open PySem PySem.Spec L2
open PyProof.Rows (subscriptTail)
def Uj:List D->Option (List Key)
 | []=>some []
 | .int i::r=>(Uj r).map λl=>.inl i::l
 | .str x::r=>(Uj r).map λl=>.inr x::l
 | _::_=>none
theorem Reps.keys {K:PySem.W.Frag} {H:Hp}:∀{ds:List D} {xs:List V} {F:List Addr} {l:List Key},Reps K H ds xs F->Uj ds=some l->xs=l.map kV
 | [],_,_,_,r,h=>by
  cases r
  simp only [Uj,Option.some.injEq] at h
  subst h
  rfl
 | d::ds,_,_,_,r,h=>by
  cases r with
  | cons p r =>
   cases d with
   | int i =>
    simp only [Uj,Option.map_eq_some_iff] at h
    obtain ⟨l',h1,rfl⟩:=h
    cases p
    rw [Reps.keys r h1]
    rfl
   | str i =>
    simp only [Uj,Option.map_eq_some_iff] at h
    obtain ⟨l',h1,rfl⟩:=h
    cases p
    rw [Reps.keys r h1]
    rfl
   | _=>simp [Uj] at h
theorem Reps.atI {K:PySem.W.Frag} {H:Hp} {ds:List D} {xs:List V} {F:List Addr} {i:Int} {d:D} (r:Reps K H ds xs F) (h:L2.atI ds i=some d):∃x B,L2.atI xs i=some x/\Rep K H d x B/\B.Sublist F:=by
 unfold L2.atI at h
 cases hj:ixN ds.length i with
 | none=>rw [hj] at h;cases h
 | some j =>
  rw [hj] at h
  obtain ⟨x,B,h1,h2,h3⟩:=r.get (i:=j) h
  refine ⟨x,B,?_,h2,h3⟩
  unfold L2.atI
  rw [r.length,hj]
  exact h1
def oget {α:Type} (o:Option α) (k:α->Prop):Prop:=match o with
 | some d=>k d
 | none=>False
def onI (b:D) (k:Int->Prop):Prop:=match b with
 | .int i=>k i
 | _=>False
def onK (b:D) (k:Key->Prop):Prop:=match b with
 | .int i=>k (.inl i)
 | .str i=>k (.inr i)
 | _=>False
def onT (b:D) (k:List D->Prop):Prop:=match b with
 | .tup l=>k l
 | _=>False
theorem Qaq {b:D} {k:Int->Prop} (h:onI b k):∃i,b=.int i/\k i:=by
 cases b with
 | int i=>exact ⟨i,rfl,h⟩
 | _=>exact (show False from h).elim
theorem Qja {b:D} {k:List D->Prop} (h:onT b k):∃i,b=.tup i/\k i:=by
 cases b with
 | tup i=>exact ⟨i,rfl,h⟩
 | _=>exact (show False from h).elim
theorem Qe8 {b:D} {k:Key->Prop} (h:onK b k):∃key,k key/\∀{K:PySem.W.Frag} {H:Hp} {v:V} {F:List Addr},Rep K H b v F->v=kV key:=by
 cases b with
 | int i=>exact ⟨.inl i,h,λr=>r.iInt⟩
 | str i=>exact ⟨.inr i,h,λr=>r.iStr⟩
 | _=>exact (show False from h).elim
def dIx:G2:=λa b k=>match a with
 | .lst xs=>onI b λi=>oget (L2.atI xs i) k
 | .tup xs=>onI b λi=>oget (L2.atI xs i) k
 | .kls xs=>onI b λi=>oget (L2.atI xs i) k
 | .str z=>onI b λi=>z.length<=sizeLine/\oget (L2.atI z.cps.toList i) λc=>k (.str ⟨#[c]⟩)
 | .dik kvs=>onK b λkey=>oget (valD kvs key) k
 | .dit kvs=>onT b λl=>oget (Uj l) λks=>oget (valD kvs ks) k
 | .fdk kvs=>onK b λkey=>oget (valD kvs key) k
 | _=>False
theorem Qw {α:Type} {o:Option α} {k:α->Prop} (h:oget o k):∃d,o=some d/\k d:=by
 cases o with
 | none=>exact h.elim
 | some d=>exact ⟨d,rfl,h⟩
section
variable {X:Cx}
theorem Qii {prog:Program} {w:World} {A:Around} {E:Value->Shared->Prop} {s₂:Shared} {value slice:Expr} {o i:Value} {T id:String} {Q:Value->Shared->Prop}
  (hl:typeLookup (.type T) "__getitem__" = pure (some (.builtin id))) (hs:subscripted slice false o i=operate [o,i] (getItem o i)) (hT:s₂.TypeIs o T) (h₂:wpAny (model prog w) A (getItem o i) Q E s₂) :
  wpAny (model prog w) A (subscriptTail value slice o i) Q E s₂:=by
 unfold subscriptTail
 refine wpAny_bind ?_
 rw [getitemInPython_of_ne hT.not_modules]
 refine wpAny_bind (wpAny_specialOf hT hl ?_)
 have fin:wpAny (model prog w) A (subscripted slice false o i) (λr s₃=>wpAny (model prog w) A (letTemporaryGo value o r >>= λ_=>pure r) Q E s₃) E s₂:=by
  rw [hs]
  exact wpAny_operating (wpAny_mono h₂ (λr s₃ h₃=>wpAny_bind (wpAny_letTemporaryGo (wpAny_pure h₃))) λ_ _ x=>x)
 first
  | exact wpAny_pure (wpAny_bind fin)
  | exact wpAny_bind (wpAny_pure (wpAny_bind fin))
  | exact wpAny_bind fin
theorem Qpp (hu:X.A.units+1<cLine):IxR X (λx y H Q=>∃a v,x=.ref a/\DGet H a y (some v)/\Q v H):=by
 intro value slice pins s σ H x y v u Q I rx ry h hs
 obtain ⟨a,z,rfl,g,q⟩:=h
 cases rx
 exact Qii PySem.F.slot_dict_getitem.lookup hs (Qfl I g) (Qkf hu I g ry λw' s3 I3 rw'=>⟨z,H,I3,rw',q⟩)
def IxD (X:Cx) (g:G2):Prop :=
 ∃r,IxR X r/\∀(H:Hp) (a b:D) (x y:V) (F1 F2:List Addr) (k:D->Prop) (Q:VK),Rep X.K H a x F1->Rep X.K H b y F2->g a b k ->
  (∀v d F,Rep X.K H d v F->F.Sublist F1->k d->Q v H)->r x y H Q
theorem Jb (hu:X.A.units+1<cLine):IxD X dIx:=by
 refine ⟨_,IxR.or Qsu (Qpp hu),λH a b x y F1 F2 k Q ra rb g q=>?_⟩
 cases a with
 | str z =>
  obtain ⟨i,rfl,hz,g⟩:=Qaq g
  obtain ⟨c,e,g⟩:=Qw g
  exact .inl (.inr (.inr ⟨_,_,c,ra.iStr,rb.iInt,hz,e,q _ _ _ (.str _) (List.nil_sublist _) g⟩))
 | tup ds =>
  obtain ⟨i,rfl,g⟩:=Qaq g
  obtain ⟨a,xs,rfl,e,r⟩:=ra.iTup
  obtain ⟨d,h,g⟩:=Qw g
  obtain ⟨v,B,h1,h2,h3⟩:=r.atI h
  exact .inl (.inr (.inl ⟨a,xs,i,v,rfl,rb.iInt,.of e,h1,q _ _ _ h2 h3 g⟩))
 | lst ds =>
  obtain ⟨i,rfl,g⟩:=Qaq g
  obtain ⟨a,xs,G,rfl,rfl,e,r⟩:=ra.iLst
  obtain ⟨d,h,g⟩:=Qw g
  obtain ⟨v,B,h1,h2,h3⟩:=r.atI h
  exact .inl (.inl ⟨a,xs,i,v,rfl,rb.iInt,.of e,h1,q _ _ _ h2 (h3.trans (List.sublist_cons_self _ _)) g⟩)
 | dik ds =>
  obtain ⟨key,g,hy⟩:=Qe8 (show onK b (λkey=>oget (valD ds key) k) from g)
  obtain ⟨a,kvs,G,rfl,rfl,e,r⟩:=ra.iDik
  obtain rfl:=hy rb
  obtain ⟨d,h,g⟩:=Qw g
  rcases r.val key with ⟨z,_⟩ | ⟨d',v,B,h1,h2,h3,h4⟩
  ·rw [h] at z;cases z
  ·rw [h] at h1;cases h1
   exact .inr ⟨a,v,rfl,h2 ▸ DGet.k (k:=key) e,q _ _ _ h3 (h4.trans (List.sublist_cons_self _ _)) g⟩
 | dit ds =>
  obtain ⟨l,rfl,g⟩:=Qja g
  obtain ⟨a,kvs,G,rfl,rfl,e,r⟩:=ra.iDit
  obtain ⟨b,xs,rfl,e2,r2⟩:=rb.iTup
  obtain ⟨ks,hk,g⟩:=Qw g
  obtain ⟨d,h,g⟩:=Qw g
  have hx:=r2.keys hk
  subst hx
  rcases r.val ks with ⟨z,_⟩ | ⟨d',v,B,h1,h2,h3,h4⟩
  ·rw [h] at z;cases z
  ·rw [h] at h1;cases h1
   exact .inr ⟨a,v,rfl,h2 ▸ DGet.t (k:=ks) e e2,q _ _ _ h3 (h4.trans (List.sublist_cons_self _ _)) g⟩
 | kls ds =>
  obtain ⟨i,rfl,g⟩:=Qaq g
  obtain ⟨a,xs,rfl,rfl,e,r⟩:=ra.iKls
  obtain ⟨d,h,g⟩:=Qw g
  obtain ⟨v,B,h1,h2,h3⟩:=r.atI h
  exact .inl (.inl ⟨a,xs,i,v,rfl,rb.iInt,e.sq,h1,q _ _ _ h2 h3 g⟩)
 | fdk ds =>
  obtain ⟨key,g,hy⟩:=Qe8 (show onK b (λkey=>oget (valD ds key) k) from g)
  obtain ⟨a,ob,kvs,rfl,e,r⟩:=ra.iFdk
  obtain rfl:=hy rb
  obtain ⟨d,h,g⟩:=Qw g
  rcases r.val key with ⟨z,_⟩ | ⟨d',v,B,h1,h2,h3,h4⟩
  ·rw [h] at z;cases z
  ·rw [h] at h1;cases h1
   exact .inr ⟨a,v,rfl,.inl ⟨kvs,key,.inr ⟨ob,e⟩,rfl,h2.symm⟩,q _ _ _ h3 h4 g⟩
 | _=>exact (show False from g).elim
variable {T:Tg} {m o m1 m2 m3 o1 o2:Bool} {e a b:Expr} {w wa wb:WE} {pos p2:Pos}
theorem Jd {g:G2} (hg:IxD X g) (ha:EV X T m1 o1 a wa) (hb:EV X T m2 o2 b wb) (hc:o1=true\/m2=false:=by first | exact .inl rfl | exact .inr rfl) (hs:Qbd b:=by intro _ _;rfl) :
  EV X T (m1 || m2) o1 (.Subscript a b pos) (wBin g wa wb):=by
 obtain ⟨r,ro,gr⟩:=hg
 obtain ⟨ta,pa,ga⟩:=ha
 obtain ⟨tb,pb,gb⟩:=hb
 refine ⟨_,Qlm ro pa pb hs,λz R σ H W ρ Q Q' s hw k=>?_⟩
 refine two ga gb hc s hw λx y H2 W2 d1 d2 ρ2 F1 F2 s2 f2 c2 r1 r2 o1 _ _ q2=>?_
 exact gr H2 d1 d2 x y F1 F2 _ Q' r1 r2 q2 λv d F rd sub hk=>k v H2 W2 d ρ2 F ⟨s2,f2,c2,rd,λh=>⟨(o1 h).1.sublist sub,λa m=>(o1 h).2 a (sub.subset m)⟩⟩ hk
def inD:D->List D->Option Bool
 | .int i,[]=>some false
 | .int i,.int j::r=>(inD (.int i) r).map λb=>(j == i) || b
 | .str i,[]=>some false
 | .str i,.str j::r=>(inD (.str i) r).map λb=>(j == i) || b
 | _,_=>none
def dIn (neg:Bool):G2
 | .int i,.dik kvs,k=>k (.bl (xor neg (valD kvs (.inl i)).isSome))
 | .str i,.dik kvs,k=>k (.bl (xor neg (valD kvs (.inr i)).isSome))
 | .tup l,.dit kvs,k=>oget (Uj l) λks=>k (.bl (xor neg (valD kvs ks).isSome))
 | .int i,.lst xs,k=>oget (inD (.int i) xs) λb=>k (.bl (xor neg b))
 | .int i,.tup xs,k=>oget (inD (.int i) xs) λb=>k (.bl (xor neg b))
 | .str i,.lst xs,k=>oget (inD (.str i) xs) λb=>k (.bl (xor neg b))
 | .str i,.tup xs,k=>oget (inD (.str i) xs) λb=>k (.bl (xor neg b))
 | .str i,.str j,k=>k (.bl (xor neg (!(Builtin.Str.occurrences j i 0 j.length 1).isEmpty)))
 | _,_,_=>False
theorem Qjt {K:PySem.W.Frag} {H:Hp} {i:Int}:∀{ds:List D} {xs:List V} {F:List Addr} {b:Bool},Reps K H ds xs F->inD (.int i) ds=some b->xs.all Qbl=true/\inV (.int i) xs=b
 | [],_,_,_,r,h=>by
  cases r
  simp only [inD,Option.some.injEq] at h
  subst h
  exact ⟨rfl,rfl⟩
 | d::ds,_,_,_,r,h=>by
  cases r with
  | cons p r =>
   cases d with
   | int j =>
    simp only [inD,Option.map_eq_some_iff] at h
    obtain ⟨b',h1,rfl⟩:=h
    cases p
    obtain ⟨e1,e2⟩:=Qjt r h1
    refine ⟨by rw [List.all_cons,e1];rfl,?_⟩
    unfold inV at e2 ⊢
    rw [List.any_cons,e2]
    rfl
   | _=>simp [inD] at h
theorem Qjs {K:PySem.W.Frag} {H:Hp} {i:Str}:∀{ds:List D} {xs:List V} {F:List Addr} {b:Bool},Reps K H ds xs F->inD (.str i) ds=some b->xs.all Qbl=true/\inV (.str i) xs=b
 | [],_,_,_,r,h=>by
  cases r
  simp only [inD,Option.some.injEq] at h
  subst h
  exact ⟨rfl,rfl⟩
 | d::ds,_,_,_,r,h=>by
  cases r with
  | cons p r =>
   cases d with
   | str j =>
    simp only [inD,Option.map_eq_some_iff] at h
    obtain ⟨b',h1,rfl⟩:=h
    cases p
    obtain ⟨e1,e2⟩:=Qjs r h1
    refine ⟨by rw [List.all_cons,e1];rfl,?_⟩
    unfold inV at e2 ⊢
    rw [List.any_cons,e2]
    rfl
   | _=>simp [inD] at h
theorem Qpc (neg:Bool) (hu:X.A.units+1<cLine):OpR X (compareOp (if neg then .NotIn else .In)) (λy x H Q=>∃a o,x=.ref a/\DGet H a y o/\Q (.bl (xor neg o.isSome)) H):=by
 intro pins s σ H y x u v Q I ry rx h
 obtain ⟨a,ov,rfl,g,q⟩:=h
 cases rx
 cases neg with
 | false=>exact d_in hu I g ry λs3 I3=>⟨.bl ov.isSome,H,I3,rfl,by simpa using q⟩
 | true=>exact Qp2 hu I g ry λs3 I3=>⟨.bl (!ov.isSome),H,I3,rfl,by simpa using q⟩
theorem Qlw (neg:Bool):OpR X (compareOp (if neg then .NotIn else .In)) (rIn X.K neg):=by
 cases neg with
 | false=>exact Qi9
 | true=>exact Qd3
theorem Qlv (neg:Bool):OpR X (compareOp (if neg then .NotIn else .In)) (λx y H Q=>∃i j,x=.str i/\y=.str j/\Q (.bl (xor neg (!(Builtin.Str.occurrences j i 0 j.length 1).isEmpty))) H):=by
 cases neg with
 | false=>simpa using Qi8 (X:=X)
 | true=>simpa using Qd2 (X:=X)
theorem Qdq {H:Hp} {a:Addr} {kvs:List (Key × V)} {ds:List (Key × D)} {F:List Addr} {k:Key} (e:H a=some (.dK kvs)) (r:RepK X.K H ds kvs F):∃o,DGet H a (kV k) o/\o.isSome=(valD ds k).isSome:=by
 refine ⟨_,DGet.k (k:=k) e,?_⟩
 rcases r.val k with ⟨h1,h2⟩ | ⟨d,v,B,h1,h2,_⟩ <;> simp [h1,h2]
theorem Qp5 {neg:Bool} {a b:D} {k:D->Prop} (g:dIn neg a b k):(∃i z,a=.int i/\b=.tup z)\/(∃i z,a=.int i/\b=.lst z)\/(∃i z,a=.int i/\b=.dik z)\/(∃i z,a=.str i/\b=.str z)\/(∃i z,a=.str i/\b=.tup z)\/(∃i z,a=.str i/\b=.lst z)\/(∃i z,a=.str i/\b=.dik z)\/∃i z,a=.tup i/\b=.dit z:=by
 cases a with
 | int i=>cases b with
  | tup z=>exact .inl ⟨i,z,rfl,rfl⟩
  | lst z=>exact .inr (.inl ⟨i,z,rfl,rfl⟩)
  | dik z=>exact .inr (.inr (.inl ⟨i,z,rfl,rfl⟩))
  | _=>exact (show False from g).elim
 | str i=>cases b with
  | str z=>exact .inr (.inr (.inr (.inl ⟨i,z,rfl,rfl⟩)))
  | tup z=>exact .inr (.inr (.inr (.inr (.inl ⟨i,z,rfl,rfl⟩))))
  | lst z=>exact .inr (.inr (.inr (.inr (.inr (.inl ⟨i,z,rfl,rfl⟩)))))
  | dik z=>exact .inr (.inr (.inr (.inr (.inr (.inr (.inl ⟨i,z,rfl,rfl⟩))))))
  | _=>exact (show False from g).elim
 | tup i=>cases b with
  | dit z=>exact .inr (.inr (.inr (.inr (.inr (.inr (.inr ⟨i,z,rfl,rfl⟩))))))
  | _=>exact (show False from g).elim
 | _=>exact (show False from g).elim
theorem Qr5 (neg:Bool) (hu:X.A.units+1<cLine):OpD X (compareOp (if neg then .NotIn else .In)) (dIn neg):=by
 refine ⟨_,OpR.or (Qpc neg hu) (OpR.or (Qlw neg) (Qlv neg)),λH a b x y F1 F2 k Q ra rb g q=>?_⟩
 have seqI:∀{i:Int} {p:Addr} {ds:List D} {xs:List V} {F:List Addr},x=.int i->y=.ref p->Reps X.K H ds xs F->(SqL X.K H p xs\/SqT X.K H p xs)->oget (inD (.int i) ds) (λb=>k (.bl (xor neg b)))->rIn X.K neg x y H Q:=λ{i p ds xs F} ex ey r hs g=>by
  subst ex ey
  obtain ⟨b,h,g⟩:=Qw g
  obtain ⟨e1,e2⟩:=Qjt r h
  refine ⟨p,xs,rfl,hs,rfl,e1,?_⟩
  rw [e2]
  have:=q _ _ _ _ (.flat (.bl _)) g
  cases neg <;> simpa using this
 have seqS:∀{i:Str} {p:Addr} {ds:List D} {xs:List V} {F:List Addr},x=.str i->y=.ref p->Reps X.K H ds xs F->(SqL X.K H p xs\/SqT X.K H p xs)->oget (inD (.str i) ds) (λb=>k (.bl (xor neg b)))->rIn X.K neg x y H Q:=λ{i p ds xs F} ex ey r hs g=>by
  subst ex ey
  obtain ⟨b,h,g⟩:=Qw g
  obtain ⟨e1,e2⟩:=Qjs r h
  refine ⟨p,xs,rfl,hs,rfl,e1,?_⟩
  rw [e2]
  have:=q _ _ _ _ (.flat (.bl _)) g
  cases neg <;> simpa using this
 rcases Qp5 g with ⟨i,z,rfl,rfl⟩ | ⟨i,z,rfl,rfl⟩ | ⟨i,ds,rfl,rfl⟩ | ⟨i,z,rfl,rfl⟩ | ⟨i,z,rfl,rfl⟩ | ⟨i,z,rfl,rfl⟩ | ⟨i,ds,rfl,rfl⟩ | ⟨l,ds,rfl,rfl⟩
 ·obtain ⟨p,xs,ey,e,r⟩:=rb.iTup
  exact .inr (.inl (seqI ra.iInt ey r (.inr (.of e)) g))
 ·obtain ⟨p,xs,G,ey,_,e,r⟩:=rb.iLst
  exact .inr (.inl (seqI ra.iInt ey r (.inl (.of e)) g))
 ·obtain ⟨a,kvs,G,rfl,_,e,r⟩:=rb.iDik
  obtain rfl:=ra.iInt
  obtain ⟨o,h1,h2⟩:=Qdq (k:=.inl i) e r
  refine .inl ⟨a,o,rfl,h1,?_⟩
  rw [h2]
  exact q _ _ _ _ (.flat (.bl _)) g
 ·exact .inr (.inr ⟨_,_,ra.iStr,rb.iStr,q _ _ _ _ (.flat (.bl _)) g⟩)
 ·obtain ⟨p,xs,ey,e,r⟩:=rb.iTup
  exact .inr (.inl (seqS ra.iStr ey r (.inr (.of e)) g))
 ·obtain ⟨p,xs,G,ey,_,e,r⟩:=rb.iLst
  exact .inr (.inl (seqS ra.iStr ey r (.inl (.of e)) g))
 ·obtain ⟨a,kvs,G,rfl,_,e,r⟩:=rb.iDik
  obtain rfl:=ra.iStr
  obtain ⟨o,h1,h2⟩:=Qdq (k:=.inr i) e r
  refine .inl ⟨a,o,rfl,h1,?_⟩
  rw [h2]
  exact q _ _ _ _ (.flat (.bl _)) g
 ·obtain ⟨b,xs,rfl,e2,r2⟩:=ra.iTup
  obtain ⟨a,kvs,G,rfl,_,e,r⟩:=rb.iDit
  obtain ⟨ks,hk,g⟩:=Qw g
  have hx:=r2.keys hk
  subst hx
  refine .inl ⟨a,valV kvs ks,rfl,DGet.t (k:=ks) e e2,?_⟩
  have h2:(valV kvs ks).isSome=(valD ds ks).isSome:=by
   rcases r.val ks with ⟨h1,h2⟩ | ⟨d,v,B,h1,h2,_⟩ <;> simp [h1,h2]
  rw [h2]
  exact q _ _ _ _ (.flat (.bl _)) g
theorem Qup (hu:X.A.units+1<cLine):OpD X (compareOp .In) (dIn false):=Qr5 false hu
abbrev WA:=Env->(List D->Env->Prop)->Prop
structure PostA (K:PySem.W.Frag) (T:Tg) (z:Nat->V) (R:Addr->Prop) (m o:Bool) (H:Hp) (W:Addr->Prop) (σ:St) (ρ:Env) (H':Hp) (W':Addr->Prop) (ρ':Env) (ds:List D) (vs:List V) (F:List Addr):Prop where
 sr:SR K T z R H' W' σ ρ'
 fr:FrW H W H' W'
 calm:m=false->Same H H'/\W'=W/\ρ'=ρ
 rep:Reps K H' ds vs F
 own:o=true->F.Nodup/\∀a∈F,H a=none/\¬W' a
def AV (X:Cx) (T:Tg) (m o:Bool) (es:List Expr) (w:WA):Prop :=
 ∃ta,PA X es ta/\∀(z:Nat->V) (R:Addr->Prop) (σ:St) (H:Hp) (W:Addr->Prop) (ρ:Env) (Q:List D->Env->Prop) (Q':List V->Hp->Prop),SR X.K T z R H W σ ρ->w ρ Q ->
  (∀vs H' W' ds ρ' F,PostA X.K T z R m o H W σ ρ H' W' ρ' ds vs F->Q ds ρ'->Q' vs H')->ta σ H Q'
variable {es:List Expr} {wr:WA}
def wNil:WA:=λρ Q=>Q [] ρ
def Qc (w:WE) (wr:WA):WA:=λρ Q=>w ρ λd ρ1=>wr ρ1 λds ρ2=>Q (d::ds) ρ2
theorem Qg:AV X T false true [] wNil:=⟨_,Xr,λz R σ H W ρ Q Q' s hw k=>k [] H W [] ρ [] ⟨s,FrW.refl H W,λ_=>⟨Same.refl H,rfl,rfl⟩,.nil,λ_=>⟨List.nodup_nil,λa m=>nomatch m⟩⟩ hw⟩
theorem Qb (he:EV X T m1 o1 e w) (hr:AV X T m2 o2 es wr) (hc:o1=true\/m2=false:=by first | exact .inl rfl | exact .inr rfl) (hs:starEach (e::es) X.env=(false,eval e X.env)::starEach es X.env:=by rfl) :
  AV X T (m1 || m2) (o1 && o2) (e::es) (Qc w wr):=by
 obtain ⟨te,pe,ge⟩:=he
 obtain ⟨ta,pa,ga⟩:=hr
 refine ⟨_,Z4 pe pa hs,λz R σ H W ρ Q Q' s hw k=>?_⟩
 refine ge z R σ H W ρ _ _ s hw λv1 H1 W1 d1 ρ1 F1 p q1=>?_
 refine ga z R σ H1 W1 ρ1 _ _ p.sr q1 λvs H2 W2 ds ρ2 F2 q q2=>?_
 have r1:Rep X.K H2 d1 v1 F1:=by
  rcases hc with hc | hc
  ·exact p.rep.keep q.fr λa h=>((p.own hc).2 a h).2
  ·exact p.rep.same (q.calm hc).1
 refine k (v1::vs) H2 W2 (d1::ds) ρ2 (F1++F2) ⟨q.sr,p.fr.trans q.fr,λh=>?_,.cons r1 q.rep,λh=>?_⟩ q2
 ·rw [Bool.or_eq_false_iff] at h
  obtain ⟨a1,a2,a3⟩:=p.calm h.1
  obtain ⟨b1,b2,b3⟩:=q.calm h.2
  exact ⟨a1.trans b1,b2.trans a2,b3.trans a3⟩
 ·rw [Bool.and_eq_true] at h
  obtain ⟨n1,k1⟩:=p.own h.1
  obtain ⟨n2,k2⟩:=q.own h.2
  refine ⟨List.nodup_append.mpr ⟨n1,n2,λa ma b mb e=>?_⟩,λa ma=>?_⟩
  ·subst e
   obtain ⟨ob,e,_⟩:=p.rep.dom a ma
   rw [(k2 a mb).1] at e;cases e
  ·rcases List.mem_append.mp ma with ma | ma
   ·refine ⟨(k1 a ma).1,λw=>?_⟩
    rcases q.fr.new a w with w | w
    ·exact (k1 a ma).2 w
    ·obtain ⟨ob,e,_⟩:=p.rep.dom a ma
     rw [w] at e;cases e
   ·exact ⟨p.fr.dom a (k2 a ma).1,(k2 a ma).2⟩
def wTup (wr:WA):WE:=λρ Q=>wr ρ λds ρ'=>ds.length<=sizeLine/\Q (.tup ds) ρ'
def wLst (wr:WA):WE:=λρ Q=>wr ρ λds ρ'=>ds.length<=sizeLine/\Q (.lst ds) ρ'
theorem Jy {x1} (h:AV X T m o es wr):EV X T m o (.Tuple es x1 pos) (wTup wr):=by
 obtain ⟨ta,pa,ga⟩:=h
 refine ⟨_,Qi7 pa,λz R σ H W ρ Q Q' s hw k=>?_⟩
 refine ga z R σ H W ρ _ _ s hw λvs H1 W1 ds ρ1 F p q=>?_
 obtain ⟨hz,q⟩:=q
 refine ⟨by rw [p.rep.length];exact hz,λa ha=>k _ _ W1 (.tup ds) ρ1 F ⟨p.sr.same (Qk ha),p.fr.trans (FrW.same W1 (Qk ha)),λh=>⟨(p.calm h).1.trans (Qk ha),(p.calm h).2⟩,.tup Qn (p.rep.same (Qk ha)),p.own⟩ q⟩
theorem Yc (h:AV X T m o es wr):EV X T m o (.List es pos) (wLst wr):=by
 obtain ⟨ta,pa,ga⟩:=h
 refine ⟨_,Qrp pa,λz R σ H W ρ Q Q' s hw k=>?_⟩
 refine ga z R σ H W ρ _ _ s hw λvs H1 W1 ds ρ1 F p q=>?_
 obtain ⟨hz,q⟩:=q
 refine ⟨by rw [p.rep.length];exact hz,λa ha=>k _ _ W1 (.lst ds) ρ1 (a::F) ⟨p.sr.same (Qk ha),p.fr.trans (FrW.same W1 (Qk ha)),λh=>⟨(p.calm h).1.trans (Qk ha),(p.calm h).2⟩,.lst Qn (p.rep.same (Qk ha)),λh=>?_⟩ q⟩
 obtain ⟨n1,k1⟩:=p.own h
 refine ⟨List.nodup_cons.mpr ⟨λm=>?_,n1⟩,λb mb=>?_⟩
 ·obtain ⟨ob,e,_⟩:=p.rep.dom a m
  rw [ha] at e;cases e
 ·rcases List.mem_cons.mp mb with rfl | mb
  ·exact ⟨p.fr.dom _ ha,p.sr.nw ha⟩
  ·exact k1 b mb
theorem Qmg:EV X T false true (.Dict [] [] pos) (wC (.dik [])) :=
 ⟨_,Qlo,λz R σ H W ρ Q Q' s hw k a ha=>k _ _ W (.dik []) ρ [a] (Post.fin s (FrW.refl H W) (λ_=>⟨Same.refl H,rfl,rfl⟩) (Qk ha) (.dik Qn .nil) (by simp) (λb m=>by rw [List.mem_singleton.mp m];exact ha)) hw⟩
abbrev GA:=List D->(D->Prop)->Prop
def Qbp (X:Cx) (f:Value) (g:GA):Prop :=
 ∃r,Uo X f r/\∀(H:Hp) (ds:List D) (xs:List V) (F:List Addr) (k:D->Prop) (Q:VK),Reps X.K H ds xs F->g ds k->(∀v H' d F',Fin X.K H H' d v F'->k d->Q v H')->r xs H Q
def Qh (g:GA) (wr:WA):WE:=λρ Q=>wr ρ λds ρ'=>g ds λd=>Q d ρ'
variable {x:Str} {id T':String} {p:Pos}
theorem Qg5 {g:GA} {r:List V->Hp->VK->Prop} (gr:∀(H:Hp) (ds:List D) (xs:List V) (F:List Addr) (k:D->Prop) (Q:VK),Reps X.K H ds xs F->g ds k->(∀v H' d F',Fin X.K H H' d v F'->k d->Q v H')->r xs H Q)
  {ta:TA} (ga:∀(z:Nat->V) (R:Addr->Prop) (σ:St) (H:Hp) (W:Addr->Prop) (ρ:Env) (Q:List D->Env->Prop) (Q':List V->Hp->Prop),SR X.K T z R H W σ ρ->wr ρ Q ->
   (∀vs H' W' ds ρ' F,PostA X.K T z R m o H W σ ρ H' W' ρ' ds vs F->Q ds ρ'->Q' vs H')->ta σ H Q')
  {z:Nat->V} {R:Addr->Prop} {σ:St} {H:Hp} {W:Addr->Prop} {ρ:Env} {Q:D->Env->Prop} {Q':VK} (s:SR X.K T z R H W σ ρ) (hw:Qh g wr ρ Q)
  (k:∀v H' W' d ρ' F,Post X.K T z R m true H W σ ρ H' W' ρ' d v F->Q d ρ'->Q' v H'):ta σ H λvs H1=>r vs H1 Q':=by
 refine ga z R σ H W ρ _ _ s hw λvs H1 W1 ds ρ1 F p q=>?_
 exact gr H1 ds vs F _ Q' p.rep q λv H' d F' fi hk=>k v H' W1 d ρ1 F' (Post.fin p.sr p.fr p.calm fi.same fi.rep fi.nd fi.new) hk
theorem Ji {g:GA} (hc:Qbp X (.builtin id) g) (hm:X.mg x=none) (hv:bootBuiltins x=some (.builtin id)) (ha:AV X T m o (e::es) wr) (hg:Gl X x:=by rfl) (hn:x ≠ "__name__":=by decide) (hdb:(x == ("__debug__" : Str))=false:=by decide)
  (he:starEach (e::es) X.env=(false,eval e X.env)::starEach es X.env:=by rfl) (hpl:(backTo pos (starEach es X.env)).any (·.1)=false:=by rfl):EV X T m true (.Call (.Name x p) (e::es) [] pos) (Qh g wr):=by
 obtain ⟨r,rc,gr⟩:=hc
 obtain ⟨ta,pa,ga⟩:=ha
 exact ⟨_,Qls rc hg hm hv pa hn hdb he hpl,λz R σ H W ρ Q Q' s hw k=>Qg5 gr ga s hw k⟩
theorem Jm {g:GA} (hc:Qbp X (.type T') g) (hm:X.mg x=none) (hv:bootBuiltins x=some (.type T')) (ha:AV X T m o (e::es) wr) (hg:Gl X x:=by rfl) (hn:x ≠ "__name__":=by decide) (hdb:(x == ("__debug__" : Str))=false:=by decide)
  (he:starEach (e::es) X.env=(false,eval e X.env)::starEach es X.env:=by rfl) (hpl:(backTo pos (starEach es X.env)).any (·.1)=false:=by rfl):EV X T m true (.Call (.Name x p) (e::es) [] pos) (Qh g wr):=by
 obtain ⟨r,rc,gr⟩:=hc
 obtain ⟨ta,pa,ga⟩:=ha
 exact ⟨_,Qd1 rc hg hm hv pa hn hdb he hpl,λz R σ H W ρ Q Q' s hw k=>Qg5 gr ga s hw k⟩
theorem Qpx (t:Ty) (hm:X.mg x=none) (hv:bootBuiltins x=some (.type t.nm)) (hg:Gl X x:=by rfl) (hn:x ≠ "__name__":=by decide) (hdb:(x == ("__debug__" : Str))=false:=by decide):EV X T false true (.Name x pos) (wC (.ty t)) :=
 V0 (Qo7 hg hm hv (v:=.ty t.nm) rfl hn hdb) λ_=>.ty t
theorem Reps.at1 {K:PySem.W.Frag} {H:Hp} {d:D} {xs:List V} {F:List Addr} (r:Reps K H [d] xs F):∃v,xs=[v]/\Rep K H d v F:=by
 cases r with
 | cons h r=>cases r;rw [List.append_nil];exact ⟨_,rfl,h⟩
theorem Reps.at2 {K:PySem.W.Frag} {H:Hp} {d e:D} {xs:List V} {F:List Addr} (r:Reps K H [d,e] xs F):∃v u F1 F2,xs=[v,u]/\Rep K H d v F1/\Rep K H e u F2:=by
 cases r with
 | cons h r =>
  obtain ⟨u,rfl,h2⟩:=r.at1
  exact ⟨_,_,_,_,rfl,h,h2⟩
def dLen:GA
 | [.lst xs],k=>k (.int xs.length)
 | [.tup xs],k=>k (.int xs.length)
 | [.kls xs],k=>k (.int xs.length)
 | [.dik xs],k=>k (.int xs.length)
 | [.str z],k=>z.length<=sizeLine/\k (.int z.length)
 | _,_=>False
theorem Vp:Qbp X (.builtin "len") dLen:=by
 refine ⟨_,Uo.or Qmr Qko,λH ds xs F k Q r g q=>?_⟩
 cases ds with
 | nil=>exact (show False from g).elim
 | cons d ds =>
  cases ds with
  | cons _ _=>cases d <;> exact (show False from g).elim
  | nil =>
   cases d with
   | lst es =>
    obtain ⟨v,rfl,rd⟩:=r.at1
    clear r
    cases rd with
    | lst e r9=>exact .inl ⟨_,_,rfl,.inl ⟨_,.of e,rfl⟩,by rw [r9.length];exact q _ _ _ _ (.flat (.int _)) g⟩
   | tup es =>
    obtain ⟨v,rfl,rd⟩:=r.at1
    clear r
    cases rd with
    | tup e r9=>exact .inl ⟨_,_,rfl,.inr ⟨_,.of e,rfl⟩,by rw [r9.length];exact q _ _ _ _ (.flat (.int _)) g⟩
   | kls es =>
    obtain ⟨v,rfl,rd⟩:=r.at1
    clear r
    cases rd with
    | kls e r9=>exact .inl ⟨_,_,rfl,.inl ⟨_,e.sq,rfl⟩,by rw [r9.length];exact q _ _ _ _ (.flat (.int _)) g⟩
   | dik es =>
    obtain ⟨v,rfl,rd⟩:=r.at1
    clear r
    cases rd with
    | dik e r9=>exact .inr ⟨_,_,rfl,e,by rw [r9.length];exact q _ _ _ _ (.flat (.int _)) g⟩
   | str es =>
    obtain ⟨v,rfl,rd⟩:=r.at1
    clear r
    cases rd
    exact .inl ⟨_,_,rfl,⟨g.1,rfl⟩,q _ _ _ _ (.flat (.int _)) g.2⟩
   | _=>exact (show False from g).elim
def dInt:GA
 | [.int i],k=>k (.int i)
 | [.bl b],k=>k (.int (if b then 1 else 0))
 | _,_=>False
theorem Qtk:Qbp X (.type "int") dInt:=by
 refine ⟨_,Qkp,λH ds xs F k Q r g q=>?_⟩
 cases ds with
 | nil=>exact (show False from g).elim
 | cons d ds =>
  cases ds with
  | cons _ _=>cases d <;> exact (show False from g).elim
  | nil =>
   cases d with
   | int i =>
    obtain ⟨v,rfl,rd⟩:=r.at1
    cases rd
    exact .inl ⟨_,rfl,q _ _ _ _ (.flat (.int _)) g⟩
   | bl i =>
    obtain ⟨v,rfl,rd⟩:=r.at1
    cases rd
    exact .inr ⟨_,rfl,q _ _ _ _ (.flat (.int _)) g⟩
   | _=>exact (show False from g).elim
def dAbs:GA
 | [.int i],k=>k (.int (if i<0 then -i else i))
 | _,_=>False
theorem Qkl:Qbp X (.builtin "abs") dAbs:=by
 refine ⟨_,Qms,λH ds xs F k Q r g q=>?_⟩
 cases ds with
 | nil=>exact (show False from g).elim
 | cons d ds =>
  cases ds with
  | cons _ _=>cases d <;> exact (show False from g).elim
  | nil =>
   cases d with
   | int i =>
    obtain ⟨v,rfl,rd⟩:=r.at1
    cases rd
    exact ⟨_,rfl,q _ _ _ _ (.flat (.int _)) g⟩
   | _=>exact (show False from g).elim
def dMin2:GA
 | [.int i,.int j],k=>k (.int (if j<i then j else i))
 | _,_=>False
def Qhz:GA
 | [.int i,.int j],k=>k (.int (if j > i then j else i))
 | _,_=>False
theorem Qkj (hc:X.calm=true):Qbp X (.builtin "max") Qhz:=by
 refine ⟨_,Qkm hc,λH ds xs F k Q r g q=>?_⟩
 cases ds with
 | nil=>exact (show False from g).elim
 | cons d ds =>
  cases ds with
  | nil=>cases d <;> exact (show False from g).elim
  | cons d2 ds =>
   cases d with
   | int i =>
    cases d2 with
    | int j =>
     cases ds with
     | nil =>
      obtain ⟨v,u,F1,F2,rfl,r1,r2⟩:=r.at2
      cases r1;cases r2
      exact ⟨_,_,rfl,q _ _ _ _ (.flat (.int _)) g⟩
     | cons _ _=>exact (show False from g).elim
    | _=>exact (show False from g).elim
   | _=>exact (show False from g).elim
def Vg:GA
 | [.lst xs],k=>Qm xs=true/\k (.lst xs)
 | [.tup xs],k=>Qm xs=true/\k (.lst xs)
 | [.kls xs],k=>Qm xs=true/\k (.lst xs)
 | _,_=>False
theorem Z5:Qbp X (.type "list") Vg:=by
 refine ⟨_,Xt,λH ds xs F k Q r g q=>?_⟩
 cases ds with
 | nil=>exact (show False from g).elim
 | cons d ds =>
  cases ds with
  | cons _ _=>cases d <;> exact (show False from g).elim
  | nil =>
   cases d with
   | lst es =>
    obtain ⟨v,rfl,rd⟩:=r.at1
    clear r
    cases rd with
    | lst e r9=>exact ⟨_,_,rfl,.inl (.of e),λl hl=>q _ _ _ [l] ⟨Qk hl,.lst Qn ((r9.pure g.1).2.same (Qk hl)),by simp,λb m=>by rw [List.mem_singleton.mp m];exact hl⟩ g.2⟩
   | tup es =>
    obtain ⟨v,rfl,rd⟩:=r.at1
    clear r
    cases rd with
    | tup e r9=>exact ⟨_,_,rfl,.inr (.of e),λl hl=>q _ _ _ [l] ⟨Qk hl,.lst Qn ((r9.pure g.1).2.same (Qk hl)),by simp,λb m=>by rw [List.mem_singleton.mp m];exact hl⟩ g.2⟩
   | kls es =>
    obtain ⟨v,rfl,rd⟩:=r.at1
    clear r
    cases rd with
    | kls e r9=>exact ⟨_,_,rfl,.inl e.sq,λl hl=>q _ _ _ [l] ⟨Qk hl,.lst Qn ((r9.pure g.1).2.same (Qk hl)),by simp,λb m=>by rw [List.mem_singleton.mp m];exact hl⟩ g.2⟩
   | _=>exact (show False from g).elim
def U1:GA
 | [.lst xs],k=>Qm xs=true/\k (.tup xs)
 | [.tup xs],k=>Qm xs=true/\k (.tup xs)
 | [.kls xs],k=>Qm xs=true/\k (.tup xs)
 | _,_=>False
theorem G4:Qbp X (.type "tuple") U1:=by
 refine ⟨_,Qc6,λH ds xs F k Q r g q=>?_⟩
 cases ds with
 | nil=>exact (show False from g).elim
 | cons d ds =>
  cases ds with
  | cons _ _=>cases d <;> exact (show False from g).elim
  | nil =>
   cases d with
   | lst es =>
    obtain ⟨v,rfl,rd⟩:=r.at1
    clear r
    cases rd with
    | lst e r9=>exact ⟨_,_,rfl,.inl ⟨.of e,λl hl=>q _ _ _ [] ⟨Qk hl,.tup Qn ((r9.pure g.1).2.same (Qk hl)),by simp,λb m=>nomatch m⟩ g.2⟩⟩
   | tup es =>
    obtain ⟨v,rfl,rd⟩:=r.at1
    clear r
    cases rd with
    | tup e r9=>exact ⟨_,_,rfl,.inr ⟨.of e,q _ _ _ _ (.flat (.tup e (r9.pure g.1).2)) g.2⟩⟩
   | kls es =>
    obtain ⟨v,rfl,rd⟩:=r.at1
    clear r
    cases rd with
    | kls e r9=>exact ⟨_,_,rfl,.inl ⟨e.sq,λl hl=>q _ _ _ [] ⟨Qk hl,.tup Qn ((r9.pure g.1).2.same (Qk hl)),by simp,λb m=>nomatch m⟩ g.2⟩⟩
   | _=>exact (show False from g).elim
end
end PV
namespace PV
open PySem PySem.Spec L2
section
variable {X:Cx} {T:Tg} {m o m1 m2 m3 o1 o2:Bool} {e a b:Expr} {w wa wb:WE} {pos p2 p:Pos} {es:List Expr} {wr:WA} {x:Str}
def isiD:D->Ty->Option Bool
 | .non,_=>some false
 | .bl _,t=>some (t == .bool || t == .int)
 | .int _,t=>some (t == .int)
 | .str _,t=>some (t == .str)
 | .tup _,t=>some (t == .tuple)
 | .lst _,t=>some (t == .list)
 | .dik _,t=>some (t == .dict)
 | .dit _,t=>some (t == .dict)
 | .kls _,_=>none
 | .ty _,_=>none
 | .fdk _,_=>none
 | .ftp _,_=>none
 | .fls _,t=>some (t == .list)
 | .fdt _,_=>none
 | .obj _ _,_=>none
 | .clo _ _,_=>none
 | .kc _,_=>none
def dIsi:GA
 | [d,.ty t],k=>oget (isiD d t) λb=>k (.bl b)
 | _,_=>False
theorem Qsl {K:PySem.W.Frag} (t:Ty):PySem.W.kitOne K (.type "NoneType") (.type t.nm)=some false:=by
 cases t <;> (unfold PySem.W.kitOne;rw [if_neg (by decide)];rfl)
theorem Qsn {K:PySem.W.Frag} (t:Ty):PySem.W.kitOne K (.type "bool") (.type t.nm)=some (t == .bool || t == .int):=by
 cases t <;> first | (unfold PySem.W.kitOne;rw [if_pos (by decide)];rfl) | (unfold PySem.W.kitOne;rw [if_neg (by decide)];rfl)
theorem Qsm {K:PySem.W.Frag} (t:Ty):PySem.W.kitOne K (.type "int") (.type t.nm)=some (t == .int):=by
 cases t <;> first | (unfold PySem.W.kitOne;rw [if_pos (by decide)];rfl) | (unfold PySem.W.kitOne;rw [if_neg (by decide)];rfl)
theorem Qsk {K:PySem.W.Frag} (t:Ty):PySem.W.kitOne K (.type "str") (.type t.nm)=some (t == .str):=by
 cases t <;> first | (unfold PySem.W.kitOne;rw [if_pos (by decide)];rfl) | (unfold PySem.W.kitOne;rw [if_neg (by decide)];rfl)
theorem Qsj {K:PySem.W.Frag} (t:Ty):PySem.W.kitOne K (.type "tuple") (.type t.nm)=some (t == .tuple):=by
 cases t <;> first | (unfold PySem.W.kitOne;rw [if_pos (by decide)];rfl) | (unfold PySem.W.kitOne;rw [if_neg (by decide)];rfl)
theorem Qnl {K:PySem.W.Frag} (t:Ty):PySem.W.kitOne K (.type "list") (.type t.nm)=some (t == .list):=by
 cases t <;> first | (unfold PySem.W.kitOne;rw [if_pos (by decide)];rfl) | (unfold PySem.W.kitOne;rw [if_neg (by decide)];rfl)
theorem Qnm {K:PySem.W.Frag} (t:Ty):PySem.W.kitOne K (.type "dict") (.type t.nm)=some (t == .dict):=by
 cases t <;> first | (unfold PySem.W.kitOne;rw [if_pos (by decide)];rfl) | (unfold PySem.W.kitOne;rw [if_neg (by decide)];rfl)
theorem Qkk:Qbp X (.builtin "isinstance") dIsi:=by
 refine ⟨_,Qfn,λH ds xs F k Q r g q=>?_⟩
 match ds,r,g with
 | [d,.ty t],r,g =>
  obtain ⟨v,u,F1,F2,rfl,r1,r2⟩:=r.at2
  obtain ⟨b,hb,g⟩:=Qw g
  cases r2
  have fin:=q _ _ _ _ (.flat (.bl b)) g
  cases r1 with
  | non=>exact ⟨_,_,_,_,rfl,.non,Qsl t,by cases hb;exact fin⟩
  | bl c=>exact ⟨_,_,_,_,rfl,.bl c,Qsn t,by cases hb;exact fin⟩
  | int c=>exact ⟨_,_,_,_,rfl,.int c,Qsm t,by cases hb;exact fin⟩
  | str c=>exact ⟨_,_,_,_,rfl,.str c,Qsk t,by cases hb;exact fin⟩
  | tup e _=>exact ⟨_,_,_,_,rfl,.tup e,Qsj t,by cases hb;exact fin⟩
  | lst e _=>exact ⟨_,_,_,_,rfl,.lst e,Qnl t,by cases hb;exact fin⟩
  | dik e _=>exact ⟨_,_,_,_,rfl,.dK e,Qnm t,by cases hb;exact fin⟩
  | dit e _=>exact ⟨_,_,_,_,rfl,.dT e,Qnm t,by cases hb;exact fin⟩
  | kls _ _=>cases hb
  | ty _=>cases hb
  | fdk _ _=>cases hb
  | ftp _ _ _=>cases hb
  | fls e _=>exact ⟨_,_,_,_,rfl,.frz e,Qnl t,by cases hb;exact fin⟩
  | fdt _ _=>cases hb
  | obj _ _ _=>cases hb
  | clo _ _=>cases hb
  | kc _=>cases hb
theorem SR0.write {K:PySem.W.Frag} {z:Nat->V} {R:Addr->Prop} {H H':Hp} {W:Addr->Prop} {σ:St} {ρ:Env} {fp:Nat->List Addr} {i:Nat} {d d':D} {v:V} {l:Addr} {F':List Addr} (s:SR0 K T z R H W σ ρ fp)
  (hl:look ρ i=some d) (ht:T.own i=true) (hv:σ[i]? = some (some v)) (hm:l∈fp i) (hk:∀b u,H b=some u->b≠l->H' b=some u) (hnew:∃ob,H' l=some ob/\imm ob=false) (r:Rep K H' d' v F') (nd:F'.Nodup)
  (sub:∀a∈F',a∈fp i\/(¬W a/\¬R a)):SR K T z R H' (λa=>W a\/a∈F') σ (ρ.set i (some d')):=by
 have hW:W l:=(s.own i d hl ht).2 l hm
 have hi:ImmK H H':=λb ob' e im=>by
  obtain ⟨ol,e1,e2⟩:=s.wd l hW
  have:b≠l:=λz=>by rw [z,e1] at e;cases e;rw [e2] at im;cases im
  exact hk b _ e this
 refine ⟨λj=>if j=i then F' else fp j,?_,?_,?_,?_,?_,?_,?_,?_,s.fix⟩
 ·rw [List.length_set];exact s.len
 ·intro a ha
  by_cases e:a=l
  ·subst e;exact hnew
  ·rcases ha with ha | ha
   ·exact (s.wd a ha).imp λob q=>⟨hk a ob q.1 e,q.2⟩
   ·exact r.dom a ha
 ·intro j e hj
  by_cases hji:j=i
  ·subst hji
   rw [Gw (Uh hl)] at hj
   cases hj
   exact ⟨v,hv,by rw [if_pos rfl];exact r⟩
  ·rw [Q1 hji] at hj
   obtain ⟨u,h1,h2⟩:=s.at_ j e hj
   refine ⟨u,h1,?_⟩
   rw [if_neg hji]
   refine h2.frame hi λa ha=>?_
   obtain ⟨oa,e1,_⟩:=h2.dom a ha
   rw [e1]
   refine hk a _ e1 λz=>?_
   subst z
   cases hto:T.own j with
   | true=>exact s.dis i j d e hl hj ht hto (λz=>hji z.symm) _ hm ha
   | false=>exact s.wr _ hW (s.ro j e hj hto _ ha)
 ·intro j e hj hto
  by_cases hji:j=i
  ·subst hji;simp only [if_pos];exact ⟨nd,λa h=>.inr h⟩
  ·rw [Q1 hji] at hj
   simp only [if_neg hji]
   exact ⟨(s.own j e hj hto).1,λa h=>.inl ((s.own j e hj hto).2 a h)⟩
 ·intro j e hj hto
  have hji:j≠i:=λz=>by subst z;rw [ht] at hto;cases hto
  rw [Q1 hji] at hj
  simp only [if_neg hji]
  exact s.ro j e hj hto
 ·intro a ha hr
  rcases ha with ha | ha
  ·exact s.wr a ha hr
  ·rcases sub a ha with h | h
   ·exact s.wr a ((s.own i d hl ht).2 a h) hr
   ·exact h.2 hr
 ·intro a hr
  have:a≠l:=λz=>by subst z;exact s.wr _ hW hr
  exact (s.rd a hr).imp λob q=>⟨hk a ob q.1 this,q.2⟩
 ·intro j k e e' hj hk tj tk hne a ha ha'
  by_cases hji:j=i
  ·subst hji
   have hkj:k≠j:=λz=>hne z.symm
   rw [Q1 hkj] at hk
   simp only [if_pos,if_neg hkj] at ha ha'
   rcases sub a ha with h | h
   ·exact s.dis j k d e' hl hk ht tk hne a h ha'
   ·exact h.1 ((s.own k e' hk tk).2 a ha')
  ·rw [Q1 hji] at hj
   simp only [if_neg hji] at ha
   by_cases hki:k=i
   ·subst hki
    simp only [if_pos] at ha'
    rcases sub a ha' with h | h
    ·exact s.dis j k e d hj hl tj ht hne a ha h
    ·exact h.1 ((s.own j e hj tj).2 a ha)
   ·rw [Q1 hki] at hk
    simp only [if_neg hki] at ha'
    exact s.dis j k e e' hj hk tj tk hne a ha ha'
theorem FrW.write {H0 H H':Hp} {W0 W:Addr->Prop} {l:Addr} {F':List Addr} (f:FrW H0 W0 H W) (hl:W l) (hm:∃ol,H l=some ol/\PV.imm ol=false) (hk:∀b u,H b=some u->b≠l->H' b=some u) (hnew:∃ob,H' l=some ob/\PV.imm ob=false)
  (sub:∀a∈F',W a\/H0 a=none):FrW H0 W0 H' (λa=>W a\/a∈F') where
 keep:=λb ob' e n=>by
  have:b≠l:=λz=>by
   subst z
   rcases f.new _ hl with h | h
   ·exact n h
   ·rw [h] at e;cases e
  exact hk b _ (f.keep b ob' e n) this
 dom:=λb e=>by
  by_cases h:b=l
  ·subst h
   obtain ⟨ob,e1,_⟩:=hnew
   rw [e1] at e;cases e
  ·refine f.dom b ?_
   cases q:H b with
   | none=>rfl
   | some u=>rw [hk b u q h] at e;cases e
 imm:=λb ob' e im=>by
  have e':=f.imm b ob' e im
  obtain ⟨ol,e1,e2⟩:=hm
  have:b≠l:=λz=>by rw [z,e1] at e';cases e';rw [e2] at im;cases im
  exact hk b _ e' this
 new:=λb h=>by
  rcases h with h | h
  ·exact f.new b h
  ·rcases sub b h with h | h
   ·exact f.new b h
   ·exact .inr h
theorem Gd {H:Hp} {l:Addr} {ob:HO}:∀b u,H b=some u->b≠l->upd H l ob b=some u:=λb u e n=>by rw [Qy n];exact e
abbrev GM:=D->List D->(D->D->Prop)->Prop
def MtD (X:Cx) (id:String) (g:GM):Prop :=
 ∃r,MtR X id r/\∀(H:Hp) (d:D) (ds:List D) (v:V) (xs:List V) (F G:List Addr) (k:D->D->Prop) (Q:VK),Rep X.K H d v F->F.Nodup->Reps X.K H ds xs G->G.Nodup->(∀a∈G,a∉F)->g d ds k ->
  (∀u l ob e d' F',l∈F->imm ob=false->Rep X.K (upd H l ob) d' v F'->F'.Nodup->(∀a∈F',a∈F\/a∈G)->Rep X.K (upd H l ob) e u []->k e d'->Q u (upd H l ob))->r v xs H Q
def tyD:Option D->String->Bool
 | some (.lst _),t=>t == "list"
 | some (.dik _),t=>t == "dict"
 | some (.dit _),t=>t == "dict"
 | _,_=>false
theorem Qqi {K:PySem.W.Frag} {H:Hp} {d:D} {v:V} {F:List Addr} {t:String} (r:Rep K H d v F) (h:tyD (some d) t=true):tyV K t v H:=by
 cases r <;> try (simp [tyD] at h)
 ·subst h;exact .inl ⟨rfl,_,.of ‹_›⟩
 ·subst h;exact .inr (.inr (.inl ⟨rfl,.inl ⟨_,‹_›⟩⟩))
 ·subst h;exact .inr (.inr (.inl ⟨rfl,.inr ⟨_,‹_›⟩⟩))
def wMt (i:Nat) (t:String) (g:GM) (wr:WA):WE:=λρ Q=>tyD (look ρ i) t=true/\wr ρ λds ρ1=>oget (look ρ1 i) λd=>g d ds λe d'=>Q e (ρ1.set i (some d'))
theorem Qsd {i:Nat} {t:String} {g:GM} {r:V->List V->Hp->VK->Prop} (ht:T.own i=true)
  (gr:∀(H:Hp) (d:D) (ds:List D) (v:V) (xs:List V) (F G:List Addr) (k:D->D->Prop) (Q:VK),Rep X.K H d v F->F.Nodup->Reps X.K H ds xs G->G.Nodup->(∀a∈G,a∉F)->g d ds k ->
   (∀u l ob e d' F',l∈F->imm ob=false->Rep X.K (upd H l ob) d' v F'->F'.Nodup->(∀a∈F',a∈F\/a∈G)->Rep X.K (upd H l ob) e u []->k e d'->Q u (upd H l ob))->r v xs H Q)
  {ta:TA} (ga:∀(z:Nat->V) (R:Addr->Prop) (σ:St) (H:Hp) (W:Addr->Prop) (ρ:Env) (Q:List D->Env->Prop) (Q':List V->Hp->Prop),SR X.K T z R H W σ ρ->wr ρ Q ->
   (∀vs H' W' ds ρ' F,PostA X.K T z R m true H W σ ρ H' W' ρ' ds vs F->Q ds ρ'->Q' vs H')->ta σ H Q')
  {z:Nat->V} {R:Addr->Prop} {σ:St} {H:Hp} {W:Addr->Prop} {ρ:Env} {Q:D->Env->Prop} {Q':VK} (s:SR X.K T z R H W σ ρ) (hw:wMt i t g wr ρ Q)
  (k:∀v H' W' d ρ' F,Post X.K T z R true true H W σ ρ H' W' ρ' d v F->Q d ρ'->Q' v H'):tVar i σ H λx H1=>tyV X.K t x H1/\ta σ H1 λxs H2=>r x xs H2 Q':=by
 obtain ⟨hty,hw⟩:=hw
 obtain ⟨fp0,s0⟩:=id s
 cases hl:look ρ i with
 | none=>rw [hl] at hty;cases hty
 | some d0 =>
  obtain ⟨v,hv,r0⟩:=s0.at_ i d0 hl
  refine ⟨v,hv,Qqi r0 (by rw [hl] at hty;exact hty),?_⟩
  refine ga z R σ H W ρ _ _ s hw λvs H1 W1 ds ρ1 G p q=>?_
  obtain ⟨d,hd,q⟩:=Qw q
  obtain ⟨fp,s1⟩:=id p.sr
  obtain ⟨v',hv',r1⟩:=s1.at_ i d hd
  have:v'=v:=by rw [hv] at hv';cases hv';rfl
  subst this
  obtain ⟨nd1,sw⟩:=s1.own i d hd ht
  obtain ⟨ndG,kG⟩:=p.own rfl
  refine gr H1 d ds v' vs (fp i) G _ Q' r1 nd1 p.rep ndG (λa ha hf=>(kG a ha).2 (sw a hf)) q λu l ob e d' F' hlF him rd' ndF sub re hk=>?_
  have hWl:=sw l hlF
  refine k u _ (λa=>W1 a\/a∈F') e _ [] ⟨s1.write hd ht hv' hlF Gd ⟨ob,Qn,him⟩ rd' ndF (λa ha=>?_),p.fr.write hWl (s1.wd l hWl) Gd ⟨ob,Qn,him⟩ (λa ha=>?_),(λh=>nomatch h),re,λ_=>⟨List.nodup_nil,λa m=>nomatch m⟩⟩ hk
  ·rcases sub a ha with h | h
   ·exact .inl h
   ·exact .inr ⟨(kG a h).2,s.nr (kG a h).1⟩
  ·rcases sub a ha with h | h
   ·exact .inl (sw a h)
   ·exact .inr (kG a h).1
variable {name:Str} {apos cpos:Pos} {T' id:String}
theorem Qhx {i:Nat} {g:GM} (hm:MtD X id g) (pa:PlainAttrs T') (slot:Slot T' name id) (hty:typeOf (.builtin id)=pure (.type "method_descriptor")) (ha:AV X T m true (e::es) wr)
  (ht:T.own i=true:=by rfl) (hN:X.N[i]? = some x:=by rfl) (hv:Vis X.env.scope x:=by first | exact Or.inl rfl | exact Or.inr (Or.inl rfl) | exact Or.inr (Or.inr rfl)) (hd:(x == ("__debug__" : Str))=false:=by decide)
  (hcd:(x == ("__classdict__" : Str))=false:=by decide)
  (hbase:attributeBase (.Name x p) name X.env (eval (.Name x p) X.env)=eval (.Name x p) X.env:=by rfl)
  (hfew:((backTo cpos (starEach (e::es) X.env)).all (λx=>!x.1) && (backToKw cpos (keywordEach [] X.env)).all (λx=>x.1.isSome)
   && decide ((e::es).length+([]:List Keyword).length+(if ([]:List Keyword).isEmpty then 0 else 1)<30))=true:=by rfl)
  (hline:(apos.endLine == cpos.line)=true:=by rfl) (hs:starEach (e::es) X.env=(false,eval e X.env)::starEach es X.env:=by rfl) (hplain:(backTo cpos (starEach es X.env)).any (·.1)=false:=by rfl) :
  EV X T true true (.Call (.Attribute (.Name x p) name apos) (e::es) [] cpos) (wMt i T' g wr):=by
 obtain ⟨r,mr,gr⟩:=hm
 obtain ⟨ta,pa',ga⟩:=ha
 exact ⟨_,Qlt pa slot hty mr (Vd hN hv hd hcd) pa' hbase hfew hline hs hplain,λz R σ H W ρ Q Q' s hw k=>Qsd ht gr ga s hw k⟩
def Vz:GM
 | .lst xs,[d],k=>xs.length<sizeLine/\k .non (.lst (xs++[d]))
 | _,_,_=>False
theorem Qav {α:Type} {F G:List α} (h:F.Nodup) (h':G.Nodup) (d:∀a∈G,a∉F):(F++G).Nodup :=
 List.nodup_append.mpr ⟨h,h',λa ha b hb e=>d b hb (e ▸ ha)⟩
theorem Vx {H:Hp} {l:Addr} {ob ob':HO} (h:H l=some ob) (hi:imm ob=false):ImmK H (upd H l ob'):=λb u e im=>by
 have:b≠l:=λz=>by rw [z,h] at e;cases e;rw [hi] at im;cases im
 rw [Qy this];exact e
theorem Reps.upd {K:PySem.W.Frag} {H:Hp} {ds:List D} {xs:List V} {F:List Addr} {l:Addr} {ob ob':HO} (r:Reps K H ds xs F) (h:H l=some ob) (hi:imm ob=false) (hn:l∉F):Reps K (L2.upd H l ob') ds xs F :=
 r.frame (Vx h hi) λa ha=>Qy λz=>hn (z ▸ ha)
theorem Rep.upd {K:PySem.W.Frag} {H:Hp} {d:D} {x:V} {F:List Addr} {l:Addr} {ob ob':HO} (r:Rep K H d x F) (h:H l=some ob) (hi:imm ob=false) (hn:l∉F):Rep K (L2.upd H l ob') d x F :=
 r.frame (Vx h hi) λa ha=>Qy λz=>hn (z ▸ ha)
theorem RepK.upd {K:PySem.W.Frag} {H:Hp} {ds:List (Key × D)} {xs:List (Key × V)} {F:List Addr} {l:Addr} {ob ob':HO} (r:RepK K H ds xs F) (h:H l=some ob) (hi:imm ob=false) (hn:l∉F):RepK K (L2.upd H l ob') ds xs F :=
 r.frame (Vx h hi) λa ha=>Qy λz=>hn (z ▸ ha)
theorem RepT.upd {K:PySem.W.Frag} {H:Hp} {ds:List (List Key × D)} {xs:List (List Key × V)} {F:List Addr} {l:Addr} {ob ob':HO} (r:RepT K H ds xs F) (h:H l=some ob) (hi:imm ob=false) (hn:l∉F):RepT K (L2.upd H l ob') ds xs F :=
 r.frame (Vx h hi) λa ha=>Qy λz=>hn (z ▸ ha)
theorem Ug:MtD X "list.append" Vz:=by
 refine ⟨_,Qaw,λH d ds v xs F G k Q r nd rs ndG dis g q=>?_⟩
 cases d with
 | lst es =>
  cases ds with
  | nil=>exact (show False from g).elim
  | cons d ds =>
   cases ds with
   | cons _ _=>exact (show False from g).elim
   | nil =>
    obtain ⟨u,rfl,rd⟩:=rs.at1
    cases r with
    | @lst l ys _ F e r9 =>
     obtain ⟨hz,g⟩:=g
     obtain ⟨nl,nd⟩:=List.nodup_cons.mp nd
     have hG:l∉G:=λh=>dis l h List.mem_cons_self
     refine ⟨l,ys,u,rfl,rfl,e,by rw [r9.length];exact hz,?_⟩
     refine q .non l _ .non _ (l::(F++G)) List.mem_cons_self rfl (.lst Qn ((r9.upd e rfl nl).snoc (rd.upd e rfl hG))) (List.nodup_cons.mpr ⟨λh=>(List.mem_append.mp h).elim nl hG,Qav nd ndG λa ha hf=>dis a ha (List.mem_cons_of_mem _ hf)⟩) (λa ha=>?_) .non g
     rcases List.mem_cons.mp ha with rfl | ha
     ·exact .inl List.mem_cons_self
     ·rcases List.mem_append.mp ha with ha | ha
      ·exact .inl (List.mem_cons_of_mem _ ha)
      ·exact .inr ha
 | _=>exact (show False from g).elim
def Qjy:GM
 | .lst xs,[.int i],k=>-(2 ^ 63)<=i/\i<2 ^ 63/\oget (seqIndex? i xs.length) λj=>oget xs[j]? λd=>d.pure=true/\k d (.lst (xs.eraseIdx j))
 | _,_,_=>False
theorem sub3 {α:Type} {F A B C:List α} (h:F=A++B++C):(A++C).Sublist F:=by
 rw [h,List.append_assoc]
 exact List.Sublist.append (List.Sublist.refl _) (List.sublist_append_right _ _)
theorem Ql4:MtD X "list.pop" Qjy:=by
 refine ⟨_,Ql2,λH d ds v xs F G k Q r nd rs ndG dis g q=>?_⟩
 cases d with
 | lst es =>
  cases ds with
  | nil=>exact (show False from g).elim
  | cons d ds =>
   cases ds with
   | cons _ _=>cases d <;> exact (show False from g).elim
   | nil =>
    cases d with
    | int i =>
     obtain ⟨u,rfl,rd⟩:=rs.at1
     cases rd
     cases r with
     | @lst l ys _ F e r9 =>
      obtain ⟨h1,h2,g⟩:=g
      obtain ⟨j,hj,g⟩:=Qw g
      obtain ⟨d,hd,hp,g⟩:=Qw g
      obtain ⟨nl,nd⟩:=List.nodup_cons.mp nd
      obtain ⟨y,A,B,C,hy,hF,rB,rA,rC⟩:=r9.split hd
      obtain ⟨hB,rB⟩:=rB.pure hp
      have sub:=sub3 hF
      have nAC:l∉A++C:=λh=>nl (sub.subset h)
      refine ⟨l,ys,i,j,y,rfl,rfl,e,h1,h2,by rw [r9.length];exact hj,hy,?_⟩
      refine q y l _ d _ (l::(A++C)) List.mem_cons_self rfl (.lst Qn ?_) (List.nodup_cons.mpr ⟨nAC,nd.sublist sub⟩) (λa ha=>?_) (rB.upd e rfl (λh=>nomatch h)) g
      ·rw [Qgw,Qgw]
       exact (rA.append rC).upd e rfl nAC
      ·rcases List.mem_cons.mp ha with rfl | ha
       ·exact .inl List.mem_cons_self
       ·exact .inl (List.mem_cons_of_mem _ (sub.subset ha))
    | _=>exact (show False from g).elim
 | _=>exact (show False from g).elim
end
end PV
namespace PV
open PySem PySem.Spec L2
def spR (K:PySem.W.Frag) (g:GA):Sp:=λvs H Q _=>∃(ds:List D) (F:List Addr) (k:D->Prop),Reps K H ds vs F/\g ds k/\∀v H' d F',Fin K H H' d v F'->k d->Q v H'
section
variable {X:Cx} {T:Tg} {m o m0 m1 m2 m3 o1 o2:Bool} {e a b:Expr} {w wa wb:WE} {pos p2 p:Pos} {es:List Expr} {wr:WA} {x:Str} {k:Nat} {f:Addr} {fd:FuncData} {ps:List Str}
theorem Qp1 {g:GA} (F:FnOk X.prog X.w X.K X.mg X.base CX0 k f fd ps (spR X.K g)) (hr:Room k X.A) (hm:X.mg x=some (.ref f)) (hk:PySem.W.keepIn X.K (.ref f)=true) (hb:Qbe X.K fd ps []) (ha:AV X T m o (e::es) wr) (hg:Gl X x:=by rfl)
  (hdb:(x == ("__debug__" : Str))=false:=by decide) (he:starEach (e::es) X.env=(false,eval e X.env)::starEach es X.env:=by rfl) (hpl:(backTo pos (starEach es X.env)).any (·.1)=false:=by rfl) :
  EV X T m true (.Call (.Name x p) (e::es) [] pos) (Qh g wr):=by
 obtain ⟨ta,pa,ga⟩:=ha
 refine ⟨_,Qo6 F hr hg hm hk hb .nil Qrr pa hdb he hpl,λz R σ H W ρ Q Q' s hw k=>?_⟩
 refine ga z R σ H W ρ _ _ s hw λvs H1 W1 ds ρ1 F p q=>?_
 refine ⟨ds,F,_,by rw [List.append_nil];exact p.rep,q,λv H' d F' fi hk=>k v H' W1 d ρ1 F' (Post.fin p.sr p.fr p.calm fi.same fi.rep fi.nd fi.new) hk⟩
abbrev WI:=Env->(List D->List D->Env->Prop)->Prop
def AI (X:Cx) (T:Tg) (m:Bool) (i p:Nat) (es:List Expr) (w:WI):Prop :=
 ∃ta,PA X es ta/\∀(z:Nat->V) (R:Addr->Prop) (σ:St) (H:Hp) (W:Addr->Prop) (ρ:Env) (Q:List D->List D->Env->Prop) (Q':List V->Hp->Prop),SR X.K T z R H W σ ρ->w ρ Q ->
  (∀v xs ys H' W' pre post ρ',PostT X.K T z R m H W σ ρ H' W' ρ'->σ[i]? = some (some v)->Reps X.K H' pre xs []->Reps X.K H' post ys []->pre.length=p->Q pre post ρ'->Q' (xs++v::ys) H')->ta σ H Q'
def Qtq (w:WE) (wi:WI):WI:=λρ Q=>w ρ λd ρ1=>d.pure=true/\wi ρ1 λpre post ρ2=>Q (d::pre) post ρ2
theorem Qu9 {i q:Nat} {wi:WI} (he:EV X T m1 o e w) (hr:AI X T m2 i q es wi) (hs:starEach (e::es) X.env=(false,eval e X.env)::starEach es X.env:=by rfl):AI X T (m1 || m2) i (q+1) (e::es) (Qtq w wi):=by
 obtain ⟨te,pe,ge⟩:=he
 obtain ⟨ta,pa,ga⟩:=hr
 refine ⟨_,Z4 pe pa hs,λz R σ H W ρ Q Q' s hw k=>?_⟩
 refine ge z R σ H W ρ _ _ s hw λv1 H1 W1 d1 ρ1 F1 p ⟨hp,q1⟩=>?_
 obtain ⟨_,r1⟩:=p.rep.pure hp
 refine ga z R σ H1 W1 ρ1 _ _ p.sr q1 λv xs ys H2 W2 pre post ρ2 q hv rp rq hl q2=>?_
 exact k v (v1::xs) ys H2 W2 (d1::pre) post ρ2 (PostT.seq ⟨p.sr,p.fr,p.calm⟩ q) hv (.cons (F:=[]) (G:=[]) (r1.keep q.fr λa m=>nomatch m) rp) rq (by rw [List.length_cons,hl]) q2
abbrev WL:=Env->(List D->Env->Prop)->Prop
def JD (K:PySem.W.Frag) (J:It) (H:Hp) (W:Addr->Prop) (ds:List D):Prop :=
 ∀(i:Nat) (H1:Hp) (W1:Addr->Prop),FrW H W H1 W1->(ds.length<=i->J.stop i H1)/\∀d,ds[i]? = some d->J.go i H1/\∀v H2,J.yld i H1 v H2->Same H1 H2/\∃F,Rep K H2 d v F/\∀a∈F,¬W1 a
def wz (pr:Bool) (W:Addr->Prop):Addr->Prop:=λa=>pr=true/\W a
def IV (X:Cx) (T:Tg) (m pr:Bool) (tg iter:Expr) (w:WL):Prop :=
 ∃wi,PI X tg iter wi/\∀(z:Nat->V) (R:Addr->Prop) (σ:St) (H:Hp) (W:Addr->Prop) (ρ:Env) (Q:List D->Env->Prop) (RR:It->Hp->Prop),SR X.K T z R H W σ ρ->w ρ Q ->
  (∀J H' W' ds ρ',PostT X.K T z R m H W σ ρ H' W' ρ'->JD X.K J H' (wz pr W') ds->Q ds ρ'->RR J H')->wi σ H RR
variable {tg iter:Expr}
theorem Qi4 {l:Expr} {tl:TE} (hl:PE X l tl):PI X tg l (λσ H R=>tl σ H λx H1=>∃a,x=.ref a/\(((∃xs,SqL X.K H1 a xs)/\R (Itl X.K a) H1)\/((∃xs,SqT X.K H1 a xs)/\R (Itt X.K a) H1))):=by
 intro pins s σ H R I h
 refine thn (hl pins s σ H _ I h) λv s1 ⟨x,H1,I1,r1,q1⟩=>?_
 obtain ⟨a,e,q⟩:=q1
 subst e
 cases r1
 rcases q with ⟨⟨xs,hq⟩,q⟩ | ⟨⟨xs,hq⟩,q⟩
 ·obtain ⟨its,rv,p,hz⟩:=I1.list hq
  refine wpAny_pyIter_list p.isList ?_
  refine ⟨s1.heap.objs.size,[s1.heap.objs.size],_,_,H1,rfl,I1.kept (t':=s1.toks) λb o e=>Heap.get?_push_of_some _ e,Qig a _,⟨_,Heap.get?_push_size _ rfl,rfl,rfl⟩,λb hb=>?_,q⟩
  have e:b=s1.heap.objs.size:=by simpa using hb
  subst e
  exact I1.fpOk (Nat.le_refl _) (I1.hok.fresh (Nat.le_refl _))
 ·obtain ⟨its,rv,p,hz⟩:=I1.tuple hq
  refine wpAny_pyIter_tuple (show s1.heap.IsTuple a its.toArray from p) ?_
  refine ⟨s1.heap.objs.size,[s1.heap.objs.size],_,_,H1,rfl,I1.kept (t':=s1.toks) λb o e=>Heap.get?_push_of_some _ e,Qhd a _,⟨_,Heap.get?_push_size _ rfl,rfl,rfl⟩,λb hb=>?_,q⟩
  have e:b=s1.heap.objs.size:=by simpa using hb
  subst e
  exact I1.fpOk (Nat.le_refl _) (I1.hok.fresh (Nat.le_refl _))
def Uu (w:WE):WL:=λρ Q=>w ρ λd ρ'=>match d with
 | .tup ds=>Qm ds=true/\Q ds ρ'
 | .lst ds=>Q ds ρ'
 | .kc (.tup ks)=>Q (ks.map kcD) ρ'
 | _=>False
theorem Qss {K:PySem.W.Frag} {H:Hp} {W:Addr->Prop} {a:Addr} {xs:List V} {ks:List KC} (hs:∀H,SqT K H a xs) (ar:AreKC K ks xs):JD K (Itt K a) H W (ks.map kcD):=by
 intro i H2 W2 f
 have r:Reps K H2 (ks.map kcD) xs []:=ar.reps
 refine ⟨λhi=>⟨xs,hs H2,by rw [r.length];exact hi⟩,λd hd=>?_⟩
 obtain ⟨x,B,hx,rx,sx⟩:=r.get hd
 refine ⟨⟨xs,x,hs H2,hx⟩,λv H3 y=>?_⟩
 obtain ⟨rfl,y⟩:=y
 have:=y xs (hs _)
 rw [hx] at this
 cases this
 exact ⟨Same.refl _,B,rx,λa ha=>nomatch sx.subset ha⟩
theorem Qaz (h:EV X T m o e w):IV X T m o tg e (Uu w):=by
 obtain ⟨te,pe,ge⟩:=h
 refine ⟨_,Qi4 pe,λz R σ H W ρ Q RR s hw k=>?_⟩
 refine ge z R σ H W ρ _ _ s hw λv H1 W1 d ρ1 F p q=>?_
 cases d with
 | tup ds =>
  obtain ⟨hp,q⟩:=q
  obtain ⟨hF,rp⟩:=p.rep.pure (by simpa [D.pure] using hp)
  cases rp with
  | @tup a xs _ _ e1 r =>
   refine ⟨a,rfl,.inr ⟨⟨xs,.of e1⟩,k _ H1 W1 ds ρ1 ⟨p.sr,p.fr,p.calm⟩ (λi H2 W2 f=>?_) q⟩⟩
   have e2:H2 a=some (.tup xs):=f.imm _ _ e1 rfl
   refine ⟨λhi=>⟨xs,.of e2,by rw [r.length];exact hi⟩,λd hd=>?_⟩
   obtain ⟨x,B,hx,rx,sx⟩:=r.get hd
   refine ⟨⟨xs,x,.of e2,hx⟩,λv H3 y=>?_⟩
   obtain ⟨rfl,y⟩:=y
   have:=y xs (.of e2)
   rw [hx] at this
   cases this
   exact ⟨Same.refl _,B,rx.keep f (λa ha=>(nomatch sx.subset ha)),(λa ha=>(nomatch sx.subset ha))⟩
 | lst ds =>
  obtain ⟨p1,p2,p3,p4,p5⟩:=p
  cases p4 with
  | @lst a xs _ F e1 r =>
   refine ⟨a,rfl,.inl ⟨⟨xs,.of e1⟩,k _ H1 W1 ds ρ1 ⟨p1,p2,p3⟩ (λi H2 W2 f=>?_) q⟩⟩
   have nW:∀b∈a::F,¬wz o W1 b:=λb hb hw=>by
    obtain ⟨h1,h2⟩:=hw
    exact ((p5 h1).2 b hb).2 h2
   have e2:H2 a=some (.lst xs):=f.keep _ _ e1 (nW a List.mem_cons_self)
   refine ⟨λhi=>⟨xs,.of e2,by rw [r.length];exact hi⟩,λd hd=>?_⟩
   obtain ⟨x,B,hx,rx,sx⟩:=r.get hd
   refine ⟨⟨xs,x,.of e2,hx⟩,λv H3 y=>?_⟩
   obtain ⟨rfl,y⟩:=y
   have:=y xs (.of e2)
   rw [hx] at this
   cases this
   refine ⟨Same.refl _,B,rx.keep f λb hb=>nW b (List.mem_cons_of_mem _ (sx.subset hb)),λb hb hw=>?_⟩
   have hb':b∈a::F:=List.mem_cons_of_mem _ (sx.subset hb)
   rcases f.new b hw with h | h
   ·exact nW b hb' h
   ·obtain ⟨ob,e3,_⟩:=rx.dom b hb
    rw [h] at e3;cases e3
 | kc c =>
  cases c with
  | tup ks =>
   obtain ⟨-,rp⟩:=p.rep.pure (by rw [D.pure])
   cases rp with
   | kc h =>
    obtain ⟨a,xs,rfl,hs,ar⟩:=h.sqT
    exact ⟨a,rfl,.inr ⟨⟨xs,hs H1⟩,k _ H1 W1 (ks.map kcD) ρ1 ⟨p.sr,p.fr,p.calm⟩ (Qss hs ar) q⟩⟩
  | _=>exact (show False from q).elim
 | _=>exact q.elim
def Qkz (w:WE):WL:=λρ Q=>w ρ λd ρ'=>match d with
 | .kls ds=>Q ds ρ'
 | _=>False
theorem Qno (h:EV X T m o e w):IV X T m true tg e (Qkz w):=by
 obtain ⟨te,pe,ge⟩:=h
 refine ⟨_,Qi4 pe,λz R σ H W ρ Q RR s hw k=>?_⟩
 refine ge z R σ H W ρ _ _ s hw λv H1 W1 d ρ1 F p q=>?_
 cases d with
 | kls ds =>
  obtain ⟨p1,p2,p3,p4,p5⟩:=p
  cases p4 with
  | @kls a xs _ e1 r =>
   refine ⟨a,rfl,.inl ⟨⟨xs,e1.sq⟩,k _ H1 W1 ds ρ1 ⟨p1,p2,p3⟩ (λi H2 W2 f=>?_) q⟩⟩
   have e2:=f.imm.fzL e1
   refine ⟨λhi=>⟨xs,e2.sq,by rw [r.length];exact hi⟩,λd hd=>?_⟩
   obtain ⟨x,B,hx,rx,sx⟩:=r.get hd
   refine ⟨⟨xs,x,e2.sq,hx⟩,λv H3 y=>?_⟩
   obtain ⟨rfl,y⟩:=y
   have:=y xs e2.sq
   rw [hx] at this
   cases this
   exact ⟨Same.refl _,B,rx.keep f (λa ha=>(nomatch sx.subset ha)),(λa ha=>(nomatch sx.subset ha))⟩
 | _=>exact q.elim
def rngD (lo:Int) (n:Nat):List D:=(List.range n).map λ(i:Nat)=>.int (lo+(i:Int))
theorem Ql9 {K:PySem.W.Frag} {H:Hp} {W:Addr->Prop} {lo:Int} {n:Nat}:JD K (Itr lo n) H W (rngD lo n):=by
 intro i H1 W1 f
 have hl:(rngD lo n).length=n:=by simp [rngD]
 refine ⟨λh=>by rw [hl] at h;exact h,λd hd=>?_⟩
 have hi:i<n:=by have:=(List.getElem?_eq_some_iff.mp hd).1;rwa [hl] at this
 have hd':d=.int (lo+(i:Int)):=by
  simp only [rngD,List.getElem?_map,List.getElem?_range hi,Option.map_some,Option.some.injEq] at hd
  exact hd.symm
 refine ⟨hi,λv H2 y=>?_⟩
 obtain ⟨rfl,rfl⟩:=y
 exact ⟨Same.refl _,[],by rw [hd'];exact .int _,λa m=>nomatch m⟩
def Qha (wr:WA):WL:=λρ Q=>wr ρ λds ρ'=>match ds with
 | [.int j]=>-(2 ^ 62)<=j/\j<2 ^ 62/\Q (rngD 0 j.toNat) ρ'
 | _=>False
theorem Qa0 (hm:X.mg "range" = none) (ha:AV X T m o [a] wr) (hg:Gl X "range":=by rfl) (hs:starEach [a] X.env=[(false,eval a X.env)]:=by rfl):IV X T m true tg (.Call (.Name "range" p) [a] [] pos) (Qha wr):=by
 obtain ⟨ta,pa,ga⟩:=ha
 refine ⟨_,Qi5 hg hm pa hs,λz R σ H W ρ Q RR s hw k=>?_⟩
 refine ga z R σ H W ρ _ _ s hw λvs H1 W1 ds ρ1 F p q=>?_
 obtain ⟨j,rfl⟩:∃j,ds=[D.int j]:=by
  clear p
  cases ds with
  | nil=>exact (show False from q).elim
  | cons d0 r0 =>
   cases r0 with
   | nil =>
    cases d0 with
    | int j=>exact ⟨j,rfl⟩
    | _=>exact (show False from q).elim
   | cons _ _=>cases d0 <;> exact (show False from q).elim
 obtain ⟨v,rfl,rd⟩:=p.rep.at1
 cases rd
 exact ⟨j,rfl,q.1,q.2.1,k _ H1 W1 _ ρ1 ⟨p.sr,p.fr,p.calm⟩ Ql9 q.2.2⟩
def G1:Nat->List D->List D
 | _,[]=>[]
 | n,d::r=>.tup [.int (n:Int),d]::G1 (n+1) r
theorem G0:∀{ds:List D} {n i:Nat},(G1 n ds)[i]? = ds[i]?.map λd=>.tup [.int ((n+i:Nat):Int),d]
 | [],_,_=>by simp [G1]
 | d::r,n,0=>by simp [G1]
 | d::r,n,i+1=>by
  simp only [G1,List.getElem?_cons_succ]
  rw [G0 (ds:=r) (n:=n+1) (i:=i),show n+1+i=n+(i+1) by omega]
theorem Ve:∀{ds:List D} {n:Nat},(G1 n ds).length=ds.length
 | [],_=>rfl
 | d::r,n=>by simp [G1,Ve]
end
end PV
namespace PV
open PySem PySem.Spec L2
structure EndsP where
 nx:Env->Prop
 rt:D->Env->Prop
 bk:Env->Prop:=λ_=>False
 ct:Env->Prop:=λ_=>False
 xc:D->Env->Prop:=λ_ _=>False
abbrev WS:=EndsP->Env->Prop
structure Lk (K:PySem.W.Frag) (T:Tg) (z:Nat->V) (H:Hp) (W:Addr->Prop) (P:EndsP) (E:Ends):Prop where
 nx:∀R σ' H' W' ρ',SR K T z R H' W' σ' ρ'->FrW H W H' W'->P.nx ρ'->E.nx σ' H'
 bk:∀R σ' H' W' ρ',SR K T z R H' W' σ' ρ'->FrW H W H' W'->P.bk ρ'->E.bk σ' H'
 ct:∀R σ' H' W' ρ',SR K T z R H' W' σ' ρ'->FrW H W H' W'->P.ct ρ'->E.ct σ' H'
 rt:∀R v σ' H' W' ρ' d F,SR K T z R H' W' σ' ρ'->FrW H W H' W'->Rep K H' d v F->F.Nodup->(∀a∈F,¬W' a/\(W a\/H a=none))->P.rt d ρ'->E.rt v H'
 xc:∀R σ' H' W' ρ' d,SR K T z R H' W' σ' ρ'->FrW H W H' W'->P.xc d ρ'->T.xe d σ' H'
theorem Lk.step {K:PySem.W.Frag} {T:Tg} {z:Nat->V} {H H1:Hp} {W W1:Addr->Prop} {P:EndsP} {E:Ends} (l:Lk K T z H W P E) (f:FrW H W H1 W1):Lk K T z H1 W1 P E where
 nx:=λR σ' H' W' ρ' s g q=>l.nx R σ' H' W' ρ' s (f.trans g) q
 bk:=λR σ' H' W' ρ' s g q=>l.bk R σ' H' W' ρ' s (f.trans g) q
 ct:=λR σ' H' W' ρ' s g q=>l.ct R σ' H' W' ρ' s (f.trans g) q
 rt:=λR v σ' H' W' ρ' d F s g r nd k q=>l.rt R v σ' H' W' ρ' d F s (f.trans g) r nd (λa ha=>⟨(k a ha).1,by
  rcases (k a ha).2 with h | h
  ·exact f.new a h
  ·exact .inr (f.dom a h)⟩) q
 xc:=λR σ' H' W' ρ' d s g q=>l.xc R σ' H' W' ρ' d s (f.trans g) q
def SV (X:Cx) (T:Tg) (st:Stmt) (w:WS):Prop :=
 ∃ts,PS X st ts/\∀(z:Nat->V) (R:Addr->Prop) (σ:St) (H:Hp) (W:Addr->Prop) (ρ:Env) (P:EndsP) (E:Ends),SR X.K T z R H W σ ρ->w P ρ->Lk X.K T z H W P E->ts E σ H
def SVs (X:Cx) (T:Tg) (st:List Stmt) (w:WS):Prop :=
 ∃ts,PSs X st ts/\∀(z:Nat->V) (R:Addr->Prop) (σ:St) (H:Hp) (W:Addr->Prop) (ρ:Env) (P:EndsP) (E:Ends),SR X.K T z R H W σ ρ->w P ρ->Lk X.K T z H W P E->ts E σ H
section
variable {X:Cx} {T:Tg} {m o m0 m1 m2 m3 o1 o2:Bool} {e a b:Expr} {w wa wb:WE} {pos p2 p:Pos} {es:List Expr} {wr:WA} {x:Str} {st:Stmt} {rest:List Stmt} {ws wu:WS} {wt:WT}
def Qp:WS:=λP ρ=>P.nx ρ
def wSeq (w u:WS):WS:=λP ρ=>w { P with nx:=u P } ρ
theorem Q4:SVs X T [] Qp:=⟨_,Qox,λz R σ H W ρ P E s hw l=>l.nx R σ H W ρ s (FrW.refl H W) hw⟩
theorem Qj (h:SV X T st ws):SVs X T [st] ws:=by
 obtain ⟨t,pt,g⟩:=h
 exact ⟨_,Qow pt,g⟩
theorem Qf (h:SV X T st ws) (hr:SVs X T rest wu):SVs X T (st::rest) (wSeq ws wu):=by
 obtain ⟨t,pt,g⟩:=h
 obtain ⟨u,pu,gu⟩:=hr
 refine ⟨_,Qlf pt pu,λz R σ H W ρ P E s hw l=>g z R σ H W ρ _ _ s hw ⟨λR' σ' H' W' ρ' s' f q=>gu z R' σ' H' W' ρ' P E s' q (l.step f),l.bk,l.ct,l.rt,l.xc⟩⟩
def V9 (w:WE):WS:=λP ρ=>w ρ λ_ ρ'=>P.nx ρ'
theorem G7 (he:EV X T m o e w) (hs:swapsWith e none pos.line X.env=pure false:=by rfl):SV X T (.Expr e pos) (V9 w):=by
 obtain ⟨te,pe,ge⟩:=he
 exact ⟨_,Qe5 pe hs,λz R σ H W ρ P E s hw l=>ge z R σ H W ρ _ _ s hw λv H1 W1 d ρ1 F p q=>l.nx R σ H1 W1 ρ1 p.sr p.fr q⟩
def wRet (w:WE):WS:=λP ρ=>w ρ λd ρ'=>P.rt d ρ'
theorem Qz (he:EV X T m true e w):SV X T (.Return (some e) pos) (wRet w):=by
 obtain ⟨te,pe,ge⟩:=he
 exact ⟨_,Qgc pe,λz R σ H W ρ P E s hw l=>ge z R σ H W ρ _ _ s hw λv H1 W1 d ρ1 F p q=>l.rt R v σ H1 W1 ρ1 d F p.sr p.fr p.rep (p.own rfl).1 (λa ha=>⟨((p.own rfl).2 a ha).2,.inr ((p.own rfl).2 a ha).1⟩) q⟩
theorem Qt2:SV X T (.Return none pos) (λP ρ=>P.rt .non ρ) :=
 ⟨_,Qoz,λz R σ H W ρ P E s hw l=>l.rt R .non σ H W ρ .non [] s (FrW.refl H W) .non List.nodup_nil (λa m=>nomatch m) hw⟩
def Qh8 (i:Nat):WS:=λP ρ=>oget (look ρ i) λd=>P.rt d (ρ.set i none)
theorem Qim {i:Nat} (ht:T.own i=true:=by rfl) (hN:X.N[i]? = some x:=by rfl) (hv:Vis X.env.scope x:=by first | exact Or.inl rfl | exact Or.inr (Or.inl rfl) | exact Or.inr (Or.inr rfl)) (hd:(x == ("__debug__" : Str))=false:=by decide)
  (hcd:(x == ("__classdict__" : Str))=false:=by decide):SV X T (.Return (some (.Name x p)) pos) (Qh8 i):=by
 refine ⟨_,Qgc (Vd hN hv hd hcd),λz R σ H W ρ P E s hw l=>?_⟩
 obtain ⟨d,hl,q⟩:=Qw hw
 obtain ⟨fp,s0⟩:=s
 obtain ⟨v,h1,h2⟩:=s0.at_ i d hl
 have key:∀j e,look (ρ.set i none) j=some e->j≠i/\look ρ j=some e:=λj e h=>by
  rw [Zw] at h
  split at h
  ·cases h
  ·refine ⟨λz=>?_,h⟩
   subst z
   rename_i hn
   exact hn ⟨rfl,Uh hl⟩
 refine ⟨v,h1,l.rt R v σ H (λa=>W a/\a∉fp i) (ρ.set i none) d (fp i) ⟨fp,?_⟩ ?_ h2 (s0.own i d hl ht).1 (λa ha=>⟨λh=>h.2 ha,.inl ((s0.own i d hl ht).2 a ha)⟩) q⟩
 ·refine ⟨by rw [List.length_set];exact s0.len,λa h=>s0.wd a h.1,λj e h=>s0.at_ j e (key j e h).2,λj e h t=>⟨(s0.own j e (key j e h).2 t).1,λa ha=>⟨(s0.own j e (key j e h).2 t).2 a ha,λha'=>s0.dis j i e d (key j e h).2 hl t ht (key j e h).1 a ha ha'⟩⟩,
   λj e h t=>s0.ro j e (key j e h).2 t,λa h=>s0.wr a h.1,s0.rd,λj k e e' h h' t t'=>s0.dis j k e e' (key j e h).2 (key k e' h').2 t t',s0.fix⟩
 ·exact ⟨λb ob e _=>e,λb e=>e,λb ob e _=>e,λb h=>.inl h.1⟩
theorem SR0.bindE {K:PySem.W.Frag} {z:Nat->V} {R:Addr->Prop} {H:Hp} {W:Addr->Prop} {σ:St} {ρ:Env} {fp:Nat->List Addr} {i:Nat} {d:D} {v:V} {F:List Addr} (s:SR0 K T z R H W σ ρ fp) (hio:i∉T.io) (r:Rep K H d v F) (nd:F.Nodup) (nw:∀a∈F,¬W a/\¬R a) :
  SR K T z (λa=>R a\/(T.own i=false/\a∈F)) H (λa=>W a\/(T.own i=true/\a∈F)) (σ.set i (some v)) (ρ.set i (some d)):=by
 refine ⟨λj=>if j=i then F else fp j,?_,?_,?_,?_,?_,?_,?_,?_,?_⟩
 ·rw [List.length_set,List.length_set];exact s.len
 ·intro a ha
  rcases ha with ha | ⟨_,ha⟩
  ·exact s.wd a ha
  ·exact r.dom a ha
 ·intro j e hj
  rw [Zw] at hj
  split at hj
  ·rename_i h
   obtain ⟨rfl,hlt⟩:=h
   cases hj
   exact ⟨v,by rw [List.getElem?_set_self (by rw [← s.len];exact hlt)],by rw [if_pos rfl];exact r⟩
  ·rename_i h
   obtain ⟨u,h1,h2⟩:=s.at_ j e hj
   have hji:j≠i:=λz=>h ⟨z,by rw [← z];exact Uh hj⟩
   exact ⟨u,by rw [List.getElem?_set_ne (Ne.symm hji)];exact h1,by rw [if_neg hji];exact h2⟩
 ·intro j e hj hto
  by_cases hji:j=i
  ·subst hji;simp only [if_pos];exact ⟨nd,λa h=>.inr ⟨hto,h⟩⟩
  ·rw [Q1 hji] at hj
   simp only [if_neg hji]
   exact ⟨(s.own j e hj hto).1,λa h=>.inl ((s.own j e hj hto).2 a h)⟩
 ·intro j e hj hto
  by_cases hji:j=i
  ·subst hji;simp only [if_pos];exact λa h=>.inr ⟨hto,h⟩
  ·rw [Q1 hji] at hj
   simp only [if_neg hji]
   exact λa h=>.inl (s.ro j e hj hto a h)
 ·intro a ha hr
  rcases ha with ha | ⟨t,ha⟩
  ·rcases hr with hr | ⟨_,hr⟩
   ·exact s.wr a ha hr
   ·exact (nw a hr).1 ha
  ·rcases hr with hr | ⟨t',hr⟩
   ·exact (nw a ha).2 hr
   ·rw [t] at t';cases t'
 ·intro a hr
  rcases hr with hr | ⟨_,hr⟩
  ·exact s.rd a hr
  ·exact r.dom a hr
 ·intro j k e e' hj hk tj tk hne a ha ha'
  by_cases hji:j=i
  ·subst hji
   have hkj:k≠j:=λz=>hne z.symm
   rw [Q1 hkj] at hk
   simp only [if_pos,if_neg hkj] at ha ha'
   exact (nw a ha).1 ((s.own k e' hk tk).2 a ha')
  ·rw [Q1 hji] at hj
   simp only [if_neg hji] at ha
   by_cases hki:k=i
   ·subst hki
    simp only [if_pos] at ha'
    exact (nw a ha').1 ((s.own j e hj tj).2 a ha)
   ·rw [Q1 hki] at hk
    simp only [if_neg hki] at ha'
    exact s.dis j k e e' hj hk tj tk hne a ha ha'
 ·intro j hj
  have hji:j≠i:=λz=>hio (z ▸ hj)
  rw [List.getElem?_set_ne (Ne.symm hji)]
  exact s.fix j hj
theorem SR0.bind {K:PySem.W.Frag} {z:Nat->V} {R:Addr->Prop} {H:Hp} {W:Addr->Prop} {σ:St} {ρ:Env} {fp:Nat->List Addr} {i:Nat} {d:D} {v:V} {F:List Addr} (s:SR0 K T z R H W σ ρ fp) (hio:i∉T.io) (r:Rep K H d v F) (nd:F.Nodup) (nw:∀a∈F,¬W a/\¬R a) :
  ∃R',SR K T z R' H (λa=>W a\/(T.own i=true/\a∈F)) (σ.set i (some v)) (ρ.set i (some d)):=⟨_,s.bindE hio r nd nw⟩
def wSet (i:Nat) (w:WE):WS:=λP ρ=>w ρ λd ρ'=>P.nx (ρ'.set i (some d))
theorem X4 {H H':Hp} {W W':Addr->Prop} {G:Addr->Prop} (f:FrW H W H' W') (n:∀a,G a->H a=none):FrW H W H' (λa=>W' a\/G a) :=
 ⟨f.keep,f.dom,f.imm,λb h=>h.elim (f.new b) λh=>.inr (n b h)⟩
theorem Q3 {i:Nat} {pos':Pos} (he:EV X T m true e w) (hN:X.N.Nodup) (hi:X.N[i]? = some x:=by rfl) (hio:i∉T.io:=by decide) (hx:Loc X.env.scope x:=by first | exact Or.inl rfl | exact Or.inr rfl) (hs:swapsWith e (some (.Name x pos')) pos.line X.env=pure false:=by rfl)
  (hf:X.fn x=true\/X.env.scope.names.lookup x=some .local:=by first | exact .inl rfl | exact .inr rfl | assumption):SV X T (.Assign [.Name x pos'] e pos) (wSet i w):=by
 obtain ⟨te,pe,ge⟩:=he
 refine ⟨_,Qne hN hi hx pe hs hf,λz R σ H W ρ P E s hw l=>ge z R σ H W ρ _ _ s hw λv H1 W1 d ρ1 F p q=>?_⟩
 obtain ⟨fp,s1⟩:=p.sr
 obtain ⟨nd,nw⟩:=p.own rfl
 obtain ⟨R',s2⟩:=s1.bind (i:=i) hio p.rep nd (λa ha=>⟨(nw a ha).2,s.nr (nw a ha).1⟩)
 exact l.nx R' _ H1 _ _ s2 (X4 p.fr λa h=>(nw a h.2).1) q
theorem Qob {i:Nat} {pos':Pos} (he:∃te,PS X (.Assign [.Name x pos'] e pos) (tAsg te (Qfi i))/\∀(z:Nat->V) (R:Addr->Prop) (σ:St) (H:Hp) (W:Addr->Prop) (ρ:Env) (Q:D->Env->Prop) (Q':VK),SR X.K T z R H W σ ρ->w ρ Q ->
  (∀v H' W' d ρ' F,Post X.K T z R m true H W σ ρ H' W' ρ' d v F->Q d ρ'->Q' v H')->te σ H Q') (hio:i∉T.io:=by decide):SV X T (.Assign [.Name x pos'] e pos) (wSet i w):=by
 obtain ⟨te,pe,ge⟩:=he
 refine ⟨_,pe,λz R σ H W ρ P E s hw l=>ge z R σ H W ρ _ _ s hw λv H1 W1 d ρ1 F p q=>?_⟩
 obtain ⟨fp,s1⟩:=p.sr
 obtain ⟨nd,nw⟩:=p.own rfl
 obtain ⟨R',s2⟩:=s1.bind (i:=i) hio p.rep nd (λa ha=>⟨(nw a ha).2,s.nr (nw a ha).1⟩)
 exact l.nx R' _ H1 _ _ s2 (X4 p.fr λa h=>(nw a h.2).1) q
abbrev WG:=D->Env->(Env->Prop)->Prop
def GV (X:Cx) (T:Tg) (tg:Expr) (wg:WG):Prop :=
 ∃t,PG X tg t/\∀(z:Nat->V) (R:Addr->Prop) (σ:St) (H:Hp) (W:Addr->Prop) (ρ:Env) (d:D) (v:V) (Q:Env->Prop) (Q':St->Hp->Prop),SR X.K T z R H W σ ρ->Rep X.K H d v []->d.pure=true->wg d ρ Q ->
  (∀R' W' σ' ρ',SR X.K T z R' H W' σ' ρ'->FrW H W H W'->Q ρ'->Q' σ' H)->t v σ H Q'
def GVs (X:Cx) (T:Tg) (tgs:List Expr) (wg:List D->Env->(Env->Prop)->Prop):Prop :=
 ∃t,PGs X tgs t/\∀(z:Nat->V) (R:Addr->Prop) (σ:St) (H:Hp) (W:Addr->Prop) (ρ:Env) (ds:List D) (vs:List V) (Q:Env->Prop) (Q':St->Hp->Prop),SR X.K T z R H W σ ρ->Reps X.K H ds vs []->Qm ds=true->wg ds ρ Q ->
  (∀R' W' σ' ρ',SR X.K T z R' H W' σ' ρ'->FrW H W H W'->Q ρ'->Q' σ' H)->t vs σ H Q'
def gN (i:Nat):WG:=λd ρ Q=>Q (ρ.set i (some d))
theorem Yw {i:Nat} (hN:X.N.Nodup) (hi:X.N[i]? = some x:=by rfl) (hio:i∉T.io:=by decide) (hx:Loc X.env.scope x:=by first | exact Or.inl rfl | exact Or.inr rfl) (hf:X.fn x=true\/X.env.scope.names.lookup x=some .local:=by first | exact .inl rfl | exact .inr rfl | assumption):GV X T (.Name x pos) (gN i):=by
 refine ⟨_,Qe6 hN hi hx hf,λz R σ H W ρ d v Q Q' s r hp hw k=>?_⟩
 obtain ⟨fp,s1⟩:=s
 obtain ⟨R',s2⟩:=s1.bind (i:=i) hio r List.nodup_nil (λa ha=>nomatch ha)
 exact k R' _ _ _ s2 (X4 (FrW.refl H W) λa h=>nomatch h.2) hw
def Qee:List D->Env->(Env->Prop)->Prop
 | [],ρ,Q=>Q ρ
 | _,_,_=>False
def Zu (wg:WG) (wgs:List D->Env->(Env->Prop)->Prop):List D->Env->(Env->Prop)->Prop
 | d::r,ρ,Q=>wg d ρ λρ'=>wgs r ρ' Q
 | _,_,_=>False
theorem Reps.inv {K:PySem.W.Frag} {H:Hp} {d:D} {ds:List D} {vs:List V} {F:List Addr} (r:Reps K H (d::ds) vs F):∃v us F1 F2,vs=v::us/\Rep K H d v F1/\Reps K H ds us F2:=by
 cases r with
 | cons h r=>exact ⟨_,_,_,_,rfl,h,r⟩
theorem Qcy:GVs X T [] Qee:=by
 refine ⟨_,Qi6,λz R σ H W ρ ds vs Q Q' s r hp hw k=>?_⟩
 cases ds with
 | nil=>cases r;exact ⟨rfl,k R W σ ρ s (FrW.refl H W) hw⟩
 | cons=>exact hw.elim
theorem Zx {wg:WG} {wgs:List D->Env->(Env->Prop)->Prop} (h:GV X T e wg) (hr:GVs X T es wgs) (hs:(assignEach (e::es) X.env).map (·.2)=assign e X.env::(assignEach es X.env).map (·.2):=by rfl):GVs X T (e::es) (Zu wg wgs):=by
 obtain ⟨t,pt,g⟩:=h
 obtain ⟨u,pu,gu⟩:=hr
 refine ⟨_,Qcl pt pu hs,λz R σ H W ρ ds vs Q Q' s r hp hw k=>?_⟩
 cases ds with
 | nil=>exact hw.elim
 | cons d ds =>
  obtain ⟨v,vs,F,G,rfl,r1,r2⟩:=r.inv
  simp only [Qm,Bool.and_eq_true] at hp
  obtain ⟨e1,r1⟩:=r1.pure hp.1
  obtain ⟨e2,r2⟩:=r2.pure hp.2
  refine ⟨v,vs,rfl,g z R σ H W ρ d v _ _ s r1 hp.1 hw λR' W' σ' ρ' s' f q=>?_⟩
  exact gu z R' σ' H W' ρ' ds vs Q Q' s' r2 hp.2 q λR2 W2 σ2 ρ2 s2 f2 q2=>k R2 W2 σ2 ρ2 s2 (f.trans f2) q2
def Qed (n:Nat) (wgs:List D->Env->(Env->Prop)->Prop):WG:=λd ρ Q=>match d with
 | .tup ds=>ds.length=n/\wgs ds ρ Q
 | _=>False
theorem Qgq {kt:Nat} {n:Nat} {wgs:List D->Env->(Env->Prop)->Prop} (h:GVs X T es wgs) (hc:X.calm=true:=by rfl) (hn:(assignEach es X.env).length=n:=by rfl) (hst:(assignEach es X.env).findIdx? (·.1)=none:=by rfl):GV X T (.Tuple es kt pos) (Qed n wgs):=by
 obtain ⟨t,pt,g⟩:=h
 refine ⟨_,Qng hc pt hn hst,λz R σ H W ρ d v Q Q' s r hp hw k=>?_⟩
 cases d with
 | tup ds =>
  cases r with
  | @tup a xs _ _ e1 r=>exact ⟨a,xs,rfl,.of e1,by rw [r.length];exact hw.1,g z R σ H W ρ ds xs Q Q' s r (by simpa [D.pure] using hp) hw.2 k⟩
 | _=>exact hw.elim
def wAsg (w:WE) (wg:WG):WS:=λP ρ=>w ρ λd ρ'=>d.pure=true/\wg d ρ' P.nx
theorem Qm3 {tg:Expr} {wg:WG} (he:EV X T m o e w) (hg:GV X T tg wg) (hs:swapsWithSole [tg] e pos.line X.env=pure false:=by rfl) (hw:swappedStores [tg] e X.env=pure none:=by rfl)
  (h1:(assignEach [tg] X.env).map (·.2)=[assign tg X.env]:=by rfl):SV X T (.Assign [tg] e pos) (wAsg w wg):=by
 obtain ⟨te,pe,ge⟩:=he
 obtain ⟨t,pt,g⟩:=hg
 refine ⟨_,Qnf pe pt hs hw h1,λz R σ H W ρ P E s hw l=>ge z R σ H W ρ _ _ s hw λv H1 W1 d ρ1 F p ⟨hp,q⟩=>?_⟩
 obtain ⟨_,r⟩:=p.rep.pure hp
 exact g z R σ H1 W1 ρ1 d v _ _ p.sr r hp q λR' W' σ' ρ' s' f q'=>l.nx R' σ' H1 W' ρ' s' (p.fr.trans f) q'
def dSet (s c d:D) (k:D->Prop):Prop:=match s with
 | .lst xs=>onI c λj=>oget (ixN xs.length j) λn=>k (.lst (xs.set n d))
 | .dik kvs=>onK c λkey=>kvs.length<sizeLine/\k (.dik (putD kvs key d))
 | .dit kvs=>onT c λl=>kvs.length<sizeLine/\oget (Uj l) λks=>k (.dit (putD kvs ks d))
 | _=>False
theorem Qk8 (hu:X.A.units+1<cLine):PSet X (λo i v H Q=>∃a H',o=.ref a/\DPut H a i v H'/\Q H'):=by
 intro pins s σ H o i v ov iv u Q I ro ri rv h
 obtain ⟨a,H',rfl,g,q⟩:=h
 cases ro
 exact Qke hu I g ri rv λs' I'=>⟨H',I',q⟩
theorem PSet.or {t u:TSet} (h:PSet X t) (h':PSet X u):PSet X (λo i v H Q=>t o i v H Q\/u o i v H Q):=by
 intro pins s σ H o i v ov iv u Q I ro ri rv q
 rcases q with q | q
 ·exact h pins s σ H o i v ov iv u Q I ro ri rv q
 ·exact h' pins s σ H o i v ov iv u Q I ro ri rv q
def Z9 (i:Nat) (wv wi:WE):WS:=λP ρ=>wv ρ λd ρ1=>d.pure=true/\(look ρ1 i).isSome=true/\wi ρ1 λc ρ2=>oget (look ρ2 i) λs=>dSet s c d λs'=>P.nx (ρ2.set i (some s'))
theorem Gj {i:Nat} {v ix:Expr} {wv wi:WE} {px ps':Pos} (hu:X.A.units+1<cLine) (hv:EV X T m1 o1 v wv) (hi:EV X T m2 o2 ix wi) (ht:T.own i=true:=by rfl) (hN:X.N[i]? = some x:=by rfl)
  (hvis:Vis X.env.scope x:=by first | exact Or.inl rfl | exact Or.inr (Or.inl rfl) | exact Or.inr (Or.inr rfl)) (hd:(x == ("__debug__" : Str))=false:=by decide) (hcd:(x == ("__classdict__" : Str))=false:=by decide)
  (ha:∀v,assign (.Subscript (.Name x px) ix ps') X.env v=(do
   let ov ← holding [v] (eval (.Name x px) X.env)
   let iv ← holding [v,ov] (eval ix X.env)
   standAt ps'
   holding [v,ov,iv] (setItem ov iv v)
   release [v,ov,iv] []):=by intro _;rfl) (hs:swapsWithSole [.Subscript (.Name x px) ix ps'] v pos.line X.env=pure false:=by rfl) (hw:swappedStores [.Subscript (.Name x px) ix ps'] v X.env=pure none:=by rfl)
  (h1:(assignEach [.Subscript (.Name x px) ix ps'] X.env).map (·.2)=[assign (.Subscript (.Name x px) ix ps') X.env]:=by rfl):SV X T (.Assign [.Subscript (.Name x px) ix ps'] v pos) (Z9 i wv wi):=by
 obtain ⟨tv,pv,gv⟩:=hv
 obtain ⟨ti,pi,gi⟩:=hi
 refine ⟨_,Qnf pv (Qrk (Vd hN hvis hd hcd) pi (PSet.or Qk7 (Qk8 hu)) ha) hs hw h1,λz R σ H W ρ P E s hw l=>?_⟩
 refine gv z R σ H W ρ _ _ s hw λv1 H1 W1 d ρ1 F1 p ⟨hp,hso,q⟩=>?_
 obtain ⟨-,rv⟩:=p.rep.pure hp
 obtain ⟨d0,hl0⟩:=Option.isSome_iff_exists.mp hso
 obtain ⟨fp0,s0⟩:=id p.sr
 obtain ⟨u,hu',_⟩:=s0.at_ i d0 hl0
 refine ⟨u,hu',gi z R σ H1 W1 ρ1 _ _ p.sr q λv2 H2 W2 c ρ2 F2 p2 q2=>?_⟩
 obtain ⟨d1,hl,q2⟩:=Qw q2
 obtain ⟨fp,s2⟩:=id p2.sr
 obtain ⟨u',hu2,ru⟩:=s2.at_ i d1 hl
 have:u'=u:=by rw [hu'] at hu2;cases hu2;rfl
 subst this
 have rv2:Rep X.K H2 d v1 []:=rv.keep p2.fr λa m=>nomatch m
 obtain ⟨nd,sw⟩:=s2.own i d1 hl ht
 have fin:∀(lad:Addr) (ob:HO) (d':D) (F':List Addr),lad∈fp i->imm ob=false->Rep X.K (upd H2 lad ob) d' u' F'->F'.Nodup->(∀a∈F',a∈fp i)->P.nx (ρ2.set i (some d'))->E.nx σ (upd H2 lad ob):=λlad ob d' F' hm him r' nd' sub hq=>by
  have hW:=sw lad hm
  exact l.nx R σ _ _ _ (s2.write hl ht hu2 hm Gd ⟨ob,Qn,him⟩ r' nd' λa ha=>.inl (sub a ha)) ((p.fr.trans p2.fr).write hW (s2.wd lad hW) Gd ⟨ob,Qn,him⟩ λa ha=>.inl (sw a (sub a ha))) hq
 have nilnot:∀a:Addr,a∉([]:List Addr):=λa h=>nomatch h
 generalize hF:fp i=F at *
 cases d1 with
 | lst ds =>
  obtain ⟨j,rfl,q2⟩:=Qaq q2
  obtain ⟨a,xs,G,rfl,rfl,e,r⟩:=ru.iLst
  obtain ⟨n,hn,hq⟩:=Qw q2
  have rc:=p2.rep.iInt
  subst rc
  have hlt:=(Qfh hn).2.1
  obtain ⟨dn,hdn⟩:∃dn,ds[n]? = some dn:=⟨ds[n],List.getElem?_eq_getElem hlt⟩
  obtain ⟨y,A,B,C,hy,hG,rB,rA,rC⟩:=r.split hdn
  obtain ⟨na,ndG⟩:=List.nodup_cons.mp nd
  have sub:=sub3 hG
  have nAC:a∉A++C:=λh=>na (sub.subset h)
  have hxl:n<xs.length:=by rw [r.length];exact hlt
  refine .inl ⟨a,xs,j,n,rfl,rfl,e,by rw [r.length];exact hn,?_⟩
  refine fin a _ _ (a::(A++C)) List.mem_cons_self rfl (.lst Qn ?_) (List.nodup_cons.mpr ⟨nAC,ndG.sublist sub⟩) (λb hb=>?_) hq
  ·rw [Gf hlt,Gf hxl]
   have:=(rA.upd (ob':=.lst (xs.take n++v1::xs.drop (n+1))) e rfl (λh=>nAC (List.mem_append.mpr (.inl h)))).append (.cons (rv2.upd e rfl (nilnot a)) (rC.upd e rfl λh=>nAC (List.mem_append.mpr (.inr h))))
   simpa using this
  ·rcases List.mem_cons.mp hb with rfl | hb
   ·exact List.mem_cons_self
   ·exact List.mem_cons_of_mem _ (sub.subset hb)
 | dik ds =>
  obtain ⟨key,⟨hz,hq⟩,hy⟩:=Qe8 (show onK c (λkey=>ds.length<sizeLine/\P.nx (ρ2.set i (some (.dik (putD ds key d))))) from q2)
  obtain ⟨a,kvs,G,rfl,rfl,e,r⟩:=ru.iDik
  obtain rfl:=hy p2.rep
  obtain ⟨na,ndG⟩:=List.nodup_cons.mp nd
  obtain ⟨G',rp,sub⟩:=(r.upd (ob':=.dK (putK kvs key v1)) e rfl na).put (k:=key) (rv2.upd e rfl (nilnot a))
  refine .inr ⟨a,_,rfl,DPut.k (k:=key) e (by rw [r.length];exact hz),?_⟩
  refine fin a _ _ (a::G') List.mem_cons_self rfl (.dik Qn rp) (List.nodup_cons.mpr ⟨λh=>na (sub.subset h),ndG.sublist sub⟩) (λb hb=>?_) hq
  rcases List.mem_cons.mp hb with rfl | hb
  ·exact List.mem_cons_self
  ·exact List.mem_cons_of_mem _ (sub.subset hb)
 | dit ds =>
  obtain ⟨l',rfl,hz,q2⟩:=Qja q2
  obtain ⟨a,kvs,G,rfl,rfl,e,r⟩:=ru.iDit
  obtain ⟨na,ndG⟩:=List.nodup_cons.mp nd
  obtain ⟨ks,hk,hq⟩:=Qw q2
  obtain ⟨b,ys,rfl,e2,r2⟩:=p2.rep.iTup
  have hx:=r2.keys hk
  subst hx
  obtain ⟨G',rp,sub⟩:=(r.upd (ob':=.dT (putK kvs ks v1)) e rfl na).put (k:=ks) (rv2.upd e rfl (nilnot a))
  refine .inr ⟨a,_,rfl,DPut.t (k:=ks) e e2 (by rw [r.length];exact hz),?_⟩
  refine fin a _ _ (a::G') List.mem_cons_self rfl (.dit Qn rp) (List.nodup_cons.mpr ⟨λh=>na (sub.subset h),ndG.sublist sub⟩) (λb hb=>?_) hq
  rcases List.mem_cons.mp hb with rfl | hb
  ·exact List.mem_cons_self
  ·exact List.mem_cons_of_mem _ (sub.subset hb)
 | _=>exact (show False from q2).elim
def wIf (wt:WT) (w u:WS):WS:=λP ρ=>wt ρ λb ρ'=>if b=true then w P ρ' else u P ρ'
theorem Yt {c:Expr} {sa sb:List Stmt} (hc:TV X T m c wt) (ha:SVs X T sa ws) (hb:SVs X T sb wu):SV X T (.If c sa sb pos) (wIf wt ws wu):=by
 obtain ⟨tc,pc,gc⟩:=hc
 obtain ⟨ta,pa,ga⟩:=ha
 obtain ⟨tb,pb,gb⟩:=hb
 refine ⟨_,Que pc pa pb,λz R σ H W ρ P E s hw l=>gc z R σ H W ρ _ _ s hw λb H1 W1 ρ1 p q=>?_⟩
 cases b with
 | true=>exact ga z R σ H1 W1 ρ1 P E p.sr q (l.step p.fr)
 | false=>exact gb z R σ H1 W1 ρ1 P E p.sr q (l.step p.fr)
def Qbs (wt:WT) (wb:WS):WS:=λP ρ=>∃I:Nat->Env->Prop,(∃n,I n ρ)/\∀n ρ,I n ρ->wt ρ λb ρ1=>if b=true then wb { P with nx:=λρ'=>∃n',n' < n/\I n' ρ',ct:=λρ'=>∃n',n' < n/\I n' ρ',bk:=P.nx } ρ1 else P.nx ρ1
theorem Qcg {c:Expr} {body:List Stmt} (hp:PassesOwn (model X.prog X.w) X.A X.env X.xe) (hc:TV X T m c wt) (hb:SVs X T body ws):SV X T (.While c body [] pos) (Qbs wt ws):=by
 obtain ⟨tc,pc,gc⟩:=hc
 obtain ⟨tb,pb,gb⟩:=hb
 refine ⟨_,Qlg hp pc pb,λz R σ H W ρ P E s hw l=>?_⟩
 obtain ⟨I,⟨n,h0⟩,hI⟩:=hw
 refine ⟨λn σ' H'=>∃R' W' ρ',SR X.K T z R' H' W' σ' ρ'/\FrW H W H' W'/\I n ρ',⟨n,R,W,ρ,s,FrW.refl H W,h0⟩,?_⟩
 rintro n σ1 H1 ⟨R1,W1,ρ1,s1,f1,i1⟩
 refine gc z R1 σ1 H1 W1 ρ1 _ _ s1 (hI n ρ1 i1) λb H2 W2 ρ2 p q=>?_
 cases b with
 | true =>
  refine ⟨λσ' H'=>∃n',n' < n/\∃R' W' ρ',SR X.K T z R' H' W' σ' ρ'/\FrW H W H' W'/\I n' ρ',λσ' H' ⟨n',h,r⟩=>⟨n',h,r⟩,?_⟩
  refine gb z R1 σ1 H2 W2 ρ2 _ _ p.sr q ⟨?_,?_,?_,?_,?_⟩
  ·exact λR' σ' H' W' ρ' s' f' ⟨n',h,i'⟩=>⟨n',h,R',W',ρ',s',(f1.trans p.fr).trans f',i'⟩
  ·exact λR' σ' H' W' ρ' s' f' h=>l.nx R' σ' H' W' ρ' s' ((f1.trans p.fr).trans f') h
  ·exact λR' σ' H' W' ρ' s' f' ⟨n',h,i'⟩=>⟨n',h,R',W',ρ',s',(f1.trans p.fr).trans f',i'⟩
  ·exact ((l.step f1).step p.fr).rt
  ·exact ((l.step f1).step p.fr).xc
 | false=>exact l.nx R1 σ1 H2 W2 ρ2 p.sr (f1.trans p.fr) q
def wFor (wl:WL) (wg:WG) (wb:WS):WS:=λP ρ=>wl ρ λds ρ1=>Qm ds=true/\∃I:Nat->Env->Prop,I 0 ρ1 /\
 (∀i d ρ,ds[i]? = some d->I i ρ->wg d ρ λρ'=>wb { P with nx:=I (i+1),ct:=I (i+1),bk:=P.nx } ρ')/\∀ρ,I ds.length ρ->P.nx ρ
theorem Qb9 (W:Addr->Prop):wz true W=W:=by funext a;simp [wz]
theorem Gk {tg iter:Expr} {body:List Stmt} {wl:WL} {wg:WG} (hp:PassesOwn (model X.prog X.w) X.A X.env X.xe) (hi:IV X T m true tg iter wl) (hg:GV X T tg wg) (hb:SVs X T body ws) (hc:X.calm=true:=by rfl)
  (hs:∀x,foldedSetIterable iter X.env x=pure x:=by intro _;rfl):SV X T (.For tg iter body [] pos) (wFor wl wg ws):=by
 obtain ⟨ti,pi,gi⟩:=hi
 obtain ⟨tt,pt,gt⟩:=hg
 obtain ⟨tb,pb,gb⟩:=hb
 refine ⟨_,Qri hp hc pi pt pb hs,λz R σ H W ρ P E s hw l=>gi z R σ H W ρ _ _ s hw λJ H1 W1 ds ρ1 p jd q=>?_⟩
 rw [Qb9] at jd
 obtain ⟨hpu,I,h0,hI,hd⟩:=q
 refine ⟨λi n σ' H'=>n=ds.length-i/\i<=ds.length/\∃R' W' ρ',SR X.K T z R' H' W' σ' ρ'/\FrW H1 W1 H' W'/\I i ρ',⟨ds.length,by simp,Nat.zero_le _,R,W1,ρ1,p.sr,FrW.refl _ _,h0⟩,?_⟩
 rintro i n σ2 H2 ⟨rfl,hi,R2,W2,ρ2,s2,f2,i2⟩
 obtain ⟨j1,j2⟩:=jd i H2 W2 f2
 by_cases hlt:i<ds.length
 ·have hdi:ds[i]? = some ds[i]:=List.getElem?_eq_getElem hlt
  obtain ⟨hgo,hy⟩:=j2 _ hdi
  have hpd:(ds[i]).pure=true:=Uf.mp hpu _ (List.getElem_mem hlt)
  refine .inr ⟨hgo,λσ' H'=>i+1<=ds.length/\∃R' W' ρ',SR X.K T z R' H' W' σ' ρ'/\FrW H1 W1 H' W'/\I (i+1) ρ',λσ' H' ⟨h1,h2⟩=>⟨ds.length-(i+1),by omega,rfl,h1,h2⟩,λv H3 yl=>?_⟩
  obtain ⟨sm,F,rv,_⟩:=hy v H3 yl
  obtain ⟨-,rv⟩:=rv.pure hpd
  have f3:FrW H1 W1 H3 W2:=f2.trans (FrW.same W2 sm)
  refine gt z R2 σ2 H3 W2 ρ2 _ v _ _ (s2.same sm) rv hpd (hI i _ ρ2 hdi i2) λR4 W4 σ4 ρ4 s4 f4 q4=>?_
  refine gb z R4 σ4 H3 W4 ρ4 _ _ s4 q4 ⟨?_,?_,?_,?_,?_⟩
  ·exact λR' σ' H' W' ρ' s' f' h=>⟨hlt,R',W',ρ',s',(f3.trans f4).trans f',h⟩
  ·exact λR' σ' H' W' ρ' s' f' h=>l.nx R' σ' H' W' ρ' s' (((p.fr.trans f3).trans f4).trans f') h
  ·exact λR' σ' H' W' ρ' s' f' h=>⟨hlt,R',W',ρ',s',(f3.trans f4).trans f',h⟩
  ·exact (((l.step p.fr).step f3).step f4).rt
  ·exact (((l.step p.fr).step f3).step f4).xc
 ·have e:i=ds.length:=by omega
  subst e
  exact .inl ⟨j1 (Nat.le_refl _),l.nx R2 σ2 H2 W2 ρ2 s2 (p.fr.trans f2) (hd ρ2 i2)⟩
end
end PV
namespace PV
open PySem PySem.Spec L2
open PyProof.Rows (envOfC)
def TR:Tg:={ own:=λ_=>false,io:=[] }
def Any (H:Hp):Addr->Prop:=λa=>∃ob,H a=some ob/\imm ob=false
theorem SR.readonly {K:PySem.W.Frag} {T:Tg} {z:Nat->V} {H:Hp} {σ:St} {ρ:Env} (hio:T.io=[]) (hlen:ρ.length=σ.length) (h:∀i d,look ρ i=some d->T.own i=false/\∃v F,σ[i]? = some (some v)/\Rep K H d v F) :
  SR K T z (Any H) H (λ_=>False) σ ρ:=by
 have ch:∀i,∃F,∀d,look ρ i=some d->∃v,σ[i]? = some (some v)/\Rep K H d v F:=λi=>by
  cases hl:look ρ i with
  | none=>exact ⟨[],λd e=>nomatch e⟩
  | some d =>
   obtain ⟨_,v,F,h1,h2⟩:=h i d hl
   exact ⟨F,λd' e=>by cases e;exact ⟨v,h1,h2⟩⟩
 refine ⟨λi=>Classical.choose (ch i),hlen,λa h=>h.elim,λi d hl=>Classical.choose_spec (ch i) d hl,λi d hl ht=>?_,λi d hl ht a ha=>?_,λa h=>h.elim,λa h=>h,λi j d e hl hl' ht=>?_,λi hi=>?_⟩
 ·rw [(h i d hl).1] at ht;cases ht
 ·obtain ⟨v,_,r⟩:=Classical.choose_spec (ch i) d hl
  exact r.dom a ha
 ·rw [(h i d hl).1] at ht;cases ht
 ·rw [hio] at hi;cases hi
theorem Ur:∀{ds:List D} {n i:Nat},look (ds.map some++List.replicate n none) i=ds[i]?
 | [],0,i=>by simp [look]
 | [],n+1,0=>by simp [look,List.replicate_succ]
 | [],n+1,i+1=>by
  have:=Ur (ds:=[]) (n:=n) (i:=i)
  simpa [look,List.replicate_succ] using this
 | d::ds,n,0=>by simp [look]
 | d::ds,n,i+1=>by
  have:=Ur (ds:=ds) (n:=n) (i:=i)
  simpa [look] using this
theorem Qdk {N:List Str} {vs:List V} {i:Nat} {v:V} (h:vs[i]? = some v):(L2.start N vs)[i]? = some (some v):=by
 have hi:=(List.getElem?_eq_some_iff.mp h).1
 unfold L2.start
 rw [List.getElem?_append_left (by simpa using hi),List.getElem?_map,h]
 rfl
section
variable {P:Program} {w:World} {K:PySem.W.Frag} {mg:Str->Option Value} {base:Heap} {x qual:Str} {st:Stmt} {f:Addr} {fd:FuncData} {N ps:List Str} {k:Nat} {T:Tg} {ww:WS}
def env0 (N:List Str) (ds:List D):Env:=ds.map some++List.replicate (N.length-ds.length) none
theorem Zo {g:GA} (F:Fun K x qual st f fd) (S:FnScope N ps (Qd st)) (hio:T.io=[]) (hown:∀i,i<ps.length->T.own i=false) (hg:∀ds kk,g ds kk->ds.length=ps.length)
  (hb:∀(cdv:Value) (A:Around) (outer:List PySem.Env) (s:Shared) (H:Hp) (E:XK),Room k (A.deeper (envOfC qual (Qd st) s.heap.objs.size f cdv))->SVs (cxOf CX0 P w K mg base N qual (Qd st) f cdv A outer s H E).nox T (Ql st) ww)
  (hr:∀ds kk,g ds kk->ww { nx:=λ_=>kk .non,rt:=λd _=>kk d } (env0 N ds)):FnOk P w K mg base CX0 (k+1) f fd ps (spR K g):=by
 refine F.ok S (λvs H Q E h=>?_) (λcdv A outer s H vs Q E hroom h=>?_)
 ·obtain ⟨ds,Fp,kk,rep,hgk,_⟩:=h
  rw [rep.length];exact hg ds kk hgk
 ·obtain ⟨ds,Fp,kk,rep,hgk,q⟩:=h
  obtain ⟨ts,pts,gts⟩:=hb cdv A outer s H E hroom
  have hl:=rep.length
  have hds:=hg ds kk hgk
  refine ⟨ts,pts,gts (λ_=>.non) (Any H) (L2.start N vs) H (λ_=>False) (env0 N ds) _ _ (SR.readonly hio ?_ λi d hli=>?_) (hr ds kk hgk) ⟨?_,?_,?_,?_,λ_ _ _ _ _ _ _ _ hk=>hk.elim⟩⟩
  ·unfold env0 L2.start;simp [hl]
  ·unfold env0 at hli
   rw [Ur] at hli
   obtain ⟨v,B,h1,h2,_⟩:=rep.get hli
   exact ⟨hown i (by rw [← hds];exact (List.getElem?_eq_some_iff.mp hli).1),v,B,Qdk h1,h2⟩
  ·intro R' σ' H' W' ρ' s' fr hk
   have sm:Same H H':=λb o e=>fr.keep b o e (λz=>z)
   exact q .non H' .non [] ⟨sm,.non,List.nodup_nil,λ_ m=>nomatch m⟩ hk
  ·exact λR' σ' H' W' ρ' s' fr hk=>hk.elim
  ·exact λR' σ' H' W' ρ' s' fr hk=>hk.elim
  ·intro R' v σ' H' W' ρ' d F' s' fr r nd nw hk
   have sm:Same H H':=λb o e=>fr.keep b o e (λz=>z)
   exact q v H' d F' ⟨sm,r,nd,λa ha=>(nw a ha).2.resolve_left id⟩ hk
end
section
variable {X:Cx} {T:Tg} {m o m0 m1 m2 m3 o1 o2:Bool} {e a b:Expr} {w wa wb we:WE} {pos p2 p:Pos} {es:List Expr} {wr:WA} {x:Str} {wt:WT}
def CV (X:Cx) (ifs:List Expr) (w:WT):Prop :=
 ∃tt,PIfs X ifs tt/\∀(z:Nat->V) (R:Addr->Prop) (σ:St) (H:Hp) (W:Addr->Prop) (ρ:Env) (Q:Bool->Env->Prop) (Q':Bool->Hp->Prop),SR X.K TR z R H W σ ρ->w ρ Q ->
  (∀b H' W' ρ',PostT X.K TR z R false H W σ ρ H' W' ρ'->Q b ρ'->Q' b H')->tt σ H Q'
def wAll:WT:=λρ Q=>Q true ρ
theorem Qg0:CV X [] wAll:=⟨_,Qlj,λz R σ H W ρ Q Q' s hw k=>k true H W ρ ⟨s,FrW.refl H W,λ_=>⟨Same.refl H,rfl,rfl⟩⟩ hw⟩
theorem Qnv {c:Expr} (h:TV X TR false c wt):CV X [c] wt:=by
 obtain ⟨tt,pt,g⟩:=h
 exact ⟨_,Qli pt,g⟩
def blkE (ρ:Env) (d:D) (ix:List Nat):Env:=some d::ix.map (look ρ)
theorem Qcu {f:Nat->Option D}:∀{ix:List Nat} {j:Nat},look (ix.map f) j=ix[j]?.bind f
 | [],_=>by simp [look]
 | i::r,0=>by simp [look]
 | i::r,j+1=>by simpa [look] using Qcu (f:=f) (ix:=r) (j:=j)
def Qex (wl:WL) (wt:WT) (we:WE) (ix:List Nat):WE:=λρ Q=>wl ρ λds ρ1=>∃I:Nat->List D->Prop,I 0 [] /\
 (∀i d ys,ds[i]? = some d->I i ys->ys.length<sizeLine/\wt (blkE ρ1 d ix) λb _=>if b=true then we (blkE ρ1 d ix) (λy _=>I (i+1) (ys++[y])) else I (i+1) ys) /\
 ∀ys,I ds.length ys->ys.length<=sizeLine/\Q (.lst ys) ρ1
def Qeu (X:Cx) (T:Tg) (m:Bool) (elt iter:Expr) (x:Str) (px:Pos) (scope:Scope) (ifs:List Expr) (ix:List Nat) (w:WE):Prop :=
 ∃(wi:TI) (tt:TT) (te:TE),PI X (.Name x px) iter wi/\(∀cl C s₀ H₀ fp,PIfs (Zg X scope cl C (bN X.N x ix) s₀ H₀ fp) ifs tt)/\(∀cl C s₀ H₀ fp,PE (Zg X scope cl C (bN X.N x ix) s₀ H₀ fp) elt te) /\
  ∀(z:Nat->V) (R:Addr->Prop) (σ:St) (H:Hp) (W:Addr->Prop) (ρ:Env) (Q:D->Env->Prop) (Q':VK),SR X.K T z R H W σ ρ->w ρ Q ->
   (∀v H' W' d ρ' F,Post X.K T z R m true H W σ ρ H' W' ρ' d v F->Q d ρ'->Q' v H')->Qn8 wi tt te ix σ H Q'
theorem Qfm {elt iter:Expr} {px:Pos} {scope:Scope} {ifs:List Expr} {wl:WL} {pr:Bool} (ix:List Nat) (hi:IV X T m pr (.Name x px) iter wl)
  (ht:∀cl C s₀ H₀ fp,CV (Zg X scope cl C (bN X.N x ix) s₀ H₀ fp) ifs wt) (he:∀cl C s₀ H₀ fp,EV (Zg X scope cl C (bN X.N x ix) s₀ H₀ fp) TR false true elt we) :
  Qeu X T m elt iter x px scope ifs ix (Qex wl wt we ix):=by
 obtain ⟨wi,pi,gi⟩:=hi
 refine ⟨wi,λσ H Q=>∀cl C s₀ H₀ fp,Classical.choose (ht cl C s₀ H₀ fp) σ H Q,λσ H Q=>∀cl C s₀ H₀ fp,Classical.choose (he cl C s₀ H₀ fp) σ H Q,pi,
  λcl C s₀ H₀ fp pins s σ H Q I h=>(Classical.choose_spec (ht cl C s₀ H₀ fp)).1 pins s σ H Q I (h cl C s₀ H₀ fp),λcl C s₀ H₀ fp pins s σ H Q I h=>(Classical.choose_spec (he cl C s₀ H₀ fp)).1 pins s σ H Q I (h cl C s₀ H₀ fp),?_⟩
 intro z R σ H W ρ Q Q' s hw k
 refine gi z R σ H W ρ _ _ s hw λJ H1 W1 ds ρ1 p jd q=>?_
 obtain ⟨I,h0,hI,hd⟩:=q
 refine ⟨λi n ys H2=>n=ds.length-i/\i<=ds.length/\Same H1 H2/\∃es F,Reps X.K H2 es ys F/\F.Nodup/\(∀a∈F,H1 a=none)/\I i es,ds.length,⟨by simp,Nat.zero_le _,Same.refl _,[],[],.nil,List.nodup_nil,(λa m=>(nomatch m)),h0⟩,?_⟩
 rintro i n ys H2 ⟨rfl,hi,sm,es,F,re,nd,nw,i2⟩
 obtain ⟨j1,j2⟩:=jd i H2 (wz pr W1) (FrW.same _ sm)
 by_cases hlt:i<ds.length
 ·have hdi:ds[i]? = some ds[i]:=List.getElem?_eq_getElem hlt
  obtain ⟨hgo,hy⟩:=j2 _ hdi
  obtain ⟨hz,q1⟩:=hI i _ es hdi i2
  refine .inr ⟨hgo,by rw [re.length];exact hz,λv H3 yl=>?_⟩
  obtain ⟨sm3,Fv,rv,_⟩:=hy v H3 yl
  have srB:∀z',SR X.K TR z' (Any H3) H3 (λ_=>False) (bS σ (some v) ix) (blkE ρ1 ds[i] ix):=λz'=>by
   refine SR.readonly rfl (by simp [bS,blkE]) λj d hj=>⟨rfl,?_⟩
   cases j with
   | zero =>
    simp only [blkE,look,Option.some.injEq] at hj
    subst hj
    exact ⟨v,Fv,rfl,rv⟩
   | succ j =>
    have hj':look (ix.map (look ρ1)) j=some d:=hj
    rw [Qcu] at hj'
    cases hx:ix[j]? with
    | none=>rw [hx] at hj';cases hj'
    | some q =>
     rw [hx] at hj'
     obtain ⟨fp,s1⟩:=(p.sr.same sm).same sm3
     obtain ⟨u,hu,ru⟩:=s1.at_ q d hj'
     refine ⟨u,fp q,?_,ru⟩
     show (ix.map λi=>(σ[i]?).getD none)[j]? = some (some u)
     rw [List.getElem?_map,hx]
     simp [hu]
  intro cl C s₀ H₀ fp
  refine (Classical.choose_spec (ht cl C s₀ H₀ fp)).2 (λ_=>.non) (Any H3) (bS σ (some v) ix) H3 (λ_=>False) (blkE ρ1 ds[i] ix) _ _ (srB _) q1 λbb H4 W4 ρ4 p4 q4=>?_
  obtain ⟨sm4,hW4,hρ4⟩:=p4.calm rfl
  have re4:=((re.same sm3).same sm4)
  cases bb with
  | false=>exact ⟨ds.length-(i+1),by omega,rfl,hlt,(sm.trans sm3).trans sm4,es,F,re4,nd,nw,q4⟩
  | true =>
   show if true=true then _ else _
   rw [if_pos rfl]
   intro cl C s₀ H₀ fp
   refine (Classical.choose_spec (he cl C s₀ H₀ fp)).2 (λ_=>.non) (Any H3) (bS σ (some v) ix) H4 W4 (blkE ρ1 ds[i] ix) _ _ (hρ4 ▸ p4.sr) (by simpa using q4) λu H5 W5 y ρ5 Fy p5 q5=>?_
   obtain ⟨sm5,_,_⟩:=p5.calm rfl
   obtain ⟨ny,ky⟩:=p5.own rfl
   have sm15:Same H1 H5:=((sm.trans sm3).trans sm4).trans sm5
   refine ⟨ds.length-(i+1),by omega,rfl,hlt,sm15,es++[y],F++Fy,(re4.same sm5).snoc p5.rep,Qav nd ny λa ha hf=>?_,λa ha=>?_,q5⟩
   ·obtain ⟨ob,e1,_⟩:=re4.dom a hf
    rw [(ky a ha).1] at e1;cases e1
   ·rcases List.mem_append.mp ha with ha | ha
    ·exact nw a ha
    ·exact ((sm.trans sm3).trans sm4).free (ky a ha).1
 ·have e:i=ds.length:=by omega
  subst e
  obtain ⟨hz,q1⟩:=hd es i2
  refine .inl ⟨j1 (Nat.le_refl _),by rw [re.length];exact hz,λl hl=>?_⟩
  have hl1:H1 l=none:=sm.free hl
  refine k _ _ W1 (.lst es) ρ1 (l::F) ⟨(p.sr.same sm).same (Qk hl),(p.fr.trans (FrW.same W1 sm)).trans (FrW.same W1 (Qk hl)),λh=>⟨((p.calm h).1.trans sm).trans (Qk hl),(p.calm h).2⟩,.lst Qn (re.same (Qk hl)),λ_=>⟨List.nodup_cons.mpr ⟨λh=>?_,nd⟩,λb hb=>?_⟩⟩ q1
  ·obtain ⟨ob,e1,_⟩:=re.dom l h
   rw [hl] at e1;cases e1
  ·rcases List.mem_cons.mp hb with rfl | hb
   ·exact ⟨p.fr.dom _ hl1,p.sr.nw hl1⟩
   ·exact ⟨p.fr.dom _ (nw b hb),p.sr.nw (nw b hb)⟩
theorem Qp0 {elt iter:Expr} {px:Pos} {scope:Scope} {ifs:List Expr} {ix:List Nat} (h:Qeu X T m elt iter x px scope ifs ix w) (B:BlkScope X.env scope x)
  (hix:∀i∈ix,∃y,X.N[i]? = some y/\scope.names.lookup y=some .free) (hN:(bN X.N x ix).Nodup) (hc:X.calm=true:=by rfl)
  (hs:∀x,foldedSetIterable iter X.env x=pure x:=by intro _;rfl):EV X T m true (.ListComp elt [⟨.Name x px,iter,ifs,0⟩] scope pos) w:=by
 obtain ⟨wi,tt,te,h1,h2,h3,h4⟩:=h
 exact ⟨_,Qo4 ix hc B hix hN h1 h2 h3 hs,h4⟩
theorem Qoe {elt iter:Expr} {y:Str} {px py spos:Pos} {scope:Scope} {ifs:List Expr} {ix:List Nat} {j:Nat} (h:Qeu X T m elt iter x px scope ifs ix w) (B:BlkScope X.env scope x) (hNd:X.N.Nodup)
  (hix:∀i∈ix,∃y,X.N[i]? = some y/\scope.names.lookup y=some .free) (hN:(bN X.N x ix).Nodup) (hj:X.N[j]? = some y:=by rfl) (hy:Loc X.env.scope y:=by first | exact Or.inl rfl | exact Or.inr rfl) (hio:j∉T.io:=by decide)
  (hsw:swapsWith (.ListComp elt [⟨.Name x px,iter,ifs,0⟩] scope pos) (some (.Name y py)) spos.line X.env=pure true:=by rfl)
  (hf:X.fn y=true\/X.env.scope.names.lookup y=some .local:=by first | exact .inl rfl | exact .inr rfl | assumption) (hc:X.calm=true:=by rfl)
  (hs:∀x,foldedSetIterable iter X.env x=pure x:=by intro _;rfl):SV X T (.Assign [.Name y py] (.ListComp elt [⟨.Name x px,iter,ifs,0⟩] scope pos) spos) (wSet j w):=by
 obtain ⟨wi,tt,te,h1,h2,h3,h4⟩:=h
 exact Qob ⟨_,Qo0 ix hc B hNd hj hy hsw hix hN h1 h2 h3 hf hs,h4⟩ hio
end
end PV
namespace PV
open PySem PySem.Spec L2
section
variable {X:Cx} {T:Tg} {m o m0 m1 m2 m3 o1 o2:Bool} {e a b:Expr} {w wa wb we:WE} {pos p2 p:Pos} {es:List Expr} {wr:WA} {x:Str} {wt:WT}
abbrev WO:=Env->(Option Int->Env->Prop)->Prop
def OV (X:Cx) (T:Tg) (m:Bool) (e:Option Expr) (w:WO):Prop :=
 ∃t,PO X e t/\∀(z:Nat->V) (R:Addr->Prop) (σ:St) (H:Hp) (W:Addr->Prop) (ρ:Env) (Q:Option Int->Env->Prop) (Q':Option Int->Hp->Prop),SR X.K T z R H W σ ρ->w ρ Q ->
  (∀b H' W' ρ',PostT X.K T z R m H W σ ρ H' W' ρ'->Q b ρ'->Q' b H')->t σ H Q'
def Jc:WO:=λρ Q=>Q none ρ
def J6 (w:WE):WO:=λρ Q=>w ρ λd ρ'=>match d with
 | .int i=>Q (some i) ρ'
 | _=>False
theorem Jp:OV X T false none Jc:=⟨_,Qo2,λz R σ H W ρ Q Q' s hw k=>k none H W ρ ⟨s,FrW.refl H W,λ_=>⟨Same.refl H,rfl,rfl⟩⟩ hw⟩
theorem Jo (h:EV X T m o e w):OV X T m (some e) (J6 w):=by
 obtain ⟨t,pt,g⟩:=h
 refine ⟨_,Qo1 pt,λz R σ H W ρ Q Q' s hw k=>g z R σ H W ρ _ _ s hw λv H1 W1 d ρ1 F p q=>?_⟩
 cases d with
 | int i=>exact ⟨i,Qit p.rep,k (some i) H1 W1 ρ1 ⟨p.sr,p.fr,p.calm⟩ q⟩
 | _=>exact q.elim
def cutD (xs:List D) (lo hi:Option Int):List D:=(xs.drop (HT.sIx xs.length 0 lo)).take (HT.sIx xs.length xs.length hi-HT.sIx xs.length 0 lo)
theorem Reps.cut {K:PySem.W.Frag} {H:Hp} {ds:List D} {xs:List V} {lo hi:Option Int} (r:Reps K H ds xs []):Reps K H (cutD ds lo hi) (cutV xs lo hi) []:=by
 unfold cutD cutV
 rw [r.length]
 obtain ⟨G,r1,s1⟩:=r.drop (HT.sIx ds.length 0 lo)
 obtain ⟨G',r2,s2⟩:=r1.take (HT.sIx ds.length ds.length hi-HT.sIx ds.length 0 lo)
 have:=List.sublist_nil.mp s1
 subst this
 have:=List.sublist_nil.mp s2
 subst this
 exact r2
theorem Qqu:SlR X (λx lo hi H Q=>rSlL X.K x lo hi H Q\/rSlT X.K x lo hi H Q):=SlR.or Qoi Qqt
def Qti:D->D->D->(D->Prop)->Prop
 | .dik kvs,.int i,d,k=>k ((valD kvs (.inl i)).getD d)
 | .dik kvs,.str i,d,k=>k ((valD kvs (.inr i)).getD d)
 | .dit kvs,.tup l,d,k=>oget (Uj l) λks=>k ((valD kvs ks).getD d)
 | _,_,_,_=>False
end
end PV
namespace PV
open PySem PySem.Spec L2
section
variable {κ:Type} [DecidableEq κ]
theorem Qot {j k:κ} {d y:D} {r:List (κ × D)} (h:¬j=k):putD ((j,d)::r) k y=(j,d)::putD r k y:=by
 unfold putD
 by_cases q:(r.any λkv=>decide (kv.1=k))=true
 ·rw [if_pos (by rw [List.any_cons,q];simp),if_pos q,List.map_cons,if_neg h]
 ·rw [if_neg (by rw [List.any_cons];simp only [h,decide_false,Bool.false_or];exact q),if_neg q];rfl
theorem Qgj {k:κ} {y:D}:∀{r:List (κ × D)},k∉r.map (·.1)->(r.map λkv=>if kv.1=k then (kv.1,y) else kv)=r
 | [],_=>rfl
 | p::r,h=>by
  simp only [List.map_cons,List.mem_cons,not_or] at h
  rw [List.map_cons,if_neg (λz=>h.1 z.symm),Qgj h.2]
theorem Qou {k:κ} {d y:D} {r:List (κ × D)} (h:k∉r.map (·.1)):putD ((k,d)::r) k y=(k,y)::r:=by
 unfold putD
 rw [if_pos (by rw [List.any_cons];simp),List.map_cons,if_pos rfl,Qgj h]
end
section
variable {K:PySem.W.Frag} {H:Hp}
end
section
variable {X:Cx} {T:Tg} {m o m0 m1 m2 m3 o1 o2:Bool} {e a b:Expr} {w wa wb we:WE} {pos p2 p:Pos} {es:List Expr} {wr:WA} {x:Str} {wt:WT}
end
end PV
namespace PV
open PySem PySem.Spec L2
section
variable {X:Cx} {T:Tg} {m o m0 m1 m2 m3 o1 o2:Bool} {e a b:Expr} {w wa wb we:WE} {pos p2 p:Pos} {es:List Expr} {wr:WA} {x:Str} {wt:WT}
def Qib (wa wb:WE):WE:=λρ Q=>wa ρ λd ρ1=>match d with
 | .bl c=>if c=true then wb ρ1 Q else Q (.bl false) ρ1
 | _=>False
def wOrV (wa wb:WE):WE:=λρ Q=>wa ρ λd ρ1=>match d with
 | .bl c=>if c=true then Q (.bl true) ρ1 else wb ρ1 Q
 | _=>False
variable {rest:List Expr}
theorem Post.after {K:PySem.W.Frag} {z:Nat->V} {R:Addr->Prop} {H H1 H2:Hp} {W W1 W2:Addr->Prop} {σ:St} {ρ ρ1 ρ2:Env} {d1 d2:D} {v1 v2:V} {F1 F2:List Addr} (p:Post K T z R m1 o1 H W σ ρ H1 W1 ρ1 d1 v1 F1) (q:Post K T z R m2 o2 H1 W1 σ ρ1 H2 W2 ρ2 d2 v2 F2) :
  Post K T z R (m1 || m2) o2 H W σ ρ H2 W2 ρ2 d2 v2 F2:=⟨q.sr,p.fr.trans q.fr,p.calm2 q,q.rep,p.lastOwn q⟩
theorem Qeg {op} (h:EV X T m o a w):EV X T m o (.BoolOp op [a] pos) w:=by
 obtain ⟨t,pt,g⟩:=h
 exact ⟨t,Qrm pt,g⟩
theorem Qj7 (ha:EV X T m1 o1 a wa) (hb:EV X T m2 true (.BoolOp .And (b::rest) pos) wb):EV X T (m1 || m2) true (.BoolOp .And (a::b::rest) pos) (Qib wa wb):=by
 obtain ⟨ta,pa,ga⟩:=ha
 obtain ⟨tb,pb,gb⟩:=hb
 refine ⟨_,Qrq pa pb,λz R σ H W ρ Q Q' s hw k=>ga z R σ H W ρ _ _ s hw λv H1 W1 d ρ1 F p q=>?_⟩
 cases d with
 | bl c =>
  refine ⟨c,Qb1 p.rep,?_⟩
  cases c with
  | true=>exact gb z R σ H1 W1 ρ1 Q Q' p.sr q λv2 H2 W2 d2 ρ2 F2 q2 hq=>k v2 H2 W2 d2 ρ2 F2 (p.after q2) hq
  | false=>exact k _ H1 W1 (.bl false) ρ1 [] ⟨p.sr,p.fr,λh=>p.calm (Bool.or_eq_false_iff.mp h).1,.bl false,λ_=>⟨List.nodup_nil,λa m=>nomatch m⟩⟩ q
 | _=>exact q.elim
theorem Qta (ha:EV X T m1 o1 a wa) (hb:EV X T m2 true (.BoolOp .Or (b::rest) pos) wb):EV X T (m1 || m2) true (.BoolOp .Or (a::b::rest) pos) (wOrV wa wb):=by
 obtain ⟨ta,pa,ga⟩:=ha
 obtain ⟨tb,pb,gb⟩:=hb
 refine ⟨_,Qug pa pb,λz R σ H W ρ Q Q' s hw k=>ga z R σ H W ρ _ _ s hw λv H1 W1 d ρ1 F p q=>?_⟩
 cases d with
 | bl c =>
  refine ⟨c,Qb1 p.rep,?_⟩
  cases c with
  | false=>exact gb z R σ H1 W1 ρ1 Q Q' p.sr q λv2 H2 W2 d2 ρ2 F2 q2 hq=>k v2 H2 W2 d2 ρ2 F2 (p.after q2) hq
  | true=>exact k _ H1 W1 (.bl true) ρ1 [] ⟨p.sr,p.fr,λh=>p.calm (Bool.or_eq_false_iff.mp h).1,.bl true,λ_=>⟨List.nodup_nil,λa m=>nomatch m⟩⟩ q
 | _=>exact q.elim
def Qn3 (wa:WE):WE:=λρ Q=>wa ρ λd ρ1=>match d with
 | .bl c=>Q (.bl (!c)) ρ1
 | _=>False
theorem Qtb (ha:EV X T m o a wa):EV X T m true (.UnaryOp .Not a pos) (Qn3 wa):=by
 obtain ⟨ta,pa,ga⟩:=ha
 refine ⟨_,Qrn pa,λz R σ H W ρ Q Q' s hw k=>ga z R σ H W ρ _ _ s hw λv H1 W1 d ρ1 F p q=>?_⟩
 cases d with
 | bl c=>exact ⟨c,Qb1 p.rep,k _ H1 W1 (.bl (!c)) ρ1 [] (Post.flat p.sr p.fr p.calm (.bl _)) q⟩
 | _=>exact q.elim
end
end PV
namespace PV
open PySem PySem.Spec L2
theorem Qkq:bootBuiltins "sorted" = some (.builtin "sorted"):=by decide +kernel
theorem V1:bootBuiltins "isinstance" = some (.builtin "isinstance"):=by decide +kernel
theorem Qkr:bootBuiltins "abs" = some (.builtin "abs"):=by decide +kernel
theorem Vq:bootBuiltins "len" = some (.builtin "len"):=by decide +kernel
theorem Qnw:bootBuiltins "max" = some (.builtin "max"):=by decide +kernel
theorem Qnx:bootBuiltins "int" = some (.type "int"):=by decide +kernel
theorem Qp8:bootBuiltins "bool" = some (.type "bool"):=by decide +kernel
theorem Z6:bootBuiltins "list" = some (.type "list"):=by decide +kernel
theorem Ut:bootBuiltins "tuple" = some (.type "tuple"):=by decide +kernel
def Qt (w:WE):WE:=λρ Q=>w ρ λd ρ'=>d.pure=true/\Q d ρ'
def Cal (P:Program) (w:World) (K:PySem.W.Frag) (mg:Str->Option Value) (base:Heap) (x:Str) (k:Nat) (ps:List Str) (sp:Sp):Prop :=
 ∃f fd,FnOk P w K mg base CX0 k f fd ps sp/\mg x=some (.ref f)/\PySem.W.keepIn K (.ref f)=true/\Qbe K fd ps []
section
variable {X:Cx} {T:Tg} {m o m0 m1 m2 m3 o1 o2:Bool} {e a b:Expr} {w wa wb we:WE} {pos p2 p:Pos} {es:List Expr} {wr:WA} {x:Str} {wt:WT} {k j:Nat} {ps:List Str}
theorem Qx (h:EV X T m o e w):EV X T m true e (Qt w):=h.lift
theorem Qo {g:GA} (C:Cal X.prog X.w X.K X.mg X.base x k ps (spR X.K g)) (hr:Room k X.A) (ha:AV X T m o (e::es) wr) (hg:Gl X x:=by rfl)
  (hdb:(x == ("__debug__" : Str))=false:=by decide) (he:starEach (e::es) X.env=(false,eval e X.env)::starEach es X.env:=by rfl) (hpl:(backTo pos (starEach es X.env)).any (·.1)=false:=by rfl) :
  EV X T m true (.Call (.Name x p) (e::es) [] pos) (Qh g wr):=by
 obtain ⟨f,fd,F,h1,h2,h3⟩:=C
 exact Qp1 F hr h1 h2 h3 ha hg hdb he hpl
def nonD:D->Bool
 | .non=>true
 | _=>false
def nonB (b:D) (k:Prop):Prop:=match b with
 | .non=>k
 | _=>False
def dIs (neg:Bool):G2:=λa b k=>nonB b (k (.bl (xor (nonD a) neg)))
theorem Qge:OpD X (compareOp .IsNot) (dIs true):=by
 refine ⟨_,Qo8,λH a b x y F1 F2 k Q ra rb g q=>?_⟩
 cases rb <;> first | (exact (show False from g).elim) | (refine ⟨rfl,?_⟩;cases ra <;> first | exact q _ _ _ _ (.flat (.bl _)) g | (rename_i h;cases h <;> exact q _ _ _ _ (.flat (.bl _)) g))
def Qmn (sc scope:Scope) (N:List Str) (x:Str) (ix:List Nat):Bool :=
 (scope.kind == .function) && scope.names.all (λy=>y.2 != .cell) && scope.names.all (λy=>y.2 != .local || scope.names.lookup y.1 == some .local) && (scope.names.lookup x == some .local) &&
  scope.names.all (λy=>y.2 != .free || (sc.names.lookup y.1 == some .cell || sc.names.lookup y.1 == some .free)) &&
  ix.all (λi=>match N[i]? with | some y=>scope.names.lookup y == some .free | none=>false) && decide (bN N x ix).Nodup
structure CompB (X:Cx) (scope:Scope) (x:Str) (ix:List Nat):Prop where
 B:BlkScope X.env scope x
 hix:∀i∈ix,∃y,X.N[i]? = some y/\scope.names.lookup y=some .free
 hN:(bN X.N x ix).Nodup
theorem G3 {scope:Scope} {ix:List Nat} (sc:Scope) (N:List Str) (h:Qmn sc scope N x ix=true) (h1:X.env.scope=sc:=by rfl) (h2:X.N=N:=by rfl):CompB X scope x ix:=by
 subst h1 h2
 simp only [Qmn,Bool.and_eq_true,List.all_eq_true,Bool.or_eq_true,decide_eq_true_eq,beq_iff_eq,bne_iff_ne] at h
 obtain ⟨⟨⟨⟨⟨⟨a1,a2⟩,a3⟩,a4⟩,a5⟩,a6⟩,a7⟩:=h
 refine ⟨⟨a1,a2,λy hy e=>(a3 y hy).resolve_left (λz=>z e),a4,λy hy e=>(a5 y hy).resolve_left (λz=>z e)⟩,λi hi=>?_,a7⟩
 have:=a6 i hi
 cases q:X.N[i]? with
 | none=>rw [q] at this;cases this
 | some y =>
  rw [q] at this
  exact ⟨y,rfl,by simpa using this⟩
theorem Qgv {elt iter:Expr} {px:Pos} {scope:Scope} {ifs:List Expr} {ix:List Nat} (h:Qeu X T m elt iter x px scope ifs ix w) (B:CompB X scope x ix) (hc:X.calm=true:=by rfl)
  (hs:∀x,foldedSetIterable iter X.env x=pure x:=by intro _;rfl):EV X T m true (.ListComp elt [⟨.Name x px,iter,ifs,0⟩] scope pos) w:=Qp0 h B.B B.hix B.hN hc hs
theorem Qk4 {elt iter:Expr} {y:Str} {px py spos:Pos} {scope:Scope} {ifs:List Expr} {ix:List Nat} {j:Nat} (h:Qeu X T m elt iter x px scope ifs ix w) (B:CompB X scope x ix) (hNd:X.N.Nodup)
  (hj:X.N[j]? = some y:=by rfl) (hy:Loc X.env.scope y:=by first | exact Or.inl rfl | exact Or.inr rfl) (hio:j∉T.io:=by decide)
  (hsw:swapsWith (.ListComp elt [⟨.Name x px,iter,ifs,0⟩] scope pos) (some (.Name y py)) spos.line X.env=pure true:=by rfl)
  (hf:X.fn y=true\/X.env.scope.names.lookup y=some .local:=by first | exact .inl rfl | exact .inr rfl | assumption) (hc:X.calm=true:=by rfl)
  (hs:∀x,foldedSetIterable iter X.env x=pure x:=by intro _;rfl):SV X T (.Assign [.Name y py] (.ListComp elt [⟨.Name x px,iter,ifs,0⟩] scope pos) spos) (wSet j w):=Qoe h B.B hNd B.hix B.hN hj hy hio hsw hf hc hs
end
end PV
namespace PV
open PySem PySem.Spec L2
section
variable {X:Cx} {T:Tg} {m o m0 m1 m2 m3 o1 o2:Bool} {e a b:Expr} {w wa wb we:WE} {pos p2 p:Pos} {es:List Expr} {wr:WA} {x y:Str} {wt:WT} {ws:WS}
def Qhb (wd wk wx:WE):WE:=λρ Q=>wd ρ λd ρ1=>noDct d=false/\wk ρ1 λk ρ2=>wx ρ2 λx ρ3=>x.pure=true/\Qti d k x λr=>r.pure=true/\Q r ρ3
where noDct:D->Bool
 | .dik _=>false
 | .dit _=>false
 | _=>true
theorem Rep.isD {K:PySem.W.Frag} {H:Hp} {d:D} {v:V} {F:List Addr} (r:Rep K H d v F) (h:Qhb.noDct d=false):∃a,v=.ref a/\IsD H a:=by
 cases r with
 | dik e _=>exact ⟨_,rfl,.inl ⟨_,.of e⟩⟩
 | dit e _=>exact ⟨_,rfl,.inr ⟨_,.of e⟩⟩
 | _=>cases h
theorem Qpz {oe ek ex:Expr} {wd wk wx:WE} {apos cpos:Pos} (hu:X.A.units+1<cLine) (hd:EV X T false o1 oe wd) (hk:EV X T false o2 ek wk) (hx:EV X T false o ex wx)
  (m:M2 X oe "get" apos ek ex cpos:=by exact ⟨rfl,rfl,rfl,rfl⟩):EV X T false true (.Call (.Attribute oe "get" apos) [ek,ex] [] cpos) (Qhb wd wk wx):=by
 obtain ⟨td,pd,gd⟩:=hd
 obtain ⟨tk,pk,gk⟩:=hk
 obtain ⟨tx,px,gx⟩:=hx
 refine ⟨_,Qlp hu pd pk px m,λz R σ H W ρ Q Q' s hw k=>?_⟩
 refine gd z R σ H W ρ _ _ s hw λv H1 W1 d ρ1 F p ⟨hn,q⟩=>?_
 obtain ⟨sm1,rfl,rfl⟩:=p.calm rfl
 obtain ⟨ad,rfl,isd⟩:=p.rep.isD hn
 refine ⟨ad,rfl,isd,gk z R σ H1 W1 ρ1 _ _ p.sr q λvk H2 W2 kd ρ2 F2 p2 q2=>?_⟩
 obtain ⟨sm2,rfl,rfl⟩:=p2.calm rfl
 refine gx z R σ H2 W2 ρ2 _ _ p2.sr q2 λvx H3 W3 xd ρ3 F3 p3 q3=>?_
 obtain ⟨sm3,rfl,rfl⟩:=p3.calm rfl
 obtain ⟨hxp,q⟩:=q3
 obtain ⟨-,rx⟩:=p3.rep.pure hxp
 have rd:=(p.rep.same sm2).same sm3
 have rk:=p2.rep.same sm3
 have fin:∀(o':Option V) (od:Option D),((od=none/\o'=none)\/∃d v B,od=some d/\o'=some v/\Rep X.K H3 d v B)->((od.getD xd).pure=true/\Q (od.getD xd) ρ3)->Q' (o'.getD vx) H3:=λo' od hh ⟨hp,hq⟩=>by
  have sm:Same H H3:=(sm1.trans sm2).trans sm3
  rcases hh with ⟨rfl,rfl⟩ | ⟨dd,v,B,rfl,rfl,r⟩
  ·exact k _ H3 W3 _ ρ3 [] (Post.flat p3.sr (FrW.same W3 sm) (λ_=>⟨sm,rfl,rfl⟩) rx) hq
  ·obtain ⟨-,r⟩:=r.pure hp
   exact k _ H3 W3 _ ρ3 [] (Post.flat p3.sr (FrW.same W3 sm) (λ_=>⟨sm,rfl,rfl⟩) r) hq
 cases rd with
 | @dik a kvs ds G e r =>
  cases kd with
  | int i =>
   have:=Qit rk;subst this
   refine ⟨valV kvs (.inl i),DGet.k (k:=.inl i) e,fin _ (valD ds (.inl i)) ?_ q⟩
   rcases r.val (.inl i) with h | ⟨d,v,B,h1,h2,h3,_⟩
   ·exact .inl h
   ·exact .inr ⟨d,v,B,h1,h2,h3⟩
  | str i =>
   have:vk=.str i:=by cases rk;rfl
   subst this
   refine ⟨valV kvs (.inr i),DGet.k (k:=.inr i) e,fin _ (valD ds (.inr i)) ?_ q⟩
   rcases r.val (.inr i) with h | ⟨d,v,B,h1,h2,h3,_⟩
   ·exact .inl h
   ·exact .inr ⟨d,v,B,h1,h2,h3⟩
  | _=>exact (show False from q).elim
 | @dit a kvs ds G e r =>
  cases kd with
  | tup l =>
   obtain ⟨ks,hks,q⟩:=Qw q
   cases rk with
   | @tup b xs _ _ eb rb =>
    have hx:=rb.keys hks
    subst hx
    refine ⟨valV kvs ks,DGet.t (k:=ks) e eb,fin _ (valD ds ks) ?_ q⟩
    rcases r.val ks with h | ⟨d,v,B,h1,h2,h3,_⟩
    ·exact .inl h
    ·exact .inr ⟨d,v,B,h1,h2,h3⟩
  | _=>exact (show False from q).elim
 | _=>cases hn
end
end PV
namespace PV
open PySem PySem.Spec L2
section
variable {X:Cx} {T:Tg} {m o m0 m1 m2 m3 o1 o2:Bool} {e a b:Expr} {w wa wb we:WE} {pos p2 p:Pos} {es:List Expr} {wr:WA} {x y:Str} {wt:WT} {ws:WS}
end
end PV
namespace PV
open PySem PySem.Spec L2
open PySem.W (Dat kqdP kqdPs kqdOk)
section
variable {X:Cx}
end
end PV
namespace PV
open PySem PySem.Spec L2
section
variable {X:Cx} {T:Tg} {m o m0 m1 m2 m3 o1 o2:Bool} {e a b:Expr} {w wa wb we:WE} {pos p2 p:Pos} {es:List Expr} {wr:WA} {x y:Str} {wt:WT} {ws:WS}
def Q6:G2
 | .int i,.int j,k=>k (.int (i+j))
 | .str x,.str y,k=>x.length+y.length<=sizeLine/\k (.str (x++y))
 | .tup xs,.tup ys,k=>Qm xs=true/\Qm ys=true/\xs.length+ys.length<=sizeLine/\k (.tup (xs++ys))
 | .lst xs,.lst ys,k=>Qm xs=true/\Qm ys=true/\xs.length+ys.length<=sizeLine/\k (.lst (xs++ys))
 | _,_,_=>False
theorem Qmu {a b:D} {k:D->Prop} (g:Q6 a b k):(∃i j,a=.int i/\b=.int j)\/(∃i j,a=.str i/\b=.str j)\/(∃i j,a=.lst i/\b=.lst j)\/∃i j,a=.tup i/\b=.tup j:=by
 cases a with
 | int i=>cases b with
  | int j=>exact .inl ⟨i,j,rfl,rfl⟩
  | _=>exact (show False from g).elim
 | str i=>cases b with
  | str j=>exact .inr (.inl ⟨i,j,rfl,rfl⟩)
  | _=>exact (show False from g).elim
 | lst i=>cases b with
  | lst j=>exact .inr (.inr (.inl ⟨i,j,rfl,rfl⟩))
  | _=>exact (show False from g).elim
 | tup i=>cases b with
  | tup j=>exact .inr (.inr (.inr ⟨i,j,rfl,rfl⟩))
  | _=>cases i <;> exact (show False from g).elim
 | _=>exact (show False from g).elim
theorem Qs:OpD X (binaryOp .Add) Q6:=by
 obtain ⟨r0,o0,g0⟩:=Qr8 (X:=X)
 refine ⟨_,OpR.or Qpe o0,λH a b x y F1 F2 k Q ra rb g q=>?_⟩
 rcases Qmu g with ⟨i,j,rfl,rfl⟩ | ⟨i,j,rfl,rfl⟩ | ⟨i,j,rfl,rfl⟩ | ⟨i,ys,rfl,rfl⟩
 ·exact .inr (g0 H _ _ x y F1 F2 k Q ra rb g q)
 ·exact .inr (g0 H _ _ x y F1 F2 k Q ra rb g q)
 ·exact .inr (g0 H _ _ x y F1 F2 k Q ra rb g q)
 ·cases i with
  | nil =>
   cases ra with
   | @tup p _ _ _ e1 r1 =>
    cases r1
    cases rb with
    | @tup p' us _ _ e2 r2=>exact .inl ⟨p,p',us,rfl,rfl,.of e1,.of e2,q _ _ _ _ (.flat (.tup e2 (r2.pure g.2.1).2)) g.2.2.2⟩
  | cons d xs=>exact .inr (g0 H _ _ x y F1 F2 k Q ra rb ⟨g.1,g.2.1,by simp,g.2.2⟩ q)
def dSlT:D->Option Int->Option Int->(D->Prop)->Prop
 | .lst xs,lo,hi,k=>Qm xs=true/\k (.lst (cutD xs lo hi))
 | .kls xs,lo,hi,k=>Qm xs=true/\k (.lst (cutD xs lo hi))
 | .tup xs,lo,hi,k=>Qm xs=true/\k (.tup (cutD xs lo hi))
 | _,_,_,_=>False
theorem Qok {d:D} {lo hi:Option Int} {k:D->Prop} (g:dSlT d lo hi k):(∃ds,d=.lst ds)\/(∃ds,d=.kls ds)\/∃ds,d=.tup ds:=by
 cases d with
 | lst ds=>exact .inl ⟨ds,rfl⟩
 | kls ds=>exact .inr (.inl ⟨ds,rfl⟩)
 | tup ds=>exact .inr (.inr ⟨ds,rfl⟩)
 | _=>exact (show False from g).elim
theorem Qoj:SlR X (λx lo hi H Q=>(rSlL X.K x lo hi H Q\/rSlT X.K x lo hi H Q)\/rSlW X.K x lo hi H Q):=SlR.or Qqu Qoh
def wSlT (w:WE) (wl wh:WO):WE:=λρ Q=>w ρ λd ρ1=>wl ρ1 λlo ρ2=>wh ρ2 λhi ρ3=>dSlT d lo hi λd'=>Q d' ρ3
theorem Qkg {xs:List D} {lo hi:Option Int} (h:HT.sIx xs.length 0 lo=0/\HT.sIx xs.length xs.length hi=xs.length):cutD xs lo hi=xs:=by
 unfold cutD
 rw [h.1,h.2]
 simp
theorem Ym {lo hi:Option Expr} {wl wh:WO} (he:EV X T m1 o1 e w) (hl:OV X T m2 lo wl) (hh:OV X T m3 hi wh) (hc:o1=true\/(m2 || m3)=false:=by first | exact .inl rfl | exact .inr rfl) :
  EV X T (m1 || (m2 || m3)) true (.Subscript e (.Slice lo hi none p2) pos) (wSlT w wl wh):=by
 obtain ⟨te,pe,ge⟩:=he
 obtain ⟨tl,pl,gl⟩:=hl
 obtain ⟨th,ph,gh⟩:=hh
 refine ⟨_,Qll Qoj pe pl ph,λz R σ H W ρ Q Q' s hw k=>?_⟩
 refine ge z R σ H W ρ _ _ s hw λv H1 W1 d ρ1 F p q=>?_
 refine gl z R σ H1 W1 ρ1 _ _ p.sr q λlo H2 W2 ρ2 p2 q2=>?_
 refine gh z R σ H2 W2 ρ2 _ _ p2.sr q2 λhi H3 W3 ρ3 p3 q3=>?_
 have pp:=p2.seq p3
 have r3:Rep X.K H3 d v F:=by
  rcases hc with hc | hc
  ·exact p.rep.keep pp.fr λa h=>((p.own hc).2 a h).2
  ·exact p.rep.same (pp.calm hc).1
 have fin:∀ad d' v' Fn,Fin X.K H3 ad d' v' Fn->Q d' ρ3->Q' v' ad:=λH' d' v' F' fi hq=>by
  refine k v' H' W3 d' ρ3 F' (Post.fin p3.sr (p.fr.trans pp.fr) (λh=>?_) fi.same fi.rep fi.nd fi.new) hq
  rw [Bool.or_eq_false_iff] at h
  obtain ⟨a1,a2,a3⟩:=p.calm h.1
  obtain ⟨b1,b2,b3⟩:=pp.calm h.2
  exact ⟨a1.trans b1,b2.trans a2,b3.trans a3⟩
 have q4:dSlT d lo hi λd'=>Q d' ρ3:=q3
 clear q3
 rcases Qok q4 with ⟨ds,rfl⟩ | ⟨ds,rfl⟩ | ⟨ds,rfl⟩
 ·have q3:=q4
  cases r3 with
  | @lst a xs _ F e1 r9 =>
   obtain ⟨hp,hq⟩:=q3
   obtain ⟨_,r9⟩:=r9.pure hp
   exact .inl (.inl ⟨a,xs,rfl,.of e1,λl hl=>fin _ _ _ [l] ⟨Qk hl,.lst Qn (r9.cut.same (Qk hl)),by simp,λb m=>by rw [List.mem_singleton.mp m];exact hl⟩ hq⟩)
 ·have q3:=q4
  cases r3 with
  | @kls a xs _ e1 r9 =>
   obtain ⟨hp,hq⟩:=q3
   exact .inl (.inl ⟨a,xs,rfl,e1.sq,λl hl=>fin _ _ _ [l] ⟨Qk hl,.lst Qn (r9.cut.same (Qk hl)),by simp,λb m=>by rw [List.mem_singleton.mp m];exact hl⟩ hq⟩)
 ·have q3:=q4
  cases r3 with
  | @tup a xs _ F e1 r9 =>
   obtain ⟨hp,hq⟩:=q3
   obtain ⟨_,r9⟩:=r9.pure hp
   by_cases hn:HT.sIx ds.length 0 lo=0/\HT.sIx ds.length ds.length hi=ds.length
   ·rw [Qkg hn] at hq
    exact .inr ⟨a,xs,rfl,.of e1,by rw [r9.length];exact hn,fin _ _ _ [] (.flat (.tup e1 r9)) hq⟩
   ·exact .inl (.inr ⟨a,xs,rfl,.of e1,by rw [r9.length];exact hn,λl hl=>fin _ _ _ [] ⟨Qk hl,.tup Qn (r9.cut.same (Qk hl)),by simp,λb m=>nomatch m⟩ hq⟩)
end
end PV
namespace PV
open PySem PySem.Spec L2
section
variable {κ:Type} [DecidableEq κ]
end
section
variable {K:PySem.W.Frag} {H:Hp}
end
section
variable {X:Cx} {T:Tg} {m o m0 m1 m2 m3 o1 o2:Bool} {e a b:Expr} {w wa wb we:WE} {pos p2 p:Pos} {es:List Expr} {wr:WA} {x y:Str} {wt:WT} {ws:WS}
end
end PV
namespace PV
open PySem PySem.Spec L2
section
variable {X:Cx} {T:Tg} {m o m0 m1 m2 m3 o1 o2:Bool} {e a b:Expr} {w wa wb we:WE} {pos p2 p:Pos} {es:List Expr} {wr:WA} {x y:Str} {wt:WT} {ws:WS}
end
end PV
namespace PV
open PySem PySem.Spec L2
section
variable {X:Cx} {T:Tg} {m o m0 m1 m2 m3 o1 o2:Bool} {e a b:Expr} {w wa wb we:WE} {pos p2 p:Pos} {es:List Expr} {wr:WA} {x y:Str} {wt:WT} {ws:WS}
end
end PV
namespace PV
open PySem PySem.Spec L2
section
variable {X:Cx} {T:Tg} {m o m0 m1 m2 m3 o1 o2:Bool} {e a b:Expr} {w wa wb we:WE} {pos p2 p:Pos} {es:List Expr} {wr:WA} {x y:Str} {wt:WT} {ws:WS}
end
end PV
namespace PV
open PySem PySem.Spec L2
section
variable {X:Cx} {T:Tg} {m o:Bool}
end
end PV
namespace PV
open PySem PySem.Spec L2
section
variable {X:Cx} {T:Tg} {m o m0 m1 m2 m3 o1 o2:Bool} {e a b:Expr} {w wa wb we:WE} {pos p2 p:Pos} {es:List Expr} {wr:WA} {x y:Str} {wt:WT} {ws:WS}
def dSum:GA
 | [.lst ds],k=>∃ns:List Int,ds=ns.map D.int/\k (.int ns.sum)
 | _,_=>False
def Qgz:GA
 | [.dik kvs],k=>∃ns:List Int,kvs.map (·.1)=ns.map Sum.inl/\kvs.length<64/\∀out:List Int,out.Perm ns->out.Pairwise (· <= ·)->k (.lst (out.map D.int))
 | _,_=>False
theorem Qmo (hc:X.calm=true):Qbp X (.builtin "sorted") Qgz:=by
 refine ⟨_,Qh1 hc,λH ds xs F k Q r g q=>?_⟩
 cases ds with
 | nil=>exact (show False from g).elim
 | cons d ds =>
  cases ds with
  | cons _ _=>cases d <;> exact (show False from g).elim
  | nil =>
   cases d with
   | dik es =>
    obtain ⟨v,rfl,rd⟩:=r.at1
    obtain ⟨ns,hk,h64,g⟩:=g
    cases rd with
    | dik e r9 =>
    refine ⟨_,_,ns,rfl,.of e,by rw [r9.keys];exact hk,by rw [r9.length];exact h64,λout D hp ho hD=>?_⟩
    exact q _ _ _ [D] ⟨Qk hD,.lst Qn (Reps.ints out),by simp,λc m=>by rw [List.mem_singleton.mp m];exact hD⟩ (g out hp ho)
   | _=>exact (show False from g).elim
end
end PV
namespace PV
open PySem PySem.Spec L2
section
variable {X:Cx} {T:Tg} {m o m0 m1 m2 m3 me o1 o2:Bool} {e a b:Expr} {w wa wb we:WE} {pos p2 p:Pos} {es:List Expr} {wr:WA} {x y:Str} {wt:WT} {ws:WS}
def TB (q:Nat):Tg:={ own:=λi=>i == q,io:=[q] }
end
end PV
namespace PV
open PySem PySem.Spec L2
open PyProof.Rows (envOfC)
section
variable {X:Cx} {T:Tg} {m o m0 m1 m2 m3 o1 o2:Bool} {e a b:Expr} {w wa wb we:WE} {pos p2 p:Pos} {es:List Expr} {wr:WA} {x y:Str} {wt:WT} {ws:WS} {k:Nat} {ps:List Str}
end
section
variable {K:PySem.W.Frag} {x:Str} {qual:Str} {st:Stmt} {f:Addr} {fd:FuncData} {N ps:List Str} {T:Tg} {P:Program} {w:World} {mg:Str->Option Value} {base:Heap} {k:Nat} {ww:WS}
end
end PV
namespace L2
open PySem PySem.Spec PyProof.Rows
section
variable {X:Cx} {es:List Expr} {t:TA} {pos:Pos}
def Qtx (t:TA):TE:=λσ H Q=>t σ H λxs H1=>xs.length<=sizeLine/\∀p o,H1 p=none->Q (.ref p) (upd H1 p (.frz o (.lst xs)))
theorem Qo3 (h:PA X es t):PE X (.List es pos) (Qtx t):=by
 intro pins s σ H Q I hq
 refine wpAny_List_spliced (thn (h pos pins s σ H _ I hq) λus s1 ⟨xs,H1,I1,r,z,q⟩=>⟨by rw [← r.length];exact z,?_⟩)
 have hf:H1 s1.heap.objs.size=none:=I1.hok.fresh (Nat.le_refl _)
 refine ⟨.ref s1.heap.objs.size,upd H1 s1.heap.objs.size (.frz { cls:=.type "list",data:=.seq us.toArray } (.lst xs)),I1.laid (t':=s1.toks) (λb u e=>Heap.get?_push_of_some _ e) (Nat.le_refl _) ?_,rfl,q _ _ hf⟩
 exact ⟨Heap.get?_push_size _ rfl,z,us,0,r,Heap.get?_push_size _ rfl⟩
end
end L2
namespace PV
open PySem PySem.Spec L2
section
variable {X:Cx} {T:Tg} {m o m0 m1 m2 m3 me o1 o2:Bool} {e a b:Expr} {w wa wb we:WE} {pos p2 p:Pos} {es:List Expr} {wr:WA} {x y:Str} {wt:WT} {ws:WS}
def dAll:GA
 | [.lst ds],k=>∃bs:List Bool,ds=bs.map D.bl/\k (.bl (bs.all id))
 | _,_=>False
def Qtr (wr:WA):WE:=λρ Q=>wr ρ λds ρ'=>Qm ds=true/\ds.length<=sizeLine/\Q (.fls ds) ρ'
theorem Qu2 (h:AV X T m o es wr):EV X T m true (.List es pos) (Qtr wr):=by
 obtain ⟨ta,pa,ga⟩:=h
 refine ⟨_,Qo3 pa,λz R σ H W ρ Q Q' s hw k=>?_⟩
 refine ga z R σ H W ρ _ _ s hw λvs H1 W1 ds ρ1 F p q=>?_
 obtain ⟨hp,hz,q⟩:=q
 obtain ⟨-,r⟩:=p.rep.pure hp
 exact ⟨by rw [p.rep.length];exact hz,λa ob ha=>k _ _ W1 (.fls ds) ρ1 [] (Post.fin p.sr p.fr p.calm (Qk ha) (.fls Qn (r.same (Qk ha))) List.nodup_nil (λb m=>nomatch m)) q⟩
def Um (ρ:Env) (d1 d2:D) (ix:List Nat):Env:=some d1::some d2::ix.map (look ρ)
def two2 (d:D) (k:D->D->Prop):Prop:=match d with
 | .tup [a,b]=>k a b
 | .kc (.tup [a,b])=>k (kcD a) (kcD b)
 | _=>False
theorem two2_rep {K:PySem.W.Frag} {H:Hp} {d:D} {v:V} {F:List Addr} {k:D->D->Prop} (r:Rep K H d v F) (q:two2 d k):∃av v1 v2 d1 d2 F1 F2,v=.ref av/\SqT K H av [v1,v2]/\Rep K H d1 v1 F1/\Rep K H d2 v2 F2/\k d1 d2:=by
 cases r with
 | @tup a xs ds F e r =>
  match ds,r,q with
  | [d1,d2],r,q =>
   obtain ⟨v1,v2,F1,F2,rfl,r1,r2⟩:=r.at2
   exact ⟨a,v1,v2,d1,d2,F1,F2,rfl,.of e,r1,r2,q⟩
 | @kc c v h =>
  match c,h,q with
  | .tup [d1,d2],h,q =>
   obtain ⟨a,xs,rfl,hs,ar⟩:=h.sqT
   have r:Reps K H [kcD d1,kcD d2] xs []:=ar.reps
   obtain ⟨v1,v2,F1,F2,rfl,r1,r2⟩:=r.at2
   exact ⟨a,v1,v2,kcD d1,kcD d2,F1,F2,rfl,hs H,r1,r2,q⟩
 | _=>exact (show False from q).elim
def Qg3 (ds:List D) (wt:WT) (we:WE) (ρ1:Env) (ix:List Nat) (Q:D->Env->Prop):Prop:=∃I:Nat->List D->Prop,I 0 [] /\
 (∀i d ys,ds[i]? = some d->I i ys->ys.length<sizeLine/\two2 d λd1 d2=>wt (Um ρ1 d1 d2 ix) λb _=>if b=true then we (Um ρ1 d1 d2 ix) (λy _=>I (i+1) (ys++[y])) else I (i+1) ys) /\
 ∀ys,I ds.length ys->ys.length<=sizeLine/\Q (.lst ys) ρ1
def Ua (wl:WL) (wt:WT) (we:WE) (ix:List Nat):WE:=λρ Q=>wl ρ λds ρ1=>Qg3 ds wt we ρ1 ix Q
def Qkx (X:Cx) (T:Tg) (m:Bool) (elt iter tg:Expr) (ts:List Str) (gt:TG) (scope:Scope) (ifs:List Expr) (ix:List Nat) (w:WE):Prop :=
 ∃(wi:TI) (tt:TT) (te:TE),PI X tg iter wi/\(∀cl C s₀ H₀ fp,PIfs (Zg X scope cl C (bN2 X.N ts ix) s₀ H₀ fp) ifs tt)/\(∀cl C s₀ H₀ fp,PE (Zg X scope cl C (bN2 X.N ts ix) s₀ H₀ fp) elt te) /\
  ∀(z:Nat->V) (R:Addr->Prop) (σ:St) (H:Hp) (W:Addr->Prop) (ρ:Env) (Q:D->Env->Prop) (Q':VK),SR X.K T z R H W σ ρ->w ρ Q ->
   (∀v H' W' d ρ' F,Post X.K T z R m true H W σ ρ H' W' ρ' d v F->Q d ρ'->Q' v H')->Qm1 ts wi gt tt te ix σ H Q'
def g2 (K:PySem.W.Frag):TG:=gTup K 2 (Qpt (Qfi 0) (Qpt (Qfi 1) gNil))
theorem Qc4 {elt iter:Expr} {px py pt:Pos} {kt:Nat} {scope:Scope} {ifs:List Expr} {wl:WL} {pr:Bool} (ix:List Nat) (hi:IV X T m pr (.Tuple [.Name x px,.Name y py] kt pt) iter wl)
  (ht:∀cl C s₀ H₀ fp,CV (Zg X scope cl C (bN2 X.N [x,y] ix) s₀ H₀ fp) ifs wt) (he:∀cl C s₀ H₀ fp,EV (Zg X scope cl C (bN2 X.N [x,y] ix) s₀ H₀ fp) TR false true elt we) :
  Qkx X T m elt iter (.Tuple [.Name x px,.Name y py] kt pt) [x,y] (g2 X.K) scope ifs ix (Ua wl wt we ix):=by
 obtain ⟨wi,pi,gi⟩:=hi
 refine ⟨wi,λσ H Q=>∀cl C s₀ H₀ fp,Classical.choose (ht cl C s₀ H₀ fp) σ H Q,λσ H Q=>∀cl C s₀ H₀ fp,Classical.choose (he cl C s₀ H₀ fp) σ H Q,pi,
  λcl C s₀ H₀ fp pins s σ H Q I h=>(Classical.choose_spec (ht cl C s₀ H₀ fp)).1 pins s σ H Q I (h cl C s₀ H₀ fp),λcl C s₀ H₀ fp pins s σ H Q I h=>(Classical.choose_spec (he cl C s₀ H₀ fp)).1 pins s σ H Q I (h cl C s₀ H₀ fp),?_⟩
 intro z R σ H W ρ Q Q' s hw k
 refine gi z R σ H W ρ _ _ s hw λJ H1 W1 ds ρ1 p jd q=>?_
 obtain ⟨I,h0,hI,hd⟩:=q
 refine ⟨λi n ys H2=>n=ds.length-i/\i<=ds.length/\Same H1 H2/\∃es F,Reps X.K H2 es ys F/\F.Nodup/\(∀a∈F,H1 a=none)/\I i es,ds.length,⟨by simp,Nat.zero_le _,Same.refl _,[],[],.nil,List.nodup_nil,(λa m=>(nomatch m)),h0⟩,?_⟩
 rintro i n ys H2 ⟨rfl,hi,sm,es,F,re,nd,nw,i2⟩
 obtain ⟨j1,j2⟩:=jd i H2 (wz pr W1) (FrW.same _ sm)
 by_cases hlt:i<ds.length
 ·have hdi:ds[i]? = some ds[i]:=List.getElem?_eq_getElem hlt
  obtain ⟨hgo,hy⟩:=j2 _ hdi
  obtain ⟨hz,q1⟩:=hI i _ es hdi i2
  refine .inr ⟨hgo,by rw [re.length];exact hz,λv H3 yl o ol=>?_⟩
  obtain ⟨sm3,Fv,rv,_⟩:=hy v H3 yl
  generalize ds[i]=dd at q1 rv
  obtain ⟨av,v1,v2,d1,d2,F1,F2,rfl,ev,r1,r2,q1⟩:=two2_rep rv q1
  ··refine ⟨av,[v1,v2],rfl,ev,rfl,v1,[v2],rfl,v2,[],rfl,rfl,[some v1,some v2],?_,rfl,?_⟩
    ·match o,ol with
     | [o1,o2],_=>rfl
    have srB:∀z',SR X.K TR z' (Any H3) H3 (λ_=>False) (((bS2 σ o ix).set 0 (some v1)).set 1 (some v2)) (Um ρ1 d1 d2 ix):=λz'=>by
     have eS:((bS2 σ o ix).set 0 (some v1)).set 1 (some v2)=bS2 σ [some v1,some v2] ix:=by
      match o,ol with
      | [o1,o2],_=>rfl
     rw [eS]
     refine SR.readonly rfl (by simp [bS2,Um]) λj d hj=>⟨rfl,?_⟩
     match j with
     | 0 =>
      simp only [Um,look,Option.some.injEq] at hj
      subst hj
      exact ⟨v1,F1,rfl,r1⟩
     | 1 =>
      simp only [Um,look,Option.some.injEq] at hj
      subst hj
      exact ⟨v2,F2,rfl,r2⟩
     | j+2 =>
      have hj':look (ix.map (look ρ1)) j=some d:=hj
      rw [Qcu] at hj'
      cases hx:ix[j]? with
      | none=>rw [hx] at hj';cases hj'
      | some q =>
       rw [hx] at hj'
       obtain ⟨fp,s1⟩:=(p.sr.same sm).same sm3
       obtain ⟨u,hu,ru⟩:=s1.at_ q d hj'
       refine ⟨u,fp q,?_,ru⟩
       show (ix.map λi=>(σ[i]?).getD none)[j]? = some (some u)
       rw [List.getElem?_map,hx]
       simp [hu]
    intro cl C s₀ H₀ fp
    refine (Classical.choose_spec (ht cl C s₀ H₀ fp)).2 (λ_=>.non) (Any H3) _ H3 (λ_=>False) (Um ρ1 d1 d2 ix) _ _ (srB _) q1 λbb H4 W4 ρ4 p4 q4=>?_
    obtain ⟨sm4,hW4,hρ4⟩:=p4.calm rfl
    have re4:=((re.same sm3).same sm4)
    cases bb with
    | false=>exact ⟨ds.length-(i+1),by omega,rfl,hlt,(sm.trans sm3).trans sm4,es,F,re4,nd,nw,q4⟩
    | true =>
     show if true=true then _ else _
     rw [if_pos rfl]
     intro cl C s₀ H₀ fp
     refine (Classical.choose_spec (he cl C s₀ H₀ fp)).2 (λ_=>.non) (Any H3) _ H4 W4 (Um ρ1 d1 d2 ix) _ _ (hρ4 ▸ p4.sr) (by simpa using q4) λu H5 W5 y ρ5 Fy p5 q5=>?_
     obtain ⟨sm5,_,_⟩:=p5.calm rfl
     obtain ⟨ny,ky⟩:=p5.own rfl
     have sm15:Same H1 H5:=((sm.trans sm3).trans sm4).trans sm5
     refine ⟨ds.length-(i+1),by omega,rfl,hlt,sm15,es++[y],F++Fy,(re4.same sm5).snoc p5.rep,Qav nd ny λa ha hf=>?_,λa ha=>?_,q5⟩
     ·obtain ⟨ob,e1,_⟩:=re4.dom a hf
      rw [(ky a ha).1] at e1;cases e1
     ·rcases List.mem_append.mp ha with ha | ha
      ·exact nw a ha
      ·exact ((sm.trans sm3).trans sm4).free (ky a ha).1
 ·have e:i=ds.length:=by omega
  subst e
  obtain ⟨hz,q1⟩:=hd es i2
  refine .inl ⟨j1 (Nat.le_refl _),by rw [re.length];exact hz,λl hl=>?_⟩
  have hl1:H1 l=none:=sm.free hl
  refine k _ _ W1 (.lst es) ρ1 (l::F) ⟨(p.sr.same sm).same (Qk hl),(p.fr.trans (FrW.same W1 sm)).trans (FrW.same W1 (Qk hl)),λh=>⟨((p.calm h).1.trans sm).trans (Qk hl),(p.calm h).2⟩,.lst Qn (re.same (Qk hl)),λ_=>⟨List.nodup_cons.mpr ⟨λh=>?_,nd⟩,λb hb=>?_⟩⟩ q1
  ·obtain ⟨ob,e1,_⟩:=re.dom l h
   rw [hl] at e1;cases e1
  ·rcases List.mem_cons.mp hb with rfl | hb
   ·exact ⟨p.fr.dom _ hl1,p.sr.nw hl1⟩
   ·exact ⟨p.fr.dom _ (nw b hb),p.sr.nw (nw b hb)⟩
structure CompB2 (X:Cx) (scope:Scope) (x y:Str) (ix:List Nat):Prop where
 B1:CompB X scope x ix
 B2:CompB X scope y ix
 nd:(bN2 X.N [x,y] ix).Nodup
theorem Qba {scope:Scope} {ix:List Nat} (sc:Scope) (N:List Str) (h:(Qmn sc scope N x ix && Qmn sc scope N y ix && decide (bN2 N [x,y] ix).Nodup)=true) (h1:X.env.scope=sc:=by rfl) (h2:X.N=N:=by rfl):CompB2 X scope x y ix:=by
 simp only [Bool.and_eq_true,decide_eq_true_eq] at h
 exact ⟨G3 sc N h.1.1 h1 h2,G3 sc N h.1.2 h1 h2,by rw [h2];exact h.2⟩
theorem pg2 {scope:Scope} {ix:List Nat} {px py pt:Pos} {kt:Nat} (B:CompB2 X scope x y ix) (hc:X.calm=true) (cl:List (Str × Addr)) (C:Addr) (s₀:Shared) (H₀:Hp) (fp:List Addr) :
  PG (Zg X scope cl C (bN2 X.N [x,y] ix) s₀ H₀ fp) (.Tuple [.Name x px,.Name y py] kt pt) (g2 X.K):=by
 have l1:(Zg X scope cl C (bN2 X.N [x,y] ix) s₀ H₀ fp).env.scope.names.lookup x=some .local:=lookup_relabel_local B.B1.B.lx
 have l2:(Zg X scope cl C (bN2 X.N [x,y] ix) s₀ H₀ fp).env.scope.names.lookup y=some .local:=lookup_relabel_local B.B2.B.lx
 exact Qng hc (Qcl (Qe6 (i:=0) B.nd rfl (.inl l1) (.inr l1)) (Qcl (Qe6 (i:=1) B.nd rfl (.inl l2) (.inr l2)) Qi6))
theorem Qc1 {elt iter:Expr} {px py pt:Pos} {kt:Nat} {scope:Scope} {ifs:List Expr} {ix:List Nat} (h:Qkx X T m elt iter (.Tuple [.Name x px,.Name y py] kt pt) [x,y] (g2 X.K) scope ifs ix w) (B:CompB2 X scope x y ix) (hc:X.calm=true:=by rfl)
  (hs:∀x,foldedSetIterable iter X.env x=pure x:=by intro _;rfl):EV X T m true (.ListComp elt [⟨.Tuple [.Name x px,.Name y py] kt pt,iter,ifs,0⟩] scope pos) w:=by
 obtain ⟨wi,tt,te,h1,h2,h3,h4⟩:=h
 exact ⟨_,Qlq ix hc B.B1.B B.B1.hix B.nd h1 (pg2 B hc) h2 h3 hs,h4⟩
end
end PV
namespace PV
open PySem PySem.Spec L2
open Builtin.Str (glued tooLong)
section
variable {X:Cx} {T:Tg} {m o m0 m1 m2 m3 me o1 o2:Bool} {e a b:Expr} {w wa wb we:WE} {pos p2 p:Pos} {es:List Expr} {wr:WA} {x y:Str} {wt:WT} {ws:WS}
end
end PV
namespace PV
open PySem PySem.Spec L2
open Builtin.Str (glued tooLong subAt)
section
variable {X:Cx} {T:Tg} {m o m0 m1 m2 m3 m4 me o1 o2:Bool} {e a b:Expr} {w wa wb we:WE} {pos p2 p:Pos} {es:List Expr} {wr:WA} {x y:Str} {wt:WT} {ws:WS}
end
end PV
namespace PV
open PySem PySem.Spec L2
section
variable {X:Cx} {T:Tg} {m o m0 m1 m2 m3 o1 o2:Bool} {e a b:Expr} {w wa wb we:WE} {pos p2 p:Pos} {es:List Expr} {wr:WA} {x y:Str}
end
end PV
namespace PV
open PySem PySem.Spec L2 PyProof.Rows
section
variable {X:Cx} {T:Tg} {m o m0 m1 m2 m3 me o1 o2:Bool} {e a b c:Expr} {w wa wb we:WE} {pos p2 p:Pos} {es:List Expr} {wr:WA} {x y:Str} {wt:WT} {ws:WS} {k:Nat} {ps:List Str} {tg:Expr}
theorem Qnn {i:Nat} (ht:T.own i=false:=by rfl) (hN:X.N[i]? = some x:=by rfl) (hv:Vis X.env.scope x:=by first | exact Or.inl rfl | exact Or.inr (Or.inl rfl) | exact Or.inr (Or.inr rfl)) (hd:(x == ("__debug__" : Str))=false:=by decide)
  (hcd:(x == ("__classdict__" : Str))=false:=by decide):IV X T false true tg (.Name x p) (Uu (wVar i)):=by
 refine ⟨_,Qi4 (Vd hN hv hd hcd),λz R σ H W ρ Q RR s hw k=>?_⟩
 unfold Uu wVar at hw
 cases hl:look ρ i with
 | none=>rw [hl] at hw;exact hw.elim
 | some d =>
 rw [hl] at hw
 have q:=hw
 obtain ⟨fp,s0⟩:=id s
 obtain ⟨v,h1,r0⟩:=s0.at_ i d hl
 have nW:∀b∈fp i,¬W b:=λb hb hw=>s0.wr b hw (s0.ro i d hl ht b hb)
 refine ⟨v,h1,?_⟩
 cases d with
 | tup ds =>
  obtain ⟨hp,q⟩:=q
  obtain ⟨hF,rp⟩:=r0.pure (by simpa [D.pure] using hp)
  cases rp with
  | @tup a xs _ _ e1 r =>
   refine ⟨a,rfl,.inr ⟨⟨xs,.of e1⟩,k _ H W ds ρ ⟨s,FrW.refl H W,λ_=>⟨Same.refl H,rfl,rfl⟩⟩ (λi H2 W2 f=>?_) q⟩⟩
   have e2:H2 a=some (.tup xs):=f.imm _ _ e1 rfl
   refine ⟨λhi=>⟨xs,.of e2,by rw [r.length];exact hi⟩,λd hd=>?_⟩
   obtain ⟨x,B,hx,rx,sx⟩:=r.get hd
   refine ⟨⟨xs,x,.of e2,hx⟩,λv H3 y=>?_⟩
   obtain ⟨rfl,y⟩:=y
   have:=y xs (.of e2)
   rw [hx] at this
   cases this
   exact ⟨Same.refl _,B,rx.keep f (λa ha=>(nomatch sx.subset ha)),(λa ha=>(nomatch sx.subset ha))⟩
 | lst ds =>
  generalize hfp:fp i=G at r0 nW
  cases r0 with
  | @lst a xs _ F e1 r =>
   refine ⟨a,rfl,.inl ⟨⟨xs,.of e1⟩,k _ H W ds ρ ⟨s,FrW.refl H W,λ_=>⟨Same.refl H,rfl,rfl⟩⟩ (λi H2 W2 f=>?_) q⟩⟩
   rw [Qb9] at f
   have e2:H2 a=some (.lst xs):=f.keep _ _ e1 (nW a List.mem_cons_self)
   refine ⟨λhi=>⟨xs,.of e2,by rw [r.length];exact hi⟩,λd hd=>?_⟩
   obtain ⟨x,B,hx,rx,sx⟩:=r.get hd
   refine ⟨⟨xs,x,.of e2,hx⟩,λv H3 y=>?_⟩
   obtain ⟨rfl,y⟩:=y
   have:=y xs (.of e2)
   rw [hx] at this
   cases this
   refine ⟨Same.refl _,B,rx.keep f λb hb=>nW b (List.mem_cons_of_mem _ (sx.subset hb)),λb hb hw=>?_⟩
   have hb':b∈a::F:=List.mem_cons_of_mem _ (sx.subset hb)
   rcases f.new b hw with h | h
   ·exact nW b hb' h
   ·obtain ⟨ob,e3,_⟩:=rx.dom b hb
    rw [h] at e3;cases e3
 | kc c =>
  cases c with
  | tup ks =>
   obtain ⟨-,rp⟩:=r0.pure (by rw [D.pure])
   cases rp with
   | kc h =>
    obtain ⟨a,xs,rfl,hs,ar⟩:=h.sqT
    exact ⟨a,rfl,.inr ⟨⟨xs,hs H⟩,k _ H W (ks.map kcD) ρ ⟨s,FrW.refl H W,λ_=>⟨Same.refl H,rfl,rfl⟩⟩ (Qss hs ar) q⟩⟩
  | _=>exact (show False from q).elim
 | _=>exact (show False from q).elim
end
section
variable {i j:Int} {k:D->Prop} {kk:D->D->Prop} {kvs:List (List Key × D)} {xs:List D}
theorem sz0:(0<=sizeLine)=True:=propext ⟨λ_=>trivial,λ_=>by decide⟩
theorem sz1:(1<=sizeLine)=True:=propext ⟨λ_=>trivial,λ_=>by decide⟩
theorem sz2:(2<=sizeLine)=True:=propext ⟨λ_=>trivial,λ_=>by decide⟩
theorem sz3:(3<=sizeLine)=True:=propext ⟨λ_=>trivial,λ_=>by decide⟩
theorem sz4:(4<=sizeLine)=True:=propext ⟨λ_=>trivial,λ_=>by decide⟩
end
end PV
namespace L2
open PySem PySem.Spec PyProof.Rows
section
variable {X:Cx} {e:Expr} {te:TE}
def tFrz (te:TE):TE:=λσ H Q=>te σ H λv H1=>∃a xs,v=.ref a/\H1 a=some (.lst xs)/\∀o,Q v (upd H1 a (.frz o (.lst xs)))
theorem Qnh (he:PE X e te):PE X e (tFrz te):=by
 intro pins s σ H Q I h
 refine thn (he pins s σ H _ I h) λv s1 ⟨x,H1,I1,r1,q⟩=>?_
 obtain ⟨a,xs,rfl,ha,q⟩:=q
 obtain ⟨z,its,n,rv,hob⟩:=(show Yx X.prog X.w H1 s1.heap a (.lst xs) from I1.hok a _ ha)
 exact ⟨.ref a,_,I1.write (x:=a) (e:=a) (o:=.frz _ (.lst xs)) (t':=s1.toks) (by rw [ha];trivial) (.inl rfl) (λb u _ q=>q) ⟨_,hob⟩ (show Yx X.prog X.w _ s1.heap a (.frz _ (.lst xs)) from ⟨hob,z,its,n,rv,hob⟩),r1,q _⟩
end
end L2
namespace PV
open PySem PySem.Spec L2 PyProof.Rows
section
variable {X:Cx} {T:Tg} {m o:Bool} {e:Expr} {w:WE} {tg:Expr}
def Qs6 (d:D) (k:D->Prop):Prop:=match d with
 | .lst xs=>Qm xs=true/\k (.fls xs)
 | _=>False
def wFrz (w:WE):WE:=λρ Q=>w ρ λd ρ'=>Qs6 d λd'=>Q d' ρ'
theorem Qtd (h:EV X T m true e w):EV X T m true e (wFrz w):=by
 obtain ⟨te,pe,ge⟩:=h
 refine ⟨_,Qnh pe,λz R σ H W ρ Q Q' s hw k=>?_⟩
 refine ge z R σ H W ρ _ _ s hw λv H1 W1 d ρ1 F p q=>?_
 cases d with
 | lst xs =>
  obtain ⟨hp,q⟩:=q
  obtain ⟨sr,fr,calm,rep,own⟩:=p
  obtain ⟨nd,own⟩:=own rfl
  cases rep with
  | @lst a ys _ G e1 r =>
   obtain ⟨hG,r⟩:=r.pure hp
   subst hG
   obtain ⟨ha,hW⟩:=own a List.mem_cons_self
   have hR:¬R a:=s.nr ha
   refine ⟨a,ys,rfl,e1,λob=>?_⟩
   have im:ImmK H1 (upd H1 a (.frz ob (.lst ys))):=Vx e1 rfl
   have ne:∀{b:Addr} {u:HO},H b=some u->b≠a:=λ{b u} hb z=>by rw [z,ha] at hb;cases hb
   have sr':SR X.K T z R (upd H1 a (.frz ob (.lst ys))) W1 σ ρ1:=by
    obtain ⟨fp,s0⟩:=sr
    have off:∀i d,look ρ1 i=some d->∀b∈fp i,b≠a:=λi d hl b hb hz=>by
     subst hz
     cases ht:T.own i with
     | true=>exact hW ((s0.own i d hl ht).2 b hb)
     | false=>exact hR (s0.ro i d hl ht b hb)
    refine ⟨fp,s0.len,λb hb=>?_,λi d hl=>?_,s0.own,s0.ro,s0.wr,λb hb=>?_,s0.dis,s0.fix⟩
    ·obtain ⟨u,h1,h2⟩:=s0.wd b hb
     exact ⟨u,by rw [Qy (show b≠a from λhz=>hW (by rw [← hz];exact hb))];exact h1,h2⟩
    ·obtain ⟨v,h1,h2⟩:=s0.at_ i d hl
     exact ⟨v,h1,h2.frame im λb hb=>Qy (off i d hl b hb)⟩
    ·obtain ⟨u,h1,h2⟩:=s0.rd b hb
     exact ⟨u,by rw [Qy (show b≠a from λhz=>hR (by rw [← hz];exact hb))];exact h1,h2⟩
   have fr':FrW H W (upd H1 a (.frz ob (.lst ys))) W1:=by
    refine ⟨λb u hb hn=>?_,λb hb=>?_,λb u hb hi=>?_,fr.new⟩
    ·rw [Qy (ne hb)];exact fr.keep b u hb hn
    ·by_cases hz:b=a
     ·rw [hz];exact ha
     ·rw [Qy hz] at hb;exact fr.dom b hb
    ·rw [Qy (ne hb)];exact fr.imm b u hb hi
   refine k _ _ W1 (.fls xs) ρ1 [] ⟨sr',fr',λhm=>?_,.fls Qn (r.frame im λb hb=>nomatch hb),λ_=>⟨List.nodup_nil,λb hb=>nomatch hb⟩⟩ q
   obtain ⟨c1,c2,c3⟩:=calm hm
   exact ⟨λb u hb=>by rw [Qy (ne hb)];exact c1 b u hb,c2,c3⟩
 | _=>exact (show False from q).elim
theorem SR0.freezeL {K:PySem.W.Frag} {z:Nat->V} {R:Addr->Prop} {H:Hp} {W:Addr->Prop} {σ:L2.St} {ρ:Env} {fp:Nat->List Addr} {s:Nat} {ds:List D} {a:Addr} {kvs:List V} {ob:Obj} (h:SR0 K T z R H W σ ρ fp)
  (hl:look ρ s=some (.lst ds)) (ht:T.own s=true) (hv:σ[s]? = some (some (.ref a))) (e:H a=some (.lst kvs)) (r:Reps K H ds kvs []) (hF:fp s=[a]) :
  SR K T z R (upd H a (.frz ob (.lst kvs))) (λb=>W b/\b≠a) σ (ρ.set s (some (.fls ds))):=by
 obtain ⟨nd,sw⟩:=h.own s _ hl ht
 rw [hF] at nd sw
 obtain ⟨na,ndF⟩:=List.nodup_cons.mp nd
 have hWa:=sw a List.mem_cons_self
 have hRa:¬R a:=h.wr a hWa
 have hi:ImmK H (upd H a (.frz ob (.lst kvs))):=Vx e rfl
 have notin:∀j d,look ρ j=some d->j≠s->a∉fp j:=λj d hj hne ha=>by
  cases hto:T.own j with
  | true=>exact h.dis s j _ d hl hj ht hto (λz=>hne z.symm) a (by rw [hF];exact List.mem_cons_self) ha
  | false=>exact hRa (h.ro j d hj hto a ha)
 refine ⟨λj=>if j=s then [] else fp j,?_,?_,?_,?_,?_,?_,?_,?_,h.fix⟩
 ·rw [List.length_set];exact h.len
 ·rintro b ⟨hb,hne⟩
  rw [Qy hne];exact h.wd b hb
 ·intro j d hj
  by_cases hjs:j=s
  ·subst hjs
   rw [Gw (Uh hl)] at hj
   cases hj
   exact ⟨_,hv,by rw [if_pos rfl];exact .fls Qn (r.upd e rfl (λh=>nomatch h))⟩
  ·rw [Q1 hjs] at hj
   obtain ⟨u,h1,h2⟩:=h.at_ j d hj
   refine ⟨u,h1,?_⟩
   rw [if_neg hjs]
   exact h2.frame hi λb hb=>Qy λz=>notin j d hj hjs (z ▸ hb)
 ·intro j d hj hto
  by_cases hjs:j=s
  ·subst hjs
   simp only [if_pos]
   exact ⟨List.nodup_nil,λb hb=>nomatch hb⟩
  ·rw [Q1 hjs] at hj
   simp only [if_neg hjs]
   exact ⟨(h.own j d hj hto).1,λb hb=>⟨(h.own j d hj hto).2 b hb,λz=>notin j d hj hjs (z ▸ hb)⟩⟩
 ·intro j d hj hto
  have hjs:j≠s:=λz=>by subst z;rw [ht] at hto;cases hto
  rw [Q1 hjs] at hj
  simp only [if_neg hjs]
  exact h.ro j d hj hto
 ·exact λb hb hr=>h.wr b hb.1 hr
 ·intro b hr
  rw [Qy (show b≠a from λz=>hRa (z ▸ hr))];exact h.rd b hr
 ·intro j k d d' hj hk tj tk hne b hb hb'
  by_cases hjs:j=s
  ·subst hjs
   have hkj:k≠j:=λz=>hne z.symm
   rw [Q1 hkj] at hk
   simp only [if_pos,if_neg hkj] at hb hb'
   exact nomatch hb
  ·rw [Q1 hjs] at hj
   simp only [if_neg hjs] at hb
   by_cases hks:k=s
   ·subst hks
    simp only [if_pos] at hb'
    exact nomatch hb'
   ·rw [Q1 hks] at hk
    simp only [if_neg hks] at hb'
    exact h.dis j k d d' hj hk tj tk hne b hb hb'
def Qsf (d:D) (k:List D->Prop):Prop:=match d with
 | .lst ds=>Qm ds=true/\k ds
 | _=>False
theorem Qdy {xs:List D} {k:List D->Prop}:Qsf (.lst xs) k=(Qm xs=true/\k xs):=rfl
end
end PV
namespace PV
open PySem PySem.Spec L2
open PyProof.Rows (envOfC)
section
variable {X:Cx} {T:Tg} {m:Bool} {w:WE} {pos:Pos} {x:Str}
end
end PV
namespace PV
open PySem PySem.Spec L2
section
variable {X:Cx} {T:Tg} {m o m0 m1 m2 m3 o1 o2:Bool} {e a b:Expr} {w wa wb we:WE} {pos p2 p:Pos} {es:List Expr} {wr:WA} {x y:Str} {wt:WT} {ws:WS}
end
end PV
namespace PV
open PySem PySem.Spec L2
def Qcx:List Value->List Int->Bool
 | [],[]=>true
 | .int i _::vs,j::js=>i == j && Qcx vs js
 | _,_=>false
def Qih (K:PySem.W.Frag) (a:Addr) (ns:List Int):Bool:=match K.lookup a with
 | some ⟨.type t,_,.seq its _,_⟩=>t == "tuple" && (decide (ns.length<=1000) && Qcx its.toList ns)
 | _=>false
theorem Xs:∀{vs:List Value} {ns:List Int},Qcx vs ns=true->Vals (ns.map V.int) vs
 | [],[],_=>.nil
 | .int i t::vs,j::js,h=>by
  unfold Qcx at h
  rw [Bool.and_eq_true] at h
  have e:i=j:=by simpa using h.1
  subst e
  exact .cons ⟨t,rfl⟩ (Xs h.2)
theorem Qk2 {K:PySem.W.Frag} {H:Hp} {a:Addr} {ns:List Int} (h:Qih K a ns=true):SqT K H a (ns.map V.int):=by
 unfold Qih at h
 split at h
 ·rename_i t d its n sl e
  rw [Bool.and_eq_true,Bool.and_eq_true] at h
  obtain ⟨h1,h2,h3⟩:=h
  have h1:t = "tuple":=by simpa using h1
  have h2:ns.length<=1000:=by simpa using h2
  subst h1
  have v:=Xs h3
  refine .inr ⟨_,its,n,e,rfl,rfl,?_,v⟩
  have:=v.length
  simp at this
  exact Nat.le_trans (show its.size<=1000 by omega) (by decide)
 ·cases h
section
variable {X:Cx} {T:Tg} {m o:Bool} {a:Expr} {pos p2 p:Pos} {wr:WA} {x:Str}
theorem Qgu {ns:List Int} (hm:∃a,X.mg x=some (.ref a)/\Qih X.K a ns=true) (hm2:X.mg "list" = none) (hg:Gl X x:=by rfl) (hg2:Gl X "list":=by rfl) (hd:(x == ("__debug__" : Str))=false:=by decide)
  (hs:starEach [.Name x p2] X.env=(false,eval (.Name x p2) X.env)::starEach [] X.env:=by rfl):EV X T false true (.Call (.Name "list" p) [.Name x p2] [] pos) (wC (.lst (ns.map .int))):=by
 obtain ⟨a,h1,h2⟩:=hm
 refine ⟨_,Qd1 Xt hg2 hm2 (by rfl) (Z4 (Qe7 hg h1 (v:=.ref a) rfl hd) Xr hs),λz R σ H W ρ Q Q' s hw k=>?_⟩
 refine ⟨a,_,rfl,.inr (Qk2 h2),λl hl=>?_⟩
 exact k _ _ W (.lst (ns.map .int)) ρ [l] (Post.fin s (FrW.refl H W) (λ_=>⟨Same.refl H,rfl,rfl⟩) (Qk hl) (.lst Qn (Reps.ints ns)) (by simp) λb mb=>by rw [List.mem_singleton.mp mb];exact hl) hw
theorem Reps.back0 {K:PySem.W.Frag} {H:Hp} {ds:List D} {xs:List V} {F:List Addr} (r:Reps K H ds xs F):F=[]->Reps K H ds.reverse xs.reverse []:=by
 induction r using Reps.rec (motive_1:=λ_ _ _ _=>True) (motive_3:=λ_ _ _ _=>True) (motive_4:=λ_ _ _ _=>True) with
 | nil=>exact λ_=>.nil
 | cons h r ih1 ih2 =>
  intro e
  obtain ⟨rfl,rfl⟩:=List.append_eq_nil_iff.mp e
  rw [List.reverse_cons,List.reverse_cons]
  exact Reps.append (F:=[]) (G:=[]) (ih2 rfl) (Reps.one h)
 | _=>trivial
theorem Reps.back {K:PySem.W.Frag} {H:Hp} {ds:List D} {xs:List V} (r:Reps K H ds xs []):Reps K H ds.reverse xs.reverse []:=r.back0 rfl
def Qp3:GA
 | [.lst ds],k=>Qm ds=true/\k (.lst ds.reverse)
 | _,_=>False
theorem Qhy {p3 p4 pos2:Pos} (hm:X.mg "reversed" = none) (hm2:X.mg "list" = none) (ha:AV X T m o [a] wr) (hg:Gl X "reversed":=by rfl) (hg2:Gl X "list":=by rfl) (hc:X.calm=true:=by rfl) (hs:starEach [a] X.env=[(false,eval a X.env)]:=by rfl)
  (hs2:starEach [.Call (.Name "reversed" p4) [a] [] pos2] X.env=(false,eval (.Call (.Name "reversed" p4) [a] [] pos2) X.env)::starEach [] X.env:=by rfl) :
  EV X T m true (.Call (.Name "list" p3) [.Call (.Name "reversed" p4) [a] [] pos2] [] pos) (Qh Qp3 wr):=by
 obtain ⟨ta,pa,ga⟩:=ha
 refine ⟨_,Qhj hc hg hm hg2 hm2 pa hs hs2,λz R σ H W ρ Q Q' s hw k=>?_⟩
 refine ga z R σ H W ρ _ _ s hw λvs H1 W1 ds ρ1 F p q=>?_
 match ds,p,q with
 | [.lst es],p,q =>
  obtain ⟨hp,q⟩:=q
  obtain ⟨v,rfl,rd⟩:=p.rep.at1
  cases rd with
  | @lst a1 xs _ F e1 r9 =>
   obtain ⟨_,r9⟩:=r9.pure hp
   refine ⟨a1,xs,rfl,.inl (.of e1),λl hl=>?_⟩
   exact k _ _ W1 (.lst es.reverse) ρ1 [l] (Post.fin p.sr p.fr p.calm (Qk hl) (.lst Qn (r9.back.same (Qk hl))) (by simp) λb mb=>by rw [List.mem_singleton.mp mb];exact hl) q
end
theorem Qld {ds:List D} {k:D->Prop}:Qp3 [.lst ds] k=(Qm ds=true/\k (.lst ds.reverse)):=rfl
end PV
namespace PV
open PySem PySem.Spec L2
theorem Vr {α:Type} (xs:List α) (j:Nat):L2.atI xs (j:Int)=xs[j]?:=by
 unfold L2.atI ixN
 rw [if_pos (by omega)]
 by_cases h:j<xs.length
 ·rw [if_pos (by omega)];simp
 ·rw [if_neg (by omega)];simp;omega
theorem Z7 {α:Type} (xs:List α):L2.atI xs 0=xs[0]?:=Vr xs 0
theorem Vs {α:Type} (xs:List α):L2.atI xs 1=xs[1]?:=Vr xs 1
theorem Qjo {n j:Nat} (h:j<n):ixN n (j:Int)=some j:=by
 unfold ixN
 rw [if_pos (by omega),if_pos (by omega)];simp
theorem Qsv {n:Nat} (h:0<n):ixN n 0=some 0:=Qjo h
theorem Qi {α:Type} {d:α} {k:α->Prop}:oget (some d) k=k d:=rfl
theorem Qu {i:Nat} {ρ:Env} {Q:D->Env->Prop}:wVar i ρ Q=oget (look ρ i) λd=>Q d ρ:=by
 unfold wVar oget
 cases look ρ i <;> rfl
section
variable {i j:Int} {x y:Str} {xs ys:List D} {k:D->Prop} {b c:Bool} {d e:D} {kvs:List (Key × D)} {kts:List (List Key × D)}
theorem V7:dSub (.int i) (.int j) k=k (.int (i-j)):=rfl
theorem Qq1:dMul (.int i) (.int j) k=(CMul i j/\k (.int (i*j))):=rfl
theorem Qt8:dDiv (.int i) (.int j) k=((0<j/\j<1073741824/\k (.int (i / j)))\/(j<0/\j.natAbs<1073741824/\k (.int (i.fdiv j)))):=rfl
theorem Qt5:dMod (.int i) (.int j) k=((0<j/\k (.int (i % j)))\/(j<0/\k (.int (i.fmod j)))):=rfl
theorem Zq:dNeg (.int i) k=k (.int (-i)):=rfl
theorem Zr:dEq (.int i) (.int j) k=k (.bl (decide (i=j))):=rfl
theorem Qhh:dNe (.int i) (.int j) k=k (.bl (!decide (i=j))):=rfl
theorem Qq0:dNe (.bl b) (.bl c) k=k (.bl (!(b == c))):=rfl
theorem Z8:dEq (.str x) (.str y) k=k (.bl (decide (x=y))):=rfl
theorem Qt7:dEq (.tup xs) d k=(eqOk 9 (.tup xs)=true/\eqOk 9 d=true/\(.tup xs=d->k (.bl true))/\(.tup xs≠d->k (.bl false))):=by cases d <;> rfl
theorem Qqz:dNe (.tup xs) d k=(eqOk 9 (.tup xs)=true/\eqOk 9 d=true/\(.tup xs=d->k (.bl false))/\(.tup xs≠d->k (.bl true))):=by cases d <;> rfl
theorem Qdw:dEq (.lst xs) d k=(eqOk 9 (.lst xs)=true/\eqOk 9 d=true/\(.lst xs=d->k (.bl true))/\(.lst xs≠d->k (.bl false))):=by cases d <;> rfl
theorem Qlb:dNe (.lst xs) d k=(eqOk 9 (.lst xs)=true/\eqOk 9 d=true/\(.lst xs=d->k (.bl false))/\(.lst xs≠d->k (.bl true))):=by cases d <;> rfl
theorem Z3 {f:Int->Int->Bool}:dCmp f (.int i) (.int j) k=k (.bl (f i j)):=rfl
theorem Yz:dIx (.lst xs) (.int i) k=oget (L2.atI xs i) k:=rfl
theorem Xa:dIx (.tup xs) (.int i) k=oget (L2.atI xs i) k:=rfl
theorem Qiw:dIx (.kls xs) (.int i) k=oget (L2.atI xs i) k:=rfl
theorem Qq4:dIx (.dik kvs) (.int i) k=oget (valD kvs (.inl i)) k:=rfl
theorem Qal:dLen [.lst xs] k=k (.int xs.length):=rfl
theorem Qq2:dLen [.tup xs] k=k (.int xs.length):=rfl
theorem Qf9:dLen [.kls xs] k=k (.int xs.length):=rfl
theorem Qix:dInt [.bl b] k=k (.int (if b then 1 else 0)):=rfl
theorem Qq6:dAbs [.int i] k=k (.int (if i<0 then -i else i)):=rfl
theorem Qt6:Qhz [.int i,.int j] k=k (.int (if j > i then j else i)):=rfl
theorem Qcj:Vg [.lst xs] k=(Qm xs=true/\k (.lst xs)):=rfl
theorem Qak:Vg [.kls xs] k=(Qm xs=true/\k (.lst xs)):=rfl
theorem Gn:U1 [.lst xs] k=(Qm xs=true/\k (.tup xs)):=rfl
theorem Qq5 {t:Ty}:dIsi [d,.ty t] k=oget (isiD d t) λb=>k (.bl b):=rfl
theorem Qf8:dSet (.lst xs) (.int i) d k=oget (ixN xs.length i) λn=>k (.lst (xs.set n d)):=rfl
theorem Qol:dSet (.dik kvs) (.int i) d k=(kvs.length<sizeLine/\k (.dik (putD kvs (.inl i) d))):=rfl
variable {kk:D->D->Prop}
theorem Qe3:Vz (.lst xs) [d] kk=(xs.length<sizeLine/\kk .non (.lst (xs++[d]))):=rfl
theorem Qom:Qjy (.lst xs) [.int i] kk=(-(2 ^ 63)<=i/\i<2 ^ 63/\oget (seqIndex? i xs.length) λj=>oget xs[j]? λd=>d.pure=true/\kk d (.lst (xs.eraseIdx j))):=rfl
variable {ρ:Env} {w:WE} {QE:D->Env->Prop} {QL:List D->Env->Prop} {QB:Bool->Env->Prop}
end
section
variable {i j:Int} {k:D->Prop}
theorem Qdx (h:0<j) (h2:j<1073741824):dDiv (.int i) (.int j) k=k (.int (i / j)):=by
 rw [Qt8]
 apply propext
 exact ⟨λq=>q.elim (λz=>z.2.2) (λz=>absurd z.1 (by omega)),λq=>.inl ⟨h,h2,q⟩⟩
theorem Qdv (h:0<j):dMod (.int i) (.int j) k=k (.int (i % j)):=by
 rw [Qt5]
 apply propext
 exact ⟨λq=>q.elim (λz=>z.2) (λz=>absurd z.1 (by omega)),λq=>.inl ⟨h,q⟩⟩
theorem Qdu (h:-18446744073709551616<i) (h2:i<18446744073709551616):dMul (.int i) (.int j) k=k (.int (i*j)):=by
 rw [Qq1]
 exact propext ⟨λq=>q.2,λq=>⟨.inl ⟨by omega,by omega⟩,q⟩⟩
theorem Qna (h:-18446744073709551616<j) (h2:j<18446744073709551616):dMul (.int i) (.int j) k=k (.int (i*j)):=by
 rw [Qq1]
 exact propext ⟨λq=>q.2,λq=>⟨.inr ⟨by omega,by omega⟩,q⟩⟩
end
def blOf (d:D) (k:Bool->Prop):Prop:=match d with
 | .bl b=>k b
 | _=>False
theorem r_bl {w:WE} {ρ:Env} {Q:Bool->Env->Prop}:wBl w ρ Q=w ρ λd ρ'=>blOf d λb=>Q b ρ':=by
 show (w ρ λd ρ'=>match d with | .bl b=>Q b ρ' | _=>False)=_
 rfl
theorem Qr {b:Bool} {k:Bool->Prop}:blOf (.bl b) k=k b:=rfl
def Qn6 (d:D) (k:Bool->Prop):Prop:=oget (truD d) k
theorem Qiu {w:WE} {ρ:Env} {Q:Bool->Env->Prop}:wTru w ρ Q=w ρ λd ρ'=>Qn6 d λb=>Q b ρ':=by
 unfold wTru
 congr 1
 funext d ρ'
 unfold Qn6 oget
 cases truD d <;> rfl
theorem Qf7 {b:Bool} {k:Bool->Prop}:Qn6 (.bl b) k=k b:=rfl
def Qip (d:D) (k:List D->Prop):Prop:=match d with
 | .tup ds=>Qm ds=true/\k ds
 | .lst ds=>k ds
 | .kc (.tup ks)=>k (ks.map kcD)
 | _=>False
theorem Gp {w:WE} {ρ:Env} {Q:List D->Env->Prop}:Uu w ρ Q=w ρ λd ρ'=>Qip d λds=>Q ds ρ':=by
 show (w ρ λd ρ'=>match d with | .tup ds=>Qm ds=true/\Q ds ρ' | .lst ds=>Q ds ρ' | .kc (.tup ks)=>Q (ks.map kcD) ρ' | _=>False)=_
 rfl
theorem Qds {xs:List D} {k:List D->Prop}:Qip (.tup xs) k=(Qm xs=true/\k xs):=rfl
theorem Qdt {xs:List D} {k:List D->Prop}:Qip (.lst xs) k=k xs:=rfl
def Qsi (d:D) (k:List D->Prop):Prop:=match d with
 | .kls ds=>k ds
 | _=>False
theorem Qq3 {w:WE} {ρ:Env} {Q:List D->Env->Prop}:Qkz w ρ Q=w ρ λd ρ'=>Qsi d λds=>Q ds ρ':=by
 show (w ρ λd ρ'=>match d with | .kls ds=>Q ds ρ' | _=>False)=_
 rfl
theorem Qnb {xs:List D} {k:List D->Prop}:Qsi (.kls xs) k=k xs:=rfl
def Qs0 (d:D) (k:Option Int->Prop):Prop:=match d with
 | .int i=>k (some i)
 | _=>False
theorem Y8 {w:WE} {ρ:Env} {Q:Option Int->Env->Prop}:J6 w ρ Q=w ρ λd ρ'=>Qs0 d λi=>Q i ρ':=by
 show (w ρ λd ρ'=>match d with | .int i=>Q (some i) ρ' | _=>False)=_
 rfl
theorem Yj {i:Int} {k:Option Int->Prop}:Qs0 (.int i) k=k (some i):=rfl
theorem Qiz {wa wb:WE} {ρ:Env} {Q:D->Env->Prop}:Qib wa wb ρ Q=wa ρ λd ρ1=>blOf d λc=>if c=true then wb ρ1 Q else Q (.bl false) ρ1:=by
 show (wa ρ λd ρ1=>match d with | .bl c=>if c=true then wb ρ1 Q else Q (.bl false) ρ1 | _=>False)=_
 rfl
theorem Qt4 {wa wb:WE} {ρ:Env} {Q:D->Env->Prop}:wOrV wa wb ρ Q=wa ρ λd ρ1=>blOf d λc=>if c=true then Q (.bl true) ρ1 else wb ρ1 Q:=by
 show (wa ρ λd ρ1=>match d with | .bl c=>if c=true then Q (.bl true) ρ1 else wb ρ1 Q | _=>False)=_
 rfl
theorem Qqy {wa:WE} {ρ:Env} {Q:D->Env->Prop}:Qn3 wa ρ Q=wa ρ λd ρ1=>blOf d λc=>Q (.bl (!c)) ρ1:=by
 show (wa ρ λd ρ1=>match d with | .bl c=>Q (.bl (!c)) ρ1 | _=>False)=_
 rfl
def Qm9 (ds:List D) (k:List D->Prop):Prop:=match ds with
 | [.int j]=>-(2 ^ 62)<=j/\j<2 ^ 62/\k (rngD 0 j.toNat)
 | _=>False
theorem Qiv {wr:WA} {ρ:Env} {Q:List D->Env->Prop}:Qha wr ρ Q=wr ρ λds ρ'=>Qm9 ds λl=>Q l ρ':=by
 show (wr ρ λds ρ'=>match ds with | [.int j]=>-(2 ^ 62)<=j/\j<2 ^ 62/\Q (rngD 0 j.toNat) ρ' | _=>False)=_
 rfl
theorem Qe2 {j:Int} {k:List D->Prop}:Qm9 [.int j] k=(-(2 ^ 62)<=j/\j<2 ^ 62/\k (rngD 0 j.toNat)):=rfl
theorem Qga {n:Nat} {wgs:List D->Env->(Env->Prop)->Prop} {xs:List D} {ρ:Env} {Q:Env->Prop}:Qed n wgs (.tup xs) ρ Q=(xs.length=n/\wgs xs ρ Q):=rfl
theorem Qck {wg:WG} {wgs:List D->Env->(Env->Prop)->Prop} {d:D} {r:List D} {ρ:Env} {Q:Env->Prop}:Zu wg wgs (d::r) ρ Q=wg d ρ λρ'=>wgs r ρ' Q:=rfl
theorem Qgb {ρ:Env} {Q:Env->Prop}:Qee [] ρ Q=Q ρ:=rfl
theorem Qdr {xs:List D} {t:String}:tyD (some (.lst xs)) t=(t == "list"):=rfl
theorem Gs {α:Type} {f:α->D} {l:List α} (h:∀a∈l,(f a).pure=true):Qm (l.map f)=true:=by
 rw [Uf]
 intro x hx
 obtain ⟨a,ha,rfl⟩:=List.mem_map.mp hx
 exact h a ha
theorem Qa6 {α:Type} {f:α->D} {n:Nat} {l:List α} (h:∀a∈l,eqOk n (f a)=true):Zp n (l.map f)=true:=by
 rw [Qei]
 intro x hx
 obtain ⟨a,ha,rfl⟩:=List.mem_map.mp hx
 exact h a ha
def Qtj (ds:List D) (wt:WT) (we:WE) (ρ1:Env) (ix:List Nat) (Q:D->Env->Prop):Prop:=∃I:Nat->List D->Prop,I 0 [] /\
 (∀i d ys,ds[i]? = some d->I i ys->ys.length<sizeLine/\wt (blkE ρ1 d ix) λb _=>if b=true then we (blkE ρ1 d ix) (λy _=>I (i+1) (ys++[y])) else I (i+1) ys) /\
 ∀ys,I ds.length ys->ys.length<=sizeLine/\Q (.lst ys) ρ1
theorem Qiy {wl:WL} {wt:WT} {we:WE} {ix:List Nat} {ρ:Env} {Q:D->Env->Prop}:Qex wl wt we ix ρ Q=wl ρ λds ρ1=>Qtj ds wt we ρ1 ix Q:=rfl
def forI (ds:List D) (wg:WG) (wb:WS) (P:EndsP) (ρ1:Env):Prop:=∃I:Nat->Env->Prop,I 0 ρ1 /\
 (∀i d ρ,ds[i]? = some d->I i ρ->wg d ρ λρ'=>wb { P with nx:=I (i+1),ct:=I (i+1),bk:=P.nx } ρ')/\∀ρ,I ds.length ρ->P.nx ρ
theorem Qbg {wl:WL} {wg:WG} {wb:WS} {P:EndsP} {ρ:Env}:wFor wl wg wb P ρ=wl ρ λds ρ1=>Qm ds=true/\forI ds wg wb P ρ1:=rfl
end PV
namespace PV
open PySem PySem.Spec L2
section
variable {X:Cx} {T:Tg} {m o o1 o2 o3:Bool} {a b c:Expr} {wa wb wc:WE} {pos p2 p:Pos} {wr:WA} {x:Str}
end
end PV
namespace PV
open PySem PySem.Spec L2
open PyProof.Rows (envOfC)
abbrev GX:=List D->(D->Prop)->(D->Prop)->Prop
abbrev atN (K:PySem.W.Frag) (x:Str) (C:Addr):Prop:=PySem.W.nsIn K mainGlobals x=some (some (.ref C))
def spX (K:PySem.W.Frag) (g:GX):Sp:=λvs H Q E=>∃(ds:List D) (F:List Addr) (k kx:D->Prop),Reps K H ds vs F/\g ds k kx/\(∀v H' d F',Fin K H H' d v F'->k d->Q v H')/\∀x C H',atN K x C->Same H H'->kx (.obj x [])->E (.ref C) none H'
def Qdc (X:Cx) (T:Tg) (x:Str) (C:Addr):Prop:=∀pins σ H s h1 e vs,Inv X pins σ H s->Heap.MadeExcOf s.heap h1 e (.ref C) vs->T.xe (.obj x []) σ H->X.xe (.ref e) { s with heap:=h1 }
def Qg8 (X:Cx) (T:Tg):Prop:=∀pins σ H s e s',Inv X pins σ H s->CXE X.prog X.w X.base X.stack H s (λc _ H'=>∃C,c=.ref C/\∃x,atN X.K x C/\T.xe (.obj x []) σ H') e s'->X.xe e s'
section
variable {X:Cx} {T:Tg} {m o o1 o2 o3:Bool} {e a b c e₀:Expr} {es:List Expr} {w wa wb wc:WE} {pos p2 p np cpos hpos px:Pos} {wr:WA} {x y:Str} {ws wh:WS}
def Qde (x:Str) (wr:WA):WS:=λP ρ=>wr ρ λds ρ'=>ds.length<=1000/\P.xc (.obj x []) ρ'
theorem Qk3 {C:Addr} (k:ExcK X.K X.mg x C) (hX:Qdc X T x C) (ha:AV X T m o (e₀::es) wr) (hg:Gl X x:=by rfl) (hc:X.calm=true:=by rfl)
  (hdb:(x == ("__debug__" : Str))=false:=by decide) (he:starEach (e₀::es) X.env=(false,eval e₀ X.env)::starEach es X.env:=by rfl) (hpl:(backTo cpos (starEach es X.env)).any (·.1)=false:=by rfl) :
  SV X T (.Raise (some (.Call (.Name x np) (e₀::es) [] cpos)) none pos) (Qde x wr):=by
 obtain ⟨ta,pa,ga⟩:=ha
 refine ⟨_,Qlh (Ξ:=λσ H=>T.xe (.obj x []) σ H) k hg hc pa hX hdb he hpl,λz R σ H W ρ P E s hw l=>?_⟩
 refine ga z R σ H W ρ _ _ s hw λvs H1 W1 ds ρ1 F p q=>⟨?_,l.xc R σ H1 W1 ρ1 _ p.sr p.fr q.2⟩
 rw [p.rep.length]
 exact Nat.le_trans q.1 (by decide)
def CalX (P:Program) (w:World) (K:PySem.W.Frag) (mg:Str->Option Value) (base:Heap) (x:Str) (k:Nat) (ps:List Str) (sp:Sp):Prop :=
 ∃f fd,FnOk P w K mg base (CXE P w base) k f fd ps sp/\mg x=some (.ref f)/\PySem.W.keepIn K (.ref f)=true/\Qbe K fd ps []
def Qc5 (g:GX):GA:=λds k=>g ds k λ_=>False
theorem CalX.calm {P:Program} {w:World} {K:PySem.W.Frag} {mg:Str->Option Value} {base:Heap} {k:Nat} {ps:List Str} {g:GX} (C:CalX P w K mg base x k ps (spX K g)):Cal P w K mg base x k ps (spR K (Qc5 g)):=by
 obtain ⟨f,fd,F,h1,h2,h3⟩:=C
 have up:∀vs H Q E,spR K (Qc5 g) vs H Q E->spX K g vs H Q λ_ _ _=>False:=λvs H Q E ⟨ds,Fp,kk,r,hg,q⟩=>⟨ds,Fp,kk,λ_=>False,r,hg,q,λ_ _ _ _ _ z=>z⟩
 refine ⟨f,fd,⟨λvs H Q E h=>F.len vs H Q _ (up vs H Q E h),λA outer s H args us vs Q E hr e0 hb hv h=>codeAny_mono (F.run A outer s H args us vs Q _ hr e0 hb hv (up vs H Q E h)) λr s' q=>?_⟩,h1,h2,h3⟩
 cases r with
 | ok fl=>cases fl <;> exact q
 | error e=>obtain ⟨_,_,_,_,_,_,_,z⟩:=q;exact z.elim
end
end PV
namespace PV
open PySem PySem.Spec L2
open PyProof.Rows (envOfC)
section
variable {P:Program} {w:World} {K:PySem.W.Frag} {mg:Str->Option Value} {base:Heap} {x qual:Str} {st:Stmt} {f:Addr} {fd:FuncData} {N ps:List Str} {k:Nat} {T:Tg} {ww:WS}
theorem fn_x {g:GX} (F:Fun K x qual st f fd) (S:FnScope N ps (Qd st)) (hio:T.io=[]) (hown:∀i,i<ps.length->T.own i=false) (hg:∀ds kk kx,g ds kk kx->ds.length=ps.length)
  (hb:∀(cdv:Value) (A:Around) (outer:List PySem.Env) (s:Shared) (H:Hp) (E:XK) (XE:D->St->Hp->Prop),Room k (A.deeper (envOfC qual (Qd st) s.heap.objs.size f cdv)) ->
   (∀x C,atN K x C->Qdc (cxOf (CXE P w base) P w K mg base N qual (Qd st) f cdv A outer s H E) ⟨T.own,T.io,XE⟩ x C)->Qg8 (cxOf (CXE P w base) P w K mg base N qual (Qd st) f cdv A outer s H E) ⟨T.own,T.io,XE⟩->SVs (cxOf (CXE P w base) P w K mg base N qual (Qd st) f cdv A outer s H E) ⟨T.own,T.io,XE⟩ (Ql st) ww)
  (hr:∀ds kk kx,g ds kk kx->ww { nx:=λ_=>kk .non,rt:=λd _=>kk d,xc:=λd _=>kx d } (env0 N ds)):FnOk P w K mg base (CXE P w base) (k+1) f fd ps (spX K g):=by
 obtain ⟨oc,od,kV,doc,pm,an,cdv,ct,osl,rfl,lk,hcd⟩:=F.ex
 refine Qs7 lk hcd S (λvs H Q E h=>?_) λA outer s H vs Q E hroom h=>?_
 ·obtain ⟨ds,Fp,kk,kx,rep,hgk,_⟩:=h
  rw [rep.length];exact hg ds kk kx hgk
 ·obtain ⟨ds,Fp,kk,kx,rep,hgk,q,qx⟩:=h
  obtain ⟨ts,pts,gts⟩:=hb cdv A outer s H E (λd _ H'=>∀x C,atN K x C->d=.obj x []->E (.ref C) none H') hroom (λx C hn pins σ H1 s1 h1 e vs I hx hT =>
   Qhq (X:=cxOf (CXE P w base) P w K mg base N qual (Qd st) f cdv A outer s H E) ⟨rfl,rfl,rfl⟩ I hx λh' t B fl=>⟨e,C,t,B,H1,rfl,fl,hT x C hn rfl⟩) (λpins σ H1 s1 e s' I z=>by
   obtain ⟨ea,C,t,B,H',rfl,fl,C',eC,y,hn,hT⟩:=z
   cases eC
   exact Ql7 (X:=cxOf (CXE P w base) P w K mg base N qual (Qd st) f cdv A outer s H E) ⟨rfl,rfl,rfl⟩ I fl λh' fl'=>⟨ea,C,t,B,H',rfl,fl',hT y C hn rfl⟩)
  have hl:=rep.length
  have hds:=hg ds kk kx hgk
  refine ⟨ts,pts,gts (λ_=>.non) (Any H) (L2.start N vs) H (λ_=>False) (env0 N ds) _ _ (SR.readonly hio ?_ λi d hli=>?_) (hr ds kk kx hgk) ⟨?_,?_,?_,?_,?_⟩⟩
  ·unfold env0 L2.start;simp [hl]
  ·unfold env0 at hli
   rw [Ur] at hli
   obtain ⟨v,B,h1,h2,_⟩:=rep.get hli
   exact ⟨hown i (by rw [← hds];exact (List.getElem?_eq_some_iff.mp hli).1),v,B,Qdk h1,h2⟩
  ·intro R' σ' H' W' ρ' s' fr hk
   have sm:Same H H':=λb o e=>fr.keep b o e (λz=>z)
   exact q .non H' .non [] ⟨sm,.non,List.nodup_nil,λ_ m=>nomatch m⟩ hk
  ·exact λR' σ' H' W' ρ' s' fr hk=>hk.elim
  ·exact λR' σ' H' W' ρ' s' fr hk=>hk.elim
  ·intro R' v σ' H' W' ρ' d F' s' fr r nd nw hk
   have sm:Same H H':=λb o e=>fr.keep b o e (λz=>z)
   exact q v H' d F' ⟨sm,r,nd,λa ha=>(nw a ha).2.resolve_left id⟩ hk
  ·intro R' σ' H' W' ρ' d s' fr hk x C hn e
   subst e
   exact qx x C H' hn (λb o e=>fr.keep b o e (λz=>z)) hk
def Up (es:Array DictEntry):Bool:=es.toList.all λe=>match e.key with
 | .str _ _=>true
 | _=>false
theorem Qhg {es:Array DictEntry} (h:Up es=true):StrKeys es:=λe he=>by
 have:=List.all_eq_true.mp h e (by simpa using he)
 split at this
 ·rename_i n t q;exact ⟨n,t,q⟩
 ·cases this
theorem Qr9 {h:Heap} {a:Addr} {oc:Value} {od:Option Addr} {es:Array DictEntry} {ep:Nat} {sl:Array (Option Value)} (X:K.In h) (l:K.lookup a=some ⟨oc,od,.dict es ep,sl⟩) (s:Up es=true):h.Ns a (nsFind es):=⟨_,es,ep,X _ _ l,rfl,Qhg s,λ_=>rfl⟩
theorem Qpw {C TE N:Addr} {nm q:Str} {bs:List Value} {hdct:Bool} {sn:List Str} {sub:List Value} {ab:Bool} {col:Option Bool} {dd dd' od1 od2:Option Addr} {k0 k1 k2 k3 k5:Option Value} {c0 oc1 oc2:Value} {cd:ClassData} {sl sl1 sl2:Array (Option Value)} {es1 es2:Array DictEntry} {ep1 ep2:Nat}
  (hm:mg x=some (.ref C)) (l1:K.lookup C=some (excClassObj nm q C N bs (.ref TE::[.type "ValueError",.type "Exception",.type "BaseException",.type "object"]) hdct sn sub ab col dd k0 k1 k2 k3 k5 "ValueError.__new__")) (l2:K.lookup TE=some ⟨c0,dd',.cls cd,sl⟩)
  (n1:K.lookup N=some ⟨oc1,od1,.dict es1 ep1,sl1⟩) (n2:K.lookup cd.ns=some ⟨oc2,od2,.dict es2 ep2,sl2⟩) (s1:Up es1=true) (s2:Up es2=true) (i1:nsFind es1 "__init__" = none) (i2:nsFind es2 "__init__" = none):ExcK K mg x C :=
 ⟨hm,"ValueError","ValueError.__new__","ValueError.__init__",_,_,bs,nm,q,N,hdct,sn,sub,ab,col,dd,k0,k1,k2,k3,k5,nsFind es1,F.excBase_ValueError,rfl,i1,λh X=>⟨X _ _ l1,Qr9 X n1 s1,.own (X _ _ l2) (Qr9 X n2 s2) i2 .base⟩⟩
end
section
variable {X:Cx} {T:Tg} {o1 o2 o3:Bool} {a b c:Expr} {es:List Expr} {wa wb wc:WE} {pos p2 p q:Pos} {wr:WA} {x y v:Str} {ta:TA} {cv:V} {cl:Value} {i:Nat} {m o:Bool}
def Qey (g g':G2) (wa wb wc:WE):WE:=λρ Q=>wa ρ λx ρ1=>wb ρ1 λy ρ2=>g x y λd=>blOf d λk=>if k=true then wc ρ2 λu ρ3=>g' y u λd'=>Q d' ρ3 else Q (.bl false) ρ2
theorem Qmi {op op':CmpOp} {g g':G2} (ho:OpD X (compareOp op) g) (ho':OpD X (compareOp op') g') (ha:EV X T false o1 a wa) (hb:EV X T false o2 b wb) (hc:EV X T false o3 c wc)
  (hm:lastMarks [op,op'] [b,c]=false:=by with_unfolding_all rfl):EV X T false true (.Compare a [op,op'] [b,c] pos) (Qey g g' wa wb wc):=by
 obtain ⟨r,ro,gr⟩:=ho
 obtain ⟨r',ro',gr'⟩:=ho'
 obtain ⟨ta,pa,ga⟩:=ha
 obtain ⟨tb,pb,gb⟩:=hb
 obtain ⟨tc,pc,gc⟩:=hc
 refine ⟨_,Qlr ro ro' pa pb pc hm,λz R σ H W ρ Q Q' s hw k=>?_⟩
 refine two ga gb (.inr rfl) s hw λx y H2 W2 d1 d2 ρ2 F1 F2 s2 f2 c2 r1 r2 _ _ _ q2=>?_
 refine gr H2 d1 d2 x y F1 F2 _ _ r1 r2 q2 λv H3 d F fi hk=>?_
 have f3:=f2.trans (FrW.same W2 fi.same)
 cases d with
 | bl k0 =>
  refine ⟨k0,Qb1 fi.rep,?_⟩
  have hk:(if k0=true then wc ρ2 λu ρ3=>g' d2 u λd'=>Q d' ρ3 else Q (.bl false) ρ2):=hk
  cases k0 with
  | false =>
   rw [if_neg Bool.false_ne_true] at hk ⊢
   exact k (.bl false) H3 W2 (.bl false) ρ2 [] (Post.fin s2 f2 c2 fi.same (.bl false) (by simp) λb m=>nomatch m) hk
  | true =>
   rw [if_pos rfl] at hk ⊢
   refine gc z R σ H3 W2 ρ2 _ _ (s2.same fi.same) hk λu H4 W4 e ρ4 F' p q=>?_
   obtain ⟨a1,a2,a3⟩:=p.calm rfl
   exact gr' H4 d2 e y u F2 F' _ _ ((r2.same fi.same).same a1) p.rep q λv5 H5 d5 F5 fi5 hk5=>k v5 H5 W4 d5 ρ4 F5 (Post.fin p.sr (f3.trans p.fr) (λh=>⟨((c2 h).1.trans fi.same).trans a1,a2.trans (c2 h).2.1,a3.trans (c2 h).2.2⟩) fi5.same fi5.rep fi5.nd fi5.new) hk5
 | _=>exact hk.elim
end
end PV
namespace L2
open PySem PySem.Spec PyProof.Rows
section
variable {X:Cx}
end
end L2
namespace PV
open PySem PySem.Spec L2
section
variable {X:Cx} {T:Tg} {m o:Bool} {a b:Expr} {pos p:Pos} {wr:WA} {x:Str}
end
end PV
namespace PV
open PySem PySem.Spec L2
section
variable {X:Cx} {T:Tg} {o1:Bool} {e:Expr} {w:WE} {pos p q:Pos} {x:Str}
def Qn2 (i:Nat) (w:WE):WS:=λP ρ=>oget (look ρ i) λd=>w ρ λn _=>n.pure=true/\P.rt (.tup [d,n]) (ρ.set i none)
theorem Qoc {i:Nat} {kt} (he:EV X T false o1 e w) (ht:T.own i=true:=by rfl) (hN:X.N[i]? = some x:=by rfl) (hv:Vis X.env.scope x:=by first | exact Or.inl rfl | exact Or.inr (Or.inl rfl) | exact Or.inr (Or.inr rfl)) (hd:(x == ("__debug__" : Str))=false:=by decide)
  (hcd:(x == ("__classdict__" : Str))=false:=by decide) (hs:starEach [.Name x p,e] X.env=(false,eval (.Name x p) X.env)::starEach [e] X.env:=by rfl) (hs2:starEach [e] X.env=(false,eval e X.env)::starEach [] X.env:=by rfl):SV X T (.Return (some (.Tuple [.Name x p,e] kt q)) pos) (Qn2 i w):=by
 obtain ⟨te,pe,ge⟩:=he
 refine ⟨_,Qgc (Qi7 (Z4 (Vd hN hv hd hcd) (Z4 pe Xr hs2) hs)),λz R σ H W ρ P E s hw l=>?_⟩
 obtain ⟨d,hl,qw⟩:=Qw hw
 obtain ⟨fp,s0⟩:=id s
 obtain ⟨v,h1,h2⟩:=s0.at_ i d hl
 refine ⟨v,h1,ge z R σ H W ρ _ _ s qw λu H1 W1 n ρ1 F p qq=>?_⟩
 obtain ⟨hp,qq⟩:=qq
 obtain ⟨sm,hW,hρ⟩:=p.calm rfl
 obtain ⟨_,rn⟩:=p.rep.pure hp
 refine ⟨by show 2<=sizeLine;decide,λtp htp=>?_⟩
 have key:∀j e,look (ρ.set i none) j=some e->j≠i/\look ρ j=some e:=λj e h=>by
  rw [Zw] at h
  split at h
  ·cases h
  ·refine ⟨λz=>?_,h⟩
   subst z
   rename_i hn
   exact hn ⟨rfl,Uh hl⟩
 have sm2:Same H1 (upd H1 tp (.tup [v,u])):=Qk htp
 have smA:Same H (upd H1 tp (.tup [v,u])):=sm.trans sm2
 have rep:Rep X.K (upd H1 tp (.tup [v,u])) (.tup [d,n]) (.ref tp) (fp i):=by
  have r2:=Reps.append (F:=fp i) (G:=[]) (Reps.one ((h2.same sm).same sm2)) (Reps.one (rn.same sm2))
  rw [List.append_nil] at r2
  exact .tup Qn r2
 refine l.rt R (.ref tp) σ _ (λa=>W a/\a∉fp i) (ρ.set i none) (.tup [d,n]) (fp i) ⟨fp,?_⟩ ?_ rep (s0.own i d hl ht).1 (λa ha=>⟨λh=>h.2 ha,.inl ((s0.own i d hl ht).2 a ha)⟩) qq
 ·refine ⟨by rw [List.length_set];exact s0.len,λa h=>?_,λj e h=>?_,λj e h t=>⟨(s0.own j e (key j e h).2 t).1,λa ha=>⟨(s0.own j e (key j e h).2 t).2 a ha,λha'=>s0.dis j i e d (key j e h).2 hl t ht (key j e h).1 a ha ha'⟩⟩,
   λj e h t=>s0.ro j e (key j e h).2 t,λa h=>s0.wr a h.1,λa h=>?_,λj k e e' h h' t t'=>s0.dis j k e e' (key j e h).2 (key k e' h').2 t t',s0.fix⟩
  ·obtain ⟨ob,e1,e2⟩:=s0.wd a h.1
   exact ⟨ob,smA a ob e1,e2⟩
  ·obtain ⟨u',a1,a2⟩:=s0.at_ j e (key j e h).2
   exact ⟨u',a1,a2.same smA⟩
  ·obtain ⟨ob,e1,e2⟩:=s0.rd a h
   exact ⟨ob,smA a ob e1,e2⟩
 ·have hdom:∀b,(upd H1 tp (.tup [v,u])) b=none->H b=none:=λb e=>by
   cases q0:H b with
   | none=>rfl
   | some ob=>rw [smA b ob q0] at e;cases e
  exact ⟨λb ob e _=>smA b ob e,hdom,λb ob e _=>smA b ob e,λb h=>.inl h.1⟩
end
end PV
namespace PV
open PySem PySem.Spec L2
open PyProof.Rows (envOfC)
section
variable {X:Cx} {T:Tg} {m o:Bool} {e:Expr} {w:WE} {pos p:Pos} {x:Str} {k:Nat} {ps:List Str} {L:Lam} {g:GA}
end
section
variable {P:Program} {w:World} {K:PySem.W.Frag} {mg:Str->Option Value} {base:Heap} {x qual:Str} {st:Stmt} {f:Addr} {fd:FuncData} {N ps:List Str} {k:Nat} {T:Tg} {ww:WS} {TB:List (Addr × Array Value)}
end
end PV
namespace PV
open PySem PySem.Spec L2
section
variable {X:Cx} {T:Tg} {m o:Bool} {e:Expr} {w:WE} {pos p q:Pos} {x y:Str} {k:Nat}
def lsOf (d:D) (k:List D->Prop):Prop:=match d with
 | .lst xs=>k xs
 | _=>False
end
end PV
namespace PV
open PySem PySem.Spec L2
section
variable {X:Cx} {T:Tg} {m o:Bool} {e:Expr} {w:WE} {pos p q:Pos} {x y:Str} {k:Nat}
end
end PV
namespace PV
open PySem PySem.Spec L2
section
variable {i j:Int} {x y:Str} {xs ys:List D} {k:D->Prop} {b c:Bool} {d e:D} {kvs kus:List (Key × D)}
theorem Y0:Q6 (.int i) (.int j) k=k (.int (i+j)):=rfl
theorem Qop:Q6 (.tup xs) (.tup ys) k=(Qm xs=true/\Qm ys=true/\xs.length+ys.length<=sizeLine/\k (.tup (xs++ys))):=rfl
theorem Y5:Q6 (.lst xs) (.lst ys) k=(Qm xs=true/\Qm ys=true/\xs.length+ys.length<=sizeLine/\k (.lst (xs++ys))):=rfl
theorem Vc {lo hi:Option Int}:dSlT (.lst xs) lo hi k=(Qm xs=true/\k (.lst (cutD xs lo hi))):=rfl
theorem Qb2 {lo hi:Option Int}:dSlT (.kls xs) lo hi k=(Qm xs=true/\k (.lst (cutD xs lo hi))):=rfl
theorem Qrc:Qhb.noDct (.dik kvs)=false:=rfl
theorem Qrd:Qti (.dik kvs) (.int i) d k=k ((valD kvs (.inl i)).getD d):=rfl
end
end PV
namespace PV
open PySem PySem.Spec L2
section
variable {ns:List Int} {n:Int} {k:D->Prop} {xs:List D} {kvs:List (Key × D)}
theorem Qlc:Qgz [.dik kvs] k=∃ns:List Int,kvs.map (·.1)=ns.map Sum.inl/\kvs.length<64/\∀out:List Int,out.Perm ns->out.Pairwise (· <= ·)->k (.lst (out.map D.int)):=rfl
end
end PV
namespace PV
open PySem PySem.Spec L2
section
variable {i j:Int} {k:D->Prop} {xs ys:List D} {bs:List Bool} {d e:D}
theorem Qrb {k:D->D->Prop}:two2 (.tup [d,e]) k=k d e:=rfl
end
end PV
namespace PV
open PySem PySem.Spec L2
open PySem.W (Dat kqdP kqdPs kqdOk)
open PyProof.Rows (reads_tuple_at eq_dataH)
abbrev FnN (K:PySem.W.Frag) (mg:Str->Option Value) (y:Str):Prop:=∃f,mg y=some (.ref f)/\PySem.W.nsIn K mainGlobals y=some (some (.ref f))
mutual
def kcIn (K:PySem.W.Frag):KC->Value->Bool
 | .int i,.int j _=>decide (i=j)
 | .tup ks,.ref a=>match K.lookup a with
  | some ⟨.type t,_,.seq its _,_⟩=>t == "tuple" && (decide (its.size<=1000) && Qhr K ks its.toList)
  | _=>false
 | _,_=>false
def Qhr (K:PySem.W.Frag):List KC->List Value->Bool
 | [],[]=>true
 | c::cs,v::vs=>kcIn K c v && Qhr K cs vs
 | _,_=>false
end
mutual
theorem Qjn {K:PySem.W.Frag}:∀(c:KC) (u:Value),kcIn K c u=true->∃v,RelV v u/\IsKC K c v
 | .int i,u,h=>by
  cases u with
  | int j t =>
   rw [kcIn] at h
   obtain rfl:=of_decide_eq_true h
   exact ⟨.int i,⟨t,rfl⟩,.int i⟩
  | _=>simp [kcIn] at h
 | .tup ks,u,h=>by
  cases u with
  | ref a =>
   rw [kcIn] at h
   split at h
   ·rename_i t d its n sl e
    rw [Bool.and_eq_true,Bool.and_eq_true] at h
    obtain ⟨h1,h2,h3⟩:=h
    have h1:t = "tuple":=by simpa using h1
    subst h1
    obtain ⟨vs,r1,r2⟩:=Qgn ks its.toList h3
    exact ⟨.ref a,rfl,.tup e rfl rfl (Nat.le_trans (of_decide_eq_true h2) (by decide)) r1 r2⟩
   ·cases h
  | _=>simp [kcIn] at h
 | .any _,u,h=>by simp [kcIn] at h
 | .fn _,u,h=>by simp [kcIn] at h
theorem Qgn {K:PySem.W.Frag}:∀(cs:List KC) (us:List Value),Qhr K cs us=true->∃vs,Vals vs us/\AreKC K cs vs
 | [],us,h=>by
  cases us with
  | nil=>exact ⟨[],.nil,.nil⟩
  | cons _ _=>simp [Qhr] at h
 | c::cs,us,h=>by
  cases us with
  | nil=>simp [Qhr] at h
  | cons u us =>
   rw [Qhr,Bool.and_eq_true] at h
   obtain ⟨v,r1,r2⟩:=Qjn c u h.1
   obtain ⟨vs,q1,q2⟩:=Qgn cs us h.2
   exact ⟨v::vs,.cons r1 q1,.cons r2 q2⟩
end
abbrev KcN (K:PySem.W.Frag) (mg:Str->Option Value) (y:Str) (c:KC):Prop:=∃a,mg y=some (.ref a)/\kcIn K c (.ref a)=true
mutual
def nrmC:KC->D
 | .int i=>.int i
 | .tup ks=>.tup (Qjf ks)
 | .any _=>.ty .int
 | .fn _=>.ty .int
def Qjf:List KC->List D
 | []=>[]
 | c::r=>nrmC c::Qjf r
end
mutual
def nrmD:D->D
 | .tup xs=>.tup (Xe xs)
 | .kc c=>nrmC c
 | .non=>.non
 | .bl b=>.bl b
 | .int i=>.int i
 | .str x=>.str x
 | .lst xs=>.lst xs
 | _=>.ty .int
def Xe:List D->List D
 | []=>[]
 | d::r=>nrmD d::Xe r
end
mutual
inductive DVK (K:PySem.W.Frag) (H:Hp):V->Dat->Prop
 | base {x:V} {d:Dat} (h:DV H x d):DVK K H x d
 | tup {a:Addr} {xs:List V} {ds:List Dat} (e:SqT K H a xs) (r:DVKs K H xs ds):DVK K H (.ref a) (.tuple ds)
inductive DVKs (K:PySem.W.Frag) (H:Hp):List V->List Dat->Prop
 | nil:DVKs K H [] []
 | cons {x:V} {d:Dat} {xs:List V} {ds:List Dat} (h:DVK K H x d) (r:DVKs K H xs ds):DVKs K H (x::xs) (d::ds)
end
mutual
theorem DVK.reads {X:Cx} {pins:List (Addr × Obj)} {σ:St} {H:Hp} {s:Shared} (I:Inv X pins σ H s):∀{x:V} {d:Dat} {u:Value},DVK X.K H x d->RelV x u->∃as,Reads s.heap u (kqdP d) as
 | _,_,_,.base h,r=>h.reads I.hok r
 | _,_,_,.tup (a:=a) e q,r=>by
  cases r
  obtain ⟨its,rv,⟨o,h1,h2,n,h3⟩,_⟩:=I.tuple e
  obtain ⟨as,z⟩:=DVKs.reads I q rv
  rw [kqdP]
  exact ⟨as,reads_tuple_at h1 h2 h3 (by simpa using z)⟩
theorem DVKs.reads {X:Cx} {pins:List (Addr × Obj)} {σ:St} {H:Hp} {s:Shared} (I:Inv X pins σ H s):∀{xs:List V} {ds:List Dat} {us:List Value},DVKs X.K H xs ds->Vals xs us->∃as,ReadsAll s.heap us (kqdPs ds) as
 | _,_,_,.nil,r=>by cases r;exact ⟨_,by rw [kqdPs];exact ReadsAll.nil⟩
 | _,_,_,.cons p q,r=>by
  cases r with
  | cons r1 r2 =>
   obtain ⟨as,z⟩:=DVK.reads I p r1
   obtain ⟨bs,y⟩:=DVKs.reads I q r2
   rw [kqdPs]
   exact ⟨_,ReadsAll.cons z y⟩
end
theorem IsKC.dvk {K:PySem.W.Frag} {H:Hp}:∀(n:Nat) {c:KC} {v:V},IsKC K c v->eqOk n (nrmC c)=true->DVK K H v (Jw (nrmC c))
 | n,.int i,_,h,_=>by cases h;rw [nrmC,Jw];exact .base (.int i)
 | n,.any _,_,_,q=>by rw [nrmC] at q;cases n <;> simp [eqOk] at q
 | n,.fn _,_,_,q=>by rw [nrmC] at q;cases n <;> simp [eqOk] at q
 | 0,.tup _,_,_,q=>by rw [nrmC] at q;simp [eqOk] at q
 | n+1,.tup ks,_,h,q=>by
  obtain ⟨a,xs,rfl,hs,ar⟩:=h.sqT
  rw [nrmC] at q ⊢
  rw [eqOk] at q
  rw [Jw]
  refine .tup (hs H) ?_
  clear h hs
  induction ks generalizing xs with
  | nil=>cases ar;rw [Qjf,Yy];exact .nil
  | cons c ks ih =>
   cases ar with
   | cons h r =>
    rw [Qjf,Zp,Bool.and_eq_true] at q
    rw [Qjf,Yy]
    exact .cons (IsKC.dvk n h q.1) (ih q.2 _ r)
theorem Rep.dvk {K:PySem.W.Frag} {H:Hp}:∀(n:Nat) {d:D} {v:V} {F:List Addr},Rep K H d v F->eqOk n (nrmD d)=true->DVK K H v (Jw (nrmD d)):=by
 intro n
 induction n with
 | zero =>
  intro d v F r q
  cases d with
  | tup ds=>rw [nrmD] at q;simp [eqOk] at q
  | kc c=>cases r with | kc h=>rw [nrmD] at q ⊢;exact h.dvk 0 q
  | non=>rw [nrmD] at q ⊢;exact .base (r.dv 0 q)
  | int i=>rw [nrmD] at q ⊢;exact .base (r.dv 0 q)
  | str i=>rw [nrmD] at q ⊢;exact .base (r.dv 0 q)
  | bl i=>rw [nrmD] at q ⊢;exact .base (r.dv 0 q)
  | lst i=>rw [nrmD] at q ⊢;exact .base (r.dv 0 q)
  | _=>simp [nrmD,eqOk] at q
 | succ n ih =>
  intro d v F r q
  cases d with
  | tup ds =>
   cases r with
   | @tup a xs _ F e r =>
    rw [nrmD] at q ⊢
    rw [eqOk] at q
    rw [Jw]
    refine .tup (.of e) ?_
    clear e
    induction ds generalizing xs F with
    | nil=>cases r;rw [Xe,Yy];exact .nil
    | cons c ks ih2 =>
     cases r with
     | cons h r =>
      rw [Xe,Zp,Bool.and_eq_true] at q
      rw [Xe,Yy]
      exact .cons (ih h q.1) (ih2 q.2 r)
  | kc c=>cases r with | kc h=>rw [nrmD] at q ⊢;exact h.dvk _ q
  | non=>rw [nrmD] at q ⊢;exact .base (r.dv _ q)
  | int i=>rw [nrmD] at q ⊢;exact .base (r.dv _ q)
  | str i=>rw [nrmD] at q ⊢;exact .base (r.dv _ q)
  | bl i=>rw [nrmD] at q ⊢;exact .base (r.dv _ q)
  | lst i=>rw [nrmD] at q ⊢;exact .base (r.dv _ q)
  | _=>simp [nrmD,eqOk] at q
def dEqC:G2:=λa b k=>eqOk 9 (nrmD a)=true/\eqOk 9 (nrmD b)=true/\(nrmD a=nrmD b->k (.bl true))/\(nrmD a≠nrmD b->k (.bl false))
section
variable {X:Cx}
def Qua (K:PySem.W.Frag):R2:=λx y H Q=>∃d e n,DVK K H x d/\DVK K H y e/\kqdOk n d=true/\kqdOk n e=true/\n<=9/\((d=e->Q (.bl true) H)/\(d≠e->Q (.bl false) H))
theorem Qpb (hu:X.A.units+64<cLine):OpR X (compareOp .Eq) (Qua X.K):=by
 classical
 intro pins s σ H x y v u Q I rx ry h
 obtain ⟨d,e,n,dx,dy,hd,he,hn,q1,q2⟩:=h
 obtain ⟨as,ra⟩:=dx.reads I rx
 obtain ⟨bs,rb⟩:=dy.reads I ry
 refine eq_dataH ra rb (Yp hd hn) (Yp he hn) hu ?_
 rw [Qa8 hd he]
 by_cases hq:d=e
 ·rw [decide_eq_true hq];exact ⟨.bl true,H,I,rfl,q1 hq⟩
 ·rw [decide_eq_false hq];exact ⟨.bl false,H,I,rfl,q2 hq⟩
theorem Qr7 (hu:X.A.units+64<cLine):OpD X (compareOp .Eq) dEqC:=by
 refine ⟨_,Qpb hu,λH a b x y F1 F2 k Q ra rb g q=>?_⟩
 obtain ⟨h1,h2,g1,g2⟩:=g
 refine ⟨Jw (nrmD a),Jw (nrmD b),9,ra.dvk 9 h1,rb.dvk 9 h2,Zy 9 _ h1,Zy 9 _ h2,Nat.le_refl _,λe=>?_,λe=>?_⟩
 ·exact q _ _ _ _ (.flat (.bl true)) (g1 (Ub 9 9 _ _ h1 h2 e))
 ·exact q _ _ _ _ (.flat (.bl false)) (g2 λz=>e (by rw [z]))
end
section
variable {X:Cx} {T:Tg} {m o o1 o2:Bool} {e a b e₀:Expr} {es:List Expr} {w wa wb:WE} {pos p2 p np cpos hpos px:Pos} {wr:WA} {x y:Str} {ws wh:WS} {k:Nat} {ps:List Str}
theorem Qnt (hB:FnN X.K X.mg y) (hg:Gl X y:=by rfl) (hd:(y == ("__debug__" : Str))=false:=by decide):EV X T false true (.Name y pos) (wC (.kc (.fn y))):=by
 obtain ⟨f,b1,b2⟩:=hB
 exact V0 (Qe7 hg b1 (v:=.ref f) rfl hd) λ_=>.kc (.fn b2)
theorem Qtc {c:KC} (hB:KcN X.K X.mg y c) (hg:Gl X y:=by rfl) (hd:(y == ("__debug__" : Str))=false:=by decide):EV X T false true (.Name y pos) (wC (.kc c)):=by
 obtain ⟨f,b1,b2⟩:=hB
 obtain ⟨v,r1,r2⟩:=Qjn c _ b2
 exact V0 (Qe7 hg b1 (v:=v) r1 hd) λ_=>.kc r2
def Qbu (i:Nat) (y:Str) (g:GA) (wr:WA):WE:=λρ Q=>look ρ i=some (.kc (.fn y))/\wr ρ λds ρ'=>g ds λd=>Q d ρ'
theorem Qeh {i:Nat} {g:GA} (C:Cal X.prog X.w X.K X.mg X.base y k ps (spR X.K g)) (hB:FnN X.K X.mg y) (hr:Room k X.A) (ha:AV X T m o (e::es) wr) (hN:X.N[i]? = some x:=by rfl)
  (hv:Vis X.env.scope x:=by first | exact Or.inl rfl | exact Or.inr (Or.inl rfl) | exact Or.inr (Or.inr rfl)) (hd:(x == ("__debug__" : Str))=false:=by decide) (hcd:(x == ("__classdict__" : Str))=false:=by decide)
  (he:starEach (e::es) X.env=(false,eval e X.env)::starEach es X.env:=by rfl) (hpl:(backTo pos (starEach es X.env)).any (·.1)=false:=by rfl) :
  EV X T m true (.Call (.Name x p) (e::es) [] pos) (Qbu i y g wr):=by
 obtain ⟨f,fd,F,h1,h2,h3⟩:=C
 obtain ⟨f',b1,b2⟩:=hB
 rw [h1] at b1
 cases b1
 obtain ⟨ta,pa,ga⟩:=ha
 refine ⟨_,Qhk F hr h2 h3 pa hN hv hd hcd he hpl,λz R σ H W ρ Q Q' s hw k=>?_⟩
 obtain ⟨hl,hw⟩:=hw
 obtain ⟨fp,s0⟩:=id s
 obtain ⟨v,hv1,rv⟩:=s0.at_ i _ hl
 obtain ⟨_,rv⟩:=rv.pure (by rw [D.pure])
 cases rv with
 | kc h =>
  cases h with
  | fn h =>
   have e:=h.symm.trans b2
   cases e
   refine ⟨hv1,ga z R σ H W ρ _ _ s hw λvs H1 W1 ds ρ1 F p q=>?_⟩
   exact ⟨ds,F,_,p.rep,q,λv H' d F' fi hk=>k v H' W1 d ρ1 F' (Post.fin p.sr p.fr p.calm fi.same fi.rep fi.nd fi.new) hk⟩
def Qu3 (d:D) (k:List D->Prop):Prop:=match d with
 | .lst es=>Qm es=true/\k (G1 0 es)
 | _=>False
def Qqf (i:Nat):WL:=λρ Q=>oget (look ρ i) λd=>Qu3 d λl=>Q l ρ
theorem Qtp {i:Nat} {ts:List Expr} {kt:Nat} {pt:Pos} (hm:X.mg "enumerate" = none) (ht:T.own i=false:=by rfl) (hN:X.N[i]? = some x:=by rfl) (hv:Vis X.env.scope x:=by first | exact Or.inl rfl | exact Or.inr (Or.inl rfl) | exact Or.inr (Or.inr rfl)) (hd:(x == ("__debug__" : Str))=false:=by decide)
  (hcd:(x == ("__classdict__" : Str))=false:=by decide) (hg:Gl X "enumerate":=by rfl) (hs:starEach [.Name x p2] X.env=[(false,eval (.Name x p2) X.env)]:=by rfl) (hs2:starEach [.Name x p2] X.env=(false,eval (.Name x p2) X.env)::starEach [] X.env:=by rfl) :
  IV X T false true (.Tuple ts kt pt) (.Call (.Name "enumerate" p) [.Name x p2] [] pos) (Qqf i):=by
 refine ⟨_,Qgd hg hm (Z4 (Vd hN hv hd hcd) Xr hs2) hs,λz R σ H W ρ Q RR s hw k=>?_⟩
 obtain ⟨d,hl,q⟩:=Qw hw
 obtain ⟨fp,s0⟩:=id s
 obtain ⟨v,h1,r0⟩:=s0.at_ i d hl
 have nW:∀b∈fp i,¬W b:=λb hb hw=>s0.wr b hw (s0.ro i d hl ht b hb)
 refine ⟨v,h1,?_⟩
 generalize fp i=G at r0 nW
 cases d with
 | lst es =>
  obtain ⟨hp,q⟩:=q
  cases r0 with
  | @lst a xs _ F e1 r =>
   obtain ⟨hF,r⟩:=r.pure hp
   subst hF
   refine ⟨a,rfl,⟨xs,.of e1⟩,k _ H W _ ρ ⟨s,FrW.refl H W,λ_=>⟨Same.refl H,rfl,rfl⟩⟩ (λi H2 W2 f=>?_) q⟩
   rw [Qb9] at f
   have e2:H2 a=some (.lst xs):=f.keep _ _ e1 (nW a List.mem_cons_self)
   refine ⟨λhi=>⟨xs,.of e2,by rw [r.length];rwa [Ve] at hi⟩,λd hd=>?_⟩
   rw [G0] at hd
   cases hd':es[i]? with
   | none=>rw [hd'] at hd;cases hd
   | some d' =>
    rw [hd'] at hd
    obtain ⟨x,B,hx,rx,sx⟩:=r.get hd'
    refine ⟨⟨xs,x,.of e2,hx⟩,λv H3 y=>?_⟩
    obtain ⟨x',t,h1,rfl,h3,rfl⟩:=y xs (.of e2)
    rw [hx] at h1
    cases h1
    have hB:B=[]:=List.sublist_nil.mp sx
    subst hB
    refine ⟨Qk h3,[],?_,λa m=>nomatch m⟩
    cases hd
    rw [Nat.zero_add]
    exact .tup Qn (.cons (F:=[]) (G:=[]) (.int _) (Reps.one ((rx.keep f λa m=>nomatch m).same (Qk h3))))
 | _=>exact (show False from q).elim
def Qn1 (i:Nat) (g:GX) (wr:WA):WS:=λP ρ=>wr ρ λds ρ'=>g ds (λd=>P.nx (ρ'.set i (some d))) λd=>P.xc d ρ'
theorem Qoa {i k:Nat} {f:Str} {ps:List Str} {g:GX} (C:CalX X.prog X.w X.K X.mg X.base f k ps (spX X.K g)) (hr:Room k X.A) (hX:Qg8 X T) (ha:AV X.nox T false o (e₀::es) wr) (hN:X.N.Nodup)
  (hi:X.N[i]? = some y:=by rfl) (hio:i∉T.io:=by first | exact List.not_mem_nil | decide) (hg:Gl X f:=by rfl) (hy:Loc X.env.scope y:=by first | exact Or.inl rfl | exact Or.inr rfl) (hs:swapsWith (.Call (.Name f p) (e₀::es) [] cpos) (some (.Name y px)) p2.line X.env=pure false:=by rfl)
  (hf:X.fn y=true\/X.env.scope.names.lookup y=some .local:=by first | exact .inl rfl | exact .inr rfl | assumption) (hdb:(f == ("__debug__" : Str))=false:=by decide)
  (he:starEach (e₀::es) X.env=(false,eval e₀ X.env)::starEach es X.env:=by rfl) (hpl:(backTo cpos (starEach es X.env)).any (·.1)=false:=by rfl) :
  SV X T (.Assign [.Name y px] (.Call (.Name f p) (e₀::es) [] cpos) p2) (Qn1 i g wr):=by
 obtain ⟨fa,fd,F,h1,h2,h3⟩:=C
 obtain ⟨ta,pa,ga⟩:=ha
 refine ⟨_,Qoy (Ξ:=λC σ H'=>∃x,atN X.K x C/\T.xe (.obj x []) σ H') F hr hg h1 h2 h3 pa hX hN hi hy hs hf hdb he hpl,λz R σ H W ρ P E s hw l=>?_⟩
 refine ga z R σ H W ρ _ _ s hw λvs H1 W1 ds ρ1 Fp p q=>?_
 obtain ⟨sm0,hW,hρ⟩:=p.calm rfl
 refine ⟨ds,Fp,_,_,p.rep,q,λv H' d F' fi hk=>?_,λx C H' hn sm hk=>⟨C,rfl,x,hn,?_⟩⟩
 ·obtain ⟨fp,s1⟩:=p.sr.same fi.same
  obtain ⟨fp0,s00⟩:=id p.sr
  have nW:∀a∈F',¬W1 a:=λa ha hw=>by
   obtain ⟨ob,e1,_⟩:=s00.wd a hw
   rw [fi.new a ha] at e1
   cases e1
  obtain ⟨R',s2⟩:=s1.bind (i:=i) hio fi.rep fi.nd (λa ha=>⟨nW a ha,p.sr.nr (fi.new a ha)⟩)
  refine l.nx R' _ H' _ _ s2 (X4 (p.fr.trans (FrW.same W1 fi.same)) λa h=>?_) hk
  cases q:H a with
  | none=>rfl
  | some ob =>
   have:=fi.new a h.2
   rw [sm0 a ob q] at this
   cases this
 ·exact l.xc R σ H' W1 ρ1 _ (p.sr.same sm) (p.fr.trans (FrW.same W1 sm)) hk
def mvOf (d:D) (k:List D->List D->Prop):Prop:=match d with
 | .tup (.lst xs::ds)=>k xs ds
 | _=>False
theorem Qsb {d:D} {k:List D->List D->Prop} (h:mvOf d k):∃xs ds,d=.tup (.lst xs::ds)/\k xs ds:=by
 cases d with
 | tup l =>
  cases l with
  | nil=>exact (show False from h).elim
  | cons d0 ds =>
   cases d0 with
   | lst xs=>exact ⟨xs,ds,rfl,h⟩
   | _=>exact (show False from h).elim
 | _=>exact (show False from h).elim
def wMv0 (i j:Nat):WS:=λP ρ=>oget (look ρ j) λd=>mvOf d λxs ds=>Qm ds=true/\∀a,P.nx ((ρ.set j (some (.tup (.kc (.any a)::ds)))).set i (some (.lst xs)))
theorem Qqq {i j:Nat} {pos' p1 ps1:Pos} {j1} (hN:X.N.Nodup) (tj:T.own j=true:=by rfl) (ti:T.own i=true:=by rfl) (hj:X.N[j]? = some y:=by rfl) (hi:X.N[i]? = some x:=by rfl) (hv:Vis X.env.scope y:=by first | exact Or.inl rfl | exact Or.inr (Or.inl rfl) | exact Or.inr (Or.inr rfl))
  (hd:(y == ("__debug__" : Str))=false:=by decide) (hcd:(y == ("__classdict__" : Str))=false:=by decide) (hio:i∉T.io:=by first | exact List.not_mem_nil | decide) (hjo:j∉T.io:=by first | exact List.not_mem_nil | decide) (hx:Loc X.env.scope x:=by first | exact Or.inl rfl | exact Or.inr rfl) (hs1:Qbd (.Constant (.int 0) j1 p1):=by intro _ _;rfl)
  (hs:swapsWith (.Subscript (.Name y p) (.Constant (.int 0) j1 p1) ps1) (some (.Name x pos')) pos.line X.env=pure false:=by rfl) (hf:X.fn x=true\/X.env.scope.names.lookup x=some .local:=by first | exact .inl rfl | exact .inr rfl | assumption) :
  SV X T (.Assign [.Name x pos'] (.Subscript (.Name y p) (.Constant (.int 0) j1 p1) ps1) pos) (wMv0 i j):=by
 refine ⟨_,Qne hN hi hx (Qlm Qgo (Vd hj hv hd hcd) Qd0 hs1) hs hf,λz R σ H W ρ P E s hw l=>?_⟩
 obtain ⟨d,hl,q⟩:=Qw hw
 obtain ⟨xs,ds,rfl,hp,q⟩:=Qsb q
 obtain ⟨fp,s0⟩:=s
 obtain ⟨v,h1,h2⟩:=s0.at_ j _ hl
 obtain ⟨nd,sw⟩:=s0.own j _ hl tj
 have inv:∃tp l0 us,v=.ref tp/\H tp=some (.tup (.ref l0::us))/\Rep X.K H (.lst xs) (.ref l0) (fp j)/\Reps X.K H ds us []:=by
  generalize fp j=G at h2
  cases h2 with
  | @tup tp vs _ F e1 r =>
   cases r with
   | @cons _ v0 _ us F1 F2 ra rb =>
    obtain ⟨z2,rb⟩:=rb.pure hp
    subst z2
    rw [List.append_nil]
    cases ra with
    | @lst l0 ys _ F3 e2 r3=>exact ⟨tp,l0,us,rfl,e1,.lst e2 r3,rb⟩
 obtain ⟨tp,l0,us,rfl,e1,rl,rds⟩:=inv
 have key:∀k e,look (ρ.set j (some (.tup (.kc (.any l0)::ds)))) k=some e->(k=j/\e=.tup (.kc (.any l0)::ds))\/(k≠j/\look ρ k=some e):=λk e h=>by
  rw [Zw] at h
  split at h
  ·rename_i hn;cases h;exact .inl ⟨hn.1,rfl⟩
  ·rename_i hn
   refine .inr ⟨λz=>hn ⟨z,?_⟩,h⟩
   exact Uh hl
 have s1:SR0 X.K T z R H (λa=>W a/\a∉fp j) σ (ρ.set j (some (.tup (.kc (.any l0)::ds)))) (λk=>if k=j then [] else fp k):=by
  refine ⟨by rw [List.length_set];exact s0.len,λa h=>s0.wd a h.1,λk e h=>?_,λk e h t=>?_,λk e h t=>?_,λa h=>s0.wr a h.1,s0.rd,λk n e e' h h' t t' hne=>?_,s0.fix⟩
  ·rcases key k e h with ⟨rfl,rfl⟩ | ⟨hk,h⟩
   ·refine ⟨_,h1,?_⟩
    rw [if_pos rfl]
    exact .tup e1 (.cons (F:=[]) (G:=[]) (.kc (.any l0)) rds)
   ·obtain ⟨u,a1,a2⟩:=s0.at_ k e h
    refine ⟨u,a1,?_⟩
    rw [if_neg hk];exact a2
  ·rcases key k e h with ⟨rfl,rfl⟩ | ⟨hk,h⟩
   ·simp only [if_pos];exact ⟨List.nodup_nil,λa m=>nomatch m⟩
   ·simp only [if_neg hk]
    exact ⟨(s0.own k e h t).1,λa ha=>⟨(s0.own k e h t).2 a ha,λha'=>s0.dis k j e _ h hl t tj hk a ha ha'⟩⟩
  ·rcases key k e h with ⟨rfl,rfl⟩ | ⟨hk,h⟩
   ·rw [tj] at t;cases t
   ·simp only [if_neg hk];exact s0.ro k e h t
  ·rcases key k e h with ⟨rfl,rfl⟩ | ⟨hk,h⟩
   ·simp only [if_pos];exact λa m=>nomatch m
   ·rcases key n e' h' with ⟨rfl,rfl⟩ | ⟨hn,h'⟩
    ·simp only [if_pos];exact λa _ m=>nomatch m
    ·simp only [if_neg hk,if_neg hn]
     exact s0.dis k n e e' h h' t t' hne
 obtain ⟨R',s2⟩:=s1.bind (i:=i) hio rl nd (λa ha=>⟨λh=>h.2 ha,s0.wr a (sw a ha)⟩)
 refine ⟨_,h1,tp,_,0,.ref l0,rfl,rfl,.of e1,Qfv (j:=0) rfl,l.nx R' _ H _ _ s2 ⟨λb ob e _=>e,λb e=>e,λb ob e _=>e,λb h=>?_⟩ (q l0)⟩
 rcases h with h | ⟨_,h⟩
 ·exact .inl h.1
 ·exact .inl (sw b h)
theorem SR.other {K:PySem.W.Frag} {z:Nat->V} {R:Addr->Prop} {H:Hp} {W:Addr->Prop} {σ:St} {ρ:Env} {l0:Addr} {o0 ob:HO} (s:SR K T z R H W σ ρ) (e:H l0=some o0) (him:imm o0=false) (nW:¬W l0) (nR:¬R l0):SR K T z R (upd H l0 ob) W σ ρ:=by
 obtain ⟨fp,s0⟩:=s
 have n1:∀{a},W a->a≠l0:=λh z=>nW (z ▸ h)
 have n2:∀{a},R a->a≠l0:=λh z=>nR (z ▸ h)
 refine ⟨fp,s0.len,λa h=>?_,λi d h=>?_,s0.own,s0.ro,s0.wr,λa h=>?_,s0.dis,s0.fix⟩
 ·obtain ⟨u,h1,h2⟩:=s0.wd a h
  exact ⟨u,by rw [Qy (n1 h)];exact h1,h2⟩
 ·obtain ⟨v,h1,h2⟩:=s0.at_ i d h
  refine ⟨v,h1,h2.frame (Vx e him) λb hb=>Qy ?_⟩
  cases t:T.own i with
  | true=>exact n1 ((s0.own i d h t).2 b hb)
  | false=>exact n2 (s0.ro i d h t b hb)
 ·obtain ⟨u,h1,h2⟩:=s0.rd a h
  exact ⟨u,by rw [Qy (n2 h)];exact h1,h2⟩
end
theorem Qre {xs ds:List D} {k:List D->List D->Prop}:mvOf (.tup (.lst xs::ds)) k=k xs ds:=rfl
theorem X1 {ks:List KC} {k:List D->Prop}:Qip (.kc (.tup ks)) k=k (ks.map kcD):=rfl
theorem Qor {a b:KC} {k:D->D->Prop}:two2 (.kc (.tup [a,b])) k=k (kcD a) (kcD b):=rfl
end PV
namespace L2
open PySem PySem.Spec PyProof.Rows
open PySem.W (Dat kqdP kqdPs kqdOk)
section
variable {X:Cx}
mutual
inductive DVF (K:PySem.W.Frag) (H:Hp):V->Dat->Prop
 | non:DVF K H .non .none
 | int (i:Int):DVF K H (.int i) (.int i)
 | str (x:Str):DVF K H (.str x) (.str x)
 | tup {a:Addr} {xs:List V} {ds:List Dat} (e:SqT K H a xs) (r:DVFs K H xs ds):DVF K H (.ref a) (.tuple ds)
 | lst {a:Addr} {xs:List V} {ds:List Dat} (e:SqL K H a xs) (r:DVFs K H xs ds):DVF K H (.ref a) (.list ds)
inductive DVFs (K:PySem.W.Frag) (H:Hp):List V->List Dat->Prop
 | nil:DVFs K H [] []
 | cons {x:V} {d:Dat} {xs:List V} {ds:List Dat} (h:DVF K H x d) (r:DVFs K H xs ds):DVFs K H (x::xs) (d::ds)
end
mutual
theorem DVF.reads {pins:List (Addr × Obj)} {σ:St} {H:Hp} {s:Shared} (I:Inv X pins σ H s):∀{x:V} {d:Dat} {u:Value},DVF X.K H x d->RelV x u->∃as,Reads s.heap u (kqdP d) as
 | _,_,_,.non,r=>by cases r;exact ⟨_,by rw [kqdP];exact Reads.none⟩
 | _,_,_,.int i,r=>by obtain ⟨t,rfl⟩:=r;exact ⟨_,by rw [kqdP];exact Reads.int i t⟩
 | _,_,_,.str x,r=>by obtain ⟨t,rfl⟩:=r;exact ⟨_,by rw [kqdP];exact Reads.str x t⟩
 | _,_,_,.tup e q,r=>by
  cases r
  obtain ⟨its,rv,⟨o,h1,h2,n,h3⟩,_⟩:=I.tuple e
  obtain ⟨as,z⟩:=DVFs.reads I q rv
  rw [kqdP]
  exact ⟨as,reads_tuple_at h1 h2 h3 (by simpa using z)⟩
 | _,_,_,.lst e q,r=>by
  cases r
  obtain ⟨its,rv,⟨o,n,h1,h2,_,h3⟩,_⟩:=I.list e
  obtain ⟨as,z⟩:=DVFs.reads I q rv
  rw [kqdP]
  exact ⟨_,reads_list_at h1 h2 h3 (by simpa using z)⟩
theorem DVFs.reads {pins:List (Addr × Obj)} {σ:St} {H:Hp} {s:Shared} (I:Inv X pins σ H s):∀{xs:List V} {ds:List Dat} {us:List Value},DVFs X.K H xs ds->Vals xs us->∃as,ReadsAll s.heap us (kqdPs ds) as
 | _,_,_,.nil,r=>by cases r;exact ⟨_,by rw [kqdPs];exact ReadsAll.nil⟩
 | _,_,_,.cons p q,r=>by
  cases r with
  | cons r1 r2 =>
   obtain ⟨as,z⟩:=DVF.reads I p r1
   obtain ⟨bs,y⟩:=DVFs.reads I q r2
   rw [kqdPs]
   exact ⟨_,ReadsAll.cons z y⟩
end
def Qra (K:PySem.W.Frag) (neg:Bool):R2:=λx y H Q=>∃d e n,DVF K H x d/\DVF K H y e/\kqdOk n d=true/\kqdOk n e=true/\n<=9/\((d=e->Q (.bl (!neg)) H)/\(d≠e->Q (.bl neg) H))
theorem Qry (hu:X.A.units+64<cLine):OpR X (compareOp .Eq) (Qra X.K false):=by
 classical
 intro pins s σ H x y v u Q I rx ry h
 obtain ⟨d,e,n,dx,dy,hd,he,hn,q1,q2⟩:=h
 obtain ⟨as,ra⟩:=dx.reads I rx
 obtain ⟨bs,rb⟩:=dy.reads I ry
 refine eq_dataH ra rb (Yp hd hn) (Yp he hn) hu ?_
 rw [Qa8 hd he]
 by_cases hq:d=e
 ·rw [decide_eq_true hq];exact ⟨.bl true,H,I,rfl,q1 hq⟩
 ·rw [decide_eq_false hq];exact ⟨.bl false,H,I,rfl,q2 hq⟩
theorem Qru (hu:X.A.units+64<cLine):OpR X (compareOp .NotEq) (Qra X.K true):=by
 classical
 intro pins s σ H x y v u Q I rx ry h
 obtain ⟨d,e,n,dx,dy,hd,he,hn,q1,q2⟩:=h
 obtain ⟨as,ra⟩:=dx.reads I rx
 obtain ⟨bs,rb⟩:=dy.reads I ry
 refine ne_dataH ra rb (Yp hd hn) (Yp he hn) hu ?_
 rw [Qa8 hd he]
 by_cases hq:d=e
 ·rw [decide_eq_true hq];exact ⟨.bl false,H,I,rfl,q1 hq⟩
 ·rw [decide_eq_false hq];exact ⟨.bl true,H,I,rfl,q2 hq⟩
end
end L2
namespace PV
open PySem PySem.Spec L2 PyProof.Rows
section
variable {X:Cx} {T:Tg} {m o m1 m2 o1 o2:Bool} {e a b tg:Expr} {w wa wb:WE} {pos p q cp:Pos} {x y:Str}
def frzK (d:D) (k:D->Prop):Prop:=match d with
 | .lst xs=>Qm xs=true/\k (.kls xs)
 | _=>False
def Y3 (w:WE):WE:=λρ Q=>w ρ λd ρ'=>frzK d λd'=>Q d' ρ'
def asK (Q:D->Env->Prop) (d:D) (ρ:Env):Prop:=match d with
 | .fls xs=>Q (.kls xs) ρ
 | _=>False
theorem Ul (h:EV X T m true e w):EV X T m true e (Y3 w):=by
 obtain ⟨te,pe,ge⟩:=Qtd h
 refine ⟨te,pe,λz R σ H W ρ Q Q' s hw k=>ge z R σ H W ρ (asK Q) Q' s ?_ λv H1 W1 d ρ1 F pp qq=>?_⟩
 ·have:(λ(d:D) (ρ':Env)=>frzK d λd'=>Q d' ρ')=λd ρ'=>Qs6 d λd'=>asK Q d' ρ':=by
   funext d ρ'
   cases d <;> rfl
  unfold Y3 at hw
  rw [this] at hw
  exact hw
 ·cases d with
  | fls xs =>
   obtain ⟨sr,fr,calm,rep,own⟩:=pp
   cases rep with
   | fls e1 r=>exact k _ H1 W1 (.kls xs) ρ1 [] ⟨sr,fr,calm,.kls (.inl ⟨_,e1⟩) r,own⟩ qq
  | _=>exact (show False from qq).elim
theorem Yk {xs:List D} {k:D->Prop}:frzK (.lst xs) k=(Qm xs=true/\k (.kls xs)):=rfl
mutual
def nF:D->D
 | .tup xs=>.tup (nFs xs)
 | .lst xs=>.lst (nFs xs)
 | .kls xs=>.lst (nFs xs)
 | .non=>.non
 | .int i=>.int i
 | .str x=>.str x
 | _=>.ty .int
def nFs:List D->List D
 | []=>[]
 | d::r=>nF d::nFs r
end
theorem Rep.dvF {K:PySem.W.Frag} {H:Hp}:∀(n:Nat) {d:D} {v:V} {F:List Addr},Rep K H d v F->eqOk n (nF d)=true->DVF K H v (Jw (nF d)):=by
 intro n
 induction n with
 | zero =>
  intro d v F r q
  cases d with
  | tup ds=>rw [nF] at q;simp [eqOk] at q
  | lst ds=>rw [nF] at q;simp [eqOk] at q
  | kls ds=>rw [nF] at q;simp [eqOk] at q
  | non=>cases r;rw [nF,Jw];exact .non
  | int i=>cases r;rw [nF,Jw];exact .int _
  | str i=>cases r;rw [nF,Jw];exact .str _
  | _=>simp [nF,eqOk] at q
 | succ n ih =>
  have all:∀{ds:List D} {xs:List V} {F:List Addr},Reps K H ds xs F->Zp n (nFs ds)=true->DVFs K H xs (Yy (nFs ds)):=by
   intro ds
   induction ds with
   | nil=>intro xs F r _;cases r;rw [nFs,Yy];exact .nil
   | cons c ks ih2 =>
    intro xs F r q
    cases r with
    | cons h r =>
     rw [nFs,Zp,Bool.and_eq_true] at q
     rw [nFs,Yy]
     exact .cons (ih h q.1) (ih2 r q.2)
  intro d v F r q
  cases d with
  | tup ds =>
   cases r with
   | tup e r=>rw [nF] at q ⊢;rw [eqOk] at q;rw [Jw];exact .tup (.of e) (all r q)
  | lst ds =>
   cases r with
   | lst e r=>rw [nF] at q ⊢;rw [eqOk] at q;rw [Jw];exact .lst (.of e) (all r q)
  | kls ds =>
   cases r with
   | kls e r=>rw [nF] at q ⊢;rw [eqOk] at q;rw [Jw];exact .lst e.sq (all r q)
  | non=>cases r;rw [nF,Jw];exact .non
  | int i=>cases r;rw [nF,Jw];exact .int _
  | str i=>cases r;rw [nF,Jw];exact .str _
  | _=>simp [nF,eqOk] at q
def dEqF:G2:=λa b k=>eqOk 9 (nF a)=true/\eqOk 9 (nF b)=true/\(nF a=nF b->k (.bl true))/\(nF a≠nF b->k (.bl false))
def dNeF:G2:=λa b k=>eqOk 9 (nF a)=true/\eqOk 9 (nF b)=true/\(nF a=nF b->k (.bl false))/\(nF a≠nF b->k (.bl true))
theorem Qr6 (hu:X.A.units+64<cLine):OpD X (compareOp .Eq) dEqF:=by
 refine ⟨_,Qry hu,λH a b x y F1 F2 k Q ra rb g q=>?_⟩
 obtain ⟨h1,h2,g1,g2⟩:=g
 refine ⟨Jw (nF a),Jw (nF b),9,ra.dvF 9 h1,rb.dvF 9 h2,Zy 9 _ h1,Zy 9 _ h2,Nat.le_refl _,λe=>?_,λe=>?_⟩
 ·exact q _ _ _ _ (.flat (.bl true)) (g1 (Ub 9 9 _ _ h1 h2 e))
 ·exact q _ _ _ _ (.flat (.bl false)) (g2 λz=>e (by rw [z]))
theorem Qb4 (hu:X.A.units+64<cLine):OpD X (compareOp .NotEq) dNeF:=by
 refine ⟨_,Qru hu,λH a b x y F1 F2 k Q ra rb g q=>?_⟩
 obtain ⟨h1,h2,g1,g2⟩:=g
 refine ⟨Jw (nF a),Jw (nF b),9,ra.dvF 9 h1,rb.dvF 9 h2,Zy 9 _ h1,Zy 9 _ h2,Nat.le_refl _,λe=>?_,λe=>?_⟩
 ·exact q _ _ _ _ (.flat (.bl false)) (g1 (Ub 9 9 _ _ h1 h2 e))
 ·exact q _ _ _ _ (.flat (.bl true)) (g2 λz=>e (by rw [z]))
theorem Reps.ints_inv {K:PySem.W.Frag} {H:Hp}:∀{ns:List Int} {vs:List V} {F:List Addr},Reps K H (ns.map D.int) vs F->vs=ns.map V.int
 | [],_,_,r=>by cases r;rfl
 | n::ns,_,_,r=>by cases r with | cons h r=>cases h;rw [Reps.ints_inv r];rfl
theorem Qnc {xs:List D} {k:List D->Prop}:lsOf (.lst xs) k=k xs:=rfl
end
end PV
namespace L2
open PySem PySem.Spec PyProof.Rows
section
variable {X:Cx}
def Qq9:V->List V->Hp->VK->Prop:=λx vs H Q=>∃(l:Addr) (ns:List Int) (n:Int) (i:Nat),x=.ref l/\vs=[.int n]/\H l=some (.lst (ns.map V.int))/\ns[i]? = some n/\(∀j,j<i->ns[j]? ≠ some n)/\Q (.int i) H
theorem Ql3:MtR X "list.index" Qq9:=by
 intro pins s σ H x vs v us Q I rx rv h
 obtain ⟨l,ns,n,i,rfl,rfl,hH,hi,hno,q⟩:=h
 cases rx
 obtain ⟨u,rfl,ru⟩:=rv.one
 obtain ⟨t,rfl⟩:=ru
 obtain ⟨z,its,c,r,hl,e⟩:=I.lstM hH
 have hI:=Qcw r
 have hil:i<ns.length:=(List.getElem?_eq_some_iff.mp hi).1
 have len:=hI.length
 have at_:∀(j:Nat) (hj:j<ns.length),∃t,its[j]'(by omega)=.int ns[j] t:=λj hj=>by
  obtain ⟨t,ht⟩:=Srt.Qjr hI hj
  rw [List.getElem?_eq_getElem (by omega)] at ht
  exact ⟨t,Option.some.inj ht⟩
 let ev:Value->Bool:=λy=>match y with
  | .int a _=>a == n
  | _=>false
 have he:∀y,y∈its.toArray->MeetsSeq.EqGives y (.int n t) (ev y):=λy hy=>by
  obtain ⟨j,hj,rfl⟩:=List.getElem_of_mem (by simpa using hy)
  obtain ⟨u,hu⟩:=at_ j (by omega)
  rw [hu]
  exact MeetsSeq.EqGives.int _ _ _ _
 have hbig:(i:Int)<2 ^ 63-1:=by
  have h1:its.length<=sizeLine:=by rw [← r.length];exact z
  have h2:sizeLine<2 ^ 63-1:=by decide
  omega
 refine call_meets F.slot_list_index ⟨_,e,rfl⟩ F.entry_list_index (F.args_list_index_2 _ _) (MeetsSeq.list_index l its.toArray c (.int n t) ev he i (by simpa using (show i<its.length by omega)) hbig ?_ λm hm hlt=>?_) ⟨e,?_⟩
 ·obtain ⟨u,hu⟩:=at_ i hil
  have:its.toArray[i]'(by simpa using (show i<its.length by omega))=.int ns[i] u:=by simpa using hu
  rw [this]
  show (ns[i] == n)=true
  rw [List.getElem?_eq_getElem hil] at hi
  simpa using Option.some.inj hi
 ·have hm':m<ns.length:=by simp at hm;omega
  obtain ⟨u,hu⟩:=at_ m hm'
  have:its.toArray[m] = .int ns[m] u:=by simpa using hu
  rw [this]
  show (ns[m] == n)=false
  have:=hno m hlt
  rw [List.getElem?_eq_getElem hm'] at this
  simpa using this
 ·exact ⟨.int i,H,I.tok _,⟨_,rfl⟩,q⟩
end
end L2
namespace PV
open PySem PySem.Spec L2 PyProof.Rows
section
variable {X:Cx} {T:Tg} {m o o1 o2:Bool} {e oe tg:Expr} {w we:WE} {wr:WA} {pos p q p2 ps1 ap2 cp2 apos cpos:Pos} {x y:Str}
def Qcb (s:Nat):WE:=λρ Q=>oget (look ρ s) λc=>Qsf c λds=>Q (.kls ds) (ρ.set s (some (.fls ds)))
theorem Qj6 {s:Nat} (ht:T.own s=true:=by rfl) (hN:X.N[s]? = some x:=by rfl) (hv:Vis X.env.scope x:=by first | exact Or.inl rfl | exact Or.inr (Or.inl rfl) | exact Or.inr (Or.inr rfl)) (hd:(x == ("__debug__" : Str))=false:=by decide)
  (hcd:(x == ("__classdict__" : Str))=false:=by decide):EV X T true true (.Name x p) (Qcb s):=by
 refine ⟨_,Qnh (Vd hN hv hd hcd),λz R σ H W ρ Q Q' sr hw k=>?_⟩
 obtain ⟨c,hl,hw⟩:=Qw hw
 obtain ⟨ds,rfl⟩:∃ds,c=D.lst ds:=by
  clear hl
  cases c with
  | lst ds=>exact ⟨ds,rfl⟩
  | _=>exact (show False from hw).elim
 obtain ⟨hp,hw⟩:=hw
 obtain ⟨fp,s0⟩:=id sr
 obtain ⟨v,hv0,r0⟩:=s0.at_ s _ hl
 obtain ⟨a,ys,rfl,e,r,hF⟩:∃(a:Addr) (ys:List V),v=.ref a/\H a=some (.lst ys)/\Reps X.K H ds ys []/\fp s=[a]:=by
  generalize fp s=Fi at r0
  cases r0 with
  | @lst a ys _ F e1 r =>
   obtain ⟨hG,r⟩:=r.pure hp
   exact ⟨a,ys,rfl,e1,r,by rw [hG]⟩
 have hWa:W a:=(s0.own s _ hl ht).2 a (by rw [hF];exact List.mem_cons_self)
 refine ⟨_,hv0,a,ys,rfl,e,λob=>k _ _ (λb=>W b/\b≠a) (.kls ds) _ [] ⟨s0.freezeL hl ht hv0 e r hF,⟨λb u eb nb=>?_,λb eb=>?_,Vx e rfl,λb hb=>.inl hb.1⟩,(λh=>nomatch h),.kls (.inl ⟨ob,Qn⟩) (r.upd e rfl (λh=>nomatch h)),λ_=>⟨List.nodup_nil,λb hb=>nomatch hb⟩⟩ hw⟩
 ·rw [Qy (show b≠a from λz=>nb (by rw [z];exact hWa))];exact eb
 ·by_cases hb:b=a
  ·rw [hb,Qn] at eb;cases eb
  ·rw [Qy hb] at eb;exact eb
def Qtf (d:D) (k:List D->Prop):Prop:=match d with
 | .kls es=>Qm es=true/\k (G1 0 es)
 | _=>False
def Qia (i:Nat):WL:=λρ Q=>oget (look ρ i) λd=>Qtf d λl=>Q l ρ
theorem Qma {i:Nat} {ts:List Expr} {kt:Nat} {pt:Pos} (hm:X.mg "enumerate" = none) (hN:X.N[i]? = some x:=by rfl) (hv:Vis X.env.scope x:=by first | exact Or.inl rfl | exact Or.inr (Or.inl rfl) | exact Or.inr (Or.inr rfl)) (hd:(x == ("__debug__" : Str))=false:=by decide)
  (hcd:(x == ("__classdict__" : Str))=false:=by decide) (hg:Gl X "enumerate":=by rfl) (hs:starEach [.Name x p2] X.env=[(false,eval (.Name x p2) X.env)]:=by rfl) (hs2:starEach [.Name x p2] X.env=(false,eval (.Name x p2) X.env)::starEach [] X.env:=by rfl) :
  IV X T false true (.Tuple ts kt pt) (.Call (.Name "enumerate" p) [.Name x p2] [] pos) (Qia i):=by
 refine ⟨_,Qgd hg hm (Z4 (Vd hN hv hd hcd) Xr hs2) hs,λz R σ H W ρ Q RR s hw k=>?_⟩
 obtain ⟨d,hl,q⟩:=Qw hw
 obtain ⟨fp,s0⟩:=id s
 obtain ⟨v,h1,r0⟩:=s0.at_ i d hl
 refine ⟨v,h1,?_⟩
 cases d with
 | kls es =>
  obtain ⟨hp,q⟩:=q
  obtain ⟨a,xs,rfl,_,e1,r⟩:=r0.iKls
  refine ⟨a,rfl,⟨xs,e1.sq⟩,k _ H W _ ρ ⟨s,FrW.refl H W,λ_=>⟨Same.refl H,rfl,rfl⟩⟩ (λi H2 W2 f=>?_) q⟩
  rw [Qb9] at f
  have e2:=f.imm.fzL e1
  refine ⟨λhi=>⟨xs,e2.sq,by rw [r.length];rwa [Ve] at hi⟩,λd hd=>?_⟩
  rw [G0] at hd
  cases hd':es[i]? with
  | none=>rw [hd'] at hd;cases hd
  | some d' =>
   rw [hd'] at hd
   obtain ⟨x,B,hx,rx,sx⟩:=r.get hd'
   refine ⟨⟨xs,x,e2.sq,hx⟩,λv H3 y=>?_⟩
   obtain ⟨x',t,h1,rfl,h3,rfl⟩:=y xs e2.sq
   rw [hx] at h1
   cases h1
   have hB:B=[]:=List.sublist_nil.mp sx
   subst hB
   refine ⟨Qk h3,[],?_,λa m=>nomatch m⟩
   cases hd
   rw [Nat.zero_add]
   exact .tup Qn (.cons (F:=[]) (G:=[]) (.int _) (Reps.one ((rx.keep f λa m=>nomatch m).same (Qk h3))))
 | _=>exact (show False from q).elim
theorem Qoq {es:List D} {k:List D->Prop}:Qtf (.kls es) k=(Qm es=true/\k (G1 0 es)):=rfl
def Qej (d:D) (ds:List D) (k:D->Prop):Prop:=match d,ds with
 | .lst xs,[.int n]=>∃(ns:List Int) (i:Nat),xs=ns.map D.int/\ns[i]? = some n/\(∀j,j<i->ns[j]? ≠ some n)/\k (.int i)
 | _,_=>False
theorem Qh0 {d:D} {ds:List D} {k:D->Prop} (g:Qej d ds k):∃(ns:List Int) (n:Int) (i:Nat),d=.lst (ns.map .int)/\ds=[.int n]/\ns[i]? = some n/\(∀j,j<i->ns[j]? ≠ some n)/\k (.int i):=by
 cases d with
 | lst xs =>
  cases ds with
  | nil=>exact (show False from g).elim
  | cons a ds =>
   cases ds with
   | cons _ _=>cases a <;> exact (show False from g).elim
   | nil=>cases a with
    | int n=>obtain ⟨ns,i,rfl,h⟩:=g;exact ⟨ns,n,i,rfl,rfl,h⟩
    | _=>exact (show False from g).elim
 | _=>exact (show False from g).elim
def Qbt (w:WE) (wr:WA):WE:=λρ Q=>w ρ λd ρ1=>(∃xs,d=.lst xs)/\wr ρ1 λds ρ2=>Qej d ds λr=>Q r ρ2
theorem Qme (ho:EV X T false true oe w) (ha:AV X T false o2 [e] wr)
  (hbase:attributeBase oe "index" X.env (eval oe X.env)=eval oe X.env:=by rfl)
  (hfew:((backTo cpos (starEach [e] X.env)).all (λx=>!x.1) && (backToKw cpos (keywordEach [] X.env)).all (λx=>x.1.isSome)
   && decide (([e]:List Expr).length+([]:List Keyword).length+(if ([]:List Keyword).isEmpty then 0 else 1)<30))=true:=by rfl)
  (hline:(apos.endLine == cpos.line)=true:=by rfl) (hs:starEach [e] X.env=(false,eval e X.env)::starEach [] X.env:=by rfl) (hplain:(backTo cpos (starEach [] X.env)).any (·.1)=false:=by rfl) :
  EV X T false true (.Call (.Attribute oe "index" apos) [e] [] cpos) (Qbt w wr):=by
 obtain ⟨te,pe,ge⟩:=ho
 obtain ⟨ta,pa,ga⟩:=ha
 refine ⟨_,Qlt PySem.F.plainAttrs_list PySem.F.slot_list_index PySem.F.type_list_index Ql3 pe pa hbase hfew hline hs hplain,λz R σ H W ρ Q Q' s hw k=>?_⟩
 refine ge z R σ H W ρ _ _ s hw λv1 H1 W1 d1 ρ1 F1 p q1=>?_
 obtain ⟨⟨xs,rfl⟩,q1⟩:=q1
 obtain ⟨c1,c2,c3⟩:=p.calm rfl
 subst c2 c3
 obtain ⟨l,vs,G,rfl,hF,e1,r9⟩:=p.rep.iLst
 refine ⟨.inl ⟨rfl,_,.of e1⟩,ga z R σ H1 _ _ _ _ p.sr q1 λus H2 W2 ds ρ2 F2 q q2=>?_⟩
 obtain ⟨b1,b2,b3⟩:=q.calm rfl
 subst b2 b3
 obtain ⟨ns,n,i,hx,rfl,hi,hno,q4⟩:=Qh0 q2
 injection hx with hx
 subst hx
 obtain rfl:=r9.ints_inv
 obtain ⟨u,rfl,ru⟩:=q.rep.at1
 obtain rfl:=ru.iInt
 exact ⟨l,ns,n,i,rfl,rfl,b1 _ _ e1,hi,hno,k _ H2 _ _ _ [] (Post.flat (s.same (c1.trans b1)) (FrW.same _ (c1.trans b1)) (λ_=>⟨c1.trans b1,rfl,rfl⟩) (.int _)) q4⟩
theorem Qam {xs:List D} {n:Int} {k:D->Prop}:Qej (.lst xs) [.int n] k=∃(ns:List Int) (i:Nat),xs=ns.map D.int/\ns[i]? = some n/\(∀j,j<i->ns[j]? ≠ some n)/\k (.int i):=rfl
def Qh9 (i j:Nat):WS:=λP ρ=>oget (look ρ i) λd=>oget (look ρ j) λe=>P.rt (.tup [d,e]) ((ρ.set i none).set j none)
theorem Qod {i j:Nat} {kt} (hij:i≠j:=by decide) (ti:T.own i=true:=by rfl) (tj:T.own j=true:=by rfl) (hN:X.N[i]? = some x:=by rfl) (hM:X.N[j]? = some y:=by rfl) (hv:Vis X.env.scope x:=by first | exact Or.inl rfl | exact Or.inr (Or.inl rfl) | exact Or.inr (Or.inr rfl)) (hd:(x == ("__debug__" : Str))=false:=by decide)
  (hcd:(x == ("__classdict__" : Str))=false:=by decide) (hv2:Vis X.env.scope y:=by first | exact Or.inl rfl | exact Or.inr (Or.inl rfl) | exact Or.inr (Or.inr rfl)) (hd2:(y == ("__debug__" : Str))=false:=by decide)
  (hcd2:(y == ("__classdict__" : Str))=false:=by decide) (hs:starEach [.Name x p,.Name y p2] X.env=(false,eval (.Name x p) X.env)::starEach [.Name y p2] X.env:=by rfl) (hs2:starEach [.Name y p2] X.env=(false,eval (.Name y p2) X.env)::starEach [] X.env:=by rfl):SV X T (.Return (some (.Tuple [.Name x p,.Name y p2] kt q)) pos) (Qh9 i j):=by
 refine ⟨_,Qgc (Qi7 (Z4 (Vd hN hv hd hcd) (Z4 (Vd hM hv2 hd2 hcd2) Xr hs2) hs)),λz R σ H W ρ P E s hw l=>?_⟩
 obtain ⟨d,hl,hw⟩:=Qw hw
 obtain ⟨e,hlj,qq⟩:=Qw hw
 obtain ⟨fp,s0⟩:=id s
 obtain ⟨v,h1,r1⟩:=s0.at_ i d hl
 obtain ⟨u,h2,r2⟩:=s0.at_ j e hlj
 refine ⟨v,h1,u,h2,by show 2<=sizeLine;decide,λtp htp=>?_⟩
 obtain ⟨nd1,ow1⟩:=s0.own i d hl ti
 obtain ⟨nd2,ow2⟩:=s0.own j e hlj tj
 have dij:=s0.dis i j d e hl hlj ti tj hij
 have key:∀k e',look ((ρ.set i none).set j none) k=some e'->k≠i/\k≠j/\look ρ k=some e':=λk e' h=>by
  have kj:k≠j:=λz=>by
   subst z
   rw [Zw,if_pos ⟨rfl,by rw [List.length_set];exact Uh hlj⟩] at h;cases h
  rw [Q1 kj] at h
  have ki:k≠i:=λz=>by
   subst z
   rw [Zw,if_pos ⟨rfl,Uh hl⟩] at h;cases h
  rw [Q1 ki] at h
  exact ⟨ki,kj,h⟩
 have sm:Same H (upd H tp (.tup [v,u])):=Qk htp
 have rep:Rep X.K (upd H tp (.tup [v,u])) (.tup [d,e]) (.ref tp) (fp i++fp j):=.tup Qn (Reps.append (Reps.one (r1.same sm)) (Reps.one (r2.same sm)))
 have nd:(fp i++fp j).Nodup:=List.nodup_append.mpr ⟨nd1,nd2,λa ha b hb z=>dij a ha (z ▸ hb)⟩
 refine l.rt R (.ref tp) σ _ (λa=>W a/\a∉fp i++fp j) ((ρ.set i none).set j none) (.tup [d,e]) (fp i++fp j) ⟨fp,?_⟩ ?_ rep nd (λa ha=>⟨λh=>h.2 ha,.inl ((List.mem_append.mp ha).elim (ow1 a) (ow2 a))⟩) qq
 ·refine ⟨by rw [List.length_set,List.length_set];exact s0.len,λa h=>?_,λk e' h=>?_,λk e' h t=>⟨(s0.own k e' (key k e' h).2.2 t).1,λa ha=>⟨(s0.own k e' (key k e' h).2.2 t).2 a ha,λha'=>?_⟩⟩,
   λk e' h t=>s0.ro k e' (key k e' h).2.2 t,λa h=>s0.wr a h.1,λa h=>?_,λk k2 e' e2 h h' t t'=>s0.dis k k2 e' e2 (key k e' h).2.2 (key k2 e2 h').2.2 t t',s0.fix⟩
  ·obtain ⟨ob,e1,e2⟩:=s0.wd a h.1
   exact ⟨ob,sm a ob e1,e2⟩
  ·obtain ⟨u',a1,a2⟩:=s0.at_ k e' (key k e' h).2.2
   exact ⟨u',a1,a2.same sm⟩
  ·rcases List.mem_append.mp ha' with h3 | h3
   ·exact s0.dis k i e' d (key k e' h).2.2 hl t ti (key k e' h).1 a ha h3
   ·exact s0.dis k j e' e (key k e' h).2.2 hlj t tj (key k e' h).2.1 a ha h3
  ·obtain ⟨ob,e1,e2⟩:=s0.rd a h
   exact ⟨ob,sm a ob e1,e2⟩
 ·have hdom:∀b,(upd H tp (.tup [v,u])) b=none->H b=none:=λb e=>by
   cases q0:H b with
   | none=>rfl
   | some ob=>rw [sm b ob q0] at e;cases e
  exact ⟨λb ob e _=>sm b ob e,hdom,λb ob e _=>sm b ob e,λb h=>.inl h.1⟩
theorem SR0.sameH {K:PySem.W.Frag} {z:Nat->V} {R:Addr->Prop} {H H':Hp} {W:Addr->Prop} {σ:L2.St} {ρ:Env} {fp:Nat->List Addr} (r:SR0 K T z R H W σ ρ fp) (k:Same H H'):SR0 K T z R H' W σ ρ fp :=
 ⟨r.len,λa h=>(r.wd a h).imp λob q=>⟨k _ _ q.1,q.2⟩,λi d h=>(r.at_ i d h).imp λv q=>⟨q.1,q.2.same k⟩,r.own,r.ro,r.wr,λa h=>(r.rd a h).imp λob q=>⟨k _ _ q.1,q.2⟩,r.dis,r.fix⟩
def tjOf (d:D) (j:Nat) (k:List D->List D->Prop):Prop:=match d with
 | .tup ds=>oget ds[j]? λc=>lsOf c λxs=>k ds xs
 | _=>False
theorem Qm0 {d:D} {j:Nat} {k:List D->List D->Prop} (h:tjOf d j k):∃ds xs,d=.tup ds/\ds[j]? = some (.lst xs)/\k ds xs:=by
 cases d with
 | tup ds =>
  obtain ⟨c,hc,h⟩:=Qw (show oget ds[j]? λc=>lsOf c λxs=>k ds xs from h)
  cases c with
  | lst xs=>exact ⟨ds,xs,rfl,hc,h⟩
  | _=>exact (show False from h).elim
 | _=>exact (show False from h).elim
def wTkj (i j:Nat) (we:WE):WS:=λP ρ=>oget (look ρ i) λd=>tjOf d j λds xs=>Qm xs=true/\xs.length<sizeLine/\we ρ λe _=>e.pure=true/\P.nx (ρ.set i (some (.tup (ds.set j (.lst (xs++[e]))))))
theorem Qm6 {α:Type} {l:List α} {j:Nat} {a:α} (h:j<l.length):l.set j a=l.take j++a::l.drop (j+1):=List.set_eq_take_append_cons_drop .. |>.trans (by rw [if_pos h])
theorem Qm2 {i j:Nat} {j1:Nat} {p1:Pos} (he:EV X T false o1 e we) (ht:T.own i=true:=by rfl) (hN:X.N[i]? = some x:=by rfl)
  (hvis:Vis X.env.scope x:=by first | exact Or.inl rfl | exact Or.inr (Or.inl rfl) | exact Or.inr (Or.inr rfl)) (hd:(x == ("__debug__" : Str))=false:=by decide) (hcd:(x == ("__classdict__" : Str))=false:=by decide) (hs1:Qbd (.Constant (.int (j:Int)) j1 p1):=by intro _ _;rfl)
  (b2:attributeBase (.Subscript (.Name x p) (.Constant (.int (j:Int)) j1 p1) ps1) "append" X.env (eval (.Subscript (.Name x p) (.Constant (.int (j:Int)) j1 p1) ps1) X.env)=eval (.Subscript (.Name x p) (.Constant (.int (j:Int)) j1 p1) ps1) X.env:=by rfl)
  (f2:((backTo cp2 (starEach [e] X.env)).all (λx=>!x.1) && (backToKw cp2 (keywordEach [] X.env)).all (λx=>x.1.isSome)
   && decide (([e]:List Expr).length+([]:List Keyword).length+(if ([]:List Keyword).isEmpty then 0 else 1)<30))=true:=by rfl)
  (l2:(ap2.endLine == cp2.line)=true:=by rfl) (s2:starEach [e] X.env=(false,eval e X.env)::starEach [] X.env:=by rfl) (q2:(backTo cp2 (starEach [] X.env)).any (·.1)=false:=by rfl)
  (hs:swapsWith (.Call (.Attribute (.Subscript (.Name x p) (.Constant (.int (j:Int)) j1 p1) ps1) "append" ap2) [e] [] cp2) none pos.line X.env=pure false:=by rfl) :
  SV X T (.Expr (.Call (.Attribute (.Subscript (.Name x p) (.Constant (.int (j:Int)) j1 p1) ps1) "append" ap2) [e] [] cp2) pos) (wTkj i j we):=by
 obtain ⟨te,pe,ge⟩:=he
 refine ⟨_,Qe5 (Qlt PySem.F.plainAttrs_list PySem.F.slot_list_append PySem.F.type_list_append Qaw (Qlm Qgo (Vd hN hvis hd hcd) Qd0 hs1) (Z4 pe Xr s2) b2 f2 l2 s2 q2) hs,λz R σ H W ρ P E s hw l=>?_⟩
 obtain ⟨sd,hl0,hw⟩:=Qw hw
 obtain ⟨ds,xs,rfl,hds,hpx,hz,hw⟩:=Qm0 hw
 obtain ⟨fp,s0⟩:=id s
 obtain ⟨v0,hv0,r0⟩:=s0.at_ i _ hl0
 obtain ⟨nd0,sw0⟩:=s0.own i _ hl0 ht
 have inv:∃(tp l0:Addr) (vs ys:List V) (A C:List Addr),v0=.ref tp/\H tp=some (.tup vs)/\vs[j]? = some (.ref l0)/\H l0=some (.lst ys)/\Reps X.K H xs ys []/\fp i=A++[l0]++C/\Reps X.K H (ds.take j) (vs.take j) A/\Reps X.K H (ds.drop (j+1)) (vs.drop (j+1)) C:=by
  generalize fp i=Fi at r0
  cases r0 with
  | @tup tp vs _ F e1 r =>
   obtain ⟨y,A,B,C,hy,hF,rB,rA,rC⟩:=r.split hds
   obtain ⟨l0,ys,G,rfl,rfl,e2,r3⟩:=rB.iLst
   obtain ⟨hG,r3⟩:=r3.pure hpx
   subst hG
   exact ⟨tp,l0,vs,ys,A,C,rfl,e1,hy,e2,r3,hF,rA,rC⟩
 obtain ⟨tp,l0,vs,ys,A,C,rfl,e1,hy,e2,r3,hF,rA,rC⟩:=inv
 have hm:l0∈fp i:=by rw [hF];simp
 have hWl:=sw0 l0 hm
 rw [hF] at nd0
 have nA:l0∉A/\l0∉C:=by
  simp only [List.append_assoc,List.nodup_append,List.mem_append,List.mem_singleton,List.nodup_cons,List.singleton_append,List.mem_cons] at nd0
  obtain ⟨_,⟨h1,_⟩,h2⟩:=nd0
  exact ⟨λh=>h2 l0 h l0 (.inl rfl) rfl,h1⟩
 refine ⟨_,hv0,tp,_,(j:Int),.ref l0,rfl,rfl,.of e1,Qfv hy,.inl ⟨rfl,_,.of e2⟩,ge z R σ H W ρ _ _ s hw λve H1 W1 d1 ρ1 F1 pp q1=>?_⟩
 obtain ⟨hpe,qn⟩:=q1
 obtain ⟨sm,hW1,hρ1⟩:=pp.calm rfl
 subst hW1 hρ1
 obtain ⟨-,re⟩:=pp.rep.pure hpe
 have e2':=sm _ _ e2
 refine ⟨l0,ys,ve,rfl,rfl,e2',by rw [r3.length];exact hz,?_⟩
 have im:ImmK H1 (upd H1 l0 (.lst (ys++[ve]))):=Vx e2' rfl
 have jl:j<ds.length:=(List.getElem?_eq_some_iff.mp hds).1
 have jv:j<vs.length:=(List.getElem?_eq_some_iff.mp hy).1
 have hvs:vs=vs.take j ++ .ref l0::vs.drop (j+1):=by
  have h1:vs[j] = .ref l0:=(List.getElem?_eq_some_iff.mp hy).2
  have h2:=List.set_getElem_self (as:=vs) jv
  rw [h1,Qm6 jv] at h2
  exact h2.symm
 have hrep:Rep X.K (upd H1 l0 (.lst (ys++[ve]))) (.tup (ds.set j (.lst (xs++[d1])))) (.ref tp) (fp i):=by
  rw [hF,Qm6 jl,List.append_assoc]
  refine .tup (xs:=vs) (im _ _ (sm _ _ e1) rfl) ?_
  rw [hvs]
  refine Reps.append (((rA.same sm)).frame im λa ha=>Qy λz=>nA.1 (z ▸ ha)) (.cons (F:=[l0]) (.lst (F:=[]) Qn (Reps.append (F:=[]) (G:=[]) ((r3.same sm).frame im λa m=>nomatch m) (Reps.one (re.frame im λa m=>nomatch m)))) (((rC.same sm)).frame im λa ha=>Qy λz=>nA.2 (z ▸ ha)))
 have s1:SR0 X.K T z R H1 W1 σ ρ1 fp:=s0.sameH sm
 have sF:=s1.write hl0 ht hv0 hm Gd ⟨_,Qn,rfl⟩ hrep (by rw [hF];exact nd0) (λa ha=>.inl ha)
 have fF:=(FrW.same W1 sm).write hWl (s1.wd l0 hWl) (H':=upd H1 l0 (.lst (ys++[ve]))) (λb u hb hne=>by rw [Qy hne];exact hb) ⟨_,Qn,rfl⟩ (F':=fp i) (λa ha=>.inl (sw0 a ha))
 exact l.nx R σ _ _ _ sF fF qn
def Qky (j:Nat) (w:WE):WS:=λP ρ=>w ρ λd ρ'=>tjOf d j λ_ xs=>xs.length<sizeLine/\P.nx ρ'
theorem Qn9 {n:Int} {j:Nat} {j1 j2} {p1:Pos} (he:EV X T m true e w) (hs1:Qbd (.Constant (.int (j:Int)) j1 p1):=by intro _ _;rfl)
  (b2:attributeBase (.Subscript e (.Constant (.int (j:Int)) j1 p1) ps1) "append" X.env (eval (.Subscript e (.Constant (.int (j:Int)) j1 p1) ps1) X.env)=eval (.Subscript e (.Constant (.int (j:Int)) j1 p1) ps1) X.env:=by rfl)
  (f2:((backTo cp2 (starEach [.Constant (.int n) j2 p2] X.env)).all (λx=>!x.1) && (backToKw cp2 (keywordEach [] X.env)).all (λx=>x.1.isSome)
   && decide (([.Constant (.int n) j2 p2]:List Expr).length+([]:List Keyword).length+(if ([]:List Keyword).isEmpty then 0 else 1)<30))=true:=by rfl)
  (l2:(ap2.endLine == cp2.line)=true:=by rfl) (s2:starEach [.Constant (.int n) j2 p2] X.env=(false,eval (.Constant (.int n) j2 p2) X.env)::starEach [] X.env:=by rfl) (q2:(backTo cp2 (starEach [] X.env)).any (·.1)=false:=by rfl)
  (hs:swapsWith (.Call (.Attribute (.Subscript e (.Constant (.int (j:Int)) j1 p1) ps1) "append" ap2) [.Constant (.int n) j2 p2] [] cp2) none pos.line X.env=pure false:=by rfl) :
  SV X T (.Expr (.Call (.Attribute (.Subscript e (.Constant (.int (j:Int)) j1 p1) ps1) "append" ap2) [.Constant (.int n) j2 p2] [] cp2) pos) (Qky j w):=by
 obtain ⟨te,pe,ge⟩:=he
 refine ⟨_,Qe5 (Qlt PySem.F.plainAttrs_list PySem.F.slot_list_append PySem.F.type_list_append Qaw (Qlm Qgo pe Qd0 hs1) (Z4 Qd0 Xr s2) b2 f2 l2 s2 q2) hs,λz R σ H W ρ P E s hw l=>?_⟩
 refine ge z R σ H W ρ _ _ s hw λv H1 W1 d ρ1 F p q=>?_
 obtain ⟨ds,xs,rfl,hds,hz,q⟩:=Qm0 q
 obtain ⟨nd,nw⟩:=p.own rfl
 have inv:∃(tp l0:Addr) (vs ys:List V),v=.ref tp/\H1 tp=some (.tup vs)/\vs[j]? = some (.ref l0)/\H1 l0=some (.lst ys)/\ys.length=xs.length/\l0∈F:=by
  have rp:=p.rep
  clear p nd nw
  cases rp with
  | @tup tp vs _ F e1 r =>
   obtain ⟨y,A,B,C,hy,hF,rB,rA,rC⟩:=r.split hds
   obtain ⟨l0,ys,G,rfl,rfl,e2,r3⟩:=rB.iLst
   exact ⟨tp,l0,vs,ys,rfl,e1,hy,e2,r3.length,by rw [hF];simp⟩
 obtain ⟨tp,l0,vs,ys,rfl,e1,hy,e2,hlen,hm⟩:=inv
 obtain ⟨w1,w2⟩:=nw l0 hm
 refine ⟨tp,_,(j:Int),.ref l0,rfl,rfl,.of e1,Qfv hy,.inl ⟨rfl,_,.of e2⟩,l0,ys,.int n,rfl,rfl,e2,by rw [hlen];exact hz,?_⟩
 have nb:∀{b ob},H b=some ob->b≠l0:=λh z=>by rw [z,w1] at h;cases h
 refine l.nx R σ _ W1 ρ1 (p.sr.other e2 rfl w2 (s.nr w1)) ⟨λb ob h n=>?_,λb h=>?_,λb ob h i=>?_,p.fr.new⟩ q
 ·rw [Qy (nb h)];exact p.fr.keep b ob h n
 ·by_cases hb:b=l0
  ·rw [hb];exact w1
  ·rw [Qy hb] at h;exact p.fr.dom b h
 ·rw [Qy (nb h)];exact p.fr.imm b ob h i
theorem Qi0 {ds:List D} {j:Nat} {k:List D->List D->Prop}:tjOf (.tup ds) j k=oget ds[j]? λc=>lsOf c λxs=>k ds xs:=rfl
end
end PV
namespace PV
open PySem PySem.Spec L2
theorem Qrj {a b c:D} {r:Int} (h0:0<=r) (h1:r<3):L2.atI [a,b,c] r=some a\/L2.atI [a,b,c] r=some b\/L2.atI [a,b,c] r=some c:=by
 have:r=0\/r=1\/r=2:=by omega
 rcases this with rfl | rfl | rfl
 ·exact .inl rfl
 ·exact .inr (.inl rfl)
 ·exact .inr (.inr rfl)
theorem Qan {lo:Int} {n:Nat}:Qm (rngD lo n)=true:=Gs λ_ _=>rfl
theorem Qao {ns:List Int}:Qm (ns.map D.int)=true:=Gs λ_ _=>rfl
theorem Us {ds:List D} {a:Nat} (h:a<=ds.length):cutD ds (some (a:Int)) none=ds.drop a:=by
 unfold cutD
 rw [HT.Qis,HT.Qf6,Nat.min_eq_left h,List.take_of_length_le (by simp)]
theorem Qg1 {ds:List D} {b:Nat}:cutD ds none (some (b:Int))=ds.take b:=by
 unfold cutD
 rw [HT.Qis,HT.Qf6,List.drop_zero,Nat.sub_zero]
 by_cases h:b<=ds.length
 ·rw [Nat.min_eq_left h]
 ·rw [Nat.min_eq_right (by omega),List.take_of_length_le (by omega),List.take_of_length_le (by omega)]
def rowD (c n:Int):D:=.lst [.int c,.int n]
theorem len1 {α:Type}:∀{us:List α},us.length=1->∃a,us=[a]
 | [a],_=>⟨a,rfl⟩
theorem len2 {α:Type} {us:List α} (h:us.length=2):∃a b,us=[a,b]:=by
 cases us with
 | nil=>cases h
 | cons a us=>obtain ⟨b,rfl⟩:=len1 (Nat.succ.inj h);exact ⟨a,b,rfl⟩
theorem len3 {α:Type} {us:List α} (h:us.length=3):∃a b c,us=[a,b,c]:=by
 cases us with
 | nil=>cases h
 | cons a us=>obtain ⟨b,c,rfl⟩:=len2 (Nat.succ.inj h);exact ⟨a,b,c,rfl⟩
theorem len4 {α:Type} {us:List α} (h:us.length=4):∃a b c d,us=[a,b,c,d]:=by
 cases us with
 | nil=>cases h
 | cons a us=>obtain ⟨b,c,d,rfl⟩:=len3 (Nat.succ.inj h);exact ⟨a,b,c,d,rfl⟩
end PV
namespace PV
open PySem PySem.Spec L2
theorem Gr:∀{ds:List D} {n:Nat},Qm ds=true->Qm (G1 n ds)=true
 | [],_,_=>rfl
 | d::r,n,h=>by
  simp only [Qm,Bool.and_eq_true] at h
  simp only [G1,Qm,D.pure,Bool.and_eq_true]
  exact ⟨⟨trivial,h.1,trivial⟩,Gr h.2⟩
end PV
namespace M
open PySem PySem.Spec L2 PV
end M
namespace PV
open PySem PySem.Spec L2
end PV
namespace PV
open PySem PySem.Spec L2
section
variable {X:Cx} {T:Tg} {m o m1 m2 m3 o1 o2:Bool} {e a b:Expr} {w wa wb:WE} {pos p2 p:Pos} {es:List Expr} {wr:WA} {x:Str}
variable {name:Str} {apos cpos:Pos} {T' id:String}
end
end PV
namespace S03
open PySem PySem.Spec L2 PV
open PySem.Builtin.Str (glued)
variable {k:D->Prop} {kk:D->D->Prop} {i:Int} {x y:Str} {xs ys:List D} {kvs:List (Key × D)}
theorem Yd {n:Nat} (h:n<=100000):n<sizeLine:=Nat.lt_of_le_of_lt h (by decide)
end S03
namespace S24
open PySem PySem.Spec L2 PV S03
open PySem.Builtin.Str (glued occurrences strSub subAt)
section
variable {k:D->Prop} {i:Int} {x y:Str} {xs zs:List D}
end
end S24
namespace Pol
abbrev T:=List (Int × Int)
def ev (f:Int->Int):T->Int
 | []=>0
 | t::ts=>t.2*f t.1+ev f ts
theorem Qj5 {f}:ev f []=0:=rfl
theorem Jq {f} {t:Int × Int} {ts:T}:ev f (t::ts)=t.2*f t.1+ev f ts:=rfl
theorem Qa5 {f}:∀{a b:T},ev f (a++b)=ev f a+ev f b
 | [],b=>by rw [List.nil_append,Qj5,Int.zero_add]
 | t::a,b=>by rw [List.cons_append,Jq,Jq,Qa5];omega
theorem Qmh {f g:Int->Int} (h:∀p,f p=g p):∀a:T,ev f a=ev g a
 | []=>rfl
 | t::a=>by rw [Jq,Jq,h,Qmh h a]
theorem Qpy {f} {a b:T} (h:a.Perm b):ev f a=ev f b:=by
 induction h with
 | nil=>rfl
 | cons x _ ih=>rw [Jq,Jq,ih]
 | swap x y l=>rw [Jq,Jq,Jq,Jq];omega
 | trans _ _ h1 h2=>exact h1.trans h2
def neg (a:T):T:=a.map λt=>(t.1,-t.2)
def lift (a:T) (m:Int):T:=a.map λt=>(t.1+m,t.2)
theorem Qns {f}:∀{a:T},ev f (neg a) = - ev f a
 | []=>rfl
 | t::a=>by
  show -t.2*f t.1+ev f (neg a)=_
  rw [Qns,Jq,Int.neg_mul];omega
theorem Qx {f} {m:Int}:∀{a:T},ev f (lift a m)=ev (λp=>f (p+m)) a
 | []=>rfl
 | t::a=>by
  show t.2*f (t.1+m)+ev f (lift a m)=_
  rw [Qx,Jq]
structure Is (a:T):Prop where
 asc:a.Pairwise λt u=>t.1<u.1
 nz:∀t∈a,t.2≠0
def del (p:Int):Int->Int:=λq=>if q=p then 1 else 0
theorem Gy {p:Int}:∀{a:T},(∀t∈a,p<t.1)->ev (del p) a=0
 | [],_=>rfl
 | t::a,h=>by
  have h1:=h t List.mem_cons_self
  rw [Jq,Gy λu hu=>h u (List.mem_cons_of_mem _ hu)]
  unfold del
  rw [if_neg (by omega)]
  omega
theorem Vo {t:Int × Int} {a:T} (h:(t::a).Pairwise λt u=>t.1<u.1):ev (del t.1) (t::a)=t.2:=by
 rw [Jq,Gy (List.pairwise_cons.mp h).1]
 unfold del
 rw [if_pos rfl]
 omega
theorem Is.tail {t:Int × Int} {a:T} (h:Is (t::a)):Is a:=⟨(List.pairwise_cons.mp h.asc).2,λu hu=>h.nz u (List.mem_cons_of_mem _ hu)⟩
theorem Is.hd {t:Int × Int} {a:T} (h:Is (t::a)):t.2≠0:=h.nz t List.mem_cons_self
theorem uniq:∀{a b:T},Is a->Is b->(∀f,ev f a=ev f b)->a=b
 | [],[],_,_,_=>rfl
 | [],u::b,_,hb,h=>by
  have:=h (del u.1)
  rw [Qj5,Vo hb.asc] at this
  exact absurd this.symm hb.hd
 | t::a,[],ha,_,h=>by
  have:=h (del t.1)
  rw [Qj5,Vo ha.asc] at this
  exact absurd this ha.hd
 | t::a,u::b,ha,hb,h=>by
  have h1:=h (del t.1)
  have h2:=h (del u.1)
  rw [Vo ha.asc] at h1
  rw [Vo hb.asc] at h2
  have ht:∀x∈a,t.1<x.1:=(List.pairwise_cons.mp ha.asc).1
  have hu:∀x∈b,u.1<x.1:=(List.pairwise_cons.mp hb.asc).1
  rcases Int.lt_trichotomy t.1 u.1 with c | c | c
  ·rw [Gy (a:=u::b)] at h1
   ·exact absurd h1 ha.hd
   ·intro x hx
    rcases List.mem_cons.mp hx with rfl | hx
    ·exact c
    ·have:=hu x hx;omega
  ·rw [← c] at h2
   have h3:ev (del t.1) (u::b)=u.2:=by rw [c];exact Vo hb.asc
   have e:t=u:=Prod.ext c (by rw [h1,h3])
   subst e
   rw [uniq ha.tail hb.tail λf=>by
    have:=h f
    rw [Jq,Jq] at this
    omega]
  ·rw [Gy (a:=t::a)] at h2
   ·exact absurd h2.symm hb.hd
   ·intro x hx
    rcases List.mem_cons.mp hx with rfl | hx
    ·exact c
    ·have:=ht x hx;omega
theorem Qsy:Is []:=⟨.nil,λ_ h=>nomatch h⟩
theorem Qpq {a:T} {m:Int} (h:Is a):Is (lift a m):=by
 refine ⟨?_,λt ht=>?_⟩
 ·unfold lift
  rw [List.pairwise_map]
  exact h.asc.imp λ{x y} hxy=>by show x.1+m<y.1+m;omega
 ·obtain ⟨u,hu,rfl⟩:=List.mem_map.mp ht
  exact h.nz u hu
theorem Qsx {m c:Int} (h:c≠0):Is [(m,c)]:=⟨List.pairwise_singleton _ _,λt ht=>by rw [List.mem_singleton.mp ht];exact h⟩
def nrm:T->Nat
 | []=>0
 | t::a=>t.2.natAbs+nrm a
theorem Xd:∀{a b:T},nrm (a++b)=nrm a+nrm b
 | [],b=>by rw [List.nil_append];simp [nrm]
 | t::a,b=>by rw [List.cons_append,nrm,nrm,Xd];omega
theorem Qje:∀{a:T},nrm (neg a)=nrm a
 | []=>rfl
 | t::a=>by
  show (-t.2).natAbs+nrm (neg a)=_
  rw [Qje,Int.natAbs_neg];rfl
theorem Ql1 {a b:T} (h:a.Perm b):nrm a=nrm b:=by
 induction h with
 | nil=>rfl
 | cons x _ ih=>rw [nrm,nrm,ih]
 | swap x y l=>rw [nrm,nrm,nrm,nrm];omega
 | trans _ _ h1 h2=>exact h1.trans h2
def get:T->Int->Int
 | [],_=>0
 | t::a,p=>if t.1=p then t.2 else get a p
def put:T->Int->Int->T
 | [],p,n=>[(p,n)]
 | t::a,p,n=>if t.1=p then (p,n)::a else t::put a p n
theorem Qnd {f} {p n:Int}:∀{a:T},ev f (put a p (get a p+n))=ev f a+n*f p
 | []=>by
  show (0+n)*f p+0=0+n*f p
  rw [Int.zero_add];omega
 | t::a=>by
  unfold put get
  by_cases h:t.1=p
  ·rw [if_pos h,if_pos h,Jq,Jq,← h];show (t.2+n)*f t.1+_=_;rw [Int.add_mul];omega
  ·rw [if_neg h,if_neg h,Jq,Jq,Qnd];omega
theorem Qi1 {p n:Int}:∀{a:T},nrm (put a p (get a p+n))<=nrm a+n.natAbs
 | []=>by
  show (0+n).natAbs+0<=0+n.natAbs
  rw [Int.zero_add];omega
 | t::a=>by
  unfold put get
  by_cases h:t.1=p
  ·rw [if_pos h,if_pos h,nrm,nrm];show (t.2+n).natAbs+_<=_;omega
  ·rw [if_neg h,if_neg h,nrm,nrm];have:=Qi1 (p:=p) (n:=n) (a:=a);omega
theorem Gq {p n:Int}:∀{a:T} {q:Int},q∈(put a p n).map (·.1)->q=p\/q∈a.map (·.1)
 | [],q,h=>.inl (by simpa [put] using h)
 | t::a,q,h=>by
  unfold put at h
  by_cases e:t.1=p
  ·rw [if_pos e] at h
   rcases List.mem_cons.mp h with h | h
   ·exact .inl h
   ·exact .inr (List.mem_cons_of_mem _ h)
  ·rw [if_neg e] at h
   rcases List.mem_cons.mp h with h | h
   ·exact .inr (by rw [h];exact List.mem_cons_self)
   ·exact (Gq h).imp id λh=>List.mem_cons_of_mem _ h
theorem Qdz {p n:Int}:∀{a:T},(a.map (·.1)).Nodup->((put a p n).map (·.1)).Nodup
 | [],_=>by simp [put]
 | t::a,h=>by
  obtain ⟨h1,h2⟩:=List.nodup_cons.mp h
  unfold put
  by_cases e:t.1=p
  ·rw [if_pos e]
   exact List.nodup_cons.mpr ⟨by show p∉_;rw [← e];exact h1,h2⟩
  ·rw [if_neg e]
   refine List.nodup_cons.mpr ⟨λhq=>?_,Qdz h2⟩
   rcases Gq hq with h | h
   ·exact e h
   ·exact h1 h
theorem Qb3 {p n:Int}:∀{a:T},(put a p n).length<=a.length+1
 | []=>by simp [put]
 | t::a=>by
  unfold put
  by_cases e:t.1=p
  ·rw [if_pos e];simp
  ·rw [if_neg e];have:=Qb3 (p:=p) (n:=n) (a:=a);simpa using this
theorem Qgm:∀{a:T},(a.map (·.1)).Nodup->(a.map (·.1)).map (λp=>(p,get a p))=a
 | [],_=>rfl
 | t::a,h=>by
  obtain ⟨h1,h2⟩:=List.nodup_cons.mp h
  rw [List.map_cons,List.map_cons]
  have e1:get (t::a) t.1=t.2:=by unfold get;rw [if_pos rfl]
  have e2:(a.map (·.1)).map (λp=>(p,get (t::a) p))=(a.map (·.1)).map (λp=>(p,get a p)):=by
   refine List.map_congr_left λp hp=>?_
   have:get (t::a) p=get a p:=by
    show (if t.1=p then t.2 else get a p)=_
    rw [if_neg λe=>h1 (by show t.1∈_;rw [e];exact hp)]
   rw [this]
  rw [e1,e2,Qgm h2]
def nzf (a:T):T:=a.filter λt=>decide (t.2≠0)
theorem Qj4 {f}:∀{a:T},ev f (nzf a)=ev f a
 | []=>rfl
 | t::a=>by
  unfold nzf
  by_cases h:t.2=0
  ·rw [List.filter_cons_of_neg (by simpa using h)]
   show ev f (nzf a)=_
   rw [Qj4,Jq,h];omega
  ·rw [List.filter_cons_of_pos (by simpa using h),Jq]
   show _+ev f (nzf a)=_
   rw [Qj4];rfl
theorem Qfc:∀{a:T},nrm (nzf a)=nrm a
 | []=>rfl
 | t::a=>by
  unfold nzf
  by_cases h:t.2=0
  ·rw [List.filter_cons_of_neg (by simpa using h)]
   show nrm (nzf a)=_
   rw [Qfc,nrm,h];simp
  ·rw [List.filter_cons_of_pos (by simpa using h),nrm]
   show _+nrm (nzf a)=_
   rw [Qfc];rfl
theorem Qs5 {a:T} {out:List Int} (hn:(a.map (·.1)).Nodup) (hp:out.Perm (a.map (·.1))) (ho:out.Pairwise (· <= ·)) :
  Is (nzf (out.map λp=>(p,get a p)))/\(∀f,ev f (nzf (out.map λp=>(p,get a p)))=ev f a)/\nrm (nzf (out.map λp=>(p,get a p)))=nrm a/\(nzf (out.map λp=>(p,get a p))).length<=a.length:=by
 have hpp:(out.map λp=>(p,get a p)).Perm a:=by
  have:=hp.map λp=>(p,get a p)
  rwa [Qgm hn] at this
 have hnd:out.Nodup:=hp.symm.nodup hn
 refine ⟨⟨?_,λt ht=>?_⟩,λf=>by rw [Qj4,Qpy hpp],by rw [Qfc,Ql1 hpp],?_⟩
 ·refine List.Pairwise.filter _ ?_
  rw [List.pairwise_map]
  refine (ho.and hnd).imp λ{x y} h=>?_
  show x<y
  have h1:x<=y:=h.1
  have h2:x≠y:=h.2
  omega
 ·have:=(List.mem_filter.mp ht).2
  simpa using this
 ·refine Nat.le_trans (List.length_filter_le _ _) ?_
  rw [hpp.length_eq]
  exact Nat.le_refl _
end Pol
namespace V66
def nrmz (p q:Int):Int × Int:=if q<=0 then (-p,-q) else (p,q)
def step (t:Int × Int) (n:Int):Int × Int:=nrmz (n*t.1-t.2) t.1
structure Inv (t:Int × Int):Prop where
 g:Int.gcd t.1 t.2=1
 nn:0<=t.2
 one:t.2=0->t.1=1
theorem first (n:Int):step (1,0) n=(n,1):=by
 unfold step nrmz
 simp
theorem Qf3 {p q:Int} (hp:0<p) (n:Int):step (p,q) n=(n*p-q,p):=by
 unfold step nrmz
 rw [if_neg (by show ¬p<=0;omega)]
end V66
namespace V63
open V66
def up (t b:Int):Int:=-((-t) / b)
end V63
namespace V68
def adj (ah:List Int) (m:Int):List Int:=match ah.getLast? with
 | none=>[]
 | some z=>ah.dropLast++[z+m]
theorem Qdb {m:Int}:adj [] m=[]:=rfl
theorem Y2 {bs:List Int} {z m:Int}:adj (bs++[z]) m=bs++[z+m]:=by
 unfold adj
 rw [List.getLast?_append]
 simp
end V68
namespace Dct
open PySem PySem.Spec L2 PV
open Pol
def pr2 (t:Int × Int):D:=.tup [.int t.1,.int t.2]
theorem Y1 {ts:List (Int × Int)}:Qm (ts.map pr2)=true:=Gs λ_ _=>rfl
theorem two_eq {n:Nat} {ts:List (Int × Int)} (h:3<=n):eqOk n (.tup (ts.map pr2))=true:=by
 obtain ⟨m,rfl⟩:∃m,n=m+3:=⟨n-3,by omega⟩
 show Zp (m+2) (ts.map pr2)=true
 exact Qa6 λ_ _=>rfl
theorem Yd {n:Nat} (h:n<=1000000):n<sizeLine:=Nat.lt_of_le_of_lt h (by decide)
def enc (a:T):List (Key × D):=a.map λt=>(.inl t.1,.int t.2)
theorem Qj9 {a:T}:(enc a).length=a.length:=List.length_map ..
theorem Qgx {a:T}:(enc a).map (·.1)=(a.map (·.1)).map Sum.inl:=by
 unfold enc
 rw [List.map_map,List.map_map];rfl
theorem Qfy {p:Int}:∀{a:T},p∉a.map (·.1)->valD (enc a) (.inl p)=none
 | [],_=>rfl
 | t::a,h=>by
  have h1:¬t.1=p:=λe=>h (by rw [← e];exact List.mem_cons_self)
  have h2:p∉a.map (·.1):=λe=>h (List.mem_cons_of_mem _ e)
  show valD ((.inl t.1,.int t.2)::enc a) (.inl p)=none
  rw [Gc,if_neg (λe=>h1 (Sum.inl.inj e)),Qfy h2]
theorem Qcd {p:Int}:∀{a:T},p∈a.map (·.1)->valD (enc a) (.inl p)=some (.int (get a p))
 | t::a,h=>by
  show valD ((.inl t.1,.int t.2)::enc a) (.inl p)=_
  rw [Gc]
  unfold Pol.get
  by_cases e:t.1=p
  ·rw [if_pos (by rw [e]),if_pos e]
  ·rw [if_neg (λz=>e (Sum.inl.inj z)),if_neg e]
   refine Qcd ?_
   rcases List.mem_cons.mp h with h | h
   ·exact absurd h.symm e
   ·exact h
theorem Qgr {p:Int}:∀{a:T},p∉a.map (·.1)->get a p=0
 | [],_=>rfl
 | t::a,h=>by
  have h1:¬t.1=p:=λe=>h (by rw [← e];exact List.mem_cons_self)
  have h2:p∉a.map (·.1):=λe=>h (List.mem_cons_of_mem _ e)
  unfold Pol.get
  rw [if_neg h1,Qgr h2]
theorem Qk1 {p:Int} {a:T}:(valD (enc a) (.inl p)).getD (.int 0)=.int (get a p):=by
 by_cases h:p∈a.map (·.1)
 ·rw [Qcd h];rfl
 ·rw [Qfy h,Qgr h];rfl
theorem Qi2 {p n:Int}:∀{a:T},(a.map (·.1)).Nodup->putD (enc a) (.inl p) (.int n)=enc (put a p n)
 | [],_=>rfl
 | t::a,h=>by
  obtain ⟨h1,h2⟩:=List.nodup_cons.mp h
  show putD ((.inl t.1,.int t.2)::enc a) (.inl p) (.int n)=_
  unfold put
  by_cases e:t.1=p
  ·rw [if_pos e,e]
   rw [Qou]
   ·rfl
   ·rw [Qgx]
    intro hm
    obtain ⟨q,hq,hqe⟩:=List.mem_map.mp hm
    have:q=p:=Sum.inl.inj hqe
    subst this
    exact h1 (by show t.1∈_;rw [e];exact hq)
  ·rw [if_neg e,Qot (λz=>e (Sum.inl.inj z)),Qi2 h2];rfl
end Dct
namespace M69
open Pol
abbrev L:=(Int->Int)->Int
abbrev St:=L × L
def sh (m:Int) (A:L):L:=λf=>A λp=>f (p+m)
def sub (A B:L):L:=λf=>A f-B f
def neg (A:L):L:=λf=>- A f
def Z:L:=λ_=>0
def O:L:=λf=>f 0
theorem Xu {m k:Int} {A:L}:sh m (sh k A)=sh (k+m) A:=by
 funext f
 show A (λp=>f (p+k+m))=A (λp=>f (p+(k+m)))
 congr 1;funext p;congr 1;omega
theorem sh_0 {A:L}:sh 0 A=A:=by
 funext f
 show A (λp=>f (p+0))=A f
 congr 1;funext p;congr 1;omega
theorem Qf5 {m:Int} {A B:L}:sh m (sub A B)=sub (sh m A) (sh m B):=rfl
theorem Qm5 {m:Int} {A:L}:sh m (neg A)=neg (sh m A):=rfl
def T (s:Int) (x:St):St:=(sh (-s) x.1,sub (sh s x.1) (sh (3*s) x.2))
def R (x:St):St:=(x.2,x.1)
theorem RR {x:St}:R (R x)=x:=rfl
def sg (h:Int):Int:=1-2*(h % 2)
def mu (h:Int) (A:L):L:=λf=>sg h*sh (3*h) A f
def W (h:Int) (x:St):St:=(mu h x.1,mu h x.2)
theorem Qqv (h k:Int):sg (h+k)=sg h*sg k:=by
 unfold sg
 have h1:h % 2=0\/h % 2=1:=by omega
 have h2:k % 2=0\/k % 2=1:=by omega
 rcases h1 with h1 | h1 <;> rcases h2 with h2 | h2 <;> (have h3:(h+k) % 2=(h % 2+k % 2) % 2:=by omega);all_goals (rw [h3,h1,h2];decide)
theorem Qnk {h k:Int} {A:L}:mu (h+k) A=mu h (mu k A):=by
 funext f
 show sg (h+k)*A (λp=>f (p+3*(h+k)))=sg h*(sg k*A (λp=>f (p+3*k+3*h)))
 rw [Qqv,Int.mul_assoc]
 congr 3;funext p;congr 1;omega
theorem Qmv {h k:Int} {x:St}:W (h+k) x=W h (W k x):=by
 show (mu (h+k) x.1,mu (h+k) x.2)=(mu h (mu k x.1),mu h (mu k x.2))
 rw [Qnk,Qnk]
theorem mu_0 {A:L}:mu 0 A=A:=by
 funext f
 show sg 0*A (λp=>f (p+3*0))=A f
 rw [show sg 0=1 from rfl,Int.one_mul]
 congr 1;funext p;congr 1;omega
theorem W_0 {x:St}:W 0 x=x:=by
 show (mu 0 x.1,mu 0 x.2)=x
 rw [mu_0,mu_0]
theorem mu_1 {A:L}:mu 1 A=neg (sh 3 A):=by
 funext f
 show sg 1*sh (3*1) A f = - sh 3 A f
 rw [show sg 1 = -1 from rfl,show (3*1:Int)=3 from rfl,Int.neg_mul,Int.one_mul]
theorem Qpk {A:L}:mu (-1) A=neg (sh (-3) A):=by
 funext f
 show sg (-1)*sh (3 * -1) A f = - sh (-3) A f
 rw [show sg (-1) = -1 from rfl,show (3 * -1:Int) = -3 from rfl,Int.neg_mul,Int.one_mul]
theorem Qpj {h m:Int} {A:L}:mu h (sh m A)=sh m (mu h A):=by
 funext f
 show sg h*A (λp=>f (p+m+3*h))=sg h*A (λp=>f (p+3*h+m))
 congr 2;funext p;congr 1;omega
theorem Qsc {h:Int} {A B:L}:mu h (sub A B)=sub (mu h A) (mu h B):=by
 funext f
 show sg h*(sh (3*h) A f-sh (3*h) B f)=sg h*sh (3*h) A f-sg h*sh (3*h) B f
 rw [Int.mul_sub]
theorem WT {h s:Int} {x:St}:W h (T s x)=T s (W h x):=by
 show (mu h (sh (-s) x.1),mu h (sub (sh s x.1) (sh (3*s) x.2)))=(sh (-s) (mu h x.1),sub (sh s (mu h x.1)) (sh (3*s) (mu h x.2)))
 rw [Qpj,Qsc,Qpj,Qpj]
theorem WR {h:Int} {x:St}:W h (R x)=R (W h x):=rfl
theorem TRT {s:Int} {x:St}:T s (R (T s x))=(sub x.1 (sh (2*s) x.2),neg (sh (4*s) x.2)):=by
 obtain ⟨A,B⟩:=x
 show (sh (-s) (sub (sh s A) (sh (3*s) B)),sub (sh s (sub (sh s A) (sh (3*s) B))) (sh (3*s) (sh (-s) A)))=_
 rw [Qf5,Qf5,Xu,Xu,Xu,Xu,Xu]
 rw [show s + -s=0 by omega,sh_0,show 3*s + -s=2*s by omega,show s+s=2*s by omega,show 3*s+s=4*s by omega,show -s+3*s=2*s by omega]
 refine Prod.ext rfl ?_
 funext f
 show sh (2*s) A f-sh (4*s) B f-sh (2*s) A f = - sh (4*s) B f
 omega
theorem five {s:Int} {x:St}:T s (R (T s (R (T s x))))=(neg (sh (3*s) x.2),neg (sh (3*s) x.1)):=by
 obtain ⟨A,B⟩:=x
 have h:=TRT (s:=s) (x:=(A,B))
 rw [h]
 show (sh (-s) (neg (sh (4*s) B)),sub (sh s (neg (sh (4*s) B))) (sh (3*s) (sub A (sh (2*s) B))))=(neg (sh (3*s) B),neg (sh (3*s) A))
 rw [Qm5,Qm5,Qf5,Xu,Xu,Xu,show 4*s + -s=3*s by omega,show 4*s+s=5*s by omega,show 2*s+3*s=5*s by omega]
 refine Prod.ext rfl ?_
 funext f
 show-sh (5*s) B f-(sh (3*s) A f-sh (5*s) B f) = - sh (3*s) A f
 omega
theorem Quz {x:St}:T 1 (R (T 1 (R (T 1 x))))=W 1 (R x):=by
 rw [five]
 show _=(mu 1 x.2,mu 1 x.1)
 rw [mu_1,mu_1];rfl
theorem Quy {x:St}:T (-1) (R (T (-1) (R (T (-1) x))))=W (-1) (R x):=by
 rw [five]
 show _=(mu (-1) x.2,mu (-1) x.1)
 rw [Qpk,Qpk];rfl
theorem Tinv {s:Int} {x:St}:T (-s) (T s x)=x:=by
 obtain ⟨A,B⟩:=x
 show (sh (- -s) (sh (-s) A),sub (sh (-s) (sh (-s) A)) (sh (3 * -s) (sub (sh s A) (sh (3*s) B))))=(A,B)
 rw [Qf5,Xu,Xu,Xu,Xu,show -s + - -s=0 by omega,show -s + -s = -2*s by omega,show s+3 * -s = -2*s by omega,show 3*s+3 * -s=0 by omega,sh_0,sh_0]
 refine Prod.ext rfl ?_
 funext f
 show sh (-2*s) A f-(sh (-2*s) A f-B f)=B f
 omega
def it (s:Int):Nat->St->St
 | 0,x=>x
 | n+1,x=>T s (it s n x)
def sgn (n:Int):Int:=if 0<n then 1 else -1
def Tn (n:Int) (x:St):St:=it (sgn n) n.natAbs x
theorem Tn_0 {x:St}:Tn 0 x=x:=rfl
theorem it_W {s h:Int} {x:St}:∀n,W h (it s n x)=it s n (W h x)
 | 0=>rfl
 | n+1=>by rw [it,WT,it_W n];rfl
theorem Tn_W {n h:Int} {x:St}:W h (Tn n x)=Tn n (W h x):=it_W _
theorem Qfx {n:Int} {x:St}:Tn (n+1) x=T 1 (Tn n x):=by
 unfold Tn
 by_cases h:0<=n
 ·obtain ⟨k,rfl⟩:=Int.eq_ofNat_of_zero_le h
  have e:((k:Int)+1).natAbs=k+1:=by omega
  rw [e,it]
  have e1:sgn ((k:Int)+1)=1:=if_pos (by omega)
  rw [e1]
  cases k with
  | zero=>rfl
  | succ k =>
   have e2:sgn (((k+1:Nat):Int))=1:=if_pos (by omega)
   rw [e2];rfl
 ·have e2:sgn n = -1:=if_neg (by omega)
  rw [e2]
  obtain ⟨k,hk⟩:∃k,n.natAbs=k+1:=⟨n.natAbs-1,by omega⟩
  rw [hk,it]
  have:=Tinv (s:=-1) (x:=it (-1) k x)
  rw [show (- -1:Int)=1 from rfl] at this
  rw [this]
  have e3:(n+1).natAbs=k:=by omega
  rw [e3]
  cases k with
  | zero=>rfl
  | succ k=>rw [show sgn (n+1) = -1 from if_neg (by omega)]
theorem Qkt {n:Int} {x:St}:Tn (n-1) x=T (-1) (Tn n x):=by
 have h:=Qfx (n:=n-1) (x:=x)
 rw [show n-1+1=n by omega] at h
 rw [h,Tinv]
theorem Qg7 {m n:Int} {x:St}:Tn (m+n) x=Tn m (Tn n x):=by
 have pos:∀k:Nat,∀n:Int,Tn ((k:Int)+n) x=Tn k (Tn n x):=λk=>by
  induction k with
  | zero=>intro n;rw [show ((0:Nat):Int)+n=n by omega];rfl
  | succ k ih =>
   intro n
   rw [show ((k+1:Nat):Int)+n=((k:Int)+n)+1 by omega,Qfx,ih,show ((k+1:Nat):Int)=(k:Int)+1 by omega,Qfx]
 have neg:∀k:Nat,∀n:Int,Tn (-(k:Int)+n) x=Tn (-(k:Int)) (Tn n x):=λk=>by
  induction k with
  | zero=>intro n;rw [show -((0:Nat):Int)+n=n by omega];rfl
  | succ k ih =>
   intro n
   rw [show -((k+1:Nat):Int)+n=(-(k:Int)+n)-1 by omega,Qkt,ih,show -((k+1:Nat):Int) = -(k:Int)-1 by omega,Qkt]
 rcases Int.le_total 0 m with h | h
 ·obtain ⟨k,rfl⟩:=Int.eq_ofNat_of_zero_le h
  exact pos k n
 ·obtain ⟨k,hk⟩:=Int.eq_ofNat_of_zero_le (show 0 <= -m by omega)
  have e:m = -(k:Int):=by omega
  rw [e];exact neg k n
theorem Tn_1 {x:St}:Tn 1 x=T 1 x:=rfl
theorem Qku {x:St}:Tn (-1) x=T (-1) x:=rfl
def U (x:St) (n:Int):St:=Tn n (R x)
abbrev F (x:St) (l:List Int):St:=l.foldl U x
def s0:St:=(Z,O)
theorem F_W {h:Int}:∀{l:List Int} {x:St},F (W h x) l=W h (F x l)
 | [],x=>rfl
 | n::l,x=>by
  show F (U (W h x) n) l=W h (F (U x n) l)
  rw [← F_W]
  congr 1
  show Tn n (R (W h x))=W h (Tn n (R x))
  rw [← WR,Tn_W]
theorem U3 {x:St} {z r:Int} {s:Int} (hs:s=1\/s = -1):U (U (U x z) s) r=W s (U (U x (z-s)) (r-s)):=by
 show Tn r (R (Tn s (R (Tn z (R x)))))=W s (Tn (r-s) (R (Tn (z-s) (R x))))
 have e1:Tn z (R x)=Tn s (Tn (z-s) (R x)):=by rw [← Qg7];congr 1;omega
 have e2:∀y,Tn r y=Tn (r-s) (Tn s y):=λy=>by rw [← Qg7];congr 1;omega
 rw [e1,e2,Tn_W,]
 congr 1
 rcases hs with rfl | rfl
 ·rw [Tn_1,Tn_1,Tn_1,Quz]
 ·rw [Qku,Qku,Qku,Quy]
theorem U2 {x:St} {z r:Int}:U (U (U x z) 0) r=U x (z+r):=by
 show Tn r (R (Tn 0 (R (Tn z (R x)))))=Tn (z+r) (R x)
 rw [Tn_0,RR,← Qg7];congr 1;omega
theorem TRT0 {s:Int} {A:L}:T s (R (T s (A,Z)))=(A,Z):=by
 rw [TRT]
 refine Prod.ext ?_ ?_
 ·funext f;show A f-sh (2*s) Z f=A f;show A f-0=A f;omega
 ·funext f;show -(0:Int)=0;rfl
theorem U0s {s r:Int} (hs:s=1\/s = -1):U (U s0 s) r=U s0 (r-s):=by
 show Tn r (R (Tn s (O,Z)))=Tn (r-s) (O,Z)
 have e2:∀y,Tn r y=Tn (r-s) (Tn s y):=λy=>by rw [← Qg7];congr 1;omega
 rw [e2]
 congr 1
 rcases hs with rfl | rfl
 ·rw [Tn_1,Tn_1,TRT0]
 ·rw [Qku,Qku,TRT0]
theorem T_ZB {s:Int} (hs:s=1\/s = -1) {B:L}:T s (Z,B)=W s (Z,B):=by
 refine Prod.ext ?_ ?_
 ·funext f
  show (0:Int)=sg s*0
  rw [Int.mul_zero]
 ·rcases hs with rfl | rfl
  ·show sub (sh 1 Z) (sh (3*1) B)=mu 1 B
   rw [mu_1];funext f;show (0:Int)-sh 3 B f = - sh 3 B f;omega
  ·show sub (sh (-1) Z) (sh (3 * -1) B)=mu (-1) B
   rw [Qpk];funext f;show (0:Int)-sh (-3) B f = - sh (-3) B f;omega
theorem mu_Z {h:Int}:mu h Z=Z:=by funext f;show sg h*0=0;rw [Int.mul_zero]
theorem W_ZB {h:Int} {B:L}:W h (Z,B)=(Z,mu h B):=by show (mu h Z,mu h B)=_;rw [mu_Z]
theorem Qsw {s:Int} (hs:s=1\/s = -1) {B:L}:∀n:Nat,it s n (Z,B)=W (s*n) (Z,B)
 | 0=>by rw [show s*((0:Nat):Int)=0 by simp,W_0];rfl
 | n+1=>by
  rw [it,Qsw hs n,W_ZB,T_ZB hs,← W_ZB,← Qmv]
  congr 1
  rcases hs with rfl | rfl <;> omega
theorem Qva {n:Int} {B:L}:Tn n (Z,B)=W n (Z,B):=by
 unfold Tn
 rw [Qsw (by unfold sgn;split <;> simp)]
 congr 1
 unfold sgn
 split <;> omega
theorem loose {r:Int}:U (U s0 0) r=W r (U (U s0 0) 0):=by
 show Tn r (Z,O)=W r (Z,O)
 exact Qva
def M (t:Int × Int) (n:Int):Int × Int:=(n*t.1-t.2,t.1)
def ng (t:Int × Int):Int × Int:=(-t.1,-t.2)
def N (t:Int × Int):Int × Int:=if t.2<0\/(t.2=0/\t.1<0) then ng t else t
def nz (t:Int × Int):Prop:=t.1≠0\/t.2≠0
theorem M_ng {t:Int × Int} {n:Int}:M (ng t) n=ng (M t n):=by
 unfold M ng
 refine Prod.ext ?_ rfl
 show n * -t.1 - -t.2 = -(n*t.1-t.2)
 rw [Int.mul_neg];omega
theorem N_ng {t:Int × Int} (h:nz t):N (ng t)=N t:=by
 obtain ⟨p,q⟩:=t
 have h:p≠0\/q≠0:=h
 unfold N ng
 show (if -q<0\/(-q=0 /\ -p<0) then (- -p,- -q) else (-p,-q))=if q<0\/(q=0/\p<0) then (-p,-q) else (p,q)
 by_cases c:q<0\/(q=0/\p<0)
 ·rw [if_pos c,if_neg (by omega)]
 ·rw [if_neg c,if_pos (by omega),Int.neg_neg,Int.neg_neg]
theorem M_nz {t:Int × Int} {n:Int} (h:nz t):nz (M t n):=by
 obtain ⟨p,q⟩:=t
 by_cases c:p=0
 ·subst c
  have h:(0:Int)≠0\/q≠0:=h
  refine .inl ?_
  show n*0-q≠0
  rw [Int.mul_zero];omega
 ·exact .inr c
theorem Qqs {t:Int × Int} {n:Int} (h:nz t):V66.step (N t) n=N (M t n):=by
 have key:∀t:Int × Int,nz t->(0<t.2\/(t.2=0/\0<t.1))->V66.step t n=N (M t n):=λt h c=>by
  obtain ⟨p,q⟩:=t
  have c:0<q\/(q=0/\0<p):=c
  show (if p<=0 then (-(n*p-q),-p) else (n*p-q,p))=if p<0\/(p=0/\n*p-q<0) then (-(n*p-q),-p) else (n*p-q,p)
  by_cases e:p=0
  ·subst e
   rw [if_pos (by omega),if_pos (by rw [Int.mul_zero];omega)]
  ·by_cases e2:p<0
   ·rw [if_pos (by omega),if_pos (by omega)]
   ·rw [if_neg (by omega),if_neg (by omega)]
 by_cases c:t.2<0\/(t.2=0/\t.1<0)
 ·have e:N t=ng t:=if_pos c
  rw [e,key (ng t) (by unfold nz ng at *;dsimp only;omega) (by unfold ng;dsimp only;omega),M_ng,N_ng (M_nz h)]
 ·have e:N t=t:=if_neg c
  rw [e,key t h (by unfold nz at h;omega)]
theorem Qnr:∀{l:List Int} {t:Int × Int},nz t->l.foldl V66.step (N t)=N (l.foldl M t)
 | [],_,_=>rfl
 | n::l,t,h=>by
  show l.foldl V66.step (V66.step (N t) n)=N (l.foldl M (M t n))
  rw [Qqs h,Qnr (M_nz h)]
theorem Qic {l:List Int}:l.foldl V66.step (1,0)=N (l.foldl M (1,0)):=Qnr (l:=l) (t:=(1,0)) (.inl (by decide))
theorem Qjz:∀{l:List Int} {t:Int × Int},nz t->nz (l.foldl M t)
 | [],_,h=>h
 | n::l,t,h=>Qjz (l:=l) (M_nz h)
theorem Qj0:∀{l:List Int} {t:Int × Int},l.foldl M (ng t)=ng (l.foldl M t)
 | [],_=>rfl
 | n::l,t=>by
  show l.foldl M (M (ng t) n)=ng (l.foldl M (M t n))
  rw [M_ng,Qj0]
def Eqs (t u:Int × Int):Prop:=t=u\/t=ng u
theorem Eqs.fold {t u:Int × Int} (h:Eqs t u) (l:List Int):Eqs (l.foldl M t) (l.foldl M u):=by
 rcases h with rfl | rfl
 ·exact .inl rfl
 ·exact .inr Qj0
theorem Eqs.val {t u:Int × Int} (h:Eqs t u) (hu:nz u):N t=N u:=by
 rcases h with rfl | rfl
 ·rfl
 ·exact N_ng hu
theorem M3 {t:Int × Int} {z r:Int}:M (M (M t z) 1) r=M (M t (z-1)) (r-1):=by
 obtain ⟨p,q⟩:=t
 unfold M
 refine Prod.ext ?_ ?_
 ·show r*(1*(z*p-q)-p)-(z*p-q)=(r-1)*((z-1)*p-q)-p
  rw [Int.one_mul,Int.sub_mul z,Int.one_mul,Int.sub_mul r,Int.one_mul]
  generalize z*p=a
  rw [show a-q-p=a-p-q by omega]
  generalize r*(a-p-q)=b
  omega
 ·show 1*(z*p-q)-p=(z-1)*p-q
  rw [Int.one_mul,Int.sub_mul,Int.one_mul];omega
theorem M3m {t:Int × Int} {z r:Int}:M (M (M t z) (-1)) r=ng (M (M t (z+1)) (r+1)):=by
 obtain ⟨p,q⟩:=t
 unfold M ng
 refine Prod.ext ?_ ?_
 ·show r*(-1*(z*p-q)-p)-(z*p-q) = -((r+1)*((z+1)*p-q)-p)
  rw [Int.neg_mul,Int.one_mul,Int.add_mul z,Int.one_mul,Int.add_mul r,Int.one_mul]
  generalize z*p=a
  rw [show -(a-q)-p = -(a+p-q) by omega,Int.mul_neg]
  generalize r*(a+p-q)=b
  omega
 ·show -1*(z*p-q)-p = -((z+1)*p-q)
  rw [Int.neg_mul,Int.one_mul,Int.add_mul,Int.one_mul];omega
theorem M2 {t:Int × Int} {z r:Int}:M (M (M t z) 0) r=ng (M t (z+r)):=by
 obtain ⟨p,q⟩:=t
 unfold M ng
 refine Prod.ext ?_ ?_
 ·show r*(0*(z*p-q)-p)-(z*p-q) = -((z+r)*p-q)
  rw [Int.zero_mul,Int.add_mul,show (0:Int)-p = -p by omega,Int.mul_neg]
  omega
 ·show 0*(z*p-q)-p = -p
  rw [Int.zero_mul];omega
theorem M1s {r:Int}:M (M (1,0) 1) r=M (1,0) (r-1):=by
 unfold M
 refine Prod.ext ?_ rfl
 show r*(1*1-0)-1=(r-1)*1-0
 omega
theorem M1m {r:Int}:M (M (1,0) (-1)) r=ng (M (1,0) (r+1)):=by
 unfold M ng
 refine Prod.ext ?_ rfl
 show r*(-1*1-0)-1 = -((r+1)*1-0)
 omega
theorem M00:M (M (1,0) 0) 0=ng (1,0):=rfl
theorem Ml {r:Int}:M (M (1,0) 0) r=M (M (1,0) 0) 0:=by
 unfold M
 refine Prod.ext ?_ rfl
 show r*(0*1-0)-1=0*(0*1-0)-1
 omega
open V68
def Led (l q:List Int) (v:Int):Prop:=F s0 l=W v (F s0 q)/\Eqs (l.foldl M (1,0)) (q.foldl M (1,0))
theorem Led.refl (l:List Int):Led l l 0:=⟨W_0.symm,.inl rfl⟩
theorem Eqs.trans {a b c:Int × Int} (h:Eqs a b) (k:Eqs b c):Eqs a c:=by
 rcases h with rfl | rfl
 ·exact k
 ·rcases k with rfl | rfl
  ·exact .inr rfl
  ·exact .inl (by unfold ng;simp)
theorem Led.trans {l q r:List Int} {v u:Int} (h:Led l q v) (k:Led q r u):Led l r (v+u):=⟨by rw [h.1,k.1,Qmv],h.2.trans k.2⟩
theorem Led.value {l q:List Int} {v:Int} (h:Led l q v):l.foldl V66.step (1,0)=q.foldl V66.step (1,0):=by
 rw [Qic,Qic]
 exact h.2.val (Qjz (.inl (by decide)))
theorem Qgl {pre a b rs:List Int} {v:Int} (h1:∀x,F x a=W v (F x b)) (h2:∀t,Eqs (a.foldl M t) (b.foldl M t)):Led (pre++a++rs) (pre++b++rs) v:=by
 refine ⟨?_,?_⟩
 ·unfold F
  rw [List.foldl_append,List.foldl_append,List.foldl_append,List.foldl_append]
  show F (F (F s0 pre) a) rs=W v (F (F (F s0 pre) b) rs)
  rw [h1,F_W]
 ·rw [List.foldl_append,List.foldl_append,List.foldl_append,List.foldl_append]
  exact (h2 _).fold rs
theorem Qpm {bs rs:List Int} {z r:Int}:Led (bs++[z]++1::r::rs) (bs++[z + -1]++(r + -1)::rs) 1:=by
 have:=Qgl (pre:=bs) (a:=[z,1,r]) (b:=[z + -1,r + -1]) (rs:=rs) (v:=1) (λx=>U3 (.inl rfl)) (λt=>.inl M3)
 simpa using this
theorem Ql6 {bs rs:List Int} {z r:Int}:Led (bs++[z] ++ -1::r::rs) (bs++[z+1]++(r+1)::rs) (-1):=by
 have:=Qgl (pre:=bs) (a:=[z,-1,r]) (b:=[z+1,r+1]) (rs:=rs) (v:=-1) (λx=>by
  have:=U3 (x:=x) (z:=z) (r:=r) (s:=-1) (.inr rfl)
  rw [show z - -1=z+1 by omega,show r - -1=r+1 by omega] at this
  exact this) (λt=>.inr M3m)
 simpa using this
theorem Qhp {bs rs:List Int} {z r:Int}:Led (bs++[z]++0::r::rs) (bs++[z+r]++rs) 0:=by
 have:=Qgl (pre:=bs) (a:=[z,0,r]) (b:=[z+r]) (rs:=rs) (v:=0) (λx=>by
  show U (U (U x z) 0) r=W 0 (U x (z+r))
  rw [W_0,U2]) (λt=>.inr M2)
 simpa using this
theorem Qji {pre rs:List Int} {p q:Int}:Led (pre++p::q::rs) (pre++[p+1,1,q+1]++rs) (-1):=by
 have:=Qgl (pre:=pre) (a:=[p,q]) (b:=[p+1,1,q+1]) (rs:=rs) (v:=-1) (λx=>by
  show U (U x p) q=W (-1) (U (U (U x (p+1)) 1) (q+1))
  rw [U3 (.inl rfl),← Qmv,show p+1-1=p by omega,show q+1-1=q by omega]
  exact W_0.symm) (λt=>by
  refine .inl ?_
  show M (M t p) q=M (M (M t (p+1)) 1) (q+1)
  rw [M3,show p+1-1=p by omega,show q+1-1=q by omega])
 simpa using this
theorem Ql5 {rs:List Int} {r:Int}:Led (1::r::rs) ((r + -1)::rs) 0:=by
 refine ⟨?_,?_⟩
 ·rw [W_0]
  show F (U (U s0 1) r) rs=F (U s0 (r + -1)) rs
  rw [U0s (.inl rfl)];rfl
 ·refine Eqs.fold (t:=M (M (1,0) 1) r) (.inl ?_) rs
  rw [M1s];rfl
theorem Qjk {rs:List Int} {r:Int}:Led (-1::r::rs) ((r+1)::rs) 0:=by
 refine ⟨?_,?_⟩
 ·rw [W_0]
  show F (U (U s0 (-1)) r) rs=F (U s0 (r+1)) rs
  rw [U0s (.inr rfl),show r - -1=r+1 by omega]
 ·exact Eqs.fold (t:=M (M (1,0) (-1)) r) (.inr M1m) rs
theorem Qff {rs:List Int}:Led (0::0::rs) rs 0:=by
 refine ⟨?_,?_⟩
 ·rw [W_0];rfl
 ·exact Eqs.fold (t:=M (M (1,0) 0) 0) (u:=(1,0)) (.inr M00) rs
theorem Qjj {rs:List Int} {r:Int}:Led (0::r::rs) (0::0::rs) r:=by
 refine ⟨?_,?_⟩
 ·show F (U (U s0 0) r) rs=W r (F (U (U s0 0) 0) rs)
  rw [loose,F_W]
 ·exact Eqs.fold (t:=M (M (1,0) 0) r) (.inl Ml) rs
def Wi (B:Nat) (a:Pol.T):Prop:=∀t∈a,-(B:Int)<=t.1/\t.1<=B
theorem Vn {p:Int}:∀{a:Pol.T},(∀t∈a,t.1≠p)->ev (del p) a=0
 | [],_=>rfl
 | t::a,h=>by
  rw [Jq,Vn λu hu=>h u (List.mem_cons_of_mem _ hu)]
  unfold del
  rw [if_neg (h t List.mem_cons_self)]
  omega
theorem Qa4:∀{a:Pol.T},(a.Pairwise λt u=>t.1<u.1)->∀t∈a,ev (del t.1) a=t.2
 | u::a,h,t,ht=>by
  obtain ⟨h1,h2⟩:=List.pairwise_cons.mp h
  rcases List.mem_cons.mp ht with rfl | ht
  ·exact Vo h
  ·rw [Jq,Qa4 h2 t ht]
   unfold del
   rw [if_neg (by have:=h1 t ht;omega)]
   omega
theorem Quv {B:Nat} {us a b:Pol.T} (h:Is us) (ha:Wi B a) (hb:Wi B b) (e:∀f,ev f us=ev f a-ev f b):Wi B us:=λt ht=>by
 refine Decidable.byContradiction λc=>?_
 have h1:=Qa4 h.asc t ht
 rw [e,Vn λu hu z=>c (by rw [← z];exact ha u hu),Vn λu hu z=>c (by rw [← z];exact hb u hu)] at h1
 exact h.nz t ht (by omega)
theorem Qmx:∀{a:Pol.T} {lo hi:Int},(a.Pairwise λt u=>t.1<u.1)->(∀t∈a,lo<=t.1/\t.1<=hi)->(a.length:Int)<=(hi-lo+1).toNat
 | [],_,_,_,_=>by rw [List.length_nil];omega
 | t::a,lo,hi,h,k=>by
  obtain ⟨h1,h2⟩:=List.pairwise_cons.mp h
  have:=Qmx (lo:=t.1+1) (hi:=hi) h2 λu hu=>⟨by have:=h1 u hu;omega,(k u (List.mem_cons_of_mem _ hu)).2⟩
  have k1:=k t List.mem_cons_self
  rw [List.length_cons]
  omega
theorem Qca {B:Nat} {a:Pol.T} (h:Is a) (k:Wi B a):a.length<=2*B+1:=by
 have:=Qmx (lo:=-(B:Int)) (hi:=B) h.asc k
 omega
theorem Qev {B:Nat} {a:Pol.T} {m:Int} (h:Wi B a) (hm:m.natAbs<=3):Wi (B+3) (lift a m):=λt ht=>by
 obtain ⟨u,hu,rfl⟩:=List.mem_map.mp ht
 have:=h u hu
 dsimp only
 omega
end M69
namespace K70
open PySem PySem.Spec L2 PV
open PyProof.Rows (envOfC)
open V68
def top (i:Nat):Stmt:=PySem.Challenge.pw_tanglehouse_k70_whole_eased.main.body.getD i (.Pass ⟨0,0,0,0⟩)
structure Bn (K:PySem.W.Frag) (mg:Str->Option Value):Prop where
 nb_abs:mg "abs" = none
 nb_bool:mg "bool" = none
 nb_enumerate:mg "enumerate" = none
 nb_int:mg "int" = none
 nb_isinstance:mg "isinstance" = none
 nb_len:mg "len" = none
 nb_list:mg "list" = none
 nb_max:mg "max" = none
 nb_range:mg "range" = none
 nb_reversed:mg "reversed" = none
 nb_sorted:mg "sorted" = none
 nb_tuple:mg "tuple" = none
 c_NOUGHT:KcN K mg "NOUGHT" (.tup [])
 c_ONE:KcN K mg "ONE" (.tup [.tup [.int 0,.int 1]])
 c_UPRIGHT_LIST:∃a:Addr,mg "UPRIGHT_LIST" = some (.ref a)/\Qih K a [0,0]=true
 f_exchanged:FnN K mg "exchanged"
 f_half_twisted_sums:FnN K mg "half_twisted_sums"
 e_NoStep:∃C,ExcK K mg "NoStep" C/\atN K "NoStep" C
theorem Yd {n:Nat} (h:n<=2000):n<sizeLine:=Nat.lt_of_le_of_lt h (by decide)
abbrev I (l:List Int):List D:=l.map .int
theorem pI {l:List Int}:Qm (I l)=true:=Qao
theorem pc {P R:List D} (h1:Qm P=true) (h2:Qm R=true):Qm (P++R)=true:=Uf.mpr λx hx=>(List.mem_append.mp hx).elim (Uf.mp h1 x) (Uf.mp h2 x)
theorem pu {P R:List Int} {n r:Int}:Qm (I P ++ .int n :: .int r::I R)=true:=pc pI (by simp only [Qm,D.pure,Bool.true_and];exact pI)
section
variable {P R:List D} {x y z y':D}
theorem at0:L2.atI (P++x::y::R) (P.length:Int)=some x:=by rw [Vr,List.getElem?_append_right (Nat.le_refl _),Nat.sub_self];rfl
theorem at1:L2.atI (P++x::y::R) ((P.length:Int)+1)=some y:=by
 rw [show (P.length:Int)+1=((P.length+1:Nat):Int) by omega,Vr,List.getElem?_append_right (by omega),show P.length+1-P.length=1 by omega];rfl
theorem atm:L2.atI ((P++[z])++x::y::R) (((P++[z]).length:Int)-1)=some z:=by
 rw [show ((P++[z]).length:Int)-1=(P.length:Int) by simp,Vr,List.append_assoc,List.getElem?_append_right (Nat.le_refl _),Nat.sub_self];rfl
theorem cutP:cutD (P++x::y::R) none (some (P.length:Int))=P:=by rw [Qg1,List.take_left]
theorem cutm:cutD ((P++[z])++x::y::R) none (some (((P++[z]).length:Int)-1))=P:=by
 rw [show ((P++[z]).length:Int)-1=(P.length:Int) by simp,Qg1,List.append_assoc,List.take_left]
theorem cut1:cutD (P++x::y::R) (some ((P.length:Int)+1)) none=y::R:=by
 rw [show (P.length:Int)+1=((P.length+1:Nat):Int) by omega,Us (by simp),List.drop_append,List.drop_of_length_le (by omega),show P.length+1-P.length=1 by omega];rfl
theorem cut2:cutD (P++x::y::R) (some ((P.length:Int)+2)) none=R:=by
 rw [show (P.length:Int)+2=((P.length+2:Nat):Int) by omega,Us (by simp),List.drop_append,List.drop_of_length_le (by omega),show P.length+2-P.length=2 by omega];rfl
theorem ix1:L2.ixN (P++x::y::R).length ((P.length:Int)+1)=some (P.length+1):=by
 unfold L2.ixN
 rw [if_pos (by omega),if_pos (by simp;omega)]
 congr 1
theorem set1:(P++x::y::R).set (P.length+1) y'=P++x::y'::R:=by
 rw [List.set_append_right _ _ (by omega),show P.length+1-P.length=1 by omega];rfl
theorem ixm:L2.ixN ((P++[z])++x::y::R).length (((P++[z]).length:Int)-1)=some P.length:=by
 unfold L2.ixN
 rw [if_pos (by simp),if_pos (by simp;omega)]
 congr 1
 simp
theorem setm:((P++[z])++x::y::R).set P.length y'=(P++[y'])++x::y::R:=by
 rw [List.append_assoc,List.set_append_right _ _ (Nat.le_refl _),Nat.sub_self,List.append_assoc];rfl
theorem ers:(P++x::y::R).eraseIdx P.length=P++y::R:=by
 rw [List.eraseIdx_append_of_length_le (Nat.le_refl _),Nat.sub_self];rfl
theorem sq0:seqIndex? (P.length:Int) (P++x::y::R).length=some P.length:=by
 unfold seqIndex?
 simp
 omega
theorem ge0:(P++x::y::R)[P.length]? = some x:=by rw [List.getElem?_append_right (Nat.le_refl _),Nat.sub_self];rfl
end
def Vk:GA:=λds k=>∃n:Int,ds=[.int n]/\k (.bl true)
abbrev Yu:Stmt:=top 4
theorem Qe1:FnScope ["thing"] ["thing"] (Qd Yu):=⟨rfl,rfl,rfl,by decide +kernel,rfl,by decide +kernel,by decide +kernel⟩
def Qbv:Tg:={ own:=λi=>false,io:=[] }
def Qbq:WS:=(wRet (Qib (Qh dIsi (Qc (wVar 0) (Qc (wC (.ty .int)) wNil))) (Qn3 (Qh dIsi (Qc (wVar 0) (Qc (wC (.ty .bool)) wNil))))))
theorem Qh2 {P:Program} {w:World} {K:PySem.W.Frag} {mg:Str->Option Value} {base:Heap} {f:Addr} (B:Bn K mg):∀(cdv:Value) (A:Around) (outer:List PySem.Env) (s:Shared) (H:Hp) (E:XK),Room 0 (A.deeper (envOfC "is_whole" (Qd Yu) s.heap.objs.size f cdv))->SVs (cxOf CX0 P w K mg base ["thing"] "is_whole" (Qd Yu) f cdv A outer s H E).nox Qbv (Ql Yu) Qbq:=λcdv A outer s H E hr =>
  (Qj (Qz (Qj7 (Ji Qkk B.nb_isinstance V1 (Qb (Qa 0) (Qb (Qpx .int B.nb_int Qnx) Qg))) (Qeg (Qtb (Ji Qkk B.nb_isinstance V1 (Qb (Qa 0) (Qb (Qpx .bool B.nb_bool Qp8) Qg))))))))
theorem Qe9 {P:Program} {w:World} {K:PySem.W.Frag} {mg:Str->Option Value} {base:Heap} {f:Addr} {fd:FuncData} (F:Fun K "is_whole" "is_whole" Yu f fd) (B:Bn K mg):FnOk P w K mg base CX0 1 f fd ["thing"] (spR K Vk):=by
 refine Zo (T:=Qbv) F Qe1 rfl (by decide) (λds kk h=>?_) (Qh2 B) (λds kk h=>?_)
 ·obtain ⟨n,rfl,_⟩:=h
  rfl
 ·obtain ⟨n,rfl,k⟩:=h
  simp only [Qbq,wRet,env0,List.map_cons,List.map_nil,List.length_cons,List.length_nil,Nat.zero_add,List.cons_append,List.nil_append,Qiz,Qh,Qc,wC,wNil,Qqy,Qq5,isiD,Qr,Qu,look,Qi,BEq.rfl,reduceIte]
  exact k
def plc (l:List Int) (a:Int):Bool:=decide (0<=a/\a<(l.length:Int)-1)
def Zk:GA:=λds k=>∃(l:List Int) (w:Str) (a:Int),ds=[.lst (I l),.tup [.str w,.int a]]/\k (.bl (plc l a))
abbrev Yf:Stmt:=top 7
theorem Qdn:FnScope ["twists","thing"] ["twists","thing"] (Qd Yf):=⟨rfl,rfl,rfl,by decide +kernel,rfl,by decide +kernel,by decide +kernel⟩
def Qac:Tg:={ own:=λi=>false,io:=[] }
def X6:WS:=(wSeq (wIf (wOr (wNot (wTru (Qh dIsi (Qc (wVar 1) (Qc (wC (.ty .tuple)) wNil))))) (wBl (wBin dNe (Qh dLen (Qc (wVar 1) wNil)) (wC (.int 2))))) (wRet (wC (.bl false))) Qp)
 (wRet (Qib (Qh Vk (Qc (wBin dIx (wVar 1) (wC (.int 1))) wNil)) (Qey (dCmp λi j=>decide (i<=j)) (dCmp λi j=>decide (i<j)) (wC (.int 0)) (wBin dIx (wVar 1) (wC (.int 1))) (wBin dSub (Qh dLen (Qc (wVar 0) wNil)) (wC (.int 1)))))))
theorem Qfq {P:Program} {w:World} {K:PySem.W.Frag} {mg:Str->Option Value} {base:Heap} {f:Addr} (B:Bn K mg) (C_is_whole:Cal P w K mg base "is_whole" 1 ["thing"] (spR K Vk)):∀(cdv:Value) (A:Around) (outer:List PySem.Env) (s:Shared) (H:Hp) (E:XK),Room 1 (A.deeper (envOfC "is_placed" (Qd Yf) s.heap.objs.size f cdv))->SVs (cxOf CX0 P w K mg base ["twists","thing"] "is_placed" (Qd Yf) f cdv A outer s H E).nox Qac (Ql Yf) X6:=λcdv A outer s H E hr =>
  (Qf (Yt (J7 (Qfo (Qmz (Qf0 (Ji Qkk B.nb_isinstance V1 (Qb (Qa 1) (Qb (Qpx .tuple B.nb_tuple Ut) Qg))))) (Qb8 (Qq (Qcq hr.units) (Ji Vp B.nb_len Vq (Qb (Qa 1) Qg)) Qe)))) (Qj (Qz Qfj)) Q4)
  (Qj (Qz (Qj7 (Qo C_is_whole (hr.mono (by decide)) (Qb (Jd (Jb (Q5 hr)) (Qa 1) Qe) Qg)) (Qeg (Qmi Qr4 Qcr Qe (Jd (Jb (Q5 hr)) (Qa 1) Qe) (Qv Y9 (Ji Vp B.nb_len Vq (Qb (Qa 0) Qg)) Qe)))))))
theorem Qd5 {P:Program} {w:World} {K:PySem.W.Frag} {mg:Str->Option Value} {base:Heap} {f:Addr} {fd:FuncData} (F:Fun K "is_placed" "is_placed" Yf f fd) (B:Bn K mg) (C1:Cal P w K mg base "is_whole" 1 ["thing"] (spR K Vk)):FnOk P w K mg base CX0 2 f fd ["twists","thing"] (spR K Zk):=by
 refine Zo (T:=Qac) F Qdn rfl (by decide) (λds kk h=>?_) (Qfq B C1) (λds kk h=>?_)
 ·obtain ⟨l,v,a,rfl,_⟩:=h
  rfl
 ·obtain ⟨l,v,a,rfl,k⟩:=h
  simp only [X6,wSeq,wIf,wOr,wNot,env0,List.map_cons,List.map_nil,List.length_cons,List.length_nil,Nat.zero_add,Nat.reduceAdd,List.cons_append,List.nil_append,wRet,wC,Qp,Qiz,Qh,Qc,wBin,wNil,Qey,Qu,reduceIte,r_bl,Qiu,Qq5,isiD,Qf7,look,Qi,Qal,V7,Xa,Vs,List.getElem?_cons_succ,List.getElem?_cons_zero,Z3,Qr,Qq2,Qhh,BEq.rfl,Bool.not_true,Bool.false_eq_true]
  rw [if_neg (by decide)]
  refine ⟨a,rfl,?_⟩
  simp only [Qr,reduceIte]
  have e:(I l).length=l.length:=by simp
  unfold plc at k
  by_cases h:0<=a
  ·rw [if_pos (decide_eq_true h),e]
   rwa [show decide (0<=a/\a<(l.length:Int)-1)=decide (a<(l.length:Int)-1) by simp [h]] at k
  ·rw [if_neg (λz=>h (of_decide_eq_true z))]
   rwa [show decide (0<=a/\a<(l.length:Int)-1)=false by simp [h]] at k
def Jh:GA:=λds k=>∃(pre rs:List Int) (n r m:Int),ds=[.lst (I pre ++ .int n :: .int r::I rs),.int pre.length,.int m]/\pre.length+rs.length<=1900/\k (.lst (I (adj pre m++(r+m)::rs)))
abbrev Q8:Stmt:=top 8
theorem Vh:FnScope ["twists","at","many","told"] ["twists","at","many"] (Qd Q8):=⟨rfl,rfl,rfl,by decide +kernel,rfl,by decide +kernel,by decide +kernel⟩
def V4:Tg:={ own:=λi=>i == 3,io:=[] }
def V2:WS:=(wSeq (wSet 3 (Qh Vg (Qc (wVar 0) wNil)))
 (wSeq (Z9 3 (wBin Q6 (wBin dIx (wVar 3) (wBin Q6 (wVar 1) (wC (.int 1)))) (wVar 2)) (wBin Q6 (wVar 1) (wC (.int 1))))
 (wSeq (wIf (wBl (wBin (dCmp λi j=>decide (j<i)) (wVar 1) (wC (.int 0)))) (Z9 3 (wBin Q6 (wBin dIx (wVar 3) (wBin dSub (wVar 1) (wC (.int 1)))) (wVar 2)) (wBin dSub (wVar 1) (wC (.int 1)))) Qp)
 (wSeq (V9 (wMt 3 "list" Qjy (Qc (Qt (wVar 1)) wNil)))
 (Qh8 3)))))
theorem Xx {P:Program} {w:World} {K:PySem.W.Frag} {mg:Str->Option Value} {base:Heap} {f:Addr} (B:Bn K mg):∀(cdv:Value) (A:Around) (outer:List PySem.Env) (s:Shared) (H:Hp) (E:XK),Room 0 (A.deeper (envOfC "without_number" (Qd Q8) s.heap.objs.size f cdv))->SVs (cxOf CX0 P w K mg base ["twists","at","many","told"] "without_number" (Qd Q8) f cdv A outer s H E).nox V4 (Ql Q8) V2:=λcdv A outer s H E hr =>
  (Qf (Q3 (i:=3) (Jm Z5 B.nb_list Z6 (Qb (Qa 0) Qg)) Vh.nd)
  (Qf (Gj (i:=3) (Q5 hr) (Qv Qs (Jd (Jb (Q5 hr)) (Qa 3) (Qv Qs (Qa 1) Qe)) (Qa 2)) (Qv Qs (Qa 1) Qe))
  (Qf (Yt (Qq Qbk (Qa 1) Qe) (Qj (Gj (i:=3) (Q5 hr) (Qv Qs (Jd (Jb (Q5 hr)) (Qa 3) (Qv Y9 (Qa 1) Qe)) (Qa 2)) (Qv Y9 (Qa 1) Qe))) Q4)
  (Qf (G7 (Qhx (i:=3) Ql4 PySem.F.plainAttrs_list PySem.F.slot_list_pop PySem.F.type_list_pop (Qb (Qx (Qa 1)) Qg)))
  (Qj (Qim (i:=3)))))))
theorem Xb {P:Program} {w:World} {K:PySem.W.Frag} {mg:Str->Option Value} {base:Heap} {f:Addr} {fd:FuncData} (F:Fun K "without_number" "without_number" Q8 f fd) (B:Bn K mg):FnOk P w K mg base CX0 1 f fd ["twists","at","many"] (spR K Jh):=by
 refine Zo (T:=V4) F Vh rfl (by decide) (λds kk h=>?_) (Xx B) (λds kk h=>?_)
 ·obtain ⟨pre,rs,n,r,m,rfl,_⟩:=h
  rfl
 ·obtain ⟨pre,rs,n,r,m,rfl,hl,k⟩:=h
  have e1:(pre.length:Int)=((I pre).length:Int):=by simp
  simp only [V2,wSeq,wSet,Qh,Qc,env0,e1,List.map_cons,List.map_nil,List.length_cons,List.length_nil,Nat.zero_add,Nat.reduceAdd,List.replicate,List.cons_append,List.nil_append,wNil,Z9,wBin,wC,wIf,V9,wMt,Qt,Qh8,Qu,Qp,r_bl,look,List.set_cons_succ,List.set_cons_zero,Option.isSome_some,Qi,D.pure,true_and,V7,Z3,Qr,Y0,Qcj,pu,Qf8,ix1,List.length_set,Qdr,BEq.rfl,Qom,Int.reducePow,Int.reduceNeg,Yz,set1,at1]
  have b1:(-9223372036854775808:Int)<=((I pre).length:Int):=by omega
  have b2:((I pre).length:Int)<9223372036854775808:=by simp;omega
  rcases List.eq_nil_or_concat pre with rfl | ⟨bs,z,rfl⟩
  ·rw [if_neg (by decide)]
   refine ⟨b1,b2,?_⟩
   rw [sq0]
   simp only [Qi,ge0,ers,D.pure,true_and]
   exact k
  ·rw [if_pos (decide_eq_true (by simp))]
   rw [List.concat_eq_append] at *
   have e2:I (bs++[z])=I bs++[.int z]:=by simp
   rw [Y2] at k
   simp only [e2,atm,ixm,Int.reduceNeg,Qi,Y0,D.pure,true_and]
   rw [setm]
   have b3:(-9223372036854775808:Int)<=((I bs++[D.int z]).length:Int):=by omega
   have b4:((I bs++[D.int z]).length:Int)<9223372036854775808:=by rw [e2] at b2;exact b2
   refine ⟨b3,b4,?_⟩
   rw [sq0]
   have e3:(I bs++[D.int z]).length=(I bs++[D.int (z+m)]).length:=by simp
   rw [e3]
   simp only [Qi,ge0,ers,D.pure,true_and]
   rw [show I (bs++[z+m]++(r+m)::rs)=I bs++[D.int (z+m)]++D.int (r+m)::I rs by simp] at k
   exact k
def nou (pre rs:List Int) (n r:Int):Bool:=decide (n=0/\(pre≠[]\/(r=0/\rs≠[])))
def J9:GA:=λds k=>∃(pre rs:List Int) (n r:Int),ds=[.lst (I pre ++ .int n :: .int r::I rs),.int pre.length]/\k (.bl (nou pre rs n r))
abbrev Jf:Stmt:=top 9
theorem Xv:FnScope ["twists","at"] ["twists","at"] (Qd Jf):=⟨rfl,rfl,rfl,by decide +kernel,rfl,by decide +kernel,by decide +kernel⟩
def Uc:Tg:={ own:=λi=>false,io:=[] }
def V8:WS:=(wSeq (wIf (wBl (wBin dNe (wBin dIx (wVar 0) (wVar 1)) (wC (.int 0)))) (wRet (wC (.bl false))) Qp)
 (wRet (wOrV (wBin (dCmp λi j=>decide (j<i)) (wVar 1) (wC (.int 0))) (Qib (wBin dEq (wBin dIx (wVar 0) (wC (.int 1))) (wC (.int 0))) (wBin (dCmp λi j=>decide (j<i)) (Qh dLen (Qc (wVar 0) wNil)) (wC (.int 2)))))))
theorem Qbb {P:Program} {w:World} {K:PySem.W.Frag} {mg:Str->Option Value} {base:Heap} {f:Addr} (B:Bn K mg):∀(cdv:Value) (A:Around) (outer:List PySem.Env) (s:Shared) (H:Hp) (E:XK),Room 0 (A.deeper (envOfC "can_be_nought" (Qd Jf) s.heap.objs.size f cdv))->SVs (cxOf CX0 P w K mg base ["twists","at"] "can_be_nought" (Qd Jf) f cdv A outer s H E).nox Uc (Ql Jf) V8:=λcdv A outer s H E hr =>
  (Qf (Yt (Qq (Qcq hr.units) (Jd (Jb (Q5 hr)) (Qa 0) (Qa 1)) Qe) (Qj (Qz Qfj)) Q4)
  (Qj (Qz (Qta (Gz Qbk (Qa 1) Qe) (Qeg (Qj7 (Gz (Yq hr.units) (Jd (Jb (Q5 hr)) (Qa 0) Qe) Qe) (Qeg (Gz Qbk (Ji Vp B.nb_len Vq (Qb (Qa 0) Qg)) Qe))))))))
theorem Xw {P:Program} {w:World} {K:PySem.W.Frag} {mg:Str->Option Value} {base:Heap} {f:Addr} {fd:FuncData} (F:Fun K "can_be_nought" "can_be_nought" Jf f fd) (B:Bn K mg):FnOk P w K mg base CX0 1 f fd ["twists","at"] (spR K J9):=by
 refine Zo (T:=Uc) F Xv rfl (by decide) (λds kk h=>?_) (Qbb B) (λds kk h=>?_)
 ·obtain ⟨pre,rs,n,r,rfl,_⟩:=h
  rfl
 ·obtain ⟨pre,rs,n,r,rfl,k⟩:=h
  have e1:(pre.length:Int)=((I pre).length:Int):=by simp
  simp only [V8,wSeq,wIf,env0,e1,List.map_cons,List.map_nil,List.length_cons,List.length_nil,Nat.zero_add,Nat.reduceAdd,List.cons_append,List.nil_append,wRet,wC,Qp,Qt4,wBin,Qiz,Qh,Qc,wNil,Qu,r_bl,look,Qi,Qal,Z3,Yz,Vs,Qr,at0,Qhh]
  unfold nou at k
  by_cases hn:n=0
  ·rw [if_neg (by simp [hn])]
   rcases List.eq_nil_or_concat pre with rfl | ⟨bs,z,rfl⟩
   ·rw [if_neg (by decide)]
    show dEq (D.int r) (D.int 0) λd=>blOf d λc=>if c=true then kk (D.bl (decide (2<((I []++D.int n::D.int r::I rs).length:Int)))) else kk (D.bl false)
    simp only [Zr,Qr]
    by_cases hr:r=0
    ·rw [if_pos (decide_eq_true hr)]
     rwa [show decide (n=0/\(([]:List Int)≠[]\/(r=0/\rs≠[])))=decide (2<((I []++D.int n::D.int r::I rs).length:Int)) by
      cases rs <;> simp [hn,hr];omega] at k
    ·rw [if_neg (λz=>hr (of_decide_eq_true z))]
     rwa [show decide (n=0/\(([]:List Int)≠[]\/(r=0/\rs≠[])))=false by simp [hr]] at k
   ·rw [if_pos (decide_eq_true (by simp))]
    rwa [show decide (n=0/\(bs.concat z≠[]\/(r=0/\rs≠[])))=true by simp [hn]] at k
  ·rw [if_pos (by simp [hn])]
   rwa [show decide (n=0/\(pre≠[]\/(r=0/\rs≠[])))=false by simp [hn]] at k
def wno (pre rs:List Int) (r:Int):List Int:=if pre=[] then rs else adj pre r++rs
def Jz:GA:=λds k=>∃(pre rs:List Int) (n r:Int),ds=[.lst (I pre ++ .int n :: .int r::I rs),.int pre.length]/\pre.length+rs.length<=1900/\k (.lst (I (wno pre rs r)))
abbrev Q9:Stmt:=top 10
theorem G8:FnScope ["twists","at"] ["twists","at"] (Qd Q9):=⟨rfl,rfl,rfl,by decide +kernel,rfl,by decide +kernel,by decide +kernel⟩
def V5:Tg:={ own:=λi=>false,io:=[] }
def V3:WS:=(wSeq (wIf (wBl (wBin dEq (wVar 1) (wC (.int 0)))) (wRet (wSlT (wVar 0) (J6 (wC (.int 2))) Jc)) Qp)
 (wRet (wBin Q6 (wBin Q6 (wSlT (wVar 0) Jc (J6 (wBin dSub (wVar 1) (wC (.int 1))))) (wLst (Qc (wBin Q6 (wBin dIx (wVar 0) (wBin dSub (wVar 1) (wC (.int 1)))) (wBin dIx (wVar 0) (wBin Q6 (wVar 1) (wC (.int 1))))) wNil))) (wSlT (wVar 0) (J6 (wBin Q6 (wVar 1) (wC (.int 2)))) Jc))))
theorem Xy {P:Program} {w:World} {K:PySem.W.Frag} {mg:Str->Option Value} {base:Heap} {f:Addr} (B:Bn K mg):∀(cdv:Value) (A:Around) (outer:List PySem.Env) (s:Shared) (H:Hp) (E:XK),Room 0 (A.deeper (envOfC "without_nought" (Qd Q9) s.heap.objs.size f cdv))->SVs (cxOf CX0 P w K mg base ["twists","at"] "without_nought" (Qd Q9) f cdv A outer s H E).nox V5 (Ql Q9) V3:=λcdv A outer s H E hr =>
  (Qf (Yt (Qq (Yq hr.units) (Qa 1) Qe) (Qj (Qz (Ym (Qa 0) (Jo Qe) Jp))) Q4)
  (Qj (Qz (Qv Qs (Qv Qs (Ym (Qa 0) Jp (Jo (Qv Y9 (Qa 1) Qe))) (Yc (Qb (Qv Qs (Jd (Jb (Q5 hr)) (Qa 0) (Qv Y9 (Qa 1) Qe)) (Jd (Jb (Q5 hr)) (Qa 0) (Qv Qs (Qa 1) Qe))) Qg))) (Ym (Qa 0) (Jo (Qv Qs (Qa 1) Qe)) Jp)))))
theorem Xc {P:Program} {w:World} {K:PySem.W.Frag} {mg:Str->Option Value} {base:Heap} {f:Addr} {fd:FuncData} (F:Fun K "without_nought" "without_nought" Q9 f fd) (B:Bn K mg):FnOk P w K mg base CX0 1 f fd ["twists","at"] (spR K Jz):=by
 refine Zo (T:=V5) F G8 rfl (by decide) (λds kk h=>?_) (Xy B) (λds kk h=>?_)
 ·obtain ⟨pre,rs,n,r,rfl,_⟩:=h
  rfl
 ·obtain ⟨pre,rs,n,r,rfl,hl,k⟩:=h
  have e1:(pre.length:Int)=((I pre).length:Int):=by simp
  simp only [V3,wSeq,wIf,env0,e1,List.map_cons,List.map_nil,List.length_cons,List.length_nil,Nat.zero_add,Nat.reduceAdd,List.cons_append,List.nil_append,wRet,wSlT,Jc,Y8,wC,Yj,Qu,Qp,wBin,wLst,Qc,wNil,sz1,true_and,r_bl,look,Qi,Vc,pu,Y0,cut2,Yz,at1,V7,Y5,Qm,Bool.and_true,pI,Zr,Qr]
  unfold wno at k
  rcases List.eq_nil_or_concat pre with rfl | ⟨bs,z,rfl⟩
  ·rw [if_pos (by decide)]
   rw [if_pos rfl] at k
   have:=cut2 (P:=([]:List D)) (x:=.int n) (y:=.int r) (R:=I rs)
   rw [show (([]:List D).length:Int)+2=2 by rfl] at this
   rw [show I []=([]:List D) by rfl,this]
   exact k
  ·rw [if_neg (λz=>by have:=of_decide_eq_true z;simp at this;omega)]
   rw [if_neg (by simp),List.concat_eq_append,Y2] at k
   rw [List.concat_eq_append] at hl ⊢
   have e2:I (bs++[z])=I bs++[.int z]:=by simp
   simp only [e2,atm,cutm,Qi,Y0,D.pure,true_and]
   simp at hl
   refine ⟨pI,Nat.le_of_lt (Yd (by simp;omega)),pc pI rfl,Nat.le_of_lt (Yd (by simp;omega)),?_⟩
   rw [show I (bs++[z+r]++rs)=I bs++[D.int (z+r)]++I rs by simp] at k
   exact k
def Yo:GA:=λds k=>∃(pre rs:List Int) (n r:Int),ds=[.lst (I pre ++ .int n :: .int r::I rs),.int pre.length]/\pre.length+rs.length<=1900/\k (.lst (I (pre++[n+1,1,r+1]++rs)))
abbrev Jk:Stmt:=top 11
theorem Qah:FnScope ["twists","at"] ["twists","at"] (Qd Jk):=⟨rfl,rfl,rfl,by decide +kernel,rfl,by decide +kernel,by decide +kernel⟩
def U0:Tg:={ own:=λi=>false,io:=[] }
def Ux:WS:=(wRet (wBin Q6 (wBin Q6 (wSlT (wVar 0) Jc (J6 (wVar 1))) (wLst (Qc (wBin Q6 (wBin dIx (wVar 0) (wVar 1)) (wC (.int 1))) (Qc (wC (.int 1)) (Qc (wBin Q6 (wBin dIx (wVar 0) (wBin Q6 (wVar 1) (wC (.int 1)))) (wC (.int 1))) wNil))))) (wSlT (wVar 0) (J6 (wBin Q6 (wVar 1) (wC (.int 2)))) Jc)))
theorem Qbo {P:Program} {w:World} {K:PySem.W.Frag} {mg:Str->Option Value} {base:Heap} {f:Addr} (B:Bn K mg):∀(cdv:Value) (A:Around) (outer:List PySem.Env) (s:Shared) (H:Hp) (E:XK),Room 0 (A.deeper (envOfC "split_number" (Qd Jk) s.heap.objs.size f cdv))->SVs (cxOf CX0 P w K mg base ["twists","at"] "split_number" (Qd Jk) f cdv A outer s H E).nox U0 (Ql Jk) Ux:=λcdv A outer s H E hr =>
  (Qj (Qz (Qv Qs (Qv Qs (Ym (Qa 0) Jp (Jo (Qa 1))) (Yc (Qb (Qv Qs (Jd (Jb (Q5 hr)) (Qa 0) (Qa 1)) Qe) (Qb Qe (Qb (Qv Qs (Jd (Jb (Q5 hr)) (Qa 0) (Qv Qs (Qa 1) Qe)) Qe) Qg))))) (Ym (Qa 0) (Jo (Qv Qs (Qa 1) Qe)) Jp))))
theorem Qas {P:Program} {w:World} {K:PySem.W.Frag} {mg:Str->Option Value} {base:Heap} {f:Addr} {fd:FuncData} (F:Fun K "split_number" "split_number" Jk f fd) (B:Bn K mg):FnOk P w K mg base CX0 1 f fd ["twists","at"] (spR K Yo):=by
 refine Zo (T:=U0) F Qah rfl (by decide) (λds kk h=>?_) (Qbo B) (λds kk h=>?_)
 ·obtain ⟨pre,rs,n,r,rfl,_⟩:=h
  rfl
 ·obtain ⟨pre,rs,n,r,rfl,hl,k⟩:=h
  have e1:(pre.length:Int)=((I pre).length:Int):=by simp
  simp only [Ux,wRet,wBin,wSlT,env0,e1,List.map_cons,List.map_nil,List.length_cons,List.length_nil,Nat.zero_add,Nat.reduceAdd,List.cons_append,List.nil_append,Jc,wLst,Qc,wC,wNil,sz3,Y8,Qu,true_and,look,Qi,Y0,Yj,Vc,pu,cut2,Yz,at1,at0,cutP,Y5,pI,Qm,D.pure,Bool.and_self]
  rw [show I (pre++[n+1,1,r+1]++rs)=I pre++[D.int (n+1),D.int 1,D.int (r+1)]++I rs by simp] at k
  exact ⟨Nat.le_of_lt (Yd (by simp;omega)),pc pI rfl,Nat.le_of_lt (Yd (by simp;omega)),k⟩
end K70
namespace K70
open PySem PySem.Spec L2 PV
open PyProof.Rows (envOfC)
open V68
abbrev w1:Str:=Str.ofString "one"
abbrev w2:Str:=Str.ofString "less"
abbrev w3:Str:=Str.ofString "nought"
abbrev w4:Str:=Str.ofString "loose"
abbrev w5:Str:=Str.ofString "split"
def stp (pre rs:List Int) (n r:Int) (w:Str):Option (List Int × Int) :=
 if w=w1 then (if n=1 then some (adj pre (-1)++(r + -1)::rs,if pre=[] then 0 else 1) else none)
 else if w=w2 then (if n = -1 then some (adj pre 1++(r+1)::rs,if pre=[] then 0 else -1) else none)
 else if w=w3 then (if nou pre rs n r=true then some (wno pre rs r,0) else none)
 else if w=w4 then (if pre=[]/\n=0 then some (0::0::rs,r) else none)
 else if w=w5 then (if n < -1 then some (pre++[n+1,1,r+1]++rs,-1) else none)
 else none
def stpI (l:List Int) (w:Str) (a:Int):Option (List Int × Int):=if plc l a=true then stp (l.take a.toNat) (l.drop (a.toNat+2)) (l.getD a.toNat 0) (l.getD (a.toNat+1) 0) w else none
theorem Qlu {l:List Int} {a:Int} (h:plc l a=true):∃pre rs n r,l=pre++n::r::rs/\a=(pre.length:Int)/\∀w,stpI l w a=stp pre rs n r w:=by
 have h0:0<=a/\a<(l.length:Int)-1:=of_decide_eq_true h
 obtain ⟨k,rfl⟩:=Int.eq_ofNat_of_zero_le h0.1
 have hk:k+1<l.length:=by omega
 have e:l=l.take k++l.getD k 0::l.getD (k+1) 0::l.drop (k+2):=by
  conv=>lhs;rw [← List.take_append_drop k l]
  congr 1
  rw [List.drop_eq_getElem_cons (by omega),List.drop_eq_getElem_cons hk]
  simp [List.getD_eq_getElem?_getD,List.getElem?_eq_getElem (show k<l.length by omega),List.getElem?_eq_getElem hk]
 refine ⟨l.take k,l.drop (k+2),l.getD k 0,l.getD (k+1) 0,e,by rw [List.length_take];omega,λw=>?_⟩
 unfold stpI
 rw [if_pos h,Int.toNat_natCast]
theorem Qct {l:List Int} {a:Int} {w:Str} (h:plc l a=false):stpI l w a=none:=by unfold stpI;rw [if_neg (by rw [h];decide)]
theorem words (w:Str):w=w1\/w=w2\/w=w3\/w=w4\/w=w5\/(w≠w1/\w≠w2/\w≠w3/\w≠w4/\w≠w5):=by
 by_cases h1:w=w1
 ·exact .inl h1
 by_cases h2:w=w2
 ·exact .inr (.inl h2)
 by_cases h3:w=w3
 ·exact .inr (.inr (.inl h3))
 by_cases h4:w=w4
 ·exact .inr (.inr (.inr (.inl h4)))
 by_cases h5:w=w5
 ·exact .inr (.inr (.inr (.inr (.inl h5))))
 ·exact .inr (.inr (.inr (.inr (.inr ⟨h1,h2,h3,h4,h5⟩))))
theorem d12:decide (w1=w2)=false:=by decide
theorem Jg {c:Prop} [Decidable c] {A B:Prop} (h1:c->A) (h2:¬c->B):if decide c=true then A else B:=by
 by_cases h:c
 ·rw [if_pos (decide_eq_true h)];exact h1 h
 ·rw [if_neg (λz=>h (of_decide_eq_true z))];exact h2 h
def Gx:GX:=λds k kx=>∃(l:List Int) (w:Str) (a:Int),ds=[.lst (I l),.tup [.str w,.int a]]/\l.length<=1902/\match stpI l w a with
 | some (q,v)=>k (.tup [.lst (I q),.int v])
 | none=>kx (.obj (Str.ofString "NoStep") [])
abbrev Ue:Stmt:=top 12
theorem Qe0:FnScope ["twists","step","word","at"] ["twists","step"] (Qd Ue):=⟨rfl,rfl,rfl,by decide +kernel,rfl,by decide +kernel,by decide +kernel⟩
def Qaa:Tg:={ own:=λi=>i == 2 || i == 3,io:=[] }
def Qmy:WS:=(wSeq (wIf (wTru (Qh Zk (Qc (wVar 0) (Qc (wVar 1) wNil)))) (wSeq (wSet 2 (Qt (wBin dIx (wVar 1) (wC (.int 0)))))
 (wSeq (wSet 3 (Qt (wBin dIx (wVar 1) (wC (.int 1)))))
 (wSeq (wIf (wAnd (wBl (wBin dEq (wVar 2) (wC (.str (Str.ofString "one"))))) (wBl (wBin dEq (wBin dIx (wVar 0) (wVar 3)) (wC (.int 1))))) (wRet (wTup (Qc (Qh Jh (Qc (wVar 0) (Qc (wVar 3) (Qc (wUn dNeg (wC (.int 1))) wNil)))) (Qc (wIfE (wBl (wBin dEq (wVar 3) (wC (.int 0)))) (wC (.int 0)) (wC (.int 1))) wNil)))) Qp)
 (wSeq (wIf (wAnd (wBl (wBin dEq (wVar 2) (wC (.str (Str.ofString "less"))))) (wBl (wBin dEq (wBin dIx (wVar 0) (wVar 3)) (wUn dNeg (wC (.int 1)))))) (wRet (wTup (Qc (Qh Jh (Qc (wVar 0) (Qc (wVar 3) (Qc (wC (.int 1)) wNil)))) (Qc (wIfE (wBl (wBin dEq (wVar 3) (wC (.int 0)))) (wC (.int 0)) (wUn dNeg (wC (.int 1)))) wNil)))) Qp)
 (wSeq (wIf (wAnd (wBl (wBin dEq (wVar 2) (wC (.str (Str.ofString "nought"))))) (wTru (Qh J9 (Qc (wVar 0) (Qc (wVar 3) wNil))))) (wRet (wTup (Qc (Qh Jz (Qc (wVar 0) (Qc (wVar 3) wNil))) (Qc (wC (.int 0)) wNil)))) Qp)
 (wSeq (wIf (wAnd (wBl (wBin dEq (wVar 2) (wC (.str (Str.ofString "loose"))))) (wAnd (wBl (wBin dEq (wVar 3) (wC (.int 0)))) (wBl (wBin dEq (wBin dIx (wVar 0) (wC (.int 0))) (wC (.int 0)))))) (wRet (wTup (Qc (wBin Q6 (wLst (Qc (wC (.int 0)) (Qc (wC (.int 0)) wNil))) (wSlT (wVar 0) (J6 (wC (.int 2))) Jc)) (Qc (Qt (wBin dIx (wVar 0) (wC (.int 1)))) wNil)))) Qp)
 (wIf (wAnd (wBl (wBin dEq (wVar 2) (wC (.str (Str.ofString "split"))))) (wBl (wBin (dCmp λi j=>decide (i<j)) (wBin dIx (wVar 0) (wVar 3)) (wUn dNeg (wC (.int 1)))))) (wRet (wTup (Qc (Qh Yo (Qc (wVar 0) (Qc (wVar 3) wNil))) (Qc (wUn dNeg (wC (.int 1))) wNil)))) Qp))))))) Qp)
 (Qde (Str.ofString "NoStep") (Qc (wC (.str (Str.ofString "it is no step of this list"))) wNil)))
theorem Qtl {P:Program} {w:World} {K:PySem.W.Frag} {mg:Str->Option Value} {base:Heap} {f:Addr} (B:Bn K mg) (C_is_placed:Cal P w K mg base "is_placed" 2 ["twists","thing"] (spR K Zk)) (C_without_number:Cal P w K mg base "without_number" 1 ["twists","at","many"] (spR K Jh)) (C_can_be_nought:Cal P w K mg base "can_be_nought" 1 ["twists","at"] (spR K J9)) (C_without_nought:Cal P w K mg base "without_nought" 1 ["twists","at"] (spR K Jz)) (C_split_number:Cal P w K mg base "split_number" 1 ["twists","at"] (spR K Yo)):∀(cdv:Value) (A:Around) (outer:List PySem.Env) (s:Shared) (H:Hp) (E:XK) (XE:D->St->Hp->Prop),Room 2 (A.deeper (envOfC "step" (Qd Ue) s.heap.objs.size f cdv))->(∀x C,atN K x C->Qdc (cxOf (CXE P w base) P w K mg base ["twists","step","word","at"] "step" (Qd Ue) f cdv A outer s H E) ⟨Qaa.own,Qaa.io,XE⟩ x C)->Qg8 (cxOf (CXE P w base) P w K mg base ["twists","step","word","at"] "step" (Qd Ue) f cdv A outer s H E) ⟨Qaa.own,Qaa.io,XE⟩->SVs (cxOf (CXE P w base) P w K mg base ["twists","step","word","at"] "step" (Qd Ue) f cdv A outer s H E) ⟨Qaa.own,Qaa.io,XE⟩ (Ql Ue) Qmy:=λcdv A outer s H E XE hr hX hP =>
  (Qf (Yt (Qf0 (Qo C_is_placed (hr.mono (by decide)) (Qb (Qa 0) (Qb (Qa 1) Qg)))) (Qf (Q3 (i:=2) (Qx (Jd (Jb (Q5 hr)) (Qa 1) Qe)) Qe0.nd (hio:=List.not_mem_nil))
  (Qf (Q3 (i:=3) (Qx (Jd (Jb (Q5 hr)) (Qa 1) Qe)) Qe0.nd (hio:=List.not_mem_nil))
  (Qf (Yt (J7 (Zc (Qq (Yq hr.units) (Qa 2) Ys) (Zf (Qq (Yq hr.units) (Jd (Jb (Q5 hr)) (Qa 0) (Qa 3)) Qe)))) (Qj (Qz (Jy (Qb (Qo C_without_number (hr.mono (by decide)) (Qb (Qa 0) (Qb (Qa 3) (Qb (Zs Yl Qe) Qg)))) (Qb (Qmf (Qq (Yq hr.units) (Qa 3) Qe) Qe Qe) Qg))))) Q4)
  (Qf (Yt (J7 (Zc (Qq (Yq hr.units) (Qa 2) Ys) (Zf (Qq (Yq hr.units) (Jd (Jb (Q5 hr)) (Qa 0) (Qa 3)) (Zs Yl Qe))))) (Qj (Qz (Jy (Qb (Qo C_without_number (hr.mono (by decide)) (Qb (Qa 0) (Qb (Qa 3) (Qb Qe Qg)))) (Qb (Qmf (Qq (Yq hr.units) (Qa 3) Qe) Qe (Zs Yl Qe)) Qg))))) Q4)
  (Qf (Yt (J7 (Zc (Qq (Yq hr.units) (Qa 2) Ys) (Zf (Qf0 (Qo C_can_be_nought (hr.mono (by decide)) (Qb (Qa 0) (Qb (Qa 3) Qg))))))) (Qj (Qz (Jy (Qb (Qo C_without_nought (hr.mono (by decide)) (Qb (Qa 0) (Qb (Qa 3) Qg))) (Qb Qe Qg))))) Q4)
  (Qf (Yt (J7 (Zc (Qq (Yq hr.units) (Qa 2) Ys) (Zc (Qq (Yq hr.units) (Qa 3) Qe) (Zf (Qq (Yq hr.units) (Jd (Jb (Q5 hr)) (Qa 0) Qe) Qe))))) (Qj (Qz (Jy (Qb (Qv Qs (Yc (Qb Qe (Qb Qe Qg))) (Ym (Qa 0) (Jo Qe) Jp)) (Qb (Qx (Jd (Jb (Q5 hr)) (Qa 0) Qe)) Qg))))) Q4)
  (Qj (Yt (J7 (Zc (Qq (Yq hr.units) (Qa 2) Ys) (Zf (Qq Qcr (Jd (Jb (Q5 hr)) (Qa 0) (Qa 3)) (Zs Yl Qe))))) (Qj (Qz (Jy (Qb (Qo C_split_number (hr.mono (by decide)) (Qb (Qa 0) (Qb (Qa 3) Qg))) (Qb (Zs Yl Qe) Qg))))) Q4)))))))) Q4)
  (Qj (Qk3 B.e_NoStep.choose_spec.1 (hX _ _ B.e_NoStep.choose_spec.2) (Qb Ys Qg))))
def S5:WS:=(wIf (wAnd (wBl (wBin dEq (wVar 2) (wC (.str (Str.ofString "split"))))) (wBl (wBin (dCmp λi j=>decide (i<j)) (wBin dIx (wVar 0) (wVar 3)) (wUn dNeg (wC (.int 1)))))) (wRet (wTup (Qc (Qh Yo (Qc (wVar 0) (Qc (wVar 3) wNil))) (Qc (wUn dNeg (wC (.int 1))) wNil)))) Qp)
def S4:WS:=(wSeq (wIf (wAnd (wBl (wBin dEq (wVar 2) (wC (.str (Str.ofString "loose"))))) (wAnd (wBl (wBin dEq (wVar 3) (wC (.int 0)))) (wBl (wBin dEq (wBin dIx (wVar 0) (wC (.int 0))) (wC (.int 0)))))) (wRet (wTup (Qc (wBin Q6 (wLst (Qc (wC (.int 0)) (Qc (wC (.int 0)) wNil))) (wSlT (wVar 0) (J6 (wC (.int 2))) Jc)) (Qc (Qt (wBin dIx (wVar 0) (wC (.int 1)))) wNil)))) Qp)
 S5)
def S3:WS:=(wSeq (wIf (wAnd (wBl (wBin dEq (wVar 2) (wC (.str (Str.ofString "nought"))))) (wTru (Qh J9 (Qc (wVar 0) (Qc (wVar 3) wNil))))) (wRet (wTup (Qc (Qh Jz (Qc (wVar 0) (Qc (wVar 3) wNil))) (Qc (wC (.int 0)) wNil)))) Qp)
 S4)
def S2:WS:=(wSeq (wIf (wAnd (wBl (wBin dEq (wVar 2) (wC (.str (Str.ofString "less"))))) (wBl (wBin dEq (wBin dIx (wVar 0) (wVar 3)) (wUn dNeg (wC (.int 1)))))) (wRet (wTup (Qc (Qh Jh (Qc (wVar 0) (Qc (wVar 3) (Qc (wC (.int 1)) wNil)))) (Qc (wIfE (wBl (wBin dEq (wVar 3) (wC (.int 0)))) (wC (.int 0)) (wUn dNeg (wC (.int 1)))) wNil)))) Qp)
 S3)
def S1:WS:=(wSeq (wIf (wAnd (wBl (wBin dEq (wVar 2) (wC (.str (Str.ofString "one"))))) (wBl (wBin dEq (wBin dIx (wVar 0) (wVar 3)) (wC (.int 1))))) (wRet (wTup (Qc (Qh Jh (Qc (wVar 0) (Qc (wVar 3) (Qc (wUn dNeg (wC (.int 1))) wNil)))) (Qc (wIfE (wBl (wBin dEq (wVar 3) (wC (.int 0)))) (wC (.int 0)) (wC (.int 1))) wNil)))) Qp)
 S2)
theorem Qk5:Qmy=(wSeq (wIf (wTru (Qh Zk (Qc (wVar 0) (Qc (wVar 1) wNil)))) (wSeq (wSet 2 (Qt (wBin dIx (wVar 1) (wC (.int 0)))))
 (wSeq (wSet 3 (Qt (wBin dIx (wVar 1) (wC (.int 1)))))
 S1)) Qp)
 (Qde (Str.ofString "NoStep") (Qc (wC (.str (Str.ofString "it is no step of this list"))) wNil))):=rfl
section
variable {P:EndsP} {L:List D} {d:D} {v:Str} {a:Int}
theorem st1 (h:v≠w1) (g:S2 P [some (.lst L),some d,some (.str v),some (.int a)]):S1 P [some (.lst L),some d,some (.str v),some (.int a)]:=by
 simp only [S1,wSeq,wIf,wAnd,wRet,wTup,Qc,Qh,wUn,wC,wNil,wIfE,List.length_cons,List.length_nil,Nat.zero_add,Nat.reduceAdd,sz2,true_and,r_bl,wBin,Qu,Zq,Int.reduceNeg,Qp,Bool.false_eq_true,reduceIte,look,Qi,Zr,Qr,Yz,Z8,decide_eq_false h]
 exact g
theorem st2 (h:v≠w2) (g:S3 P [some (.lst L),some d,some (.str v),some (.int a)]):S2 P [some (.lst L),some d,some (.str v),some (.int a)]:=by
 simp only [S2,wSeq,wIf,wAnd,wRet,wTup,Qc,Qh,wC,wNil,wIfE,List.length_cons,List.length_nil,Nat.zero_add,Nat.reduceAdd,sz2,true_and,wUn,Zq,Int.reduceNeg,r_bl,wBin,Qu,Qp,Bool.false_eq_true,reduceIte,look,Qi,Zr,Qr,Yz,Z8,decide_eq_false h]
 exact g
theorem st3 (h:v≠w3) (g:S4 P [some (.lst L),some d,some (.str v),some (.int a)]):S3 P [some (.lst L),some d,some (.str v),some (.int a)]:=by
 simp only [S3,wSeq,wIf,wAnd,wRet,wTup,Qc,Qh,wNil,wC,List.length_cons,List.length_nil,Nat.zero_add,Nat.reduceAdd,sz2,true_and,Qu,Qp,Qiu,Bool.false_eq_true,reduceIte,r_bl,wBin,look,Qi,Z8,decide_eq_false h,Qr]
 exact g
theorem st4 (h:v≠w4) (g:S5 P [some (.lst L),some d,some (.str v),some (.int a)]):S4 P [some (.lst L),some d,some (.str v),some (.int a)]:=by
 simp only [S4,wSeq,wIf,wAnd,wRet,wTup,Qc,wBin,wLst,wC,wNil,List.length_cons,List.length_nil,Nat.zero_add,Nat.reduceAdd,sz2,wSlT,Jc,Qt,true_and,Qu,Y8,Yj,Qp,r_bl,Bool.false_eq_true,reduceIte,look,Qi,Yz,Vs,Vc,Y5,Qm,D.pure,Bool.and_self,List.cons_append,List.nil_append,Z7,Zr,Qr,Z8,decide_eq_false h]
 exact g
theorem st5 (h:v≠w5) (g:P.nx [some (.lst L),some d,some (.str v),some (.int a)]):S5 P [some (.lst L),some d,some (.str v),some (.int a)]:=by
 simp only [S5,wIf,wAnd,wRet,wTup,Qc,Qh,wNil,wUn,wC,List.length_cons,List.length_nil,Nat.zero_add,Nat.reduceAdd,sz2,true_and,Zq,Int.reduceNeg,Qu,Qp,r_bl,wBin,Bool.false_eq_true,reduceIte,look,Qi,Yz,Z8,decide_eq_false h,Qr]
 exact g
end
theorem Qpf {P:Program} {w:World} {K:PySem.W.Frag} {mg:Str->Option Value} {base:Heap} {f:Addr} {fd:FuncData} (F:Fun K "step" "step" Ue f fd) (B:Bn K mg) (C1:Cal P w K mg base "is_placed" 2 ["twists","thing"] (spR K Zk)) (C2:Cal P w K mg base "without_number" 1 ["twists","at","many"] (spR K Jh)) (C3:Cal P w K mg base "can_be_nought" 1 ["twists","at"] (spR K J9)) (C4:Cal P w K mg base "without_nought" 1 ["twists","at"] (spR K Jz)) (C5:Cal P w K mg base "split_number" 1 ["twists","at"] (spR K Yo)):FnOk P w K mg base (CXE P w base) 3 f fd ["twists","step"] (spX K Gx):=by
 refine fn_x (T:=Qaa) F Qe0 rfl (by decide) (λds kk kx h=>?_) (Qtl B C1 C2 C3 C4 C5) (λds kk kx h=>?_)
 ·obtain ⟨l,v,a,rfl,_⟩:=h
  rfl
 ·obtain ⟨l,v,a,rfl,hl,k⟩:=h
  rw [Qk5]
  simp only [wSeq,wIf,env0,List.map_cons,List.map_nil,List.length_cons,List.length_nil,Nat.zero_add,Nat.reduceAdd,List.replicate,List.cons_append,List.nil_append,wSet,Qt,wBin,wC,Qu,Qp,Qde,Qc,wNil,Qiu,Qh,look,List.set_cons_succ,List.set_cons_zero,Qi,Xa,Vs,List.getElem?_cons_succ,List.getElem?_cons_zero,D.pure,true_and,Z7]
  refine ⟨l,v,a,rfl,?_⟩
  simp only [Qf7]
  cases hp:plc l a with
  | false =>
   rw [Qct hp] at k
   simp only [Bool.false_eq_true,reduceIte]
   exact ⟨by decide,k⟩
  | true =>
   obtain ⟨pre,rs,n,r,el,ea,est⟩:=Qlu hp
   rw [est] at k
   subst ea
   have el2:I l=I pre ++ .int n :: .int r::I rs:=by rw [el];simp
   have hl2:pre.length+rs.length<=1900:=by rw [el] at hl;simp at hl;omega
   have e1:(pre.length:Int)=((I pre).length:Int):=by simp
   simp only [el2,reduceIte]
   have a0:L2.atI (I pre++D.int n::D.int r::I rs) (pre.length:Int)=some (.int n):=by rw [e1,at0]
   unfold stp at k
   rcases words v with rfl | rfl | rfl | rfl | rfl | ⟨n1,n2,n3,n4,n5⟩
   ·rw [if_pos rfl] at k
    simp only [S1,wSeq,wIf,wAnd,wRet,wTup,Qc,Qh,wUn,wC,wNil,wIfE,List.length_cons,List.length_nil,Nat.zero_add,Nat.reduceAdd,sz2,true_and,r_bl,wBin,Qu,Zq,Int.reduceNeg,Qp,Bool.false_eq_true,reduceIte,look,Qi,Zr,Qr,Yz,a0,Z8,decide_true]
    refine Jg (λhn=>?_) λhn=>?_
    ·rw [if_pos hn] at k
     refine ⟨pre,rs,n,r,-1,rfl,hl2,?_⟩
     refine Jg (λhz=>?_) λhz=>?_
     ·rwa [if_pos (List.eq_nil_of_length_eq_zero (by omega))] at k
     ·rwa [if_neg (λz=>hz (by rw [z];rfl))] at k
    ·rw [if_neg hn] at k
     exact st2 (by decide) (st3 (by decide) (st4 (by decide) (st5 (by decide) ⟨by decide,k⟩)))
   ·rw [if_neg (by decide),if_pos rfl] at k
    refine st1 (by decide) ?_
    simp only [S2,wSeq,wIf,wAnd,wRet,wTup,Qc,Qh,wC,wNil,wIfE,List.length_cons,List.length_nil,Nat.zero_add,Nat.reduceAdd,sz2,true_and,wUn,Zq,Int.reduceNeg,r_bl,wBin,Qu,Qp,Bool.false_eq_true,reduceIte,look,Qi,Zr,Qr,Yz,a0,Z8,decide_true]
    refine Jg (λhn=>?_) λhn=>?_
    ·rw [if_pos hn] at k
     refine ⟨pre,rs,n,r,1,rfl,hl2,?_⟩
     refine Jg (λhz=>?_) λhz=>?_
     ·rwa [if_pos (List.eq_nil_of_length_eq_zero (by omega))] at k
     ·rwa [if_neg (λz=>hz (by rw [z];rfl))] at k
    ·rw [if_neg hn] at k
     exact st3 (by decide) (st4 (by decide) (st5 (by decide) ⟨by decide,k⟩))
   ·rw [if_neg (by decide),if_neg (by decide),if_pos rfl] at k
    refine st1 (by decide) (st2 (by decide) ?_)
    simp only [S3,wSeq,wIf,wAnd,wRet,wTup,Qc,Qh,wNil,wC,List.length_cons,List.length_nil,Nat.zero_add,Nat.reduceAdd,sz2,true_and,Qu,Qp,Qiu,Bool.false_eq_true,reduceIte,r_bl,wBin,look,Qi,Z8,decide_true,Qr]
    refine ⟨pre,rs,n,r,rfl,?_⟩
    simp only [Qf7]
    cases hq:nou pre rs n r with
    | true =>
     rw [if_pos hq] at k
     simp only [reduceIte]
     exact ⟨pre,rs,n,r,rfl,hl2,k⟩
    | false =>
     rw [if_neg (by rw [hq];decide)] at k
     simp only [Bool.false_eq_true,reduceIte]
     exact st4 (by decide) (st5 (by decide) ⟨by decide,k⟩)
   ·rw [if_neg (by decide),if_neg (by decide),if_neg (by decide),if_pos rfl] at k
    refine st1 (by decide) (st2 (by decide) (st3 (by decide) ?_))
    simp only [S4,wSeq,wIf,wAnd,wRet,wTup,Qc,wBin,wLst,wC,wNil,List.length_cons,List.length_nil,Nat.zero_add,Nat.reduceAdd,sz2,wSlT,Jc,Qt,true_and,Qu,Y8,Yj,Qp,r_bl,Bool.false_eq_true,reduceIte,look,Qi,Yz,Vs,Vc,Y5,Qm,D.pure,Bool.and_self,List.cons_append,List.nil_append,Z7,Zr,Qr,Z8,decide_true]
    refine Jg (λhz=>?_) λhz=>?_
    ·obtain rfl:pre=[]:=List.eq_nil_of_length_eq_zero (by omega)
     have c2:cutD (I []++D.int n::D.int r::I rs) (some 2) none=I rs:=cut2 (P:=([]:List D))
     rw [c2]
     show dEq (D.int n) (D.int 0) λd=>blOf d λb=>if b=true then _ else _
     simp only [List.length_nil,Zr,Qr]
     refine Jg (λhn=>?_) λhn=>?_
     ·rw [if_pos ⟨rfl,hn⟩] at k
      refine ⟨pu,pI,Nat.le_of_lt (Yd (by simp;omega)),?_⟩
      show (D.int r).pure=true/\kk (D.tup [D.lst (D.int 0::D.int 0::I rs),D.int r])
      exact ⟨rfl,k⟩
     ·rw [if_neg (λz=>hn z.2)] at k
      exact st5 (by decide) ⟨by decide,k⟩
    ·rw [if_neg (λz=>hz (by rw [z.1];rfl))] at k
     exact st5 (by decide) ⟨by decide,k⟩
   ·rw [if_neg (by decide),if_neg (by decide),if_neg (by decide),if_neg (by decide),if_pos rfl] at k
    refine st1 (by decide) (st2 (by decide) (st3 (by decide) (st4 (by decide) ?_)))
    simp only [S5,wIf,wAnd,wRet,wTup,Qc,Qh,wNil,wUn,wC,List.length_cons,List.length_nil,Nat.zero_add,Nat.reduceAdd,sz2,true_and,Zq,Int.reduceNeg,Qu,Qp,Qde,r_bl,wBin,Bool.false_eq_true,reduceIte,look,Qi,Yz,a0,Z3,Qr,Z8,decide_true]
    refine Jg (λhn=>?_) λhn=>?_
    ·rw [if_pos hn] at k
     exact ⟨pre,rs,n,r,rfl,hl2,k⟩
    ·rw [if_neg hn] at k
     exact ⟨by decide,k⟩
   ·rw [if_neg n1,if_neg n2,if_neg n3,if_neg n4,if_neg n5] at k
    exact st1 n1 (st2 n2 (st3 n3 (st4 n4 (st5 n5 ⟨by decide,k⟩))))
theorem in2g {v:Str} {b:Bool} (h:((w1 == v) || ((w2 == v) || false))=b) {k:D->Prop}:dIn false (.str v) (.tup [.str w1,.str w2]) k=k (.bl b):=by
 rw [← h]
 simp [dIn,inD,oget]
theorem in1 {k:D->Prop}:dIn false (.str w1) (.tup [.str w1,.str w2]) k=k (.bl true):=in2g (by decide)
theorem in2 {k:D->Prop}:dIn false (.str w2) (.tup [.str w1,.str w2]) k=k (.bl true):=in2g (by decide)
theorem in6 {v:Str} (h1:v≠w1) (h2:v≠w2) {k:D->Prop}:dIn false (.str v) (.tup [.str w1,.str w2]) k=k (.bl false):=in2g (by
 have e1:(w1 == v)=false:=by simpa using λz=>h1 z.symm
 have e2:(w2 == v)=false:=by simpa using λz=>h2 z.symm
 rw [e1,e2];rfl)
theorem eq9 {l:List Int}:eqOk 9 (.lst (I l))=true:=by
 show Zp 8 (I l)=true
 exact Qa6 λ_ _=>rfl
theorem ct {R:List D} {x:D}:cutD (x::R) (some 1) none=R:=by
 have:=Us (ds:=x::R) (a:=1) (by simp)
 rw [show ((1:Nat):Int)=1 from rfl] at this
 rw [this];rfl
theorem ixL {P:List D} {z:D}:L2.ixN (P++[z]).length (-1)=some P.length:=by
 unfold L2.ixN
 rw [if_neg (by decide),if_pos (by simp;omega)]
 congr 1
 simp
 omega
theorem atL {P:List D} {z:D}:L2.atI (P++[z]) (-1)=some z:=by
 unfold L2.atI
 rw [ixL]
 show (P++[z])[P.length]? = some z
 rw [List.getElem?_append_right (Nat.le_refl _),Nat.sub_self];rfl
theorem setL {P:List D} {z y:D}:(P++[z]).set P.length y=P++[y]:=by
 rw [List.set_append_right _ _ (Nat.le_refl _),Nat.sub_self];rfl
theorem cutL {ds:List D} {d:D}:cutD (ds++[d]) none (some (-1))=ds:=by
 unfold cutD
 have h2:HT.sIx (ds++[d]).length (ds++[d]).length (some (-1))=ds.length:=by
  unfold HT.sIx
  simp
  omega
 have h1:HT.sIx (ds++[d]).length 0 none=0:=by unfold HT.sIx;simp
 rw [h1,h2,List.drop_zero,Nat.sub_zero,List.take_left]
theorem Qgi {bs:List Int} {z:Int}:D.lst (I bs++[D.int z])≠D.lst []:=by simp
def rsD:Option (List Int × Int)->D
 | some (q,v)=>.tup [.kls (I q),.int v]
 | none=>.non
def Vj:GA:=λds k=>∃(l:List Int) (w:Str) (a:Int),ds=[.kls (I l),.str w,.int a]/\l.length<=1902/\k (rsD (stpI l w a))
abbrev Yh:Stmt:=top 35
theorem Va:FnScope ["_law_twists_here","_law_word","_law_at","_law_number","_law_ahead","_law_rest"] ["_law_twists_here","_law_word","_law_at"] (Qd Yh):=⟨rfl,rfl,rfl,by decide +kernel,rfl,by decide +kernel,by decide +kernel⟩
def Qae:Tg:={ own:=λi=>i == 3 || i == 4 || i == 5,io:=[] }
def X8:WS:=(wSeq (wIf (wOr (wBl (wBin (dCmp λi j=>decide (i<j)) (wVar 2) (wC (.int 0)))) (wBl (wBin (dCmp λi j=>decide (j<=i)) (wBin Q6 (wVar 2) (wC (.int 1))) (Qh dLen (Qc (wVar 0) wNil))))) (wRet (wC .non)) Qp)
 (wSeq (wSet 3 (Qt (wBin dIx (wVar 0) (wVar 2))))
 (wSeq (wSet 4 (Qh Vg (Qc (wSlT (wVar 0) Jc (J6 (wVar 2))) wNil)))
 (wSeq (wSet 5 (Qh Vg (Qc (wSlT (wVar 0) (J6 (wBin Q6 (wVar 2) (wC (.int 1)))) Jc) wNil)))
 (wSeq (wIf (wAnd (wBl (wBin (dIn false) (wVar 1) (wTup (Qc (wC (.str (Str.ofString "one"))) (Qc (wC (.str (Str.ofString "less"))) wNil))))) (wBl (wBin dEq (wVar 3) (wBin dIx (wLst (Qc (wC (.int 1)) (Qc (wUn dNeg (wC (.int 1))) wNil))) (Qh dInt (Qc (wBin dEq (wVar 1) (wC (.str (Str.ofString "less")))) wNil)))))) (wSeq (Z9 5 (wBin dSub (wBin dIx (wVar 5) (wC (.int 0))) (wVar 3)) (wC (.int 0)))
 (wSeq (wIf (wBl (wBin dEq (wVar 4) (wLst wNil))) (wRet (wTup (Qc (Qcb 5) (Qc (wC (.int 0)) wNil)))) Qp)
 (wSeq (Z9 4 (wBin dSub (wBin dIx (wVar 4) (wUn dNeg (wC (.int 1)))) (wVar 3)) (wUn dNeg (wC (.int 1))))
 (wRet (wTup (Qc (Y3 (wBin Q6 (wVar 4) (wVar 5))) (Qc (Qt (wVar 3)) wNil))))))) Qp)
 (wSeq (wIf (wAnd (wBl (wBin dEq (wVar 1) (wC (.str (Str.ofString "nought"))))) (wAnd (wBl (wBin dEq (wVar 3) (wC (.int 0)))) (wBl (wBin dNe (wVar 4) (wLst wNil))))) (wRet (wTup (Qc (Y3 (wBin Q6 (wBin Q6 (wSlT (wVar 4) Jc (J6 (wUn dNeg (wC (.int 1))))) (wLst (Qc (wBin Q6 (wBin dIx (wVar 4) (wUn dNeg (wC (.int 1)))) (wBin dIx (wVar 5) (wC (.int 0)))) wNil))) (wSlT (wVar 5) (J6 (wC (.int 1))) Jc))) (Qc (wC (.int 0)) wNil)))) Qp)
 (wSeq (wIf (wAnd (wBl (wBin dEq (wVar 1) (wC (.str (Str.ofString "nought"))))) (wAnd (wBl (wBin dEq (wVar 3) (wC (.int 0)))) (wAnd (wBl (wBin dEq (wBin dIx (wVar 5) (wC (.int 0))) (wC (.int 0)))) (wBl (wBin (dCmp λi j=>decide (j<i)) (Qh dLen (Qc (wVar 5) wNil)) (wC (.int 1))))))) (wRet (wTup (Qc (Y3 (wSlT (wVar 5) (J6 (wC (.int 1))) Jc)) (Qc (wC (.int 0)) wNil)))) Qp)
 (wSeq (wIf (wAnd (wBl (wBin dEq (wVar 1) (wC (.str (Str.ofString "loose"))))) (wAnd (wBl (wBin dEq (wVar 3) (wC (.int 0)))) (wBl (wBin dEq (wVar 4) (wLst wNil))))) (wRet (wTup (Qc (Y3 (wBin Q6 (wLst (Qc (wC (.int 0)) (Qc (wC (.int 0)) wNil))) (wSlT (wVar 5) (J6 (wC (.int 1))) Jc))) (Qc (Qt (wBin dIx (wVar 5) (wC (.int 0)))) wNil)))) Qp)
 (wSeq (wIf (wAnd (wBl (wBin dEq (wVar 1) (wC (.str (Str.ofString "split"))))) (wBl (wBin (dCmp λi j=>decide (i<j)) (wVar 3) (wUn dNeg (wC (.int 1)))))) (wRet (wTup (Qc (Y3 (wBin Q6 (wBin Q6 (wVar 4) (wLst (Qc (wBin Q6 (wVar 3) (wC (.int 1))) (Qc (wC (.int 1)) (Qc (wBin Q6 (wBin dIx (wVar 5) (wC (.int 0))) (wC (.int 1))) wNil))))) (wSlT (wVar 5) (J6 (wC (.int 1))) Jc))) (Qc (wUn dNeg (wC (.int 1))) wNil)))) Qp)
 (wRet (wC .non)))))))))))
theorem Qfs {P:Program} {w:World} {K:PySem.W.Frag} {mg:Str->Option Value} {base:Heap} {f:Addr} (B:Bn K mg):∀(cdv:Value) (A:Around) (outer:List PySem.Env) (s:Shared) (H:Hp) (E:XK),Room 0 (A.deeper (envOfC "_law_step" (Qd Yh) s.heap.objs.size f cdv))->SVs (cxOf CX0 P w K mg base ["_law_twists_here","_law_word","_law_at","_law_number","_law_ahead","_law_rest"] "_law_step" (Qd Yh) f cdv A outer s H E).nox Qae (Ql Yh) X8:=λcdv A outer s H E hr =>
  (Qf (Yt (J7 (Qfo (Qq Qcr (Qa 2) Qe) (Qb8 (Qq Quq (Qv Qs (Qa 2) Qe) (Ji Vp B.nb_len Vq (Qb (Qa 0) Qg)))))) (Qj (Qz Qa3)) Q4)
  (Qf (Q3 (i:=3) (Qx (Jd (Jb (Q5 hr)) (Qa 0) (Qa 2))) Va.nd)
  (Qf (Q3 (i:=4) (Jm Z5 B.nb_list Z6 (Qb (Ym (Qa 0) Jp (Jo (Qa 2))) Qg)) Va.nd)
  (Qf (Q3 (i:=5) (Jm Z5 B.nb_list Z6 (Qb (Ym (Qa 0) (Jo (Qv Qs (Qa 2) Qe)) Jp) Qg)) Va.nd)
  (Qf (Yt (J7 (Zc (Qq (Qup (Q5 hr)) (Qa 1) (Jy (Qb Ys (Qb Ys Qg)))) (Zf (Qq (Yq hr.units) (Qa 3) (Jd (Jb (Q5 hr)) (Yc (Qb Qe (Qb (Zs Yl Qe) Qg))) (Jm Qtk B.nb_int Qnx (Qb (Gz (Yq hr.units) (Qa 1) Ys) Qg))))))) (Qf (Gj (i:=5) (Q5 hr) (Qv Y9 (Jd (Jb (Q5 hr)) (Qa 5) Qe) (Qa 3)) Qe)
  (Qf (Yt (Qq (Yq hr.units) (Qa 4) (Yc Qg)) (Qj (Qz (Jy (Qb (Qj6 (s:=5)) (Qb Qe Qg))))) Q4)
  (Qf (Gj (i:=4) (Q5 hr) (Qv Y9 (Jd (Jb (Q5 hr)) (Qa 4) (Zs Yl Qe)) (Qa 3)) (Zs Yl Qe))
  (Qj (Qz (Jy (Qb (Ul (Qv Qs (Qa 4) (Qa 5))) (Qb (Qx (Qa 3)) Qg)))))))) Q4)
  (Qf (Yt (J7 (Zc (Qq (Yq hr.units) (Qa 1) Ys) (Zc (Qq (Yq hr.units) (Qa 3) Qe) (Zf (Qq (Qcq hr.units) (Qa 4) (Yc Qg)))))) (Qj (Qz (Jy (Qb (Ul (Qv Qs (Qv Qs (Ym (Qa 4) Jp (Jo (Zs Yl Qe))) (Yc (Qb (Qv Qs (Jd (Jb (Q5 hr)) (Qa 4) (Zs Yl Qe)) (Jd (Jb (Q5 hr)) (Qa 5) Qe)) Qg))) (Ym (Qa 5) (Jo Qe) Jp))) (Qb Qe Qg))))) Q4)
  (Qf (Yt (J7 (Zc (Qq (Yq hr.units) (Qa 1) Ys) (Zc (Qq (Yq hr.units) (Qa 3) Qe) (Zc (Qq (Yq hr.units) (Jd (Jb (Q5 hr)) (Qa 5) Qe) Qe) (Zf (Qq Qbk (Ji Vp B.nb_len Vq (Qb (Qa 5) Qg)) Qe)))))) (Qj (Qz (Jy (Qb (Ul (Ym (Qa 5) (Jo Qe) Jp)) (Qb Qe Qg))))) Q4)
  (Qf (Yt (J7 (Zc (Qq (Yq hr.units) (Qa 1) Ys) (Zc (Qq (Yq hr.units) (Qa 3) Qe) (Zf (Qq (Yq hr.units) (Qa 4) (Yc Qg)))))) (Qj (Qz (Jy (Qb (Ul (Qv Qs (Yc (Qb Qe (Qb Qe Qg))) (Ym (Qa 5) (Jo Qe) Jp))) (Qb (Qx (Jd (Jb (Q5 hr)) (Qa 5) Qe)) Qg))))) Q4)
  (Qf (Yt (J7 (Zc (Qq (Yq hr.units) (Qa 1) Ys) (Zf (Qq Qcr (Qa 3) (Zs Yl Qe))))) (Qj (Qz (Jy (Qb (Ul (Qv Qs (Qv Qs (Qa 4) (Yc (Qb (Qv Qs (Qa 3) Qe) (Qb Qe (Qb (Qv Qs (Jd (Jb (Q5 hr)) (Qa 5) Qe) Qe) Qg))))) (Ym (Qa 5) (Jo Qe) Jp))) (Qb (Zs Yl Qe) Qg))))) Q4)
  (Qj (Qz Qa3)))))))))))
def T5:WS:=(wSeq (wIf (wAnd (wBl (wBin dEq (wVar 1) (wC (.str (Str.ofString "split"))))) (wBl (wBin (dCmp λi j=>decide (i<j)) (wVar 3) (wUn dNeg (wC (.int 1)))))) (wRet (wTup (Qc (Y3 (wBin Q6 (wBin Q6 (wVar 4) (wLst (Qc (wBin Q6 (wVar 3) (wC (.int 1))) (Qc (wC (.int 1)) (Qc (wBin Q6 (wBin dIx (wVar 5) (wC (.int 0))) (wC (.int 1))) wNil))))) (wSlT (wVar 5) (J6 (wC (.int 1))) Jc))) (Qc (wUn dNeg (wC (.int 1))) wNil)))) Qp)
 (wRet (wC .non)))
def T4:WS:=(wSeq (wIf (wAnd (wBl (wBin dEq (wVar 1) (wC (.str (Str.ofString "loose"))))) (wAnd (wBl (wBin dEq (wVar 3) (wC (.int 0)))) (wBl (wBin dEq (wVar 4) (wLst wNil))))) (wRet (wTup (Qc (Y3 (wBin Q6 (wLst (Qc (wC (.int 0)) (Qc (wC (.int 0)) wNil))) (wSlT (wVar 5) (J6 (wC (.int 1))) Jc))) (Qc (Qt (wBin dIx (wVar 5) (wC (.int 0)))) wNil)))) Qp)
 T5)
def T3:WS:=(wSeq (wIf (wAnd (wBl (wBin dEq (wVar 1) (wC (.str (Str.ofString "nought"))))) (wAnd (wBl (wBin dEq (wVar 3) (wC (.int 0)))) (wAnd (wBl (wBin dEq (wBin dIx (wVar 5) (wC (.int 0))) (wC (.int 0)))) (wBl (wBin (dCmp λi j=>decide (j<i)) (Qh dLen (Qc (wVar 5) wNil)) (wC (.int 1))))))) (wRet (wTup (Qc (Y3 (wSlT (wVar 5) (J6 (wC (.int 1))) Jc)) (Qc (wC (.int 0)) wNil)))) Qp)
 T4)
def T2:WS:=(wSeq (wIf (wAnd (wBl (wBin dEq (wVar 1) (wC (.str (Str.ofString "nought"))))) (wAnd (wBl (wBin dEq (wVar 3) (wC (.int 0)))) (wBl (wBin dNe (wVar 4) (wLst wNil))))) (wRet (wTup (Qc (Y3 (wBin Q6 (wBin Q6 (wSlT (wVar 4) Jc (J6 (wUn dNeg (wC (.int 1))))) (wLst (Qc (wBin Q6 (wBin dIx (wVar 4) (wUn dNeg (wC (.int 1)))) (wBin dIx (wVar 5) (wC (.int 0)))) wNil))) (wSlT (wVar 5) (J6 (wC (.int 1))) Jc))) (Qc (wC (.int 0)) wNil)))) Qp)
 T3)
def T1:WS:=(wSeq (wIf (wAnd (wBl (wBin (dIn false) (wVar 1) (wTup (Qc (wC (.str (Str.ofString "one"))) (Qc (wC (.str (Str.ofString "less"))) wNil))))) (wBl (wBin dEq (wVar 3) (wBin dIx (wLst (Qc (wC (.int 1)) (Qc (wUn dNeg (wC (.int 1))) wNil))) (Qh dInt (Qc (wBin dEq (wVar 1) (wC (.str (Str.ofString "less")))) wNil)))))) (wSeq (Z9 5 (wBin dSub (wBin dIx (wVar 5) (wC (.int 0))) (wVar 3)) (wC (.int 0)))
 (wSeq (wIf (wBl (wBin dEq (wVar 4) (wLst wNil))) (wRet (wTup (Qc (Qcb 5) (Qc (wC (.int 0)) wNil)))) Qp)
 (wSeq (Z9 4 (wBin dSub (wBin dIx (wVar 4) (wUn dNeg (wC (.int 1)))) (wVar 3)) (wUn dNeg (wC (.int 1))))
 (wRet (wTup (Qc (Y3 (wBin Q6 (wVar 4) (wVar 5))) (Qc (Qt (wVar 3)) wNil))))))) Qp)
 T2)
def T0:WS:=(wSeq (wSet 3 (Qt (wBin dIx (wVar 0) (wVar 2))))
 (wSeq (wSet 4 (Qh Vg (Qc (wSlT (wVar 0) Jc (J6 (wVar 2))) wNil)))
 (wSeq (wSet 5 (Qh Vg (Qc (wSlT (wVar 0) (J6 (wBin Q6 (wVar 2) (wC (.int 1)))) Jc) wNil)))
 T1)))
theorem Qog:X8=(wSeq (wIf (wOr (wBl (wBin (dCmp λi j=>decide (i<j)) (wVar 2) (wC (.int 0)))) (wBl (wBin (dCmp λi j=>decide (j<=i)) (wBin Q6 (wVar 2) (wC (.int 1))) (Qh dLen (Qc (wVar 0) wNil))))) (wRet (wC .non)) Qp)
 T0):=rfl
section
variable {P:EndsP} {L A R:List D} {v:Str} {a n:Int}
theorem sk1 (h1:v≠w1) (h2:v≠w2) (h:T2 P [some (.kls L),some (.str v),some (.int a),some (.int n),some (.lst A),some (.lst R)]):T1 P [some (.kls L),some (.str v),some (.int a),some (.int n),some (.lst A),some (.lst R)]:=by
 simp only [T1,wSeq,wIf,wAnd,Z9,wBin,wC,wRet,wTup,Qc,Qcb,wNil,List.length_cons,List.length_nil,Nat.zero_add,Nat.reduceAdd,sz2,true_and,Qp,wUn,Y3,Qt,Qu,Zq,Int.reduceNeg,r_bl,wLst,sz0,Qh,Bool.false_eq_true,reduceIte,look,Option.isSome_some,List.set_cons_succ,List.set_cons_zero,Qi,D.pure,Qf8,Yz,Qdw,Qr,Qdy,Y5,List.length_set,Yk,Z7,Z8,Qix,in6 h1 h2]
 exact h
theorem sk2 (h3:v≠w3) (h:T3 P [some (.kls L),some (.str v),some (.int a),some (.int n),some (.lst A),some (.lst R)]):T2 P [some (.kls L),some (.str v),some (.int a),some (.int n),some (.lst A),some (.lst R)]:=by
 simp only [T2,wSeq,wIf,wAnd,wRet,wTup,Qc,Y3,wBin,wSlT,Jc,wLst,wUn,wC,wNil,List.length_cons,List.length_nil,Nat.zero_add,sz1,Nat.reduceAdd,sz2,true_and,Y8,Yj,Qu,Zq,Int.reduceNeg,Qp,r_bl,sz0,Bool.false_eq_true,reduceIte,look,Qi,Vc,Yz,Z7,Y5,Qm,Bool.and_true,Yk,Qlb,Qr,Zr,Z8,decide_eq_false h3]
 exact h
theorem sk3 (h3:v≠w3) (h:T4 P [some (.kls L),some (.str v),some (.int a),some (.int n),some (.lst A),some (.lst R)]):T3 P [some (.kls L),some (.str v),some (.int a),some (.int n),some (.lst A),some (.lst R)]:=by
 simp only [T3,wSeq,wIf,wAnd,wRet,wTup,Qc,Y3,wSlT,Jc,wC,wNil,List.length_cons,List.length_nil,Nat.zero_add,Nat.reduceAdd,sz2,true_and,Y8,Yj,Qu,Qp,r_bl,wBin,Qh,Bool.false_eq_true,reduceIte,look,Qi,Vc,Yk,Qal,Z3,Qr,Yz,Z7,Zr,Z8,decide_eq_false h3]
 exact h
theorem sk4 (h4:v≠w4) (h:T5 P [some (.kls L),some (.str v),some (.int a),some (.int n),some (.lst A),some (.lst R)]):T4 P [some (.kls L),some (.str v),some (.int a),some (.int n),some (.lst A),some (.lst R)]:=by
 simp only [T4,wSeq,wIf,wAnd,wRet,wTup,Qc,Y3,wBin,wLst,wC,wNil,List.length_cons,List.length_nil,Nat.zero_add,Nat.reduceAdd,sz2,wSlT,Jc,Qt,true_and,Qu,Y8,Yj,Qp,r_bl,sz0,Bool.false_eq_true,reduceIte,look,Qi,Yz,Z7,Vc,Y5,Qm,D.pure,Bool.and_self,List.cons_append,List.nil_append,Yk,Bool.true_and,Qdw,Qr,Zr,Z8,decide_eq_false h4]
 exact h
theorem sk5 (h5:v≠w5) (h:P.rt .non [some (.kls L),some (.str v),some (.int a),some (.int n),some (.lst A),some (.lst R)]):T5 P [some (.kls L),some (.str v),some (.int a),some (.int n),some (.lst A),some (.lst R)]:=by
 simp only [T5,wSeq,wIf,wAnd,wRet,wTup,Qc,Y3,wBin,wLst,wC,wNil,List.length_cons,List.length_nil,Nat.zero_add,Nat.reduceAdd,sz3,wSlT,Jc,wUn,sz2,true_and,Zq,Int.reduceNeg,Y8,Yj,Qu,Qp,r_bl,Bool.false_eq_true,reduceIte,look,Qi,Vc,Yz,Z7,Y0,Y5,Qm,D.pure,Bool.and_true,Bool.true_and,Yk,Z3,Qr,Z8,decide_eq_false h5]
 exact h
end
theorem Qd7 {P:Program} {w:World} {K:PySem.W.Frag} {mg:Str->Option Value} {base:Heap} {f:Addr} {fd:FuncData} (F:Fun K "_law_step" "_law_step" Yh f fd) (B:Bn K mg):FnOk P w K mg base CX0 1 f fd ["_law_twists_here","_law_word","_law_at"] (spR K Vj):=by
 refine Zo (T:=Qae) F Va rfl (by decide) (λds kk h=>?_) (Qfs B) (λds kk h=>?_)
 ·obtain ⟨l,v,a,rfl,_⟩:=h
  rfl
 ·obtain ⟨l,v,a,rfl,hl,k⟩:=h
  rw [Qog]
  simp only [wSeq,wIf,wOr,env0,List.map_cons,List.map_nil,List.length_cons,List.length_nil,Nat.zero_add,Nat.reduceAdd,List.replicate,List.cons_append,List.nil_append,wRet,wC,Qp,reduceIte,r_bl,wBin,Qh,Qc,wNil,Qu,look,Qi,Qf9,Y0,Z3,Qr]
  have hlen:(I l).length=l.length:=by simp
  cases hp:plc l a with
  | false =>
   rw [Qct hp] at k
   have hc:a<0\/((I l).length:Int)<=a+1:=by
    have h0:¬(0<=a/\a<(l.length:Int)-1):=of_decide_eq_false hp
    rw [hlen];omega
   refine Jg (λ_=>k) λh1=>?_
   rw [if_pos (decide_eq_true (hc.resolve_left h1))]
   exact k
  | true =>
   have h0:0<=a/\a<(l.length:Int)-1:=of_decide_eq_true hp
   rw [if_neg (λz=>by have:=of_decide_eq_true z;omega),if_neg (λz=>by have:=of_decide_eq_true z;rw [hlen] at this;omega)]
   obtain ⟨pre,rs,n,r,el,ea,est⟩:=Qlu hp
   rw [est] at k
   subst ea
   have el2:I l=I pre ++ .int n :: .int r::I rs:=by rw [el];simp
   have hl2:pre.length+rs.length<=1900:=by rw [el] at hl;simp at hl;omega
   have e1:(pre.length:Int)=((I pre).length:Int):=by simp
   have a0:L2.atI (I pre++D.int n::D.int r::I rs) (pre.length:Int)=some (.int n):=by rw [e1,at0]
   have cp:cutD (I pre++D.int n::D.int r::I rs) none (some (pre.length:Int))=I pre:=by rw [e1,cutP]
   have c1:cutD (I pre++D.int n::D.int r::I rs) (some ((pre.length:Int)+1)) none=.int r::I rs:=by rw [e1,cut1]
   have pr:Qm (D.int r::I rs)=true:=by simp only [Qm,D.pure,Bool.true_and];exact pI
   simp only [T0,wSeq,wSet,Qt,wBin,el2,Qh,Qc,wSlT,Jc,wNil,Y8,wC,Qu,look,List.set_cons_succ,List.set_cons_zero,Qi,Y0,Yj,Qb2,pu,c1,Qcj,Qm,D.pure,pI,Bool.and_self,true_and,cp,Qiw,a0]
   unfold stp at k
   rcases words v with rfl | rfl | rfl | rfl | rfl | ⟨n1,n2,n3,n4,n5⟩
   ·rw [if_pos rfl] at k
    simp only [T1,wSeq,wIf,wAnd,Z9,wBin,wC,wRet,wTup,Qc,Qcb,wNil,List.length_cons,List.length_nil,Nat.zero_add,Nat.reduceAdd,sz2,true_and,Qp,wUn,Y3,Qt,Qu,Zq,Int.reduceNeg,r_bl,wLst,sz0,Qh,Bool.false_eq_true,reduceIte,look,Option.isSome_some,List.set_cons_succ,List.set_cons_zero,Qi,D.pure,Qf8,Yz,Qdw,Qr,Nat.zero_lt_succ,Qsv,Qdy,Y5,List.length_set,Yk,Qm,pI,Bool.and_true,Z7,List.getElem?_cons_zero,V7,Z8,d12,Qix,Zr,in1]
    refine Jg (λhn=>?_) λhn=>?_
    ·rw [if_pos hn] at k
     subst hn
     rcases List.eq_nil_or_concat pre with rfl | ⟨bs,z,rfl⟩
     ·rw [if_pos rfl] at k
      exact ⟨rfl,rfl,λ_=>k,λz=>absurd rfl z⟩
     ·rw [List.concat_eq_append] at *
      rw [if_neg (by simp),Y2] at k
      have e2:I (bs++[z])=I bs++[.int z]:=by simp
      simp only [e2,Int.reduceNeg,atL,ixL,Qi,V7,D.pure,true_and]
      rw [setL]
      refine ⟨e2 ▸ eq9,rfl,λz=>absurd z Qgi,λ_=>⟨pc pI rfl,Nat.le_of_lt (Yd (by simp at hl2 ⊢;omega)),?_⟩⟩
      simp [rsD] at k ⊢
      exact ⟨pc pI (by simp only [Qm,D.pure,Bool.true_and];exact pI),k⟩
    ·rw [if_neg hn] at k
     exact sk2 (by decide) (sk3 (by decide) (sk4 (by decide) (sk5 (by decide) k)))
   ·rw [if_neg (by decide),if_pos rfl] at k
    simp only [T1,wSeq,wIf,wAnd,Z9,wBin,wC,wRet,wTup,Qc,Qcb,wNil,List.length_cons,List.length_nil,Nat.zero_add,Nat.reduceAdd,sz2,true_and,Qp,wUn,Y3,Qt,Qu,Zq,Int.reduceNeg,r_bl,wLst,sz0,Qh,Bool.false_eq_true,reduceIte,look,Option.isSome_some,List.set_cons_succ,List.set_cons_zero,Qi,D.pure,Qf8,Yz,Qdw,Qr,Nat.zero_lt_succ,Qsv,Qdy,Y5,List.length_set,Yk,Qm,pI,Bool.and_true,Z7,List.getElem?_cons_zero,V7,Z8,decide_true,Qix,Vs,List.getElem?_cons_succ,Zr,in2]
    refine Jg (λhn=>?_) λhn=>?_
    ·rw [if_pos hn] at k
     subst hn
     rcases List.eq_nil_or_concat pre with rfl | ⟨bs,z,rfl⟩
     ·rw [if_pos rfl] at k
      exact ⟨rfl,rfl,λ_=>k,λz=>absurd rfl z⟩
     ·rw [List.concat_eq_append] at *
      rw [if_neg (by simp),Y2] at k
      have e2:I (bs++[z])=I bs++[.int z]:=by simp
      simp only [e2,Int.reduceNeg,atL,ixL,Qi,V7,D.pure,true_and]
      rw [setL]
      refine ⟨e2 ▸ eq9,rfl,λz=>absurd z Qgi,λ_=>⟨pc pI rfl,Nat.le_of_lt (Yd (by simp at hl2 ⊢;omega)),?_⟩⟩
      simp [rsD] at k ⊢
      exact ⟨pc pI (by simp only [Qm,D.pure,Bool.true_and];exact pI),k⟩
    ·rw [if_neg hn] at k
     exact sk2 (by decide) (sk3 (by decide) (sk4 (by decide) (sk5 (by decide) k)))
   ·rw [if_neg (by decide),if_neg (by decide),if_pos rfl] at k
    refine sk1 (by decide) (by decide) ?_
    simp only [T2,wSeq,wIf,wAnd,wRet,wTup,Qc,Y3,wBin,wSlT,Jc,wLst,wUn,wC,wNil,List.length_cons,List.length_nil,Nat.zero_add,sz1,Nat.reduceAdd,sz2,true_and,Y8,Yj,Qu,Zq,Int.reduceNeg,Qp,r_bl,sz0,Bool.false_eq_true,reduceIte,look,Qi,Vc,Qm,D.pure,pI,Bool.and_self,ct,Yz,Z7,List.getElem?_cons_zero,Y5,Bool.and_true,Yk,Qlb,Qr,Zr,Z8,decide_true]
    unfold nou wno at k
    refine Jg (λhn=>?_) λhn=>?_
    ·subst hn
     rcases List.eq_nil_or_concat pre with rfl | ⟨bs,z,rfl⟩
     ·refine ⟨rfl,rfl,λ_=>?_,λz=>absurd rfl z⟩
      simp only [T3,wSeq,wIf,wAnd,List.length_nil,wRet,wTup,Qc,Y3,wSlT,Jc,wC,wNil,List.length_cons,Nat.zero_add,Nat.reduceAdd,sz2,true_and,Y8,Yj,Qu,Qp,r_bl,wBin,Qh,Bool.false_eq_true,reduceIte,look,Qi,Vc,Qm,D.pure,pI,Bool.and_self,ct,Yk,Qal,Z3,Qr,Yz,Z7,List.getElem?_cons_zero,Zr,decide_true,Z8]
      refine Jg (λhr=>?_) λhr=>?_
      ·refine Jg (λhs=>?_) λhs=>?_
       ·rw [if_pos (by
         have:rs≠[]:=λz=>by rw [z] at hs;simp at hs
         simp [hr,this])] at k
        exact k
       ·rw [if_neg (by
         have:rs=[]:=List.eq_nil_of_length_eq_zero (by simp at hs;omega)
         simp [this])] at k
        exact sk4 (by decide) (sk5 (by decide) k)
      ·rw [if_neg (by simp [hr])] at k
       exact sk4 (by decide) (sk5 (by decide) k)
     ·rw [List.concat_eq_append] at *
      rw [if_pos (by simp),if_neg (by simp),Y2] at k
      have e2:I (bs++[z])=I bs++[.int z]:=by simp
      simp only [e2,Int.reduceNeg,atL,cutL,Qi,Y0,D.pure,true_and]
      refine ⟨e2 ▸ eq9,rfl,λz=>absurd z Qgi,λ_=>⟨pI,Nat.le_of_lt (Yd (by simp at hl2 ⊢;omega)),pc pI rfl,Nat.le_of_lt (Yd (by simp at hl2 ⊢;omega)),?_⟩⟩
      simp [rsD] at k ⊢
      exact ⟨pc pI (by simp only [Qm,D.pure,Bool.true_and];exact pI),k⟩
    ·rw [if_neg (by simp [hn])] at k
     simp only [T3,wSeq,wIf,wAnd,wRet,wTup,Qc,Y3,wSlT,Jc,wC,wNil,List.length_cons,List.length_nil,Nat.zero_add,Nat.reduceAdd,sz2,true_and,Y8,Yj,Qu,Qp,r_bl,wBin,Qh,Bool.false_eq_true,reduceIte,look,Qi,Vc,Qm,D.pure,Bool.true_and,Yk,Qal,Z3,Qr,Yz,Z7,List.getElem?_cons_zero,Zr,Z8]
     rw [if_neg (λz=>hn (of_decide_eq_true z))]
     exact sk4 (by decide) (sk5 (by decide) k)
   ·rw [if_neg (by decide),if_neg (by decide),if_neg (by decide),if_pos rfl] at k
    refine sk1 (by decide) (by decide) (sk2 (by decide) (sk3 (by decide) ?_))
    simp only [T4,wSeq,wIf,wAnd,wRet,wTup,Qc,Y3,wBin,wLst,wC,wNil,List.length_cons,List.length_nil,Nat.zero_add,Nat.reduceAdd,sz2,wSlT,Jc,Qt,true_and,Qu,Y8,Yj,Qp,r_bl,sz0,Bool.false_eq_true,reduceIte,look,Qi,Yz,Z7,List.getElem?_cons_zero,D.pure,Vc,Qm,pI,Bool.and_self,ct,Y5,List.cons_append,List.nil_append,Yk,Qdw,Qr,Zr,Z8,decide_true]
    refine Jg (λhn=>?_) λhn=>?_
    ·rcases List.eq_nil_or_concat pre with rfl | ⟨bs,z,rfl⟩
     ·rw [if_pos ⟨rfl,hn⟩] at k
      exact ⟨rfl,rfl,λ_=>⟨Nat.le_of_lt (Yd (by simp at hl2 ⊢;omega)),k⟩,λz=>absurd rfl z⟩
     ·rw [List.concat_eq_append] at *
      rw [if_neg (by simp)] at k
      have e2:I (bs++[z])=I bs++[.int z]:=by simp
      exact ⟨eq9,rfl,λz=>absurd z (by rw [e2];exact Qgi),λ_=>sk5 (by decide) k⟩
    ·rw [if_neg (λz=>hn z.2)] at k
     exact sk5 (by decide) k
   ·rw [if_neg (by decide),if_neg (by decide),if_neg (by decide),if_neg (by decide),if_pos rfl] at k
    refine sk1 (by decide) (by decide) (sk2 (by decide) (sk3 (by decide) (sk4 (by decide) ?_)))
    simp only [T5,wSeq,wIf,wAnd,wRet,wTup,Qc,Y3,wBin,wLst,wC,wNil,List.length_cons,List.length_nil,Nat.zero_add,Nat.reduceAdd,sz3,wSlT,Jc,wUn,sz2,true_and,Zq,Int.reduceNeg,Y8,Yj,Qu,Qp,r_bl,Bool.false_eq_true,reduceIte,look,Qi,Vc,Qm,D.pure,pI,Bool.and_self,ct,Yz,Z7,List.getElem?_cons_zero,Y0,Y5,Yk,Z3,Qr,Z8,decide_true]
    refine Jg (λhn=>?_) λhn=>?_
    ·rw [if_pos hn] at k
     refine ⟨Nat.le_of_lt (Yd (by simp;omega)),pc pI rfl,Nat.le_of_lt (Yd (by simp;omega)),?_⟩
     simp [rsD] at k ⊢
     exact ⟨pc pI (by simp only [Qm,D.pure,Bool.true_and];exact pI),k⟩
    ·rw [if_neg hn] at k
     exact k
   ·rw [if_neg n1,if_neg n2,if_neg n3,if_neg n4,if_neg n5] at k
    exact sk1 n1 n2 (sk2 n3 (sk3 n3 (sk4 n4 (sk5 n5 k))))
end K70
namespace K70
open PySem PySem.Spec L2 PV
open PyProof.Rows (envOfC)
open V68 Pol Dct
theorem Qd9 {α:Type} [DecidableEq α]:∀{l r:List α},l.Nodup->(∀x∈l,x∈r)->l.length<=r.length
 | [],_,_,_=>Nat.zero_le _
 | x::l,r,hn,h=>by
  obtain ⟨h1,h2⟩:=List.nodup_cons.mp hn
  have hx:x∈r:=h x List.mem_cons_self
  have:=Qd9 (r:=r.erase x) h2 λy hy=>(List.mem_erase_of_ne (show y≠x from λz=>h1 (by rw [← z];exact hy))).mpr (h y (List.mem_cons_of_mem _ hy))
  rw [List.length_erase_of_mem hx] at this
  have:0<r.length:=List.length_pos_of_mem hx
  rw [List.length_cons]
  omega
def Few (ts:T):Prop:=∃lo:Int,∀t∈ts,∃i:Nat,i<60/\t.1=lo+2*(i:Int)
theorem Qpv {ts a:T} (h:Few ts) (hn:(a.map (·.1)).Nodup) (hs:∀p∈a.map (·.1),p∈ts.map (·.1)):a.length<64:=by
 obtain ⟨lo,h⟩:=h
 have:=Qd9 (r:=(List.range 60).map λi:Nat=>lo+2*(i:Int)) hn λp hp=>by
  obtain ⟨t,ht,rfl⟩:=List.mem_map.mp (hs p hp)
  obtain ⟨i,hi,e⟩:=h t ht
  exact List.mem_map.mpr ⟨i,List.mem_range.mpr hi,e.symm⟩
 simp at this
 omega
theorem Gq {p n q:Int}:∀{a:T},q∈(put a p n).map (·.1)->q=p\/q∈a.map (·.1)
 | [],h=>.inl (List.mem_singleton.mp h)
 | t::a,h=>by
  unfold put at h
  split at h
  ·rcases List.mem_cons.mp h with h | h
   ·exact .inl h
   ·exact .inr (List.mem_cons_of_mem _ h)
  ·rcases List.mem_cons.mp h with h | h
   ·exact .inr (by rw [h];exact List.mem_cons_self)
   ·exact (Gq h).elim .inl λh=>.inr (List.mem_cons_of_mem _ h)
def Par (e:Int) (a:T):Prop:=∀t∈a,(t.1-e) % 2=0
theorem Quw {us a b:T} {p:Int->Prop} (h:Is us) (ha:∀t∈a,p t.1) (hb:∀t∈b,p t.1) (e:∀f,ev f us=ev f a-ev f b):∀t∈us,p t.1:=λt ht=>by
 refine Classical.byContradiction λc=>?_
 have h1:=M69.Qa4 h.asc t ht
 rw [e,M69.Vn λu hu z=>c (by rw [← z];exact ha u hu),M69.Vn λu hu z=>c (by rw [← z];exact hb u hu)] at h1
 exact h.nz t ht (by omega)
def Vl:GA:=λds k=>∃ts:T,(ds=[.lst (ts.map pr2)]\/ds=[.tup (ts.map pr2)])/\ts.length<=50000/\Few ts/\∀us:T,Is us->us.length<=ts.length->nrm us<=nrm ts->(∀f,ev f us=ev f ts)->k (.tup (us.map pr2))
abbrev Yn:Stmt:=top 19
theorem Vt:FnScope ["terms","numbers","power","number"] ["terms"] (Qd Yn):=⟨rfl,rfl,rfl,by decide +kernel,rfl,by decide +kernel,by decide +kernel⟩
def Qbw:Tg:={ own:=λi=>i == 1 || i == 2 || i == 3,io:=[] }
def G5:WS:=(wSeq (wSet 1 (wC (.dik [])))
 (wSeq (wFor (Uu (wVar 0)) (Qed 2 (Zu (gN 2) (Zu (gN 3) Qee))) (Z9 1 (wBin Q6 (Qhb (wVar 1) (wVar 2) (wC (.int 0))) (wVar 3)) (wVar 2)))
 (wRet (Qh U1 (Qc (Qex (Uu (Qh Qgz (Qc (wVar 1) wNil))) (wBl (wBin dNe (wBin dIx (wVar 1) (wVar 0)) (wC (.int 0)))) (Qt (wTup (Qc (wVar 0) (Qc (wBin dIx (wVar 1) (wVar 0)) wNil)))) [1]) wNil)))))
theorem Qh3 {P:Program} {w:World} {K:PySem.W.Frag} {mg:Str->Option Value} {base:Heap} {f:Addr} (B:Bn K mg):∀(cdv:Value) (A:Around) (outer:List PySem.Env) (s:Shared) (H:Hp) (E:XK),Room 0 (A.deeper (envOfC "gathered" (Qd Yn) s.heap.objs.size f cdv))->SVs (cxOf CX0 P w K mg base ["terms","numbers","power","number"] "gathered" (Qd Yn) f cdv A outer s H E).nox Qbw (Ql Yn) G5:=λcdv A outer s H E hr =>
  (Qf (Q3 (i:=1) Qmg Vt.nd)
  (Qf (Gk PassesOwn.never (Qnn (i:=0)) (Qgq (Zx (Yw (i:=2) Vt.nd) (Zx (Yw (i:=3) Vt.nd) Qcy))) (Qj (Gj (i:=1) (Q5 hr) (Qv Qs (Qpz (Q5 hr) (Qa 1) (Qa 2) Qe) (Qa 3)) (Qa 2))))
  (Qj (Qz (Jm G4 B.nb_tuple Ut (Qb (Qgv (Qfm [1] (Qaz (Ji (Qmo rfl) B.nb_sorted Qkq (Qb (Qa 1) Qg))) (λ_ _ _ _ _=>Qnv (Qq (Qcq hr.units) (Jd (Jb (Q5 hr)) (Qa 1) (Qa 0)) Qe)) (λ_ _ _ _ _=>(Qx (Jy (Qb (Qa 0) (Qb (Jd (Jb (Q5 hr)) (Qa 1) (Qa 0)) Qg)))))) (G3 (Qd Yn) ["terms","numbers","power","number"] (by decide +kernel))) Qg))))))
theorem Xq {kk:D->Prop} {d0:D} {ts:T} (hl:ts.length<=50000) (hf:Few ts) (k:∀us:T,Is us->us.length<=ts.length->nrm us<=nrm ts->(∀f,ev f us=ev f ts)->kk (.tup (us.map pr2))) :
  forI (ts.map pr2) (Qed 2 (Zu (gN 2) (Zu (gN 3) Qee))) (Z9 1 (wBin Q6 (Qhb (wVar 1) (wVar 2) (wC (.int 0))) (wVar 3)) (wVar 2))
   { nx:=wRet (Qh U1 (Qc (Qex (Uu (Qh Qgz (Qc (wVar 1) wNil))) (wBl (wBin dNe (wBin dIx (wVar 1) (wVar 0)) (wC (.int 0)))) (Qt (wTup (Qc (wVar 0) (Qc (wBin dIx (wVar 1) (wVar 0)) wNil)))) [1]) wNil)) { nx:=λρ=>kk .non,rt:=λd ρ=>kk d },rt:=λd ρ=>kk d }
   [some d0,some (.dik []),none,none]:=by
 refine ⟨λi ρ=>∃(a:T) (o2 o3:Option D),(a.map (·.1)).Nodup/\(∀p∈a.map (·.1),p∈ts.map (·.1))/\a.length<=i/\i<=ts.length/\nrm a<=nrm (ts.take i)/\(∀f,ev f a=ev f (ts.take i))/\ρ=[some d0,some (.dik (enc a)),o2,o3],⟨[],none,none,.nil,(λp hp=>nomatch hp),Nat.le_refl _,Nat.zero_le _,Nat.le_refl _,λ_=>rfl,rfl⟩,?_,?_⟩
 ·rintro i d ρ hd ⟨a,o2,o3,hnd,hks,hal,hil,hnm,hev,rfl⟩
  rw [List.getElem?_map] at hd
  obtain ⟨t,ht,hd⟩:=Option.map_eq_some_iff.mp hd
  subst hd
  have hi:=(List.getElem?_eq_some_iff.mp ht).1
  have e:ts.take (i+1)=ts.take i++[t]:=by rw [List.take_add_one,ht];rfl
  simp only [pr2,Z9,wBin,Qhb,wC,D.pure,Qu,true_and,Qga,List.length_cons,List.length_nil,Nat.zero_add,Nat.reduceAdd,Qck,gN,List.set_cons_succ,List.set_cons_zero,Qgb,look,Option.isSome_some,Qi,Qol,Qj9,Qrc,Qrd,Qk1,Y0,Qi2 hnd]
  refine ⟨Dct.Yd (by omega),put a t.1 (get a t.1+t.2),_,_,Qdz hnd,λq hq=>(Gq hq).elim (λz=>by rw [z];exact List.mem_map_of_mem (List.mem_of_getElem? ht)) (hks q),Nat.le_trans Qb3 (by omega),by omega,?_,λf=>?_,rfl⟩
  ·rw [e,Xd]
   have:=Qi1 (p:=t.1) (n:=t.2) (a:=a)
   show _<=_+(t.2.natAbs+0)
   omega
  ·rw [e,Qnd,Qa5,hev]
   show _=_+(t.2*f t.1+0)
   omega
 ·rintro ρ ⟨a,o2,o3,hnd,hks,hal,hil,hnm,hev,rfl⟩
  rw [List.length_map,List.take_of_length_le (Nat.le_refl _)] at *
  simp only [wRet,Qh,Qc,wNil,Qiy,Gp,Qu,look,Qi,Qlc,Qdt]
  refine ⟨_,Qgx,by rw [Qj9];exact Qpv hf hnd hks,λout hp ho=>?_⟩
  obtain ⟨g1,g2,g3,g4⟩:=Qs5 hnd hp ho
  have hol:out.length=a.length:=by rw [hp.length_eq,List.length_map]
  refine ⟨λi ys=>i<=out.length/\ys=(nzf ((out.take i).map λp=>(p,get a p))).map pr2,⟨Nat.zero_le _,rfl⟩,?_,?_⟩
  ·rintro i d ys hd ⟨hio,rfl⟩
   rw [List.getElem?_map] at hd
   obtain ⟨p,hpp,hd⟩:=Option.map_eq_some_iff.mp hd
   subst hd
   have hi:=(List.getElem?_eq_some_iff.mp hpp).1
   have hv:=Qcd (hp.mem_iff.mp (List.mem_of_getElem? hpp))
   have e:out.take (i+1)=out.take i++[p]:=by rw [List.take_add_one,hpp];rfl
   have hlen:(nzf ((out.take i).map λp=>(p,get a p))).length<=i:=by
    refine Nat.le_trans (List.length_filter_le _ _) ?_
    rw [List.length_map,List.length_take];omega
   refine ⟨by rw [List.length_map];exact Dct.Yd (by omega),?_⟩
   simp only [blkE,List.map_cons,look,List.map_nil,Qt,wTup,Qc,wBin,wNil,List.length_cons,List.length_nil,Nat.zero_add,Nat.reduceAdd,sz2,D.pure,Qm,Bool.and_true,true_and,Qu,Qi,Qq4,hv,r_bl,wC,Qhh,Qr]
   rw [e,List.map_append]
   unfold nzf at *
   rw [List.filter_append]
   by_cases h0:get a p=0
   ·simp only [h0,decide_true,Bool.not_true,Bool.false_eq_true,reduceIte]
    refine ⟨by omega,?_⟩
    rw [show ([p].map λp=>(p,get a p)).filter (λt=>decide (t.2≠0))=[] by simp [h0],List.append_nil]
   ·simp only [h0,decide_false,Bool.not_false,reduceIte]
    refine ⟨by omega,?_⟩
    rw [show ([p].map λp=>(p,get a p)).filter (λt=>decide (t.2≠0))=[(p,get a p)] by simp [h0],List.map_append]
    rfl
  ·rintro ys ⟨_,rfl⟩
   have e0:out.take (out.map D.int).length=out:=by rw [List.length_map];exact List.take_of_length_le (Nat.le_refl _)
   rw [e0]
   simp only [List.length_map,Gn,Y1,true_and]
   refine ⟨Nat.le_of_lt (Dct.Yd (by omega)),?_⟩
   exact k _ g1 (by omega) (by omega) λf=>by rw [g2,hev]
theorem Qfa {P:Program} {w:World} {K:PySem.W.Frag} {mg:Str->Option Value} {base:Heap} {f:Addr} {fd:FuncData} (F:Fun K "gathered" "gathered" Yn f fd) (B:Bn K mg):FnOk P w K mg base CX0 1 f fd ["terms"] (spR K Vl):=by
 refine Zo (T:=Qbw) F Vt rfl (by decide) (λds kk h=>?_) (Qh3 B) (λds kk h=>?_)
 ·obtain ⟨ts,rfl | rfl,_⟩:=h
  ·rfl
  ·rfl
 ·obtain ⟨ts,rfl | rfl,hl,hf,k⟩:=h
  ·simp only [G5,env0,rowD,List.length_cons,List.length_nil,List.map_cons,List.map_nil,List.cons_append,List.nil_append,List.replicate,wSeq,wSet,Qbg,Gp,Qu,wC,Qi,look,List.set_cons_zero,List.set_cons_succ,List.getElem?_cons_zero,List.getElem?_cons_succ,Qdt,Y1,true_and]
   exact Xq hl hf k
  ·simp only [G5,env0,rowD,List.length_cons,List.length_nil,List.map_cons,List.map_nil,List.cons_append,List.nil_append,List.replicate,wSeq,wSet,Qbg,Gp,Qu,wC,Qi,look,List.set_cons_zero,List.set_cons_succ,List.getElem?_cons_zero,List.getElem?_cons_succ,Qds,Y1,true_and]
   exact Xq hl hf k
theorem Xg {ts:T} {we:WE} {ρ1:PV.Env} {ix:List Nat} {Q:D->PV.Env->Prop} (g:Int × Int->D) (hz:ts.length<sizeLine) (he:∀t∈ts,∀Q':D->PV.Env->Prop,Q' (g t) (Um ρ1 (.int t.1) (.int t.2) ix)->we (Um ρ1 (.int t.1) (.int t.2) ix) Q') (hQ:Q (.lst (ts.map g)) ρ1):Qg3 (ts.map pr2) wAll we ρ1 ix Q:=by
 refine ⟨λi ys=>i<=ts.length/\ys=(ts.take i).map g,⟨Nat.zero_le _,rfl⟩,?_,?_⟩
 ·rintro i d ys hd ⟨hi,rfl⟩
  rw [List.getElem?_map] at hd
  obtain ⟨t,ht,hd⟩:=Option.map_eq_some_iff.mp hd
  subst hd
  have hlt:=(List.getElem?_eq_some_iff.mp ht).1
  refine ⟨by rw [List.length_map,List.length_take];omega,?_⟩
  simp only [pr2,Qrb,wAll,reduceIte]
  refine he t (List.mem_of_getElem? ht) _ ⟨hlt,?_⟩
  rw [List.take_add_one,ht,List.map_append];rfl
 ·rintro ys ⟨_,rfl⟩
  have e0:ts.take (ts.map pr2).length=ts:=by rw [List.length_map];exact List.take_of_length_le (Nat.le_refl _)
  rw [e0]
  exact ⟨by rw [List.length_map];exact Nat.le_of_lt hz,hQ⟩
def Qa2:GA:=λds k=>∃a b:T,ds=[.tup (a.map pr2),.tup (b.map pr2)]/\a.length+b.length<=50000/\Few (a++b)/\∀us:T,Is us->us.length<=a.length+b.length->nrm us<=nrm a+nrm b->(∀f,ev f us=ev f a-ev f b)->k (.tup (us.map pr2))
abbrev Vf:Stmt:=top 20
theorem Qk9:FnScope ["one","other"] ["one","other"] (Qd Vf):=⟨rfl,rfl,rfl,by decide +kernel,rfl,by decide +kernel,by decide +kernel⟩
def Qik:Tg:={ own:=λi=>false,io:=[] }
def Qh7:WS:=(wRet (Qh Vl (Qc (wBin Q6 (wVar 0) (Qh U1 (Qc (Ua (Uu (wVar 1)) wAll (wTup (Qc (Qt (wVar 0)) (Qc (wUn dNeg (wVar 1)) wNil))) []) wNil))) wNil)))
theorem Qqa {P:Program} {w:World} {K:PySem.W.Frag} {mg:Str->Option Value} {base:Heap} {f:Addr} (B:Bn K mg) (C_gathered:Cal P w K mg base "gathered" 1 ["terms"] (spR K Vl)):∀(cdv:Value) (A:Around) (outer:List PySem.Env) (s:Shared) (H:Hp) (E:XK),Room 1 (A.deeper (envOfC "minus" (Qd Vf) s.heap.objs.size f cdv))->SVs (cxOf CX0 P w K mg base ["one","other"] "minus" (Qd Vf) f cdv A outer s H E).nox Qik (Ql Vf) Qh7:=λcdv A outer s H E hr =>
  (Qj (Qz (Qo C_gathered (hr.mono (by decide)) (Qb (Qv Qs (Qa 0) (Jm G4 B.nb_tuple Ut (Qb (Qc1 (Qc4 [] (Qaz (Qa 1)) (λ_ _ _ _ _=>Qg0) (λ_ _ _ _ _=>(Jy (Qb (Qx (Qa 0)) (Qb (Zs Yl (Qa 1)) Qg))))) (Qba (Qd Vf) ["one","other"] (by decide +kernel))) Qg))) Qg))))
theorem Qpu {a b:T} (h:Few (a++b)):Few (a++neg b):=by
 obtain ⟨lo,h⟩:=h
 refine ⟨lo,λt ht=>?_⟩
 rcases List.mem_append.mp ht with ht | ht
 ·exact h t (List.mem_append.mpr (.inl ht))
 ·obtain ⟨u,hu,rfl⟩:=List.mem_map.mp ht
  exact h u (List.mem_append.mpr (.inr hu))
theorem Qlz {P:Program} {w:World} {K:PySem.W.Frag} {mg:Str->Option Value} {base:Heap} {f:Addr} {fd:FuncData} (F:Fun K "minus" "minus" Vf f fd) (B:Bn K mg) (C1:Cal P w K mg base "gathered" 1 ["terms"] (spR K Vl)):FnOk P w K mg base CX0 2 f fd ["one","other"] (spR K Qa2):=by
 refine Zo (T:=Qik) F Qk9 rfl (by decide) (λds kk h=>?_) (Qqa B C1) (λds kk h=>?_)
 ·obtain ⟨a,b,rfl,_⟩:=h
  rfl
 ·obtain ⟨a,b,rfl,hl,hf,k⟩:=h
  simp only [Qh7,wRet,Qh,Qc,wBin,env0,List.map_cons,List.map_nil,List.length_cons,List.length_nil,Nat.zero_add,Nat.reduceAdd,List.cons_append,List.nil_append,Ua,wNil,Gp,Qu,look,Qi,Qds,Y1,true_and]
  refine Xg (λt=>pr2 (t.1,-t.2)) (Dct.Yd (by omega)) (λt ht Q' hQ=>?_) ?_
  ·simp only [wTup,Qc,Qt,Um,List.map_nil,wUn,wNil,List.length_cons,List.length_nil,Nat.zero_add,Nat.reduceAdd,sz2,true_and,Qu,look,Qi,Zq,D.pure]
   exact hQ
  ·have e:(b.map λt=>pr2 (t.1,-t.2))=(neg b).map pr2:=by unfold neg;rw [List.map_map];rfl
   rw [e]
   have hn:(neg b).length=b.length:=List.length_map ..
   simp only [Gn,Y1,Qop,List.length_map,hn,true_and]
   refine ⟨Nat.le_of_lt (Dct.Yd (by omega)),a++neg b,.inr (by rw [List.map_append]),by rw [List.length_append,hn];exact hl,Qpu hf,λus h1 h2 h3 h4=>?_⟩
   exact k us h1 (by rw [List.length_append,hn] at h2;exact h2) (by rw [Xd,Qje] at h3;exact h3) λf=>by rw [h4,Qa5,Qns];omega
abbrev cONE:D:=.kc (.tup [.tup [.int 0,.int 1]])
abbrev cNO:D:=.kc (.tup [])
def IsP (d:D) (a:T):Prop:=d=.tup (a.map pr2)\/(d=cONE/\a=[(0,1)])\/(d=cNO/\a=[])
theorem IsP.pure {d:D} {a:T} (h:IsP d a):d.pure=true:=by
 rcases h with rfl | ⟨rfl,_⟩ | ⟨rfl,_⟩
 ·rw [D.pure];exact Y1
 ·rw [D.pure]
 ·rw [D.pure]
theorem Qek {we:WE} {ρ1:PV.Env} {ix:List Nat} {Q:D->PV.Env->Prop} {p c:Int} {y:D} (he:∀Q':D->PV.Env->Prop,Q' y (Um ρ1 (.int p) (.int c) ix)->we (Um ρ1 (.int p) (.int c) ix) Q') (hQ:Q (.lst [y]) ρ1):Qg3 [.kc (.tup [.int p,.int c])] wAll we ρ1 ix Q:=by
 refine ⟨λi ys=>(i=0/\ys=[])\/(i=1/\ys=[y]),.inl ⟨rfl,rfl⟩,?_,?_⟩
 ·rintro i d ys hd (⟨rfl,rfl⟩ | ⟨rfl,rfl⟩)
  ·cases hd
   refine ⟨by decide,?_⟩
   simp only [Qor,kcD,wAll,reduceIte]
   exact he _ (.inr (by simp))
  ·cases hd
 ·rintro ys (⟨h,_⟩ | ⟨_,rfl⟩)
  ·cases h
  ·exact ⟨Nat.le_of_lt (Dct.Yd (by simp)),hQ⟩
theorem Qel {we:WE} {ρ1:PV.Env} {ix:List Nat} {Q:D->PV.Env->Prop} (hQ:Q (.lst []) ρ1):Qg3 [] wAll we ρ1 ix Q:=by
 refine ⟨λ_ ys=>ys=[],rfl,λi d ys hd _=>?_,λys h=>?_⟩
 ·cases hd
 ·obtain rfl:ys=[]:=h
  exact ⟨by decide,hQ⟩
def Vy:GA:=λds k=>∃(d:D) (a:T) (m:Int),ds=[d,.int m]/\IsP d a/\a.length<=50000/\k (.tup ((lift a m).map pr2))
abbrev Zm:Stmt:=top 21
theorem Qir:FnScope ["one","many"] ["one","many"] (Qd Zm):=⟨rfl,rfl,rfl,by decide +kernel,rfl,by decide +kernel,by decide +kernel⟩
def Qf2:Tg:={ own:=λi=>false,io:=[] }
def Xz:WS:=(wRet (Qh U1 (Qc (Ua (Uu (wVar 0)) wAll (wTup (Qc (wBin Q6 (wVar 0) (wVar 2)) (Qc (Qt (wVar 1)) wNil))) [1]) wNil)))
theorem Qmt {P:Program} {w:World} {K:PySem.W.Frag} {mg:Str->Option Value} {base:Heap} {f:Addr} (B:Bn K mg):∀(cdv:Value) (A:Around) (outer:List PySem.Env) (s:Shared) (H:Hp) (E:XK),Room 0 (A.deeper (envOfC "lifted" (Qd Zm) s.heap.objs.size f cdv))->SVs (cxOf CX0 P w K mg base ["one","many"] "lifted" (Qd Zm) f cdv A outer s H E).nox Qf2 (Ql Zm) Xz:=λcdv A outer s H E hr =>
  (Qj (Qz (Jm G4 B.nb_tuple Ut (Qb (Qc1 (Qc4 [1] (Qaz (Qa 0)) (λ_ _ _ _ _=>Qg0) (λ_ _ _ _ _=>(Jy (Qb (Qv Qs (Qa 0) (Qa 2)) (Qb (Qx (Qa 1)) Qg))))) (Qba (Qd Zm) ["one","many"] (by decide +kernel))) Qg))))
theorem Qjb {P:Program} {w:World} {K:PySem.W.Frag} {mg:Str->Option Value} {base:Heap} {f:Addr} {fd:FuncData} (F:Fun K "lifted" "lifted" Zm f fd) (B:Bn K mg):FnOk P w K mg base CX0 1 f fd ["one","many"] (spR K Vy):=by
 refine Zo (T:=Qf2) F Qir rfl (by decide) (λds kk h=>?_) (Qmt B) (λds kk h=>?_)
 ·obtain ⟨d,a,m,rfl,_⟩:=h
  rfl
 ·obtain ⟨d,a,m,rfl,hd,hl,k⟩:=h
  rcases hd with rfl | ⟨rfl,rfl⟩ | ⟨rfl,rfl⟩
  ·simp only [Xz,wRet,Qh,Qc,Ua,env0,List.map_cons,List.map_nil,List.length_cons,List.length_nil,Nat.zero_add,Nat.reduceAdd,List.cons_append,List.nil_append,wNil,Gp,Qu,look,Qi,Qds,Y1,true_and]
   refine Xg (λt=>pr2 (t.1+m,t.2)) (Dct.Yd (by omega)) (λt ht Q' hQ=>?_) ?_
   ·simp only [wTup,Qc,wBin,Um,List.map_cons,look,List.map_nil,Qt,wNil,List.length_cons,List.length_nil,Nat.zero_add,Nat.reduceAdd,sz2,true_and,Qu,Qi,D.pure,Y0]
    exact hQ
   ·have e:(a.map λt=>pr2 (t.1+m,t.2))=(lift a m).map pr2:=by unfold lift;rw [List.map_map];rfl
    rw [e]
    simp only [Gn,Y1,true_and]
    exact k
  ·simp only [Xz,wRet,Qh,Qc,Ua,env0,List.map_cons,List.map_nil,List.length_cons,List.length_nil,Nat.zero_add,Nat.reduceAdd,List.cons_append,List.nil_append,wNil,Gp,Qu,look,Qi,X1,kcD]
   refine Qek (y:=pr2 (0+m,1)) (λQ' hQ=>?_) ?_
   ·simp only [wTup,Qc,wBin,Um,List.map_cons,look,List.map_nil,Qt,wNil,List.length_cons,List.length_nil,Nat.zero_add,Nat.reduceAdd,sz2,true_and,Qu,Qi,D.pure,Y0]
    exact hQ
   ·simp only [pr2,Gn,Qm,D.pure,Bool.and_self,true_and]
    exact k
  ·simp only [Xz,wRet,Qh,Qc,Ua,env0,List.map_cons,List.map_nil,List.length_cons,List.length_nil,Nat.zero_add,Nat.reduceAdd,List.cons_append,List.nil_append,wNil,Gp,Qu,look,Qi,X1]
   refine Qel ?_
   simp only [Gn,Qm,true_and]
   exact k
def Zl:GA:=λds k=>∃a b:D,ds=[.tup [a,b]]/\a.pure=true/\b.pure=true/\k (.tup [b,a])
abbrev Yg:Stmt:=top 27
theorem Qdo:FnScope ["told"] ["told"] (Qd Yg):=⟨rfl,rfl,rfl,by decide +kernel,rfl,by decide +kernel,by decide +kernel⟩
def Qad:Tg:={ own:=λi=>false,io:=[] }
def X7:WS:=(wRet (Qt (wTup (Qc (wBin dIx (wVar 0) (wC (.int 1))) (Qc (wBin dIx (wVar 0) (wC (.int 0))) wNil)))))
theorem Qfr {P:Program} {w:World} {K:PySem.W.Frag} {mg:Str->Option Value} {base:Heap} {f:Addr} (B:Bn K mg):∀(cdv:Value) (A:Around) (outer:List PySem.Env) (s:Shared) (H:Hp) (E:XK),Room 0 (A.deeper (envOfC "exchanged" (Qd Yg) s.heap.objs.size f cdv))->SVs (cxOf CX0 P w K mg base ["told"] "exchanged" (Qd Yg) f cdv A outer s H E).nox Qad (Ql Yg) X7:=λcdv A outer s H E hr =>
  (Qj (Qz (Qx (Jy (Qb (Jd (Jb (Q5 hr)) (Qa 0) Qe) (Qb (Jd (Jb (Q5 hr)) (Qa 0) Qe) Qg))))))
theorem Qd6 {P:Program} {w:World} {K:PySem.W.Frag} {mg:Str->Option Value} {base:Heap} {f:Addr} {fd:FuncData} (F:Fun K "exchanged" "exchanged" Yg f fd) (B:Bn K mg):FnOk P w K mg base CX0 1 f fd ["told"] (spR K Zl):=by
 refine Zo (T:=Qad) F Qdo rfl (by decide) (λds kk h=>?_) (Qfr B) (λds kk h=>?_)
 ·obtain ⟨a,b,rfl,_⟩:=h
  rfl
 ·obtain ⟨a,b,rfl,h1,h2,k⟩:=h
  simp only [X7,wRet,Qt,wTup,Qc,wBin,env0,List.map_cons,List.map_nil,List.length_cons,List.length_nil,Nat.zero_add,List.cons_append,List.nil_append,wC,wNil,Nat.reduceAdd,sz2,D.pure,Qm,Bool.and_true,true_and,Qu,look,Qi,Xa,Z7,List.getElem?_cons_zero,h1,Vs,List.getElem?_cons_succ,h2]
  exact k
def Ja:GA:=λds k=>∃(x y:D) (a b:T) (s:Int),ds=[.tup [x,y],.int s]/\IsP x a/\IsP y b/\(s=1\/s = -1)/\a.length+b.length<=50000/\Few (lift a s++lift b (3*s))/\∀us:T,Is us->(∀f,ev f us=ev f (lift a s)-ev f (lift b (3*s)))->k (.tup [.tup ((lift a (-s)).map pr2),.tup (us.map pr2)])
abbrev Q0:Stmt:=top 28
theorem Zt:FnScope ["told","sign","upright"] ["told","sign"] (Qd Q0):=⟨rfl,rfl,rfl,by decide +kernel,rfl,by decide +kernel,by decide +kernel⟩
def Z2:Tg:={ own:=λi=>i == 2,io:=[] }
def Z1:WS:=(wSeq (wSet 2 (Qh Qa2 (Qc (Qh Vy (Qc (wBin dIx (wVar 0) (wC (.int 0))) (Qc (wVar 1) wNil))) (Qc (Qh Vy (Qc (wBin dIx (wVar 0) (wC (.int 1))) (Qc (wBin dMul (wC (.int 3)) (wVar 1)) wNil))) wNil))))
 (wRet (wTup (Qc (Qh Vy (Qc (wBin dIx (wVar 0) (wC (.int 0))) (Qc (wUn dNeg (wVar 1)) wNil))) (Qc (Qt (wVar 2)) wNil)))))
theorem U7 {P:Program} {w:World} {K:PySem.W.Frag} {mg:Str->Option Value} {base:Heap} {f:Addr} (B:Bn K mg) (C_minus:Cal P w K mg base "minus" 2 ["one","other"] (spR K Qa2)) (C_lifted:Cal P w K mg base "lifted" 1 ["one","many"] (spR K Vy)):∀(cdv:Value) (A:Around) (outer:List PySem.Env) (s:Shared) (H:Hp) (E:XK),Room 2 (A.deeper (envOfC "half_twisted_sums" (Qd Q0) s.heap.objs.size f cdv))->SVs (cxOf CX0 P w K mg base ["told","sign","upright"] "half_twisted_sums" (Qd Q0) f cdv A outer s H E).nox Z2 (Ql Q0) Z1:=λcdv A outer s H E hr =>
  (Qf (Q3 (i:=2) (Qo C_minus (hr.mono (by decide)) (Qb (Qo C_lifted (hr.mono (by decide)) (Qb (Jd (Jb (Q5 hr)) (Qa 0) Qe) (Qb (Qa 1) Qg))) (Qb (Qo C_lifted (hr.mono (by decide)) (Qb (Jd (Jb (Q5 hr)) (Qa 0) Qe) (Qb (Qv Qat Qe (Qa 1)) Qg))) Qg))) Zt.nd)
  (Qj (Qz (Jy (Qb (Qo C_lifted (hr.mono (by decide)) (Qb (Jd (Jb (Q5 hr)) (Qa 0) Qe) (Qb (Zs Yl (Qa 1)) Qg))) (Qb (Qx (Qa 2)) Qg))))))
theorem Uv {P:Program} {w:World} {K:PySem.W.Frag} {mg:Str->Option Value} {base:Heap} {f:Addr} {fd:FuncData} (F:Fun K "half_twisted_sums" "half_twisted_sums" Q0 f fd) (B:Bn K mg) (C1:Cal P w K mg base "minus" 2 ["one","other"] (spR K Qa2)) (C2:Cal P w K mg base "lifted" 1 ["one","many"] (spR K Vy)):FnOk P w K mg base CX0 3 f fd ["told","sign"] (spR K Ja):=by
 refine Zo (T:=Z2) F Zt rfl (by decide) (λds kk h=>?_) (U7 B C1 C2) (λds kk h=>?_)
 ·obtain ⟨x,y,a,b,s,rfl,_⟩:=h
  rfl
 ·obtain ⟨x,y,a,b,s,rfl,hx,hy,hs,hl,hf,k⟩:=h
  have l1:(lift a s).length=a.length:=List.length_map ..
  have l2:(lift b (3*s)).length=b.length:=List.length_map ..
  have h3:-18446744073709551616<s:=by omega
  have h4:s<18446744073709551616:=by omega
  simp only [Z1,wSeq,wSet,Qh,Qc,wBin,env0,List.map_cons,List.map_nil,List.length_cons,List.length_nil,Nat.zero_add,Nat.reduceAdd,List.replicate,List.cons_append,List.nil_append,wC,wNil,wRet,wTup,wUn,Qt,sz2,true_and,Qu,look,List.set_cons_succ,List.set_cons_zero,Qi,Zq,Xa,Z7,List.getElem?_cons_zero,Int.reduceNeg,Int.reduceLT,Qdu,Vs,List.getElem?_cons_succ]
  refine ⟨x,a,s,rfl,hx,by omega,?_⟩
  simp only []
  refine ⟨y,b,3*s,rfl,hy,by omega,?_⟩
  simp only []
  refine ⟨lift a s,lift b (3*s),rfl,by omega,hf,λus h1 h2 h3 h4=>?_⟩
  simp only [D.pure]
  refine ⟨x,a,-s,rfl,hx,by omega,?_⟩
  simp only [Y1,true_and]
  exact k us h1 h4
open M69 (Wi)
def Sm (d:D) (B:Nat) (A:M69.St):Prop:=∃x y a b,d=.tup [x,y]/\IsP x a/\IsP y b/\Is a/\Is b/\Wi B a/\(Wi B b/\∃e,Par e a/\Par e b)/\A=((λf=>ev f a),λf=>ev f b)
theorem Sm.pure {d:D} {B:Nat} {A:M69.St} (h:Sm d B A):d.pure=true:=by
 obtain ⟨x,y,a,b,rfl,h2,h3,_⟩:=h
 simp only [D.pure,Qm,h2.pure,h3.pure,Bool.and_self]
theorem Qk6:Sm (.tup [cONE,cNO]) 0 (M69.O,M69.Z):=by
 refine ⟨cONE,cNO,[(0,1)],[],rfl,.inr (.inl ⟨rfl,rfl⟩),.inr (.inr ⟨rfl,rfl⟩),Qsx (by decide),Qsy,?_,⟨?_,0,?_,?_⟩,?_⟩
 ·intro t ht
  rw [List.mem_singleton.mp ht]
  exact ⟨by decide,by decide⟩
 ·intro t ht
  cases ht
 ·intro t ht
  rw [List.mem_singleton.mp ht]
  decide
 ·intro t ht
  cases ht
 ·refine Prod.ext (funext λf=>?_) rfl
  show f 0=1*f 0+0
  omega
theorem Qt3 {d:D} {B:Nat} {A:M69.St} {k:D->Prop} (h:Sm d B A) (q:∀d',Sm d' B (M69.R A)->k d'):Zl [d] k:=by
 obtain ⟨x,y,a,b,rfl,h2,h3,h4,h5,h6,⟨h7,e,g1,g2⟩,rfl⟩:=h
 exact ⟨x,y,rfl,h2.pure,h3.pure,q _ ⟨y,x,b,a,rfl,h3,h2,h5,h4,h7,⟨h6,e,g2,g1⟩,rfl⟩⟩
theorem Qs8 {c:T} {B:Nat} {e:Int} (hB:B<=58) (h:Wi B c) (g:Par e c):Few c:=by
 have he:(e - -(B:Int)) % 2=0\/(e - -(B:Int)) % 2=1:=by omega
 rcases he with he | he
 ·refine ⟨-(B:Int),λt ht=>⟨((t.1+B) / 2).toNat,?_,?_⟩⟩
  ·have:=h t ht;omega
  ·have:=h t ht;have:=g t ht;omega
 ·refine ⟨-(B:Int)-1,λt ht=>⟨((t.1+B+1) / 2).toNat,?_,?_⟩⟩
  ·have:=h t ht;omega
  ·have:=h t ht;have:=g t ht;omega
theorem Qcm {a:T} {e m f:Int} (h:Par e a) (hf:(e+m-f) % 2=0):Par f (lift a m):=λt ht=>by
 obtain ⟨u,hu,rfl⟩:=List.mem_map.mp ht
 have:=h u hu
 dsimp only
 omega
theorem Qio {d:D} {B:Nat} {A:M69.St} {s:Int} {k:D->Prop} (h:Sm d B A) (hs:s=1\/s = -1) (hB:B<=55) (q:∀d',Sm d' (B+3) (M69.T s A)->k d'):Ja [d,.int s] k:=by
 obtain ⟨x,y,a,b,rfl,h2,h3,h4,h5,h6,⟨h7,e,g1,g2⟩,rfl⟩:=h
 have la:=M69.Qca h4 h6
 have lb:=M69.Qca h5 h7
 have p1:Par (e+s) (lift a s):=Qcm g1 (by omega)
 have p2:Par (e+s) (lift b (3*s)):=Qcm g2 (by omega)
 have w1:Wi (B+3) (lift a s):=M69.Qev h6 (by omega)
 have w2:Wi (B+3) (lift b (3*s)):=M69.Qev h7 (by omega)
 have hf:Few (lift a s++lift b (3*s)):=Qs8 (B:=B+3) (e:=e+s) (by omega) (λt ht=>(List.mem_append.mp ht).elim (w1 t) (w2 t)) λt ht=>(List.mem_append.mp ht).elim (p1 t) (p2 t)
 refine ⟨x,y,a,b,s,rfl,h2,h3,hs,by omega,hf,λus hu he=>q _ ⟨_,_,lift a (-s),us,rfl,.inl rfl,.inl rfl,Qpq h4,hu,M69.Qev h6 (by omega),⟨M69.Quv hu w1 w2 he,e+s,Qcm g1 (by omega),?_⟩,?_⟩⟩
 ·exact Quw (p:=λz=>(z-(e+s)) % 2=0) hu p1 p2 he
 ·refine Prod.ext (funext λf=>?_) (funext λf=>?_)
  ·show ev (λp=>f (p + -s)) a=ev f (lift a (-s))
   rw [Pol.Qx]
  ·show ev (λp=>f (p+s)) a-ev (λp=>f (p+3*s)) b=ev f us
   rw [he,Pol.Qx,Pol.Qx]
def tot:List Int->Nat
 | []=>0
 | n::l=>n.natAbs+tot l
theorem Jn:∀{a b:List Int},tot (a++b)=tot a+tot b
 | [],b=>by simp [tot]
 | n::a,b=>by rw [List.cons_append,tot,tot,Jn];omega
theorem Qf1:∀{l:List Int} {i:Nat},tot (l.take i)<=tot l
 | [],i=>by simp
 | n::l,0=>by simp [tot]
 | n::l,i+1=>by rw [List.take_succ_cons,tot,tot];have:=Qf1 (l:=l) (i:=i);omega
theorem Gr:∀{xs:List D} {n:Nat},Qm xs=true->Qm (G1 n xs)=true
 | [],_,_=>rfl
 | x::xs,n,h=>by
  simp only [Qm,Bool.and_eq_true] at h
  simp only [G1,Qm,D.pure,h.1,Bool.true_and,Bool.and_self,Gr h.2]
def stA (ns:List Int) (i:Nat):M69.St:=if i=0 then (M69.O,M69.Z) else M69.F M69.s0 (ns.take i)
abbrev fnE:D:=.kc (.fn "exchanged")
abbrev fnH:D:=.kc (.fn "half_twisted_sums")
theorem Qs1 {n:Int} {d:D} {B:Nat} {A:M69.St} {a0 a1 a2 o5 o7:Option D} {P:EndsP} (hS:Sm d B A) (hB:B+3*n.natAbs<=58) (q:∀d' o7,Sm d' (B+3*n.natAbs) (M69.Tn n A)->P.nx [a0,a1,a2,some fnH,some d',o5,some (.int n),o7]) :
  (-4611686018427387904<=if n<0 then -n else n)/\(if n<0 then -n else n)<4611686018427387904/\Qm (rngD 0 (if n<0 then -n else n).toNat)=true /\
   forI (rngD 0 (if n<0 then -n else n).toNat) (gN 7) (wSet 4 (Qbu 3 "half_twisted_sums" Ja (Qc (wVar 4) (Qc (wIfE (wBl (wBin (dCmp λi j=>decide (j<i)) (wVar 6) (wC (D.int 0)))) (wC (D.int 1)) (wUn dNeg (wC (D.int 1)))) wNil)))) P [a0,a1,a2,some fnH,some d,o5,some (.int n),o7]:=by
 have e:(if n<0 then -n else n).toNat=n.natAbs:=by split <;> omega
 have e2:(if n<0 then -n else n)=(n.natAbs:Int):=by split <;> omega
 rw [e,e2]
 refine ⟨by omega,by omega,Qan,λj ρ=>∃(d':D) (o:Option D),j<=n.natAbs/\Sm d' (B+3*j) (M69.it (M69.sgn n) j A)/\ρ=[a0,a1,a2,some fnH,some d',o5,some (.int n),o],⟨d,o7,Nat.zero_le _,hS,rfl⟩,?_,?_⟩
 ·rintro j e ρ hd ⟨d',o,hj,h,rfl⟩
  have hlt:j<n.natAbs:=by
   have:=(List.getElem?_eq_some_iff.mp hd).1
   rwa [rngD,List.length_map,List.length_range] at this
  simp only [gN,wSet,Qbu,List.set_cons_succ,List.set_cons_zero,look,Qc,wIfE,wC,wNil,wUn,Zq,Int.reduceNeg,r_bl,wBin,Qu,Qi,Z3,Qr,true_and]
  refine Jg (λhc=>?_) λhc=>?_
  ·have es:M69.sgn n=1:=if_pos hc
   rw [es] at h
   refine Qio h (.inl rfl) (by omega) λd2 h2=>⟨d2,_,by omega,?_,rfl⟩
   rw [es];exact h2
  ·have es:M69.sgn n = -1:=if_neg hc
   rw [es] at h
   refine Qio h (.inr rfl) (by omega) λd2 h2=>⟨d2,_,by omega,?_,rfl⟩
   rw [es];exact h2
 ·rintro ρ ⟨d',o,hj,h,rfl⟩
  rw [rngD,List.length_map,List.length_range] at h
  exact q d' o h
def Vm:GA:=λds k=>∃ns:List Int,ds=[.kls (I ns),.tup [cONE,cNO],fnE,fnH]/\ns≠[]/\ns.length<=30/\tot ns<=18/\∀d,Sm d (3*tot ns) (M69.F M69.s0 ns)->k d
abbrev Yv:Stmt:=top 26
theorem Y4:FnScope ["twists","start","turned","twisted_once","made","at","number","k"] ["twists","start","turned","twisted_once"] (Qd Yv):=⟨rfl,rfl,rfl,by decide +kernel,rfl,by decide +kernel,by decide +kernel⟩
def Qbx:Tg:={ own:=λi=>i == 4 || i == 5 || i == 6 || i == 7,io:=[] }
def Qbr:WS:=(wSeq (wSet 4 (Qt (wVar 1)))
 (wSeq (wFor (Qia 0) (Qed 2 (Zu (gN 5) (Zu (gN 6) Qee))) (wSeq (wIf (wBl (wBin (dCmp λi j=>decide (j<i)) (wVar 5) (wC (.int 0)))) (wSet 4 (Qbu 2 "exchanged" Zl (Qc (wVar 4) wNil))) Qp)
 (wFor (Qha (Qc (Qh dAbs (Qc (wVar 6) wNil)) wNil)) (gN 7) (wSet 4 (Qbu 3 "half_twisted_sums" Ja (Qc (wVar 4) (Qc (wIfE (wBl (wBin (dCmp λi j=>decide (j<i)) (wVar 6) (wC (.int 0)))) (wC (.int 1)) (wUn dNeg (wC (.int 1)))) wNil)))))))
 (wRet (Qt (wVar 4)))))
theorem Qh4 {P:Program} {w:World} {K:PySem.W.Frag} {mg:Str->Option Value} {base:Heap} {f:Addr} (B:Bn K mg) (C_exchanged:Cal P w K mg base "exchanged" 1 ["told"] (spR K Zl)) (C_half_twisted_sums:Cal P w K mg base "half_twisted_sums" 3 ["told","sign"] (spR K Ja)):∀(cdv:Value) (A:Around) (outer:List PySem.Env) (s:Shared) (H:Hp) (E:XK),Room 3 (A.deeper (envOfC "followed" (Qd Yv) s.heap.objs.size f cdv))->SVs (cxOf CX0 P w K mg base ["twists","start","turned","twisted_once","made","at","number","k"] "followed" (Qd Yv) f cdv A outer s H E).nox Qbx (Ql Yv) Qbr:=λcdv A outer s H E hr =>
  (Qf (Q3 (i:=4) (Qx (Qa 1)) Y4.nd)
  (Qf (Gk PassesOwn.never (Qma (i:=0) B.nb_enumerate) (Qgq (Zx (Yw (i:=5) Y4.nd) (Zx (Yw (i:=6) Y4.nd) Qcy))) (Qf (Yt (Qq Qbk (Qa 5) Qe) (Qj (Q3 (i:=4) (Qeh (i:=2) C_exchanged B.f_exchanged (hr.mono (by decide)) (Qb (Qa 4) Qg)) Y4.nd)) Q4)
  (Qj (Gk PassesOwn.never (Qa0 B.nb_range (Qb (Ji Qkl B.nb_abs Qkr (Qb (Qa 6) Qg)) Qg)) (Yw (i:=7) Y4.nd) (Qj (Q3 (i:=4) (Qeh (i:=3) C_half_twisted_sums B.f_half_twisted_sums (hr.mono (by decide)) (Qb (Qa 4) (Qb (Qmf (Qq Qbk (Qa 6) Qe) Qe (Zs Yl Qe)) Qg))) Y4.nd))))))
  (Qj (Qz (Qx (Qa 4))))))
theorem Qfb {P:Program} {w:World} {K:PySem.W.Frag} {mg:Str->Option Value} {base:Heap} {f:Addr} {fd:FuncData} (F:Fun K "followed" "followed" Yv f fd) (B:Bn K mg) (C1:Cal P w K mg base "exchanged" 1 ["told"] (spR K Zl)) (C2:Cal P w K mg base "half_twisted_sums" 3 ["told","sign"] (spR K Ja)):FnOk P w K mg base CX0 4 f fd ["twists","start","turned","twisted_once"] (spR K Vm):=by
 refine Zo (T:=Qbx) F Y4 rfl (by decide) (λds kk h=>?_) (Qh4 B C1 C2) (λds kk h=>?_)
 ·obtain ⟨ns,rfl,_⟩:=h
  rfl
 ·obtain ⟨ns,rfl,hne,hlen,ht,k⟩:=h
  simp only [Qbr,wSeq,wSet,Qt,env0,List.map_cons,List.map_nil,List.length_cons,List.length_nil,Nat.zero_add,Nat.reduceAdd,List.replicate,List.cons_append,List.nil_append,Qbg,Qia,Qu,look,List.set_cons_succ,List.set_cons_zero,Qi,Qoq,pI,true_and,D.pure,Qm,Bool.and_self]
  refine ⟨Gr pI,λi ρ=>∃(d:D) (o5 o6 o7:Option D),i<=ns.length/\Sm d (3*tot (ns.take i)) (stA ns i)/\ρ=[some (.kls (I ns)),some (.tup [cONE,cNO]),some fnE,some fnH,some d,o5,o6,o7],⟨_,none,none,none,Nat.zero_le _,Qk6,rfl⟩,?_,?_⟩
  ·rintro i e ρ hd ⟨d,o5,o6,o7,hi,hS,rfl⟩
   rw [G0,List.getElem?_map] at hd
   obtain ⟨e1,h1,rfl⟩:=Option.map_eq_some_iff.mp hd
   obtain ⟨n,hn,rfl⟩:=Option.map_eq_some_iff.mp h1
   rw [Nat.zero_add]
   have hlt:=(List.getElem?_eq_some_iff.mp hn).1
   have et:ns.take (i+1)=ns.take i++[n]:=by rw [List.take_add_one,hn];rfl
   have hT:tot (ns.take i)+n.natAbs<=tot ns:=by have:=Qf1 (l:=ns) (i:=i+1);rw [et,Jn] at this;simp only [tot] at this;omega
   simp only [wSeq,wIf,wSet,Qbu,Qc,wNil,Qbg,Qiv,Qh,Qu,Qp,r_bl,wBin,wC,Qga,List.length_cons,List.length_nil,Nat.zero_add,Nat.reduceAdd,Qck,gN,List.set_cons_succ,List.set_cons_zero,Qgb,look,Qi,Qq6,Qe2,Int.reducePow,Int.reduceNeg,true_and,Z3,Qr]
   have fin:∀d' o7,Sm d' (3*tot (ns.take i)+3*n.natAbs) (M69.Tn n (M69.R (M69.F M69.s0 (ns.take i))))->∃(d:D) (o5 o6 o7':Option D),i+1<=ns.length/\Sm d (3*tot (ns.take (i+1))) (stA ns (i+1))/\[some (D.kls (I ns)),some (D.tup [cONE,cNO]),some fnE,some fnH,some d',some (D.int i),some (D.int n),o7]=[some (.kls (I ns)),some (.tup [cONE,cNO]),some fnE,some fnH,some d,o5,o6,o7']:=λd' o7 h=>by
    refine ⟨d',_,_,_,hlt,?_,rfl⟩
    unfold stA
    rw [if_neg (by omega),et,Jn]
    simp only [tot,Nat.add_zero,Nat.mul_add]
    unfold M69.F
    rw [List.foldl_append]
    exact h
   refine Jg (λhc=>?_) λhc=>?_
   ·refine Qt3 hS λd' h=>Qs1 h (by omega) λd2 o h2=>fin d2 o ?_
    unfold stA at h2
    rwa [if_neg (by omega)] at h2
   ·obtain rfl:i=0:=by omega
    exact Qs1 hS (by omega) λd2 o h2=>fin d2 o h2
  ·rintro ρ ⟨d,o5,o6,o7,hi,hS,rfl⟩
   rw [Ve,List.length_map] at hS
   rw [List.take_of_length_le (Nat.le_refl _)] at hS
   simp only [wRet,Qt,Qu,look,Qi,hS.pure,true_and]
   refine k d ?_
   unfold stA at hS
   rwa [if_neg (λz=>hne (List.eq_nil_of_length_eq_zero z)),List.take_of_length_le (Nat.le_refl _)] at hS
def Je:GA:=λds k=>∃ns:List Int,ds=[.kls (I ns)]/\ns≠[]/\ns.length<=30/\tot ns<=18/\∀d,Sm d (3*tot ns) (M69.F M69.s0 ns)->k d
abbrev Jj:Stmt:=top 29
theorem Qag:FnScope ["twists"] ["twists"] (Qd Jj):=⟨rfl,rfl,rfl,by decide +kernel,rfl,by decide +kernel,by decide +kernel⟩
def Uz:Tg:={ own:=λi=>false,io:=[] }
def Uw:WS:=(wRet (Qh Vm (Qc (wVar 0) (Qc (wTup (Qc (wC (.kc (.tup [.tup [.int 0,.int 1]]))) (Qc (wC (.kc (.tup []))) wNil))) (Qc (wC (.kc (.fn "exchanged"))) (Qc (wC (.kc (.fn "half_twisted_sums"))) wNil))))))
theorem Qbn {P:Program} {w:World} {K:PySem.W.Frag} {mg:Str->Option Value} {base:Heap} {f:Addr} (B:Bn K mg) (C_followed:Cal P w K mg base "followed" 4 ["twists","start","turned","twisted_once"] (spR K Vm)):∀(cdv:Value) (A:Around) (outer:List PySem.Env) (s:Shared) (H:Hp) (E:XK),Room 4 (A.deeper (envOfC "twisted_sums" (Qd Jj) s.heap.objs.size f cdv))->SVs (cxOf CX0 P w K mg base ["twists"] "twisted_sums" (Qd Jj) f cdv A outer s H E).nox Uz (Ql Jj) Uw:=λcdv A outer s H E hr =>
  (Qj (Qz (Qo C_followed (hr.mono (by decide)) (Qb (Qa 0) (Qb (Jy (Qb (Qtc B.c_ONE) (Qb (Qtc B.c_NOUGHT) Qg))) (Qb (Qnt B.f_exchanged) (Qb (Qnt B.f_half_twisted_sums) Qg)))))))
theorem Qar {P:Program} {w:World} {K:PySem.W.Frag} {mg:Str->Option Value} {base:Heap} {f:Addr} {fd:FuncData} (F:Fun K "twisted_sums" "twisted_sums" Jj f fd) (B:Bn K mg) (C1:Cal P w K mg base "followed" 4 ["twists","start","turned","twisted_once"] (spR K Vm)):FnOk P w K mg base CX0 5 f fd ["twists"] (spR K Je):=by
 refine Zo (T:=Uz) F Qag rfl (by decide) (λds kk h=>?_) (Qbn B C1) (λds kk h=>?_)
 ·obtain ⟨ns,rfl,_⟩:=h
  rfl
 ·obtain ⟨ns,rfl,hne,hlen,ht,k⟩:=h
  simp only [Uw,wRet,Qh,Qc,env0,List.map_cons,List.map_nil,List.length_cons,List.length_nil,Nat.zero_add,List.cons_append,List.nil_append,wTup,wC,wNil,Nat.reduceAdd,sz2,true_and,Qu,look,Qi]
  exact ⟨ns,rfl,hne,hlen,ht,k⟩
end K70
namespace K70
open PySem PySem.Spec L2 PV
open PyProof.Rows (envOfC)
open V68 Pol Dct
def fr (t:Int × Int):D:=.tup [.int t.1,.int t.2]
def Ze:GA:=λds k=>∃ns:List Int,ds=[.kls (ns.map .int)]/\(∀n∈ns,-300<=n/\n<=300)/\k (fr (ns.foldl V66.step (1,0)))
abbrev Vv:Stmt:=top 25
theorem Gm:FnScope ["twists","told","number"] ["twists"] (Qd Vv):=⟨rfl,rfl,rfl,by decide +kernel,rfl,by decide +kernel,by decide +kernel⟩
def Qij:Tg:={ own:=λi=>i == 1 || i == 2,io:=[] }
def Qh6:WS:=(wSeq (wSet 1 (wTup (Qc (wC (.int 1)) (Qc (wC (.int 0)) wNil))))
 (wSeq (wFor (Qkz (wVar 0)) (gN 2) (wSeq (wSet 1 (wTup (Qc (wBin dSub (wBin dMul (wVar 2) (wBin dIx (wVar 1) (wC (.int 0)))) (wBin dIx (wVar 1) (wC (.int 1)))) (Qc (Qt (wBin dIx (wVar 1) (wC (.int 0)))) wNil))))
 (wIf (wBl (wBin (dCmp λi j=>decide (i<=j)) (wBin dIx (wVar 1) (wC (.int 1))) (wC (.int 0)))) (wSet 1 (wTup (Qc (wUn dNeg (wBin dIx (wVar 1) (wC (.int 0)))) (Qc (wUn dNeg (wBin dIx (wVar 1) (wC (.int 1)))) wNil)))) Qp)))
 (wRet (Qt (wVar 1)))))
theorem Qp9 {P:Program} {w:World} {K:PySem.W.Frag} {mg:Str->Option Value} {base:Heap} {f:Addr} (B:Bn K mg):∀(cdv:Value) (A:Around) (outer:List PySem.Env) (s:Shared) (H:Hp) (E:XK),Room 0 (A.deeper (envOfC "value" (Qd Vv) s.heap.objs.size f cdv))->SVs (cxOf CX0 P w K mg base ["twists","told","number"] "value" (Qd Vv) f cdv A outer s H E).nox Qij (Ql Vv) Qh6:=λcdv A outer s H E hr =>
  (Qf (Q3 (i:=1) (Jy (Qb Qe (Qb Qe Qg))) Gm.nd)
  (Qf (Gk PassesOwn.never (Qno (Qa 0)) (Yw (i:=2) Gm.nd) (Qf (Q3 (i:=1) (Jy (Qb (Qv Y9 (Qv Qat (Qa 2) (Jd (Jb (Q5 hr)) (Qa 1) Qe)) (Jd (Jb (Q5 hr)) (Qa 1) Qe)) (Qb (Qx (Jd (Jb (Q5 hr)) (Qa 1) Qe)) Qg))) Gm.nd)
  (Qj (Yt (Qq Qr4 (Jd (Jb (Q5 hr)) (Qa 1) Qe) Qe) (Qj (Q3 (i:=1) (Jy (Qb (Zs Yl (Jd (Jb (Q5 hr)) (Qa 1) Qe)) (Qb (Zs Yl (Jd (Jb (Q5 hr)) (Qa 1) Qe)) Qg))) Gm.nd)) Q4))))
  (Qj (Qz (Qx (Qa 1))))))
theorem Qly {P:Program} {w:World} {K:PySem.W.Frag} {mg:Str->Option Value} {base:Heap} {f:Addr} {fd:FuncData} (F:Fun K "value" "value" Vv f fd) (B:Bn K mg):FnOk P w K mg base CX0 1 f fd ["twists"] (spR K Ze):=by
 refine Zo (T:=Qij) F Gm rfl (by decide) (λds kk h=>?_) (Qp9 B) (λds kk h=>?_)
 ·obtain ⟨ns,rfl,_⟩:=h
  rfl
 ·obtain ⟨ns,rfl,hns,k⟩:=h
  simp only [Qh6,wSeq,wSet,wTup,Qc,wC,wNil,List.length_cons,List.length_nil,Nat.zero_add,Nat.reduceAdd,sz2,env0,List.map_cons,List.map_nil,List.replicate,List.cons_append,List.nil_append,List.set_cons_succ,List.set_cons_zero,Qbg,Qq3,Qu,look,Qi,Qnb,Qao,true_and]
  refine ⟨λi ρ=>∃o2:Option D,ρ=[some (.kls (ns.map .int)),some (fr ((ns.take i).foldl V66.step (1,0))),o2],⟨none,rfl⟩,?_,?_⟩
  ·rintro i d ρ hd ⟨o2,rfl⟩
   rw [List.getElem?_map] at hd
   obtain ⟨n,hn,hd⟩:=Option.map_eq_some_iff.mp hd
   subst hd
   obtain ⟨h1,h2⟩:=hns n (List.mem_of_getElem? hn)
   have e:(ns.take (i+1)).foldl V66.step (1,0)=V66.step ((ns.take i).foldl V66.step (1,0)) n:=by
    rw [List.take_add_one,hn,List.foldl_append];rfl
   have h3:-18446744073709551616<n:=by omega
   have h4:n<18446744073709551616:=by omega
   simp only [gN,wSeq,wSet,wTup,Qc,wBin,fr,List.set_cons_succ,List.set_cons_zero,wC,Qt,wNil,List.length_cons,List.length_nil,Nat.zero_add,Nat.reduceAdd,sz2,wIf,wUn,e,true_and,Qu,Qp,r_bl,look,Qi,Xa,Vs,List.getElem?_cons_succ,List.getElem?_cons_zero,Z7,D.pure,Zq,Z3,Qr,Int.reduceNeg,h3,h4,Qdu,V7]
   generalize (ns.take i).foldl V66.step (1,0)=t
   split
   ·rename_i hc
    have hc:t.1<=0:=of_decide_eq_true hc
    refine ⟨some (.int n),?_⟩
    unfold V66.step V66.nrmz
    rw [if_pos hc]
   ·rename_i hc
    have hc:¬t.1<=0:=λz=>hc (decide_eq_true z)
    refine ⟨some (.int n),?_⟩
    unfold V66.step V66.nrmz
    rw [if_neg hc]
  ·rintro ρ ⟨o2,rfl⟩
   rw [List.length_map,List.take_of_length_le (Nat.le_refl _)]
   simp only [wRet,Qt,fr,Qu,look,Qi,D.pure,Qm,Bool.and_self,true_and]
   exact k
def Ya:GA:=λds k=>∃cs:List Int,ds=[.lst (cs.map .int),.int 12]/\cs.length<=8/\∀ns:List Int,ns.length=cs.length->tot ns<=12->k (.lst (ns.map .int))
theorem Qrj {a b c:D} {r:Int} (h0:0<=r) (h1:r<3):L2.atI [a,b,c] r=some (if r=0 then a else if r=1 then b else c):=by
 obtain h | h | h:r=0\/r=1\/r=2:=by omega
 ·subst h;rfl
 ·subst h;rfl
 ·subst h;rfl
abbrev Js:Stmt:=top 34
theorem J3:FnScope ["_law_cells","_law_most","_law_twists_here","_law_left","_law_cell","_law_many"] ["_law_cells","_law_most"] (Qd Js):=⟨rfl,rfl,rfl,by decide +kernel,rfl,by decide +kernel,by decide +kernel⟩
def Gh:Tg:={ own:=λi=>i == 2 || i == 3 || i == 4 || i == 5,io:=[] }
def U9:WS:=(wSeq (wSet 2 (wLst wNil))
 (wSeq (wSet 3 (Qt (wVar 1)))
 (wSeq (wFor (Uu (wVar 0)) (gN 4) (wSeq (wSet 5 (wBin dIx (wLst (Qc (wBin dSub (wBin dMod (wVar 4) (wC (.int 7))) (wC (.int 3))) (Qc (wBin dSub (wBin dMod (wVar 4) (wC (.int 3))) (wC (.int 1))) (Qc (wBin dSub (wBin dMod (wBin dDiv (wVar 4) (wC (.int 21))) (wBin Q6 (wBin dMul (wC (.int 2)) (wVar 1)) (wC (.int 1)))) (wVar 1)) wNil)))) (wBin dMod (wBin dDiv (wVar 4) (wC (.int 7))) (wC (.int 3)))))
 (wSeq (wIf (wBl (wBin (dCmp λi j=>decide (j<i)) (Qh dAbs (Qc (wVar 5) wNil)) (wVar 3))) (wSet 5 (wC (.int 0))) Qp)
 (wSeq (V9 (wMt 2 "list" Vz (Qc (Qt (wVar 5)) wNil)))
 (wSet 3 (wBin dSub (wVar 3) (Qh dAbs (Qc (wVar 5) wNil))))))))
 (Qh8 2))))
theorem Qc9 {P:Program} {w:World} {K:PySem.W.Frag} {mg:Str->Option Value} {base:Heap} {f:Addr} (B:Bn K mg):∀(cdv:Value) (A:Around) (outer:List PySem.Env) (s:Shared) (H:Hp) (E:XK),Room 0 (A.deeper (envOfC "_law_twists" (Qd Js) s.heap.objs.size f cdv))->SVs (cxOf CX0 P w K mg base ["_law_cells","_law_most","_law_twists_here","_law_left","_law_cell","_law_many"] "_law_twists" (Qd Js) f cdv A outer s H E).nox Gh (Ql Js) U9:=λcdv A outer s H E hr =>
  (Qf (Q3 (i:=2) (Yc Qg) J3.nd)
  (Qf (Q3 (i:=3) (Qx (Qa 1)) J3.nd)
  (Qf (Gk PassesOwn.never (Qnn (i:=0)) (Yw (i:=4) J3.nd) (Qf (Q3 (i:=5) (Jd (Jb (Q5 hr)) (Yc (Qb (Qv Y9 (Qv Gu (Qa 4) Qe) Qe) (Qb (Qv Y9 (Qv Gu (Qa 4) Qe) Qe) (Qb (Qv Y9 (Qv Gu (Qv Qau (Qa 4) Qe) (Qv Qs (Qv Qat Qe (Qa 1)) Qe)) (Qa 1)) Qg)))) (Qv Gu (Qv Qau (Qa 4) Qe) Qe)) J3.nd)
  (Qf (Yt (Qq Qbk (Ji Qkl B.nb_abs Qkr (Qb (Qa 5) Qg)) (Qa 3)) (Qj (Q3 (i:=5) Qe J3.nd)) Q4)
  (Qf (G7 (Qhx (i:=2) Ug PySem.F.plainAttrs_list PySem.F.slot_list_append PySem.F.type_list_append (Qb (Qx (Qa 5)) Qg)))
  (Qj (Q3 (i:=3) (Qv Y9 (Qa 3) (Ji Qkl B.nb_abs Qkr (Qb (Qa 5) Qg))) J3.nd))))))
  (Qj (Qim (i:=2))))))
theorem Qbi {P:Program} {w:World} {K:PySem.W.Frag} {mg:Str->Option Value} {base:Heap} {f:Addr} {fd:FuncData} (F:Fun K "_law_twists" "_law_twists" Js f fd) (B:Bn K mg):FnOk P w K mg base CX0 1 f fd ["_law_cells","_law_most"] (spR K Ya):=by
 refine Zo (T:=Gh) F J3 rfl (by decide) (λds kk h=>?_) (Qc9 B) (λds kk h=>?_)
 ·obtain ⟨cs,rfl,_⟩:=h
  rfl
 ·obtain ⟨cs,rfl,hcs,k⟩:=h
  simp only [U9,wSeq,wSet,wLst,wNil,List.length_nil,sz0,Qt,env0,List.map_cons,List.map_nil,List.length_cons,Nat.zero_add,Nat.reduceAdd,List.replicate,List.cons_append,List.nil_append,List.set_cons_succ,List.set_cons_zero,Qbg,Gp,Qu,look,Qi,Qdt,Qao,true_and,D.pure]
  refine ⟨λi ρ=>∃(ns:List Int) (l:Int) (o4 o5:Option D),ns.length=i/\(tot ns:Int)+l=12/\0<=l/\ρ=[some (.lst (cs.map .int)),some (.int 12),some (.lst (ns.map .int)),some (.int l),o4,o5],⟨[],12,none,none,rfl,rfl,by omega,rfl⟩,?_,?_⟩
  ·rintro i d ρ hd ⟨ns,l,o4,o5,hl,hns,hl0,rfl⟩
   rw [List.getElem?_map] at hd
   obtain ⟨c,hc,hd⟩:=Option.map_eq_some_iff.mp hd
   subst hd
   have hi:=(List.getElem?_eq_some_iff.mp hc).1
   have p3:=Qrj (a:=D.int (c % 7-3)) (b:=D.int (c % 3-1)) (c:=D.int (c / 21 % (2*12+1)-12)) (Int.emod_nonneg (c / 7) (show (3:Int)≠0 by decide)) (Int.emod_lt_of_pos (c / 7) (show (0:Int)<3 by decide))
   have hb:∃m:Int,L2.atI [D.int (c % 7-3),D.int (c % 3-1),D.int (c / 21 % (2*12+1)-12)] (c / 7 % 3)=some (D.int m) /\ -12<=m/\m<=12:=by
    rw [p3]
    split
    ·exact ⟨_,rfl,by omega,by omega⟩
    ·split
     ·exact ⟨_,rfl,by omega,by omega⟩
     ·exact ⟨_,rfl,by omega,by omega⟩
   obtain ⟨m,hm,hm1,hm2⟩:=hb
   simp only [Int.reduceMul,Int.reduceAdd] at hm
   simp only [gN,wSeq,wSet,wBin,wLst,Qc,List.set_cons_succ,List.set_cons_zero,wC,wNil,List.length_cons,List.length_nil,Nat.zero_add,Nat.reduceAdd,sz3,wIf,V9,wMt,Qt,Qh,Qu,Qp,r_bl,true_and,look,Qdr,BEq.rfl,Qi,Qq6,Int.reduceLT,Int.reduceNeg,reduceIte,V7,Qe3,List.length_map,D.pure,Qdx,Qdv,Yz,Qdu,Int.reduceMul,Y0,Int.reduceAdd,hm,Z3,Qr]
   have next:∀x l':Int,l'=l-(x.natAbs:Int)->0<=l'->∃(ns':List Int) (l'':Int) (o4 o5:Option D),ns'.length=i+1/\(tot ns':Int)+l''=12/\0<=l''/\[some (D.lst (cs.map .int)),some (.int 12),some (.lst (ns.map .int++[.int x])),some (.int l'),some (.int c),some (.int x)]=[some (.lst (cs.map .int)),some (.int 12),some (.lst (ns'.map .int)),some (.int l''),o4,o5]:=λx l' h1 h2 =>
    ⟨ns++[x],l',_,_,by rw [List.length_append,hl];rfl,by rw [Jn];simp only [tot];omega,h2,by rw [List.map_append];rfl⟩
   have em:(if m<0 then -m else m)=(m.natAbs:Int):=by split <;> omega
   rw [em]
   refine Jg (λhc=>?_) λhc=>?_
   ·exact ⟨Dct.Yd (by omega),next 0 _ (by simp) (by simp;omega)⟩
   ·refine ⟨Dct.Yd (by omega),next m _ ?_ ?_⟩
    ·rfl
    ·omega
  ·rintro ρ ⟨ns,l,o4,o5,hl,hns,hl0,rfl⟩
   rw [List.length_map] at hl
   simp only [Qh8,look,Qi]
   exact k ns hl (by omega)
theorem Qqr {pre rs:List Int} {n r v:Int} {w:Str} {q:List Int} (h:stp pre rs n r w=some (q,v)):M69.Led (pre++n::r::rs) q v/\q.length<=pre.length+rs.length+3/\tot q<=tot (pre++n::r::rs)+3/\q≠[]:=by
 unfold stp at h
 split at h
 ·split at h
  ·rename_i _ hn
   subst hn
   cases h
   rcases List.eq_nil_or_concat pre with rfl | ⟨bs,z,rfl⟩
   ·rw [if_pos rfl,Qdb]
    exact ⟨M69.Ql5,by simp,by simp only [tot,List.nil_append];omega,by simp⟩
   ·rw [List.concat_eq_append,if_neg (by simp),Y2]
    exact ⟨M69.Qpm,by simp;omega,by simp only [Jn,tot];omega,by simp⟩
  ·cases h
 split at h
 ·split at h
  ·rename_i _ hn
   subst hn
   cases h
   rcases List.eq_nil_or_concat pre with rfl | ⟨bs,z,rfl⟩
   ·rw [if_pos rfl,Qdb]
    exact ⟨M69.Qjk,by simp,by simp only [tot,List.nil_append];omega,by simp⟩
   ·rw [List.concat_eq_append,if_neg (by simp),Y2]
    exact ⟨M69.Ql6,by simp;omega,by simp only [Jn,tot];omega,by simp⟩
  ·cases h
 split at h
 ·split at h
  ·rename_i hq
   unfold nou at hq
   obtain ⟨hn0,hq2⟩:=of_decide_eq_true hq
   clear hq
   subst hn0
   cases h
   unfold wno
   rcases List.eq_nil_or_concat pre with rfl | ⟨bs,z,rfl⟩
   ·obtain ⟨rfl,hr⟩:r=0/\rs≠[]:=hq2.resolve_left λz=>z rfl
    rw [if_pos rfl]
    exact ⟨M69.Qff,by simp,by simp only [tot,List.nil_append];omega,hr⟩
   ·rw [List.concat_eq_append,if_neg (by simp),Y2]
    exact ⟨M69.Qhp,by simp;omega,by simp only [Jn,tot];omega,by simp⟩
  ·cases h
 split at h
 ·split at h
  ·rename_i _ hq
   obtain ⟨rfl,rfl⟩:=hq
   cases h
   exact ⟨M69.Qjj,by simp,by simp only [tot,List.nil_append];omega,by simp⟩
  ·cases h
 split at h
 ·split at h
  ·cases h
   exact ⟨M69.Qji,by simp;omega,by simp only [Jn,tot];omega,by simp⟩
  ·cases h
 ·cases h
theorem Qin {l:List Int} {w:Str} {a v:Int} {q:List Int} (h:stpI l w a=some (q,v)):M69.Led l q v/\q.length<=l.length+1/\tot q<=tot l+3/\q≠[]:=by
 cases hp:plc l a with
 | false=>rw [Qct hp] at h;cases h
 | true =>
  obtain ⟨pre,rs,n,r,rfl,_,e⟩:=Qlu hp
  rw [e] at h
  obtain ⟨h1,h2,h3,h4⟩:=Qqr h
  exact ⟨h1,by simp;omega,h3,h4⟩
abbrev stD (s:Str × Int):D:=.tup [.str s.1,.int s.2]
theorem Qe4 {ss:List (Str × Int)}:Qm (ss.map stD)=true:=Gs λ_ _=>rfl
def ldd:List Int->Int->List (Str × Int)->Option (List Int × Int)
 | l,v,[]=>some (l,v)
 | l,v,s::r=>match stpI l s.1 s.2 with
  | some (q,u)=>ldd q (v+u) r
  | none=>none
def Qhu:GX:=λds k kx=>∃(l:List Int) (ss:List (Str × Int)),ds=[.lst (I l),.kls (ss.map stD)]/\l.length+ss.length<=1902/\match ldd l 0 ss with
 | some (q,v)=>k (.tup [.lst (I q),.int v])
 | none=>kx (.obj (Str.ofString "NoStep") [])
abbrev Qaj:Stmt:=top 13
theorem Qai:FnScope ["twists","steps","told","weight","one","made"] ["twists","steps"] (Qd Qaj):=⟨rfl,rfl,rfl,by decide +kernel,rfl,by decide +kernel,by decide +kernel⟩
def Qez:Tg:={ own:=λi=>i == 2 || i == 3 || i == 4 || i == 5,io:=[] }
def Qqd:WS:=(wSeq (wSet 2 (Qh Vg (Qc (wVar 0) wNil)))
 (wSeq (wSet 3 (wC (.int 0)))
 (wSeq (wFor (Qkz (wVar 1)) (gN 4) (wSeq (Qn1 5 Gx (Qc (wVar 2) (Qc (wVar 4) wNil)))
 (wSeq (wMv0 2 5)
 (wSet 3 (wBin Q6 (wVar 3) (wBin dIx (wVar 5) (wC (.int 1))))))))
 (Qn2 2 (wVar 3)))))
theorem Qu7 {P:Program} {w:World} {K:PySem.W.Frag} {mg:Str->Option Value} {base:Heap} {f:Addr} (B:Bn K mg) (C_step:CalX P w K mg base "step" 3 ["twists","step"] (spX K Gx)):∀(cdv:Value) (A:Around) (outer:List PySem.Env) (s:Shared) (H:Hp) (E:XK) (XE:D->St->Hp->Prop),Room 3 (A.deeper (envOfC "led" (Qd Qaj) s.heap.objs.size f cdv))->(∀x C,atN K x C->Qdc (cxOf (CXE P w base) P w K mg base ["twists","steps","told","weight","one","made"] "led" (Qd Qaj) f cdv A outer s H E) ⟨Qez.own,Qez.io,XE⟩ x C)->Qg8 (cxOf (CXE P w base) P w K mg base ["twists","steps","told","weight","one","made"] "led" (Qd Qaj) f cdv A outer s H E) ⟨Qez.own,Qez.io,XE⟩->SVs (cxOf (CXE P w base) P w K mg base ["twists","steps","told","weight","one","made"] "led" (Qd Qaj) f cdv A outer s H E) ⟨Qez.own,Qez.io,XE⟩ (Ql Qaj) Qqd:=λcdv A outer s H E XE hr hX hP =>
  (Qf (Q3 (i:=2) (Jm Z5 B.nb_list Z6 (Qb (Qa 0) Qg)) Qai.nd (hio:=List.not_mem_nil))
  (Qf (Q3 (i:=3) Qe Qai.nd (hio:=List.not_mem_nil))
  (Qf (Gk PassesOwn.leaving (Qno (Qa 1)) (Yw (i:=4) Qai.nd (hio:=List.not_mem_nil)) (Qf (Qoa (i:=5) C_step (hr.mono (by decide)) hP (Qb (Qa 2) (Qb (Qa 4) Qg)) Qai.nd)
  (Qf (Qqq (i:=2) (j:=5) Qai.nd)
  (Qj (Q3 (i:=3) (Qv Qs (Qa 3) (Jd (Jb (Q5 hr)) (Qa 5) Qe)) Qai.nd (hio:=List.not_mem_nil))))))
  (Qj (Qoc (i:=2) (Qa 3))))))
theorem Qr2 {P:Program} {w:World} {K:PySem.W.Frag} {mg:Str->Option Value} {base:Heap} {f:Addr} {fd:FuncData} (F:Fun K "led" "led" Qaj f fd) (B:Bn K mg) (C1:CalX P w K mg base "step" 3 ["twists","step"] (spX K Gx)):FnOk P w K mg base (CXE P w base) 4 f fd ["twists","steps"] (spX K Qhu):=by
 refine fn_x (T:=Qez) F Qai rfl (by decide) (λds kk kx h=>?_) (Qu7 B C1) (λds kk kx h=>?_)
 ·obtain ⟨l,ss,rfl,_⟩:=h
  rfl
 ·obtain ⟨l,ss,rfl,hl,k⟩:=h
  simp only [Qqd,wSeq,wSet,Qh,Qc,env0,List.map_cons,List.map_nil,List.length_cons,List.length_nil,Nat.zero_add,Nat.reduceAdd,List.replicate,List.cons_append,List.nil_append,wNil,wC,Qbg,Qq3,Qu,look,List.set_cons_succ,List.set_cons_zero,Qi,Qnb,Qe4,true_and,Qcj,pI]
  refine ⟨λi ρ=>∃(q:List Int) (v:Int) (o4 o5:Option D),q.length<=l.length+i/\i<=ss.length/\ldd l 0 ss=ldd q v (ss.drop i)/\ρ=[some (.lst (I l)),some (.kls (ss.map stD)),some (.lst (I q)),some (.int v),o4,o5],⟨l,0,none,none,by omega,by omega,rfl,rfl⟩,?_,?_⟩
  ·rintro i d ρ hd ⟨q,v,o4,o5,h1,h2,h3,rfl⟩
   rw [List.getElem?_map] at hd
   obtain ⟨s,hs,hd⟩:=Option.map_eq_some_iff.mp hd
   subst hd
   obtain ⟨hi,hs⟩:=List.getElem?_eq_some_iff.mp hs
   have ed:ss.drop i=s::ss.drop (i+1):=by rw [List.drop_eq_getElem_cons hi,hs]
   simp only [gN,wSeq,Qn1,Qc,stD,List.set_cons_succ,List.set_cons_zero,wNil,wMv0,wSet,wBin,wC,Qu,look,Qi,Xa,Vs,List.getElem?_cons_succ]
   refine ⟨q,s.1,s.2,rfl,by omega,?_⟩
   rw [ed,ldd] at h3
   cases hq:stpI q s.1 s.2 with
   | none =>
    rw [hq] at h3
    rw [h3] at k
    exact k
   | some p =>
    obtain ⟨q',u⟩:=p
    rw [hq] at h3
    simp only [Qre,Qm,D.pure,Bool.and_self,List.getElem?_cons_zero,Qi,Y0,true_and]
    obtain ⟨_,g2,_,_⟩:=Qin hq
    exact λa=>⟨q',v+u,_,_,by omega,by omega,h3,rfl⟩
  ·rintro ρ ⟨q,v,o4,o5,h1,h2,h3,rfl⟩
   rw [List.length_map,List.drop_of_length_le (Nat.le_refl _)] at h3
   rw [h3] at k
   simp only [Qn2,look,Qu,Qi,D.pure,true_and]
   exact k
def Ui (a:T) (h:Int):T:=a.map λt=>(t.1+3*h,t.2*(1-2*(h % 2)))
def Yb:GA:=λds k=>∃(d:D) (a:T) (h:Int),ds=[d,.int h]/\IsP d a/\a.length<=50000/\k (.tup ((Ui a h).map pr2))
abbrev Jl:Stmt:=top 36
theorem Qbf:FnScope ["_law_one","_law_heft"] ["_law_one","_law_heft"] (Qd Jl):=⟨rfl,rfl,rfl,by decide +kernel,rfl,by decide +kernel,by decide +kernel⟩
def Gi:Tg:={ own:=λi=>false,io:=[] }
def Zv:WS:=(wRet (Qh U1 (Qc (Ua (Uu (wVar 0)) wAll (wTup (Qc (wBin Q6 (wVar 0) (wBin dMul (wC (.int 3)) (wVar 2))) (Qc (wBin dMul (wVar 1) (wBin dSub (wC (.int 1)) (wBin dMul (wC (.int 2)) (wBin dMod (wVar 2) (wC (.int 2)))))) wNil))) [1]) wNil)))
theorem Qda {P:Program} {w:World} {K:PySem.W.Frag} {mg:Str->Option Value} {base:Heap} {f:Addr} (B:Bn K mg):∀(cdv:Value) (A:Around) (outer:List PySem.Env) (s:Shared) (H:Hp) (E:XK),Room 0 (A.deeper (envOfC "_law_lifted" (Qd Jl) s.heap.objs.size f cdv))->SVs (cxOf CX0 P w K mg base ["_law_one","_law_heft"] "_law_lifted" (Qd Jl) f cdv A outer s H E).nox Gi (Ql Jl) Zv:=λcdv A outer s H E hr =>
  (Qj (Qz (Jm G4 B.nb_tuple Ut (Qb (Qc1 (Qc4 [1] (Qaz (Qa 0)) (λ_ _ _ _ _=>Qg0) (λ_ _ _ _ _=>(Jy (Qb (Qv Qs (Qa 0) (Qv Qat Qe (Qa 2))) (Qb (Qv Qat (Qa 1) (Qv Y9 Qe (Qv Qat Qe (Qv Gu (Qa 2) Qe)))) Qg))))) (Qba (Qd Jl) ["_law_one","_law_heft"] (by decide +kernel))) Qg))))
theorem Qbj {P:Program} {w:World} {K:PySem.W.Frag} {mg:Str->Option Value} {base:Heap} {f:Addr} {fd:FuncData} (F:Fun K "_law_lifted" "_law_lifted" Jl f fd) (B:Bn K mg):FnOk P w K mg base CX0 1 f fd ["_law_one","_law_heft"] (spR K Yb):=by
 refine Zo (T:=Gi) F Qbf rfl (by decide) (λds kk h=>?_) (Qda B) (λds kk h=>?_)
 ·obtain ⟨d,a,m,rfl,_⟩:=h
  rfl
 ·obtain ⟨d,a,m,rfl,hd,hl,k⟩:=h
  have b1:-18446744073709551616<1-2*(m % 2):=by omega
  have b2:1-2*(m % 2)<18446744073709551616:=by omega
  rcases hd with rfl | ⟨rfl,rfl⟩ | ⟨rfl,rfl⟩
  ·simp only [Zv,wRet,Qh,Qc,Ua,env0,List.map_cons,List.map_nil,List.length_cons,List.length_nil,Nat.zero_add,Nat.reduceAdd,List.cons_append,List.nil_append,wNil,Gp,Qu,look,Qi,Qds,Y1,true_and]
   refine Xg (λt=>pr2 (t.1+3*m,t.2*(1-2*(m % 2)))) (Dct.Yd (by omega)) (λt ht Q' hQ=>?_) ?_
   ·simp only [wTup,Qc,wBin,Um,List.map_cons,look,List.map_nil,wC,wNil,List.length_cons,List.length_nil,Nat.zero_add,Nat.reduceAdd,sz2,true_and,Qu,Qi,Int.reduceLT,Qdv,Int.reduceNeg,Qdu,V7,b1,b2,Qna,Y0]
    exact hQ
   ·have e:(a.map λt=>pr2 (t.1+3*m,t.2*(1-2*(m % 2))))=(Ui a m).map pr2:=by unfold Ui;rw [List.map_map];rfl
    rw [e]
    simp only [Gn,Y1,true_and]
    exact k
  ·simp only [Zv,wRet,Qh,Qc,Ua,env0,List.map_cons,List.map_nil,List.length_cons,List.length_nil,Nat.zero_add,Nat.reduceAdd,List.cons_append,List.nil_append,wNil,Gp,Qu,look,Qi,X1,kcD]
   refine Qek (y:=pr2 (0+3*m,1*(1-2*(m % 2)))) (λQ' hQ=>?_) ?_
   ·simp only [wTup,Qc,wBin,Um,List.map_cons,look,List.map_nil,wC,wNil,List.length_cons,List.length_nil,Nat.zero_add,Nat.reduceAdd,sz2,true_and,Qu,Qi,Int.reduceLT,Qdv,Int.reduceNeg,Qdu,V7,Y0]
    exact hQ
   ·simp only [pr2,Gn,Qm,D.pure,Bool.and_self,true_and]
    exact k
  ·simp only [Zv,wRet,Qh,Qc,Ua,env0,List.map_cons,List.map_nil,List.length_cons,List.length_nil,Nat.zero_add,Nat.reduceAdd,List.cons_append,List.nil_append,wNil,Gp,Qu,look,Qi,X1]
   refine Qel ?_
   simp only [Gn,Qm,true_and]
   exact k
end K70
namespace K70
open PySem PySem.Spec L2 PV
open PyProof.Rows (envOfC)
open V68 Pol Dct
def Ge (l:List Int):Prop:=∀z∈l,2<=z
def fstL:List Int->Option Nat
 | a::b::r=>if a<2 then some 0 else (fstL (b::r)).map (· + 1)
 | _=>none
def wd (pre:List Int) (n r:Int):Str:=if n=1 then w1 else if n = -1 then w2 else if n < -1 then w5 else if pre=[]/\r≠0 then w4 else w3
def nxt (l:List Int):Option (Str × Int):=if l=[0,0] then none else (fstL l).map λk=>(wd (l.take k) (l.getD k 0) (l.getD (k+1) 0),(k:Int))
theorem Qcz {n r:Int} {rs:List Int} (hn:n<2):∀{pre:List Int},Ge pre->fstL (pre++n::r::rs)=some pre.length
 | [],_=>by show (if n<2 then some 0 else _)=_;rw [if_pos hn];rfl
 | [z],h=>by
  show (if z<2 then some 0 else (fstL (n::r::rs)).map (· + 1))=_
  rw [if_neg (by have:=h z List.mem_cons_self;omega)]
  have:=Qcz (n:=n) (r:=r) (rs:=rs) hn (pre:=[]) (λz hz=>nomatch hz)
  rw [List.nil_append] at this
  rw [this];rfl
 | z::y::pre,h=>by
  show (if z<2 then some 0 else (fstL ((y::pre)++n::r::rs)).map (· + 1))=_
  rw [if_neg (by have:=h z List.mem_cons_self;omega),Qcz hn λx hx=>h x (List.mem_cons_of_mem _ hx)]
  rfl
theorem Qgs {c:Int}:∀{pre:List Int},Ge pre->fstL (pre++[c])=none
 | [],_=>rfl
 | [z],h=>by
  show (if z<2 then some 0 else (fstL [c]).map (· + 1))=_
  rw [if_neg (by have:=h z List.mem_cons_self;omega)];rfl
 | z::y::pre,h=>by
  show (if z<2 then some 0 else (fstL ((y::pre)++[c])).map (· + 1))=_
  rw [if_neg (by have:=h z List.mem_cons_self;omega),Qgs λx hx=>h x (List.mem_cons_of_mem _ hx)]
  rfl
theorem X2 {pre rs:List Int} {n r:Int} (h:Ge pre) (hn:n<2) (h0:pre++n::r::rs≠[0,0]):nxt (pre++n::r::rs)=some (wd pre n r,(pre.length:Int)):=by
 unfold nxt
 rw [if_neg h0,Qcz hn h]
 show some (wd ((pre++n::r::rs).take pre.length) _ _,_)=_
 rw [List.take_left,List.getD_eq_getElem?_getD,List.getD_eq_getElem?_getD,List.getElem?_append_right (Nat.le_refl _),List.getElem?_append_right (by omega),Nat.sub_self,show pre.length+1-pre.length=1 by omega]
 rfl
theorem Qgf {pre:List Int} {c:Int} (h:Ge pre):nxt (pre++[c])=none:=by
 unfold nxt
 split
 ·rfl
 ·rw [Qgs h];rfl
theorem Qni:nxt [0,0]=none:=rfl
theorem Qjg:∀{l:List Int},l≠[]->(∃pre c,l=pre++[c]/\Ge pre)\/∃pre n r rs,l=pre++n::r::rs/\Ge pre/\n<2
 | [],h=>absurd rfl h
 | [c],_=>.inl ⟨[],c,rfl,λz hz=>nomatch hz⟩
 | a::b::l,_=>by
  by_cases ha:a<2
  ·exact .inr ⟨[],a,b,l,rfl,(λz hz=>nomatch hz),ha⟩
  ·have cons:∀{pre},Ge pre->Ge (a::pre):=λ{pre} h z hz=>by
    rcases List.mem_cons.mp hz with rfl | hz
    ·omega
    ·exact h z hz
   rcases Qjg (l:=b::l) (by simp) with ⟨pre,c,e,h⟩ | ⟨pre,n,r,rs,e,h,hn⟩
   ·exact .inl ⟨a::pre,c,by rw [e];rfl,cons h⟩
   ·exact .inr ⟨a::pre,n,r,rs,by rw [e];rfl,cons h,hn⟩
def Qkw (q:List Int):Prop:=q=[0,0]\/∃pre c,q=pre++[c]/\Ge pre
theorem X3 {l:List Int} (h0:l≠[]) (h:nxt l=none):Qkw l:=by
 rcases Qjg h0 with h1 | ⟨pre,n,r,rs,e,h1,hn⟩
 ·exact .inr h1
 ·by_cases z:l=[0,0]
  ·exact .inl z
  ·rw [e] at h z
   rw [X2 h1 hn z] at h
   cases h
theorem Qof {pre rs:List Int} {n r:Int} {w:Str}:stpI (pre++n::r::rs) w (pre.length:Int)=stp pre rs n r w:=by
 have hp:plc (pre++n::r::rs) (pre.length:Int)=true:=decide_eq_true ⟨by omega,by simp;omega⟩
 unfold stpI
 rw [if_pos hp,Int.toNat_natCast,List.take_left,List.getD_eq_getElem?_getD,List.getD_eq_getElem?_getD,List.getElem?_append_right (Nat.le_refl _),List.getElem?_append_right (by omega),Nat.sub_self,show pre.length+1-pre.length=1 by omega,
  List.drop_append,List.drop_of_length_le (by omega),show pre.length+2-pre.length=2 by omega]
 rfl
inductive Ez:List Int->List (Str × Int)->List Int->Int->Prop
 | fin {l} (h:nxt l=none) (h0:l≠[]) (hl:l.length<=1800):Ez l [] l 0
 | go {l s ss l' q u v} (h:nxt l=some s) (hs:stpI l s.1 s.2=some (l',u)) (h0:l≠[]) (hl:l.length<=1800) (k:Ez l' ss q v):Ez l (s::ss) q (u+v)
theorem Ez.ldd {l:List Int} {ss:List (Str × Int)} {q:List Int} {v:Int} (h:Ez l ss q v):∀w:Int,K70.ldd l w ss=some (q,w+v):=by
 induction h with
 | fin h h0 hl=>intro w;unfold K70.ldd;rw [Int.add_zero]
 | go h hs h0 hl k ih=>intro w;unfold K70.ldd;rw [hs];show K70.ldd _ _ _=_;rw [ih,Int.add_assoc]
theorem Ez.led {l:List Int} {ss:List (Str × Int)} {q:List Int} {v:Int} (h:Ez l ss q v):M69.Led l q v:=by
 induction h with
 | fin h h0 hl=>exact M69.Led.refl _
 | go h hs h0 hl k ih=>exact (Qin hs).1.trans ih
theorem Ez.end_ {l:List Int} {ss:List (Str × Int)} {q:List Int} {v:Int} (h:Ez l ss q v):nxt q=none/\q≠[]/\q.length<=1800:=by
 induction h with
 | fin h h0 hl=>exact ⟨h,h0,hl⟩
 | go h hs h0 hl k ih=>exact ih
theorem Ez.start {l:List Int} {ss:List (Str × Int)} {q:List Int} {v:Int} (h:Ez l ss q v):l≠[]/\l.length<=1800:=by
 cases h with
 | fin h h0 hl=>exact ⟨h0,hl⟩
 | go h hs h0 hl k=>exact ⟨h0,hl⟩
def Ex (l:List Int) (m:Nat):Prop:=∃ss q v,Ez l ss q v/\ss.length<=m
theorem Ex.mono {l:List Int} {m k:Nat} (h:Ex l m) (hk:m<=k):Ex l k:=by
 obtain ⟨ss,q,v,h1,h2⟩:=h
 exact ⟨ss,q,v,h1,by omega⟩
theorem Qhw {pre rs l':List Int} {n r u:Int} {m:Nat} {w:Str} (h:Ge pre) (hn:n<2) (h0:pre++n::r::rs≠[0,0]) (ew:wd pre n r=w) (hs:stp pre rs n r w=some (l',u)) (hl:pre.length+rs.length+2<=1800) (k:Ex l' m):Ex (pre++n::r::rs) (m+1):=by
 obtain ⟨ss,q,v,h1,h2⟩:=k
 subst ew
 exact ⟨_,q,_,.go (X2 h hn h0) (by rw [Qof];exact hs) (by simp) (by simp;omega) h1,by rw [List.length_cons];omega⟩
theorem ne00 {pre rs:List Int} {n r:Int} (h:Ge pre) (hn:n≠0):pre++n::r::rs≠[0,0]:=λz=>by
 cases pre with
 | nil=>simp at z;omega
 | cons a pre =>
  have:=h a List.mem_cons_self
  simp at z;omega
theorem wd1 {pre:List Int} {r:Int}:wd pre 1 r=w1:=if_pos rfl
theorem wd2 {pre:List Int} {r:Int}:wd pre (-1) r=w2:=rfl
theorem wd5 {pre:List Int} {n r:Int} (hn:n < -1):wd pre n r=w5:=by
 unfold wd
 rw [if_neg (by omega),if_neg (by omega),if_pos hn]
theorem wd3 {pre:List Int} {r:Int} (h:¬(pre=[]/\r≠0)):wd pre 0 r=w3:=by
 unfold wd
 rw [if_neg (by decide),if_neg (by decide),if_neg (by decide),if_neg h]
theorem wd4 {r:Int} (h:r≠0):wd [] 0 r=w4:=by
 unfold wd
 rw [if_neg (by decide),if_neg (by decide),if_neg (by decide),if_pos ⟨rfl,h⟩]
theorem Qj1 {pre rs:List Int} {r:Int} {m:Nat} (h:Ge pre) (hl:pre.length+rs.length+2<=1800) (k:Ex (adj pre (-1)++(r + -1)::rs) m):Ex (pre++1::r::rs) (m+1) :=
 Qhw (u:=if pre=[] then 0 else 1) h (by decide) (ne00 h (by decide)) wd1 (by unfold stp;rw [if_pos rfl,if_pos rfl]) hl k
theorem Qj3 {pre rs:List Int} {r:Int} {m:Nat} (h:Ge pre) (hl:pre.length+rs.length+2<=1800) (k:Ex (adj pre 1++(r+1)::rs) m):Ex (pre ++ -1::r::rs) (m+1) :=
 Qhw (u:=if pre=[] then 0 else -1) h (by decide) (ne00 h (by decide)) wd2 (by unfold stp;rw [if_neg (by decide),if_pos rfl,if_pos rfl]) hl k
theorem Qgt {pre rs:List Int} {n r:Int} {m:Nat} (h:Ge pre) (hn:n < -1) (hl:pre.length+rs.length+2<=1800) (k:Ex (pre++(n+1)::1::(r+1)::rs) m):Ex (pre++n::r::rs) (m+1) :=
 Qhw (u:=-1) h (by omega) (ne00 h (by omega)) (wd5 hn) (by unfold stp;rw [if_neg (by decide),if_neg (by decide),if_neg (by decide),if_neg (by decide),if_pos rfl,if_pos hn];simp) hl k
theorem Qj2 {bs rs:List Int} {z r:Int} {m:Nat} (h:Ge (bs++[z])) (hl:bs.length+rs.length+3<=1800) (k:Ex (bs++(z+r)::rs) m):Ex ((bs++[z])++0::r::rs) (m+1) :=
 Qhw (u:=0) h (by decide) (λe=>by
  have:=congrArg List.length e
  simp at this
  have hz:=h z (by simp)
  omega) (wd3 (by simp)) (by
  unfold stp nou wno
  rw [if_neg (by decide),if_neg (by decide),if_pos rfl,if_pos (by simp),if_neg (by simp),Y2]
  simp) (by simp;omega) k
theorem Qhv {rs:List Int} {m:Nat} (h0:rs≠[]) (hl:rs.length+2<=1800) (k:Ex rs m):Ex (0::0::rs) (m+1) :=
 Qhw (pre:=[]) (u:=0) (λz hz=>nomatch hz) (by decide) (by simpa using h0) (wd3 (by simp)) (by
  unfold stp nou wno
  rw [if_neg (by decide),if_neg (by decide),if_pos rfl,if_pos (by simp [h0]),if_pos rfl]) (by simp;omega) k
theorem Qmd {rs:List Int} {r:Int} {m:Nat} (hr:r≠0) (hl:rs.length+2<=1800) (k:Ex (0::0::rs) m):Ex (0::r::rs) (m+1) :=
 Qhw (pre:=[]) (u:=r) (λz hz=>nomatch hz) (by decide) (by simp [hr]) (wd4 hr) (by
  unfold stp
  rw [if_neg (by decide),if_neg (by decide),if_neg (by decide),if_pos rfl,if_pos ⟨rfl,rfl⟩]) (by simp;omega) k
theorem Qs9 {pre:List Int} {c:Int} (h:Ge pre) (hl:pre.length+1<=1800):Ex (pre++[c]) 0:=⟨[],_,0,.fin (Qgf h) (by simp) (by simp;omega),Nat.le_refl _⟩
theorem Qu0:Ex [0,0] 0:=⟨[],_,0,.fin Qni (by simp) (by simp),Nat.le_refl _⟩
theorem Zh {bs:List Int} {z:Int}:Ge (bs++[z])↔Ge bs/\2<=z:=by
 unfold Ge
 constructor
 ·intro h
  exact ⟨λx hx=>h x (by simp [hx]),h z (by simp)⟩
 ·rintro ⟨h1,h2⟩ x hx
  rcases List.mem_append.mp hx with hx | hx
  ·exact h1 x hx
  ·rw [List.mem_singleton.mp hx];exact h2
theorem Qs4 {a b:List Int} (h1:Ge a) (h2:Ge b):Ge (a++b):=λx hx=>(List.mem_append.mp hx).elim (h1 x) (h2 x)
theorem Qs3 {m:Nat}:Ge (List.replicate m 2):=λx hx=>by rw [(List.mem_replicate.mp hx).2];decide
def sp:List Int->Nat
 | []=>0
 | z::l=>(z-1).toNat+sp l
theorem Xo:∀{a b:List Int},sp (a++b)=sp a+sp b
 | [],b=>by simp [sp]
 | z::a,b=>by rw [List.cons_append,sp,sp,Xo];omega
theorem Qby {z:Int}:sp [z]=(z-1).toNat:=by simp [sp]
theorem Qm4:∀{m:Nat},sp (List.replicate m 2)=m
 | 0=>rfl
 | m+1=>by rw [List.replicate_succ,sp,Qm4];omega
theorem Qf4:∀{l:List Int},Ge l->l.length<=sp l
 | [],_=>Nat.le_refl _
 | z::l,h=>by
  have h1:=h z List.mem_cons_self
  have:=Qf4 (l:=l) λx hx=>h x (List.mem_cons_of_mem _ hx)
  rw [List.length_cons,sp];omega
theorem Qto {pre:List Int} (h:Ge pre):Ge (adj pre 1)/\sp (adj pre 1)<=sp pre+1:=by
 rcases List.eq_nil_or_concat pre with rfl | ⟨bs,z,rfl⟩
 ·exact ⟨h,by rw [Qdb];omega⟩
 ·rw [List.concat_eq_append] at *
  obtain ⟨h1,h2⟩:=Zh.mp h
  rw [Y2,Xo,Xo,Qby,Qby]
  exact ⟨Zh.mpr ⟨h1,by omega⟩,by omega⟩
theorem Qdl {pre:List Int} (h:Ge pre):∀{m:Nat} {tl:List Int} {N:Nat},pre.length+tl.length+m+2<=1800->Ex (adj pre 1++2::(List.replicate m 2++tl)) N->Ex (pre++(-((m:Int)+1))::1::tl) (N+(m+1))
 | 0,tl,N,hl,k=>by
  have:=Qj3 (pre:=pre) (rs:=tl) (r:=1) h (by omega) k
  exact this
 | m+1,tl,N,hl,k=>by
  have e:List.replicate (m+1) 2++tl=List.replicate m 2++(2:Int)::tl:=by
   rw [List.replicate_succ',List.append_assoc];rfl
  rw [e] at k
  have:=Qdl h (m:=m) (tl:=2::tl) (by simp;omega) k
  refine (Qgt (n:=-(((m+1:Nat):Int)+1)) h (by omega) (by omega) ?_).mono (show N+(m+1)+1<=_ by omega)
  rw [show -(((m+1:Nat):Int)+1)+1 = -((m:Int)+1) by omega]
  exact this
theorem ones {rs:List Int} {B N:Nat} (hB:B<=1700) (ih:∀(pre:List Int) (c:Int),Ge pre->sp pre+c.natAbs+tot rs+rs.length<=B->Ex (pre++c::rs) N):∀(k:Nat) (pre:List Int) (r:Int),pre.length=k->Ge pre->sp pre+1+r.natAbs+tot rs+rs.length+1<=B->Ex (pre++1::r::rs) (N+(k+1))
 | 0,pre,r,hk,h,hp=>by
  obtain rfl:pre=[]:=List.eq_nil_of_length_eq_zero hk
  refine Qj1 h (by simp;omega) ?_
  rw [Qdb]
  exact ih [] (r + -1) h (by omega)
 | k+1,pre,r,hk,h,hp=>by
  rcases List.eq_nil_or_concat pre with rfl | ⟨bs,z,rfl⟩
  ·cases hk
  ·rw [List.concat_eq_append] at *
   obtain ⟨h1,h2⟩:=Zh.mp h
   have hl:=Qf4 h
   rw [Xo,Qby] at hp hl
   by_cases hz:z=2
   ·subst hz
    have:=ones hB ih k bs (r + -1) (by simp at hk;exact hk) h1 (by omega)
    refine (Qj1 h (by omega) ?_).mono (show N+(k+1)+1<=_ by omega)
    rw [Y2,List.append_assoc]
    exact this
   ·have:=ih (bs++[z + -1]) (r + -1) (Zh.mpr ⟨h1,by omega⟩) (by rw [Xo,Qby];omega)
    refine (Qj1 h (by omega) ?_).mono (show N+1<=_ by omega)
    rw [Y2]
    exact this
theorem main {B:Nat} (hB:B<=1700):∀(n:Nat) (rest pre:List Int) (c:Int),rest.length<=n->Ge pre->sp pre+c.natAbs+tot rest+rest.length<=B->Ex (pre++c::rest) (n*(B+2))
 | n,[],pre,c,_,h,hp=>(Qs9 h (by have:=Qf4 h;omega)).mono (by omega)
 | 0,r::rs,_,_,hn,_,_=>by simp at hn
 | n+1,r::rs,pre,c,hn,h,hp=>by
  rw [List.length_cons] at hn
  rw [tot,List.length_cons] at hp
  have hl:=Qf4 h
  have ih:=λpre c=>main hB n rs pre c (by omega)
  have e:(n+1)*(B+2)=n*(B+2)+(B+2):=by rw [Nat.succ_mul]
  rw [e]
  by_cases c2:2<=c
  ·have:=ih (pre++[c]) r (Zh.mpr ⟨h,c2⟩) (by rw [Xo,Qby];omega)
   rw [List.append_assoc] at this
   exact this.mono (by omega)
  by_cases c1:c=1
  ·subst c1
   exact (ones hB ih pre.length pre r rfl h (by omega)).mono (by omega)
  by_cases c0:c=0
  ·subst c0
   rcases List.eq_nil_or_concat pre with rfl | ⟨bs,z,rfl⟩
   ·have z0:Ex (0::0::rs) (n*(B+2)+1):=by
     cases rs with
     | nil=>exact Qu0.mono (by omega)
     | cons d rs =>
      rw [List.length_cons,tot] at hp
      rw [List.length_cons] at hn
      exact Qhv (by simp) (by simp;omega) (main hB n rs [] d (by omega) h (by omega))
    by_cases hr:r=0
    ·subst hr;exact z0.mono (by omega)
    ·exact (Qmd hr (by omega) z0).mono (by omega)
   ·rw [List.concat_eq_append] at *
    obtain ⟨h1,h2⟩:=Zh.mp h
    rw [Xo,Qby] at hp hl
    simp at hl
    exact (Qj2 h (by omega) (ih bs (z+r) h1 (by omega))).mono (by omega)
  obtain ⟨a1,a2⟩:=Qto h
  by_cases cm:c = -1
  ·subst cm
   exact (Qj3 h (by omega) (ih (adj pre 1) (r+1) a1 (by omega))).mono (by omega)
  obtain ⟨m,hm⟩:∃m:Nat,c = -((m:Int)+2):=⟨(-c-2).toNat,by omega⟩
  subst hm
  have hm:(-((m:Int)+2)).natAbs=m+2:=by omega
  rw [hm] at hp
  have:=ih (adj pre 1++2::List.replicate m 2) (r+1) (Qs4 a1 (show Ge (List.replicate (m+1) 2) from Qs3)) (by
   rw [Xo,show (2:Int)::List.replicate m 2=List.replicate (m+1) 2 from rfl,Qm4];omega)
  rw [List.append_assoc,List.cons_append] at this
  refine (Qgt h (by omega) (by omega) ?_).mono (show n*(B+2)+(m+1)+1<=_ by omega)
  rw [show -((m:Int)+2)+1 = -((m:Int)+1) by omega]
  exact Qdl h (by simp;omega) this
theorem easy {l:List Int} (h0:l≠[]) (hl:l.length<=10) (ht:tot l<=20):Ex l 350:=by
 cases l with
 | nil=>exact absurd rfl h0
 | cons c rest =>
  rw [tot] at ht
  rw [List.length_cons] at hl
  exact main (B:=30) (by omega) 10 rest [] c (by omega) (λz hz=>nomatch hz) (by simp only [sp];omega) |>.mono (by omega)
abbrev val (l:List Int):Int × Int:=l.foldl V66.step (1,0)
theorem Qce {l:List Int} {c:Int}:val (l++[c])=V66.step (val l) c:=by unfold val;rw [List.foldl_append];rfl
theorem Uy:∀{k:Nat} {l:List Int},l.length=k->Ge l->0<=(val l).2/\(val l).2<(val l).1
 | 0,l,hk,_=>by
  obtain rfl:l=[]:=List.eq_nil_of_length_eq_zero hk
  exact ⟨by decide,by decide⟩
 | k+1,l,hk,h=>by
  rcases List.eq_nil_or_concat l with rfl | ⟨bs,z,rfl⟩
  ·cases hk
  ·rw [List.concat_eq_append] at *
   obtain ⟨h1,h2⟩:=Zh.mp h
   obtain ⟨g1,g2⟩:=Uy (k:=k) (l:=bs) (by simp at hk;exact hk) h1
   rw [Qce]
   generalize val bs=t at *
   obtain ⟨p,b⟩:=t
   have g1:0<=b:=g1
   have g2:b<p:=g2
   rw [V66.Qf3 (by omega)]
   have:2*p<=z*p:=Int.mul_le_mul_of_nonneg_right h2 (by omega)
   exact ⟨by show 0<=p;omega,by show p<z*p-b;omega⟩
theorem Qn4 {t b m:Int} (h1:0<=b) (h2:b<t):V63.up (m*t-b) t=m:=by
 unfold V63.up
 rw [show -(m*t-b)=b+(-m)*t by rw [Int.neg_mul];omega,Int.add_mul_ediv_right _ _ (by omega),Int.ediv_eq_zero_of_lt h1 h2]
 omega
end K70
namespace K70
open PySem PySem.Spec L2 PV
open PyProof.Rows (envOfC)
open V68 Pol Dct
theorem Zn {l:List Int} {c:Int} (h:Ge l):val (l++[c])=(c*(val l).1-(val l).2,(val l).1):=by
 obtain ⟨h1,h2⟩:=Uy rfl h
 rw [Qce]
 generalize val l=t at *
 exact V66.Qf3 (show 0<t.1 by omega) c
theorem Qdh {a b:List Int} {c d:Int} (ha:Ge a) (hb:Ge b) (e:val (a++[c])=val (b++[d])):c=d/\val a=val b:=by
 obtain ⟨h1,h2⟩:=Uy rfl ha
 obtain ⟨g1,g2⟩:=Uy rfl hb
 rw [Zn ha,Zn hb] at e
 have e2:(val a).1=(val b).1:=congrArg Prod.snd e
 have e1:c*(val a).1-(val a).2=d*(val b).1-(val b).2:=congrArg Prod.fst e
 have u1:=Qn4 (m:=c) h1 h2
 have u2:=Qn4 (m:=d) g1 g2
 rw [e1,e2,u2] at u1
 subst u1
 refine ⟨rfl,Prod.ext e2 ?_⟩
 rw [e2] at e1
 omega
theorem Qif:∀{k:Nat} {a b:List Int},a.length=k->Ge a->Ge b->val a=val b->a=b
 | k,a,b,hk,ha,hb,e=>by
  rcases List.eq_nil_or_concat b with rfl | ⟨b',y,rfl⟩
  ·rcases List.eq_nil_or_concat a with rfl | ⟨a',x,rfl⟩
   ·rfl
   ·rw [List.concat_eq_append] at *
    obtain ⟨h1,h2⟩:=Zh.mp ha
    obtain ⟨g1,g2⟩:=Uy rfl h1
    rw [Zn h1] at e
    have e2:(val a').1=0:=congrArg Prod.snd e
    omega
  ·rcases List.eq_nil_or_concat a with rfl | ⟨a',x,rfl⟩
   ·rw [List.concat_eq_append] at *
    obtain ⟨h1,h2⟩:=Zh.mp hb
    obtain ⟨g1,g2⟩:=Uy rfl h1
    rw [Zn h1] at e
    have e2:0=(val b').1:=congrArg Prod.snd e
    omega
   ·simp only [List.concat_eq_append] at *
    cases k with
    | zero=>simp at hk
    | succ k =>
     obtain ⟨h1,h2⟩:=Zh.mp ha
     obtain ⟨g1,g2⟩:=Zh.mp hb
     obtain ⟨rfl,e2⟩:=Qdh h1 g1 e
     rw [Qif (k:=k) (by simpa using hk) h1 g1 e2]
theorem Qie:val [0,0]=(1,0):=by decide
theorem Qhc {a b:List Int} (ha:Qkw a) (hb:Qkw b) (e:val a=val b):a=b:=by
 rcases ha with rfl | ⟨a,c,rfl,ha⟩
 ·rcases hb with rfl | ⟨b,d,rfl,hb⟩
  ·rfl
  ·obtain ⟨g1,g2⟩:=Uy rfl hb
   rw [Zn hb,Qie] at e
   have e2:0=(val b).1:=congrArg Prod.snd e
   omega
 ·rcases hb with rfl | ⟨b,d,rfl,hb⟩
  ·obtain ⟨g1,g2⟩:=Uy rfl ha
   rw [Zn ha,Qie] at e
   have e2:(val a).1=0:=congrArg Prod.snd e
   omega
  ·obtain ⟨rfl,e2⟩:=Qdh ha hb e
   rw [Qif rfl ha hb e2]
theorem Qk0 {l:List Int}:(val l).1.natAbs<=2 ^ tot l/\(val l).2.natAbs<=2 ^ tot l:=by
 suffices h:∀(k:Nat) (l:List Int),l.length=k->(val l).1.natAbs<=2 ^ tot l/\(val l).2.natAbs<=2 ^ tot l from h _ l rfl
 intro k
 induction k with
 | zero =>
  intro l hl
  obtain rfl:l=[]:=List.eq_nil_of_length_eq_zero hl
  exact ⟨by decide,by decide⟩
 | succ k ih =>
  intro l hl
  rcases List.eq_nil_or_concat l with rfl | ⟨b,c,rfl⟩
  ·cases hl
  ·rw [List.concat_eq_append] at *
   obtain ⟨h1,h2⟩:=ih b (by simpa using hl)
   rw [Qce,Jn]
   generalize val b=t at *
   simp only [tot,Nat.add_zero]
   rw [Nat.pow_add]
   have hc:c.natAbs+1<=2 ^ c.natAbs:=Nat.lt_two_pow_self
   have hm:2 ^ tot b*(c.natAbs+1)<=2 ^ tot b*2 ^ c.natAbs:=Nat.mul_le_mul_left _ hc
   have hm2:c.natAbs*t.1.natAbs<=c.natAbs*2 ^ tot b:=Nat.mul_le_mul_left _ h1
   rw [Nat.mul_add,Nat.mul_one,Nat.mul_comm _ c.natAbs] at hm
   have n1:(c*t.1-t.2).natAbs<=(c*t.1).natAbs+t.2.natAbs:=Int.natAbs_sub_le _ _
   rw [Int.natAbs_mul] at n1
   have hp:2 ^ tot b*1<=2 ^ tot b*2 ^ c.natAbs:=Nat.mul_le_mul_left _ (Nat.one_le_two_pow)
   rw [Nat.mul_one] at hp
   unfold V66.step V66.nrmz
   split
   ·exact ⟨by rw [Int.natAbs_neg];omega,by show (-t.1).natAbs<=_;rw [Int.natAbs_neg];omega⟩
   ·exact ⟨by show (c*t.1-t.2).natAbs<=_;omega,by show t.1.natAbs<=_;omega⟩
def Lt (l:List Int):Prop:=l=[]\/∃pre c,l=pre++[c]/\Ge pre
theorem Quu {l:List Int} (h:Ge l):Lt l:=by
 rcases List.eq_nil_or_concat l with rfl | ⟨b,c,rfl⟩
 ·exact .inl rfl
 ·rw [List.concat_eq_append] at *
  exact .inr ⟨b,c,rfl,(Zh.mp h).1⟩
def Za:GA:=λds k=>∃q:List Int,ds=[fr (val q)]/\Qkw q/\q.length<=1800/\(val q).2<=1000000/\k (.lst (I q))
abbrev J1:Stmt:=top 14
theorem J0:FnScope ["fraction","top","bottom","told","number","rest"] ["fraction"] (Qd J1):=⟨rfl,rfl,rfl,by decide +kernel,rfl,by decide +kernel,by decide +kernel⟩
def Xl:Tg:={ own:=λi=>i == 1 || i == 2 || i == 3 || i == 4 || i == 5,io:=[] }
def Xi:WS:=(wSeq (wSet 1 (Qt (wBin dIx (wVar 0) (wC (.int 0)))))
 (wSeq (wSet 2 (Qt (wBin dIx (wVar 0) (wC (.int 1)))))
 (wSeq (wIf (wBl (wBin dEq (wVar 2) (wC (.int 0)))) (wRet (wC (.lst (List.map D.int [0,0])))) Qp)
 (wSeq (wSet 3 (wLst wNil))
 (wSeq (Qbs (wBl (wBin (dCmp λi j=>decide (j<i)) (wVar 2) (wC (.int 0)))) (wSeq (wSet 4 (wUn dNeg (wBin dDiv (wUn dNeg (wVar 1)) (wVar 2))))
 (wSeq (V9 (wMt 3 "list" Vz (Qc (Qt (wVar 4)) wNil)))
 (wSeq (wSet 5 (wBin dSub (wBin dMul (wVar 4) (wVar 2)) (wVar 1)))
 (wSeq (wSet 1 (Qt (wVar 2)))
 (wSet 2 (Qt (wVar 5))))))))
 (wRet (Qh Qp3 (Qc (wVar 3) wNil))))))))
theorem Qer {P:Program} {w:World} {K:PySem.W.Frag} {mg:Str->Option Value} {base:Heap} {f:Addr} (B:Bn K mg):∀(cdv:Value) (A:Around) (outer:List PySem.Env) (s:Shared) (H:Hp) (E:XK),Room 0 (A.deeper (envOfC "least_list" (Qd J1) s.heap.objs.size f cdv))->SVs (cxOf CX0 P w K mg base ["fraction","top","bottom","told","number","rest"] "least_list" (Qd J1) f cdv A outer s H E).nox Xl (Ql J1) Xi:=λcdv A outer s H E hr =>
  (Qf (Q3 (i:=1) (Qx (Jd (Jb (Q5 hr)) (Qa 0) Qe)) J0.nd)
  (Qf (Q3 (i:=2) (Qx (Jd (Jb (Q5 hr)) (Qa 0) Qe)) J0.nd)
  (Qf (Yt (Qq (Yq hr.units) (Qa 2) Qe) (Qj (Qz (Qgu (ns:=[0,0]) B.c_UPRIGHT_LIST B.nb_list))) Q4)
  (Qf (Q3 (i:=3) (Yc Qg) J0.nd)
  (Qf (Qcg PassesOwn.never (Qq Qbk (Qa 2) Qe) (Qf (Q3 (i:=4) (Zs Yl (Qv Qau (Zs Yl (Qa 1)) (Qa 2))) J0.nd)
  (Qf (G7 (Qhx (i:=3) Ug PySem.F.plainAttrs_list PySem.F.slot_list_append PySem.F.type_list_append (Qb (Qx (Qa 4)) Qg)))
  (Qf (Q3 (i:=5) (Qv Y9 (Qv Qat (Qa 4) (Qa 2)) (Qa 1)) J0.nd)
  (Qf (Q3 (i:=1) (Qx (Qa 2)) J0.nd)
  (Qj (Q3 (i:=2) (Qx (Qa 5)) J0.nd)))))))
  (Qj (Qz (Qhy B.nb_reversed B.nb_list (Qb (Qa 3) Qg)))))))))
theorem Qcn {P:Program} {w:World} {K:PySem.W.Frag} {mg:Str->Option Value} {base:Heap} {f:Addr} {fd:FuncData} (F:Fun K "least_list" "least_list" J1 f fd) (B:Bn K mg):FnOk P w K mg base CX0 1 f fd ["fraction"] (spR K Za):=by
 refine Zo (T:=Xl) F J0 rfl (by decide) (λds kk h=>?_) (Qer B) (λds kk h=>?_)
 ·obtain ⟨q,rfl,_⟩:=h
  rfl
 ·obtain ⟨q,rfl,hq,hl,hb,k⟩:=h
  simp only [Xi,wSeq,wSet,Qt,wBin,env0,fr,List.map_cons,List.map_nil,List.length_cons,List.length_nil,Nat.zero_add,Nat.reduceAdd,List.replicate,List.cons_append,List.nil_append,wC,wIf,wRet,Qp,wLst,wNil,sz0,true_and,r_bl,Qu,look,List.set_cons_succ,List.set_cons_zero,Qi,Xa,Vs,List.getElem?_cons_succ,List.getElem?_cons_zero,D.pure,Zr,Qr,Z7]
  rcases hq with rfl | ⟨pre,c,rfl,hp⟩
  ·rw [if_pos (by rw [Qie];rfl)]
   exact k
  ·have h0:=Uy rfl hp
   have e:=Zn (c:=c) hp
   have e2:(val (pre++[c])).2=(val pre).1:=by rw [e]
   rw [if_neg (λz=>by have:=of_decide_eq_true z;omega)]
   generalize hQ:pre++[c]=Q at *
   refine ⟨λn ρ=>∃(rem told:List Int) (o4 o5:Option D),rem.length=n/\Lt rem/\(val rem).2<=1000000/\told++rem.reverse=Q.reverse/\ρ=[some (fr (val Q)),some (.int (val rem).1),some (.int (val rem).2),some (.lst (I told)),o4,o5],⟨_,Q,[],none,none,rfl,.inr ⟨pre,c,hQ.symm,hp⟩,hb,rfl,rfl⟩,?_⟩
   rintro n ρ ⟨rem,told,o4,o5,hn,hr,hb1,ht,rfl⟩
   have htl:told.length+rem.length<=1800:=by
    have:=congrArg List.length ht
    rw [List.length_append,List.length_reverse,List.length_reverse] at this
    omega
   simp only [fr,wSeq,wSet,wUn,wBin,V9,wMt,Qc,Qt,wNil,Qu,wRet,Qh,r_bl,wC,look,List.set_cons_succ,List.set_cons_zero,Qdr,BEq.rfl,Qi,D.pure,true_and,Qe3,Zq,Qld,Z3,Qr]
   rcases hr with rfl | ⟨bs,x,rfl,hbs⟩
   ·rw [if_neg (show ¬decide (0<(val []).2)=true by decide)]
    simp only [pI,true_and]
    rw [← List.map_reverse]
    rw [List.reverse_nil,List.append_nil] at ht
    rw [ht,List.reverse_reverse]
    exact k
   ·obtain ⟨g1,g2⟩:=Uy rfl hbs
    have e:=Zn (c:=x) hbs
    rw [e] at hb1 ⊢
    have g3:0<(val bs).1:=by omega
    have hb2:(val bs).1<1073741824:=by dsimp only at hb1;omega
    have hb3:-18446744073709551616<(val bs).1:=by omega
    have hb4:(val bs).1<18446744073709551616:=by omega
    have hup:-(-(x*(val bs).1-(val bs).2) / (val bs).1)=x:=Qn4 (m:=x) g1 g2
    rw [if_pos (decide_eq_true g3)]
    have her:x*(val bs).1-(x*(val bs).1-(val bs).2)=(val bs).2:=by omega
    simp only [List.length_map,g3,hb2,Qdx,Zq,D.pure,hup,Int.reduceNeg,hb3,hb4,Qna,V7,her,true_and]
    rw [List.length_append] at htl hn
    refine ⟨Yd (by omega),bs.length,by simp at hn;omega,bs,told++[x],some (.int x),some (.int (val bs).2),rfl,Quu hbs,by dsimp only at hb1;omega,?_,?_⟩
    ·rw [List.reverse_append] at ht
     rw [List.append_assoc];exact ht
    ·rw [show I (told++[x])=I told++[D.int x] by simp]
def nxD:Option (Str × Int)->D
 | none=>.non
 | some s=>stD s
def Uk:GA:=λds k=>∃(pre rs:List Int) (n r:Int),ds=[.lst (I pre ++ .int n :: .int r::I rs),.int pre.length]/\n<2/\k (.str (wd pre n r))
abbrev Zd:Stmt:=top 15
theorem Qb0:FnScope ["twists","at","number"] ["twists","at"] (Qd Zd):=⟨rfl,rfl,rfl,by decide +kernel,rfl,by decide +kernel,by decide +kernel⟩
def Qdi:Tg:={ own:=λi=>i == 2,io:=[] }
def Qdd:WS:=(wSeq (wSet 2 (Qt (wBin dIx (wVar 0) (wVar 1))))
 (wSeq (wIf (wBl (wBin dEq (wVar 2) (wC (.int 1)))) (wRet (wC (.str (Str.ofString "one")))) Qp)
 (wSeq (wIf (wBl (wBin dEq (wVar 2) (wUn dNeg (wC (.int 1))))) (wRet (wC (.str (Str.ofString "less")))) Qp)
 (wSeq (wIf (wBl (wBin (dCmp λi j=>decide (i<j)) (wVar 2) (wUn dNeg (wC (.int 1))))) (wRet (wC (.str (Str.ofString "split")))) Qp)
 (wRet (wIfE (wAnd (wBl (wBin dEq (wVar 1) (wC (.int 0)))) (wBl (wBin dNe (wBin dIx (wVar 0) (wC (.int 1))) (wC (.int 0))))) (wC (.str (Str.ofString "loose"))) (wC (.str (Str.ofString "nought")))))))))
theorem Qks {P:Program} {w:World} {K:PySem.W.Frag} {mg:Str->Option Value} {base:Heap} {f:Addr} (B:Bn K mg):∀(cdv:Value) (A:Around) (outer:List PySem.Env) (s:Shared) (H:Hp) (E:XK),Room 0 (A.deeper (envOfC "word_at" (Qd Zd) s.heap.objs.size f cdv))->SVs (cxOf CX0 P w K mg base ["twists","at","number"] "word_at" (Qd Zd) f cdv A outer s H E).nox Qdi (Ql Zd) Qdd:=λcdv A outer s H E hr =>
  (Qf (Q3 (i:=2) (Qx (Jd (Jb (Q5 hr)) (Qa 0) (Qa 1))) Qb0.nd)
  (Qf (Yt (Qq (Yq hr.units) (Qa 2) Qe) (Qj (Qz Ys)) Q4)
  (Qf (Yt (Qq (Yq hr.units) (Qa 2) (Zs Yl Qe)) (Qj (Qz Ys)) Q4)
  (Qf (Yt (Qq Qcr (Qa 2) (Zs Yl Qe)) (Qj (Qz Ys)) Q4)
  (Qj (Qz (Qmf (J7 (Zc (Qq (Yq hr.units) (Qa 1) Qe) (Zf (Qq (Qcq hr.units) (Jd (Jb (Q5 hr)) (Qa 0) Qe) Qe)))) Ys Ys)))))))
theorem Qhm {P:Program} {w:World} {K:PySem.W.Frag} {mg:Str->Option Value} {base:Heap} {f:Addr} {fd:FuncData} (F:Fun K "word_at" "word_at" Zd f fd) (B:Bn K mg):FnOk P w K mg base CX0 1 f fd ["twists","at"] (spR K Uk):=by
 refine Zo (T:=Qdi) F Qb0 rfl (by decide) (λds kk h=>?_) (Qks B) (λds kk h=>?_)
 ·obtain ⟨pre,rs,n,r,rfl,_⟩:=h
  rfl
 ·obtain ⟨pre,rs,n,r,rfl,hn,k⟩:=h
  have a0:L2.atI (I pre++D.int n::D.int r::I rs) (pre.length:Int)=some (.int n):=by
   have e1:(pre.length:Int)=((I pre).length:Int):=by simp
   rw [e1,at0]
  simp only [Qdd,wSeq,wSet,Qt,wBin,env0,List.map_cons,List.map_nil,List.length_cons,List.length_nil,Nat.zero_add,Nat.reduceAdd,List.replicate,List.cons_append,List.nil_append,wIf,wRet,wC,Qp,wIfE,wAnd,r_bl,Qu,Bool.false_eq_true,reduceIte,wUn,Zq,Int.reduceNeg,look,List.set_cons_succ,List.set_cons_zero,Qi,Yz,Vs,Zr,Qr,a0,D.pure,Z3,true_and]
  unfold wd at k
  refine Jg (λh1=>?_) λh1=>?_
  ·rwa [if_pos h1] at k
  rw [if_neg h1] at k
  refine Jg (λh2=>?_) λh2=>?_
  ·rwa [if_pos h2] at k
  rw [if_neg h2] at k
  refine Jg (λh3=>?_) λh3=>?_
  ·rwa [if_pos h3] at k
  rw [if_neg h3] at k
  refine Jg (λh4=>?_) λh4=>?_
  ·obtain rfl:pre=[]:=List.eq_nil_of_length_eq_zero (by omega)
   show dNe (D.int r) (D.int 0) λd=>blOf d λb=>if b=true then _ else _
   simp only [Qhh,Qr]
   by_cases hr:r=0
   ·rw [if_neg (by simp [hr])] at k ⊢
    exact k
   ·rw [if_pos (by simp [hr])] at k
    rw [if_pos (by simp [hr])]
    exact k
  ·rw [if_neg (λz=>h4 (by rw [z.1];rfl))] at k
   exact k
theorem Qm8 {lo:Int} {n i:Nat} {d:D} (hd:(rngD lo n)[i]? = some d):i<n/\d=.int (lo+(i:Int)):=by
 rw [rngD,List.getElem?_map] at hd
 obtain ⟨c,hc,hd⟩:=Option.map_eq_some_iff.mp hd
 obtain ⟨h,e⟩:=List.getElem?_eq_some_iff.mp hc
 rw [List.length_range] at h
 rw [List.getElem_range] at e
 subst e
 exact ⟨by omega,hd.symm⟩
theorem Qg6 {l:List Int} {i:Nat} (h:i+1<l.length):∃n r rs,l=l.take i++n::r::rs/\(l.take i).length=i:=by
 refine ⟨l[i],l[i+1],l.drop (i+2),?_,by rw [List.length_take];omega⟩
 conv=>lhs;rw [← List.take_append_drop i l]
 congr 1
 rw [List.drop_eq_getElem_cons (by omega),List.drop_eq_getElem_cons h]
theorem Qjw {l:List Int} {i:Nat} {n r:Int} {rs:List Int} (h:Ge (l.take i)) (e:l=l.take i++n::r::rs) (hl:(l.take i).length=i) (hn:¬n<2):Ge (l.take (i+1)):=by
 have:l[i]? = some n:=by rw [e,List.getElem?_append_right (by omega),hl,Nat.sub_self];rfl
 rw [List.take_add_one,this]
 exact Zh.mpr ⟨h,by omega⟩
theorem Qnq {l:List Int} (h0:l≠[]) (h:Ge (l.take (l.length-1))):nxt l=none:=by
 rcases List.eq_nil_or_concat l with rfl | ⟨b,c,rfl⟩
 ·exact absurd rfl h0
 ·rw [List.concat_eq_append] at *
  rw [List.length_append] at h
  simp at h
  exact Qgf h
def Y7:GA:=λds k=>∃l:List Int,ds=[.lst (I l)]/\l≠[]/\l.length<=1902/\k (nxD (nxt l))
abbrev Ye:Stmt:=top 16
theorem Xp:FnScope ["twists","at"] ["twists"] (Qd Ye):=⟨rfl,rfl,rfl,by decide +kernel,rfl,by decide +kernel,by decide +kernel⟩
def Qab:Tg:={ own:=λi=>i == 1,io:=[] }
def X5:WS:=(wSeq (wIf (wBl (wBin dEq (wVar 0) (wC (.lst (List.map D.int [0,0]))))) (wRet (wC .non)) Qp)
 (wSeq (wFor (Qha (Qc (wBin dSub (Qh dLen (Qc (wVar 0) wNil)) (wC (.int 1))) wNil)) (gN 1) (wIf (wBl (wBin (dCmp λi j=>decide (i<j)) (wBin dIx (wVar 0) (wVar 1)) (wC (.int 2)))) (wRet (wTup (Qc (Qh Uk (Qc (wVar 0) (Qc (wVar 1) wNil))) (Qc (Qt (wVar 1)) wNil)))) Qp))
 (wRet (wC .non))))
theorem Qfp {P:Program} {w:World} {K:PySem.W.Frag} {mg:Str->Option Value} {base:Heap} {f:Addr} (B:Bn K mg) (C_word_at:Cal P w K mg base "word_at" 1 ["twists","at"] (spR K Uk)):∀(cdv:Value) (A:Around) (outer:List PySem.Env) (s:Shared) (H:Hp) (E:XK),Room 1 (A.deeper (envOfC "next_step" (Qd Ye) s.heap.objs.size f cdv))->SVs (cxOf CX0 P w K mg base ["twists","at"] "next_step" (Qd Ye) f cdv A outer s H E).nox Qab (Ql Ye) X5:=λcdv A outer s H E hr =>
  (Qf (Yt (Qq (Yq hr.units) (Qa 0) (Qgu (ns:=[0,0]) B.c_UPRIGHT_LIST B.nb_list)) (Qj (Qz Qa3)) Q4)
  (Qf (Gk PassesOwn.never (Qa0 B.nb_range (Qb (Qv Y9 (Ji Vp B.nb_len Vq (Qb (Qa 0) Qg)) Qe) Qg)) (Yw (i:=1) Xp.nd) (Qj (Yt (Qq Qcr (Jd (Jb (Q5 hr)) (Qa 0) (Qa 1)) Qe) (Qj (Qz (Jy (Qb (Qo C_word_at (hr.mono (by decide)) (Qb (Qa 0) (Qb (Qa 1) Qg))) (Qb (Qx (Qa 1)) Qg))))) Q4)))
  (Qj (Qz Qa3))))
theorem Qd4 {P:Program} {w:World} {K:PySem.W.Frag} {mg:Str->Option Value} {base:Heap} {f:Addr} {fd:FuncData} (F:Fun K "next_step" "next_step" Ye f fd) (B:Bn K mg) (C1:Cal P w K mg base "word_at" 1 ["twists","at"] (spR K Uk)):FnOk P w K mg base CX0 2 f fd ["twists"] (spR K Y7):=by
 refine Zo (T:=Qab) F Xp rfl (by decide) (λds kk h=>?_) (Qfp B C1) (λds kk h=>?_)
 ·obtain ⟨l,rfl,_⟩:=h
  rfl
 ·obtain ⟨l,rfl,h0,hl,k⟩:=h
  have hI:(I l).length=l.length:=by simp
  have hpos:0<l.length:=List.length_pos_iff.mpr h0
  simp only [X5,wSeq,wIf,List.map_cons,List.map_nil,env0,List.length_cons,List.length_nil,Nat.zero_add,Nat.reduceAdd,List.replicate,List.cons_append,List.nil_append,wRet,wC,Qp,Qbg,Qiv,Qc,wBin,Qh,wNil,Qu,r_bl,look,Qi,Qal,V7,Qe2,Int.reducePow,Int.reduceNeg,Qdw,Qr,reduceIte,Bool.false_eq_true]
  refine ⟨eq9,rfl,λe=>?_,λe=>?_⟩
  ·have:l=[0,0]:=by
    have:=D.lst.inj e
    exact (List.map_inj_right λ_ _ h=>D.int.inj h).mp this
   rw [this,Qni] at k
   exact k
  ·have e:l≠[0,0]:=λz=>e (by rw [z];rfl)
   simp only [Int.reduceNeg,hI,Qan,true_and]
   refine ⟨by omega,by omega,λi ρ=>∃o1:Option D,i<=l.length-1/\Ge (l.take i)/\ρ=[some (.lst (I l)),o1],⟨none,by omega,(λz hz=>nomatch hz),rfl⟩,?_,?_⟩
   ·rintro i d ρ hd ⟨o1,hi,hg,rfl⟩
    obtain ⟨hi2,rfl⟩:=Qm8 hd
    obtain ⟨n,r,rs,el,hlen⟩:=Qg6 (l:=l) (i:=i) (by omega)
    have el2:I l=I (l.take i) ++ .int n :: .int r::I rs:=by
     conv=>lhs;rw [el]
     simp
    have a0:L2.atI (I (l.take i)++D.int n::D.int r::I rs) ((l.take i).length:Int)=some (.int n):=by
     have e1:((l.take i).length:Int)=((I (l.take i)).length:Int):=by simp
     rw [e1,at0]
    have ei:(0:Int)+(i:Int)=((l.take i).length:Int):=by rw [hlen];omega
    simp only [gN,wIf,el2,ei,List.set_cons_succ,List.set_cons_zero,wRet,wTup,Qc,Qh,wNil,Qt,List.length_cons,List.length_nil,Nat.zero_add,Nat.reduceAdd,sz2,true_and,Qu,Qp,r_bl,wBin,wC,look,Qi,D.pure,Yz,a0,Z3,Qr]
    refine Jg (λhn=>?_) λhn=>?_
    ·refine ⟨l.take i,rs,n,r,rfl,hn,?_⟩
     have hx:=X2 (r:=r) (rs:=rs) hg hn (by rw [← el];exact e)
     rw [← el] at hx
     rw [hx] at k
     exact k
    ·exact ⟨_,by omega,Qjw hg el hlen hn,rfl⟩
   ·rintro ρ ⟨o1,hi,hg,rfl⟩
    simp only [wRet,wC]
    have:(rngD 0 ((l.length:Int)-1).toNat).length=l.length-1:=by rw [rngD,List.length_map,List.length_range];omega
    rw [this] at hg
    rw [Qnq h0 hg] at k
    exact k
end K70
namespace K70
open PySem PySem.Spec L2 PV
open PyProof.Rows (envOfC)
open V68 Pol Dct
theorem isN1 {k:D->Prop}:dIs true .non .non k=k (.bl false):=rfl
theorem isO1 {xs:List D} {k:D->Prop}:dIs true (.tup xs) .non k=k (.bl true):=rfl
def Yr:GA:=λds k=>∃(l:List Int) (ss:List (Str × Int)) (q:List Int) (v:Int),(ds=[.lst (I l)]\/ds=[.kls (I l)])/\Ez l ss q v/\ss.length<=400/\k (.tup [.lst (ss.map stD),.lst (I q)])
abbrev Vw:Stmt:=top 17
theorem Uq:FnScope ["twists","told","steps","after"] ["twists"] (Qd Vw):=⟨rfl,rfl,rfl,by decide +kernel,rfl,by decide +kernel,by decide +kernel⟩
def Qil:Tg:={ own:=λi=>i == 1 || i == 2 || i == 3,io:=[] }
def Qew:WS:=(wSeq (wSet 1 (Qh Vg (Qc (wVar 0) wNil)))
 (wSeq (wSet 2 (wLst wNil))
 (wSeq (wSet 3 (Qh Y7 (Qc (wVar 1) wNil)))
 (wSeq (Qbs (wBl (wBin (dIs true) (wVar 3) (wC .non))) (wSeq (V9 (wMt 2 "list" Vz (Qc (Qt (wVar 3)) wNil)))
 (wSeq (wSet 1 (wBin dIx (Qh (Qc5 Gx) (Qc (wVar 1) (Qc (wVar 3) wNil))) (wC (.int 0))))
 (wSet 3 (Qh Y7 (Qc (wVar 1) wNil))))))
 (Qh9 2 1)))))
theorem Qqb {P:Program} {w:World} {K:PySem.W.Frag} {mg:Str->Option Value} {base:Heap} {f:Addr} (B:Bn K mg) (C_step:CalX P w K mg base "step" 3 ["twists","step"] (spX K Gx)) (C_next_step:Cal P w K mg base "next_step" 2 ["twists"] (spR K Y7)):∀(cdv:Value) (A:Around) (outer:List PySem.Env) (s:Shared) (H:Hp) (E:XK),Room 3 (A.deeper (envOfC "eased" (Qd Vw) s.heap.objs.size f cdv))->SVs (cxOf CX0 P w K mg base ["twists","told","steps","after"] "eased" (Qd Vw) f cdv A outer s H E).nox Qil (Ql Vw) Qew:=λcdv A outer s H E hr =>
  (Qf (Q3 (i:=1) (Jm Z5 B.nb_list Z6 (Qb (Qa 0) Qg)) Uq.nd)
  (Qf (Q3 (i:=2) (Yc Qg) Uq.nd)
  (Qf (Q3 (i:=3) (Qo C_next_step (hr.mono (by decide)) (Qb (Qa 1) Qg)) Uq.nd)
  (Qf (Qcg PassesOwn.never (Qq Qge (Qa 3) Qa3) (Qf (G7 (Qhx (i:=2) Ug PySem.F.plainAttrs_list PySem.F.slot_list_append PySem.F.type_list_append (Qb (Qx (Qa 3)) Qg)))
  (Qf (Q3 (i:=1) (Jd (Jb (Q5 hr)) (Qo C_step.calm (hr.mono (by decide)) (Qb (Qa 1) (Qb (Qa 3) Qg))) Qe) Uq.nd)
  (Qj (Q3 (i:=3) (Qo C_next_step (hr.mono (by decide)) (Qb (Qa 1) Qg)) Uq.nd)))))
  (Qj (Qod (i:=2) (j:=1)))))))
theorem Qdp {kk:D->Prop} {d0:D} {l:List Int} {ss:List (Str × Int)} {q:List Int} {v:Int} (h:Ez l ss q v) (hs:ss.length<=400) (k:kk (.tup [.lst (ss.map stD),.lst (I q)])) (nx0:PV.Env->Prop) :
  ∃J:Nat->PV.Env->Prop,(∃n,J n [some d0,some (.lst (I l)),some (.lst []),some (nxD (nxt l))])/\∀n ρ,J n ρ->wBl (wBin (dIs true) (wVar 3) (wC .non)) ρ λb ρ1=>if b=true then (wSeq (V9 (wMt 2 "list" Vz (Qc (Qt (wVar 3)) wNil)))
 (wSeq (wSet 1 (wBin dIx (Qh (Qc5 Gx) (Qc (wVar 1) (Qc (wVar 3) wNil))) (wC (.int 0))))
 (wSet 3 (Qh Y7 (Qc (wVar 1) wNil))))) { nx:=λρ'=>∃n',n' < n/\J n' ρ',rt:=λd ρ=>kk d } ρ1 else Qh9 2 1 { nx:=nx0,rt:=λd ρ=>kk d } ρ1:=by
 refine ⟨λn ρ=>∃(l':List Int) (s1 s2:List (Str × Int)) (v':Int),ss=s1++s2/\Ez l' s2 q v'/\s2.length=n/\ρ=[some d0,some (.lst (I l')),some (.lst (s1.map stD)),some (nxD (nxt l'))],⟨_,l,[],ss,v,rfl,h,rfl,rfl⟩,?_⟩
 rintro n ρ ⟨l',s1,s2,v',rfl,hz,hn,rfl⟩
 cases hz with
 | fin h1 h0 hl =>
  simp only [nxD,h1,wSeq,V9,wMt,Qc,Qt,wNil,wSet,wBin,Qh,Qc5,wC,Qu,Qh9,r_bl,look,Qdr,BEq.rfl,List.set_cons_succ,List.set_cons_zero,Qi,Qe3,D.pure,true_and,isN1,Qr,Bool.false_eq_true,reduceIte]
  rw [List.append_nil] at k
  exact k
 | go h1 h2 h0 hl hz =>
  rename_i s ss l2 u v2
  rw [List.length_append,List.length_cons] at hs
  have b0:=hz.start
  simp only [nxD,h1,stD,wSeq,V9,wMt,Qc,Qt,wNil,wSet,wBin,Qh,Qc5,wC,Qu,Qh9,r_bl,look,Qdr,BEq.rfl,List.set_cons_succ,List.set_cons_zero,Qi,Qe3,List.length_map,D.pure,Qm,Bool.and_self,true_and,isO1,Qr,reduceIte]
  refine ⟨Yd (by omega),l',s.1,s.2,rfl,by omega,?_⟩
  rw [h2]
  simp only [Xa,Z7,List.getElem?_cons_zero,Qi]
  refine ⟨l2,rfl,b0.1,by omega,ss.length,by simp at hn;omega,l2,s1++[s],ss,v2,by simp,hz,rfl,?_⟩
  rw [List.map_append];rfl
theorem Ql0 {P:Program} {w:World} {K:PySem.W.Frag} {mg:Str->Option Value} {base:Heap} {f:Addr} {fd:FuncData} (F:Fun K "eased" "eased" Vw f fd) (B:Bn K mg) (C1:CalX P w K mg base "step" 3 ["twists","step"] (spX K Gx)) (C2:Cal P w K mg base "next_step" 2 ["twists"] (spR K Y7)):FnOk P w K mg base CX0 4 f fd ["twists"] (spR K Yr):=by
 refine Zo (T:=Qil) F Uq rfl (by decide) (λds kk h=>?_) (Qqb B C1 C2) (λds kk h=>?_)
 ·obtain ⟨l,ss,q,v,rfl | rfl,_⟩:=h
  ·rfl
  ·rfl
 ·obtain ⟨l,ss,q,v,hd,hz,hs,k⟩:=h
  have b0:=hz.start
  rcases hd with rfl | rfl
  ·simp only [Qew,env0,rowD,List.length_cons,List.length_nil,List.map_cons,List.map_nil,List.cons_append,List.nil_append,List.replicate,wSeq,wSet,Qh,Qc,wNil,Qu,Qcj,wLst,Qi,look,List.set_cons_zero,List.set_cons_succ,List.getElem?_cons_zero,List.getElem?_cons_succ,pI,true_and,Qbs]
   exact ⟨Nat.zero_le _,l,rfl,b0.1,by omega,Qdp hz hs k _⟩
  ·simp only [Qew,env0,rowD,List.length_cons,List.length_nil,List.map_cons,List.map_nil,List.cons_append,List.nil_append,List.replicate,wSeq,wSet,Qh,Qc,wNil,Qu,Qak,wLst,Qi,look,List.set_cons_zero,List.set_cons_succ,List.getElem?_cons_zero,List.getElem?_cons_succ,pI,true_and,Qbs]
   exact ⟨Nat.zero_le _,l,rfl,b0.1,by omega,Qdp hz hs k _⟩
end K70
namespace K70
open PySem PySem.Spec L2 PV
open PyProof.Rows (envOfC)
open V68 Pol Dct
theorem cut0 {P R:List D} {x y:D}:cutD (P++x::y::R) (some (P.length:Int)) none=x::y::R:=by
 rw [Us (by simp),List.drop_append,List.drop_of_length_le (by omega),Nat.sub_self];rfl
def Z0:GA:=λds k=>∃l:List Int,ds=[.kls (I l)]/\l≠[]/\l.length<=1902/\k (nxD (nxt l))
theorem inx {n:Int} {k:D->Prop} (hn:n<2) (h:∀i:Nat,L2.atI [D.str w3,.str w1,.str w2,.str w5] (i:Int)=some (.str (if n=0 then w3 else wd [] n 0))->k (.int i)):Qej (.lst [.int 0,.int 1,.int (-1),.int n]) [.int n] k:=by
 show ∃(ns:List Int) (i:Nat),[D.int 0,.int 1,.int (-1),.int n]=ns.map D.int/\ns[i]? = some n/\(∀j,j<i->ns[j]? ≠ some n)/\k (.int i)
 refine ⟨[0,1,-1,n],?_⟩
 by_cases h0:n=0
 ·subst h0
  exact ⟨0,rfl,rfl,λj hj=>absurd hj (Nat.not_lt_zero _),h 0 rfl⟩
 by_cases h1:n=1
 ·subst h1
  refine ⟨1,rfl,rfl,λj hj=>?_,h 1 rfl⟩
  obtain rfl:j=0:=by omega
  decide
 by_cases h2:n = -1
 ·subst h2
  refine ⟨2,rfl,rfl,λj hj=>?_,h 2 rfl⟩
  obtain rfl | rfl:j=0\/j=1:=by omega
  ·decide
  ·decide
 refine ⟨3,rfl,rfl,λj hj=>?_,h 3 ?_⟩
 ·obtain rfl | rfl | rfl:j=0\/j=1\/j=2:=by omega
  ·show some (0:Int)≠some n;intro z;cases z;exact h0 rfl
  ·show some (1:Int)≠some n;intro z;cases z;exact h1 rfl
  ·show some (-1:Int)≠some n;intro z;cases z;exact h2 rfl
 ·rw [if_neg h0,wd5 (by omega)];rfl
theorem Qqc {pre:List Int} {n r:Int} (hn:n<2) (h:¬(n=0/\pre=[]/\r≠0)):(if n=0 then w3 else wd [] n 0)=wd pre n r:=by
 split
 ·rename_i z
  subst z
  rw [wd3 λy=>h ⟨rfl,y⟩]
 ·rename_i z
  unfold wd
  split
  ·rfl
  split
  ·rfl
  split
  ·rfl
  ·omega
abbrev Yi:Stmt:=top 37
theorem Ud:FnScope ["_law_twists_here","_law_at","_law_number"] ["_law_twists_here"] (Qd Yi):=⟨rfl,rfl,rfl,by decide +kernel,rfl,by decide +kernel,by decide +kernel⟩
def Qaf:Tg:={ own:=λi=>i == 1 || i == 2,io:=[] }
def X9:WS:=(wSeq (wFor (Qha (Qc (wBin dSub (Qh dLen (Qc (wVar 0) wNil)) (wC (.int 1))) wNil)) (gN 1) (wSeq (wSet 2 (Qt (wBin dIx (wVar 0) (wVar 1))))
 (wSeq (wIf (wAnd (wBl (wBin dEq (wVar 2) (wC (.int 0)))) (wAnd (wBl (wBin dEq (wVar 1) (wC (.int 0)))) (wBl (wBin dNe (wBin dIx (wVar 0) (wC (.int 1))) (wC (.int 0)))))) (wRet (wTup (Qc (wC (.str (Str.ofString "loose"))) (Qc (wC (.int 0)) wNil)))) Qp)
 (wIf (wAnd (wBl (wBin (dCmp λi j=>decide (i<j)) (wVar 2) (wC (.int 2)))) (wOr (wBl (wBin dNe (wSlT (wVar 0) (J6 (wVar 1)) Jc) (wLst (Qc (wC (.int 0)) (Qc (wC (.int 0)) wNil))))) (wBl (wBin (dCmp λi j=>decide (j<i)) (wVar 1) (wC (.int 0)))))) (wRet (wTup (Qc (wBin dIx (wLst (Qc (wC (.str (Str.ofString "nought"))) (Qc (wC (.str (Str.ofString "one"))) (Qc (wC (.str (Str.ofString "less"))) (Qc (wC (.str (Str.ofString "split"))) wNil))))) (Qbt (wLst (Qc (wC (.int 0)) (Qc (wC (.int 1)) (Qc (wUn dNeg (wC (.int 1))) (Qc (Qt (wVar 2)) wNil))))) (Qc (wVar 2) wNil))) (Qc (Qt (wVar 1)) wNil)))) Qp))))
 (wRet (wC .non)))
theorem Qft {P:Program} {w:World} {K:PySem.W.Frag} {mg:Str->Option Value} {base:Heap} {f:Addr} (B:Bn K mg):∀(cdv:Value) (A:Around) (outer:List PySem.Env) (s:Shared) (H:Hp) (E:XK),Room 0 (A.deeper (envOfC "_law_next" (Qd Yi) s.heap.objs.size f cdv))->SVs (cxOf CX0 P w K mg base ["_law_twists_here","_law_at","_law_number"] "_law_next" (Qd Yi) f cdv A outer s H E).nox Qaf (Ql Yi) X9:=λcdv A outer s H E hr =>
  (Qf (Gk PassesOwn.never (Qa0 B.nb_range (Qb (Qv Y9 (Ji Vp B.nb_len Vq (Qb (Qa 0) Qg)) Qe) Qg)) (Yw (i:=1) Ud.nd) (Qf (Q3 (i:=2) (Qx (Jd (Jb (Q5 hr)) (Qa 0) (Qa 1))) Ud.nd)
  (Qf (Yt (J7 (Zc (Qq (Yq hr.units) (Qa 2) Qe) (Zc (Qq (Yq hr.units) (Qa 1) Qe) (Zf (Qq (Qcq hr.units) (Jd (Jb (Q5 hr)) (Qa 0) Qe) Qe))))) (Qj (Qz (Jy (Qb Ys (Qb Qe Qg))))) Q4)
  (Qj (Yt (J7 (Zc (Qq Qcr (Qa 2) Qe) (Zf (J7 (Qfo (Qq (Qcq hr.units) (Ym (Qa 0) (Jo (Qa 1)) Jp) (Yc (Qb Qe (Qb Qe Qg)))) (Qb8 (Qq Qbk (Qa 1) Qe))))))) (Qj (Qz (Jy (Qb (Jd (Jb (Q5 hr)) (Yc (Qb Ys (Qb Ys (Qb Ys (Qb Ys Qg))))) (Qme (Yc (Qb Qe (Qb Qe (Qb (Zs Yl Qe) (Qb (Qx (Qa 2)) Qg))))) (Qb (Qa 2) Qg))) (Qb (Qx (Qa 1)) Qg))))) Q4)))))
  (Qj (Qz Qa3)))
def N1:WS:=(wIf (wAnd (wBl (wBin (dCmp λi j=>decide (i<j)) (wVar 2) (wC (.int 2)))) (wOr (wBl (wBin dNe (wSlT (wVar 0) (J6 (wVar 1)) Jc) (wLst (Qc (wC (.int 0)) (Qc (wC (.int 0)) wNil))))) (wBl (wBin (dCmp λi j=>decide (j<i)) (wVar 1) (wC (.int 0)))))) (wRet (wTup (Qc (wBin dIx (wLst (Qc (wC (.str (Str.ofString "nought"))) (Qc (wC (.str (Str.ofString "one"))) (Qc (wC (.str (Str.ofString "less"))) (Qc (wC (.str (Str.ofString "split"))) wNil))))) (Qbt (wLst (Qc (wC (.int 0)) (Qc (wC (.int 1)) (Qc (wUn dNeg (wC (.int 1))) (Qc (Qt (wVar 2)) wNil))))) (Qc (wVar 2) wNil))) (Qc (Qt (wVar 1)) wNil)))) Qp)
theorem Qph:X9=(wSeq (wFor (Qha (Qc (wBin dSub (Qh dLen (Qc (wVar 0) wNil)) (wC (.int 1))) wNil)) (gN 1) (wSeq (wSet 2 (Qt (wBin dIx (wVar 0) (wVar 1))))
 (wSeq (wIf (wAnd (wBl (wBin dEq (wVar 2) (wC (.int 0)))) (wAnd (wBl (wBin dEq (wVar 1) (wC (.int 0)))) (wBl (wBin dNe (wBin dIx (wVar 0) (wC (.int 1))) (wC (.int 0)))))) (wRet (wTup (Qc (wC (.str (Str.ofString "loose"))) (Qc (wC (.int 0)) wNil)))) Qp)
 N1)))
 (wRet (wC .non))):=rfl
section
variable {P:EndsP} {pre rs:List Int} {n r:Int}
theorem Qus (hn:n<2) (h0:pre++n::r::rs≠[0,0]) (hx:¬(n=0/\pre=[]/\r≠0)) (k:P.rt (.tup [.str (wd pre n r),.int pre.length]) [some (.kls (I pre ++ .int n :: .int r::I rs)),some (.int pre.length),some (.int n)]):N1 P [some (.kls (I pre ++ .int n :: .int r::I rs)),some (.int pre.length),some (.int n)]:=by
 have e1:(pre.length:Int)=((I pre).length:Int):=by simp
 have c0:cutD (I pre++D.int n::D.int r::I rs) (some (pre.length:Int)) none=.int n :: .int r::I rs:=by rw [e1,cut0]
 have ret:(∃xs,D.lst [D.int 0,D.int 1,D.int (-1),D.int n]=D.lst xs)/\Qej (.lst [.int 0,.int 1,.int (-1),.int n]) [.int n] λr'=>dIx (.lst [.str w3,.str w1,.str w2,.str w5]) r' λd=>P.rt (.tup [d,.int pre.length]) [some (.kls (I pre ++ .int n :: .int r::I rs)),some (.int pre.length),some (.int n)] :=
  ⟨⟨_,rfl⟩,inx hn λi hi=>by
   simp only [Yz,hi,Qi]
   rw [Qqc hn hx];exact k⟩
 simp only [Int.reduceNeg,Qam,Yz,N1,wIf,wAnd,wOr,wRet,wTup,Qc,wBin,wLst,wC,wNil,List.length_cons,List.length_nil,Nat.zero_add,Nat.reduceAdd,sz4,Qbt,wUn,Qt,sz2,true_and,Qu,Zq,Qp,reduceIte,r_bl,wSlT,Jc,Y8,Bool.false_eq_true,look,Qi,D.pure,Z3,Qr,Yj,Qb2,pu,c0,Qlb] at ret ⊢
 rw [if_pos (decide_eq_true hn)]
 refine ⟨eq9 (l:=n::r::rs),rfl,λe=>?_,λ_=>ret⟩
 rw [if_pos (decide_eq_true ?_)]
 ·exact ret
 ·cases pre with
  | nil =>
   refine absurd ?_ h0
   have e:=D.lst.inj e
   exact (List.map_inj_right λ_ _ h=>D.int.inj h).mp (show (n::r::rs).map D.int=[0,0].map D.int from e)
  | cons a pre=>rw [List.length_cons];omega
theorem Qpi {a b:Option D} (hn:¬n<2) (k:P.nx [a,b,some (.int n)]):N1 P [a,b,some (.int n)]:=by
 simp only [N1,wIf,wAnd,wOr,wRet,wTup,Qc,wBin,wLst,wC,wNil,List.length_cons,List.length_nil,Nat.zero_add,Nat.reduceAdd,sz4,Qbt,wUn,Qt,sz2,true_and,Qu,Zq,Int.reduceNeg,Qp,reduceIte,r_bl,wSlT,Jc,Y8,Bool.false_eq_true,look,Qi,Qam,Yz,D.pure,Z3,Qr]
 rw [if_neg (λz=>hn (of_decide_eq_true z))]
 exact k
theorem Qut (k:P.nx [some (.kls [.int 0,.int 0]),some (.int 0),some (.int 0)]):N1 P [some (.kls [.int 0,.int 0]),some (.int 0),some (.int 0)]:=by
 have c0:cutD [D.int 0,.int 0] (some 0) none=[D.int 0,.int 0]:=rfl
 simp only [N1,wIf,wAnd,wOr,wRet,wTup,Qc,wBin,wLst,wC,wNil,List.length_cons,List.length_nil,Nat.zero_add,Nat.reduceAdd,sz4,Qbt,wUn,Qt,sz2,true_and,Qu,Zq,Int.reduceNeg,Qp,reduceIte,r_bl,wSlT,Jc,Y8,Bool.false_eq_true,look,Qi,D.pure,Qam,Yz,Z3,Int.reduceLT,Qr,Yj,Qb2,Qm,Bool.and_self,c0,Qlb]
 exact ⟨rfl,rfl,λ_=>k,λz=>absurd rfl z⟩
end
theorem Qd8 {P:Program} {w:World} {K:PySem.W.Frag} {mg:Str->Option Value} {base:Heap} {f:Addr} {fd:FuncData} (F:Fun K "_law_next" "_law_next" Yi f fd) (B:Bn K mg):FnOk P w K mg base CX0 1 f fd ["_law_twists_here"] (spR K Z0):=by
 refine Zo (T:=Qaf) F Ud rfl (by decide) (λds kk h=>?_) (Qft B) (λds kk h=>?_)
 ·obtain ⟨l,rfl,_⟩:=h
  rfl
 ·obtain ⟨l,rfl,h0,hl,k⟩:=h
  have hI:(I l).length=l.length:=by simp
  have hpos:0<l.length:=List.length_pos_iff.mpr h0
  rw [Qph]
  simp only [wSeq,env0,List.map_cons,List.map_nil,List.length_cons,List.length_nil,Nat.zero_add,Nat.reduceAdd,List.replicate,List.cons_append,List.nil_append,Qbg,Qiv,Qc,wBin,Qh,wNil,wC,Qu,look,Qi,Qf9,hI,V7,Qe2,Int.reducePow,Int.reduceNeg,Qan,true_and]
  refine ⟨by omega,by omega,λi ρ=>∃o1 o2:Option D,i<=l.length-1/\(Ge (l.take i)\/l=[0,0])/\ρ=[some (.kls (I l)),o1,o2],⟨none,none,by omega,.inl (λz hz=>nomatch hz),rfl⟩,?_,?_⟩
  ·rintro i d ρ hd ⟨o1,o2,hi,hg,rfl⟩
   obtain ⟨hi2,rfl⟩:=Qm8 hd
   by_cases e:l=[0,0]
   ·subst e
    obtain rfl:i=0:=by simp at hi2;omega
    have z:(0:Int)+((0:Nat):Int)=0:=rfl
    simp only [gN,wSeq,wSet,Qt,wBin,I,List.map_cons,List.map_nil,z,List.set_cons_succ,List.set_cons_zero,wIf,wAnd,wRet,wTup,Qc,wC,wNil,List.length_cons,List.length_nil,Nat.zero_add,Nat.reduceAdd,sz2,true_and,Qp,r_bl,Qu,Bool.false_eq_true,reduceIte,look,Qi,Qiw,Vs,List.getElem?_cons_succ,List.getElem?_cons_zero,Qhh,Qr,Zr,Z7,D.pure]
    exact Qut ⟨_,_,by simp,.inr trivial,rfl⟩
   ·obtain hg:=hg.resolve_right e
    obtain ⟨n,r,rs,el,hlen⟩:=Qg6 (l:=l) (i:=i) (by omega)
    have el2:I l=I (l.take i) ++ .int n :: .int r::I rs:=by
     conv=>lhs;rw [el]
     simp
    have e1:((l.take i).length:Int)=((I (l.take i)).length:Int):=by simp
    have a0:L2.atI (I (l.take i)++D.int n::D.int r::I rs) ((l.take i).length:Int)=some (.int n):=by rw [e1,at0]
    have c0:cutD (I (l.take i)++D.int n::D.int r::I rs) (some ((l.take i).length:Int)) none=.int n :: .int r::I rs:=by rw [e1,cut0]
    have ei:(0:Int)+(i:Int)=((l.take i).length:Int):=by rw [hlen];omega
    simp only [gN,wSeq,wSet,Qt,wBin,el2,ei,List.set_cons_succ,List.set_cons_zero,wIf,wAnd,wRet,wTup,Qc,wC,wNil,List.length_cons,List.length_nil,Nat.zero_add,Nat.reduceAdd,sz2,true_and,Qp,r_bl,Qu,Bool.false_eq_true,reduceIte,look,Qi,Qiw,Vs,Zr,Qr,a0,D.pure]
    have hx:=λhn=>X2 (pre:=l.take i) (r:=r) (rs:=rs) (n:=n) hg hn (by rw [← el];exact e)
    rw [← el] at hx
    have main:∀P:EndsP,(∀d ρ,kk d->P.rt d ρ)->(¬n<2->P.nx [some (D.kls (I (l.take i)++D.int n::D.int r::I rs)),some (D.int ((l.take i).length:Int)),some (D.int n)])->¬(n=0/\l.take i=[]/\r≠0)->N1 P [some (D.kls (I (l.take i)++D.int n::D.int r::I rs)),some (D.int ((l.take i).length:Int)),some (D.int n)]:=λP h1 h2 h=>by
     by_cases hn:n<2
     ·refine Qus hn (by rw [← el];exact e) h (h1 _ _ ?_)
      rw [hx hn] at k
      exact k
     ·exact Qpi hn (h2 hn)
    have nxx:∀hn:¬n<2,∃o1 o2:Option D,i+1<=l.length-1/\(Ge (l.take (i+1))\/l=[0,0])/\[some (D.kls (I (l.take i)++D.int n::D.int r::I rs)),some (D.int ((l.take i).length:Int)),some (D.int n)]=[some (D.kls (I (l.take i)++D.int n::D.int r::I rs)),o1,o2]:=λhn=>⟨_,_,by omega,.inl (Qjw hg el hlen hn),rfl⟩
    refine Jg (λhn=>?_) λhn=>main _ (λ_ _ h=>h) nxx λz=>hn z.1
    refine Jg (λhz=>?_) λhz=>main _ (λ_ _ h=>h) nxx λz=>hz (by rw [z.2.1];rfl)
    have hz:l.take i=[]:=List.eq_nil_of_length_eq_zero (by omega)
    rw [hz] at hx main nxx ⊢
    show dNe (D.int r) (D.int 0) λd=>blOf d λb=>if b=true then _ else _
    simp only [List.length_nil,Qhh,Qr]
    by_cases hr:r=0
    ·rw [if_neg (by simp [hr])]
     exact main _ (λ_ _ h=>h) nxx λz=>z.2.2 hr
    ·rw [if_pos (by simp [hr])]
     subst hn
     rw [hx (by decide),wd4 hr] at k
     exact k
  ·rintro ρ ⟨o1,o2,hi,hg,rfl⟩
   simp only [wRet,wC]
   rcases hg with hg | rfl
   ·have:(rngD 0 ((l.length:Int)-1).toNat).length=l.length-1:=by rw [rngD,List.length_map,List.length_range];omega
    rw [this] at hg
    rw [Qnq h0 hg] at k
    exact k
   ·exact k
end K70
namespace K70
open PySem PySem.Spec L2 PV
open PyProof.Rows (envOfC)
open V68 Pol Dct
def Zb:GA:=λds k=>∃(l:List Int) (ss:List (Str × Int)) (q:List Int) (v:Int),ds=[.kls (I l)]/\Ez l ss q v/\ss.length<=400/\k (.tup [.kls (ss.map stD),.kls (I q),.int v])
abbrev Jr:Stmt:=top 38
theorem Jt:FnScope ["_law_twists_here","_law_steps","_law_heft","_law_one","_law_more"] ["_law_twists_here"] (Qd Jr):=⟨rfl,rfl,rfl,by decide +kernel,rfl,by decide +kernel,by decide +kernel⟩
def Gg:Tg:={ own:=λi=>i == 1 || i == 2 || i == 3 || i == 4,io:=[] }
def U8:WS:=(wSeq (wSet 1 (wLst wNil))
 (wSeq (wSet 2 (wC (.int 0)))
 (wSeq (wSet 3 (Qh Z0 (Qc (wVar 0) wNil)))
 (wSeq (Qbs (wBl (wBin (dIs true) (wVar 3) (wC .non))) (wSeq (V9 (wMt 1 "list" Vz (Qc (Qt (wVar 3)) wNil)))
 (wSeq (wAsg (Qh Vj (Qc (wVar 0) (Qc (wBin dIx (wVar 3) (wC (.int 0))) (Qc (wBin dIx (wVar 3) (wC (.int 1))) wNil)))) (Qed 2 (Zu (gN 0) (Zu (gN 4) Qee))))
 (wSeq (wSet 2 (wBin Q6 (wVar 2) (wVar 4)))
 (wSet 3 (Qh Z0 (Qc (wVar 0) wNil)))))))
 (wRet (wTup (Qc (Qcb 1) (Qc (Qt (wVar 0)) (Qc (Qt (wVar 2)) wNil)))))))))
theorem Qc8 {P:Program} {w:World} {K:PySem.W.Frag} {mg:Str->Option Value} {base:Heap} {f:Addr} (B:Bn K mg) (C__law_step:Cal P w K mg base "_law_step" 1 ["_law_twists_here","_law_word","_law_at"] (spR K Vj)) (C__law_next:Cal P w K mg base "_law_next" 1 ["_law_twists_here"] (spR K Z0)):∀(cdv:Value) (A:Around) (outer:List PySem.Env) (s:Shared) (H:Hp) (E:XK),Room 1 (A.deeper (envOfC "_law_walked" (Qd Jr) s.heap.objs.size f cdv))->SVs (cxOf CX0 P w K mg base ["_law_twists_here","_law_steps","_law_heft","_law_one","_law_more"] "_law_walked" (Qd Jr) f cdv A outer s H E).nox Gg (Ql Jr) U8:=λcdv A outer s H E hr =>
  (Qf (Q3 (i:=1) (Yc Qg) Jt.nd)
  (Qf (Q3 (i:=2) Qe Jt.nd)
  (Qf (Q3 (i:=3) (Qo C__law_next (hr.mono (by decide)) (Qb (Qa 0) Qg)) Jt.nd)
  (Qf (Qcg PassesOwn.never (Qq Qge (Qa 3) Qa3) (Qf (G7 (Qhx (i:=1) Ug PySem.F.plainAttrs_list PySem.F.slot_list_append PySem.F.type_list_append (Qb (Qx (Qa 3)) Qg)))
  (Qf (Qm3 (Qo C__law_step (hr.mono (by decide)) (Qb (Qa 0) (Qb (Jd (Jb (Q5 hr)) (Qa 3) Qe) (Qb (Jd (Jb (Q5 hr)) (Qa 3) Qe) Qg)))) (Qgq (Zx (Yw (i:=0) Jt.nd) (Zx (Yw (i:=4) Jt.nd) Qcy))))
  (Qf (Q3 (i:=2) (Qv Qs (Qa 2) (Qa 4)) Jt.nd)
  (Qj (Q3 (i:=3) (Qo C__law_next (hr.mono (by decide)) (Qb (Qa 0) Qg)) Jt.nd))))))
  (Qj (Qz (Jy (Qb (Qj6 (s:=1)) (Qb (Qx (Qa 0)) (Qb (Qx (Qa 2)) Qg))))))))))
theorem Qbh {P:Program} {w:World} {K:PySem.W.Frag} {mg:Str->Option Value} {base:Heap} {f:Addr} {fd:FuncData} (F:Fun K "_law_walked" "_law_walked" Jr f fd) (B:Bn K mg) (C1:Cal P w K mg base "_law_step" 1 ["_law_twists_here","_law_word","_law_at"] (spR K Vj)) (C2:Cal P w K mg base "_law_next" 1 ["_law_twists_here"] (spR K Z0)):FnOk P w K mg base CX0 2 f fd ["_law_twists_here"] (spR K Zb):=by
 refine Zo (T:=Gg) F Jt rfl (by decide) (λds kk h=>?_) (Qc8 B C1 C2) (λds kk h=>?_)
 ·obtain ⟨l,ss,q,v,rfl,_⟩:=h
  rfl
 ·obtain ⟨l,ss,q,v,rfl,hz,hs,k⟩:=h
  have b0:=hz.start
  simp only [U8,wSeq,wSet,wLst,wNil,List.length_nil,sz0,wC,Qh,Qc,env0,List.map_cons,List.map_nil,List.length_cons,Nat.zero_add,Nat.reduceAdd,List.replicate,List.cons_append,List.nil_append,List.set_cons_succ,List.set_cons_zero,Qu,look,Qi,true_and]
  refine ⟨l,rfl,b0.1,by omega,?_⟩
  refine ⟨λn ρ=>∃(l':List Int) (s1 s2:List (Str × Int)) (h v':Int) (o4:Option D),ss=s1++s2/\Ez l' s2 q v'/\h+v'=v/\s2.length=n/\ρ=[some (.kls (I l')),some (.lst (s1.map stD)),some (.int h),some (nxD (nxt l')),o4],⟨_,l,[],ss,0,v,none,rfl,hz,by omega,rfl,rfl⟩,?_⟩
  rintro n ρ ⟨l',s1,s2,h,v',o4,rfl,hz,hv,hn,rfl⟩
  cases hz with
  | fin h1 h0 hl =>
   simp only [nxD,h1,wSeq,V9,wMt,Qc,Qt,wNil,wAsg,Qh,wBin,wC,Qu,wRet,wTup,Qcb,List.length_cons,List.length_nil,Nat.zero_add,Nat.reduceAdd,sz3,true_and,r_bl,look,Qdr,BEq.rfl,List.set_cons_succ,List.set_cons_zero,Qi,Qe3,D.pure,Qdy,Qe4,isN1,Qr,Bool.false_eq_true,reduceIte]
   rw [List.append_nil] at k
   rw [Int.add_zero] at hv
   subst hv
   exact k
  | @go _ s ss l2 _ u v2 h1 h2 h0 hl hz =>
   rw [List.length_append,List.length_cons] at hs
   have b0:=hz.start
   simp only [nxD,h1,stD,wSeq,V9,wMt,Qc,Qt,wNil,wAsg,Qh,wBin,wC,Qu,wRet,wTup,Qcb,List.length_cons,List.length_nil,Nat.zero_add,Nat.reduceAdd,sz3,true_and,r_bl,look,Qdr,BEq.rfl,List.set_cons_succ,List.set_cons_zero,Qi,Xa,Vs,List.getElem?_cons_succ,List.getElem?_cons_zero,Z7,Qe3,List.length_map,D.pure,Qm,Bool.and_self,Qdy,isO1,Qr,reduceIte]
   refine ⟨Yd (by omega),l',s.1,s.2,rfl,by omega,?_⟩
   rw [h2]
   simp only [rsD,D.pure,Qm,Bool.and_self,Qga,List.length_cons,List.length_nil,Nat.zero_add,Nat.reduceAdd,Qck,gN,List.set_cons_zero,List.set_cons_succ,Qgb,wSeq,wSet,wBin,Qh,Qc,wNil,Qu,look,Qi,Y0,true_and]
   refine ⟨l2,rfl,b0.1,by omega,ss.length,by simp at hn;omega,l2,s1++[s],ss,h+u,v2,some (.int u),by simp,hz,by omega,rfl,?_⟩
   rw [List.map_append];rfl
theorem nFI {l:List Int}:nFs (I l)=I l:=by
 induction l with
 | nil=>rfl
 | cons a l ih =>
  show nFs (D.int a::I l)=D.int a::I l
  rw [nFs,ih];rfl
theorem Qmm {ds:List D} {d:D}:cutD (ds++[d]) none (some (-1))=ds:=cutL
def Zj:GA:=λds k=>∃q:List Int,ds=[.kls (I q)]/\Qkw q/\q.length<=1800/\k (.bl true)
abbrev Ju:Stmt:=top 39
theorem Qci:FnScope ["_law_twists_here"] ["_law_twists_here"] (Qd Ju):=⟨rfl,rfl,rfl,by decide +kernel,rfl,by decide +kernel,by decide +kernel⟩
def Xn:Tg:={ own:=λi=>false,io:=[] }
def Xk:WS:=(wRet (wOrV (wBin dEqF (wVar 0) (wLst (Qc (wC (.int 0)) (Qc (wC (.int 0)) wNil)))) (wBin dEq (Qh dLen (Qc (Qex (Uu (wSlT (wVar 0) Jc (J6 (wUn dNeg (wC (.int 1)))))) (wBl (wBin (dCmp λi j=>decide (i<j)) (wVar 0) (wC (.int 2)))) (Qt (wVar 0)) []) wNil)) (wC (.int 0)))))
theorem Qet {P:Program} {w:World} {K:PySem.W.Frag} {mg:Str->Option Value} {base:Heap} {f:Addr} (B:Bn K mg):∀(cdv:Value) (A:Around) (outer:List PySem.Env) (s:Shared) (H:Hp) (E:XK),Room 0 (A.deeper (envOfC "_law_least" (Qd Ju) s.heap.objs.size f cdv))->SVs (cxOf CX0 P w K mg base ["_law_twists_here"] "_law_least" (Qd Ju) f cdv A outer s H E).nox Xn (Ql Ju) Xk:=λcdv A outer s H E hr =>
  (Qj (Qz (Qta (Gz (Qr6 hr.units) (Qa 0) (Yc (Qb Qe (Qb Qe Qg)))) (Qeg (Gz (Yq hr.units) (Ji Vp B.nb_len Vq (Qb (Qgv (Qfm [] (Qaz (Ym (Qa 0) Jp (Jo (Zs Yl Qe)))) (λ_ _ _ _ _=>Qnv (Qq Qcr (Qa 0) Qe)) (λ_ _ _ _ _=>(Qx (Qa 0)))) (G3 (Qd Ju) ["_law_twists_here"] (by decide +kernel))) Qg)) Qe)))))
theorem Qcp {P:Program} {w:World} {K:PySem.W.Frag} {mg:Str->Option Value} {base:Heap} {f:Addr} {fd:FuncData} (F:Fun K "_law_least" "_law_least" Ju f fd) (B:Bn K mg):FnOk P w K mg base CX0 1 f fd ["_law_twists_here"] (spR K Zj):=by
 refine Zo (T:=Xn) F Qci rfl (by decide) (λds kk h=>?_) (Qet B) (λds kk h=>?_)
 ·obtain ⟨q,rfl,_⟩:=h
  rfl
 ·obtain ⟨q,rfl,hq,hl,k⟩:=h
  have n1:nF (.kls (I q))=.lst (I q):=by rw [nF,nFI]
  have n2:nF (.lst [.int 0,.int 0])=.lst [.int 0,.int 0]:=rfl
  simp only [Xk,wRet,wOrV,wBin,env0,List.map_cons,List.map_nil,List.length_cons,List.length_nil,Nat.zero_add,List.cons_append,List.nil_append,wLst,Qc,wC,wNil,Nat.reduceAdd,sz2,dEqF,n2,Qh,Qiy,Gp,wSlT,Jc,Y8,wUn,Zq,Int.reduceNeg,Yj,Qu,reduceIte,Bool.false_eq_true,true_and,look,Qi,Qb2,pI,Qdt,n1]
  refine ⟨eq9,rfl,λ_=>k,λhne=>?_⟩
  rcases hq with rfl | ⟨pre,c,rfl,hp⟩
  ·exact absurd rfl hne
  ·rw [show I (pre++[c])=I pre++[D.int c] by simp,Qmm]
   refine ⟨λi ys=>ys=[],rfl,?_,?_⟩
   ·rintro i d ys hd rfl
    rw [List.getElem?_map] at hd
    obtain ⟨z,hz,rfl⟩:=Option.map_eq_some_iff.mp hd
    have:=hp z (List.mem_of_getElem? hz)
    refine ⟨by decide,?_⟩
    simp only [blkE,List.map_nil,Qt,List.nil_append,Qu,look,Qi,D.pure,true_and,r_bl,wBin,wC,Z3,Qr]
    rw [if_neg (λy=>by have:=of_decide_eq_true y;omega)]
    trivial
   ·rintro ys rfl
    simp only [List.length_nil,sz0,Qal,Zr,true_and]
    exact k
theorem Qtm {l:List Int} {i:Nat} (h:i<l.length):∃n rs,l=l.take i++n::rs/\(l.take i).length=i:=by
 refine ⟨l[i],l.drop (i+1),?_,by rw [List.length_take];omega⟩
 conv=>lhs;rw [← List.take_append_drop i l]
 congr 1
 rw [List.drop_eq_getElem_cons h]
def Zi:GA:=λds k=>∃(l:List Int) (c:Int),ds=[.kls (I l),.int c]/\l≠[]/\l.length<=8/\tot l<=12/\∀l':List Int,l'≠[]->l'.length<=10->tot l'<=16->k (.lst (I l'))
abbrev J2:Stmt:=top 40
theorem Vu:FnScope ["_law_twists_here","_law_cell","_law_at","_law_part"] ["_law_twists_here","_law_cell"] (Qd J2):=⟨rfl,rfl,rfl,by decide +kernel,rfl,by decide +kernel,by decide +kernel⟩
def Xm:Tg:={ own:=λi=>i == 2 || i == 3,io:=[] }
def Xj:WS:=(wSeq (wSet 2 (wBin dMod (wBin dDiv (wVar 1) (wC (.int 3))) (Qh dLen (Qc (wVar 0) wNil))))
 (wSeq (wIf (wBl (wBin dEq (wBin dMod (wVar 1) (wC (.int 2))) (wC (.int 1)))) (wSeq (wSet 3 (wBin dSub (wBin dMod (wBin dDiv (wVar 1) (wC (.int 24))) (wC (.int 5))) (wC (.int 2))))
 (wRet (wBin Q6 (wBin Q6 (wSlT (wVar 0) Jc (J6 (wVar 2))) (wLst (Qc (Qt (wVar 3)) (Qc (wC (.int 0)) (Qc (wBin dSub (wBin dIx (wVar 0) (wVar 2)) (wVar 3)) wNil))))) (wSlT (wVar 0) (J6 (wBin Q6 (wVar 2) (wC (.int 1)))) Jc)))) Qp)
 (wSeq (wIf (wBl (wBin (dCmp λi j=>decide (i<j)) (wBin Q6 (wVar 2) (wC (.int 1))) (Qh dLen (Qc (wVar 0) wNil)))) (wRet (wBin Q6 (wBin Q6 (wSlT (wVar 0) Jc (J6 (wVar 2))) (wLst (Qc (wBin Q6 (wBin dIx (wVar 0) (wVar 2)) (wC (.int 1))) (Qc (wC (.int 1)) (Qc (wBin Q6 (wBin dIx (wVar 0) (wBin Q6 (wVar 2) (wC (.int 1)))) (wC (.int 1))) wNil))))) (wSlT (wVar 0) (J6 (wBin Q6 (wVar 2) (wC (.int 2)))) Jc))) Qp)
 (wRet (Qh Vg (Qc (wVar 0) wNil))))))
theorem Qes {P:Program} {w:World} {K:PySem.W.Frag} {mg:Str->Option Value} {base:Heap} {f:Addr} (B:Bn K mg):∀(cdv:Value) (A:Around) (outer:List PySem.Env) (s:Shared) (H:Hp) (E:XK),Room 0 (A.deeper (envOfC "_law_other" (Qd J2) s.heap.objs.size f cdv))->SVs (cxOf CX0 P w K mg base ["_law_twists_here","_law_cell","_law_at","_law_part"] "_law_other" (Qd J2) f cdv A outer s H E).nox Xm (Ql J2) Xj:=λcdv A outer s H E hr =>
  (Qf (Q3 (i:=2) (Qv Gu (Qv Qau (Qa 1) Qe) (Ji Vp B.nb_len Vq (Qb (Qa 0) Qg))) Vu.nd)
  (Qf (Yt (Qq (Yq hr.units) (Qv Gu (Qa 1) Qe) Qe) (Qf (Q3 (i:=3) (Qv Y9 (Qv Gu (Qv Qau (Qa 1) Qe) Qe) Qe) Vu.nd)
  (Qj (Qz (Qv Qs (Qv Qs (Ym (Qa 0) Jp (Jo (Qa 2))) (Yc (Qb (Qx (Qa 3)) (Qb Qe (Qb (Qv Y9 (Jd (Jb (Q5 hr)) (Qa 0) (Qa 2)) (Qa 3)) Qg))))) (Ym (Qa 0) (Jo (Qv Qs (Qa 2) Qe)) Jp))))) Q4)
  (Qf (Yt (Qq Qcr (Qv Qs (Qa 2) Qe) (Ji Vp B.nb_len Vq (Qb (Qa 0) Qg))) (Qj (Qz (Qv Qs (Qv Qs (Ym (Qa 0) Jp (Jo (Qa 2))) (Yc (Qb (Qv Qs (Jd (Jb (Q5 hr)) (Qa 0) (Qa 2)) Qe) (Qb Qe (Qb (Qv Qs (Jd (Jb (Q5 hr)) (Qa 0) (Qv Qs (Qa 2) Qe)) Qe) Qg))))) (Ym (Qa 0) (Jo (Qv Qs (Qa 2) Qe)) Jp)))) Q4)
  (Qj (Qz (Jm Z5 B.nb_list Z6 (Qb (Qa 0) Qg)))))))
theorem Qco {P:Program} {w:World} {K:PySem.W.Frag} {mg:Str->Option Value} {base:Heap} {f:Addr} {fd:FuncData} (F:Fun K "_law_other" "_law_other" J2 f fd) (B:Bn K mg):FnOk P w K mg base CX0 1 f fd ["_law_twists_here","_law_cell"] (spR K Zi):=by
 refine Zo (T:=Xm) F Vu rfl (by decide) (λds kk h=>?_) (Qes B) (λds kk h=>?_)
 ·obtain ⟨l,c,rfl,_⟩:=h
  rfl
 ·obtain ⟨l,c,rfl,h0,hl,ht,k⟩:=h
  have hI:(I l).length=l.length:=by simp
  have hpos:0<l.length:=List.length_pos_iff.mpr h0
  have p1:(0:Int)<(l.length:Int):=by omega
  obtain ⟨i,hi⟩:=Int.eq_ofNat_of_zero_le (Int.emod_nonneg (c / 3) (Int.ne_of_gt p1))
  have hlt:=Int.emod_lt_of_pos (c / 3) p1
  rw [hi] at hlt
  obtain ⟨n,rs,el,hlen⟩:=Qtm (l:=l) (i:=i) (by omega)
  have el2:I l=I (l.take i) ++ .int n::I rs:=by
   conv=>lhs;rw [el]
   simp
  have e1:(i:Int)=((I (l.take i)).length:Int):=by simp;omega
  have a0:L2.atI (I (l.take i)++D.int n::I rs) (i:Int)=some (.int n):=by
   rw [e1,Vr,List.getElem?_append_right (Nat.le_refl _),Nat.sub_self];rfl
  have cp:cutD (I (l.take i)++D.int n::I rs) none (some (i:Int))=I (l.take i):=by rw [e1,Qg1,List.take_left]
  have c1:cutD (I (l.take i)++D.int n::I rs) (some ((i:Int)+1)) none=I rs:=by
   rw [e1,show ((I (l.take i)).length:Int)+1=(((I (l.take i)).length+1:Nat):Int) by omega,Us (by simp),List.drop_append,List.drop_of_length_le (by omega),show (I (l.take i)).length+1-(I (l.take i)).length=1 by omega];rfl
  have pu1:Qm (I (l.take i)++D.int n::I rs)=true:=pc pI (by simp only [Qm,D.pure,Bool.true_and];exact pI)
  have hll:(I (l.take i)++D.int n::I rs).length=l.length:=by rw [← el2];exact hI
  have hb:(l.length:Int)<1073741824:=by omega
  have tl:tot (l.take i)+n.natAbs+tot rs<=12:=by rw [el,Jn,tot] at ht;omega
  have ll:i+1+rs.length=l.length:=by
   conv=>rhs;rw [el]
   simp;omega
  simp only [Xj,wSeq,wSet,wBin,env0,el2,List.map_cons,List.map_nil,List.length_cons,List.length_nil,Nat.zero_add,Nat.reduceAdd,List.replicate,List.cons_append,List.nil_append,wC,Qh,Qc,wNil,wIf,wRet,wSlT,Jc,wLst,Qt,sz3,Y8,Qu,true_and,Qp,r_bl,look,List.set_cons_succ,List.set_cons_zero,Qi,Qb2,Y5,Qm,D.pure,Bool.and_true,Bool.true_and,Int.reduceLT,Qdx,Qdv,V7,Qak,Qf9,hll,Zr,Qr,p1,hi,Y0,Yj,Qiw,Z3]
  refine Jg (λh1=>?_) λh1=>?_
  ·simp only [pu1,a0,cp,pI,c1,true_and,Qi,V7,D.pure]
   have:=k (l.take i++[c / 24 % 5-2,0,n-(c / 24 % 5-2)]++rs) (by simp) (by simp;omega) (by rw [Jn,Jn];simp only [tot];omega)
   rw [show I (l.take i++[c / 24 % 5-2,0,n-(c / 24 % 5-2)]++rs)=I (l.take i)++[D.int (c / 24 % 5-2),D.int 0,D.int (n-(c / 24 % 5-2))]++I rs by simp] at this
   exact ⟨Nat.le_of_lt (Yd (by simp;omega)),pc pI rfl,Nat.le_of_lt (Yd (by simp;omega)),this⟩
  ·refine Jg (λh2=>?_) λh2=>?_
   ·cases rs with
    | nil=>simp at ll;omega
    | cons r rs =>
     have a1:L2.atI (I (l.take i)++D.int n::I (r::rs)) ((i:Int)+1)=some (.int r):=by rw [e1];exact at1
     have c2:cutD (I (l.take i)++D.int n::I (r::rs)) (some ((i:Int)+2)) none=I rs:=by rw [e1];exact cut2
     simp only [pu1,a0,a1,cp,pI,c2,true_and,Qi,Y0,D.pure,Bool.and_true]
     simp at ll
     rw [tot] at tl
     have:=k (l.take i++[n+1,1,r+1]++rs) (by simp) (by simp;omega) (by rw [Jn,Jn];simp only [tot];omega)
     rw [show I (l.take i++[n+1,1,r+1]++rs)=I (l.take i)++[D.int (n+1),D.int 1,D.int (r+1)]++I rs by simp] at this
     exact ⟨Nat.le_of_lt (Yd (by simp;omega)),pc pI rfl,Nat.le_of_lt (Yd (by simp;omega)),this⟩
   ·simp only [pu1,true_and]
    rw [← el2]
    exact k l h0 (by omega) (by omega)
end K70
namespace K70
open PySem PySem.Spec L2 PV
open PyProof.Rows (envOfC)
open V68 Pol Dct
def Qjx:GA:=λds k=>∃ns:List Int,ds=[.kls (ns.map .int)]/\ns.length<=63/\k (.bl true)
abbrev G9:Stmt:=top 41
theorem Vi:FnScope ["_law_script","_law_half","_law_one","_law_other_here","_law_weights","_law_twists_here","_law_steps","_law_end","_law_heft","_law_found","_law_least_here","_law_raised"] ["_law_script"] (Qd G9):=⟨rfl,rfl,rfl,by decide +kernel,rfl,by decide +kernel,by decide +kernel⟩
def Qql:Tg:={ own:=λi=>i == 1 || i == 2 || i == 3 || i == 4 || i == 5 || i == 6 || i == 7 || i == 8 || i == 9 || i == 10 || i == 11,io:=[] }
def Qqe:WS:=(wSeq (wSet 1 (wBin dDiv (wBin Q6 (Qh dLen (Qc (wVar 0) wNil)) (wC (.int 1))) (wC (.int 2))))
 (wSeq (wSet 2 (Y3 (Qh Ya (Qc (wSlT (wSlT (wBin Q6 (wSlT (wVar 0) Jc (J6 (wVar 1))) (wLst (Qc (wC (.int 0)) wNil))) Jc (J6 (Qh Qhz (Qc (wC (.int 1)) (Qc (wVar 1) wNil))))) Jc (J6 (wC (.int 8)))) (Qc (wC (.int 12)) wNil)))))
 (wSeq (wSet 3 (Y3 (Qh Ya (Qc (wSlT (wSlT (wBin Q6 (wSlT (wVar 0) (J6 (wVar 1)) Jc) (wLst (Qc (wC (.int 0)) wNil))) Jc (J6 (Qh Qhz (Qc (wC (.int 1)) (Qc (wBin dSub (Qh dLen (Qc (wVar 0) wNil)) (wVar 1)) wNil))))) Jc (J6 (wC (.int 8)))) (Qc (wC (.int 12)) wNil)))))
 (wSeq (wIf (wAnd (wBl (wBin (dCmp λi j=>decide (j<i)) (Qh dLen (Qc (wVar 0) wNil)) (wC (.int 0)))) (wBl (wBin dEq (wBin dMod (wBin dIx (wVar 0) (wUn dNeg (wC (.int 1)))) (wC (.int 3))) (wC (.int 1))))) (wSet 3 (Y3 (Qh Zi (Qc (wVar 2) (Qc (wBin dDiv (wBin dIx (wVar 0) (wUn dNeg (wC (.int 1)))) (wC (.int 3))) wNil))))) Qp)
 (wSeq (wSet 4 (wLst wNil))
 (wSeq (wFor (Uu (wLst (Qc (Qt (wVar 2)) (Qc (Qt (wVar 3)) wNil)))) (gN 5) (wSeq (wAsg (Qh Zb (Qc (wVar 5) wNil)) (Qed 3 (Zu (gN 6) (Zu (gN 7) (Zu (gN 8) Qee)))))
 (wSeq (wIf (wOr (wBl (wBin dNeF (Qh Yr (Qc (Qh Vg (Qc (wVar 5) wNil)) wNil)) (wTup (Qc (wVar 6) (Qc (wVar 7) wNil))))) (wOr (wNot (wTru (Qh Zj (Qc (wVar 7) wNil)))) (wBl (wBin dNeF (Qh Za (Qc (Qh Ze (Qc (wVar 5) wNil)) wNil)) (wVar 7))))) (wRet (wC (.bl false))) Qp)
 (wSeq (wIf (wOr (wBl (wBin dNeF (Qh Yr (Qc (wVar 7) wNil)) (wTup (Qc (wLst wNil) (Qc (Qt (wVar 7)) wNil))))) (wBl (wBin dNeF (Qh (Qc5 Qhu) (Qc (Qh Vg (Qc (wVar 5) wNil)) (Qc (wVar 6) wNil))) (wTup (Qc (wVar 7) (Qc (wVar 8) wNil)))))) (wRet (wC (.bl false))) Qp)
 (wSeq (wSet 9 (Qh Yr (Qc (Qh Vg (Qc (wVar 5) wNil)) wNil)))
 (wSeq (wTkj 9 0 (wTup (Qc (wC (.str (Str.ofString "one"))) (Qc (wC (.int 0)) wNil))))
 (wSeq (wTkj 9 1 (wC (.int 7)))
 (wSeq (wSet 10 (Qh Vg (Qc (wVar 7) wNil)))
 (wSeq (Qky 1 (Qh Yr (Qc (wVar 7) wNil)))
 (wSeq (wIf (wOr (wBl (wBin dNeF (wVar 7) (wVar 10))) (wBl (wBin dNeF (Qh Yr (Qc (Qh Vg (Qc (wVar 5) wNil)) wNil)) (wTup (Qc (wVar 6) (Qc (wVar 7) wNil)))))) (wRet (wC (.bl false))) Qp)
 (V9 (wMt 4 "list" Vz (Qc (Qt (wVar 8)) wNil)))))))))))))
 (wSeq (wIf (wBl (wBin dNe (wBin dEq (Qh Ze (Qc (wVar 2) wNil)) (Qh Ze (Qc (wVar 3) wNil))) (wBin dEq (wBin dIx (Qh Yr (Qc (wVar 2) wNil)) (wC (.int 1))) (wBin dIx (Qh Yr (Qc (wVar 3) wNil)) (wC (.int 1)))))) (wRet (wC (.bl false))) Qp)
 (wSeq (wIf (wBl (wBin dNe (Qh Ze (Qc (wVar 2) wNil)) (Qh Ze (Qc (wVar 3) wNil)))) (wRet (wC (.bl true))) Qp)
 (wSeq (wSet 11 (Qex (Uu (Qh Je (Qc (wVar 3) wNil))) wAll (Qh Yb (Qc (wVar 0) (Qc (wBin dSub (wBin dIx (wVar 1) (wC (.int 0))) (wBin dIx (wVar 1) (wC (.int 1)))) wNil))) [4]))
 (wRet (wBin dEqC (Qh Je (Qc (wVar 2) wNil)) (Qh U1 (Qc (wVar 11) wNil)))))))))))))
theorem Qu8 {P:Program} {w:World} {K:PySem.W.Frag} {mg:Str->Option Value} {base:Heap} {f:Addr} (B:Bn K mg) (C_led:CalX P w K mg base "led" 4 ["twists","steps"] (spX K Qhu)) (C_least_list:Cal P w K mg base "least_list" 1 ["fraction"] (spR K Za)) (C_eased:Cal P w K mg base "eased" 4 ["twists"] (spR K Yr)) (C_value:Cal P w K mg base "value" 1 ["twists"] (spR K Ze)) (C_twisted_sums:Cal P w K mg base "twisted_sums" 5 ["twists"] (spR K Je)) (C__law_twists:Cal P w K mg base "_law_twists" 1 ["_law_cells","_law_most"] (spR K Ya)) (C__law_lifted:Cal P w K mg base "_law_lifted" 1 ["_law_one","_law_heft"] (spR K Yb)) (C__law_walked:Cal P w K mg base "_law_walked" 2 ["_law_twists_here"] (spR K Zb)) (C__law_least:Cal P w K mg base "_law_least" 1 ["_law_twists_here"] (spR K Zj)) (C__law_other:Cal P w K mg base "_law_other" 1 ["_law_twists_here","_law_cell"] (spR K Zi)):∀(cdv:Value) (A:Around) (outer:List PySem.Env) (s:Shared) (H:Hp) (E:XK),Room 5 (A.deeper (envOfC "law" (Qd G9) s.heap.objs.size f cdv))->SVs (cxOf CX0 P w K mg base ["_law_script","_law_half","_law_one","_law_other_here","_law_weights","_law_twists_here","_law_steps","_law_end","_law_heft","_law_found","_law_least_here","_law_raised"] "law" (Qd G9) f cdv A outer s H E).nox Qql (Ql G9) Qqe:=λcdv A outer s H E hr =>
  (Qf (Q3 (i:=1) (Qv Qau (Qv Qs (Ji Vp B.nb_len Vq (Qb (Qa 0) Qg)) Qe) Qe) Vi.nd)
  (Qf (Q3 (i:=2) (Ul (Qo C__law_twists (hr.mono (by decide)) (Qb (Ym (Ym (Qv Qs (Ym (Qa 0) Jp (Jo (Qa 1))) (Yc (Qb Qe Qg))) Jp (Jo (Ji (Qkj rfl) B.nb_max Qnw (Qb Qe (Qb (Qa 1) Qg))))) Jp (Jo Qe)) (Qb Qe Qg)))) Vi.nd)
  (Qf (Q3 (i:=3) (Ul (Qo C__law_twists (hr.mono (by decide)) (Qb (Ym (Ym (Qv Qs (Ym (Qa 0) (Jo (Qa 1)) Jp) (Yc (Qb Qe Qg))) Jp (Jo (Ji (Qkj rfl) B.nb_max Qnw (Qb Qe (Qb (Qv Y9 (Ji Vp B.nb_len Vq (Qb (Qa 0) Qg)) (Qa 1)) Qg))))) Jp (Jo Qe)) (Qb Qe Qg)))) Vi.nd)
  (Qf (Yt (J7 (Zc (Qq Qbk (Ji Vp B.nb_len Vq (Qb (Qa 0) Qg)) Qe) (Zf (Qq (Yq hr.units) (Qv Gu (Jd (Jb (Q5 hr)) (Qa 0) (Zs Yl Qe)) Qe) Qe)))) (Qj (Q3 (i:=3) (Ul (Qo C__law_other (hr.mono (by decide)) (Qb (Qa 2) (Qb (Qv Qau (Jd (Jb (Q5 hr)) (Qa 0) (Zs Yl Qe)) Qe) Qg)))) Vi.nd)) Q4)
  (Qf (Q3 (i:=4) (Yc Qg) Vi.nd)
  (Qf (Gk PassesOwn.never (Qaz (Yc (Qb (Qx (Qa 2)) (Qb (Qx (Qa 3)) Qg)))) (Yw (i:=5) Vi.nd) (Qf (Qm3 (Qo C__law_walked (hr.mono (by decide)) (Qb (Qa 5) Qg)) (Qgq (Zx (Yw (i:=6) Vi.nd) (Zx (Yw (i:=7) Vi.nd) (Zx (Yw (i:=8) Vi.nd) Qcy)))))
  (Qf (Yt (J7 (Qfo (Qq (Qb4 hr.units) (Qo C_eased (hr.mono (by decide)) (Qb (Jm Z5 B.nb_list Z6 (Qb (Qa 5) Qg)) Qg)) (Jy (Qb (Qa 6) (Qb (Qa 7) Qg)))) (Qfo (Qmz (Qf0 (Qo C__law_least (hr.mono (by decide)) (Qb (Qa 7) Qg)))) (Qb8 (Qq (Qb4 hr.units) (Qo C_least_list (hr.mono (by decide)) (Qb (Qo C_value (hr.mono (by decide)) (Qb (Qa 5) Qg)) Qg)) (Qa 7)))))) (Qj (Qz Qfj)) Q4)
  (Qf (Yt (J7 (Qfo (Qq (Qb4 hr.units) (Qo C_eased (hr.mono (by decide)) (Qb (Qa 7) Qg)) (Jy (Qb (Yc Qg) (Qb (Qx (Qa 7)) Qg)))) (Qb8 (Qq (Qb4 hr.units) (Qo C_led.calm (hr.mono (by decide)) (Qb (Jm Z5 B.nb_list Z6 (Qb (Qa 5) Qg)) (Qb (Qa 6) Qg))) (Jy (Qb (Qa 7) (Qb (Qa 8) Qg))))))) (Qj (Qz Qfj)) Q4)
  (Qf (Q3 (i:=9) (Qo C_eased (hr.mono (by decide)) (Qb (Jm Z5 B.nb_list Z6 (Qb (Qa 5) Qg)) Qg)) Vi.nd)
  (Qf (Qm2 (i:=9) (j:=0) (Jy (Qb Ys (Qb Qe Qg))))
  (Qf (Qm2 (i:=9) (j:=1) Qe)
  (Qf (Q3 (i:=10) (Jm Z5 B.nb_list Z6 (Qb (Qa 7) Qg)) Vi.nd)
  (Qf (Qn9 (j:=1) (Qo C_eased (hr.mono (by decide)) (Qb (Qa 7) Qg)))
  (Qf (Yt (J7 (Qfo (Qq (Qb4 hr.units) (Qa 7) (Qa 10)) (Qb8 (Qq (Qb4 hr.units) (Qo C_eased (hr.mono (by decide)) (Qb (Jm Z5 B.nb_list Z6 (Qb (Qa 5) Qg)) Qg)) (Jy (Qb (Qa 6) (Qb (Qa 7) Qg))))))) (Qj (Qz Qfj)) Q4)
  (Qj (G7 (Qhx (i:=4) Ug PySem.F.plainAttrs_list PySem.F.slot_list_append PySem.F.type_list_append (Qb (Qx (Qa 8)) Qg))))))))))))))
  (Qf (Yt (Qq (Qcq hr.units) (Gz (Yq hr.units) (Qo C_value (hr.mono (by decide)) (Qb (Qa 2) Qg)) (Qo C_value (hr.mono (by decide)) (Qb (Qa 3) Qg))) (Gz (Yq hr.units) (Jd (Jb (Q5 hr)) (Qo C_eased (hr.mono (by decide)) (Qb (Qa 2) Qg)) Qe) (Jd (Jb (Q5 hr)) (Qo C_eased (hr.mono (by decide)) (Qb (Qa 3) Qg)) Qe))) (Qj (Qz Qfj)) Q4)
  (Qf (Yt (Qq (Qcq hr.units) (Qo C_value (hr.mono (by decide)) (Qb (Qa 2) Qg)) (Qo C_value (hr.mono (by decide)) (Qb (Qa 3) Qg))) (Qj (Qz Qfj)) Q4)
  (Qf (Qk4 (j:=11) (Qfm [4] (Qaz (Qo C_twisted_sums (hr.mono (by decide)) (Qb (Qa 3) Qg))) (λ_ _ _ _ _=>Qg0) (λ_ _ _ _ _=>(Qo C__law_lifted (hr.mono (by decide)) (Qb (Qa 0) (Qb (Qv Y9 (Jd (Jb (Q5 hr)) (Qa 1) Qe) (Jd (Jb (Q5 hr)) (Qa 1) Qe)) Qg))))) (G3 (Qd G9) ["_law_script","_law_half","_law_one","_law_other_here","_law_weights","_law_twists_here","_law_steps","_law_end","_law_heft","_law_found","_law_least_here","_law_raised"] (by decide +kernel)) Vi.nd)
  (Qj (Qz (Gz (Qr7 hr.units) (Qo C_twisted_sums (hr.mono (by decide)) (Qb (Qa 2) Qg)) (Jm G4 B.nb_tuple Ut (Qb (Qa 11) Qg))))))))))))))
def LB2:WS:=(wSeq (wSet 9 (Qh Yr (Qc (Qh Vg (Qc (wVar 5) wNil)) wNil)))
 (wSeq (wTkj 9 0 (wTup (Qc (wC (.str (Str.ofString "one"))) (Qc (wC (.int 0)) wNil))))
 (wSeq (wTkj 9 1 (wC (.int 7)))
 (wSeq (wSet 10 (Qh Vg (Qc (wVar 7) wNil)))
 (wSeq (Qky 1 (Qh Yr (Qc (wVar 7) wNil)))
 (wSeq (wIf (wOr (wBl (wBin dNeF (wVar 7) (wVar 10))) (wBl (wBin dNeF (Qh Yr (Qc (Qh Vg (Qc (wVar 5) wNil)) wNil)) (wTup (Qc (wVar 6) (Qc (wVar 7) wNil)))))) (wRet (wC (.bl false))) Qp)
 (V9 (wMt 4 "list" Vz (Qc (Qt (wVar 8)) wNil)))))))))
def LBc:WS:=(wSeq (wIf (wOr (wBl (wBin dNeF (Qh Yr (Qc (wVar 7) wNil)) (wTup (Qc (wLst wNil) (Qc (Qt (wVar 7)) wNil))))) (wBl (wBin dNeF (Qh (Qc5 Qhu) (Qc (Qh Vg (Qc (wVar 5) wNil)) (Qc (wVar 6) wNil))) (wTup (Qc (wVar 7) (Qc (wVar 8) wNil)))))) (wRet (wC (.bl false))) Qp)
 LB2)
def LB:WS:=(wSeq (wAsg (Qh Zb (Qc (wVar 5) wNil)) (Qed 3 (Zu (gN 6) (Zu (gN 7) (Zu (gN 8) Qee)))))
 (wSeq (wIf (wOr (wBl (wBin dNeF (Qh Yr (Qc (Qh Vg (Qc (wVar 5) wNil)) wNil)) (wTup (Qc (wVar 6) (Qc (wVar 7) wNil))))) (wOr (wNot (wTru (Qh Zj (Qc (wVar 7) wNil)))) (wBl (wBin dNeF (Qh Za (Qc (Qh Ze (Qc (wVar 5) wNil)) wNil)) (wVar 7))))) (wRet (wC (.bl false))) Qp)
 LBc))
def LE:WS:=(wSeq (wIf (wBl (wBin dNe (wBin dEq (Qh Ze (Qc (wVar 2) wNil)) (Qh Ze (Qc (wVar 3) wNil))) (wBin dEq (wBin dIx (Qh Yr (Qc (wVar 2) wNil)) (wC (.int 1))) (wBin dIx (Qh Yr (Qc (wVar 3) wNil)) (wC (.int 1)))))) (wRet (wC (.bl false))) Qp)
 (wSeq (wIf (wBl (wBin dNe (Qh Ze (Qc (wVar 2) wNil)) (Qh Ze (Qc (wVar 3) wNil)))) (wRet (wC (.bl true))) Qp)
 (wSeq (wSet 11 (Qex (Uu (Qh Je (Qc (wVar 3) wNil))) wAll (Qh Yb (Qc (wVar 0) (Qc (wBin dSub (wBin dIx (wVar 1) (wC (.int 0))) (wBin dIx (wVar 1) (wC (.int 1)))) wNil))) [4]))
 (wRet (wBin dEqC (Qh Je (Qc (wVar 2) wNil)) (Qh U1 (Qc (wVar 11) wNil)))))))
def LT:WS:=(wSeq (wSet 4 (wLst wNil))
 (wSeq (wFor (Uu (wLst (Qc (Qt (wVar 2)) (Qc (Qt (wVar 3)) wNil)))) (gN 5) LB)
 LE))
theorem Qsh:Qqe=(wSeq (wSet 1 (wBin dDiv (wBin Q6 (Qh dLen (Qc (wVar 0) wNil)) (wC (.int 1))) (wC (.int 2))))
 (wSeq (wSet 2 (Y3 (Qh Ya (Qc (wSlT (wSlT (wBin Q6 (wSlT (wVar 0) Jc (J6 (wVar 1))) (wLst (Qc (wC (.int 0)) wNil))) Jc (J6 (Qh Qhz (Qc (wC (.int 1)) (Qc (wVar 1) wNil))))) Jc (J6 (wC (.int 8)))) (Qc (wC (.int 12)) wNil)))))
 (wSeq (wSet 3 (Y3 (Qh Ya (Qc (wSlT (wSlT (wBin Q6 (wSlT (wVar 0) (J6 (wVar 1)) Jc) (wLst (Qc (wC (.int 0)) wNil))) Jc (J6 (Qh Qhz (Qc (wC (.int 1)) (Qc (wBin dSub (Qh dLen (Qc (wVar 0) wNil)) (wVar 1)) wNil))))) Jc (J6 (wC (.int 8)))) (Qc (wC (.int 12)) wNil)))))
 (wSeq (wIf (wAnd (wBl (wBin (dCmp λi j=>decide (j<i)) (Qh dLen (Qc (wVar 0) wNil)) (wC (.int 0)))) (wBl (wBin dEq (wBin dMod (wBin dIx (wVar 0) (wUn dNeg (wC (.int 1)))) (wC (.int 3))) (wC (.int 1))))) (wSet 3 (Y3 (Qh Zi (Qc (wVar 2) (Qc (wBin dDiv (wBin dIx (wVar 0) (wUn dNeg (wC (.int 1)))) (wC (.int 3))) wNil))))) Qp)
 LT)))):=rfl
theorem Qcf:∀{l:List Int} {x:Int},x∈l->x.natAbs<=tot l
 | y::l,x,h=>by
  rcases List.mem_cons.mp h with rfl | h
  ·rw [tot];omega
  ·have:=Qcf h;rw [tot];omega
theorem Qnz {l:List Int} {s:Str × Int} (h:(stpI l s.1 s.2).isSome=true):PyData.strOk s.1=true:=by
 cases hp:plc l s.2 with
 | false=>rw [Qct hp] at h;cases h
 | true =>
  obtain ⟨pre,rs,n,r,_,_,e⟩:=Qlu hp
  rw [e] at h
  rcases words s.1 with z | z | z | z | z | ⟨n1,n2,n3,n4,n5⟩
  ·rw [z];decide +kernel
  ·rw [z];decide +kernel
  ·rw [z];decide +kernel
  ·rw [z];decide +kernel
  ·rw [z];decide +kernel
  ·unfold stp at h
   rw [if_neg n1,if_neg n2,if_neg n3,if_neg n4,if_neg n5] at h
   cases h
theorem Ez.words {l:List Int} {ss:List (Str × Int)} {q:List Int} {v:Int} (h:Ez l ss q v):∀s∈ss,PyData.strOk s.1=true:=by
 induction h with
 | fin h h0 hl=>intro s hs;cases hs
 | go h hs h0 hl k ih =>
  intro s hm
  rcases List.mem_cons.mp hm with rfl | hm
  ·exact Qnz (by rw [hs];rfl)
  ·exact ih s hm
theorem nFS {ss:List (Str × Int)}:nFs (ss.map stD)=ss.map stD:=by
 induction ss with
 | nil=>rfl
 | cons a l ih =>
  rw [List.map_cons,nFs,ih];rfl
theorem eqsS {ss:List (Str × Int)} {n:Nat} (h:∀s∈ss,PyData.strOk s.1=true):Zp (n+2) (ss.map stD)=true:=by
 refine Qei.mpr λx hx=>?_
 obtain ⟨s,hs,rfl⟩:=List.mem_map.mp hx
 show (PyData.strOk s.1 && (true && true))=true
 rw [h s hs];rfl
theorem eqsI {l:List Int} {n:Nat}:Zp (n+1) (I l)=true:=Qa6 λ_ _=>rfl
theorem eq2 {ss:List (Str × Int)} {q:List Int} (h:∀s∈ss,PyData.strOk s.1=true):eqOk 9 (.tup [.lst (ss.map stD),.lst (I q)])=true:=by
 show (Zp 7 (ss.map stD) && (Zp 7 (I q) && true))=true
 rw [eqsS h,eqsI];rfl
theorem nf1 {ss:List (Str × Int)} {q:List Int}:nF (.tup [.lst (ss.map stD),.lst (I q)])=.tup [.lst (ss.map stD),.lst (I q)]:=by
 show D.tup [.lst (nFs (ss.map stD)),.lst (nFs (I q))]=_
 rw [nFS,nFI]
theorem nf2 {ss:List (Str × Int)} {q:List Int}:nF (.tup [.kls (ss.map stD),.kls (I q)])=.tup [.lst (ss.map stD),.lst (I q)]:=by
 show D.tup [.lst (nFs (ss.map stD)),.lst (nFs (I q))]=_
 rw [nFS,nFI]
theorem nf3 {q:List Int}:nF (.tup [.lst [],.kls (I q)])=.tup [.lst [],.lst (I q)]:=by
 show D.tup [.lst [],.lst (nFs (I q))]=_
 rw [nFI]
theorem nf3b {q:List Int}:nF (.tup [.lst [],.lst (I q)])=.tup [.lst [],.lst (I q)]:=by
 show D.tup [.lst [],.lst (nFs (I q))]=_
 rw [nFI]
theorem nf4 {q:List Int} {v:Int}:nF (.tup [.lst (I q),.int v])=.tup [.lst (I q),.int v]:=by
 show D.tup [.lst (nFs (I q)),.int v]=_
 rw [nFI]
theorem nf5 {q:List Int} {v:Int}:nF (.tup [.kls (I q),.int v])=.tup [.lst (I q),.int v]:=by
 show D.tup [.lst (nFs (I q)),.int v]=_
 rw [nFI]
theorem nf6 {q:List Int}:nF (.lst (I q))=.lst (I q):=by show D.lst (nFs (I q))=_;rw [nFI]
theorem nf7 {q:List Int}:nF (.kls (I q))=.lst (I q):=by show D.lst (nFs (I q))=_;rw [nFI]
theorem eqtp {q:List Int} {v:Int}:eqOk 9 (.tup [.lst (I q),.int v])=true:=by
 show (Zp 7 (I q) && (true && true))=true
 rw [eqsI];rfl
theorem eq0 {q:List Int}:eqOk 9 (.tup [.lst [],.lst (I q)])=true:=by
 show (true && (Zp 7 (I q) && true))=true
 rw [eqsI];rfl
structure Go (l:List Int) (ss:List (Str × Int)) (q:List Int) (v:Int):Prop where
 ez:Ez l ss q v
 few:ss.length<=350
 ne:l≠[]
 len:l.length<=10
 tot:tot l<=16
theorem Go.val {l:List Int} {ss:List (Str × Int)} {q:List Int} {v:Int} (h:Go l ss q v):K70.val l=K70.val q:=h.ez.led.value
theorem Go.bot {l:List Int} {ss:List (Str × Int)} {q:List Int} {v:Int} (h:Go l ss q v):(K70.val q).2<=1000000:=by
 rw [← h.val]
 have h1:=(Qk0 (l:=l)).2
 have h2:2 ^ K70.tot l<=2 ^ 16:=Nat.pow_le_pow_right (by decide) h.tot
 omega
theorem Go.self {l:List Int} {ss:List (Str × Int)} {q:List Int} {v:Int} (h:Go l ss q v):Ez q [] q 0:=.fin h.ez.end_.1 h.ez.end_.2.1 h.ez.end_.2.2
theorem Qjv {l:List Int} (h0:l≠[]) (hl:l.length<=10) (ht:tot l<=16):∃ss q v,Go l ss q v:=by
 obtain ⟨ss,q,v,h1,h2⟩:=easy h0 hl (by omega)
 exact ⟨ss,q,v,h1,h2,h0,hl,ht⟩
section
variable {P:EndsP} {l:List Int} {ss:List (Str × Int)} {q:List Int} {v:Int} {W:List D} {a0 a1 a2 a3 o6 o7 o8 o9 o10 o11:Option D}
theorem lb2 (g:Go l ss q v) (hW:W.length<=5) (k:∀o9 o10,P.nx [a0,a1,a2,a3,some (.lst (W++[.int v])),some (.kls (I l)),some (.kls (ss.map stD)),some (.kls (I q)),some (.int v),o9,o10,o11]):LB2 P [a0,a1,a2,a3,some (.lst W),some (.kls (I l)),some (.kls (ss.map stD)),some (.kls (I q)),some (.int v),o9,o10,o11]:=by
 have b:=g.ez.end_
 have hf:=g.few
 have hl:=g.len
 simp only [LB2,wSeq,wSet,Qh,Qc,wNil,wTkj,wTup,wC,List.length_cons,List.length_nil,Nat.zero_add,Nat.reduceAdd,sz2,D.pure,Qm,Bool.and_self,Qky,wIf,wOr,wRet,Qp,V9,wMt,Qt,Qu,reduceIte,r_bl,wBin,dNeF,Qr,Bool.false_eq_true,true_and,look,List.set_cons_succ,List.set_cons_zero,Qdr,BEq.rfl,Qi,Qe3,Qak,pI,Qi0]
 refine ⟨l,ss,q,v,.inl rfl,g.ez,by omega,?_⟩
 simp only [Qi0,List.getElem?_cons_zero,List.set_cons_zero,List.getElem?_cons_succ,List.set_cons_succ,Qi,Qnc,pI,List.length_map,true_and,Qe4]
 refine ⟨Yd (by omega),Yd (by omega),q,[],q,0,.inr rfl,g.self,by simp,?_⟩
 simp only [nf7,nf6,nf2,Qi0,List.getElem?_cons_succ,List.getElem?_cons_zero,Qi,Qnc,List.length_map]
 refine ⟨Yd (by omega),eq9,eq9,λ_=>?_,λz=>absurd rfl z⟩
 refine ⟨l,ss,q,v,.inl rfl,g.ez,by omega,?_⟩
 simp only [nf1]
 exact ⟨eq2 g.ez.words,eq2 g.ez.words,λ_=>⟨Yd (by omega),k _ _⟩,λz=>absurd rfl z⟩
theorem lbc (g:Go l ss q v) (hW:W.length<=5) (k:∀o9 o10,P.nx [a0,a1,a2,a3,some (.lst (W++[.int v])),some (.kls (I l)),some (.kls (ss.map stD)),some (.kls (I q)),some (.int v),o9,o10,o11]):LBc P [a0,a1,a2,a3,some (.lst W),some (.kls (I l)),some (.kls (ss.map stD)),some (.kls (I q)),some (.int v),o9,o10,o11]:=by
 have b:=g.ez.end_
 have hf:=g.few
 have hl:=g.len
 simp only [LBc,wSeq,wIf,wOr,wRet,wC,Qp,reduceIte,r_bl,wBin,Qh,Qc,wNil,Qc5,wTup,List.length_cons,List.length_nil,Nat.zero_add,Nat.reduceAdd,sz2,dNeF,Qr,Bool.false_eq_true,true_and,Qu,wLst,sz0,Qt,look,Qi,Qak,pI,D.pure]
 refine ⟨q,[],q,0,.inr rfl,g.self,by simp,?_⟩
 simp only [List.map_nil,nf3b,nf3]
 refine ⟨eq0,eq0,λ_=>?_,λz=>absurd rfl z⟩
 refine ⟨l,ss,rfl,by omega,?_⟩
 have hd:=g.ez.ldd 0
 rw [Int.zero_add] at hd
 rw [hd]
 simp only [nf4,nf5]
 exact ⟨eqtp,eqtp,λ_=>lb2 g hW k,λz=>absurd rfl z⟩
theorem lb (g:Go l ss q v) (hW:W.length<=5) (k:∀o6 o7 o8 o9 o10,P.nx [a0,a1,a2,a3,some (.lst (W++[.int v])),some (.kls (I l)),o6,o7,o8,o9,o10,o11]):LB P [a0,a1,a2,a3,some (.lst W),some (.kls (I l)),o6,o7,o8,o9,o10,o11]:=by
 have b:=g.ez.end_
 have hf:=g.few
 have hl:=g.len
 simp only [LB,wSeq,wAsg,Qh,Qc,wNil,Qu,look,Qi]
 refine ⟨l,ss,q,v,rfl,g.ez,by omega,?_⟩
 simp only [D.pure,Qm,Bool.and_self,Qga,List.length_cons,List.length_nil,Nat.zero_add,Nat.reduceAdd,Qck,gN,List.set_cons_succ,List.set_cons_zero,Qgb,wSeq,wIf,wOr,wRet,wC,Qp,reduceIte,wNot,r_bl,wBin,Qh,Qc,wNil,dNeF,Qr,Bool.false_eq_true,Qu,Qiu,wTup,sz2,true_and,look,Qi,Qak,pI]
 refine ⟨l,ss,q,v,.inl rfl,g.ez,by omega,?_⟩
 simp only [nf1,nf2]
 refine ⟨eq2 g.ez.words,eq2 g.ez.words,λ_=>?_,λz=>absurd rfl z⟩
 refine ⟨q,rfl,X3 b.2.1 b.1,b.2.2,?_⟩
 simp only [Qf7,Bool.not_true,Bool.false_eq_true,reduceIte]
 refine ⟨l,rfl,λx hx=>by have:=Qcf hx;have:=g.tot;omega,?_⟩
 have e:l.foldl V66.step (1,0)=val q:=g.val
 rw [e]
 refine ⟨q,rfl,X3 b.2.1 b.1,b.2.2,g.bot,?_⟩
 simp only [nf6,nf7]
 exact ⟨eq9,eq9,λ_=>lbc g hW λo9 o10=>k _ _ _ _ _,λz=>absurd rfl z⟩
end
end K70
namespace K70
open PySem PySem.Spec L2 PV
open PyProof.Rows (envOfC)
open V68 Pol Dct
theorem Qc0 {f:Int->Int} {h:Int}:∀{a:T},ev f (Ui a h)=(1-2*(h % 2))*ev (λp=>f (p+3*h)) a
 | []=>by show (0:Int)=_*0;rw [Int.mul_zero]
 | t::a=>by
  show t.2*(1-2*(h % 2))*f (t.1+3*h)+ev f (Ui a h)=_
  rw [Qc0,Jq,Int.mul_add,Int.mul_comm t.2,Int.mul_assoc]
theorem Qgp {a:T} {h:Int} (k:Is a):Is (Ui a h):=by
 refine ⟨?_,λt ht=>?_⟩
 ·unfold Ui
  rw [List.pairwise_map]
  exact k.asc.imp λ{x y} hxy=>by show x.1+3*h<y.1+3*h;omega
 ·obtain ⟨u,hu,rfl⟩:=List.mem_map.mp ht
  have h1:=k.nz u hu
  show u.2*(1-2*(h % 2))≠0
  have h2:1-2*(h % 2)=1\/1-2*(h % 2) = -1:=by omega
  rcases h2 with h2 | h2 <;> rw [h2] <;> omega
theorem Qjd:∀{a:T},Xe (a.map pr2)=a.map pr2
 | []=>rfl
 | t::a=>by rw [List.map_cons,Xe,Qjd];rfl
theorem nrmP {x:D} {a:T} (h:IsP x a):nrmD x=.tup (a.map pr2):=by
 rcases h with rfl | ⟨rfl,rfl⟩ | ⟨rfl,rfl⟩
 ·rw [nrmD,Qjd]
 ·rfl
 ·rfl
theorem eqPP {a b:T}:eqOk 9 (.tup [.tup (a.map pr2),.tup (b.map pr2)])=true:=by
 show (eqOk 8 (.tup (a.map pr2)) && (eqOk 8 (.tup (b.map pr2)) && true))=true
 rw [two_eq (by omega),two_eq (by omega)];rfl
section
variable {P:EndsP} {l1 l2:List Int} {s1 s2:List (Str × Int)} {q1 q2:List Int} {v1 v2:Int} {a0 a1 o5 o6 o7 o8 o9 o10 o11:Option D}
abbrev en (a0 a1 o5 o6 o7 o8 o9 o10 o11:Option D) (l1 l2:List Int) (v1 v2:Int):PV.Env:=[a0,a1,some (.kls (I l1)),some (.kls (I l2)),some (.lst [.int v1,.int v2]),o5,o6,o7,o8,o9,o10,o11]
theorem last {d2:D} {B1 B2:Nat} (h:M69.F M69.s0 l1=M69.W (v1-v2) (M69.F M69.s0 l2)) (S1:∀k:D->Prop,(∀d1,Sm d1 B1 (M69.F M69.s0 l1)->k d1)->Je [.kls (I l1)] k) (S2:Sm d2 B2 (M69.F M69.s0 l2)) (hB:B2<=10000) (k:∀ρ,P.rt (.bl true) ρ) :
  Qip d2 λds=>Qtj ds wAll (Qh Yb (Qc (wVar 0) (Qc (wBin dSub (wBin dIx (wVar 1) (wC (D.int 0))) (wBin dIx (wVar 1) (wC (D.int 1)))) wNil))) (en a0 a1 o5 o6 o7 o8 o9 o10 o11 l1 l2 v1 v2) [4] λd ρ'=>oget (look (List.set ρ' 11 (some d)) 2) λd_4=>Je [d_4] λd_5=>oget (look (List.set ρ' 11 (some d)) 11) λd_6=>U1 [d_6] λd_7=>dEqC d_5 d_7 λd_8=>P.rt d_8 (List.set ρ' 11 (some d)):=by
 obtain ⟨x2,y2,p2,r2,rfl,i2,j2,is3,is4,w3,w4,e2⟩:=S2
 have lp:=M69.Qca is3 w3
 have lr:=M69.Qca is4 w4.1
 simp only [Qds,Qm,i2.pure,j2.pure,Bool.and_self,true_and]
 have one:∀{x:D} {p:T},IsP x p->p.length<=50000->∀Q':D->PV.Env->Prop,Q' (.tup ((Ui p (v1-v2)).map pr2)) (blkE (en a0 a1 o5 o6 o7 o8 o9 o10 o11 l1 l2 v1 v2) x [4])->(Qh Yb (Qc (wVar 0) (Qc (wBin dSub (wBin dIx (wVar 1) (wC (D.int 0))) (wBin dIx (wVar 1) (wC (D.int 1)))) wNil))) (blkE (en a0 a1 o5 o6 o7 o8 o9 o10 o11 l1 l2 v1 v2) x [4]) Q':=λ{x p} hx hp Q' hQ=>by
  simp only [blkE,List.map_cons,look,List.map_nil,Qh,Qc,wBin,wC,wNil,Qu,Qi,Yz,Vs,List.getElem?_cons_succ,List.getElem?_cons_zero,Z7,V7] at hQ ⊢
  exact ⟨x,p,v1-v2,rfl,hx,hp,hQ⟩
 refine ⟨λi ys=>(i=0/\ys=[])\/(i=1/\ys=[.tup ((Ui p2 (v1-v2)).map pr2)])\/(i=2/\ys=[.tup ((Ui p2 (v1-v2)).map pr2),.tup ((Ui r2 (v1-v2)).map pr2)]),.inl ⟨rfl,rfl⟩,?_,?_⟩
 ·rintro i d ys hd (⟨rfl,rfl⟩ | ⟨rfl,rfl⟩ | ⟨rfl,rfl⟩)
  ·cases hd
   refine ⟨by decide,?_⟩
   simp only [wAll,reduceIte]
   exact one i2 (by omega) _ (.inr (.inl (by simp)))
  ·cases hd
   refine ⟨Dct.Yd (by simp),?_⟩
   simp only [wAll,reduceIte]
   exact one j2 (by omega) _ (.inr (.inr (by simp)))
  ·cases hd
 ·rintro ys (⟨z,_⟩ | ⟨z,_⟩ | ⟨_,rfl⟩)
  ·cases z
  ·cases z
  ·refine ⟨Nat.le_of_lt (Dct.Yd (by simp)),?_⟩
   simp only [List.set_cons_succ,List.set_cons_zero,look,Qi,Gn,Qm,D.pure,Y1,Bool.and_self,true_and]
   refine S1 _ λd1 S1=>?_
   obtain ⟨x1,y1,p1,r1,rfl,i1,j1,is1,is2,w1,w2,e1⟩:=S1
   have n1:nrmD (.tup [x1,y1])=.tup [.tup (p1.map pr2),.tup (r1.map pr2)]:=by
    rw [nrmD,Xe,Xe,Xe,nrmP i1,nrmP j1]
   have n2:nrmD (.tup [.tup ((Ui p2 (v1-v2)).map pr2),.tup ((Ui r2 (v1-v2)).map pr2)])=.tup [.tup ((Ui p2 (v1-v2)).map pr2),.tup ((Ui r2 (v1-v2)).map pr2)]:=by
    rw [nrmD,Xe,Xe,Xe,nrmP (.inl rfl),nrmP (.inl rfl)]
   have hl:=h
   rw [e1,e2] at hl
   have g1:p1=Ui p2 (v1-v2):=uniq is1 (Qgp is3) λf=>by
    have:=congrFun (congrArg Prod.fst hl) f
    rw [Qc0];exact this
   have g2:r1=Ui r2 (v1-v2):=uniq is2 (Qgp is4) λf=>by
    have:=congrFun (congrArg Prod.snd hl) f
    rw [Qc0];exact this
   show eqOk 9 _=true/\eqOk 9 _=true/\(_->_)/\(_->_)
   rw [n1,n2,g1,g2]
   exact ⟨eqPP,eqPP,λ_=>k _,λz=>absurd rfl z⟩
theorem le (g1:Go l1 s1 q1 v1) (g2:Go l2 s2 q2 v2) (k:∀ρ,P.rt (.bl true) ρ):LE P (en a0 a1 o5 o6 o7 o8 o9 o10 o11 l1 l2 v1 v2):=by
 have e1:l1.foldl V66.step (1,0)=val q1:=g1.val
 have e2:l2.foldl V66.step (1,0)=val q2:=g2.val
 have b1:∀x∈l1,-300<=x/\x<=300:=λx hx=>by have:=Qcf hx;have:=g1.tot;omega
 have b2:∀x∈l2,-300<=x/\x<=300:=λx hx=>by have:=Qcf hx;have:=g2.tot;omega
 have t1:=g1.few
 have t2:=g2.few
 simp only [LE,wSeq,wIf,wRet,wC,Qp,wSet,wBin,Qh,Qc,wNil,Qu,Qiy,Gp,r_bl,look,Qi]
 refine ⟨l1,rfl,b1,l2,rfl,b2,?_⟩
 rw [e1,e2]
 simp only [fr,Qt7]
 refine ⟨rfl,rfl,λe=>?_,λe=>?_⟩
 ·have hq:val q1=val q2:=Prod.ext (D.int.inj (List.cons.inj (D.tup.inj e)).1) (D.int.inj (List.cons.inj (List.cons.inj (D.tup.inj e)).2).1)
  have hq2:q1=q2:=Qhc (X3 g1.ez.end_.2.1 g1.ez.end_.1) (X3 g2.ez.end_.2.1 g2.ez.end_.1) hq
  subst hq2
  refine ⟨l1,s1,q1,v1,.inr rfl,g1.ez,by omega,?_⟩
  simp only [Xa,Vs,List.getElem?_cons_succ,List.getElem?_cons_zero,Qi,Qdw,Qq0,BEq.rfl,Bool.not_true,Qr,Bool.false_eq_true,reduceIte]
  refine ⟨l2,s2,q1,v2,.inr rfl,g2.ez,by omega,?_⟩
  simp only [Xa,Vs,List.getElem?_cons_succ,List.getElem?_cons_zero,Qi]
  refine ⟨eq9,eq9,λ_=>?_,λz=>absurd rfl z⟩
  refine ⟨l1,rfl,b1,l2,rfl,b2,?_⟩
  rw [e1,e2]
  simp only [fr,Qqz,Qr,Bool.false_eq_true,reduceIte]
  refine ⟨rfl,rfl,λ_=>?_,λz=>absurd rfl z⟩
  refine ⟨l2,rfl,g2.ne,by have:=g2.len;omega,by have:=g2.tot;omega,λd2 S2=>?_⟩
  refine last (B1:=3*tot l1) ?_ (λk' h=>⟨l1,rfl,g1.ne,by have:=g1.len;omega,by have:=g1.tot;omega,h⟩) S2 (by have:=g2.tot;omega) k
  rw [g1.ez.led.1,g2.ez.led.1,← M69.Qmv]
  congr 1
  omega
 ·refine ⟨l1,s1,q1,v1,.inr rfl,g1.ez,by omega,?_⟩
  simp only [Xa,Vs,List.getElem?_cons_succ,List.getElem?_cons_zero,Qi,Qdw,Qq0,Qr,BEq.rfl,Bool.not_true,Bool.false_eq_true,reduceIte]
  refine ⟨l2,s2,q2,v2,.inr rfl,g2.ez,by omega,?_⟩
  simp only [Xa,Vs,List.getElem?_cons_succ,List.getElem?_cons_zero,Qi]
  have hne:D.lst (I q1)≠D.lst (I q2):=λz=>e (by
   have z:=(List.map_inj_right λ_ _ h=>D.int.inj h).mp (D.lst.inj z)
   rw [z])
  refine ⟨eq9,eq9,λz=>absurd z hne,λ_=>?_⟩
  refine ⟨l1,rfl,b1,l2,rfl,b2,?_⟩
  rw [e1,e2]
  simp only [fr,Qqz,Qr,Bool.false_eq_true,reduceIte]
  exact ⟨rfl,rfl,λz=>absurd z e,λ_=>k _⟩
end
end K70
namespace K70
open PySem PySem.Spec L2 PV
open PyProof.Rows (envOfC)
open V68 Pol Dct
section
variable {P:EndsP} {l1 l2:List Int} {s1 s2:List (Str × Int)} {q1 q2:List Int} {v1 v2:Int} {a0 a1 o4 o5 o6 o7 o8 o9 o10 o11:Option D}
theorem lt (g1:Go l1 s1 q1 v1) (g2:Go l2 s2 q2 v2) (k:∀ρ,P.rt (.bl true) ρ):LT P [a0,a1,some (.kls (I l1)),some (.kls (I l2)),o4,o5,o6,o7,o8,o9,o10,o11]:=by
 simp only [LT,wSeq,wSet,wLst,wNil,List.length_nil,sz0,List.set_cons_succ,List.set_cons_zero,Qbg,Gp,Qc,Qt,List.length_cons,Nat.zero_add,Nat.reduceAdd,sz2,Qdt,Qm,Bool.and_true,true_and,Qu,look,Qi,D.pure]
 refine ⟨λi ρ=>∃o5 o6 o7 o8 o9 o10:Option D,(i=0/\ρ=[a0,a1,some (.kls (I l1)),some (.kls (I l2)),some (.lst []),o5,o6,o7,o8,o9,o10,o11])\/(i=1/\ρ=[a0,a1,some (.kls (I l1)),some (.kls (I l2)),some (.lst [.int v1]),o5,o6,o7,o8,o9,o10,o11])\/(i=2/\ρ=en a0 a1 o5 o6 o7 o8 o9 o10 o11 l1 l2 v1 v2),⟨o5,o6,o7,o8,o9,o10,.inl ⟨rfl,rfl⟩⟩,?_,?_⟩
 ·rintro i d ρ hd ⟨o5,o6,o7,o8,o9,o10,⟨rfl,rfl⟩ | ⟨rfl,rfl⟩ | ⟨rfl,rfl⟩⟩
  ·cases hd
   simp only [gN,Nat.zero_add,true_and,List.set_cons_succ,List.set_cons_zero]
   exact lb g1 (by simp) λo6 o7 o8 o9 o10=>⟨_,o6,o7,o8,o9,o10,.inr (.inl rfl)⟩
  ·cases hd
   simp only [gN,Nat.reduceAdd,true_and,List.set_cons_succ,List.set_cons_zero]
   exact lb g2 (by simp) λo6 o7 o8 o9 o10=>⟨_,o6,o7,o8,o9,o10,.inr (.inr rfl)⟩
  ·cases hd
 ·rintro ρ ⟨o5,o6,o7,o8,o9,o10,⟨z,_⟩ | ⟨z,_⟩ | ⟨_,rfl⟩⟩
  ·cases z
  ·cases z
  ·exact le g1 g2 k
end
theorem Qc3 {cs:List Int} {b:Nat}:cutD (I cs) none (some (b:Int))=I (cs.take b):=by rw [Qg1,← List.map_take]
theorem cells {xs:List Int} {h:Int}:∃ds cs:List Int,cutD (I xs++[D.int 0]) none (some (if h > 1 then h else 1))=I ds/\cutD (I ds) none (some 8)=I cs/\cs.length<=8/\cs≠[]:=by
 obtain ⟨b,hb⟩:∃b:Nat,(if h > 1 then h else 1)=((b+1:Nat):Int):=⟨((if h > 1 then h else 1)-1).toNat,by split <;> omega⟩
 refine ⟨(xs++[0]).take (b+1),((xs++[0]).take (b+1)).take 8,?_,Qc3 (b:=8),?_,?_⟩
 ·rw [hb,show I xs++[D.int 0]=I (xs++[0]) by simp,Qc3]
 ·rw [List.length_take];omega
 ·intro z
  have:=congrArg List.length z
  simp at this
theorem pI0 {xs:List Int}:Qm (I xs++[D.int 0])=true:=pc pI rfl
theorem Qr3 {P:Program} {w:World} {K:PySem.W.Frag} {mg:Str->Option Value} {base:Heap} {f:Addr} {fd:FuncData} (F:Fun K "law" "law" G9 f fd) (B:Bn K mg) (C1:CalX P w K mg base "led" 4 ["twists","steps"] (spX K Qhu)) (C2:Cal P w K mg base "least_list" 1 ["fraction"] (spR K Za)) (C3:Cal P w K mg base "eased" 4 ["twists"] (spR K Yr)) (C4:Cal P w K mg base "value" 1 ["twists"] (spR K Ze)) (C5:Cal P w K mg base "twisted_sums" 5 ["twists"] (spR K Je)) (C6:Cal P w K mg base "_law_twists" 1 ["_law_cells","_law_most"] (spR K Ya)) (C7:Cal P w K mg base "_law_lifted" 1 ["_law_one","_law_heft"] (spR K Yb)) (C8:Cal P w K mg base "_law_walked" 2 ["_law_twists_here"] (spR K Zb)) (C9:Cal P w K mg base "_law_least" 1 ["_law_twists_here"] (spR K Zj)) (C10:Cal P w K mg base "_law_other" 1 ["_law_twists_here","_law_cell"] (spR K Zi)):FnOk P w K mg base CX0 6 f fd ["_law_script"] (spR K Qjx):=by
 refine Zo (T:=Qql) F Vi rfl (by decide) (λds kk h=>?_) (Qu8 B C1 C2 C3 C4 C5 C6 C7 C8 C9 C10) (λds kk h=>?_)
 ·obtain ⟨ns,rfl,_⟩:=h
  rfl
 ·obtain ⟨ns,rfl,hn,k⟩:=h
  have hI:(I ns).length=ns.length:=by simp
  have hh:((ns.length:Int)+1) / 2=(((ns.length+1) / 2:Nat):Int):=by omega
  have c1:cutD (I ns) none (some (((ns.length+1) / 2:Nat):Int))=I (ns.take ((ns.length+1) / 2)):=Qc3
  have c2:cutD (I ns) (some (((ns.length+1) / 2:Nat):Int)) none=I (ns.drop ((ns.length+1) / 2)):=by rw [Us (by rw [hI];omega),← List.map_drop]
  obtain ⟨d1,cs1,x1,y1,z1,n1⟩:=cells (xs:=ns.take ((ns.length+1) / 2)) (h:=(((ns.length+1) / 2:Nat):Int))
  obtain ⟨d2,cs2,x2,y2,z2,n2⟩:=cells (xs:=ns.drop ((ns.length+1) / 2)) (h:=(ns.length:Int)-(((ns.length+1) / 2:Nat):Int))
  have lt1:(I (ns.take ((ns.length+1) / 2))).length+1<=sizeLine:=Nat.le_of_lt (Yd (by simp;omega))
  have lt2:(I (ns.drop ((ns.length+1) / 2))).length+1<=sizeLine:=Nat.le_of_lt (Yd (by simp;omega))
  rw [Qsh]
  simp only [wSeq,wSet,wBin,Qh,Qc,env0,List.map_cons,List.map_nil,List.length_cons,List.length_nil,Nat.zero_add,Nat.reduceAdd,List.replicate,List.cons_append,List.nil_append,wNil,wC,Y3,wSlT,Jc,wLst,sz1,wIf,wAnd,wUn,Zq,Int.reduceNeg,Qu,Qp,r_bl,Bool.false_eq_true,reduceIte,Y8,Yj,true_and,look,List.set_cons_succ,List.set_cons_zero,Qi,Qiw,Qf9,hI,Z3,Qr,Qb2,pI,Y5,Qm,D.pure,Bool.and_self,Vc,Y0,Int.reduceLT,Qdx,hh,V7,Qt6,c2,lt2,pI0,x2,y2,c1,lt1,x1,y1]
  refine ⟨cs1,rfl,z1,λl1 e1 t1=>?_⟩
  simp only [Int.reduceNeg,Yk,pI,true_and]
  refine ⟨cs2,rfl,z2,λl2 e2 t2=>?_⟩
  simp only [Int.reduceNeg,Yk,pI,true_and]
  have m1:l1≠[]:=λz=>by rw [z] at e1;exact n1 (List.eq_nil_of_length_eq_zero e1.symm)
  have m2:l2≠[]:=λz=>by rw [z] at e2;exact n2 (List.eq_nil_of_length_eq_zero e2.symm)
  obtain ⟨s1,q1,v1,g1⟩:=Qjv m1 (by omega) (by omega)
  obtain ⟨s2,q2,v2,g2⟩:=Qjv m2 (by omega) (by omega)
  refine Jg (λhp=>?_) λ_=>lt g1 g2 λ_=>k
  rcases List.eq_nil_or_concat ns with rfl | ⟨bs,z,rfl⟩
  ·simp at hp
  ·rw [List.concat_eq_append] at *
   have eL:List.map D.int (bs++[z])=I bs++[D.int z]:=by simp
   rw [eL,atL]
   simp only [Qi,Int.reduceLT,Qdx,Qdv,Zr,Qr]
   refine Jg (λ_=>?_) λ_=>lt g1 g2 λ_=>k
   refine ⟨l1,z / 3,rfl,m1,by omega,by omega,λl3 m3 e3 t3=>?_⟩
   simp only [Yk,pI,true_and]
   obtain ⟨s3,q3,v3,g3⟩:=Qjv m3 e3 t3
   exact lt g1 g3 λ_=>k
end K70
namespace K70
open PySem PySem.Spec L2 PV
open PyProof.Rows (envOfC)
theorem Qtn {l:PySem.W.OpenLaw} {w:World} {K:PySem.W.Frag} {h:Heap} {mg:Str->Option Value} {fa:Addr} (X:K.In h) (G:h.Ns mainGlobals mg) (hfa:mg "law" = some (.ref fa))
  {f1:Addr} {od1 an1:Option Addr} {sl1:Array (Option Value)} {oc1 kV1 dc1 pm1 cd1 ct1:Value}
  (a1:PySem.W.nsIn K mainGlobals "is_whole" = some (some (.ref f1))) (l1:K.lookup f1=some ⟨oc1,od1,.func (PySem.W.fnOf "is_whole" "is_whole" (Q7 Yu) (Ql Yu) (Qd Yu) .none kV1 dc1 pm1 an1 cd1 ct1),sl1⟩) (c1:PySem.W.codeIn K cd1 "is_whole" = true) (k1:PySem.W.keepIn K (.ref f1)=true)
  {f2:Addr} {od2 an2:Option Addr} {sl2:Array (Option Value)} {oc2 kV2 dc2 pm2 cd2 ct2:Value}
  (a2:PySem.W.nsIn K mainGlobals "is_placed" = some (some (.ref f2))) (l2:K.lookup f2=some ⟨oc2,od2,.func (PySem.W.fnOf "is_placed" "is_placed" (Q7 Yf) (Ql Yf) (Qd Yf) .none kV2 dc2 pm2 an2 cd2 ct2),sl2⟩) (c2:PySem.W.codeIn K cd2 "is_placed" = true) (k2:PySem.W.keepIn K (.ref f2)=true)
  {f3:Addr} {od3 an3:Option Addr} {sl3:Array (Option Value)} {oc3 kV3 dc3 pm3 cd3 ct3:Value}
  (a3:PySem.W.nsIn K mainGlobals "without_number" = some (some (.ref f3))) (l3:K.lookup f3=some ⟨oc3,od3,.func (PySem.W.fnOf "without_number" "without_number" (Q7 Q8) (Ql Q8) (Qd Q8) .none kV3 dc3 pm3 an3 cd3 ct3),sl3⟩) (c3:PySem.W.codeIn K cd3 "without_number" = true) (k3:PySem.W.keepIn K (.ref f3)=true)
  {f4:Addr} {od4 an4:Option Addr} {sl4:Array (Option Value)} {oc4 kV4 dc4 pm4 cd4 ct4:Value}
  (a4:PySem.W.nsIn K mainGlobals "can_be_nought" = some (some (.ref f4))) (l4:K.lookup f4=some ⟨oc4,od4,.func (PySem.W.fnOf "can_be_nought" "can_be_nought" (Q7 Jf) (Ql Jf) (Qd Jf) .none kV4 dc4 pm4 an4 cd4 ct4),sl4⟩) (c4:PySem.W.codeIn K cd4 "can_be_nought" = true) (k4:PySem.W.keepIn K (.ref f4)=true)
  {f5:Addr} {od5 an5:Option Addr} {sl5:Array (Option Value)} {oc5 kV5 dc5 pm5 cd5 ct5:Value}
  (a5:PySem.W.nsIn K mainGlobals "without_nought" = some (some (.ref f5))) (l5:K.lookup f5=some ⟨oc5,od5,.func (PySem.W.fnOf "without_nought" "without_nought" (Q7 Q9) (Ql Q9) (Qd Q9) .none kV5 dc5 pm5 an5 cd5 ct5),sl5⟩) (c5:PySem.W.codeIn K cd5 "without_nought" = true) (k5:PySem.W.keepIn K (.ref f5)=true)
  {f6:Addr} {od6 an6:Option Addr} {sl6:Array (Option Value)} {oc6 kV6 dc6 pm6 cd6 ct6:Value}
  (a6:PySem.W.nsIn K mainGlobals "split_number" = some (some (.ref f6))) (l6:K.lookup f6=some ⟨oc6,od6,.func (PySem.W.fnOf "split_number" "split_number" (Q7 Jk) (Ql Jk) (Qd Jk) .none kV6 dc6 pm6 an6 cd6 ct6),sl6⟩) (c6:PySem.W.codeIn K cd6 "split_number" = true) (k6:PySem.W.keepIn K (.ref f6)=true)
  {f7:Addr} {od7 an7:Option Addr} {sl7:Array (Option Value)} {oc7 kV7 dc7 pm7 cd7 ct7:Value}
  (a7:PySem.W.nsIn K mainGlobals "step" = some (some (.ref f7))) (l7:K.lookup f7=some ⟨oc7,od7,.func (PySem.W.fnOf "step" "step" (Q7 Ue) (Ql Ue) (Qd Ue) .none kV7 dc7 pm7 an7 cd7 ct7),sl7⟩) (c7:PySem.W.codeIn K cd7 "step" = true) (k7:PySem.W.keepIn K (.ref f7)=true)
  {f8:Addr} {od8 an8:Option Addr} {sl8:Array (Option Value)} {oc8 kV8 dc8 pm8 cd8 ct8:Value}
  (a8:PySem.W.nsIn K mainGlobals "led" = some (some (.ref f8))) (l8:K.lookup f8=some ⟨oc8,od8,.func (PySem.W.fnOf "led" "led" (Q7 Qaj) (Ql Qaj) (Qd Qaj) .none kV8 dc8 pm8 an8 cd8 ct8),sl8⟩) (c8:PySem.W.codeIn K cd8 "led" = true) (k8:PySem.W.keepIn K (.ref f8)=true)
  {f9:Addr} {od9 an9:Option Addr} {sl9:Array (Option Value)} {oc9 kV9 dc9 pm9 cd9 ct9:Value}
  (a9:PySem.W.nsIn K mainGlobals "least_list" = some (some (.ref f9))) (l9:K.lookup f9=some ⟨oc9,od9,.func (PySem.W.fnOf "least_list" "least_list" (Q7 J1) (Ql J1) (Qd J1) .none kV9 dc9 pm9 an9 cd9 ct9),sl9⟩) (c9:PySem.W.codeIn K cd9 "least_list" = true) (k9:PySem.W.keepIn K (.ref f9)=true)
  {f10:Addr} {od10 an10:Option Addr} {sl10:Array (Option Value)} {oc10 kV10 dc10 pm10 cd10 ct10:Value}
  (a10:PySem.W.nsIn K mainGlobals "word_at" = some (some (.ref f10))) (l10:K.lookup f10=some ⟨oc10,od10,.func (PySem.W.fnOf "word_at" "word_at" (Q7 Zd) (Ql Zd) (Qd Zd) .none kV10 dc10 pm10 an10 cd10 ct10),sl10⟩) (c10:PySem.W.codeIn K cd10 "word_at" = true) (k10:PySem.W.keepIn K (.ref f10)=true)
  {f11:Addr} {od11 an11:Option Addr} {sl11:Array (Option Value)} {oc11 kV11 dc11 pm11 cd11 ct11:Value}
  (a11:PySem.W.nsIn K mainGlobals "next_step" = some (some (.ref f11))) (l11:K.lookup f11=some ⟨oc11,od11,.func (PySem.W.fnOf "next_step" "next_step" (Q7 Ye) (Ql Ye) (Qd Ye) .none kV11 dc11 pm11 an11 cd11 ct11),sl11⟩) (c11:PySem.W.codeIn K cd11 "next_step" = true) (k11:PySem.W.keepIn K (.ref f11)=true)
  {f12:Addr} {od12 an12:Option Addr} {sl12:Array (Option Value)} {oc12 kV12 dc12 pm12 cd12 ct12:Value}
  (a12:PySem.W.nsIn K mainGlobals "eased" = some (some (.ref f12))) (l12:K.lookup f12=some ⟨oc12,od12,.func (PySem.W.fnOf "eased" "eased" (Q7 Vw) (Ql Vw) (Qd Vw) .none kV12 dc12 pm12 an12 cd12 ct12),sl12⟩) (c12:PySem.W.codeIn K cd12 "eased" = true) (k12:PySem.W.keepIn K (.ref f12)=true)
  {f13:Addr} {od13 an13:Option Addr} {sl13:Array (Option Value)} {oc13 kV13 dc13 pm13 cd13 ct13:Value}
  (a13:PySem.W.nsIn K mainGlobals "gathered" = some (some (.ref f13))) (l13:K.lookup f13=some ⟨oc13,od13,.func (PySem.W.fnOf "gathered" "gathered" (Q7 Yn) (Ql Yn) (Qd Yn) .none kV13 dc13 pm13 an13 cd13 ct13),sl13⟩) (c13:PySem.W.codeIn K cd13 "gathered" = true) (k13:PySem.W.keepIn K (.ref f13)=true)
  {f14:Addr} {od14 an14:Option Addr} {sl14:Array (Option Value)} {oc14 kV14 dc14 pm14 cd14 ct14:Value}
  (a14:PySem.W.nsIn K mainGlobals "minus" = some (some (.ref f14))) (l14:K.lookup f14=some ⟨oc14,od14,.func (PySem.W.fnOf "minus" "minus" (Q7 Vf) (Ql Vf) (Qd Vf) .none kV14 dc14 pm14 an14 cd14 ct14),sl14⟩) (c14:PySem.W.codeIn K cd14 "minus" = true) (k14:PySem.W.keepIn K (.ref f14)=true)
  {f15:Addr} {od15 an15:Option Addr} {sl15:Array (Option Value)} {oc15 kV15 dc15 pm15 cd15 ct15:Value}
  (a15:PySem.W.nsIn K mainGlobals "lifted" = some (some (.ref f15))) (l15:K.lookup f15=some ⟨oc15,od15,.func (PySem.W.fnOf "lifted" "lifted" (Q7 Zm) (Ql Zm) (Qd Zm) .none kV15 dc15 pm15 an15 cd15 ct15),sl15⟩) (c15:PySem.W.codeIn K cd15 "lifted" = true) (k15:PySem.W.keepIn K (.ref f15)=true)
  {f16:Addr} {od16 an16:Option Addr} {sl16:Array (Option Value)} {oc16 kV16 dc16 pm16 cd16 ct16:Value}
  (a16:PySem.W.nsIn K mainGlobals "value" = some (some (.ref f16))) (l16:K.lookup f16=some ⟨oc16,od16,.func (PySem.W.fnOf "value" "value" (Q7 Vv) (Ql Vv) (Qd Vv) .none kV16 dc16 pm16 an16 cd16 ct16),sl16⟩) (c16:PySem.W.codeIn K cd16 "value" = true) (k16:PySem.W.keepIn K (.ref f16)=true)
  {f17:Addr} {od17 an17:Option Addr} {sl17:Array (Option Value)} {oc17 kV17 dc17 pm17 cd17 ct17:Value}
  (a17:PySem.W.nsIn K mainGlobals "exchanged" = some (some (.ref f17))) (l17:K.lookup f17=some ⟨oc17,od17,.func (PySem.W.fnOf "exchanged" "exchanged" (Q7 Yg) (Ql Yg) (Qd Yg) .none kV17 dc17 pm17 an17 cd17 ct17),sl17⟩) (c17:PySem.W.codeIn K cd17 "exchanged" = true) (k17:PySem.W.keepIn K (.ref f17)=true)
  {f18:Addr} {od18 an18:Option Addr} {sl18:Array (Option Value)} {oc18 kV18 dc18 pm18 cd18 ct18:Value}
  (a18:PySem.W.nsIn K mainGlobals "half_twisted_sums" = some (some (.ref f18))) (l18:K.lookup f18=some ⟨oc18,od18,.func (PySem.W.fnOf "half_twisted_sums" "half_twisted_sums" (Q7 Q0) (Ql Q0) (Qd Q0) .none kV18 dc18 pm18 an18 cd18 ct18),sl18⟩) (c18:PySem.W.codeIn K cd18 "half_twisted_sums" = true) (k18:PySem.W.keepIn K (.ref f18)=true)
  {f19:Addr} {od19 an19:Option Addr} {sl19:Array (Option Value)} {oc19 kV19 dc19 pm19 cd19 ct19:Value}
  (a19:PySem.W.nsIn K mainGlobals "followed" = some (some (.ref f19))) (l19:K.lookup f19=some ⟨oc19,od19,.func (PySem.W.fnOf "followed" "followed" (Q7 Yv) (Ql Yv) (Qd Yv) .none kV19 dc19 pm19 an19 cd19 ct19),sl19⟩) (c19:PySem.W.codeIn K cd19 "followed" = true) (k19:PySem.W.keepIn K (.ref f19)=true)
  {f20:Addr} {od20 an20:Option Addr} {sl20:Array (Option Value)} {oc20 kV20 dc20 pm20 cd20 ct20:Value}
  (a20:PySem.W.nsIn K mainGlobals "twisted_sums" = some (some (.ref f20))) (l20:K.lookup f20=some ⟨oc20,od20,.func (PySem.W.fnOf "twisted_sums" "twisted_sums" (Q7 Jj) (Ql Jj) (Qd Jj) .none kV20 dc20 pm20 an20 cd20 ct20),sl20⟩) (c20:PySem.W.codeIn K cd20 "twisted_sums" = true) (k20:PySem.W.keepIn K (.ref f20)=true)
  {f21:Addr} {od21 an21:Option Addr} {sl21:Array (Option Value)} {oc21 kV21 dc21 pm21 cd21 ct21:Value}
  (a21:PySem.W.nsIn K mainGlobals "_law_twists" = some (some (.ref f21))) (l21:K.lookup f21=some ⟨oc21,od21,.func (PySem.W.fnOf "_law_twists" "_law_twists" (Q7 Js) (Ql Js) (Qd Js) .none kV21 dc21 pm21 an21 cd21 ct21),sl21⟩) (c21:PySem.W.codeIn K cd21 "_law_twists" = true) (k21:PySem.W.keepIn K (.ref f21)=true)
  {f22:Addr} {od22 an22:Option Addr} {sl22:Array (Option Value)} {oc22 kV22 dc22 pm22 cd22 ct22:Value}
  (a22:PySem.W.nsIn K mainGlobals "_law_step" = some (some (.ref f22))) (l22:K.lookup f22=some ⟨oc22,od22,.func (PySem.W.fnOf "_law_step" "_law_step" (Q7 Yh) (Ql Yh) (Qd Yh) .none kV22 dc22 pm22 an22 cd22 ct22),sl22⟩) (c22:PySem.W.codeIn K cd22 "_law_step" = true) (k22:PySem.W.keepIn K (.ref f22)=true)
  {f23:Addr} {od23 an23:Option Addr} {sl23:Array (Option Value)} {oc23 kV23 dc23 pm23 cd23 ct23:Value}
  (a23:PySem.W.nsIn K mainGlobals "_law_lifted" = some (some (.ref f23))) (l23:K.lookup f23=some ⟨oc23,od23,.func (PySem.W.fnOf "_law_lifted" "_law_lifted" (Q7 Jl) (Ql Jl) (Qd Jl) .none kV23 dc23 pm23 an23 cd23 ct23),sl23⟩) (c23:PySem.W.codeIn K cd23 "_law_lifted" = true) (k23:PySem.W.keepIn K (.ref f23)=true)
  {f24:Addr} {od24 an24:Option Addr} {sl24:Array (Option Value)} {oc24 kV24 dc24 pm24 cd24 ct24:Value}
  (a24:PySem.W.nsIn K mainGlobals "_law_next" = some (some (.ref f24))) (l24:K.lookup f24=some ⟨oc24,od24,.func (PySem.W.fnOf "_law_next" "_law_next" (Q7 Yi) (Ql Yi) (Qd Yi) .none kV24 dc24 pm24 an24 cd24 ct24),sl24⟩) (c24:PySem.W.codeIn K cd24 "_law_next" = true) (k24:PySem.W.keepIn K (.ref f24)=true)
  {f25:Addr} {od25 an25:Option Addr} {sl25:Array (Option Value)} {oc25 kV25 dc25 pm25 cd25 ct25:Value}
  (a25:PySem.W.nsIn K mainGlobals "_law_walked" = some (some (.ref f25))) (l25:K.lookup f25=some ⟨oc25,od25,.func (PySem.W.fnOf "_law_walked" "_law_walked" (Q7 Jr) (Ql Jr) (Qd Jr) .none kV25 dc25 pm25 an25 cd25 ct25),sl25⟩) (c25:PySem.W.codeIn K cd25 "_law_walked" = true) (k25:PySem.W.keepIn K (.ref f25)=true)
  {f26:Addr} {od26 an26:Option Addr} {sl26:Array (Option Value)} {oc26 kV26 dc26 pm26 cd26 ct26:Value}
  (a26:PySem.W.nsIn K mainGlobals "_law_least" = some (some (.ref f26))) (l26:K.lookup f26=some ⟨oc26,od26,.func (PySem.W.fnOf "_law_least" "_law_least" (Q7 Ju) (Ql Ju) (Qd Ju) .none kV26 dc26 pm26 an26 cd26 ct26),sl26⟩) (c26:PySem.W.codeIn K cd26 "_law_least" = true) (k26:PySem.W.keepIn K (.ref f26)=true)
  {f27:Addr} {od27 an27:Option Addr} {sl27:Array (Option Value)} {oc27 kV27 dc27 pm27 cd27 ct27:Value}
  (a27:PySem.W.nsIn K mainGlobals "_law_other" = some (some (.ref f27))) (l27:K.lookup f27=some ⟨oc27,od27,.func (PySem.W.fnOf "_law_other" "_law_other" (Q7 J2) (Ql J2) (Qd J2) .none kV27 dc27 pm27 an27 cd27 ct27),sl27⟩) (c27:PySem.W.codeIn K cd27 "_law_other" = true) (k27:PySem.W.keepIn K (.ref f27)=true)
  {f28:Addr} {od28 an28:Option Addr} {sl28:Array (Option Value)} {oc28 kV28 dc28 pm28 cd28 ct28:Value}
  (a28:PySem.W.nsIn K mainGlobals "law" = some (some (.ref f28))) (l28:K.lookup f28=some ⟨oc28,od28,.func (PySem.W.fnOf "law" "law" (Q7 G9) (Ql G9) (Qd G9) .none kV28 dc28 pm28 an28 cd28 ct28),sl28⟩) (c28:PySem.W.codeIn K cd28 "law" = true) (k28:PySem.W.keepIn K (.ref f28)=true)
  (z_abs:PySem.W.nsIn K mainGlobals "abs" = some none)
  (z_bool:PySem.W.nsIn K mainGlobals "bool" = some none)
  (z_enumerate:PySem.W.nsIn K mainGlobals "enumerate" = some none)
  (z_int:PySem.W.nsIn K mainGlobals "int" = some none)
  (z_isinstance:PySem.W.nsIn K mainGlobals "isinstance" = some none)
  (z_len:PySem.W.nsIn K mainGlobals "len" = some none)
  (z_list:PySem.W.nsIn K mainGlobals "list" = some none)
  (z_max:PySem.W.nsIn K mainGlobals "max" = some none)
  (z_range:PySem.W.nsIn K mainGlobals "range" = some none)
  (z_reversed:PySem.W.nsIn K mainGlobals "reversed" = some none)
  (z_sorted:PySem.W.nsIn K mainGlobals "sorted" = some none)
  (z_tuple:PySem.W.nsIn K mainGlobals "tuple" = some none)
  {ad_NOUGHT:Addr} (z_NOUGHT:PySem.W.nsIn K mainGlobals "NOUGHT" = some (some (.ref ad_NOUGHT))) (xh_NOUGHT:kcIn K (.tup []) (.ref ad_NOUGHT)=true)
  {ad_ONE:Addr} (z_ONE:PySem.W.nsIn K mainGlobals "ONE" = some (some (.ref ad_ONE))) (xh_ONE:kcIn K (.tup [.tup [.int 0,.int 1]]) (.ref ad_ONE)=true)
  {ad_UPRIGHT_LIST:Addr} {od_UPRIGHT_LIST:Option Addr} {n_UPRIGHT_LIST:Nat} {sl_UPRIGHT_LIST:Array (Option Value)} {t0_UPRIGHT_LIST t1_UPRIGHT_LIST:Tok} (z_UPRIGHT_LIST:PySem.W.nsIn K mainGlobals "UPRIGHT_LIST" = some (some (.ref ad_UPRIGHT_LIST))) (y_UPRIGHT_LIST:K.lookup ad_UPRIGHT_LIST=some ⟨.type "tuple",od_UPRIGHT_LIST,.seq #[.int 0 t0_UPRIGHT_LIST,.int 0 t1_UPRIGHT_LIST] n_UPRIGHT_LIST,sl_UPRIGHT_LIST⟩)
  {C_TangleError:Addr}
  {C_NoStep:Addr} {cd_NoStep:ClassData} (zx_NoStep:atN K "NoStep" C_NoStep) (zc_NoStep:PySem.W.clsIn K C_NoStep=some cd_NoStep) (zt_NoStep:PySem.W.typeIn K (.ref C_NoStep)=some (.type "type"))
  {nm_ q_:Str} {bs_ sub_:List Value} {N_:Addr} {hd_ ab_:Bool} {sn_:List Str} {col_:Option Bool} {dd_ dd2_ od1_ od2_:Option Addr} {k0_ k1_ k2_ k3_ k5_:Option Value} {c0_ oc1_ oc2_:Value} {cdT_:ClassData} {slT_ sl1_ sl2_:Array (Option Value)} {es1_ es2_:Array DictEntry} {ep1_ ep2_:Nat}
  (xl1:K.lookup C_NoStep=some (excClassObj nm_ q_ C_NoStep N_ bs_ (.ref C_TangleError::[.type "ValueError",.type "Exception",.type "BaseException",.type "object"]) hd_ sn_ sub_ ab_ col_ dd_ k0_ k1_ k2_ k3_ k5_ "ValueError.__new__")) (xl2:K.lookup C_TangleError=some ⟨c0_,dd2_,.cls cdT_,slT_⟩) (xn1:K.lookup N_=some ⟨oc1_,od1_,.dict es1_ ep1_,sl1_⟩) (xn2:K.lookup cdT_.ns=some ⟨oc2_,od2_,.dict es2_ ep2_,sl2_⟩) (xs1:Up es1_=true) (xs2:Up es2_=true) (xi1:nsFind es1_ "__init__" = none) (xi2:nsFind es2_ "__init__" = none)
  (xq1:PySem.W.findIn K (.ref C_NoStep) "__getattribute__" = some (some (.builtin "BaseException.__getattribute__"))) (xq2:PySem.W.findIn K (.ref C_NoStep) "__getattr__" = some none) (xq3:PySem.W.findIn K (.ref C_NoStep) "__class__" = some (some (.builtin "object.__class__"))) (xq4:PySem.W.subIn K (.ref C_NoStep) (.type "object")=some true) (xq5:PySem.W.subIn K (.ref C_NoStep) (.type "BaseException")=some true)
  : ∃fd:FuncData,(∀(s:Shared) (v:Value),BindsTo s fd ⟨[v],[]⟩ [("_law_script",v)])/\∀base:Heap,K.In base->base.Ns mainGlobals mg->FnOk l.prog w K mg base CX0 6 fa fd ["_law_script"] (spR K Qjx):=by
 have e:=hfa.symm.trans (PySem.W.mg_of X G a28)
 cases e
 have xQ:ExcQ K C_NoStep:=⟨xq1,xq2,xq3,xq4,xq5,by rw [zc_NoStep];rfl⟩
 have xR:∀C,atN K "NoStep" C->C=C_NoStep:=λC h=>by have:=h.symm.trans zx_NoStep;cases this;rfl
 have B:Bn K mg:=⟨PySem.W.mg_none_of X G z_abs,PySem.W.mg_none_of X G z_bool,PySem.W.mg_none_of X G z_enumerate,PySem.W.mg_none_of X G z_int,PySem.W.mg_none_of X G z_isinstance,PySem.W.mg_none_of X G z_len,PySem.W.mg_none_of X G z_list,PySem.W.mg_none_of X G z_max,PySem.W.mg_none_of X G z_range,PySem.W.mg_none_of X G z_reversed,PySem.W.mg_none_of X G z_sorted,PySem.W.mg_none_of X G z_tuple,⟨ad_NOUGHT,PySem.W.mg_of X G z_NOUGHT,xh_NOUGHT⟩,⟨ad_ONE,PySem.W.mg_of X G z_ONE,xh_ONE⟩,⟨ad_UPRIGHT_LIST,PySem.W.mg_of X G z_UPRIGHT_LIST,by unfold Qih;rw [y_UPRIGHT_LIST];rfl⟩,⟨f17,PySem.W.mg_of X G a17,a17⟩,⟨f18,PySem.W.mg_of X G a18,a18⟩,⟨C_NoStep,Qpw (PySem.W.mg_of X G zx_NoStep) xl1 xl2 xn1 xn2 xs1 xs2 xi1 xi2,zx_NoStep⟩⟩
 have F1:=J5 (st:=Yu) l1 c1 k1
 have F2:=J5 (st:=Yf) l2 c2 k2
 have F3:=J5 (st:=Q8) l3 c3 k3
 have F4:=J5 (st:=Jf) l4 c4 k4
 have F5:=J5 (st:=Q9) l5 c5 k5
 have F6:=J5 (st:=Jk) l6 c6 k6
 have F7:=J5 (st:=Ue) l7 c7 k7
 have F8:=J5 (st:=Qaj) l8 c8 k8
 have F9:=J5 (st:=J1) l9 c9 k9
 have F10:=J5 (st:=Zd) l10 c10 k10
 have F11:=J5 (st:=Ye) l11 c11 k11
 have F12:=J5 (st:=Vw) l12 c12 k12
 have F13:=J5 (st:=Yn) l13 c13 k13
 have F14:=J5 (st:=Vf) l14 c14 k14
 have F15:=J5 (st:=Zm) l15 c15 k15
 have F16:=J5 (st:=Vv) l16 c16 k16
 have F17:=J5 (st:=Yg) l17 c17 k17
 have F18:=J5 (st:=Q0) l18 c18 k18
 have F19:=J5 (st:=Yv) l19 c19 k19
 have F20:=J5 (st:=Jj) l20 c20 k20
 have F21:=J5 (st:=Js) l21 c21 k21
 have F22:=J5 (st:=Yh) l22 c22 k22
 have F23:=J5 (st:=Jl) l23 c23 k23
 have F24:=J5 (st:=Yi) l24 c24 k24
 have F25:=J5 (st:=Jr) l25 c25 k25
 have F26:=J5 (st:=Ju) l26 c26 k26
 have F27:=J5 (st:=J2) l27 c27 k27
 have F28:=J5 (st:=G9) l28 c28 k28
 refine ⟨PySem.W.fnOf "law" "law" (Q7 G9) (Ql G9) (Qd G9) .none kV28 dc28 pm28 an28 cd28 ct28,λs v=>.of_eq rfl,λbase _ _=>?_⟩
 have C_is_whole:Cal l.prog w K mg base "is_whole" 1 ["thing"] (spR K Vk):=⟨f1,_,Qe9 F1 B,PySem.W.mg_of X G a1,k1,F1.binds λ_ _ _ _ _ _ us hl=>by obtain ⟨_,rfl⟩:=len1 hl;rfl⟩
 have C_is_placed:Cal l.prog w K mg base "is_placed" 2 ["twists","thing"] (spR K Zk):=⟨f2,_,Qd5 F2 B C_is_whole,PySem.W.mg_of X G a2,k2,F2.binds λ_ _ _ _ _ _ us hl=>by obtain ⟨_,_,rfl⟩:=len2 hl;rfl⟩
 have C_without_number:Cal l.prog w K mg base "without_number" 1 ["twists","at","many"] (spR K Jh):=⟨f3,_,Xb F3 B,PySem.W.mg_of X G a3,k3,F3.binds λ_ _ _ _ _ _ us hl=>by obtain ⟨_,_,_,rfl⟩:=len3 hl;rfl⟩
 have C_can_be_nought:Cal l.prog w K mg base "can_be_nought" 1 ["twists","at"] (spR K J9):=⟨f4,_,Xw F4 B,PySem.W.mg_of X G a4,k4,F4.binds λ_ _ _ _ _ _ us hl=>by obtain ⟨_,_,rfl⟩:=len2 hl;rfl⟩
 have C_without_nought:Cal l.prog w K mg base "without_nought" 1 ["twists","at"] (spR K Jz):=⟨f5,_,Xc F5 B,PySem.W.mg_of X G a5,k5,F5.binds λ_ _ _ _ _ _ us hl=>by obtain ⟨_,_,rfl⟩:=len2 hl;rfl⟩
 have C_split_number:Cal l.prog w K mg base "split_number" 1 ["twists","at"] (spR K Yo):=⟨f6,_,Qas F6 B,PySem.W.mg_of X G a6,k6,F6.binds λ_ _ _ _ _ _ us hl=>by obtain ⟨_,_,rfl⟩:=len2 hl;rfl⟩
 have C_step:CalX l.prog w K mg base "step" 3 ["twists","step"] (spX K Gx):=⟨f7,_,Qpf F7 B C_is_placed C_without_number C_can_be_nought C_without_nought C_split_number,PySem.W.mg_of X G a7,k7,F7.binds λ_ _ _ _ _ _ us hl=>by obtain ⟨_,_,rfl⟩:=len2 hl;rfl⟩
 have C_led:CalX l.prog w K mg base "led" 4 ["twists","steps"] (spX K Qhu):=⟨f8,_,Qr2 F8 B C_step,PySem.W.mg_of X G a8,k8,F8.binds λ_ _ _ _ _ _ us hl=>by obtain ⟨_,_,rfl⟩:=len2 hl;rfl⟩
 have C_least_list:Cal l.prog w K mg base "least_list" 1 ["fraction"] (spR K Za):=⟨f9,_,Qcn F9 B,PySem.W.mg_of X G a9,k9,F9.binds λ_ _ _ _ _ _ us hl=>by obtain ⟨_,rfl⟩:=len1 hl;rfl⟩
 have C_word_at:Cal l.prog w K mg base "word_at" 1 ["twists","at"] (spR K Uk):=⟨f10,_,Qhm F10 B,PySem.W.mg_of X G a10,k10,F10.binds λ_ _ _ _ _ _ us hl=>by obtain ⟨_,_,rfl⟩:=len2 hl;rfl⟩
 have C_next_step:Cal l.prog w K mg base "next_step" 2 ["twists"] (spR K Y7):=⟨f11,_,Qd4 F11 B C_word_at,PySem.W.mg_of X G a11,k11,F11.binds λ_ _ _ _ _ _ us hl=>by obtain ⟨_,rfl⟩:=len1 hl;rfl⟩
 have C_eased:Cal l.prog w K mg base "eased" 4 ["twists"] (spR K Yr):=⟨f12,_,Ql0 F12 B C_step C_next_step,PySem.W.mg_of X G a12,k12,F12.binds λ_ _ _ _ _ _ us hl=>by obtain ⟨_,rfl⟩:=len1 hl;rfl⟩
 have C_gathered:Cal l.prog w K mg base "gathered" 1 ["terms"] (spR K Vl):=⟨f13,_,Qfa F13 B,PySem.W.mg_of X G a13,k13,F13.binds λ_ _ _ _ _ _ us hl=>by obtain ⟨_,rfl⟩:=len1 hl;rfl⟩
 have C_minus:Cal l.prog w K mg base "minus" 2 ["one","other"] (spR K Qa2):=⟨f14,_,Qlz F14 B C_gathered,PySem.W.mg_of X G a14,k14,F14.binds λ_ _ _ _ _ _ us hl=>by obtain ⟨_,_,rfl⟩:=len2 hl;rfl⟩
 have C_lifted:Cal l.prog w K mg base "lifted" 1 ["one","many"] (spR K Vy):=⟨f15,_,Qjb F15 B,PySem.W.mg_of X G a15,k15,F15.binds λ_ _ _ _ _ _ us hl=>by obtain ⟨_,_,rfl⟩:=len2 hl;rfl⟩
 have C_value:Cal l.prog w K mg base "value" 1 ["twists"] (spR K Ze):=⟨f16,_,Qly F16 B,PySem.W.mg_of X G a16,k16,F16.binds λ_ _ _ _ _ _ us hl=>by obtain ⟨_,rfl⟩:=len1 hl;rfl⟩
 have C_exchanged:Cal l.prog w K mg base "exchanged" 1 ["told"] (spR K Zl):=⟨f17,_,Qd6 F17 B,PySem.W.mg_of X G a17,k17,F17.binds λ_ _ _ _ _ _ us hl=>by obtain ⟨_,rfl⟩:=len1 hl;rfl⟩
 have C_half_twisted_sums:Cal l.prog w K mg base "half_twisted_sums" 3 ["told","sign"] (spR K Ja):=⟨f18,_,Uv F18 B C_minus C_lifted,PySem.W.mg_of X G a18,k18,F18.binds λ_ _ _ _ _ _ us hl=>by obtain ⟨_,_,rfl⟩:=len2 hl;rfl⟩
 have C_followed:Cal l.prog w K mg base "followed" 4 ["twists","start","turned","twisted_once"] (spR K Vm):=⟨f19,_,Qfb F19 B C_exchanged C_half_twisted_sums,PySem.W.mg_of X G a19,k19,F19.binds λ_ _ _ _ _ _ us hl=>by obtain ⟨_,_,_,_,rfl⟩:=len4 hl;rfl⟩
 have C_twisted_sums:Cal l.prog w K mg base "twisted_sums" 5 ["twists"] (spR K Je):=⟨f20,_,Qar F20 B C_followed,PySem.W.mg_of X G a20,k20,F20.binds λ_ _ _ _ _ _ us hl=>by obtain ⟨_,rfl⟩:=len1 hl;rfl⟩
 have C__law_twists:Cal l.prog w K mg base "_law_twists" 1 ["_law_cells","_law_most"] (spR K Ya):=⟨f21,_,Qbi F21 B,PySem.W.mg_of X G a21,k21,F21.binds λ_ _ _ _ _ _ us hl=>by obtain ⟨_,_,rfl⟩:=len2 hl;rfl⟩
 have C__law_step:Cal l.prog w K mg base "_law_step" 1 ["_law_twists_here","_law_word","_law_at"] (spR K Vj):=⟨f22,_,Qd7 F22 B,PySem.W.mg_of X G a22,k22,F22.binds λ_ _ _ _ _ _ us hl=>by obtain ⟨_,_,_,rfl⟩:=len3 hl;rfl⟩
 have C__law_lifted:Cal l.prog w K mg base "_law_lifted" 1 ["_law_one","_law_heft"] (spR K Yb):=⟨f23,_,Qbj F23 B,PySem.W.mg_of X G a23,k23,F23.binds λ_ _ _ _ _ _ us hl=>by obtain ⟨_,_,rfl⟩:=len2 hl;rfl⟩
 have C__law_next:Cal l.prog w K mg base "_law_next" 1 ["_law_twists_here"] (spR K Z0):=⟨f24,_,Qd8 F24 B,PySem.W.mg_of X G a24,k24,F24.binds λ_ _ _ _ _ _ us hl=>by obtain ⟨_,rfl⟩:=len1 hl;rfl⟩
 have C__law_walked:Cal l.prog w K mg base "_law_walked" 2 ["_law_twists_here"] (spR K Zb):=⟨f25,_,Qbh F25 B C__law_step C__law_next,PySem.W.mg_of X G a25,k25,F25.binds λ_ _ _ _ _ _ us hl=>by obtain ⟨_,rfl⟩:=len1 hl;rfl⟩
 have C__law_least:Cal l.prog w K mg base "_law_least" 1 ["_law_twists_here"] (spR K Zj):=⟨f26,_,Qcp F26 B,PySem.W.mg_of X G a26,k26,F26.binds λ_ _ _ _ _ _ us hl=>by obtain ⟨_,rfl⟩:=len1 hl;rfl⟩
 have C__law_other:Cal l.prog w K mg base "_law_other" 1 ["_law_twists_here","_law_cell"] (spR K Zi):=⟨f27,_,Qco F27 B,PySem.W.mg_of X G a27,k27,F27.binds λ_ _ _ _ _ _ us hl=>by obtain ⟨_,_,rfl⟩:=len2 hl;rfl⟩
 exact Qr3 F28 B C_led C_least_list C_eased C_value C_twisted_sums C__law_twists C__law_lifted C__law_walked C__law_least C__law_other
theorem Qsg {K:PySem.W.Frag} {H:Hp} {a:Addr} {ns:List Int} (hl:ns.length<=63) (ho:Only H) (hS:SqL K H a (ns.map V.int)):spR K Qjx [.ref a] H (λv _=>v=.bl true) λ_ _ _=>False:=by
 have fz:FzL K H a (ns.map V.int):=by
  rcases hS with (h | h) | h
  ·rcases ho a with z | ⟨o,xs,z⟩
   ·rw [z] at h;cases h
   ·rw [z] at h;cases h
  ·exact .inl h
  ·exact .inr h
 refine ⟨[.kls (ns.map .int)],[],λd=>d=.bl true,?_,⟨ns,rfl,hl,rfl⟩,λv H' d F' fi hd=>?_⟩
 ·exact .cons (F:=[]) (G:=[]) (.kls fz (Reps.ints ns)) .nil
 ·subst hd
  exact Qb1 fi.rep
theorem walk {l:PySem.W.OpenLaw} {q:Program} {loose:List Str} {XP:(Str->Option Value)->Heap->Prop} {YP:World->Heap->Prop} {d:DefRec} {K:Params->PySem.W.Frag} (hn:l.most=some 63) (hdf:d.params.defaults=[])
  (hY:∀(w:World) (h:Heap),YP w h->(K w.params).In h)
  (F:∀(w:World) (mg:Str->Option Value) (fa:Addr) (h:Heap),(K w.params).In h->h.Ns mainGlobals mg->mg d.name=some (.ref fa) ->
   ∃fd:FuncData,(∀(s:Shared) (u:Value),BindsTo s fd ⟨[u],[]⟩ [("_law_script",u)])/\∀base:Heap,(K w.params).In base->base.Ns mainGlobals mg->FnOk l.prog w (K w.params) mg base CX0 6 fa fd ["_law_script"] (spR (K w.params) Qjx)) :
  PySem.W.WalkO q loose XP YP l.row.toRowW d [] (λf vs=>PySem.call f vs) :=
 L2.Qn0 (n:=63) (k:=6) (x:="_law_script") (CX:=λ_=>CX0) (sp:=λw=>spR (K w.params) Qjx) hn (by decide) hdf ⟨rfl,by decide,by decide⟩ hY F (λ_ _ a ns hl ho hS=>Qsg hl ho hS) λ_ _ _ _ _ z=>z
end K70
open PySem PySem.W PyProof.Rows
def PySem.W.Fast.tw86736035647350703:=0
def PySem.W.Fast.tw6130003967451533808:=0
def PySem.W.Fast.tw16986567948299278074:=0
def PySem.W.Fast.tw14390981414304288432:=0
def PySem.W.Fast.tw6074987425273477715:=0
def PySem.W.Fast.tw16399400405933228935:=0
def PySem.W.Fast.tw5753663096245585218:=0
def PySem.W.Fast.tw7456749034708319239:=0
def PySem.W.Fast.tw6706936169659576199:=0
def PySem.W.Fast.tw1161829822539544901:=0
def PySem.W.Fast.tw2317870949929453375:=0
def PySem.W.Fast.tw18064053839883855158:=0
def PySem.W.Fast.tw3860193145056322733:=0
def PySem.W.Fast.tw11080058708567413450:=0
def PySem.W.Fast.tw16634016445046034620:=0
def PySem.W.Fast.tw5095328304069328635:=0
def PySem.W.Fast.tw8563509183628392652:=0
def PySem.W.Fast.tw11915460780444771275:=0
def PySem.W.Fast.tw1252153872907539929:=0
def PySem.W.Fast.tw2083201698710336019:=0
def PySem.W.Fast.tw8704685647942241407:=0
def PySem.W.Fast.tw9616385283621906908:=0
def PySem.W.Fast.tw5053106616479989554:=0
def PySem.W.Fast.tw2536223632180033386:=0
def PySem.W.Fast.tw8933602979999529452:=0
def PySem.W.Fast.tw16025788566882253315:=0
def PySem.W.Fast.tw11895033192000274155:=0
def PySem.W.Fast.tw511876990378569532:=0
def PySem.W.Fast.tw12589794470738756418:=0
def PySem.W.Fast.tw12630091113955619062:=0
def PySem.W.Fast.tw8449473881601132214:=0
def PySem.W.Fast.tw15915102509382858731:=0
def PySem.W.Fast.tw18359806629332516187:=0
def PySem.W.Fast.tw8682319502985293184:=0
def PySem.W.Fast.tw2067531580561345934:=0
def PySem.W.Fast.tw4170755332142530355:=0
def PySem.W.Fast.tw3281947299931991073:=0
def PySem.W.Fast.tw5477665737405778485:=0
def PySem.W.Fast.tw12144355754081787882:=0
def PySem.W.Fast.tw267147869899244412:=0
def PySem.W.Fast.tw11802618098215069433:=0
def PySem.W.Fast.tw4498014995889488145:=0
def PySem.W.Fast.tw4676349203491206371:=0
def PySem.W.Fast.tw12699961901858147561:=0
def PySem.W.Fast.tw15288233695435848818:=0
def PySem.W.Fast.tw5431249105224090273:=0
def PySem.W.Fast.tw9197440008376261153:=0
def PySem.W.Fast.tw16151614615711035193:=0
def PySem.W.Fast.tw13432265991872979704:=0
def PySem.W.Fast.tw18397315656597596749:=0
def PySem.W.Fast.tw5757557697912454152:=0
def PySem.W.Fast.tw13360110390533281401:=0
def PySem.W.Fast.tw16773385827298728556:=0
def PySem.W.Fast.tw3211560669749894531:=0
def PySem.W.Fast.tw786067408961079215:=0
def PySem.W.Fast.tw7818478069321423554:=0
def PySem.W.Fast.tw10747088630025849149:=0
def PySem.W.Fast.tw2292277499730695760:=0
def PySem.W.Fast.tw1254995292524320080:=0
def PySem.W.Fast.tw8697007917447564730:=0
def PySem.W.Fast.tw10453586566268596157:=0
def PySem.W.Fast.tw8438827405036317228:=0
def PySem.W.Fast.tw12027168587788758455:=0
def PySem.W.Fast.tw17301282395411566161:=0
def PySem.W.Fast.tw10393751937797069098:=0
def PySem.W.Fast.tw9998751766368708712:=0
def PySem.W.Fast.tw7022211526213544446:=0
def PySem.W.Fast.tw5844279367854493085:=0
def PySem.W.Fast.tw14333247412322172466:=0
def PySem.W.Fast.tw14294499999074700822:=0
def PySem.W.Fast.tw9211396578051456299:=0
def PySem.W.Fast.tw14257563322680846656:=0
def PySem.W.Fast.tw1215648163624010498:=0
def PySem.W.Fast.tw11755021059004719882:=0
def PySem.W.Fast.tw6309447708255776783:=0
def PySem.W.Fast.tw11337453141955886215:=0
def PySem.W.Fast.tw12452324116529624916:=0
def PySem.W.Fast.tw7780902129427732774:=0
def PySem.W.Fast.tw3299682154761928224:=0
def PySem.W.Fast.tw11757207249057659061:=0
def PySem.W.Fast.tw5777849759389978393:=0
def PySem.W.Fast.tw7143532689991296291:=0
def PySem.W.Fast.tw1676055942172109270:=0
def PySem.W.Fast.tw5596973804614891555:=0
def PySem.W.Fast.tw12777025055734451255:=0
def PySem.W.Fast.tw688594014819101911:=0
def PySem.W.Fast.tw18339078648626727228:=0
def PySem.W.Fast.tw10361046215329723682:=0
def PySem.W.Fast.tw8305562703947679060:=0
def PySem.W.Fast.tw12897490263737695941:=0
def PySem.W.Fast.tw13192930213751650465:=0
def PySem.W.Fast.tw7168098189792127676:=0
def PySem.W.Fast.tw13710845621284865492:=0
def PySem.W.Fast.tw1154593402328878930:=0
def PySem.W.Fast.tw3490028908086446324:=0
def PySem.W.Fast.tw12909793225486411604:=0
def PySem.W.Fast.tw5246405275735851997:=0
def PySem.W.Fast.tw4291433402381664418:=0
def PySem.W.Fast.tw1671121558528553354:=0
def PySem.W.Fast.tw11535954961679242476:=0
def PySem.W.Fast.tw17384080701113179735:=0
def PySem.W.Fast.tw5246037860169487808:=0
def PySem.W.Fast.tw3661859433837012517:=0
def PySem.W.Fast.tw7138534024543565799:=0
def PySem.W.Fast.tw5508183891909927938:=0
def PySem.W.Fast.tw15247435681689247858:=0
def PySem.W.Fast.tw12764571519355566774:=0
def PySem.W.Fast.tw15531507349688362805:=0
def PySem.W.Fast.tw13974525196435289099:=0
def PySem.W.Fast.tw8060321631962627662:=0
def PySem.W.Fast.tw13489344534267013365:=0
def PySem.W.Fast.tw12547286124361000612:=0
def PySem.W.Fast.tw1225069330982516959:=0
def PySem.W.Fast.tw10262174021073408469:=0
def PySem.W.Fast.tw2508894258784346874:=0
def PySem.W.Fast.tw12321628180910946496:=0
def PySem.W.Fast.tw3148530116717190484:=0
def PySem.W.Fast.tw8864190719737049662:=0
def PySem.W.Fast.tw3786283303497403750:=0
def PySem.W.Fast.tw15513924518889994076:=0
def PySem.W.Fast.tw14489751707934049142:=0
def PySem.W.Fast.tw12048907695736296001:=0
def PySem.W.Fast.tw3452798387201893273:=0
def PySem.W.Fast.tw4083878076878021685:=0
def PySem.W.Fast.tw15972911471486589032:=0
def PySem.W.Fast.tw4343082143852545660:=0
def PySem.W.Fast.tw15865924195347094733:=0
def PySem.W.Fast.tw17552236778483156835:=0
def PySem.W.Fast.tw4696689667445516021:=0
def PySem.W.Fast.tw774726517343473154:=0
def PySem.W.Fast.tw7770952756863517216:=0
def PySem.W.Fast.tw16428439551932739859:=0
def PySem.W.Fast.tw13255959609244473597:=0
def PySem.W.Fast.tw2258306362775989018:=0
def PySem.W.Fast.tw16020711724480042956:=0
def PySem.W.Fast.tw13729088709251288124:=0
def PySem.W.Fast.tw10637600149412693246:=0
def PySem.W.Fast.tw7521511949236162381:=0
def PySem.W.Fast.tw12100441400210381496:=0
def PySem.W.Fast.tw13888078835721112807:=0
def PySem.W.Fast.tw14621989775543992886:=0
def PySem.W.Fast.tw4658003673934602589:=0
def PySem.W.Fast.tw8606764871961665477:=0
def PySem.W.Fast.tw9808933742626121655:=0
def PySem.W.Fast.tw3659013008885509538:=0
def PySem.W.Fast.tw4442409884326771936:=0
def PySem.W.Fast.tw15524021823362251072:=0
def PySem.W.Fast.tw13457981077657184353:=0
def PySem.W.Fast.tw12585637584800795262:=0
def PySem.W.Fast.tw50252229228300260:=0
def PySem.W.Fast.tw1119045113031523010:=0
def PySem.W.Fast.tw14058152694944249367:=0
def PySem.W.Fast.tw10984345375962913083:=0
def PySem.W.Fast.tw10132172439097638525:=0
def PySem.W.Fast.tw2957333954034437057:=0
def PySem.W.Fast.tw4929403570384425771:=0
def PySem.W.Fast.tw2801380529666567739:=0
def PySem.W.Fast.tw11103792073178625991:=0
def PySem.W.Fast.tw9615381931188029047:=0
def PySem.W.Fast.tw10171368563786396234:=0
def PySem.W.Fast.tw8925006517612521081:=0
def PySem.W.Fast.tw12355848619888499160:=0
def PySem.W.Fast.tw10136556007104947385:=0
def PySem.W.Fast.tw10651307555106295039:=0
def PySem.W.Fast.tw15680260190081931777:=0
def PySem.W.Fast.tw15144142625447379760:=0
def PySem.W.Fast.tw15243767387472748428:=0
def PySem.W.Fast.tw12397526618310499053:=0
def PySem.W.Fast.tw10246954086010513672:=0
def PySem.W.Fast.tw12471565157331620076:=0
def PySem.W.Fast.tw3705618480945282511:=0
def PySem.W.Fast.tw1261433661810568043:=0
def PySem.W.Fast.tw331148590705126850:=0
def PySem.W.Fast.tw3940759598148295295:=0
def PySem.W.Fast.tw11386499686286790963:=0
def PySem.W.Fast.tw8277522149679171155:=0
def PySem.W.Fast.tw9002497877382278521:=0
def PySem.W.Fast.tw1429769951377365448:=0
def PySem.W.Fast.tw13903726269268075866:=0
def PySem.W.Fast.tw7350247065750194473:=0
def PySem.W.Fast.tw15491199766094379403:=0
def PySem.W.Fast.tw5671712458506675674:=0
def PySem.W.Fast.tw1673380788327366035:=0
def PySem.W.Fast.tw6977377893188902624:=0
def PySem.W.Fast.tw7243734719266705442:=0
def PySem.W.Fast.tw11710602274826165745:=0
def PySem.W.Fast.tw6386520096189350691:=0
def PySem.W.Fast.tw4149231544432127283:=0
def PySem.W.Fast.tw16434633886410591661:=0
def PySem.W.Fast.tw12229308834163584628:=0
def PySem.W.Fast.tw16789884818119950215:=0
def PySem.W.Fast.tw3492616917383933302:=0
def PySem.W.Fast.tw8764261391146064590:=0
def PySem.W.Fast.tw1673122766436177697:=0
def PySem.W.Fast.tw16574559604546819282:=0
def PySem.W.Fast.tw6687282805270424232:=0
def PySem.W.Fast.tw7081547163662651962:=0
def PySem.W.Fast.tw227895656261915810:=0
def PySem.W.Fast.tw17362573824271028747:=0
def PySem.W.Fast.tw3632304130411611174:=0
def PySem.W.Fast.tw12056900951620954595:=0
def PySem.W.Fast.tw8697017942027969281:=0
def PySem.W.Fast.tw6090157389025472763:=0
def PySem.W.Fast.tw7721503215494144037:=0
def PySem.W.Fast.tw15668302139267807939:=0
def PySem.W.Fast.tw15037550835135887550:=0
def PySem.W.Fast.tw7035444434029435207:=0
def PySem.W.Fast.tw14151378798733023020:=0
def PySem.W.Fast.tw4166860055650012776:=0
def PySem.W.Fast.tw3676502092783056565:=0
def PySem.W.Fast.tw1714297283461837094:=0
def PySem.W.Fast.tw3014654255492619713:=0
def PySem.W.Fast.tw2504623096762010486:=0
def PySem.W.Fast.tw16484447619141977030:=0
def PySem.W.Fast.tw4959990036406350218:=0
def PySem.W.Fast.tw16340525865337330747:=0
def PySem.W.Fast.tw683742673746502639:=0
def PySem.W.Fast.tw2275926292743623012:=0
def PySem.W.Fast.tw6755310550013345884:=0
def PySem.W.Fast.tw3844004649579861206:=0
def PySem.W.Fast.tw11435179054941773782:=0
def PySem.W.Fast.tw3077369382028058844:=0
def PySem.W.Fast.tw11027176229913708785:=0
def PySem.W.Fast.tw11973507896137183851:=0
def PySem.W.Fast.tw17127128526052342914:=0
def PySem.W.Fast.tw9971009625193120707:=0
def PySem.W.Fast.tw10631427784287584567:=0
def PySem.W.Fast.tw16406117776955282402:=0
set_option maxRecDepth 100000 in
set_option maxHeartbeats 0 in
theorem PySem.Challenge.cw_tanglehouse_k70_whole_eased_holds : PySem.Challenge.rw_tanglehouse_k70_whole_eased.Holds := by
 w_on;o_law;k_head;(case hw=>w_witness2)
 k_fill
 refine K70.walk (l:=PySem.Challenge.rw_tanglehouse_k70_whole_eased) rfl rfl (λw h Y=>PySem.W.kIn_of Y) ?F
 case F =>
  intro w mg fa h KX G hmg
  refine' K70.Qtn KX G hmg ?a1 ?l1 ?c1 ?k1 ?a2 ?l2 ?c2 ?k2 ?a3 ?l3 ?c3 ?k3 ?a4 ?l4 ?c4 ?k4 ?a5 ?l5 ?c5 ?k5 ?a6 ?l6 ?c6 ?k6 ?a7 ?l7 ?c7 ?k7 ?a8 ?l8 ?c8 ?k8 ?a9 ?l9 ?c9 ?k9 ?a10 ?l10 ?c10 ?k10 ?a11 ?l11 ?c11 ?k11 ?a12 ?l12 ?c12 ?k12 ?a13 ?l13 ?c13 ?k13 ?a14 ?l14 ?c14 ?k14 ?a15 ?l15 ?c15 ?k15 ?a16 ?l16 ?c16 ?k16 ?a17 ?l17 ?c17 ?k17 ?a18 ?l18 ?c18 ?k18 ?a19 ?l19 ?c19 ?k19 ?a20 ?l20 ?c20 ?k20 ?a21 ?l21 ?c21 ?k21 ?a22 ?l22 ?c22 ?k22 ?a23 ?l23 ?c23 ?k23 ?a24 ?l24 ?c24 ?k24 ?a25 ?l25 ?c25 ?k25 ?a26 ?l26 ?c26 ?k26 ?a27 ?l27 ?c27 ?k27 ?a28 ?l28 ?c28 ?k28 ?z_abs ?z_bool ?z_enumerate ?z_int ?z_isinstance ?z_len ?z_list ?z_max ?z_range ?z_reversed ?z_sorted ?z_tuple ?z_NOUGHT ?xh_NOUGHT ?z_ONE ?xh_ONE ?z_UPRIGHT_LIST ?y_UPRIGHT_LIST ?zx_NoStep ?zc_NoStep ?zt_NoStep ?xl1 ?xl2 ?xn1 ?xn2 ?xs1 ?xs2 ?xi1 ?xi2 ?xq1 ?xq2 ?xq3 ?xq4 ?xq5
  (case a1=>k_is)
  (case l1=>k_is)
  (case c1=>k_is)
  (case k1=>k_is)
  (case a2=>k_is)
  (case l2=>k_is)
  (case c2=>k_is)
  (case k2=>k_is)
  (case a3=>k_is)
  (case l3=>k_is)
  (case c3=>k_is)
  (case k3=>k_is)
  (case a4=>k_is)
  (case l4=>k_is)
  (case c4=>k_is)
  (case k4=>k_is)
  (case a5=>k_is)
  (case l5=>k_is)
  (case c5=>k_is)
  (case k5=>k_is)
  (case a6=>k_is)
  (case l6=>k_is)
  (case c6=>k_is)
  (case k6=>k_is)
  (case a7=>k_is)
  (case l7=>k_is)
  (case c7=>k_is)
  (case k7=>k_is)
  (case a8=>k_is)
  (case l8=>k_is)
  (case c8=>k_is)
  (case k8=>k_is)
  (case a9=>k_is)
  (case l9=>k_is)
  (case c9=>k_is)
  (case k9=>k_is)
  (case a10=>k_is)
  (case l10=>k_is)
  (case c10=>k_is)
  (case k10=>k_is)
  (case a11=>k_is)
  (case l11=>k_is)
  (case c11=>k_is)
  (case k11=>k_is)
  (case a12=>k_is)
  (case l12=>k_is)
  (case c12=>k_is)
  (case k12=>k_is)
  (case a13=>k_is)
  (case l13=>k_is)
  (case c13=>k_is)
  (case k13=>k_is)
  (case a14=>k_is)
  (case l14=>k_is)
  (case c14=>k_is)
  (case k14=>k_is)
  (case a15=>k_is)
  (case l15=>k_is)
  (case c15=>k_is)
  (case k15=>k_is)
  (case a16=>k_is)
  (case l16=>k_is)
  (case c16=>k_is)
  (case k16=>k_is)
  (case a17=>k_is)
  (case l17=>k_is)
  (case c17=>k_is)
  (case k17=>k_is)
  (case a18=>k_is)
  (case l18=>k_is)
  (case c18=>k_is)
  (case k18=>k_is)
  (case a19=>k_is)
  (case l19=>k_is)
  (case c19=>k_is)
  (case k19=>k_is)
  (case a20=>k_is)
  (case l20=>k_is)
  (case c20=>k_is)
  (case k20=>k_is)
  (case a21=>k_is)
  (case l21=>k_is)
  (case c21=>k_is)
  (case k21=>k_is)
  (case a22=>k_is)
  (case l22=>k_is)
  (case c22=>k_is)
  (case k22=>k_is)
  (case a23=>k_is)
  (case l23=>k_is)
  (case c23=>k_is)
  (case k23=>k_is)
  (case a24=>k_is)
  (case l24=>k_is)
  (case c24=>k_is)
  (case k24=>k_is)
  (case a25=>k_is)
  (case l25=>k_is)
  (case c25=>k_is)
  (case k25=>k_is)
  (case a26=>k_is)
  (case l26=>k_is)
  (case c26=>k_is)
  (case k26=>k_is)
  (case a27=>k_is)
  (case l27=>k_is)
  (case c27=>k_is)
  (case k27=>k_is)
  (case a28=>k_is)
  (case l28=>k_is)
  (case c28=>k_is)
  (case k28=>k_is)
  (case z_abs=>first | k_is | rfl | decide +kernel)
  (case z_bool=>first | k_is | rfl | decide +kernel)
  (case z_enumerate=>first | k_is | rfl | decide +kernel)
  (case z_int=>first | k_is | rfl | decide +kernel)
  (case z_isinstance=>first | k_is | rfl | decide +kernel)
  (case z_len=>first | k_is | rfl | decide +kernel)
  (case z_list=>first | k_is | rfl | decide +kernel)
  (case z_max=>first | k_is | rfl | decide +kernel)
  (case z_range=>first | k_is | rfl | decide +kernel)
  (case z_reversed=>first | k_is | rfl | decide +kernel)
  (case z_sorted=>first | k_is | rfl | decide +kernel)
  (case z_tuple=>first | k_is | rfl | decide +kernel)
  (case z_NOUGHT=>first | k_is | rfl | decide +kernel)
  (case xh_NOUGHT=>kernel_rfl)
  (case z_ONE=>first | k_is | rfl | decide +kernel)
  (case xh_ONE=>kernel_rfl)
  (case z_UPRIGHT_LIST=>first | k_is | rfl | decide +kernel)
  (case y_UPRIGHT_LIST=>k_is)
  (case zx_NoStep=>first | k_is | rfl | decide +kernel)
  (case zc_NoStep=>first | k_is | rfl | decide +kernel)
  (case zt_NoStep=>first | k_is | rfl | decide +kernel)
  (case xl1=>first | k_is | rfl | decide +kernel)
  (case xl2=>first | k_is | rfl | decide +kernel)
  (case xn1=>first | k_is | rfl | decide +kernel)
  (case xn2=>first | k_is | rfl | decide +kernel)
  (case xs1=>first | k_is | rfl | decide +kernel)
  (case xs2=>first | k_is | rfl | decide +kernel)
  (case xi1=>first | k_is | rfl | decide +kernel)
  (case xi2=>first | k_is | rfl | decide +kernel)
  (case xq1=>first | k_is | rfl | decide +kernel)
  (case xq2=>first | k_is | rfl | decide +kernel)
  (case xq3=>first | k_is | rfl | decide +kernel)
  (case xq4=>first | k_is | rfl | decide +kernel)
  (case xq5=>first | k_is | rfl | decide +kernel)
