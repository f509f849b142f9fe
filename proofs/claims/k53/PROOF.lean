import PyProof.Rows.All
import Wide.All
import OpenK.AllK
import Wide.FinOn
import Lean
import PyProof.EqAt
import PyProof.EqKinds
import PyProof.TupleCall
import PyProof.EnumMake
import PyProof.EnumFor
import PyProof.Draws
import PyProof.DictWalks
import PyProof.ListRange
import PyProof.ZipIter
import PyProof.Rows.SortWalk
import PyProof.Rows.SumAny
import PyProof.TupleIter
import PyProof.MeetsStr2
import PyProof.StrWalks
import Wide.Txt
import PyProof.Rows.MinMaxN
import PySem.Challenge.RW_tanglehouse_k53_tangles_put_together
set_option Elab.async false
set_option linter.all false
set_option maxRecDepth 100000
namespace L2
open PySem PySem.Spec PyProof.Rows
abbrev Key:=Sum Int Str
def keyIs:Key->Value->Bool
 | .inl k,v=>Value.isInt k v
 | .inr x,v=>Value.isStrOf x v
def keyH (w:World):Key->Int
 | .inl k=>hashInt k
 | .inr x=>hashStr w x
theorem keyIs_shape:∀{k:Key} {v:Value},keyIs k v=true->(∃i t,k=Sum.inl i/\v=Value.int i t)\/(∃x t,k=Sum.inr x/\v=Value.str x t)
 | .inl i,v,h=>by
  obtain ⟨t,e⟩:=Value.isInt_shape (k:=i) (v:=v) h
  exact .inl ⟨i,t,rfl,e⟩
 | .inr x,v,h=>by
  obtain ⟨t,e⟩:=Value.isStrOf_shape (x:=x) (v:=v) h
  exact .inr ⟨x,t,rfl,e⟩
theorem keyIs_int (i:Int) (t:Tok):keyIs (.inl i) (.int i t)=true:=by simp [keyIs,Value.isInt]
theorem keyIs_str (x:Str) (t:Tok):keyIs (.inr x) (.str x t)=true:=by simp [keyIs,Value.isStrOf]
theorem key_ll (a b:Int):decide ((Sum.inl a:Key)=Sum.inl b)=(a == b):=by
 by_cases e:a=b
 ·subst e;simp
 ·have h:¬(Sum.inl a:Key)=Sum.inl b:=λq=>e (Sum.inl.inj q)
  rw [decide_eq_false h]
  exact (beq_eq_false_iff_ne.mpr e).symm
theorem key_rr (a b:Str):decide ((Sum.inr a:Key)=Sum.inr b)=decide (a=b):=by
 by_cases e:a=b
 ·subst e;simp
 ·have h:¬(Sum.inr a:Key)=Sum.inr b:=λq=>e (Sum.inr.inj q)
  rw [decide_eq_false h,decide_eq_false e]
theorem key_lr (a:Int) (b:Str):decide ((Sum.inl a:Key)=Sum.inr b)=false:=decide_eq_false (λq=>nomatch q)
theorem key_rl (a:Str) (b:Int):decide ((Sum.inr a:Key)=Sum.inl b)=false:=decide_eq_false (λq=>nomatch q)
def mixKind (prog:Program) (w:World):PySem.KeyKind prog w Key where
 is:=keyIs
 hash:=keyH w
 inj:=λv a b ha hb=>by
  rcases keyIs_shape ha with ⟨i,t,rfl,rfl⟩ | ⟨x,t,rfl,rfl⟩
  ·rcases keyIs_shape hb with ⟨j,u,rfl,e⟩ | ⟨y,u,rfl,e⟩
   ·injection e with e1 _;rw [e1]
   ·exact nomatch e
  ·rcases keyIs_shape hb with ⟨j,u,rfl,e⟩ | ⟨y,u,rfl,e⟩
   ·exact nomatch e
   ·injection e with e1 _;rw [e1]
 byValue:=λk v h=>by
  rcases keyIs_shape h with ⟨i,t,rfl,rfl⟩ | ⟨x,t,rfl,rfl⟩ <;> rfl
 pyHash:=λhv h=>by
  rcases keyIs_shape hv with ⟨i,t,rfl,rfl⟩ | ⟨x,t,rfl,rfl⟩
  ·exact wpAny_pyHash_int h
  ·exact wpAny_pyHash_str h
 eqBool:=λhu hv h=>by
  rcases keyIs_shape hu with ⟨i,t,rfl,rfl⟩ | ⟨x,t,rfl,rfl⟩
  ·rcases keyIs_shape hv with ⟨j,u,rfl,rfl⟩ | ⟨y,u,rfl,rfl⟩
   ·rw [key_ll] at h;exact wpAny_eqBool_int h
   ·rw [key_lr] at h;exact SeqAt.EqAt.int_str i t y u _ _ _ _ h
  ·rcases keyIs_shape hv with ⟨j,u,rfl,rfl⟩ | ⟨y,u,rfl,rfl⟩
   ·rw [key_rl] at h;exact SeqAt.EqAt.str_int x t j u _ _ _ _ h
   ·rw [key_rr] at h;exact wpAny_eqBool_str h
 «strs»:=λk x t v h=>by
  rcases keyIs_shape h with ⟨i,u,rfl,e⟩ | ⟨y,u,rfl,e⟩
  ·exact nomatch e
  ·injection e with e1 _
   subst e1
   cases v <;> rfl
theorem mixKind_is (prog:Program) (w:World) (k:Key) (v:Value):(mixKind prog w).is k v=keyIs k v:=rfl
theorem mixKind_int (prog:Program) (w:World) (i:Int) (t:Tok):(mixKind prog w).is (.inl i) (.int i t)=true:=keyIs_int i t
theorem mixKind_str (prog:Program) (w:World) (x:Str) (t:Tok):(mixKind prog w).is (.inr x) (.str x t)=true:=keyIs_str x t
end L2
namespace L2
open PySem PySem.Spec PyProof.Rows
inductive V where
 | non | bl (b:Bool) | int (i:Int) | str (x:Str) | byt (b:Array UInt8) | flt (b:UInt64) | ref (a:Addr) | ty (n:String)
 deriving DecidableEq
def RelV:V->Value->Prop
 | .non,u=>u=Value.none
 | .bl b,u=>u=Value.bool b
 | .int i,u=>∃t,u=Value.int i t
 | .str x,u=>∃t,u=Value.str x t
 | .byt b,u=>∃t,u=Value.bytes b t
 | .flt b,u=>∃t,u=Value.float b t
 | .ref a,u=>u=Value.ref a
 | .ty n,u=>u=Value.type n
abbrev Vals:List V->List Value->Prop:=Paired RelV
theorem Vals.length {xs:List V} {us:List Value} (r:Vals xs us):xs.length=us.length:=Paired.length r
theorem Vals.get:∀{xs:List V} {us:List Value} {i:Nat} {x:V},Vals xs us->xs[i]? = some x->∃u,us[i]? = some u/\RelV x u
 | _,_,_,_,.nil,e=>by simp at e
 | _,_,0,_,.cons r _,e=>by simp at e;subst e;exact ⟨_,rfl,r⟩
 | _,_,i+1,x,.cons _ t,e=>by
  obtain ⟨u,h1,h2⟩:=Vals.get (i:=i) (x:=x) t (by simpa using e)
  exact ⟨u,by simpa using h1,h2⟩
theorem Vals.set {x:V} {u:Value} (r:RelV x u):∀{xs:List V} {us:List Value} (i:Nat),Vals xs us->Vals (xs.set i x) (us.set i u)
 | _,_,_,.nil=>.nil
 | _,_,0,.cons _ t=>.cons r t
 | _,_,i+1,.cons q t=>.cons q (Vals.set r i t)
theorem Vals.append:∀{xs ys:List V} {us ws:List Value},Vals xs us->Vals ys ws->Vals (xs++ys) (us++ws)
 | _,_,_,_,.nil,s=>s
 | _,_,_,_,.cons r t,s=>.cons r (Vals.append t s)
theorem Vals.take:∀{xs:List V} {us:List Value} (n:Nat),Vals xs us->Vals (xs.take n) (us.take n)
 | _,_,0,_=>.nil
 | _,_,_+1,.nil=>.nil
 | _,_,n+1,.cons r t=>.cons r (Vals.take n t)
theorem Vals.drop:∀{xs:List V} {us:List Value} (n:Nat),Vals xs us->Vals (xs.drop n) (us.drop n)
 | _,_,0,r=>r
 | _,_,_+1,.nil=>.nil
 | _,_,n+1,.cons _ t=>Vals.drop n t
theorem Vals.none_of:∀{xs:List V} {us:List Value} {i:Nat},Vals xs us->xs[i]? = none->us[i]? = none:=λ{xs us i} r e=>by
 have h1:=r.length
 have h2:xs.length<=i:=List.getElem?_eq_none_iff.mp e
 exact List.getElem?_eq_none_iff.mpr (by omega)
def RelO:Option V->Option Value->Prop
 | some v,some u=>RelV v u
 | none,none=>True
 | _,_=>False
def KV {κ:Type}:List (κ × V)->List (κ × Value)->Prop:=Paired λ(p:κ × V) (q:κ × Value)=>p.1=q.1/\RelV p.2 q.2
def kV:Key->V
 | .inl i=>.int i
 | .inr x=>.str x
inductive HO where
 | lst (xs:List V)
 | tup (xs:List V)
 | dK (kvs:List (Key × V)) | dT (kvs:List (List Key × V))
 | set (S:Int->Bool) (n:Nat)
 | ins (C dx:Addr) (fs:List (Str × V))
 | own (x:Addr)
 | xd (fs:List (Str × V))
 | met (f x:Addr)
 | rng (lo hi:Int)
 | frz (o:Obj) (u:HO)
 | tbl (ps:Array Value)
 | ext (φ:Heap->Prop)
abbrev Hp:=Addr->Option HO
def upd (H:Hp) (a:Addr) (o:HO):Hp:=λb=>if b=a then some o else H b
theorem upd_same {H:Hp} {a:Addr} {o:HO}:upd H a o a=some o:=by unfold upd;rw [if_pos rfl]
theorem upd_ne {H:Hp} {a b:Addr} {o:HO} (h:b≠a):upd H a o b=H b:=by unfold upd;rw [if_neg h]
theorem ne_of {H:Hp} {a b:Addr} {o u:HO} (h:H a=some o) (h':H b=some u) (d:o≠u):a≠b:=by
 intro e;subst e;rw [h] at h';exact d (Option.some.inj h')
theorem ne_of_none {H:Hp} {a b:Addr} {o:HO} (h:H a=some o) (h':H b=none):a≠b:=by
 intro e;subst e;rw [h] at h';cases h'
section
variable (P:Program) (w:World)
def ObjOk (H:Hp) (h:Heap) (a:Addr):HO->Prop
 | .lst xs=>xs.length<=sizeLine/\∃(its:List Value) (n:Nat),Vals xs its/\h.get? a=some { cls:=.type "list",data:=.seq its.toArray n }
 | .tup xs=>xs.length<=sizeLine/\∃its:List Value,Vals xs its/\IsTup h a its.toArray
 | .dK kvs=>kvs.length<=sizeLine/\(a == sysModules)=false/\∃vs,KV kvs vs/\h.DictOf (mixKind P w) a vs
 | .dT kvs=>kvs.length<=sizeLine/\(a == sysModules)=false/\∃xs:List (List Key × Addr × Value),
   Paired (λ(p:List Key × V) (q:List Key × Addr × Value)=>p.1=q.1/\H q.2.1=some (.tup (p.1.map kV))/\RelV p.2 q.2.2) kvs xs /\
   ∃o es ep,h.get? a=some o/\o.ExactDict/\o.data=.dict es ep/\es.toList=xs.map (entryOfKey (tupleKind (mixKind P w)))/\(xs.map (·.1)).Nodup
 | .set S n=>h.SetOf (intKind P w) a S n
 | .ins C dx fs=>H dx=some (.own a)/\fs.length<=1000/\dx≠a/\h.get? a=some (PySem.W.instObj C dx) /\
   ∃mA,h.Ns1 dx mA/\(∀f,RelO (fs.lookup f) (mA f))/\PySem.Within mA (fs.map (·.1))
 | .own _=>∃o,h.get? a=some o
 | .xd fs=>∃mA,h.Ns1 a mA/\∀f,RelO (fs.lookup f) (mA f)
 | .rng lo hi=>∃t u v,h.get? a=some { cls:=.type "range",data:=.fields #[.int lo t,.int hi u,.int 1 v] }
 | .frz o u=>h.get? a=some o/\ObjOk H h a u
 | .tbl ps=>∃ts:Array Value,h.get? a=some { cls:=.none,data:=.fields ts }/\(ts = #[]\/∃(b:Addr) (oc:Obj) (u:HO) (vs:Array Value) (t:Tok) (q:Str) (t':Tok),ts = #[ps.getD 0 .none,ps.getD 1 .none,.ref b]/\H b=some (.frz oc u)/\oc.data=.fields vs/\ps.getD 2 .none=.str q t'/\vs[1]? = some (.str q t))
 | .met f x=>h.get? a=some (PySem.W.methodObj (.ref f) (.ref x))
 | .ext φ=>φ h/\(∃o,h.get? a=some o)/\∀h1 h2:Heap,φ h1->(∀o,h1.get? a=some o->h2.get? a=some o)->φ h2
def HOk (H:Hp) (h:Heap):Prop:=∀a o,H a=some o->ObjOk P w H h a o
end
section
variable {P:Program} {w:World} {H H':Hp} {h h':Heap} {a:Addr} {o:HO}
theorem ObjOk.lt (x:ObjOk P w H h a o):a<h.objs.size:=by
 cases o with
 | lst xs=>obtain ⟨_,_,_,_,e⟩:=x;exact Heap.lt_size e
 | tup xs=>obtain ⟨_,_,_,p⟩:=x;exact p.lt
 | dK kvs=>obtain ⟨_,_,_,_,o,_,_,e,_⟩:=x;exact Heap.lt_size e
 | dT kvs=>obtain ⟨_,_,_,_,o,_,_,e,_⟩:=x;exact Heap.lt_size e
 | set S n=>obtain ⟨o,_,_,_,e,_⟩:=x;exact Heap.lt_size e
 | ins C dx fs=>obtain ⟨_,_,_,e,_⟩:=x;exact Heap.lt_size e
 | own y=>obtain ⟨_,e⟩:=x;exact Heap.lt_size e
 | xd fs=>obtain ⟨_,⟨_,_,_,e,_⟩,_⟩:=x;exact Heap.lt_size e
 | rng lo hi=>obtain ⟨_,_,_,e⟩:=x;exact Heap.lt_size e
 | frz ob u=>obtain ⟨e,_⟩:=x;exact Heap.lt_size e
 | tbl ps=>obtain ⟨_,e,_⟩:=x;exact Heap.lt_size e
 | met f y=>exact Heap.lt_size (show h.get? a=some _ from x)
 | ext φ=>obtain ⟨_,⟨_,e⟩,_⟩:=x;exact Heap.lt_size e
theorem Paired.mapP {α β:Type} {F G:α->β->Prop}:∀{l₁:List α} {l₂:List β},Paired F l₁ l₂->(∀a b,F a b->G a b)->Paired G l₁ l₂
 | _,_,.nil,_=>.nil
 | _,_,.cons r t,f=>.cons (f _ _ r) (Paired.mapP t f)
theorem ObjOk.stay (x:ObjOk P w H h a o) (k:∀b u,(b=a\/H b=some (.own a))->h.get? b=some u->h'.get? b=some u)
  (ho:∀b,H b=some (.own a)->H' b=some (.own a)) (ht:∀b xs,H b=some (.tup xs)->H' b=some (.tup xs)) (hf:∀b u v vs,H b=some (.frz u v)->u.data=.fields vs->H' b=some (.frz u v):=by exact λ_ _ _ _ q _=>q):ObjOk P w H' h' a o:=by
 induction o with
 | lst xs=>obtain ⟨z,its,n,r,e⟩:=x;exact ⟨z,its,n,r,k _ _ (.inl rfl) e⟩
 | tup xs=>obtain ⟨z,its,r,ob,e,c⟩:=x;exact ⟨z,its,r,ob,k _ _ (.inl rfl) e,c⟩
 | dK kvs=>obtain ⟨z,y,vs,r,ob,es,ep,e,c⟩:=x;exact ⟨z,y,vs,r,ob,es,ep,k _ _ (.inl rfl) e,c⟩
 | dT kvs =>
  obtain ⟨z,y,xs,r,ob,es,ep,e,c⟩:=x
  exact ⟨z,y,xs,Paired.mapP r λp q z=>⟨z.1,ht _ _ z.2.1,z.2.2⟩,ob,es,ep,k _ _ (.inl rfl) e,c⟩
 | set S n=>obtain ⟨ob,es,ep,t,e,c⟩:=x;exact ⟨ob,es,ep,t,k _ _ (.inl rfl) e,c⟩
 | ins C dx fs =>
  obtain ⟨d,z,ne,e,mA,⟨od,es,ep,e2,c⟩,r⟩:=x
  exact ⟨ho _ d,z,ne,k _ _ (.inl rfl) e,mA,⟨od,es,ep,k _ _ (.inr d) e2,c⟩,r⟩
 | own y=>obtain ⟨ob,e⟩:=x;exact ⟨ob,k _ _ (.inl rfl) e⟩
 | xd fs=>obtain ⟨mA,⟨od,es,ep,e,c⟩,r⟩:=x;exact ⟨mA,⟨od,es,ep,k _ _ (.inl rfl) e,c⟩,r⟩
 | rng lo hi=>obtain ⟨t,u,v,e⟩:=x;exact ⟨t,u,v,k _ _ (.inl rfl) e⟩
 | frz ob u ih=>obtain ⟨e,q⟩:=x;exact ⟨k _ _ (.inl rfl) e,ih q⟩
 | tbl ps =>
  obtain ⟨ts,e,r⟩:=x
  exact ⟨ts,k _ _ (.inl rfl) e,r.imp id λ⟨b,oc,u,vs,t,q,t',z1,z2,z3⟩=>⟨b,oc,u,vs,t,q,t',z1,hf _ _ _ _ z2 z3.1,z3⟩⟩
 | met f y =>
  have e:h.get? a=some (PySem.W.methodObj (.ref f) (.ref y)):=x
  show h'.get? a=some (PySem.W.methodObj (.ref f) (.ref y))
  exact k a _ (.inl rfl) e
 | ext φ=>obtain ⟨p,⟨o,e⟩,st⟩:=x;exact ⟨st _ _ p λo q=>k _ _ (.inl rfl) q,⟨o,k _ _ (.inl rfl) e⟩,st⟩
theorem HOk.lt (x:HOk P w H h) (e:H a=some o):a<h.objs.size:=(x a o e).lt
theorem HOk.fresh (x:HOk P w H h) (e:h.objs.size<=a):H a=none:=by
 cases q:H a with
 | none=>rfl
 | some u=>exact absurd (Nat.lt_of_lt_of_le (x.lt q) e) (Nat.lt_irrefl _)
theorem HOk.kept (x:HOk P w H h) (k:∀b u,h.get? b=some u->h'.get? b=some u):HOk P w H h':=λa o e =>
 (x a o e).stay (λb u _ q=>k b u q) (λ_ q=>q) λ_ _ q=>q
theorem HOk.laid (x:HOk P w H h) (k:∀b u,h.get? b=some u->h'.get? b=some u) (hp:h.objs.size<=a) (new:ObjOk P w (upd H a o) h' a o):HOk P w (upd H a o) h':=λb u e=>by
 have hn:=x.fresh hp
 by_cases hb:b=a
 ·subst hb;rw [upd_same] at e;cases e;exact new
 ·rw [upd_ne hb] at e
  exact (x b u e).stay (λc v _ q=>k c v q) (λc q=>by rw [upd_ne (ne_of_none q hn)];exact q) (λc xs q=>by rw [upd_ne (ne_of_none q hn)];exact q) λc _ _ _ q _=>by rw [upd_ne (ne_of_none q hn)];exact q
end
def Rd (H:Hp) (a:Addr) (u:HO):Prop:=H a=some u\/∃o,H a=some (.frz o u)
theorem Rd.of {H:Hp} {a:Addr} {u:HO} (h:H a=some u):Rd H a u:=.inl h
theorem Rd.ok {P:Program} {w:World} {H:Hp} {h:Heap} {a:Addr} {u:HO} (r:Rd H a u) (x:HOk P w H h):ObjOk P w H h a u:=by
 rcases r with r | ⟨o,r⟩
 ·exact x a u r
 ·obtain ⟨_,q⟩:=x a _ r
  exact q
def Mut:Option HO->Prop
 | some (.lst _)=>True
 | some (.dK _)=>True
 | some (.dT _)=>True
 | some (.set _ _)=>True
 | some (.ins _ _ _)=>True
 | some (.ext _)=>True
 | _=>False
section
variable {P:Program} {w:World} {H:Hp} {h h':Heap} {x e:Addr} {o':HO}
theorem HOk.write (ok:HOk P w H h) (mu:Mut (H x)) (he:e=x\/H e=some (.own x)) (k:∀b u,b≠e->h.get? b=some u->h'.get? b=some u) (heo:∃u,h'.get? e=some u)
  (new:ObjOk P w (upd H x o') h' x o'):HOk P w (upd H x o') h':=λb u q=>by
 have nown:∀c y,H c=some (.own y)->c≠x:=λc y r z=>by subst z;rw [r] at mu;exact mu
 have ntup:∀c xs,H c=some (.tup xs)->c≠x:=λc xs r z=>by subst z;rw [r] at mu;exact mu
 have nfrz:∀c o v,H c=some (.frz o v)->c≠x:=λc o v r z=>by subst z;rw [r] at mu;exact mu
 by_cases hb:b=x
 ·subst hb;rw [upd_same] at q;cases q;exact new
 ·rw [upd_ne hb] at q
  by_cases hbe:b=e
  ·have q':H b=some (.own x):=by
    rcases he with z | z
    ·exact absurd (hbe.trans z) hb
    ·rw [hbe];exact z
   rw [q] at q';cases q'
   obtain ⟨v,hv⟩:=heo
   exact ⟨v,by rw [hbe];exact hv⟩
  ·refine (ok b u q).stay (λc v hc r=>k c v ?_ r) (λc r=>by rw [upd_ne (nown c b r)];exact r) (λc xs r=>by rw [upd_ne (ntup c xs r)];exact r) λc o v _ r _=>by rw [upd_ne (nfrz c o v r)];exact r
   rcases hc with rfl | hc
   ·exact hbe
   ·rintro rfl
    rcases he with z | z
    ·exact nown c b hc z
    ·rw [hc] at z;cases z;exact hb rfl
end
structure Un (fs ex:List Addr) (H H':Hp) (h h':Heap):Prop where
 keep:∀b o,h.get? b=some o->H b=none->b∉fs->b∉ex->h'.get? b=some o
 slot:∀b o,h.get? b=some o->H b=none->b∈fs->b∉ex->∃sl,h'.get? b=some { o with slots:=sl }
 free:∀b o,h.get? b=some o->H b=none->b∉ex->H' b=none
 there:∀b o,h.get? b=some o->b∉ex->∃o',h'.get? b=some o'
 tups:∀b xs,H b=some (.tup xs)->H' b=some (.tup xs)
 frzs:∀b o u,H b=some (.frz o u)->H' b=some (.frz o u)
 tbls:∀b ps,H b=some (.tbl ps)->∃more,H' b=some (.tbl (ps++more))
section
variable {fs fs' ex ex':List Addr} {H H1 H2:Hp} {h h1 h2 h':Heap} {a x e:Addr} {o:HO}
theorem Un.any (u:Un fs ex H H1 h h1) {b:Addr} {ob:Obj} (q:h.get? b=some ob) (n:H b=none) (hx:b∉ex):∃sl,h1.get? b=some { ob with slots:=sl }:=by
 by_cases hb:b∈fs
 ·exact u.slot b ob q n hb hx
 ·exact ⟨ob.slots,u.keep b ob q n hb hx⟩
theorem Un.trans (a:Un fs ex H H1 h h1) (b:Un fs ex H1 H2 h1 h2):Un fs ex H H2 h h2 where
 keep:=λc ob q n hc hx=>b.keep c ob (a.keep c ob q n hc hx) (a.free c ob q n hx) hc hx
 slot:=λc ob q n hc hx=>by
  obtain ⟨sl,e1⟩:=a.slot c ob q n hc hx
  obtain ⟨sl',e2⟩:=b.slot c _ e1 (a.free c ob q n hx) hc hx
  exact ⟨sl',e2⟩
 free:=λc ob q n hx=>by
  obtain ⟨o',e1⟩:=a.there c ob q hx
  exact b.free c o' e1 (a.free c ob q n hx) hx
 there:=λc ob q hx=>by
  obtain ⟨o',e1⟩:=a.there c ob q hx
  exact b.there c o' e1 hx
 tups:=λc xs q=>b.tups c xs (a.tups c xs q)
 frzs:=λc ob xs q=>b.frzs c ob xs (a.frzs c ob xs q)
 tbls:=λc ps q=>by
  obtain ⟨m1,e1⟩:=a.tbls c ps q
  obtain ⟨m2,e2⟩:=b.tbls c _ e1
  exact ⟨m1++m2,by rw [e2,Array.append_assoc]⟩
theorem Un.kept (k:∀b u,h.get? b=some u->h'.get? b=some u):Un fs ex H H h h' :=
 ⟨λb ob q _ _ _=>k b ob q,λb ob q _ _ _=>⟨ob.slots,k b ob q⟩,λ_ _ _ n _=>n,λb ob q _=>⟨ob,k b ob q⟩,λ_ _ q=>q,λ_ _ _ q=>q,λ_ ps q=>⟨#[],by rw [q];simp⟩⟩
theorem Un.refl:Un fs ex H H h h:=Un.kept λ_ _ q=>q
theorem Un.laid (k:∀b u,h.get? b=some u->h'.get? b=some u) (hp:h.objs.size<=a) (hn:H a=none):Un fs ex H (upd H a o) h h' where
 keep:=λb u q _ _ _=>k b u q
 slot:=λb u q _ _ _=>⟨u.slots,k b u q⟩
 free:=λb u q n _=>by rw [upd_ne (Nat.ne_of_lt (Nat.lt_of_lt_of_le (Heap.lt_size q) hp))];exact n
 there:=λb u q _=>⟨u,k b u q⟩
 tups:=λb xs q=>by rw [upd_ne (ne_of_none q hn)];exact q
 frzs:=λb u xs q=>by rw [upd_ne (ne_of_none q hn)];exact q
 tbls:=λb ps q=>⟨#[],by rw [upd_ne (ne_of_none q hn),q];simp⟩
theorem Un.write (mu:Mut (H x)) (he:e=x\/H e=some (.own x)) (k:∀b u,b≠e->h.get? b=some u->h'.get? b=some u) (heo:∃u,h'.get? e=some u):Un fs ex H (upd H x o) h h':=by
 have hx:∀b,H b=none->b≠x:=λb n z=>by subst z;rw [n] at mu;exact mu
 have hb:∀b,H b=none->b≠e:=λb n z=>by
  subst z
  rcases he with r | r
  ·exact hx b n r
  ·rw [n] at r;cases r
 have hm:∀b u,H b=some u->¬Mut (some u)->b≠x:=λb u q nm z=>by subst z;rw [q] at mu;exact nm mu
 refine ⟨λb u q n _ _=>k b u (hb b n) q,λb u q n _ _=>⟨u.slots,k b u (hb b n) q⟩,λb u q n _=>by rw [upd_ne (hx b n)];exact n,λb u q _=>?_,
  λb xs q=>by rw [upd_ne (hm b _ q λz=>z)];exact q,λb u xs q=>by rw [upd_ne (hm b _ q λz=>z)];exact q,λb ps q=>⟨#[],by rw [upd_ne (hm b _ q λz=>z),q];simp⟩⟩
 by_cases hbe:b=e
 ·subst hbe;exact heo
 ·exact ⟨u,k b u hbe q⟩
theorem Un.mono (u:Un fs ex H H1 h h1) (hs:∀b∈fs,b∈fs') (hx:∀b∈ex,b∈ex'):Un fs' ex' H H1 h h1 :=
 ⟨λb ob q n hb he=>u.keep b ob q n (λz=>hb (hs b z)) λz=>he (hx b z),λ_ _ q n _ he=>u.any q n λz=>he (hx _ z),λb ob q n he=>u.free b ob q n λz=>he (hx b z),λb ob q he=>u.there b ob q λz=>he (hx b z),u.tups,u.frzs,u.tbls⟩
end
def trk (h:Heap) (H:Hp):List Addr:=(List.range h.objs.size).filter λa=>(H a).isSome
def hidT (h:Heap) (H:Hp):Heap:=PySem.W.hideAll h (trk h H)
theorem hidT_size (h:Heap) (H:Hp):(hidT h H).objs.size=h.objs.size:=PySem.W.hideAll_size _ _
theorem hidT_get {h:Heap} {H:Hp} {b:Addr} {o:Obj} (e:h.get? b=some o) (n:H b=none):(hidT h H).get? b=some o :=
 PySem.W.hideAll_get _ e λhm=>by
  have q:(H b).isSome=true:=(List.mem_filter.mp hm).2
  rw [n] at q;simp at q
theorem of_hidT {h:Heap} {H:Hp} {b:Addr} {o:Obj} (e:(hidT h H).get? b=some o):h.get? b=some o/\H b=none:=by
 have e':h.get? b=some o:=PySem.W.of_hideAll (trk h H) e
 refine ⟨e',?_⟩
 cases q:H b with
 | none=>rfl
 | some x =>
  have hm:b∈trk h H:=List.mem_filter.mpr ⟨List.mem_range.mpr (Heap.lt_size e'),by simp [q]⟩
  have z:(hidT h H).get? b=none:=PySem.W.hideAll_none (trk h H) hm
  rw [z] at e;cases e
def allNews (g h:Heap) (L:Addr):List (Addr × Obj):=(List.range h.objs.size).filterMap λa=>if a=L\/(g.get? a).isSome=true then none else (h.get? a).map λo=>(a,o)
def rest (g h:Heap) (L d:Addr):List (Addr × Obj):=(allNews g h L).filter λp=>decide (p.1≠d)
end L2
namespace L2
open PySem PySem.Spec PyProof.Rows
structure Mod (K:PySem.W.Frag) (mg:Str->Option Value) (base:Heap):Prop where
 kin:K.In base
 glob:base.Ns mainGlobals mg
 blt:∃mb,base.Ns builtinsNs mb/\∀x:Str,x ≠ "__name__" -> mb x=bootBuiltins x
 nolimit:base.NoLimit
structure Cx where
 prog:Program
 w:World
 K:PySem.W.Frag
 mg:Str->Option Value
 base:Heap
 A:Around
 N:List Str
 s₀:Shared
 H₀:Hp
 env:Env
 outer:List Env
 stack:List Env
 ex:List Addr
 fn:Str->Bool
 calm:Bool
 pn:List (Addr × Obj)
 xe:Value->Shared->Prop
def frs (l:List Env):List Addr:=l.filterMap (·.frame)
abbrev Cx.fs (X:Cx):List Addr:=frs X.outer
def Vis (sc:Scope) (x:Str):Prop:=sc.names.lookup x=some .local\/sc.names.lookup x=some .cell\/sc.names.lookup x=some .free
def Loc (sc:Scope) (x:Str):Prop:=sc.names.lookup x=some .local\/sc.names.lookup x=some .cell
def Look (env:Env) (h:Heap) (m:Str->Option Value) (x:Str) (u:Value):Prop :=
 (env.kindOf x=some .local/\m x=some u)\/((env.kindOf x=some .cell\/env.kindOf x=some .free)/\∃c,env.cells.lookup x=some c/\h.IsCell c (some u))
structure Cx.Ok (X:Cx):Prop where
 mod:Mod X.K X.mg X.base
 kind:X.env.scope.kind=.function
 glob:X.env.globals=mainGlobals
 blt:X.env.builtins=builtinsNs
 above:X.s₀.heap.objs.size<=X.env.locals
 inj:∀x y c,X.env.cells.lookup x=some c->X.env.cells.lookup y=some c->x=y
 has:∀x,(X.env.kindOf x=some .cell\/X.env.kindOf x=some .free)->∃c,X.env.cells.lookup x=some c
 cab:∀x c,X.fn x=true->X.env.cells.lookup x=some c->X.s₀.heap.objs.size<=c
 hd:X.calm=true->X.A.handled=none
 frames:X.A.frames=some X.stack
 stk:X.stack=X.outer\/(X.stack=X.env::X.outer/\X.env.frame=some X.env.locals)
 exf:∀b∈X.ex,b≠X.env.locals/\∀x c,X.env.cells.lookup x=some c->c≠b
 bs:∀b o,X.base.get? b=some o->X.s₀.heap.get? b=some o/\X.H₀ b=none
 bsz:X.base.objs.size<=X.s₀.heap.objs.size
 noex:∀b o,X.base.get? b=some o->b∉X.ex
 exfs:∀b∈X.ex,b∉X.fs
 funs:X.s₀.heap.FunFrames X.base X.outer
 frf:∀b∈X.fs,X.H₀ b=none
structure Inv (X:Cx) (pins:List (Addr × Obj)) (σ:List (Option V)) (H:Hp) (s:Shared):Prop where
 ok:X.Ok
 os:s.os=X.s₀.os
 bare:AllBare s.gens
 base:Un X.fs X.ex X.H₀ H X.s₀.heap s.heap
 loc:∃m,s.heap.Ns X.env.locals m/\∀(i:Nat) (x:Str) (v:V),X.N[i]? = some x->σ[i]? = some (some v)->Vis X.env.scope x->∃u,RelV v u/\Look X.env s.heap m x u
 cell:∀x c,X.env.cells.lookup x=some c->∃v,s.heap.IsCell c v
 free:H X.env.locals=none
 freeC:∀x c,X.env.cells.lookup x=some c->H c=none
 pin:∀p∈X.pn++pins,s.heap.get? p.1=some p.2/\H p.1=none/\p.1≠X.env.locals/\p.1∉X.fs/\∀v,p.2.data ≠ .cell v
 hok:HOk X.prog X.w H s.heap
 len:σ.length=X.N.length
section
variable {X:Cx} {pins:List (Addr × Obj)} {σ:List (Option V)} {H H':Hp} {s:Shared} {h':Heap}
theorem Cx.Ok.nofr (ok:X.Ok) {b:Addr} {o:Obj} (e:X.base.get? b=some o):b∉X.fs:=λhb=>by
 have:=(ok.funs.mem hb).1
 rw [e] at this;cases this
theorem Inv.bs (I:Inv X pins σ H s):∀b o,X.base.get? b=some o->s.heap.get? b=some o/\H b=none:=λb o e =>
 ⟨I.base.keep b o (I.ok.bs b o e).1 (I.ok.bs b o e).2 (I.ok.nofr e) (I.ok.noex b o e),I.base.free b o (I.ok.bs b o e).1 (I.ok.bs b o e).2 (I.ok.noex b o e)⟩
theorem Inv.bk (I:Inv X pins σ H s):∀b o,X.base.get? b=some o->s.heap.get? b=some o:=λb o e=>(I.bs b o e).1
theorem Inv.mod (I:Inv X pins σ H s):Mod X.K X.mg X.base:=I.ok.mod
theorem Inv.kIn (I:Inv X pins σ H s):X.K.In s.heap:=I.ok.mod.kin.keeps I.bk
theorem Inv.nolimit (I:Inv X pins σ H s):s.heap.NoLimit:=I.ok.mod.nolimit.keeps I.bk
theorem Inv.fr (I:Inv X pins σ H s):∃m,Fr X.base X.env.locals s.heap m :=
 let ⟨m,hn,_⟩:=I.loc
 ⟨m,hn,I.bk,Nat.le_trans I.ok.bsz I.ok.above⟩
theorem Inv.lt (I:Inv X pins σ H s):X.env.locals<s.heap.objs.size:=let ⟨_,hn,_⟩:=I.loc;hn.lt
theorem Inv.sz (I:Inv X pins σ H s):X.s₀.heap.objs.size<=s.heap.objs.size:=Nat.le_trans I.ok.above (Nat.le_of_lt I.lt)
theorem Inv.nofs (I:Inv X pins σ H s) {a:Addr} (h:s.heap.objs.size<=a):a∉X.fs:=λhb=>by
 obtain ⟨_,o,ho,_⟩:=I.ok.funs.mem hb
 exact absurd (Nat.lt_of_lt_of_le (Heap.lt_size ho) (Nat.le_trans I.sz h)) (Nat.lt_irrefl _)
theorem Inv.cne (I:Inv X pins σ H s):∀x c,X.env.cells.lookup x=some c->c≠X.env.locals:=λx c e z=>by
 obtain ⟨v,o,ho,hd⟩:=I.cell x c e
 obtain ⟨m,⟨o',es,ep,ho',hd',_⟩,_⟩:=I.loc
 rw [z,ho'] at ho;cases ho;rw [hd'] at hd;cases hd
theorem Inv.funs (I:Inv X pins σ H s):s.heap.FunFrames X.base X.outer:=by
 have all:∀(l:List Env),(∀b∈frs l,b∈X.fs)->X.s₀.heap.FunFrames X.base l->s.heap.FunFrames X.base l:=by
  intro l
  induction l with
  | nil=>intro _ _;trivial
  | cons env r ih =>
   intro hs hl
   obtain ⟨hk,⟨L,o,hf,hn,ho,hd⟩,hr⟩:=hl
   have hL:L∈X.fs:=hs L (by unfold frs;rw [List.filterMap_cons,hf];exact List.mem_cons_self)
   obtain ⟨sl,e⟩:=I.base.slot L o ho (I.ok.frf L hL) hL λz=>I.ok.exfs L z hL
   exact ⟨hk,⟨L,_,hf,hn,e,hd⟩,ih (λb hb=>hs b (by unfold frs;rw [List.filterMap_cons,hf];exact List.mem_cons_of_mem _ hb)) hr⟩
 exact all X.outer (λ_ hb=>hb) I.ok.funs
theorem Inv.stack (I:Inv X pins σ H s):s.heap.FunFrames X.base X.stack:=by
 rcases I.ok.stk with e | ⟨e,hf⟩
 ·rw [e];exact I.funs
 ·rw [e]
  obtain ⟨m,hn,_⟩:=I.loc
  refine .cons (by rw [I.ok.kind];decide) hf hn ?_ I.funs
  exact Heap.get?_none_of_le (Nat.le_trans I.ok.bsz I.ok.above)
theorem Inv.stkSub (I:Inv X pins σ H s):∀b∈frs X.stack,b∈X.env.locals::X.fs:=λb hb=>by
 rcases I.ok.stk with e | ⟨e,hf⟩
 ·rw [e] at hb;exact List.mem_cons_of_mem _ hb
 ·rw [e] at hb
  unfold frs at hb
  rw [List.filterMap_cons,hf] at hb
  exact hb
theorem Inv.stkFree (I:Inv X pins σ H s):∀b∈frs X.stack,H b=none:=λb hb=>by
 rcases List.mem_cons.mp (I.stkSub b hb) with e | hb
 ·rw [e];exact I.free
 ·obtain ⟨_,o,ho,_⟩:=I.ok.funs.mem hb
  exact I.base.free b o ho (I.ok.frf b hb) λz=>I.ok.exfs b z hb
theorem Inv.step {g':Array GenState} {t':Nat} {d':Drawn} {ch:List Addr} (I:Inv X pins σ H s)
  (hch:∀b∈ch,(b∈X.ex\/X.s₀.heap.objs.size<=b)/\b≠X.env.locals/\(∀x c,X.env.cells.lookup x=some c->c≠b)/\∀p∈X.pn++pins,p.1≠b)
  (keep:∀b o,b≠X.env.locals->b∉X.fs->b∉ch->s.heap.get? b=some o->H b=none->h'.get? b=some o)
  (slot:∀b o,b≠X.env.locals->b∈X.fs->b∉ch->s.heap.get? b=some o->H b=none->∃sl,h'.get? b=some { o with slots:=sl }) (free:∀b o,b∉ch->s.heap.get? b=some o->H b=none->H' b=none)
  (there:∀b o,b∉ch->s.heap.get? b=some o->∃o',h'.get? b=some o')
  (tups:∀b xs,H b=some (.tup xs)->H' b=some (.tup xs)) (frzs:∀b o u,H b=some (.frz o u)->H' b=some (.frz o u)) (tbls:∀b ps,H b=some (.tbl ps)->∃more,H' b=some (.tbl (ps++more)))
  (ns:∀m,s.heap.Ns X.env.locals m->h'.Ns X.env.locals m) (hok:HOk X.prog X.w H' h') (hg:AllBare g') :
  Inv X pins σ H' { s with heap:=h',gens:=g',drawn:=d',toks:=t' }:=by
 have neL:∀b o,X.s₀.heap.get? b=some o->b≠X.env.locals:=λb o e=>Nat.ne_of_lt (Nat.lt_of_lt_of_le (Heap.lt_size e) I.ok.above)
 have neC:∀b o,X.s₀.heap.get? b=some o->b∉X.ex->b∉ch:=λb o e hx hb=>by
  rcases (hch b hb).1 with z | z
  ·exact hx z
  ·exact absurd (Nat.lt_of_lt_of_le (Heap.lt_size e) z) (Nat.lt_irrefl _)
 have cellK:∀x c,X.env.cells.lookup x=some c->∀v,s.heap.IsCell c v->h'.IsCell c v:=λx c e v ⟨o,ho,hd⟩=>by
  have nch:c∉ch:=λz=>(hch c z).2.2.1 x c e rfl
  by_cases hc:c∈X.fs
  ·obtain ⟨sl,q⟩:=slot c o (I.cne x c e) hc nch ho (I.freeC x c e)
   exact ⟨_,q,hd⟩
  ·exact ⟨o,keep c o (I.cne x c e) hc nch ho (I.freeC x c e),hd⟩
 refine ⟨I.ok,I.os,hg,⟨λb o e n hb hx=>?_,λb o e n hb hx=>?_,λb o e n hx=>?_,λb o e hx=>?_,λb xs e=>tups b xs (I.base.tups b xs e),λb o xs e=>frzs b o xs (I.base.frzs b o xs e),λb ps e=>?_⟩,?_,λx c e=>?_,?_,λx c e=>?_,λp hp=>?_,hok,I.len⟩
 ·exact keep b o (neL b o e) hb (neC b o e hx) (I.base.keep b o e n hb hx) (I.base.free b o e n hx)
 ·obtain ⟨sl,e1⟩:=I.base.slot b o e n hb hx
  obtain ⟨sl',e2⟩:=slot b _ (neL b o e) hb (neC b o e hx) e1 (I.base.free b o e n hx)
  exact ⟨sl',e2⟩
 ·obtain ⟨o',e1⟩:=I.base.there b o e hx
  exact free b o' (neC b o e hx) e1 (I.base.free b o e n hx)
 ·obtain ⟨o',e1⟩:=I.base.there b o e hx
  exact there b o' (neC b o e hx) e1
 ·obtain ⟨m1,e1⟩:=I.base.tbls b ps e
  obtain ⟨m2,e2⟩:=tbls b _ e1
  exact ⟨m1++m2,by rw [e2,Array.append_assoc]⟩
 ·obtain ⟨m,hn,hl⟩:=I.loc
  refine ⟨m,ns m hn,λi x v e1 e2 e3=>?_⟩
  obtain ⟨u,r,l⟩:=hl i x v e1 e2 e3
  refine ⟨u,r,?_⟩
  rcases l with l | ⟨k,c,e,z⟩
  ·exact .inl l
  ·exact .inr ⟨k,c,e,cellK x c e _ z⟩
 ·obtain ⟨v,z⟩:=I.cell x c e
  exact ⟨v,cellK x c e v z⟩
 ·obtain ⟨m,⟨o,_,_,ho,_⟩,_⟩:=I.loc
  exact free _ o (λz=>(hch _ z).2.1 rfl) ho I.free
 ·obtain ⟨v,o,ho,hd⟩:=I.cell x c e
  exact free c o (λz=>(hch c z).2.2.1 x c e rfl) ho (I.freeC x c e)
 ·obtain ⟨e,n,ne,nf,d⟩:=I.pin p hp
  have nch:p.1∉ch:=λz=>(hch p.1 z).2.2.2 p hp rfl
  exact ⟨keep p.1 p.2 ne nf nch e n,free p.1 p.2 nch e n,ne,nf,d⟩
theorem Inv.un {t':Nat} (I:Inv X pins σ H s) (u:Un X.fs [] H H' s.heap h') (hok:HOk X.prog X.w H' h'):Inv X pins σ H' { s with heap:=h',toks:=t' }:=by
 obtain ⟨m,⟨o,es,ep,ho,r⟩,_⟩:=id I.loc
 obtain ⟨sl,hL⟩:=u.any ho I.free (by simp)
 exact I.step (g':=s.gens) (d':=s.drawn) (ch:=[]) (λ_ z=>nomatch z) (λb o _ hb _ e n=>u.keep b o e n hb (by simp)) (λb o _ hb _ e n=>u.slot b o e n hb (by simp)) (λb o _ e n=>u.free b o e n (by simp)) (λb o _ e=>u.there b o e (by simp)) u.tups u.frzs u.tbls (λm' hm=>by
  obtain ⟨o',es',ep',ho',r'⟩:=hm
  rw [ho] at ho';cases ho'
  exact ⟨_,es',ep',hL,r'⟩) hok I.bare
theorem Inv.call {g':Array GenState} {t':Nat} {d':Drawn} {ch:List Addr} (I:Inv X pins σ H s) (u:Un (frs X.stack) ch H H' s.heap h') (hok:HOk X.prog X.w H' h') (hg:AllBare g')
  (hch:∀b∈ch,(b∈X.ex\/X.s₀.heap.objs.size<=b)/\b≠X.env.locals/\(∀x c,X.env.cells.lookup x=some c->c≠b)/\∀p∈X.pn++pins,p.1≠b) :
  Inv X pins σ H' { s with heap:=h',gens:=g',drawn:=d',toks:=t' }:=by
 obtain ⟨m,⟨o,es,ep,ho,r⟩,_⟩:=id I.loc
 obtain ⟨sl,hL⟩:=u.any ho I.free λz=>(hch _ z).2.1 rfl
 exact I.step (ch:=ch) hch (λb o hL hb hc e n=>u.keep b o e n (λz=>(List.mem_cons.mp (I.stkSub b z)).elim hL hb) hc) (λb o _ _ hc e n=>u.any e n hc) (λb o hc e n=>u.free b o e n hc) (λb o hc e=>u.there b o e hc) u.tups u.frzs u.tbls (λm' hm=>by
  obtain ⟨o',es',ep',ho',r'⟩:=hm
  rw [ho] at ho';cases ho'
  exact ⟨_,es',ep',hL,r'⟩) hok hg
theorem Inv.turned {t':Nat} {it:Addr} (I:Inv X pins σ H s) (k:∀b o,b≠it->s.heap.get? b=some o->h'.get? b=some o) (hn:H it=none) (hL:it≠X.env.locals)
  (h1:it∈X.ex\/X.s₀.heap.objs.size<=it) (h2:∀x c,X.env.cells.lookup x=some c->c≠it) (h3:∀p∈X.pn++pins,p.1≠it):Inv X pins σ H { s with heap:=h',toks:=t' }:=by
 have nit:∀b u,H b=some u->b≠it:=λb u e z=>by rw [z,hn] at e;cases e
 refine I.step (g':=s.gens) (d':=s.drawn) (ch:=[it]) (λb hb=>?_) (λb o _ _ hc e _=>k b o (λz=>hc (by simp [z])) e) (λb o _ _ hc e _=>⟨o.slots,k b o (λz=>hc (by simp [z])) e⟩) (λ_ _ _ _ n=>n)
  (λb o hc e=>⟨o,k b o (λz=>hc (by simp [z])) e⟩) (λ_ _ e=>e) (λ_ _ _ e=>e) (λb ps e=>⟨#[],by rw [e];simp⟩) (λm hm=>?_) (λb u e=>?_) I.bare
 ·have e:b=it:=by simpa using hb
  subst e
  exact ⟨h1,hL,h2,h3⟩
 ·obtain ⟨o,es,ep,ho,r⟩:=hm
  exact ⟨o,es,ep,k _ o (Ne.symm hL) ho,r⟩
 ·refine (I.hok b u e).stay (λc v hc q=>k c v ?_ q) (λ_ q=>q) λ_ _ q=>q
  rcases hc with z | z
  ·rw [z];exact nit b u e
  ·exact nit c _ z
theorem Inv.tok (I:Inv X pins σ H s) (t:Nat):Inv X pins σ H { s with toks:=t }:=I.un (h':=s.heap) (t':=t) Un.refl I.hok
theorem Inv.kept {t':Nat} (I:Inv X pins σ H s) (k:∀b u,s.heap.get? b=some u->h'.get? b=some u):Inv X pins σ H { s with heap:=h',toks:=t' }:=I.un (Un.kept k) (I.hok.kept k)
theorem Inv.laid {a:Addr} {o:HO} {t':Nat} (I:Inv X pins σ H s) (k:∀b u,s.heap.get? b=some u->h'.get? b=some u) (hp:s.heap.objs.size<=a) (new:ObjOk X.prog X.w (upd H a o) h' a o) :
  Inv X pins σ (upd H a o) { s with heap:=h',toks:=t' }:=I.un (Un.laid k hp (I.hok.fresh hp)) (I.hok.laid k hp new)
theorem Inv.write {x e:Addr} {o:HO} {t':Nat} (I:Inv X pins σ H s) (mu:Mut (H x)) (he:e=x\/H e=some (.own x)) (k:∀b u,b≠e->s.heap.get? b=some u->h'.get? b=some u) (heo:∃u,h'.get? e=some u)
  (new:ObjOk X.prog X.w (upd H x o) h' x o):Inv X pins σ (upd H x o) { s with heap:=h',toks:=t' }:=I.un (Un.write mu he k heo) (I.hok.write mu he k heo new)
theorem Inv.pins_of {pins':List (Addr × Obj)} (I:Inv X pins σ H s) (h:∀p∈pins',s.heap.get? p.1=some p.2/\H p.1=none/\p.1≠X.env.locals/\p.1∉X.fs/\∀v,p.2.data ≠ .cell v):Inv X pins' σ H s :=
 ⟨I.ok,I.os,I.bare,I.base,I.loc,I.cell,I.free,I.freeC,λp hp=>(List.mem_append.mp hp).elim (λz=>I.pin p (List.mem_append_left _ z)) (h p),I.hok,I.len⟩
theorem nodup_ix {N:List Str} (hN:N.Nodup) {i j:Nat} {x:Str} (a:N[i]? = some x) (b:N[j]? = some x):i=j:=by
 obtain ⟨h1,e1⟩:=List.getElem?_eq_some_iff.mp a
 obtain ⟨h2,e2⟩:=List.getElem?_eq_some_iff.mp b
 exact (List.getElem_inj hN).mp (e1.trans e2.symm)
theorem store_ok2 {M:Model} {A:Around} {E:Value->Shared->Prop} {i:Nat} {x:Str} {v:V} {u:Value} {Q:Unit->Shared->Prop} (I:Inv X pins σ H s) (hN:X.N.Nodup) (hi:X.N[i]? = some x) (hx:Loc X.env.scope x) (r:RelV v u)
  (h:∀s',Inv X pins (σ.set i (some v)) H s'->(∃a,Heap.SameBut a s.heap s'.heap/\(a=X.env.locals\/X.env.cells.lookup x=some a))->Q () s') (hf:X.fn x=true\/X.env.scope.names.lookup x=some .local:=by first | exact .inl rfl | exact .inr rfl | assumption):wpAny M A (storeName X.env x u) Q E s:=by
 obtain ⟨m,hn,hl⟩:=id I.loc
 have hcls:(X.env.scope.kind == .class || (X.env.scope.kind == .module && X.env.locals != X.env.globals))=false:=by rw [I.ok.kind];rfl
 have hiσ:i<σ.length:=by rw [I.len];exact (List.getElem?_eq_some_iff.mp hi).1
 have cne:=I.cne
 have tracked:∀{a:Addr} {h':Heap},(∃o,s.heap.get? a=some o/\H a=none)->Heap.SameBut a s.heap h'->HOk X.prog X.w H h':=λ{a h'} ha hs b ob e=>by
  obtain ⟨_,_,hfree⟩:=ha
  refine (I.hok b ob e).stay (λc w' hc q=>(hs.2 c ?_).trans q) (λ_ q=>q) λ_ _ q=>q
  rintro rfl
  rcases hc with rfl | hc
  ·rw [hfree] at e;cases e
  ·rw [hfree] at hc;cases hc
 rcases hx with hk | hk
 ·refine wpAny_storeName_local hk hn (λh' hn' hs=>?_) hcls
  obtain ⟨oL,_,_,hoL,_⟩:=id hn
  refine h _ ⟨I.ok,I.os,I.bare,⟨λb o e n hb hx=>?_,λb o e n hb hx=>?_,I.base.free,λb o e hx=>?_,I.base.tups,I.base.frzs,I.base.tbls⟩,⟨_,hn',λj y v' e1 e2 e3=>?_⟩,λy c e=>?_,I.free,I.freeC,λp hp=>?_,tracked ⟨oL,hoL,I.free⟩ hs,by simpa using I.len⟩ ⟨_,hs,.inl rfl⟩
  ·exact (hs.2 b (Nat.ne_of_lt (Nat.lt_of_lt_of_le (Heap.lt_size e) I.ok.above))).trans (I.base.keep b o e n hb hx)
  ·obtain ⟨sl,e1⟩:=I.base.slot b o e n hb hx
   exact ⟨sl,(hs.2 b (Nat.ne_of_lt (Nat.lt_of_lt_of_le (Heap.lt_size e) I.ok.above))).trans e1⟩
  ·obtain ⟨o',e1⟩:=I.base.there b o e hx
   exact ⟨o',(hs.2 b (Nat.ne_of_lt (Nat.lt_of_lt_of_le (Heap.lt_size e) I.ok.above))).trans e1⟩
  ·by_cases hj:j=i
   ·subst hj
    rw [hi] at e1;cases e1
    rw [List.getElem?_set_self hiσ] at e2
    cases e2
    exact ⟨u,r,.inl ⟨hk,by simp⟩⟩
   ·rw [List.getElem?_set_ne (Ne.symm hj)] at e2
    obtain ⟨u',r',q⟩:=hl j y v' e1 e2 e3
    refine ⟨u',r',?_⟩
    rcases q with ⟨k,e⟩ | ⟨k,c,e,z⟩
    ·refine .inl ⟨k,?_⟩
     have:y≠x:=λe=>hj (nodup_ix hN e1 (e ▸ hi))
     simp [this,e]
    ·exact .inr ⟨k,c,e,z.sameBut hs (cne y c e)⟩
  ·obtain ⟨w',z⟩:=I.cell y c e
   exact ⟨w',z.sameBut hs (cne y c e)⟩
  ·obtain ⟨e,n,ne,nf,d⟩:=I.pin p hp
   exact ⟨(hs.2 p.1 ne).trans e,n,ne,nf,d⟩
 ·have hfn:X.fn x=true:=by
   rcases hf with z | z
   ·exact z
   ·rw [z] at hk;cases hk
  obtain ⟨c,hc⟩:=I.ok.has x (.inl hk)
  obtain ⟨w',z⟩:=I.cell x c hc
  refine wpAny_storeName_cell I.ok.kind hk hc z (λh' hc' hs=>?_)
  obtain ⟨oc,hoc,hocd⟩:=id z
  refine h { s with heap:=h' } ⟨I.ok,I.os,I.bare,⟨λb o e n hb hx=>?_,λb o e n hb hx=>?_,I.base.free,λb o e hx=>?_,I.base.tups,I.base.frzs,I.base.tbls⟩,⟨m,hn.sameBut hs (Ne.symm (cne x c hc)),λj y v' e1 e2 e3=>?_⟩,λy c' e=>?_,I.free,I.freeC,λp hp=>?_,tracked ⟨oc,hoc,I.freeC x c hc⟩ hs,by simpa using I.len⟩ ⟨c,hs,.inr hc⟩
  ·exact (hs.2 b (Nat.ne_of_lt (Nat.lt_of_lt_of_le (Heap.lt_size e) (I.ok.cab x c hfn hc)))).trans (I.base.keep b o e n hb hx)
  ·obtain ⟨sl,e1⟩:=I.base.slot b o e n hb hx
   exact ⟨sl,(hs.2 b (Nat.ne_of_lt (Nat.lt_of_lt_of_le (Heap.lt_size e) (I.ok.cab x c hfn hc)))).trans e1⟩
  ·obtain ⟨o',e1⟩:=I.base.there b o e hx
   exact ⟨o',(hs.2 b (Nat.ne_of_lt (Nat.lt_of_lt_of_le (Heap.lt_size e) (I.ok.cab x c hfn hc)))).trans e1⟩
  ·by_cases hj:j=i
   ·subst hj
    rw [hi] at e1;cases e1
    rw [List.getElem?_set_self hiσ] at e2
    cases e2
    exact ⟨u,r,.inr ⟨.inl hk,c,hc,hc'⟩⟩
   ·rw [List.getElem?_set_ne (Ne.symm hj)] at e2
    obtain ⟨u',r',q⟩:=hl j y v' e1 e2 e3
    refine ⟨u',r',?_⟩
    rcases q with q | ⟨k,c',e,z'⟩
    ·exact .inl q
    ·refine .inr ⟨k,c',e,z'.sameBut hs ?_⟩
     rintro rfl
     exact hj (nodup_ix hN e1 (I.ok.inj _ _ _ e hc ▸ hi))
  ·by_cases hcc:c'=c
   ·subst hcc;exact ⟨_,hc'⟩
   ·obtain ⟨w2,z2⟩:=I.cell y c' e
    exact ⟨w2,z2.sameBut hs hcc⟩
  ·obtain ⟨e,n,ne,nf,d⟩:=I.pin p hp
   refine ⟨(hs.2 p.1 ?_).trans e,n,ne,nf,d⟩
   intro q
   rw [q,hoc] at e
   have q':oc=p.2:=Option.some.inj e
   exact d w' (by rw [← q'];exact hocd)
theorem store_ok {M:Model} {A:Around} {E:Value->Shared->Prop} {i:Nat} {x:Str} {v:V} {u:Value} {Q:Unit->Shared->Prop} (I:Inv X pins σ H s) (hN:X.N.Nodup) (hi:X.N[i]? = some x) (hx:Loc X.env.scope x) (r:RelV v u)
  (h:∀s',Inv X pins (σ.set i (some v)) H s'->Q () s') (hf:X.fn x=true\/X.env.scope.names.lookup x=some .local:=by first | exact .inl rfl | exact .inr rfl | assumption):wpAny M A (storeName X.env x u) Q E s :=
 store_ok2 I hN hi hx r (λs' I' _=>h s' I') hf
theorem Inv.call' {s':Shared} {ch:List Addr} (I:Inv X pins σ H s) (ho:s'.os=s.os) (u:Un (frs X.stack) ch H H' s.heap s'.heap) (hok:HOk X.prog X.w H' s'.heap) (hg:AllBare s'.gens)
  (hch:∀b∈ch,(b∈X.ex\/X.s₀.heap.objs.size<=b)/\b≠X.env.locals/\(∀x c,X.env.cells.lookup x=some c->c≠b)/\∀p∈X.pn++pins,p.1≠b):Inv X pins σ H' s':=by
 obtain ⟨h',g',d',t',o'⟩:=s'
 have e:o'=s.os:=ho
 subst e
 exact I.call (g':=g') (t':=t') (d':=d') u hok hg hch
end
abbrev XK:=Value->Option Addr->Hp->Prop
abbrev St:=List (Option V)
abbrev VK:=V->Hp->Prop
abbrev TE:=St->Hp->VK->Prop
abbrev TT:=St->Hp->(Bool->Hp->Prop)->Prop
abbrev TA:=St->Hp->(List V->Hp->Prop)->Prop
structure Ends where
 nx:St->Hp->Prop
 rt:VK
 bk:St->Hp->Prop:=λ_ _=>False
 ct:St->Hp->Prop:=λ_ _=>False
abbrev TS:=Ends->St->Hp->Prop
def EP (X:Cx) (pins:List (Addr × Obj)) (σ:St) (Q:VK) (u:Value) (s':Shared):Prop:=∃v H',Inv X pins σ H' s'/\RelV v u/\Q v H'
def TP (X:Cx) (pins:List (Addr × Obj)) (σ:St) (Q:Bool->Hp->Prop) (b:Bool) (s':Shared):Prop:=∃H',Inv X pins σ H' s'/\Q b H'
def AP (X:Cx) (pins:List (Addr × Obj)) (σ:St) (Q:List V->Hp->Prop) (us:List Value) (s':Shared):Prop:=∃vs H',Inv X pins σ H' s'/\Vals vs us/\Q vs H'
def SP (X:Cx) (pins:List (Addr × Obj)) (D:Ends) (f:Flow) (s':Shared):Prop :=
 match f with
 | .next=>∃σ' H',Inv X pins σ' H' s'/\D.nx σ' H'
 | .brk=>∃σ' H',Inv X pins σ' H' s'/\D.bk σ' H'
 | .cont=>∃σ' H',Inv X pins σ' H' s'/\D.ct σ' H'
 | .ret u=>∃v σ' H',Inv X pins σ' H' s'/\RelV v u/\D.rt v H'
def PE (X:Cx) (e:Expr) (t:TE):Prop :=
 ∀(pins:List (Addr × Obj)) (s:Shared) (σ:St) (H:Hp) (Q:VK),Inv X pins σ H s->t σ H Q->wpAny (model X.prog X.w) X.A (eval e X.env) (EP X pins σ Q) X.xe s
def PT (X:Cx) (e:Expr) (t:TT):Prop :=
 ∀(pins:List (Addr × Obj)) (s:Shared) (σ:St) (H:Hp) (Q:Bool->Hp->Prop),Inv X pins σ H s->t σ H Q->wpAny (model X.prog X.w) X.A (isTrue e X.env (eval e X.env)) (TP X pins σ Q) X.xe s
def PW (X:Cx) (e:Expr) (t:TT):Prop :=
 ∀(whole:Sem Value) (pins:List (Addr × Obj)) (s:Shared) (σ:St) (H:Hp) (Q:Bool->Hp->Prop),Inv X pins σ H s->t σ H Q->wpAny (model X.prog X.w) X.A (isTrue e X.env whole) (TP X pins σ Q) X.xe s
theorem PW.pt {X:Cx} {e:Expr} {t:TT} (h:PW X e t):PT X e t:=h _
def PA (X:Cx) (es:List Expr) (t:TA):Prop :=
 ∀(pos:Pos) (pins:List (Addr × Obj)) (s:Shared) (σ:St) (H:Hp) (Q:List V->Hp->Prop),Inv X pins σ H s->t σ H Q->wpAny (model X.prog X.w) X.A (spliced (backTo pos (starEach es X.env))) (AP X pins σ Q) X.xe s
def PS (X:Cx) (st:Stmt) (t:TS):Prop :=
 ∀(pins:List (Addr × Obj)) (s:Shared) (σ:St) (H:Hp) (D:Ends),Inv X pins σ H s->t D σ H->wpAny (model X.prog X.w) X.A (exec st X.env) (SP X pins D) X.xe s
def PSs (X:Cx) (st:List Stmt) (t:TS):Prop :=
 ∀(pins:List (Addr × Obj)) (s:Shared) (σ:St) (H:Hp) (D:Ends),Inv X pins σ H s->t D σ H->wpAny (model X.prog X.w) X.A (execs st X.env) (SP X pins D) X.xe s
theorem thn {α:Type} {t:Sem α} {Q Q':α->Shared->Prop} {M:Model} {A:Around} {E:Value->Shared->Prop} {s:Shared} (h:wpAny M A t Q E s) (hQ:∀a s,Q a s->Q' a s):wpAny M A t Q' E s:=wpAny_mono h hQ λ_ _ x=>x
end L2
namespace L2
open PySem PySem.Spec PyProof.Rows
section
variable {X:Cx}
theorem bin {a b:Expr} {ta tb:TE} (ha:PE X a ta) (hb:PE X b tb) {pins:List (Addr × Obj)} {s:Shared} {σ:St} {H:Hp} {R:V->V->Hp->Prop} (I:Inv X pins σ H s) (h:ta σ H λx H1=>tb σ H1 λy H2=>R x y H2)
  {α:Type} {Q:α->Shared->Prop} {f:Value->Value->Sem α}
  (hf:∀v u s2 x y H2,Inv X pins σ H2 s2->RelV x v->RelV y u->R x y H2->wpAny (model X.prog X.w) X.A (f v u) Q X.xe s2) :
  wpAny (model X.prog X.w) X.A (eval a X.env) (λv s₁=>wpAny (model X.prog X.w) X.A (eval b X.env) (λu s₂=>wpAny (model X.prog X.w) X.A (f v u) Q X.xe s₂) X.xe s₁) X.xe s:=by
 refine thn (ha pins s σ H _ I h) λv s1 ⟨x,H1,I1,r1,q1⟩=>?_
 refine thn (hb pins s1 σ H1 _ I1 q1) λu s2 ⟨y,H2,I2,r2,q2⟩=>?_
 exact hf v u s2 x y H2 I2 r1 r2 q2
def tVar (i:Nat):TE:=λσ H Q=>∃v,σ[i]? = some (some v)/\Q v H
def tC (v:V):TE:=λ_ H Q=>Q v H
theorem pe_var {i:Nat} {x:Str} {pos:Pos} (hN:X.N[i]? = some x) (hv:Vis X.env.scope x) (hd:(x == ("__debug__" : Str))=false:=by decide) (hcd:(x == ("__classdict__" : Str))=false:=by decide):PE X (.Name x pos) (tVar i):=by
 intro pins s σ H Q I h
 obtain ⟨v,e,h⟩:=h
 obtain ⟨m,hn,hl⟩:=I.loc
 obtain ⟨u,r,l⟩:=hl i x v hN e hv
 have fin:EP X pins σ Q u s:=⟨v,H,I,r,h⟩
 rcases l with ⟨hk,hm⟩ | ⟨hk,c,hc,hcell⟩
 ·exact wpAny_Name (wpAny_loadName_local I.ok.kind hk hn hm fin) hd
 ·rcases hk with hk | hk
  ·exact wpAny_Name (wpAny_loadName_cell I.ok.kind hk hc hcell fin) hd
  ·exact wpAny_Name (wpAny_loadName_free I.ok.kind hk hc hcell fin hcd) hd
theorem pe_int {i j pos}:PE X (.Constant (.int i) j pos) (tC (.int i)):=λ_ _ _ H _ I h=>wpAny_Constant_int ⟨.int i,H,I.tok _,⟨_,rfl⟩,h⟩
theorem pe_bl {b j pos}:PE X (.Constant (.bool b) j pos) (tC (.bl b)):=λ_ _ _ H _ I h=>Constant_bool ⟨.bl b,H,I,rfl,h⟩
def Gl (X:Cx) (x:Str):Prop:=X.env.kindOf x=some .globalImplicit
theorem ld_glob {E:Value->Shared->Prop} {pins:List (Addr × Obj)} {s:Shared} {σ:St} {H:Hp} {x:Str} {u:Value} {pos:Pos} {Q:Value->Shared->Prop} (I:Inv X pins σ H s) (hg:Gl X x) (hm:X.mg x=some u) (h:Q u s)
  (hd:(x == ("__debug__" : Str))=false:=by decide):wpAny (model X.prog X.w) X.A (eval (.Name x pos) X.env) Q E s :=
 Calls.Name_function_global I.ok.kind hg (Calls.loadGlobal_global (by rw [I.ok.glob];exact I.mod.glob.keeps I.bk) hm h) hd
theorem ld_blt {E:Value->Shared->Prop} {pins:List (Addr × Obj)} {s:Shared} {σ:St} {H:Hp} {x:Str} {u:Value} {pos:Pos} {Q:Value->Shared->Prop} (I:Inv X pins σ H s) (hg:Gl X x) (hm:X.mg x=none) (hv:bootBuiltins x=some u) (h:Q u s)
  (hn:x ≠ "__name__":=by decide) (hd:(x == ("__debug__" : Str))=false:=by decide):wpAny (model X.prog X.w) X.A (eval (.Name x pos) X.env) Q E s:=by
 obtain ⟨mb,h1,h2⟩:=I.mod.blt
 exact Calls.Name_function_global I.ok.kind hg (Calls.loadGlobal_builtin (by rw [I.ok.glob];exact I.mod.glob.keeps I.bk) hm (by rw [I.ok.blt];exact h1.keeps I.bk) ((h2 x hn).trans hv) h) hd
theorem pe_glob {x:Str} {v:V} {u:Value} {pos:Pos} (hg:Gl X x) (hm:X.mg x=some u) (r:RelV v u) (hd:(x == ("__debug__" : Str))=false:=by decide):PE X (.Name x pos) (tC v) :=
 λ_ _ _ H _ I h=>ld_glob I hg hm ⟨v,H,I,r,h⟩ hd
theorem pe_bltn {x:Str} {v:V} {u:Value} {pos:Pos} (hg:Gl X x) (hm:X.mg x=none) (hv:bootBuiltins x=some u) (r:RelV v u) (hn:x ≠ "__name__":=by decide) (hd:(x == ("__debug__" : Str))=false:=by decide):PE X (.Name x pos) (tC v) :=
 λ_ _ _ H _ I h=>ld_blt I hg hm hv ⟨v,H,I,r,h⟩ hn hd
variable {a b:Expr} {ta tb:TE} {pos:Pos}
variable {tA tB':TT} {rest:List Expr}
def tOr (t u:TT):TT:=λσ H Q=>t σ H λc H1=>if c=true then Q true H1 else u σ H1 Q
def tNot (t:TT):TT:=λσ H Q=>t σ H λc H1=>Q (!c) H1
theorem pw_or1 (ha:PT X a tA):PW X (.BoolOp .Or [a] pos) tA:=by
 intro wh pins s σ H Q I h
 refine isTrue_or (thn (ha pins s σ H Q I h) λc s1 e=>?_)
 cases c with
 | false=>exact isTrue_or_nil e
 | true=>exact e
theorem pw_or (ha:PT X a tA) (hb:PW X (.BoolOp .Or (b::rest) pos) tB'):PW X (.BoolOp .Or (a::b::rest) pos) (tOr tA tB'):=by
 intro wh pins s σ H Q I h
 refine isTrue_or (thn (ha pins s σ H _ I h) λc s1 ⟨H1,I1,q1⟩=>?_)
 cases c with
 | true=>exact ⟨H1,I1,q1⟩
 | false=>exact hb wh pins s1 σ H1 Q I1 q1
theorem pt_not (ha:PT X a tA):PT X (.UnaryOp .Not a pos) (tNot tA):=by
 intro pins s σ H Q I h
 exact isTrue_not (ha pins s σ H (λc H1=>Q (!c) H1) I h)
def tIf (t:TT) (ta tb:TE):TE:=λσ H Q=>t σ H λc H1=>if c=true then ta σ H1 Q else tb σ H1 Q
theorem pe_ifExp {c:Expr} (hc:PT X c tA) (ha:PE X a ta) (hb:PE X b tb):PE X (.IfExp c a b pos) (tIf tA ta tb):=by
 intro pins s σ H Q I h
 refine wpAny_IfExp (thn (hc pins s σ H _ I h) λd s1 ⟨H1,I1,q1⟩=>?_)
 cases d with
 | true=>exact ha pins s1 σ H1 Q I1 q1
 | false=>exact hb pins s1 σ H1 Q I1 q1
end
end L2
namespace L2
open PySem PySem.Spec PyProof.Rows
def SqL (K:PySem.W.Frag) (H:Hp) (a:Addr) (xs:List V):Prop :=
 Rd H a (.lst xs) \/
  ∃(o:Obj) (its:Array Value) (n:Nat),K.lookup a=some o/\o.cls=.type "list" /\ o.dict=none/\o.data=.seq its n/\its.size<=sizeLine/\Vals xs its.toList
def SqT (K:PySem.W.Frag) (H:Hp) (a:Addr) (xs:List V):Prop :=
 Rd H a (.tup xs) \/
  ∃(o:Obj) (its:Array Value) (n:Nat),K.lookup a=some o/\o.cls=.type "tuple" /\ o.data=.seq its n/\its.size<=sizeLine/\Vals xs its.toList
def absV:Value->Option V
 | .none=>some .non
 | .bool b=>some (.bl b)
 | .int i _=>some (.int i)
 | .str x _=>some (.str x)
 | .bytes b _=>some (.byt b)
 | .float b _=>some (.flt b)
 | .ref a=>some (.ref a)
 | .type n=>some (.ty n)
 | _=>none
theorem RelV.abs {x:V} {u:Value} (r:RelV x u):absV u=some x:=by
 cases x with
 | non=>cases r;rfl
 | bl _=>cases r;rfl
 | int _=>obtain ⟨t,rfl⟩:=r;rfl
 | str _=>obtain ⟨t,rfl⟩:=r;rfl
 | byt _=>obtain ⟨t,rfl⟩:=r;rfl
 | flt _=>obtain ⟨t,rfl⟩:=r;rfl
 | ref _=>cases r;rfl
 | ty _=>cases r;rfl
theorem RelV.inj {x y:V} {u:Value} (r:RelV x u) (q:RelV y u):x=y:=Option.some.inj (r.abs.symm.trans q.abs)
theorem Vals.inj:∀{xs ys:List V} {us:List Value},Vals xs us->Vals ys us->xs=ys
 | _,_,_,.nil,.nil=>rfl
 | _,_,_,.cons r t,.cons r' t'=>by rw [r.inj r',Vals.inj t t']
section
variable {X:Cx} {pins:List (Addr × Obj)} {σ:St} {H:Hp} {s:Shared} {a:Addr} {xs ys:List V}
theorem SqL.of {K:PySem.W.Frag} (h:H a=some (.lst xs)):SqL K H a xs:=.inl (.inl h)
theorem SqT.of {K:PySem.W.Frag} (h:H a=some (.tup xs)):SqT K H a xs:=.inl (.inl h)
theorem Inv.list (I:Inv X pins σ H s) (h:SqL X.K H a xs):∃its:List Value,Vals xs its/\PlainL s.heap a its.toArray/\xs.length<=sizeLine:=by
 rcases h with h | ⟨o,its,n,hk,hc,hd,hs,hz,r⟩
 ·obtain ⟨z,its,n,r,e⟩:=h.ok I.hok
  exact ⟨its,r,⟨_,n,e,rfl,rfl,rfl⟩,z⟩
 ·refine ⟨its.toList,r,⟨o,n,I.kIn a o hk,hc,hd,by simpa using hs⟩,?_⟩
  have e:=r.length
  simp only [Array.length_toList] at e
  omega
theorem Inv.tuple (I:Inv X pins σ H s) (h:SqT X.K H a xs):∃its:List Value,Vals xs its/\IsTup s.heap a its.toArray/\xs.length<=sizeLine:=by
 rcases h with h | ⟨o,its,n,hk,hc,hs,hz,r⟩
 ·obtain ⟨z,its,r,p⟩:=h.ok I.hok
  exact ⟨its,r,p,z⟩
 ·refine ⟨its.toList,r,⟨o,I.kIn a o hk,hc,n,by simpa using hs⟩,?_⟩
  have e:=r.length
  simp only [Array.length_toList] at e
  omega
theorem Inv.list_inj (I:Inv X pins σ H s) (h:SqL X.K H a xs) (h':SqL X.K H a ys):xs=ys:=by
 obtain ⟨its,r,⟨o,n,e,_,_,d⟩,_⟩:=I.list h
 obtain ⟨its',r',⟨o',n',e',_,_,d'⟩,_⟩:=I.list h'
 rw [e] at e';cases e'
 rw [d] at d'
 injection d' with d1 _
 have:its=its':=by simpa using congrArg Array.toList d1
 subst this
 exact r.inj r'
theorem Inv.tuple_inj (I:Inv X pins σ H s) (h:SqT X.K H a xs) (h':SqT X.K H a ys):xs=ys:=by
 obtain ⟨its,r,⟨o,e,_,n,d⟩,_⟩:=I.tuple h
 obtain ⟨its',r',⟨o',e',_,n',d'⟩,_⟩:=I.tuple h'
 rw [e] at e';cases e'
 rw [d] at d'
 injection d' with d1 _
 have:its=its':=by simpa using congrArg Array.toList d1
 subst this
 exact r.inj r'
end
abbrev Cx.wish (X:Cx) (E:Value->Shared->Prop):Cx:={ X with xe:=E }
abbrev Cx.nox (X:Cx):Cx:=X.wish λ_ _=>False
theorem Cx.Ok.wish {X:Cx} (ok:X.Ok) (E:Value->Shared->Prop):(X.wish E).Ok :=
 ⟨ok.mod,ok.kind,ok.glob,ok.blt,ok.above,ok.inj,ok.has,ok.cab,ok.hd,ok.frames,ok.stk,ok.exf,ok.bs,ok.bsz,ok.noex,ok.exfs,ok.funs,ok.frf⟩
theorem Cx.Ok.unwish {X:Cx} {E:Value->Shared->Prop} (ok:(X.wish E).Ok):X.Ok :=
 ⟨ok.mod,ok.kind,ok.glob,ok.blt,ok.above,ok.inj,ok.has,ok.cab,ok.hd,ok.frames,ok.stk,ok.exf,ok.bs,ok.bsz,ok.noex,ok.exfs,ok.funs,ok.frf⟩
section
variable {X:Cx} {pins:List (Addr × Obj)} {σ:St} {H:Hp} {s:Shared} {E:Value->Shared->Prop}
theorem Inv.wish (I:Inv X pins σ H s) (E:Value->Shared->Prop):Inv (X.wish E) pins σ H s:=⟨I.ok.wish E,I.os,I.bare,I.base,I.loc,I.cell,I.free,I.freeC,I.pin,I.hok,I.len⟩
theorem Inv.unwish (I:Inv (X.wish E) pins σ H s):Inv X pins σ H s:=⟨I.ok.unwish,I.os,I.bare,I.base,I.loc,I.cell,I.free,I.freeC,I.pin,I.hok,I.len⟩
theorem SP.unwish {D:Ends} {f:Flow} {s':Shared} (h:SP (X.wish E) pins D f s'):SP X pins D f s':=by
 cases f with
 | next=>obtain ⟨σ',H',I,q⟩:=h;exact ⟨σ',H',I.unwish,q⟩
 | brk=>obtain ⟨σ',H',I,q⟩:=h;exact ⟨σ',H',I.unwish,q⟩
 | cont=>obtain ⟨σ',H',I,q⟩:=h;exact ⟨σ',H',I.unwish,q⟩
 | ret u=>obtain ⟨v,σ',H',I,r,q⟩:=h;exact ⟨v,σ',H',I.unwish,r,q⟩
theorem PE.nox {e:Expr} {t:TE} (h:PE X.nox e t):PE X e t:=λpins s σ H Q I hw =>
 wpAny_mono (h pins s σ H Q (I.wish _) hw) (λ_ _ ⟨v,H',I',r,q⟩=>⟨v,H',I'.unwish,r,q⟩) λ_ _ z=>False.elim z
theorem PT.nox {e:Expr} {t:TT} (h:PT X.nox e t):PT X e t:=λpins s σ H Q I hw =>
 wpAny_mono (h pins s σ H Q (I.wish _) hw) (λ_ _ ⟨H',I',q⟩=>⟨H',I'.unwish,q⟩) λ_ _ z=>False.elim z
theorem PSs.nox {st:List Stmt} {t:TS} (h:PSs X.nox st t):PSs X st t:=λpins s σ H D I hw =>
 wpAny_mono (h pins s σ H D (I.wish _) hw) (λ_ _ q=>q.unwish) λ_ _ z=>False.elim z
end
section
variable {X:Cx} {st:Stmt} {rest:List Stmt} {t u:TS} {e:Expr} {te:TE} {pos:Pos}
def tNext:TS:=λD σ H=>D.nx σ H
def tSeq (t u:TS):TS:=λD σ H=>t { D with nx:=u D } σ H
theorem pss_nil:PSs X [] tNext:=λ_ _ σ H _ I h=>wpAny_execs_nil ⟨σ,H,I,h⟩
theorem pss_cons (h1:PS X st t) (h2:PSs X rest u):PSs X (st::rest) (tSeq t u):=by
 intro pins s σ H D I h
 refine wpAny_execs_cons (thn (h1 pins s σ H { D with nx:=u D } I h) λf s1 q=>?_)
 cases f with
 | next =>
  obtain ⟨σ',H',I',q⟩:=q
  exact h2 pins s1 σ' H' D I' q
 | ret v=>exact q
 | brk=>exact q
 | cont=>exact q
theorem pss_one (h1:PS X st t):PSs X [st] t:=by
 intro pins s σ H D I h
 refine wpAny_execs_cons (thn (h1 pins s σ H D I h) λf s1 q=>?_)
 cases f with
 | next=>exact wpAny_execs_nil q
 | ret v=>exact q
 | brk=>exact q
 | cont=>exact q
theorem Inv.quiet {pins:List (Addr × Obj)} {σ:St} {H:Hp} {s:Shared} (I:Inv X pins σ H s):interactive X.env=false:=by simp [interactive,I.ok.kind]
def tDrop (te:TE):TS:=λD σ H=>te σ H λ_ H1=>D.nx σ H1
theorem ps_expr (he:PE X e te) (hs:swapsWith e none pos.line X.env=pure false:=by rfl):PS X (.Expr e pos) (tDrop te):=by
 intro pins s σ H D I h
 exact wpAny_Expr_any (thn (he pins s σ H _ I h) λv s1 ⟨x,H1,I1,r1,q1⟩=>⟨σ,H1,I1,q1⟩) I.quiet hs
def tRet (te:TE):TS:=λD σ H=>te σ H D.rt
theorem ps_ret (he:PE X e te):PS X (.Return (some e) pos) (tRet te):=by
 intro pins s σ H D I h
 exact wpAny_Return_some (thn (he pins s σ H _ I h) λv s1 ⟨x,H1,I1,r1,q1⟩=>⟨x,σ,H1,I1,r1,q1⟩)
def tRetN:TS:=λD _ H=>D.rt .non H
theorem ps_retN:PS X (.Return none pos) tRetN:=λ_ _ σ H _ I h=>wpAny_Return_none ⟨.non,σ,H,I,rfl,h⟩
def tIfS (c:TT) (t u:TS):TS:=λD σ H=>c σ H λb H1=>if b=true then t D σ H1 else u D σ H1
theorem ps_if {c:Expr} {a b:List Stmt} {tc:TT} (hc:PT X c tc) (ha:PSs X a t) (hb:PSs X b u):PS X (.If c a b pos) (tIfS tc t u):=by
 intro pins s σ H D I h
 refine wpAny_If (thn (hc pins s σ H _ I h) λd s1 ⟨H1,I1,q1⟩=>?_)
 cases d with
 | true=>exact ha pins s1 σ H1 D I1 q1
 | false=>exact hb pins s1 σ H1 D I1 q1
end
abbrev TG:=V->St->Hp->(St->Hp->Prop)->Prop
abbrev TGs:=List V->St->Hp->(St->Hp->Prop)->Prop
def PG (X:Cx) (target:Expr) (t:TG):Prop :=
 ∀(pins:List (Addr × Obj)) (s:Shared) (σ:St) (H:Hp) (v:V) (u:Value) (Q:St->Hp->Prop),Inv X pins σ H s->RelV v u->t v σ H Q ->
  wpAny (model X.prog X.w) X.A (assign target X.env u) (λ_ s'=>∃σ' H',Inv X pins σ' H' s'/\Q σ' H') X.xe s
def PGs (X:Cx) (ts:List Expr) (t:TGs):Prop :=
 ∀(pins:List (Addr × Obj)) (s:Shared) (σ:St) (H:Hp) (vs:List V) (us:List Value) (Q:St->Hp->Prop),Inv X pins σ H s->Vals vs us->t vs σ H Q ->
  wpAny (model X.prog X.w) X.A (assignInOrder ((assignEach ts X.env).map (·.2)) us) (λ_ s'=>∃σ' H',Inv X pins σ' H' s'/\Q σ' H') X.xe s
abbrev TSet:=V->V->V->Hp->(Hp->Prop)->Prop
def PSet (X:Cx) (t:TSet):Prop :=
 ∀(pins:List (Addr × Obj)) (s:Shared) (σ:St) (H:Hp) (o i v:V) (ov iv u:Value) (Q:Hp->Prop),Inv X pins σ H s->RelV o ov->RelV i iv->RelV v u->t o i v H Q ->
  wpAny (model X.prog X.w) X.A (setItem ov iv u) (λ_ s'=>∃H',Inv X pins σ H' s'/\Q H') X.xe s
section
variable {X:Cx} {pos:Pos}
def gName (i:Nat):TG:=λv σ H Q=>Q (σ.set i (some v)) H
theorem pg_name {i:Nat} {x:Str} (hN:X.N.Nodup) (hi:X.N[i]? = some x) (hx:Loc X.env.scope x) (hf:X.fn x=true\/X.env.scope.names.lookup x=some .local:=by first | exact .inl rfl | exact .inr rfl | assumption):PG X (.Name x pos) (gName i):=by
 intro pins s σ H v u Q I r h
 exact wpAny_assign_Name (store_ok I hN hi hx r (λs' I'=>⟨_,H,I',h⟩) hf)
def gNil:TGs:=λvs σ H Q=>vs=[]/\Q σ H
def gCons (t:TG) (u:TGs):TGs:=λvs σ H Q=>∃v r,vs=v::r/\t v σ H λσ' H'=>u r σ' H' Q
theorem pgs_nil:PGs X [] gNil:=by
 intro pins s σ H vs us Q I r h
 obtain ⟨e,h⟩:=h
 subst e
 cases r
 exact assignInOrder_nil ⟨σ,H,I,h⟩
theorem pgs_cons {e:Expr} {es:List Expr} {t:TG} {u:TGs} (h1:PG X e t) (h2:PGs X es u)
  (hs:(assignEach (e::es) X.env).map (·.2)=assign e X.env::(assignEach es X.env).map (·.2):=by rfl):PGs X (e::es) (gCons t u):=by
 intro pins s σ H vs us Q I r h
 obtain ⟨v,vr,e1,h⟩:=h
 subst e1
 cases r with
 | cons r rr =>
  rw [hs]
  refine assignInOrder_cons (thn (h1 pins s σ H _ _ _ I r h) λ_ s1 ⟨σ1,H1,I1,q1⟩=>?_)
  exact h2 pins s1 σ1 H1 _ _ Q I1 rr q1
def gTup (K:PySem.W.Frag) (n:Nat) (t:TGs):TG:=λv σ H Q=>∃a xs,v=.ref a/\SqT K H a xs/\xs.length=n/\t xs σ H Q
theorem pg_tup {es:List Expr} {k:Nat} {t:TGs} {n:Nat} (hc:X.calm=true) (h:PGs X es t)
  (hn:(assignEach es X.env).length=n:=by rfl) (hst:(assignEach es X.env).findIdx? (·.1)=none:=by rfl):PG X (.Tuple es k pos) (gTup X.K n t):=by
 intro pins s σ H v u Q I r hw
 obtain ⟨a,xs,e1,hq,hl,hw⟩:=hw
 subst e1
 cases r
 obtain ⟨its,rv,ht,hz⟩:=I.tuple hq
 refine assign_Tuple_tuple (I.ok.hd hc) ht (by simp [hn,← hl,rv.length]) hst λh' hx=>?_
 have I1:Inv X pins σ H { s with heap:=h' }:=I.kept (t':=s.toks) λb o e=>hx b o (Nat.ne_of_lt (Heap.lt_size e)) e
 exact h pins _ σ H xs _ Q I1 (by simpa using rv) hw
def gSub (to ti:TE) (t:TSet):TG:=λv σ H Q=>to σ H λo H1=>ti σ H1 λi H2=>t o i v H2 λH3=>Q σ H3
theorem pg_sub {o i:Expr} {to ti:TE} {t:TSet} (ho:PE X o to) (hi:PE X i ti) (hs:PSet X t)
  (ha:∀v,assign (.Subscript o i pos) X.env v=(do
   let ov ← holding [v] (eval o X.env)
   let iv ← holding [v,ov] (eval i X.env)
   standAt pos
   holding [v,ov,iv] (setItem ov iv v)
   release [v,ov,iv] []):=by intro _;rfl):PG X (.Subscript o i pos) (gSub to ti t):=by
 intro pins s σ H v u Q I r h
 rw [ha]
 refine wpAny_bind (wpAny_holding (thn (ho pins s σ H _ I h) λov s1 ⟨x,H1,I1,r1,q1⟩=>?_))
 refine wpAny_bind (wpAny_holding (thn (hi pins s1 σ H1 _ I1 q1) λiv s2 ⟨y,H2,I2,r2,q2⟩=>?_))
 refine wpAny_bind (wpAny_standAt (wpAny_bind (wpAny_holding (thn (hs pins s2 σ H2 x y v ov iv u _ I2 r1 r2 r q2) λ_ s3 ⟨H3,I3,q3⟩=>?_))))
 exact wpAny_release ⟨σ,H3,I3,q3⟩
def tAsg (te:TE) (g:TG):TS:=λD σ H=>te σ H λx H1=>g x σ H1 D.nx
theorem ps_asg {tg e:Expr} {te:TE} {g:TG} (he:PE X e te) (hg:PG X tg g) (hs:swapsWithSole [tg] e pos.line X.env=pure false:=by rfl) (hw:swappedStores [tg] e X.env=pure none:=by rfl)
  (h1:(assignEach [tg] X.env).map (·.2)=[assign tg X.env]:=by rfl):PS X (.Assign [tg] e pos) (tAsg te g):=by
 intro pins s σ H D I h
 refine wpAny_Assign_stores (thn (he pins s σ H _ I h) λv s1 ⟨x,H1,I1,r1,q1⟩=>?_) hs hw
 rw [h1]
 exact thn (hg pins s1 σ H1 x v _ I1 r1 q1) λ_ s2 q=>q
theorem ps_set {i:Nat} {x:Str} {e:Expr} {te:TE} {pos':Pos} (hN:X.N.Nodup) (hi:X.N[i]? = some x) (hx:Loc X.env.scope x) (he:PE X e te) (hs:swapsWith e (some (.Name x pos')) pos.line X.env=pure false:=by rfl) (hf:X.fn x=true\/X.env.scope.names.lookup x=some .local:=by first | exact .inl rfl | exact .inr rfl | assumption) :
  PS X (.Assign [.Name x pos'] e pos) (tAsg te (gName i)):=by
 intro pins s σ H D I h
 refine wpAny_Assign_Name (thn (he pins s σ H _ I h) λv s1 ⟨y,H1,I1,r1,q1⟩=>?_) hs
 exact store_ok I1 hN hi hx r1 (λs2 I2=>⟨_,H1,I2,q1⟩) hf
end
section
variable {X:Cx} {pos:Pos}
end
structure It where
 go:Nat->Hp->Prop
 yld:Nat->Hp->V->Hp->Prop
 stop:Nat->Hp->Prop
def FpOk (X:Cx) (pins:List (Addr × Obj)) (H:Hp) (b:Addr):Prop :=
 H b=none/\b≠X.env.locals/\b∉X.fs/\(b∈X.ex\/X.s₀.heap.objs.size<=b)/\(∀x c,X.env.cells.lookup x=some c->c≠b)/\∀p∈X.pn++pins,p.1≠b
theorem Inv.fpOk {X:Cx} {pins:List (Addr × Obj)} {σ:St} {H H':Hp} {s:Shared} {b:Addr} (I:Inv X pins σ H s) (hb:s.heap.objs.size<=b) (hn:H' b=none):FpOk X pins H' b:=by
 refine ⟨hn,Nat.ne_of_gt (Nat.lt_of_lt_of_le I.lt hb),I.nofs hb,.inr (Nat.le_trans I.sz hb),λx c e z=>?_,λp hp z=>?_⟩
 ·obtain ⟨v,q⟩:=I.cell x c e
  exact absurd (Nat.lt_of_lt_of_le q.lt (by rw [z];exact hb)) (Nat.lt_irrefl _)
 ·exact absurd (Nat.lt_of_lt_of_le (Heap.lt_size (I.pin p hp).1) (by rw [z];exact hb)) (Nat.lt_irrefl _)
structure Turn (P:Program) (w:World) (K:PySem.W.Frag) (tg:Expr) (J:It) (fp:List Addr) (it:Addr) (tn:Nat->Heap->Prop):Prop where
 mem:it∈fp
 obj:∀i h,tn i h->∀b∈fp,∃o,h.get? b=some o/\∀v,o.data ≠ .cell v
 keep:∀i h h',tn i h->(∀b∈fp,∀o,h.get? b=some o->h'.get? b=some o)->tn i h'
 item:∀(X:Cx),X.prog=P->X.w=w->X.K=K->X.calm=true->∀(i:Nat) (pins:List (Addr × Obj)) (s:Shared) (σ:St) (H:Hp) (E:Value->Shared->Prop),Inv X pins σ H s->(∀b∈fp,FpOk X pins H b)->tn i s.heap->J.go i H ->
  wpAny (model P w) X.A (pyNext (.ref it)) (λr s1=>∃u,r=some u /\
   wpAny (model P w) X.A (letOwnedTupleGo tg (.ref it) u) (λ_ s2=>∃x H',Inv X pins σ H' s2/\RelV x u/\J.yld i H x H'/\tn (i+1) s2.heap/\∀b∈fp,H' b=none) E s1) E s
 done:∀(X:Cx),X.prog=P->X.w=w->X.K=K->X.calm=true->∀(i:Nat) (pins:List (Addr × Obj)) (s:Shared) (σ:St) (H:Hp) (E:Value->Shared->Prop),Inv X pins σ H s->(∀b∈fp,FpOk X pins H b)->tn i s.heap->J.stop i H ->
  wpAny (model P w) X.A (pyNext (.ref it)) (λr s1=>r=none/\Inv X pins σ H s1) E s
 self:∀(A:Around) (i:Nat) (s:Shared) (Q:Value->Shared->Prop) (E:Value->Shared->Prop),tn i s.heap->Q (.ref it) s->wpAny (model P w) A (pyIter (.ref it)) Q E s
abbrev TI:=St->Hp->(It->Hp->Prop)->Prop
def PIE (X:Cx) (pins:List (Addr × Obj)) (σ:St) (tg:Expr) (R:It->Hp->Prop) (itv:Value) (s2:Shared):Prop :=
 ∃(it:Addr) (fp:List Addr) (tn:Nat->Heap->Prop) (J:It) (H':Hp),itv=.ref it/\Inv X pins σ H' s2/\Turn X.prog X.w X.K tg J fp it tn/\tn 0 s2.heap/\(∀b∈fp,FpOk X pins H' b)/\R J H'
def PI (X:Cx) (tg iter:Expr) (wi:TI):Prop :=
 ∀(pins:List (Addr × Obj)) (s:Shared) (σ:St) (H:Hp) (R:It->Hp->Prop),Inv X pins σ H s->wi σ H R ->
  wpAny (model X.prog X.w) X.A (eval iter X.env) (λv s1=>wpAny (model X.prog X.w) X.A (pyIter v) (PIE X pins σ tg R) X.xe s1) X.xe s
theorem go_of {M:Model} {A:Around} {E:Value->Shared->Prop} {s:Shared} {tg:Expr} {it:Addr} {u:Value} {o:Obj} {n:String} {vs:Array Value} {Q:Unit->Shared->Prop} (ho:s.heap.get? it=some o) (hc:o.cls=.type n) (hd:o.data=.fields vs)
    (hn:["enumerate","zip","dict_itemiterator","dict_reverseitemiterator","odict_iterator","itertools.zip_longest","itertools.pairwise"].contains n=false) (hQ:Q () s):wpAny M A (letOwnedTupleGo tg (.ref it) u) Q E s:=by
  unfold letOwnedTupleGo
  cases tg <;> first
    | exact wpAny_pure hQ
    | (cases u <;> first
        | exact wpAny_pure hQ
        | (refine wpAny_bind (wpAny_load ho ?_)
           rw [hc,hd]
           show wpAny M A (if (["enumerate","zip","dict_itemiterator","dict_reverseitemiterator","odict_iterator","itertools.zip_longest","itertools.pairwise"].contains n && vs[0]? == some (rawInt _))=true then _ else _) Q E s
           rw [if_neg (by intro h;rw [hn,Bool.false_and] at h;cases h)]
           exact wpAny_pure hQ))
def Itl (K:PySem.W.Frag) (a:Addr):It :=
 ⟨λi H=>∃xs x,SqL K H a xs/\xs[i]? = some x,λi H x H'=>H'=H/\∀xs,SqL K H a xs->xs[i]? = some x,λi H=>∃xs,SqL K H a xs/\xs.length<=i⟩
def Itt (K:PySem.W.Frag) (a:Addr):It :=
 ⟨λi H=>∃xs x,SqT K H a xs/\xs[i]? = some x,λi H x H'=>H'=H/\∀xs,SqT K H a xs->xs[i]? = some x,λi H=>∃xs,SqT K H a xs/\xs.length<=i⟩
def Itr (lo:Int) (n:Nat):It:=⟨λi _=>i<n,λi H x H'=>H'=H/\x=.int (lo+i),λi _=>n<=i⟩
theorem turn_list {P:Program} {w:World} {K:PySem.W.Frag} {tg:Expr} (a it:Addr):Turn P w K tg (Itl K a) [it] it (λi h=>h.IsListIter it a i) where
 mem:=by simp
 obj:=λi h st b hb=>by
  have e:b=it:=by simpa using hb
  subst e
  obtain ⟨o,e,c,d⟩:=st
  exact ⟨o,e,λv z=>by rw [d] at z;cases z⟩
 keep:=λi h h' st k=>st.at λo e=>k it (by simp) o e
 item:=by
  intro X hP hw hK hc i pins s σ H E I hf st hg
  subst hP hw hK
  obtain ⟨xs,x,hq,hx⟩:=hg
  obtain ⟨its,rv,p,hz⟩:=I.list hq
  obtain ⟨u,hu,ru⟩:=rv.get hx
  obtain ⟨f0,f1,f2,f3,f4,f5⟩:=hf it (by simp)
  refine wpAny_pyNext_list_item st p.isList (x:=u) (by simpa using hu) λh' st' sb=>?_
  have I1:Inv X pins σ H { s with heap:=h' }:=I.turned (t':=s.toks) (λb o hb e=>(sb.2 b hb).trans e) f0 f1 f3 f4 f5
  obtain ⟨o,e,c,d⟩:=id st'
  exact ⟨u,rfl,go_of (s:={ s with heap:=h' }) e c d (by decide) ⟨x,H,I1,ru,⟨rfl,λys hy=>by rw [I.list_inj hy hq];exact hx⟩,st',λb hb=>(hf b hb).1⟩⟩
 done:=by
  intro X hP hw hK hc i pins s σ H E I hf st hg
  subst hP hw hK
  obtain ⟨xs,hq,hx⟩:=hg
  obtain ⟨its,rv,p,hz⟩:=I.list hq
  obtain ⟨f0,f1,f2,f3,f4,f5⟩:=hf it (by simp)
  have hl:=rv.length
  exact wpAny_pyNext_list_end (I.ok.hd hc) st p.isList (by simp;omega) λh' eb=>⟨rfl,I.turned (t':=s.toks) (λb o hb e=>eb b o hb e) f0 f1 f3 f4 f5⟩
 self:=λ_ _ _ _ _ st h=>wpAny_pyIter_listiter st h
theorem turn_tuple {P:Program} {w:World} {K:PySem.W.Frag} {tg:Expr} (a it:Addr):Turn P w K tg (Itt K a) [it] it (λi h=>h.IsTupleIter it a i) where
 mem:=by simp
 obj:=λi h st b hb=>by
  have e:b=it:=by simpa using hb
  subst e
  obtain ⟨o,e,c,d⟩:=st
  exact ⟨o,e,λv z=>by rw [d] at z;cases z⟩
 keep:=λi h h' st k=>st.at λo e=>k it (by simp) o e
 item:=by
  intro X hP hw hK hc i pins s σ H E I hf st hg
  subst hP hw hK
  obtain ⟨xs,x,hq,hx⟩:=hg
  obtain ⟨its,rv,p,hz⟩:=I.tuple hq
  obtain ⟨u,hu,ru⟩:=rv.get hx
  obtain ⟨f0,f1,f2,f3,f4,f5⟩:=hf it (by simp)
  refine wpAny_pyNext_tuple_item st (show s.heap.IsTuple a its.toArray from p) (x:=u) (by simpa using hu) λh' st' sb=>?_
  have I1:Inv X pins σ H { s with heap:=h' }:=I.turned (t':=s.toks) (λb o hb e=>(sb.2 b hb).trans e) f0 f1 f3 f4 f5
  obtain ⟨o,e,c,d⟩:=id st'
  exact ⟨u,rfl,go_of (s:={ s with heap:=h' }) e c d (by decide) ⟨x,H,I1,ru,⟨rfl,λys hy=>by rw [I.tuple_inj hy hq];exact hx⟩,st',λb hb=>(hf b hb).1⟩⟩
 done:=by
  intro X hP hw hK hc i pins s σ H E I hf st hg
  subst hP hw hK
  obtain ⟨xs,hq,hx⟩:=hg
  obtain ⟨its,rv,p,hz⟩:=I.tuple hq
  obtain ⟨f0,f1,f2,f3,f4,f5⟩:=hf it (by simp)
  have hl:=rv.length
  exact wpAny_pyNext_tuple_end (I.ok.hd hc) st (show s.heap.IsTuple a its.toArray from p) (by simp;omega) λh' eb=>⟨rfl,I.turned (t':=s.toks) (λb o hb e=>eb b o hb e) f0 f1 f3 f4 f5⟩
 self:=λ_ _ _ _ _ st h=>wpAny_pyIter_tupleiter st h
theorem turn_range {P:Program} {w:World} {K:PySem.W.Frag} {tg:Expr} (it:Addr) (lo:Int) (n:Nat):Turn P w K tg (Itr lo n) [it] it (λi h=>IsRangeIter h it (lo+(i:Nat)*1) ((n:Int)-(i:Nat)) 1) where
 mem:=by simp
 obj:=λi h st b hb=>by
  have e:b=it:=by simpa using hb
  subst e
  exact ⟨_,st,λv z=>by
   have z':Data.fields _=Data.cell v:=z
   cases z'⟩
 keep:=λi h h' st k=>k it (by simp) _ st
 item:=by
  intro X hP hw hK hc i pins s σ H E I hf st hg
  subst hP hw hK
  obtain ⟨f0,f1,f2,f3,f4,f5⟩:=hf it (by simp)
  have W:=Walks.range (prog:=X.prog) (w:=X.w) (I.ok.hd hc) it lo 1 n
  refine W.item i s _ _ hg st λv h' tk hv st' kk=>?_
  obtain ⟨t,rfl⟩:=hv
  have I1:Inv X pins σ H { s with heap:=h',toks:=tk }:=I.turned (λb o hb e=>kk b o (by simpa using hb) e) f0 f1 f3 f4 f5
  refine ⟨_,rfl,go_of (s:={ s with heap:=h',toks:=tk }) (n:="range_iterator") st' rfl rfl (by decide) ⟨.int (lo+i),H,I1,⟨t,?_⟩,⟨rfl,rfl⟩,st',λb hb=>(hf b hb).1⟩⟩
  rw [Int.mul_one]
 done:=by
  intro X hP hw hK hc i pins s σ H E I hf st hg
  subst hP hw hK
  obtain ⟨f0,f1,f2,f3,f4,f5⟩:=hf it (by simp)
  exact wpAny_pyNext_range_end (I.ok.hd hc) st (by have:n<=i:=hg;omega) λh' eb=>⟨rfl,I.turned (t':=s.toks) (λb o hb e=>eb b o hb e) f0 f1 f3 f4 f5⟩
 self:=λ_ _ _ _ _ st h=>wpAny_pyIter_rangeiter st h
end L2
namespace L2
open PySem PySem.Spec PyProof.Rows
section
variable {X:Cx} {tg:Expr}
def iTup (K:PySem.W.Frag) (tl:TE):TI:=λσ H R=>tl σ H λx H1=>∃a,x=.ref a/\(∃xs,SqT K H1 a xs)/\R (Itt K a) H1
theorem range_it {pins:List (Addr × Obj)} {σ:St} {H:Hp} {s:Shared} {R:It->Hp->Prop} {E:Value->Shared->Prop} {lo hi:Int} {t u v:Tok} {tk:Nat} (I:Inv X pins σ H s) (h1:-(2 ^ 62)<=lo) (h2:lo<2 ^ 62) (h3:-(2 ^ 62)<=hi) (h4:hi<2 ^ 62)
  (q:R (Itr lo (hi-lo).toNat) H):wpAny (model X.prog X.w) X.A (pyIter (.ref s.heap.objs.size)) (PIE X pins σ tg R) E { s with heap:=s.heap.push { cls:=.type "range",data:=.fields #[.int lo t,.int hi u,.int 1 v] },toks:=tk }:=by
 refine wpAny_pyIter_range (IsRange.new ..) (small_one h1 h2 h3 h4) ?_
 have I1:Inv X pins σ H { s with heap:=s.heap.push { cls:=.type "range",data:=.fields #[.int lo t,.int hi u,.int 1 v] },toks:=tk }:=I.kept λb o e=>Heap.get?_push_of_some _ e
 refine ⟨(s.heap.push { cls:=.type "range",data:=.fields #[.int lo t,.int hi u,.int 1 v] }).objs.size,[(s.heap.push { cls:=.type "range",data:=.fields #[.int lo t,.int hi u,.int 1 v] }).objs.size],_,_,H,rfl,
  I1.kept (t':=tk) λb o e=>Heap.get?_push_of_some _ e,turn_range _ lo (hi-lo).toNat,?_,λb hb=>?_,q⟩
 ·have e1:lo+((0:Nat):Int)*1=lo:=by simp
  have e2:(((hi-lo).toNat:Nat):Int)-((0:Nat):Int)=Builtin.Range.rangeSize lo hi 1:=by rw [rangeSize_one];split <;> omega
  show IsRangeIter _ _ (lo+((0:Nat):Int)*1) ((((hi-lo).toNat:Nat):Int)-((0:Nat):Int)) 1
  rw [e1,e2]
  exact Heap.get?_push_size _ rfl
 ·have e:b=(s.heap.push { cls:=.type "range",data:=.fields #[.int lo t,.int hi u,.int 1 v] }).objs.size:=by simpa using hb
  subst e
  exact I1.fpOk (Nat.le_refl _) (I1.hok.fresh (Nat.le_refl _))
def iRng1 (ta:TA):TI:=λσ H R=>ta σ H λvs H1=>∃j:Int,vs=[.int j] /\ -(2 ^ 62)<=j/\j<2 ^ 62/\R (Itr 0 j.toNat) H1
theorem pi_range1 {a:Expr} {ta:TA} {p pos:Pos} (hg:Gl X "range") (hm:X.mg "range" = none) (ha:PA X [a] ta) (hs:starEach [a] X.env=[(false,eval a X.env)]:=by rfl):PI X tg (.Call (.Name "range" p) [a] [] pos) (iRng1 ta):=by
 intro pins s σ H R I h
 refine Call_ (ld_blt I hg hm boot_range (PyProof.Rows.callWith_type1 (thn (ha pos pins s σ H _ I h) λus s1 ⟨vs,H1,I1,r1,q1⟩=>?_) hs rfl))
 obtain ⟨j,e,q1,q2,q⟩:=q1
 subst e
 cases r1 with
 | cons r rr =>
  cases rr
  obtain ⟨t,rfl⟩:=r
  exact call_range_1 (range_it I1 (by omega) (by omega) q1 q2 (by simpa using q))
def tFor (wi:TI) (g:TG) (tb:TS):TS:=λD σ H=>wi σ H λJ H1=>∃W:Nat->Nat->St->Hp->Prop,(∃m,W 0 m σ H1)/\∀i m σ H,W i m σ H ->
 (J.stop i H/\D.nx σ H)\/(J.go i H/\∃N:St->Hp->Prop,(∀σ' H',N σ' H'->∃m',m' < m/\W (i+1) m' σ' H')/\∀x H',J.yld i H x H'->g x σ H' λσ2 H2=>tb { D with nx:=N,ct:=N,bk:=D.nx } σ2 H2)
def pinsAt (fp:List Addr) (h:Heap):List (Addr × Obj):=fp.filterMap λb=>(h.get? b).map λo=>(b,o)
theorem mem_pinsAt {fp:List Addr} {h:Heap} {b:Addr} {o:Obj} (hb:b∈fp) (e:h.get? b=some o):(b,o)∈pinsAt fp h:=List.mem_filterMap.mpr ⟨b,hb,by rw [e];rfl⟩
theorem of_pinsAt {fp:List Addr} {h:Heap} {p:Addr × Obj} (hp:p∈pinsAt fp h):p.1∈fp/\h.get? p.1=some p.2:=by
 obtain ⟨b,hb,e⟩:=List.mem_filterMap.mp hp
 cases q:h.get? b with
 | none=>rw [q] at e;cases e
 | some o =>
  rw [q] at e
  have e':(b,o)=p:=Option.some.inj e
  subst e'
  exact ⟨hb,q⟩
theorem Inv.pinned {pins:List (Addr × Obj)} {σ:St} {H:Hp} {s:Shared} {fp:List Addr} (I:Inv X pins σ H s) (hf:∀b∈fp,FpOk X pins H b) (ho:∀b∈fp,∃o,s.heap.get? b=some o/\∀v,o.data ≠ .cell v):Inv X (pins++pinsAt fp s.heap) σ H s :=
 I.pins_of λp hp=>(List.mem_append.mp hp).elim (λz=>I.pin p (List.mem_append_right _ z)) λz=>by
  obtain ⟨hb,e⟩:=of_pinsAt z
  obtain ⟨f0,f1,f2,_⟩:=hf p.1 hb
  obtain ⟨o,e',d⟩:=ho p.1 hb
  rw [e] at e';cases e'
  exact ⟨e,f0,f1,f2,d⟩
theorem Inv.unpinned {pins pl:List (Addr × Obj)} {σ:St} {H:Hp} {s:Shared} (I:Inv X (pins++pl) σ H s):Inv X pins σ H s:=I.pins_of λp hp=>I.pin p (List.mem_append_right _ (List.mem_append_left _ hp))
theorem ps_for {iter:Expr} {body:List Stmt} {wi:TI} {g:TG} {tb:TS} {pos:Pos} (hp:PassesOwn (model X.prog X.w) X.A X.env X.xe) (hc:X.calm=true) (hi:PI X tg iter wi) (hg:PG X tg g) (hb:PSs X body tb)
  (hs:∀x,foldedSetIterable iter X.env x=pure x:=by intro _;rfl):PS X (.For tg iter body [] pos) (tFor wi g tb):=by
 intro pins s σ H D I h
 refine wpAny_For (thn (hi pins s σ H _ I h) λv s1 h1=>thn h1 λitv s2 h2=>?_) hs
 obtain ⟨it,fp,tn,J,H2,e,I2,T,st2,f2,W,⟨m0,w0⟩,turn⟩:=h2
 subst e
 -- what stays true of the iterator's objects through the loop
 have stat:∀{H':Hp},(∀b∈fp,H' b=none)->∀b∈fp,FpOk X pins H' b:=λhn b hb=>⟨hn b hb,(f2 b hb).2⟩
 refine codeAny_forLoop_any (λn s'=>∃i σ' H',Inv X pins σ' H' s'/\tn i s'.heap/\(∀b∈fp,H' b=none)/\W i n σ' H') ?_ m0 ⟨0,σ,H2,I2,st2,λb hb=>(f2 b hb).1,w0⟩
 rintro n s3 ⟨i,σ3,H3,I3,st3,fr3,w3⟩
 rcases turn i n σ3 H3 w3 with ⟨stop,qn⟩ | ⟨go,N,hN,step⟩
 ·refine wpAny_passesOwn hp (thn (T.done X rfl rfl rfl hc i pins s3 σ3 H3 X.xe I3 (stat fr3) st3 stop) λr s4 ⟨hr,I4⟩=>?_)
  subst hr
  exact wpAny_execs_nil ⟨σ3,H3,I4,qn⟩
 ·refine wpAny_passesOwn hp (thn (T.item X rfl rfl rfl hc i pins s3 σ3 H3 X.xe I3 (stat fr3) st3 go) λr s4 ⟨u,hr,h4⟩=>?_)
  subst hr
  refine wpAny_passesOwn hp (thn h4 λ_ s5 ⟨x,H5,I5,r5,y5,st5,fr5⟩=>?_)
  have I5':=I5.pinned (stat fr5) (T.obj _ _ st5)
  refine wpAny_passesOwn hp (thn (hg _ s5 σ3 H5 x u _ I5' r5 (step x H5 y5)) λ_ s6 ⟨σ6,H6,I6,q6⟩=>?_)
  refine wpAny_passesOwn hp (thn (hb _ s6 σ6 H6 _ I6 q6) λf s7 q7=>?_)
  have again:∀{σ7:St} {H7:Hp},Inv X (pins++pinsAt fp s5.heap) σ7 H7 s7->N σ7 H7->∃m,m<n/\∃i σ' H',Inv X pins σ' H' s7/\tn i s7.heap/\(∀b∈fp,H' b=none)/\W i m σ' H':=λ{σ7 H7} I7 n7=>by
   obtain ⟨m',hm,w7⟩:=hN σ7 H7 n7
   refine ⟨m',hm,i+1,σ7,H7,I7.unpinned,T.keep _ _ _ st5 λb hb o e=>(I7.pin (b,o) (List.mem_append_right _ (List.mem_append_right _ (mem_pinsAt hb e)))).1,λb hb=>?_,w7⟩
   obtain ⟨o,e,d⟩:=T.obj _ _ st5 b hb
   exact (I7.pin (b,o) (List.mem_append_right _ (List.mem_append_right _ (mem_pinsAt hb e)))).2.1
  cases f with
  | next=>obtain ⟨σ7,H7,I7,n7⟩:=q7;exact again I7 n7
  | cont=>obtain ⟨σ7,H7,I7,n7⟩:=q7;exact again I7 n7
  | brk=>obtain ⟨σ7,H7,I7,q7⟩:=q7;exact ⟨σ7,H7,I7.unpinned,q7⟩
  | ret v=>obtain ⟨x7,σ7,H7,I7,r7,q7⟩:=q7;exact ⟨x7,σ7,H7,I7.unpinned,r7,q7⟩
end
end L2
namespace L2
open PySem PySem.Spec PyProof.Rows
abbrev R2:=V->V->Hp->VK->Prop
def OpR (X:Cx) (f:Value->Value->Sem Value) (r:R2):Prop :=
 ∀(pins:List (Addr × Obj)) (s:Shared) (σ:St) (H:Hp) (x y:V) (v u:Value) (Q:VK),Inv X pins σ H s->RelV x v->RelV y u->r x y H Q ->
  wpAny (model X.prog X.w) X.A (f v u) (EP X pins σ Q) X.xe s
def UnR (X:Cx) (f:Value->Sem Value) (r:V->Hp->VK->Prop):Prop :=
 ∀(pins:List (Addr × Obj)) (s:Shared) (σ:St) (H:Hp) (x:V) (v:Value) (Q:VK),Inv X pins σ H s->RelV x v->r x H Q ->
  wpAny (model X.prog X.w) X.A (f v) (EP X pins σ Q) X.xe s
def CallR (X:Cx) (f:Value) (r:List V->Hp->VK->Prop):Prop :=
 ∀(pins:List (Addr × Obj)) (s:Shared) (σ:St) (H:Hp) (xs:List V) (us:List Value) (Q:VK),Inv X pins σ H s->Vals xs us->r xs H Q ->
  wpAny (model X.prog X.w) X.A (call f us) (EP X pins σ Q) X.xe s
def TruR (X:Cx) (r:V->Hp->(Bool->Hp->Prop)->Prop):Prop :=
 ∀(pins:List (Addr × Obj)) (s:Shared) (σ:St) (H:Hp) (x:V) (v:Value) (Q:Bool->Hp->Prop),Inv X pins σ H s->RelV x v->r x H Q ->
  wpAny (model X.prog X.w) X.A (truthy v) (TP X pins σ Q) X.xe s
def tOp (r:R2) (ta tb:TE):TE:=λσ H Q=>ta σ H λx H1=>tb σ H1 λy H2=>r x y H2 Q
def tUn (r:V->Hp->VK->Prop) (ta:TE):TE:=λσ H Q=>ta σ H λx H1=>r x H1 Q
def rI (C:Int->Int->Prop) (g:Int->Int->V):R2:=λx y H Q=>∃i j,x=.int i/\y=.int j/\C i j/\Q (g i j) H
def rI0 (g:Int->Int->V):R2:=λx y H Q=>∃i j,x=.int i/\y=.int j/\Q (g i j) H
def rU (g:Int->V):V->Hp->VK->Prop:=λx H Q=>∃i,x=.int i/\Q (g i) H
section
variable {X:Cx} {a b c:Expr} {ta tb tc:TE} {pos:Pos}
theorem binT (ha:PE X a ta) (hb:PE X b tb) {pins:List (Addr × Obj)} {s:Shared} {σ:St} {H:Hp} {R:V->V->Hp->Prop} (I:Inv X pins σ H s)
  (h:ta σ H λx H1=>tb σ H1 λy H2=>R x y H2) {Q:Value->Shared->Prop} {f:Value->Value->Sem Value}
  (hf:∀v u s2 x y H2,Inv X pins σ H2 s2->RelV x v->RelV y u->R x y H2->wpAny (model X.prog X.w) X.A (f v u) Q X.xe s2) :
  wpAny (model X.prog X.w) X.A (eval a X.env) (λv s₁=>wpAny (model X.prog X.w) X.A (eval b X.env) (λu s₂=>wpAny (model X.prog X.w) X.A (f v u) Q X.xe s₂) X.xe s₁) X.xe s:=by
 refine thn (ha pins s σ H _ I h) λv s1 ⟨x,H1,I1,r1,q1⟩=>?_
 refine thn (hb pins s1 σ H1 _ I1 q1) λu s2 ⟨y,H2,I2,r2,q2⟩=>?_
 exact hf v u s2 x y H2 I2 r1 r2 q2
theorem pe_op {op:Operator} {r:R2} (ho:OpR X (binaryOp op) r) (ha:PE X a ta) (hb:PE X b tb):PE X (.BinOp a op b pos) (tOp r ta tb):=by
 intro pins s σ H Q I h
 exact wpAny_BinOp (binT ha hb I h λv u s2 x y H2 I2 rx ry q=>ho pins s2 σ H2 x y v u Q I2 rx ry q)
theorem pe_un {op:UnaryOp} {r:V->Hp->VK->Prop} (ho:UnR X (unaryOp op) r) (ha:PE X a ta):PE X (.UnaryOp op a pos) (tUn r ta):=by
 intro pins s σ H Q I h
 exact UnaryOp_ (thn (ha pins s σ H _ I h) λv s1 ⟨x,H1,I1,r1,q1⟩=>ho pins s1 σ H1 x v Q I1 r1 q1)
theorem opI {f:Value->Value->Sem Value} {C:Int->Int->Prop} {g:Int->Int->Int}
  (rule:∀(i j:Int) (t u:Tok) (s:Shared) (Q:Value->Shared->Prop) (E:Value->Shared->Prop),C i j->Q (.int (g i j) s.toks) { s with toks:=s.toks+1 }->wpAny (model X.prog X.w) X.A (f (.int i t) (.int j u)) Q E s) :
  OpR X f (rI C λi j=>.int (g i j)):=by
 intro pins s σ H x y v u Q I rx ry h
 obtain ⟨i,j,rfl,rfl,hc,q⟩:=h
 obtain ⟨t,rfl⟩:=rx
 obtain ⟨t',rfl⟩:=ry
 exact rule i j t t' s _ _ hc ⟨.int (g i j),H,I.tok _,⟨_,rfl⟩,q⟩
theorem opI0 {f:Value->Value->Sem Value} {g:Int->Int->Int}
  (rule:∀(i j:Int) (t u:Tok) (s:Shared) (Q:Value->Shared->Prop) (E:Value->Shared->Prop),Q (.int (g i j) s.toks) { s with toks:=s.toks+1 }->wpAny (model X.prog X.w) X.A (f (.int i t) (.int j u)) Q E s) :
  OpR X f (rI0 λi j=>.int (g i j)):=by
 intro pins s σ H x y v u Q I rx ry h
 obtain ⟨i,j,rfl,rfl,q⟩:=h
 obtain ⟨t,rfl⟩:=rx
 obtain ⟨t',rfl⟩:=ry
 exact rule i j t t' s _ _ ⟨.int (g i j),H,I.tok _,⟨_,rfl⟩,q⟩
theorem opB0 {f:Value->Value->Sem Value} {g:Int->Int->Bool}
  (rule:∀(i j:Int) (t u:Tok) (s:Shared) (Q:Value->Shared->Prop) (E:Value->Shared->Prop),Q (.bool (g i j)) s->wpAny (model X.prog X.w) X.A (f (.int i t) (.int j u)) Q E s) :
  OpR X f (rI0 λi j=>.bl (g i j)):=by
 intro pins s σ H x y v u Q I rx ry h
 obtain ⟨i,j,rfl,rfl,q⟩:=h
 obtain ⟨t,rfl⟩:=rx
 obtain ⟨t',rfl⟩:=ry
 exact rule i j t t' s _ _ ⟨.bl (g i j),H,I,rfl,q⟩
def CDiv (i j:Int):Prop:=0<j/\j<1073741824
def CDivN (i j:Int):Prop:=j≠0/\j.natAbs<1073741824
def CPow (i j:Int):Prop:=0<=j/\j<=1000000/\i.natAbs<2 ^ 64
def CMul (i j:Int):Prop:=(-(2 ^ 64)<i/\i<2 ^ 64)\/(-(2 ^ 64)<j/\j<2 ^ 64)
theorem CMul.ok {i j:Int} (h:CMul i j):IntMulOk i j:=by
 rcases h with ⟨h1,h2⟩ | ⟨h1,h2⟩
 ·exact .of_left (intBits_le_64 h1 h2)
 ·exact .of_right (intBits_le_64 h1 h2)
theorem op_add:OpR X (binaryOp .Add) (rI0 λi j=>.int (i+j)):=opI0 λ_ _ _ _ _ _ _ q=>add_int q
theorem op_sub:OpR X (binaryOp .Sub) (rI0 λi j=>.int (i-j)):=opI0 λ_ _ _ _ _ _ _ q=>sub_int q
theorem op_mul:OpR X (binaryOp .Mult) (rI CMul λi j=>.int (i*j)):=opI λ_ _ _ _ _ _ _ hc q=>mul_int q hc.ok
theorem op_fdiv:OpR X (binaryOp .FloorDiv) (rI CDiv λi j=>.int (i / j)):=opI λi j _ _ _ _ _ hc q=>by
 have h1:(0:Int)<j:=hc.1
 have h2:j<1073741824:=hc.2
 exact floordiv_int (by omega) (by rw [Int.fdiv_eq_ediv_of_nonneg i (by omega)];exact q) (.inl (PyProof.noPylong_small (by omega)))
theorem op_fdivN:OpR X (binaryOp .FloorDiv) (rI CDivN λi j=>.int (i.fdiv j)):=opI λ_ _ _ _ _ _ _ hc q=>floordiv_int hc.1 q (.inl (PyProof.noPylong_small hc.2))
theorem op_mod:OpR X (binaryOp .Mod) (rI (λ_ j=>0<j) λi j=>.int (i % j)):=opI λi j _ _ _ _ _ hc q=>by
 have h1:(0:Int)<j:=hc
 exact mod_int' (by omega) (by rw [Int.fmod_eq_emod_of_nonneg i (by omega)];exact q)
theorem op_modN:OpR X (binaryOp .Mod) (rI (λ_ j=>j≠0) λi j=>.int (i.fmod j)):=opI λ_ _ _ _ _ _ _ hc q=>mod_int' hc q
theorem op_pow:OpR X (binaryOp .Pow) (rI CPow λi j=>.int (i ^ j.toNat)):=opI λ_ _ _ _ _ _ _ hc q=>pow_int_small hc.1 hc.2.1 hc.2.2 q
theorem unI {f:Value->Sem Value} {g:Int->Int}
  (rule:∀(i:Int) (t:Tok) (s:Shared) (Q:Value->Shared->Prop) (E:Value->Shared->Prop),Q (.int (g i) s.toks) { s with toks:=s.toks+1 }->wpAny (model X.prog X.w) X.A (f (.int i t)) Q E s) :
  UnR X f (rU λi=>.int (g i)):=by
 intro pins s σ H x v Q I rx h
 obtain ⟨i,rfl,q⟩:=h
 obtain ⟨t,rfl⟩:=rx
 exact rule i t s _ _ ⟨.int (g i),H,I.tok _,⟨_,rfl⟩,q⟩
theorem un_neg:UnR X (unaryOp .USub) (rU λi=>.int (-i)):=unI λ_ _ _ _ _ q=>neg_int q
end
def scal:V->V->Bool
 | .non,.non=>true | .non,.int _=>true | .int _,.non=>true | .non,.bl _=>true | .bl _,.non=>true | .non,.str _=>true | .str _,.non=>true
 | .int _,.int _=>true | .bl _,.bl _=>true | .str _,.str _=>true | .byt _,.byt _=>true
 | .int _,.str _=>true | .str _,.int _=>true | .bl _,.str _=>true | .str _,.bl _=>true
 | _,_=>false
def rEq:R2:=λx y H Q=>scal x y=true/\Q (.bl (decide (x=y))) H
def rNe:R2:=λx y H Q=>scal x y=true/\Q (.bl (!decide (x=y))) H
theorem dec_int {i j:Int}:decide (V.int i=V.int j)=(i == j):=by
 rw [Bool.eq_iff_iff]
 simp
theorem dec_bl {i j:Bool}:decide (V.bl i=V.bl j)=(i == j):=by
 rw [Bool.eq_iff_iff]
 simp
theorem dec_str {i j:Str}:decide (V.str i=V.str j)=(i == j):=by
 rw [Bool.eq_iff_iff]
 simp
theorem dec_byt {i j:Array UInt8}:decide (V.byt i=V.byt j)=(i.toList == j.toList):=by
 rw [Bool.eq_iff_iff]
 cases i
 cases j
 simp
section
variable {X:Cx} {a b c:Expr} {ta tb tc:TE} {pos:Pos}
theorem fin_bl {pins:List (Addr × Obj)} {σ:St} {H:Hp} {s:Shared} {Q:VK} {k k':Bool} (I:Inv X pins σ H s) (q:Q (.bl k) H) (e:k=k'):EP X pins σ Q (.bool k') s:=by
 subst e
 exact ⟨.bl k,H,I,rfl,q⟩
theorem op_eq:OpR X (compareOp .Eq) rEq:=by
 intro pins s σ H x y v u Q I rx ry h
 obtain ⟨hs,q⟩:=h
 cases x with
 | non =>
  cases rx
  cases y with
  | non=>cases ry;exact PySem.EqNone.eq_none_none (fin_bl I q (by simp))
  | bl j=>cases ry;exact PySem.EqNone.eq_none_bool (fin_bl I q (by simp))
  | int j=>obtain ⟨t',rfl⟩:=ry;exact PySem.EqNone.eq_none_int (fin_bl I q (by simp))
  | str j=>obtain ⟨t',rfl⟩:=ry;exact PySem.EqNone.eq_none_str (fin_bl I q (by simp))
  | _=>exact absurd (show false=true from hs) Bool.false_ne_true
 | bl i =>
  cases rx
  cases y with
  | non=>cases ry;exact PySem.EqNone.eq_bool_none (fin_bl I q (by simp))
  | bl j=>cases ry;exact eq_bool (fin_bl I q dec_bl)
  | str j=>obtain ⟨t',rfl⟩:=ry;exact PySem.EqMixed.eq_bool_str (fin_bl I q (by simp))
  | _=>exact absurd (show false=true from hs) Bool.false_ne_true
 | int i =>
  obtain ⟨t,rfl⟩:=rx
  cases y with
  | non=>cases ry;exact PySem.EqNone.eq_int_none (fin_bl I q (by simp))
  | int j=>obtain ⟨t',rfl⟩:=ry;exact eq_int (fin_bl I q dec_int)
  | str j=>obtain ⟨t',rfl⟩:=ry;exact PySem.EqMixed.eq_int_str (fin_bl I q (by simp))
  | _=>exact absurd (show false=true from hs) Bool.false_ne_true
 | str i =>
  obtain ⟨t,rfl⟩:=rx
  cases y with
  | non=>cases ry;exact PySem.EqNone.eq_str_none (fin_bl I q (by simp))
  | bl j=>cases ry;exact PySem.EqMixed.eq_str_bool (fin_bl I q (by simp))
  | int j=>obtain ⟨t',rfl⟩:=ry;exact PySem.EqMixed.eq_str_int (fin_bl I q (by simp))
  | str j=>obtain ⟨t',rfl⟩:=ry;exact eq_str (fin_bl I q dec_str)
  | _=>exact absurd (show false=true from hs) Bool.false_ne_true
 | byt i =>
  obtain ⟨t,rfl⟩:=rx
  cases y with
  | byt j=>obtain ⟨t',rfl⟩:=ry;exact PySem.W.eq_bytes (fin_bl I q dec_byt)
  | _=>exact absurd (show false=true from hs) Bool.false_ne_true
 | _=>cases y <;> exact absurd (show false=true from hs) Bool.false_ne_true
theorem op_ne:OpR X (compareOp .NotEq) rNe:=by
 intro pins s σ H x y v u Q I rx ry h
 obtain ⟨hs,q⟩:=h
 cases x with
 | non =>
  cases rx
  cases y with
  | non=>cases ry;exact PySem.EqNone.ne_none_none (fin_bl I q (by simp))
  | bl j=>cases ry;exact PySem.EqNone.ne_none_bool (fin_bl I q (by simp))
  | int j=>obtain ⟨t',rfl⟩:=ry;exact PySem.EqNone.ne_none_int (fin_bl I q (by simp))
  | str j=>obtain ⟨t',rfl⟩:=ry;exact PySem.EqNone.ne_none_str (fin_bl I q (by simp))
  | _=>exact absurd (show false=true from hs) Bool.false_ne_true
 | bl i =>
  cases rx
  cases y with
  | non=>cases ry;exact PySem.EqNone.ne_bool_none (fin_bl I q (by simp))
  | bl j=>cases ry;exact ne_bool (fin_bl I q (congrArg not dec_bl))
  | str j=>obtain ⟨t',rfl⟩:=ry;exact PySem.EqMixed.ne_bool_str (fin_bl I q (by simp))
  | _=>exact absurd (show false=true from hs) Bool.false_ne_true
 | int i =>
  obtain ⟨t,rfl⟩:=rx
  cases y with
  | non=>cases ry;exact PySem.EqNone.ne_int_none (fin_bl I q (by simp))
  | int j=>obtain ⟨t',rfl⟩:=ry;exact ne_int (fin_bl I q (congrArg not dec_int))
  | str j=>obtain ⟨t',rfl⟩:=ry;exact PySem.EqMixed.ne_int_str (fin_bl I q (by simp))
  | _=>exact absurd (show false=true from hs) Bool.false_ne_true
 | str i =>
  obtain ⟨t,rfl⟩:=rx
  cases y with
  | non=>cases ry;exact PySem.EqNone.ne_str_none (fin_bl I q (by simp))
  | bl j=>cases ry;exact PySem.EqMixed.ne_str_bool (fin_bl I q (by simp))
  | int j=>obtain ⟨t',rfl⟩:=ry;exact PySem.EqMixed.ne_str_int (fin_bl I q (by simp))
  | str j=>obtain ⟨t',rfl⟩:=ry;exact ne_str (fin_bl I q (congrArg not dec_str))
  | _=>exact absurd (show false=true from hs) Bool.false_ne_true
 | byt i =>
  obtain ⟨t,rfl⟩:=rx
  cases y with
  | byt j=>obtain ⟨t',rfl⟩:=ry;exact PySem.W.ne_bytes (fin_bl I q (congrArg not dec_byt))
  | _=>exact absurd (show false=true from hs) Bool.false_ne_true
 | _=>cases y <;> exact absurd (show false=true from hs) Bool.false_ne_true
theorem op_lt:OpR X (compareOp .Lt) (rI0 λi j=>.bl (decide (i<j))):=opB0 λ_ _ _ _ _ _ _ q=>lt_int q
theorem op_gt:OpR X (compareOp .Gt) (rI0 λi j=>.bl (decide (j<i))):=opB0 λ_ _ _ _ _ _ _ q=>gt_int q
theorem op_in_str:OpR X (compareOp .In) (λx y H Q=>∃i j,x=.str i/\y=.str j/\Q (.bl (!(Builtin.Str.occurrences j i 0 j.length 1).isEmpty)) H):=by
 intro pins s σ H x y v u Q I rx ry h
 obtain ⟨i,j,rfl,rfl,q⟩:=h
 obtain ⟨t,rfl⟩:=rx
 obtain ⟨t',rfl⟩:=ry
 exact in_str (fin_bl I q rfl)
theorem OpR.or {f:Value->Value->Sem Value} {r r':R2} (h:OpR X f r) (h':OpR X f r'):OpR X f (λx y H Q=>r x y H Q\/r' x y H Q):=by
 intro pins s σ H x y v u Q I rx ry q
 rcases q with q | q
 ·exact h pins s σ H x y v u Q I rx ry q
 ·exact h' pins s σ H x y v u Q I rx ry q
theorem nomark (b:Expr) {op:CmpOp} (h:op ≠ .In:=by decide) (h2:op ≠ .NotIn:=by decide):behindInMarks op b=false:=by
 have e1:(op == CmpOp.In)=false:=by cases op <;> first | rfl | exact absurd rfl h
 have e2:(op == CmpOp.NotIn)=false:=by cases op <;> first | rfl | exact absurd rfl h2
 cases b <;> simp [behindInMarks,e1,e2]
theorem pe_cmpR {op:CmpOp} {r:R2} (ho:OpR X (compareOp op) r) (ha:PE X a ta) (hb:PE X b tb) (hm:behindInMarks op b=false):PE X (.Compare a [op] [b] pos) (tOp r ta tb):=by
 intro pins s σ H Q I h
 exact wpAny_Compare1 (binT ha hb I h λv u s2 x y H2 I2 rx ry q=>ho pins s2 σ H2 x y v u Q I2 rx ry q) hm
def tTest (t:TE):TT:=λσ H Q=>t σ H λx H'=>∃k,x=.bl k/\Q k H'
theorem pt_cmpR {op:CmpOp} {r:R2} (ho:OpR X (compareOp op) r) (ha:PE X a ta) (hb:PE X b tb) (hm:behindInMarks op b=false):PT X (.Compare a [op] [b] pos) (tTest (tOp r ta tb)):=by
 intro pins s σ H Q I h
 refine wpAny_isTrue_Compare1 (thn (ha pins s σ H _ I h) λv s1 ⟨x,H1,I1,r1,q1⟩=>thn (hb pins s1 σ H1 _ I1 q1) λu s2 ⟨y,H2,I2,r2,q2⟩ =>
  thn (ho pins s2 σ H2 x y v u _ I2 r1 r2 q2) λc s3 ⟨z,H3,I3,r3,k,e,q3⟩=>?_) hm
 subst e
 cases r3
 exact wpAny_truthy_bool ⟨H3,I3,q3⟩
def TruV (K:PySem.W.Frag) (x:V) (H:Hp) (k:Bool):Prop :=
 match x with
 | .non=>k=false
 | .bl b=>k=b
 | .int i=>k=(i != 0)
 | .str y=>y.length<=sizeLine/\k=((y.length:Int) != 0)
 | .byt y=>y.size<=sizeLine/\k=((y.size:Int) != 0)
 | .ref p=>(∃xs,SqL K H p xs/\k = !xs.isEmpty)\/(∃xs,SqT K H p xs/\k = !xs.isEmpty)\/∃kvs,H p=some (.dK kvs)/\k = !kvs.isEmpty
 | _=>False
theorem isEmpty_kv {κ:Type} {kvs:List (κ × V)} {vs:List (κ × Value)} (r:KV kvs vs):(!vs.isEmpty) = !kvs.isEmpty:=by
 cases r <;> rfl
theorem isEmpty_of {xs:List V} {its:List Value} (r:Vals xs its):(!its.toArray.isEmpty) = !xs.isEmpty:=by
 cases r <;> simp
theorem line63:(sizeLine:Nat)<2 ^ 63:=by rw [sizeLine_eq];decide
theorem tru_ok:TruR X (λx H Q=>∃k,TruV X.K x H k/\Q k H):=by
 intro pins s σ H x v Q I rx h
 obtain ⟨k,e,q⟩:=h
 have hl:=line63
 have hs:sizeLine=16777216:=sizeLine_eq
 cases x with
 | non =>
  cases rx
  have e':k=false:=e
  subst e'
  exact truthy_none ⟨H,I,q⟩
 | bl b =>
  cases rx
  have e':k=b:=e
  subst e'
  exact wpAny_truthy_bool ⟨H,I,q⟩
 | int i =>
  obtain ⟨t,rfl⟩:=rx
  have e':k=(i != 0):=e
  subst e'
  exact PySem.P.truthy_int ⟨H,I,q⟩
 | str y =>
  obtain ⟨t,rfl⟩:=rx
  obtain ⟨hy,e'⟩:y.length<=sizeLine/\k=((y.length:Int) != 0):=e
  subst e'
  exact PySem.P.truthy_str (by omega) ⟨H,I.tok _,q⟩
 | byt y =>
  obtain ⟨t,rfl⟩:=rx
  obtain ⟨hy,e'⟩:y.size<=sizeLine/\k=((y.size:Int) != 0):=e
  subst e'
  exact PySem.W.truthy_bytes (by omega) ⟨H,I.tok _,q⟩
 | ref p =>
  cases rx
  have e':(∃xs,SqL X.K H p xs/\k = !xs.isEmpty)\/(∃xs,SqT X.K H p xs/\k = !xs.isEmpty)\/∃kvs,H p=some (.dK kvs)/\k = !kvs.isEmpty:=e
  rcases e' with ⟨xs,hx,e'⟩ | ⟨xs,hx,e'⟩ | ⟨kvs,hx,e'⟩
  ·subst e'
   obtain ⟨its,r,pl,hz⟩:=I.list hx
   have hlen:=r.length
   exact wpAny_truthy_list pl.isList (by simp only [List.size_toArray];omega) ⟨H,I.tok _,by rw [isEmpty_of r];exact q⟩
  ·subst e'
   obtain ⟨its,r,pl,hz⟩:=I.tuple hx
   have hlen:=r.length
   exact truthy_tuple pl (by simp only [List.size_toArray];omega) ⟨H,I.tok _,by rw [isEmpty_of r];exact q⟩
  ·subst e'
   obtain ⟨hz,hS,vs,r,m⟩:kvs.length<=sizeLine/\(p == sysModules)=false/\∃vs,KV kvs vs/\s.heap.DictOf (mixKind X.prog X.w) p vs:=I.hok p _ hx
   have hlen:kvs.length=vs.length:=Paired.length r
   exact wpAny_truthy_dict hS m (by omega) ⟨H,I.tok _,by rw [isEmpty_kv r];exact q⟩
 | _=>exact (show False from e).elim
theorem pt_truth (ha:PE X a ta) (he:∀whole,isTrue a X.env whole=(do let v ← whole;standAt a.pos;holding [v] (truthy v))) :
  PT X a (λσ H Q=>ta σ H λx H'=>∃k,TruV X.K x H' k/\Q k H'):=by
 intro pins s σ H Q I h
 exact isTrue_plain (thn (ha pins s σ H _ I h) λv s1 ⟨x,H1,I1,r1,q1⟩=>tru_ok pins s1 σ H1 x v Q I1 r1 q1) (he _)
theorem op_add_str:OpR X (binaryOp .Add) (λx y H Q=>∃i j,x=.str i/\y=.str j/\i.length+j.length<=sizeLine/\Q (.str (i++j)) H):=by
 intro pins s σ H x y v u Q I rx ry h
 obtain ⟨i,j,rfl,rfl,hz,q⟩:=h
 obtain ⟨t,rfl⟩:=rx
 obtain ⟨t',rfl⟩:=ry
 exact add_str (λt' tk=>⟨.str (i++j),H,I.tok _,⟨_,rfl⟩,q⟩) hz
theorem vals1 {x:V} {us:List Value} (r:Vals [x] us):∃u,us=[u]/\RelV x u:=by
 cases r with
 | cons r1 r2=>cases r2;exact ⟨_,rfl,r1⟩
theorem vals2 {x y:V} {us:List Value} (r:Vals [x,y] us):∃u w',us=[u,w']/\RelV x u/\RelV y w':=by
 cases r with
 | cons r1 r2 =>
  cases r2 with
  | cons r3 r4=>cases r4;exact ⟨_,_,rfl,r1,r3⟩
theorem call_min2 (hc:X.calm=true):CallR X (.builtin "min") (λxs H Q=>∃i j,xs=[.int i,.int j]/\Q (.int (if j<i then j else i)) H):=by
 intro pins s σ H xs us Q I r h
 obtain ⟨i,j,rfl,q⟩:=h
 obtain ⟨u,w',rfl,⟨t,rfl⟩,⟨t',rfl⟩⟩:=vals2 r
 refine min_two_ints (I.ok.hd hc) λh' tk k=>⟨_,H,I.kept k,?_,q⟩
 by_cases hj:j<i
 ·rw [if_pos hj,if_pos hj];exact ⟨_,rfl⟩
 ·rw [if_neg hj,if_neg hj];exact ⟨_,rfl⟩
theorem call_int1:CallR X (.type "int") (λxs H Q=>(∃i,xs=[.int i]/\Q (.int i) H)\/∃k,xs=[.bl k]/\Q (.int (if k then 1 else 0)) H):=by
 intro pins s σ H xs us Q I r h
 rcases h with ⟨i,rfl,q⟩ | ⟨k,rfl,q⟩
 ·obtain ⟨u,rfl,t,rfl⟩:=vals1 r
  exact call_int_int ⟨.int i,H,I,⟨_,rfl⟩,q⟩
 ·obtain ⟨u,rfl,r1⟩:=vals1 r
  cases r1
  exact call_int_bool ⟨.int (if k then 1 else 0),H,I.tok _,⟨_,rfl⟩,q⟩
def LenV (K:PySem.W.Frag) (x:V) (H:Hp) (n:Nat):Prop :=
 match x with
 | .str y=>y.length<=sizeLine/\n=y.length
 | .byt y=>y.size<=sizeLine/\n=y.size
 | .ref p=>(∃xs,SqL K H p xs/\n=xs.length)\/∃xs,SqT K H p xs/\n=xs.length
 | _=>False
theorem call_len:CallR X (.builtin "len") (λxs H Q=>∃x n,xs=[x]/\LenV X.K x H n/\Q (.int n) H):=by
 intro pins s σ H xs us Q I r h
 obtain ⟨x,n,rfl,e,q⟩:=h
 obtain ⟨u,rfl,rx⟩:=vals1 r
 have hl:=line63
 have hs:sizeLine=16777216:=sizeLine_eq
 cases x with
 | str y =>
  obtain ⟨t,rfl⟩:=rx
  obtain ⟨hy,e'⟩:y.length<=sizeLine/\n=y.length:=e
  subst e'
  exact len_str (by omega) ⟨.int _,H,I.tok _,⟨_,rfl⟩,q⟩
 | byt y =>
  obtain ⟨t,rfl⟩:=rx
  obtain ⟨hy,e'⟩:y.size<=sizeLine/\n=y.size:=e
  subst e'
  exact PySem.W.len_bytes (by omega) ⟨.int _,H,I.tok _,⟨_,rfl⟩,q⟩
 | ref p =>
  cases rx
  have e':(∃xs,SqL X.K H p xs/\n=xs.length)\/∃xs,SqT X.K H p xs/\n=xs.length:=e
  rcases e' with ⟨xs,hx,e'⟩ | ⟨xs,hx,e'⟩
  ·subst e'
   obtain ⟨its,r',pl,hz⟩:=I.list hx
   have hlen:=r'.length
   exact Calls.call_len_list pl.isList (by simp only [List.size_toArray];omega) ⟨.int xs.length,H,I.tok _,⟨_,by simp only [List.size_toArray];rw [hlen]⟩,q⟩
  ·subst e'
   obtain ⟨its,r',pl,hz⟩:=I.tuple hx
   have hlen:=r'.length
   exact len_tuple pl (by simp only [List.size_toArray];omega) ⟨.int xs.length,H,I.tok _,⟨_,by simp only [List.size_toArray];rw [hlen]⟩,q⟩
 | _=>exact (show False from e).elim
end
end L2
namespace L2
open PySem PySem.Spec PyProof.Rows
structure ObjM (h:Heap) (x dx C:Addr) (mA:Str->Option Value):Prop where
 obj:h.get? x=some (PySem.W.instObj C dx)
 ns:h.Ns1 dx mA
 ne:dx≠x
theorem lookIn_ns {h:Heap} {dx:Addr} {mA:Str->Option Value} (n:h.Ns1 dx mA):∃od,h.get? dx=some od/\∀name,PySem.W.lookIn name od=some (mA name):=by
 obtain ⟨o,es,ep,ho,hd,hk,_,hm⟩:=n
 refine ⟨o,ho,λname=>?_⟩
 have e:=hm name
 unfold nsFind findBy at e
 rw [← Array.find?_toList] at e
 unfold PySem.W.lookIn
 rw [hd]
 dsimp only
 split
 ·rename_i y q
  rw [q] at e
  exact congrArg some e
 ·rename_i q
  rw [q] at e
  have a:es.toList.any (·.refKey)=false:=by
   rw [List.any_eq_false]
   intro y hy
   obtain ⟨z,t,hkey⟩:=hk y (Array.mem_toList_iff.mp hy)
   simp [DictEntry.refKey,hkey]
  have a':¬es.toList.any (·.refKey)=true:=by rw [a];exact Bool.false_ne_true
  rw [if_neg a']
  exact congrArg some e
theorem ObjM.look {h:Heap} {x dx C:Addr} {mA:Str->Option Value} (I:ObjM h x dx C mA):∃od,PySem.W.InstAt h x (PySem.W.instObj C dx) C (some od)/\∀name,PySem.W.lookIn name od=some (mA name) :=
 let ⟨od,ho,hl⟩:=lookIn_ns I.ns
 ⟨od,⟨I.obj,rfl,rfl,ho⟩,hl⟩
section
variable {prog:Program} {w:World} {A:Around} {E:Value->Shared->Prop} {s:Shared} {K:PySem.W.Frag} {x dx C f:Addr} {mA:Str->Option Value} {name:Str} {v:Value}
end
theorem RelO.some_of {v:V} {o:Option Value} (r:RelO (some v) o):∃u,o=some u/\RelV v u:=by
 cases o with
 | none=>exact (show False from r).elim
 | some u=>exact ⟨u,rfl,r⟩
theorem RelO.none_of {o:Option Value} (r:RelO none o):o=none:=by
 cases o with
 | none=>rfl
 | some u=>exact (show False from r).elim
section
variable {P:Program} {w:World} {H H':Hp} {h h':Heap} {a C dx:Addr} {fs fs':List (Str × V)}
theorem ins_get (hok:HOk P w H h) (e:H a=some (.ins C dx fs)):∃mA,ObjM h a dx C mA/\(∀f,RelO (fs.lookup f) (mA f))/\PySem.Within mA (fs.map (·.1))/\fs.length<=1000/\H dx=some (.own a):=by
 obtain ⟨d,z,ne,ob,mA,n,r,q⟩:=(show ObjOk P w H h a (.ins C dx fs) from hok a _ e)
 exact ⟨mA,⟨ob,n,ne⟩,r,q,z,d⟩
end
structure Cls (K:PySem.W.Frag) (C:Addr):Prop where
 pg:PySem.W.plainGet K C Str.empty=true
 hd:PySem.W.hasDictIn K C=true
 po:PySem.W.plainOver K C=true
 sa:PySem.W.findIn K (.ref C) "__setattr__" = some (some (.builtin "object.__setattr__"))
theorem Cls.get {K:PySem.W.Frag} {C:Addr} (c:Cls K C) (f:Str):PySem.W.plainGet K C f=true:=c.pg
section
variable {X:Cx} {pins:List (Addr × Obj)} {σ:St} {H:Hp} {s:Shared} {a C dx:Addr} {fs:List (Str × V)} {f:Str} {v:V} {A:Around} {E:Value->Shared->Prop}
end
section
variable {X:Cx} {o e value:Expr} {f:Str} {pos pos' tpos:Pos} {ta tv:TE}
end
section
variable {X:Cx} {pins:List (Addr × Obj)} {σ:St} {H:Hp} {s:Shared} {A:Around} {E:Value->Shared->Prop} {Q:Value->Shared->Prop} {c:Value} {b:Bool}
inductive TyOf (K:PySem.W.Frag) (H:Hp):V->Value->Prop where
 | non:TyOf K H .non (.type "NoneType")
 | bl (x:Bool):TyOf K H (.bl x) (.type "bool")
 | int (i:Int):TyOf K H (.int i) (.type "int")
 | str (x:Str):TyOf K H (.str x) (.type "str")
 | flt (x:UInt64):TyOf K H (.flt x) (.type "float")
 | lst {a:Addr} {xs:List V} (e:H a=some (.lst xs)):TyOf K H (.ref a) (.type "list")
 | frz {a:Addr} {o:Obj} {xs:List V} (e:H a=some (.frz o (.lst xs))):TyOf K H (.ref a) (.type "list")
 | tup {a:Addr} {xs:List V} (e:H a=some (.tup xs)):TyOf K H (.ref a) (.type "tuple")
 | dK {a:Addr} {kvs:List (Key × V)} (e:H a=some (.dK kvs)):TyOf K H (.ref a) (.type "dict")
 | dT {a:Addr} {kvs:List (List Key × V)} (e:H a=some (.dT kvs)):TyOf K H (.ref a) (.type "dict")
 | ins {a C dx:Addr} {fs:List (Str × V)} (e:H a=some (.ins C dx fs)) (cl:Cls K C) (ha:PySem.W.findIn K (.ref C) "__class__" = some (some (.builtin "object.__class__")))
   (hn:PySem.W.specialIn K (.builtin "object.__class__") "__get__" = some (some (.builtin "getset_descriptor.__get__"))) (htk:PySem.W.takesIn K (.builtin "object.__class__")=some true)
   (hm:PySem.W.mroIn K C (.type "object")=some true):TyOf K H (.ref a) (.ref C)
theorem isinst_ok {x:V} {u t:Value} (I:Inv X pins σ H s) (rx:RelV x u) (ty:TyOf X.K H x t) (e:PySem.W.kitOne X.K t c=some b) (h:∀tk,Q (.bool b) { s with toks:=tk }) :
  wpAny (model X.prog X.w) A (call (.builtin "isinstance") [u,c]) Q E s:=by
 cases ty with
 | non=>cases (show u=Value.none from rx);exact PySem.W.kia_one PySem.W.kitx_none I.kIn True.intro e (λz=>nomatch z) h
 | bl y=>cases (show u=Value.bool y from rx);exact PySem.W.kia_one PySem.W.kitx_bool I.kIn True.intro e (λz=>nomatch z) h
 | int i=>obtain ⟨t,q⟩:=(show ∃t,u=Value.int i t from rx);cases q;exact PySem.W.kia_one PySem.W.kitx_int I.kIn True.intro e (λz=>nomatch z) h
 | str y=>obtain ⟨t,q⟩:=(show ∃t,u=Value.str y t from rx);cases q;exact PySem.W.kia_one PySem.W.kitx_str I.kIn True.intro e (λz=>nomatch z) h
 | flt y=>obtain ⟨t,q⟩:=(show ∃t,u=Value.float y t from rx);cases q;exact PySem.W.kia_one PySem.W.kitx_float I.kIn True.intro e (λz=>nomatch z) h
 | @lst a xs ea =>
  cases (show u=Value.ref a from rx)
  obtain ⟨_,_,n,_,h1⟩:=(show ObjOk X.prog X.w H s.heap a (.lst xs) from I.hok a _ ea)
  exact PySem.W.kia_one PySem.W.kitx_list I.kIn ⟨_,h1,rfl⟩ e (λz=>nomatch z) h
 | @frz a ob xs ea =>
  cases (show u=Value.ref a from rx)
  obtain ⟨_,_,_,n,_,h1⟩:=(show ObjOk X.prog X.w H s.heap a (.frz ob (.lst xs)) from I.hok a _ ea)
  exact PySem.W.kia_one PySem.W.kitx_list I.kIn ⟨_,h1,rfl⟩ e (λz=>nomatch z) h
 | @tup a xs ea =>
  cases (show u=Value.ref a from rx)
  obtain ⟨_,_,_,p⟩:=(show ObjOk X.prog X.w H s.heap a (.tup xs) from I.hok a _ ea)
  obtain ⟨o,h1,h2,_⟩:=p
  exact PySem.W.kia_one PySem.W.kitx_tuple I.kIn ⟨o,h1,h2⟩ e (λz=>nomatch z) h
 | @dK a kvs ea =>
  cases (show u=Value.ref a from rx)
  obtain ⟨_,_,vs,_,p⟩:=(show ObjOk X.prog X.w H s.heap a (.dK kvs) from I.hok a _ ea)
  obtain ⟨o,es,ep,h1,h2,_⟩:=p
  exact PySem.W.kia_one PySem.W.kitx_dict I.kIn ⟨o,h1,h2.1⟩ e (λz=>nomatch z) h
 | @dT a kvs ea =>
  cases (show u=Value.ref a from rx)
  obtain ⟨_,_,xs,_,o,es,ep,h1,h2,_⟩:=(show ObjOk X.prog X.w H s.heap a (.dT kvs) from I.hok a _ ea)
  exact PySem.W.kia_one PySem.W.kitx_dict I.kIn ⟨o,h1,h2.1⟩ e (λz=>nomatch z) h
 | @ins a C dx fs ea cl ha hn htk hm =>
  cases (show u=Value.ref a from rx)
  obtain ⟨mA,O,_⟩:=ins_get I.hok ea
  obtain ⟨od,J,_⟩:=O.look
  exact PySem.W.kia_one (PySem.W.kitx_own (cl.get _) cl.hd ha hn htk hm) I.kIn J e (λz=>nomatch z) h
end
end L2
namespace L2
open PySem PySem.Spec PyProof.Rows
structure Room (k:Nat) (A:Around):Prop where
 hd:A.handled=none
 dp:A.depth+3*k+5<recursionLimit
 un:A.units+16*k+200<cLine
theorem Room.mono {j k:Nat} {A:Around} (r:Room k A) (h:j<=k):Room j A:=⟨r.hd,by have:=r.dp;omega,by have:=r.un;omega⟩
theorem Room.deeper {k:Nat} {A:Around} (r:Room (k+1) A) (env:Env):Room k (A.deeper env) :=
 ⟨r.hd,by have:=r.dp;show A.depth+1+3*k+5<_;omega,by have:=r.un;show A.units+3+16*k+200<_;omega⟩
theorem Room.in1 {k:Nat} {A:Around} (r:Room (k+1) A):Room k A.in1 :=
 ⟨r.hd,by have:=r.dp;show A.depth+3*k+5<_;omega,by have:=r.un;show A.units+1+16*k+200<_;omega⟩
theorem Room.depth {k:Nat} {A:Around} (r:Room k A):A.depth<recursionLimit:=by have:=r.dp;omega
theorem Room.units {k:Nat} {A:Around} (r:Room k A):A.units+64<cLine:=by have:=r.un;omega
def tNil:TA:=λ_ H Q=>Q [] H
def tCons (ta:TE) (tr:TA):TA:=λσ H Q=>ta σ H λx H1=>tr σ H1 λxs H2=>Q (x::xs) H2
section
variable {X:Cx} {e:Expr} {es:List Expr} {te:TE} {t:TA} {pos:Pos}
theorem pa_nil:PA X [] tNil:=λ_ _ _ _ H Q I h=>Calls.spliced_nil ⟨[],H,I,.nil,h⟩
theorem pa_cons (ha:PE X e te) (hr:PA X es t) (hs:starEach (e::es) X.env=(false,eval e X.env)::starEach es X.env:=by rfl):PA X (e::es) (tCons te t):=by
 intro pos pins s σ H Q I h
 rw [hs]
 show wpAny _ _ (spliced ((false,eval e X.env)::backTo pos (starEach es X.env))) _ _ s
 refine Calls.spliced_cons (thn (ha pins s σ H _ I h) λu s1 ⟨x,H1,I1,r1,q1⟩=>?_)
 exact thn (hr pos pins s1 σ H1 _ I1 q1) λus s2 ⟨xs,H2,I2,r2,q2⟩=>⟨x::xs,H2,I2,.cons r1 r2,q2⟩
def tTup (t:TA):TE:=λσ H Q=>t σ H λxs H1=>xs.length<=sizeLine/\∀p,H1 p=none->Q (.ref p) (upd H1 p (.tup xs))
def tLst (t:TA):TE:=λσ H Q=>t σ H λxs H1=>xs.length<=sizeLine/\∀p,H1 p=none->Q (.ref p) (upd H1 p (.lst xs))
theorem pe_tup {x1} (h:PA X es t):PE X (.Tuple es x1 pos) (tTup t):=by
 intro pins s σ H Q I hq
 refine wpAny_Tuple_spliced (thn (h pos pins s σ H _ I hq) λus s1 ⟨xs,H1,I1,r,z,q⟩=>⟨by rw [← r.length];exact z,?_⟩)
 have hf:H1 s1.heap.objs.size=none:=I1.hok.fresh (Nat.le_refl _)
 refine ⟨.ref s1.heap.objs.size,upd H1 s1.heap.objs.size (.tup xs),I1.laid (t':=s1.toks) (λb u e=>Heap.get?_push_of_some _ e) (Nat.le_refl _) ?_,rfl,q _ hf⟩
 exact ⟨z,us,r,⟨_,Heap.get?_push_size _ rfl,rfl,_,rfl⟩⟩
theorem pe_lst (h:PA X es t):PE X (.List es pos) (tLst t):=by
 intro pins s σ H Q I hq
 refine wpAny_List_spliced (thn (h pos pins s σ H _ I hq) λus s1 ⟨xs,H1,I1,r,z,q⟩=>⟨by rw [← r.length];exact z,?_⟩)
 have hf:H1 s1.heap.objs.size=none:=I1.hok.fresh (Nat.le_refl _)
 refine ⟨.ref s1.heap.objs.size,upd H1 s1.heap.objs.size (.lst xs),I1.laid (t':=s1.toks) (λb u e=>Heap.get?_push_of_some _ e) (Nat.le_refl _) ?_,rfl,q _ hf⟩
 exact ⟨z,us,0,r,Heap.get?_push_size _ rfl⟩
end
abbrev Sp:=List V->Hp->VK->XK->Prop
abbrev CXT:=List Env->Hp->Shared->XK->Value->Shared->Prop
structure Env0 (P:Program) (w:World) (K:PySem.W.Frag) (mg:Str->Option Value) (base:Heap) (A:Around) (outer:List Env) (s:Shared) (H:Hp):Prop where
 frames:A.frames=some outer
 mod:Mod K mg base
 bs:∀b o,base.get? b=some o->s.heap.get? b=some o/\H b=none
 bsz:base.objs.size<=s.heap.objs.size
 funs:s.heap.FunFrames base outer
 frf:∀b∈frs outer,H b=none
 hok:HOk P w H s.heap
 bare:AllBare s.gens
def CE (outer:List Env) (P:Program) (w:World) (H:Hp) (s:Shared) (Q:VK) (u:Value) (s':Shared):Prop :=
 ∃v H',s'.os=s.os/\AllBare s'.gens/\Un (frs outer) [] H H' s.heap s'.heap/\HOk P w H' s'.heap/\RelV v u/\Q v H'
def CR (CX:CXT) (outer:List Env) (P:Program) (w:World) (H:Hp) (s:Shared) (Q:VK) (E:XK) (r:Result) (s':Shared):Prop :=
 match r with
 | .ok (.ret u)=>CE outer P w H s Q u s'
 | .ok _=>False
 | .error e=>CX outer H s E e s'
structure FnOk (P:Program) (w:World) (K:PySem.W.Frag) (mg:Str->Option Value) (base:Heap) (CX:CXT) (k:Nat) (f:Addr) (fd:FuncData) (ps:List Str) (sp:Sp):Prop where
 len:∀vs H Q E,sp vs H Q E->vs.length=ps.length
 run:∀(A:Around) (outer:List Env) (s:Shared) (H:Hp) (args:Args) (us:List Value) (vs:List V) (Q:VK) (E:XK),Room k A->Env0 P w K mg base A outer s H->BindsTo s fd args (ps.zip us)->Vals vs us->sp vs H Q E ->
  codeAny (model P w) A (.call (.ref f) args) (CR CX outer P w H s Q E) s
theorem FnOk.mono {P:Program} {w:World} {K:PySem.W.Frag} {mg:Str->Option Value} {base:Heap} {CX:CXT} {j k:Nat} {f:Addr} {fd:FuncData} {ps:List Str} {sp:Sp} (F:FnOk P w K mg base CX j f fd ps sp) (h:j<=k) :
  FnOk P w K mg base CX k f fd ps sp:=⟨F.len,λA outer s H args us vs Q E hr=>F.run A outer s H args us vs Q E (hr.mono h)⟩
theorem FnOk.imp {P:Program} {w:World} {K:PySem.W.Frag} {mg:Str->Option Value} {base:Heap} {CX:CXT} {k:Nat} {f:Addr} {fd:FuncData} {ps:List Str} {sp sp':Sp} (F:FnOk P w K mg base CX k f fd ps sp)
  (h:∀vs H Q E,sp' vs H Q E->sp vs H Q E):FnOk P w K mg base CX k f fd ps sp' :=
 ⟨λvs H Q E q=>F.len vs H Q E (h _ _ _ _ q),λA outer s H args us vs Q E hr he hb hv hs=>F.run A outer s H args us vs Q E hr he hb hv (h _ _ _ _ hs)⟩
theorem Env0.in1 {P:Program} {w:World} {K:PySem.W.Frag} {mg:Str->Option Value} {base:Heap} {A:Around} {outer:List Env} {s:Shared} {H:Hp} (e:Env0 P w K mg base A outer s H) :
  Env0 P w K mg base A.in1 outer s H:=⟨e.frames,e.mod,e.bs,e.bsz,e.funs,e.frf,e.hok,e.bare⟩
section
variable {X:Cx} {pins:List (Addr × Obj)} {σ:St} {H:Hp} {s s':Shared}
theorem Inv.env0 (I:Inv X pins σ H s):Env0 X.prog X.w X.K X.mg X.base X.A X.stack s H :=
 ⟨I.ok.frames,I.ok.mod,I.bs,Nat.le_trans I.ok.bsz I.sz,I.stack,I.stkFree,I.hok,I.bare⟩
theorem Inv.after {Q:VK} {u:Value} (I:Inv X pins σ H s) (h:CE X.stack X.prog X.w H s Q u s'):EP X pins σ Q u s':=by
 obtain ⟨v,H',os,bare,un,hok,r,q⟩:=h
 obtain ⟨hh,g,d,t,os'⟩:=s'
 obtain rfl:os'=s.os:=os
 exact ⟨v,H',I.call (h':=hh) (g':=g) (d':=d) (t':=t) (ch:=[]) un hok bare (λb z=>absurd z (by simp)),r,q⟩
end
def tCall (sp:Sp) (dvs:List V) (E:XK) (t:TA):TE:=λσ H Q=>t σ H λvs H1=>sp (vs++dvs) H1 Q E
def Binds (K:PySem.W.Frag) (fd:FuncData) (ps:List Str) (ds:List Value):Prop :=
 ∀(s:Shared) (us:List Value),K.In s.heap->(us++ds).length=ps.length->BindsTo s fd ⟨us,[]⟩ (ps.zip (us++ds))
theorem Binds.all {K:PySem.W.Frag} {fd:FuncData} {ps:List Str} (h:∀us:List Value,us.length=ps.length->bindArgs fd ⟨us,[]⟩=pure (ps.zip us)):Binds K fd ps []:=λs us _ hl=>by
 rw [List.append_nil] at hl ⊢
 exact .of_eq (h us hl)
def Passes (CX:CXT) (X:Cx) (E:XK):Prop:=∀(pins:List (Addr × Obj)) (σ:St) (H:Hp) (s:Shared) (e:Value) (s':Shared),Inv X pins σ H s->CX X.stack H s E e s'->X.xe e s'
section
variable {X:Cx} {CX:CXT} {k:Nat} {f C:Addr} {fd:FuncData} {ps:List Str} {sp:Sp} {dvs:List V} {ds:List Value} {E:XK} {x m:Str} {p pos apos:Pos} {e o:Expr} {es:List Expr} {ta:TE} {t:TA}
theorem run_fn {pins:List (Addr × Obj)} {σ:St} {H:Hp} {s:Shared} {Q:VK} {us:List Value} {vs:List V} (F:FnOk X.prog X.w X.K X.mg X.base CX k f fd ps sp) (hr:Room k X.A) (hb:Binds X.K fd ps ds) (hd:Vals dvs ds) (hx:Passes CX X E)
  (I:Inv X pins σ H s) (r:Vals vs us) (h:sp (vs++dvs) H Q E):wpAny (model X.prog X.w) X.A (call (.ref f) us) (EP X pins σ Q) X.xe s:=by
 have r2:Vals (vs++dvs) (us++ds):=r.append hd
 have hl:(us++ds).length=ps.length:=by rw [← r2.length];exact F.len _ _ _ _ h
 refine wpAny_call (codeAny_mono (F.run X.A X.stack s H ⟨us,[]⟩ (us++ds) (vs++dvs) Q E hr I.env0 (hb s us I.kIn hl) r2 h) λr s' hq=>?_)
 cases r with
 | error e=>exact hx pins σ H s e s' I hq
 | ok fl =>
  cases fl with
  | ret u=>exact I.after hq
  | next=>exact False.elim hq
  | brk=>exact False.elim hq
  | cont=>exact False.elim hq
theorem pe_call (F:FnOk X.prog X.w X.K X.mg X.base CX k f fd ps sp) (hr:Room k X.A) (hg:Gl X x) (hm:X.mg x=some (.ref f)) (hk:PySem.W.keepIn X.K (.ref f)=true) (hb:Binds X.K fd ps ds) (hd:Vals dvs ds) (hx:Passes CX X E)
  (ha:PA X (e::es) t) (hdb:(x == ("__debug__" : Str))=false:=by decide) (he:starEach (e::es) X.env=(false,eval e X.env)::starEach es X.env:=by rfl) (hpl:(backTo pos (starEach es X.env)).any (·.1)=false:=by rfl) :
  PE X (.Call (.Name x p) (e::es) [] pos) (tCall sp dvs E t):=by
 intro pins s σ H Q I h
 refine wpAny_Call_Name_kw (ld_glob I hg hm ?_ hdb)
 refine PySem.W.callWith_K (h₀:=X.base) I.ok.mod.kin hk (thn (ha pos pins s σ H _ I h) λus s1 ⟨vs,H1,I1,r,q⟩=>⟨I1.kIn,?_⟩) he hpl
 exact run_fn F hr hb hd hx I1 r q
end
section
variable {X:Cx} {CX:CXT} {k:Nat} {f C:Addr} {fd:FuncData} {ps ks:List Str} {sp:Sp} {E:XK} {x m:Str} {p pos apos kpos:Pos} {e o:Expr} {es:List Expr} {kws:List Keyword} {te ta:TE} {t tk:TA} {nm:Option Str}
variable {g:List Value->List Value->List Value} {gV:List V->List V->List V}
end
structure FnScope (N P:List Str) (sc:Scope):Prop where
 kind:sc.kind=.function
 co:sc.isCoroutine=false
 gen:sc.isGenerator=false
 nd:N.Nodup
 pre:N.take P.length=P
 par:∀x∈P,sc.names.lookup x=some .local\/sc.names.lookup x=some .cell
 nofree:∀y∈sc.names,y.2 ≠ .free
theorem bindL_out {kindOf:Str->Option NameKind} {x:Str}:∀{binds:List (Str × Value)} {m:Str->Option Value},(∀v,(x,v)∉binds)->bindL kindOf binds m x=m x
 | [],_,_=>rfl
 | (n,v)::r,m,h=>by
  unfold bindL
  rw [bindL_out λw hw=>h w (List.mem_cons_of_mem _ hw)]
  split
  ·have:x≠n:=by rintro rfl;exact h v List.mem_cons_self
   simp [this]
  ·rfl
theorem bindC_out {kindOf:Str->Option NameKind} {x:Str}:∀{binds:List (Str × Value)} {m:Str->Option Value},(∀v,(x,v)∉binds)->bindC kindOf binds m x=m x
 | [],_,_=>rfl
 | (n,v)::r,m,h=>by
  unfold bindC
  rw [bindC_out λw hw=>h w (List.mem_cons_of_mem _ hw)]
  split
  ·rfl
  ·have:x≠n:=by rintro rfl;exact h v List.mem_cons_self
   simp [this]
theorem bindL_get {kindOf:Str->Option NameKind} {x:Str} {v:Value}:∀{P:List Str} {vs:List Value} {i:Nat} {m:Str->Option Value},P.Nodup->P[i]? = some x->vs[i]? = some v->kindOf x=some .local ->
  bindL kindOf (P.zip vs) m x=some v
 | [],_,_,_,_,h,_,_=>by simp at h
 | _::_,[],_,_,_,_,h,_=>by simp at h
 | p::P,w::vs,0,m,nd,h1,h2,hk=>by
  simp at h1 h2;subst h1;subst h2
  show bindL kindOf ((p,w)::P.zip vs) m p=_
  unfold bindL
  rw [bindL_out λv hv=>(List.nodup_cons.mp nd).1 (List.of_mem_zip hv).1,if_pos hk]
  simp
 | p::P,w::vs,i+1,m,nd,h1,h2,hk=>by
  show bindL kindOf ((p,w)::P.zip vs) m x=_
  unfold bindL
  exact bindL_get (i:=i) (List.nodup_cons.mp nd).2 (by simpa using h1) (by simpa using h2) hk
theorem bindC_get {kindOf:Str->Option NameKind} {x:Str} {v:Value}:∀{P:List Str} {vs:List Value} {i:Nat} {m:Str->Option Value},P.Nodup->P[i]? = some x->vs[i]? = some v->kindOf x≠some .local ->
  bindC kindOf (P.zip vs) m x=some v
 | [],_,_,_,_,h,_,_=>by simp at h
 | _::_,[],_,_,_,_,h,_=>by simp at h
 | p::P,w::vs,0,m,nd,h1,h2,hk=>by
  simp at h1 h2;subst h1;subst h2
  show bindC kindOf ((p,w)::P.zip vs) m p=_
  unfold bindC
  rw [bindC_out λv hv=>(List.nodup_cons.mp nd).1 (List.of_mem_zip hv).1,if_neg hk]
  simp
 | p::P,w::vs,i+1,m,nd,h1,h2,hk=>by
  show bindC kindOf ((p,w)::P.zip vs) m x=_
  unfold bindC
  exact bindC_get (i:=i) (List.nodup_cons.mp nd).2 (by simpa using h1) (by simpa using h2) hk
def start (N:List Str) (vs:List V):St:=vs.map some++List.replicate (N.length-vs.length) none
def cxOf (CX:CXT) (P:Program) (w:World) (K:PySem.W.Frag) (mg:Str->Option Value) (base:Heap) (N:List Str) (qual:Str) (scope:Scope) (f:Addr) (cd:Value) (A:Around) (outer:List Env) (s:Shared) (H:Hp) (E:XK):Cx where
 prog:=P
 w:=w
 K:=K
 mg:=mg
 base:=base
 A:=A.deeper (envOfC qual scope s.heap.objs.size f cd)
 N:=N
 s₀:=s
 H₀:=H
 env:=envOfC qual scope s.heap.objs.size f cd
 outer:=outer
 stack:=envOfC qual scope s.heap.objs.size f cd::outer
 ex:=[]
 calm:=true
 fn:=λ_=>true
 pn:=[]
 xe:=λe s'=>wpAny (model P w) (A.deeper (envOfC qual scope s.heap.objs.size f cd)) (leaving (envOfC qual scope s.heap.objs.size f cd) e) (λ_ s''=>CX outer H s E e s'') (λe' s''=>CX outer H s E e' s'') s'
theorem cell_has {sc:Scope} {n:Nat} {x:Str} (h:sc.names.lookup x=some .cell):∃c,(cellsFrom n sc.names []).lookup x=some c:=by
 have q:=PySem.W.cellsFrom_some sc.names n [] (.inl h)
 exact Option.isSome_iff_exists.mp q
theorem inv_start {CX:CXT} {P:Program} {w:World} {K:PySem.W.Frag} {mg:Str->Option Value} {base:Heap} {N ps:List Str} {qual:Str} {scope:Scope} {f:Addr} {cd:Value} {A:Around} {outer:List Env} {s s1:Shared} {H:Hp} {E:XK} {us:List Value} {vs:List V}
  (S:FnScope N ps scope) (hd:A.handled=none) (e0:Env0 P w K mg base A outer s H) (hl:vs.length=ps.length) (r:Vals vs us)
  (x:InCallC s s.heap.objs.size (bindL (envOfC qual scope s.heap.objs.size f cd).kindOf (ps.zip us) λ_=>none) (cellsFrom (s.heap.objs.size+1) scope.names []) (bindC (envOfC qual scope s.heap.objs.size f cd).kindOf (ps.zip us) λ_=>none) s1) :
  Inv (cxOf CX P w K mg base N qual scope f cd A outer s H E) [] (start N vs) H s1:=by
 have hpl:ps.length<=N.length:=by have:=congrArg List.length S.pre;rw [List.length_take] at this;omega
 obtain ⟨h1,tk,rfl,hk⟩:=x.done
 have noA:∀b:Addr,b∉(cxOf CX P w K mg base N qual scope f cd A outer s H E).ex:=λb z=>absurd (show b∈([]:List Addr) from z) (by simp)
 refine ⟨⟨e0.mod,S.kind,rfl,rfl,Nat.le_refl _,λy z c h1 h2=>?_,λy hy=>?_,λy c _ h=>?_,λ_=>hd,Around.frames_deeper e0.frames,.inr ⟨rfl,rfl⟩,λb z=>absurd z (noA b),e0.bs,e0.bsz,λb _ _=>noA b,λb z=>absurd z (noA b),e0.funs,e0.frf⟩,
  rfl,e0.bare,Un.kept hk,⟨_,x.toInCall.ns,λi y v h1 h2 h3=>?_⟩,λy c h=>⟨_,x.cell y c h⟩,e0.hok.fresh (Nat.le_refl _),λy c h=>?_,λp hp=>absurd (show p∈([]:List (Addr × Obj)) from hp) (by simp),e0.hok.kept hk,?_⟩
 ·exact name_of_addr x.apart (PySem.mem_of_lookup h1) (PySem.mem_of_lookup h2)
 ·have hy:scope.names.lookup y=some .cell\/scope.names.lookup y=some .free:=hy
  rcases hy with hy | hy
  ·exact cell_has hy
  ·exact absurd rfl (S.nofree _ (PySem.mem_of_lookup hy))
 ·exact Nat.le_of_lt (x.above y c (PySem.mem_of_lookup h))
 ·have hi:i<vs.length:=by
   unfold start at h2
   by_cases hi:i<vs.length
   ·exact hi
   ·rw [List.getElem?_append_right (by simpa using hi)] at h2
    rw [List.getElem?_replicate] at h2
    split at h2 <;> cases h2
  have ha:vs[i]? = some v:=by
   unfold start at h2
   rw [List.getElem?_append_left (by simpa using hi),List.getElem?_map] at h2
   cases e:vs[i]? with
   | none=>rw [e] at h2;cases h2
   | some a=>rw [e] at h2;cases h2;rfl
  obtain ⟨u,hu,rv⟩:=r.get ha
  have hp:ps[i]? = some y:=by
   rw [← S.pre,List.getElem?_take_of_lt (by omega)];exact h1
  have ndP:ps.Nodup:=by rw [← S.pre];exact S.nd.sublist (List.take_sublist _ _)
  refine ⟨u,rv,?_⟩
  rcases S.par y (List.mem_of_getElem? hp) with k | k
  ·exact .inl ⟨k,bindL_get ndP hp hu k⟩
  ·obtain ⟨c,e⟩:=cell_has (n:=s.heap.objs.size+1) k
   refine .inr ⟨.inl k,c,e,?_⟩
   have q:=x.cell y c e
   rw [bindC_get ndP hp hu (by show scope.names.lookup y≠_;rw [k];decide)] at q
   exact q
 ·exact e0.hok.fresh (Nat.le_of_lt (x.above y c (PySem.mem_of_lookup h)))
 ·unfold start
  show _=N.length
  rw [List.length_append,List.length_map,List.length_replicate]
  omega
theorem fn_of {CX:CXT} {P:Program} {w:World} {K:PySem.W.Frag} {mg:Str->Option Value} {base:Heap} {k:Nat} {f:Addr} {name qual:Str} {params:Arguments} {body:List Stmt} {scope:Scope} {dV kV doc pm cdv ct oc:Value} {an od:Option Addr}
  {osl:Array (Option Value)} {N ps:List Str} {sp:Sp} (lk:K.lookup f=some ⟨oc,od,.func (PySem.W.fnOf name qual params body scope dV kV doc pm an cdv ct),osl⟩) (hcd:PySem.W.codeIn K cdv qual=true) (S:FnScope N ps scope)
  (len:∀vs H Q E,sp vs H Q E->vs.length=ps.length)
  (hbody:∀(A:Around) (outer:List Env) (s:Shared) (H:Hp) (vs:List V) (Q:VK) (E:XK),Room k (A.deeper (envOfC qual scope s.heap.objs.size f cdv))->sp vs H Q E ->
   ∃t,PSs (cxOf CX P w K mg base N qual scope f cdv A outer s H E) body t/\t { nx:=λ_ H'=>Q .non H',rt:=Q } (start N vs) H) :
  FnOk P w K mg base CX (k+1) f (PySem.W.fnOf name qual params body scope dV kV doc pm an cdv ct) ps sp:=by
 refine ⟨len,λA outer s H args us vs Q E hr e0 hb r hsp=>?_⟩
 have hl:=len _ _ _ _ hsp
 have KX:K.In s.heap:=e0.mod.kin.keeps λb o e=>(e0.bs b o e).1
 have lim:s.heap.NoLimit:=e0.mod.nolimit.keeps λb o e=>(e0.bs b o e).1
 have hkind:∀y∈ps.zip us,scope.names.lookup y.1=some .local\/(scope.names.lookup y.1=some .cell/\((cellsFrom (s.heap.objs.size+1) scope.names []).lookup y.1).isSome=true):=λ⟨n,v⟩ hy=>by
  rcases S.par n (List.of_mem_zip hy).1 with q | q
  ·exact .inl q
  ·exact .inr ⟨q,PySem.W.cellsFrom_some _ _ _ (.inl q)⟩
 refine codeAny_call_function hr.depth (KX _ _ lk) rfl S.co S.gen rfl (PySem.W.codeRec_of KX hcd) (hb _ _ _ _ ?_)
 refine wpAny_newFunctionEnv_cells S.kind hkind λenv he s1 x=>?_
 subst he
 refine ⟨lim.keeps x.toInCall.keep,codeAny_func ?_⟩
 obtain ⟨t,ht,hq⟩:=hbody A outer s H vs Q E (hr.deeper _) hsp
 have I:Inv (cxOf CX P w K mg base N qual scope f cdv A outer s H E) [] (start N vs) H s1:=inv_start S hr.hd e0 hl r x
 refine wpAny_mono (ht [] s1 (start N vs) H _ I hq) (λfl s' hs=>?_) λe s' hs=>hs
 have fin:∀{σ':St} {H':Hp} {v:V} {u:Value},Inv (cxOf CX P w K mg base N qual scope f cdv A outer s H E) [] σ' H' s'->RelV v u->Q v H'->CE outer P w H s Q u s' :=
  λ{σ' H' v u} J rv q=>⟨v,H',J.os,J.bare,J.base,J.hok,rv,q⟩
 cases fl with
 | ret u =>
  obtain ⟨v,σ',H',J,rv,q⟩:=hs
  exact fin J rv q
 | next =>
  obtain ⟨σ',H',J,q⟩:=hs
  exact fin (v:=V.non) (u:=Value.none) J rfl q
 | brk =>
  obtain ⟨_,_,_,q⟩:=hs
  exact False.elim q
 | cont =>
  obtain ⟨_,_,_,q⟩:=hs
  exact False.elim q
end L2
namespace L2
open PySem PySem.Spec PyProof.Rows
section
variable {X:Cx} {x:Str} {p pos:Pos} {e:Expr} {es:List Expr} {t:TA} {id T:String} {r:List V->Hp->VK->Prop}
def tCB (r:List V->Hp->VK->Prop) (t:TA):TE:=λσ H Q=>t σ H λvs H1=>r vs H1 Q
theorem pe_callB (hc:CallR X (.builtin id) r) (hg:Gl X x) (hm:X.mg x=none) (hv:bootBuiltins x=some (.builtin id)) (ha:PA X (e::es) t) (hn:x ≠ "__name__":=by decide) (hdb:(x == ("__debug__" : Str))=false:=by decide)
  (he:starEach (e::es) X.env=(false,eval e X.env)::starEach es X.env:=by rfl) (hpl:(backTo pos (starEach es X.env)).any (·.1)=false:=by rfl):PE X (.Call (.Name x p) (e::es) [] pos) (tCB r t):=by
 intro pins s σ H Q I h
 refine wpAny_Call_Name_kw (ld_blt I hg hm hv ?_ hn hdb)
 exact PyProof.Rows.callWith_builtin1 (thn (ha pos pins s σ H _ I h) λus s1 ⟨vs,H1,I1,r1,q1⟩=>hc pins s1 σ H1 vs us Q I1 r1 q1) he hpl
theorem pe_callTy (hc:CallR X (.type T) r) (hg:Gl X x) (hm:X.mg x=none) (hv:bootBuiltins x=some (.type T)) (ha:PA X (e::es) t) (hn:x ≠ "__name__":=by decide) (hdb:(x == ("__debug__" : Str))=false:=by decide)
  (he:starEach (e::es) X.env=(false,eval e X.env)::starEach es X.env:=by rfl) (hpl:(backTo pos (starEach es X.env)).any (·.1)=false:=by rfl):PE X (.Call (.Name x p) (e::es) [] pos) (tCB r t):=by
 intro pins s σ H Q I h
 refine wpAny_Call_Name_kw (ld_blt I hg hm hv ?_ hn hdb)
 exact PyProof.Rows.callWith_type1 (thn (ha pos pins s σ H _ I h) λus s1 ⟨vs,H1,I1,r1,q1⟩=>hc pins s1 σ H1 vs us Q I1 r1 q1) he hpl
end
end L2
namespace HT
open PySem PyProof.Rows
section
open PySem.SeqAt
open PySem.AutoSeq1 (wpAny_loadPart')
open PySem.MeetsSeq PySem.MeetsSeq2 PySem.MeetsSeq3
end
section
variable {prog:Program} {w:World} {A:Around} {E:Value->Shared->Prop} {s:Shared}
theorem cat_tup {t b:Addr} {vs ws:List Value} {Q:Value->Shared->Prop} (ht:IsTup s.heap t vs.toArray) (hb:IsTup s.heap b ws.toArray) (hv:vs≠[])
  (h1:ws=[]->Q (.ref t) s) (h2:ws≠[]->Q (.ref s.heap.objs.size) { s with heap:=s.heap.push { cls:=.type "tuple",data:=.seq (vs++ws).toArray } })
  (hsz:vs.length+ws.length<=sizeLine):wpAny (model prog w) A (binaryOp .Add (.ref t) (.ref b)) Q E s:=by
 obtain ⟨⟨cls,dd,data,sl⟩,ho,hc,n,hd⟩:=id ht
 obtain ⟨⟨cls2,dd2,data2,sl2⟩,ho2,hc2,n2,hd2⟩:=id hb
 simp only at hc hd hc2 hd2
 subst hc hd hc2 hd2
 have e:vs.toArray++ws.toArray=(vs++ws).toArray:=by simp
 by_cases hw:ws=[]
 ·exact concat_meets ⟨_,ho,rfl⟩ ⟨_,ho2,rfl⟩ noFill_tuple_add seq_tuple_add PySem.F.slot_tuple_add PySem.F.entry_tuple_add (PySem.F.args_tuple_add_2 _ _)
   (tuple_addW1 t b vs.toArray ws.toArray n n2 dd dd2 sl sl2 (by simpa using hv) (by simp [hw])) ⟨ho,ho2,h1 hw⟩
 ·refine concat_meets ⟨_,ho,rfl⟩ ⟨_,ho2,rfl⟩ noFill_tuple_add seq_tuple_add PySem.F.slot_tuple_add PySem.F.entry_tuple_add (PySem.F.args_tuple_add_2 _ _)
   (tuple_addW2 t b vs.toArray ws.toArray n n2 dd dd2 sl sl2 (by simpa using hv) (by simpa using hw) (by rw [List.size_toArray,List.size_toArray];exact hsz)) ⟨ho,ho2,?_⟩
  rw [e]
  exact h2 hw
def sIx (n d:Nat):Option Int->Nat
 | none=>d
 | some v=>if v<0 then (v+(n:Int)).toNat else min v.toNat n
theorem sIx_none (n d:Nat):sIx n d none=d:=rfl
theorem sIx_nat (n d k:Nat):sIx n d (some (k:Int))=min k n:=by
 show (if (k:Int)<0 then ((k:Int)+(n:Int)).toNat else min (k:Int).toNat n)=min k n
 rw [if_neg (by omega),Int.toNat_natCast]
theorem sIx_le (n d:Nat) (hd:d<=n) (o:Option Int):sIx n d o<=n:=by
 cases o with
 | none=>exact hd
 | some v =>
  show (if v<0 then (v+(n:Int)).toNat else min v.toNat n)<=n
  by_cases hv:v<0
  ·rw [if_pos hv];omega
  ·rw [if_neg hv];exact Nat.min_le_right _ _
theorem clip_eq (v:Int) (n d:Nat):(if v<0 then max (v+(n:Int)) 0 else min v (n:Int))=((sIx n d (some v):Nat):Int):=by
 show (if v<0 then max (v+(n:Int)) 0 else min v (n:Int))=(((if v<0 then (v+(n:Int)).toNat else min v.toNat n):Nat):Int)
 by_cases hv:v<0
 ·simp only [if_pos hv];omega
 ·simp only [if_neg hv];omega
theorem adjust_gen (lo hi:Option Int) (n:Nat):Builtin.Slice.sliceAdjust lo hi 1 (n:Int)=(((sIx n 0 lo:Nat):Int),((sIx n n hi:Nat):Int)):=by
 have h1:¬((1:Int)<0):=by omega
 unfold Builtin.Slice.sliceAdjust
 simp only [h1,if_false]
 refine Prod.ext ?_ ?_
 ·cases lo with
  | none=>rfl
  | some v=>exact clip_eq v n 0
 ·cases hi with
  | none=>rfl
  | some v=>exact clip_eq v n n
theorem places_gen (i j:Nat):Builtin.Slice.slicePlaces (i:Int) (j:Int) 1=j-i:=by
 unfold Builtin.Slice.slicePlaces
 have h1:(1:Int) > 0:=by omega
 simp only [h1,if_true,Int.ediv_one]
 split <;> omega
theorem slicePart_ {v:Value} {o:Option Int} {Q:Option Int->Shared->Prop} (p:IsPart v o) (h:Q o s):wpAny (model prog w) A (Builtin.Slice.slicePartIndex v) Q E s:=by
 cases p with
 | none=>exact slicePart_none h
 | int i t=>exact slicePart_int h
theorem sliceApplied_gen {sl:Addr} {vl vu:Value} {lo hi:Option Int} {n:Nat} {Q:Int × Int × Nat->Shared->Prop} (hs:s.heap.IsSliceOf sl vl vu .none) (pl:IsPart vl lo) (pu:IsPart vu hi)
  (h:Q (((sIx n 0 lo:Nat):Int),1,sIx n n hi-sIx n 0 lo) s):wpAny (model prog w) A (Builtin.Slice.sliceApplied (.ref sl) (pure (n:Int))) Q E s:=by
 obtain ⟨os,hos,hcs,hds⟩:=id hs
 unfold Builtin.Slice.sliceApplied Builtin.Slice.sliceFields
 refine wpAny_bind (wpAny_bind (wpAny_field hos hds (x:=vl) rfl (wpAny_bind (wpAny_field hos hds (x:=vu) rfl (wpAny_bind (wpAny_field hos hds (x:=.none) rfl (wpAny_pure ?_)))))))
 refine wpAny_bind (slicePart_none ?_)
 show wpAny _ _ (if ((1:Int) == 0)=true then _ else _) _ _ s
 rw [if_neg (by decide)]
 refine wpAny_bind (slicePart_ pl (wpAny_bind (slicePart_ pu (wpAny_bind (wpAny_pure ?_)))))
 show wpAny _ _ (match Builtin.Slice.sliceAdjust lo hi 1 (n:Int) with | (lo,hi)=>pure (lo,(1:Int),Builtin.Slice.slicePlaces lo hi 1)) _ _ s
 rw [adjust_gen lo hi n]
 show wpAny _ _ (pure (((sIx n 0 lo:Nat):Int),(1:Int),Builtin.Slice.slicePlaces ((sIx n 0 lo:Nat):Int) ((sIx n n hi:Nat):Int) 1)) _ _ s
 rw [places_gen]
 exact wpAny_pure h
theorem pick_gen (xs:Array Value) (i k:Nat):((List.range k).filterMap λ(m:Nat)=>xs[((i:Int)+(m:Int)*1).toNat]?).toArray=((xs.toList.drop i).take k).toArray:=by
 have e:(λ(m:Nat)=>xs[((i:Int)+(m:Int)*1).toNat]?)=λm=>xs[i+m]?:=by
  funext m
  have:((i:Int)+(m:Int)*1).toNat=i+m:=by omega
  rw [this]
 rw [e]
 have:=pick_run xs i k
 rw [List.filterMap_map] at this
 have e2:((λx=>xs[x]?) ∘ λx=>i+x)=λm=>xs[i+m]?:=rfl
 rw [e2] at this
 rw [this]
theorem getItem_tuple_cut {t sl:Addr} {items:Array Value} {vl vu:Value} {lo hi:Option Int} {Q:Value->Shared->Prop} (ht:IsTup s.heap t items) (hs:s.heap.IsSliceOf sl vl vu .none) (pl:IsPart vl lo) (pu:IsPart vu hi)
  (hw:¬(sIx items.size 0 lo=0/\sIx items.size items.size hi=items.size))
  (h:Q (.ref s.heap.objs.size) { s with heap:=s.heap.push { cls:=.type "tuple",data:=.seq ((items.toList.drop (sIx items.size 0 lo)).take (sIx items.size items.size hi-sIx items.size 0 lo)).toArray } })
  (hsz:items.size<=sizeLine):wpAny (model prog w) A (getItem (.ref t) (.ref sl)) Q E s:=by
 have htake:sizeOk (.seq ((items.toList.drop (sIx items.size 0 lo)).take (sIx items.size items.size hi-sIx items.size 0 lo)).toArray):=by
  show ((items.toList.drop (sIx items.size 0 lo)).take (sIx items.size items.size hi-sIx items.size 0 lo)).toArray.size<=sizeLine
  rw [List.size_toArray,List.length_take,List.length_drop,Array.length_toList]
  omega
 have hj:sIx items.size items.size hi<=items.size:=sIx_le _ _ (Nat.le_refl _) hi
 obtain ⟨os,hos,hcs,hds⟩:=id hs
 have hTs:s.TypeIs (.ref sl) "slice":=⟨os,hos,hcs⟩
 unfold getItem
 try with_reducible refine wpAny_holding ?_
 first | refine wpAny_bind (wpAny_pure ?_) | skip
 refine wpAny_bind (wpAny_sequenceKey ht.typeIs (by decide) ?_)
 refine wpAny_bind (wpAny_callSpecial?_slot (name:=Str.ofString "__getitem__") ht.typeIs PyProof.Rows.slot_tuple_getitem
  (wpAny_call_entry PyProof.Rows.slot_tuple_getitem ht.typeIs entry_tuple_getitem ?_ (args_tuple_getitem _ _)))
 show wpAny _ _ (Builtin.Tuple.tupleItemsOf (.ref t) >>= _) _ _ s
 refine wpAny_bind (tupleItemsOf_ ht ?_)
 refine wpAny_bind (wpAny_typeOf hTs ?_)
 rw [if_pos (by decide)]
 refine wpAny_bind (sliceApplied_gen hs pl pu ?_)
 have hno:¬((((sIx items.size 0 lo:Nat):Int) == 0 && (1:Int) == 1 && (sIx items.size items.size hi-sIx items.size 0 lo) == items.size)=true):=by
  intro q
  rw [Bool.and_eq_true,Bool.and_eq_true] at q
  have q1:((sIx items.size 0 lo:Nat):Int)=0:=eq_of_beq q.1.1
  have q2:sIx items.size items.size hi-sIx items.size 0 lo=items.size:=eq_of_beq q.2
  exact hw ⟨by omega,by omega⟩
 show wpAny _ _ (if (((sIx items.size 0 lo:Nat):Int) == 0 && (1:Int) == 1 && (sIx items.size items.size hi-sIx items.size 0 lo) == items.size)=true then _ else _) _ _ s
 rw [if_neg hno,pick_gen]
 first
  | exact wpAny_bind (m:=Builtin.Tuple.tupleExact _) (wpAny_newObj_type (wpAny_pure ⟨_,rfl,wpAny_pure h⟩) htake)
  | exact wpAny_bind (m:=Builtin.Tuple.tupleExact _) (wpAny_newObj_type (wpAny_bind (wpAny_pure (wpAny_pure ⟨_,rfl,wpAny_pure h⟩))) htake)
  | exact wpAny_bind (wpAny_bind (m:=Builtin.Tuple.tupleExact _) (wpAny_newObj_type (wpAny_pure (wpAny_pure ⟨_,rfl,wpAny_pure h⟩)) htake))
  | exact wpAny_bind (wpAny_bind (m:=Builtin.Tuple.tupleExact _) (wpAny_newObj_type (wpAny_pure ⟨_,rfl,wpAny_pure h⟩) htake))
end
end HT
namespace L2
open PySem PySem.Spec PyProof.Rows
abbrev TO:=St->Hp->(Option Int->Hp->Prop)->Prop
def PO (X:Cx) (e:Option Expr) (t:TO):Prop :=
 ∀(pins:List (Addr × Obj)) (s:Shared) (σ:St) (H:Hp) (Q:Option Int->Hp->Prop),Inv X pins σ H s->t σ H Q ->
  wpAny (model X.prog X.w) X.A (evalPart e X.env) (λu s'=>∃o H',Inv X pins σ H' s'/\IsPart u o/\Q o H') X.xe s
def tNoPart:TO:=λ_ H Q=>Q none H
def tPart (t:TE):TO:=λσ H Q=>t σ H λx H1=>∃i,x=.int i/\Q (some i) H1
section
variable {X:Cx} {e:Expr} {te:TE} {lo hi:Option Expr} {tl th:TO} {pos p2:Pos}
theorem po_none:PO X none tNoPart:=by
 intro pins s σ H Q I h
 rw [evalPart_none]
 exact wpAny_pure ⟨none,H,I,.none,h⟩
theorem po_some (h:PE X e te):PO X (some e) (tPart te):=by
 intro pins s σ H Q I hw
 rw [evalPart_some]
 refine thn (h pins s σ H _ I hw) λu s1 ⟨x,H1,I1,r1,q1⟩=>?_
 obtain ⟨i,rfl,q⟩:=q1
 obtain ⟨t,rfl⟩:=r1
 exact ⟨some i,H1,I1,.int i t,q⟩
def SlR (X:Cx) (r:V->Option Int->Option Int->Hp->VK->Prop):Prop :=
 ∀(pins:List (Addr × Obj)) (s:Shared) (σ:St) (H:Hp) (x:V) (v vl vu:Value) (lo hi:Option Int) (sl:Addr) (Q:VK),Inv X pins σ H s->RelV x v->s.heap.IsSliceOf sl vl vu .none->IsPart vl lo->IsPart vu hi->r x lo hi H Q ->
  ∃T id,typeLookup (.type T) "__getitem__" = pure (some (.builtin id))/\s.TypeIs v T/\wpAny (model X.prog X.w) X.A (getItem v (.ref sl)) (EP X pins σ Q) X.xe s
theorem SlR.or {r r':V->Option Int->Option Int->Hp->VK->Prop} (h:SlR X r) (h':SlR X r'):SlR X (λx lo hi H Q=>r x lo hi H Q\/r' x lo hi H Q):=by
 intro pins s σ H x v vl vu lo hi sl Q I rx hs pl pu q
 rcases q with q | q
 ·exact h pins s σ H x v vl vu lo hi sl Q I rx hs pl pu q
 ·exact h' pins s σ H x v vl vu lo hi sl Q I rx hs pl pu q
def tSl (r:V->Option Int->Option Int->Hp->VK->Prop) (te:TE) (tl th:TO):TE:=λσ H Q=>te σ H λx H1=>tl σ H1 λl H2=>th σ H2 λu H3=>r x l u H3 Q
theorem pe_slice {r:V->Option Int->Option Int->Hp->VK->Prop} (hr:SlR X r) (he:PE X e te) (hl:PO X lo tl) (hu:PO X hi th):PE X (.Subscript e (.Slice lo hi none p2) pos) (tSl r te tl th):=by
 intro pins s σ H Q I h
 refine Subscript_ (thn (he pins s σ H _ I h) λv s1 ⟨x,H1,I1,r1,q1⟩=>?_)
 refine wpAny_Slice (thn (hl pins s1 σ H1 _ I1 q1) λvl s2 ⟨l,H2,I2,pl,q2⟩=>thn (hu pins s2 σ H2 _ I2 q2) λvu s3 ⟨u,H3,I3,pu,q3⟩=>?_)
 rw [evalPart_none]
 refine wpAny_pure ?_
 have I4:Inv X pins σ H3 { s3 with heap:=s3.heap.push { cls:=.type "slice",data:=.fields #[vl,vu,.none] } }:=I3.kept (t':=s3.toks) λb ob q=>Heap.get?_push_of_some _ q
 obtain ⟨T,id,hT,ht,hg⟩:=hr pins { s3 with heap:=s3.heap.push { cls:=.type "slice",data:=.fields #[vl,vu,.none] } } σ H3 x v vl vu l u s3.heap.objs.size Q I4 r1 (Heap.IsSliceOf.new ..) pl pu q3
 show wpAny (model X.prog X.w) X.A (subscriptTail e (.Slice lo hi none p2) v (.ref s3.heap.objs.size)) (EP X pins σ Q) X.xe { s3 with heap:=s3.heap.push { cls:=.type "slice",data:=.fields #[vl,vu,.none] } }
 exact tail_any (ops:=[.ref s3.heap.objs.size,v]) ht hT hg (by with_unfolding_all rfl)
def cutV (xs:List V) (lo hi:Option Int):List V:=(xs.drop (HT.sIx xs.length 0 lo)).take (HT.sIx xs.length xs.length hi-HT.sIx xs.length 0 lo)
theorem cutV_length (xs:List V) (lo hi:Option Int):(cutV xs lo hi).length<=xs.length:=by
 unfold cutV
 rw [List.length_take,List.length_drop]
 omega
def rSlT (K:PySem.W.Frag):V->Option Int->Option Int->Hp->VK->Prop:=λx lo hi H Q=>∃a xs,x=.ref a/\SqT K H a xs /\
 ¬(HT.sIx xs.length 0 lo=0/\HT.sIx xs.length xs.length hi=xs.length)/\∀p,H p=none->Q (.ref p) (upd H p (.tup (cutV xs lo hi)))
theorem sl_tup:SlR X (rSlT X.K):=by
 intro pins s σ H x v vl vu lo hi sl Q I rx hs pl pu h
 obtain ⟨a,xs,rfl,hx,hw,q⟩:=h
 cases rx
 obtain ⟨its,r,ht,hz⟩:=I.tuple hx
 have hlen:its.toArray.size=xs.length:=by rw [List.size_toArray];exact r.length.symm
 refine ⟨"tuple",_,PyProof.Rows.slot_tuple_getitem.lookup,ht.typeIs,?_⟩
 refine HT.getItem_tuple_cut ht hs pl pu (by rw [hlen];exact hw) ?_ (by rw [hlen];exact hz)
 rw [hlen]
 refine ⟨.ref s.heap.objs.size,_,I.laid (t':=s.toks) (o:=.tup (cutV xs lo hi)) (λb ob q=>Heap.get?_push_of_some _ q) (Nat.le_refl _) ?_,rfl,q _ (I.hok.fresh (Nat.le_refl _))⟩
 exact ⟨Nat.le_trans (cutV_length xs lo hi) hz,_,(r.drop (HT.sIx xs.length 0 lo)).take (HT.sIx xs.length xs.length hi-HT.sIx xs.length 0 lo),IsTup.new _ _⟩
def rCatT (K:PySem.W.Frag):R2:=λx y H Q=>∃a b xs ys,x=.ref a/\y=.ref b/\SqT K H a xs/\SqT K H b ys/\xs≠[]/\xs.length+ys.length<=sizeLine /\
 (ys=[]->Q (.ref a) H)/\(ys≠[]->∀p,H p=none->Q (.ref p) (upd H p (.tup (xs++ys))))
theorem Vals.nil_iff {xs:List V} {us:List Value} (r:Vals xs us):us=[]↔xs=[]:=by
 cases r with
 | nil=>simp
 | cons _ _=>simp
theorem op_catT:OpR X (binaryOp .Add) (rCatT X.K):=by
 intro pins s σ H x y v u Q I rx ry h
 obtain ⟨a,b,xs,ys,rfl,rfl,ha,hb,hx,hz,q1,q2⟩:=h
 cases rx
 cases ry
 obtain ⟨its,r1,p1,_⟩:=I.tuple ha
 obtain ⟨its2,r2,p2,_⟩:=I.tuple hb
 refine HT.cat_tup p1 p2 (λz=>hx (r1.nil_iff.mp z)) (λz=>⟨.ref a,H,I,rfl,q1 (r2.nil_iff.mp z)⟩) (λz=>?_) (by rw [← r1.length,← r2.length];exact hz)
 refine ⟨.ref s.heap.objs.size,_,I.laid (t':=s.toks) (o:=.tup (xs++ys)) (λb ob q=>Heap.get?_push_of_some _ q) (Nat.le_refl _) ?_,rfl,q2 (λw=>z (r2.nil_iff.mpr w)) _ (I.hok.fresh (Nat.le_refl _))⟩
 exact ⟨by rw [List.length_append];exact hz,_,r1.append r2,IsTup.new _ _⟩
end
end L2
namespace L2
open PySem PySem.Spec PyProof.Rows
def ixN (n:Nat) (i:Int):Option Nat:=if 0<=i then (if i<n then some i.toNat else none) else if -(n:Int)<=i then some (i+n).toNat else none
def atI {α:Type} (xs:List α) (i:Int):Option α:=(ixN xs.length i).bind λj=>xs[j]?
theorem ixN_seq {n:Nat} {i:Int} {j:Nat} (h:ixN n i=some j):seqIndex? i n=some j/\j<n /\ -(n:Int)<=i/\i<n:=by
 unfold ixN at h
 by_cases h0:0<=i
 ·rw [if_pos h0] at h
  by_cases h1:i<n
  ·rw [if_pos h1] at h
   have e:i.toNat=j:=Option.some.inj h
   exact ⟨by rw [seqIndex_of h0 h1,e],by omega,by omega,h1⟩
  ·rw [if_neg h1] at h;cases h
 ·rw [if_neg h0] at h
  by_cases h1:-(n:Int)<=i
  ·rw [if_pos h1] at h
   have e:(i+n).toNat=j:=Option.some.inj h
   exact ⟨by rw [seqIndex_neg (by omega) h1,e],by omega,h1,by omega⟩
  ·rw [if_neg h1] at h;cases h
theorem atI_get {α:Type} {xs:List α} {i:Int} {v:α} (h:atI xs i=some v):∃j,seqIndex? i xs.length=some j/\xs[j]? = some v/\j<xs.length /\ -(xs.length:Int)<=i/\i<xs.length:=by
 unfold atI at h
 cases e:ixN xs.length i with
 | none=>rw [e] at h;cases h
 | some j =>
  rw [e] at h
  obtain ⟨h1,h2,h3,h4⟩:=ixN_seq e
  exact ⟨j,h1,h,h2,h3,h4⟩
def PlainIx (b:Expr):Prop:=∀o i,subscripted b false o i=operate [o,i] (getItem o i)
def IxR (X:Cx) (r:R2):Prop :=
 ∀(value slice:Expr) (pins:List (Addr × Obj)) (s:Shared) (σ:St) (H:Hp) (x y:V) (v u:Value) (Q:VK),Inv X pins σ H s->RelV x v->RelV y u->r x y H Q ->
  subscripted slice false v u=operate [v,u] (getItem v u)->wpAny (model X.prog X.w) X.A (subscriptTail value slice v u) (EP X pins σ Q) X.xe s
def MtR (X:Cx) (id:String) (r:V->List V->Hp->VK->Prop):Prop :=
 ∀(pins:List (Addr × Obj)) (s:Shared) (σ:St) (H:Hp) (x:V) (xs:List V) (v:Value) (us:List Value) (Q:VK),Inv X pins σ H s->RelV x v->Vals xs us->r x xs H Q ->
  wpAny (model X.prog X.w) X.A (call (.builtin id) (v::us)) (EP X pins σ Q) X.xe s
section
variable {X:Cx} {a b:Expr} {ta tb:TE} {pos:Pos}
theorem IxR.or {r r':R2} (h:IxR X r) (h':IxR X r'):IxR X (λx y H Q=>r x y H Q\/r' x y H Q):=by
 intro value slice pins s σ H x y v u Q I rx ry q hs
 rcases q with q | q
 ·exact h value slice pins s σ H x y v u Q I rx ry q hs
 ·exact h' value slice pins s σ H x y v u Q I rx ry q hs
theorem MtR.or {id:String} {r r':V->List V->Hp->VK->Prop} (h:MtR X id r) (h':MtR X id r'):MtR X id (λx xs H Q=>r x xs H Q\/r' x xs H Q):=by
 intro pins s σ H x xs v us Q I rx rs q
 rcases q with q | q
 ·exact h pins s σ H x xs v us Q I rx rs q
 ·exact h' pins s σ H x xs v us Q I rx rs q
theorem pe_ix {r:R2} (hr:IxR X r) (ha:PE X a ta) (hb:PE X b tb) (hs:PlainIx b):PE X (.Subscript a b pos) (tOp r ta tb):=by
 intro pins s σ H Q I h
 exact Subscript_ (binT ha hb I h λv u s2 x y H2 I2 rx ry q=>hr a b pins s2 σ H2 x y v u Q I2 rx ry q (hs _ _))
def rIxL (K:PySem.W.Frag):R2:=λx y H Q=>∃p xs i v,x=.ref p/\y=.int i/\SqL K H p xs/\atI xs i=some v/\Q v H
def rIxT (K:PySem.W.Frag):R2:=λx y H Q=>∃p xs i v,x=.ref p/\y=.int i/\SqT K H p xs/\atI xs i=some v/\Q v H
def rIxS:R2:=λx y H Q=>∃z i c,x=.str z/\y=.int i/\z.length<=sizeLine/\atI z.cps.toList i=some c/\Q (.str ⟨#[c]⟩) H
theorem ix_list:IxR X (rIxL X.K):=by
 intro value slice pins s σ H x y v u Q I rx ry h hs
 obtain ⟨p,xs,i,z,rfl,rfl,hq,he,q⟩:=h
 cases rx
 obtain ⟨t,rfl⟩:=ry
 obtain ⟨its,r,pl,hz⟩:=I.list hq
 obtain ⟨j,h1,h2,h3,h4,h5⟩:=atI_get he
 obtain ⟨w,ew,rw'⟩:=r.get h2
 have hl:=r.length
 have hn:=line63
 have fin:EP X pins σ Q w s:=⟨z,H,I,rw',q⟩
 by_cases h0:0<=i
 ·have hj:i.toNat=j:=by
   rw [seqIndex_of h0 h5] at h1
   exact Option.some.inj h1
  exact item_listR pl.isList h0 (by omega) (by rw [hj];simpa using ew) fin hs
 ·have hj:(i+(its.toArray.size:Int)).toNat=j:=by
   rw [seqIndex_neg (by omega) h4] at h1
   rw [List.size_toArray,← hl]
   exact Option.some.inj h1
  exact subscriptTail_builtinR (x:=w) pl.isList.typeIs slot_list_getitem.lookup
   (wpAny_getItem_list_neg (Q:=λr s'=>r=w/\EP X pins σ Q r s') pl.isList (by omega) (by rw [List.size_toArray] <;> omega) (by omega) (by rw [hj];simpa using ew) ⟨rfl,fin⟩) hs
theorem ix_tup:IxR X (rIxT X.K):=by
 intro value slice pins s σ H x y v u Q I rx ry h hs
 obtain ⟨p,xs,i,z,rfl,rfl,hq,he,q⟩:=h
 cases rx
 obtain ⟨t,rfl⟩:=ry
 obtain ⟨its,r,pl,hz⟩:=I.tuple hq
 obtain ⟨j,h1,h2,h3,h4,h5⟩:=atI_get he
 obtain ⟨w,ew,rw'⟩:=r.get h2
 have hl:=r.length
 have hn:=line63
 have fin:EP X pins σ Q w s:=⟨z,H,I,rw',q⟩
 exact subscriptTail_builtinR (x:=w) pl.typeIs slot_tuple_getitem.lookup
  (getItem_tuple (j:=j) (Q:=λr s'=>r=w/\EP X pins σ Q r s') pl (by omega) (by omega) (by rw [List.size_toArray,← hl];exact h1) (by simpa using ew) ⟨rfl,fin⟩) hs
theorem ix_str:IxR X rIxS:=by
 intro value slice pins s σ H x y v u Q I rx ry h hs
 obtain ⟨z,i,c,rfl,rfl,hz,he,q⟩:=h
 obtain ⟨t,rfl⟩:=rx
 obtain ⟨t',rfl⟩:=ry
 obtain ⟨j,h1,h2,h3,h4,h5⟩:=atI_get he
 have hl:z.cps.toList.length=z.length:=by simp [Str.length]
 rw [hl] at h1 h4 h5
 have hn:=line63
 exact tail_any (typeIs_str s z t) slot_str_getitem.lookup (getItem_str (c:=c) (by
  have e1:decide (i < -(2 ^ 63:Int))=false:=decide_eq_false (by omega)
  have e2:decide (i ≥ 2 ^ 63)=false:=decide_eq_false (by omega)
  rw [e1,e2,Bool.or_false]) (by rw [h1];simpa using h2) ⟨.str ⟨#[c]⟩,H,I.tok _,⟨_,rfl⟩,q⟩) hs
def rIx (K:PySem.W.Frag):R2:=λx y H Q=>rIxL K x y H Q\/rIxT K x y H Q\/rIxS x y H Q
theorem ix_seq:IxR X (rIx X.K):=ix_list.or (ix_tup.or ix_str)
theorem mapSeq_set (its:List Value) (n j:Nat) (u:Value):Obj.mapSeq (·.setIfInBounds j u) { cls:=.type "list",data:=.seq its.toArray n }={ cls:=.type "list",data:=.seq (its.set j u).toArray n }:=by
 simp [Obj.mapSeq]
theorem Inv.lst {pins:List (Addr × Obj)} {σ:St} {H:Hp} {s:Shared} {p:Addr} {xs:List V} (I:Inv X pins σ H s) (h:H p=some (.lst xs)) :
  ∃(its:List Value) (n:Nat),Vals xs its/\s.heap.get? p=some { cls:=.type "list",data:=.seq its.toArray n }/\xs.length<=sizeLine:=by
 obtain ⟨z,its,n,r,e⟩:=I.hok p _ h
 exact ⟨its,n,r,e,z⟩
theorem Inv.lstUpd {pins:List (Addr × Obj)} {σ:St} {H:Hp} {s:Shared} {p:Addr} {xs ys:List V} {its its':List Value} {n n':Nat} {f:Obj->Obj} (I:Inv X pins σ H s) (h:H p=some (.lst xs))
  (ho:s.heap.get? p=some { cls:=.type "list",data:=.seq its.toArray n }) (hf:f { cls:=.type "list",data:=.seq its.toArray n }={ cls:=.type "list",data:=.seq its'.toArray n' }) (r:Vals ys its') (hz:ys.length<=sizeLine) (t:Nat) :
  Inv X pins σ (upd H p (.lst ys)) { s with heap:=s.heap.update p f,toks:=t }:=by
 have e:(s.heap.update p f).get? p=some { cls:=.type "list",data:=.seq its'.toArray n' }:=by
  rw [Heap.get?_update_self f ho (by rw [hf] <;> rfl),hf]
 refine I.write (x:=p) (e:=p) (by rw [h];trivial) (.inl rfl) (λb u hb q=>(Heap.get?_update_other _ _ (Ne.symm hb)).trans q) ⟨_,e⟩ ?_
 exact ⟨hz,its',n',r,e⟩
def rSetL:V->V->V->Hp->(Hp->Prop)->Prop:=λo i v H Q=>∃p xs k j,o=.ref p/\i=.int k/\H p=some (.lst xs)/\ixN xs.length k=some j/\Q (upd H p (.lst (xs.set j v)))
theorem set_list:PSet X rSetL:=by
 intro pins s σ H o i v ov iv u Q I ro ri rv h
 obtain ⟨p,xs,k,j,rfl,rfl,hp,hj,q⟩:=h
 cases ro
 obtain ⟨t,rfl⟩:=ri
 obtain ⟨its,n,r,ho,hz⟩:=I.lst hp
 obtain ⟨h1,h2,h3,h4⟩:=ixN_seq hj
 have hl:=r.length
 have hn:=line63
 have I':Inv X pins σ (upd H p (.lst (xs.set j v))) { s with heap:=s.heap.update p (Obj.mapSeq (·.setIfInBounds j u)) } :=
  I.lstUpd hp ho (mapSeq_set its n j u) (r.set rv j) (by rw [List.length_set];exact hz) s.toks
 by_cases h0:0<=k
 ·have hk:k.toNat=j:=by
   rw [seqIndex_of h0 h4] at h1
   exact Option.some.inj h1
  exact PySem.W.ki_setAt ho h0 (by omega) (by rw [List.size_toArray,← hl];exact h4) (by rw [hk];exact ⟨_,I',q⟩)
 ·have hk:(k+(its.toArray.size:Int)).toNat=j:=by
   rw [seqIndex_neg (by omega) h3] at h1
   rw [List.size_toArray,← hl]
   exact Option.some.inj h1
  exact PySem.W.ki_setBack ho (by omega) (by rw [List.size_toArray,← hl];exact h3) (by omega) (by rw [hk];exact ⟨_,I',q⟩)
theorem slice_bounds (lo hi:Option Int) (n:Nat):(sliceBounds lo hi none n).1=((HT.sIx n 0 lo:Nat):Int)/\(sliceBounds lo hi none n).2.1=((HT.sIx n n hi:Nat):Int)/\(sliceBounds lo hi none n).2.2=1:=by
 refine ⟨?_,?_,rfl⟩
 ·cases lo with
  | none=>simp [sliceBounds,HT.sIx]
  | some i =>
   simp only [sliceBounds,HT.sIx,Option.getD_none,show (1:Int) > 0 by decide,if_true]
   by_cases h:i<0
   ·simp only [h,if_true] <;> omega
   ·simp only [h,if_false] <;> omega
 ·cases hi with
  | none=>simp [sliceBounds,HT.sIx]
  | some i =>
   simp only [sliceBounds,HT.sIx,Option.getD_none,show (1:Int) > 0 by decide,if_true]
   by_cases h:i<0
   ·simp only [h,if_true] <;> omega
   ·simp only [h,if_false] <;> omega
theorem slicePick_cut (its:List Value) (lo hi:Option Int):slicePick its.toArray lo hi none=((its.drop (HT.sIx its.length 0 lo)).take (HT.sIx its.length its.length hi-HT.sIx its.length 0 lo)).toArray:=by
 obtain ⟨h1,h2,h3⟩:=slice_bounds lo hi its.toArray.size
 unfold slicePick
 rw [h1,h2,h3]
 simp only [sliceRange_one,pick_run,List.size_toArray] <;> rfl
def rSlL (K:PySem.W.Frag):V->Option Int->Option Int->Hp->VK->Prop:=λx lo hi H Q=>∃a xs,x=.ref a/\SqL K H a xs/\∀p,H p=none->Q (.ref p) (upd H p (.lst (cutV xs lo hi)))
theorem sl_list:SlR X (rSlL X.K):=by
 intro pins s σ H x v vl vu lo hi sl Q I rx hs pl pu h
 obtain ⟨a,xs,rfl,hx,q⟩:=h
 cases rx
 obtain ⟨its,r,ht,hz⟩:=I.list hx
 have hlen:=r.length
 refine ⟨"list",_,slot_list_getitem.lookup,ht.isList.typeIs,?_⟩
 refine wpAny_getItem_list_slice ht.isList hs pl pu .none (by simp) ?_ (by rw [List.size_toArray] <;> omega)
 rw [slicePick_cut,← hlen]
 refine ⟨.ref s.heap.objs.size,_,I.laid (t':=s.toks) (o:=.lst (cutV xs lo hi)) (λb ob q=>Heap.get?_push_of_some _ q) (Nat.le_refl _) ?_,rfl,q _ (I.hok.fresh (Nat.le_refl _))⟩
 exact ⟨Nat.le_trans (cutV_length xs lo hi) hz,_,0,(r.drop (HT.sIx xs.length 0 lo)).take (HT.sIx xs.length xs.length hi-HT.sIx xs.length 0 lo),Heap.get?_push_size _ rfl⟩
def flatV:V->Bool
 | .non=>true
 | .bl _=>true
 | .int _=>true
 | .str _=>true
 | _=>false
def eqV:V->V->Bool
 | .non,.non=>true
 | .bl a,.bl b=>a == b
 | .bl a,.int b=>(if a then 1 else 0) == b
 | .int a,.bl b=>a == (if b then 1 else 0)
 | .int a,.int b=>a == b
 | .str a,.str b=>a == b
 | _,_=>false
theorem eqAt_V {A:Around} {s:Shared} {y x:V} {u v:Value} (ry:RelV y u) (rx:RelV x v) (fy:flatV y=true) (fx:flatV x=true):SeqAt.EqAt A s u v (eqV y x):=by
 cases y with
 | non =>
  cases ry
  cases x with
  | non=>cases rx;exact SeqAt.EqAt.same _
  | bl b=>cases rx;exact SeqAt.EqAt.none_bool b
  | int b=>obtain ⟨t,rfl⟩:=rx;exact SeqAt.EqAt.none_int b t
  | str b=>obtain ⟨t,rfl⟩:=rx;exact SeqAt.EqAt.none_str b t
  | _=>exact absurd (show false=true from fx) Bool.false_ne_true
 | bl a =>
  cases ry
  cases x with
  | non=>cases rx;exact SeqAt.EqAt.bool_none a
  | bl b=>cases rx;exact SeqAt.EqAt.bool_bool a b
  | int b=>obtain ⟨t,rfl⟩:=rx;exact SeqAt.EqAt.bool_int a b t
  | str b=>obtain ⟨t,rfl⟩:=rx;exact SeqAt.EqAt.bool_str a b t
  | _=>exact absurd (show false=true from fx) Bool.false_ne_true
 | int a =>
  obtain ⟨t',rfl⟩:=ry
  cases x with
  | non=>cases rx;exact SeqAt.EqAt.int_none a t'
  | bl b=>cases rx;exact SeqAt.EqAt.int_bool a t' b
  | int b=>obtain ⟨t,rfl⟩:=rx;exact SeqAt.EqAt.int_int a t' b t
  | str b=>obtain ⟨t,rfl⟩:=rx;exact SeqAt.EqAt.int_str a t' b t
  | _=>exact absurd (show false=true from fx) Bool.false_ne_true
 | str a =>
  obtain ⟨t',rfl⟩:=ry
  cases x with
  | non=>cases rx;exact SeqAt.EqAt.str_none a t'
  | bl b=>cases rx;exact SeqAt.EqAt.str_bool a t' b
  | int b=>obtain ⟨t,rfl⟩:=rx;exact SeqAt.EqAt.str_int a t' b t
  | str b=>obtain ⟨t,rfl⟩:=rx;exact SeqAt.EqAt.str_str a t' b t
  | _=>exact absurd (show false=true from fx) Bool.false_ne_true
 | _=>exact absurd (show false=true from fy) Bool.false_ne_true
def eqU (x:V) (u:Value):Bool:=match u with
 | .none=>eqV .non x
 | .bool b=>eqV (.bl b) x
 | .int i _=>eqV (.int i) x
 | .str z _=>eqV (.str z) x
 | _=>false
theorem eqU_of {x y:V} {u:Value} (r:RelV y u) (f:flatV y=true):eqU x u=eqV y x:=by
 cases y with
 | non=>cases r;rfl
 | bl b=>cases r;rfl
 | int i=>obtain ⟨t,rfl⟩:=r;rfl
 | str z=>obtain ⟨t,rfl⟩:=r;rfl
 | _=>exact absurd (show false=true from f) Bool.false_ne_true
theorem any_eqU {x:V}:∀{xs:List V} {us:List Value},Vals xs us->xs.all flatV=true->us.any (eqU x)=xs.any λy=>eqV y x
 | _,_,.nil,_=>rfl
 | y::xs,u::us,.cons r t,f=>by
  rw [List.all_cons,Bool.and_eq_true] at f
  rw [List.any_cons,List.any_cons,eqU_of r f.1,any_eqU t f.2]
theorem mem_eqAt {A:Around} {s:Shared} {x:V} {v:Value} (rx:RelV x v) (fx:flatV x=true):∀{xs:List V} {us:List Value},Vals xs us->xs.all flatV=true->∀u∈us,SeqAt.EqAt A s u v (eqU x u)
 | _,_,.nil,_=>λu hu=>by cases hu
 | y::xs,u::us,.cons r t,f=>λu' hu=>by
  rw [List.all_cons,Bool.and_eq_true] at f
  rcases List.mem_cons.mp hu with rfl | hu
  ·rw [eqU_of r f.1];exact eqAt_V r rx f.1 fx
  ·exact mem_eqAt rx fx t f.2 u' hu
def inV (x:V) (xs:List V):Bool:=xs.any λy=>eqV y x
def rIn (K:PySem.W.Frag) (neg:Bool):R2:=λx y H Q=>∃p xs,y=.ref p/\(SqL K H p xs\/SqT K H p xs)/\flatV x=true/\xs.all flatV=true/\Q (.bl (if neg then !inV x xs else inV x xs)) H
theorem op_in_seq:OpR X (compareOp .In) (rIn X.K false):=by
 intro pins s σ H x y v u Q I rx ry h
 obtain ⟨p,xs,rfl,hq,fx,fs,q⟩:=h
 cases ry
 rcases hq with hq | hq
 ·obtain ⟨its,r,pl,hz⟩:=I.list hq
  refine SeqAt.in_listAt (eqU x) pl.isList (λw hw=>mem_eqAt rx fx r fs w (by simpa using hw)) ⟨.bl _,H,I,rfl,?_⟩
  rw [show its.toArray.any (eqU x)=its.any (eqU x) by simp,any_eqU r fs]
  exact q
 ·obtain ⟨its,r,pl,hz⟩:=I.tuple hq
  refine SeqAt.in_tupleAt (eqU x) pl (λw hw=>mem_eqAt rx fx r fs w (by simpa using hw)) ⟨.bl _,H,I,rfl,?_⟩
  rw [show its.toArray.any (eqU x)=its.any (eqU x) by simp,any_eqU r fs]
  exact q
theorem op_notIn_seq:OpR X (compareOp .NotIn) (rIn X.K true):=by
 intro pins s σ H x y v u Q I rx ry h
 obtain ⟨p,xs,rfl,hq,fx,fs,q⟩:=h
 cases ry
 rcases hq with hq | hq
 ·obtain ⟨its,r,pl,hz⟩:=I.list hq
  refine SeqAt.notIn_listAt (eqU x) pl.isList (λw hw=>mem_eqAt rx fx r fs w (by simpa using hw)) ⟨.bl _,H,I,rfl,?_⟩
  rw [show its.toArray.any (eqU x)=its.any (eqU x) by simp,any_eqU r fs]
  exact q
 ·obtain ⟨its,r,pl,hz⟩:=I.tuple hq
  refine SeqAt.notIn_tupleAt (eqU x) pl (λw hw=>mem_eqAt rx fx r fs w (by simpa using hw)) ⟨.bl _,H,I,rfl,?_⟩
  rw [show its.toArray.any (eqU x)=its.any (eqU x) by simp,any_eqU r fs]
  exact q
theorem op_notIn_str:OpR X (compareOp .NotIn) (λx y H Q=>∃i j,x=.str i/\y=.str j/\Q (.bl (!(!(Builtin.Str.occurrences j i 0 j.length 1).isEmpty))) H):=by
 intro pins s σ H x y v u Q I rx ry h
 obtain ⟨i,j,rfl,rfl,q⟩:=h
 obtain ⟨t,rfl⟩:=rx
 obtain ⟨t',rfl⟩:=ry
 exact notIn_str ⟨.bl _,H,I,rfl,q⟩
theorem CallR.or {f:Value} {r r':List V->Hp->VK->Prop} (h:CallR X f r) (h':CallR X f r'):CallR X f (λxs H Q=>r xs H Q\/r' xs H Q):=by
 intro pins s σ H xs us Q I rs q
 rcases q with q | q
 ·exact h pins s σ H xs us Q I rs q
 ·exact h' pins s σ H xs us Q I rs q
theorem call_list_of:CallR X (.type "list") (λxs H Q=>∃p ys,xs=[.ref p]/\(SqL X.K H p ys\/SqT X.K H p ys)/\∀l,H l=none->Q (.ref l) (upd H l (.lst ys))):=by
 intro pins s σ H xs us Q I r h
 obtain ⟨p,ys,rfl,hq,q⟩:=h
 obtain ⟨u,rfl,rx⟩:=vals1 r
 cases rx
 have fin:∀(its:List Value),Vals ys its->ys.length<=sizeLine->∀(h':Heap) (c':Nat),(∀b o',s.heap.get? b=some o'->h'.get? b=some o') ->
   h'.get? s.heap.objs.size=some { cls:=.type "list",dict:=none,data:=.seq its.toArray c',slots:=#[] }->EP X pins σ Q (.ref s.heap.objs.size) { s with heap:=h' }:=λits r' hz h' c' kp e =>
  ⟨.ref s.heap.objs.size,_,I.laid (t':=s.toks) kp (Nat.le_refl _) (show ObjOk X.prog X.w _ h' _ (.lst ys) from ⟨hz,its,c',r',e⟩),rfl,q _ (I.hok.fresh (Nat.le_refl _))⟩
 rcases hq with hq | hq
 ·obtain ⟨its,r',pl,hz⟩:=I.list hq
  have hlen:=r'.length
  obtain ⟨o,ho,hc,n,hd⟩:=pl.isList
  exact call_list_seq p (.inl rfl) ho hc hd (λh' c' kp e=>fin its r' hz h' c' kp e) (by simp only [List.size_toArray] <;> omega)
 ·obtain ⟨its,r',pl,hz⟩:=I.tuple hq
  have hlen:=r'.length
  obtain ⟨o,ho,hc,n,hd⟩:=pl
  exact call_list_seq p (.inr rfl) ho hc hd (λh' c' kp e=>fin its r' hz h' c' kp e) (by simp only [List.size_toArray] <;> omega)
theorem call_tuple_of:CallR X (.type "tuple") (λxs H Q=>∃p ys,xs=[.ref p]/\((SqL X.K H p ys/\∀l,H l=none->Q (.ref l) (upd H l (.tup ys)))\/(SqT X.K H p ys/\Q (.ref p) H))):=by
 intro pins s σ H xs us Q I r h
 obtain ⟨p,ys,rfl,h⟩:=h
 obtain ⟨u,rfl,rx⟩:=vals1 r
 cases rx
 rcases h with ⟨hq,q⟩ | ⟨hq,q⟩
 ·obtain ⟨its,r',pl,hz⟩:=I.list hq
  have hlen:=r'.length
  refine call_tuple_list pl.isList (λh' kp=>?_) (by simp only [List.size_toArray] <;> omega)
  have I1:Inv X pins σ H { s with heap:=h' }:=I.kept (t':=s.toks) kp
  have I2:Inv X pins σ (upd H h'.objs.size (.tup ys)) { s with heap:=h'.push { cls:=.type "tuple",data:=.seq its.toArray } } :=
   I1.laid (t':=s.toks) (λb o e=>Heap.get?_push_of_some _ e) (Nat.le_refl _) (show ObjOk X.prog X.w _ _ _ (.tup ys) from ⟨hz,its,r',IsTup.new _ _⟩)
  exact ⟨.ref h'.objs.size,_,I2,rfl,q _ (I1.hok.fresh (Nat.le_refl _))⟩
 ·obtain ⟨its,r',pl,hz⟩:=I.tuple hq
  exact call_tuple_same pl ⟨.ref p,H,I,rfl,q⟩
def tyV (K:PySem.W.Frag) (T:String) (x:V) (H:Hp):Prop:=match x with
 | .str _=>T = "str"
 | .int _=>T = "int"
 | .ref p=>(T = "list" /\ ∃xs,SqL K H p xs)\/(T = "tuple" /\ ∃o,K.lookup p=some o/\o.cls=.type "tuple" /\ o.dict=none) \/
   (T = "dict" /\ ((∃kvs,H p=some (.dK kvs))\/∃kvs,H p=some (.dT kvs)))\/(T = "set" /\ ∃S n,H p=some (.set S n))
 | _=>False
theorem tyV_is {pins:List (Addr × Obj)} {σ:St} {H:Hp} {s:Shared} {T:String} {x:V} {v:Value} (I:Inv X pins σ H s) (r:RelV x v) (ty:tyV X.K T x H) :
  s.TypeIs v T/\∀a,v=.ref a->∃ob,s.heap.get? a=some ob/\ob.dict=none:=by
 cases x with
 | str z =>
  obtain ⟨t,rfl⟩:=r
  cases (show T = "str" from ty)
  exact ⟨typeIs_str s z t,λ_ e=>nomatch e⟩
 | int i =>
  obtain ⟨t,rfl⟩:=r
  cases (show T = "int" from ty)
  exact ⟨typeIs_int s i t,λ_ e=>nomatch e⟩
 | ref p =>
  cases r
  rcases ty with ⟨rfl,xs,hq⟩ | ⟨rfl,o,hk,hc,hd⟩ | ⟨rfl,hk⟩ | ⟨rfl,S,n,hk⟩
  ·obtain ⟨its,_,pl,_⟩:=I.list hq
   refine ⟨pl.isList.typeIs,λa e=>?_⟩
   cases e
   obtain ⟨o,n,e,c,hd,_⟩:=pl
   exact ⟨o,e,hd⟩
  ·refine ⟨⟨o,I.kIn p o hk,hc⟩,λa e=>?_⟩
   cases e
   exact ⟨o,I.kIn _ o hk,hd⟩
  ·have z:∃o,s.heap.get? p=some o/\o.ExactDict:=by
    rcases hk with ⟨kvs,hk⟩ | ⟨kvs,hk⟩
    ·obtain ⟨_,_,_,_,o,_,_,e,ex,_⟩:=I.hok p _ hk
     exact ⟨o,e,ex⟩
    ·obtain ⟨_,_,_,_,o,_,_,e,ex,_⟩:=I.hok p _ hk
     exact ⟨o,e,ex⟩
   obtain ⟨o,e,ex⟩:=z
   refine ⟨⟨o,e,ex.1⟩,λa e2=>?_⟩
   cases e2
   exact ⟨o,e,ex.2.1⟩
  ·obtain ⟨o,_,_,_,e,ex,_⟩:=I.hok p _ hk
   refine ⟨⟨o,e,ex.1⟩,λa e2=>?_⟩
   cases e2
   exact ⟨o,e,ex.2.1⟩
 | _=>exact False.elim ty
def tBM (K:PySem.W.Frag) (T:String) (r:V->List V->Hp->VK->Prop) (to:TE) (t:TA):TE:=λσ H Q=>to σ H λx H1=>tyV K T x H1/\t σ H1 λxs H2=>r x xs H2 Q
variable {o e:Expr} {es:List Expr} {to:TE} {t:TA} {name:Str} {apos cpos:Pos} {T id:String} {r:V->List V->Hp->VK->Prop}
theorem pe_bm (pa:PlainAttrs T) (slot:Slot T name id) (hty:typeOf (.builtin id)=pure (.type "method_descriptor")) (hm:MtR X id r) (ho:PE X o to) (ha:PA X (e::es) t)
  (hbase:attributeBase o name X.env (eval o X.env)=eval o X.env:=by rfl)
  (hfew:((backTo cpos (starEach (e::es) X.env)).all (λx=>!x.1) && (backToKw cpos (keywordEach [] X.env)).all (λx=>x.1.isSome)
   && decide ((e::es).length+([]:List Keyword).length+(if ([]:List Keyword).isEmpty then 0 else 1)<30))=true:=by rfl)
  (hline:(apos.endLine == cpos.line)=true:=by rfl) (hs:starEach (e::es) X.env=(false,eval e X.env)::starEach es X.env:=by rfl) (hplain:(backTo cpos (starEach es X.env)).any (·.1)=false:=by rfl) :
  PE X (.Call (.Attribute o name apos) (e::es) [] cpos) (tBM X.K T r to t):=by
 intro pins s σ H Q I h
 refine wpAny_Call_method_late hbase hfew hline rfl (thn (ho pins s σ H _ I h) λv s1 ⟨x,H1,I1,r1,ty,q1⟩=>?_)
 obtain ⟨h1,h2⟩:=tyV_is I1 r1 ty
 refine ⟨T,id,pa,slot,hty,h1,h2,?_⟩
 have hA:=ha cpos pins s1 σ H1 _ I1 q1
 rw [hs] at hA ⊢
 refine Calls.callWith_builtin (by show (false || (backTo cpos (starEach es X.env)).any (·.1))=false;rw [hplain] <;> rfl) (Calls.evalArgs_plain ?_)
 exact thn hA λus s2 ⟨vs,H2,I2,r2,q2⟩=>hm pins s2 σ H2 x vs v us Q I2 r1 r2 q2
end
end L2
namespace L2
open PySem PySem.Spec PyProof.Rows
def MtM (X:Cx) (id:String) (r:V->List V->Hp->VK->Prop):Prop :=
 ∀(pins:List (Addr × Obj)) (s:Shared) (σ:St) (H:Hp) (x:V) (xs:List V) (v:Value) (us:List Value) (Q:VK),Inv X pins σ H s->RelV x v->Vals xs us->r x xs H Q ->
  wpAny (model X.prog X.w) X.A (call (.builtin id) (v::us)) (EP X pins σ Q) X.xe s
theorem Vals.one:∀{x:V} {us:List Value},Vals [x] us->∃u,us=[u]/\RelV x u
 | _,_,.cons r .nil=>⟨_,rfl,r⟩
theorem Vals.two:∀{x y:V} {us:List Value},Vals [x,y] us->∃u v,us=[u,v]/\RelV x u/\RelV y v
 | _,_,_,.cons r (.cons q .nil)=>⟨_,_,rfl,r,q⟩
theorem Vals.zero:∀{us:List Value},Vals [] us->us=[]
 | _,.nil=>rfl
theorem Vals.dropLast {xs:List V} {us:List Value} (h:Vals xs us):Vals xs.dropLast us.dropLast:=by
 induction h with
 | nil=>exact .nil
 | cons r t ih =>
  cases t with
  | nil=>exact .nil
  | cons q t'=>exact .cons r ih
theorem Vals.eraseIdx:∀{xs:List V} {us:List Value} (i:Nat),Vals xs us->Vals (xs.eraseIdx i) (us.eraseIdx i)
 | _,_,_,.nil=>.nil
 | _,_,0,.cons _ t=>t
 | _,_,i+1,.cons r t=>.cons r (Vals.eraseIdx i t)
theorem Vals.reverse {xs:List V} {us:List Value} (h:Vals xs us):Vals xs.reverse us.reverse:=by
 induction h with
 | nil=>exact .nil
 | cons r t ih=>rw [List.reverse_cons,List.reverse_cons];exact Vals.append ih (.cons r .nil)
theorem Vals.rep {xs:List V} {us:List Value} (h:Vals xs us):∀k:Nat,Vals (List.replicate k xs).flatten (List.replicate k us).flatten
 | 0=>.nil
 | k+1=>by
  rw [List.replicate_succ,List.replicate_succ,List.flatten_cons,List.flatten_cons]
  exact Vals.append h (Vals.rep h k)
theorem len_erase {α:Type}:∀(l:List α) (i:Nat),(l.eraseIdx i).length<=l.length
 | [],_=>Nat.le_refl _
 | _::_,0=>Nat.le_succ _
 | _::r,i+1=>Nat.succ_le_succ (len_erase r i)
theorem foldl_rep (its:List Value):∀(k:Nat) (acc:List Value),
  List.foldl (λx1 x2=>x1++x2) acc.toArray (List.replicate k its.toArray)=(acc++(List.replicate k its).flatten).toArray
 | 0,acc=>by simp
 | k+1,acc=>by
  have e:acc.toArray++its.toArray=(acc++its).toArray:=by simp
  have e2:(acc++its)++(List.replicate k its).flatten=acc++(List.replicate (k+1) its).flatten:=by
   rw [List.replicate_succ,List.flatten_cons,List.append_assoc]
  rw [← e2,← foldl_rep its k (acc++its),← e,List.replicate_succ,List.foldl_cons]
section
variable {X:Cx} {pins:List (Addr × Obj)} {σ:St} {H:Hp} {s:Shared} {l b:Addr} {xs ys zs:List V}
theorem Inv.lset {its its':List Value} {n:Nat} {f:Array Value->Array Value} {t':Nat} (I:Inv X pins σ H s) (hH:H l=some (.lst xs))
  (e:s.heap.get? l=some { cls:=.type "list",data:=.seq its.toArray n }) (hf:f its.toArray=its'.toArray) (hv:Vals ys its') (hz:ys.length<=sizeLine) :
  Inv X pins σ (upd H l (.lst ys)) { s with heap:=s.heap.update l (Obj.mapSeq f),toks:=t' }:=by
 have q:=PySem.IsL.update e f
 rw [hf] at q
 refine I.write (x:=l) (e:=l) (by rw [hH];exact trivial) (.inl rfl) (λb' u hb hu=>(Heap.get?_update_other s.heap (Obj.mapSeq f) (Ne.symm hb)).trans hu) ⟨_,q⟩ ?_
 exact ⟨hz,its',_,hv,q⟩
theorem Inv.lnew {its:List Value} {t':Nat} (I:Inv X pins σ H s) (hv:Vals ys its) (hz:ys.length<=sizeLine) :
  Inv X pins σ (upd H s.heap.objs.size (.lst ys)) { s with heap:=s.heap.push { cls:=.type "list",data:=.seq its.toArray },toks:=t' } :=
 I.laid (λ_ _ q=>Heap.get?_push_of_some _ q) (Nat.le_refl _) ⟨hz,its,0,hv,Heap.get?_push_size _ rfl⟩
theorem Inv.fresh (I:Inv X pins σ H s):H s.heap.objs.size=none:=I.hok.fresh (Nat.le_refl _)
theorem Inv.lstM (I:Inv X pins σ H s) (hH:H l=some (.lst xs)):xs.length<=sizeLine/\∃(its:List Value) (n:Nat),Vals xs its/\xs.length=its.length/\s.heap.get? l=some { cls:=.type "list",data:=.seq its.toArray n }:=by
 obtain ⟨z,its,n,r,e⟩:=I.hok l _ hH
 exact ⟨z,its,n,r,r.length,e⟩
theorem notLongL {n:Nat} (h:n<=sizeLine):Builtin.List.listTooLong n=false:=by
 unfold Builtin.List.listTooLong
 exact decide_eq_false (by omega)
end
section
variable {X:Cx}
def rAppend:V->List V->Hp->VK->Prop:=λx vs H Q=>∃l xs y,x=.ref l/\vs=[y]/\H l=some (.lst xs)/\xs.length<sizeLine/\Q .non (upd H l (.lst (xs++[y])))
theorem mt_append:MtM X "list.append" rAppend:=by
 intro pins s σ H x vs v us Q I rx rv h
 obtain ⟨l,xs,y,rfl,rfl,hH,hz,q⟩:=h
 cases rx
 obtain ⟨u,rfl,ru⟩:=rv.one
 obtain ⟨z,its,n,r,hl,e⟩:=I.lstM hH
 refine call_meets F.slot_list_append ⟨_,e,rfl⟩ F.entry_list_append (F.args_list_append_2 _ _) (PySem.list_append l its.toArray n u (by rw [List.size_toArray];omega)) ⟨e,?_⟩
 refine ⟨.non,_,I.lset (its':=its++[u]) hH e (by simp) (r.append (.cons ru .nil)) ?_,rfl,q⟩
 rw [List.length_append,List.length_singleton]
 omega
def rExtend:V->List V->Hp->VK->Prop:=λx vs H Q=>∃l b xs zs,x=.ref l/\vs=[.ref b]/\H l=some (.lst xs)/\H b=some (.lst zs)/\xs.length+zs.length<=sizeLine/\Q .non (upd H l (.lst (xs++zs)))
theorem mt_extend:MtM X "list.extend" rExtend:=by
 intro pins s σ H x vs v us Q I rx rv h
 obtain ⟨l,b,xs,zs,rfl,rfl,hH,hB,hz,q⟩:=h
 cases rx
 obtain ⟨u,rfl,ru⟩:=rv.one
 cases ru
 obtain ⟨z,its,n,r,hl,e⟩:=I.lstM hH
 obtain ⟨z2,its2,n2,r2,hl2,e2⟩:=I.lstM hB
 have hsz:its.toArray.size+its2.toArray.size<=sizeLine:=by rw [List.size_toArray,List.size_toArray];omega
 have hlong:¬(!its.toArray.isEmpty && Builtin.List.listTooLong (its.toArray.size+its2.toArray.size))=true:=by
  rw [notLongL hsz,Bool.and_false]
  exact Bool.false_ne_true
 refine call_meets F.slot_list_extend ⟨_,e,rfl⟩ F.entry_list_extend (F.args_list_extend_2 _ _)
  (AutoSeq1.list_extend_list_list_0 l its.toArray n b its2.toArray n2 hlong (by rw [List.size_toArray];omega) (by omega)) ⟨e,e2,?_⟩
 refine ⟨.non,_,I.lset (its':=its++its2) hH e (by simp) (r.append r2) ?_,rfl,q⟩
 rw [List.length_append]
 omega
def rPopAt:V->List V->Hp->VK->Prop:=λx vs H Q=>∃l xs i k y,x=.ref l/\vs=[.int i]/\H l=some (.lst xs) /\ -(2 ^ 63)<=i/\i<2 ^ 63/\seqIndex? i xs.length=some k/\xs[k]? = some y/\Q y (upd H l (.lst (xs.eraseIdx k)))
theorem mt_popAt:MtM X "list.pop" rPopAt:=by
 intro pins s σ H x vs v us Q I rx rv h
 obtain ⟨l,xs,i,k,y,rfl,rfl,hH,h1,h2,hk,hy,q⟩:=h
 cases rx
 obtain ⟨u,rfl,ru⟩:=rv.one
 obtain ⟨t,rfl⟩:=ru
 obtain ⟨z,its,n,r,hl,e⟩:=I.lstM hH
 obtain ⟨w,hw,rw'⟩:=r.get hy
 refine call_meets F.slot_list_pop ⟨_,e,rfl⟩ F.entry_list_pop (F.args_list_pop_2 _ _)
  (MeetsSeq.list_pop_at l its.toArray n i t k w (fitsIndex_both h1 h2) (by rw [List.size_toArray,← hl];exact hk) (by rw [← Array.getElem?_toList];exact hw) (by rw [List.size_toArray];omega)) ⟨e,?_⟩
 refine ⟨y,_,I.lset (its':=its.eraseIdx k) hH e ?_ (r.eraseIdx k) ?_,rw',q⟩
 ·show its.toArray.eraseIdxIfInBounds k=(its.eraseIdx k).toArray
  rw [List.eraseIdxIfInBounds_toArray]
 ·have:=len_erase xs k
  omega
def rCat:R2:=λx y H Q=>∃l b xs zs,x=.ref l/\y=.ref b/\H l=some (.lst xs)/\H b=some (.lst zs)/\xs.length+zs.length<=sizeLine/\∀p,H p=none->Q (.ref p) (upd H p (.lst (xs++zs)))
theorem op_cat:OpR X (binaryOp .Add) rCat:=by
 intro pins s σ H x y v u Q I rx ry h
 obtain ⟨l,b,xs,zs,rfl,rfl,hH,hB,hz,q⟩:=h
 cases rx
 cases ry
 obtain ⟨z,its,n,r,hl,e⟩:=I.lstM hH
 obtain ⟨z2,its2,n2,r2,hl2,e2⟩:=I.lstM hB
 refine PySem.P.add_list e e2 ?_ (by rw [List.size_toArray,List.size_toArray];omega)
 have ea:its.toArray++its2.toArray=(its++its2).toArray:=by simp
 rw [ea]
 exact ⟨.ref _,_,I.lnew (t':=s.toks) (r.append r2) (by rw [List.length_append];omega),rfl,q _ I.fresh⟩
def rRep:R2:=λx y H Q=>∃l k xs,x=.ref l/\y=.int k/\H l=some (.lst xs) /\ -(2 ^ 63)<=k/\k<2 ^ 63/\xs.length*k.toNat<=sizeLine /\
 ∀p,H p=none->Q (.ref p) (upd H p (.lst (List.replicate k.toNat xs).flatten))
theorem len_rep {α:Type} (xs:List α) (k:Nat):(List.replicate k xs).flatten.length=k*xs.length:=by
 induction k with
 | zero=>simp
 | succ k ih=>rw [List.replicate_succ,List.flatten_cons,List.length_append,ih,Nat.succ_mul,Nat.add_comm]
theorem op_rep:OpR X (binaryOp .Mult) rRep:=by
 intro pins s σ H x y v u Q I rx ry h
 obtain ⟨l,k,xs,rfl,rfl,hH,h1,h2,hz,q⟩:=h
 cases rx
 obtain ⟨t,rfl⟩:=ry
 obtain ⟨z,its,n,r,hl,e⟩:=I.lstM hH
 have hlen:its.toArray.size*k.toNat<=sizeLine:=by rw [List.size_toArray,← hl];exact hz
 have hcap:¬its.toArray.size*k.toNat > (2 ^ 63-1) / 8:=by
  have:(sizeLine:Nat)<=(2 ^ 63-1) / 8:=by decide
  omega
 have hfit:¬(!Builtin.List.listFitsIndex k)=true:=by
  rw [fitsIndex_both h1 h2]
  exact Bool.false_ne_true
 have hlong:¬Builtin.List.listTooLong (its.toArray.size*k.toNat)=true:=by
  rw [notLongL hlen]
  exact Bool.false_ne_true
 have hnew:List.foldl (λx1 x2=>x1++x2) #[] (List.replicate (if its.toArray.isEmpty=true then 0 else k.toNat) its.toArray)=(List.replicate k.toNat its).flatten.toArray:=by
  have f0:∀m:Nat,List.foldl (λx1 x2=>x1++x2) #[] (List.replicate m its.toArray)=(List.replicate m its).flatten.toArray:=λm=>by
   have:=foldl_rep its m []
   rw [List.nil_append] at this
   exact this
  rw [f0]
  cases its with
  | nil=>simp
  | cons a r'=>rw [if_neg (by simp)]
 refine wpAny_binaryOp_repeat_ref (T:="list") (U:="int") (by decide) ⟨_,e,rfl⟩ (λs'=>typeIs_int s' k t) noFill_list_mul F.fills_int_mul F.slot_int_rmul repeat_list F.slot_int_index.lookup
  (call_meets F.slot_int_rmul (typeIs_int s k t) F.entry_int_rmul (F.args_int_rmul_2 _ _) (int___rmul___int_list k t l its.toArray n)
   ⟨e,rfl,⟨_,e,rfl⟩,call_meets F.slot_list_mul ⟨_,e,rfl⟩ F.entry_list_mul (F.args_list_mul_2 _ _) (AutoListH.list___mul___list_int_3 l its.toArray n k t hfit hcap hlong) ⟨e,?_⟩⟩)
 rw [hnew]
 exact ⟨.ref _,_,I.lnew (t':=s.toks) (r.rep k.toNat) (by rw [len_rep,Nat.mul_comm];exact hz),rfl,q _ I.fresh⟩
end
section
variable {prog:Program} {w:World} {A:Around} {E:Value->Shared->Prop} {s:Shared}
end
section
variable {X:Cx}
end
end L2
namespace L2
open PySem PySem.Spec PyProof.Rows
section
variable {κ:Type} [DecidableEq κ]
def valV (kvs:List (κ × V)) (k:κ):Option V:=(kvs.find? λkv=>decide (kv.1=k)).map (·.2)
def putK (kvs:List (κ × V)) (k:κ) (v:V):List (κ × V) :=
 if (kvs.any λkv=>decide (kv.1=k))=true then kvs.map (λkv=>if kv.1=k then (kv.1,v) else kv) else kvs++[(k,v)]
def dropK (kvs:List (κ × V)) (k:κ):List (κ × V):=kvs.filter λkv=>decide (kv.1≠k)
theorem valV_pos {p:κ × V} {r:List (κ × V)} {k:κ} (e:p.1=k):valV (p::r) k=some p.2:=by simp [valV,List.find?_cons,e]
theorem valV_neg {p:κ × V} {r:List (κ × V)} {k:κ} (e:¬p.1=k):valV (p::r) k=valV r k:=by simp [valV,List.find?_cons,e]
theorem valV_any (k:κ):∀kvs:List (κ × V),(kvs.any λkv=>decide (kv.1=k))=(valV kvs k).isSome
 | []=>rfl
 | p::r=>by
  rw [List.any_cons]
  by_cases e:p.1=k
  ·simp only [valV_pos e,decide_eq_true e,Bool.true_or,Option.isSome_some]
  ·rw [valV_neg e,decide_eq_false e,Bool.false_or];exact valV_any k r
theorem valV_map (k j:κ) (y:V):∀kvs:List (κ × V),valV (kvs.map λkv=>if kv.1=k then (kv.1,y) else kv) j=(valV kvs j).map λx=>if j=k then y else x
 | []=>rfl
 | p::r=>by
  have ih:=valV_map k j y r
  rw [List.map_cons]
  by_cases h:p.1=k
  ·rw [if_pos h]
   by_cases e:p.1=j
   ·rw [valV_pos (p:=(p.1,y)) e,valV_pos e,Option.map_some,if_pos (e.symm.trans h)]
   ·rw [valV_neg (p:=(p.1,y)) e,valV_neg e,ih]
  ·rw [if_neg h]
   by_cases e:p.1=j
   ·rw [valV_pos (p:=p) e,valV_pos e,Option.map_some,if_neg (λz=>h (e.trans z))]
   ·rw [valV_neg (p:=p) e,valV_neg e,ih]
theorem valV_snoc (k j:κ) (y:V):∀kvs:List (κ × V),valV kvs k=none->valV (kvs++[(k,y)]) j=if j=k then some y else valV kvs j
 | [],_=>by
  by_cases e:k=j
  ·rw [if_pos e.symm];exact valV_pos (p:=(k,y)) e
  ·rw [if_neg (λz=>e z.symm)];exact valV_neg (p:=(k,y)) e
 | p::r,hn=>by
  rw [List.cons_append]
  have hk:¬p.1=k:=λz=>by rw [valV_pos z] at hn;cases hn
  rw [valV_neg hk] at hn
  have ih:=valV_snoc k j y r hn
  by_cases e:p.1=j
  ·rw [valV_pos e,valV_pos e,if_neg (λz=>hk (e.trans z))]
  ·rw [valV_neg e,valV_neg e,ih]
theorem valV_put (kvs:List (κ × V)) (k j:κ) (y:V):valV (putK kvs k y) j=if j=k then some y else valV kvs j:=by
 unfold putK
 by_cases a:(kvs.any λkv=>decide (kv.1=k))=true
 ·rw [if_pos a,valV_map]
  rw [valV_any] at a
  by_cases e:j=k
  ·obtain ⟨x,hx⟩:=Option.isSome_iff_exists.mp a
   rw [if_pos e,e,hx,Option.map_some,if_pos rfl]
  ·rw [if_neg e]
   cases valV kvs j with
   | none=>rfl
   | some x=>rw [Option.map_some,if_neg e]
 ·rw [if_neg a]
  refine valV_snoc k j y kvs ?_
  rw [valV_any] at a
  cases q:valV kvs k with
  | none=>rfl
  | some x=>rw [q] at a;exact (a rfl).elim
theorem length_putK (kvs:List (κ × V)) (k:κ) (v:V):(putK kvs k v).length<=kvs.length+1:=by
 unfold putK
 split
 ·rw [List.length_map];omega
 ·rw [List.length_append,List.length_cons,List.length_nil];omega
theorem putK_new {kvs:List (κ × V)} {k:κ} (v:V) (h:valV kvs k=none):putK kvs k v=kvs++[(k,v)]:=by
 unfold putK
 rw [valV_any,h]
 exact if_neg (by decide)
theorem RelO.isSome_eq {o:Option V} {u:Option Value} (r:RelO o u):o.isSome=u.isSome:=by
 cases o with
 | none=>cases u with
  | none=>rfl
  | some _=>exact (show False from r).elim
 | some _=>cases u with
  | none=>exact (show False from r).elim
  | some _=>rfl
theorem RelO.getD {o:Option V} {u:Option Value} {d:V} {d':Value} (r:RelO o u) (rd:RelV d d'):RelV (o.getD d) (u.getD d'):=by
 cases o with
 | none=>cases u with
  | none=>exact rd
  | some _=>exact (show False from r).elim
 | some _=>cases u with
  | none=>exact (show False from r).elim
  | some _=>exact r
theorem KV.val {kvs:List (κ × V)} {vs:List (κ × Value)} (r:KV kvs vs) (k:κ):RelO (valV kvs k) (valueAt vs k):=by
 unfold KV at r
 induction r with
 | nil=>exact True.intro
 | @cons p q ps qs h t ih =>
  obtain ⟨h1,h2⟩:=h
  by_cases e:p.1=k
  ·have e':q.1=k:=h1.symm.trans e
   have b:valueAt (q::qs) k=some q.2:=by simp [valueAt,List.find?_cons,e']
   rw [valV_pos e,b];exact h2
  ·have e':¬q.1=k:=λz=>e (h1.trans z)
   have b:valueAt (q::qs) k=valueAt qs k:=by simp [valueAt,List.find?_cons,e']
   rw [valV_neg e,b];exact ih
theorem KV.any {kvs:List (κ × V)} {vs:List (κ × Value)} (r:KV kvs vs) (k:κ):(kvs.any λkv=>decide (kv.1=k))=vs.any λkv=>decide (kv.1=k):=by
 unfold KV at r
 induction r with
 | nil=>rfl
 | cons h t ih=>rw [List.any_cons,List.any_cons,ih,h.1]
theorem KV.repl {kvs:List (κ × V)} {vs:List (κ × Value)} (r:KV kvs vs) (k:κ) {y:V} {u:Value} (ry:RelV y u) :
  KV (kvs.map λkv=>if kv.1=k then (kv.1,y) else kv) (vs.map λkv=>if kv.1=k then (kv.1,u) else kv):=by
 unfold KV at r ⊢
 induction r with
 | nil=>exact .nil
 | @cons p q ps qs h t ih =>
  rw [List.map_cons,List.map_cons]
  refine .cons ?_ ih
  obtain ⟨h1,h2⟩:=h
  by_cases e:p.1=k
  ·rw [if_pos e,if_pos (h1.symm.trans e)];exact ⟨h1,ry⟩
  ·rw [if_neg e,if_neg (λz=>e (h1.trans z))];exact ⟨h1,h2⟩
theorem KV.put {kvs:List (κ × V)} {vs:List (κ × Value)} (r:KV kvs vs) (k:κ) {y:V} {u:Value} (ry:RelV y u):KV (putK kvs k y) (stored vs k u):=by
 unfold putK stored
 rw [r.any k]
 by_cases e:(vs.any λkv=>decide (kv.1=k))=true
 ·rw [if_pos e,if_pos e];exact r.repl k ry
 ·rw [if_neg e,if_neg e];exact Paired.snoc r ⟨rfl,ry⟩
theorem KV.drop {kvs:List (κ × V)} {vs:List (κ × Value)} (r:KV kvs vs) (k:κ):KV (dropK kvs k) (without vs k):=by
 unfold KV at r ⊢
 unfold dropK without
 induction r with
 | nil=>exact .nil
 | @cons p q ps qs h t ih =>
  obtain ⟨h1,h2⟩:=h
  rw [List.filter_cons,List.filter_cons]
  by_cases e:p.1=k
  ·have a:¬decide (p.1≠k)=true:=by simp [e]
   have b:¬decide (q.1≠k)=true:=by simp [h1.symm.trans e]
   rw [if_neg a,if_neg b];exact ih
  ·have e':¬q.1=k:=λz=>e (h1.trans z)
   have a:decide (p.1≠k)=true:=by simp [e]
   have b:decide (q.1≠k)=true:=by simp [e']
   rw [if_pos a,if_pos b];exact .cons ⟨h1,h2⟩ ih
theorem KV.keys {kvs:List (κ × V)} {vs:List (κ × Value)} (r:KV kvs vs):kvs.map (·.1)=vs.map (·.1):=by
 unfold KV at r
 induction r with
 | nil=>rfl
 | cons h t ih=>rw [List.map_cons,List.map_cons,ih,h.1]
theorem KV.length {kvs:List (κ × V)} {vs:List (κ × Value)} (r:KV kvs vs):kvs.length=vs.length:=Paired.length r
theorem dropK_le (kvs:List (κ × V)) (k:κ):(dropK kvs k).length<=kvs.length:=List.length_filter_le _ _
end
theorem kV_is {P:Program} {w:World} {k:Key} {u:Value} (r:RelV (kV k) u):(mixKind P w).is k u=true:=by
 cases k with
 | inl i=>obtain ⟨t,e⟩:=(show ∃t,u=Value.int i t from r);subst e;exact mixKind_int P w i t
 | inr x=>obtain ⟨t,e⟩:=(show ∃t,u=Value.str x t from r);subst e;exact mixKind_str P w x t
theorem items_are {P:Program} {w:World}:∀{ks:List Key} {us:List Value},Vals (ks.map kV) us->ItemsAre (mixKind P w) ks us
 | [],_,r=>by rw [List.map_nil] at r;cases r;exact .nil
 | k::ks,_,r=>by
  rw [List.map_cons] at r
  cases r with
  | cons h t=>exact .cons (kV_is h) (items_are t)
abbrev KT (H:Hp):List (List Key × V)->List (List Key × Addr × Value)->Prop:=Paired λp q=>p.1=q.1/\H q.2.1=some (.tup (p.1.map kV))/\RelV p.2 q.2.2
theorem KT.val {H:Hp} {kvs:List (List Key × V)} {xs:List (List Key × Addr × Value)} (r:KT H kvs xs) (k:List Key):RelO (valV kvs k) ((atKey xs k).map (·.2)):=by
 induction r with
 | nil=>exact True.intro
 | @cons p q ps qs h t ih =>
  obtain ⟨h1,_,h2⟩:=h
  by_cases e:p.1=k
  ·have e':q.1=k:=h1.symm.trans e
   have b:atKey (q::qs) k=some q.2:=by simp [atKey,List.find?_cons,e']
   rw [valV_pos e,b];exact h2
  ·have e':¬q.1=k:=λz=>e (h1.trans z)
   have b:atKey (q::qs) k=atKey qs k:=by simp [atKey,List.find?_cons,e']
   rw [valV_neg e,b];exact ih
theorem KT.repl {H:Hp} {kvs:List (List Key × V)} {xs:List (List Key × Addr × Value)} (r:KT H kvs xs) (k:List Key) {y:V} {u:Value} (ry:RelV y u) :
  KT H (kvs.map λkv=>if kv.1=k then (kv.1,y) else kv) (xs.map (putAt k u)):=by
 induction r with
 | nil=>exact .nil
 | @cons p q ps qs h t ih =>
  rw [List.map_cons,List.map_cons]
  refine .cons ?_ ih
  obtain ⟨h1,h2,h3⟩:=h
  unfold putAt
  by_cases e:p.1=k
  ·rw [if_pos e,if_pos (h1.symm.trans e)];exact ⟨h1,h2,ry⟩
  ·rw [if_neg e,if_neg (λz=>e (h1.trans z))];exact ⟨h1,h2,h3⟩
theorem KT.put {H:Hp} {kvs:List (List Key × V)} {xs:List (List Key × Addr × Value)} (r:KT H kvs xs) (k:List Key) {b:Addr} {y:V} {u:Value} (hb:H b=some (.tup (k.map kV))) (ry:RelV y u) :
  KT H (putK kvs k y) (storedH xs k b u):=by
 have e:(kvs.any λkv=>decide (kv.1=k))=(atKey xs k).isSome:=by
  rw [valV_any,(r.val k).isSome_eq,Option.isSome_map]
 unfold putK storedH
 rw [e]
 by_cases q:(atKey xs k).isSome=true
 ·rw [if_pos q,if_pos q];exact r.repl k ry
 ·rw [if_neg q,if_neg q];exact Paired.snoc r ⟨rfl,hb,ry⟩
theorem KT.keeps {H H':Hp} {kvs:List (List Key × V)} {xs:List (List Key × Addr × Value)} (r:KT H kvs xs) (ht:∀b ys,H b=some (.tup ys)->H' b=some (.tup ys)):KT H' kvs xs :=
 Paired.mapP r λ_ _ z=>⟨z.1,ht _ _ z.2.1,z.2.2⟩
section
variable {P:Program} {w:World} {H:Hp} {h:Heap} {a:Addr}
theorem rd_of {u:HO} (ok:HOk P w H h) (e:Rd H a u):ObjOk P w H h a u:=e.ok ok
theorem dk_rd {kvs:List (Key × V)} (ok:HOk P w H h) (e:Rd H a (.dK kvs)):kvs.length<=sizeLine/\(a == sysModules)=false/\∃vs,KV kvs vs/\h.DictOf (mixKind P w) a vs :=
 show ObjOk P w H h a (.dK kvs) from rd_of ok e
theorem dk_of {kvs:List (Key × V)} (ok:HOk P w H h) (e:H a=some (.dK kvs)):kvs.length<=sizeLine/\(a == sysModules)=false/\∃vs,KV kvs vs/\h.DictOf (mixKind P w) a vs:=dk_rd ok (.inl e)
theorem key_of {ks:List Key} (ok:HOk P w H h) (e:H a=some (.tup (ks.map kV))):(tupleKind (mixKind P w)).is h ks a:=by
 obtain ⟨_,its,r,o,h1,h2,n,h3⟩:=(show ObjOk P w H h a (.tup (ks.map kV)) from ok a _ e)
 exact ⟨o,its.toArray,n,h1,h2,h3,by simpa using items_are r⟩
theorem dt_rd {kvs:List (List Key × V)} (ok:HOk P w H h) (e:Rd H a (.dT kvs)):kvs.length<=sizeLine/\(a == sysModules)=false /\
  ∃xs,KT H kvs xs/\h.DictOfH (tupleKind (mixKind P w)) a xs:=by
 obtain ⟨z,y,xs,r,o,es,ep,h1,h2,h3,h4,h5⟩:=(show ObjOk P w H h a (.dT kvs) from rd_of ok e)
 refine ⟨z,y,xs,r,o,es,ep,h1,h2,h3,h4,λx hx=>?_,h5⟩
 have all:∀{l:List (List Key × V)} {m:List (List Key × Addr × Value)},KT H l m->∀x∈m,(tupleKind (mixKind P w)).is h x.1 x.2.1:=by
  intro l m q
  induction q with
  | nil=>intro x hx;exact nomatch hx
  | @cons p q ps qs hq t ih =>
   intro x hx
   rcases List.mem_cons.mp hx with e | hx
   ·subst e
    exact key_of ok (by rw [← hq.1];exact hq.2.1)
   ·exact ih x hx
 exact all r x hx
theorem dt_of {kvs:List (List Key × V)} (ok:HOk P w H h) (e:H a=some (.dT kvs)):kvs.length<=sizeLine/\(a == sysModules)=false /\
  ∃xs,KT H kvs xs/\h.DictOfH (tupleKind (mixKind P w)) a xs:=dt_rd ok (.inl e)
end
def DGet (H:Hp) (a:Addr) (y:V) (r:Option V):Prop :=
 (∃kvs k,Rd H a (.dK kvs)/\y=kV k/\r=valV kvs k)\/∃kvs k b,Rd H a (.dT kvs)/\y=.ref b/\H b=some (.tup (k.map kV))/\r=valV kvs k
def DPut (H:Hp) (a:Addr) (y v:V) (H':Hp):Prop :=
 (∃kvs k,H a=some (.dK kvs)/\y=kV k/\kvs.length<sizeLine/\H'=upd H a (.dK (putK kvs k v))) \/
 ∃kvs k b,H a=some (.dT kvs)/\y=.ref b/\H b=some (.tup (k.map kV))/\kvs.length<sizeLine/\H'=upd H a (.dT (putK kvs k v))
theorem DGet.k {H:Hp} {a:Addr} {kvs:List (Key × V)} {k:Key} (e:H a=some (.dK kvs)):DGet H a (kV k) (valV kvs k):=.inl ⟨kvs,k,.inl e,rfl,rfl⟩
theorem DGet.t {H:Hp} {a b:Addr} {kvs:List (List Key × V)} {k:List Key} (e:H a=some (.dT kvs)) (eb:H b=some (.tup (k.map kV))):DGet H a (.ref b) (valV kvs k):=.inr ⟨kvs,k,b,.inl e,rfl,eb,rfl⟩
theorem DPut.k {H:Hp} {a:Addr} {kvs:List (Key × V)} {k:Key} {v:V} (e:H a=some (.dK kvs)) (hl:kvs.length<sizeLine):DPut H a (kV k) v (upd H a (.dK (putK kvs k v))):=.inl ⟨kvs,k,e,rfl,hl,rfl⟩
theorem DPut.t {H:Hp} {a b:Addr} {kvs:List (List Key × V)} {k:List Key} {v:V} (e:H a=some (.dT kvs)) (eb:H b=some (.tup (k.map kV))) (hl:kvs.length<sizeLine) :
  DPut H a (.ref b) v (upd H a (.dT (putK kvs k v))):=.inr ⟨kvs,k,b,e,rfl,eb,hl,rfl⟩
section
variable {X:Cx} {pins:List (Addr × Obj)} {σ:St} {H:Hp} {s:Shared} {a:Addr} {y v:V} {u r:Value} {o:Option V} {A:Around} {E:Value->Shared->Prop}
theorem Inv.big (I:Inv X pins σ H s):sysModules<s.heap.objs.size:=by
 have h:mainGlobals<s.heap.objs.size:=(I.mod.glob.keeps I.bk).lt
 exact Nat.lt_trans (by decide) h
theorem d_getItem {Q:Value->Shared->Prop} (hu:A.units+1<cLine) (I:Inv X pins σ H s) (g:DGet H a y (some v)) (ry:RelV y u) (h:∀w' s',Inv X pins σ H s'->RelV v w'->Q w' s') :
  wpAny (model X.prog X.w) A (getItem (.ref a) u) Q E s:=by
 rcases g with ⟨kvs,k,e,ey,l⟩ | ⟨kvs,k,b,e,ey,eb,l⟩
 ·subst ey
  obtain ⟨z,hd,vs,rel,dd⟩:=dk_rd I.hok e
  obtain ⟨w',hw,rw'⟩:=RelO.some_of (v:=v) (o:=valueAt vs k) (by rw [l];exact rel.val k)
  exact wpAny_getItem_of (kV_is ry) dd.mapOf hw (h w' _ (I.tok _) rw')
 ·subst ey
  cases (show u=Value.ref b from ry)
  obtain ⟨z,hd,xs,rel,dd⟩:=dt_rd I.hok e
  obtain ⟨w',hw,rw'⟩:=RelO.some_of (v:=v) (o:=(atKey xs k).map (·.2)) (by rw [l];exact rel.val k)
  obtain ⟨p,hp,hp2⟩:=Option.map_eq_some_iff.mp hw
  refine wpAny_getItem_heap (tupleKind_room_in1 hu) (key_of I.hok eb) dd hp ?_
  rw [hp2]
  exact h w' _ (I.tok _) rw'
theorem d_in {Q:Value->Shared->Prop} (hu:A.units+1<cLine) (I:Inv X pins σ H s) (g:DGet H a y o) (ry:RelV y u) (h:∀s',Inv X pins σ H s'->Q (.bool o.isSome) s') :
  wpAny (model X.prog X.w) A (compareOp .In u (.ref a)) Q E s:=by
 rcases g with ⟨kvs,k,e,ey,l⟩ | ⟨kvs,k,b,e,ey,eb,l⟩
 ·subst ey
  obtain ⟨z,hd,vs,rel,dd⟩:=dk_rd I.hok e
  refine wpAny_in_of (kV_is ry) hd dd.mapOf ?_
  rw [← (rel.val k).isSome_eq,← l]
  exact h _ (I.tok _)
 ·subst ey
  cases (show u=Value.ref b from ry)
  obtain ⟨z,hd,xs,rel,dd⟩:=dt_rd I.hok e
  refine wpAny_in_heap (tupleKind_room_in1 hu) (key_of I.hok eb) hd dd ?_
  have q:=(rel.val k).isSome_eq
  rw [Option.isSome_map] at q
  rw [← q,← l]
  exact h _ (I.tok _)
theorem d_notIn {Q:Value->Shared->Prop} (hu:A.units+1<cLine) (I:Inv X pins σ H s) (g:DGet H a y o) (ry:RelV y u) (h:∀s',Inv X pins σ H s'->Q (.bool (!o.isSome)) s') :
  wpAny (model X.prog X.w) A (compareOp .NotIn u (.ref a)) Q E s:=by
 rcases g with ⟨kvs,k,e,ey,l⟩ | ⟨kvs,k,b,e,ey,eb,l⟩
 ·subst ey
  obtain ⟨z,hd,vs,rel,dd⟩:=dk_rd I.hok e
  refine wpAny_notIn_of (kV_is ry) hd dd.mapOf ?_
  rw [← (rel.val k).isSome_eq,← l]
  exact h _ (I.tok _)
 ·subst ey
  cases (show u=Value.ref b from ry)
  obtain ⟨z,hd,xs,rel,dd⟩:=dt_rd I.hok e
  refine wpAny_notIn_heap (tupleKind_room_in1 hu) (key_of I.hok eb) hd dd ?_
  have q:=(rel.val k).isSome_eq
  rw [Option.isSome_map] at q
  rw [← q,← l]
  exact h _ (I.tok _)
theorem d_write {h':Heap} {t':Nat} {ob:HO} (I:Inv X pins σ H s) (mu:Mut (H a)) (hs:Heap.SameBut a s.heap h') (he:∃q,h'.get? a=some q) (new:ObjOk X.prog X.w (upd H a ob) h' a ob) :
  Inv X pins σ (upd H a ob) { s with heap:=h',toks:=t' } :=
 I.write (x:=a) (e:=a) mu (.inl rfl) (λb q hb z=>(hs.2 b hb).trans z) he new
theorem dk_new {P:Program} {w:World} {H':Hp} {h':Heap} {kvs:List (Key × V)} {vs:List (Key × Value)} (z:kvs.length<=sizeLine) (hd:(a == sysModules)=false) (rel:KV kvs vs) (dd:h'.DictOf (mixKind P w) a vs) :
  ObjOk P w H' h' a (.dK kvs):=⟨z,hd,vs,rel,dd⟩
theorem d_setItem {H':Hp} {Q:Unit->Shared->Prop} (hu:A.units+1<cLine) (I:Inv X pins σ H s) (g:DPut H a y v H') (ry:RelV y u) (rv:RelV v r) (h:∀s',Inv X pins σ H' s'->Q () s') :
  wpAny (model X.prog X.w) A (setItem (.ref a) u r) Q E s:=by
 rcases g with ⟨kvs,k,e,ey,l,eH⟩ | ⟨kvs,k,b,e,ey,eb,l,eH⟩
 ·subst ey eH
  obtain ⟨z,hd,vs,rel,dd⟩:=dk_of I.hok e
  have hz:vs.length<=sizeLine:=by rw [← rel.length];exact z
  have hl:(putK kvs k v).length<=sizeLine:=by have:=length_putK kvs k v;omega
  refine wpAny_setItem_pairs (hsz:=hz) (kV_is ry) dd λh' dd' hs=>h _ ?_
  have he:∃q,h'.get? a=some q:=let ⟨q,_,_,hq,_⟩:=dd';⟨q,hq⟩
  exact d_write I (by rw [e];exact True.intro) hs he (dk_new hl hd (rel.put k rv) dd')
 ·subst ey eH
  cases (show u=Value.ref b from ry)
  obtain ⟨z,hd,xs,rel,dd⟩:=dt_of I.hok e
  have hz:xs.length<=sizeLine:=by rw [← Paired.length rel];exact z
  have hl:(putK kvs k v).length<=sizeLine:=by have:=length_putK kvs k v;omega
  refine wpAny_setItem_heap (hsz:=hz) (tupleKind_room_in1 hu) (key_of I.hok eb) dd λh' dd' hs=>h _ ?_
  obtain ⟨q,es,ep,hq,h2,h3,h4,_,h5⟩:=dd'
  refine d_write I (by rw [e];exact True.intro) hs ⟨q,hq⟩ ⟨hl,hd,_,(rel.put k eb rv).keeps λc ys ec=>?_,q,es,ep,hq,h2,h3,h4,h5⟩
  rw [upd_ne (ne_of ec e (λz=>nomatch z))]
  exact ec
end
section
variable {X:Cx} {pins:List (Addr × Obj)} {σ:St} {H:Hp} {s:Shared} {a:Addr} {kvs:List (Key × V)} {k:Key} {u:Value} {A:Around} {E:Value->Shared->Prop}
theorem d_len {Q:Value->Shared->Prop} (I:Inv X pins σ H s) (e:Rd H a (.dK kvs)) (h:∀t s',Inv X pins σ H s'->Q (.int kvs.length t) s'):wpAny (model X.prog X.w) A (call (.builtin "len") [.ref a]) Q E s:=by
 obtain ⟨z,hd,vs,rel,dd⟩:=dk_rd I.hok e
 refine call_len_dict hd dd (by rw [← rel.length];rw [sizeLine_eq] at z;omega) ?_
 rw [← rel.length]
 exact h _ _ (I.tok _)
end
theorem dict_typeIs {X:Cx} {pins:List (Addr × Obj)} {σ:St} {H:Hp} {s:Shared} {a:Addr} {y:V} {o:Option V} (I:Inv X pins σ H s) (g:DGet H a y o):s.TypeIs (.ref a) "dict":=by
 rcases g with ⟨kvs,k,e,_,_⟩ | ⟨kvs,k,b,e,_,_,_⟩
 ·obtain ⟨_,_,vs,_,dd⟩:=dk_rd I.hok e
  exact dd.typeIs
 ·obtain ⟨_,_,xs,_,dd⟩:=dt_rd I.hok e
  exact dd.typeIs
section
variable {X:Cx} {o i e value:Expr} {pos pos' tpos:Pos} {td ty tv:TE}
end
theorem dk_empty {P:Program} {w:World} {H:Hp} (h:Heap) (hb:sysModules<h.objs.size):ObjOk P w H (h.push { cls:=.type "dict",data:=.dict #[] }) h.objs.size (.dK []) :=
 ⟨Nat.zero_le _,beq_eq_false_iff_ne.mpr (Ne.symm (Nat.ne_of_lt hb)),[],.nil,Heap.DictOf.new h⟩
theorem dt_empty {P:Program} {w:World} {H:Hp} (h:Heap) (hb:sysModules<h.objs.size):ObjOk P w H (h.push { cls:=.type "dict",data:=.dict #[] }) h.objs.size (.dT []) :=
 ⟨Nat.zero_le _,beq_eq_false_iff_ne.mpr (Ne.symm (Nat.ne_of_lt hb)),[],.nil,_,#[],0,Heap.get?_push_size _ rfl,⟨rfl,rfl,rfl⟩,rfl,rfl,List.nodup_nil⟩
def tDNewK:TE:=λ_ H Q=>∀p,H p=none->Q (.ref p) (upd H p (.dK []))
def tDNewT:TE:=λ_ H Q=>∀p,H p=none->Q (.ref p) (upd H p (.dT []))
section
variable {X:Cx} {pos:Pos}
theorem pe_dnewK:PE X (.Dict [] [] pos) tDNewK:=λpins s σ H Q I h =>
 wpAny_Dict_empty ⟨.ref s.heap.objs.size,_,I.laid (a:=s.heap.objs.size) (o:=.dK []) (t':=s.toks) (λ_ _ q=>Heap.get?_push_of_some _ q) (Nat.le_refl _) (dk_empty s.heap I.big),rfl,h _ (I.hok.fresh (Nat.le_refl _))⟩
theorem pe_dnewT:PE X (.Dict [] [] pos) tDNewT:=λpins s σ H Q I h =>
 wpAny_Dict_empty ⟨.ref s.heap.objs.size,_,I.laid (a:=s.heap.objs.size) (o:=.dT []) (t':=s.toks) (λ_ _ q=>Heap.get?_push_of_some _ q) (Nat.le_refl _) (dt_empty s.heap I.big),rfl,h _ (I.hok.fresh (Nat.le_refl _))⟩
end
section
variable {X:Cx} {pins:List (Addr × Obj)} {σ:St} {H:Hp} {s:Shared} {a:Addr} {y d:V} {u r:Value} {o:Option V} {A:Around} {E:Value->Shared->Prop}
end
section
variable {X:Cx} {o e f:Expr} {apos cpos:Pos} {td ty tx:TE}
end
section
variable {X:Cx} {pins:List (Addr × Obj)} {σ:St} {H:Hp} {s:Shared} {a:Addr} {kvs:List (Key × V)} {A:Around} {E:Value->Shared->Prop}
end
section
variable {X:Cx} {pins:List (Addr × Obj)} {σ:St} {H:Hp} {s:Shared} {a:Addr} {y:V} {u:Value} {A:Around} {E:Value->Shared->Prop}
end
end L2
namespace Att
open PySem PySem.W PySem.Calls PyProof.Rows
theorem ints_of_wellAll {P:Params} {h:Heap}:∀(ns:List Int) (vs:List Value),WellAll P h vs (ns.map WData.int)->IntsAre vs ns:=by
 intro ns
 induction ns with
 | nil =>
  intro vs w
  rw [List.map_nil] at w
  cases w
  exact .nil
 | cons n ns ih =>
  intro vs w
  rw [List.map_cons] at w
  cases w with
  | cons a b =>
   cases a
   exact .cons _ _ (ih _ b)
theorem script_of {l:OpenLaw} {n:Nat} (hn:l.most=some n) {P:Params} {h:Heap} {args:List WData} {vals:List Value}
  (hpre:l.row.toRowW.claim.pre args=true) (hwl:WellAll P h vals args) :
  ∃a vs ns,vals=[Value.ref a]/\args=[WData.list (ns.map WData.int)]/\h.get? a=some { cls:=.type "list",data:=.seq vs.toArray }/\IntsAre vs ns/\ns.length<=n:=by
 have hsh:WShape.hasAll [] args [.list .int]=true:=(pre_splitW hpre).1
 have hc:l.pre.holds [] { args:=args }=true:=(pre_splitW hpre).2
 obtain ⟨d,r,rfl,h1,h2⟩:=hasAllW_cons hsh
 obtain rfl:=hasAllW_nil h2
 obtain ⟨xs,rfl,h3⟩:=hasW_list h1
 obtain ⟨ns,rfl⟩:=items_int h3
 have hlen:ns.length<=n:=by
  unfold OpenLaw.pre at hc
  have h4:(WTm.not (.lt (.lit (.int (n:Int))) (.len (.arg 0)))).holds [] { args:=[.list (ns.map .int)] }=true:=by
   have h4:=(holds_andW hc).1
   rw [hn] at h4
   exact h4
  have h5:=condW_of h4 (w_not (w_lt w_lit (w_len_list (w_arg rfl))))
  rw [List.length_map] at h5
  refine Nat.le_of_not_lt λq=>?_
  have q':(n:Int)<((ns.length:Nat):Int):=by omega
  first
   | (rw [decide_eq_true q'] at h5;exact absurd h5 (by decide))
   | (simp at h5;omega)
 cases hwl with
 | cons w1 w2 =>
  cases w2
  cases w1 with
  | list ho hall=>exact ⟨_,_,ns,rfl,rfl,ho,ints_of_wellAll ns _ hall,hlen⟩
theorem post_true (l:OpenLaw) (args:List WData):l.row.toRowW.claim.post args (.bool true) args=true :=
 postW_of (r:=l.row.toRowW) (X:=(true == true))
  (show WShape.has [] (.bool true) .bool=true by first | rfl | decide | simp [WShape.has,WShape.arms,WShape.armsAll])
  (show (WTm.eq .res (.lit (.bool true))).value [] { args:=args,res:=some (.bool true),after:=args }=some (.bool (true == true)) from w_eq_bool (w_res rfl) w_lit) rfl
theorem attach_call {l:OpenLaw} {n:Nat} {q:Program} {loose:List Str} {XP:(Str->Option Value)->Heap->Prop} {YP:World->Heap->Prop} {d:DefRec}
  (hn:l.most=some n) (hdf:d.params.defaults=[])
  (call:∀(w:World) (s₀ s₁:Shared) (mg mb:Str->Option Value) (fa:Addr) (o:Obj) (pm cd doc:Value) (a:Addr) (vs:List Value) (ns:List Int),
   Ground q loose [] XP w s₀ mg mb s₁.heap->YP w s₁.heap ->
   s₁.heap.get? fa=some o->o.data=.func (docDef d.name d.params d.body d.scope pm cd doc)->s₁.heap.CodeRec cd d.name->mg d.name=some (.ref fa) ->
   s₁.heap.get? a=some { cls:=.type "list",data:=.seq vs.toArray }->IntsAre vs ns->ns.length<=n->s₁.gens = #[] ->
   codeAny (model l.prog w) callerA (.call (.ref fa) ⟨[.ref a],[]⟩) (λr s'=>r=.ok (.ret (.bool true))/\OldK s₁.heap s'.heap/\s'.os=s₁.os/\AllBare s'.gens) s₁) :
  WalkO q loose XP YP l.row.toRowW d [] (λf vs=>PySem.call f vs):=by
 intro w s₀ s₁ mg mb G Y fa o pm cd doc dV kV ho hd hcd hD hmg hg args vals as hpre hlay hrd hwl hlo
 obtain rfl:dV=.none:=Dflts.none hD hdf
 obtain rfl:kV=.none:=Dflts.noKw hD
 obtain ⟨a,vs,ns,rfl,rfl,hobj,hints,hlen⟩:=script_of hn hpre hwl
 refine enter_call (codeAny_mono (call w s₀ s₁ mg mb fa o pm cd doc a vs ns G Y ho (fd_plain hd) hcd hmg hobj hints hlen hg) λr s' hq=>?_)
 obtain ⟨rfl,h2,h3,h4⟩:=hq
 exact ⟨.inl ⟨.bool true,.bool true,[],rfl,λ_=>rfl,.bool true,post_true l _,λ_=>⟨List.Pairwise.nil,λ_ hm=>(nomatch hm)⟩⟩,h2,h3,h4⟩
section
variable {prog:Program} {w:World} {A:Around} {E:Value->Shared->Prop} {s:Shared} {K:Frag}
end
end Att
namespace L2
open PySem PySem.Spec PyProof.Rows
theorem vals_ints:∀{vs:List Value} {ns:List Int},IntsAre vs ns->Vals (ns.map V.int) vs
 | _,_,.nil=>.nil
 | _,_,.cons n t h=>.cons ⟨t,rfl⟩ (vals_ints h)
def Only (H:Hp):Prop:=∀b,H b=none\/∃o xs,H b=some (.frz o (.lst xs))
theorem law_call {P:Program} {w:World} {K:PySem.W.Frag} {mg mb:Str->Option Value} {CX:CXT} {k:Nat} {fa a:Addr} {fd:FuncData} {x:Str} {sp:Sp} {s₁:Shared} {vs:List Value} {ns:List Int}
  (KX:K.In s₁.heap) (hns:s₁.heap.Ns mainGlobals mg) (hb:s₁.heap.Ns builtinsNs mb) (hbb:∀x:Str,x ≠ "__name__" -> mb x=bootBuiltins x) (hlim:s₁.heap.NoLimit) (hg:s₁.gens = #[])
  (ha:s₁.heap.get? a=some { cls:=.type "list",data:=.seq vs.toArray }) (hi:IntsAre vs ns) (hl:ns.length<=sizeLine) (hr:Room k callerA)
  (F:∀base:Heap,K.In base->base.Ns mainGlobals mg->FnOk P w K mg base CX k fa fd [x] sp) (hbind:∀(s:Shared) (u:Value),BindsTo s fd ⟨[u],[]⟩ [(x,u)])
  (hsp:∀H:Hp,Only H->SqL K H a (ns.map V.int)->sp [.ref a] H (λv _=>v=.bl true) λ_ _ _=>False)
  (hCX:∀H e s',CX [] H s₁ (λ_ _ _=>False) e s'->False) :
  codeAny (model P w) callerA (.call (.ref fa) ⟨[.ref a],[]⟩) (λr s'=>r=.ok (.ret (.bool true))/\OldK s₁.heap s'.heap/\s'.os=s₁.os/\AllBare s'.gens) s₁:=by
 have rv:=vals_ints hi
 have lenV:=hi.length
 -- from an abstract heap in which nothing but the script may be tracked
 have core:∀H:Hp,Only H->SqL K H a (ns.map V.int)->HOk P w H s₁.heap->(∀b,H b≠none->b=a)->(H a≠none->K.lookup a=none) ->
   codeAny (model P w) callerA (.call (.ref fa) ⟨[.ref a],[]⟩) (λr s'=>r=.ok (.ret (.bool true))/\OldK s₁.heap s'.heap/\s'.os=s₁.os/\AllBare s'.gens) s₁:=by
  intro H hO hS hok hA hK
  have base_of:∀{b:Addr} {o:Obj},s₁.heap.get? b=some o->H b=none->(hidT s₁.heap H).get? b=some o:=λe n=>hidT_get e n
  have noA:∀{b:Addr} {o:Obj} {es:Array DictEntry} {ep:Nat},s₁.heap.get? b=some o->o.data=.dict es ep->H b=none:=λ{b o es ep} e d=>by
   cases q:H b with
   | none=>rfl
   | some u =>
    have e':b=a:=hA b (by rw [q];simp)
    subst e'
    rw [ha] at e;cases e
    have d':Data.seq vs.toArray _=Data.dict es ep:=d
    cases d'
  have nsK:∀{b:Addr} {m:Str->Option Value},s₁.heap.Ns b m->(hidT s₁.heap H).Ns b m:=λ{b m} ⟨o,es,ep,e,d,r⟩=>⟨o,es,ep,base_of e (noA e d),d,r⟩
  have hKb:K.In (hidT s₁.heap H):=λb o e=>base_of (KX b o e) (by
   cases q:H b with
   | none=>rfl
   | some u =>
    have e':b=a:=hA b (by rw [q];simp)
    subst e'
    rw [hK (by rw [q];simp)] at e;cases e)
  have hM:Mod K mg (hidT s₁.heap H):=⟨hKb,nsK hns,⟨mb,nsK hb,hbb⟩,let ⟨mc,h1,h2⟩:=hlim;⟨mc,nsK h1,h2⟩⟩
  have e0:Env0 P w K mg (hidT s₁.heap H) callerA [] s₁ H:=⟨rfl,hM,λb o e=>of_hidT e,Nat.le_of_eq (hidT_size _ _),trivial,λb hb=>absurd (show b∈([]:List Addr) from hb) (by simp),hok,.of_eq hg⟩
  refine codeAny_mono ((F _ hKb (nsK hns)).run callerA [] s₁ H ⟨[.ref a],[]⟩ [.ref a] [.ref a] _ _ hr e0 (hbind s₁ (.ref a)) (.cons rfl .nil) (hsp H hO hS)) λr s' h=>?_
  cases r with
  | error e=>exact (hCX H e s' h).elim
  | ok fl =>
   cases fl with
   | next=>exact False.elim h
   | brk=>exact False.elim h
   | cont=>exact False.elim h
   | ret u =>
    obtain ⟨v,H',os,bare,un,hok',r',q⟩:=h
    have q':v=.bl true:=q
    subst q'
    obtain rfl:u=Value.bool true:=r'
    refine ⟨rfl,OldK.of_keep λb o e=>?_,os,bare⟩
    cases q:H b with
    | none=>exact un.keep b o e q (by intro z;exact absurd (show b∈([]:List Addr) from z) (by simp)) (by simp)
    | some u =>
     rcases hO b with z | ⟨ob,xs,z⟩
     ·rw [q] at z;cases z
     ·have z2:=un.frzs b ob _ z
      obtain ⟨e1,_⟩:=hok b _ z
      obtain ⟨e2,_⟩:=hok' b _ z2
      rw [e] at e1;cases e1
      exact e2
 cases hk:K.lookup a with
 | some o =>
  -- the script is one of the module's own objects
  have e:=KX a o hk
  rw [ha] at e
  cases e
  refine core (λ_=>none) (λ_=>.inl rfl) (.inr ⟨_,vs.toArray,_,hk,rfl,rfl,rfl,by rw [List.size_toArray,lenV];exact hl,by simpa using rv⟩) (λb u z=>by have z':(none:Option HO)=some u:=z;cases z') (λb z=>absurd rfl z) λz=>absurd rfl z
 | none =>
  refine core (λb=>if b=a then some (.frz { cls:=.type "list",data:=.seq vs.toArray } (.lst (ns.map V.int))) else none) (λb=>?_) (.inl (.inr ⟨{ cls:=.type "list",data:=.seq vs.toArray },if_pos rfl⟩)) (λb u z=>?_) (λb z=>?_) λ_=>hk
  ·by_cases hb:b=a
   ·exact .inr ⟨_,_,if_pos hb⟩
   ·exact .inl (if_neg hb)
  ·by_cases hb:b=a
   ·have z':=(if_pos hb).symm.trans z
    cases z'
    subst hb
    exact ⟨ha,by rw [List.length_map];exact hl,vs,_,rv,ha⟩
   ·have z':=(if_neg hb).symm.trans z
    cases z'
  ·by_cases hb:b=a
   ·exact hb
   ·exact absurd (if_neg hb) z
end L2
namespace L2
open PySem PySem.Spec PyProof.Rows
theorem walk_of {l:PySem.W.OpenLaw} {n k:Nat} {q:Program} {loose:List Str} {XP:(Str->Option Value)->Heap->Prop} {YP:World->Heap->Prop} {d:DefRec} {K:Params->PySem.W.Frag} {CX:World->CXT} {sp:World->Sp} {x:Str}
  (hn:l.most=some n) (hn2:n<=sizeLine) (hdf:d.params.defaults=[]) (hr:Room k callerA)
  (hY:∀(w:World) (h:Heap),YP w h->(K w.params).In h)
  (F:∀(w:World) (mg:Str->Option Value) (fa:Addr) (h:Heap),(K w.params).In h->h.Ns mainGlobals mg->mg d.name=some (.ref fa) ->
   ∃fd:FuncData,(∀(s:Shared) (u:Value),BindsTo s fd ⟨[u],[]⟩ [(x,u)]) /\
    ∀base:Heap,(K w.params).In base->base.Ns mainGlobals mg->FnOk l.prog w (K w.params) mg base (CX w) k fa fd [x] (sp w))
  (hsp:∀(w:World) (H:Hp) (a:Addr) (ns:List Int),ns.length<=n->Only H->SqL (K w.params) H a (ns.map V.int)->sp w [.ref a] H (λv _=>v=.bl true) λ_ _ _=>False)
  (hCX:∀(w:World) (H:Hp) (s:Shared) (e:Value) (s':Shared),CX w [] H s (λ_ _ _=>False) e s'->False) :
  PySem.W.WalkO q loose XP YP l.row.toRowW d [] (λf vs=>PySem.call f vs):=by
 refine Att.attach_call hn hdf λw s₀ s₁ mg mb fa o pm cd doc a vs ns G Y ho hd hcd hmg hobj hints hlen hg=>?_
 have KX:=hY w _ Y
 obtain ⟨fd,hb,hF⟩:=F w mg fa _ KX G.T.g hmg
 exact law_call KX G.T.g G.T.b G.T.builtins G.T.nolimit hg hobj hints (Nat.le_trans hlen hn2) hr hF hb (λH hO hS=>hsp w H a ns hlen hO hS) λH e s'=>hCX w H s₁ e s'
end L2
namespace L2
open PySem PySem.Spec PyProof.Rows
def defArgs (s:Stmt):Arguments:=match s with
 | .FunctionDef _ a _ _ _ _ _ _ _ _=>a
 | _=>{ posonlyargs:=[],args:=[],vararg:=none,kwonlyargs:=[],kw_defaults:=[],kwarg:=none,defaults:=[] }
def defBody (s:Stmt):List Stmt:=match s with
 | .FunctionDef _ _ b _ _ _ _ _ _ _=>b
 | _=>[]
def defScope (s:Stmt):Scope:=match s with
 | .FunctionDef _ _ _ _ _ _ sc _ _ _=>sc
 | _=>{ kind:=.function,names:=[],isGenerator:=false,isCoroutine:=false }
abbrev CX0:CXT:=λ_ _ _ _ _ _=>False
abbrev E0:XK:=λ_ _ _=>False
theorem pass0 {X:Cx}:Passes CX0 X E0:=λ_ _ _ _ _ _ _ h=>h.elim
structure Fun (K:PySem.W.Frag) (x qual:Str) (st:Stmt) (f:Addr) (fd:FuncData):Prop where
 ex:∃(oc:Value) (od:Option Addr) (kV doc pm:Value) (an:Option Addr) (cdv ct:Value) (osl:Array (Option Value)),
  fd=PySem.W.fnOf x qual (defArgs st) (defBody st) (defScope st) .none kV doc pm an cdv ct/\K.lookup f=some ⟨oc,od,.func fd,osl⟩/\PySem.W.codeIn K cdv qual=true
 kp:PySem.W.keepIn K (.ref f)=true
section
variable {P:Program} {w:World} {K:PySem.W.Frag} {mg:Str->Option Value} {base:Heap}
theorem Fun.ok {x qual:Str} {st:Stmt} {f:Addr} {fd:FuncData} {N ps:List Str} {k:Nat} {sp:Sp} (F:Fun K x qual st f fd) (S:FnScope N ps (defScope st)) (len:∀vs H Q E,sp vs H Q E->vs.length=ps.length)
  (hbody:∀(cdv:Value) (A:Around) (outer:List Env) (s:Shared) (H:Hp) (vs:List V) (Q:VK) (E:XK),Room k (A.deeper (envOfC qual (defScope st) s.heap.objs.size f cdv))->sp vs H Q E ->
   ∃t,PSs (cxOf CX0 P w K mg base N qual (defScope st) f cdv A outer s H E).nox (defBody st) t/\t { nx:=λ_ H'=>Q .non H',rt:=Q } (start N vs) H):FnOk P w K mg base CX0 (k+1) f fd ps sp:=by
 obtain ⟨oc,od,kV,doc,pm,an,cdv,ct,osl,rfl,lk,hcd⟩:=F.ex
 refine fn_of lk hcd S len λA outer s H vs Q E hr hsp=>?_
 obtain ⟨t,h,q⟩:=hbody cdv A outer s H vs Q E hr hsp
 exact ⟨t,h.nox,q⟩
theorem Fun.binds {x qual:Str} {st:Stmt} {f:Addr} {fd:FuncData} {ps:List Str} (F:Fun K x qual st f fd)
  (h:∀(kV doc pm:Value) (an:Option Addr) (cdv ct:Value) (us:List Value),us.length=ps.length->bindArgs (PySem.W.fnOf x qual (defArgs st) (defBody st) (defScope st) .none kV doc pm an cdv ct) ⟨us,[]⟩=pure (ps.zip us)):Binds K fd ps []:=by
 obtain ⟨oc,od,kV,doc,pm,an,cdv,ct,osl,rfl,lk,hcd⟩:=F.ex
 exact .all (h kV doc pm an cdv ct)
theorem fun_mk {x qual:Str} {st:Stmt} {f:Addr} {oc:Value} {od an:Option Addr} {osl:Array (Option Value)} {kV doc pm cdv ct:Value} (l:K.lookup f=some ⟨oc,od,.func (PySem.W.fnOf x qual (defArgs st) (defBody st) (defScope st) .none kV doc pm an cdv ct),osl⟩)
  (c:PySem.W.codeIn K cdv qual=true) (k:PySem.W.keepIn K (.ref f)=true):Fun K x qual st f (PySem.W.fnOf x qual (defArgs st) (defBody st) (defScope st) .none kV doc pm an cdv ct):=⟨⟨oc,od,kV,doc,pm,an,cdv,ct,osl,rfl,l,c⟩,k⟩
end
theorem hu_of {A:Around} {k:Nat} (hr:Room k A):A.units+1<cLine:=Nat.lt_of_le_of_lt (Nat.add_le_add_left (by decide:1<=64) _) hr.units
section
variable {X:Cx}
theorem pv (i:Nat) {x:Str} {pos:Pos} (hN:X.N[i]? = some x:=by rfl) (hv:Vis X.env.scope x:=by first | exact Or.inl rfl | exact Or.inr (Or.inl rfl) | exact Or.inr (Or.inr rfl)) (hd:(x == ("__debug__" : Str))=false:=by decide)
  (hcd:(x == ("__classdict__" : Str))=false:=by decide):PE X (.Name x pos) (tVar i):=pe_var hN hv hd hcd
theorem call_lenD:CallR X (.builtin "len") (λxs H Q=>∃a kvs,xs=[V.ref a]/\H a=some (.dK kvs)/\Q (.int kvs.length) H):=by
 intro pins s σ H xs us Q I r h
 obtain ⟨a,kvs,rfl,ha,q⟩:=h
 obtain ⟨u,rfl,ru⟩:=vals1 r
 cases ru
 exact d_len I (.inl ha) λt s' I'=>⟨.int kvs.length,H,I',⟨t,rfl⟩,q⟩
end
def Same (H H':Hp):Prop:=∀b o,H b=some o->H' b=some o
theorem Same.refl (H:Hp):Same H H:=λ_ _ h=>h
theorem Same.trans {H H1 H2:Hp} (a:Same H H1) (b:Same H1 H2):Same H H2:=λc o h=>b c o (a c o h)
theorem Same.free {H H':Hp} (e:Same H H') {l:Addr} (h:H' l=Option.none):H l=Option.none:=by
 cases q:H l with
 | none=>rfl
 | some o =>
  rw [e l o q] at h
  cases h
theorem Same.seq {K:PySem.W.Frag} {H H':Hp} {a:Addr} {xs:List V} (e:Same H H') (h:SqL K H a xs):SqL K H' a xs:=by
 rcases h with (h | ⟨o,h⟩) | h
 ·exact .inl (.inl (e _ _ h))
 ·exact .inl (.inr ⟨o,e _ _ h⟩)
 ·exact .inr h
section
variable {κ:Type} [DecidableEq κ]
end
end L2
set_option maxHeartbeats 4000000
namespace L2
open PySem PySem.Spec PyProof.Rows
theorem closure_run {env:Env}:∀(names:List (Str × NameKind)) (acc:List (Str × Addr)),
  (∀x∈names,x.2=.free->∃c,env.cells.lookup x.1=some c)->(∀y c,acc.lookup y=some c->env.cells.lookup y=some c) ->
  ∃cl:List (Str × Addr),(forIn names acc (λ(x:Str × NameKind) (cs:List (Str × Addr)) =>
    if (x.2 == NameKind.free)=true then do
     let c ← cellOf env x.1
     pure (ForInStep.yield ((x.1,c)::cs))
    else pure (ForInStep.yield cs)):Sem (List (Str × Addr)))=pure cl /\
   (∀y c,cl.lookup y=some c->env.cells.lookup y=some c)/\(∀y,(acc.lookup y).isSome=true->(cl.lookup y).isSome=true) /\
   ∀x∈names,x.2=.free->(cl.lookup x.1).isSome=true
 | [],acc,_,ha=>⟨acc,by rw [List.forIn_nil],ha,λ_ h=>h,λ_ h=>nomatch h⟩
 | (n,k)::r,acc,hn,ha=>by
  rw [List.forIn_cons]
  by_cases hk:k=.free
  ·subst hk
   obtain ⟨c,hc⟩:=hn (n,.free) List.mem_cons_self rfl
   have hc':env.cells.lookup n=some c:=hc
   obtain ⟨cl,e,h1,h2,h3⟩:=closure_run r ((n,c)::acc) (λx hx=>hn x (List.mem_cons_of_mem _ hx)) (λy c' h=>by
    rw [List.lookup_cons] at h
    cases q:y == n with
    | true=>rw [q] at h;cases h;rw [beq_iff_eq.mp q];exact hc'
    | false=>rw [q] at h;exact ha y c' h)
   refine ⟨cl,?_,h1,λy hy=>h2 y ?_,λx hx hf=>?_⟩
   ·have e0:cellOf env n=pure c:=by unfold cellOf;rw [hc']
    show ((if ((NameKind.free == NameKind.free)=true) then (cellOf env n >>= λc=>pure (ForInStep.yield ((n,c)::acc))) else pure (ForInStep.yield acc)) >>= _)=_
    rw [if_pos (by decide),e0]
    exact e
   ·rw [List.lookup_cons]
    cases q:y == n with
    | true=>rfl
    | false=>exact hy
   ·rcases List.mem_cons.mp hx with rfl | hx
    ·exact h2 n (by simp [List.lookup_cons])
    ·exact h3 x hx hf
  ·obtain ⟨cl,e,h1,h2,h3⟩:=closure_run r acc (λx hx=>hn x (List.mem_cons_of_mem _ hx)) ha
   refine ⟨cl,?_,h1,h2,λx hx hf=>?_⟩
   ·show ((if ((k == NameKind.free)=true) then (cellOf env n >>= λc=>pure (ForInStep.yield ((n,c)::acc))) else pure (ForInStep.yield acc)) >>= _)=_
    rw [if_neg (by simpa using hk)]
    exact e
   ·rcases List.mem_cons.mp hx with rfl | hx
    ·exact absurd hf hk
    ·exact h3 x hx hf
theorem closure_for {env:Env} {scope:Scope} (h:∀x∈scope.names,x.2=.free->∃c,env.cells.lookup x.1=some c) :
  ∃cl,closureFor scope env=pure cl/\(∀y c,cl.lookup y=some c->env.cells.lookup y=some c)/\∀x∈scope.names,x.2=.free->∃c,cl.lookup x.1=some c:=by
 obtain ⟨cl,e,h1,_,h3⟩:=closure_run scope.names [] h (λy c q=>by simp at q)
 refine ⟨cl,?_,h1,λx hx hf=>Option.isSome_iff_exists.mp (h3 x hx hf)⟩
 simp only [closureFor]
 show (forIn scope.names [] _ >>= λr=>pure r)=_
 rw [e]
 rfl
theorem lookup_relabel_free {env:Env} {x:Str}:∀{names:List (Str × NameKind)},names.lookup x=some .free ->
  (names.map λ(n,k)=>if (k == NameKind.free && env.scope.kind == .function && env.kindOf n == some .cell) then (n,NameKind.cell) else (n,k)).lookup x=some .cell \/
  (names.map λ(n,k)=>if (k == NameKind.free && env.scope.kind == .function && env.kindOf n == some .cell) then (n,NameKind.cell) else (n,k)).lookup x=some .free
 | [],h=>by simp at h
 | (n,k)::r,h=>by
  have ih:=@lookup_relabel_free env x r
  show List.lookup x ((if (k == NameKind.free && env.scope.kind == .function && env.kindOf n == some .cell)=true then (n,NameKind.cell) else (n,k))::_)=_\/List.lookup x ((if (k == NameKind.free && env.scope.kind == .function && env.kindOf n == some .cell)=true then (n,NameKind.cell) else (n,k))::_)=_
  cases hx:x == n with
  | true =>
   simp only [List.lookup_cons,hx] at h
   cases h
   by_cases hc:(NameKind.free == NameKind.free && env.scope.kind == .function && env.kindOf n == some .cell)=true
   ·rw [if_pos hc];left;simp only [List.lookup_cons,hx]
   ·rw [if_neg hc];right;simp only [List.lookup_cons,hx]
  | false =>
   simp only [List.lookup_cons,hx] at h
   by_cases hc:(k == NameKind.free && env.scope.kind == .function && env.kindOf n == some .cell)=true
   ·rw [if_pos hc];simp only [List.lookup_cons,hx];exact ih h
   ·rw [if_neg hc];simp only [List.lookup_cons,hx];exact ih h
theorem relabel_back {env:Env} {x:Str} {q:NameKind}:∀{names:List (Str × NameKind)},(∀y∈names,y.2 ≠ .cell)->q=.cell\/q=.free ->
  (names.map λ(n,k)=>if (k == NameKind.free && env.scope.kind == .function && env.kindOf n == some .cell) then (n,NameKind.cell) else (n,k)).lookup x=some q->(x,NameKind.free)∈names
 | [],_,_,h=>by simp at h
 | (n,k)::r,hn,hq,h=>by
  have h:List.lookup x ((if (k == NameKind.free && env.scope.kind == .function && env.kindOf n == some .cell)=true then (n,NameKind.cell) else (n,k))::(r.map λ(n,k)=>if (k == NameKind.free && env.scope.kind == .function && env.kindOf n == some .cell) then (n,NameKind.cell) else (n,k)))=some q:=h
  by_cases hc:(k == NameKind.free && env.scope.kind == .function && env.kindOf n == some .cell)=true
  ·rw [if_pos hc] at h
   cases hx:x == n with
   | true =>
    have hk:k=.free:=by
     cases k <;> first | rfl | (simp at hc)
    rw [beq_iff_eq.mp hx,hk]
    exact List.mem_cons_self
   | false =>
    simp only [List.lookup_cons,hx] at h
    exact List.mem_cons_of_mem _ (relabel_back (λy hy=>hn y (List.mem_cons_of_mem _ hy)) hq h)
  ·rw [if_neg hc] at h
   cases hx:x == n with
   | true =>
    simp only [List.lookup_cons,hx] at h
    have hk:k=q:=Option.some.inj h
    have hk2:k=.free:=by
     rcases hq with rfl | rfl
     ·exact absurd hk (hn (n,k) List.mem_cons_self)
     ·exact hk
    rw [beq_iff_eq.mp hx,hk2]
    exact List.mem_cons_self
   | false =>
    simp only [List.lookup_cons,hx] at h
    exact List.mem_cons_of_mem _ (relabel_back (λy hy=>hn y (List.mem_cons_of_mem _ hy)) hq h)
def cxBlk (X:Cx) (scope:Scope) (cl:List (Str × Addr)) (C:Addr) (N:List Str) (s₀:Shared) (H₀:Hp) (fp:List Addr):Cx :=
 { X with N:=N,s₀:=s₀,H₀:=H₀,env:=compEnvC scope cl C X.env,outer:=X.stack,stack:=X.stack,ex:=fp,fn:=λ_=>false,pn:=[],xe:=λ_ _=>False }
structure BlkScope (env:Env) (scope:Scope) (x:Str):Prop where
 kind:scope.kind=.function
 cells:∀y∈scope.names,y.2 ≠ .cell
 names:∀y∈scope.names,y.2=.local->scope.names.lookup y.1=some .local
 lx:scope.names.lookup x=some .local
 free:∀y∈scope.names,y.2=.free->env.kindOf y.1=some .cell\/env.kindOf y.1=some .free
def bN (N:List Str) (x:Str) (ix:List Nat):List Str:=x::ix.map λi=>N.getD i Str.empty
def bS (σ:St) (o:Option V) (ix:List Nat):St:=o::ix.map λi=>(σ[i]?).getD none
def PIfs (X:Cx) (ifs:List Expr) (tt:TT):Prop :=
 ∀(pins:List (Addr × Obj)) (s:Shared) (σ:St) (H:Hp) (Q:Bool->Hp->Prop),Inv X pins σ H s->tt σ H Q ->
  wpAny (model X.prog X.w) X.A (forIn ifs true λc r=>if r=true then do let ok ← isTrue c X.env (eval c X.env);pure (ForInStep.yield ok) else pure (ForInStep.yield r)) (TP X pins σ Q) X.xe s
def tAll:TT:=λ_ H Q=>Q true H
theorem pifs_nil {X:Cx}:PIfs X [] tAll:=by
 intro pins s σ H Q I h
 rw [List.forIn_nil]
 exact wpAny_pure ⟨H,I,h⟩
theorem pifs_one {X:Cx} {c:Expr} {tt:TT} (h:PT X c tt):PIfs X [c] tt:=by
 intro pins s σ H Q I hw
 rw [List.forIn_cons]
 refine wpAny_bind ?_
 rw [if_pos rfl]
 refine wpAny_bind (thn (h pins s σ H _ I hw) λok s1 q=>wpAny_pure ?_)
 show wpAny _ _ (forIn [] ok _) _ _ s1
 rw [List.forIn_nil]
 exact wpAny_pure q
section
variable {X:Cx}
theorem blk_ok {pins:List (Addr × Obj)} {σ:St} {H:Hp} {s:Shared} {scope:Scope} {cl:List (Str × Addr)} {C:Addr} {N:List Str} {fp:List Addr} {x:Str} (I:Inv X pins σ H s) (B:BlkScope X.env scope x)
  (h1:∀y c,cl.lookup y=some c->X.env.cells.lookup y=some c) (h3:∀y∈scope.names,y.2=.free->∃c,cl.lookup y.1=some c) (hC:s.heap.objs.size<=C) (hf:∀b∈fp,FpOk X pins H b) (hl:∀b∈fp,b<s.heap.objs.size) :
  (cxBlk X scope cl C N s H fp).Ok where
 mod:=I.ok.mod
 kind:=by show (relabel scope X.env).kind=_;exact B.kind
 glob:=I.ok.glob
 blt:=I.ok.blt
 above:=hC
 inj:=λy z c q r=>I.ok.inj y z c (h1 y c q) (h1 z c r)
 has:=λy hy=>by
  have hy:(relabel scope X.env).names.lookup y=some .cell\/(relabel scope X.env).names.lookup y=some .free:=hy
  have m:(y,NameKind.free)∈scope.names:=by
   rcases hy with q | q
   ·exact relabel_back B.cells (.inl rfl) q
   ·exact relabel_back B.cells (.inr rfl) q
  exact h3 _ m rfl
 cab:=λy c q=>by cases (show false=true from q)
 hd:=I.ok.hd
 frames:=I.ok.frames
 stk:=.inl rfl
 exf:=λb hb=>⟨Nat.ne_of_lt (Nat.lt_of_lt_of_le (hl b hb) hC),λy c q=>(hf b hb).2.2.2.2.1 y c (h1 y c q)⟩
 bs:=I.bs
 bsz:=Nat.le_trans I.ok.bsz I.sz
 noex:=λb o e hb=>by
  rcases (hf b hb).2.2.2.1 with z | z
  ·exact I.ok.noex b o e z
  ·exact absurd (Nat.lt_of_lt_of_le (Heap.lt_size e) (Nat.le_trans I.ok.bsz z)) (Nat.lt_irrefl _)
 exfs:=λb hb z=>by
  have z':=I.stkSub b z
  rcases List.mem_cons.mp z' with q | q
  ·exact (hf b hb).2.1 q
  ·exact (hf b hb).2.2.1 q
 funs:=I.stack
 frf:=I.stkFree
theorem HOk.add {P:Program} {w:World} {H:Hp} {h:Heap} {a:Addr} {o:HO} (x:HOk P w H h) (hn:H a=none) (new:ObjOk P w (upd H a o) h a o):HOk P w (upd H a o) h:=λb u e=>by
 by_cases hb:b=a
 ·subst hb;rw [upd_same] at e;cases e;exact new
 ·rw [upd_ne hb] at e
  exact (x b u e).stay (λc v _ q=>q) (λc q=>by rw [upd_ne (ne_of_none q hn)];exact q) (λc xs q=>by rw [upd_ne (ne_of_none q hn)];exact q) λc _ _ _ q _=>by rw [upd_ne (ne_of_none q hn)];exact q
theorem Un.add {fs ex:List Addr} {H H':Hp} {h h':Heap} {a:Addr} {o:HO} (u:Un fs ex H H' h h') (hn:h.get? a=none) (hH:H a=none):Un fs ex H (upd H' a o) h h' where
 keep:=u.keep
 slot:=u.slot
 free:=λb ob e n hx=>by
  have:b≠a:=λz=>by rw [z,hn] at e;cases e
  rw [upd_ne this];exact u.free b ob e n hx
 there:=u.there
 tups:=λb xs e=>by rw [upd_ne (ne_of_none e hH)];exact u.tups b xs e
 frzs:=λb ob w e=>by rw [upd_ne (ne_of_none e hH)];exact u.frzs b ob w e
 tbls:=λb ps e=>by rw [upd_ne (ne_of_none e hH)];exact u.tbls b ps e
end
end L2
namespace L2
open PySem PySem.Spec PyProof.Rows
section
variable {X:Cx}
theorem comp_blk {elt iter:Expr} {x:Str} {px pos:Pos} {scope:Scope} {te:TE} {tt:TT} {ifs:List Expr} {ix:List Nat} {pins:List (Addr × Obj)} {s:Shared} {σ:St} {H:Hp} {cl:List (Str × Addr)}
  {J:It} {fp:List Addr} {it:Addr} {tn:Nat->Heap->Prop} {E:Value->Shared->Prop} {RR:Value->Addr->Result->Shared->Prop} {G:List V->Hp->Prop}
  (I:Inv X pins σ H s) (hc:X.calm=true) (B:BlkScope X.env scope x) (h1:∀y c,cl.lookup y=some c->X.env.cells.lookup y=some c) (h3:∀y∈scope.names,y.2=.free->∃c,cl.lookup y.1=some c)
  (hix:∀i∈ix,∃y,X.N[i]? = some y/\scope.names.lookup y=some .free) (hN:(bN X.N x ix).Nodup)
  (T:Turn X.prog X.w X.K (.Name x px) J fp it tn) (st:tn 0 s.heap) (hf:∀b∈fp,FpOk X pins H b)
  (he:∀cl C s₀ H₀ fp,PE (cxBlk X scope cl C (bN X.N x ix) s₀ H₀ fp) elt te)
  (hi:∀cl C s₀ H₀ fp,PIfs (cxBlk X scope cl C (bN X.N x ix) s₀ H₀ fp) ifs tt)
  (W:Nat->Nat->List V->Hp->Prop) (m₀:Nat) (w0:W 0 m₀ [] H)
  (turn:∀i m ys H,W i m ys H->(J.stop i H/\ys.length<=sizeLine/\G ys H)\/(J.go i H/\ys.length<sizeLine/\∀v H',J.yld i H v H' ->
    tt (bS σ (some v) ix) H' λb H1=>if b=true then te (bS σ (some v) ix) H1 λy H2=>∃m',m' < m/\W (i+1) m' (ys++[y]) H2 else ∃m',m' < m/\W (i+1) m' ys H1))
  (hRR:∀D C s' ys H',Inv X pins σ (upd H' D (.lst ys)) s'->H' D=none->H' C=none->(∃m,s'.heap.Ns C m)->s.heap.objs.size<=C->D≠C->G ys H'->RR (.ref D) C (.ok .next) s') :
  wpAny (model X.prog X.w) X.A (newList []) (λacc s₃=>wpAny (model X.prog X.w) X.A (newFunctionEnv scope X.env.globals cl [] X.env.qual none .none (some X.env)) (λcenv s₄ =>
   codeAny (model X.prog X.w) X.A (.compStart (.ListComp elt [⟨.Name x px,iter,ifs,0⟩] scope pos) 0 (.ref it) acc { cenv with scope:=relabel scope X.env }) (RR acc cenv.locals) s₄) E s₃) E s:=by
 have hl:∀b∈fp,b<s.heap.objs.size:=λb hb=>by obtain ⟨o,e,_⟩:=T.obj 0 _ st b hb;exact Heap.lt_size e
 refine wpAny_newObj_type (wpAny_newFunctionEnv B.cells (by intro y hy;simp at hy) (λh₁ hns₁ hsb₁=>?_) B.kind)
 dsimp only at hns₁ hsb₁ ⊢
 generalize hH2:s.heap.push { cls:=.type "list",dict:=none,data:=.seq ([]:List Value).toArray }=H2 at hns₁ hsb₁ ⊢
 have hC:H2.objs.size=s.heap.objs.size+1:=by rw [← hH2,Heap.size_push]
 generalize hD:s.heap.objs.size=D at hC hl hRR ⊢
 generalize hCC:H2.objs.size=C at hC hns₁ hsb₁ ⊢
 have hDC:D≠C:=by omega
 have old:∀b o,s.heap.get? b=some o->h₁.get? b=some o:=λb o e=>hsb₁.extBut b o (Nat.ne_of_lt (by have z:=Heap.lt_size e;rw [hD] at z;exact Nat.lt_of_lt_of_le z (by rw [hC];exact Nat.le_succ _))) (Heap.get?_push_of_some _ (hH2 ▸ Heap.get?_push_of_some _ e))
 have hacc:h₁.get? D=some { cls:=.type "list",data:=.seq ([]:List Value).toArray 0 }:=hsb₁.extBut _ _ hDC (Heap.get?_push_of_some _ (hH2 ▸ (by rw [← hD];exact Heap.get?_push_size _ rfl)))
 have hfr:∀a,D<=a->s.heap.get? a=none:=λa ha=>by
  cases e:s.heap.get? a with
  | none=>rfl
  | some o=>exact absurd (Heap.lt_size e) (by rw [hD];exact Nat.not_lt.mpr ha)
 have hHn:∀a,D<=a->H a=none:=λa ha=>I.hok.fresh (by omega)
 have ok:(cxBlk X scope cl C (bN X.N x ix) s H fp).Ok:=blk_ok I B h1 h3 (by omega) hf (by rw [hD];exact hl)
 generalize hK:cxBlk X scope cl C (bN X.N x ix) s H fp=K at ok
 have kp:K.prog=X.prog:=by rw [← hK];rfl
 have kw:K.w=X.w:=by rw [← hK];rfl
 have kK:K.K=X.K:=by rw [← hK];rfl
 have kA:K.A=X.A:=by rw [← hK];rfl
 have kc:K.calm=true:=by rw [← hK];exact hc
 have kN:K.N=bN X.N x ix:=by rw [← hK];rfl
 have kenv:K.env=compEnvC scope cl C X.env:=by rw [← hK];rfl
 have kloc:K.env.locals=C:=by rw [← hK];rfl
 have kfs:K.fs=frs X.stack:=by rw [← hK];rfl
 have kex:K.ex=fp:=by rw [← hK];rfl
 have kpn:K.pn=[]:=by rw [← hK];rfl
 have ks:K.s₀=s:=by rw [← hK];rfl
 have kH:K.H₀=H:=by rw [← hK];rfl
 have kx:K.xe=λ_ _=>False:=by rw [← hK];rfl
 have kcl:K.env.cells=cl:=by rw [← hK];rfl
 have cellLt:∀y c,cl.lookup y=some c->c<D:=λy c q=>by obtain ⟨v,z⟩:=I.cell y c (h1 y c q);rw [← hD];exact z.lt
 have stkLt:∀b∈frs X.stack,b<D:=λb hb=>by
  rcases List.mem_cons.mp (I.stkSub b hb) with q | q
  ·rw [q,← hD];exact I.lt
  ·rcases Nat.lt_or_ge b D with z | z
   ·exact z
   ·exact absurd q (I.nofs (by omega))
 -- the state at the block's begin
 have I0:∀tk,Inv K [(D,{ cls:=.type "list",data:=.seq ([]:List Value).toArray 0 })] (bS σ none ix) H { s with heap:=h₁,toks:=tk }:=λtk=>by
  refine ⟨ok,by rw [ks],I.bare,by rw [ks,kH];exact Un.kept old,?_,?_,?_,?_,?_,by rw [kp,kw];exact I.hok.kept old,?_⟩
  ·refine ⟨_,by rw [kloc];exact hns₁,λi y v e1 e2 e3=>?_⟩
   rw [kN] at e1
   cases i with
   | zero =>
    have:(none:Option V)=some v:=by simpa [bS] using e2
    cases this
   | succ i =>
    have e1':(ix.map λi=>X.N.getD i Str.empty)[i]? = some y:=by simpa [bN] using e1
    have e2':(ix.map λi=>(σ[i]?).getD none)[i]? = some (some v):=by simpa [bS] using e2
    rw [List.getElem?_map] at e1' e2'
    cases q:ix[i]? with
    | none=>rw [q] at e1';cases e1'
    | some j =>
     rw [q] at e1' e2'
     obtain ⟨y',a1,a2⟩:=hix j (List.mem_of_getElem? q)
     have a3:X.N.getD j Str.empty=y':=by simp [List.getD,a1]
     have ey:y'=y:=by rw [← a3];exact Option.some.inj e1'
     subst ey
     have es:σ[j]? = some (some v):=by
      have z:(σ[j]?).getD none=some v:=Option.some.inj e2'
      cases w:σ[j]? with
      | none=>rw [w] at z;cases z
      | some o=>rw [w] at z;have z':o=some v:=z;rw [z']
     obtain ⟨m,hn,hlk⟩:=I.loc
     have hk:=B.free (y',.free) (PySem.mem_of_lookup a2) rfl
     have hk:X.env.kindOf y'=some .cell\/X.env.kindOf y'=some .free:=hk
     have vis:Vis X.env.scope y':=hk.elim (λz=>.inr (.inl z)) λz=>.inr (.inr z)
     obtain ⟨u,ru,lk⟩:=hlk j y' v a1 es vis
     refine ⟨u,ru,?_⟩
     rcases lk with ⟨k,_⟩ | ⟨_,c,ec,ce⟩
     ·rcases hk with z | z <;> (rw [k] at z;cases z)
     ·obtain ⟨c',ec'⟩:=h3 (y',.free) (PySem.mem_of_lookup a2) rfl
      have ec':cl.lookup y'=some c':=ec'
      have:c'=c:=Option.some.inj ((h1 y' c' ec').symm.trans ec)
      subst this
      refine .inr ⟨?_,c',by rw [kcl];exact ec',?_⟩
      ·show K.env.scope.names.lookup y'=_\/K.env.scope.names.lookup y'=_
       rw [kenv]
       exact lookup_relabel_free a2
      ·obtain ⟨oc,hoc,r⟩:=ce
       exact ⟨oc,old _ _ hoc,r⟩
  ·intro y c q
   rw [kcl] at q
   obtain ⟨v,oc,hoc,r⟩:=I.cell y c (h1 y c q)
   exact ⟨v,oc,old _ _ hoc,r⟩
  ·rw [kloc];exact hHn _ (by omega)
  ·intro y c q
   rw [kcl] at q
   exact I.freeC y c (h1 y c q)
  ·intro p hp
   rw [kpn] at hp
   have e:p=(D,{ cls:=.type "list",data:=.seq ([]:List Value).toArray 0 }):=by simpa using hp
   subst e
   refine ⟨hacc,hHn _ (Nat.le_refl _),by rw [kloc];exact hDC,?_,λv z=>?_⟩
   ·rw [kfs];intro z;exact absurd (stkLt D z) (Nat.lt_irrefl _)
   ·have z':Data.seq _ _=Data.cell v:=z
    cases z'
  ·rw [kN];simp [bS,bN]
 have stat:∀{H':Hp} {ob:Obj},(∀b∈fp,H' b=none)->∀b∈fp,FpOk K [(D,ob)] H' b:=λ{H' ob} hn b hb=>by
  refine ⟨hn b hb,?_,?_,.inl (by rw [kex];exact hb),?_,?_⟩
  ·rw [kloc];exact Nat.ne_of_lt (Nat.lt_of_lt_of_le (hl b hb) (by rw [hC];exact Nat.le_succ _))
  ·rw [kfs];intro z
   rcases List.mem_cons.mp (I.stkSub b z) with q | q
   ·exact (hf b hb).2.1 q
   ·exact (hf b hb).2.2.1 q
  ·intro y c q;rw [kcl] at q;exact (hf b hb).2.2.2.2.1 y c (h1 y c q)
  ·intro p hp;rw [kpn] at hp
   have e:p=(D,ob):=by simpa using hp
   subst e
   exact Nat.ne_of_gt (hl b hb)
 have st₁:tn 0 h₁:=T.keep _ _ _ st λb hb o e=>old b o e
 have loop:∀tk,codeAny (model X.prog X.w) X.A (.compLoop (.ListComp elt [⟨.Name x px,iter,ifs,0⟩] scope pos) 0 (.ref it) (.ref D) (compEnvC scope cl C X.env)) (RR (.ref D) C) { s with heap:=h₁,toks:=tk }:=by
  intro tk
  refine codeAny_compLoop_tests (λn s'=>∃i o H' ys its c,Inv K [(D,{ cls:=.type "list",data:=.seq (its:List Value).toArray c })] (bS σ o ix) H' s'/\Vals ys its/\tn i s'.heap/\(∀b∈fp,H' b=none)/\W i n ys H') ?_ m₀
   ⟨0,none,H,[],[],0,I0 tk,.nil,st₁,λb hb=>(hf b hb).1,w0⟩
  rintro n s1 ⟨i,o,H1,ys,its,c,I1,rv,t1,f1,w1⟩
  rcases turn i n ys H1 w1 with ⟨stop,hz,g⟩ | ⟨go,hz,step⟩
  ·have dn:=T.done K kp kw kK kc i _ s1 _ H1 (notedBy (model X.prog X.w) X.A (compEnvC scope cl C X.env) λe s'=>RR (.ref D) C (.error e) s') I1 (stat f1) t1 stop
   rw [kA] at dn
   refine thn dn λr s2 ⟨hr,I2⟩=>?_
   subst hr
   obtain ⟨p1,p2,p3,p4,p5⟩:=I2.pin (D,{ cls:=.type "list",data:=.seq its.toArray c }) (List.mem_append_right _ (List.mem_singleton.mpr rfl))
   have u2:=I2.base
   rw [kfs,kex,kH,ks] at u2
   refine hRR D C s2 ys H1 ?_ p2 (by rw [← kloc];exact I2.free) (by obtain ⟨m,hm,_⟩:=I2.loc;rw [kloc] at hm;exact ⟨m,hm⟩) (by omega) hDC g
   have hk2:HOk X.prog X.w H1 s2.heap:=by have:=I2.hok;rw [kp,kw] at this;exact this
   refine I.call' (ch:=fp) (by have:=I2.os;rw [ks] at this;exact this) (u2.add (hfr D (Nat.le_refl _)) (hHn D (Nat.le_refl _))) (hk2.add p2 ⟨hz,its,c,rv,p1⟩) I2.bare λb hb=>?_
   exact ⟨(hf b hb).2.2.2.1,(hf b hb).2.1,(hf b hb).2.2.2.2.1,(hf b hb).2.2.2.2.2⟩
  ·have im:=T.item K kp kw kK kc i _ s1 _ H1 (notedBy (model X.prog X.w) X.A (compEnvC scope cl C X.env) λe s'=>RR (.ref D) C (.error e) s') I1 (stat f1) t1 go
   rw [kA] at im
   refine thn im λr s2 ⟨u,hr,h2⟩=>?_
   subst hr
   show wpAny _ _ (assign (.Name x px) (compEnvC scope cl C X.env) u) _ _ s2
   have h2':wpAny (model X.prog X.w) X.A (pure ():Sem Unit) _ _ s2:=h2
   suffices q:wpAny (model X.prog X.w) X.A ((pure ():Sem Unit) >>= λ_=>assign (.Name x px) (compEnvC scope cl C X.env) u) _ _ s2 from q
   refine wpAny_bind (thn h2' λ_ s3 ⟨v,H3,I3,r3,y3,t3,f3⟩=>?_)
   have q3:=step v H3 y3
   have I3':=I3.pinned (stat f3) (T.obj _ _ t3)
   rw [← kenv]
   refine wpAny_assign_Name (store_ok I3' (i:=0) (x:=x) (by rw [kN];exact hN) (by rw [kN];rfl) (.inl (by rw [kenv];exact lookup_relabel_local B.lx)) r3 (λs4 I4=>?_) (.inr (by rw [kenv];exact lookup_relabel_local B.lx)))
   have I4:Inv K ([(D,{ cls:=.type "list",data:=.seq its.toArray c })]++pinsAt fp s3.heap) (bS σ (some v) ix) H3 s4:=I4
   have hi':=hi cl C s H fp
   rw [hK] at hi'
   have hiv:=hi' _ s4 _ H3 _ I4 q3
   rw [kx,kp,kw,kA] at hiv
   refine wpAny_mono hiv (λok s5 ⟨H5,I5,q5⟩=>?_) λ_ _ z=>z.elim
   have back:∀{H7:Hp} {s7:Shared} {o7:Option V},Inv K ([(D,{ cls:=.type "list",data:=.seq its.toArray c })]++pinsAt fp s3.heap) (bS σ o7 ix) H7 s7->tn (i+1) s7.heap/\∀b∈fp,H7 b=none:=λ{H7 s7 o7} I7=>by
    refine ⟨T.keep _ _ _ t3 λb hb o e=>(I7.pin (b,o) (List.mem_append_right _ (List.mem_append_right _ (mem_pinsAt hb e)))).1,λb hb=>?_⟩
    obtain ⟨ob,e,d⟩:=T.obj _ _ t3 b hb
    exact (I7.pin (b,ob) (List.mem_append_right _ (List.mem_append_right _ (mem_pinsAt hb e)))).2.1
   cases ok with
   | false =>
    rw [if_neg Bool.false_ne_true]
    have q5:∃m',m' < n/\W (i+1) m' ys H5:=q5
    obtain ⟨m',hm,w5⟩:=q5
    obtain ⟨b1,b2⟩:=back I5
    exact ⟨m',hm,i+1,some v,H5,ys,its,c,I5.unpinned,rv,b1,b2,w5⟩
   | true =>
    rw [if_pos rfl]
    have q5:te (bS σ (some v) ix) H5 λy H2=>∃m',m' < n/\W (i+1) m' (ys++[y]) H2:=q5
    have he':=he cl C s H fp
    rw [hK] at he'
    have hev:=he' _ s5 _ H5 _ I5 q5
    rw [kx,kp,kw,kA] at hev
    refine wpAny_mono hev (λy s6 ⟨yv,H6,I6,r6,m',hm,w6⟩=>?_) λ_ _ z=>z.elim
    obtain ⟨b1,b2⟩:=back I6
    have I6':=I6.unpinned
    obtain ⟨p1,p2,p3,p4,p5⟩:=I6'.pin (D,{ cls:=.type "list",data:=.seq its.toArray c }) (List.mem_append_right _ (List.mem_singleton.mpr rfl))
    have hlen:=rv.length
    refine call_meets F.slot_list_append ⟨_,p1,rfl⟩ F.entry_list_append (F.args_list_append_2 _ _) (PySem.list_append D its.toArray c y (by rw [List.size_toArray];omega)) ⟨p1,?_⟩
    have ea:its.toArray.push y=(its++[y]).toArray:=by simp
    obtain ⟨c',q⟩:∃c',(s6.heap.update D (Obj.mapSeq (·.push y))).get? D=some { cls:=.type "list",data:=.seq (its++[y]).toArray c' }:=⟨_,by rw [← ea];exact PySem.IsL.update p1 (·.push y)⟩
    refine ⟨m',hm,i+1,some v,H6,ys++[yv],its++[y],c',?_,rv.append (.cons r6 .nil),T.keep _ _ _ b1 λb hb o e=>?_,b2,w6⟩
    ·have Id:Inv K [] (bS σ (some v) ix) H6 s6:=I6'.pins_of λp hp=>by simp at hp
     have It:Inv K [] (bS σ (some v) ix) H6 { s6 with heap:=s6.heap.update D (Obj.mapSeq (·.push y)) }:=Id.turned (t':=s6.toks) (it:=D) (λb o hb e=>(Heap.get?_update_other _ _ (Ne.symm hb)).trans e) p2 p3
      (.inr (by rw [ks];omega)) (λy' c' e=>by rw [kcl] at e;exact Nat.ne_of_lt (cellLt y' c' e)) (λp hp=>by rw [kpn] at hp;simp at hp)
     refine It.pins_of λp hp=>?_
     obtain rfl:p=(D,{ cls:=.type "list",data:=.seq (its++[y]).toArray c' }):=by simpa using hp
     refine ⟨q,p2,p3,p4,λv z=>?_⟩
     have z':Data.seq _ _=Data.cell v:=z
     cases z'
    ·exact (Heap.get?_update_other _ _ (Nat.ne_of_gt (hl b hb))).trans e
 have selfs:wpAny (model X.prog X.w) X.A (pyIter (.ref it)) (λit' s'=>codeAny (model X.prog X.w) X.A (.compLoop (.ListComp elt [⟨.Name x px,iter,ifs,0⟩] scope pos) 0 it' (.ref D) (compEnvC scope cl C X.env)) (RR (.ref D) C) s')
   (notedBy (model X.prog X.w) X.A (compEnvC scope cl C X.env) λe s'=>RR (.ref D) C (.error e) s') { s with heap:=h₁,toks:=s.toks+([]:List (Str × Value)).length }:=T.self X.A 0 _ _ _ st₁ (loop _)
 exact codeAny_compStart_list (loop _) selfs
def tComp (wi:TI) (tt:TT) (te:TE) (ix:List Nat):TE:=λσ H Q=>wi σ H λJ H1=>∃(W:Nat->Nat->List V->Hp->Prop) (m₀:Nat),W 0 m₀ [] H1 /\
 ∀i m ys H,W i m ys H->(J.stop i H/\ys.length<=sizeLine/\∀l,H l=none->Q (.ref l) (upd H l (.lst ys)))\/(J.go i H/\ys.length<sizeLine/\∀v H',J.yld i H v H' ->
  tt (bS σ (some v) ix) H' λb H1=>if b=true then te (bS σ (some v) ix) H1 λy H2=>∃m',m' < m/\W (i+1) m' (ys++[y]) H2 else ∃m',m' < m/\W (i+1) m' ys H1)
theorem blk_free {scope:Scope} {x:Str} {pins:List (Addr × Obj)} {σ:St} {H:Hp} {s:Shared} (I:Inv X pins σ H s) (B:BlkScope X.env scope x):∀y∈scope.names,y.2=.free->∃c,X.env.cells.lookup y.1=some c :=
 λy hy hf=>I.ok.has y.1 (B.free y hy hf)
theorem Inv.blkGone {pins:List (Addr × Obj)} {σ:St} {H:Hp} {s s₀:Shared} {H₀:Hp} {C:Addr} {h':Heap} {σ₀:St} (I₀:Inv X pins σ₀ H₀ s₀) (I:Inv X pins σ H s) (hC:s₀.heap.objs.size<=C) (hn:H C=none) (hs:Heap.SameBut C s.heap h'):Inv X pins σ H { s with heap:=h' } :=
 I.turned (t':=s.toks) (it:=C) (λb o hb e=>(hs.2 b hb).trans e) hn (Nat.ne_of_gt (Nat.lt_of_lt_of_le I₀.lt hC)) (.inr (Nat.le_trans I₀.sz hC))
  (λx c e=>by obtain ⟨v,z⟩:=I₀.cell x c e;exact Nat.ne_of_lt (Nat.lt_of_lt_of_le z.lt hC)) (λp hp=>Nat.ne_of_lt (Nat.lt_of_lt_of_le (Heap.lt_size (I₀.pin p hp).1) hC))
theorem pe_comp {elt iter:Expr} {x:Str} {px pos:Pos} {scope:Scope} {te:TE} {tt:TT} {wi:TI} {ifs:List Expr} (ix:List Nat) (hc:X.calm=true) (B:BlkScope X.env scope x)
  (hix:∀i∈ix,∃y,X.N[i]? = some y/\scope.names.lookup y=some .free) (hN:(bN X.N x ix).Nodup) (hi:PI X (.Name x px) iter wi)
  (ht:∀cl C s₀ H₀ fp,PIfs (cxBlk X scope cl C (bN X.N x ix) s₀ H₀ fp) ifs tt)
  (he:∀cl C s₀ H₀ fp,PE (cxBlk X scope cl C (bN X.N x ix) s₀ H₀ fp) elt te)
  (hs:∀x,foldedSetIterable iter X.env x=pure x:=by intro _;rfl) :
  PE X (.ListComp elt [⟨.Name x px,iter,ifs,0⟩] scope pos) (tComp wi tt te ix):=by
 intro pins s σ H Q I h
 obtain ⟨cl,hcl,h1,h3⟩:=closure_for (blk_free I B)
 rw [eval_ListComp]
 refine wpAny_comprehension_free (use:=none) rfl hs hcl B.kind B.names (thn (hi pins s σ H _ I h) λv s1 h1'=>thn h1' λitv s2 h2=>?_)
 obtain ⟨it,fp,tn,J,H2,e,I2,T,st2,f2,W,m0,w0,turn⟩:=h2
 subst e
 refine comp_blk (G:=λys H'=>∀l,H' l=none->Q (.ref l) (upd H' l (.lst ys))) I2 hc B h1 h3 hix hN T st2 f2 he ht W m0 w0 turn λD C s' ys H' I' hD hC hm hCs hDC g=>?_
 obtain ⟨m,hm⟩:=hm
 refine ⟨m,hm,λh' hsb=>⟨.ref D,upd H' D (.lst ys),I2.blkGone I' hCs (by rw [upd_ne (Ne.symm hDC)];exact hC) hsb,rfl,g D hD⟩⟩
theorem ps_comp {elt iter:Expr} {x y:Str} {px py pos spos:Pos} {scope:Scope} {te:TE} {tt:TT} {wi:TI} {ifs:List Expr} {j:Nat} (ix:List Nat) (hc:X.calm=true) (B:BlkScope X.env scope x)
  (hNd:X.N.Nodup) (hj:X.N[j]? = some y) (hy:Loc X.env.scope y)
  (hsw:swapsWith (.ListComp elt [⟨.Name x px,iter,ifs,0⟩] scope pos) (some (.Name y py)) spos.line X.env=pure true)
  (hix:∀i∈ix,∃y,X.N[i]? = some y/\scope.names.lookup y=some .free) (hN:(bN X.N x ix).Nodup) (hi:PI X (.Name x px) iter wi)
  (ht:∀cl C s₀ H₀ fp,PIfs (cxBlk X scope cl C (bN X.N x ix) s₀ H₀ fp) ifs tt)
  (he:∀cl C s₀ H₀ fp,PE (cxBlk X scope cl C (bN X.N x ix) s₀ H₀ fp) elt te)
  (hf:X.fn y=true\/X.env.scope.names.lookup y=some .local:=by first | exact .inl rfl | exact .inr rfl | assumption)
  (hs:∀x,foldedSetIterable iter X.env x=pure x:=by intro _;rfl) :
  PS X (.Assign [.Name y py] (.ListComp elt [⟨.Name x px,iter,ifs,0⟩] scope pos) spos) (tAsg (tComp wi tt te ix) (gName j)):=by
 intro pins s σ H D0 I h
 obtain ⟨cl,hcl,h1,h3⟩:=closure_for (blk_free I B)
 rw [exec_Assign_Name_used _ _ _ _ hsw]
 refine wpAny_bind (wpAny_standAt (wpAny_bind ?_))
 show wpAny _ X.A (do let _ ← comprehension (.ListComp elt [⟨.Name x px,iter,ifs,0⟩] scope pos) scope X.env _ (newList []) false (eval iter X.env) (some (assign (.Name y py) X.env))) _ _ s
 refine wpAny_bind (wpAny_mono (wpAny_comprehension_free (use:=some (assign (.Name y py) X.env)) (Q:=λ_ s'=>SP X pins D0 .next s') rfl hs hcl B.kind B.names
  (thn (hi pins s σ H _ I h) λv s1 h1'=>thn h1' λitv s2 h2=>?_)) (λ_ s' hq=>wpAny_pure (wpAny_pure hq)) λ_ _ e=>e)
 obtain ⟨it,fp,tn,J,H2,e,I2,T,st2,f2,W,m0,w0,turn⟩:=h2
 subst e
 refine comp_blk (G:=λys H'=>∀l,H' l=none->gName j (.ref l) σ (upd H' l (.lst ys)) D0.nx) I2 hc B h1 h3 hix hN T st2 f2 he ht W m0 w0 turn λD C s' ys H' I' hD hC hm hCs hDC g=>?_
 obtain ⟨m,hm⟩:=hm
 have hCn:upd H' D (.lst ys) C=none:=by rw [upd_ne (Ne.symm hDC)];exact hC
 show wpAny _ _ (assign (.Name y py) X.env (.ref D)) _ _ s'
 refine wpAny_assign_Name (store_ok2 I' hNd hj hy (show RelV (.ref D) (.ref D) from rfl) (λs3 I3 ⟨a,hsa,ha⟩=>?_) hf)
 have hCa:C≠a:=by
  rcases ha with z | z
  ·rw [z];exact Nat.ne_of_gt (Nat.lt_of_lt_of_le I2.lt hCs)
  ·obtain ⟨v,q⟩:=I2.cell y a z;exact Nat.ne_of_gt (Nat.lt_of_lt_of_le q.lt hCs)
 exact ⟨m,hm.sameBut hsa hCa,λh' hsb=>⟨_,_,I2.blkGone I3 hCs hCn hsb,g D hD⟩⟩
end
end L2
namespace L2
open PySem PySem.Spec PyProof.Rows
section
variable {X:Cx}
theorem Inv.turnNew {pins:List (Addr × Obj)} {σ:St} {H:Hp} {s:Shared} {ch:List Addr} {T:Addr} {o:HO} {h':Heap} {t':Nat} (I:Inv X pins σ H s) (hT:s.heap.objs.size<=T)
  (k:∀b u,b∉ch->s.heap.get? b=some u->h'.get? b=some u) (hch:∀b∈ch,FpOk X pins H b) (new:ObjOk X.prog X.w (upd H T o) h' T o):Inv X pins σ (upd H T o) { s with heap:=h',toks:=t' }:=by
 have hn:H T=none:=I.hok.fresh hT
 have hg:s.heap.get? T=none:=by
  cases e:s.heap.get? T with
  | none=>rfl
  | some u=>exact absurd (Heap.lt_size e) (Nat.not_lt.mpr hT)
 have u:Un (frs X.stack) ch H H s.heap h':=⟨λb q e _ _ hx=>k b q hx e,λb q e _ _ hx=>⟨q.slots,k b q hx e⟩,λb q e n _=>n,λb q e hx=>⟨q,k b q hx e⟩,λ_ _ e=>e,λ_ _ _ e=>e,λb ps e=>⟨#[],by rw [Array.append_empty];exact e⟩⟩
 have hok:HOk X.prog X.w H h':=λb q e=>(I.hok b q e).stay (λc v hc z=>k c v (λm=>by
  have q1:=(hch c m).1
  rcases hc with rfl | hc
  ·rw [q1] at e;cases e
  ·rw [q1] at hc;cases hc) z) (λ_ z=>z) λ_ _ z=>z
 exact I.call' (s':={ s with heap:=h',toks:=t' }) rfl (u.add hg hn) (hok.add hn new) I.bare λb hb=>⟨(hch b hb).2.2.2.1,(hch b hb).2.1,(hch b hb).2.2.2.2.1,(hch b hb).2.2.2.2.2⟩
theorem Inv.turnAll {pins:List (Addr × Obj)} {σ:St} {H:Hp} {s:Shared} {ch:List Addr} {h':Heap} {t':Nat} (I:Inv X pins σ H s)
  (k:∀b u,b∉ch->s.heap.get? b=some u->h'.get? b=some u) (hch:∀b∈ch,FpOk X pins H b):Inv X pins σ H { s with heap:=h',toks:=t' }:=by
 have u:Un (frs X.stack) ch H H s.heap h':=⟨λb q e _ _ hx=>k b q hx e,λb q e _ _ hx=>⟨q.slots,k b q hx e⟩,λb q e n _=>n,λb q e hx=>⟨q,k b q hx e⟩,λ_ _ e=>e,λ_ _ _ e=>e,λb ps e=>⟨#[],by rw [Array.append_empty];exact e⟩⟩
 have hok:HOk X.prog X.w H h':=λb q e=>(I.hok b q e).stay (λc v hc z=>k c v (λm=>by
  have q1:=(hch c m).1
  rcases hc with rfl | hc
  ·rw [q1] at e;cases e
  ·rw [q1] at hc;cases hc) z) (λ_ z=>z) λ_ _ z=>z
 exact I.call' (s':={ s with heap:=h',toks:=t' }) rfl u hok I.bare λb hb=>⟨(hch b hb).2.2.2.1,(hch b hb).2.1,(hch b hb).2.2.2.2.1,(hch b hb).2.2.2.2.2⟩
end
section
variable {prog:Program} {w:World} {A:Around} {E:Value->Shared->Prop} {s:Shared}
theorem tupNext {it t:Addr} {i:Nat} {items:Array Value} {x:Value} {Q:Value->Shared->Prop} (hit:s.heap.IsTupleIter it t i) (ht:s.heap.IsTuple t items) (hx:items[i]? = some x)
  (hQ:∀h',h'.IsTupleIter it t (i+1)->Heap.SameBut it s.heap h'->Q x { s with heap:=h' }):wpAny (model prog w) A (Builtin.SmallTypes.nextOf (.ref it)) Q E s:=by
 obtain ⟨o,ho,hc,hd⟩:=id hit
 obtain ⟨ol,hol,_,nl,hdl⟩:=ht
 unfold Builtin.SmallTypes.nextOf
 refine wpAny_bind (wpAny_callSpecial?_slot (name:=Str.ofString "__next__") hit.typeIs F.slot_tuple_iterator_next (wpAny_call_entry F.slot_tuple_iterator_next hit.typeIs F.entry_tuple_iterator_next ?_ (F.args_tuple_iterator_next_1 _)))
 show wpAny _ _ (field (.ref it) 0 >>= _) _ _ s;refine wpAny_bind (wpAny_field ho hd (x:=.ref t) rfl ?_)
 show wpAny _ _ (if (Value.ref t == Value.none)=true then _ else _) _ _ s;rw [if_neg (show ¬((Value.ref t == Value.none)=true) from Bool.false_ne_true)]
 show wpAny _ _ (field (.ref it) 1 >>= _) _ _ s;refine wpAny_bind (wpAny_field ho hd (x:=.int i 0) rfl ?_)
 show wpAny _ _ (seqItems? (.ref t) >>= _) _ _ s;refine wpAny_bind (wpAny_seqItems hol hdl ?_)
 simp only [Int.toNat_natCast,hx]
 refine wpAny_bind (wpAny_setField ho hd (by simp) (wpAny_pure ⟨x,rfl,wpAny_pure (hQ _ ⟨_,Heap.get?_update_self _ ho (Obj.isFreed_of_fields (Obj.data_mapFields hd _)),(Obj.cls_mapFields ..).trans hc,by rw [Obj.data_mapFields hd];simp [rawInt]⟩ (Heap.SameBut.update ..))⟩))
theorem tupEnd {it t:Addr} {i:Nat} {items:Array Value} {Q:Value->Shared->Prop} (hh:A.handled=none) (hit:s.heap.IsTupleIter it t i) (ht:s.heap.IsTuple t items) (hx:items[i]? = none)
  (hE:∀h' e,Heap.ExtBut it s.heap h'->(∃o,h'.get? e=some o/\o.cls=.type "StopIteration")->E (.ref e) { s with heap:=h' }):wpAny (model prog w) A (Builtin.SmallTypes.nextOf (.ref it)) Q E s:=by
 obtain ⟨o,ho,hc,hd⟩:=id hit
 obtain ⟨ol,hol,_,nl,hdl⟩:=ht
 unfold Builtin.SmallTypes.nextOf
 refine wpAny_bind (wpAny_callSpecial?_slot (name:=Str.ofString "__next__") hit.typeIs F.slot_tuple_iterator_next (wpAny_call_entry F.slot_tuple_iterator_next hit.typeIs F.entry_tuple_iterator_next ?_ (F.args_tuple_iterator_next_1 _)))
 show wpAny _ _ (field (.ref it) 0 >>= _) _ _ s;refine wpAny_bind (wpAny_field ho hd (x:=.ref t) rfl ?_)
 show wpAny _ _ (if (Value.ref t == Value.none)=true then _ else _) _ _ s;rw [if_neg (show ¬((Value.ref t == Value.none)=true) from Bool.false_ne_true)]
 show wpAny _ _ (field (.ref it) 1 >>= _) _ _ s;refine wpAny_bind (wpAny_field ho hd (x:=.int i 0) rfl ?_)
 show wpAny _ _ (seqItems? (.ref t) >>= _) _ _ s;refine wpAny_bind (wpAny_seqItems hol hdl ?_)
 simp only [Int.toNat_natCast,hx]
 refine wpAny_bind (wpAny_rule (wpAny_bind (wpAny_setField ho hd (by simp) ?_)))
 show wpAny _ _ (newExc (.type "StopIteration") [] >>= _) _ _ _;refine wpAny_bind ?_
 simp only [newExc,newTuple]
 refine wpAny_bind (wpAny_newObj_type ?_ (by size_fits));refine wpAny_bind (m:=firstArgMember _ _) (wpAny_of_eq (a:=Value.none) (by first | rfl | (simp only [firstArgMember];rfl)) ?_)
 refine wpAny_newObj_type ?_ (by size_fits);simp only [raiseNew]
 refine wpAny_bind (wpAny_handled ?_)
 first | rw [show A.in1.handled=none from hh] | rw [hh]
 refine wpAny_bind (wpAny_pure (wpAny_throw (hE _ _ (((Heap.SameBut.update ..).extBut.push _).push _) ⟨_,Heap.get?_push_size _ rfl,rfl⟩)))
theorem drawsTup (hh:A.handled=none) (it t:Addr) (hne:t≠it) (items:Array Value) :
  Draws prog w A it [it,t] items.size (λi v=>items[i]? = some v) (λi h=>h.IsTupleIter it t i/\h.IsTuple t items) where
 live:=λ_ _ st=>let ⟨o,ho,_⟩:=st.1;⟨o,ho⟩
 frame:=λ_ _ _ st hk=>⟨st.1.at λo e=>hk it (by simp) o e,let ⟨o,ho,r⟩:=st.2;⟨o,hk t (by simp) o ho,r⟩⟩
 item:=λi s Q E hi st hQ=>tupNext st.1 st.2 (x:=items[i]) (by simp [hi]) λh' hit' hs'=>hQ _ h' s.toks (by simp [hi]) ⟨hit',st.2.extBut hs'.extBut hne⟩ hs'
 done:=λs Q E st hE=>tupEnd hh st.1 st.2 (by simp) hE
open AutoSeq1 (wpAny_loadPart') in
theorem enumNewT (l:Addr) (items:Array Value) (n:Nat) (dct:Option Addr) (sl:Array (Option Value)) :
  Meets (Builtin.«enumerate.__new__» ⟨[.type "enumerate",.ref l],[]⟩) (λ_ R s=>s.heap.get? l=some { cls:=.type "tuple",dict:=dct,data:=.seq items n,slots:=sl } /\
   R (.ok (.ret (.ref (s.heap.push { cls:=.type "tuple_iterator",data:=.fields #[.ref l,.int 0 0] }).objs.size)))
    { s with heap:=(s.heap.push { cls:=.type "tuple_iterator",data:=.fields #[.ref l,.int 0 0] }).push { cls:=.type "enumerate",data:=.fields #[.none,.bool false,.ref s.heap.objs.size,rawInt 0,.none,.none] } }) :=
 .of_wp λprog w A R s h=>by
  obtain ⟨hp,g,d,tk,os⟩:=s;obtain ⟨hl,h⟩:=h
  have hsub:=sub_enumerate
  have hL:Heap.IsTuple (Shared.heap ⟨hp,g,d,tk,os⟩) l items:=⟨_,hl,rfl,n,rfl⟩
  wp_walk using wpAny_loadPart' hl
  refine wpAny_stack_any λst=>wpAny_pure ?_
  split
  ·rename_i c _ _ _ _ _
   cases (c == Value.type "enumerate")
   ·wp_walk using wpAny_loadPart' hl,wpAny_pyIter_tuple hL
    exact ⟨_,rfl,h⟩
   ·wp_walk using wpAny_loadPart' hl,wpAny_pyIter_tuple hL
    exact ⟨_,rfl,h⟩
  ·wp_walk using wpAny_loadPart' hl,wpAny_pyIter_tuple hL
   exact ⟨_,rfl,h⟩
theorem callEnumT {l:Addr} {items:Array Value} {Q:Value->Shared->Prop} (hL:s.heap.IsTuple l items)
  (h:∀h',IsEnum h' (s.heap.objs.size+1) s.heap.objs.size 0 .none->h'.IsTupleIter s.heap.objs.size l 0->h'.objs.size=s.heap.objs.size+2->(∀b o,s.heap.get? b=some o->h'.get? b=some o)->Q (.ref (s.heap.objs.size+1)) { s with heap:=h' }) :
  wpAny (model prog w) A (call (.type "enumerate") [.ref l]) Q E s:=by
 obtain ⟨⟨c,dct,dt,sl⟩,hl,hc,n,hd⟩:=hL
 obtain rfl:c=.type "tuple":=hc
 obtain rfl:dt=.seq items n:=hd
 refine callType_new F.called_enumerate (by decide) (F.typeCall_enumerate_1 _) (F.newCall_enumerate_1 _) (λobj=>F.args_object_init_2 obj _) F.entry_enumerate_new (enumNewT l items n dct sl) ⟨hl,?_⟩
 have hz:(s.heap.push { cls:=.type "tuple_iterator",data:=.fields #[.ref l,.int 0 0] }).objs.size=s.heap.objs.size+1:=Heap.size_push ..
 show _/\_
 rw [hz]
 have he:IsEnum ((s.heap.push { cls:=.type "tuple_iterator",data:=.fields #[.ref l,.int 0 0] }).push
   { cls:=.type "enumerate",data:=.fields #[.none,.bool false,.ref s.heap.objs.size,rawInt 0,.none,.none] }) (s.heap.objs.size+1) s.heap.objs.size 0 .none:=by
  have q:=Heap.get?_push_size (s.heap.push { cls:=.type "tuple_iterator",data:=.fields #[.ref l,.int 0 0] }) (o:={ cls:=.type "enumerate",data:=.fields #[.none,.bool false,.ref s.heap.objs.size,rawInt 0,.none,.none] }) rfl
  rw [hz] at q;exact q
 exact ⟨⟨_,he,rfl⟩,h _ he ⟨_,Heap.get?_push_of_some _ (Heap.get?_push_size _ rfl),rfl,rfl⟩ (by rw [Heap.size_push,hz]) λb o x=>Heap.get?_push_of_some _ (Heap.get?_push_of_some _ x)⟩
end
def Ite (K:PySem.W.Frag) (a:Addr):It :=
 ⟨λi H=>∃xs x,SqT K H a xs/\xs[i]? = some x,λi H v H'=>∀xs,SqT K H a xs->∃x p,xs[i]? = some x/\v=.ref p/\H p=none/\H'=upd H p (.tup [.int i,x]),λi H=>∃xs,SqT K H a xs/\xs.length<=i⟩
theorem turn_enum {P:Program} {w:World} {K:PySem.W.Frag} {es:List Expr} {kt:Nat} {pt:Pos} (a e it:Addr) (hei:e≠it):Turn P w K (.Tuple es kt pt) (Ite K a) [e,it] e (λi h=>(∃old,IsEnum h e it i old)/\h.IsTupleIter it a i) where
 mem:=by simp
 obj:=λi h st b hb=>by
  obtain ⟨⟨old,h1⟩,o,h2,c,d⟩:=st
  rcases List.mem_cons.mp hb with z | z
  ·subst z;exact ⟨_,h1,λv z=>by have z':Data.fields _=Data.cell v:=z;cases z'⟩
  ·have z':b=it:=by simpa using z
   subst z';exact ⟨o,h2,λv z=>by rw [d] at z;cases z⟩
 keep:=λi h h' st k=>⟨let ⟨old,h1⟩:=st.1;⟨old,k e (by simp) _ h1⟩,st.2.at λo q=>k it (by simp) o q⟩
 item:=by
  intro X hP hw hK hc i pins s σ H E I hf st hg
  subst hP hw hK
  obtain ⟨⟨old,he⟩,hit⟩:=st
  obtain ⟨xs,x,hq,hx⟩:=hg
  obtain ⟨its,rv,p,hz⟩:=I.tuple hq
  have hlen:=rv.length
  have hi:i<its.toArray.size:=by rw [List.size_toArray,← hlen];exact (List.getElem?_eq_some_iff.mp hx).1
  have hai:a≠it:=λz=>by
   obtain ⟨o,h1,h2,_⟩:=p
   obtain ⟨o',h1',h2',_⟩:=hit
   rw [z,h1'] at h1;cases h1;rw [h2'] at h2;exact absurd h2 (by decide)
  have hae:e∉[it,a]:=λz=>by
   rcases List.mem_cons.mp z with q | q
   ·exact hei q
   ·have q':e=a:=by simpa using q
    obtain ⟨o,h1,h2,_⟩:=p
    rw [← q',he] at h1;cases h1;exact absurd h2 (by show ¬(Value.type "enumerate" = Value.type "tuple");decide)
  refine wpAny_pyNext_enum_itemD (drawsTup (A:=X.A.in1) (I.ok.hd hc) it a hai its.toArray) he ⟨hit,show s.heap.IsTuple a its.toArray from p⟩ hi hei hae λu h' tk hu ho hst' hT hsz hk=>?_
  refine ⟨_,rfl,wpAny_letOwnedTupleGo_enum ho λh2 he2 hs2=>?_⟩
  obtain ⟨u',hu',ru⟩:=rv.get hx
  have euu:u'=u:=by
   have z:its.toArray[i]? = some u:=hu
   have z2:its[i]? = some u:=by simpa using z
   rw [hu'] at z2;exact Option.some.inj z2
  subst euu
  have hTe:s.heap.objs.size≠e:=Nat.ne_of_gt (Heap.lt_size he)
  have hT2:h2.get? s.heap.objs.size=some { cls:=.type "tuple",data:=.seq #[.int i tk,u'] }:=(hs2.2 _ hTe).trans hT
  have hn:H s.heap.objs.size=none:=I.hok.fresh (Nat.le_refl _)
  refine ⟨.ref s.heap.objs.size,upd H s.heap.objs.size (.tup [.int i,x]),I.turnNew (ch:=[e,it]) (t':=tk+1) (Nat.le_refl _) (λb o hb q=>?_) hf ?_,rfl,λys hy=>?_,⟨⟨_,he2⟩,hst'.1.at λo q=>?_⟩,λb hb=>?_⟩
  ·have h1:b≠e:=λz=>hb (by simp [z])
   have h2':b≠it:=λz=>hb (by simp [z])
   exact (hs2.2 b h1).trans (hk b o h1 h2' q)
  ·exact ⟨by show 2<=sizeLine;decide,[.int i tk,u'],.cons ⟨_,rfl⟩ (.cons ru .nil),⟨_,hT2,rfl,_,rfl⟩⟩
  ·rw [I.tuple_inj hy hq]
   exact ⟨x,_,hx,rfl,hn,rfl⟩
  ·exact (hs2.2 it (Ne.symm hei)).trans q
  ·obtain ⟨o,q,_⟩:∃o,s.heap.get? b=some o/\True:=by
    rcases List.mem_cons.mp hb with z | z
    ·exact ⟨_,z ▸ he,trivial⟩
    ·have z':b=it:=by simpa using z
     obtain ⟨o,q,_⟩:=hit
     exact ⟨o,z' ▸ q,trivial⟩
   rw [upd_ne (Nat.ne_of_lt (Heap.lt_size q))]
   exact (hf b hb).1
 done:=by
  intro X hP hw hK hc i pins s σ H E I hf st hg
  subst hP hw hK
  obtain ⟨⟨old,he⟩,hit⟩:=st
  obtain ⟨xs,hq,hx⟩:=hg
  obtain ⟨its,rv,p,hz⟩:=I.tuple hq
  have hlen:=rv.length
  have hT:s.TypeIs (.ref e) "enumerate":=⟨_,he,rfl⟩
  unfold pyNext
  refine wpAny_bind (wpAny_attempt (wpAny_callSpecial?_slot (name:=Str.ofString "__next__") hT F.slot_enumerate_next (wpAny_call_entry F.slot_enumerate_next hT F.entry_enumerate_next ?_ (F.args_enumerate_next_1 _))))
  show wpAny _ _ (field (.ref e) 2 >>= _) _ _ _;refine wpAny_bind (wpAny_field he rfl (x:=.ref it) rfl ?_)
  refine wpAny_bind (tupEnd (I.ok.hd hc) hit (show s.heap.IsTuple a its.toArray from p) (by simp;omega) λh' x he' hx'=>?_)
  obtain ⟨o,ho,hc⟩:=hx'
  refine wpAny_bind (wpAny_isInstance (T:="StopIteration") (b:=true) ⟨o,ho,hc⟩ isSubtype_stop ?_)
  exact wpAny_pure ⟨rfl,I.turnAll (ch:=[e,it]) (t':=s.toks) (λb u hb q=>he' b u (λz=>hb (by simp [z])) q) hf⟩
 self:=λ_ _ _ _ _ st h=>by
  obtain ⟨⟨old,q⟩,_⟩:=st
  exact wpAny_pyIter_enum q h
section
variable {X:Cx}
def iEnum (K:PySem.W.Frag) (ta:TA):TI:=λσ H R=>ta σ H λvs H1=>∃a,vs=[.ref a]/\(∃xs,SqT K H1 a xs)/\R (Ite K a) H1
theorem pi_enum {a:Expr} {ta:TA} {p pos:Pos} {es:List Expr} {kt:Nat} {pt:Pos} (hg:Gl X "enumerate") (hm:X.mg "enumerate" = none) (ha:PA X [a] ta) (hs:starEach [a] X.env=[(false,eval a X.env)]:=by rfl) :
  PI X (.Tuple es kt pt) (.Call (.Name "enumerate" p) [a] [] pos) (iEnum X.K ta):=by
 intro pins s σ H R I h
 refine Call_ (ld_blt I hg hm boot_enumerate (PyProof.Rows.callWith_type1 (thn (ha pos pins s σ H _ I h) λus s1 ⟨vs,H1,I1,r1,q1⟩=>?_) hs rfl))
 obtain ⟨x,e,⟨xs,hq⟩,q⟩:=q1
 subst e
 obtain ⟨u,rfl,ru⟩:=vals1 r1
 cases ru
 obtain ⟨its,rv,pl,hz⟩:=I1.tuple hq
 refine callEnumT (show s1.heap.IsTuple x its.toArray from pl) λh' he hit hz kp=>?_
 have I2:Inv X pins σ H1 { s1 with heap:=h' }:=I1.kept (t':=s1.toks) kp
 refine wpAny_pyIter_enum he ⟨s1.heap.objs.size+1,[s1.heap.objs.size+1,s1.heap.objs.size],_,_,H1,rfl,I2,turn_enum x _ _ (Nat.ne_of_gt (Nat.lt_succ_self _)),⟨⟨_,he⟩,hit⟩,λb hb=>?_,q⟩
 have hb':s1.heap.objs.size<=b:=by
  rcases List.mem_cons.mp hb with z | z
  ·rw [z];exact Nat.le_succ _
  ·have z':b=s1.heap.objs.size:=by simpa using z
   rw [z'];exact Nat.le_refl _
 exact I1.fpOk hb' (I1.hok.fresh hb')
end
end L2
namespace L2
open PySem PySem.Spec PyProof.Rows
section
variable {X:Cx}
def rSetD:V->List V->Hp->VK->Prop:=λx vs H Q=>∃a kvs k v,x=.ref a/\vs=[kV k,v]/\H a=some (.dK kvs)/\kvs.length<sizeLine /\
 (∀y,valV kvs k=some y->Q y H)/\(valV kvs k=none->Q v (upd H a (.dK (putK kvs k v))))
theorem mt_setdefault:MtM X "dict.setdefault" rSetD:=by
 intro pins s σ H x vs v us Q I rx rv h
 obtain ⟨a,kvs,k,y,rfl,rfl,hH,hz,q1,q2⟩:=h
 cases rx
 obtain ⟨ku,vu,rfl,rk,ry⟩:=rv.two
 obtain ⟨z,hd,xs,rel,dd⟩:=dk_of I.hok hH
 have hl:xs.length<=sizeLine:=by rw [← rel.length];exact z
 refine call_meetsIn PySem.F.slot_dict_setdefault dd.typeIs PySem.F.entry_dict_setdefault (PySem.F.args_dict_setdefault_3 _ _ _) (kt_meets_setdefault (mixKind X.prog X.w) a (kV_is rk) hd vu) ⟨xs,dd,hl,λw hw=>?_,λhn h' dd' hs=>?_⟩
 ·have ro:=rel.val k
  rw [hw] at ro
  cases e:valV kvs k with
  | none=>rw [e] at ro;exact ro.elim
  | some b=>rw [e] at ro;exact ⟨b,H,I.tok _,ro,q1 b e⟩
 ·have ro:=rel.val k
  rw [hn] at ro
  cases e:valV kvs k with
  | some b=>rw [e] at ro;exact ro.elim
  | none =>
   have hlp:(putK kvs k y).length<=sizeLine:=by have:=length_putK kvs k y;omega
   refine ⟨y,upd H a (.dK (putK kvs k y)),d_write (t':=s.toks+1) I (by rw [hH];trivial) hs ?_ (dk_new hlp hd (rel.put k ry) dd'),ry,q2 e⟩
   obtain ⟨o,_,_,e',_⟩:=dd'
   exact ⟨o,e'⟩
end
theorem pairedAt {α β:Type} {F:α->β->Prop}:∀{l₁:List α} {l₂:List β} {i:Nat} {a:α} {b:β},Paired F l₁ l₂->l₁[i]? = some a->l₂[i]? = some b->F a b
 | _,_,_,_,_,.nil,e,_=>by simp at e
 | _,_,0,_,_,.cons r _,e,e'=>by simp at e e';subst e;subst e';exact r
 | _,_,i+1,_,_,.cons _ t,e,e'=>pairedAt (i:=i) t (by simpa using e) (by simpa using e')
theorem small24 {n:Nat} (h:n<=1000):n<=2 ^ 24:=Nat.le_trans h (by decide)
section
variable {X:Cx}
theorem pe_range1 {a:Expr} {ta:TA} {p pos:Pos} (hg:Gl X "range") (hm:X.mg "range" = none) (ha:PA X [a] ta) (hs:starEach [a] X.env=[(false,eval a X.env)]:=by rfl) :
  PE X (.Call (.Name "range" p) [a] [] pos) (λσ H Q=>ta σ H λvs H1=>∃j:Int,vs=[.int j]/\∀r,H1 r=none->Q (.ref r) (upd H1 r (.rng 0 j))):=by
 intro pins s σ H Q I h
 refine Call_ (ld_blt I hg hm boot_range (PyProof.Rows.callWith_type1 (thn (ha pos pins s σ H _ I h) λus s1 ⟨vs,H1,I1,r1,q1⟩=>?_) hs rfl))
 obtain ⟨j,e,q⟩:=q1
 subst e
 obtain ⟨u,rfl,ru⟩:=vals1 r1
 obtain ⟨t,rfl⟩:=ru
 refine call_range_1 ?_
 refine ⟨.ref s1.heap.objs.size,_,I1.laid (o:=.rng 0 j) (λb u e=>Heap.get?_push_of_some _ e) (Nat.le_refl _) ?_,rfl,q _ (I1.hok.fresh (Nat.le_refl _))⟩
 exact ⟨_,_,_,Heap.get?_push_size _ rfl⟩
theorem call_list_rng (hc:X.calm=true):CallR X (.type "list") (λxs H Q=>∃r j,xs=[.ref r]/\H r=some (.rng 0 j)/\0<=j/\j<=1000/\∀l,H l=none->Q (.ref l) (upd H l (.lst ((List.range j.toNat).map λi=>.int (i:Nat))))):=by
 intro pins s σ H xs us Q I r h
 obtain ⟨a,j,rfl,ha,h0,h1,q⟩:=h
 obtain ⟨u,rfl,ru⟩:=vals1 r
 cases ru
 obtain ⟨t,u,v,e⟩:=I.hok a _ ha
 refine call_list_range (n:=j.toNat) (I.ok.hd hc) (show IsRange s.heap a 0 j 1 t u v from e) (small_one (by omega) (by omega) (by omega) (by omega)) (by rw [rangeSize_one];split <;> omega) (small24 (by omega)) λh' tk acc c' kp hl hacc=>?_
 obtain ⟨hsz,hit⟩:=hacc
 have rv:Vals ((List.range j.toNat).map λi=>V.int (i:Nat)) acc.toList:=by
  have gen:∀(n:Nat) (l:List Value),l.length=n->(∀(j:Nat) v,l[j]? = some v->∃t,v=.int (0+(j:Int)*1) t)->Vals ((List.range n).map λi=>V.int (i:Nat)) l:=by
   intro n
   induction n with
   | zero=>intro l hl _;cases l with | nil=>exact .nil | cons=>simp at hl
   | succ n ih =>
    intro l hl hj
    have hne:l≠[]:=by intro z;rw [z] at hl;simp at hl
    have el:l=l.dropLast++[l.getLast hne]:=(List.dropLast_concat_getLast hne).symm
    rw [List.range_succ,List.map_append,el]
    refine Vals.append (ih _ (by rw [List.length_dropLast,hl];rfl) λj v e=>hj j v ?_) (.cons ?_ .nil)
    ·rw [List.getElem?_dropLast] at e
     split at e
     ·exact e
     ·cases e
    ·obtain ⟨t,e⟩:=hj n (l.getLast hne) (by rw [List.getLast_eq_getElem,List.getElem?_eq_getElem (by omega)];congr 1;simp [hl])
     exact ⟨t,by rw [e];congr 1;omega⟩
  refine gen _ _ (by rw [Array.length_toList];exact hsz) λj v e=>hit j v (by simpa using e)
 have hlen:((List.range j.toNat).map λi=>V.int (i:Nat)).length<=sizeLine:=by rw [List.length_map,List.length_range];have:=(by decide:1000<sizeLine);omega
 refine ⟨.ref s.heap.objs.size,_,I.laid (o:=.lst ((List.range j.toNat).map λi=>V.int (i:Nat))) (t':=tk) kp (Nat.le_refl _) ?_,rfl,q _ (I.hok.fresh (Nat.le_refl _))⟩
 exact ⟨hlen,acc.toList,c',rv,by rw [Array.toArray_toList];exact hl⟩
end
end L2
namespace L2
open PySem PySem.Spec PyProof.Rows
open PySem.W (Dat kqdP kqdPs kqdOk)
mutual
inductive DV (H:Hp):V->Dat->Prop
 | non:DV H .non .none
 | int (i:Int):DV H (.int i) (.int i)
 | str (x:Str):DV H (.str x) (.str x)
 | tup {a:Addr} {xs:List V} {ds:List Dat} (e:H a=some (.tup xs)) (r:DVs H xs ds):DV H (.ref a) (.tuple ds)
 | lst {a:Addr} {xs:List V} {ds:List Dat} (e:H a=some (.lst xs)) (r:DVs H xs ds):DV H (.ref a) (.list ds)
inductive DVs (H:Hp):List V->List Dat->Prop
 | nil:DVs H [] []
 | cons {x:V} {d:Dat} {xs:List V} {ds:List Dat} (h:DV H x d) (r:DVs H xs ds):DVs H (x::xs) (d::ds)
end
mutual
theorem DV.reads {P:Program} {w:World} {H:Hp} {h:Heap} (ok:HOk P w H h):∀{x:V} {d:Dat} {u:Value},DV H x d->RelV x u->∃as,Reads h u (kqdP d) as
 | _,_,_,.non,r=>by cases r;exact ⟨_,by rw [kqdP];exact Reads.none⟩
 | _,_,_,.int i,r=>by obtain ⟨t,rfl⟩:=r;exact ⟨_,by rw [kqdP];exact Reads.int i t⟩
 | _,_,_,.str x,r=>by obtain ⟨t,rfl⟩:=r;exact ⟨_,by rw [kqdP];exact Reads.str x t⟩
 | _,_,_,.tup (a:=a) e q,r=>by
  cases r
  obtain ⟨_,its,rv,o,h1,h2,n,h3⟩:=ok a _ e
  obtain ⟨as,z⟩:=DVs.reads ok q rv
  rw [kqdP]
  exact ⟨as,reads_tuple_at h1 h2 h3 (by simpa using z)⟩
 | _,_,_,.lst (a:=a) e q,r=>by
  cases r
  obtain ⟨_,its,n,rv,h1⟩:=ok a _ e
  obtain ⟨as,z⟩:=DVs.reads ok q rv
  rw [kqdP]
  exact ⟨_,reads_list_at h1 rfl rfl (by simpa using z)⟩
theorem DVs.reads {P:Program} {w:World} {H:Hp} {h:Heap} (ok:HOk P w H h):∀{xs:List V} {ds:List Dat} {us:List Value},DVs H xs ds->Vals xs us->∃as,ReadsAll h us (kqdPs ds) as
 | _,_,_,.nil,r=>by cases r;exact ⟨_,by rw [kqdPs];exact ReadsAll.nil⟩
 | _,_,_,.cons p q,r=>by
  cases r with
  | cons r1 r2 =>
   obtain ⟨as,z⟩:=DV.reads ok p r1
   obtain ⟨bs,y⟩:=DVs.reads ok q r2
   rw [kqdPs]
   exact ⟨_,ReadsAll.cons z y⟩
end
mutual
theorem DV.mono {H H':Hp} (s:∀b o,H b=some o->H' b=some o):∀{x:V} {d:Dat},DV H x d->DV H' x d
 | _,_,.non=>.non
 | _,_,.int i=>.int i
 | _,_,.str x=>.str x
 | _,_,.tup e q=>.tup (s _ _ e) (DVs.mono s q)
 | _,_,.lst e q=>.lst (s _ _ e) (DVs.mono s q)
theorem DVs.mono {H H':Hp} (s:∀b o,H b=some o->H' b=some o):∀{xs:List V} {ds:List Dat},DVs H xs ds->DVs H' xs ds
 | _,_,.nil=>.nil
 | _,_,.cons p q=>.cons (DV.mono s p) (DVs.mono s q)
end
theorem DVs.ints {H:Hp}:∀ns:List Int,DVs H (ns.map V.int) (ns.map Dat.int)
 | []=>.nil
 | n::r=>.cons (.int n) (DVs.ints r)
theorem dat_shaped {n:Nat} {d:Dat} (h:kqdOk n d=true) (hn:n<=9):SeqAt.shaped (kqdP d)=true:=by
 have l:=PySem.W.kqd_lay n d h
 unfold SeqAt.shaped
 rw [l.1,Bool.true_and]
 exact decide_eq_true (Nat.le_trans l.2 (Nat.le_trans hn (by decide)))
open Classical in
theorem dat_eqv {n k:Nat} {d e:Dat} (h:kqdOk n d=true) (h':kqdOk k e=true):PyData.eqv (kqdP d) (kqdP e)=decide (d=e):=by
 have q:=PySem.W.kqd_eqv n d e k h h'
 by_cases hq:d=e
 ·rw [decide_eq_true hq];exact q.mpr hq
 ·rw [decide_eq_false hq];exact Bool.eq_false_iff.mpr λx=>hq (q.mp x)
section
variable {X:Cx}
def rDat (neg:Bool):R2:=λx y H Q=>∃d e n,DV H x d/\DV H y e/\kqdOk n d=true/\kqdOk n e=true/\n<=9/\((d=e->Q (.bl (!neg)) H)/\(d≠e->Q (.bl neg) H))
theorem op_eqD (hu:X.A.units+64<cLine):OpR X (compareOp .Eq) (rDat false):=by
 classical
 intro pins s σ H x y v u Q I rx ry h
 obtain ⟨d,e,n,dx,dy,hd,he,hn,q1,q2⟩:=h
 obtain ⟨as,ra⟩:=dx.reads I.hok rx
 obtain ⟨bs,rb⟩:=dy.reads I.hok ry
 refine eq_dataH ra rb (dat_shaped hd hn) (dat_shaped he hn) hu ?_
 rw [dat_eqv hd he]
 by_cases hq:d=e
 ·rw [decide_eq_true hq];exact ⟨.bl true,H,I,rfl,q1 hq⟩
 ·rw [decide_eq_false hq];exact ⟨.bl false,H,I,rfl,q2 hq⟩
theorem op_neD (hu:X.A.units+64<cLine):OpR X (compareOp .NotEq) (rDat true):=by
 classical
 intro pins s σ H x y v u Q I rx ry h
 obtain ⟨d,e,n,dx,dy,hd,he,hn,q1,q2⟩:=h
 obtain ⟨as,ra⟩:=dx.reads I.hok rx
 obtain ⟨bs,rb⟩:=dy.reads I.hok ry
 refine ne_dataH ra rb (dat_shaped hd hn) (dat_shaped he hn) hu ?_
 rw [dat_eqv hd he]
 by_cases hq:d=e
 ·rw [decide_eq_true hq];exact ⟨.bl false,H,I,rfl,q1 hq⟩
 ·rw [decide_eq_false hq];exact ⟨.bl true,H,I,rfl,q2 hq⟩
theorem call_isinst:CallR X (.builtin "isinstance") (λxs H Q=>∃x T t b,xs=[x,.ty T]/\TyOf X.K H x (.type t)/\PySem.W.kitOne X.K (.type t) (.type T)=some b/\Q (.bl b) H):=by
 intro pins s σ H xs us Q I r h
 obtain ⟨x,T,t,b,rfl,ty,e,q⟩:=h
 obtain ⟨u,c,rfl,ru,rc⟩:=vals2 r
 cases (show c=Value.type T from rc)
 exact isinst_ok I ru ty e λtk=>⟨.bl b,H,I.tok _,rfl,q⟩
end
end L2
namespace SortT
open PySem PySem.W PyProof.Rows
structure Ord (f:Nat->Nat->Bool):Prop where
 asym:∀i j,f i j=true->f j i=false
 tr:∀i j k,f j i=false->f k j=false->f k i=false
section
variable {f:Nat->Nat->Bool} (O:Ord f)
def Le (f:Nat->Nat->Bool) (i j:Nat):Prop:=f j i=false
include O in
theorem le_refl (i:Nat):Le f i i:=by
 unfold Le
 cases h:f i i with
 | false=>rfl
 | true=>have:=O.asym i i h;rw [h] at this;cases this
theorem Le.trans {i j k:Nat} (O:Ord f) (h:Le f i j) (h':Le f j k):Le f i k:=O.tr i j k h h'
theorem Le.of {i j:Nat} (O:Ord f) (h:f i j=true):Le f i j:=O.asym i j h
abbrev at_ (p:Array Nat) (i:Nat):Nat:=p.getD i 0
end
end SortT
namespace SortT
open PySem PySem.W PyProof.Rows
def AllT {α:Type} (P:Nat->Nat->Prop) (R:α->Prop):KasT α->Prop
 | .ret a=>R a
 | .ask i j k=>P i j/\∀b,AllT P R (k b)
theorem AllT.bind {α β:Type} {P:Nat->Nat->Prop} {R:α->Prop} {S:β->Prop} {g:α->KasT β}:∀{t:KasT α},AllT P R t->(∀a,R a->AllT P S (g a))->AllT P S (t.bind g)
 | .ret a,h,hg=>hg a h
 | .ask i j k,h,hg=>⟨h.1,λb=>AllT.bind (h.2 b) hg⟩
section
variable {N:Nat}
def Bd (N:Nat) (p:Array Nat):Prop:=0<N/\∀x∈p.toList,x<N
theorem Bd.at {p:Array Nat} (h:Bd N p) (i:Nat):p.getD i 0<N:=by
 rw [Array.getD_eq_getD_getElem?]
 cases e:p[i]? with
 | none=>exact h.1
 | some x=>exact h.2 x (by rw [← Array.getElem?_toList] at e;exact List.mem_of_getElem? e)
theorem Bd.perm {p q:Array Nat} (h:Bd N p) (hp:q.Perm p):Bd N q:=⟨h.1,λx hx=>h.2 x ((Array.perm_iff_toList_perm.mp hp).mem_iff.mp hx)⟩
end
section
variable {prog:Program} {w:World} {A:Around} {E:Value->Shared->Prop} {s:Shared}
end
end SortT
namespace L2
open PySem PySem.Spec PyProof.Rows
theorem ObjOk.there {P:Program} {w:World} {H:Hp} {h:Heap} {a:Addr} {o:HO} (x:ObjOk P w H h a o):∃ob,h.get? a=some ob:=by
 cases o with
 | lst xs=>obtain ⟨_,_,_,_,e⟩:=x;exact ⟨_,e⟩
 | tup xs=>obtain ⟨_,_,_,o,e,_⟩:=x;exact ⟨_,e⟩
 | dK kvs=>obtain ⟨_,_,_,_,o,_,_,e,_⟩:=x;exact ⟨_,e⟩
 | dT kvs=>obtain ⟨_,_,_,_,o,_,_,e,_⟩:=x;exact ⟨_,e⟩
 | set S n=>obtain ⟨o,_,_,_,e,_⟩:=x;exact ⟨_,e⟩
 | ins C dx fs=>obtain ⟨_,_,_,e,_⟩:=x;exact ⟨_,e⟩
 | own y=>exact x
 | xd fs=>obtain ⟨_,⟨_,_,_,e,_⟩,_⟩:=x;exact ⟨_,e⟩
 | rng lo hi=>obtain ⟨_,_,_,e⟩:=x;exact ⟨_,e⟩
 | frz ob u=>obtain ⟨e,_⟩:=x;exact ⟨_,e⟩
 | tbl ps=>obtain ⟨_,e,_⟩:=x;exact ⟨_,e⟩
 | met f y=>exact ⟨_,(show h.get? a=some _ from x)⟩
 | ext φ=>obtain ⟨_,e,_⟩:=x;exact e
section
variable {X:Cx}
end
end L2
namespace L2
open PySem PySem.Spec PyProof.Rows
theorem Same.put {H H':Hp} {a:Addr} {o:HO} (s:Same H H') (h:H a=none):Same H (upd H' a o):=λb u e=>by rw [upd_ne (ne_of_none e h)];exact s b u e
theorem Same.new {H H':Hp} {a:Addr} {o:HO} (s:Same H H') (h:H' a=none):Same H (upd H' a o):=s.put (s.free h)
end L2
namespace L2
open PySem PySem.Spec PyProof.Rows
theorem kV_back {P:Program} {w:World} {k:Key} {u:Value} (h:(mixKind P w).is k u=true):RelV (kV k) u:=by
 rw [mixKind_is] at h
 rcases keyIs_shape h with ⟨i,t,rfl,rfl⟩ | ⟨x,t,rfl,rfl⟩
 ·exact ⟨t,rfl⟩
 ·exact ⟨t,rfl⟩
def Itk (d:Addr) (o:Obj) (kvs:List (Key × V)):It :=
 ⟨λi H=>H d=some (.frz o (.dK kvs))/\i<kvs.length,λi H x H'=>H'=H/\∃k v,kvs[i]? = some (k,v)/\x=kV k,λi H=>H d=some (.frz o (.dK kvs))/\kvs.length<=i⟩
theorem turn_keys {P:Program} {w:World} {K:PySem.W.Frag} {tg:Expr} (d it:Addr) (o:Obj) (kvs:List (Key × V)) (vs:List (Key × Value)) (ep:Nat) (rel:KV kvs vs) (hdi:d≠it)
  (hd:∀h:Heap,h.get? d=some o->h.DictAt (mixKind P w) d vs ep) :
  Turn P w K tg (Itk d o kvs) [it] it (λi h=>h.IsKeyIter it d i vs.length ep) where
 mem:=by simp
 obj:=λi h st b hb=>by
  have e:b=it:=by simpa using hb
  subst e
  obtain ⟨o,e,c,d⟩:=st
  exact ⟨o,e,λv z=>by rw [d] at z;cases z⟩
 keep:=λi h h' st k=>by
  obtain ⟨o,e,c,d⟩:=st
  exact ⟨o,k it (by simp) o e,c,d⟩
 item:=by
  intro X hP hw hK hc i pins s σ H E I hf st hg
  subst hP hw hK
  obtain ⟨hH,hlt⟩:=hg
  obtain ⟨e1,_⟩:=I.hok d _ hH
  obtain ⟨⟨k,y⟩,hx⟩:∃p,kvs[i]? = some p:=⟨kvs[i],by simp [hlt]⟩
  have hlen:kvs.length=vs.length:=Paired.length rel
  obtain ⟨⟨k',u⟩,hu⟩:∃p,vs[i]? = some p:=⟨vs[i]'(by omega),by simp [show i<vs.length by omega]⟩
  have rk:k=k':=(pairedAt rel hx hu).1
  subst rk
  obtain ⟨f0,f1,f2,f3,f4,f5⟩:=hf it (by simp)
  refine wpAny_pyNext_dict_item st (hd _ e1) hu λkey h' hk st' sb=>?_
  have I1:Inv X pins σ H { s with heap:=h' }:=I.turned (t':=s.toks) (λb o hb e=>(sb.2 b hb).trans e) f0 f1 f3 f4 f5
  obtain ⟨oi,e,c,dd⟩:=id st'
  exact ⟨key,rfl,go_of (s:={ s with heap:=h' }) e c dd (by decide) ⟨kV k,H,I1,kV_back hk,⟨rfl,k,y,hx,rfl⟩,st',λb hb=>(hf b hb).1⟩⟩
 done:=by
  intro X hP hw hK hc i pins s σ H E I hf st hg
  subst hP hw hK
  obtain ⟨hH,hge⟩:=hg
  obtain ⟨e1,_⟩:=I.hok d _ hH
  have hlen:kvs.length=vs.length:=Paired.length rel
  obtain ⟨f0,f1,f2,f3,f4,f5⟩:=hf it (by simp)
  exact wpAny_pyNext_dict_end (I.ok.hd hc) st (hd _ e1) (List.getElem?_eq_none (by omega)) λh' eb=>⟨rfl,I.turned (t':=s.toks) (λb o hb e=>eb b o hb e) f0 f1 f3 f4 f5⟩
 self:=λ_ _ _ _ _ st h=>wpAny_pyIter_keyiter st h
section
variable {X:Cx}
def iKeys (to:TE):TI:=λσ H R=>to σ H λx H1=>∃d kvs,x=.ref d/\H1 d=some (.dK kvs)/\∀o,R (Itk d o kvs) (upd H1 d (.frz o (.dK kvs)))
theorem pi_keys {tg o:Expr} {to:TE} (ho:PE X o to):PI X tg o (iKeys to):=by
 intro pins s σ H R I h
 refine thn (ho pins s σ H _ I h) λv s1 ⟨x,H1,I1,r1,d,kvs,e,hd,q⟩=>?_
 subst e
 cases r1
 obtain ⟨z,hs,vs,rel,dd⟩:=dk_of I1.hok hd
 obtain ⟨ep,da⟩:=dd.dictAt
 obtain ⟨ob,es,hob,dr⟩:=id da
 refine wpAny_pyIter_dict (knd:=mixKind X.prog X.w) (d:=d) (kvs:=vs) (ep:=ep) hs ⟨ob,es,hob,dr⟩ ?_
 have I3:=I1.kept (h':=s1.heap.push { cls:=.type "dict_keyiterator",data:=.fields #[.ref d,.int 0 0,.int vs.length 0,.int ep 0] }) (t':=s1.toks) λb u e=>Heap.get?_push_of_some _ e
 have hob3:=Heap.get?_push_of_some (h:=s1.heap) { cls:=.type "dict_keyiterator",data:=.fields #[.ref d,.int 0 0,.int vs.length 0,.int ep 0] } hob
 have I4:=I3.write (x:=d) (e:=d) (o:=.frz ob (.dK kvs)) (t':=s1.toks) (by rw [hd];trivial) (.inl rfl) (λb u _ q=>q) ⟨_,hob3⟩
  (show ObjOk X.prog X.w _ _ d (.frz ob (.dK kvs)) from ⟨hob3,z,hs,vs,rel,ob,es,ep,hob3,dr⟩)
 have hlt:d<s1.heap.objs.size:=Heap.lt_size hob
 refine ⟨s1.heap.objs.size,[s1.heap.objs.size],_,_,_,rfl,I4,
  turn_keys d _ ob kvs vs ep rel (Nat.ne_of_lt hlt) (λh e=>⟨ob,es,e,dr⟩),⟨_,Heap.get?_push_size _ rfl,rfl,rfl⟩,λb hb=>?_,q ob⟩
 have e:b=s1.heap.objs.size:=by simpa using hb
 subst e
 exact I1.fpOk (Nat.le_refl _) (by rw [upd_ne (Nat.ne_of_gt hlt)];exact I1.hok.fresh (Nat.le_refl _))
end
end L2
namespace HT
open PySem PySem.Spec PyProof.Rows L2
section
variable {prog:Program} {w:World} {A:Around} {E:Value->Shared->Prop} {s:Shared}
theorem cat_tup0 {t b:Addr} {ws:List Value} {Q:Value->Shared->Prop} (ht:IsTup s.heap t ([]:List Value).toArray) (hb:IsTup s.heap b ws.toArray) (h1:Q (.ref b) s):wpAny (model prog w) A (binaryOp .Add (.ref t) (.ref b)) Q E s:=by
 obtain ⟨⟨cls,dd,data,sl⟩,ho,hc,n,hd⟩:=id ht
 obtain ⟨⟨cls2,dd2,data2,sl2⟩,ho2,hc2,n2,hd2⟩:=id hb
 simp only at hc hd hc2 hd2
 subst hc hd hc2 hd2
 exact concat_meets ⟨_,ho,rfl⟩ ⟨_,ho2,rfl⟩ noFill_tuple_add seq_tuple_add PySem.F.slot_tuple_add PySem.F.entry_tuple_add (PySem.F.args_tuple_add_2 _ _)
   (tuple_addW0 t b ([]:List Value).toArray ws.toArray n n2 dd dd2 sl sl2 rfl) ⟨ho,ho2,h1⟩
theorem getItem_tuple_whole {t sl:Addr} {items:Array Value} {vl vu:Value} {lo hi:Option Int} {Q:Value->Shared->Prop} (ht:IsTup s.heap t items) (hs:s.heap.IsSliceOf sl vl vu .none) (pl:IsPart vl lo) (pu:IsPart vu hi)
  (hw:sIx items.size 0 lo=0/\sIx items.size items.size hi=items.size)
  (h:Q (.ref t) s):wpAny (model prog w) A (getItem (.ref t) (.ref sl)) Q E s:=by
 obtain ⟨os,hos,hcs,hds⟩:=id hs
 have hTs:s.TypeIs (.ref sl) "slice":=⟨os,hos,hcs⟩
 unfold getItem
 try with_reducible refine wpAny_holding ?_
 first | refine wpAny_bind (wpAny_pure ?_) | skip
 refine wpAny_bind (wpAny_sequenceKey ht.typeIs (by decide) ?_)
 refine wpAny_bind (wpAny_callSpecial?_slot (name:=Str.ofString "__getitem__") ht.typeIs PyProof.Rows.slot_tuple_getitem
  (wpAny_call_entry PyProof.Rows.slot_tuple_getitem ht.typeIs entry_tuple_getitem ?_ (args_tuple_getitem _ _)))
 show wpAny _ _ (Builtin.Tuple.tupleItemsOf (.ref t) >>= _) _ _ s
 refine wpAny_bind (tupleItemsOf_ ht ?_)
 refine wpAny_bind (wpAny_typeOf hTs ?_)
 rw [if_pos (by decide)]
 refine wpAny_bind (sliceApplied_gen hs pl pu ?_)
 have hyes:(((sIx items.size 0 lo:Nat):Int) == 0 && (1:Int) == 1 && (sIx items.size items.size hi-sIx items.size 0 lo) == items.size)=true:=by
  rw [hw.1,hw.2];simp
 show wpAny _ _ (if (((sIx items.size 0 lo:Nat):Int) == 0 && (1:Int) == 1 && (sIx items.size items.size hi-sIx items.size 0 lo) == items.size)=true then _ else _) _ _ s
 rw [if_pos hyes]
 refine wpAny_bind (wpAny_bind (wpAny_typeOf ht.typeIs (wpAny_pure ?_)))
 rw [if_pos (by decide)]
 refine wpAny_bind (wpAny_rule ?_)
 first
  | exact wpAny_bind (wpAny_pure (wpAny_pure ⟨_,rfl,wpAny_pure h⟩))
  | exact wpAny_pure ⟨_,rfl,wpAny_pure h⟩
  | exact wpAny_bind (wpAny_pure ⟨_,rfl,wpAny_pure h⟩)
end
end HT
namespace L2
open PySem PySem.Spec PyProof.Rows
section
variable {X:Cx}
def rCat0 (K:PySem.W.Frag):R2:=λx y H Q=>∃a b ys,x=.ref a/\y=.ref b/\SqT K H a []/\SqT K H b ys/\Q (.ref b) H
theorem op_cat0:OpR X (binaryOp .Add) (rCat0 X.K):=by
 intro pins s σ H x y v u Q I rx ry h
 obtain ⟨a,b,ys,rfl,rfl,ha,hb,q⟩:=h
 cases rx
 cases ry
 obtain ⟨its,r1,p1,_⟩:=I.tuple ha
 obtain ⟨its2,r2,p2,_⟩:=I.tuple hb
 have:its=[]:=by cases r1;rfl
 subst this
 exact HT.cat_tup0 p1 p2 ⟨.ref b,H,I,rfl,q⟩
def rSlW (K:PySem.W.Frag):V->Option Int->Option Int->Hp->VK->Prop:=λx lo hi H Q=>∃a xs,x=.ref a/\SqT K H a xs /\
 (HT.sIx xs.length 0 lo=0/\HT.sIx xs.length xs.length hi=xs.length)/\Q (.ref a) H
theorem sl_tupW:SlR X (rSlW X.K):=by
 intro pins s σ H x v vl vu lo hi sl Q I rx hs pl pu h
 obtain ⟨a,xs,rfl,hx,hw,q⟩:=h
 cases rx
 obtain ⟨its,r,ht,hz⟩:=I.tuple hx
 have hlen:its.toArray.size=xs.length:=by rw [List.size_toArray];exact r.length.symm
 refine ⟨"tuple",_,PyProof.Rows.slot_tuple_getitem.lookup,ht.typeIs,?_⟩
 exact HT.getItem_tuple_whole ht hs pl pu (by rw [hlen];exact hw) ⟨.ref a,H,I,rfl,q⟩
end
end L2
namespace HT
open PySem PySem.Spec PyProof.Rows L2
section
variable {prog:Program} {w:World} {K:Type} [DecidableEq K] {knd:KeyKind prog w K} {A:Around} {E:Value->Shared->Prop} {s:Shared}
end
section
variable {prog:Program} {w:World} {A:Around} {E:Value->Shared->Prop} {s:Shared}
end
section
variable {prog:Program} {w:World} {K:Type} [DecidableEq K] {knd:KeyKind prog w K} {A:Around} {E:Value->Shared->Prop} {s:Shared}
end
end HT
namespace L2
open PySem PySem.Spec PyProof.Rows
section
variable {X:Cx}
end
end L2
namespace L2
open PySem PySem.Spec PyProof.Rows
section
variable {X:Cx}
def FT (x:V) (H:Hp):Prop:=∃p o xs,x=.ref p/\H p=some (.frz o (.tup xs))/\o.dict=none
theorem FT.is {pins:List (Addr × Obj)} {σ:St} {H:Hp} {s:Shared} {x:V} {v:Value} (I:Inv X pins σ H s) (r:RelV x v) (h:FT x H) :
  s.TypeIs v "tuple" /\ ∀a,v=.ref a->∃ob,s.heap.get? a=some ob/\ob.dict=none:=by
 obtain ⟨p,o,xs,rfl,h1,h2⟩:=h
 cases r
 obtain ⟨e,_,its,_,o',e',c,n,d⟩:=I.hok p _ h1
 rw [e] at e'
 cases e'
 exact ⟨⟨o,e,c⟩,λa ea=>by cases ea;exact ⟨o,e,h2⟩⟩
variable {o e:Expr} {es:List Expr} {to:TE} {t:TA} {name:Str} {apos cpos:Pos} {T id:String} {r:V->List V->Hp->VK->Prop}
end
end L2
namespace L2
open PySem PySem.Spec PyProof.Rows
section
variable {prog:Program} {w:World} {A:Around} {R:Result->Shared->Prop} {s:Shared}
theorem compLoop_tests {elt target iter:Expr} {ifs:List Expr} {scope:Scope} {pos:Pos} {it acc:Value} {env:Env} (I:Nat->Shared->Prop)
  (turn:∀n s,I n s->wpAny (model prog w) A (pyNext it) (λr s₁=>match r with
   | none=>R (.ok .next) s₁
   | some v=>wpAny (model prog w) A (letOwnedTupleGo target it v) (λ_ s₀=>wpAny (model prog w) A (assign target env v) (λ_ s₂ =>
     wpAny (model prog w) A (forIn ifs true λc r=>if r=true then do let ok ← isTrue c env (eval c env);pure (ForInStep.yield ok) else pure (ForInStep.yield r)) (λok s₃ =>
      if ok=true then wpAny (model prog w) A (eval elt env) (λx s₄ =>
       wpAny (model prog w) A (call (.builtin "list.append") [acc,x]) (λ_ s₅=>∃m,m<n/\I m s₅) (notedBy (model prog w) A env λe s'=>R (.error e) s') s₄) (notedBy (model prog w) A env λe s'=>R (.error e) s') s₃
      else ∃m,m<n/\I m s₃) (notedBy (model prog w) A env λe s'=>R (.error e) s') s₂) (notedBy (model prog w) A env λe s'=>R (.error e) s') s₀) (notedBy (model prog w) A env λe s'=>R (.error e) s') s₁) (notedBy (model prog w) A env λe s'=>R (.error e) s') s)
  (n:Nat) (h:I n s):codeAny (model prog w) A (.compLoop (.ListComp elt [⟨target,iter,ifs,0⟩] scope pos) 0 it acc env) R s:=by
 refine codeAny_loop rfl I (λn s hI=>?_) n h
 show wpAny _ A ((compTurn (.ListComp elt [⟨target,iter,ifs,0⟩] scope pos) 0 it acc env).onRaise (λx=>do noteFrame x env;theTreesLotGoes x)) _ _ s
 refine wpAny_noted ?_
 rw [compTurn_list]
 refine wpAny_bind (wpAny_standAt (wpAny_bind (wpAny_mono (turn n s hI) (λr s₁ h₁=>?_) λ_ _ h'=>h')))
 cases r with
 | none=>exact wpAny_pure h₁
 | some v =>
  refine wpAny_bind (wpAny_mono h₁ (λ_ s₀ h₀=>?_) λ_ _ h'=>h')
  refine wpAny_bind (wpAny_mono h₀ (λ_ s₂ h₂=>wpAny_bind (wpAny_mono h₂ (λok s₃ h₃=>?_) λ_ _ h'=>h')) λ_ _ h'=>h')
  cases ok with
  | false=>exact wpAny_pure ⟨rfl,h₃⟩
  | true =>
   exact wpAny_bind (wpAny_bind (wpAny_mono h₃ (λx s₄ h₄=>wpAny_bind (wpAny_mono h₄ (λ_ s₅ h₅=>wpAny_pure (wpAny_pure ⟨rfl,h₅⟩)) λ_ _ h'=>h')) λ_ _ h'=>h'))
end
def bN2 (N:List Str) (ts:List Str) (ix:List Nat):List Str:=ts++ix.map λi=>N.getD i Str.empty
def bS2 (σ:St) (o:List (Option V)) (ix:List Nat):St:=o++ix.map λi=>(σ[i]?).getD none
section
variable {X:Cx}
theorem comp_blk2 {elt iter:Expr} {x:Str} {ts:List Str} {tg:Expr} {gt:TG} {pos:Pos} {scope:Scope} {te:TE} {tt:TT} {ifs:List Expr} {ix:List Nat} {pins:List (Addr × Obj)} {s:Shared} {σ:St} {H:Hp} {cl:List (Str × Addr)}
  {J:It} {fp:List Addr} {it:Addr} {tn:Nat->Heap->Prop} {E:Value->Shared->Prop} {RR:Value->Addr->Result->Shared->Prop} {G:List V->Hp->Prop}
  (I:Inv X pins σ H s) (hc:X.calm=true) (B:BlkScope X.env scope x) (h1:∀y c,cl.lookup y=some c->X.env.cells.lookup y=some c) (h3:∀y∈scope.names,y.2=.free->∃c,cl.lookup y.1=some c)
  (hix:∀i∈ix,∃y,X.N[i]? = some y/\scope.names.lookup y=some .free) (hN:(bN2 X.N ts ix).Nodup)
  (T:Turn X.prog X.w X.K tg J fp it tn) (st:tn 0 s.heap) (hf:∀b∈fp,FpOk X pins H b)
  (hg:∀cl C s₀ H₀ fp,PG (cxBlk X scope cl C (bN2 X.N ts ix) s₀ H₀ fp) tg gt)
  (he:∀cl C s₀ H₀ fp,PE (cxBlk X scope cl C (bN2 X.N ts ix) s₀ H₀ fp) elt te)
  (hi:∀cl C s₀ H₀ fp,PIfs (cxBlk X scope cl C (bN2 X.N ts ix) s₀ H₀ fp) ifs tt)
  (W:Nat->Nat->List V->Hp->Prop) (m₀:Nat) (w0:W 0 m₀ [] H)
  (turn:∀i m ys H,W i m ys H->(J.stop i H/\ys.length<=sizeLine/\G ys H)\/(J.go i H/\ys.length<sizeLine/\∀v H',J.yld i H v H'->∀o:List (Option V),o.length=ts.length->gt v (bS2 σ o ix) H' λσ2 H2=>∃o2:List (Option V),σ2=bS2 σ o2 ix/\o2.length=ts.length /\
    tt σ2 H2 λb H1=>if b=true then te σ2 H1 λy H2=>∃m',m' < m/\W (i+1) m' (ys++[y]) H2 else ∃m',m' < m/\W (i+1) m' ys H1))
  (hRR:∀D C s' ys H',Inv X pins σ (upd H' D (.lst ys)) s'->H' D=none->H' C=none->(∃m,s'.heap.Ns C m)->s.heap.objs.size<=C->D≠C->G ys H'->RR (.ref D) C (.ok .next) s') :
  wpAny (model X.prog X.w) X.A (newList []) (λacc s₃=>wpAny (model X.prog X.w) X.A (newFunctionEnv scope X.env.globals cl [] X.env.qual none .none (some X.env)) (λcenv s₄ =>
   codeAny (model X.prog X.w) X.A (.compStart (.ListComp elt [⟨tg,iter,ifs,0⟩] scope pos) 0 (.ref it) acc { cenv with scope:=relabel scope X.env }) (RR acc cenv.locals) s₄) E s₃) E s:=by
 have hl:∀b∈fp,b<s.heap.objs.size:=λb hb=>by obtain ⟨o,e,_⟩:=T.obj 0 _ st b hb;exact Heap.lt_size e
 refine wpAny_newObj_type (wpAny_newFunctionEnv B.cells (by intro y hy;simp at hy) (λh₁ hns₁ hsb₁=>?_) B.kind)
 dsimp only at hns₁ hsb₁ ⊢
 generalize hH2:s.heap.push { cls:=.type "list",dict:=none,data:=.seq ([]:List Value).toArray }=H2 at hns₁ hsb₁ ⊢
 have hC:H2.objs.size=s.heap.objs.size+1:=by rw [← hH2,Heap.size_push]
 generalize hD:s.heap.objs.size=D at hC hl hRR ⊢
 generalize hCC:H2.objs.size=C at hC hns₁ hsb₁ ⊢
 have hDC:D≠C:=by omega
 have old:∀b o,s.heap.get? b=some o->h₁.get? b=some o:=λb o e=>hsb₁.extBut b o (Nat.ne_of_lt (by have z:=Heap.lt_size e;rw [hD] at z;exact Nat.lt_of_lt_of_le z (by rw [hC];exact Nat.le_succ _))) (Heap.get?_push_of_some _ (hH2 ▸ Heap.get?_push_of_some _ e))
 have hacc:h₁.get? D=some { cls:=.type "list",data:=.seq ([]:List Value).toArray 0 }:=hsb₁.extBut _ _ hDC (Heap.get?_push_of_some _ (hH2 ▸ (by rw [← hD];exact Heap.get?_push_size _ rfl)))
 have hfr:∀a,D<=a->s.heap.get? a=none:=λa ha=>by
  cases e:s.heap.get? a with
  | none=>rfl
  | some o=>exact absurd (Heap.lt_size e) (by rw [hD];exact Nat.not_lt.mpr ha)
 have hHn:∀a,D<=a->H a=none:=λa ha=>I.hok.fresh (by omega)
 have ok:(cxBlk X scope cl C (bN2 X.N ts ix) s H fp).Ok:=blk_ok I B h1 h3 (by omega) hf (by rw [hD];exact hl)
 generalize hK:cxBlk X scope cl C (bN2 X.N ts ix) s H fp=K at ok
 have kp:K.prog=X.prog:=by rw [← hK];rfl
 have kw:K.w=X.w:=by rw [← hK];rfl
 have kK:K.K=X.K:=by rw [← hK];rfl
 have kA:K.A=X.A:=by rw [← hK];rfl
 have kc:K.calm=true:=by rw [← hK];exact hc
 have kN:K.N=bN2 X.N ts ix:=by rw [← hK];rfl
 have kenv:K.env=compEnvC scope cl C X.env:=by rw [← hK];rfl
 have kloc:K.env.locals=C:=by rw [← hK];rfl
 have kfs:K.fs=frs X.stack:=by rw [← hK];rfl
 have kex:K.ex=fp:=by rw [← hK];rfl
 have kpn:K.pn=[]:=by rw [← hK];rfl
 have ks:K.s₀=s:=by rw [← hK];rfl
 have kH:K.H₀=H:=by rw [← hK];rfl
 have kx:K.xe=λ_ _=>False:=by rw [← hK];rfl
 have kcl:K.env.cells=cl:=by rw [← hK];rfl
 have cellLt:∀y c,cl.lookup y=some c->c<D:=λy c q=>by obtain ⟨v,z⟩:=I.cell y c (h1 y c q);rw [← hD];exact z.lt
 have stkLt:∀b∈frs X.stack,b<D:=λb hb=>by
  rcases List.mem_cons.mp (I.stkSub b hb) with q | q
  ·rw [q,← hD];exact I.lt
  ·rcases Nat.lt_or_ge b D with z | z
   ·exact z
   ·exact absurd q (I.nofs (by omega))
 -- the state at the block's begin
 have I0:∀tk,Inv K [(D,{ cls:=.type "list",data:=.seq ([]:List Value).toArray 0 })] (bS2 σ (ts.map λ_=>none) ix) H { s with heap:=h₁,toks:=tk }:=λtk=>by
  refine ⟨ok,by rw [ks],I.bare,by rw [ks,kH];exact Un.kept old,?_,?_,?_,?_,?_,by rw [kp,kw];exact I.hok.kept old,?_⟩
  ·refine ⟨_,by rw [kloc];exact hns₁,λi y v e1 e2 e3=>?_⟩
   rw [kN] at e1
   by_cases hlt:i<ts.length
   ·unfold bS2 at e2
    rw [List.getElem?_append_left (by simpa using hlt),List.getElem?_map] at e2
    cases hts:ts[i]? with
    | none=>rw [hts] at e2;cases e2
    | some y'=>rw [hts] at e2;have e2:(some (none:Option V))=some (some v):=e2;cases e2
   ·obtain ⟨i,rfl⟩:∃i',i=ts.length+i':=⟨i-ts.length,by omega⟩
    have e1':(ix.map λi=>X.N.getD i Str.empty)[i]? = some y:=by
     unfold bN2 at e1
     rw [List.getElem?_append_right (by omega),show ts.length+i-ts.length=i by omega] at e1
     exact e1
    have e2':(ix.map λi=>(σ[i]?).getD none)[i]? = some (some v):=by
     unfold bS2 at e2
     rw [List.getElem?_append_right (by rw [List.length_map];omega),List.length_map,show ts.length+i-ts.length=i by omega] at e2
     exact e2
    rw [List.getElem?_map] at e1' e2'
    cases q:ix[i]? with
    | none=>rw [q] at e1';cases e1'
    | some j =>
     rw [q] at e1' e2'
     obtain ⟨y',a1,a2⟩:=hix j (List.mem_of_getElem? q)
     have a3:X.N.getD j Str.empty=y':=by simp [List.getD,a1]
     have ey:y'=y:=by rw [← a3];exact Option.some.inj e1'
     subst ey
     have es:σ[j]? = some (some v):=by
      have z:(σ[j]?).getD none=some v:=Option.some.inj e2'
      cases w:σ[j]? with
      | none=>rw [w] at z;cases z
      | some o=>rw [w] at z;have z':o=some v:=z;rw [z']
     obtain ⟨m,hn,hlk⟩:=I.loc
     have hk:=B.free (y',.free) (PySem.mem_of_lookup a2) rfl
     have hk:X.env.kindOf y'=some .cell\/X.env.kindOf y'=some .free:=hk
     have vis:Vis X.env.scope y':=hk.elim (λz=>.inr (.inl z)) λz=>.inr (.inr z)
     obtain ⟨u,ru,lk⟩:=hlk j y' v a1 es vis
     refine ⟨u,ru,?_⟩
     rcases lk with ⟨k,_⟩ | ⟨_,c,ec,ce⟩
     ·rcases hk with z | z <;> (rw [k] at z;cases z)
     ·obtain ⟨c',ec'⟩:=h3 (y',.free) (PySem.mem_of_lookup a2) rfl
      have ec':cl.lookup y'=some c':=ec'
      have:c'=c:=Option.some.inj ((h1 y' c' ec').symm.trans ec)
      subst this
      refine .inr ⟨?_,c',by rw [kcl];exact ec',?_⟩
      ·show K.env.scope.names.lookup y'=_\/K.env.scope.names.lookup y'=_
       rw [kenv]
       exact lookup_relabel_free a2
      ·obtain ⟨oc,hoc,r⟩:=ce
       exact ⟨oc,old _ _ hoc,r⟩
  ·intro y c q
   rw [kcl] at q
   obtain ⟨v,oc,hoc,r⟩:=I.cell y c (h1 y c q)
   exact ⟨v,oc,old _ _ hoc,r⟩
  ·rw [kloc];exact hHn _ (by omega)
  ·intro y c q
   rw [kcl] at q
   exact I.freeC y c (h1 y c q)
  ·intro p hp
   rw [kpn] at hp
   have e:p=(D,{ cls:=.type "list",data:=.seq ([]:List Value).toArray 0 }):=by simpa using hp
   subst e
   refine ⟨hacc,hHn _ (Nat.le_refl _),by rw [kloc];exact hDC,?_,λv z=>?_⟩
   ·rw [kfs];intro z;exact absurd (stkLt D z) (Nat.lt_irrefl _)
   ·have z':Data.seq _ _=Data.cell v:=z
    cases z'
  ·rw [kN];simp [bS2,bN2]
 have stat:∀{H':Hp} {ob:Obj},(∀b∈fp,H' b=none)->∀b∈fp,FpOk K [(D,ob)] H' b:=λ{H' ob} hn b hb=>by
  refine ⟨hn b hb,?_,?_,.inl (by rw [kex];exact hb),?_,?_⟩
  ·rw [kloc];exact Nat.ne_of_lt (Nat.lt_of_lt_of_le (hl b hb) (by rw [hC];exact Nat.le_succ _))
  ·rw [kfs];intro z
   rcases List.mem_cons.mp (I.stkSub b z) with q | q
   ·exact (hf b hb).2.1 q
   ·exact (hf b hb).2.2.1 q
  ·intro y c q;rw [kcl] at q;exact (hf b hb).2.2.2.2.1 y c (h1 y c q)
  ·intro p hp;rw [kpn] at hp
   have e:p=(D,ob):=by simpa using hp
   subst e
   exact Nat.ne_of_gt (hl b hb)
 have st₁:tn 0 h₁:=T.keep _ _ _ st λb hb o e=>old b o e
 have loop:∀tk,codeAny (model X.prog X.w) X.A (.compLoop (.ListComp elt [⟨tg,iter,ifs,0⟩] scope pos) 0 (.ref it) (.ref D) (compEnvC scope cl C X.env)) (RR (.ref D) C) { s with heap:=h₁,toks:=tk }:=by
  intro tk
  refine compLoop_tests (λn s'=>∃i o H' ys its c,o.length=ts.length/\Inv K [(D,{ cls:=.type "list",data:=.seq (its:List Value).toArray c })] (bS2 σ o ix) H' s'/\Vals ys its/\tn i s'.heap/\(∀b∈fp,H' b=none)/\W i n ys H') ?_ m₀
   ⟨0,ts.map (λ_=>none),H,[],[],0,by simp,I0 tk,.nil,st₁,λb hb=>(hf b hb).1,w0⟩
  rintro n s1 ⟨i,o,H1,ys,its,c,ol,I1,rv,t1,f1,w1⟩
  rcases turn i n ys H1 w1 with ⟨stop,hz,g⟩ | ⟨go,hz,step⟩
  ·have dn:=T.done K kp kw kK kc i _ s1 _ H1 (notedBy (model X.prog X.w) X.A (compEnvC scope cl C X.env) λe s'=>RR (.ref D) C (.error e) s') I1 (stat f1) t1 stop
   rw [kA] at dn
   refine thn dn λr s2 ⟨hr,I2⟩=>?_
   subst hr
   obtain ⟨p1,p2,p3,p4,p5⟩:=I2.pin (D,{ cls:=.type "list",data:=.seq its.toArray c }) (List.mem_append_right _ (List.mem_singleton.mpr rfl))
   have u2:=I2.base
   rw [kfs,kex,kH,ks] at u2
   refine hRR D C s2 ys H1 ?_ p2 (by rw [← kloc];exact I2.free) (by obtain ⟨m,hm,_⟩:=I2.loc;rw [kloc] at hm;exact ⟨m,hm⟩) (by omega) hDC g
   have hk2:HOk X.prog X.w H1 s2.heap:=by have:=I2.hok;rw [kp,kw] at this;exact this
   refine I.call' (ch:=fp) (by have:=I2.os;rw [ks] at this;exact this) (u2.add (hfr D (Nat.le_refl _)) (hHn D (Nat.le_refl _))) (hk2.add p2 ⟨hz,its,c,rv,p1⟩) I2.bare λb hb=>?_
   exact ⟨(hf b hb).2.2.2.1,(hf b hb).2.1,(hf b hb).2.2.2.2.1,(hf b hb).2.2.2.2.2⟩
  ·have im:=T.item K kp kw kK kc i _ s1 _ H1 (notedBy (model X.prog X.w) X.A (compEnvC scope cl C X.env) λe s'=>RR (.ref D) C (.error e) s') I1 (stat f1) t1 go
   rw [kA] at im
   refine thn im λr s2 ⟨u,hr,h2⟩=>?_
   subst hr
   refine thn h2 λ_ s3 ⟨v,H3,I3,r3,y3,t3,f3⟩=>?_
   have q3:=step v H3 y3 o ol
   have I3':=I3.pinned (stat f3) (T.obj _ _ t3)
   have hg':=hg cl C s H fp
   rw [hK] at hg'
   have hgv:=hg' _ s3 _ H3 v u _ I3' r3 q3
   rw [kx,kp,kw,kA,kenv] at hgv
   refine wpAny_mono hgv (λ_ s4 ⟨σ4,H4,I4,o4,e4,l4,q4⟩=>?_) λ_ _ z=>z.elim
   subst e4
   have hi':=hi cl C s H fp
   rw [hK] at hi'
   have hiv:=hi' _ s4 _ H4 _ I4 q4
   rw [kx,kp,kw,kA,kenv] at hiv
   refine wpAny_mono hiv (λok s5 ⟨H5,I5,q5⟩=>?_) λ_ _ z=>z.elim
   have back:∀{H7:Hp} {s7:Shared} {o7:List (Option V)},Inv K ([(D,{ cls:=.type "list",data:=.seq its.toArray c })]++pinsAt fp s3.heap) (bS2 σ o7 ix) H7 s7->tn (i+1) s7.heap/\∀b∈fp,H7 b=none:=λ{H7 s7 o7} I7=>by
    refine ⟨T.keep _ _ _ t3 λb hb o e=>(I7.pin (b,o) (List.mem_append_right _ (List.mem_append_right _ (mem_pinsAt hb e)))).1,λb hb=>?_⟩
    obtain ⟨ob,e,d⟩:=T.obj _ _ t3 b hb
    exact (I7.pin (b,ob) (List.mem_append_right _ (List.mem_append_right _ (mem_pinsAt hb e)))).2.1
   cases ok with
   | false =>
    rw [if_neg Bool.false_ne_true]
    have q5:∃m',m' < n/\W (i+1) m' ys H5:=q5
    obtain ⟨m',hm,w5⟩:=q5
    obtain ⟨b1,b2⟩:=back I5
    exact ⟨m',hm,i+1,o4,H5,ys,its,c,l4,I5.unpinned,rv,b1,b2,w5⟩
   | true =>
    rw [if_pos rfl]
    have q5:te (bS2 σ o4 ix) H5 λy H2=>∃m',m' < n/\W (i+1) m' (ys++[y]) H2:=q5
    have he':=he cl C s H fp
    rw [hK] at he'
    have hev:=he' _ s5 _ H5 _ I5 q5
    rw [kx,kp,kw,kA,kenv] at hev
    refine wpAny_mono hev (λy s6 ⟨yv,H6,I6,r6,m',hm,w6⟩=>?_) λ_ _ z=>z.elim
    obtain ⟨b1,b2⟩:=back I6
    have I6':=I6.unpinned
    obtain ⟨p1,p2,p3,p4,p5⟩:=I6'.pin (D,{ cls:=.type "list",data:=.seq its.toArray c }) (List.mem_append_right _ (List.mem_singleton.mpr rfl))
    have hlen:=rv.length
    refine call_meets F.slot_list_append ⟨_,p1,rfl⟩ F.entry_list_append (F.args_list_append_2 _ _) (PySem.list_append D its.toArray c y (by rw [List.size_toArray];omega)) ⟨p1,?_⟩
    have ea:its.toArray.push y=(its++[y]).toArray:=by simp
    obtain ⟨c',q⟩:∃c',(s6.heap.update D (Obj.mapSeq (·.push y))).get? D=some { cls:=.type "list",data:=.seq (its++[y]).toArray c' }:=⟨_,by rw [← ea];exact PySem.IsL.update p1 (·.push y)⟩
    refine ⟨m',hm,i+1,o4,H6,ys++[yv],its++[y],c',l4,?_,rv.append (.cons r6 .nil),T.keep _ _ _ b1 λb hb o e=>?_,b2,w6⟩
    ·have Id:Inv K [] (bS2 σ o4 ix) H6 s6:=I6'.pins_of λp hp=>by simp at hp
     have It:Inv K [] (bS2 σ o4 ix) H6 { s6 with heap:=s6.heap.update D (Obj.mapSeq (·.push y)) }:=Id.turned (t':=s6.toks) (it:=D) (λb o hb e=>(Heap.get?_update_other _ _ (Ne.symm hb)).trans e) p2 p3
      (.inr (by rw [ks];omega)) (λy' c' e=>by rw [kcl] at e;exact Nat.ne_of_lt (cellLt y' c' e)) (λp hp=>by rw [kpn] at hp;simp at hp)
     refine It.pins_of λp hp=>?_
     obtain rfl:p=(D,{ cls:=.type "list",data:=.seq (its++[y]).toArray c' }):=by simpa using hp
     refine ⟨q,p2,p3,p4,λv z=>?_⟩
     have z':Data.seq _ _=Data.cell v:=z
     cases z'
    ·exact (Heap.get?_update_other _ _ (Nat.ne_of_gt (hl b hb))).trans e
 have selfs:wpAny (model X.prog X.w) X.A (pyIter (.ref it)) (λit' s'=>codeAny (model X.prog X.w) X.A (.compLoop (.ListComp elt [⟨tg,iter,ifs,0⟩] scope pos) 0 it' (.ref D) (compEnvC scope cl C X.env)) (RR (.ref D) C) s')
   (notedBy (model X.prog X.w) X.A (compEnvC scope cl C X.env) λe s'=>RR (.ref D) C (.error e) s') { s with heap:=h₁,toks:=s.toks+([]:List (Str × Value)).length }:=T.self X.A 0 _ _ _ st₁ (loop _)
 exact codeAny_compStart_list (loop _) selfs
def tComp2 (ts:List Str) (wi:TI) (gt:TG) (tt:TT) (te:TE) (ix:List Nat):TE:=λσ H Q=>wi σ H λJ H1=>∃(W:Nat->Nat->List V->Hp->Prop) (m₀:Nat),W 0 m₀ [] H1 /\
 ∀i m ys H,W i m ys H->(J.stop i H/\ys.length<=sizeLine/\∀l,H l=none->Q (.ref l) (upd H l (.lst ys)))\/(J.go i H/\ys.length<sizeLine/\∀v H',J.yld i H v H'->∀o:List (Option V),o.length=ts.length->gt v (bS2 σ o ix) H' λσ2 H2=>∃o2:List (Option V),σ2=bS2 σ o2 ix/\o2.length=ts.length /\
  tt σ2 H2 λb H1=>if b=true then te σ2 H1 λy H2=>∃m',m' < m/\W (i+1) m' (ys++[y]) H2 else ∃m',m' < m/\W (i+1) m' ys H1)
theorem pe_comp2 {elt iter:Expr} {x:Str} {ts:List Str} {tg:Expr} {gt:TG} {pos:Pos} {scope:Scope} {te:TE} {tt:TT} {wi:TI} {ifs:List Expr} (ix:List Nat) (hc:X.calm=true) (B:BlkScope X.env scope x)
  (hix:∀i∈ix,∃y,X.N[i]? = some y/\scope.names.lookup y=some .free) (hN:(bN2 X.N ts ix).Nodup) (hi:PI X tg iter wi)
  (hg:∀cl C s₀ H₀ fp,PG (cxBlk X scope cl C (bN2 X.N ts ix) s₀ H₀ fp) tg gt)
  (ht:∀cl C s₀ H₀ fp,PIfs (cxBlk X scope cl C (bN2 X.N ts ix) s₀ H₀ fp) ifs tt)
  (he:∀cl C s₀ H₀ fp,PE (cxBlk X scope cl C (bN2 X.N ts ix) s₀ H₀ fp) elt te)
  (hs:∀x,foldedSetIterable iter X.env x=pure x:=by intro _;rfl) :
  PE X (.ListComp elt [⟨tg,iter,ifs,0⟩] scope pos) (tComp2 ts wi gt tt te ix):=by
 intro pins s σ H Q I h
 obtain ⟨cl,hcl,h1,h3⟩:=closure_for (blk_free I B)
 rw [eval_ListComp]
 refine wpAny_comprehension_free (use:=none) rfl hs hcl B.kind B.names (thn (hi pins s σ H _ I h) λv s1 h1'=>thn h1' λitv s2 h2=>?_)
 obtain ⟨it,fp,tn,J,H2,e,I2,T,st2,f2,W,m0,w0,turn⟩:=h2
 subst e
 refine comp_blk2 (G:=λys H'=>∀l,H' l=none->Q (.ref l) (upd H' l (.lst ys))) I2 hc B h1 h3 hix hN T st2 f2 hg he ht W m0 w0 turn λD C s' ys H' I' hD hC hm hCs hDC g=>?_
 obtain ⟨m,hm⟩:=hm
 refine ⟨m,hm,λh' hsb=>⟨.ref D,upd H' D (.lst ys),I2.blkGone I' hCs (by rw [upd_ne (Ne.symm hDC)];exact hC) hsb,rfl,g D hD⟩⟩
end
end L2
namespace HT
open PySem PySem.Spec PyProof.Rows L2
section
variable {prog:Program} {w:World} {A:Around} {E:Value->Shared->Prop} {s:Shared}
end
section
variable {prog:Program} {w:World} {A:Around} {E:Value->Shared->Prop} {s:Shared}
end
end HT
namespace L2
open PySem PySem.Spec PyProof.Rows
section
variable {X:Cx}
end
end L2
namespace L2
open PySem PySem.Spec PyProof.Rows
open Builtin.Str (glued partsBetween occurrences tooLong strSub)
section
variable {X:Cx}
end
end L2
namespace L2
open PySem PySem.Spec PyProof.Rows
section
variable {X:Cx}
end
end L2
namespace HT
open PySem PySem.Spec PyProof.Rows L2
section
variable {prog:Program} {w:World} {A:Around} {E:Value->Shared->Prop} {s:Shared}
end
section
variable {prog:Program} {w:World} {A:Around} {E:Value->Shared->Prop} {s:Shared}
end
end HT
namespace L2
open PySem PySem.Spec PyProof.Rows
section
variable {X:Cx}
end
end L2
namespace L2
open PySem PySem.Spec PyProof.Rows
open Builtin.Str (occurrences strSub subAt)
section
variable {X:Cx} {e:Expr} {te:TE} {lo hi st:Option Expr} {tl th ts:TO} {p2 pos:Pos}
end
end L2
namespace L2
open PySem PySem.Spec PyProof.Rows
section
variable {X:Cx}
end
end L2
namespace RV
open PySem PySem.Spec
theorem slot_init:Slot "reversed" "__init__" "object.__init__" :=
 .of (owner:="object") (n:="__init__") (by rw [typeLookup_type,builtinLookup_eq_fast];kernel_rfl) (by decide +kernel) (by decide +kernel) (by decide +kernel)
  (by first | exact .inl (by decide +kernel) | exact .inr (by decide +kernel)) (by rw [isSubtype_type];kernel_rfl)
theorem called:TypeCalled "reversed" "reversed.__new__" "object.__init__" :=
 ⟨by decide +kernel,by decide +kernel,⟨_,_,F.mro_reversed⟩,F.made_reversed,by decide +kernel,F.sub_reversed_self,slot_init⟩
def IsRev (h:Heap) (a t:Addr) (i:Int):Prop:=∃o,h.get? a=some o/\o.cls=.type "reversed" /\ o.data=.fields #[.ref t,rawInt i]
section
variable {prog:Program} {w:World} {A:Around} {E:Value->Shared->Prop} {s:Shared}
theorem IsRev.ty {a t:Addr} {i:Int} (x:IsRev s.heap a t i):s.TypeIs (.ref a) "reversed":=let ⟨o,ho,hc,_⟩:=x;⟨o,ho,hc⟩
theorem IsRev.at {h h':Heap} {a t:Addr} {i:Int} (x:IsRev h a t i) (e:∀o,h.get? a=some o->h'.get? a=some o):IsRev h' a t i:=let ⟨o,ho,r⟩:=x;⟨o,e _ ho,r⟩
end
end RV
namespace L2
open PySem PySem.Spec PyProof.Rows
section
variable {X:Cx} {tg:Expr}
def ItrS (lo c:Int) (n:Nat):It:=⟨λi _=>i<n,λi H x H'=>H'=H/\x=.int (lo+(i:Int)*c),λi _=>n<=i⟩
theorem turn_rangeS {P:Program} {w:World} {K:PySem.W.Frag} {tg:Expr} (it:Addr) (lo c:Int) (n:Nat):Turn P w K tg (ItrS lo c n) [it] it (λi h=>IsRangeIter h it (lo+(i:Nat)*c) ((n:Int)-(i:Nat)) c) where
 mem:=by simp
 obj:=λi h st b hb=>by
  have e:b=it:=by simpa using hb
  subst e
  exact ⟨_,st,λv z=>by
   have z':Data.fields _=Data.cell v:=z
   cases z'⟩
 keep:=λi h h' st k=>k it (by simp) _ st
 item:=by
  intro X hP hw hK hc i pins s σ H E I hf st hg
  subst hP hw hK
  obtain ⟨f0,f1,f2,f3,f4,f5⟩:=hf it (by simp)
  have W:=Walks.range (prog:=X.prog) (w:=X.w) (I.ok.hd hc) it lo c n
  refine W.item i s _ _ hg st λv h' tk hv st' kk=>?_
  obtain ⟨t,rfl⟩:=hv
  have I1:Inv X pins σ H { s with heap:=h',toks:=tk }:=I.turned (λb o hb e=>kk b o (by simpa using hb) e) f0 f1 f3 f4 f5
  exact ⟨_,rfl,go_of (s:={ s with heap:=h',toks:=tk }) (n:="range_iterator") st' rfl rfl (by decide) ⟨.int (lo+(i:Int)*c),H,I1,⟨t,rfl⟩,⟨rfl,rfl⟩,st',λb hb=>(hf b hb).1⟩⟩
 done:=by
  intro X hP hw hK hc i pins s σ H E I hf st hg
  subst hP hw hK
  obtain ⟨f0,f1,f2,f3,f4,f5⟩:=hf it (by simp)
  exact wpAny_pyNext_range_end (I.ok.hd hc) st (by have:n<=i:=hg;omega) λh' eb=>⟨rfl,I.turned (t':=s.toks) (λb o hb e=>eb b o hb e) f0 f1 f3 f4 f5⟩
 self:=λ_ _ _ _ _ st h=>wpAny_pyIter_rangeiter st h
def stepN (lo hi c:Int):Nat:=if lo<hi then ((hi-lo-1) / c+1).toNat else 0
theorem range_itS {pins:List (Addr × Obj)} {σ:St} {H:Hp} {s:Shared} {R:It->Hp->Prop} {E:Value->Shared->Prop} {lo hi c:Int} {t u v:Tok} {tk:Nat} (I:Inv X pins σ H s) (h1:-(2 ^ 60)<=lo) (h2:lo<2 ^ 60) (h3:-(2 ^ 60)<=hi) (h4:hi<2 ^ 60)
  (hc:c=2\/c=3) (q:R (ItrS lo c (stepN lo hi c)) H):wpAny (model X.prog X.w) X.A (pyIter (.ref s.heap.objs.size)) (PIE X pins σ tg R) E { s with heap:=s.heap.push { cls:=.type "range",data:=.fields #[.int lo t,.int hi u,.int c v] },toks:=tk }:=by
 have hsm:Builtin.Range.small lo hi c=true:=by
  unfold Builtin.Range.small Builtin.Range.rangeSize
  rcases hc with rfl | rfl
  ·simp only [Builtin.Range.rangeFitsLong,Bool.and_eq_true,Bool.or_eq_true,decide_eq_true_eq,beq_iff_eq,show (2:Int) > 0 by decide,if_true]
   split <;> omega
  ·simp only [Builtin.Range.rangeFitsLong,Bool.and_eq_true,Bool.or_eq_true,decide_eq_true_eq,beq_iff_eq,show (3:Int) > 0 by decide,if_true]
   split <;> omega
 have hsz:Builtin.Range.rangeSize lo hi c=((stepN lo hi c:Nat):Int):=by
  unfold Builtin.Range.rangeSize stepN
  rcases hc with rfl | rfl
  ·rw [if_pos (by decide)]
   split <;> omega
  ·rw [if_pos (by decide)]
   split <;> omega
 refine wpAny_pyIter_range (IsRange.new ..) hsm ?_
 have I1:Inv X pins σ H { s with heap:=s.heap.push { cls:=.type "range",data:=.fields #[.int lo t,.int hi u,.int c v] },toks:=tk }:=I.kept λb o e=>Heap.get?_push_of_some _ e
 refine ⟨(s.heap.push { cls:=.type "range",data:=.fields #[.int lo t,.int hi u,.int c v] }).objs.size,[(s.heap.push { cls:=.type "range",data:=.fields #[.int lo t,.int hi u,.int c v] }).objs.size],_,_,H,rfl,
  I1.kept (t':=tk) λb o e=>Heap.get?_push_of_some _ e,turn_rangeS _ lo c (stepN lo hi c),?_,λb hb=>?_,q⟩
 ·have e1:lo+((0:Nat):Int)*c=lo:=by simp
  have e2:((stepN lo hi c:Nat):Int)-((0:Nat):Int)=Builtin.Range.rangeSize lo hi c:=by rw [hsz];omega
  show IsRangeIter _ _ (lo+((0:Nat):Int)*c) (((stepN lo hi c:Nat):Int)-((0:Nat):Int)) c
  rw [e1,e2]
  exact Heap.get?_push_size _ rfl
 ·have e:b=(s.heap.push { cls:=.type "range",data:=.fields #[.int lo t,.int hi u,.int c v] }).objs.size:=by simpa using hb
  subst e
  exact I1.fpOk (Nat.le_refl _) (I1.hok.fresh (Nat.le_refl _))
def iRng3 (ta:TA):TI:=λσ H R=>ta σ H λvs H1=>∃i j c:Int,vs=[.int i,.int j,.int c]/\(-(2 ^ 60)<=i/\i<2 ^ 60 /\ -(2 ^ 60)<=j/\j<2 ^ 60)/\(c=2\/c=3)/\R (ItrS i c (stepN i j c)) H1
theorem pi_range3 {a b c:Expr} {ta:TA} {p pos:Pos} (hg:Gl X "range") (hm:X.mg "range" = none) (ha:PA X [a,b,c] ta) (hs:starEach [a,b,c] X.env=[(false,eval a X.env),(false,eval b X.env),(false,eval c X.env)]:=by rfl) (hs2:starEach [b,c] X.env=[(false,eval b X.env),(false,eval c X.env)]:=by rfl) :
  PI X tg (.Call (.Name "range" p) [a,b,c] [] pos) (iRng3 ta):=by
 intro pins s σ H R I h
 refine Call_ (ld_blt I hg hm boot_range (PyProof.Rows.callWith_type1 (thn (ha pos pins s σ H _ I h) λus s1 ⟨vs,H1,I1,r1,q1⟩=>?_) (by rw [hs,hs2]) (by rw [hs2];rfl)))
 obtain ⟨i,j,c,e,⟨q1,q2,q3,q4⟩,hc,q⟩:=q1
 subst e
 cases r1 with
 | cons r rr =>
  cases rr with
  | cons r' rr =>
   cases rr with
   | cons r'' rr =>
    cases rr
    obtain ⟨t,rfl⟩:=r
    obtain ⟨t',rfl⟩:=r'
    obtain ⟨t'',rfl⟩:=r''
    exact call_range_3 (by rcases hc with rfl | rfl <;> decide) (range_itS I1 q1 q2 q3 q4 hc q) (.inl (PyProof.noPylong_small (by rcases hc with rfl | rfl <;> decide)))
end
end L2
namespace PT
open PySem PySem.Spec
section
variable {prog:Program} {w:World} {K:Type} [DecidableEq K] {knd:HeapKind prog w K} {A:Around} {E:Value->Shared->Prop} {s:Shared}
def wo (xs:List (K × Addr × Value)) (k:K):List (K × Addr × Value):=xs.filter λx=>decide (x.1≠k)
theorem wo_at {k:K}:∀{xs:List (K × Addr × Value)} {j:Nat} {p:Addr × Value},(xs.map (·.1)).Nodup->xs[j]? = some (k,p)->xs.eraseIdx j=wo xs k
 | x::xs,0,p,hn,h=>by
  cases h
  obtain ⟨h1,_⟩:=List.nodup_cons.mp hn
  unfold wo
  rw [List.eraseIdx_cons_zero,List.filter_cons_of_neg (by simp)]
  symm
  rw [List.filter_eq_self]
  intro y hy
  have:y.1≠k:=λe=>h1 (by rw [← e];exact List.mem_map.mpr ⟨y,hy,rfl⟩)
  simpa using this
 | x::xs,j+1,p,hn,h=>by
  obtain ⟨h1,h2⟩:=List.nodup_cons.mp hn
  have h':xs[j]? = some (k,p):=by simpa using h
  have hm:k∈xs.map (·.1):=List.mem_map.mpr ⟨_,List.mem_of_getElem? h',rfl⟩
  have hx:x.1≠k:=λe=>h1 (by show x.1∈_;rw [e];exact hm)
  rw [List.eraseIdx_cons_succ,wo_at h2 h']
  unfold wo
  rw [List.filter_cons_of_pos (by simpa using hx)]
theorem erase_map {α β:Type} {f:α->β}:∀{l:List α} {i:Nat},(l.map f).eraseIdx i=(l.eraseIdx i).map f
 | [],_=>rfl
 | _::_,0=>rfl
 | x::l,i+1=>by rw [List.map_cons,List.eraseIdx_cons_succ,List.eraseIdx_cons_succ,List.map_cons,erase_map]
theorem take_heap {d a:Addr} {xs:List (K × Addr × Value)} {k:K} {p:Addr × Value} {Q:Option DictEntry->Shared->Prop} (hu:knd.room A) (hkey:knd.is s.heap k a) (hm:s.heap.DictOfH knd d xs) (hz:xs.length<=sizeLine) (hp:atKey xs k=some p)
  (hQ:∀e h',e.val=p.2->h'.DictOfH knd d (wo xs k)->Heap.SameBut d s.heap h'->Q (some e) { s with heap:=h',toks:=s.toks+knd.draws k }):wpAny (model prog w) A (Builtin.Dict.takeOut d (.ref a)) Q E s:=by
 obtain ⟨o,es,ep,ho,hc,hd,he,his,hn⟩:=hm
 unfold Builtin.Dict.takeOut
 try with_reducible refine wpAny_holding ?_
 refine wpAny_bind (knd.pyHash hu hkey (wpAny_bind (wpAny_dictFind_heap (s:={ s with toks:=s.toks+knd.draws k }) hu hkey ho hd he his hn ?_ ?_)))
 ·intro hno
  rw [atKey_none_of_get hno] at hp
  cases hp
 ·intro j q hj
  rw [atKey_of_get hn hj] at hp
  cases hp
  refine wpAny_bind (wpAny_dictEntries (s:={ s with toks:=s.toks+knd.draws k }) ho hd ?_)
  rw [entry_at he j,hj]
  refine wpAny_bind (wpAny_updateDictKeys (hz:=by have e:=size_of_entries he;omega) (s:={ s with toks:=s.toks+knd.draws k }) ho hd (wpAny_pure (hQ _ _ rfl ⟨_,_,ep+1,Heap.get?_update_self _ ho (Obj.isFreed_of_dict (Obj.data_mapDictKeys hd _)),
   hc.mapDictKeys _,Obj.data_mapDictKeys hd _,?_,?_,?_⟩ (Heap.SameBut.update ..))))
  ·rw [← wo_at hn hj]
   obtain ⟨l⟩:=es
   have:l=xs.map (entryOfKey knd):=he
   subst this
   simp [erase_map]
  ·intro x hx
   exact knd.keeps (his x (List.mem_filter.mp hx).1) ho hd (Heap.SameBut.update ..)
  ·exact hn.sublist (List.filter_sublist.map _)
theorem pop_meets {d a:Addr}:MeetsIn prog w (Builtin.«dict.pop» ⟨[.ref d,.ref a],[]⟩) (λA R s=>knd.room A.in1/\∃k xs p,knd.is s.heap k a/\s.heap.DictOfH knd d xs/\xs.length<=sizeLine/\atKey xs k=some p /\
   ∀h',h'.DictOfH knd d (wo xs k)->Heap.SameBut d s.heap h'->R (.ok (.ret p.2)) { s with heap:=h',toks:=s.toks+knd.draws k }) :=
 .of_wp λA R s ⟨hu,k,xs,p,hkey,hm,hz,hp,h⟩=>by
  unfold Builtin.«dict.pop»
  refine wpAny_bind ?_
  unfold Builtin.Dict.keyAndDefault
  refine wpAny_bind (wpAny_notOrdered_dict hm.typeIs ?_)
  show wpAny _ _ (pure (d,Value.ref a,none)) _ _ s
  refine wpAny_pure ?_
  obtain ⟨o,es,ep,ho,hc,hd,he,his,hn⟩:=id hm
  have hne:es.isEmpty=false:=by
   cases hx:xs with
   | nil=>subst hx;cases hp
   | cons x r =>
    subst hx
    obtain ⟨l⟩:=es
    have:l=(x::r).map (entryOfKey knd):=he
    subst this
    rfl
  simp only [keyPart,Option.isSome_none,Bool.false_eq_true,if_false]
  refine wpAny_bind (m:=dictEntries d none) (wpAny_dictEntries ho hd ?_)
  refine wpAny_bind (wpAny_pure ?_)
  rw [hne]
  simp only [Bool.false_eq_true,if_false]
  refine wpAny_bind (take_heap hu hkey hm hz hp λe h' hv hm' hs'=>?_)
  simp only [Option.isNone_some,Bool.false_eq_true,if_false]
  exact wpAny_bind (wpAny_letGo (wpAny_pure ⟨e.val,rfl,by rw [hv];exact h h' hm' hs'⟩))
theorem len_meets {d:Addr} (hd:(d == sysModules)=false):MeetsIn prog w (Builtin.«dict.__len__» ⟨[.ref d],[]⟩) (λ_ R s=>∃xs,s.heap.DictOfH knd d xs/\R (.ok (.ret (.int xs.length s.toks))) { s with toks:=s.toks+1 }) :=
 .of_wp λA R s ⟨xs,hm,h⟩=>by
  obtain ⟨o,es,ep,ho,hc,hdat,he,his,hn⟩:=hm
  show wpAny _ _ (dictSize d >>= _) _ _ s
  unfold dictSize
  refine wpAny_bind (wpAny_bind (wpAny_dictEntries ho hdat (wpAny_pure ?_)))
  show wpAny _ _ (Builtin.Dict.pendingCount d >>= _) _ _ s
  refine wpAny_bind (wpAny_pendingCount_other hd ?_)
  refine wpAny_ret_mkInt ?_
  have:es.size=xs.length:=size_of_entries he
  rw [Nat.add_zero,this];exact h
theorem call_len {d:Addr} {xs:List (K × Addr × Value)} {Q:Value->Shared->Prop} (hd:(d == sysModules)=false) (hm:s.heap.DictOfH knd d xs) (hfit:(xs.length:Int)<2 ^ 63)
  (h:Q (.int xs.length (s.toks+1)) { s with toks:=s.toks+1+1 }):wpAny (model prog w) A (call (.builtin "len") [.ref d]) Q E s:=by
 refine Calls.call_function_entry kind_len plain_len entry_len (args_len1 _) ?_
 unfold Builtin.«len»
 refine wpAny_bind (m:=oneArg "len" _) (wpAny_pure ?_)
 refine wpAny_bind (m:=callSpecial? (.ref d) (Str.ofString "__len__")) (wpAny_callSpecial?_slot (name:=Str.ofString "__len__") hm.typeIs F.slot_dict_len
  (call_meetsIn F.slot_dict_len hm.typeIs F.entry_dict_len (F.args_dict_len_1 _) (len_meets (knd:=knd) hd) ⟨xs,hm,?_⟩))
 show wpAny _ _ _ _ _ { s with toks:=s.toks+1 }
 refine wpAny_bind (wpAny_holding (wpAny_pure ?_))
 refine wpAny_bind (wpAny_letGo ?_)
 show wpAny _ _ (if ((xs.length:Nat):Int)<0 then _ else _) _ _ _
 rw [if_neg (by omega)]
 show wpAny _ _ (if ((xs.length:Nat):Int) ≥ 2 ^ 63 then _ else _) _ _ _
 rw [if_neg (by omega)]
 exact wpAny_bind (wpAny_mkInt (wpAny_pure ⟨_,rfl,h⟩))
end
end PT
namespace L2
open PySem PySem.Spec PyProof.Rows
section
variable {X:Cx} {pins:List (Addr × Obj)} {σ:St} {H:Hp} {s:Shared} {a b:Addr} {kvs:List (List Key × V)} {k:List Key} {A:Around} {E:Value->Shared->Prop}
theorem KT.drop {H:Hp} {kvs:List (List Key × V)} {xs:List (List Key × Addr × Value)} (r:KT H kvs xs) (k:List Key):KT H (dropK kvs k) (PT.wo xs k):=by
 induction r with
 | nil=>exact .nil
 | @cons p q ps qs hq t ih =>
  unfold dropK PT.wo at *
  by_cases e:p.1=k
  ·rw [List.filter_cons_of_neg (by simpa using e),List.filter_cons_of_neg (by simpa using (hq.1.symm.trans e))]
   exact ih
  ·rw [List.filter_cons_of_pos (by simpa using e),List.filter_cons_of_pos (by simpa using (λz=>e (hq.1.trans z)))]
   exact .cons hq ih
theorem d_popT {v:V} {Q:Value->Shared->Prop} (hu:A.units+1<cLine) (I:Inv X pins σ H s) (e:H a=some (.dT kvs)) (eb:H b=some (.tup (k.map kV))) (l:valV kvs k=some v)
  (h:∀w' s',Inv X pins σ (upd H a (.dT (dropK kvs k))) s'->RelV v w'->Q w' s'):wpAny (model X.prog X.w) A (call (.builtin "dict.pop") [.ref a,.ref b]) Q E s:=by
 obtain ⟨z,hd,xs,rel,dd⟩:=dt_of I.hok e
 obtain ⟨w',hw,rw'⟩:=RelO.some_of (v:=v) (o:=(atKey xs k).map (·.2)) (by rw [← l];exact rel.val k)
 obtain ⟨p,hp,hp2⟩:=Option.map_eq_some_iff.mp hw
 have hz:xs.length<=sizeLine:=by rw [← Paired.length rel];exact z
 refine call_meetsIn PySem.F.slot_dict_pop dd.typeIs PySem.F.entry_dict_pop (PySem.F.args_dict_pop_2 _ _) (PT.pop_meets (knd:=tupleKind (mixKind X.prog X.w))) ⟨tupleKind_room_in1 hu,k,xs,p,key_of I.hok eb,dd,hz,hp,λh' dd' hs=>?_⟩
 rw [hp2]
 refine h w' _ ?_ rw'
 obtain ⟨q,es,ep,hq,h2,h3,h4,_,h5⟩:=dd'
 refine d_write I (by rw [e];exact True.intro) hs ⟨q,hq⟩ ⟨Nat.le_trans (dropK_le kvs k) z,hd,_,(rel.drop k).keeps λc ys ec=>?_,q,es,ep,hq,h2,h3,h4,h5⟩
 rw [upd_ne (ne_of ec e (λz=>nomatch z))]
 exact ec
theorem call_lenT:CallR X (.builtin "len") (λxs H Q=>∃a kvs,xs=[V.ref a]/\H a=some (.dT kvs)/\Q (.int kvs.length) H):=by
 intro pins s σ H xs us Q I r h
 obtain ⟨a,kvs,rfl,ha,q⟩:=h
 obtain ⟨u,rfl,ru⟩:=vals1 r
 cases ru
 obtain ⟨z,hd,ys,rel,dd⟩:=dt_of I.hok ha
 refine PT.call_len (knd:=tupleKind (mixKind X.prog X.w)) hd dd (by rw [← Paired.length rel];rw [sizeLine_eq] at z;omega) ?_
 rw [← Paired.length rel]
 exact ⟨.int kvs.length,H,I.tok _,⟨_,rfl⟩,q⟩
end
end L2
namespace L2
open PySem PySem.Spec PyProof.Rows
structure BlkScopeC (env:Env) (scope:Scope) (x:Str):Prop where
 kind:scope.kind=.function
 one:∀(n:Nat) (acc:List (Str × Addr)),cellsFrom n scope.names acc=(x,n)::acc
 push:∀h:Heap,pushCells h scope.names=h.push { cls:=.type "cell",data:=.cell none }
 only:∀y∈scope.names,y.2=.cell->y.1=x
 apart:∀y∈scope.names,y.2=.free->y.1≠x
 names:∀y∈scope.names,y.2=.local->scope.names.lookup y.1=some .local
 lx:scope.names.lookup x=some .cell
 free:∀y∈scope.names,y.2=.free->env.kindOf y.1=some .cell\/env.kindOf y.1=some .free
theorem one_of {x:Str}:∀{names:List (Str × NameKind)},names.filter (λy=>y.2 == .cell)=[(x,.cell)]->(∀(n:Nat) (acc:List (Str × Addr)),cellsFrom n names acc=(x,n)::acc)/\(∀h:Heap,pushCells h names=h.push { cls:=.type "cell",data:=.cell none })
 | [],h=>nomatch h
 | (y,k)::r,h=>by
  have none_of:∀{names:List (Str × NameKind)},names.filter (λy=>y.2 == .cell)=[]->(∀(n:Nat) (acc:List (Str × Addr)),cellsFrom n names acc=acc)/\(∀h:Heap,pushCells h names=h):=λ{names}=>by
   induction names with
   | nil=>exact λ_=>⟨λ_ _=>rfl,λ_=>rfl⟩
   | cons p r ih =>
    obtain ⟨z,q⟩:=p
    intro hf
    cases hq:(q == NameKind.cell) with
    | true=>rw [List.filter_cons_of_pos (by exact hq)] at hf;cases hf
    | false =>
     rw [List.filter_cons_of_neg (by simpa using hq)] at hf
     obtain ⟨a,b⟩:=ih hf
     refine ⟨λn acc=>?_,λh=>?_⟩
     ·unfold cellsFrom;rw [hq];exact a n acc
     ·unfold pushCells;rw [hq];exact b h
  cases hq:(k == NameKind.cell) with
  | true =>
   rw [List.filter_cons_of_pos (by exact hq)] at h
   injection h with h1 h2
   obtain ⟨a,b⟩:=none_of h2
   have hy:y=x:=congrArg Prod.fst h1
   refine ⟨λn acc=>?_,λh=>?_⟩
   ·unfold cellsFrom;rw [hq,if_pos rfl,a,hy]
   ·unfold pushCells;rw [hq,if_pos rfl,b]
  | false =>
   rw [List.filter_cons_of_neg (by simpa using hq)] at h
   obtain ⟨a,b⟩:=one_of h
   refine ⟨λn acc=>?_,λh=>?_⟩
   ·unfold cellsFrom;rw [hq];exact a n acc
   ·unfold pushCells;rw [hq];exact b h
section
variable {M:Model} {A:Around} {E:Value->Shared->Prop} {s:Shared}
theorem nfe_cell {scope:Scope} {x:Str} {globals:Addr} {cl:List (Str × Addr)} {qual:Str} {func:Option Addr} {code:Value} {outer:Env} {builtins:Addr} {Q:Env->Shared->Prop}
  (one:∀(n:Nat) (acc:List (Str × Addr)),cellsFrom n scope.names acc=(x,n)::acc) (push:∀h:Heap,pushCells h scope.names=h.push { cls:=.type "cell",data:=.cell none })
  (hQ:∀h',h'.Ns s.heap.objs.size (λ_=>none)->h'.IsCell (s.heap.objs.size+1) none->(∀b o,s.heap.get? b=some o->h'.get? b=some o) ->
   Q (newEnv scope s.heap.objs.size globals ((x,s.heap.objs.size+1)::cl) qual func code (some outer) builtins) { s with heap:=h',toks:=s.toks+0 }) :
  wpAny M A (newFunctionEnv scope globals cl [] qual func code (some outer) builtins) Q E s:=by
 simp only [newFunctionEnv,Option.isSome_some,if_true]
 simp only [newEnv] at hQ
 refine wpAny_bind (wpAny_alloc ?_)
 refine wpAny_bind (wpAny_layCells _ (λname kind cells=>by cases hkc:kind == NameKind.cell <;> simp [hkc]) _ _ _ _ ?_)
 rw [show ({ s with heap:=s.heap.push { cls:=.type "dict",data:=.dict #[] } }:Shared).heap.objs.size=s.heap.objs.size+1 from Heap.size_push ..,one,push]
 rw [List.forIn_nil]
 refine wpAny_bind (wpAny_pure (wpAny_pure (hQ _ ?_ ?_ ?_)))
 ·exact (Heap.Ns.new s.heap (.type "dict")).keeps λb o e=>Heap.get?_push_of_some _ e
 ·have:=Heap.get?_push_size (s.heap.push { cls:=.type "dict",data:=.dict #[] }) (o:={ cls:=.type "cell",data:=.cell none }) rfl
  rw [Heap.size_push] at this
  exact ⟨_,this,rfl⟩
 ·exact λb o e=>Heap.get?_push_of_some _ (Heap.get?_push_of_some _ e)
end
theorem lookup_relabel_cell {scope:Scope} {env:Env} {x:Str} (h:scope.names.lookup x=some .cell):(relabel scope env).names.lookup x=some .cell:=by
 show (scope.names.map λ(n,k)=>if (k == NameKind.free && env.scope.kind == .function && env.kindOf n == some .cell) then (n,NameKind.cell) else (n,k)).lookup x=some .cell
 generalize scope.names=names at h
 induction names with
 | nil=>cases h
 | cons p r ih =>
  obtain ⟨n,k⟩:=p
  rw [List.lookup_cons] at h
  rw [List.map_cons]
  dsimp only
  split
  ·rename_i hc
   rw [List.lookup_cons]
   cases hq:x == n with
   | true=>rfl
   | false=>rw [hq] at h;exact ih h
  ·rw [List.lookup_cons]
   cases hq:x == n with
   | true=>rw [hq] at h;exact h
   | false=>rw [hq] at h;exact ih h
theorem relabel_backC {env:Env} {x y:Str} {q:NameKind}:∀{names:List (Str × NameKind)},(∀z∈names,z.2=.cell->z.1=x)->q=.cell\/q=.free ->
  (names.map λ(n,k)=>if (k == NameKind.free && env.scope.kind == .function && env.kindOf n == some .cell) then (n,NameKind.cell) else (n,k)).lookup y=some q->y=x\/(y,NameKind.free)∈names
 | [],_,_,h=>by simp at h
 | (n,k)::r,hn,hq,h=>by
  have h:List.lookup y ((if (k == NameKind.free && env.scope.kind == .function && env.kindOf n == some .cell)=true then (n,NameKind.cell) else (n,k))::(r.map λ(n,k)=>if (k == NameKind.free && env.scope.kind == .function && env.kindOf n == some .cell) then (n,NameKind.cell) else (n,k)))=some q:=h
  have ih:=relabel_backC (env:=env) (y:=y) (q:=q) (names:=r) (λz hz=>hn z (List.mem_cons_of_mem _ hz)) hq
  by_cases hc:(k == NameKind.free && env.scope.kind == .function && env.kindOf n == some .cell)=true
  ·rw [if_pos hc] at h
   cases hx:y == n with
   | true =>
    have hk:k=.free:=by
     cases k <;> first | rfl | (simp at hc)
    exact .inr (by rw [beq_iff_eq.mp hx,hk];exact List.mem_cons_self)
   | false =>
    simp only [List.lookup_cons,hx] at h
    exact (ih h).imp id λz=>List.mem_cons_of_mem _ z
  ·rw [if_neg hc] at h
   cases hx:y == n with
   | true =>
    simp only [List.lookup_cons,hx] at h
    have hk:k=q:=Option.some.inj h
    rcases hq with rfl | rfl
    ·exact .inl (by rw [beq_iff_eq.mp hx];exact hn (n,k) List.mem_cons_self hk)
    ·exact .inr (by rw [beq_iff_eq.mp hx,hk];exact List.mem_cons_self)
   | false =>
    simp only [List.lookup_cons,hx] at h
    exact (ih h).imp id λz=>List.mem_cons_of_mem _ z
def cxBlkC (X:Cx) (scope:Scope) (cl:List (Str × Addr)) (C:Addr) (N:List Str) (s₀:Shared) (H₀:Hp) (fp:List Addr):Cx :=
 { cxBlk X scope cl C N s₀ H₀ fp with fn:=λy=>match cl.lookup y with | some c=>decide (s₀.heap.objs.size<=c) | none=>false }
section
variable {X:Cx}
theorem blk_okC {pins:List (Addr × Obj)} {σ:St} {H:Hp} {s:Shared} {scope:Scope} {clx:List (Str × Addr)} {C:Addr} {N:List Str} {fp:List Addr} {x:Str} (I:Inv X pins σ H s) (B:BlkScopeC X.env scope x)
  (h1:∀y c,clx.lookup y=some c->(y=x/\c=C+1)\/X.env.cells.lookup y=some c) (hx:clx.lookup x=some (C+1)) (h3:∀y∈scope.names,y.2=.free->∃c,clx.lookup y.1=some c) (hC:s.heap.objs.size<=C) (hf:∀b∈fp,FpOk X pins H b) (hl:∀b∈fp,b<s.heap.objs.size) :
  (cxBlkC X scope clx C N s H fp).Ok/\(cxBlk X scope clx C N s H fp).Ok:=by
 have lt:∀y c,X.env.cells.lookup y=some c->c<s.heap.objs.size:=λy c q=>by obtain ⟨v,z⟩:=I.cell y c q;exact z.lt
 have inj:∀y z c,clx.lookup y=some c->clx.lookup z=some c->y=z:=λy z c q r=>by
  rcases h1 y c q with ⟨rfl,rfl⟩ | q
  ·rcases h1 z _ r with ⟨rfl,_⟩ | r
   ·rfl
   ·exact absurd (Nat.lt_of_lt_of_le (lt z _ r) hC) (Nat.not_lt.mpr (Nat.le_succ C))
  ·rcases h1 z c r with ⟨rfl,rfl⟩ | r
   ·exact absurd (Nat.lt_of_lt_of_le (lt y _ q) hC) (Nat.not_lt.mpr (Nat.le_succ C))
   ·exact I.ok.inj y z c q r
 have has:∀y,((relabel scope X.env).names.lookup y=some .cell\/(relabel scope X.env).names.lookup y=some .free)->∃c,clx.lookup y=some c:=λy hy=>by
  have m:y=x\/(y,NameKind.free)∈scope.names:=by
   rcases hy with q | q
   ·exact relabel_backC B.only (.inl rfl) q
   ·exact relabel_backC B.only (.inr rfl) q
  rcases m with rfl | m
  ·exact ⟨_,hx⟩
  ·exact h3 _ m rfl
 have exf:∀b∈fp,b≠C/\∀y c,clx.lookup y=some c->c≠b:=λb hb=>by
  refine ⟨Nat.ne_of_lt (Nat.lt_of_lt_of_le (hl b hb) hC),λy c q=>?_⟩
  rcases h1 y c q with ⟨_,rfl⟩ | q
  ·exact Nat.ne_of_gt (Nat.lt_succ_of_lt (Nat.lt_of_lt_of_le (hl b hb) hC))
  ·exact (hf b hb).2.2.2.2.1 y c q
 have noex:∀b o,X.base.get? b=some o->b∉fp:=λb o e hb=>by
  rcases (hf b hb).2.2.2.1 with z | z
  ·exact I.ok.noex b o e z
  ·exact absurd (Nat.lt_of_lt_of_le (Heap.lt_size e) (Nat.le_trans I.ok.bsz z)) (Nat.lt_irrefl _)
 have exfs:∀b∈fp,b∉frs X.stack:=λb hb z=>by
  have z':=I.stkSub b z
  rcases List.mem_cons.mp z' with q | q
  ·exact (hf b hb).2.1 q
  ·exact (hf b hb).2.2.1 q
 refine ⟨⟨I.ok.mod,by show (relabel scope X.env).kind=_;exact B.kind,I.ok.glob,I.ok.blt,hC,inj,has,λy c q e=>?_,I.ok.hd,I.ok.frames,.inl rfl,exf,I.bs,Nat.le_trans I.ok.bsz I.sz,noex,exfs,I.stack,I.stkFree⟩,
  ⟨I.ok.mod,by show (relabel scope X.env).kind=_;exact B.kind,I.ok.glob,I.ok.blt,hC,inj,has,λy c q=>(by cases (show false=true from q)),I.ok.hd,I.ok.frames,.inl rfl,exf,I.bs,Nat.le_trans I.ok.bsz I.sz,noex,exfs,I.stack,I.stkFree⟩⟩
 have q:(match clx.lookup y with | some c=>decide (s.heap.objs.size<=c) | none=>false)=true:=q
 have e:clx.lookup y=some c:=e
 rw [e] at q
 exact of_decide_eq_true q
theorem comp_blkC {elt iter:Expr} {x:Str} {px pos:Pos} {scope:Scope} {te:TE} {tt:TT} {ifs:List Expr} {ix:List Nat} {pins:List (Addr × Obj)} {s:Shared} {σ:St} {H:Hp} {cl:List (Str × Addr)}
  {J:It} {fp:List Addr} {it:Addr} {tn:Nat->Heap->Prop} {E:Value->Shared->Prop} {RR:Value->Addr->Result->Shared->Prop} {G:List V->Hp->Prop}
  (I:Inv X pins σ H s) (hc:X.calm=true) (B:BlkScopeC X.env scope x) (h1:∀y c,cl.lookup y=some c->X.env.cells.lookup y=some c) (h3:∀y∈scope.names,y.2=.free->∃c,cl.lookup y.1=some c)
  (hix:∀i∈ix,∃y,X.N[i]? = some y/\scope.names.lookup y=some .free) (hN:(bN X.N x ix).Nodup)
  (T:Turn X.prog X.w X.K (.Name x px) J fp it tn) (st:tn 0 s.heap) (hf:∀b∈fp,FpOk X pins H b)
  (he:∀cl C s₀ H₀ fp,PE (cxBlk X scope cl C (bN X.N x ix) s₀ H₀ fp) elt te)
  (hi:∀cl C s₀ H₀ fp,PIfs (cxBlk X scope cl C (bN X.N x ix) s₀ H₀ fp) ifs tt)
  (W:Nat->Nat->List V->Hp->Prop) (m₀:Nat) (w0:W 0 m₀ [] H)
  (turn:∀i m ys H,W i m ys H->(J.stop i H/\ys.length<=sizeLine/\G ys H)\/(J.go i H/\ys.length<sizeLine/\∀v H',J.yld i H v H' ->
    tt (bS σ (some v) ix) H' λb H1=>if b=true then te (bS σ (some v) ix) H1 λy H2=>∃m',m' < m/\W (i+1) m' (ys++[y]) H2 else ∃m',m' < m/\W (i+1) m' ys H1))
  (hRR:∀D C s' ys H',Inv X pins σ (upd H' D (.lst ys)) s'->H' D=none->H' C=none->(∃m,s'.heap.Ns C m)->s.heap.objs.size<=C->D≠C->G ys H'->RR (.ref D) C (.ok .next) s') :
  wpAny (model X.prog X.w) X.A (newList []) (λacc s₃=>wpAny (model X.prog X.w) X.A (newFunctionEnv scope X.env.globals cl [] X.env.qual none .none (some X.env)) (λcenv s₄ =>
   codeAny (model X.prog X.w) X.A (.compStart (.ListComp elt [⟨.Name x px,iter,ifs,0⟩] scope pos) 0 (.ref it) acc { cenv with scope:=relabel scope X.env }) (RR acc cenv.locals) s₄) E s₃) E s:=by
 have hl:∀b∈fp,b<s.heap.objs.size:=λb hb=>by obtain ⟨o,e,_⟩:=T.obj 0 _ st b hb;exact Heap.lt_size e
 refine wpAny_newObj_type (nfe_cell B.one B.push (λh₁ hns₁ hcell₁ old₁=>?_))
 dsimp only at hns₁ hcell₁ old₁ ⊢
 generalize hH2:s.heap.push { cls:=.type "list",dict:=none,data:=.seq ([]:List Value).toArray }=H2 at hns₁ hcell₁ old₁ ⊢
 have hC:H2.objs.size=s.heap.objs.size+1:=by rw [← hH2,Heap.size_push]
 generalize hD:s.heap.objs.size=D at hC hl hRR ⊢
 generalize hCC:H2.objs.size=C at hC hns₁ hcell₁ old₁ ⊢
 have hDC:D≠C:=by omega
 have old:∀b o,s.heap.get? b=some o->h₁.get? b=some o:=λb o e=>old₁ b o (hH2 ▸ Heap.get?_push_of_some _ e)
 have hacc:h₁.get? D=some { cls:=.type "list",data:=.seq ([]:List Value).toArray 0 }:=old₁ _ _ (hH2 ▸ (by rw [← hD];exact Heap.get?_push_size _ rfl))
 have hfr:∀a,D<=a->s.heap.get? a=none:=λa ha=>by
  cases e:s.heap.get? a with
  | none=>rfl
  | some o=>exact absurd (Heap.lt_size e) (by rw [hD];exact Nat.not_lt.mpr ha)
 have hHn:∀a,D<=a->H a=none:=λa ha=>I.hok.fresh (by omega)
 generalize hclx:(x,C+1)::cl=clx
 have h1x:∀y c,clx.lookup y=some c->(y=x/\c=C+1)\/X.env.cells.lookup y=some c:=λy c q=>by
  rw [← hclx,List.lookup_cons] at q
  cases hq:y == x with
  | true=>rw [hq] at q;exact .inl ⟨beq_iff_eq.mp hq,(Option.some.inj q).symm⟩
  | false=>rw [hq] at q;exact .inr (h1 y c q)
 have hxx:clx.lookup x=some (C+1):=by rw [← hclx,List.lookup_cons,beq_self_eq_true]
 have h3x:∀y∈scope.names,y.2=.free->∃c,clx.lookup y.1=some c/\X.env.cells.lookup y.1=some c:=λy hy hk=>by
  obtain ⟨c,hc'⟩:=h3 y hy hk
  refine ⟨c,?_,h1 _ _ hc'⟩
  rw [← hclx,List.lookup_cons]
  cases hq:y.1 == x with
  | true=>exact absurd (beq_iff_eq.mp hq) (B.apart y hy hk)
  | false=>exact hc'
 have oks:=blk_okC (N:=bN X.N x ix) I B h1x hxx (λy hy hk=>(h3x y hy hk).imp λc q=>q.1) (by omega) hf (by rw [hD];exact hl)
 obtain ⟨ok,ok0⟩:=oks
 have toK:∀{pins:List (Addr × Obj)} {σ:St} {H':Hp} {s':Shared},Inv (cxBlk X scope clx C (bN X.N x ix) s H fp) pins σ H' s'->Inv (cxBlkC X scope clx C (bN X.N x ix) s H fp) pins σ H' s':=λI=>⟨ok,I.os,I.bare,I.base,I.loc,I.cell,I.free,I.freeC,I.pin,I.hok,I.len⟩
 have ofK:∀{pins:List (Addr × Obj)} {σ:St} {H':Hp} {s':Shared},Inv (cxBlkC X scope clx C (bN X.N x ix) s H fp) pins σ H' s'->Inv (cxBlk X scope clx C (bN X.N x ix) s H fp) pins σ H' s':=λI=>⟨ok0,I.os,I.bare,I.base,I.loc,I.cell,I.free,I.freeC,I.pin,I.hok,I.len⟩
 have he':=he clx C s H fp
 have hi':=hi clx C s H fp
 have kfn:(cxBlkC X scope clx C (bN X.N x ix) s H fp).fn x=true:=by
  show (match clx.lookup x with | some c=>decide (s.heap.objs.size<=c) | none=>false)=true
  rw [hxx];exact decide_eq_true (by rw [hD];omega)
 generalize hK0:cxBlk X scope clx C (bN X.N x ix) s H fp=K0 at ok0 toK ofK he' hi'
 have k0p:K0.prog=X.prog:=by rw [← hK0];rfl
 have k0w:K0.w=X.w:=by rw [← hK0];rfl
 have k0A:K0.A=X.A:=by rw [← hK0];rfl
 have k0x:K0.xe=λ_ _=>False:=by rw [← hK0];rfl
 have k0e:K0.env=compEnvC scope clx C X.env:=by rw [← hK0];rfl
 generalize hK:cxBlkC X scope clx C (bN X.N x ix) s H fp=K at ok toK ofK kfn
 have kp:K.prog=X.prog:=by rw [← hK];rfl
 have kw:K.w=X.w:=by rw [← hK];rfl
 have kK:K.K=X.K:=by rw [← hK];rfl
 have kA:K.A=X.A:=by rw [← hK];rfl
 have kc:K.calm=true:=by rw [← hK];exact hc
 have kN:K.N=bN X.N x ix:=by rw [← hK];rfl
 have kenv:K.env=compEnvC scope clx C X.env:=by rw [← hK];rfl
 have kloc:K.env.locals=C:=by rw [← hK];rfl
 have kfs:K.fs=frs X.stack:=by rw [← hK];rfl
 have kex:K.ex=fp:=by rw [← hK];rfl
 have kpn:K.pn=[]:=by rw [← hK];rfl
 have ks:K.s₀=s:=by rw [← hK];rfl
 have kH:K.H₀=H:=by rw [← hK];rfl
 have kx:K.xe=λ_ _=>False:=by rw [← hK];rfl
 have kcl:K.env.cells=clx:=by rw [← hK];rfl
 have cellLt:∀y c,clx.lookup y=some c->c≠D:=λy c q=>by
  rcases h1x y c q with ⟨_,z⟩ | q
  ·omega
  ·obtain ⟨v,z⟩:=I.cell y c q;have:=z.lt;rw [hD] at this;exact Nat.ne_of_lt this
 have stkLt:∀b∈frs X.stack,b<D:=λb hb=>by
  rcases List.mem_cons.mp (I.stkSub b hb) with q | q
  ·rw [q,← hD];exact I.lt
  ·rcases Nat.lt_or_ge b D with z | z
   ·exact z
   ·exact absurd q (I.nofs (by omega))
 -- the state at the block's begin
 have I0:∀tk,Inv K [(D,{ cls:=.type "list",data:=.seq ([]:List Value).toArray 0 })] (bS σ none ix) H { s with heap:=h₁,toks:=tk }:=λtk=>by
  refine ⟨ok,by rw [ks],I.bare,by rw [ks,kH];exact Un.kept old,?_,?_,?_,?_,?_,by rw [kp,kw];exact I.hok.kept old,?_⟩
  ·refine ⟨_,by rw [kloc];exact hns₁,λi y v e1 e2 e3=>?_⟩
   rw [kN] at e1
   cases i with
   | zero =>
    have:(none:Option V)=some v:=by simpa [bS] using e2
    cases this
   | succ i =>
    have e1':(ix.map λi=>X.N.getD i Str.empty)[i]? = some y:=by simpa [bN] using e1
    have e2':(ix.map λi=>(σ[i]?).getD none)[i]? = some (some v):=by simpa [bS] using e2
    rw [List.getElem?_map] at e1' e2'
    cases q:ix[i]? with
    | none=>rw [q] at e1';cases e1'
    | some j =>
     rw [q] at e1' e2'
     obtain ⟨y',a1,a2⟩:=hix j (List.mem_of_getElem? q)
     have a3:X.N.getD j Str.empty=y':=by simp [List.getD,a1]
     have ey:y'=y:=by rw [← a3];exact Option.some.inj e1'
     subst ey
     have es:σ[j]? = some (some v):=by
      have z:(σ[j]?).getD none=some v:=Option.some.inj e2'
      cases w:σ[j]? with
      | none=>rw [w] at z;cases z
      | some o=>rw [w] at z;have z':o=some v:=z;rw [z']
     obtain ⟨m,hn,hlk⟩:=I.loc
     have hk:=B.free (y',.free) (PySem.mem_of_lookup a2) rfl
     have hk:X.env.kindOf y'=some .cell\/X.env.kindOf y'=some .free:=hk
     have vis:Vis X.env.scope y':=hk.elim (λz=>.inr (.inl z)) λz=>.inr (.inr z)
     obtain ⟨u,ru,lk⟩:=hlk j y' v a1 es vis
     refine ⟨u,ru,?_⟩
     rcases lk with ⟨k,_⟩ | ⟨_,c,ec,ce⟩
     ·rcases hk with z | z <;> (rw [k] at z;cases z)
     ·obtain ⟨c',ec',ex'⟩:=h3x (y',.free) (PySem.mem_of_lookup a2) rfl
      have ec':clx.lookup y'=some c':=ec'
      have ex':X.env.cells.lookup y'=some c':=ex'
      have:c'=c:=Option.some.inj (ex'.symm.trans ec)
      subst this
      refine .inr ⟨?_,c',by rw [kcl];exact ec',?_⟩
      ·show K.env.scope.names.lookup y'=_\/K.env.scope.names.lookup y'=_
       rw [kenv]
       exact lookup_relabel_free a2
      ·obtain ⟨oc,hoc,r⟩:=ce
       exact ⟨oc,old _ _ hoc,r⟩
  ·intro y c q
   rw [kcl] at q
   rcases h1x y c q with ⟨_,rfl⟩ | q
   ·exact ⟨none,hcell₁⟩
   ·obtain ⟨v,oc,hoc,r⟩:=I.cell y c q
    exact ⟨v,oc,old _ _ hoc,r⟩
  ·rw [kloc];exact hHn _ (by omega)
  ·intro y c q
   rw [kcl] at q
   rcases h1x y c q with ⟨_,rfl⟩ | q
   ·exact hHn _ (by omega)
   ·exact I.freeC y c q
  ·intro p hp
   rw [kpn] at hp
   have e:p=(D,{ cls:=.type "list",data:=.seq ([]:List Value).toArray 0 }):=by simpa using hp
   subst e
   refine ⟨hacc,hHn _ (Nat.le_refl _),by rw [kloc];exact hDC,?_,λv z=>?_⟩
   ·rw [kfs];intro z;exact absurd (stkLt D z) (Nat.lt_irrefl _)
   ·have z':Data.seq _ _=Data.cell v:=z
    cases z'
  ·rw [kN];simp [bS,bN]
 have stat:∀{H':Hp} {ob:Obj},(∀b∈fp,H' b=none)->∀b∈fp,FpOk K [(D,ob)] H' b:=λ{H' ob} hn b hb=>by
  refine ⟨hn b hb,?_,?_,.inl (by rw [kex];exact hb),?_,?_⟩
  ·rw [kloc];exact Nat.ne_of_lt (Nat.lt_of_lt_of_le (hl b hb) (by rw [hC];exact Nat.le_succ _))
  ·rw [kfs];intro z
   rcases List.mem_cons.mp (I.stkSub b z) with q | q
   ·exact (hf b hb).2.1 q
   ·exact (hf b hb).2.2.1 q
  ·intro y c q;rw [kcl] at q
   rcases h1x y c q with ⟨_,rfl⟩ | q
   ·exact Nat.ne_of_gt (Nat.lt_trans (hl b hb) (by omega))
   ·exact (hf b hb).2.2.2.2.1 y c q
  ·intro p hp;rw [kpn] at hp
   have e:p=(D,ob):=by simpa using hp
   subst e
   exact Nat.ne_of_gt (hl b hb)
 have st₁:tn 0 h₁:=T.keep _ _ _ st λb hb o e=>old b o e
 have loop:∀tk,codeAny (model X.prog X.w) X.A (.compLoop (.ListComp elt [⟨.Name x px,iter,ifs,0⟩] scope pos) 0 (.ref it) (.ref D) (compEnvC scope clx C X.env)) (RR (.ref D) C) { s with heap:=h₁,toks:=tk }:=by
  intro tk
  refine codeAny_compLoop_tests (λn s'=>∃i o H' ys its c,Inv K [(D,{ cls:=.type "list",data:=.seq (its:List Value).toArray c })] (bS σ o ix) H' s'/\Vals ys its/\tn i s'.heap/\(∀b∈fp,H' b=none)/\W i n ys H') ?_ m₀
   ⟨0,none,H,[],[],0,I0 tk,.nil,st₁,λb hb=>(hf b hb).1,w0⟩
  rintro n s1 ⟨i,o,H1,ys,its,c,I1,rv,t1,f1,w1⟩
  rcases turn i n ys H1 w1 with ⟨stop,hz,g⟩ | ⟨go,hz,step⟩
  ·have dn:=T.done K kp kw kK kc i _ s1 _ H1 (notedBy (model X.prog X.w) X.A (compEnvC scope clx C X.env) λe s'=>RR (.ref D) C (.error e) s') I1 (stat f1) t1 stop
   rw [kA] at dn
   refine thn dn λr s2 ⟨hr,I2⟩=>?_
   subst hr
   obtain ⟨p1,p2,p3,p4,p5⟩:=I2.pin (D,{ cls:=.type "list",data:=.seq its.toArray c }) (List.mem_append_right _ (List.mem_singleton.mpr rfl))
   have u2:=I2.base
   rw [kfs,kex,kH,ks] at u2
   refine hRR D C s2 ys H1 ?_ p2 (by rw [← kloc];exact I2.free) (by obtain ⟨m,hm,_⟩:=I2.loc;rw [kloc] at hm;exact ⟨m,hm⟩) (by omega) hDC g
   have hk2:HOk X.prog X.w H1 s2.heap:=by have:=I2.hok;rw [kp,kw] at this;exact this
   refine I.call' (ch:=fp) (by have:=I2.os;rw [ks] at this;exact this) (u2.add (hfr D (Nat.le_refl _)) (hHn D (Nat.le_refl _))) (hk2.add p2 ⟨hz,its,c,rv,p1⟩) I2.bare λb hb=>?_
   exact ⟨(hf b hb).2.2.2.1,(hf b hb).2.1,(hf b hb).2.2.2.2.1,(hf b hb).2.2.2.2.2⟩
  ·have im:=T.item K kp kw kK kc i _ s1 _ H1 (notedBy (model X.prog X.w) X.A (compEnvC scope clx C X.env) λe s'=>RR (.ref D) C (.error e) s') I1 (stat f1) t1 go
   rw [kA] at im
   refine thn im λr s2 ⟨u,hr,h2⟩=>?_
   subst hr
   show wpAny _ _ (assign (.Name x px) (compEnvC scope clx C X.env) u) _ _ s2
   have h2':wpAny (model X.prog X.w) X.A (pure ():Sem Unit) _ _ s2:=h2
   suffices q:wpAny (model X.prog X.w) X.A ((pure ():Sem Unit) >>= λ_=>assign (.Name x px) (compEnvC scope clx C X.env) u) _ _ s2 from q
   refine wpAny_bind (thn h2' λ_ s3 ⟨v,H3,I3,r3,y3,t3,f3⟩=>?_)
   have q3:=step v H3 y3
   have I3':=I3.pinned (stat f3) (T.obj _ _ t3)
   rw [← kenv]
   refine wpAny_assign_Name (store_ok I3' (i:=0) (x:=x) (by rw [kN];exact hN) (by rw [kN];rfl) (.inr (by rw [kenv];exact lookup_relabel_cell B.lx)) r3 (λs4 I4=>?_) (.inl kfn))
   have I4:Inv K ([(D,{ cls:=.type "list",data:=.seq its.toArray c })]++pinsAt fp s3.heap) (bS σ (some v) ix) H3 s4:=I4
   have hiv:=hi' _ s4 _ H3 _ (ofK I4) q3
   rw [k0x,k0p,k0w,k0A] at hiv
   rw [kenv,← k0e]
   refine wpAny_mono hiv (λok s5 ⟨H5,I5,q5⟩=>?_) λ_ _ z=>z.elim
   have I5:=toK I5
   have back:∀{H7:Hp} {s7:Shared} {o7:Option V},Inv K ([(D,{ cls:=.type "list",data:=.seq its.toArray c })]++pinsAt fp s3.heap) (bS σ o7 ix) H7 s7->tn (i+1) s7.heap/\∀b∈fp,H7 b=none:=λ{H7 s7 o7} I7=>by
    refine ⟨T.keep _ _ _ t3 λb hb o e=>(I7.pin (b,o) (List.mem_append_right _ (List.mem_append_right _ (mem_pinsAt hb e)))).1,λb hb=>?_⟩
    obtain ⟨ob,e,d⟩:=T.obj _ _ t3 b hb
    exact (I7.pin (b,ob) (List.mem_append_right _ (List.mem_append_right _ (mem_pinsAt hb e)))).2.1
   cases ok with
   | false =>
    rw [if_neg Bool.false_ne_true]
    have q5:∃m',m' < n/\W (i+1) m' ys H5:=q5
    obtain ⟨m',hm,w5⟩:=q5
    obtain ⟨b1,b2⟩:=back I5
    exact ⟨m',hm,i+1,some v,H5,ys,its,c,I5.unpinned,rv,b1,b2,w5⟩
   | true =>
    rw [if_pos rfl]
    have q5:te (bS σ (some v) ix) H5 λy H2=>∃m',m' < n/\W (i+1) m' (ys++[y]) H2:=q5
    have hev:=he' _ s5 _ H5 _ (ofK I5) q5
    rw [k0x,k0p,k0w,k0A] at hev
    refine wpAny_mono hev (λy s6 ⟨yv,H6,I6,r6,m',hm,w6⟩=>?_) λ_ _ z=>z.elim
    have I6:=toK I6
    obtain ⟨b1,b2⟩:=back I6
    have I6':=I6.unpinned
    obtain ⟨p1,p2,p3,p4,p5⟩:=I6'.pin (D,{ cls:=.type "list",data:=.seq its.toArray c }) (List.mem_append_right _ (List.mem_singleton.mpr rfl))
    have hlen:=rv.length
    refine call_meets F.slot_list_append ⟨_,p1,rfl⟩ F.entry_list_append (F.args_list_append_2 _ _) (PySem.list_append D its.toArray c y (by rw [List.size_toArray];omega)) ⟨p1,?_⟩
    have ea:its.toArray.push y=(its++[y]).toArray:=by simp
    obtain ⟨c',q⟩:∃c',(s6.heap.update D (Obj.mapSeq (·.push y))).get? D=some { cls:=.type "list",data:=.seq (its++[y]).toArray c' }:=⟨_,by rw [← ea];exact PySem.IsL.update p1 (·.push y)⟩
    refine ⟨m',hm,i+1,some v,H6,ys++[yv],its++[y],c',?_,rv.append (.cons r6 .nil),T.keep _ _ _ b1 λb hb o e=>?_,b2,w6⟩
    ·have Id:Inv K [] (bS σ (some v) ix) H6 s6:=I6'.pins_of λp hp=>by simp at hp
     have It:Inv K [] (bS σ (some v) ix) H6 { s6 with heap:=s6.heap.update D (Obj.mapSeq (·.push y)) }:=Id.turned (t':=s6.toks) (it:=D) (λb o hb e=>(Heap.get?_update_other _ _ (Ne.symm hb)).trans e) p2 p3
      (.inr (by rw [ks];omega)) (λy' c' e=>by rw [kcl] at e;exact cellLt y' c' e) (λp hp=>by rw [kpn] at hp;simp at hp)
     refine It.pins_of λp hp=>?_
     obtain rfl:p=(D,{ cls:=.type "list",data:=.seq (its++[y]).toArray c' }):=by simpa using hp
     refine ⟨q,p2,p3,p4,λv z=>?_⟩
     have z':Data.seq _ _=Data.cell v:=z
     cases z'
    ·exact (Heap.get?_update_other _ _ (Nat.ne_of_gt (hl b hb))).trans e
 have selfs:wpAny (model X.prog X.w) X.A (pyIter (.ref it)) (λit' s'=>codeAny (model X.prog X.w) X.A (.compLoop (.ListComp elt [⟨.Name x px,iter,ifs,0⟩] scope pos) 0 it' (.ref D) (compEnvC scope clx C X.env)) (RR (.ref D) C) s')
   (notedBy (model X.prog X.w) X.A (compEnvC scope clx C X.env) λe s'=>RR (.ref D) C (.error e) s') { s with heap:=h₁,toks:=s.toks+([]:List (Str × Value)).length }:=T.self X.A 0 _ _ _ st₁ (loop _)
 exact codeAny_compStart_list (loop _) selfs
theorem blk_freeC {scope:Scope} {x:Str} {pins:List (Addr × Obj)} {σ:St} {H:Hp} {s:Shared} (I:Inv X pins σ H s) (B:BlkScopeC X.env scope x):∀y∈scope.names,y.2=.free->∃c,X.env.cells.lookup y.1=some c :=
 λy hy hf=>I.ok.has y.1 (B.free y hy hf)
theorem ps_compC {elt iter:Expr} {x y:Str} {px py pos spos:Pos} {scope:Scope} {te:TE} {tt:TT} {wi:TI} {ifs:List Expr} {j:Nat} (ix:List Nat) (hc:X.calm=true) (B:BlkScopeC X.env scope x)
  (hNd:X.N.Nodup) (hj:X.N[j]? = some y) (hy:Loc X.env.scope y)
  (hsw:swapsWith (.ListComp elt [⟨.Name x px,iter,ifs,0⟩] scope pos) (some (.Name y py)) spos.line X.env=pure true)
  (hix:∀i∈ix,∃y,X.N[i]? = some y/\scope.names.lookup y=some .free) (hN:(bN X.N x ix).Nodup) (hi:PI X (.Name x px) iter wi)
  (ht:∀cl C s₀ H₀ fp,PIfs (cxBlk X scope cl C (bN X.N x ix) s₀ H₀ fp) ifs tt)
  (he:∀cl C s₀ H₀ fp,PE (cxBlk X scope cl C (bN X.N x ix) s₀ H₀ fp) elt te)
  (hf:X.fn y=true\/X.env.scope.names.lookup y=some .local:=by first | exact .inl rfl | exact .inr rfl | assumption)
  (hs:∀x,foldedSetIterable iter X.env x=pure x:=by intro _;rfl) :
  PS X (.Assign [.Name y py] (.ListComp elt [⟨.Name x px,iter,ifs,0⟩] scope pos) spos) (tAsg (tComp wi tt te ix) (gName j)):=by
 intro pins s σ H D0 I h
 obtain ⟨cl,hcl,h1,h3⟩:=closure_for (blk_freeC I B)
 rw [exec_Assign_Name_used _ _ _ _ hsw]
 refine wpAny_bind (wpAny_standAt (wpAny_bind ?_))
 show wpAny _ X.A (do let _ ← comprehension (.ListComp elt [⟨.Name x px,iter,ifs,0⟩] scope pos) scope X.env _ (newList []) false (eval iter X.env) (some (assign (.Name y py) X.env))) _ _ s
 refine wpAny_bind (wpAny_mono (wpAny_comprehension_free (use:=some (assign (.Name y py) X.env)) (Q:=λ_ s'=>SP X pins D0 .next s') rfl hs hcl B.kind B.names
  (thn (hi pins s σ H _ I h) λv s1 h1'=>thn h1' λitv s2 h2=>?_)) (λ_ s' hq=>wpAny_pure (wpAny_pure hq)) λ_ _ e=>e)
 obtain ⟨it,fp,tn,J,H2,e,I2,T,st2,f2,W,m0,w0,turn⟩:=h2
 subst e
 refine comp_blkC (G:=λys H'=>∀l,H' l=none->gName j (.ref l) σ (upd H' l (.lst ys)) D0.nx) I2 hc B h1 h3 hix hN T st2 f2 he ht W m0 w0 turn λD C s' ys H' I' hD hC hm hCs hDC g=>?_
 obtain ⟨m,hm⟩:=hm
 have hCn:upd H' D (.lst ys) C=none:=by rw [upd_ne (Ne.symm hDC)];exact hC
 show wpAny _ _ (assign (.Name y py) X.env (.ref D)) _ _ s'
 refine wpAny_assign_Name (store_ok2 I' hNd hj hy (show RelV (.ref D) (.ref D) from rfl) (λs3 I3 ⟨a,hsa,ha⟩=>?_) hf)
 have hCa:C≠a:=by
  rcases ha with z | z
  ·rw [z];exact Nat.ne_of_gt (Nat.lt_of_lt_of_le I2.lt hCs)
  ·obtain ⟨v,q⟩:=I2.cell y a z;exact Nat.ne_of_gt (Nat.lt_of_lt_of_le q.lt hCs)
 exact ⟨m,hm.sameBut hsa hCa,λh' hsb=>⟨_,_,I2.blkGone I3 hCs hCn hsb,g D hD⟩⟩
end
end L2
namespace L2
open PySem PySem.Spec PyProof.Rows
section
variable {prog:Program} {w:World} {A:Around} {E:Value->Shared->Prop} {s:Shared}
theorem iter_any {d:Addr} {od:Obj} {es:Array DictEntry} {ep:Nat} {Q:Value->Shared->Prop} (hd:(d == sysModules)=false) (ho:s.heap.get? d=some od) (hc:od.ExactDict) (hdat:od.data=.dict es ep)
  (hQ:Q (.ref s.heap.objs.size) { s with heap:=s.heap.push { cls:=.type "dict_keyiterator",data:=.fields #[.ref d,.int 0 0,.int es.size 0,.int ep 0] } }) :
  wpAny (model prog w) A (pyIter (.ref d)) Q E s:=by
 have hT:s.TypeIs (.ref d) "dict":=⟨od,ho,hc.1⟩
 refine wpAny_pyIter_slot hT F.slot_dict_iter (wpAny_call_entry F.slot_dict_iter hT F.entry_dict_iter ?_ (F.args_dict_iter_1 _))
 unfold Builtin.«dict.__iter__»
 refine wpAny_bind ?_
 unfold Builtin.Dict.dictSlotNone
 refine wpAny_bind (wpAny_notOrdered_dict hT ?_)
 show wpAny _ _ (pure (Value.ref d)) _ _ s
 refine wpAny_pure ?_
 show wpAny _ _ (Builtin.Dict.showsAll d >>= _) _ _ s
 unfold Builtin.Dict.showsAll
 rw [if_neg (by rw [hd];exact Bool.false_ne_true)]
 refine wpAny_bind (wpAny_pure (wpAny_bind (wpAny_dictEntries ho hdat (wpAny_bind (wpAny_dictEpoch ho hdat ?_)))))
 refine wpAny_bind (wpAny_newObj_type (wpAny_pure ⟨_,rfl,"dict_keyiterator",_,⟨_,Heap.get?_push_size _ rfl,rfl⟩,F.slot_dict_keyiterator_next.lookup,?_⟩))
 simpa [rawInt] using hQ
theorem next_any {it d:Addr} {i ep:Nat} {od:Obj} {es:Array DictEntry} {e:DictEntry} {Q:Option Value->Shared->Prop} (hit:s.heap.IsKeyIter it d i es.size ep) (hod:s.heap.get? d=some od) (hdd:od.data=.dict es ep) (hx:es[i]? = some e)
  (hQ:∀h',h'.IsKeyIter it d (i+1) es.size ep->Heap.SameBut it s.heap h'->Q (some e.key) { s with heap:=h' }):wpAny (model prog w) A (pyNext (.ref it)) Q E s:=by
 obtain ⟨o,ho,hc,hd⟩:=id hit
 unfold pyNext
 refine wpAny_bind (wpAny_attempt (wpAny_callSpecial?_slot (name:=Str.ofString "__next__") hit.typeIs F.slot_dict_keyiterator_next
  (wpAny_call_entry F.slot_dict_keyiterator_next hit.typeIs F.entry_dict_keyiterator_next ?_ (F.args_dict_keyiterator_next_1 _))))
 refine wpAny_bind (wpAny_pure (wpAny_bind (wpAny_bind ?_)))
 first | refine wpAny_bind (wpAny_typeNameOfWhole_keyiter hit.typeIs (wpAny_pure ?_)) | refine wpAny_bind (wpAny_typeNameOf_keyiter hit.typeIs (wpAny_pure ?_))
 refine wpAny_bind (wpAny_fieldsOf ho hd ?_)
 simp only [show Builtin.Dict_items.ownsTuple "dict_keyiterator" = false by decide,Bool.false_eq_true,if_false]
 show wpAny _ _ (if (Value.ref d == Value.none)=true then _ else _) _ _ s
 rw [if_neg (show ¬((Value.ref d == Value.none)=true) from Bool.false_ne_true)]
 refine wpAny_bind (wpAny_pure (wpAny_bind (wpAny_dictEntries hod hdd ?_)))
 rw [if_neg (by simp)]
 refine wpAny_bind (wpAny_pure (wpAny_bind (wpAny_dictEpoch hod hdd ?_)))
 rw [if_neg (by simp)]
 refine wpAny_pure ?_
 simp only [show ¬((i:Int)<0) from by omega,if_false,Int.toNat_natCast,hx]
 refine wpAny_bind ?_
 first | refine wpAny_bind (wpAny_typeNameOfWhole_keyiter hit.typeIs (wpAny_pure ?_)) | refine wpAny_bind (wpAny_typeNameOf_keyiter hit.typeIs (wpAny_pure ?_))
 refine wpAny_bind (wpAny_isOneOf_keyiter hit.typeIs ?_)
 show wpAny _ _ (setField (.ref it) 1 (rawInt ((i:Int)+1)) >>= _) _ _ s
 refine wpAny_bind (wpAny_setField ho hd (by simp) ?_)
 have hit':(s.heap.update it (Obj.mapFields (·.setIfInBounds 1 (rawInt ((i:Int)+1))))).IsKeyIter it d (i+1) es.size ep :=
  ⟨_,Heap.get?_update_self _ ho (Obj.isFreed_of_fields (Obj.data_mapFields hd _)),(Obj.cls_mapFields ..).trans hc,by rw [Obj.data_mapFields hd];simp [rawInt]⟩
 refine wpAny_bind (wpAny_holding (wpAny_bind (wpAny_isOneOf_keyiter (s:={ s with heap:=s.heap.update it (Obj.mapFields (·.setIfInBounds 1 (rawInt ((i:Int)+1)))) }) hit'.typeIs ?_)))
 show wpAny _ _ (pure e.key) _ _ _
 exact wpAny_pure (wpAny_pure ⟨_,rfl,wpAny_pure (hQ _ hit' (Heap.SameBut.update ..))⟩)
theorem end_any {it d:Addr} {i ep:Nat} {od:Obj} {es:Array DictEntry} {Q:Option Value->Shared->Prop} (hh:A.handled=none) (hit:s.heap.IsKeyIter it d i es.size ep) (hod:s.heap.get? d=some od) (hdd:od.data=.dict es ep) (hx:es.size<=i)
  (hQ:∀h',Heap.ExtBut it s.heap h'->Q none { s with heap:=h' }):wpAny (model prog w) A (pyNext (.ref it)) Q E s:=by
 obtain ⟨o,ho,hc,hd⟩:=id hit
 unfold pyNext
 refine wpAny_bind (wpAny_attempt (wpAny_callSpecial?_slot (name:=Str.ofString "__next__") hit.typeIs F.slot_dict_keyiterator_next
  (wpAny_call_entry F.slot_dict_keyiterator_next hit.typeIs F.entry_dict_keyiterator_next ?_ (F.args_dict_keyiterator_next_1 _))))
 refine wpAny_bind (wpAny_pure (wpAny_bind (wpAny_bind ?_)))
 first | refine wpAny_bind (wpAny_typeNameOfWhole_keyiter hit.typeIs (wpAny_pure ?_)) | refine wpAny_bind (wpAny_typeNameOf_keyiter hit.typeIs (wpAny_pure ?_))
 refine wpAny_bind (wpAny_fieldsOf ho hd ?_)
 simp only [show Builtin.Dict_items.ownsTuple "dict_keyiterator" = false by decide,Bool.false_eq_true,if_false]
 show wpAny _ _ (if (Value.ref d == Value.none)=true then _ else _) _ _ s
 rw [if_neg (show ¬((Value.ref d == Value.none)=true) from Bool.false_ne_true)]
 refine wpAny_bind (wpAny_pure (wpAny_bind (wpAny_dictEntries hod hdd ?_)))
 rw [if_neg (by simp)]
 refine wpAny_bind (wpAny_pure (wpAny_bind (wpAny_dictEpoch hod hdd ?_)))
 rw [if_neg (by simp)]
 refine wpAny_pure ?_
 simp only [show ¬((i:Int)<0) from by omega,if_false,Int.toNat_natCast,Array.getElem?_eq_none hx]
 refine wpAny_bind ?_
 first | refine wpAny_bind (wpAny_typeNameOfWhole_keyiter hit.typeIs (wpAny_pure ?_)) | refine wpAny_bind (wpAny_typeNameOf_keyiter hit.typeIs (wpAny_pure ?_))
 show wpAny _ _ (setField (.ref it) 0 .none >>= _) _ _ s
 refine wpAny_bind (wpAny_setField ho hd (by simp) ?_)
 show wpAny _ _ (newExc (.type "StopIteration") [] >>= _) _ _ _
 refine wpAny_bind ?_
 simp only [newExc,newTuple]
 refine wpAny_bind (wpAny_newObj_type ?_ (by size_fits))
 refine wpAny_bind (m:=firstArgMember _ _) (wpAny_of_eq (a:=Value.none) (by first | rfl | (simp only [firstArgMember];rfl)) ?_)
 refine wpAny_newObj_type ?_ (by size_fits)
 simp only [raiseNew]
 refine wpAny_bind (wpAny_handled ?_)
 rw [show A.in1.handled=none from hh]
 refine wpAny_bind (wpAny_pure (wpAny_throw ?_))
 refine wpAny_bind (wpAny_isInstance (T:="StopIteration") (b:=true) ⟨_,Heap.get?_push_size _ rfl,rfl⟩ isSubtype_stop ?_)
 exact wpAny_pure (hQ _ (((Heap.SameBut.update ..).extBut.push _).push _))
end
def ItkT (d:Addr) (o:Obj) (kvs:List (List Key × V)):It :=
 ⟨λi H=>H d=some (.frz o (.dT kvs))/\i<kvs.length,λi H x H'=>H'=H/\∃k v b,kvs[i]? = some (k,v)/\x=.ref b/\H b=some (.tup (k.map kV)),λi H=>H d=some (.frz o (.dT kvs))/\kvs.length<=i⟩
theorem turn_keysT {P:Program} {w:World} {K:PySem.W.Frag} {tg:Expr} (d it:Addr) (o:Obj) (kvs:List (List Key × V)) (es:Array DictEntry) (ep:Nat) (hdi:d≠it) (ho:o.data=.dict es ep) (hn:es.size=kvs.length) :
  Turn P w K tg (ItkT d o kvs) [it] it (λi h=>h.IsKeyIter it d i es.size ep) where
 mem:=by simp
 obj:=λi h st b hb=>by
  have e:b=it:=by simpa using hb
  subst e
  obtain ⟨o,e,c,d⟩:=st
  exact ⟨o,e,λv z=>by rw [d] at z;cases z⟩
 keep:=λi h h' st k=>by
  obtain ⟨o,e,c,d⟩:=st
  exact ⟨o,k it (by simp) o e,c,d⟩
 item:=by
  intro X hP hw hK hc i pins s σ H E I hf st hg
  subst hP hw hK
  obtain ⟨hH,hlt⟩:=hg
  obtain ⟨e1,_,_,xs,pr,o',es',ep',g1,g2,g3,g4,g5⟩:=I.hok d _ hH
  have eo:o'=o:=Option.some.inj (g1.symm.trans e1)
  subst eo
  have ee:es'=es:=by rw [ho] at g3;cases g3;rfl
  subst ee
  have hlen:kvs.length=xs.length:=Paired.length pr
  obtain ⟨⟨k,y⟩,hx⟩:∃p,kvs[i]? = some p:=⟨kvs[i],by simp [hlt]⟩
  obtain ⟨⟨k',b,u⟩,hu⟩:∃p,xs[i]? = some p:=⟨xs[i]'(by omega),by simp [show i<xs.length by omega]⟩
  obtain ⟨rk,hb,_⟩:=pairedAt pr hx hu
  have hk:es'[i]? = some (entryOfKey (tupleKind (mixKind X.prog X.w)) (k',b,u)):=by rw [entry_at g4,hu];rfl
  obtain ⟨f0,f1,f2,f3,f4,f5⟩:=hf it (by simp)
  refine next_any st e1 ho hk λh' st' sb=>?_
  have I1:Inv X pins σ H { s with heap:=h' }:=I.turned (t':=s.toks) (λb o hb e=>(sb.2 b hb).trans e) f0 f1 f3 f4 f5
  obtain ⟨oi,e,c,dd⟩:=id st'
  exact ⟨_,rfl,go_of (s:={ s with heap:=h' }) e c dd (by decide) ⟨.ref b,H,I1,rfl,⟨rfl,k,y,b,hx,rfl,hb⟩,st',λb hb=>(hf b hb).1⟩⟩
 done:=by
  intro X hP hw hK hc i pins s σ H E I hf st hg
  subst hP hw hK
  obtain ⟨hH,hge⟩:=hg
  obtain ⟨e1,_⟩:=I.hok d _ hH
  obtain ⟨f0,f1,f2,f3,f4,f5⟩:=hf it (by simp)
  exact end_any (I.ok.hd hc) st e1 ho (by omega) λh' eb=>⟨rfl,I.turned (t':=s.toks) (λb o hb e=>eb b o hb e) f0 f1 f3 f4 f5⟩
 self:=λ_ _ _ _ _ st h=>wpAny_pyIter_keyiter st h
section
variable {X:Cx}
def iKeysT (to:TE):TI:=λσ H R=>to σ H λx H1=>∃d kvs,x=.ref d/\H1 d=some (.dT kvs)/\∀o,R (ItkT d o kvs) (upd H1 d (.frz o (.dT kvs)))
theorem pi_keysT {tg o:Expr} {to:TE} (ho:PE X o to):PI X tg o (iKeysT to):=by
 intro pins s σ H R I h
 refine thn (ho pins s σ H _ I h) λv s1 ⟨x,H1,I1,r1,d,kvs,e,hd,q⟩=>?_
 subst e
 cases r1
 obtain ⟨z,hs,xs,rel,ob,es,ep,hob,dr,hdat,g4,g5⟩:=(show ObjOk X.prog X.w H1 s1.heap d (.dT kvs) from I1.hok d _ hd)
 refine iter_any hs hob dr hdat ?_
 have I3:=I1.kept (h':=s1.heap.push { cls:=.type "dict_keyiterator",data:=.fields #[.ref d,.int 0 0,.int es.size 0,.int ep 0] }) (t':=s1.toks) λb u e=>Heap.get?_push_of_some _ e
 have hob3:=Heap.get?_push_of_some (h:=s1.heap) { cls:=.type "dict_keyiterator",data:=.fields #[.ref d,.int 0 0,.int es.size 0,.int ep 0] } hob
 have hlt:d<s1.heap.objs.size:=Heap.lt_size hob
 have rel2:Paired (λ(p:List Key × V) (q:List Key × Addr × Value)=>p.1=q.1/\upd H1 d (.frz ob (.dT kvs)) q.2.1=some (.tup (p.1.map kV))/\RelV p.2 q.2.2) kvs xs:=by
  refine Paired.mapP rel ?_
  rintro p q ⟨a1,a2,a3⟩
  refine ⟨a1,?_,a3⟩
  rw [upd_ne (λz=>by rw [z,hd] at a2;cases a2)]
  exact a2
 have I4:=I3.write (x:=d) (e:=d) (o:=.frz ob (.dT kvs)) (t':=s1.toks) (by rw [hd];trivial) (.inl rfl) (λb u _ q=>q) ⟨_,hob3⟩
  (show ObjOk X.prog X.w _ _ d (.frz ob (.dT kvs)) from ⟨hob3,z,hs,xs,rel2,ob,es,ep,hob3,dr,hdat,g4,g5⟩)
 have hn:es.size=kvs.length:=by rw [size_of_entries g4];exact (Paired.length rel).symm
 refine ⟨s1.heap.objs.size,[s1.heap.objs.size],_,_,_,rfl,I4,
  turn_keysT d _ ob kvs es ep (Nat.ne_of_lt hlt) hdat hn,⟨_,Heap.get?_push_size _ rfl,rfl,rfl⟩,λb hb=>?_,q ob⟩
 have e:b=s1.heap.objs.size:=by simpa using hb
 subst e
 exact I1.fpOk (Nat.le_refl _) (by rw [upd_ne (Nat.ne_of_gt hlt)];exact I1.hok.fresh (Nat.le_refl _))
end
end L2
namespace LR
open PySem PySem.Spec PyProof.Rows
theorem no_len:typeLookup (.type "list_reverseiterator") "__len__" = pure none:=by rw [typeLookup_type,builtinLookup_eq_fast];kernel_rfl
theorem has_hint:typeLookup (.type "list_reverseiterator") "__length_hint__" = pure (some (.builtin "list_reverseiterator.__length_hint__")):=by rw [typeLookup_type,builtinLookup_eq_fast];kernel_rfl
section
variable {prog:Program} {w:World} {A:Around} {E:Value->Shared->Prop} {s:Shared}
theorem hint {r:Addr} {Q:Bool->Shared->Prop} (ty:s.TypeIs (.ref r) "list_reverseiterator") (q:Q false s):wpAny (model prog w) A (Builtin.List.listLengthHint (.ref r)) Q E s:=by
 unfold Builtin.List.listLengthHint
 refine wpAny_bind (wpAny_specialOf ty no_len ?_)
 refine wpAny_ite_split (λz=>absurd z (by decide)) (λ_=>?_)
 refine wpAny_ite_split (λz=>absurd z (by decide)) (λ_=>?_)
 refine wpAny_bind (wpAny_specialOf ty has_hint ?_)
 generalize hid:("list_reverseiterator.__length_hint__" : String)=id0
 wp_delta
 rw [show splitId id0=some ("list_reverseiterator","__length_hint__") from by subst hid;decide +kernel]
 subst hid
 refine wpAny_bind (wpAny_isInstance (T:="list_reverseiterator") (b:=true) ty (by rw [isSubtype_type];kernel_rfl) ?_)
 refine wpAny_ite_split (λz=>absurd z (by decide)) (λ_=>?_)
 refine wpAny_ite_split (λ_=>?_) (λz=>absurd (by decide +kernel) z)
 refine wpAny_ite_split (λz=>absurd z (by decide +kernel)) (λ_=>?_)
 exact wpAny_pure q
abbrev Back (items:Array Value):Nat->Value->Prop:=λi v=>items[items.size-1-i]? = some v
theorem more {R:Result->Shared->Prop} {r l S:Addr} {items:Array Value} {res:Value} {c₀:Nat} (hh:A.handled=none) (hl:s.heap.IsList l items) (hr:s.heap.IsRevIter r l ((items.size:Int)-1)) (hne:l≠r) (h1:S≠r) (h2:S≠l) (hz:items.size<=sizeLine)
  (hS:s.heap.get? S=some { cls:=.type "list",data:=.seq #[] c₀ })
  (q:∀h' tk acc c,(∀b o,b≠S->b≠r->s.heap.get? b=some o->h'.get? b=some o)->h'.get? S=some { cls:=.type "list",dict:=none,data:=.seq acc c,slots:=#[] }->ItemsOf (Back items) acc items.size->R (.ok (.ret res)) { s with heap:=h',toks:=tk }) :
  wpAny (model prog w) A.in1 (Builtin.List.listExtendWith (.ref S) (.ref r) res)
   (λfin s'=>match fin with | .done f=>R (.ok f) s' | .again c'=>c'.quiet=true/\codeAny (model prog w) A c' R s') (λe s'=>R (.error e) s') s:=by
 have Wk:=Walks.listRev (prog:=prog) (w:=w) (A:=A.in1) hh r l hne items
 have out:S∉[r,l]:=by simp [h1,h2]
 have st0:∀h:Heap,h.IsRevIter r l ((items.size:Int)-1)->h.IsList l items->0<=items.size/\h.IsRevIter r l ((items.size:Int)-1-((0:Nat):Int))/\h.IsList l items:=λh x y=>⟨Nat.zero_le _,by rw [show (items.size:Int)-1-((0:Nat):Int)=(items.size:Int)-1 by omega];exact x,y⟩
 unfold Builtin.List.listExtendWith
 refine wpAny_bind (wpAny_typeOf (T:="list_reverseiterator") hr.typeIs ?_)
 have e1:Builtin.List.listSameRef (.ref S) (.ref r)=false:=by simp [Builtin.List.listSameRef,h1]
 have e2:(Value.type "list_reverseiterator" == Value.type "list")=false:=by decide
 have e3:(Value.type "list_reverseiterator" == Value.type "tuple")=false:=by decide
 simp only [e1,e2,e3,Bool.or_false,Bool.false_eq_true,if_false]
 refine wpAny_bind (wpAny_pyIter_revIter hr ?_)
 refine wpAny_bind (wpAny_holding (hint hr.typeIs ?_))
 have key:∀(h:Heap) (c₁ tk:Nat),h.IsRevIter r l ((items.size:Int)-1)->h.IsList l items->(∀b o,b≠S->s.heap.get? b=some o->h.get? b=some o) ->
   h.get? S=some { cls:=.type "list",data:=.seq #[] c₁ }->codeAny (model prog w) A (.builtin "list.extend.loop" ⟨[.ref S,.ref r,res],[]⟩) R { s with heap:=h,toks:=tk }:=by
  intro h c₁ tk x1 x2 hk x3
  refine codeAny_extend_loopS Wk.toS hz S out res items.size 0 _ #[] c₁ rfl (Nat.zero_le _) (st0 h x1 x2) x3 (ItemsOf.nil _) λs' acc c mv x4 x5=>?_
  rw [Moved.eq_with mv]
  exact q s'.heap s'.toks acc c (λb o b1 b2 e=>mv.heap b o (λz=>by
   rcases List.mem_cons.mp z with z | z
   ·exact b1 z
   ·exact b2 (List.mem_singleton.mp z)) (hk b o b1 e)) x4 x5
 refine wpAny_ite_split (λ_=>?_) (λ_=>wpAny_pure ⟨plainId_quiet PySem.F.plain_extend_loop _,key _ c₀ _ hr hl (λb o _ e=>e) hS⟩)
 refine wpAny_bind (wpAny_rule ?_)
 refine wpAny_bind ?_
 show wpAny _ _ (updateSeq S (·.push .none) >>= λ_=>updateSeq S (·.pop)) _ _ _
 refine wpAny_bind (wpAny_updateSeq hS rfl ?_)
 have y1:=Heap.get?_update_self (Obj.mapSeq (·.push Value.none)) hS rfl
 refine wpAny_updateSeq (hz:=by seq_fits) y1 rfl ?_
 have y2:=Heap.get?_update_self (Obj.mapSeq (·.pop)) y1 rfl
 have oth:∀b o,b≠S->s.heap.get? b=some o->((s.heap.update S (Obj.mapSeq (·.push Value.none))).update S (Obj.mapSeq (·.pop))).get? b=some o:=λb o hb e =>
  (Heap.get?_update_other _ _ (Ne.symm hb)).trans ((Heap.get?_update_other _ _ (Ne.symm hb)).trans e)
 exact wpAny_pure ⟨plainId_quiet PySem.F.plain_extend_loop _,key _ _ _ (hr.at λo e=>oth r o (Ne.symm h1) e) (hl.at λo e=>oth l o (Ne.symm h2) e) oth y2⟩
end
end LR
namespace L2
open PySem PySem.Spec PyProof.Rows
section
variable {X:Cx}
end
end L2
namespace L2
open PySem PySem.Spec PyProof.Rows
section
variable {X:Cx}
end
end L2
namespace M
def sp (m i:Nat):Int × Int:=if i<4*m then (((i / 4:Nat):Int),((i % 4:Nat):Int)) else (-1,((i-4*m:Nat):Int))
theorem sp_in {m k j:Nat} (hk:k<m) (hj:j<4):sp m (4*k+j)=((k:Int),(j:Int)):=by
 unfold sp
 rw [if_pos (by omega)]
 congr 1 <;> omega
theorem sp_out (m j:Nat):sp m (4*m+j)=(-1,(j:Int)):=by
 unfold sp
 rw [if_neg (by omega)]
 congr 1;omega
theorem sp_inj {m i j:Nat} (h:sp m i=sp m j):i=j:=by
 unfold sp at h
 by_cases hi:i<4*m
 ·rw [if_pos hi] at h
  by_cases hj:j<4*m
  ·rw [if_pos hj] at h
   have h1:=congrArg Prod.fst h
   have h2:=congrArg Prod.snd h
   dsimp only at h1 h2
   omega
  ·rw [if_neg hj] at h
   have h1:=congrArg Prod.fst h
   dsimp only at h1
   omega
 ·rw [if_neg hi] at h
  by_cases hj:j<4*m
  ·rw [if_pos hj] at h
   have h1:=congrArg Prod.fst h
   dsimp only at h1
   omega
  ·rw [if_neg hj] at h
   have h2:=congrArg Prod.snd h
   dsimp only at h2
   omega
structure Tw (n:Nat) (A:Nat->Int) (g:Nat->Nat):Prop where
 lt:∀i,i<n->g i<n
 ne:∀i,i<n->g i≠i
 eq:∀i,i<n->A (g i)=A i
 only:∀i k,i<n->k<n->A k=A i->k=i\/k=g i
theorem Tw.inv {n:Nat} {A:Nat->Int} {g:Nat->Nat} (T:Tw n A g) {i:Nat} (h:i<n):g (g i)=i:=by
 rcases T.only (g i) i (T.lt i h) h (T.eq i h).symm with z | z
 ·exact absurd z.symm (T.ne i h)
 ·exact z.symm
def addP (P:List (Int × List Nat)) (a:Int) (i:Nat):List (Int × List Nat) :=
 if (P.any λe=>decide (e.1=a))=true then P.map (λe=>if e.1=a then (e.1,e.2++[i]) else e) else P++[(a,[i])]
def plc (A:Nat->Int) (t:Nat):List (Int × List Nat):=(List.range t).foldl (λP i=>addP P (A i) i) []
theorem plc_succ (A:Nat->Int) (t:Nat):plc A (t+1)=addP (plc A t) (A t) t:=by
 unfold plc;rw [List.range_succ,List.foldl_append];rfl
theorem addP_keys (P:List (Int × List Nat)) (a:Int) (i:Nat):(addP P a i).map (·.1)=if (P.any λe=>decide (e.1=a))=true then P.map (·.1) else P.map (·.1)++[a]:=by
 unfold addP
 by_cases h:(P.any λe=>decide (e.1=a))=true
 ·rw [if_pos h,if_pos h,List.map_map]
  apply List.map_congr_left
  intro e _
  show (if e.1=a then (e.1,e.2++[i]) else e).1=e.1
  split <;> rfl
 ·rw [if_neg h,if_neg h,List.map_append];rfl
theorem plc_ok (A:Nat->Int):∀t,((plc A t).map (·.1)).Nodup/\(∀e∈plc A t,e.2=(List.range t).filter (λi=>decide (A i=e.1))/\e.2≠[])/\∀i,i<t->∃e∈plc A t,e.1=A i:=by
 intro t
 induction t with
 | zero=>exact ⟨List.nodup_nil,(λe h=>by cases h),λi h=>absurd h (Nat.not_lt_zero _)⟩
 | succ t ih =>
  obtain ⟨h1,h2,h3⟩:=ih
  rw [plc_succ]
  have hr:∀(p:Nat->Bool),(List.range (t+1)).filter p=(List.range t).filter p++if p t then [t] else []:=λp=>by
   rw [List.range_succ,List.filter_append]
   congr 1
   by_cases hp:p t=true
   ·simp [hp]
   ·simp [hp]
  by_cases h:((plc A t).any λe=>decide (e.1=A t))=true
  ·refine ⟨by rw [addP_keys,if_pos h];exact h1,λe he=>?_,λi hi=>?_⟩
   ·unfold addP at he
    rw [if_pos h] at he
    obtain ⟨e',he',rfl⟩:=List.mem_map.mp he
    obtain ⟨a1,a2⟩:=h2 e' he'
    by_cases hk:e'.1=A t
    ·rw [if_pos hk]
     refine ⟨?_,by simp⟩
     show e'.2++[t]=_
     rw [hr,← a1,if_pos (by simp [hk])]
    ·rw [if_neg hk]
     refine ⟨?_,a2⟩
     rw [hr,← a1,if_neg (by simp;exact λz=>hk z.symm),List.append_nil]
   ·have hmem:∀e∈plc A t,∃e'∈addP (plc A t) (A t) t,e'.1=e.1:=λe he=>by
     have:e.1∈(addP (plc A t) (A t) t).map (·.1):=by rw [addP_keys,if_pos h];exact List.mem_map.mpr ⟨e,he,rfl⟩
     obtain ⟨e',h1',h2'⟩:=List.mem_map.mp this
     exact ⟨e',h1',h2'⟩
    by_cases hit:i<t
    ·obtain ⟨e,he,q⟩:=h3 i hit
     obtain ⟨e',a1,a2⟩:=hmem e he
     exact ⟨e',a1,a2.trans q⟩
    ·have:i=t:=by omega
     subst this
     obtain ⟨e,he,q⟩:=List.any_eq_true.mp h
     obtain ⟨e',a1,a2⟩:=hmem e he
     exact ⟨e',a1,a2.trans (of_decide_eq_true q)⟩
  ·have hno:∀e∈plc A t,e.1≠A t:=λe he z=>h (List.any_eq_true.mpr ⟨e,he,decide_eq_true z⟩)
   have hadd:addP (plc A t) (A t) t=plc A t++[(A t,[t])]:=by unfold addP;rw [if_neg h]
   rw [hadd]
   refine ⟨?_,λe he=>?_,λi hi=>?_⟩
   ·rw [List.map_append]
    refine List.nodup_append.mpr ⟨h1,by simp,λa ha b hb=>?_⟩
    obtain ⟨e,he,rfl⟩:=List.mem_map.mp ha
    have:b=A t:=by simpa using hb
    rw [this];exact hno e he
   ·rcases List.mem_append.mp he with he | he
    ·obtain ⟨a1,a2⟩:=h2 e he
     refine ⟨?_,a2⟩
     rw [hr,← a1,if_neg (by simp;exact λz=>hno e he z.symm),List.append_nil]
    ·have ee:e=(A t,[t]):=by simpa using he
     subst ee
     refine ⟨?_,by simp⟩
     rw [hr,if_pos (by simp)]
     have:(List.range t).filter (λi=>decide (A i=A t))=[]:=by
      rw [List.filter_eq_nil_iff]
      intro i hi
      have hi':i<t:=List.mem_range.mp hi
      obtain ⟨e,he,q⟩:=h3 i hi'
      simp
      intro z
      exact hno e he (q.trans z)
     show [t]=List.filter (λi=>decide (A i=A t)) (List.range t)++[t]
     rw [this];rfl
   ·by_cases hit:i<t
    ·obtain ⟨e,he,q⟩:=h3 i hit
     exact ⟨e,List.mem_append_left _ he,q⟩
    ·have:i=t:=by omega
     subst this
     exact ⟨_,List.mem_append_right _ (List.mem_singleton.mpr rfl),rfl⟩
def nx (m e i:Nat):Nat:=if i<4*m then 4*(i / 4)+(i % 4+3) % 4 else 4*m+(i-4*m+1) % e
end M
namespace L2
open PySem PySem.Spec PyProof.Rows
structure Lam where
 qual:Str
 args:Arguments
 body:Expr
 scope:Scope
 names:List Str
abbrev anyO:HO:=.ext λ_=>True
abbrev Lam.obj (L:Lam) (cl:List (Str × Addr)) (pm:Value) (c':Addr) (ctv:Value):Obj:=PySem.W.kla_obj "<lambda>" L.qual L.args L.body L.scope cl pm c' ctv
def CloPre (H:Hp) (L:Lam) (a:Addr) (cl:List (Str × Addr)):Prop :=
 ∃(c':Addr) (oc:Obj) (vs:Array Value) (t:Tok) (pm ctv:Value) (u:HO),H a=some (.frz (L.obj cl pm c' ctv) anyO)/\H c'=some (.frz oc u)/\oc.data=.fields vs/\vs[1]? = some (.str L.qual t)
def CellsAt (H:Hp):List (Str × Addr)->List V->Prop
 | [],[]=>True
 | p::cl,x::xs=>(∃oo v,H p.2=some (.frz oo anyO)/\oo.data=.cell (some v)/\RelV x v)/\CellsAt H cl xs
 | _,_=>False
def CloAt (H:Hp) (L:Lam) (a:Addr) (xs:List V):Prop :=
 ∃cl:List (Str × Addr),CloPre H L a cl/\cl.map (·.1)=L.names/\(cl.map (·.2)).Nodup/\CellsAt H cl xs
section
variable {H H':Hp} {L:Lam} {a:Addr} {cl:List (Str × Addr)} {xs:List V}
theorem CloPre.keeps (hi:∀b o u,H b=some (.frz o u)->H' b=some (.frz o u)) (x:CloPre H L a cl):CloPre H' L a cl:=by
 obtain ⟨c',oc,vs,t,pm,ctv,u,h1,h2,r⟩:=x
 exact ⟨c',oc,vs,t,pm,ctv,u,hi _ _ _ h1,hi _ _ _ h2,r⟩
theorem CellsAt.keeps (hi:∀b o u,H b=some (.frz o u)->H' b=some (.frz o u)):∀{cl:List (Str × Addr)} {xs:List V},CellsAt H cl xs->CellsAt H' cl xs
 | [],[],_=>trivial
 | p::cl,x::xs,⟨⟨oo,v,h1,r⟩,q⟩=>⟨⟨oo,v,hi _ _ _ h1,r⟩,CellsAt.keeps hi q⟩
 | [],_::_,h=>h.elim
 | _::_,[],h=>h.elim
theorem CloAt.keeps (hi:∀b o u,H b=some (.frz o u)->H' b=some (.frz o u)) (x:CloAt H L a xs):CloAt H' L a xs:=by
 obtain ⟨cl,h1,h2,h3,h4⟩:=x
 exact ⟨cl,h1.keeps hi,h2,h3,h4.keeps hi⟩
theorem CellsAt.mem:∀{cl:List (Str × Addr)} {xs:List V},CellsAt H cl xs->∀p∈cl,∃oo v,H p.2=some (.frz oo anyO)/\oo.data=.cell (some v)
 | p::cl,x::xs,⟨⟨oo,v,h1,h2,_⟩,q⟩,p',h=>by
  rcases List.mem_cons.mp h with rfl | h
  ·exact ⟨oo,v,h1,h2⟩
  ·exact CellsAt.mem q p' h
 | _::_,[],h,_,_=>h.elim
theorem CellsAt.length:∀{cl:List (Str × Addr)} {xs:List V},CellsAt H cl xs->cl.length=xs.length
 | [],[],_=>rfl
 | p::cl,x::xs,⟨_,q⟩=>by rw [List.length_cons,List.length_cons,CellsAt.length q]
 | [],_::_,h=>h.elim
 | _::_,[],h=>h.elim
theorem CellsAt.get:∀{cl:List (Str × Addr)} {xs:List V} {i:Nat} {x:V},CellsAt H cl xs->xs[i]? = some x->∃p oo v,cl[i]? = some p/\H p.2=some (.frz oo anyO)/\oo.data=.cell (some v)/\RelV x v
 | p::cl,x::xs,0,y,⟨⟨oo,v,h⟩,q⟩,e=>by
  simp at e;subst e
  exact ⟨p,oo,v,by simp,h⟩
 | p::cl,x::xs,i+1,y,⟨_,q⟩,e=>by
  obtain ⟨p',oo,v,h⟩:=CellsAt.get (i:=i) q (by simpa using e)
  exact ⟨p',oo,v,by simpa using h⟩
 | [],[],_,_,_,e=>by simp at e
 | [],_::_,_,_,h,_=>h.elim
 | _::_,[],_,_,h,_=>h.elim
end
def rmC (H:Hp) (cs:List Addr):Hp:=λb=>if b∈cs then none else H b
def putC (H2 H:Hp) (cs:List Addr):Hp:=λb=>if b∈cs then H b else H2 b
theorem rmC_in {H:Hp} {cs:List Addr} {b:Addr} (h:b∈cs):rmC H cs b=none:=if_pos h
theorem rmC_out {H:Hp} {cs:List Addr} {b:Addr} (h:b∉cs):rmC H cs b=H b:=if_neg h
theorem rmC_none {H:Hp} {cs:List Addr} {b:Addr} (h:H b=none):rmC H cs b=none:=by unfold rmC;split <;> first | rfl | exact h
theorem putC_in {H2 H:Hp} {cs:List Addr} {b:Addr} (h:b∈cs):putC H2 H cs b=H b:=if_pos h
theorem putC_out {H2 H:Hp} {cs:List Addr} {b:Addr} (h:b∉cs):putC H2 H cs b=H2 b:=if_neg h
def AreCells (H:Hp) (cs:List Addr):Prop:=∀b∈cs,∃oo v,H b=some (.frz oo anyO)/\oo.data=.cell v
section
variable {P:Program} {w:World} {K:PySem.W.Frag} {mg:Str->Option Value} {base:Heap} {A:Around} {outer:List Env} {s s':Shared} {H H2:Hp} {cs:List Addr} {h:Heap}
theorem AreCells.out (c:AreCells H cs) {b:Addr} {o:HO} (e:H b=some o) (n:∀oo v,o=.frz oo anyO->oo.data=.cell v->False):b∉cs:=λhb=>by
 obtain ⟨oo,v,e1,e2⟩:=c b hb
 rw [e] at e1
 cases e1
 exact n oo v rfl e2
theorem HOk.rm (ok:HOk P w H h) (c:AreCells H cs):HOk P w (rmC H cs) h:=λa o e=>by
 have ha:a∉cs:=λz=>by rw [rmC_in z] at e;cases e
 rw [rmC_out ha] at e
 refine (ok a o e).stay (λb u _ q=>q) (λb q=>?_) (λb xs q=>?_) λb u v vs q hd=>?_
 ·rw [rmC_out (c.out q λ_ _ z _=>by cases z)];exact q
 ·rw [rmC_out (c.out q λ_ _ z _=>by cases z)];exact q
 ·rw [rmC_out (c.out q λoo v z hd'=>by cases z;rw [hd] at hd';cases hd')];exact q
theorem Env0.rm (e:Env0 P w K mg base A outer s H) (c:AreCells H cs):Env0 P w K mg base A outer s (rmC H cs) :=
 ⟨e.frames,e.mod,λb o q=>⟨(e.bs b o q).1,rmC_none (e.bs b o q).2⟩,e.bsz,e.funs,λb hb=>rmC_none (e.frf b hb),e.hok.rm c,e.bare⟩
theorem CE.back {Q Q':VK} {u:Value} (e:Env0 P w K mg base A outer s H) (c:AreCells H cs) (x:CE outer P w (rmC H cs) s Q' u s') (hq:∀v H2,(∀b∈cs,H2 b=none)->Q' v H2->Q v (putC H2 H cs)):CE outer P w H s Q u s':=by
 obtain ⟨v,H2,os,bare,un,hok,r,q⟩:=x
 have gone:∀b∈cs,H2 b=none:=λb hb=>by
  obtain ⟨oo,v,e1,_⟩:=c b hb
  obtain ⟨e2,_⟩:=e.hok b _ e1
  exact un.free b _ e2 (rmC_in hb) (by simp)
 have outN:∀b,H b=none->b∉cs:=λb n hb=>by
  obtain ⟨oo,v,e1,_⟩:=c b hb
  rw [n] at e1;cases e1
 have out2:∀b o,H2 b=some o->b∉cs:=λb o q hb=>by rw [gone b hb] at q;cases q
 refine ⟨v,putC H2 H cs,os,bare,⟨λb o q n=>un.keep b o q (rmC_none n),λb o q n=>un.slot b o q (rmC_none n),λb o q n hx=>?_,un.there,λb xs q=>?_,λb o v' q=>?_,λb ps q=>?_⟩,λa o q=>?_,r,hq v H2 gone q⟩
 ·rw [putC_out (outN b n)];exact un.free b o q (rmC_none n) hx
 ·have z:=c.out q λ_ _ z _=>by cases z
  rw [putC_out z];exact un.tups b xs (by rw [rmC_out z];exact q)
 ·by_cases z:b∈cs
  ·rw [putC_in z];exact q
  ·rw [putC_out z];exact un.frzs b o v' (by rw [rmC_out z];exact q)
 ·have z:=c.out q λ_ _ z _=>by cases z
  obtain ⟨more,e1⟩:=un.tbls b ps (by rw [rmC_out z];exact q)
  exact ⟨more,by rw [putC_out z];exact e1⟩
 ·by_cases z:a∈cs
  ·rw [putC_in z] at q
   obtain ⟨oo,v',e1,_⟩:=c a z
   rw [e1] at q
   cases q
   obtain ⟨e2,_⟩:=e.hok a _ e1
   have e3:=un.keep a _ e2 (rmC_in z) (λhb=>by rw [e.frf a hb] at e1;cases e1) (by simp)
   exact ⟨e3,trivial,⟨_,e3⟩,λ_ _ _ _=>trivial⟩
  ·rw [putC_out z] at q
   refine (hok a o q).stay (λb u _ q=>q) (λb q=>?_) (λb xs q=>?_) λb u v vs q _=>?_
   ·rw [putC_out (out2 b _ q)];exact q
   ·rw [putC_out (out2 b _ q)];exact q
   ·rw [putC_out (out2 b _ q)];exact q
end
section
variable {P:Program} {w:World} {K:PySem.W.Frag} {mg:Str->Option Value} {base:Heap} {A:Around} {outer:List Env} {s s':Shared} {H H2:Hp} {cs:List Addr}
end
end L2
namespace PV
open PySem PySem.Spec L2
inductive Ty where
 | int | bool | str | tuple | list | dict
 deriving DecidableEq
def Ty.nm:Ty->String
 | .int=>"int" | .bool=>"bool" | .str=>"str" | .tuple=>"tuple" | .list=>"list" | .dict=>"dict"
inductive D where
 | non
 | bl (b:Bool)
 | int (i:Int)
 | str (x:Str)
 | tup (xs:List D)
 | lst (xs:List D)
 | dik (kvs:List (Key × D))
 | dit (kvs:List (List Key × D))
 | kls (xs:List D)
 | ty (t:Ty)
 | fdk (kvs:List (Key × D))
 | ftp (xs:List D)
 | fls (xs:List D)
 | fdt (kvs:List (List Key × D))
 | obj (x:Str) (fs:List (Str × Int))
 | clo (L:Lam) (ds:List D)
def imm:HO->Bool
 | .tup _=>true
 | .frz _ _=>true
 | _=>false
def FzL (K:PySem.W.Frag) (H:Hp) (a:Addr) (xs:List V):Prop :=
 (∃o,H a=some (.frz o (.lst xs))) \/
  ∃(o:Obj) (its:Array Value) (n:Nat),K.lookup a=some o/\o.cls=.type "list" /\ o.dict=none/\o.data=.seq its n/\its.size<=sizeLine/\Vals xs its.toList
theorem FzL.sq {K:PySem.W.Frag} {H:Hp} {a:Addr} {xs:List V} (h:FzL K H a xs):SqL K H a xs:=by
 rcases h with h | h
 ·exact .inl (.inr h)
 ·exact .inr h
mutual
inductive Rep (K:PySem.W.Frag) (H:Hp):D->V->List Addr->Prop
 | non:Rep K H .non .non []
 | bl (b:Bool):Rep K H (.bl b) (.bl b) []
 | int (i:Int):Rep K H (.int i) (.int i) []
 | str (x:Str):Rep K H (.str x) (.str x) []
 | tup {a:Addr} {xs:List V} {ds:List D} {F:List Addr} (e:H a=some (.tup xs)) (r:Reps K H ds xs F):Rep K H (.tup ds) (.ref a) F
 | lst {a:Addr} {xs:List V} {ds:List D} {F:List Addr} (e:H a=some (.lst xs)) (r:Reps K H ds xs F):Rep K H (.lst ds) (.ref a) (a::F)
 | dik {a:Addr} {kvs:List (Key × V)} {ds:List (Key × D)} {F:List Addr} (e:H a=some (.dK kvs)) (r:RepK K H ds kvs F):Rep K H (.dik ds) (.ref a) (a::F)
 | dit {a:Addr} {kvs:List (List Key × V)} {ds:List (List Key × D)} {F:List Addr} (e:H a=some (.dT kvs)) (r:RepT K H ds kvs F):Rep K H (.dit ds) (.ref a) (a::F)
 | kls {a:Addr} {xs:List V} {ds:List D} (e:FzL K H a xs) (r:Reps K H ds xs []):Rep K H (.kls ds) (.ref a) []
 | ty (t:Ty):Rep K H (.ty t) (.ty t.nm) []
 | fdk {a:Addr} {o:Obj} {kvs:List (Key × V)} {ds:List (Key × D)} {F:List Addr} (e:H a=some (.frz o (.dK kvs))) (r:RepK K H ds kvs F):Rep K H (.fdk ds) (.ref a) F
 | ftp {a:Addr} {o:Obj} {xs:List V} {ds:List D} (e:H a=some (.frz o (.tup xs))) (hd:o.dict=none) (r:Reps K H ds xs []):Rep K H (.ftp ds) (.ref a) []
 | fls {a:Addr} {o:Obj} {xs:List V} {ds:List D} (e:H a=some (.frz o (.lst xs))) (r:Reps K H ds xs []):Rep K H (.fls ds) (.ref a) []
 | fdt {a:Addr} {o:Obj} {kvs:List (List Key × V)} {ds:List (List Key × D)} {F:List Addr} (e:H a=some (.frz o (.dT kvs))) (r:RepT K H ds kvs F):Rep K H (.fdt ds) (.ref a) F
 | obj {a:Addr} {x:Str} {o:Obj} {φ:Heap->Prop} {fs:List (Str × Int)} (e:H a=some (.frz o (.ext φ))) (hc:∃C,o.cls=.ref C/\PySem.W.nsIn K mainGlobals x=some (some (.ref C))) (hf:fs=[]\/∃dx od,o.dict=some dx/\H dx=some (.frz od (.xd (fs.map λp=>(p.1,V.int p.2))))):Rep K H (.obj x fs) (.ref a) []
 | clo {a:Addr} {L:Lam} {xs:List V} {ds:List D} {F:List Addr} (e:CloAt H L a xs) (r:Reps K H ds xs F):Rep K H (.clo L ds) (.ref a) F
inductive Reps (K:PySem.W.Frag) (H:Hp):List D->List V->List Addr->Prop
 | nil:Reps K H [] [] []
 | cons {d:D} {v:V} {ds:List D} {vs:List V} {F G:List Addr} (h:Rep K H d v F) (r:Reps K H ds vs G):Reps K H (d::ds) (v::vs) (F++G)
inductive RepK (K:PySem.W.Frag) (H:Hp):List (Key × D)->List (Key × V)->List Addr->Prop
 | nil:RepK K H [] [] []
 | cons {k:Key} {d:D} {v:V} {ds:List (Key × D)} {vs:List (Key × V)} {F G:List Addr} (h:Rep K H d v F) (r:RepK K H ds vs G):RepK K H ((k,d)::ds) ((k,v)::vs) (F++G)
inductive RepT (K:PySem.W.Frag) (H:Hp):List (List Key × D)->List (List Key × V)->List Addr->Prop
 | nil:RepT K H [] [] []
 | cons {k:List Key} {d:D} {v:V} {ds:List (List Key × D)} {vs:List (List Key × V)} {F G:List Addr} (h:Rep K H d v F) (r:RepT K H ds vs G):RepT K H ((k,d)::ds) ((k,v)::vs) (F++G)
end
def ImmK (H H':Hp):Prop:=∀b ob,H b=some ob->imm ob=true->H' b=some ob
theorem ImmK.fzL {K:PySem.W.Frag} {H H':Hp} (hi:ImmK H H') {a:Addr} {xs:List V} (e:FzL K H a xs):FzL K H' a xs:=by
 rcases e with ⟨o,e⟩ | e
 ·exact .inl ⟨o,hi _ _ e rfl⟩
 ·exact .inr e
theorem Rep.frame {K:PySem.W.Frag} {H H':Hp} (hi:ImmK H H') {d:D} {v:V} {F:List Addr} (r:Rep K H d v F):(∀a∈F,H' a=H a)->Rep K H' d v F:=by
 refine Rep.rec (motive_1:=λd v F _=>(∀a∈F,H' a=H a)->Rep K H' d v F) (motive_2:=λd v F _=>(∀a∈F,H' a=H a)->Reps K H' d v F) (motive_3:=λd v F _=>(∀a∈F,H' a=H a)->RepK K H' d v F) (motive_4:=λd v F _=>(∀a∈F,H' a=H a)->RepT K H' d v F) ?_ ?_ ?_ ?_ ?_ ?_ ?_ ?_ ?_ ?_ ?_ ?_ ?_ ?_ ?_ ?_ ?_ ?_ ?_ ?_ ?_ ?_ r
 ·exact λ_=>.non
 ·exact λb _=>.bl b
 ·exact λb _=>.int b
 ·exact λb _=>.str b
 ·exact λe _ ih k=>.tup (hi _ _ e rfl) (ih k)
 ·exact λe _ ih k=>.lst ((k _ (List.mem_cons_self)).trans e) (ih λa h=>k a (List.mem_cons_of_mem _ h))
 ·exact λe _ ih k=>.dik ((k _ (List.mem_cons_self)).trans e) (ih λa h=>k a (List.mem_cons_of_mem _ h))
 ·exact λe _ ih k=>.dit ((k _ (List.mem_cons_self)).trans e) (ih λa h=>k a (List.mem_cons_of_mem _ h))
 ·exact λe _ ih k=>.kls (hi.fzL e) (ih k)
 ·exact λt _=>.ty t
 ·exact λe _ ih k=>.fdk (hi _ _ e rfl) (ih k)
 ·exact λe hd _ ih k=>.ftp (hi _ _ e rfl) hd (ih k)
 ·exact λe _ ih k=>.fls (hi _ _ e rfl) (ih k)
 ·exact λe _ ih k=>.fdt (hi _ _ e rfl) (ih k)
 ·exact λe hc hf _=>.obj (hi _ _ e rfl) hc (hf.imp id λ⟨dx,od,h1,h2⟩=>⟨dx,od,h1,hi _ _ h2 rfl⟩)
 ·exact λe _ ih k=>.clo (e.keeps λ_ _ _ q=>hi _ _ q rfl) (ih k)
 ·exact λ_=>.nil
 ·exact λ_ _ ih1 ih2 k=>.cons (ih1 λa q=>k a (List.mem_append.mpr (.inl q))) (ih2 λa q=>k a (List.mem_append.mpr (.inr q)))
 ·exact λ_=>.nil
 ·exact λ_ _ ih1 ih2 k=>.cons (ih1 λa q=>k a (List.mem_append.mpr (.inl q))) (ih2 λa q=>k a (List.mem_append.mpr (.inr q)))
 ·exact λ_=>.nil
 ·exact λ_ _ ih1 ih2 k=>.cons (ih1 λa q=>k a (List.mem_append.mpr (.inl q))) (ih2 λa q=>k a (List.mem_append.mpr (.inr q)))
theorem Reps.frame {K:PySem.W.Frag} {H H':Hp} (hi:ImmK H H') {d:List D} {v:List V} {F:List Addr} (r:Reps K H d v F) (k:∀a∈F,H' a=H a):Reps K H' d v F:=by
 induction d generalizing v F with
 | nil=>cases r;exact .nil
 | cons d ds ih=>cases r with | cons h r=>exact .cons (Rep.frame hi h λa q=>k a (List.mem_append.mpr (.inl q))) (ih r λa q=>k a (List.mem_append.mpr (.inr q)))
theorem RepK.frame {K:PySem.W.Frag} {H H':Hp} (hi:ImmK H H') {d:List (Key × D)} {v:List (Key × V)} {F:List Addr} (r:RepK K H d v F) (k:∀a∈F,H' a=H a):RepK K H' d v F:=by
 induction d generalizing v F with
 | nil=>cases r;exact .nil
 | cons d ds ih=>cases r with | cons h r=>exact .cons (Rep.frame hi h λa q=>k a (List.mem_append.mpr (.inl q))) (ih r λa q=>k a (List.mem_append.mpr (.inr q)))
theorem RepT.frame {K:PySem.W.Frag} {H H':Hp} (hi:ImmK H H') {d:List (List Key × D)} {v:List (List Key × V)} {F:List Addr} (r:RepT K H d v F) (k:∀a∈F,H' a=H a):RepT K H' d v F:=by
 induction d generalizing v F with
 | nil=>cases r;exact .nil
 | cons d ds ih=>cases r with | cons h r=>exact .cons (Rep.frame hi h λa q=>k a (List.mem_append.mpr (.inl q))) (ih r λa q=>k a (List.mem_append.mpr (.inr q)))
theorem Rep.dom {K:PySem.W.Frag} {H:Hp} {d:D} {v:V} {F:List Addr} (r:Rep K H d v F):∀a∈F,∃ob,H a=some ob/\imm ob=false:=by
 have cn:∀{b:Addr} {F:List Addr} {ob:HO},H b=some ob->imm ob=false->(∀a∈F,∃ob,H a=some ob/\imm ob=false)->∀a∈b::F,∃ob,H a=some ob/\imm ob=false:=λe hb ih a m=>(List.mem_cons.mp m).elim (λz=>z ▸ ⟨_,e,hb⟩) (ih a)
 have ap:∀{F G:List Addr},(∀a∈F,∃ob,H a=some ob/\imm ob=false)->(∀a∈G,∃ob,H a=some ob/\imm ob=false)->∀a∈F++G,∃ob,H a=some ob/\imm ob=false:=λih1 ih2 a m=>(List.mem_append.mp m).elim (ih1 a) (ih2 a)
 have no:∀a∈([]:List Addr),∃ob,H a=some ob/\imm ob=false:=λ_ m=>nomatch m
 refine Rep.rec (motive_1:=λ_ _ F _=>∀a∈F,∃ob,H a=some ob/\imm ob=false) (motive_2:=λ_ _ F _=>∀a∈F,∃ob,H a=some ob/\imm ob=false) (motive_3:=λ_ _ F _=>∀a∈F,∃ob,H a=some ob/\imm ob=false) (motive_4:=λ_ _ F _=>∀a∈F,∃ob,H a=some ob/\imm ob=false) no (λ_=>no) (λ_=>no) (λ_=>no) (λ_ _ ih=>ih) (λe _ ih=>cn e rfl ih) (λe _ ih=>cn e rfl ih) (λe _ ih=>cn e rfl ih) (λ_ _ _=>no) (λ_=>no) (λ_ _ ih=>ih) (λ_ _ _ _=>no) (λ_ _ _=>no) (λ_ _ ih=>ih) (λ_ _ _=>no) (λ_ _ ih=>ih) no (λ_ _=>ap) no (λ_ _=>ap) no (λ_ _=>ap) r
theorem Reps.dom {K:PySem.W.Frag} {H:Hp} {d:List D} {v:List V} {F:List Addr} (r:Reps K H d v F):∀a∈F,∃ob,H a=some ob/\imm ob=false:=by
 induction d generalizing v F with
 | nil=>cases r;exact λ_ m=>nomatch m
 | cons d ds ih=>cases r with | cons h r=>exact λa m=>(List.mem_append.mp m).elim (Rep.dom h a) (ih r a)
theorem RepK.dom {K:PySem.W.Frag} {H:Hp} {d:List (Key × D)} {v:List (Key × V)} {F:List Addr} (r:RepK K H d v F):∀a∈F,∃ob,H a=some ob/\imm ob=false:=by
 induction d generalizing v F with
 | nil=>cases r;exact λ_ m=>nomatch m
 | cons d ds ih=>cases r with | cons h r=>exact λa m=>(List.mem_append.mp m).elim (Rep.dom h a) (ih r a)
theorem RepT.dom {K:PySem.W.Frag} {H:Hp} {d:List (List Key × D)} {v:List (List Key × V)} {F:List Addr} (r:RepT K H d v F):∀a∈F,∃ob,H a=some ob/\imm ob=false:=by
 induction d generalizing v F with
 | nil=>cases r;exact λ_ m=>nomatch m
 | cons d ds ih=>cases r with | cons h r=>exact λa m=>(List.mem_append.mp m).elim (Rep.dom h a) (ih r a)
mutual
def D.pure:D->Bool
 | .tup xs=>pureL xs
 | .lst _=>false
 | .dik _=>false
 | .dit _=>false
 | .kls _=>false
 | .non=>true
 | .bl _=>true
 | .int _=>true
 | .str _=>true
 | .ty _=>true
 | .fdk _=>false
 | .ftp _=>true
 | .fls _=>true
 | .fdt _=>false
 | .obj _ _=>true
 | .clo _ _=>false
def pureL:List D->Bool
 | []=>true
 | d::r=>d.pure && pureL r
end
theorem pureL_iff {xs:List D}:pureL xs=true↔∀x∈xs,x.pure=true:=by
 induction xs with
 | nil=>simp [pureL]
 | cons d r ih=>simp only [pureL,Bool.and_eq_true,ih,List.mem_cons,forall_eq_or_imp]
theorem Rep.pure {K:PySem.W.Frag} {H:Hp} {d:D} {v:V} {F:List Addr} (r:Rep K H d v F):d.pure=true->F=[]/\Rep K H d v []:=by
 have no:∀{P:Prop} {b:Bool},b=false->b=true->P:=λh h'=>absurd (h.symm.trans h') (by simp)
 refine Rep.rec (motive_1:=λd v F _=>d.pure=true->F=[]/\Rep K H d v []) (motive_2:=λd v F _=>pureL d=true->F=[]/\Reps K H d v []) (motive_3:=λ_ _ _ _=>True) (motive_4:=λ_ _ _ _=>True) ?_ ?_ ?_ ?_ ?_ ?_ ?_ ?_ ?_ ?_ ?_ ?_ ?_ ?_ ?_ ?_ ?_ ?_ trivial (λ_ _ _ _=>trivial) trivial (λ_ _ _ _=>trivial) r
 ·exact λ_=>⟨rfl,.non⟩
 ·exact λb _=>⟨rfl,.bl b⟩
 ·exact λb _=>⟨rfl,.int b⟩
 ·exact λb _=>⟨rfl,.str b⟩
 ·exact λe _ ih p=>⟨(ih (by rw [D.pure] at p;exact p)).1,.tup e (ih (by rw [D.pure] at p;exact p)).2⟩
 ·exact λ_ _ _=>no (by rw [D.pure])
 ·exact λ_ _ _=>no (by rw [D.pure])
 ·exact λ_ _ _=>no (by rw [D.pure])
 ·exact λ_ _ _=>no (by rw [D.pure])
 ·exact λb _=>⟨rfl,.ty b⟩
 ·exact λ_ _ _=>no (by rw [D.pure])
 ·exact λe hd r _ _=>⟨rfl,.ftp e hd r⟩
 ·exact λe r _ _=>⟨rfl,.fls e r⟩
 ·exact λ_ _ _=>no (by rw [D.pure])
 ·exact λe hc hf _=>⟨rfl,.obj e hc hf⟩
 ·exact λ_ _ _=>no (by rw [D.pure])
 ·exact λ_=>⟨rfl,.nil⟩
 ·intro _ _ _ _ _ _ _ _ ih1 ih2 p
  rw [pureL,Bool.and_eq_true] at p
  obtain ⟨e1,r1⟩:=ih1 p.1
  obtain ⟨e2,r2⟩:=ih2 p.2
  subst e1 e2
  exact ⟨rfl,.cons (F:=[]) (G:=[]) r1 r2⟩
theorem Reps.pure {K:PySem.W.Frag} {H:Hp} {d:List D} {v:List V} {F:List Addr} (r:Reps K H d v F) (p:pureL d=true):F=[]/\Reps K H d v []:=by
 induction d generalizing v F with
 | nil=>cases r;exact ⟨rfl,.nil⟩
 | cons d ds ih =>
  cases r with
  | cons h r =>
   rw [pureL,Bool.and_eq_true] at p
   obtain ⟨e1,r1⟩:=h.pure p.1
   obtain ⟨e2,r2⟩:=ih r p.2
   subst e1 e2
   exact ⟨rfl,.cons (F:=[]) (G:=[]) r1 r2⟩
section
variable {K:PySem.W.Frag} {H:Hp}
theorem Reps.length {ds:List D} {xs:List V} {F:List Addr} (r:Reps K H ds xs F):xs.length=ds.length:=by
 induction ds generalizing xs F with
 | nil=>cases r;rfl
 | cons d ds ih=>cases r with | cons h r=>simp [ih r]
theorem Reps.append {ds es:List D} {xs ys:List V} {F G:List Addr} (r:Reps K H ds xs F) (q:Reps K H es ys G):Reps K H (ds++es) (xs++ys) (F++G):=by
 induction ds generalizing xs F with
 | nil=>cases r;exact q
 | cons d ds ih=>cases r with | cons h r=>rw [List.append_assoc];exact .cons h (ih r)
theorem Reps.one {d:D} {x:V} {F:List Addr} (h:Rep K H d x F):Reps K H [d] [x] F:=by
 have:=Reps.cons h (Reps.nil (K:=K) (H:=H))
 rwa [List.append_nil] at this
theorem Reps.snoc {ds:List D} {xs:List V} {d:D} {x:V} {F G:List Addr} (r:Reps K H ds xs F) (h:Rep K H d x G):Reps K H (ds++[d]) (xs++[x]) (F++G):=r.append (.one h)
theorem Reps.split {ds:List D} {xs:List V} {F:List Addr} {i:Nat} {d:D} (r:Reps K H ds xs F) (h:ds[i]? = some d) :
  ∃x A B C,xs[i]? = some x/\F=A++B++C/\Rep K H d x B/\Reps K H (ds.take i) (xs.take i) A/\Reps K H (ds.drop (i+1)) (xs.drop (i+1)) C:=by
 induction ds generalizing xs F i with
 | nil=>simp at h
 | cons e ds ih =>
  cases r with
  | @cons _ v _ vs F G p r =>
   cases i with
   | zero =>
    simp at h
    subst h
    exact ⟨v,[],F,G,rfl,by simp,p,.nil,by simpa using r⟩
   | succ i =>
    obtain ⟨x,A,B,C,h1,h2,h3,h4,h5⟩:=ih r (i:=i) (by simpa using h)
    exact ⟨x,F++A,B,C,by simpa using h1,by rw [h2];simp,h3,by simpa using Reps.cons p h4,by simpa using h5⟩
theorem Reps.get {ds:List D} {xs:List V} {F:List Addr} {i:Nat} {d:D} (r:Reps K H ds xs F) (h:ds[i]? = some d):∃x B,xs[i]? = some x/\Rep K H d x B/\B.Sublist F:=by
 obtain ⟨x,A,B,C,h1,h2,h3,_⟩:=r.split h
 exact ⟨x,B,h1,h3,h2 ▸ (List.sublist_append_right A B).trans (List.sublist_append_left _ C)⟩
theorem take_set_drop {α:Type} {l:List α} {i:Nat} {a:α} (h:i<l.length):l.set i a=l.take i++a::l.drop (i+1):=by
 rw [List.set_eq_take_append_cons_drop,if_pos h]
theorem erase_td {α:Type} (l:List α) (i:Nat):l.eraseIdx i=l.take i++l.drop (i+1):=List.eraseIdx_eq_take_drop_succ l i
theorem Reps.take {ds:List D} {xs:List V} {F:List Addr} (i:Nat) (r:Reps K H ds xs F):∃G,Reps K H (ds.take i) (xs.take i) G/\G.Sublist F:=by
 induction ds generalizing xs F i with
 | nil=>cases r;exact ⟨[],by simpa using Reps.nil,List.Sublist.slnil⟩
 | cons d ds ih =>
  cases r with
  | @cons _ v _ vs F G p r =>
   cases i with
   | zero=>exact ⟨[],by simpa using Reps.nil,List.nil_sublist _⟩
   | succ i =>
    obtain ⟨G',q,s⟩:=ih i r
    exact ⟨F++G',by simpa using Reps.cons p q,List.Sublist.append (List.Sublist.refl _) s⟩
theorem Reps.drop {ds:List D} {xs:List V} {F:List Addr} (i:Nat) (r:Reps K H ds xs F):∃G,Reps K H (ds.drop i) (xs.drop i) G/\G.Sublist F:=by
 induction ds generalizing xs F i with
 | nil=>cases r;exact ⟨[],by simpa using Reps.nil,List.Sublist.slnil⟩
 | cons d ds ih =>
  cases i with
  | zero=>exact ⟨F,by simpa using r,List.Sublist.refl _⟩
  | succ i =>
   cases r with
   | @cons _ v _ vs F G p r =>
    obtain ⟨G',q,s⟩:=ih i r
    exact ⟨G',by simpa using q,s.trans (List.sublist_append_right _ _)⟩
theorem Reps.flat {ds:List D} (f:D->V) (hf:∀d∈ds,Rep K H d (f d) []):Reps K H ds (ds.map f) []:=by
 induction ds with
 | nil=>exact .nil
 | cons d ds ih=>exact .cons (F:=[]) (G:=[]) (hf d List.mem_cons_self) (ih λe he=>hf e (List.mem_cons_of_mem _ he))
theorem Reps.ints (ns:List Int):Reps K H (ns.map D.int) (ns.map V.int) []:=by
 induction ns with
 | nil=>exact .nil
 | cons n ns ih=>exact .cons (F:=[]) (G:=[]) (.int n) ih
theorem Reps.of_ints {ns:List Int} {xs:List V} {F:List Addr} (r:Reps K H (ns.map D.int) xs F):xs=ns.map V.int/\F=[]:=by
 induction ns generalizing xs F with
 | nil=>cases r;exact ⟨rfl,rfl⟩
 | cons n ns ih =>
  cases r with
  | cons h r =>
   cases h
   obtain ⟨e1,e2⟩:=ih r
   exact ⟨by rw [e1];rfl,by rw [e2];rfl⟩
end
section
variable {K:PySem.W.Frag} {H:Hp} {v:V} {F:List Addr}
theorem Rep.iInt {i:Int} (r:Rep K H (.int i) v F):v=.int i:=by cases r;rfl
theorem Rep.iStr {i:Str} (r:Rep K H (.str i) v F):v=.str i:=by cases r;rfl
theorem Rep.iBl {i:Bool} (r:Rep K H (.bl i) v F):v=.bl i:=by cases r;rfl
theorem Rep.iTup {ds:List D} (r:Rep K H (.tup ds) v F):∃a xs,v=.ref a/\H a=some (.tup xs)/\Reps K H ds xs F:=by cases r with | tup e r=>exact ⟨_,_,rfl,e,r⟩
theorem Rep.iLst {ds:List D} (r:Rep K H (.lst ds) v F):∃a xs G,v=.ref a/\F=a::G/\H a=some (.lst xs)/\Reps K H ds xs G:=by cases r with | lst e r=>exact ⟨_,_,_,rfl,rfl,e,r⟩
theorem Rep.iDik {ds:List (Key × D)} (r:Rep K H (.dik ds) v F):∃a xs G,v=.ref a/\F=a::G/\H a=some (.dK xs)/\RepK K H ds xs G:=by cases r with | dik e r=>exact ⟨_,_,_,rfl,rfl,e,r⟩
theorem Rep.iDit {ds:List (List Key × D)} (r:Rep K H (.dit ds) v F):∃a xs G,v=.ref a/\F=a::G/\H a=some (.dT xs)/\RepT K H ds xs G:=by cases r with | dit e r=>exact ⟨_,_,_,rfl,rfl,e,r⟩
theorem Rep.iKls {ds:List D} (r:Rep K H (.kls ds) v F):∃a xs,v=.ref a/\F=[]/\FzL K H a xs/\Reps K H ds xs []:=by cases r with | kls e r=>exact ⟨_,_,rfl,rfl,e,r⟩
theorem Rep.iFdk {ds:List (Key × D)} (r:Rep K H (.fdk ds) v F):∃a o xs,v=.ref a/\H a=some (.frz o (.dK xs))/\RepK K H ds xs F:=by cases r with | fdk e r=>exact ⟨_,_,_,rfl,e,r⟩
end
section
variable {κ:Type} [DecidableEq κ]
def valD (kvs:List (κ × D)) (k:κ):Option D:=(kvs.find? λkv=>decide (kv.1=k)).map (·.2)
def putD (kvs:List (κ × D)) (k:κ) (v:D):List (κ × D) :=
 if (kvs.any λkv=>decide (kv.1=k))=true then kvs.map (λkv=>if kv.1=k then (kv.1,v) else kv) else kvs++[(k,v)]
def dropD (kvs:List (κ × D)) (k:κ):List (κ × D):=kvs.filter λkv=>decide (kv.1≠k)
theorem valD_nil {k:κ}:valD ([]:List (κ × D)) k=none:=rfl
theorem valD_cons {p:κ × D} {r:List (κ × D)} {k:κ}:valD (p::r) k=if p.1=k then some p.2 else valD r k:=by
 unfold valD
 by_cases h:p.1=k
 ·rw [List.find?_cons_of_pos (by simpa using h),if_pos h];rfl
 ·rw [List.find?_cons_of_neg (by simpa using h),if_neg h]
theorem anyD_iff (k:κ):∀kvs:List (κ × D),(kvs.any λkv=>decide (kv.1=k))=(valD kvs k).isSome
 | []=>rfl
 | p::r=>by
  rw [List.any_cons,valD_cons,anyD_iff k r]
  by_cases h:p.1=k <;> simp [h]
theorem putD_new {kvs:List (κ × D)} {k:κ} (v:D) (h:valD kvs k=none):putD kvs k v=kvs++[(k,v)]:=by
 unfold putD
 rw [anyD_iff,h]
 rfl
theorem valD_map (k j:κ) (y:D):∀kvs:List (κ × D),valD (kvs.map λkv=>if kv.1=k then (kv.1,y) else kv) j=(valD kvs j).map λx=>if j=k then y else x
 | []=>rfl
 | p::r=>by
  rw [List.map_cons,valD_cons,valD_cons,valD_map k j y r]
  by_cases h:p.1=k
  ·rw [if_pos h]
   by_cases h':p.1=j
   ·simp [h',← h]
   ·simp [h']
  ·rw [if_neg h]
   by_cases h':p.1=j
   ·subst h';simp [h]
   ·simp [h']
theorem valD_snoc (k j:κ) (y:D):∀kvs:List (κ × D),valD (kvs++[(k,y)]) j=if (valD kvs j).isSome then valD kvs j else if k=j then some y else none
 | []=>by simp [valD_cons,valD_nil]
 | p::r=>by
  rw [List.cons_append,valD_cons,valD_cons,valD_snoc k j y r]
  by_cases h:p.1=j <;> simp [h]
theorem valD_put (kvs:List (κ × D)) (k j:κ) (y:D):valD (putD kvs k y) j=if j=k then some y else valD kvs j:=by
 unfold putD
 rw [anyD_iff]
 cases h:(valD kvs k).isSome with
 | true =>
  rw [if_pos rfl,valD_map]
  by_cases e:j=k
  ·subst e
   obtain ⟨x,hx⟩:=Option.isSome_iff_exists.mp h
   simp [hx]
  ·rw [if_neg e]
   cases valD kvs j <;> simp [e]
 | false =>
  rw [if_neg (by simp),valD_snoc]
  have hn:valD kvs k=none:=by simpa using h
  by_cases e:j=k
  ·subst e;simp [hn]
  ·have e':¬k=j:=λz=>e z.symm
   rw [if_neg e]
   cases valD kvs j <;> simp [e']
theorem length_putD (kvs:List (κ × D)) (k:κ) (v:D):(putD kvs k v).length<=kvs.length+1:=by
 unfold putD
 split <;> simp
end
section
variable {K:PySem.W.Frag} {H:Hp}
theorem RepK.length {ds:List (Key × D)} {xs:List (Key × V)} {F:List Addr} (r:RepK K H ds xs F):xs.length=ds.length:=by
 induction ds generalizing xs F with
 | nil=>cases r;rfl
 | cons d ds ih=>cases r with | cons h r=>simp [ih r]
theorem RepK.keys {ds:List (Key × D)} {xs:List (Key × V)} {F:List Addr} (r:RepK K H ds xs F):xs.map (·.1)=ds.map (·.1):=by
 induction ds generalizing xs F with
 | nil=>cases r;rfl
 | cons d ds ih=>cases r with | cons h r=>simp [ih r]
theorem RepK.val {ds:List (Key × D)} {xs:List (Key × V)} {F:List Addr} (r:RepK K H ds xs F) (k:Key) :
  (valD ds k=none/\valV xs k=none)\/∃d v B,valD ds k=some d/\valV xs k=some v/\Rep K H d v B/\B.Sublist F:=by
 induction ds generalizing xs F with
 | nil=>cases r;exact .inl ⟨rfl,rfl⟩
 | cons d ds ih =>
  cases r with
  | @cons j d v _ vs F G h r =>
   rw [valD_cons]
   by_cases e:j=k
   ·rw [valV_pos e,if_pos e]
    exact .inr ⟨d,v,F,rfl,rfl,h,List.sublist_append_left _ _⟩
   ·rw [valV_neg e,if_neg e]
    rcases ih r with q | ⟨d',v',B,h1,h2,h3,h4⟩
    ·exact .inl q
    ·exact .inr ⟨d',v',B,h1,h2,h3,h4.trans (List.sublist_append_right _ _)⟩
theorem RepK.append {ds es:List (Key × D)} {xs ys:List (Key × V)} {F G:List Addr} (r:RepK K H ds xs F) (q:RepK K H es ys G):RepK K H (ds++es) (xs++ys) (F++G):=by
 induction ds generalizing xs F with
 | nil=>cases r;exact q
 | cons d ds ih=>cases r with | cons h r=>rw [List.append_assoc];exact .cons h (ih r)
theorem RepK.put {ds:List (Key × D)} {xs:List (Key × V)} {F:List Addr} {k:Key} {d:D} {v:V} (r:RepK K H ds xs F) (h:Rep K H d v []):∃G,RepK K H (putD ds k d) (putK xs k v) G/\G.Sublist F:=by
 have hk:(xs.any λkv=>decide (kv.1=k))=(ds.any λkv=>decide (kv.1=k)):=by
  have e:=r.keys
  rw [show (xs.any λkv=>decide (kv.1=k))=(xs.map (·.1)).any (λj=>decide (j=k)) by rw [List.any_map];rfl,e,List.any_map];rfl
 unfold putD putK
 rw [hk]
 split
 ·clear hk
  rename_i hc
  clear hc
  induction ds generalizing xs F with
  | nil=>cases r;exact ⟨[],.nil,List.Sublist.slnil⟩
  | cons e ds ih =>
   cases r with
   | @cons j e u _ us F G p r =>
    obtain ⟨G',q,s⟩:=ih r
    by_cases ej:j=k
    ·exact ⟨[]++G',by simpa [ej] using RepK.cons (k:=k) h q,s.trans (List.sublist_append_right _ _)⟩
    ·exact ⟨F++G',by simpa [ej] using RepK.cons (k:=j) p q,List.Sublist.append (List.Sublist.refl _) s⟩
 ·refine ⟨F++[],r.append ?_,by simp⟩
  exact RepK.cons (F:=[]) (G:=[]) h .nil
theorem RepK.drop {ds:List (Key × D)} {xs:List (Key × V)} {F:List Addr} {k:Key} (r:RepK K H ds xs F):∃G,RepK K H (dropD ds k) (dropK xs k) G/\G.Sublist F:=by
 induction ds generalizing xs F with
 | nil=>cases r;exact ⟨[],.nil,List.Sublist.slnil⟩
 | cons e ds ih =>
  cases r with
  | @cons j e u _ us F G p r =>
   obtain ⟨G',q,s⟩:=ih r
   unfold dropD dropK at *
   by_cases ej:j=k
   ·exact ⟨G',by simpa [ej] using q,s.trans (List.sublist_append_right _ _)⟩
   ·exact ⟨F++G',by simpa [ej] using RepK.cons (k:=j) p q,List.Sublist.append (List.Sublist.refl _) s⟩
theorem RepT.length {ds:List (List Key × D)} {xs:List (List Key × V)} {F:List Addr} (r:RepT K H ds xs F):xs.length=ds.length:=by
 induction ds generalizing xs F with
 | nil=>cases r;rfl
 | cons d ds ih=>cases r with | cons h r=>simp [ih r]
theorem RepT.keys {ds:List (List Key × D)} {xs:List (List Key × V)} {F:List Addr} (r:RepT K H ds xs F):xs.map (·.1)=ds.map (·.1):=by
 induction ds generalizing xs F with
 | nil=>cases r;rfl
 | cons d ds ih=>cases r with | cons h r=>simp [ih r]
theorem RepT.val {ds:List (List Key × D)} {xs:List (List Key × V)} {F:List Addr} (r:RepT K H ds xs F) (k:List Key) :
  (valD ds k=none/\valV xs k=none)\/∃d v B,valD ds k=some d/\valV xs k=some v/\Rep K H d v B/\B.Sublist F:=by
 induction ds generalizing xs F with
 | nil=>cases r;exact .inl ⟨rfl,rfl⟩
 | cons d ds ih =>
  cases r with
  | @cons j d v _ vs F G h r =>
   rw [valD_cons]
   by_cases e:j=k
   ·rw [valV_pos e,if_pos e]
    exact .inr ⟨d,v,F,rfl,rfl,h,List.sublist_append_left _ _⟩
   ·rw [valV_neg e,if_neg e]
    rcases ih r with q | ⟨d',v',B,h1,h2,h3,h4⟩
    ·exact .inl q
    ·exact .inr ⟨d',v',B,h1,h2,h3,h4.trans (List.sublist_append_right _ _)⟩
theorem RepT.append {ds es:List (List Key × D)} {xs ys:List (List Key × V)} {F G:List Addr} (r:RepT K H ds xs F) (q:RepT K H es ys G):RepT K H (ds++es) (xs++ys) (F++G):=by
 induction ds generalizing xs F with
 | nil=>cases r;exact q
 | cons d ds ih=>cases r with | cons h r=>rw [List.append_assoc];exact .cons h (ih r)
theorem RepT.put {ds:List (List Key × D)} {xs:List (List Key × V)} {F:List Addr} {k:List Key} {d:D} {v:V} (r:RepT K H ds xs F) (h:Rep K H d v []):∃G,RepT K H (putD ds k d) (putK xs k v) G/\G.Sublist F:=by
 have hk:(xs.any λkv=>decide (kv.1=k))=(ds.any λkv=>decide (kv.1=k)):=by
  have e:=r.keys
  rw [show (xs.any λkv=>decide (kv.1=k))=(xs.map (·.1)).any (λj=>decide (j=k)) by rw [List.any_map];rfl,e,List.any_map];rfl
 unfold putD putK
 rw [hk]
 split
 ·clear hk
  rename_i hc
  clear hc
  induction ds generalizing xs F with
  | nil=>cases r;exact ⟨[],.nil,List.Sublist.slnil⟩
  | cons e ds ih =>
   cases r with
   | @cons j e u _ us F G p r =>
    obtain ⟨G',q,s⟩:=ih r
    by_cases ej:j=k
    ·exact ⟨[]++G',by simpa [ej] using RepT.cons (k:=k) h q,s.trans (List.sublist_append_right _ _)⟩
    ·exact ⟨F++G',by simpa [ej] using RepT.cons (k:=j) p q,List.Sublist.append (List.Sublist.refl _) s⟩
 ·refine ⟨F++[],r.append ?_,by simp⟩
  exact RepT.cons (F:=[]) (G:=[]) h .nil
theorem RepT.drop {ds:List (List Key × D)} {xs:List (List Key × V)} {F:List Addr} {k:List Key} (r:RepT K H ds xs F):∃G,RepT K H (dropD ds k) (dropK xs k) G/\G.Sublist F:=by
 induction ds generalizing xs F with
 | nil=>cases r;exact ⟨[],.nil,List.Sublist.slnil⟩
 | cons e ds ih =>
  cases r with
  | @cons j e u _ us F G p r =>
   obtain ⟨G',q,s⟩:=ih r
   unfold dropD dropK at *
   by_cases ej:j=k
   ·exact ⟨G',by simpa [ej] using q,s.trans (List.sublist_append_right _ _)⟩
   ·exact ⟨F++G',by simpa [ej] using RepT.cons (k:=j) p q,List.Sublist.append (List.Sublist.refl _) s⟩
end
end PV
namespace PV
open PySem PySem.Spec L2
abbrev Env:=List (Option D)
def look:Env->Nat->Option D
 | [],_=>none
 | a::_,0=>a
 | _::r,n+1=>look r n
theorem look_get:∀{ρ:Env} {i:Nat} {d:D},look ρ i=some d->ρ[i]? = some (some d)
 | _::_,0,_,h=>by simpa [look] using h
 | _::r,n+1,_,h=>by simpa using look_get (ρ:=r) (i:=n) (by simpa [look] using h)
theorem look_lt {ρ:Env} {i:Nat} {d:D} (h:look ρ i=some d):i<ρ.length:=by
 have:=look_get h
 exact (List.getElem?_eq_some_iff.mp this).1
theorem look_set {o:Option D}:∀{ρ:Env} {i j:Nat},look (ρ.set i o) j=if j=i/\i<ρ.length then o else look ρ j
 | [],i,j=>by simp [look]
 | a::r,0,0=>by simp [look]
 | a::r,0,j+1=>by simp [look]
 | a::r,i+1,0=>by simp [look]
 | a::r,i+1,j+1=>by
  have:=look_set (o:=o) (ρ:=r) (i:=i) (j:=j)
  simp only [List.set_cons_succ,look,this,List.length_cons,Nat.add_right_cancel_iff,Nat.add_lt_add_iff_right]
theorem look_set_same {o:Option D} {ρ:Env} {i:Nat} (h:i<ρ.length):look (ρ.set i o) i=o:=by rw [look_set,if_pos ⟨rfl,h⟩]
theorem look_set_ne {o:Option D} {ρ:Env} {i j:Nat} (h:j≠i):look (ρ.set i o) j=look ρ j:=by rw [look_set,if_neg (λz=>h z.1)]
structure Tg where
 own:Nat->Bool
 io:List Nat
 xe:D->St->Hp->Prop:=λ_ _ _=>False
structure SR0 (K:PySem.W.Frag) (T:Tg) (z:Nat->V) (R:Addr->Prop) (H:Hp) (W:Addr->Prop) (σ:St) (ρ:Env) (fp:Nat->List Addr):Prop where
 len:ρ.length=σ.length
 wd:∀a,W a->∃ob,H a=some ob/\imm ob=false
 at_:∀i d,look ρ i=some d->∃v,σ[i]? = some (some v)/\Rep K H d v (fp i)
 own:∀i d,look ρ i=some d->T.own i=true->(fp i).Nodup/\∀a∈fp i,W a
 ro:∀i d,look ρ i=some d->T.own i=false->∀a∈fp i,R a
 wr:∀a,W a->¬R a
 rd:∀a,R a->∃ob,H a=some ob/\imm ob=false
 dis:∀i j d e,look ρ i=some d->look ρ j=some e->T.own i=true->T.own j=true->i≠j->∀a∈fp i,a∉fp j
 fix:∀i∈T.io,σ[i]? = some (some (z i))
def SR (K:PySem.W.Frag) (T:Tg) (z:Nat->V) (R:Addr->Prop) (H:Hp) (W:Addr->Prop) (σ:St) (ρ:Env):Prop:=∃fp,SR0 K T z R H W σ ρ fp
structure FrW (H:Hp) (W:Addr->Prop) (H':Hp) (W':Addr->Prop):Prop where
 keep:∀b ob,H b=some ob->¬W b->H' b=some ob
 dom:∀b,H' b=none->H b=none
 imm:ImmK H H'
 new:∀b,W' b->W b\/H b=none
theorem FrW.refl (H:Hp) (W:Addr->Prop):FrW H W H W:=⟨λ_ _ h _=>h,λ_ h=>h,λ_ _ h _=>h,λ_ h=>.inl h⟩
theorem FrW.trans {H H1 H2:Hp} {W W1 W2:Addr->Prop} (a:FrW H W H1 W1) (b:FrW H1 W1 H2 W2):FrW H W H2 W2 where
 keep:=λc ob h n=>b.keep c ob (a.keep c ob h n) λw=>by
  rcases a.new c w with w | w
  ·exact n w
  ·rw [w] at h;cases h
 dom:=λc h=>a.dom c (b.dom c h)
 imm:=λc ob h i=>b.imm c ob (a.imm c ob h i) i
 new:=λc h=>by
  rcases b.new c h with w | w
  ·exact a.new c w
  ·exact .inr (a.dom c w)
theorem Same.imm {H H':Hp} (s:Same H H'):ImmK H H':=λb ob h _=>s b ob h
theorem FrW.same {H H':Hp} (W:Addr->Prop) (s:Same H H'):FrW H W H' W:=⟨λb ob h _=>s b ob h,λb h=>s.free h,Same.imm s,λ_ h=>.inl h⟩
theorem Rep.same {K:PySem.W.Frag} {H H':Hp} {d:D} {v:V} {F:List Addr} (r:Rep K H d v F) (s:Same H H'):Rep K H' d v F :=
 r.frame (Same.imm s) λa m=>by
  obtain ⟨ob,h,_⟩:=r.dom a m
  rw [h];exact s _ _ h
theorem Reps.same {K:PySem.W.Frag} {H H':Hp} {d:List D} {v:List V} {F:List Addr} (r:Reps K H d v F) (s:Same H H'):Reps K H' d v F :=
 r.frame (Same.imm s) λa m=>by
  obtain ⟨ob,h,_⟩:=r.dom a m
  rw [h];exact s _ _ h
theorem Rep.keep {K:PySem.W.Frag} {H H':Hp} {W W':Addr->Prop} {d:D} {v:V} {F:List Addr} (r:Rep K H d v F) (f:FrW H W H' W') (n:∀a∈F,¬W a):Rep K H' d v F :=
 r.frame f.imm λa m=>by
  obtain ⟨ob,h,_⟩:=r.dom a m
  rw [h];exact f.keep _ _ h (n a m)
theorem Reps.keep {K:PySem.W.Frag} {H H':Hp} {W W':Addr->Prop} {d:List D} {v:List V} {F:List Addr} (r:Reps K H d v F) (f:FrW H W H' W') (n:∀a∈F,¬W a):Reps K H' d v F :=
 r.frame f.imm λa m=>by
  obtain ⟨ob,h,_⟩:=r.dom a m
  rw [h];exact f.keep _ _ h (n a m)
section
variable {K:PySem.W.Frag} {T:Tg} {z:Nat->V} {R:Addr->Prop} {H H':Hp} {W W':Addr->Prop} {σ:St} {ρ:Env}
theorem SR.same (s:SR K T z R H W σ ρ) (k:Same H H'):SR K T z R H' W σ ρ:=by
 obtain ⟨fp,r⟩:=s
 exact ⟨fp,r.len,λa h=>(r.wd a h).imp λob q=>⟨k _ _ q.1,q.2⟩,λi d h=>(r.at_ i d h).imp λv q=>⟨q.1,q.2.same k⟩,r.own,r.ro,r.wr,λa h=>(r.rd a h).imp λob q=>⟨k _ _ q.1,q.2⟩,r.dis,r.fix⟩
theorem SR.len (s:SR K T z R H W σ ρ):ρ.length=σ.length:=by obtain ⟨fp,r⟩:=s;exact r.len
theorem SR.wd (s:SR K T z R H W σ ρ):∀a,W a->∃ob,H a=some ob/\imm ob=false:=by obtain ⟨fp,r⟩:=s;exact r.wd
theorem SR.rd (s:SR K T z R H W σ ρ):∀a,R a->∃ob,H a=some ob/\imm ob=false:=by obtain ⟨fp,r⟩:=s;exact r.rd
theorem SR.wr (s:SR K T z R H W σ ρ):∀a,W a->¬R a:=by obtain ⟨fp,r⟩:=s;exact r.wr
theorem SR.nr (s:SR K T z R H W σ ρ) {a:Addr} (h:H a=none):¬R a:=λw=>by
 obtain ⟨ob,q,_⟩:=s.rd a w
 rw [h] at q;cases q
theorem SR.nw (s:SR K T z R H W σ ρ) {a:Addr} (h:H a=none):¬W a:=λw=>by
 obtain ⟨ob,q,_⟩:=s.wd a w
 rw [h] at q;cases q
theorem SR.drop (s:SR K T z R H W σ ρ) (i:Nat):SR K T z R H W σ (ρ.set i none):=by
 obtain ⟨fp,r⟩:=s
 have key:∀j d,look (ρ.set i none) j=some d->look ρ j=some d:=λj d h=>by
  rw [look_set] at h
  split at h
  ·cases h
  ·exact h
 exact ⟨fp,by rw [List.length_set];exact r.len,r.wd,λj d h=>r.at_ j d (key j d h),λj d h=>r.own j d (key j d h),λj d h=>r.ro j d (key j d h),r.wr,r.rd,λj k d e h h'=>r.dis j k d e (key j d h) (key k e h'),r.fix⟩
end
abbrev WE:=Env->(D->Env->Prop)->Prop
structure Post (K:PySem.W.Frag) (T:Tg) (z:Nat->V) (R:Addr->Prop) (m o:Bool) (H:Hp) (W:Addr->Prop) (σ:St) (ρ:Env) (H':Hp) (W':Addr->Prop) (ρ':Env) (d:D) (v:V) (F:List Addr):Prop where
 sr:SR K T z R H' W' σ ρ'
 fr:FrW H W H' W'
 calm:m=false->Same H H'/\W'=W/\ρ'=ρ
 rep:Rep K H' d v F
 own:o=true->F.Nodup/\∀a∈F,H a=none/\¬W' a
def EV (X:Cx) (T:Tg) (m o:Bool) (e:Expr) (w:WE):Prop :=
 ∃te,PE X e te/\∀(z:Nat->V) (R:Addr->Prop) (σ:St) (H:Hp) (W:Addr->Prop) (ρ:Env) (Q:D->Env->Prop) (Q':VK),SR X.K T z R H W σ ρ->w ρ Q ->
  (∀v H' W' d ρ' F,Post X.K T z R m o H W σ ρ H' W' ρ' d v F->Q d ρ'->Q' v H')->te σ H Q'
section
variable {K:PySem.W.Frag} {T:Tg} {z:Nat->V} {R:Addr->Prop} {H H1 H2:Hp} {W W1 W2:Addr->Prop} {σ:St} {ρ ρ1 ρ2:Env} {m1 m2 o1 o2:Bool} {d1 d2:D} {v1 v2:V} {F1 F2:List Addr}
theorem Post.first (p:Post K T z R m1 o1 H W σ ρ H1 W1 ρ1 d1 v1 F1) (q:Post K T z R m2 o2 H1 W1 σ ρ1 H2 W2 ρ2 d2 v2 F2) (hc:o1=true\/m2=false):Rep K H2 d1 v1 F1:=by
 rcases hc with hc | hc
 ·exact p.rep.keep q.fr λa h=>((p.own hc).2 a h).2
 ·exact p.rep.same (q.calm hc).1
theorem Post.firstOwn (p:Post K T z R m1 o1 H W σ ρ H1 W1 ρ1 d1 v1 F1) (q:Post K T z R m2 o2 H1 W1 σ ρ1 H2 W2 ρ2 d2 v2 F2) (h:o1=true):F1.Nodup/\∀a∈F1,H a=none/\¬W2 a:=by
 obtain ⟨h1,h2⟩:=p.own h
 refine ⟨h1,λa m=>⟨(h2 a m).1,λw=>?_⟩⟩
 rcases q.fr.new a w with w | w
 ·exact (h2 a m).2 w
 ·obtain ⟨ob,e,_⟩:=p.rep.dom a m
  rw [e] at w;cases w
theorem Post.lastOwn (p:Post K T z R m1 o1 H W σ ρ H1 W1 ρ1 d1 v1 F1) (q:Post K T z R m2 o2 H1 W1 σ ρ1 H2 W2 ρ2 d2 v2 F2) (h:o2=true):F2.Nodup/\∀a∈F2,H a=none/\¬W2 a:=by
 obtain ⟨h1,h2⟩:=q.own h
 exact ⟨h1,λa m=>⟨p.fr.dom a (h2 a m).1,(h2 a m).2⟩⟩
theorem Post.calm2 (p:Post K T z R m1 o1 H W σ ρ H1 W1 ρ1 d1 v1 F1) (q:Post K T z R m2 o2 H1 W1 σ ρ1 H2 W2 ρ2 d2 v2 F2) (h:(m1 || m2)=false):Same H H2/\W2=W/\ρ2=ρ:=by
 rw [Bool.or_eq_false_iff] at h
 obtain ⟨a1,a2,a3⟩:=p.calm h.1
 obtain ⟨b1,b2,b3⟩:=q.calm h.2
 exact ⟨a1.trans b1,b2.trans a2,b3.trans a3⟩
theorem Post.fin {m:Bool} {d:D} {v:V} {F:List Addr} (s:SR K T z R H1 W1 σ ρ1) (f:FrW H W H1 W1) (c:m=false->Same H H1/\W1=W/\ρ1=ρ) (k:Same H1 H2) (r:Rep K H2 d v F) (nd:F.Nodup) (nw:∀a∈F,H1 a=none) :
  Post K T z R m true H W σ ρ H2 W1 ρ1 d v F where
 sr:=s.same k
 fr:=f.trans (FrW.same W1 k)
 calm:=λh=>⟨(c h).1.trans k,(c h).2⟩
 rep:=r
 own:=λ_=>⟨nd,λa m=>⟨f.dom a (nw a m),s.nw (nw a m)⟩⟩
theorem Post.flat {m:Bool} {d:D} {v:V} (s:SR K T z R H1 W1 σ ρ1) (f:FrW H W H1 W1) (c:m=false->Same H H1/\W1=W/\ρ1=ρ) (r:Rep K H1 d v []):Post K T z R m true H W σ ρ H1 W1 ρ1 d v [] where
 sr:=s
 fr:=f
 calm:=c
 rep:=r
 own:=λ_=>⟨List.nodup_nil,λa m=>nomatch m⟩
end
section
variable {X:Cx} {T:Tg} {m o m1 m2 o1 o2:Bool} {e a b:Expr} {w wa wb:WE} {pos:Pos}
theorem EV.lift (h:EV X T m o e w):EV X T m true e (λρ Q=>w ρ λd ρ'=>d.pure=true/\Q d ρ'):=by
 obtain ⟨te,p,g⟩:=h
 refine ⟨te,p,λz R σ H W ρ Q Q' s hw k=>g z R σ H W ρ _ Q' s hw λv H' W' d ρ' F q ⟨hp,hq⟩=>?_⟩
 obtain ⟨e,r⟩:=q.rep.pure hp
 exact k v H' W' d ρ' [] ⟨q.sr,q.fr,q.calm,r,λ_=>⟨List.nodup_nil,λa m=>nomatch m⟩⟩ hq
theorem EV.ro (h:EV X T m o e w):EV X T m false e w:=by
 obtain ⟨te,p,g⟩:=h
 exact ⟨te,p,λz R σ H W ρ Q Q' s hw k=>g z R σ H W ρ _ Q' s hw λv H' W' d ρ' F q hq=>k v H' W' d ρ' F ⟨q.sr,q.fr,q.calm,q.rep,λh=>nomatch h⟩ hq⟩
def wVar (i:Nat):WE:=λρ Q=>match look ρ i with
 | some d=>Q d ρ
 | none=>False
def wC (d:D):WE:=λρ Q=>Q d ρ
theorem ev_pv (i:Nat) (h:PE X e (tVar i)):EV X T false false e (wVar i):=by
 refine ⟨_,h,λz R σ H W ρ Q Q' s hw k=>?_⟩
 unfold wVar at hw
 cases hl:look ρ i with
 | none=>rw [hl] at hw;exact hw.elim
 | some d =>
  rw [hl] at hw
  obtain ⟨fp,r⟩:=s
  obtain ⟨v,h1,h2⟩:=r.at_ i d hl
  exact ⟨v,h1,k v H W d ρ (fp i) ⟨⟨fp,r⟩,FrW.refl H W,λ_=>⟨Same.refl H,rfl,rfl⟩,h2,λh=>nomatch h⟩ hw⟩
theorem ev_var (i:Nat) {x:Str} (hN:X.N[i]? = some x:=by rfl) (hv:Vis X.env.scope x:=by first | exact Or.inl rfl | exact Or.inr (Or.inl rfl) | exact Or.inr (Or.inr rfl)) (hd:(x == ("__debug__" : Str))=false:=by decide)
  (hcd:(x == ("__classdict__" : Str))=false:=by decide):EV X T false false (.Name x pos) (wVar i):=ev_pv i (pe_var hN hv hd hcd)
theorem ev_const {d:D} {v:V} (h:PE X e (tC v)) (r:∀H,Rep X.K H d v []):EV X T false true e (wC d) :=
 ⟨_,h,λz R σ H W ρ Q Q' s hw k=>k v H W d ρ [] (Post.flat s (FrW.refl H W) (λ_=>⟨Same.refl H,rfl,rfl⟩) (r H)) hw⟩
theorem ev_int {i:Int} {j pos}:EV X T false true (.Constant (.int i) j pos) (wC (.int i)):=ev_const pe_int λ_=>.int i
theorem ev_bl {i:Bool} {j pos}:EV X T false true (.Constant (.bool i) j pos) (wC (.bl i)):=ev_const pe_bl λ_=>.bl i
theorem ev_gint {x:Str} {i:Int} {t:Tok} (hm:X.mg x=some (.int i t)) (hg:Gl X x:=by rfl) (hd:(x == ("__debug__" : Str))=false:=by decide):EV X T false true (.Name x pos) (wC (.int i)) :=
 ev_const (pe_glob hg hm (v:=.int i) ⟨t,rfl⟩ hd) λ_=>.int i
abbrev G2:=D->D->(D->Prop)->Prop
structure Fin (K:PySem.W.Frag) (H H':Hp) (d:D) (v:V) (F:List Addr):Prop where
 same:Same H H'
 rep:Rep K H' d v F
 nd:F.Nodup
 new:∀a∈F,H a=none
theorem Fin.flat {K:PySem.W.Frag} {H:Hp} {d:D} {v:V} (r:Rep K H d v []):Fin K H H d v []:=⟨Same.refl H,r,List.nodup_nil,λ_ m=>nomatch m⟩
theorem same_upd {H:Hp} {p:Addr} {ob:HO} (h:H p=none):Same H (upd H p ob):=λb u e=>by rw [upd_ne (ne_of_none e h)];exact e
def OpD (X:Cx) (f:Value->Value->Sem Value) (g:G2):Prop :=
 ∃r,OpR X f r/\∀(H:Hp) (a b:D) (x y:V) (F1 F2:List Addr) (k:D->Prop) (Q:VK),Rep X.K H a x F1->Rep X.K H b y F2->g a b k ->
  (∀v H' d F,Fin X.K H H' d v F->k d->Q v H')->r x y H Q
def wBin (g:G2) (wa wb:WE):WE:=λρ Q=>wa ρ λx ρ1=>wb ρ1 λy ρ2=>g x y λd=>Q d ρ2
theorem two {ta tb:TE} {z:Nat->V} {R:Addr->Prop} {σ:St} {H:Hp} {W:Addr->Prop} {ρ:Env} {RR:V->V->Hp->Prop} {Q2:D->D->Env->Prop}
  (ga:∀(z:Nat->V) (R:Addr->Prop) (σ:St) (H:Hp) (W:Addr->Prop) (ρ:Env) (Q:D->Env->Prop) (Q':VK),SR X.K T z R H W σ ρ->wa ρ Q->(∀v H' W' d ρ' F,Post X.K T z R m1 o1 H W σ ρ H' W' ρ' d v F->Q d ρ'->Q' v H')->ta σ H Q')
  (gb:∀(z:Nat->V) (R:Addr->Prop) (σ:St) (H:Hp) (W:Addr->Prop) (ρ:Env) (Q:D->Env->Prop) (Q':VK),SR X.K T z R H W σ ρ->wb ρ Q->(∀v H' W' d ρ' F,Post X.K T z R m2 o2 H W σ ρ H' W' ρ' d v F->Q d ρ'->Q' v H')->tb σ H Q')
  (hc:o1=true\/m2=false) (s:SR X.K T z R H W σ ρ) (hw:wa ρ λx ρ1=>wb ρ1 λy ρ2=>Q2 x y ρ2)
  (k:∀x y H2 W2 d1 d2 ρ2 F1 F2,SR X.K T z R H2 W2 σ ρ2->FrW H W H2 W2->((m1 || m2)=false->Same H H2/\W2=W/\ρ2=ρ)->Rep X.K H2 d1 x F1->Rep X.K H2 d2 y F2 ->
   (o1=true->F1.Nodup/\∀a∈F1,H a=none/\¬W2 a)->(o2=true->F2.Nodup/\∀a∈F2,H a=none/\¬W2 a)->(o2=true->∀a∈F1,a∉F2)->Q2 d1 d2 ρ2->RR x y H2) :
  ta σ H λx H1=>tb σ H1 λy H2=>RR x y H2:=by
 refine ga z R σ H W ρ _ _ s hw λv1 H1 W1 d1 ρ1 F1 p q1=>?_
 refine gb z R σ H1 W1 ρ1 _ _ p.sr q1 λv2 H2 W2 d2 ρ2 F2 q q2=>?_
 refine k v1 v2 H2 W2 d1 d2 ρ2 F1 F2 q.sr (p.fr.trans q.fr) (p.calm2 q) (p.first q hc) q.rep (p.firstOwn q) (p.lastOwn q) (λh a m1 m2=>?_) q2
 obtain ⟨ob,e,_⟩:=p.rep.dom a m1
 rw [((q.own h).2 a m2).1] at e
 cases e
theorem ev_op {op:Operator} {g:G2} (ho:OpD X (binaryOp op) g) (ha:EV X T m1 o1 a wa) (hb:EV X T m2 o2 b wb) (hc:o1=true\/m2=false:=by first | exact .inl rfl | exact .inr rfl) :
  EV X T (m1 || m2) true (.BinOp a op b pos) (wBin g wa wb):=by
 obtain ⟨r,ro,gr⟩:=ho
 obtain ⟨ta,pa,ga⟩:=ha
 obtain ⟨tb,pb,gb⟩:=hb
 refine ⟨_,pe_op ro pa pb,λz R σ H W ρ Q Q' s hw k=>?_⟩
 refine two ga gb hc s hw λx y H2 W2 d1 d2 ρ2 F1 F2 s2 f2 c2 r1 r2 _ _ _ q2=>?_
 exact gr H2 d1 d2 x y F1 F2 _ Q' r1 r2 q2 λv H' d F fi hk=>k v H' W2 d ρ2 F (Post.fin s2 f2 c2 fi.same fi.rep fi.nd fi.new) hk
theorem ev_cmp {op:CmpOp} {g:G2} (ho:OpD X (compareOp op) g) (ha:EV X T m1 o1 a wa) (hb:EV X T m2 o2 b wb) (hc:o1=true\/m2=false:=by first | exact .inl rfl | exact .inr rfl)
  (hm:behindInMarks op b=false:=by first | exact nomark _ | with_unfolding_all rfl):EV X T (m1 || m2) true (.Compare a [op] [b] pos) (wBin g wa wb):=by
 obtain ⟨r,ro,gr⟩:=ho
 obtain ⟨ta,pa,ga⟩:=ha
 obtain ⟨tb,pb,gb⟩:=hb
 refine ⟨_,pe_cmpR ro pa pb hm,λz R σ H W ρ Q Q' s hw k=>?_⟩
 refine two ga gb hc s hw λx y H2 W2 d1 d2 ρ2 F1 F2 s2 f2 c2 r1 r2 _ _ _ q2=>?_
 exact gr H2 d1 d2 x y F1 F2 _ Q' r1 r2 q2 λv H' d F fi hk=>k v H' W2 d ρ2 F (Post.fin s2 f2 c2 fi.same fi.rep fi.nd fi.new) hk
def UnD (X:Cx) (f:Value->Sem Value) (g:D->(D->Prop)->Prop):Prop :=
 ∃r,UnR X f r/\∀(H:Hp) (a:D) (x:V) (F1:List Addr) (k:D->Prop) (Q:VK),Rep X.K H a x F1->g a k->(∀v H' d F,Fin X.K H H' d v F->k d->Q v H')->r x H Q
def wUn (g:D->(D->Prop)->Prop) (wa:WE):WE:=λρ Q=>wa ρ λx ρ1=>g x λd=>Q d ρ1
theorem ev_un {op:UnaryOp} {g:D->(D->Prop)->Prop} (ho:UnD X (unaryOp op) g) (ha:EV X T m o a wa):EV X T m true (.UnaryOp op a pos) (wUn g wa):=by
 obtain ⟨r,ro,gr⟩:=ho
 obtain ⟨ta,pa,ga⟩:=ha
 refine ⟨_,pe_un ro pa,λz R σ H W ρ Q Q' s hw k=>?_⟩
 refine ga z R σ H W ρ _ _ s hw λv1 H1 W1 d1 ρ1 F1 p q1=>?_
 exact gr H1 d1 v1 F1 _ Q' p.rep q1 λv H' d F fi hk=>k v H' W1 d ρ1 F (Post.fin p.sr p.fr p.calm fi.same fi.rep fi.nd fi.new) hk
abbrev WT:=Env->(Bool->Env->Prop)->Prop
structure PostT (K:PySem.W.Frag) (T:Tg) (z:Nat->V) (R:Addr->Prop) (m:Bool) (H:Hp) (W:Addr->Prop) (σ:St) (ρ:Env) (H':Hp) (W':Addr->Prop) (ρ':Env):Prop where
 sr:SR K T z R H' W' σ ρ'
 fr:FrW H W H' W'
 calm:m=false->Same H H'/\W'=W/\ρ'=ρ
def TV (X:Cx) (T:Tg) (m:Bool) (e:Expr) (w:WT):Prop :=
 ∃tt,PT X e tt/\∀(z:Nat->V) (R:Addr->Prop) (σ:St) (H:Hp) (W:Addr->Prop) (ρ:Env) (Q:Bool->Env->Prop) (Q':Bool->Hp->Prop),SR X.K T z R H W σ ρ->w ρ Q ->
  (∀b H' W' ρ',PostT X.K T z R m H W σ ρ H' W' ρ'->Q b ρ'->Q' b H')->tt σ H Q'
def truD:D->Option Bool
 | .non=>some false
 | .bl b=>some b
 | .int i=>some (i != 0)
 | .str y=>if y.length<=sizeLine then some ((y.length:Int) != 0) else none
 | .lst xs=>some (!xs.isEmpty)
 | .tup xs=>some (!xs.isEmpty)
 | .dik kvs=>some (!kvs.isEmpty)
 | .kls xs=>some (!xs.isEmpty)
 | .dit _=>none
 | .ty _=>none
 | .fdk _=>none
 | .ftp _=>none
 | .fls _=>none
 | .fdt _=>none
 | .obj _ _=>none
 | .clo _ _=>none
def wTru (wa:WE):WT:=λρ Q=>wa ρ λd ρ'=>match truD d with
 | some b=>Q b ρ'
 | none=>False
theorem Reps.emp {K:PySem.W.Frag} {H:Hp} {ds:List D} {xs:List V} {F:List Addr} (r:Reps K H ds xs F):ds.isEmpty=xs.isEmpty:=by
 have:=r.length
 cases ds <;> cases xs <;> simp at this <;> rfl
theorem RepK.emp {K:PySem.W.Frag} {H:Hp} {ds:List (Key × D)} {xs:List (Key × V)} {F:List Addr} (r:RepK K H ds xs F):ds.isEmpty=xs.isEmpty:=by
 have:=r.length
 cases ds <;> cases xs <;> simp at this <;> rfl
theorem truV_of {K:PySem.W.Frag} {H:Hp} {d:D} {x:V} {F:List Addr} {b:Bool} (r:Rep K H d x F) (h:truD d=some b):TruV K x H b:=by
 cases r with
 | non=>exact (Option.some.inj h).symm
 | bl c=>exact (Option.some.inj h).symm
 | int c=>exact (Option.some.inj h).symm
 | str y =>
  have h:(if y.length<=sizeLine then some ((y.length:Int) != 0) else none)=some b:=h
  split at h
  ·rename_i hl;exact ⟨hl,(Option.some.inj h).symm⟩
  ·cases h
 | tup e r =>
  refine .inr (.inl ⟨_,.of e,?_⟩)
  rw [← Option.some.inj h,r.emp]
 | lst e r =>
  refine .inl ⟨_,.of e,?_⟩
  rw [← Option.some.inj h,r.emp]
 | kls e r =>
  refine .inl ⟨_,e.sq,?_⟩
  rw [← Option.some.inj h,r.emp]
 | dik e r =>
  refine .inr (.inr ⟨_,e,?_⟩)
  rw [← Option.some.inj h,r.emp]
 | dit e r=>cases h
 | ty t=>cases h
 | fdk e r=>cases h
 | ftp e hd r=>cases h
 | fls e r=>cases h
 | fdt e r=>cases h
 | obj e hc hf=>cases h
 | clo e r=>cases h
theorem tv_tru (ha:EV X T m o a wa) (he:∀whole,isTrue a X.env whole=(do let v ← whole;standAt a.pos;holding [v] (truthy v)):=by intro _;rfl):TV X T m a (wTru wa):=by
 obtain ⟨ta,pa,ga⟩:=ha
 refine ⟨_,pt_truth pa he,λz R σ H W ρ Q Q' s hw k=>?_⟩
 refine ga z R σ H W ρ _ _ s hw λv1 H1 W1 d1 ρ1 F1 p q1=>?_
 cases ht:truD d1 with
 | none=>rw [ht] at q1;exact q1.elim
 | some b =>
  rw [ht] at q1
  exact ⟨b,truV_of p.rep ht,k b H1 W1 ρ1 ⟨p.sr,p.fr,p.calm⟩ q1⟩
def wBl (wa:WE):WT:=λρ Q=>wa ρ λd ρ'=>match d with
 | .bl b=>Q b ρ'
 | _=>False
theorem rep_bl {K:PySem.W.Frag} {H:Hp} {b:Bool} {x:V} {F:List Addr} (r:Rep K H (.bl b) x F):x=.bl b:=by cases r;rfl
theorem tv_cmp {op:CmpOp} {g:G2} (ho:OpD X (compareOp op) g) (ha:EV X T m1 o1 a wa) (hb:EV X T m2 o2 b wb) (hc:o1=true\/m2=false:=by first | exact .inl rfl | exact .inr rfl)
  (hm:behindInMarks op b=false:=by first | exact nomark _ | with_unfolding_all rfl):TV X T (m1 || m2) (.Compare a [op] [b] pos) (wBl (wBin g wa wb)):=by
 obtain ⟨r,ro,gr⟩:=ho
 obtain ⟨ta,pa,ga⟩:=ha
 obtain ⟨tb,pb,gb⟩:=hb
 refine ⟨_,pt_cmpR ro pa pb hm,λz R σ H W ρ Q Q' s hw k=>?_⟩
 refine two ga gb hc s hw λx y H2 W2 d1 d2 ρ2 F1 F2 s2 f2 c2 r1 r2 _ _ _ q2=>?_
 refine gr H2 d1 d2 x y F1 F2 _ _ r1 r2 q2 λv H' d F fi hk=>?_
 cases d with
 | bl b=>exact ⟨b,rep_bl fi.rep,k b H' W2 ρ2 ⟨s2.same fi.same,f2.trans (FrW.same W2 fi.same),λh=>⟨(c2 h).1.trans fi.same,(c2 h).2⟩⟩ hk⟩
 | _=>exact hk.elim
variable {wt wu:WT} {rest:List Expr}
def wNot (wt:WT):WT:=λρ Q=>wt ρ λb ρ'=>Q (!b) ρ'
def wOr (wt wu:WT):WT:=λρ Q=>wt ρ λb ρ'=>if b=true then Q true ρ' else wu ρ' Q
theorem tv_not (ha:TV X T m a wt):TV X T m (.UnaryOp .Not a pos) (wNot wt):=by
 obtain ⟨ta,pa,ga⟩:=ha
 exact ⟨_,pt_not pa,λz R σ H W ρ Q Q' s hw k=>ga z R σ H W ρ _ _ s hw λb H1 W1 ρ1 p q1=>k (!b) H1 W1 ρ1 p q1⟩
def BV (X:Cx) (T:Tg) (m:Bool) (e:Expr) (w:WT):Prop :=
 ∃tt,PW X e tt/\∀(z:Nat->V) (R:Addr->Prop) (σ:St) (H:Hp) (W:Addr->Prop) (ρ:Env) (Q:Bool->Env->Prop) (Q':Bool->Hp->Prop),SR X.K T z R H W σ ρ->w ρ Q ->
  (∀b H' W' ρ',PostT X.K T z R m H W σ ρ H' W' ρ'->Q b ρ'->Q' b H')->tt σ H Q'
theorem PostT.seq {K:PySem.W.Frag} {z:Nat->V} {R:Addr->Prop} {H H1 H2:Hp} {W W1 W2:Addr->Prop} {σ:St} {ρ ρ1 ρ2:Env} (p:PostT K T z R m1 H W σ ρ H1 W1 ρ1) (q:PostT K T z R m2 H1 W1 σ ρ1 H2 W2 ρ2):PostT K T z R (m1 || m2) H W σ ρ H2 W2 ρ2 where
 sr:=q.sr
 fr:=p.fr.trans q.fr
 calm:=λh=>by
  rw [Bool.or_eq_false_iff] at h
  obtain ⟨a1,a2,a3⟩:=p.calm h.1
  obtain ⟨b1,b2,b3⟩:=q.calm h.2
  exact ⟨a1.trans b1,b2.trans a2,b3.trans a3⟩
theorem PostT.left {K:PySem.W.Frag} {z:Nat->V} {R:Addr->Prop} {H H1:Hp} {W W1:Addr->Prop} {σ:St} {ρ ρ1:Env} (p:PostT K T z R m1 H W σ ρ H1 W1 ρ1):PostT K T z R (m1 || m2) H W σ ρ H1 W1 ρ1 :=
 ⟨p.sr,p.fr,λh=>p.calm (Bool.or_eq_false_iff.mp h).1⟩
theorem bv_or1 (ha:TV X T m a wt):BV X T m (.BoolOp .Or [a] pos) wt:=by
 obtain ⟨ta,pa,ga⟩:=ha
 exact ⟨_,pw_or1 pa,ga⟩
theorem bv_or (ha:TV X T m1 a wt) (hb:BV X T m2 (.BoolOp .Or (b::rest) pos) wu):BV X T (m1 || m2) (.BoolOp .Or (a::b::rest) pos) (wOr wt wu):=by
 obtain ⟨ta,pa,ga⟩:=ha
 obtain ⟨tb,pb,gb⟩:=hb
 refine ⟨_,pw_or pa pb,λz R σ H W ρ Q Q' s hw k=>ga z R σ H W ρ _ _ s hw λc H1 W1 ρ1 p q1=>?_⟩
 cases c with
 | false=>exact gb z R σ H1 W1 ρ1 Q Q' p.sr q1 λb H2 W2 ρ2 q q2=>k b H2 W2 ρ2 (p.seq q) q2
 | true=>exact k true H1 W1 ρ1 p.left q1
theorem tv_bool (h:BV X T m e wt):TV X T m e wt:=by
 obtain ⟨ta,pa,ga⟩:=h
 exact ⟨_,pa.pt,ga⟩
def wIfE (wt:WT) (wa wb:WE):WE:=λρ Q=>wt ρ λc ρ1=>if c=true then wa ρ1 Q else wb ρ1 Q
theorem ev_if {c:Expr} {m0:Bool} (hc:TV X T m0 c wt) (ha:EV X T m1 o a wa) (hb:EV X T m2 o b wb):EV X T (m0 || (m1 || m2)) o (.IfExp c a b pos) (wIfE wt wa wb):=by
 obtain ⟨tc,pc,gc⟩:=hc
 obtain ⟨ta,pa,ga⟩:=ha
 obtain ⟨tb,pb,gb⟩:=hb
 refine ⟨_,pe_ifExp pc pa pb,λz R σ H W ρ Q Q' s hw k=>gc z R σ H W ρ _ _ s hw λc H1 W1 ρ1 p q1=>?_⟩
 have fin:∀{m':Bool} v H' W' d ρ' F,Post X.K T z R m' o H1 W1 σ ρ1 H' W' ρ' d v F->((m1 || m2)=false->m'=false)->Q d ρ'->Q' v H':=λv H' W' d ρ' F q hm hq=>by
  refine k v H' W' d ρ' F ⟨q.sr,p.fr.trans q.fr,λh=>?_,q.rep,λh=>⟨(q.own h).1,λa ma=>⟨p.fr.dom a ((q.own h).2 a ma).1,((q.own h).2 a ma).2⟩⟩⟩ hq
  rw [Bool.or_eq_false_iff] at h
  obtain ⟨a1,a2,a3⟩:=p.calm h.1
  obtain ⟨b1,b2,b3⟩:=q.calm (hm h.2)
  exact ⟨a1.trans b1,b2.trans a2,b3.trans a3⟩
 cases c with
 | true=>exact ga z R σ H1 W1 ρ1 Q Q' p.sr q1 λv H' W' d ρ' F q hq=>fin v H' W' d ρ' F q (λh=>(Bool.or_eq_false_iff.mp h).1) hq
 | false=>exact gb z R σ H1 W1 ρ1 Q Q' p.sr q1 λv H' W' d ρ' F q hq=>fin v H' W' d ρ' F q (λh=>(Bool.or_eq_false_iff.mp h).2) hq
end
end PV
namespace PV
open PySem PySem.Spec L2
open PySem.W (Dat kqdP kqdPs kqdOk)
mutual
def toDat:D->Dat
 | .non=>.none
 | .bl b=>.bool b
 | .int i=>.int i
 | .str x=>.str x
 | .tup xs=>.tuple (toDats xs)
 | .lst xs=>.list (toDats xs)
 | .dik _=>.none
 | .dit _=>.none
 | .kls _=>.none
 | .ty _=>.none
 | .fdk _=>.none
 | .ftp _=>.none
 | .fls _=>.none
 | .fdt _=>.none
 | .obj _ _=>.none
 | .clo _ _=>.none
def toDats:List D->List Dat
 | []=>[]
 | d::r=>toDat d::toDats r
end
mutual
def eqOk:Nat->D->Bool
 | _,.non=>true
 | _,.int _=>true
 | _,.str x=>PyData.strOk x
 | n+1,.tup xs=>eqOks n xs
 | n+1,.lst xs=>eqOks n xs
 | _,_=>false
def eqOks:Nat->List D->Bool
 | _,[]=>true
 | n,d::r=>eqOk n d && eqOks n r
end
theorem eqOks_iff {n:Nat} {xs:List D}:eqOks n xs=true↔∀x∈xs,eqOk n x=true:=by
 induction xs with
 | nil=>simp [eqOks]
 | cons d r ih=>simp only [eqOks,Bool.and_eq_true,ih,List.mem_cons,forall_eq_or_imp]
mutual
theorem eqOk_kqd:∀(n:Nat) (d:D),eqOk n d=true->kqdOk n (toDat d)=true
 | _,.non,_=>by simp [toDat,kqdOk]
 | _,.bl _,h=>by cases ‹Nat› <;> simp [eqOk] at h
 | _,.int _,_=>by simp [toDat,kqdOk]
 | _,.str x,h=>by
  cases ‹Nat› <;> (simp only [eqOk] at h;simpa [toDat,kqdOk] using h)
 | 0,.tup _,h=>by simp [eqOk] at h
 | 0,.lst _,h=>by simp [eqOk] at h
 | n+1,.tup xs,h=>by
  simp only [eqOk] at h
  rw [toDat];simp only [kqdOk]
  exact eqOks_kqd n xs h
 | n+1,.lst xs,h=>by
  simp only [eqOk] at h
  rw [toDat];simp only [kqdOk]
  exact eqOks_kqd n xs h
 | n,.dik _,h=>by cases n <;> simp [eqOk] at h
 | n,.dit _,h=>by cases n <;> simp [eqOk] at h
 | n,.kls _,h=>by cases n <;> simp [eqOk] at h
 | n,.ty _,h=>by cases n <;> simp [eqOk] at h
 | n,.fdk _,h=>by cases n <;> simp [eqOk] at h
 | n,.ftp _,h=>by cases n <;> simp [eqOk] at h
 | n,.fls _,h=>by cases n <;> simp [eqOk] at h
 | n,.fdt _,h=>by cases n <;> simp [eqOk] at h
 | n,.obj _ _,h=>by cases n <;> simp [eqOk] at h
 | n,.clo _ _,h=>by cases n <;> simp [eqOk] at h
theorem eqOks_kqd:∀(n:Nat) (xs:List D),eqOks n xs=true->(toDats xs).all (kqdOk n)=true
 | _,[],_=>by simp [toDats]
 | n,d::r,h=>by
  simp only [eqOks,Bool.and_eq_true] at h
  rw [toDats,List.all_cons,eqOk_kqd n d h.1,eqOks_kqd n r h.2];rfl
end
mutual
theorem toDat_inj:∀(n k:Nat) (a b:D),eqOk n a=true->eqOk k b=true->toDat a=toDat b->a=b
 | n,k,a,b,ha,hb,h=>by
  cases a with
  | non=>cases b <;> first | rfl | (simp [toDat] at h;done) | (cases k <;> simp [eqOk] at hb)
  | bl x=>cases n <;> simp [eqOk] at ha
  | int x=>cases b <;> first | (simp [toDat] at h;rw [h]) | (simp [toDat] at h)
  | str x=>cases b <;> first | (simp [toDat] at h;rw [h]) | (simp [toDat] at h)
  | tup xs =>
   cases b with
   | tup ys =>
    cases n with
    | zero=>simp [eqOk] at ha
    | succ n =>
     cases k with
     | zero=>simp [eqOk] at hb
     | succ k =>
      simp only [eqOk] at ha hb
      simp only [toDat,Dat.tuple.injEq] at h
      rw [toDats_inj n k xs ys ha hb h]
   | _=>simp [toDat] at h
  | lst xs =>
   cases b with
   | lst ys =>
    cases n with
    | zero=>simp [eqOk] at ha
    | succ n =>
     cases k with
     | zero=>simp [eqOk] at hb
     | succ k =>
      simp only [eqOk] at ha hb
      simp only [toDat,Dat.list.injEq] at h
      rw [toDats_inj n k xs ys ha hb h]
   | _=>simp [toDat] at h
  | dik x=>cases n <;> simp [eqOk] at ha
  | dit x=>cases n <;> simp [eqOk] at ha
  | kls x=>cases n <;> simp [eqOk] at ha
  | ty x=>cases n <;> simp [eqOk] at ha
  | fdk x=>cases n <;> simp [eqOk] at ha
  | ftp x=>cases n <;> simp [eqOk] at ha
  | fls x=>cases n <;> simp [eqOk] at ha
  | fdt x=>cases n <;> simp [eqOk] at ha
  | obj x y=>cases n <;> simp [eqOk] at ha
  | clo x y=>cases n <;> simp [eqOk] at ha
theorem toDats_inj:∀(n k:Nat) (a b:List D),eqOks n a=true->eqOks k b=true->toDats a=toDats b->a=b
 | n,k,[],b,ha,hb,h=>by
  cases b with
  | nil=>rfl
  | cons=>simp [toDats] at h
 | n,k,x::a,b,ha,hb,h=>by
  cases b with
  | nil=>simp [toDats] at h
  | cons y b =>
   simp only [toDats,List.cons.injEq] at h
   simp only [eqOks,Bool.and_eq_true] at ha hb
   rw [toDat_inj n k x y ha.1 hb.1 h.1,toDats_inj n k a b ha.2 hb.2 h.2]
end
theorem Rep.dv {K:PySem.W.Frag} {H:Hp} {d:D} {v:V} {F:List Addr} (n:Nat) (r:Rep K H d v F):eqOk n d=true->DV H v (toDat d):=by
 have no:∀{P:Prop} {n:Nat} {d:D},(∀n,eqOk n d=false)->eqOk n d=true->P:=λh h'=>absurd ((h _).symm.trans h') (by simp)
 refine Rep.rec (motive_1:=λd v _ _=>∀n,eqOk n d=true->DV H v (toDat d)) (motive_2:=λd v _ _=>∀n,eqOks n d=true->DVs H v (toDats d)) (motive_3:=λ_ _ _ _=>True) (motive_4:=λ_ _ _ _=>True) ?_ ?_ ?_ ?_ ?_ ?_ ?_ ?_ ?_ ?_ ?_ ?_ ?_ ?_ ?_ ?_ ?_ ?_ trivial (λ_ _ _ _=>trivial) trivial (λ_ _ _ _=>trivial) r n
 ·exact λ_ _=>by rw [toDat];exact .non
 ·exact λb n=>no λn=>by cases n <;> rfl
 ·exact λi _ _=>by rw [toDat];exact .int i
 ·exact λi _ _=>by rw [toDat];exact .str i
 ·intro _ _ _ _ e _ ih n h
  cases n with
  | zero=>simp [eqOk] at h
  | succ n=>rw [eqOk] at h;rw [toDat];exact .tup e (ih n h)
 ·intro _ _ _ _ e _ ih n h
  cases n with
  | zero=>simp [eqOk] at h
  | succ n=>rw [eqOk] at h;rw [toDat];exact .lst e (ih n h)
 ·exact λ_ _ _ n=>no λn=>by cases n <;> rfl
 ·exact λ_ _ _ n=>no λn=>by cases n <;> rfl
 ·exact λ_ _ _ n=>no λn=>by cases n <;> rfl
 ·exact λ_ n=>no λn=>by cases n <;> rfl
 ·exact λ_ _ _ n=>no λn=>by cases n <;> rfl
 ·exact λ_ _ _ _ n=>no λn=>by cases n <;> rfl
 ·exact λ_ _ _ n=>no λn=>by cases n <;> rfl
 ·exact λ_ _ _ n=>no λn=>by cases n <;> rfl
 ·exact λ_ _ _ n=>no λn=>by cases n <;> rfl
 ·exact λ_ _ _ n=>no λn=>by cases n <;> rfl
 ·exact λ_ _=>by rw [toDats];exact .nil
 ·intro _ _ _ _ _ _ _ _ ih1 ih2 n q
  rw [eqOks,Bool.and_eq_true] at q
  rw [toDats];exact .cons (ih1 n q.1) (ih2 n q.2)
theorem Reps.dv {K:PySem.W.Frag} {H:Hp} {d:List D} {v:List V} {F:List Addr} (n:Nat) (r:Reps K H d v F) (q:eqOks n d=true):DVs H v (toDats d):=by
 induction d generalizing v F with
 | nil=>cases r;rw [toDats];exact .nil
 | cons d ds ih =>
  cases r with
  | cons h r =>
   rw [eqOks,Bool.and_eq_true] at q
   rw [toDats];exact .cons (h.dv n q.1) (ih r q.2)
def dAdd:G2
 | .int i,.int j,k=>k (.int (i+j))
 | .str x,.str y,k=>x.length+y.length<=sizeLine/\k (.str (x++y))
 | .tup xs,.tup ys,k=>pureL xs=true/\pureL ys=true/\xs≠[]/\xs.length+ys.length<=sizeLine/\k (.tup (xs++ys))
 | .lst xs,.lst ys,k=>pureL xs=true/\pureL ys=true/\xs.length+ys.length<=sizeLine/\k (.lst (xs++ys))
 | _,_,_=>False
def dSub:G2
 | .int i,.int j,k=>k (.int (i-j))
 | _,_,_=>False
def dMul:G2
 | .int i,.int j,k=>CMul i j/\k (.int (i*j))
 | .lst xs,.int n,k=>pureL xs=true /\ -(2 ^ 63)<=n/\n<2 ^ 63/\xs.length*n.toNat<=sizeLine/\k (.lst (List.replicate n.toNat xs).flatten)
 | _,_,_=>False
def dDiv:G2
 | .int i,.int j,k=>(0<j/\j<1073741824/\k (.int (i / j)))\/(j<0/\j.natAbs<1073741824/\k (.int (i.fdiv j)))
 | _,_,_=>False
def dMod:G2
 | .int i,.int j,k=>(0<j/\k (.int (i % j)))\/(j<0/\k (.int (i.fmod j)))
 | _,_,_=>False
def dPow:G2
 | .int i,.int j,k=>CPow i j/\k (.int (i ^ j.toNat))
 | _,_,_=>False
def dEq:G2
 | .int i,.int j,k=>k (.bl (decide (i=j)))
 | .bl i,.bl j,k=>k (.bl (i == j))
 | .str i,.str j,k=>k (.bl (decide (i=j)))
 | a,b,k=>eqOk 9 a=true/\eqOk 9 b=true/\(a=b->k (.bl true))/\(a≠b->k (.bl false))
def dNe:G2
 | .int i,.int j,k=>k (.bl (!decide (i=j)))
 | .bl i,.bl j,k=>k (.bl (!(i == j)))
 | .str i,.str j,k=>k (.bl (!decide (i=j)))
 | a,b,k=>eqOk 9 a=true/\eqOk 9 b=true/\(a=b->k (.bl false))/\(a≠b->k (.bl true))
def dCmp (f:Int->Int->Bool):G2
 | .int i,.int j,k=>k (.bl (f i j))
 | _,_,_=>False
section
variable {X:Cx}
theorem rep_int {K:PySem.W.Frag} {H:Hp} {i:Int} {x:V} {F:List Addr} (r:Rep K H (.int i) x F):x=.int i:=by cases r;rfl
theorem Reps.flatten {K:PySem.W.Frag} {H:Hp} {ds:List D} {xs:List V} (r:Reps K H ds xs []):∀n:Nat,Reps K H (List.replicate n ds).flatten (List.replicate n xs).flatten []
 | 0=>.nil
 | n+1=>by
  have:=r.append (Reps.flatten r n)
  simpa [List.replicate_succ,List.flatten_cons] using this
theorem dAdd_inv {a b:D} {k:D->Prop} (g:dAdd a b k):(∃i j,a=.int i/\b=.int j)\/(∃i j,a=.str i/\b=.str j)\/(∃i j,a=.tup i/\b=.tup j)\/∃i j,a=.lst i/\b=.lst j:=by
 cases a with
 | int i=>cases b with
  | int j=>exact .inl ⟨i,j,rfl,rfl⟩
  | _=>exact (show False from g).elim
 | str i=>cases b with
  | str j=>exact .inr (.inl ⟨i,j,rfl,rfl⟩)
  | _=>exact (show False from g).elim
 | tup i=>cases b with
  | tup j=>exact .inr (.inr (.inl ⟨i,j,rfl,rfl⟩))
  | _=>exact (show False from g).elim
 | lst i=>cases b with
  | lst j=>exact .inr (.inr (.inr ⟨i,j,rfl,rfl⟩))
  | _=>exact (show False from g).elim
 | _=>exact (show False from g).elim
theorem od_add:OpD X (binaryOp .Add) dAdd:=by
 refine ⟨_,OpR.or op_add (OpR.or op_cat (OpR.or op_catT op_add_str)),λH a b x y F1 F2 k Q ra rb g q=>?_⟩
 rcases dAdd_inv g with ⟨i,j,rfl,rfl⟩ | ⟨i,j,rfl,rfl⟩ | ⟨ds,es,rfl,rfl⟩ | ⟨ds,es,rfl,rfl⟩
 ·exact .inl ⟨_,_,ra.iInt,rb.iInt,q _ _ _ _ (.flat (.int _)) g⟩
 ·exact .inr (.inr (.inr ⟨_,_,ra.iStr,rb.iStr,g.1,q _ _ _ _ (.flat (.str _)) g.2⟩))
 ·obtain ⟨a,xs,rfl,e1,r1⟩:=ra.iTup
  obtain ⟨b,ys,rfl,e2,r2⟩:=rb.iTup
  obtain ⟨p1,p2,hne,hz,g⟩:=g
  obtain ⟨-,r1⟩:=r1.pure p1
  obtain ⟨-,r2⟩:=r2.pure p2
  have l1:=r1.length
  have l2:=r2.length
  refine .inr (.inr (.inl ⟨a,b,xs,ys,rfl,rfl,.of e1,.of e2,λz=>hne (List.length_eq_zero_iff.mp (by rw [← l1,z];rfl)),by omega,λz=>?_,λz p hp=>?_⟩))
  ·have:es=[]:=List.length_eq_zero_iff.mp (by rw [← l2,z];rfl)
   subst this
   rw [List.append_nil] at g
   exact q _ _ _ _ (.flat (.tup e1 r1)) g
  ·refine q _ _ _ [] ⟨same_upd hp,.tup upd_same ?_,List.nodup_nil,λ_ m=>nomatch m⟩ g
   exact (r1.append r2).same (same_upd hp)
 ·obtain ⟨a,xs,_,rfl,_,e1,r1⟩:=ra.iLst
  obtain ⟨b,ys,_,rfl,_,e2,r2⟩:=rb.iLst
  obtain ⟨p1,p2,hz,g⟩:=g
  obtain ⟨-,r1⟩:=r1.pure p1
  obtain ⟨-,r2⟩:=r2.pure p2
  have l1:=r1.length
  have l2:=r2.length
  refine .inr (.inl ⟨a,b,xs,ys,rfl,rfl,e1,e2,by omega,λp hp=>?_⟩)
  refine q _ _ _ [p] ⟨same_upd hp,.lst upd_same ((r1.append r2).same (same_upd hp)),by simp,λc m=>by rw [List.mem_singleton.mp m];exact hp⟩ g
theorem od_sub:OpD X (binaryOp .Sub) dSub:=by
 refine ⟨_,op_sub,λH a b x y F1 F2 k Q ra rb g q=>?_⟩
 (cases ra <;> first | exact (show False from g).elim | skip) <;> (cases rb <;> first | exact (show False from g).elim | skip)
 exact ⟨_,_,rfl,rfl,q _ _ _ _ (.flat (.int _)) g⟩
theorem dMul_inv {a b:D} {k:D->Prop} (g:dMul a b k):(∃i j,a=.int i/\b=.int j)\/∃i j,a=.lst i/\b=.int j:=by
 cases a with
 | int i=>cases b with
  | int j=>exact .inl ⟨i,j,rfl,rfl⟩
  | _=>exact (show False from g).elim
 | lst i=>cases b with
  | int j=>exact .inr ⟨i,j,rfl,rfl⟩
  | _=>exact (show False from g).elim
 | _=>exact (show False from g).elim
theorem od_mul:OpD X (binaryOp .Mult) dMul:=by
 refine ⟨_,OpR.or op_mul op_rep,λH a b x y F1 F2 k Q ra rb g q=>?_⟩
 rcases dMul_inv g with ⟨i,j,rfl,rfl⟩ | ⟨ds,n,rfl,rfl⟩
 ·exact .inl ⟨_,_,ra.iInt,rb.iInt,g.1,q _ _ _ _ (.flat (.int _)) g.2⟩
 ·obtain ⟨a,xs,_,rfl,_,e1,r1⟩:=ra.iLst
  obtain rfl:=rb.iInt
  obtain ⟨p1,h1,h2,hz,g⟩:=g
  obtain ⟨-,r1⟩:=r1.pure p1
  have l1:=r1.length
  refine .inr ⟨a,n,xs,rfl,rfl,e1,h1,h2,by rw [l1];exact hz,λp hp=>?_⟩
  refine q _ _ _ [p] ⟨same_upd hp,.lst upd_same ((r1.flatten _).same (same_upd hp)),by simp,λc m=>by rw [List.mem_singleton.mp m];exact hp⟩ g
theorem od_div:OpD X (binaryOp .FloorDiv) dDiv:=by
 refine ⟨_,OpR.or op_fdiv op_fdivN,λH a b x y F1 F2 k Q ra rb g q=>?_⟩
 (cases ra <;> first | exact (show False from g).elim | skip) <;> (cases rb <;> first | exact (show False from g).elim | skip)
 rcases (show _\/_ from g) with ⟨h1,h2,g⟩ | ⟨h1,h2,g⟩
 ·exact .inl ⟨_,_,rfl,rfl,⟨h1,h2⟩,q _ _ _ _ (.flat (.int _)) g⟩
 ·exact .inr ⟨_,_,rfl,rfl,⟨by omega,h2⟩,q _ _ _ _ (.flat (.int _)) g⟩
theorem od_mod:OpD X (binaryOp .Mod) dMod:=by
 refine ⟨_,OpR.or op_mod op_modN,λH a b x y F1 F2 k Q ra rb g q=>?_⟩
 (cases ra <;> first | exact (show False from g).elim | skip) <;> (cases rb <;> first | exact (show False from g).elim | skip)
 rcases (show _\/_ from g) with ⟨h1,g⟩ | ⟨h1,g⟩
 ·exact .inl ⟨_,_,rfl,rfl,h1,q _ _ _ _ (.flat (.int _)) g⟩
 ·exact .inr ⟨_,_,rfl,rfl,by omega,q _ _ _ _ (.flat (.int _)) g⟩
theorem od_pow:OpD X (binaryOp .Pow) dPow:=by
 refine ⟨_,op_pow,λH a b x y F1 F2 k Q ra rb g q=>?_⟩
 (cases ra <;> first | exact (show False from g).elim | skip) <;> (cases rb <;> first | exact (show False from g).elim | skip)
 exact ⟨_,_,rfl,rfl,g.1,q _ _ _ _ (.flat (.int _)) g.2⟩
theorem od_cmpI {op:CmpOp} {f:Int->Int->Bool} (h:OpR X (compareOp op) (rI0 λi j=>.bl (f i j))):OpD X (compareOp op) (dCmp f):=by
 refine ⟨_,h,λH a b x y F1 F2 k Q ra rb g q=>?_⟩
 (cases ra <;> first | exact (show False from g).elim | skip) <;> (cases rb <;> first | exact (show False from g).elim | skip)
 exact ⟨_,_,rfl,rfl,q _ _ _ _ (.flat (.bl _)) g⟩
theorem od_lt:OpD X (compareOp .Lt) (dCmp λi j=>decide (i<j)):=od_cmpI op_lt
theorem od_gt:OpD X (compareOp .Gt) (dCmp λi j=>decide (j<i)):=od_cmpI op_gt
theorem eq_nest {H:Hp} {a b:D} {x y:V} {F1 F2:List Addr} {k:D->Prop} {Q:VK} {neg:Bool} (ra:Rep X.K H a x F1) (rb:Rep X.K H b y F2)
  (h1:eqOk 9 a=true) (h2:eqOk 9 b=true) (g1:a=b->k (.bl (!neg))) (g2:a≠b->k (.bl neg)) (q:∀v H' d F,Fin X.K H H' d v F->k d->Q v H'):rDat neg x y H Q:=by
 refine ⟨toDat a,toDat b,9,ra.dv 9 h1,rb.dv 9 h2,eqOk_kqd _ _ h1,eqOk_kqd _ _ h2,Nat.le_refl _,λe=>?_,λe=>?_⟩
 ·exact q _ _ _ _ (.flat (.bl _)) (g1 (toDat_inj 9 9 a b h1 h2 e))
 ·exact q _ _ _ _ (.flat (.bl _)) (g2 λz=>e (by rw [z]))
theorem dEq_inv {a b:D} {k:D->Prop} (g:dEq a b k):(∃i j,a=.int i/\b=.int j)\/(∃i j,a=.bl i/\b=.bl j)\/(∃i j,a=.str i/\b=.str j)\/(eqOk 9 a=true/\eqOk 9 b=true/\(a=b->k (.bl true))/\(a≠b->k (.bl false))):=by
 cases a with
 | int i=>cases b with
  | int j=>exact .inl ⟨i,j,rfl,rfl⟩
  | _=>exact .inr (.inr (.inr g))
 | bl i=>cases b with
  | bl j=>exact .inr (.inl ⟨i,j,rfl,rfl⟩)
  | _=>exact .inr (.inr (.inr g))
 | str i=>cases b with
  | str j=>exact .inr (.inr (.inl ⟨i,j,rfl,rfl⟩))
  | _=>exact .inr (.inr (.inr g))
 | _=>exact .inr (.inr (.inr g))
theorem od_eq (hu:X.A.units+64<cLine):OpD X (compareOp .Eq) dEq:=by
 refine ⟨_,OpR.or op_eq (op_eqD hu),λH a b x y F1 F2 k Q ra rb g q=>?_⟩
 rcases dEq_inv g with ⟨i,j,rfl,rfl⟩ | ⟨i,j,rfl,rfl⟩ | ⟨i,j,rfl,rfl⟩ | ⟨h1,h2,g1,g2⟩
 ·obtain rfl:=ra.iInt
  obtain rfl:=rb.iInt
  refine .inl ⟨rfl,?_⟩
  have e:decide (V.int i=V.int j)=decide (i=j):=by simp
  rw [e]
  exact q _ _ _ _ (.flat (.bl _)) g
 ·obtain rfl:=ra.iBl
  obtain rfl:=rb.iBl
  refine .inl ⟨rfl,?_⟩
  rw [dec_bl]
  exact q _ _ _ _ (.flat (.bl _)) g
 ·obtain rfl:=ra.iStr
  obtain rfl:=rb.iStr
  refine .inl ⟨rfl,?_⟩
  have e:decide (V.str i=V.str j)=decide (i=j):=by simp
  rw [e]
  exact q _ _ _ _ (.flat (.bl _)) g
 ·exact .inr (eq_nest ra rb h1 h2 g1 g2 q)
theorem dNe_inv {a b:D} {k:D->Prop} (g:dNe a b k):(∃i j,a=.int i/\b=.int j)\/(∃i j,a=.bl i/\b=.bl j)\/(∃i j,a=.str i/\b=.str j)\/(eqOk 9 a=true/\eqOk 9 b=true/\(a=b->k (.bl false))/\(a≠b->k (.bl true))):=by
 cases a with
 | int i=>cases b with
  | int j=>exact .inl ⟨i,j,rfl,rfl⟩
  | _=>exact .inr (.inr (.inr g))
 | bl i=>cases b with
  | bl j=>exact .inr (.inl ⟨i,j,rfl,rfl⟩)
  | _=>exact .inr (.inr (.inr g))
 | str i=>cases b with
  | str j=>exact .inr (.inr (.inl ⟨i,j,rfl,rfl⟩))
  | _=>exact .inr (.inr (.inr g))
 | _=>exact .inr (.inr (.inr g))
theorem od_ne (hu:X.A.units+64<cLine):OpD X (compareOp .NotEq) dNe:=by
 refine ⟨_,OpR.or op_ne (op_neD hu),λH a b x y F1 F2 k Q ra rb g q=>?_⟩
 rcases dNe_inv g with ⟨i,j,rfl,rfl⟩ | ⟨i,j,rfl,rfl⟩ | ⟨i,j,rfl,rfl⟩ | ⟨h1,h2,g1,g2⟩
 ·obtain rfl:=ra.iInt
  obtain rfl:=rb.iInt
  refine .inl ⟨rfl,?_⟩
  have e:(!decide (V.int i=V.int j)) = !decide (i=j):=by simp
  rw [e]
  exact q _ _ _ _ (.flat (.bl _)) g
 ·obtain rfl:=ra.iBl
  obtain rfl:=rb.iBl
  refine .inl ⟨rfl,?_⟩
  rw [dec_bl]
  exact q _ _ _ _ (.flat (.bl _)) g
 ·obtain rfl:=ra.iStr
  obtain rfl:=rb.iStr
  refine .inl ⟨rfl,?_⟩
  have e:(!decide (V.str i=V.str j)) = !decide (i=j):=by simp
  rw [e]
  exact q _ _ _ _ (.flat (.bl _)) g
 ·exact .inr (eq_nest (neg:=true) ra rb h1 h2 g1 g2 q)
def dNeg:D->(D->Prop)->Prop
 | .int i,k=>k (.int (-i))
 | _,_=>False
theorem ud_neg:UnD X (unaryOp .USub) dNeg:=by
 refine ⟨_,un_neg,λH a x F1 k Q ra g q=>?_⟩
 cases ra <;> try exact (show False from g).elim
 exact ⟨_,rfl,q _ _ _ _ (.flat (.int _)) g⟩
end
end PV
namespace PV
open PySem PySem.Spec L2
open PyProof.Rows (subscriptTail)
def keysOf:List D->Option (List Key)
 | []=>some []
 | .int i::r=>(keysOf r).map λl=>.inl i::l
 | .str x::r=>(keysOf r).map λl=>.inr x::l
 | _::_=>none
theorem Reps.keys {K:PySem.W.Frag} {H:Hp}:∀{ds:List D} {xs:List V} {F:List Addr} {l:List Key},Reps K H ds xs F->keysOf ds=some l->xs=l.map kV
 | [],_,_,_,r,h=>by
  cases r
  simp only [keysOf,Option.some.injEq] at h
  subst h
  rfl
 | d::ds,_,_,_,r,h=>by
  cases r with
  | cons p r =>
   cases d with
   | int i =>
    simp only [keysOf,Option.map_eq_some_iff] at h
    obtain ⟨l',h1,rfl⟩:=h
    cases p
    rw [Reps.keys r h1]
    rfl
   | str i =>
    simp only [keysOf,Option.map_eq_some_iff] at h
    obtain ⟨l',h1,rfl⟩:=h
    cases p
    rw [Reps.keys r h1]
    rfl
   | _=>simp [keysOf] at h
theorem Reps.atI {K:PySem.W.Frag} {H:Hp} {ds:List D} {xs:List V} {F:List Addr} {i:Int} {d:D} (r:Reps K H ds xs F) (h:L2.atI ds i=some d):∃x B,L2.atI xs i=some x/\Rep K H d x B/\B.Sublist F:=by
 unfold L2.atI at h
 cases hj:ixN ds.length i with
 | none=>rw [hj] at h;cases h
 | some j =>
  rw [hj] at h
  obtain ⟨x,B,h1,h2,h3⟩:=r.get (i:=j) h
  refine ⟨x,B,?_,h2,h3⟩
  unfold L2.atI
  rw [r.length,hj]
  exact h1
def oget {α:Type} (o:Option α) (k:α->Prop):Prop:=match o with
 | some d=>k d
 | none=>False
def onI (b:D) (k:Int->Prop):Prop:=match b with
 | .int i=>k i
 | _=>False
def onK (b:D) (k:Key->Prop):Prop:=match b with
 | .int i=>k (.inl i)
 | .str i=>k (.inr i)
 | _=>False
def onT (b:D) (k:List D->Prop):Prop:=match b with
 | .tup l=>k l
 | _=>False
theorem onI_inv {b:D} {k:Int->Prop} (h:onI b k):∃i,b=.int i/\k i:=by
 cases b with
 | int i=>exact ⟨i,rfl,h⟩
 | _=>exact (show False from h).elim
theorem onT_inv {b:D} {k:List D->Prop} (h:onT b k):∃i,b=.tup i/\k i:=by
 cases b with
 | tup i=>exact ⟨i,rfl,h⟩
 | _=>exact (show False from h).elim
theorem onK_inv {b:D} {k:Key->Prop} (h:onK b k):∃key,k key/\∀{K:PySem.W.Frag} {H:Hp} {v:V} {F:List Addr},Rep K H b v F->v=kV key:=by
 cases b with
 | int i=>exact ⟨.inl i,h,λr=>r.iInt⟩
 | str i=>exact ⟨.inr i,h,λr=>r.iStr⟩
 | _=>exact (show False from h).elim
def dIx:G2:=λa b k=>match a with
 | .lst xs=>onI b λi=>oget (L2.atI xs i) k
 | .tup xs=>onI b λi=>oget (L2.atI xs i) k
 | .kls xs=>onI b λi=>oget (L2.atI xs i) k
 | .str z=>onI b λi=>z.length<=sizeLine/\oget (L2.atI z.cps.toList i) λc=>k (.str ⟨#[c]⟩)
 | .dik kvs=>onK b λkey=>oget (valD kvs key) k
 | .dit kvs=>onT b λl=>oget (keysOf l) λks=>oget (valD kvs ks) k
 | .fdk kvs=>onK b λkey=>oget (valD kvs key) k
 | _=>False
theorem oget_some {α:Type} {o:Option α} {k:α->Prop} (h:oget o k):∃d,o=some d/\k d:=by
 cases o with
 | none=>exact h.elim
 | some d=>exact ⟨d,rfl,h⟩
section
variable {X:Cx}
theorem tail_dict {prog:Program} {w:World} {A:Around} {E:Value->Shared->Prop} {s₂:Shared} {value slice:Expr} {o i:Value} {T id:String} {Q:Value->Shared->Prop}
  (hl:typeLookup (.type T) "__getitem__" = pure (some (.builtin id))) (hs:subscripted slice false o i=operate [o,i] (getItem o i)) (hT:s₂.TypeIs o T) (h₂:wpAny (model prog w) A (getItem o i) Q E s₂) :
  wpAny (model prog w) A (subscriptTail value slice o i) Q E s₂:=by
 unfold subscriptTail
 refine wpAny_bind ?_
 rw [getitemInPython_of_ne hT.not_modules]
 refine wpAny_bind (wpAny_specialOf hT hl ?_)
 have fin:wpAny (model prog w) A (subscripted slice false o i) (λr s₃=>wpAny (model prog w) A (letTemporaryGo value o r >>= λ_=>pure r) Q E s₃) E s₂:=by
  rw [hs]
  exact wpAny_operating (wpAny_mono h₂ (λr s₃ h₃=>wpAny_bind (wpAny_letTemporaryGo (wpAny_pure h₃))) λ_ _ x=>x)
 first
  | exact wpAny_pure (wpAny_bind fin)
  | exact wpAny_bind (wpAny_pure (wpAny_bind fin))
  | exact wpAny_bind fin
theorem ix_dict (hu:X.A.units+1<cLine):IxR X (λx y H Q=>∃a v,x=.ref a/\DGet H a y (some v)/\Q v H):=by
 intro value slice pins s σ H x y v u Q I rx ry h hs
 obtain ⟨a,z,rfl,g,q⟩:=h
 cases rx
 exact tail_dict PySem.F.slot_dict_getitem.lookup hs (dict_typeIs I g) (d_getItem hu I g ry λw' s3 I3 rw'=>⟨z,H,I3,rw',q⟩)
def IxD (X:Cx) (g:G2):Prop :=
 ∃r,IxR X r/\∀(H:Hp) (a b:D) (x y:V) (F1 F2:List Addr) (k:D->Prop) (Q:VK),Rep X.K H a x F1->Rep X.K H b y F2->g a b k ->
  (∀v d F,Rep X.K H d v F->F.Sublist F1->k d->Q v H)->r x y H Q
theorem xd_ix (hu:X.A.units+1<cLine):IxD X dIx:=by
 refine ⟨_,IxR.or ix_seq (ix_dict hu),λH a b x y F1 F2 k Q ra rb g q=>?_⟩
 cases a with
 | str z =>
  obtain ⟨i,rfl,hz,g⟩:=onI_inv g
  obtain ⟨c,e,g⟩:=oget_some g
  exact .inl (.inr (.inr ⟨_,_,c,ra.iStr,rb.iInt,hz,e,q _ _ _ (.str _) (List.nil_sublist _) g⟩))
 | tup ds =>
  obtain ⟨i,rfl,g⟩:=onI_inv g
  obtain ⟨a,xs,rfl,e,r⟩:=ra.iTup
  obtain ⟨d,h,g⟩:=oget_some g
  obtain ⟨v,B,h1,h2,h3⟩:=r.atI h
  exact .inl (.inr (.inl ⟨a,xs,i,v,rfl,rb.iInt,.of e,h1,q _ _ _ h2 h3 g⟩))
 | lst ds =>
  obtain ⟨i,rfl,g⟩:=onI_inv g
  obtain ⟨a,xs,G,rfl,rfl,e,r⟩:=ra.iLst
  obtain ⟨d,h,g⟩:=oget_some g
  obtain ⟨v,B,h1,h2,h3⟩:=r.atI h
  exact .inl (.inl ⟨a,xs,i,v,rfl,rb.iInt,.of e,h1,q _ _ _ h2 (h3.trans (List.sublist_cons_self _ _)) g⟩)
 | dik ds =>
  obtain ⟨key,g,hy⟩:=onK_inv (show onK b (λkey=>oget (valD ds key) k) from g)
  obtain ⟨a,kvs,G,rfl,rfl,e,r⟩:=ra.iDik
  obtain rfl:=hy rb
  obtain ⟨d,h,g⟩:=oget_some g
  rcases r.val key with ⟨z,_⟩ | ⟨d',v,B,h1,h2,h3,h4⟩
  ·rw [h] at z;cases z
  ·rw [h] at h1;cases h1
   exact .inr ⟨a,v,rfl,h2 ▸ DGet.k (k:=key) e,q _ _ _ h3 (h4.trans (List.sublist_cons_self _ _)) g⟩
 | dit ds =>
  obtain ⟨l,rfl,g⟩:=onT_inv g
  obtain ⟨a,kvs,G,rfl,rfl,e,r⟩:=ra.iDit
  obtain ⟨b,xs,rfl,e2,r2⟩:=rb.iTup
  obtain ⟨ks,hk,g⟩:=oget_some g
  obtain ⟨d,h,g⟩:=oget_some g
  have hx:=r2.keys hk
  subst hx
  rcases r.val ks with ⟨z,_⟩ | ⟨d',v,B,h1,h2,h3,h4⟩
  ·rw [h] at z;cases z
  ·rw [h] at h1;cases h1
   exact .inr ⟨a,v,rfl,h2 ▸ DGet.t (k:=ks) e e2,q _ _ _ h3 (h4.trans (List.sublist_cons_self _ _)) g⟩
 | kls ds =>
  obtain ⟨i,rfl,g⟩:=onI_inv g
  obtain ⟨a,xs,rfl,rfl,e,r⟩:=ra.iKls
  obtain ⟨d,h,g⟩:=oget_some g
  obtain ⟨v,B,h1,h2,h3⟩:=r.atI h
  exact .inl (.inl ⟨a,xs,i,v,rfl,rb.iInt,e.sq,h1,q _ _ _ h2 h3 g⟩)
 | fdk ds =>
  obtain ⟨key,g,hy⟩:=onK_inv (show onK b (λkey=>oget (valD ds key) k) from g)
  obtain ⟨a,ob,kvs,rfl,e,r⟩:=ra.iFdk
  obtain rfl:=hy rb
  obtain ⟨d,h,g⟩:=oget_some g
  rcases r.val key with ⟨z,_⟩ | ⟨d',v,B,h1,h2,h3,h4⟩
  ·rw [h] at z;cases z
  ·rw [h] at h1;cases h1
   exact .inr ⟨a,v,rfl,.inl ⟨kvs,key,.inr ⟨ob,e⟩,rfl,h2.symm⟩,q _ _ _ h3 h4 g⟩
 | _=>exact (show False from g).elim
variable {T:Tg} {m o m1 m2 m3 o1 o2:Bool} {e a b:Expr} {w wa wb:WE} {pos p2:Pos}
theorem ev_ix {g:G2} (hg:IxD X g) (ha:EV X T m1 o1 a wa) (hb:EV X T m2 o2 b wb) (hc:o1=true\/m2=false:=by first | exact .inl rfl | exact .inr rfl) (hs:PlainIx b:=by intro _ _;rfl) :
  EV X T (m1 || m2) o1 (.Subscript a b pos) (wBin g wa wb):=by
 obtain ⟨r,ro,gr⟩:=hg
 obtain ⟨ta,pa,ga⟩:=ha
 obtain ⟨tb,pb,gb⟩:=hb
 refine ⟨_,pe_ix ro pa pb hs,λz R σ H W ρ Q Q' s hw k=>?_⟩
 refine two ga gb hc s hw λx y H2 W2 d1 d2 ρ2 F1 F2 s2 f2 c2 r1 r2 o1 _ _ q2=>?_
 exact gr H2 d1 d2 x y F1 F2 _ Q' r1 r2 q2 λv d F rd sub hk=>k v H2 W2 d ρ2 F ⟨s2,f2,c2,rd,λh=>⟨(o1 h).1.sublist sub,λa m=>(o1 h).2 a (sub.subset m)⟩⟩ hk
def inD:D->List D->Option Bool
 | .int i,[]=>some false
 | .int i,.int j::r=>(inD (.int i) r).map λb=>(j == i) || b
 | .str i,[]=>some false
 | .str i,.str j::r=>(inD (.str i) r).map λb=>(j == i) || b
 | _,_=>none
def dIn (neg:Bool):G2
 | .int i,.dik kvs,k=>k (.bl (xor neg (valD kvs (.inl i)).isSome))
 | .str i,.dik kvs,k=>k (.bl (xor neg (valD kvs (.inr i)).isSome))
 | .tup l,.dit kvs,k=>oget (keysOf l) λks=>k (.bl (xor neg (valD kvs ks).isSome))
 | .int i,.lst xs,k=>oget (inD (.int i) xs) λb=>k (.bl (xor neg b))
 | .int i,.tup xs,k=>oget (inD (.int i) xs) λb=>k (.bl (xor neg b))
 | .str i,.lst xs,k=>oget (inD (.str i) xs) λb=>k (.bl (xor neg b))
 | .str i,.tup xs,k=>oget (inD (.str i) xs) λb=>k (.bl (xor neg b))
 | .str i,.str j,k=>k (.bl (xor neg (!(Builtin.Str.occurrences j i 0 j.length 1).isEmpty)))
 | _,_,_=>False
theorem inD_int {K:PySem.W.Frag} {H:Hp} {i:Int}:∀{ds:List D} {xs:List V} {F:List Addr} {b:Bool},Reps K H ds xs F->inD (.int i) ds=some b->xs.all flatV=true/\inV (.int i) xs=b
 | [],_,_,_,r,h=>by
  cases r
  simp only [inD,Option.some.injEq] at h
  subst h
  exact ⟨rfl,rfl⟩
 | d::ds,_,_,_,r,h=>by
  cases r with
  | cons p r =>
   cases d with
   | int j =>
    simp only [inD,Option.map_eq_some_iff] at h
    obtain ⟨b',h1,rfl⟩:=h
    cases p
    obtain ⟨e1,e2⟩:=inD_int r h1
    refine ⟨by rw [List.all_cons,e1];rfl,?_⟩
    unfold inV at e2 ⊢
    rw [List.any_cons,e2]
    rfl
   | _=>simp [inD] at h
theorem inD_str {K:PySem.W.Frag} {H:Hp} {i:Str}:∀{ds:List D} {xs:List V} {F:List Addr} {b:Bool},Reps K H ds xs F->inD (.str i) ds=some b->xs.all flatV=true/\inV (.str i) xs=b
 | [],_,_,_,r,h=>by
  cases r
  simp only [inD,Option.some.injEq] at h
  subst h
  exact ⟨rfl,rfl⟩
 | d::ds,_,_,_,r,h=>by
  cases r with
  | cons p r =>
   cases d with
   | str j =>
    simp only [inD,Option.map_eq_some_iff] at h
    obtain ⟨b',h1,rfl⟩:=h
    cases p
    obtain ⟨e1,e2⟩:=inD_str r h1
    refine ⟨by rw [List.all_cons,e1];rfl,?_⟩
    unfold inV at e2 ⊢
    rw [List.any_cons,e2]
    rfl
   | _=>simp [inD] at h
theorem op_dict (neg:Bool) (hu:X.A.units+1<cLine):OpR X (compareOp (if neg then .NotIn else .In)) (λy x H Q=>∃a o,x=.ref a/\DGet H a y o/\Q (.bl (xor neg o.isSome)) H):=by
 intro pins s σ H y x u v Q I ry rx h
 obtain ⟨a,ov,rfl,g,q⟩:=h
 cases rx
 cases neg with
 | false=>exact d_in hu I g ry λs3 I3=>⟨.bl ov.isSome,H,I3,rfl,by simpa using q⟩
 | true=>exact d_notIn hu I g ry λs3 I3=>⟨.bl (!ov.isSome),H,I3,rfl,by simpa using q⟩
theorem op_inseq (neg:Bool):OpR X (compareOp (if neg then .NotIn else .In)) (rIn X.K neg):=by
 cases neg with
 | false=>exact op_in_seq
 | true=>exact op_notIn_seq
theorem op_instr (neg:Bool):OpR X (compareOp (if neg then .NotIn else .In)) (λx y H Q=>∃i j,x=.str i/\y=.str j/\Q (.bl (xor neg (!(Builtin.Str.occurrences j i 0 j.length 1).isEmpty))) H):=by
 cases neg with
 | false=>simpa using op_in_str (X:=X)
 | true=>simpa using op_notIn_str (X:=X)
theorem repk_dget {H:Hp} {a:Addr} {kvs:List (Key × V)} {ds:List (Key × D)} {F:List Addr} {k:Key} (e:H a=some (.dK kvs)) (r:RepK X.K H ds kvs F):∃o,DGet H a (kV k) o/\o.isSome=(valD ds k).isSome:=by
 refine ⟨_,DGet.k (k:=k) e,?_⟩
 rcases r.val k with ⟨h1,h2⟩ | ⟨d,v,B,h1,h2,_⟩ <;> simp [h1,h2]
theorem dIn_inv {neg:Bool} {a b:D} {k:D->Prop} (g:dIn neg a b k):(∃i z,a=.int i/\b=.tup z)\/(∃i z,a=.int i/\b=.lst z)\/(∃i z,a=.int i/\b=.dik z)\/(∃i z,a=.str i/\b=.str z)\/(∃i z,a=.str i/\b=.tup z)\/(∃i z,a=.str i/\b=.lst z)\/(∃i z,a=.str i/\b=.dik z)\/∃i z,a=.tup i/\b=.dit z:=by
 cases a with
 | int i=>cases b with
  | tup z=>exact .inl ⟨i,z,rfl,rfl⟩
  | lst z=>exact .inr (.inl ⟨i,z,rfl,rfl⟩)
  | dik z=>exact .inr (.inr (.inl ⟨i,z,rfl,rfl⟩))
  | _=>exact (show False from g).elim
 | str i=>cases b with
  | str z=>exact .inr (.inr (.inr (.inl ⟨i,z,rfl,rfl⟩)))
  | tup z=>exact .inr (.inr (.inr (.inr (.inl ⟨i,z,rfl,rfl⟩))))
  | lst z=>exact .inr (.inr (.inr (.inr (.inr (.inl ⟨i,z,rfl,rfl⟩)))))
  | dik z=>exact .inr (.inr (.inr (.inr (.inr (.inr (.inl ⟨i,z,rfl,rfl⟩))))))
  | _=>exact (show False from g).elim
 | tup i=>cases b with
  | dit z=>exact .inr (.inr (.inr (.inr (.inr (.inr (.inr ⟨i,z,rfl,rfl⟩))))))
  | _=>exact (show False from g).elim
 | _=>exact (show False from g).elim
theorem od_in' (neg:Bool) (hu:X.A.units+1<cLine):OpD X (compareOp (if neg then .NotIn else .In)) (dIn neg):=by
 refine ⟨_,OpR.or (op_dict neg hu) (OpR.or (op_inseq neg) (op_instr neg)),λH a b x y F1 F2 k Q ra rb g q=>?_⟩
 have seqI:∀{i:Int} {p:Addr} {ds:List D} {xs:List V} {F:List Addr},x=.int i->y=.ref p->Reps X.K H ds xs F->(SqL X.K H p xs\/SqT X.K H p xs)->oget (inD (.int i) ds) (λb=>k (.bl (xor neg b)))->rIn X.K neg x y H Q:=λ{i p ds xs F} ex ey r hs g=>by
  subst ex ey
  obtain ⟨b,h,g⟩:=oget_some g
  obtain ⟨e1,e2⟩:=inD_int r h
  refine ⟨p,xs,rfl,hs,rfl,e1,?_⟩
  rw [e2]
  have:=q _ _ _ _ (.flat (.bl _)) g
  cases neg <;> simpa using this
 have seqS:∀{i:Str} {p:Addr} {ds:List D} {xs:List V} {F:List Addr},x=.str i->y=.ref p->Reps X.K H ds xs F->(SqL X.K H p xs\/SqT X.K H p xs)->oget (inD (.str i) ds) (λb=>k (.bl (xor neg b)))->rIn X.K neg x y H Q:=λ{i p ds xs F} ex ey r hs g=>by
  subst ex ey
  obtain ⟨b,h,g⟩:=oget_some g
  obtain ⟨e1,e2⟩:=inD_str r h
  refine ⟨p,xs,rfl,hs,rfl,e1,?_⟩
  rw [e2]
  have:=q _ _ _ _ (.flat (.bl _)) g
  cases neg <;> simpa using this
 rcases dIn_inv g with ⟨i,z,rfl,rfl⟩ | ⟨i,z,rfl,rfl⟩ | ⟨i,ds,rfl,rfl⟩ | ⟨i,z,rfl,rfl⟩ | ⟨i,z,rfl,rfl⟩ | ⟨i,z,rfl,rfl⟩ | ⟨i,ds,rfl,rfl⟩ | ⟨l,ds,rfl,rfl⟩
 ·obtain ⟨p,xs,ey,e,r⟩:=rb.iTup
  exact .inr (.inl (seqI ra.iInt ey r (.inr (.of e)) g))
 ·obtain ⟨p,xs,G,ey,_,e,r⟩:=rb.iLst
  exact .inr (.inl (seqI ra.iInt ey r (.inl (.of e)) g))
 ·obtain ⟨a,kvs,G,rfl,_,e,r⟩:=rb.iDik
  obtain rfl:=ra.iInt
  obtain ⟨o,h1,h2⟩:=repk_dget (k:=.inl i) e r
  refine .inl ⟨a,o,rfl,h1,?_⟩
  rw [h2]
  exact q _ _ _ _ (.flat (.bl _)) g
 ·exact .inr (.inr ⟨_,_,ra.iStr,rb.iStr,q _ _ _ _ (.flat (.bl _)) g⟩)
 ·obtain ⟨p,xs,ey,e,r⟩:=rb.iTup
  exact .inr (.inl (seqS ra.iStr ey r (.inr (.of e)) g))
 ·obtain ⟨p,xs,G,ey,_,e,r⟩:=rb.iLst
  exact .inr (.inl (seqS ra.iStr ey r (.inl (.of e)) g))
 ·obtain ⟨a,kvs,G,rfl,_,e,r⟩:=rb.iDik
  obtain rfl:=ra.iStr
  obtain ⟨o,h1,h2⟩:=repk_dget (k:=.inr i) e r
  refine .inl ⟨a,o,rfl,h1,?_⟩
  rw [h2]
  exact q _ _ _ _ (.flat (.bl _)) g
 ·obtain ⟨b,xs,rfl,e2,r2⟩:=ra.iTup
  obtain ⟨a,kvs,G,rfl,_,e,r⟩:=rb.iDit
  obtain ⟨ks,hk,g⟩:=oget_some g
  have hx:=r2.keys hk
  subst hx
  refine .inl ⟨a,valV kvs ks,rfl,DGet.t (k:=ks) e e2,?_⟩
  have h2:(valV kvs ks).isSome=(valD ds ks).isSome:=by
   rcases r.val ks with ⟨h1,h2⟩ | ⟨d,v,B,h1,h2,_⟩ <;> simp [h1,h2]
  rw [h2]
  exact q _ _ _ _ (.flat (.bl _)) g
theorem od_in (hu:X.A.units+1<cLine):OpD X (compareOp .In) (dIn false):=od_in' false hu
theorem od_nin (hu:X.A.units+1<cLine):OpD X (compareOp .NotIn) (dIn true):=od_in' true hu
abbrev WA:=Env->(List D->Env->Prop)->Prop
structure PostA (K:PySem.W.Frag) (T:Tg) (z:Nat->V) (R:Addr->Prop) (m o:Bool) (H:Hp) (W:Addr->Prop) (σ:St) (ρ:Env) (H':Hp) (W':Addr->Prop) (ρ':Env) (ds:List D) (vs:List V) (F:List Addr):Prop where
 sr:SR K T z R H' W' σ ρ'
 fr:FrW H W H' W'
 calm:m=false->Same H H'/\W'=W/\ρ'=ρ
 rep:Reps K H' ds vs F
 own:o=true->F.Nodup/\∀a∈F,H a=none/\¬W' a
def AV (X:Cx) (T:Tg) (m o:Bool) (es:List Expr) (w:WA):Prop :=
 ∃ta,PA X es ta/\∀(z:Nat->V) (R:Addr->Prop) (σ:St) (H:Hp) (W:Addr->Prop) (ρ:Env) (Q:List D->Env->Prop) (Q':List V->Hp->Prop),SR X.K T z R H W σ ρ->w ρ Q ->
  (∀vs H' W' ds ρ' F,PostA X.K T z R m o H W σ ρ H' W' ρ' ds vs F->Q ds ρ'->Q' vs H')->ta σ H Q'
variable {es:List Expr} {wr:WA}
def wNil:WA:=λρ Q=>Q [] ρ
def wCons (w:WE) (wr:WA):WA:=λρ Q=>w ρ λd ρ1=>wr ρ1 λds ρ2=>Q (d::ds) ρ2
theorem av_nil:AV X T false true [] wNil:=⟨_,pa_nil,λz R σ H W ρ Q Q' s hw k=>k [] H W [] ρ [] ⟨s,FrW.refl H W,λ_=>⟨Same.refl H,rfl,rfl⟩,.nil,λ_=>⟨List.nodup_nil,λa m=>nomatch m⟩⟩ hw⟩
theorem av_cons (he:EV X T m1 o1 e w) (hr:AV X T m2 o2 es wr) (hc:o1=true\/m2=false:=by first | exact .inl rfl | exact .inr rfl) (hs:starEach (e::es) X.env=(false,eval e X.env)::starEach es X.env:=by rfl) :
  AV X T (m1 || m2) (o1 && o2) (e::es) (wCons w wr):=by
 obtain ⟨te,pe,ge⟩:=he
 obtain ⟨ta,pa,ga⟩:=hr
 refine ⟨_,pa_cons pe pa hs,λz R σ H W ρ Q Q' s hw k=>?_⟩
 refine ge z R σ H W ρ _ _ s hw λv1 H1 W1 d1 ρ1 F1 p q1=>?_
 refine ga z R σ H1 W1 ρ1 _ _ p.sr q1 λvs H2 W2 ds ρ2 F2 q q2=>?_
 have r1:Rep X.K H2 d1 v1 F1:=by
  rcases hc with hc | hc
  ·exact p.rep.keep q.fr λa h=>((p.own hc).2 a h).2
  ·exact p.rep.same (q.calm hc).1
 refine k (v1::vs) H2 W2 (d1::ds) ρ2 (F1++F2) ⟨q.sr,p.fr.trans q.fr,λh=>?_,.cons r1 q.rep,λh=>?_⟩ q2
 ·rw [Bool.or_eq_false_iff] at h
  obtain ⟨a1,a2,a3⟩:=p.calm h.1
  obtain ⟨b1,b2,b3⟩:=q.calm h.2
  exact ⟨a1.trans b1,b2.trans a2,b3.trans a3⟩
 ·rw [Bool.and_eq_true] at h
  obtain ⟨n1,k1⟩:=p.own h.1
  obtain ⟨n2,k2⟩:=q.own h.2
  refine ⟨List.nodup_append.mpr ⟨n1,n2,λa ma b mb e=>?_⟩,λa ma=>?_⟩
  ·subst e
   obtain ⟨ob,e,_⟩:=p.rep.dom a ma
   rw [(k2 a mb).1] at e;cases e
  ·rcases List.mem_append.mp ma with ma | ma
   ·refine ⟨(k1 a ma).1,λw=>?_⟩
    rcases q.fr.new a w with w | w
    ·exact (k1 a ma).2 w
    ·obtain ⟨ob,e,_⟩:=p.rep.dom a ma
     rw [w] at e;cases e
   ·exact ⟨p.fr.dom a (k2 a ma).1,(k2 a ma).2⟩
def wTup (wr:WA):WE:=λρ Q=>wr ρ λds ρ'=>ds.length<=sizeLine/\Q (.tup ds) ρ'
def wLst (wr:WA):WE:=λρ Q=>wr ρ λds ρ'=>ds.length<=sizeLine/\Q (.lst ds) ρ'
theorem ev_tup {x1} (h:AV X T m o es wr):EV X T m o (.Tuple es x1 pos) (wTup wr):=by
 obtain ⟨ta,pa,ga⟩:=h
 refine ⟨_,pe_tup pa,λz R σ H W ρ Q Q' s hw k=>?_⟩
 refine ga z R σ H W ρ _ _ s hw λvs H1 W1 ds ρ1 F p q=>?_
 obtain ⟨hz,q⟩:=q
 refine ⟨by rw [p.rep.length];exact hz,λa ha=>k _ _ W1 (.tup ds) ρ1 F ⟨p.sr.same (same_upd ha),p.fr.trans (FrW.same W1 (same_upd ha)),λh=>⟨(p.calm h).1.trans (same_upd ha),(p.calm h).2⟩,.tup upd_same (p.rep.same (same_upd ha)),p.own⟩ q⟩
theorem ev_lst (h:AV X T m o es wr):EV X T m o (.List es pos) (wLst wr):=by
 obtain ⟨ta,pa,ga⟩:=h
 refine ⟨_,pe_lst pa,λz R σ H W ρ Q Q' s hw k=>?_⟩
 refine ga z R σ H W ρ _ _ s hw λvs H1 W1 ds ρ1 F p q=>?_
 obtain ⟨hz,q⟩:=q
 refine ⟨by rw [p.rep.length];exact hz,λa ha=>k _ _ W1 (.lst ds) ρ1 (a::F) ⟨p.sr.same (same_upd ha),p.fr.trans (FrW.same W1 (same_upd ha)),λh=>⟨(p.calm h).1.trans (same_upd ha),(p.calm h).2⟩,.lst upd_same (p.rep.same (same_upd ha)),λh=>?_⟩ q⟩
 obtain ⟨n1,k1⟩:=p.own h
 refine ⟨List.nodup_cons.mpr ⟨λm=>?_,n1⟩,λb mb=>?_⟩
 ·obtain ⟨ob,e,_⟩:=p.rep.dom a m
  rw [ha] at e;cases e
 ·rcases List.mem_cons.mp mb with rfl | mb
  ·exact ⟨p.fr.dom _ ha,p.sr.nw ha⟩
  ·exact k1 b mb
theorem ev_dnewK:EV X T false true (.Dict [] [] pos) (wC (.dik [])) :=
 ⟨_,pe_dnewK,λz R σ H W ρ Q Q' s hw k a ha=>k _ _ W (.dik []) ρ [a] (Post.fin s (FrW.refl H W) (λ_=>⟨Same.refl H,rfl,rfl⟩) (same_upd ha) (.dik upd_same .nil) (by simp) (λb m=>by rw [List.mem_singleton.mp m];exact ha)) hw⟩
theorem ev_dnewT:EV X T false true (.Dict [] [] pos) (wC (.dit [])) :=
 ⟨_,pe_dnewT,λz R σ H W ρ Q Q' s hw k a ha=>k _ _ W (.dit []) ρ [a] (Post.fin s (FrW.refl H W) (λ_=>⟨Same.refl H,rfl,rfl⟩) (same_upd ha) (.dit upd_same .nil) (by simp) (λb m=>by rw [List.mem_singleton.mp m];exact ha)) hw⟩
abbrev GA:=List D->(D->Prop)->Prop
def CallD (X:Cx) (f:Value) (g:GA):Prop :=
 ∃r,CallR X f r/\∀(H:Hp) (ds:List D) (xs:List V) (F:List Addr) (k:D->Prop) (Q:VK),Reps X.K H ds xs F->g ds k->(∀v H' d F',Fin X.K H H' d v F'->k d->Q v H')->r xs H Q
def wCall (g:GA) (wr:WA):WE:=λρ Q=>wr ρ λds ρ'=>g ds λd=>Q d ρ'
variable {x:Str} {id T':String} {p:Pos}
theorem call_fin {g:GA} {r:List V->Hp->VK->Prop} (gr:∀(H:Hp) (ds:List D) (xs:List V) (F:List Addr) (k:D->Prop) (Q:VK),Reps X.K H ds xs F->g ds k->(∀v H' d F',Fin X.K H H' d v F'->k d->Q v H')->r xs H Q)
  {ta:TA} (ga:∀(z:Nat->V) (R:Addr->Prop) (σ:St) (H:Hp) (W:Addr->Prop) (ρ:Env) (Q:List D->Env->Prop) (Q':List V->Hp->Prop),SR X.K T z R H W σ ρ->wr ρ Q ->
   (∀vs H' W' ds ρ' F,PostA X.K T z R m o H W σ ρ H' W' ρ' ds vs F->Q ds ρ'->Q' vs H')->ta σ H Q')
  {z:Nat->V} {R:Addr->Prop} {σ:St} {H:Hp} {W:Addr->Prop} {ρ:Env} {Q:D->Env->Prop} {Q':VK} (s:SR X.K T z R H W σ ρ) (hw:wCall g wr ρ Q)
  (k:∀v H' W' d ρ' F,Post X.K T z R m true H W σ ρ H' W' ρ' d v F->Q d ρ'->Q' v H'):ta σ H λvs H1=>r vs H1 Q':=by
 refine ga z R σ H W ρ _ _ s hw λvs H1 W1 ds ρ1 F p q=>?_
 exact gr H1 ds vs F _ Q' p.rep q λv H' d F' fi hk=>k v H' W1 d ρ1 F' (Post.fin p.sr p.fr p.calm fi.same fi.rep fi.nd fi.new) hk
theorem ev_callB {g:GA} (hc:CallD X (.builtin id) g) (hm:X.mg x=none) (hv:bootBuiltins x=some (.builtin id)) (ha:AV X T m o (e::es) wr) (hg:Gl X x:=by rfl) (hn:x ≠ "__name__":=by decide) (hdb:(x == ("__debug__" : Str))=false:=by decide)
  (he:starEach (e::es) X.env=(false,eval e X.env)::starEach es X.env:=by rfl) (hpl:(backTo pos (starEach es X.env)).any (·.1)=false:=by rfl):EV X T m true (.Call (.Name x p) (e::es) [] pos) (wCall g wr):=by
 obtain ⟨r,rc,gr⟩:=hc
 obtain ⟨ta,pa,ga⟩:=ha
 exact ⟨_,pe_callB rc hg hm hv pa hn hdb he hpl,λz R σ H W ρ Q Q' s hw k=>call_fin gr ga s hw k⟩
theorem ev_callTy {g:GA} (hc:CallD X (.type T') g) (hm:X.mg x=none) (hv:bootBuiltins x=some (.type T')) (ha:AV X T m o (e::es) wr) (hg:Gl X x:=by rfl) (hn:x ≠ "__name__":=by decide) (hdb:(x == ("__debug__" : Str))=false:=by decide)
  (he:starEach (e::es) X.env=(false,eval e X.env)::starEach es X.env:=by rfl) (hpl:(backTo pos (starEach es X.env)).any (·.1)=false:=by rfl):EV X T m true (.Call (.Name x p) (e::es) [] pos) (wCall g wr):=by
 obtain ⟨r,rc,gr⟩:=hc
 obtain ⟨ta,pa,ga⟩:=ha
 exact ⟨_,pe_callTy rc hg hm hv pa hn hdb he hpl,λz R σ H W ρ Q Q' s hw k=>call_fin gr ga s hw k⟩
theorem ev_ty (t:Ty) (hm:X.mg x=none) (hv:bootBuiltins x=some (.type t.nm)) (hg:Gl X x:=by rfl) (hn:x ≠ "__name__":=by decide) (hdb:(x == ("__debug__" : Str))=false:=by decide):EV X T false true (.Name x pos) (wC (.ty t)) :=
 ev_const (pe_bltn hg hm hv (v:=.ty t.nm) rfl hn hdb) λ_=>.ty t
theorem Reps.at1 {K:PySem.W.Frag} {H:Hp} {d:D} {xs:List V} {F:List Addr} (r:Reps K H [d] xs F):∃v,xs=[v]/\Rep K H d v F:=by
 cases r with
 | cons h r=>cases r;rw [List.append_nil];exact ⟨_,rfl,h⟩
theorem Reps.at2 {K:PySem.W.Frag} {H:Hp} {d e:D} {xs:List V} {F:List Addr} (r:Reps K H [d,e] xs F):∃v u F1 F2,xs=[v,u]/\Rep K H d v F1/\Rep K H e u F2:=by
 cases r with
 | cons h r =>
  obtain ⟨u,rfl,h2⟩:=r.at1
  exact ⟨_,_,_,_,rfl,h,h2⟩
def dLen:GA
 | [.lst xs],k=>k (.int xs.length)
 | [.tup xs],k=>k (.int xs.length)
 | [.kls xs],k=>k (.int xs.length)
 | [.dik xs],k=>k (.int xs.length)
 | [.str z],k=>z.length<=sizeLine/\k (.int z.length)
 | _,_=>False
theorem cd_len:CallD X (.builtin "len") dLen:=by
 refine ⟨_,CallR.or call_len call_lenD,λH ds xs F k Q r g q=>?_⟩
 cases ds with
 | nil=>exact (show False from g).elim
 | cons d ds =>
  cases ds with
  | cons _ _=>cases d <;> exact (show False from g).elim
  | nil =>
   cases d with
   | lst es =>
    obtain ⟨v,rfl,rd⟩:=r.at1
    clear r
    cases rd with
    | lst e r9=>exact .inl ⟨_,_,rfl,.inl ⟨_,.of e,rfl⟩,by rw [r9.length];exact q _ _ _ _ (.flat (.int _)) g⟩
   | tup es =>
    obtain ⟨v,rfl,rd⟩:=r.at1
    clear r
    cases rd with
    | tup e r9=>exact .inl ⟨_,_,rfl,.inr ⟨_,.of e,rfl⟩,by rw [r9.length];exact q _ _ _ _ (.flat (.int _)) g⟩
   | kls es =>
    obtain ⟨v,rfl,rd⟩:=r.at1
    clear r
    cases rd with
    | kls e r9=>exact .inl ⟨_,_,rfl,.inl ⟨_,e.sq,rfl⟩,by rw [r9.length];exact q _ _ _ _ (.flat (.int _)) g⟩
   | dik es =>
    obtain ⟨v,rfl,rd⟩:=r.at1
    clear r
    cases rd with
    | dik e r9=>exact .inr ⟨_,_,rfl,e,by rw [r9.length];exact q _ _ _ _ (.flat (.int _)) g⟩
   | str es =>
    obtain ⟨v,rfl,rd⟩:=r.at1
    clear r
    cases rd
    exact .inl ⟨_,_,rfl,⟨g.1,rfl⟩,q _ _ _ _ (.flat (.int _)) g.2⟩
   | _=>exact (show False from g).elim
def dInt:GA
 | [.int i],k=>k (.int i)
 | [.bl b],k=>k (.int (if b then 1 else 0))
 | _,_=>False
theorem cd_int:CallD X (.type "int") dInt:=by
 refine ⟨_,call_int1,λH ds xs F k Q r g q=>?_⟩
 cases ds with
 | nil=>exact (show False from g).elim
 | cons d ds =>
  cases ds with
  | cons _ _=>cases d <;> exact (show False from g).elim
  | nil =>
   cases d with
   | int i =>
    obtain ⟨v,rfl,rd⟩:=r.at1
    cases rd
    exact .inl ⟨_,rfl,q _ _ _ _ (.flat (.int _)) g⟩
   | bl i =>
    obtain ⟨v,rfl,rd⟩:=r.at1
    cases rd
    exact .inr ⟨_,rfl,q _ _ _ _ (.flat (.int _)) g⟩
   | _=>exact (show False from g).elim
def dMin2:GA
 | [.int i,.int j],k=>k (.int (if j<i then j else i))
 | _,_=>False
theorem cd_min2 (hc:X.calm=true):CallD X (.builtin "min") dMin2:=by
 refine ⟨_,call_min2 hc,λH ds xs F k Q r g q=>?_⟩
 cases ds with
 | nil=>exact (show False from g).elim
 | cons d ds =>
  cases ds with
  | nil=>cases d <;> exact (show False from g).elim
  | cons d2 ds =>
   cases d with
   | int i =>
    cases d2 with
    | int j =>
     cases ds with
     | nil =>
      obtain ⟨v,u,F1,F2,rfl,r1,r2⟩:=r.at2
      cases r1;cases r2
      exact ⟨_,_,rfl,q _ _ _ _ (.flat (.int _)) g⟩
     | cons _ _=>exact (show False from g).elim
    | _=>exact (show False from g).elim
   | _=>exact (show False from g).elim
def dList:GA
 | [.lst xs],k=>pureL xs=true/\k (.lst xs)
 | [.tup xs],k=>pureL xs=true/\k (.lst xs)
 | [.kls xs],k=>pureL xs=true/\k (.lst xs)
 | _,_=>False
theorem cd_list:CallD X (.type "list") dList:=by
 refine ⟨_,call_list_of,λH ds xs F k Q r g q=>?_⟩
 cases ds with
 | nil=>exact (show False from g).elim
 | cons d ds =>
  cases ds with
  | cons _ _=>cases d <;> exact (show False from g).elim
  | nil =>
   cases d with
   | lst es =>
    obtain ⟨v,rfl,rd⟩:=r.at1
    clear r
    cases rd with
    | lst e r9=>exact ⟨_,_,rfl,.inl (.of e),λl hl=>q _ _ _ [l] ⟨same_upd hl,.lst upd_same ((r9.pure g.1).2.same (same_upd hl)),by simp,λb m=>by rw [List.mem_singleton.mp m];exact hl⟩ g.2⟩
   | tup es =>
    obtain ⟨v,rfl,rd⟩:=r.at1
    clear r
    cases rd with
    | tup e r9=>exact ⟨_,_,rfl,.inr (.of e),λl hl=>q _ _ _ [l] ⟨same_upd hl,.lst upd_same ((r9.pure g.1).2.same (same_upd hl)),by simp,λb m=>by rw [List.mem_singleton.mp m];exact hl⟩ g.2⟩
   | kls es =>
    obtain ⟨v,rfl,rd⟩:=r.at1
    clear r
    cases rd with
    | kls e r9=>exact ⟨_,_,rfl,.inl e.sq,λl hl=>q _ _ _ [l] ⟨same_upd hl,.lst upd_same ((r9.pure g.1).2.same (same_upd hl)),by simp,λb m=>by rw [List.mem_singleton.mp m];exact hl⟩ g.2⟩
   | _=>exact (show False from g).elim
def dTuple:GA
 | [.lst xs],k=>pureL xs=true/\k (.tup xs)
 | [.tup xs],k=>pureL xs=true/\k (.tup xs)
 | [.kls xs],k=>pureL xs=true/\k (.tup xs)
 | _,_=>False
theorem cd_tuple:CallD X (.type "tuple") dTuple:=by
 refine ⟨_,call_tuple_of,λH ds xs F k Q r g q=>?_⟩
 cases ds with
 | nil=>exact (show False from g).elim
 | cons d ds =>
  cases ds with
  | cons _ _=>cases d <;> exact (show False from g).elim
  | nil =>
   cases d with
   | lst es =>
    obtain ⟨v,rfl,rd⟩:=r.at1
    clear r
    cases rd with
    | lst e r9=>exact ⟨_,_,rfl,.inl ⟨.of e,λl hl=>q _ _ _ [] ⟨same_upd hl,.tup upd_same ((r9.pure g.1).2.same (same_upd hl)),by simp,λb m=>nomatch m⟩ g.2⟩⟩
   | tup es =>
    obtain ⟨v,rfl,rd⟩:=r.at1
    clear r
    cases rd with
    | tup e r9=>exact ⟨_,_,rfl,.inr ⟨.of e,q _ _ _ _ (.flat (.tup e (r9.pure g.1).2)) g.2⟩⟩
   | kls es =>
    obtain ⟨v,rfl,rd⟩:=r.at1
    clear r
    cases rd with
    | kls e r9=>exact ⟨_,_,rfl,.inl ⟨e.sq,λl hl=>q _ _ _ [] ⟨same_upd hl,.tup upd_same ((r9.pure g.1).2.same (same_upd hl)),by simp,λb m=>nomatch m⟩ g.2⟩⟩
   | _=>exact (show False from g).elim
end
end PV
namespace PV
open PySem PySem.Spec L2
section
variable {X:Cx} {T:Tg} {m o m1 m2 m3 o1 o2:Bool} {e a b:Expr} {w wa wb:WE} {pos p2 p:Pos} {es:List Expr} {wr:WA} {x:Str}
def isiD:D->Ty->Option Bool
 | .non,_=>some false
 | .bl _,t=>some (t == .bool || t == .int)
 | .int _,t=>some (t == .int)
 | .str _,t=>some (t == .str)
 | .tup _,t=>some (t == .tuple)
 | .lst _,t=>some (t == .list)
 | .dik _,t=>some (t == .dict)
 | .dit _,t=>some (t == .dict)
 | .kls _,_=>none
 | .ty _,_=>none
 | .fdk _,_=>none
 | .ftp _,_=>none
 | .fls _,t=>some (t == .list)
 | .fdt _,_=>none
 | .obj _ _,_=>none
 | .clo _ _,_=>none
def dIsi:GA
 | [d,.ty t],k=>oget (isiD d t) λb=>k (.bl b)
 | _,_=>False
theorem kit_nn {K:PySem.W.Frag} (t:Ty):PySem.W.kitOne K (.type "NoneType") (.type t.nm)=some false:=by
 cases t <;> (unfold PySem.W.kitOne;rw [if_neg (by decide)];rfl)
theorem kit_bb {K:PySem.W.Frag} (t:Ty):PySem.W.kitOne K (.type "bool") (.type t.nm)=some (t == .bool || t == .int):=by
 cases t <;> first | (unfold PySem.W.kitOne;rw [if_pos (by decide)];rfl) | (unfold PySem.W.kitOne;rw [if_neg (by decide)];rfl)
theorem kit_ii {K:PySem.W.Frag} (t:Ty):PySem.W.kitOne K (.type "int") (.type t.nm)=some (t == .int):=by
 cases t <;> first | (unfold PySem.W.kitOne;rw [if_pos (by decide)];rfl) | (unfold PySem.W.kitOne;rw [if_neg (by decide)];rfl)
theorem kit_ss {K:PySem.W.Frag} (t:Ty):PySem.W.kitOne K (.type "str") (.type t.nm)=some (t == .str):=by
 cases t <;> first | (unfold PySem.W.kitOne;rw [if_pos (by decide)];rfl) | (unfold PySem.W.kitOne;rw [if_neg (by decide)];rfl)
theorem kit_tt {K:PySem.W.Frag} (t:Ty):PySem.W.kitOne K (.type "tuple") (.type t.nm)=some (t == .tuple):=by
 cases t <;> first | (unfold PySem.W.kitOne;rw [if_pos (by decide)];rfl) | (unfold PySem.W.kitOne;rw [if_neg (by decide)];rfl)
theorem kit_ll {K:PySem.W.Frag} (t:Ty):PySem.W.kitOne K (.type "list") (.type t.nm)=some (t == .list):=by
 cases t <;> first | (unfold PySem.W.kitOne;rw [if_pos (by decide)];rfl) | (unfold PySem.W.kitOne;rw [if_neg (by decide)];rfl)
theorem kit_dd {K:PySem.W.Frag} (t:Ty):PySem.W.kitOne K (.type "dict") (.type t.nm)=some (t == .dict):=by
 cases t <;> first | (unfold PySem.W.kitOne;rw [if_pos (by decide)];rfl) | (unfold PySem.W.kitOne;rw [if_neg (by decide)];rfl)
theorem cd_isi:CallD X (.builtin "isinstance") dIsi:=by
 refine ⟨_,call_isinst,λH ds xs F k Q r g q=>?_⟩
 match ds,r,g with
 | [d,.ty t],r,g =>
  obtain ⟨v,u,F1,F2,rfl,r1,r2⟩:=r.at2
  obtain ⟨b,hb,g⟩:=oget_some g
  cases r2
  have fin:=q _ _ _ _ (.flat (.bl b)) g
  cases r1 with
  | non=>exact ⟨_,_,_,_,rfl,.non,kit_nn t,by cases hb;exact fin⟩
  | bl c=>exact ⟨_,_,_,_,rfl,.bl c,kit_bb t,by cases hb;exact fin⟩
  | int c=>exact ⟨_,_,_,_,rfl,.int c,kit_ii t,by cases hb;exact fin⟩
  | str c=>exact ⟨_,_,_,_,rfl,.str c,kit_ss t,by cases hb;exact fin⟩
  | tup e _=>exact ⟨_,_,_,_,rfl,.tup e,kit_tt t,by cases hb;exact fin⟩
  | lst e _=>exact ⟨_,_,_,_,rfl,.lst e,kit_ll t,by cases hb;exact fin⟩
  | dik e _=>exact ⟨_,_,_,_,rfl,.dK e,kit_dd t,by cases hb;exact fin⟩
  | dit e _=>exact ⟨_,_,_,_,rfl,.dT e,kit_dd t,by cases hb;exact fin⟩
  | kls _ _=>cases hb
  | ty _=>cases hb
  | fdk _ _=>cases hb
  | ftp _ _ _=>cases hb
  | fls e _=>exact ⟨_,_,_,_,rfl,.frz e,kit_ll t,by cases hb;exact fin⟩
  | fdt _ _=>cases hb
  | obj _ _ _=>cases hb
  | clo _ _=>cases hb
theorem SR0.write {K:PySem.W.Frag} {z:Nat->V} {R:Addr->Prop} {H H':Hp} {W:Addr->Prop} {σ:St} {ρ:Env} {fp:Nat->List Addr} {i:Nat} {d d':D} {v:V} {l:Addr} {F':List Addr} (s:SR0 K T z R H W σ ρ fp)
  (hl:look ρ i=some d) (ht:T.own i=true) (hv:σ[i]? = some (some v)) (hm:l∈fp i) (hk:∀b u,H b=some u->b≠l->H' b=some u) (hnew:∃ob,H' l=some ob/\imm ob=false) (r:Rep K H' d' v F') (nd:F'.Nodup)
  (sub:∀a∈F',a∈fp i\/(¬W a/\¬R a)):SR K T z R H' (λa=>W a\/a∈F') σ (ρ.set i (some d')):=by
 have hW:W l:=(s.own i d hl ht).2 l hm
 have hi:ImmK H H':=λb ob' e im=>by
  obtain ⟨ol,e1,e2⟩:=s.wd l hW
  have:b≠l:=λz=>by rw [z,e1] at e;cases e;rw [e2] at im;cases im
  exact hk b _ e this
 refine ⟨λj=>if j=i then F' else fp j,?_,?_,?_,?_,?_,?_,?_,?_,s.fix⟩
 ·rw [List.length_set];exact s.len
 ·intro a ha
  by_cases e:a=l
  ·subst e;exact hnew
  ·rcases ha with ha | ha
   ·exact (s.wd a ha).imp λob q=>⟨hk a ob q.1 e,q.2⟩
   ·exact r.dom a ha
 ·intro j e hj
  by_cases hji:j=i
  ·subst hji
   rw [look_set_same (look_lt hl)] at hj
   cases hj
   exact ⟨v,hv,by rw [if_pos rfl];exact r⟩
  ·rw [look_set_ne hji] at hj
   obtain ⟨u,h1,h2⟩:=s.at_ j e hj
   refine ⟨u,h1,?_⟩
   rw [if_neg hji]
   refine h2.frame hi λa ha=>?_
   obtain ⟨oa,e1,_⟩:=h2.dom a ha
   rw [e1]
   refine hk a _ e1 λz=>?_
   subst z
   cases hto:T.own j with
   | true=>exact s.dis i j d e hl hj ht hto (λz=>hji z.symm) _ hm ha
   | false=>exact s.wr _ hW (s.ro j e hj hto _ ha)
 ·intro j e hj hto
  by_cases hji:j=i
  ·subst hji;simp only [if_pos];exact ⟨nd,λa h=>.inr h⟩
  ·rw [look_set_ne hji] at hj
   simp only [if_neg hji]
   exact ⟨(s.own j e hj hto).1,λa h=>.inl ((s.own j e hj hto).2 a h)⟩
 ·intro j e hj hto
  have hji:j≠i:=λz=>by subst z;rw [ht] at hto;cases hto
  rw [look_set_ne hji] at hj
  simp only [if_neg hji]
  exact s.ro j e hj hto
 ·intro a ha hr
  rcases ha with ha | ha
  ·exact s.wr a ha hr
  ·rcases sub a ha with h | h
   ·exact s.wr a ((s.own i d hl ht).2 a h) hr
   ·exact h.2 hr
 ·intro a hr
  have:a≠l:=λz=>by subst z;exact s.wr _ hW hr
  exact (s.rd a hr).imp λob q=>⟨hk a ob q.1 this,q.2⟩
 ·intro j k e e' hj hk tj tk hne a ha ha'
  by_cases hji:j=i
  ·subst hji
   have hkj:k≠j:=λz=>hne z.symm
   rw [look_set_ne hkj] at hk
   simp only [if_pos,if_neg hkj] at ha ha'
   rcases sub a ha with h | h
   ·exact s.dis j k d e' hl hk ht tk hne a h ha'
   ·exact h.1 ((s.own k e' hk tk).2 a ha')
  ·rw [look_set_ne hji] at hj
   simp only [if_neg hji] at ha
   by_cases hki:k=i
   ·subst hki
    simp only [if_pos] at ha'
    rcases sub a ha' with h | h
    ·exact s.dis j k e d hj hl tj ht hne a ha h
    ·exact h.1 ((s.own j e hj tj).2 a ha)
   ·rw [look_set_ne hki] at hk
    simp only [if_neg hki] at ha'
    exact s.dis j k e e' hj hk tj tk hne a ha ha'
theorem FrW.write {H0 H H':Hp} {W0 W:Addr->Prop} {l:Addr} {F':List Addr} (f:FrW H0 W0 H W) (hl:W l) (hm:∃ol,H l=some ol/\PV.imm ol=false) (hk:∀b u,H b=some u->b≠l->H' b=some u) (hnew:∃ob,H' l=some ob/\PV.imm ob=false)
  (sub:∀a∈F',W a\/H0 a=none):FrW H0 W0 H' (λa=>W a\/a∈F') where
 keep:=λb ob' e n=>by
  have:b≠l:=λz=>by
   subst z
   rcases f.new _ hl with h | h
   ·exact n h
   ·rw [h] at e;cases e
  exact hk b _ (f.keep b ob' e n) this
 dom:=λb e=>by
  by_cases h:b=l
  ·subst h
   obtain ⟨ob,e1,_⟩:=hnew
   rw [e1] at e;cases e
  ·refine f.dom b ?_
   cases q:H b with
   | none=>rfl
   | some u=>rw [hk b u q h] at e;cases e
 imm:=λb ob' e im=>by
  have e':=f.imm b ob' e im
  obtain ⟨ol,e1,e2⟩:=hm
  have:b≠l:=λz=>by rw [z,e1] at e';cases e';rw [e2] at im;cases im
  exact hk b _ e' this
 new:=λb h=>by
  rcases h with h | h
  ·exact f.new b h
  ·rcases sub b h with h | h
   ·exact f.new b h
   ·exact .inr h
theorem upd_keep {H:Hp} {l:Addr} {ob:HO}:∀b u,H b=some u->b≠l->upd H l ob b=some u:=λb u e n=>by rw [upd_ne n];exact e
abbrev GM:=D->List D->(D->D->Prop)->Prop
def MtD (X:Cx) (id:String) (g:GM):Prop :=
 ∃r,MtR X id r/\∀(H:Hp) (d:D) (ds:List D) (v:V) (xs:List V) (F G:List Addr) (k:D->D->Prop) (Q:VK),Rep X.K H d v F->F.Nodup->Reps X.K H ds xs G->G.Nodup->(∀a∈G,a∉F)->g d ds k ->
  (∀u l ob e d' F',l∈F->imm ob=false->Rep X.K (upd H l ob) d' v F'->F'.Nodup->(∀a∈F',a∈F\/a∈G)->Rep X.K (upd H l ob) e u []->k e d'->Q u (upd H l ob))->r v xs H Q
def tyD:Option D->String->Bool
 | some (.lst _),t=>t == "list"
 | some (.dik _),t=>t == "dict"
 | some (.dit _),t=>t == "dict"
 | _,_=>false
theorem tyV_of {K:PySem.W.Frag} {H:Hp} {d:D} {v:V} {F:List Addr} {t:String} (r:Rep K H d v F) (h:tyD (some d) t=true):tyV K t v H:=by
 cases r <;> try (simp [tyD] at h)
 ·subst h;exact .inl ⟨rfl,_,.of ‹_›⟩
 ·subst h;exact .inr (.inr (.inl ⟨rfl,.inl ⟨_,‹_›⟩⟩))
 ·subst h;exact .inr (.inr (.inl ⟨rfl,.inr ⟨_,‹_›⟩⟩))
def wMt (i:Nat) (t:String) (g:GM) (wr:WA):WE:=λρ Q=>tyD (look ρ i) t=true/\wr ρ λds ρ1=>oget (look ρ1 i) λd=>g d ds λe d'=>Q e (ρ1.set i (some d'))
theorem mt_fin {i:Nat} {t:String} {g:GM} {r:V->List V->Hp->VK->Prop} (ht:T.own i=true)
  (gr:∀(H:Hp) (d:D) (ds:List D) (v:V) (xs:List V) (F G:List Addr) (k:D->D->Prop) (Q:VK),Rep X.K H d v F->F.Nodup->Reps X.K H ds xs G->G.Nodup->(∀a∈G,a∉F)->g d ds k ->
   (∀u l ob e d' F',l∈F->imm ob=false->Rep X.K (upd H l ob) d' v F'->F'.Nodup->(∀a∈F',a∈F\/a∈G)->Rep X.K (upd H l ob) e u []->k e d'->Q u (upd H l ob))->r v xs H Q)
  {ta:TA} (ga:∀(z:Nat->V) (R:Addr->Prop) (σ:St) (H:Hp) (W:Addr->Prop) (ρ:Env) (Q:List D->Env->Prop) (Q':List V->Hp->Prop),SR X.K T z R H W σ ρ->wr ρ Q ->
   (∀vs H' W' ds ρ' F,PostA X.K T z R m true H W σ ρ H' W' ρ' ds vs F->Q ds ρ'->Q' vs H')->ta σ H Q')
  {z:Nat->V} {R:Addr->Prop} {σ:St} {H:Hp} {W:Addr->Prop} {ρ:Env} {Q:D->Env->Prop} {Q':VK} (s:SR X.K T z R H W σ ρ) (hw:wMt i t g wr ρ Q)
  (k:∀v H' W' d ρ' F,Post X.K T z R true true H W σ ρ H' W' ρ' d v F->Q d ρ'->Q' v H'):tVar i σ H λx H1=>tyV X.K t x H1/\ta σ H1 λxs H2=>r x xs H2 Q':=by
 obtain ⟨hty,hw⟩:=hw
 obtain ⟨fp0,s0⟩:=id s
 cases hl:look ρ i with
 | none=>rw [hl] at hty;cases hty
 | some d0 =>
  obtain ⟨v,hv,r0⟩:=s0.at_ i d0 hl
  refine ⟨v,hv,tyV_of r0 (by rw [hl] at hty;exact hty),?_⟩
  refine ga z R σ H W ρ _ _ s hw λvs H1 W1 ds ρ1 G p q=>?_
  obtain ⟨d,hd,q⟩:=oget_some q
  obtain ⟨fp,s1⟩:=id p.sr
  obtain ⟨v',hv',r1⟩:=s1.at_ i d hd
  have:v'=v:=by rw [hv] at hv';cases hv';rfl
  subst this
  obtain ⟨nd1,sw⟩:=s1.own i d hd ht
  obtain ⟨ndG,kG⟩:=p.own rfl
  refine gr H1 d ds v' vs (fp i) G _ Q' r1 nd1 p.rep ndG (λa ha hf=>(kG a ha).2 (sw a hf)) q λu l ob e d' F' hlF him rd' ndF sub re hk=>?_
  have hWl:=sw l hlF
  refine k u _ (λa=>W1 a\/a∈F') e _ [] ⟨s1.write hd ht hv' hlF upd_keep ⟨ob,upd_same,him⟩ rd' ndF (λa ha=>?_),p.fr.write hWl (s1.wd l hWl) upd_keep ⟨ob,upd_same,him⟩ (λa ha=>?_),(λh=>nomatch h),re,λ_=>⟨List.nodup_nil,λa m=>nomatch m⟩⟩ hk
  ·rcases sub a ha with h | h
   ·exact .inl h
   ·exact .inr ⟨(kG a h).2,s.nr (kG a h).1⟩
  ·rcases sub a ha with h | h
   ·exact .inl (sw a h)
   ·exact .inr (kG a h).1
variable {name:Str} {apos cpos:Pos} {T' id:String}
theorem ev_mt {i:Nat} {g:GM} (hm:MtD X id g) (pa:PlainAttrs T') (slot:Slot T' name id) (hty:typeOf (.builtin id)=pure (.type "method_descriptor")) (ha:AV X T m true (e::es) wr)
  (ht:T.own i=true:=by rfl) (hN:X.N[i]? = some x:=by rfl) (hv:Vis X.env.scope x:=by first | exact Or.inl rfl | exact Or.inr (Or.inl rfl) | exact Or.inr (Or.inr rfl)) (hd:(x == ("__debug__" : Str))=false:=by decide)
  (hcd:(x == ("__classdict__" : Str))=false:=by decide)
  (hbase:attributeBase (.Name x p) name X.env (eval (.Name x p) X.env)=eval (.Name x p) X.env:=by rfl)
  (hfew:((backTo cpos (starEach (e::es) X.env)).all (λx=>!x.1) && (backToKw cpos (keywordEach [] X.env)).all (λx=>x.1.isSome)
   && decide ((e::es).length+([]:List Keyword).length+(if ([]:List Keyword).isEmpty then 0 else 1)<30))=true:=by rfl)
  (hline:(apos.endLine == cpos.line)=true:=by rfl) (hs:starEach (e::es) X.env=(false,eval e X.env)::starEach es X.env:=by rfl) (hplain:(backTo cpos (starEach es X.env)).any (·.1)=false:=by rfl) :
  EV X T true true (.Call (.Attribute (.Name x p) name apos) (e::es) [] cpos) (wMt i T' g wr):=by
 obtain ⟨r,mr,gr⟩:=hm
 obtain ⟨ta,pa',ga⟩:=ha
 exact ⟨_,pe_bm pa slot hty mr (pe_var hN hv hd hcd) pa' hbase hfew hline hs hplain,λz R σ H W ρ Q Q' s hw k=>mt_fin ht gr ga s hw k⟩
def gAppend:GM
 | .lst xs,[d],k=>xs.length<sizeLine/\k .non (.lst (xs++[d]))
 | _,_,_=>False
theorem nodup_ins {α:Type} {F G:List α} (h:F.Nodup) (h':G.Nodup) (d:∀a∈G,a∉F):(F++G).Nodup :=
 List.nodup_append.mpr ⟨h,h',λa ha b hb e=>d b hb (e ▸ ha)⟩
theorem imm_upd {H:Hp} {l:Addr} {ob ob':HO} (h:H l=some ob) (hi:imm ob=false):ImmK H (upd H l ob'):=λb u e im=>by
 have:b≠l:=λz=>by rw [z,h] at e;cases e;rw [hi] at im;cases im
 rw [upd_ne this];exact e
theorem Reps.upd {K:PySem.W.Frag} {H:Hp} {ds:List D} {xs:List V} {F:List Addr} {l:Addr} {ob ob':HO} (r:Reps K H ds xs F) (h:H l=some ob) (hi:imm ob=false) (hn:l∉F):Reps K (L2.upd H l ob') ds xs F :=
 r.frame (imm_upd h hi) λa ha=>upd_ne λz=>hn (z ▸ ha)
theorem Rep.upd {K:PySem.W.Frag} {H:Hp} {d:D} {x:V} {F:List Addr} {l:Addr} {ob ob':HO} (r:Rep K H d x F) (h:H l=some ob) (hi:imm ob=false) (hn:l∉F):Rep K (L2.upd H l ob') d x F :=
 r.frame (imm_upd h hi) λa ha=>upd_ne λz=>hn (z ▸ ha)
theorem RepK.upd {K:PySem.W.Frag} {H:Hp} {ds:List (Key × D)} {xs:List (Key × V)} {F:List Addr} {l:Addr} {ob ob':HO} (r:RepK K H ds xs F) (h:H l=some ob) (hi:imm ob=false) (hn:l∉F):RepK K (L2.upd H l ob') ds xs F :=
 r.frame (imm_upd h hi) λa ha=>upd_ne λz=>hn (z ▸ ha)
theorem RepT.upd {K:PySem.W.Frag} {H:Hp} {ds:List (List Key × D)} {xs:List (List Key × V)} {F:List Addr} {l:Addr} {ob ob':HO} (r:RepT K H ds xs F) (h:H l=some ob) (hi:imm ob=false) (hn:l∉F):RepT K (L2.upd H l ob') ds xs F :=
 r.frame (imm_upd h hi) λa ha=>upd_ne λz=>hn (z ▸ ha)
def gPopAt:GM
 | .lst xs,[.int i],k=>-(2 ^ 63)<=i/\i<2 ^ 63/\oget (seqIndex? i xs.length) λj=>oget xs[j]? λd=>d.pure=true/\k d (.lst (xs.eraseIdx j))
 | _,_,_=>False
theorem sub3 {α:Type} {F A B C:List α} (h:F=A++B++C):(A++C).Sublist F:=by
 rw [h,List.append_assoc]
 exact List.Sublist.append (List.Sublist.refl _) (List.sublist_append_right _ _)
theorem md_popAt:MtD X "list.pop" gPopAt:=by
 refine ⟨_,mt_popAt,λH d ds v xs F G k Q r nd rs ndG dis g q=>?_⟩
 cases d with
 | lst es =>
  cases ds with
  | nil=>exact (show False from g).elim
  | cons d ds =>
   cases ds with
   | cons _ _=>cases d <;> exact (show False from g).elim
   | nil =>
    cases d with
    | int i =>
     obtain ⟨u,rfl,rd⟩:=rs.at1
     cases rd
     cases r with
     | @lst l ys _ F e r9 =>
      obtain ⟨h1,h2,g⟩:=g
      obtain ⟨j,hj,g⟩:=oget_some g
      obtain ⟨d,hd,hp,g⟩:=oget_some g
      obtain ⟨nl,nd⟩:=List.nodup_cons.mp nd
      obtain ⟨y,A,B,C,hy,hF,rB,rA,rC⟩:=r9.split hd
      obtain ⟨hB,rB⟩:=rB.pure hp
      have sub:=sub3 hF
      have nAC:l∉A++C:=λh=>nl (sub.subset h)
      refine ⟨l,ys,i,j,y,rfl,rfl,e,h1,h2,by rw [r9.length];exact hj,hy,?_⟩
      refine q y l _ d _ (l::(A++C)) List.mem_cons_self rfl (.lst upd_same ?_) (List.nodup_cons.mpr ⟨nAC,nd.sublist sub⟩) (λa ha=>?_) (rB.upd e rfl (λh=>nomatch h)) g
      ·rw [erase_td,erase_td]
       exact (rA.append rC).upd e rfl nAC
      ·rcases List.mem_cons.mp ha with rfl | ha
       ·exact .inl List.mem_cons_self
       ·exact .inl (List.mem_cons_of_mem _ (sub.subset ha))
    | _=>exact (show False from g).elim
 | _=>exact (show False from g).elim
end
end PV
namespace PV
open PySem PySem.Spec L2
def spR (K:PySem.W.Frag) (g:GA):Sp:=λvs H Q _=>∃(ds:List D) (F:List Addr) (k:D->Prop),Reps K H ds vs F/\g ds k/\∀v H' d F',Fin K H H' d v F'->k d->Q v H'
abbrev GI:=List D->(D->D->Prop)->Prop
def spI (K:PySem.W.Frag) (p:Nat) (g:GI):Sp:=λvs H Q _=>∃(ds:List D) (a:Addr) (k:D->D->Prop),Reps K H ds vs [a]/\vs[p]? = some (.ref a)/\g ds k /\
 ∀v H' d d' F',Rep K H' d' (.ref a) [a]->Rep K H' d v F'->F'.Nodup->(∀b∈F',H b=none)->(∀b o,H b=some o->b≠a->H' b=some o)->k d d'->Q v H'
def flatD:D->Bool
 | .lst xs=>pureL xs
 | .dik kvs=>kvs.all λkv=>kv.2.pure
 | .dit kvs=>kvs.all λkv=>kv.2.pure
 | _=>false
theorem RepK.pure {K:PySem.W.Frag} {H:Hp}:∀{ds:List (Key × D)} {xs:List (Key × V)} {F:List Addr},RepK K H ds xs F->(ds.all λkv=>kv.2.pure)=true->F=[]
 | [],_,_,r,_=>by cases r;rfl
 | d::ds,_,_,r,h=>by
  rw [List.all_cons,Bool.and_eq_true] at h
  cases r with
  | cons p r=>rw [(p.pure h.1).1,RepK.pure r h.2];rfl
theorem RepT.pure {K:PySem.W.Frag} {H:Hp}:∀{ds:List (List Key × D)} {xs:List (List Key × V)} {F:List Addr},RepT K H ds xs F->(ds.all λkv=>kv.2.pure)=true->F=[]
 | [],_,_,r,_=>by cases r;rfl
 | d::ds,_,_,r,h=>by
  rw [List.all_cons,Bool.and_eq_true] at h
  cases r with
  | cons p r=>rw [(p.pure h.1).1,RepT.pure r h.2];rfl
theorem Rep.flat1 {K:PySem.W.Frag} {H:Hp} {d:D} {v:V} {F:List Addr} (r:Rep K H d v F) (h:flatD d=true):∃a,v=.ref a/\F=[a]:=by
 cases r with
 | lst e r=>exact ⟨_,rfl,by rw [(r.pure (by simpa [flatD] using h)).1]⟩
 | dik e r=>exact ⟨_,rfl,by rw [r.pure (by simpa [flatD] using h)]⟩
 | dit e r=>exact ⟨_,rfl,by rw [r.pure (by simpa [flatD] using h)]⟩
 | _=>simp [flatD] at h
section
variable {X:Cx} {T:Tg} {m o m0 m1 m2 m3 o1 o2:Bool} {e a b:Expr} {w wa wb:WE} {pos p2 p:Pos} {es:List Expr} {wr:WA} {x:Str} {k:Nat} {f:Addr} {fd:FuncData} {ps:List Str}
theorem ev_call {g:GA} (F:FnOk X.prog X.w X.K X.mg X.base CX0 k f fd ps (spR X.K g)) (hr:Room k X.A) (hm:X.mg x=some (.ref f)) (hk:PySem.W.keepIn X.K (.ref f)=true) (hb:Binds X.K fd ps []) (ha:AV X T m o (e::es) wr) (hg:Gl X x:=by rfl)
  (hdb:(x == ("__debug__" : Str))=false:=by decide) (he:starEach (e::es) X.env=(false,eval e X.env)::starEach es X.env:=by rfl) (hpl:(backTo pos (starEach es X.env)).any (·.1)=false:=by rfl) :
  EV X T m true (.Call (.Name x p) (e::es) [] pos) (wCall g wr):=by
 obtain ⟨ta,pa,ga⟩:=ha
 refine ⟨_,pe_call F hr hg hm hk hb .nil pass0 pa hdb he hpl,λz R σ H W ρ Q Q' s hw k=>?_⟩
 refine ga z R σ H W ρ _ _ s hw λvs H1 W1 ds ρ1 F p q=>?_
 refine ⟨ds,F,_,by rw [List.append_nil];exact p.rep,q,λv H' d F' fi hk=>k v H' W1 d ρ1 F' (Post.fin p.sr p.fr p.calm fi.same fi.rep fi.nd fi.new) hk⟩
abbrev WI:=Env->(List D->List D->Env->Prop)->Prop
def AI (X:Cx) (T:Tg) (m:Bool) (i p:Nat) (es:List Expr) (w:WI):Prop :=
 ∃ta,PA X es ta/\∀(z:Nat->V) (R:Addr->Prop) (σ:St) (H:Hp) (W:Addr->Prop) (ρ:Env) (Q:List D->List D->Env->Prop) (Q':List V->Hp->Prop),SR X.K T z R H W σ ρ->w ρ Q ->
  (∀v xs ys H' W' pre post ρ',PostT X.K T z R m H W σ ρ H' W' ρ'->σ[i]? = some (some v)->Reps X.K H' pre xs []->Reps X.K H' post ys []->pre.length=p->Q pre post ρ'->Q' (xs++v::ys) H')->ta σ H Q'
def wHere (i:Nat) (wr:WA):WI:=λρ Q=>(look ρ i).isSome=true/\wr ρ λds ρ'=>pureL ds=true/\Q [] ds ρ'
theorem ai_here {i:Nat} (hr:AV X T m o es wr) (hN:X.N[i]? = some x:=by rfl) (hv:Vis X.env.scope x:=by first | exact Or.inl rfl | exact Or.inr (Or.inl rfl) | exact Or.inr (Or.inr rfl)) (hd:(x == ("__debug__" : Str))=false:=by decide)
  (hcd:(x == ("__classdict__" : Str))=false:=by decide) (hs:starEach (.Name x p::es) X.env=(false,eval (.Name x p) X.env)::starEach es X.env:=by rfl):AI X T m i 0 (.Name x p::es) (wHere i wr):=by
 obtain ⟨ta,pa,ga⟩:=hr
 refine ⟨_,pa_cons (pe_var hN hv hd hcd) pa hs,λz R σ H W ρ Q Q' s hw k=>?_⟩
 obtain ⟨h1,hw⟩:=hw
 obtain ⟨d,hl⟩:=Option.isSome_iff_exists.mp h1
 obtain ⟨fp,s0⟩:=id s
 obtain ⟨v,hv',_⟩:=s0.at_ i d hl
 refine ⟨v,hv',ga z R σ H W ρ _ _ s hw λvs H1 W1 ds ρ1 F p q=>?_⟩
 exact k v [] vs H1 W1 [] ds ρ1 ⟨p.sr,p.fr,p.calm⟩ hv' .nil (p.rep.pure q.1).2 rfl q.2
def wSkip (w:WE) (wi:WI):WI:=λρ Q=>w ρ λd ρ1=>d.pure=true/\wi ρ1 λpre post ρ2=>Q (d::pre) post ρ2
theorem ai_skip {i q:Nat} {wi:WI} (he:EV X T m1 o e w) (hr:AI X T m2 i q es wi) (hs:starEach (e::es) X.env=(false,eval e X.env)::starEach es X.env:=by rfl):AI X T (m1 || m2) i (q+1) (e::es) (wSkip w wi):=by
 obtain ⟨te,pe,ge⟩:=he
 obtain ⟨ta,pa,ga⟩:=hr
 refine ⟨_,pa_cons pe pa hs,λz R σ H W ρ Q Q' s hw k=>?_⟩
 refine ge z R σ H W ρ _ _ s hw λv1 H1 W1 d1 ρ1 F1 p ⟨hp,q1⟩=>?_
 obtain ⟨_,r1⟩:=p.rep.pure hp
 refine ga z R σ H1 W1 ρ1 _ _ p.sr q1 λv xs ys H2 W2 pre post ρ2 q hv rp rq hl q2=>?_
 exact k v (v1::xs) ys H2 W2 (d1::pre) post ρ2 (PostT.seq ⟨p.sr,p.fr,p.calm⟩ q) hv (.cons (F:=[]) (G:=[]) (r1.keep q.fr λa m=>nomatch m) rp) rq (by rw [List.length_cons,hl]) q2
def wCallI (i:Nat) (g:GI) (wi:WI):WE:=λρ Q=>wi ρ λpre post ρ1=>oget (look ρ1 i) λd0=>flatD d0=true/\g (pre++d0::post) λd d'=>Q d (ρ1.set i (some d'))
theorem ev_callI {i q:Nat} {g:GI} {wi:WI} (F:FnOk X.prog X.w X.K X.mg X.base CX0 k f fd ps (spI X.K q g)) (hr:Room k X.A) (hm:X.mg x=some (.ref f)) (hk:PySem.W.keepIn X.K (.ref f)=true) (hb:Binds X.K fd ps []) (ha:AI X T m i q (e::es) wi)
  (ht:T.own i=true:=by rfl) (hg:Gl X x:=by rfl)
  (hdb:(x == ("__debug__" : Str))=false:=by decide) (he:starEach (e::es) X.env=(false,eval e X.env)::starEach es X.env:=by rfl) (hpl:(backTo pos (starEach es X.env)).any (·.1)=false:=by rfl) :
  EV X T true true (.Call (.Name x p) (e::es) [] pos) (wCallI i g wi):=by
 obtain ⟨ta,pa,ga⟩:=ha
 refine ⟨_,pe_call F hr hg hm hk hb .nil pass0 pa hdb he hpl,λz R σ H W ρ Q Q' s hw k=>?_⟩
 refine ga z R σ H W ρ _ _ s hw λv xs ys H1 W1 pre post ρ1 p hv rp rq hl q=>?_
 obtain ⟨d0,hd,hf,q⟩:=oget_some q
 obtain ⟨fp,s1⟩:=id p.sr
 obtain ⟨v',hv',r0⟩:=s1.at_ i d0 hd
 have:v'=v:=by rw [hv] at hv';cases hv';rfl
 subst this
 obtain ⟨a,rfl,hF⟩:=r0.flat1 hf
 rw [hF] at r0
 have sw:=(s1.own i d0 hd ht).2
 have hWa:W1 a:=sw a (by rw [hF];exact List.mem_singleton.mpr rfl)
 refine ⟨pre++d0::post,a,_,?_,?_,q,λv H' d d' F' rd' rd nd new kp hk=>?_⟩
 ·rw [List.append_nil]
  have:=rp.append (.cons r0 rq)
  simpa using this
 ·rw [List.append_nil]
  have hx:=rp.length
  rw [List.getElem?_append_right (by omega),show _-xs.length=0 by omega]
  rfl
 ·obtain ⟨oa,ea,ia⟩:=s1.wd a hWa
  have hnew:∃ob,H' a=some ob/\imm ob=false:=rd'.dom a (List.mem_singleton.mpr rfl)
  have nd1:([a]:List Addr).Nodup:=by simp
  have sN:=s1.write (H':=H') (d':=d') (F':=[a]) hd ht hv' (by rw [hF];exact List.mem_singleton.mpr rfl) (λb u e n=>kp b u e n) hnew rd' nd1 (λb hb=>.inl (by rw [hF];exact hb))
  have fN:=p.fr.write (H':=H') (F':=[a]) hWa ⟨oa,ea,ia⟩ (λb u e n=>kp b u e n) hnew (λb hb=>.inl (by rw [List.mem_singleton.mp hb];exact hWa))
  refine k v H' _ d _ F' ⟨sN,fN,(λh=>nomatch h),rd,λ_=>⟨nd,λb hb=>⟨p.fr.dom b (new b hb),λhw=>?_⟩⟩⟩ hk
  rcases hw with hw | hw
  ·exact p.sr.nw (new b hb) hw
  ·rw [List.mem_singleton.mp hw] at hb
   rw [new a hb] at ea;cases ea
abbrev WL:=Env->(List D->Env->Prop)->Prop
def JD (K:PySem.W.Frag) (J:It) (H:Hp) (W:Addr->Prop) (ds:List D):Prop :=
 ∀(i:Nat) (H1:Hp) (W1:Addr->Prop),FrW H W H1 W1->(ds.length<=i->J.stop i H1)/\∀d,ds[i]? = some d->J.go i H1/\∀v H2,J.yld i H1 v H2->Same H1 H2/\∃F,Rep K H2 d v F/\∀a∈F,¬W1 a
def wz (pr:Bool) (W:Addr->Prop):Addr->Prop:=λa=>pr=true/\W a
def IV (X:Cx) (T:Tg) (m pr:Bool) (tg iter:Expr) (w:WL):Prop :=
 ∃wi,PI X tg iter wi/\∀(z:Nat->V) (R:Addr->Prop) (σ:St) (H:Hp) (W:Addr->Prop) (ρ:Env) (Q:List D->Env->Prop) (RR:It->Hp->Prop),SR X.K T z R H W σ ρ->w ρ Q ->
  (∀J H' W' ds ρ',PostT X.K T z R m H W σ ρ H' W' ρ'->JD X.K J H' (wz pr W') ds->Q ds ρ'->RR J H')->wi σ H RR
variable {tg iter:Expr}
theorem pi_seq {l:Expr} {tl:TE} (hl:PE X l tl):PI X tg l (λσ H R=>tl σ H λx H1=>∃a,x=.ref a/\(((∃xs,SqL X.K H1 a xs)/\R (Itl X.K a) H1)\/((∃xs,SqT X.K H1 a xs)/\R (Itt X.K a) H1))):=by
 intro pins s σ H R I h
 refine thn (hl pins s σ H _ I h) λv s1 ⟨x,H1,I1,r1,q1⟩=>?_
 obtain ⟨a,e,q⟩:=q1
 subst e
 cases r1
 rcases q with ⟨⟨xs,hq⟩,q⟩ | ⟨⟨xs,hq⟩,q⟩
 ·obtain ⟨its,rv,p,hz⟩:=I1.list hq
  refine wpAny_pyIter_list p.isList ?_
  refine ⟨s1.heap.objs.size,[s1.heap.objs.size],_,_,H1,rfl,I1.kept (t':=s1.toks) λb o e=>Heap.get?_push_of_some _ e,turn_list a _,⟨_,Heap.get?_push_size _ rfl,rfl,rfl⟩,λb hb=>?_,q⟩
  have e:b=s1.heap.objs.size:=by simpa using hb
  subst e
  exact I1.fpOk (Nat.le_refl _) (I1.hok.fresh (Nat.le_refl _))
 ·obtain ⟨its,rv,p,hz⟩:=I1.tuple hq
  refine wpAny_pyIter_tuple (show s1.heap.IsTuple a its.toArray from p) ?_
  refine ⟨s1.heap.objs.size,[s1.heap.objs.size],_,_,H1,rfl,I1.kept (t':=s1.toks) λb o e=>Heap.get?_push_of_some _ e,turn_tuple a _,⟨_,Heap.get?_push_size _ rfl,rfl,rfl⟩,λb hb=>?_,q⟩
  have e:b=s1.heap.objs.size:=by simpa using hb
  subst e
  exact I1.fpOk (Nat.le_refl _) (I1.hok.fresh (Nat.le_refl _))
def seqD (pr:Bool):D->Option (List D)
 | .tup ds=>if pureL ds then some ds else none
 | .lst ds=>some ds
 | _=>none
def wSeqD (w:WE):WL:=λρ Q=>w ρ λd ρ'=>match d with
 | .tup ds=>pureL ds=true/\Q ds ρ'
 | .lst ds=>Q ds ρ'
 | _=>False
theorem iv_seq (h:EV X T m o e w):IV X T m o tg e (wSeqD w):=by
 obtain ⟨te,pe,ge⟩:=h
 refine ⟨_,pi_seq pe,λz R σ H W ρ Q RR s hw k=>?_⟩
 refine ge z R σ H W ρ _ _ s hw λv H1 W1 d ρ1 F p q=>?_
 cases d with
 | tup ds =>
  obtain ⟨hp,q⟩:=q
  obtain ⟨hF,rp⟩:=p.rep.pure (by simpa [D.pure] using hp)
  cases rp with
  | @tup a xs _ _ e1 r =>
   refine ⟨a,rfl,.inr ⟨⟨xs,.of e1⟩,k _ H1 W1 ds ρ1 ⟨p.sr,p.fr,p.calm⟩ (λi H2 W2 f=>?_) q⟩⟩
   have e2:H2 a=some (.tup xs):=f.imm _ _ e1 rfl
   refine ⟨λhi=>⟨xs,.of e2,by rw [r.length];exact hi⟩,λd hd=>?_⟩
   obtain ⟨x,B,hx,rx,sx⟩:=r.get hd
   refine ⟨⟨xs,x,.of e2,hx⟩,λv H3 y=>?_⟩
   obtain ⟨rfl,y⟩:=y
   have:=y xs (.of e2)
   rw [hx] at this
   cases this
   exact ⟨Same.refl _,B,rx.keep f (λa ha=>(nomatch sx.subset ha)),(λa ha=>(nomatch sx.subset ha))⟩
 | lst ds =>
  obtain ⟨p1,p2,p3,p4,p5⟩:=p
  cases p4 with
  | @lst a xs _ F e1 r =>
   refine ⟨a,rfl,.inl ⟨⟨xs,.of e1⟩,k _ H1 W1 ds ρ1 ⟨p1,p2,p3⟩ (λi H2 W2 f=>?_) q⟩⟩
   have nW:∀b∈a::F,¬wz o W1 b:=λb hb hw=>by
    obtain ⟨h1,h2⟩:=hw
    exact ((p5 h1).2 b hb).2 h2
   have e2:H2 a=some (.lst xs):=f.keep _ _ e1 (nW a List.mem_cons_self)
   refine ⟨λhi=>⟨xs,.of e2,by rw [r.length];exact hi⟩,λd hd=>?_⟩
   obtain ⟨x,B,hx,rx,sx⟩:=r.get hd
   refine ⟨⟨xs,x,.of e2,hx⟩,λv H3 y=>?_⟩
   obtain ⟨rfl,y⟩:=y
   have:=y xs (.of e2)
   rw [hx] at this
   cases this
   refine ⟨Same.refl _,B,rx.keep f λb hb=>nW b (List.mem_cons_of_mem _ (sx.subset hb)),λb hb hw=>?_⟩
   have hb':b∈a::F:=List.mem_cons_of_mem _ (sx.subset hb)
   rcases f.new b hw with h | h
   ·exact nW b hb' h
   ·obtain ⟨ob,e3,_⟩:=rx.dom b hb
    rw [h] at e3;cases e3
 | _=>exact q.elim
def rngD (lo:Int) (n:Nat):List D:=(List.range n).map λ(i:Nat)=>.int (lo+(i:Int))
theorem jd_range {K:PySem.W.Frag} {H:Hp} {W:Addr->Prop} {lo:Int} {n:Nat}:JD K (Itr lo n) H W (rngD lo n):=by
 intro i H1 W1 f
 have hl:(rngD lo n).length=n:=by simp [rngD]
 refine ⟨λh=>by rw [hl] at h;exact h,λd hd=>?_⟩
 have hi:i<n:=by have:=(List.getElem?_eq_some_iff.mp hd).1;rwa [hl] at this
 have hd':d=.int (lo+(i:Int)):=by
  simp only [rngD,List.getElem?_map,List.getElem?_range hi,Option.map_some,Option.some.injEq] at hd
  exact hd.symm
 refine ⟨hi,λv H2 y=>?_⟩
 obtain ⟨rfl,rfl⟩:=y
 exact ⟨Same.refl _,[],by rw [hd'];exact .int _,λa m=>nomatch m⟩
def wRng1 (wr:WA):WL:=λρ Q=>wr ρ λds ρ'=>match ds with
 | [.int j]=>-(2 ^ 62)<=j/\j<2 ^ 62/\Q (rngD 0 j.toNat) ρ'
 | _=>False
theorem iv_range1 (hm:X.mg "range" = none) (ha:AV X T m o [a] wr) (hg:Gl X "range":=by rfl) (hs:starEach [a] X.env=[(false,eval a X.env)]:=by rfl):IV X T m true tg (.Call (.Name "range" p) [a] [] pos) (wRng1 wr):=by
 obtain ⟨ta,pa,ga⟩:=ha
 refine ⟨_,pi_range1 hg hm pa hs,λz R σ H W ρ Q RR s hw k=>?_⟩
 refine ga z R σ H W ρ _ _ s hw λvs H1 W1 ds ρ1 F p q=>?_
 obtain ⟨j,rfl⟩:∃j,ds=[D.int j]:=by
  clear p
  cases ds with
  | nil=>exact (show False from q).elim
  | cons d0 r0 =>
   cases r0 with
   | nil =>
    cases d0 with
    | int j=>exact ⟨j,rfl⟩
    | _=>exact (show False from q).elim
   | cons _ _=>cases d0 <;> exact (show False from q).elim
 obtain ⟨v,rfl,rd⟩:=p.rep.at1
 cases rd
 exact ⟨j,rfl,q.1,q.2.1,k _ H1 W1 _ ρ1 ⟨p.sr,p.fr,p.calm⟩ jd_range q.2.2⟩
def enumD:Nat->List D->List D
 | _,[]=>[]
 | n,d::r=>.tup [.int (n:Int),d]::enumD (n+1) r
theorem enumD_get:∀{ds:List D} {n i:Nat},(enumD n ds)[i]? = ds[i]?.map λd=>.tup [.int ((n+i:Nat):Int),d]
 | [],_,_=>by simp [enumD]
 | d::r,n,0=>by simp [enumD]
 | d::r,n,i+1=>by
  simp only [enumD,List.getElem?_cons_succ]
  rw [enumD_get (ds:=r) (n:=n+1) (i:=i),show n+1+i=n+(i+1) by omega]
theorem enumD_length:∀{ds:List D} {n:Nat},(enumD n ds).length=ds.length
 | [],_=>rfl
 | d::r,n=>by simp [enumD,enumD_length]
def wEnum (wr:WA):WL:=λρ Q=>wr ρ λds ρ'=>match ds with
 | [.tup es]=>pureL es=true/\Q (enumD 0 es) ρ'
 | _=>False
theorem iv_enum {ts:List Expr} {kt:Nat} {pt:Pos} (hm:X.mg "enumerate" = none) (ha:AV X T m o [a] wr) (hg:Gl X "enumerate":=by rfl) (hs:starEach [a] X.env=[(false,eval a X.env)]:=by rfl):IV X T m true (.Tuple ts kt pt) (.Call (.Name "enumerate" p) [a] [] pos) (wEnum wr):=by
 obtain ⟨ta,pa,ga⟩:=ha
 refine ⟨_,pi_enum hg hm pa hs,λz R σ H W ρ Q RR s hw k=>?_⟩
 refine ga z R σ H W ρ _ _ s hw λvs H1 W1 ds ρ1 F p q=>?_
 obtain ⟨es,rfl⟩:∃es,ds=[D.tup es]:=by
  clear p
  cases ds with
  | nil=>exact (show False from q).elim
  | cons d0 r0 =>
   cases r0 with
   | nil =>
    cases d0 with
    | tup es=>exact ⟨es,rfl⟩
    | _=>exact (show False from q).elim
   | cons _ _=>cases d0 <;> exact (show False from q).elim
 obtain ⟨hp,q⟩:=q
 obtain ⟨v,rfl,rd⟩:=p.rep.at1
 obtain ⟨hF,rd⟩:=rd.pure (by simpa [D.pure] using hp)
 cases rd with
 | @tup a xs _ _ e1 r =>
  refine ⟨a,rfl,⟨xs,.of e1⟩,k _ H1 W1 _ ρ1 ⟨p.sr,p.fr,p.calm⟩ (λi H2 W2 f=>?_) q⟩
  have e2:H2 a=some (.tup xs):=f.imm _ _ e1 rfl
  refine ⟨λhi=>⟨xs,.of e2,by rw [r.length];rwa [enumD_length] at hi⟩,λd hd=>?_⟩
  rw [enumD_get] at hd
  cases hd':es[i]? with
  | none=>rw [hd'] at hd;cases hd
  | some d' =>
   rw [hd'] at hd
   obtain ⟨x,B,hx,rx,sx⟩:=r.get hd'
   refine ⟨⟨xs,x,.of e2,hx⟩,λv H3 y=>?_⟩
   obtain ⟨x',t,h1,rfl,h3,rfl⟩:=y xs (.of e2)
   rw [hx] at h1
   cases h1
   have hB:B=[]:=List.sublist_nil.mp sx
   subst hB
   refine ⟨same_upd h3,[],?_,λa m=>nomatch m⟩
   cases hd
   rw [Nat.zero_add]
   exact .tup upd_same (.cons (F:=[]) (G:=[]) (.int _) (Reps.one ((rx.keep f λa m=>nomatch m).same (same_upd h3))))
end
end PV
namespace PV
open PySem PySem.Spec L2
structure EndsP where
 nx:Env->Prop
 rt:D->Env->Prop
 bk:Env->Prop:=λ_=>False
 ct:Env->Prop:=λ_=>False
 xc:D->Env->Prop:=λ_ _=>False
abbrev WS:=EndsP->Env->Prop
structure Lk (K:PySem.W.Frag) (T:Tg) (z:Nat->V) (H:Hp) (W:Addr->Prop) (P:EndsP) (E:Ends):Prop where
 nx:∀R σ' H' W' ρ',SR K T z R H' W' σ' ρ'->FrW H W H' W'->P.nx ρ'->E.nx σ' H'
 bk:∀R σ' H' W' ρ',SR K T z R H' W' σ' ρ'->FrW H W H' W'->P.bk ρ'->E.bk σ' H'
 ct:∀R σ' H' W' ρ',SR K T z R H' W' σ' ρ'->FrW H W H' W'->P.ct ρ'->E.ct σ' H'
 rt:∀R v σ' H' W' ρ' d F,SR K T z R H' W' σ' ρ'->FrW H W H' W'->Rep K H' d v F->F.Nodup->(∀a∈F,¬W' a/\(W a\/H a=none))->P.rt d ρ'->E.rt v H'
 xc:∀R σ' H' W' ρ' d,SR K T z R H' W' σ' ρ'->FrW H W H' W'->P.xc d ρ'->T.xe d σ' H'
theorem Lk.step {K:PySem.W.Frag} {T:Tg} {z:Nat->V} {H H1:Hp} {W W1:Addr->Prop} {P:EndsP} {E:Ends} (l:Lk K T z H W P E) (f:FrW H W H1 W1):Lk K T z H1 W1 P E where
 nx:=λR σ' H' W' ρ' s g q=>l.nx R σ' H' W' ρ' s (f.trans g) q
 bk:=λR σ' H' W' ρ' s g q=>l.bk R σ' H' W' ρ' s (f.trans g) q
 ct:=λR σ' H' W' ρ' s g q=>l.ct R σ' H' W' ρ' s (f.trans g) q
 rt:=λR v σ' H' W' ρ' d F s g r nd k q=>l.rt R v σ' H' W' ρ' d F s (f.trans g) r nd (λa ha=>⟨(k a ha).1,by
  rcases (k a ha).2 with h | h
  ·exact f.new a h
  ·exact .inr (f.dom a h)⟩) q
 xc:=λR σ' H' W' ρ' d s g q=>l.xc R σ' H' W' ρ' d s (f.trans g) q
def SV (X:Cx) (T:Tg) (st:Stmt) (w:WS):Prop :=
 ∃ts,PS X st ts/\∀(z:Nat->V) (R:Addr->Prop) (σ:St) (H:Hp) (W:Addr->Prop) (ρ:Env) (P:EndsP) (E:Ends),SR X.K T z R H W σ ρ->w P ρ->Lk X.K T z H W P E->ts E σ H
def SVs (X:Cx) (T:Tg) (st:List Stmt) (w:WS):Prop :=
 ∃ts,PSs X st ts/\∀(z:Nat->V) (R:Addr->Prop) (σ:St) (H:Hp) (W:Addr->Prop) (ρ:Env) (P:EndsP) (E:Ends),SR X.K T z R H W σ ρ->w P ρ->Lk X.K T z H W P E->ts E σ H
section
variable {X:Cx} {T:Tg} {m o m0 m1 m2 m3 o1 o2:Bool} {e a b:Expr} {w wa wb:WE} {pos p2 p:Pos} {es:List Expr} {wr:WA} {x:Str} {st:Stmt} {rest:List Stmt} {ws wu:WS} {wt:WT}
def wNext:WS:=λP ρ=>P.nx ρ
def wSeq (w u:WS):WS:=λP ρ=>w { P with nx:=u P } ρ
theorem svs_nil:SVs X T [] wNext:=⟨_,pss_nil,λz R σ H W ρ P E s hw l=>l.nx R σ H W ρ s (FrW.refl H W) hw⟩
theorem svs_one (h:SV X T st ws):SVs X T [st] ws:=by
 obtain ⟨t,pt,g⟩:=h
 exact ⟨_,pss_one pt,g⟩
theorem svs_cons (h:SV X T st ws) (hr:SVs X T rest wu):SVs X T (st::rest) (wSeq ws wu):=by
 obtain ⟨t,pt,g⟩:=h
 obtain ⟨u,pu,gu⟩:=hr
 refine ⟨_,pss_cons pt pu,λz R σ H W ρ P E s hw l=>g z R σ H W ρ _ _ s hw ⟨λR' σ' H' W' ρ' s' f q=>gu z R' σ' H' W' ρ' P E s' q (l.step f),l.bk,l.ct,l.rt,l.xc⟩⟩
def wRet (w:WE):WS:=λP ρ=>w ρ λd ρ'=>P.rt d ρ'
theorem sv_ret (he:EV X T m true e w):SV X T (.Return (some e) pos) (wRet w):=by
 obtain ⟨te,pe,ge⟩:=he
 exact ⟨_,ps_ret pe,λz R σ H W ρ P E s hw l=>ge z R σ H W ρ _ _ s hw λv H1 W1 d ρ1 F p q=>l.rt R v σ H1 W1 ρ1 d F p.sr p.fr p.rep (p.own rfl).1 (λa ha=>⟨((p.own rfl).2 a ha).2,.inr ((p.own rfl).2 a ha).1⟩) q⟩
theorem sv_retN:SV X T (.Return none pos) (λP ρ=>P.rt .non ρ) :=
 ⟨_,ps_retN,λz R σ H W ρ P E s hw l=>l.rt R .non σ H W ρ .non [] s (FrW.refl H W) .non List.nodup_nil (λa m=>nomatch m) hw⟩
def wRetS (i:Nat):WS:=λP ρ=>oget (look ρ i) λd=>P.rt d (ρ.set i none)
theorem sv_retS {i:Nat} (ht:T.own i=true:=by rfl) (hN:X.N[i]? = some x:=by rfl) (hv:Vis X.env.scope x:=by first | exact Or.inl rfl | exact Or.inr (Or.inl rfl) | exact Or.inr (Or.inr rfl)) (hd:(x == ("__debug__" : Str))=false:=by decide)
  (hcd:(x == ("__classdict__" : Str))=false:=by decide):SV X T (.Return (some (.Name x p)) pos) (wRetS i):=by
 refine ⟨_,ps_ret (pe_var hN hv hd hcd),λz R σ H W ρ P E s hw l=>?_⟩
 obtain ⟨d,hl,q⟩:=oget_some hw
 obtain ⟨fp,s0⟩:=s
 obtain ⟨v,h1,h2⟩:=s0.at_ i d hl
 have key:∀j e,look (ρ.set i none) j=some e->j≠i/\look ρ j=some e:=λj e h=>by
  rw [look_set] at h
  split at h
  ·cases h
  ·refine ⟨λz=>?_,h⟩
   subst z
   rename_i hn
   exact hn ⟨rfl,look_lt hl⟩
 refine ⟨v,h1,l.rt R v σ H (λa=>W a/\a∉fp i) (ρ.set i none) d (fp i) ⟨fp,?_⟩ ?_ h2 (s0.own i d hl ht).1 (λa ha=>⟨λh=>h.2 ha,.inl ((s0.own i d hl ht).2 a ha)⟩) q⟩
 ·refine ⟨by rw [List.length_set];exact s0.len,λa h=>s0.wd a h.1,λj e h=>s0.at_ j e (key j e h).2,λj e h t=>⟨(s0.own j e (key j e h).2 t).1,λa ha=>⟨(s0.own j e (key j e h).2 t).2 a ha,λha'=>s0.dis j i e d (key j e h).2 hl t ht (key j e h).1 a ha ha'⟩⟩,
   λj e h t=>s0.ro j e (key j e h).2 t,λa h=>s0.wr a h.1,s0.rd,λj k e e' h h' t t'=>s0.dis j k e e' (key j e h).2 (key k e' h').2 t t',s0.fix⟩
 ·exact ⟨λb ob e _=>e,λb e=>e,λb ob e _=>e,λb h=>.inl h.1⟩
theorem SR0.bind {K:PySem.W.Frag} {z:Nat->V} {R:Addr->Prop} {H:Hp} {W:Addr->Prop} {σ:St} {ρ:Env} {fp:Nat->List Addr} {i:Nat} {d:D} {v:V} {F:List Addr} (s:SR0 K T z R H W σ ρ fp) (hio:i∉T.io) (r:Rep K H d v F) (nd:F.Nodup) (nw:∀a∈F,¬W a/\¬R a) :
  ∃R',SR K T z R' H (λa=>W a\/(T.own i=true/\a∈F)) (σ.set i (some v)) (ρ.set i (some d)):=by
 refine ⟨λa=>R a\/(T.own i=false/\a∈F),λj=>if j=i then F else fp j,?_,?_,?_,?_,?_,?_,?_,?_,?_⟩
 ·rw [List.length_set,List.length_set];exact s.len
 ·intro a ha
  rcases ha with ha | ⟨_,ha⟩
  ·exact s.wd a ha
  ·exact r.dom a ha
 ·intro j e hj
  rw [look_set] at hj
  split at hj
  ·rename_i h
   obtain ⟨rfl,hlt⟩:=h
   cases hj
   exact ⟨v,by rw [List.getElem?_set_self (by rw [← s.len];exact hlt)],by rw [if_pos rfl];exact r⟩
  ·rename_i h
   obtain ⟨u,h1,h2⟩:=s.at_ j e hj
   have hji:j≠i:=λz=>h ⟨z,by rw [← z];exact look_lt hj⟩
   exact ⟨u,by rw [List.getElem?_set_ne (Ne.symm hji)];exact h1,by rw [if_neg hji];exact h2⟩
 ·intro j e hj hto
  by_cases hji:j=i
  ·subst hji;simp only [if_pos];exact ⟨nd,λa h=>.inr ⟨hto,h⟩⟩
  ·rw [look_set_ne hji] at hj
   simp only [if_neg hji]
   exact ⟨(s.own j e hj hto).1,λa h=>.inl ((s.own j e hj hto).2 a h)⟩
 ·intro j e hj hto
  by_cases hji:j=i
  ·subst hji;simp only [if_pos];exact λa h=>.inr ⟨hto,h⟩
  ·rw [look_set_ne hji] at hj
   simp only [if_neg hji]
   exact λa h=>.inl (s.ro j e hj hto a h)
 ·intro a ha hr
  rcases ha with ha | ⟨t,ha⟩
  ·rcases hr with hr | ⟨_,hr⟩
   ·exact s.wr a ha hr
   ·exact (nw a hr).1 ha
  ·rcases hr with hr | ⟨t',hr⟩
   ·exact (nw a ha).2 hr
   ·rw [t] at t';cases t'
 ·intro a hr
  rcases hr with hr | ⟨_,hr⟩
  ·exact s.rd a hr
  ·exact r.dom a hr
 ·intro j k e e' hj hk tj tk hne a ha ha'
  by_cases hji:j=i
  ·subst hji
   have hkj:k≠j:=λz=>hne z.symm
   rw [look_set_ne hkj] at hk
   simp only [if_pos,if_neg hkj] at ha ha'
   exact (nw a ha).1 ((s.own k e' hk tk).2 a ha')
  ·rw [look_set_ne hji] at hj
   simp only [if_neg hji] at ha
   by_cases hki:k=i
   ·subst hki
    simp only [if_pos] at ha'
    exact (nw a ha').1 ((s.own j e hj tj).2 a ha)
   ·rw [look_set_ne hki] at hk
    simp only [if_neg hki] at ha'
    exact s.dis j k e e' hj hk tj tk hne a ha ha'
 ·intro j hj
  have hji:j≠i:=λz=>hio (z ▸ hj)
  rw [List.getElem?_set_ne (Ne.symm hji)]
  exact s.fix j hj
def wSet (i:Nat) (w:WE):WS:=λP ρ=>w ρ λd ρ'=>P.nx (ρ'.set i (some d))
theorem frw_more {H H':Hp} {W W':Addr->Prop} {G:Addr->Prop} (f:FrW H W H' W') (n:∀a,G a->H a=none):FrW H W H' (λa=>W' a\/G a) :=
 ⟨f.keep,f.dom,f.imm,λb h=>h.elim (f.new b) λh=>.inr (n b h)⟩
theorem sv_set {i:Nat} {pos':Pos} (he:EV X T m true e w) (hN:X.N.Nodup) (hi:X.N[i]? = some x:=by rfl) (hio:i∉T.io:=by decide) (hx:Loc X.env.scope x:=by first | exact Or.inl rfl | exact Or.inr rfl) (hs:swapsWith e (some (.Name x pos')) pos.line X.env=pure false:=by rfl)
  (hf:X.fn x=true\/X.env.scope.names.lookup x=some .local:=by first | exact .inl rfl | exact .inr rfl | assumption):SV X T (.Assign [.Name x pos'] e pos) (wSet i w):=by
 obtain ⟨te,pe,ge⟩:=he
 refine ⟨_,ps_set hN hi hx pe hs hf,λz R σ H W ρ P E s hw l=>ge z R σ H W ρ _ _ s hw λv H1 W1 d ρ1 F p q=>?_⟩
 obtain ⟨fp,s1⟩:=p.sr
 obtain ⟨nd,nw⟩:=p.own rfl
 obtain ⟨R',s2⟩:=s1.bind (i:=i) hio p.rep nd (λa ha=>⟨(nw a ha).2,s.nr (nw a ha).1⟩)
 exact l.nx R' _ H1 _ _ s2 (frw_more p.fr λa h=>(nw a h.2).1) q
theorem sv_setC {i:Nat} {pos':Pos} (he:∃te,PS X (.Assign [.Name x pos'] e pos) (tAsg te (gName i))/\∀(z:Nat->V) (R:Addr->Prop) (σ:St) (H:Hp) (W:Addr->Prop) (ρ:Env) (Q:D->Env->Prop) (Q':VK),SR X.K T z R H W σ ρ->w ρ Q ->
  (∀v H' W' d ρ' F,Post X.K T z R m true H W σ ρ H' W' ρ' d v F->Q d ρ'->Q' v H')->te σ H Q') (hio:i∉T.io:=by decide):SV X T (.Assign [.Name x pos'] e pos) (wSet i w):=by
 obtain ⟨te,pe,ge⟩:=he
 refine ⟨_,pe,λz R σ H W ρ P E s hw l=>ge z R σ H W ρ _ _ s hw λv H1 W1 d ρ1 F p q=>?_⟩
 obtain ⟨fp,s1⟩:=p.sr
 obtain ⟨nd,nw⟩:=p.own rfl
 obtain ⟨R',s2⟩:=s1.bind (i:=i) hio p.rep nd (λa ha=>⟨(nw a ha).2,s.nr (nw a ha).1⟩)
 exact l.nx R' _ H1 _ _ s2 (frw_more p.fr λa h=>(nw a h.2).1) q
abbrev WG:=D->Env->(Env->Prop)->Prop
def GV (X:Cx) (T:Tg) (tg:Expr) (wg:WG):Prop :=
 ∃t,PG X tg t/\∀(z:Nat->V) (R:Addr->Prop) (σ:St) (H:Hp) (W:Addr->Prop) (ρ:Env) (d:D) (v:V) (Q:Env->Prop) (Q':St->Hp->Prop),SR X.K T z R H W σ ρ->Rep X.K H d v []->d.pure=true->wg d ρ Q ->
  (∀R' W' σ' ρ',SR X.K T z R' H W' σ' ρ'->FrW H W H W'->Q ρ'->Q' σ' H)->t v σ H Q'
def GVs (X:Cx) (T:Tg) (tgs:List Expr) (wg:List D->Env->(Env->Prop)->Prop):Prop :=
 ∃t,PGs X tgs t/\∀(z:Nat->V) (R:Addr->Prop) (σ:St) (H:Hp) (W:Addr->Prop) (ρ:Env) (ds:List D) (vs:List V) (Q:Env->Prop) (Q':St->Hp->Prop),SR X.K T z R H W σ ρ->Reps X.K H ds vs []->pureL ds=true->wg ds ρ Q ->
  (∀R' W' σ' ρ',SR X.K T z R' H W' σ' ρ'->FrW H W H W'->Q ρ'->Q' σ' H)->t vs σ H Q'
def gN (i:Nat):WG:=λd ρ Q=>Q (ρ.set i (some d))
theorem gv_name {i:Nat} (hN:X.N.Nodup) (hi:X.N[i]? = some x:=by rfl) (hio:i∉T.io:=by decide) (hx:Loc X.env.scope x:=by first | exact Or.inl rfl | exact Or.inr rfl) (hf:X.fn x=true\/X.env.scope.names.lookup x=some .local:=by first | exact .inl rfl | exact .inr rfl | assumption):GV X T (.Name x pos) (gN i):=by
 refine ⟨_,pg_name hN hi hx hf,λz R σ H W ρ d v Q Q' s r hp hw k=>?_⟩
 obtain ⟨fp,s1⟩:=s
 obtain ⟨R',s2⟩:=s1.bind (i:=i) hio r List.nodup_nil (λa ha=>nomatch ha)
 exact k R' _ _ _ s2 (frw_more (FrW.refl H W) λa h=>nomatch h.2) hw
def gNilD:List D->Env->(Env->Prop)->Prop
 | [],ρ,Q=>Q ρ
 | _,_,_=>False
def gConsD (wg:WG) (wgs:List D->Env->(Env->Prop)->Prop):List D->Env->(Env->Prop)->Prop
 | d::r,ρ,Q=>wg d ρ λρ'=>wgs r ρ' Q
 | _,_,_=>False
theorem Reps.inv {K:PySem.W.Frag} {H:Hp} {d:D} {ds:List D} {vs:List V} {F:List Addr} (r:Reps K H (d::ds) vs F):∃v us F1 F2,vs=v::us/\Rep K H d v F1/\Reps K H ds us F2:=by
 cases r with
 | cons h r=>exact ⟨_,_,_,_,rfl,h,r⟩
theorem gvs_nil:GVs X T [] gNilD:=by
 refine ⟨_,pgs_nil,λz R σ H W ρ ds vs Q Q' s r hp hw k=>?_⟩
 cases ds with
 | nil=>cases r;exact ⟨rfl,k R W σ ρ s (FrW.refl H W) hw⟩
 | cons=>exact hw.elim
theorem gvs_cons {wg:WG} {wgs:List D->Env->(Env->Prop)->Prop} (h:GV X T e wg) (hr:GVs X T es wgs) (hs:(assignEach (e::es) X.env).map (·.2)=assign e X.env::(assignEach es X.env).map (·.2):=by rfl):GVs X T (e::es) (gConsD wg wgs):=by
 obtain ⟨t,pt,g⟩:=h
 obtain ⟨u,pu,gu⟩:=hr
 refine ⟨_,pgs_cons pt pu hs,λz R σ H W ρ ds vs Q Q' s r hp hw k=>?_⟩
 cases ds with
 | nil=>exact hw.elim
 | cons d ds =>
  obtain ⟨v,vs,F,G,rfl,r1,r2⟩:=r.inv
  simp only [pureL,Bool.and_eq_true] at hp
  obtain ⟨e1,r1⟩:=r1.pure hp.1
  obtain ⟨e2,r2⟩:=r2.pure hp.2
  refine ⟨v,vs,rfl,g z R σ H W ρ d v _ _ s r1 hp.1 hw λR' W' σ' ρ' s' f q=>?_⟩
  exact gu z R' σ' H W' ρ' ds vs Q Q' s' r2 hp.2 q λR2 W2 σ2 ρ2 s2 f2 q2=>k R2 W2 σ2 ρ2 s2 (f.trans f2) q2
def gTupD (n:Nat) (wgs:List D->Env->(Env->Prop)->Prop):WG:=λd ρ Q=>match d with
 | .tup ds=>ds.length=n/\wgs ds ρ Q
 | _=>False
theorem gv_tup {kt:Nat} {n:Nat} {wgs:List D->Env->(Env->Prop)->Prop} (h:GVs X T es wgs) (hc:X.calm=true:=by rfl) (hn:(assignEach es X.env).length=n:=by rfl) (hst:(assignEach es X.env).findIdx? (·.1)=none:=by rfl):GV X T (.Tuple es kt pos) (gTupD n wgs):=by
 obtain ⟨t,pt,g⟩:=h
 refine ⟨_,pg_tup hc pt hn hst,λz R σ H W ρ d v Q Q' s r hp hw k=>?_⟩
 cases d with
 | tup ds =>
  cases r with
  | @tup a xs _ _ e1 r=>exact ⟨a,xs,rfl,.of e1,by rw [r.length];exact hw.1,g z R σ H W ρ ds xs Q Q' s r (by simpa [D.pure] using hp) hw.2 k⟩
 | _=>exact hw.elim
def wAsg (w:WE) (wg:WG):WS:=λP ρ=>w ρ λd ρ'=>d.pure=true/\wg d ρ' P.nx
theorem sv_asg {tg:Expr} {wg:WG} (he:EV X T m o e w) (hg:GV X T tg wg) (hs:swapsWithSole [tg] e pos.line X.env=pure false:=by rfl) (hw:swappedStores [tg] e X.env=pure none:=by rfl)
  (h1:(assignEach [tg] X.env).map (·.2)=[assign tg X.env]:=by rfl):SV X T (.Assign [tg] e pos) (wAsg w wg):=by
 obtain ⟨te,pe,ge⟩:=he
 obtain ⟨t,pt,g⟩:=hg
 refine ⟨_,ps_asg pe pt hs hw h1,λz R σ H W ρ P E s hw l=>ge z R σ H W ρ _ _ s hw λv H1 W1 d ρ1 F p ⟨hp,q⟩=>?_⟩
 obtain ⟨_,r⟩:=p.rep.pure hp
 exact g z R σ H1 W1 ρ1 d v _ _ p.sr r hp q λR' W' σ' ρ' s' f q'=>l.nx R' σ' H1 W' ρ' s' (p.fr.trans f) q'
def dSet (s c d:D) (k:D->Prop):Prop:=match s with
 | .lst xs=>onI c λj=>oget (ixN xs.length j) λn=>k (.lst (xs.set n d))
 | .dik kvs=>onK c λkey=>kvs.length<sizeLine/\k (.dik (putD kvs key d))
 | .dit kvs=>onT c λl=>kvs.length<sizeLine/\oget (keysOf l) λks=>k (.dit (putD kvs ks d))
 | _=>False
theorem set_dict (hu:X.A.units+1<cLine):PSet X (λo i v H Q=>∃a H',o=.ref a/\DPut H a i v H'/\Q H'):=by
 intro pins s σ H o i v ov iv u Q I ro ri rv h
 obtain ⟨a,H',rfl,g,q⟩:=h
 cases ro
 exact d_setItem hu I g ri rv λs' I'=>⟨H',I',q⟩
theorem PSet.or {t u:TSet} (h:PSet X t) (h':PSet X u):PSet X (λo i v H Q=>t o i v H Q\/u o i v H Q):=by
 intro pins s σ H o i v ov iv u Q I ro ri rv q
 rcases q with q | q
 ·exact h pins s σ H o i v ov iv u Q I ro ri rv q
 ·exact h' pins s σ H o i v ov iv u Q I ro ri rv q
def wSetIx (i:Nat) (wv wi:WE):WS:=λP ρ=>wv ρ λd ρ1=>d.pure=true/\(look ρ1 i).isSome=true/\wi ρ1 λc ρ2=>oget (look ρ2 i) λs=>dSet s c d λs'=>P.nx (ρ2.set i (some s'))
theorem sv_setIx {i:Nat} {v ix:Expr} {wv wi:WE} {px ps':Pos} (hu:X.A.units+1<cLine) (hv:EV X T m1 o1 v wv) (hi:EV X T m2 o2 ix wi) (ht:T.own i=true:=by rfl) (hN:X.N[i]? = some x:=by rfl)
  (hvis:Vis X.env.scope x:=by first | exact Or.inl rfl | exact Or.inr (Or.inl rfl) | exact Or.inr (Or.inr rfl)) (hd:(x == ("__debug__" : Str))=false:=by decide) (hcd:(x == ("__classdict__" : Str))=false:=by decide)
  (ha:∀v,assign (.Subscript (.Name x px) ix ps') X.env v=(do
   let ov ← holding [v] (eval (.Name x px) X.env)
   let iv ← holding [v,ov] (eval ix X.env)
   standAt ps'
   holding [v,ov,iv] (setItem ov iv v)
   release [v,ov,iv] []):=by intro _;rfl) (hs:swapsWithSole [.Subscript (.Name x px) ix ps'] v pos.line X.env=pure false:=by rfl) (hw:swappedStores [.Subscript (.Name x px) ix ps'] v X.env=pure none:=by rfl)
  (h1:(assignEach [.Subscript (.Name x px) ix ps'] X.env).map (·.2)=[assign (.Subscript (.Name x px) ix ps') X.env]:=by rfl):SV X T (.Assign [.Subscript (.Name x px) ix ps'] v pos) (wSetIx i wv wi):=by
 obtain ⟨tv,pv,gv⟩:=hv
 obtain ⟨ti,pi,gi⟩:=hi
 refine ⟨_,ps_asg pv (pg_sub (pe_var hN hvis hd hcd) pi (PSet.or set_list (set_dict hu)) ha) hs hw h1,λz R σ H W ρ P E s hw l=>?_⟩
 refine gv z R σ H W ρ _ _ s hw λv1 H1 W1 d ρ1 F1 p ⟨hp,hso,q⟩=>?_
 obtain ⟨-,rv⟩:=p.rep.pure hp
 obtain ⟨d0,hl0⟩:=Option.isSome_iff_exists.mp hso
 obtain ⟨fp0,s0⟩:=id p.sr
 obtain ⟨u,hu',_⟩:=s0.at_ i d0 hl0
 refine ⟨u,hu',gi z R σ H1 W1 ρ1 _ _ p.sr q λv2 H2 W2 c ρ2 F2 p2 q2=>?_⟩
 obtain ⟨d1,hl,q2⟩:=oget_some q2
 obtain ⟨fp,s2⟩:=id p2.sr
 obtain ⟨u',hu2,ru⟩:=s2.at_ i d1 hl
 have:u'=u:=by rw [hu'] at hu2;cases hu2;rfl
 subst this
 have rv2:Rep X.K H2 d v1 []:=rv.keep p2.fr λa m=>nomatch m
 obtain ⟨nd,sw⟩:=s2.own i d1 hl ht
 have fin:∀(lad:Addr) (ob:HO) (d':D) (F':List Addr),lad∈fp i->imm ob=false->Rep X.K (upd H2 lad ob) d' u' F'->F'.Nodup->(∀a∈F',a∈fp i)->P.nx (ρ2.set i (some d'))->E.nx σ (upd H2 lad ob):=λlad ob d' F' hm him r' nd' sub hq=>by
  have hW:=sw lad hm
  exact l.nx R σ _ _ _ (s2.write hl ht hu2 hm upd_keep ⟨ob,upd_same,him⟩ r' nd' λa ha=>.inl (sub a ha)) ((p.fr.trans p2.fr).write hW (s2.wd lad hW) upd_keep ⟨ob,upd_same,him⟩ λa ha=>.inl (sw a (sub a ha))) hq
 have nilnot:∀a:Addr,a∉([]:List Addr):=λa h=>nomatch h
 generalize hF:fp i=F at *
 cases d1 with
 | lst ds =>
  obtain ⟨j,rfl,q2⟩:=onI_inv q2
  obtain ⟨a,xs,G,rfl,rfl,e,r⟩:=ru.iLst
  obtain ⟨n,hn,hq⟩:=oget_some q2
  have rc:=p2.rep.iInt
  subst rc
  have hlt:=(ixN_seq hn).2.1
  obtain ⟨dn,hdn⟩:∃dn,ds[n]? = some dn:=⟨ds[n],List.getElem?_eq_getElem hlt⟩
  obtain ⟨y,A,B,C,hy,hG,rB,rA,rC⟩:=r.split hdn
  obtain ⟨na,ndG⟩:=List.nodup_cons.mp nd
  have sub:=sub3 hG
  have nAC:a∉A++C:=λh=>na (sub.subset h)
  have hxl:n<xs.length:=by rw [r.length];exact hlt
  refine .inl ⟨a,xs,j,n,rfl,rfl,e,by rw [r.length];exact hn,?_⟩
  refine fin a _ _ (a::(A++C)) List.mem_cons_self rfl (.lst upd_same ?_) (List.nodup_cons.mpr ⟨nAC,ndG.sublist sub⟩) (λb hb=>?_) hq
  ·rw [take_set_drop hlt,take_set_drop hxl]
   have:=(rA.upd (ob':=.lst (xs.take n++v1::xs.drop (n+1))) e rfl (λh=>nAC (List.mem_append.mpr (.inl h)))).append (.cons (rv2.upd e rfl (nilnot a)) (rC.upd e rfl λh=>nAC (List.mem_append.mpr (.inr h))))
   simpa using this
  ·rcases List.mem_cons.mp hb with rfl | hb
   ·exact List.mem_cons_self
   ·exact List.mem_cons_of_mem _ (sub.subset hb)
 | dik ds =>
  obtain ⟨key,⟨hz,hq⟩,hy⟩:=onK_inv (show onK c (λkey=>ds.length<sizeLine/\P.nx (ρ2.set i (some (.dik (putD ds key d))))) from q2)
  obtain ⟨a,kvs,G,rfl,rfl,e,r⟩:=ru.iDik
  obtain rfl:=hy p2.rep
  obtain ⟨na,ndG⟩:=List.nodup_cons.mp nd
  obtain ⟨G',rp,sub⟩:=(r.upd (ob':=.dK (putK kvs key v1)) e rfl na).put (k:=key) (rv2.upd e rfl (nilnot a))
  refine .inr ⟨a,_,rfl,DPut.k (k:=key) e (by rw [r.length];exact hz),?_⟩
  refine fin a _ _ (a::G') List.mem_cons_self rfl (.dik upd_same rp) (List.nodup_cons.mpr ⟨λh=>na (sub.subset h),ndG.sublist sub⟩) (λb hb=>?_) hq
  rcases List.mem_cons.mp hb with rfl | hb
  ·exact List.mem_cons_self
  ·exact List.mem_cons_of_mem _ (sub.subset hb)
 | dit ds =>
  obtain ⟨l',rfl,hz,q2⟩:=onT_inv q2
  obtain ⟨a,kvs,G,rfl,rfl,e,r⟩:=ru.iDit
  obtain ⟨na,ndG⟩:=List.nodup_cons.mp nd
  obtain ⟨ks,hk,hq⟩:=oget_some q2
  obtain ⟨b,ys,rfl,e2,r2⟩:=p2.rep.iTup
  have hx:=r2.keys hk
  subst hx
  obtain ⟨G',rp,sub⟩:=(r.upd (ob':=.dT (putK kvs ks v1)) e rfl na).put (k:=ks) (rv2.upd e rfl (nilnot a))
  refine .inr ⟨a,_,rfl,DPut.t (k:=ks) e e2 (by rw [r.length];exact hz),?_⟩
  refine fin a _ _ (a::G') List.mem_cons_self rfl (.dit upd_same rp) (List.nodup_cons.mpr ⟨λh=>na (sub.subset h),ndG.sublist sub⟩) (λb hb=>?_) hq
  rcases List.mem_cons.mp hb with rfl | hb
  ·exact List.mem_cons_self
  ·exact List.mem_cons_of_mem _ (sub.subset hb)
 | _=>exact (show False from q2).elim
def wIf (wt:WT) (w u:WS):WS:=λP ρ=>wt ρ λb ρ'=>if b=true then w P ρ' else u P ρ'
theorem sv_if {c:Expr} {sa sb:List Stmt} (hc:TV X T m c wt) (ha:SVs X T sa ws) (hb:SVs X T sb wu):SV X T (.If c sa sb pos) (wIf wt ws wu):=by
 obtain ⟨tc,pc,gc⟩:=hc
 obtain ⟨ta,pa,ga⟩:=ha
 obtain ⟨tb,pb,gb⟩:=hb
 refine ⟨_,ps_if pc pa pb,λz R σ H W ρ P E s hw l=>gc z R σ H W ρ _ _ s hw λb H1 W1 ρ1 p q=>?_⟩
 cases b with
 | true=>exact ga z R σ H1 W1 ρ1 P E p.sr q (l.step p.fr)
 | false=>exact gb z R σ H1 W1 ρ1 P E p.sr q (l.step p.fr)
def wFor (wl:WL) (wg:WG) (wb:WS):WS:=λP ρ=>wl ρ λds ρ1=>pureL ds=true/\∃I:Nat->Env->Prop,I 0 ρ1 /\
 (∀i d ρ,ds[i]? = some d->I i ρ->wg d ρ λρ'=>wb { P with nx:=I (i+1),ct:=I (i+1),bk:=P.nx } ρ')/\∀ρ,I ds.length ρ->P.nx ρ
theorem wz_true (W:Addr->Prop):wz true W=W:=by funext a;simp [wz]
theorem sv_for {tg iter:Expr} {body:List Stmt} {wl:WL} {wg:WG} (hp:PassesOwn (model X.prog X.w) X.A X.env X.xe) (hi:IV X T m true tg iter wl) (hg:GV X T tg wg) (hb:SVs X T body ws) (hc:X.calm=true:=by rfl)
  (hs:∀x,foldedSetIterable iter X.env x=pure x:=by intro _;rfl):SV X T (.For tg iter body [] pos) (wFor wl wg ws):=by
 obtain ⟨ti,pi,gi⟩:=hi
 obtain ⟨tt,pt,gt⟩:=hg
 obtain ⟨tb,pb,gb⟩:=hb
 refine ⟨_,ps_for hp hc pi pt pb hs,λz R σ H W ρ P E s hw l=>gi z R σ H W ρ _ _ s hw λJ H1 W1 ds ρ1 p jd q=>?_⟩
 rw [wz_true] at jd
 obtain ⟨hpu,I,h0,hI,hd⟩:=q
 refine ⟨λi n σ' H'=>n=ds.length-i/\i<=ds.length/\∃R' W' ρ',SR X.K T z R' H' W' σ' ρ'/\FrW H1 W1 H' W'/\I i ρ',⟨ds.length,by simp,Nat.zero_le _,R,W1,ρ1,p.sr,FrW.refl _ _,h0⟩,?_⟩
 rintro i n σ2 H2 ⟨rfl,hi,R2,W2,ρ2,s2,f2,i2⟩
 obtain ⟨j1,j2⟩:=jd i H2 W2 f2
 by_cases hlt:i<ds.length
 ·have hdi:ds[i]? = some ds[i]:=List.getElem?_eq_getElem hlt
  obtain ⟨hgo,hy⟩:=j2 _ hdi
  have hpd:(ds[i]).pure=true:=pureL_iff.mp hpu _ (List.getElem_mem hlt)
  refine .inr ⟨hgo,λσ' H'=>i+1<=ds.length/\∃R' W' ρ',SR X.K T z R' H' W' σ' ρ'/\FrW H1 W1 H' W'/\I (i+1) ρ',λσ' H' ⟨h1,h2⟩=>⟨ds.length-(i+1),by omega,rfl,h1,h2⟩,λv H3 yl=>?_⟩
  obtain ⟨sm,F,rv,_⟩:=hy v H3 yl
  obtain ⟨-,rv⟩:=rv.pure hpd
  have f3:FrW H1 W1 H3 W2:=f2.trans (FrW.same W2 sm)
  refine gt z R2 σ2 H3 W2 ρ2 _ v _ _ (s2.same sm) rv hpd (hI i _ ρ2 hdi i2) λR4 W4 σ4 ρ4 s4 f4 q4=>?_
  refine gb z R4 σ4 H3 W4 ρ4 _ _ s4 q4 ⟨?_,?_,?_,?_,?_⟩
  ·exact λR' σ' H' W' ρ' s' f' h=>⟨hlt,R',W',ρ',s',(f3.trans f4).trans f',h⟩
  ·exact λR' σ' H' W' ρ' s' f' h=>l.nx R' σ' H' W' ρ' s' (((p.fr.trans f3).trans f4).trans f') h
  ·exact λR' σ' H' W' ρ' s' f' h=>⟨hlt,R',W',ρ',s',(f3.trans f4).trans f',h⟩
  ·exact (((l.step p.fr).step f3).step f4).rt
  ·exact (((l.step p.fr).step f3).step f4).xc
 ·have e:i=ds.length:=by omega
  subst e
  exact .inl ⟨j1 (Nat.le_refl _),l.nx R2 σ2 H2 W2 ρ2 s2 (p.fr.trans f2) (hd ρ2 i2)⟩
end
end PV
namespace PV
open PySem PySem.Spec L2
open PyProof.Rows (envOfC)
def TR:Tg:={ own:=λ_=>false,io:=[] }
def Any (H:Hp):Addr->Prop:=λa=>∃ob,H a=some ob/\imm ob=false
theorem SR.readonly {K:PySem.W.Frag} {T:Tg} {z:Nat->V} {H:Hp} {σ:St} {ρ:Env} (hio:T.io=[]) (hlen:ρ.length=σ.length) (h:∀i d,look ρ i=some d->T.own i=false/\∃v F,σ[i]? = some (some v)/\Rep K H d v F) :
  SR K T z (Any H) H (λ_=>False) σ ρ:=by
 have ch:∀i,∃F,∀d,look ρ i=some d->∃v,σ[i]? = some (some v)/\Rep K H d v F:=λi=>by
  cases hl:look ρ i with
  | none=>exact ⟨[],λd e=>nomatch e⟩
  | some d =>
   obtain ⟨_,v,F,h1,h2⟩:=h i d hl
   exact ⟨F,λd' e=>by cases e;exact ⟨v,h1,h2⟩⟩
 refine ⟨λi=>Classical.choose (ch i),hlen,λa h=>h.elim,λi d hl=>Classical.choose_spec (ch i) d hl,λi d hl ht=>?_,λi d hl ht a ha=>?_,λa h=>h.elim,λa h=>h,λi j d e hl hl' ht=>?_,λi hi=>?_⟩
 ·rw [(h i d hl).1] at ht;cases ht
 ·obtain ⟨v,_,r⟩:=Classical.choose_spec (ch i) d hl
  exact r.dom a ha
 ·rw [(h i d hl).1] at ht;cases ht
 ·rw [hio] at hi;cases hi
theorem look_start:∀{ds:List D} {n i:Nat},look (ds.map some++List.replicate n none) i=ds[i]?
 | [],0,i=>by simp [look]
 | [],n+1,0=>by simp [look,List.replicate_succ]
 | [],n+1,i+1=>by
  have:=look_start (ds:=[]) (n:=n) (i:=i)
  simpa [look,List.replicate_succ] using this
 | d::ds,n,0=>by simp [look]
 | d::ds,n,i+1=>by
  have:=look_start (ds:=ds) (n:=n) (i:=i)
  simpa [look] using this
theorem start_get {N:List Str} {vs:List V} {i:Nat} {v:V} (h:vs[i]? = some v):(L2.start N vs)[i]? = some (some v):=by
 have hi:=(List.getElem?_eq_some_iff.mp h).1
 unfold L2.start
 rw [List.getElem?_append_left (by simpa using hi),List.getElem?_map,h]
 rfl
section
variable {P:Program} {w:World} {K:PySem.W.Frag} {mg:Str->Option Value} {base:Heap} {x qual:Str} {st:Stmt} {f:Addr} {fd:FuncData} {N ps:List Str} {k:Nat} {T:Tg} {ww:WS}
def env0 (N:List Str) (ds:List D):Env:=ds.map some++List.replicate (N.length-ds.length) none
theorem fn_ro {g:GA} (F:Fun K x qual st f fd) (S:FnScope N ps (defScope st)) (hio:T.io=[]) (hown:∀i,i<ps.length->T.own i=false) (hg:∀ds kk,g ds kk->ds.length=ps.length)
  (hb:∀(cdv:Value) (A:Around) (outer:List PySem.Env) (s:Shared) (H:Hp) (E:XK),Room k (A.deeper (envOfC qual (defScope st) s.heap.objs.size f cdv))->SVs (cxOf CX0 P w K mg base N qual (defScope st) f cdv A outer s H E).nox T (defBody st) ww)
  (hr:∀ds kk,g ds kk->ww { nx:=λ_=>kk .non,rt:=λd _=>kk d } (env0 N ds)):FnOk P w K mg base CX0 (k+1) f fd ps (spR K g):=by
 refine F.ok S (λvs H Q E h=>?_) (λcdv A outer s H vs Q E hroom h=>?_)
 ·obtain ⟨ds,Fp,kk,rep,hgk,_⟩:=h
  rw [rep.length];exact hg ds kk hgk
 ·obtain ⟨ds,Fp,kk,rep,hgk,q⟩:=h
  obtain ⟨ts,pts,gts⟩:=hb cdv A outer s H E hroom
  have hl:=rep.length
  have hds:=hg ds kk hgk
  refine ⟨ts,pts,gts (λ_=>.non) (Any H) (L2.start N vs) H (λ_=>False) (env0 N ds) _ _ (SR.readonly hio ?_ λi d hli=>?_) (hr ds kk hgk) ⟨?_,?_,?_,?_,λ_ _ _ _ _ _ _ _ hk=>hk.elim⟩⟩
  ·unfold env0 L2.start;simp [hl]
  ·unfold env0 at hli
   rw [look_start] at hli
   obtain ⟨v,B,h1,h2,_⟩:=rep.get hli
   exact ⟨hown i (by rw [← hds];exact (List.getElem?_eq_some_iff.mp hli).1),v,B,start_get h1,h2⟩
  ·intro R' σ' H' W' ρ' s' fr hk
   have sm:Same H H':=λb o e=>fr.keep b o e (λz=>z)
   exact q .non H' .non [] ⟨sm,.non,List.nodup_nil,λ_ m=>nomatch m⟩ hk
  ·exact λR' σ' H' W' ρ' s' fr hk=>hk.elim
  ·exact λR' σ' H' W' ρ' s' fr hk=>hk.elim
  ·intro R' v σ' H' W' ρ' d F' s' fr r nd nw hk
   have sm:Same H H':=λb o e=>fr.keep b o e (λz=>z)
   exact q v H' d F' ⟨sm,r,nd,λa ha=>(nw a ha).2.resolve_left id⟩ hk
theorem fn_io {p:Nat} {g:GI} (F:Fun K x qual st f fd) (S:FnScope N ps (defScope st)) (hio:T.io=[p]) (hown:T.own p=true) (hg:∀ds kk,g ds kk->ds.length=ps.length/\∃d0,ds[p]? = some d0/\flatD d0=true)
  (hb:∀(cdv:Value) (A:Around) (outer:List PySem.Env) (s:Shared) (H:Hp) (E:XK),Room k (A.deeper (envOfC qual (defScope st) s.heap.objs.size f cdv))->SVs (cxOf CX0 P w K mg base N qual (defScope st) f cdv A outer s H E).nox T (defBody st) ww)
  (hr:∀ds kk,g ds kk->ww { nx:=λρ=>oget (look ρ p) λd'=>flatD d'=true/\kk .non d',rt:=λd ρ=>oget (look ρ p) λd'=>flatD d'=true/\kk d d' } (env0 N ds)):FnOk P w K mg base CX0 (k+1) f fd ps (spI K p g):=by
 refine F.ok S (λvs H Q E h=>?_) (λcdv A outer s H vs Q E hroom h=>?_)
 ·obtain ⟨ds,a,kk,rep,hp,hgk,_⟩:=h
  rw [rep.length];exact (hg ds kk hgk).1
 ·obtain ⟨ds,a,kk,rep,hp,hgk,q⟩:=h
  obtain ⟨ts,pts,gts⟩:=hb cdv A outer s H E hroom
  have hl:=rep.length
  obtain ⟨hds,d0,hd0,hf0⟩:=hg ds kk hgk
  obtain ⟨v0,A',B,C,h1,h2,r0,rA,rC⟩:=rep.split hd0
  rw [hp] at h1;cases h1
  obtain ⟨a',e1,e2⟩:=r0.flat1 hf0
  cases e1
  subst e2
  have hA:A'=[]:=by
   cases A' with
   | nil=>rfl
   | cons y A'=>simp at h2
  subst hA
  have hC:C=[]:=by
   cases C with
   | nil=>rfl
   | cons y C=>simp at h2
  subst hC
  have oth:∀i d,i≠p->ds[i]? = some d->∃v,vs[i]? = some v/\Rep K H d v []:=λi d hne hd=>by
   rcases Nat.lt_or_gt_of_ne hne with h | h
   ·obtain ⟨v,B,h1,h2,h3⟩:=rA.get (i:=i) (by rw [List.getElem?_take_of_lt h];exact hd)
    rw [List.getElem?_take_of_lt h] at h1
    have:=List.sublist_nil.mp h3
    subst this
    exact ⟨v,h1,h2⟩
   ·obtain ⟨v,B,h1,h2,h3⟩:=rC.get (i:=i-(p+1)) (by rw [List.getElem?_drop,show p+1+(i-(p+1))=i by omega];exact hd)
    rw [List.getElem?_drop,show p+1+(i-(p+1))=i by omega] at h1
    have:=List.sublist_nil.mp h3
    subst this
    exact ⟨v,h1,h2⟩
  obtain ⟨oa,ea,ia⟩:=r0.dom a (List.mem_singleton.mpr rfl)
  have fin:∀R' v σ' H' W' ρ' d F',SR K T (λ_=>.ref a) R' H' W' σ' ρ'->FrW H (λb=>b=a) H' W'->Rep K H' d v F'->F'.Nodup->(∀b∈F',¬W' b/\(b=a\/H b=none))->(oget (look ρ' p) λd'=>flatD d'=true/\kk d d')->Q v H':=λR' v σ' H' W' ρ' d F' s' fr r nd nw hk=>by
   obtain ⟨d',hl',hf',hk⟩:=oget_some hk
   obtain ⟨fp,s0⟩:=s'
   obtain ⟨u,hu,ru⟩:=s0.at_ p d' hl'
   have hfx:=s0.fix p (by rw [hio];exact List.mem_singleton.mpr rfl)
   rw [hu] at hfx
   cases hfx
   obtain ⟨a'',e1,e2⟩:=ru.flat1 hf'
   cases e1
   rw [e2] at ru
   have hWa:W' a:=(s0.own p d' hl' hown).2 a (by rw [e2];exact List.mem_singleton.mpr rfl)
   refine q v H' d d' F' ru r nd (λb hb=>?_) (λb o e hne=>fr.keep b o e hne) hk
   rcases (nw b hb).2 with h | h
   ·exact absurd hWa (by rw [← h];exact (nw b hb).1)
   ·exact h
  refine ⟨ts,pts,gts (λ_=>.ref a) (λb=>b≠a/\Any H b) (L2.start N vs) H (λb=>b=a) (env0 N ds) _ _ ⟨λi=>if i=p then [a] else [],?_,?_,?_,?_,?_,?_,?_,?_,?_⟩ (hr ds kk hgk) ⟨?_,?_,?_,?_,λ_ _ _ _ _ _ _ _ hk=>hk.elim⟩⟩
  ·unfold env0 L2.start;simp [hl]
  ·rintro b rfl;exact ⟨oa,ea,ia⟩
  ·intro i d hli
   unfold env0 at hli
   rw [look_start] at hli
   by_cases hip:i=p
   ·subst hip
    rw [hd0] at hli;cases hli
    exact ⟨.ref a,start_get hp,by rw [if_pos rfl];exact r0⟩
   ·obtain ⟨v,h1,h2⟩:=oth i d hip hli
    exact ⟨v,start_get h1,by rw [if_neg hip];exact h2⟩
  ·intro i d _ _
   by_cases hip:i=p
   ·rw [if_pos hip];exact ⟨by simp,λb hb=>List.mem_singleton.mp hb⟩
   ·rw [if_neg hip];exact ⟨by simp,λb hb=>nomatch hb⟩
  ·intro i d _ ht b hb
   have hip:i≠p:=λz=>by subst z;rw [hown] at ht;cases ht
   rw [if_neg hip] at hb;cases hb
  ·rintro b rfl ⟨h,_⟩;exact h rfl
  ·exact λb h=>h.2
  ·intro i j d e _ _ _ _ hne b hb hb'
   by_cases hip:i=p
   ·have hjp:j≠p:=λz=>hne (hip.trans z.symm)
    rw [if_neg hjp] at hb';cases hb'
   ·rw [if_neg hip] at hb;cases hb
  ·intro i hi
   rw [hio] at hi
   rw [List.mem_singleton.mp hi]
   exact start_get hp
  ·exact λR' σ' H' W' ρ' s' fr hk=>fin R' .non σ' H' W' ρ' .non [] s' fr .non List.nodup_nil (λb hb=>nomatch hb) hk
  ·exact λR' σ' H' W' ρ' s' fr hk=>hk.elim
  ·exact λR' σ' H' W' ρ' s' fr hk=>hk.elim
  ·exact λR' v σ' H' W' ρ' d F' s' fr r nd nw hk=>fin R' v σ' H' W' ρ' d F' s' fr r nd nw hk
end
section
variable {X:Cx} {T:Tg} {m o m0 m1 m2 m3 o1 o2:Bool} {e a b:Expr} {w wa wb we:WE} {pos p2 p:Pos} {es:List Expr} {wr:WA} {x:Str} {wt:WT}
def CV (X:Cx) (ifs:List Expr) (w:WT):Prop :=
 ∃tt,PIfs X ifs tt/\∀(z:Nat->V) (R:Addr->Prop) (σ:St) (H:Hp) (W:Addr->Prop) (ρ:Env) (Q:Bool->Env->Prop) (Q':Bool->Hp->Prop),SR X.K TR z R H W σ ρ->w ρ Q ->
  (∀b H' W' ρ',PostT X.K TR z R false H W σ ρ H' W' ρ'->Q b ρ'->Q' b H')->tt σ H Q'
def wAll:WT:=λρ Q=>Q true ρ
theorem cv_nil:CV X [] wAll:=⟨_,pifs_nil,λz R σ H W ρ Q Q' s hw k=>k true H W ρ ⟨s,FrW.refl H W,λ_=>⟨Same.refl H,rfl,rfl⟩⟩ hw⟩
theorem cv_one {c:Expr} (h:TV X TR false c wt):CV X [c] wt:=by
 obtain ⟨tt,pt,g⟩:=h
 exact ⟨_,pifs_one pt,g⟩
def blkE (ρ:Env) (d:D) (ix:List Nat):Env:=some d::ix.map (look ρ)
theorem look_map {f:Nat->Option D}:∀{ix:List Nat} {j:Nat},look (ix.map f) j=ix[j]?.bind f
 | [],_=>by simp [look]
 | i::r,0=>by simp [look]
 | i::r,j+1=>by simpa [look] using look_map (f:=f) (ix:=r) (j:=j)
def wComp (wl:WL) (wt:WT) (we:WE) (ix:List Nat):WE:=λρ Q=>wl ρ λds ρ1=>∃I:Nat->List D->Prop,I 0 [] /\
 (∀i d ys,ds[i]? = some d->I i ys->ys.length<sizeLine/\wt (blkE ρ1 d ix) λb _=>if b=true then we (blkE ρ1 d ix) (λy _=>I (i+1) (ys++[y])) else I (i+1) ys) /\
 ∀ys,I ds.length ys->ys.length<=sizeLine/\Q (.lst ys) ρ1
def CompOk (X:Cx) (T:Tg) (m:Bool) (elt iter:Expr) (x:Str) (px:Pos) (scope:Scope) (ifs:List Expr) (ix:List Nat) (w:WE):Prop :=
 ∃(wi:TI) (tt:TT) (te:TE),PI X (.Name x px) iter wi/\(∀cl C s₀ H₀ fp,PIfs (cxBlk X scope cl C (bN X.N x ix) s₀ H₀ fp) ifs tt)/\(∀cl C s₀ H₀ fp,PE (cxBlk X scope cl C (bN X.N x ix) s₀ H₀ fp) elt te) /\
  ∀(z:Nat->V) (R:Addr->Prop) (σ:St) (H:Hp) (W:Addr->Prop) (ρ:Env) (Q:D->Env->Prop) (Q':VK),SR X.K T z R H W σ ρ->w ρ Q ->
   (∀v H' W' d ρ' F,Post X.K T z R m true H W σ ρ H' W' ρ' d v F->Q d ρ'->Q' v H')->tComp wi tt te ix σ H Q'
theorem comp_ok {elt iter:Expr} {px:Pos} {scope:Scope} {ifs:List Expr} {wl:WL} {pr:Bool} (ix:List Nat) (hi:IV X T m pr (.Name x px) iter wl)
  (ht:∀cl C s₀ H₀ fp,CV (cxBlk X scope cl C (bN X.N x ix) s₀ H₀ fp) ifs wt) (he:∀cl C s₀ H₀ fp,EV (cxBlk X scope cl C (bN X.N x ix) s₀ H₀ fp) TR false true elt we) :
  CompOk X T m elt iter x px scope ifs ix (wComp wl wt we ix):=by
 obtain ⟨wi,pi,gi⟩:=hi
 refine ⟨wi,λσ H Q=>∀cl C s₀ H₀ fp,Classical.choose (ht cl C s₀ H₀ fp) σ H Q,λσ H Q=>∀cl C s₀ H₀ fp,Classical.choose (he cl C s₀ H₀ fp) σ H Q,pi,
  λcl C s₀ H₀ fp pins s σ H Q I h=>(Classical.choose_spec (ht cl C s₀ H₀ fp)).1 pins s σ H Q I (h cl C s₀ H₀ fp),λcl C s₀ H₀ fp pins s σ H Q I h=>(Classical.choose_spec (he cl C s₀ H₀ fp)).1 pins s σ H Q I (h cl C s₀ H₀ fp),?_⟩
 intro z R σ H W ρ Q Q' s hw k
 refine gi z R σ H W ρ _ _ s hw λJ H1 W1 ds ρ1 p jd q=>?_
 obtain ⟨I,h0,hI,hd⟩:=q
 refine ⟨λi n ys H2=>n=ds.length-i/\i<=ds.length/\Same H1 H2/\∃es F,Reps X.K H2 es ys F/\F.Nodup/\(∀a∈F,H1 a=none)/\I i es,ds.length,⟨by simp,Nat.zero_le _,Same.refl _,[],[],.nil,List.nodup_nil,(λa m=>(nomatch m)),h0⟩,?_⟩
 rintro i n ys H2 ⟨rfl,hi,sm,es,F,re,nd,nw,i2⟩
 obtain ⟨j1,j2⟩:=jd i H2 (wz pr W1) (FrW.same _ sm)
 by_cases hlt:i<ds.length
 ·have hdi:ds[i]? = some ds[i]:=List.getElem?_eq_getElem hlt
  obtain ⟨hgo,hy⟩:=j2 _ hdi
  obtain ⟨hz,q1⟩:=hI i _ es hdi i2
  refine .inr ⟨hgo,by rw [re.length];exact hz,λv H3 yl=>?_⟩
  obtain ⟨sm3,Fv,rv,_⟩:=hy v H3 yl
  have srB:∀z',SR X.K TR z' (Any H3) H3 (λ_=>False) (bS σ (some v) ix) (blkE ρ1 ds[i] ix):=λz'=>by
   refine SR.readonly rfl (by simp [bS,blkE]) λj d hj=>⟨rfl,?_⟩
   cases j with
   | zero =>
    simp only [blkE,look,Option.some.injEq] at hj
    subst hj
    exact ⟨v,Fv,rfl,rv⟩
   | succ j =>
    have hj':look (ix.map (look ρ1)) j=some d:=hj
    rw [look_map] at hj'
    cases hx:ix[j]? with
    | none=>rw [hx] at hj';cases hj'
    | some q =>
     rw [hx] at hj'
     obtain ⟨fp,s1⟩:=(p.sr.same sm).same sm3
     obtain ⟨u,hu,ru⟩:=s1.at_ q d hj'
     refine ⟨u,fp q,?_,ru⟩
     show (ix.map λi=>(σ[i]?).getD none)[j]? = some (some u)
     rw [List.getElem?_map,hx]
     simp [hu]
  intro cl C s₀ H₀ fp
  refine (Classical.choose_spec (ht cl C s₀ H₀ fp)).2 (λ_=>.non) (Any H3) (bS σ (some v) ix) H3 (λ_=>False) (blkE ρ1 ds[i] ix) _ _ (srB _) q1 λbb H4 W4 ρ4 p4 q4=>?_
  obtain ⟨sm4,hW4,hρ4⟩:=p4.calm rfl
  have re4:=((re.same sm3).same sm4)
  cases bb with
  | false=>exact ⟨ds.length-(i+1),by omega,rfl,hlt,(sm.trans sm3).trans sm4,es,F,re4,nd,nw,q4⟩
  | true =>
   show if true=true then _ else _
   rw [if_pos rfl]
   intro cl C s₀ H₀ fp
   refine (Classical.choose_spec (he cl C s₀ H₀ fp)).2 (λ_=>.non) (Any H3) (bS σ (some v) ix) H4 W4 (blkE ρ1 ds[i] ix) _ _ (hρ4 ▸ p4.sr) (by simpa using q4) λu H5 W5 y ρ5 Fy p5 q5=>?_
   obtain ⟨sm5,_,_⟩:=p5.calm rfl
   obtain ⟨ny,ky⟩:=p5.own rfl
   have sm15:Same H1 H5:=((sm.trans sm3).trans sm4).trans sm5
   refine ⟨ds.length-(i+1),by omega,rfl,hlt,sm15,es++[y],F++Fy,(re4.same sm5).snoc p5.rep,nodup_ins nd ny λa ha hf=>?_,λa ha=>?_,q5⟩
   ·obtain ⟨ob,e1,_⟩:=re4.dom a hf
    rw [(ky a ha).1] at e1;cases e1
   ·rcases List.mem_append.mp ha with ha | ha
    ·exact nw a ha
    ·exact ((sm.trans sm3).trans sm4).free (ky a ha).1
 ·have e:i=ds.length:=by omega
  subst e
  obtain ⟨hz,q1⟩:=hd es i2
  refine .inl ⟨j1 (Nat.le_refl _),by rw [re.length];exact hz,λl hl=>?_⟩
  have hl1:H1 l=none:=sm.free hl
  refine k _ _ W1 (.lst es) ρ1 (l::F) ⟨(p.sr.same sm).same (same_upd hl),(p.fr.trans (FrW.same W1 sm)).trans (FrW.same W1 (same_upd hl)),λh=>⟨((p.calm h).1.trans sm).trans (same_upd hl),(p.calm h).2⟩,.lst upd_same (re.same (same_upd hl)),λ_=>⟨List.nodup_cons.mpr ⟨λh=>?_,nd⟩,λb hb=>?_⟩⟩ q1
  ·obtain ⟨ob,e1,_⟩:=re.dom l h
   rw [hl] at e1;cases e1
  ·rcases List.mem_cons.mp hb with rfl | hb
   ·exact ⟨p.fr.dom _ hl1,p.sr.nw hl1⟩
   ·exact ⟨p.fr.dom _ (nw b hb),p.sr.nw (nw b hb)⟩
theorem ev_comp {elt iter:Expr} {px:Pos} {scope:Scope} {ifs:List Expr} {ix:List Nat} (h:CompOk X T m elt iter x px scope ifs ix w) (B:BlkScope X.env scope x)
  (hix:∀i∈ix,∃y,X.N[i]? = some y/\scope.names.lookup y=some .free) (hN:(bN X.N x ix).Nodup) (hc:X.calm=true:=by rfl)
  (hs:∀x,foldedSetIterable iter X.env x=pure x:=by intro _;rfl):EV X T m true (.ListComp elt [⟨.Name x px,iter,ifs,0⟩] scope pos) w:=by
 obtain ⟨wi,tt,te,h1,h2,h3,h4⟩:=h
 exact ⟨_,pe_comp ix hc B hix hN h1 h2 h3 hs,h4⟩
theorem sv_comp {elt iter:Expr} {y:Str} {px py spos:Pos} {scope:Scope} {ifs:List Expr} {ix:List Nat} {j:Nat} (h:CompOk X T m elt iter x px scope ifs ix w) (B:BlkScope X.env scope x) (hNd:X.N.Nodup)
  (hix:∀i∈ix,∃y,X.N[i]? = some y/\scope.names.lookup y=some .free) (hN:(bN X.N x ix).Nodup) (hj:X.N[j]? = some y:=by rfl) (hy:Loc X.env.scope y:=by first | exact Or.inl rfl | exact Or.inr rfl) (hio:j∉T.io:=by decide)
  (hsw:swapsWith (.ListComp elt [⟨.Name x px,iter,ifs,0⟩] scope pos) (some (.Name y py)) spos.line X.env=pure true:=by rfl)
  (hf:X.fn y=true\/X.env.scope.names.lookup y=some .local:=by first | exact .inl rfl | exact .inr rfl | assumption) (hc:X.calm=true:=by rfl)
  (hs:∀x,foldedSetIterable iter X.env x=pure x:=by intro _;rfl):SV X T (.Assign [.Name y py] (.ListComp elt [⟨.Name x px,iter,ifs,0⟩] scope pos) spos) (wSet j w):=by
 obtain ⟨wi,tt,te,h1,h2,h3,h4⟩:=h
 exact sv_setC ⟨_,ps_comp ix hc B hNd hj hy hsw hix hN h1 h2 h3 hf hs,h4⟩ hio
end
end PV
namespace PV
open PySem PySem.Spec L2
section
variable {X:Cx} {T:Tg} {m o m0 m1 m2 m3 o1 o2:Bool} {e a b:Expr} {w wa wb we:WE} {pos p2 p:Pos} {es:List Expr} {wr:WA} {x:Str} {wt:WT}
abbrev WO:=Env->(Option Int->Env->Prop)->Prop
def OV (X:Cx) (T:Tg) (m:Bool) (e:Option Expr) (w:WO):Prop :=
 ∃t,PO X e t/\∀(z:Nat->V) (R:Addr->Prop) (σ:St) (H:Hp) (W:Addr->Prop) (ρ:Env) (Q:Option Int->Env->Prop) (Q':Option Int->Hp->Prop),SR X.K T z R H W σ ρ->w ρ Q ->
  (∀b H' W' ρ',PostT X.K T z R m H W σ ρ H' W' ρ'->Q b ρ'->Q' b H')->t σ H Q'
def wNone:WO:=λρ Q=>Q none ρ
def wSome (w:WE):WO:=λρ Q=>w ρ λd ρ'=>match d with
 | .int i=>Q (some i) ρ'
 | _=>False
theorem ov_none:OV X T false none wNone:=⟨_,po_none,λz R σ H W ρ Q Q' s hw k=>k none H W ρ ⟨s,FrW.refl H W,λ_=>⟨Same.refl H,rfl,rfl⟩⟩ hw⟩
theorem ov_some (h:EV X T m o e w):OV X T m (some e) (wSome w):=by
 obtain ⟨t,pt,g⟩:=h
 refine ⟨_,po_some pt,λz R σ H W ρ Q Q' s hw k=>g z R σ H W ρ _ _ s hw λv H1 W1 d ρ1 F p q=>?_⟩
 cases d with
 | int i=>exact ⟨i,rep_int p.rep,k (some i) H1 W1 ρ1 ⟨p.sr,p.fr,p.calm⟩ q⟩
 | _=>exact q.elim
def cutD (xs:List D) (lo hi:Option Int):List D:=(xs.drop (HT.sIx xs.length 0 lo)).take (HT.sIx xs.length xs.length hi-HT.sIx xs.length 0 lo)
theorem Reps.cut {K:PySem.W.Frag} {H:Hp} {ds:List D} {xs:List V} {lo hi:Option Int} (r:Reps K H ds xs []):Reps K H (cutD ds lo hi) (cutV xs lo hi) []:=by
 unfold cutD cutV
 rw [r.length]
 obtain ⟨G,r1,s1⟩:=r.drop (HT.sIx ds.length 0 lo)
 obtain ⟨G',r2,s2⟩:=r1.take (HT.sIx ds.length ds.length hi-HT.sIx ds.length 0 lo)
 have:=List.sublist_nil.mp s1
 subst this
 have:=List.sublist_nil.mp s2
 subst this
 exact r2
theorem sl_any:SlR X (λx lo hi H Q=>rSlL X.K x lo hi H Q\/rSlT X.K x lo hi H Q):=SlR.or sl_list sl_tup
def dRange:GA
 | [.int j],k=>0<=j/\j<=1000/\k (.lst (rngD 0 j.toNat))
 | _,_=>False
theorem ev_listRange {p3 p4 pos2:Pos} (hm:X.mg "range" = none) (hm2:X.mg "list" = none) (ha:AV X T m o [a] wr) (hg:Gl X "range":=by rfl) (hg2:Gl X "list":=by rfl) (hc:X.calm=true:=by rfl) (hs:starEach [a] X.env=[(false,eval a X.env)]:=by rfl)
  (hs2:starEach [.Call (.Name "range" p4) [a] [] pos2] X.env=(false,eval (.Call (.Name "range" p4) [a] [] pos2) X.env)::starEach [] X.env:=by rfl) :
  EV X T m true (.Call (.Name "list" p3) [.Call (.Name "range" p4) [a] [] pos2] [] pos) (wCall dRange wr):=by
 obtain ⟨ta,pa,ga⟩:=ha
 refine ⟨_,pe_callTy (call_list_rng hc) hg2 hm2 (by rfl) (pa_cons (pe_range1 hg hm pa hs) pa_nil hs2),λz R σ H W ρ Q Q' s hw k=>?_⟩
 refine ga z R σ H W ρ _ _ s hw λvs H1 W1 ds ρ1 F p q=>?_
 obtain ⟨j,rfl⟩:∃j,ds=[D.int j]:=by
  clear p
  cases ds with
  | nil=>exact (show False from q).elim
  | cons d0 r0 =>
   cases r0 with
   | nil =>
    cases d0 with
    | int j=>exact ⟨j,rfl⟩
    | _=>exact (show False from q).elim
   | cons _ _=>cases d0 <;> exact (show False from q).elim
 obtain ⟨v,rfl,rd⟩:=p.rep.at1
 cases rd
 refine ⟨j,rfl,λr hr=>⟨r,j,rfl,upd_same,q.1,q.2.1,λl hl=>?_⟩⟩
 have s12:Same H1 (upd (upd H1 r (.rng 0 j)) l (.lst ((List.range j.toNat).map λi=>.int (i:Nat)))):=(same_upd hr).trans (same_upd hl)
 refine k _ _ W1 (.lst (rngD 0 j.toNat)) ρ1 [l] (Post.fin p.sr p.fr p.calm s12 (.lst upd_same ?_) (by simp) λb mb=>by rw [List.mem_singleton.mp mb];exact (same_upd hr).free hl) q.2.2
 have e1:rngD 0 j.toNat=((List.range j.toNat).map λ(i:Nat)=>(i:Int)).map D.int:=by simp [rngD]
 have e2:((List.range j.toNat).map λ(i:Nat)=>V.int (i:Nat))=((List.range j.toNat).map λ(i:Nat)=>(i:Int)).map V.int:=by simp
 rw [e1,e2]
 exact Reps.ints _
theorem RepK.get {K:PySem.W.Frag} {H:Hp}:∀{ds:List (Key × D)} {xs:List (Key × V)} {F:List Addr} {i:Nat} {k:Key} {v:V},RepK K H ds xs F->xs[i]? = some (k,v)->∃d B,ds[i]? = some (k,d)/\Rep K H d v B/\B.Sublist F
 | [],_,_,_,_,_,r,h=>by cases r;simp at h
 | d::ds,_,_,i,_,_,r,h=>by
  cases r with
  | @cons j d v _ vs F G p r =>
   cases i with
   | zero =>
    simp at h
    obtain ⟨rfl,rfl⟩:=h
    exact ⟨d,F,rfl,p,List.sublist_append_left _ _⟩
   | succ i =>
    obtain ⟨d',B,h1,h2,h3⟩:=RepK.get r (i:=i) (by simpa using h)
    exact ⟨d',B,by simpa using h1,h2,h3.trans (List.sublist_append_right _ _)⟩
end
end PV
namespace PV
open PySem PySem.Spec L2
section
variable {κ:Type} [DecidableEq κ]
theorem putD_ne {j k:κ} {d y:D} {r:List (κ × D)} (h:¬j=k):putD ((j,d)::r) k y=(j,d)::putD r k y:=by
 unfold putD
 by_cases q:(r.any λkv=>decide (kv.1=k))=true
 ·rw [if_pos (by rw [List.any_cons,q];simp),if_pos q,List.map_cons,if_neg h]
 ·rw [if_neg (by rw [List.any_cons];simp only [h,decide_false,Bool.false_or];exact q),if_neg q];rfl
theorem map_none {k:κ} {y:D}:∀{r:List (κ × D)},k∉r.map (·.1)->(r.map λkv=>if kv.1=k then (kv.1,y) else kv)=r
 | [],_=>rfl
 | p::r,h=>by
  simp only [List.map_cons,List.mem_cons,not_or] at h
  rw [List.map_cons,if_neg (λz=>h.1 z.symm),map_none h.2]
theorem putD_hd {k:κ} {d y:D} {r:List (κ × D)} (h:k∉r.map (·.1)):putD ((k,d)::r) k y=(k,y)::r:=by
 unfold putD
 rw [if_pos (by rw [List.any_cons];simp),List.map_cons,if_pos rfl,map_none h]
end
section
variable {K:PySem.W.Frag} {H:Hp}
theorem RepK.app {k:Key} {xs:List D}:∀{ds:List (Key × D)} {kvs:List (Key × V)} {F:List Addr},RepK K H ds kvs F->F.Nodup->(ds.map (·.1)).Nodup->valD ds k=some (.lst xs) ->
  ∃l ys,valV kvs k=some (.ref l)/\H l=some (.lst ys)/\l∈F/\ys.length=xs.length/\∀v x,Rep K H x v []->RepK K (L2.upd H l (.lst (ys++[v]))) (putD ds k (.lst (xs++[x]))) kvs F
 | [],_,_,r,_,_,h=>by cases h
 | (j,d)::ds,_,_,r,nd,hk,h=>by
  cases r with
  | @cons _ _ v _ vs F G p r =>
   obtain ⟨n1,n2,n3⟩:=List.nodup_append.mp nd
   obtain ⟨k1,k2⟩:=List.nodup_cons.mp (show (j::ds.map (·.1)).Nodup from hk)
   rw [valD_cons] at h
   by_cases e:j=k
   ·subst e
    rw [if_pos rfl] at h
    cases h
    cases p with
    | @lst l ys _ F0 e1 r1 =>
     obtain ⟨nl,n0⟩:=List.nodup_cons.mp n1
     refine ⟨l,ys,valV_pos rfl,e1,List.mem_append.mpr (.inl List.mem_cons_self),r1.length,λv x rx=>?_⟩
     rw [putD_hd k1]
     refine .cons (.lst upd_same ?_) (r.upd e1 rfl λh=>n3 l List.mem_cons_self l h rfl)
     have:=(r1.upd (ob':=.lst (ys++[v])) e1 rfl nl).snoc (rx.upd e1 rfl (λh=>nomatch h))
     simpa using this
   ·rw [if_neg e] at h
    obtain ⟨l,ys,h1,h2,h3,h4,h5⟩:=RepK.app r n2 k2 h
    refine ⟨l,ys,by rw [valV_neg e];exact h1,h2,List.mem_append.mpr (.inr h3),h4,λv x rx=>?_⟩
    rw [putD_ne e]
    exact .cons (p.upd h2 rfl λh=>n3 l h l h3 rfl) (h5 v x rx)
end
section
variable {X:Cx} {T:Tg} {m o m0 m1 m2 m3 o1 o2:Bool} {e a b:Expr} {w wa wb we:WE} {pos p2 p:Pos} {es:List Expr} {wr:WA} {x:Str} {wt:WT}
def keyOf:D->Option Key
 | .int i=>some (.inl i)
 | .str i=>some (.inr i)
 | _=>none
theorem Rep.key {K:PySem.W.Frag} {H:Hp} {d:D} {v:V} {F:List Addr} {k:Key} (r:Rep K H d v F) (h:keyOf d=some k):v=kV k:=by
 cases r <;> simp [keyOf] at h <;> subst h <;> rfl
def sdNew (kvs:List (Key × D)) (k:Key):List (Key × D):=if (valD kvs k).isNone then kvs++[(k,.lst [])] else kvs
def wSda (i:Nat) (wk wv:WE):WS:=λP ρ=>oget (look ρ i) λs=>match s with
 | .dik kvs=>kvs.length<sizeLine/\(kvs.map (·.1)).Nodup/\wk ρ λkd _=>oget (keyOf kd) λk=>oget (valD (sdNew kvs k) k) λl=>match l with
  | .lst xs=>xs.length<sizeLine/\wv (ρ.set i (some (.dik (sdNew kvs k)))) λd _=>d.pure=true/\P.nx (ρ.set i (some (.dik (putD (sdNew kvs k) k (.lst (xs++[d]))))))
  | _=>False
 | _=>False
theorem set_self:∀{ρ:Env} {i:Nat} {d:D},look ρ i=some d->ρ.set i (some d)=ρ
 | [],_,_,h=>by simp [look] at h
 | a::r,0,d,h=>by simp only [look] at h;rw [h];rfl
 | a::r,i+1,d,h=>by simp only [List.set_cons_succ];rw [set_self (ρ:=r) (i:=i) h]
theorem nd_key {κ:Type} [DecidableEq κ] {kvs:List (κ × D)} {k:κ} {d:D} (h:(kvs.map (·.1)).Nodup) (hn:valD kvs k=none):((kvs++[(k,d)]).map (·.1)).Nodup:=by
 rw [List.map_append]
 refine List.nodup_append.mpr ⟨h,by simp,λa ha b hb e=>?_⟩
 have hb':b=k:=by simpa using hb
 subst e hb'
 obtain ⟨q,hq,e⟩:=List.mem_map.mp ha
 have:(kvs.any λkv=>decide (kv.1=a))=true:=List.any_eq_true.mpr ⟨q,hq,decide_eq_true e⟩
 rw [anyD_iff,hn] at this
 cases this
theorem sv_sda {i:Nat} {ek ev:Expr} {wk wv:WE} {ap1 ap2 cp1 cp2 pl:Pos} (hk:EV X T false o1 ek wk) (hv:EV X T false o2 ev wv) (ht:T.own i=true:=by rfl) (hN:X.N[i]? = some x:=by rfl)
  (hvis:Vis X.env.scope x:=by first | exact Or.inl rfl | exact Or.inr (Or.inl rfl) | exact Or.inr (Or.inr rfl)) (hd:(x == ("__debug__" : Str))=false:=by decide) (hcd:(x == ("__classdict__" : Str))=false:=by decide)
  (b1:attributeBase (.Name x p) "setdefault" X.env (eval (.Name x p) X.env)=eval (.Name x p) X.env:=by rfl)
  (f1:((backTo cp1 (starEach [ek,.List [] pl] X.env)).all (λx=>!x.1) && (backToKw cp1 (keywordEach [] X.env)).all (λx=>x.1.isSome)
   && decide (([ek,.List [] pl]:List Expr).length+([]:List Keyword).length+(if ([]:List Keyword).isEmpty then 0 else 1)<30))=true:=by rfl)
  (l1:(ap1.endLine == cp1.line)=true:=by rfl) (s1:starEach [ek,.List [] pl] X.env=(false,eval ek X.env)::starEach [.List [] pl] X.env:=by rfl) (s1':starEach [.List [] pl] X.env=(false,eval (.List [] pl) X.env)::starEach [] X.env:=by rfl) (q1:(backTo cp1 (starEach [.List [] pl] X.env)).any (·.1)=false:=by rfl)
  (b2:attributeBase (.Call (.Attribute (.Name x p) "setdefault" ap1) [ek,.List [] pl] [] cp1) "append" X.env (eval (.Call (.Attribute (.Name x p) "setdefault" ap1) [ek,.List [] pl] [] cp1) X.env)=eval (.Call (.Attribute (.Name x p) "setdefault" ap1) [ek,.List [] pl] [] cp1) X.env:=by rfl)
  (f2:((backTo cp2 (starEach [ev] X.env)).all (λx=>!x.1) && (backToKw cp2 (keywordEach [] X.env)).all (λx=>x.1.isSome)
   && decide (([ev]:List Expr).length+([]:List Keyword).length+(if ([]:List Keyword).isEmpty then 0 else 1)<30))=true:=by rfl)
  (l2:(ap2.endLine == cp2.line)=true:=by rfl) (s2:starEach [ev] X.env=(false,eval ev X.env)::starEach [] X.env:=by rfl) (q2:(backTo cp2 (starEach [] X.env)).any (·.1)=false:=by rfl)
  (hs:swapsWith (.Call (.Attribute (.Call (.Attribute (.Name x p) "setdefault" ap1) [ek,.List [] pl] [] cp1) "append" ap2) [ev] [] cp2) none pos.line X.env=pure false:=by rfl) :
  SV X T (.Expr (.Call (.Attribute (.Call (.Attribute (.Name x p) "setdefault" ap1) [ek,.List [] pl] [] cp1) "append" ap2) [ev] [] cp2) pos) (wSda i wk wv):=by
 obtain ⟨tk,pk,gk⟩:=hk
 obtain ⟨tv,pv,gv⟩:=hv
 refine ⟨_,ps_expr (pe_bm PySem.F.plainAttrs_list PySem.F.slot_list_append PySem.F.type_list_append mt_append (pe_bm PySem.F.plainAttrs_dict PySem.F.slot_dict_setdefault PySem.F.type_dict_setdefault mt_setdefault (pe_var hN hvis hd hcd) (pa_cons pk (pa_cons (pe_lst pa_nil) pa_nil s1') s1) b1 f1 l1 s1 q1) (pa_cons pv pa_nil s2) b2 f2 l2 s2 q2) hs,λz R σ H W ρ P E s hw l=>?_⟩
 obtain ⟨sd,hl0,hw⟩:=oget_some hw
 obtain ⟨kvs,rfl⟩:∃kvs,sd=D.dik kvs:=by
  clear hl0
  cases sd with
  | dik kvs=>exact ⟨kvs,rfl⟩
  | _=>exact (show False from hw).elim
 obtain ⟨hz,hnd,hw⟩:=hw
 obtain ⟨fp,s0⟩:=id s
 obtain ⟨v0,hv0,r0⟩:=s0.at_ i _ hl0
 refine ⟨v0,hv0,tyV_of r0 (t:="dict") rfl,?_⟩
 refine gk z R σ H W ρ _ _ s hw λvk H1 W1 kd ρ1 Fk p q=>?_
 obtain ⟨sm1,hW1,hρ1⟩:=p.calm rfl
 subst hW1 hρ1
 obtain ⟨k,hkey,q⟩:=oget_some q
 have ek:=p.rep.key hkey
 subst ek
 obtain ⟨ld,hval,q⟩:=oget_some q
 obtain ⟨xs,rfl⟩:∃xs,ld=D.lst xs:=by
  clear hval
  cases ld with
  | lst xs=>exact ⟨xs,rfl⟩
  | _=>exact (show False from q).elim
 obtain ⟨hxz,q⟩:=q
 -- what is to be done with the list that comes
 have fin:∀(Hs:Hp) (Ws:Addr->Prop) (y:V),SR X.K T z R Hs Ws σ (ρ1.set i (some (.dik (sdNew kvs k))))->FrW H W1 Hs Ws->((sdNew kvs k).map (·.1)).Nodup->(∀a kv,v0=.ref a->Hs a=some (.dK kv)->valV kv k=some y) ->
   tyV X.K "list" y Hs/\tCons tv tNil σ Hs λxs H2=>rAppend y xs H2 λ_ H1=>E.nx σ H1:=λHs Ws y ss fs hns hy=>by
  obtain ⟨fpS,sS⟩:=id ss
  have hlS:look (ρ1.set i (some (.dik (sdNew kvs k)))) i=some (.dik (sdNew kvs k)):=look_set_same (look_lt hl0)
  obtain ⟨vS,hvS,rS⟩:=sS.at_ i _ hlS
  have:vS=v0:=by rw [hv0] at hvS;cases hvS;rfl
  subst this
  obtain ⟨ndS,swS⟩:=sS.own i _ hlS ht
  have app:∃(l:Addr) (ys:List V) (a:Addr) (kvS:List (Key × V)),y=.ref l/\Hs l=some (.lst ys)/\vS=.ref a/\Hs a=some (.dK kvS):=by
   generalize fpS i=Fi at rS ndS
   cases rS with
   | @dik a kv _ F e1 r =>
    obtain ⟨na,nF⟩:=List.nodup_cons.mp ndS
    obtain ⟨l,ys,h1,h2,_⟩:=r.app nF hns hval
    have:=hy a kv rfl e1
    rw [h1] at this
    cases this
    exact ⟨l,ys,a,kv,rfl,h2,rfl,e1⟩
  obtain ⟨l0,ys0,aS,kvS,rfl,hl0',rfl,eS⟩:=app
  refine ⟨.inl ⟨rfl,_,.of hl0'⟩,?_⟩
  refine gv z R σ Hs Ws _ _ _ ss q λvd H2 W2 d ρ2 Fd pd ⟨hp,qn⟩=>?_
  obtain ⟨sm2,hW2,hρ2⟩:=pd.calm rfl
  subst hW2 hρ2
  obtain ⟨_,rd⟩:=pd.rep.pure hp
  obtain ⟨fp2,s2⟩:=id pd.sr
  obtain ⟨v2,hv2,r2⟩:=s2.at_ i _ hlS
  have:v2=.ref aS:=by rw [hvS] at hv2;cases hv2;rfl
  subst this
  obtain ⟨nd2,sw2⟩:=s2.own i _ hlS ht
  have h2l:H2 l0=some (.lst ys0):=sm2 _ _ hl0'
  have fin2:∃(ys:List V) (F':List Addr),H2 l0=some (.lst ys)/\ys.length=xs.length/\l0∈fp2 i/\Rep X.K (upd H2 l0 (.lst (ys++[vd]))) (.dik (putD (sdNew kvs k) k (.lst (xs++[d])))) (.ref aS) F'/\F'=fp2 i:=by
   generalize fp2 i=Fi at r2 nd2
   cases r2 with
   | @dik a kv _ F e1 r =>
    obtain ⟨na,nF⟩:=List.nodup_cons.mp nd2
    obtain ⟨l,ys,h1,h2,h3,h4,h5⟩:=r.app nF hns hval
    have hkv:kv=kvS:=by
     have:=sm2 _ _ eS
     rw [e1] at this
     cases this
     rfl
    subst hkv
    have:=hy aS kv rfl eS
    rw [h1] at this
    cases this
    have hne:aS≠l0:=λz=>na (z ▸ h3)
    exact ⟨ys,_,h2,h4,List.mem_cons_of_mem _ h3,.dik (by rw [upd_ne hne];exact e1) (h5 vd d rd),rfl⟩
  obtain ⟨ys,F',h1,h2,h3,h4,rfl⟩:=fin2
  refine ⟨l0,ys,vd,rfl,rfl,h1,by rw [h2];exact hxz,?_⟩
  have hWl:=sw2 l0 h3
  have sF:=s2.write hlS ht hv2 h3 upd_keep ⟨_,upd_same,rfl⟩ h4 nd2 (λa ha=>.inl ha)
  have fF:=(fs.trans pd.fr).write hWl (s2.wd l0 hWl) (H':=upd H2 l0 (.lst (ys++[vd]))) upd_keep ⟨_,upd_same,rfl⟩ (F':=fp2 i) (λa ha=>.inl (sw2 a ha))
  rw [List.set_set] at sF
  exact l.nx R σ _ _ _ sF fF qn
 refine ⟨Nat.zero_le _,λpn hpn=>?_⟩
 have smn:Same H1 (upd H1 pn (.lst [])):=same_upd hpn
 have sn:=p.sr.same smn
 have fn1:FrW H W1 (upd H1 pn (.lst [])) W1:=p.fr.trans (FrW.same W1 smn)
 obtain ⟨fp1,s1⟩:=id sn
 obtain ⟨v1,hv1,r1⟩:=s1.at_ i _ hl0
 have:v1=v0:=by rw [hv0] at hv1;cases hv1;rfl
 subst this
 obtain ⟨nd1,sw1⟩:=s1.own i _ hl0 ht
 have hpnW:¬W1 pn:=p.sr.nw hpn
 have hpnR:¬R pn:=p.sr.nr hpn
 have hpn0:H pn=none:=sm1.free hpn
 have rep1:∃(a:Addr) (kv:List (Key × V)) (F:List Addr),v1=.ref a/\upd H1 pn (.lst []) a=some (.dK kv)/\RepK X.K (upd H1 pn (.lst [])) kvs kv F/\fp1 i=a::F:=by
  generalize fp1 i=Fi at r1
  cases r1 with
  | @dik a kv _ F e1 r=>exact ⟨a,kv,F,rfl,e1,r,rfl⟩
 obtain ⟨a,kv,F,rfl,e1,r,hfp⟩:=rep1
 rw [hfp] at nd1 sw1
 obtain ⟨na,nF⟩:=List.nodup_cons.mp nd1
 refine ⟨a,kv,k,.ref pn,rfl,rfl,e1,by rw [r.length];exact hz,λy hy=>?_,λhn=>?_⟩
 ·have hs:(valD kvs k).isNone=false:=by
   rcases r.val k with ⟨_,h2⟩ | ⟨d,v,B,h1,_⟩
   ·rw [hy] at h2;cases h2
   ·rw [h1];rfl
  have e2:sdNew kvs k=kvs:=by unfold sdNew;rw [hs];rfl
  refine fin _ W1 y ?_ fn1 (by rw [e2];exact hnd) λa' kv' ea ha=>?_
  ·rw [e2,set_self hl0];exact sn
  ·cases ea
   rw [e1] at ha
   cases ha
   exact hy
 ·have hs:valD kvs k=none:=by
   rcases r.val k with ⟨h1,_⟩ | ⟨d,v,B,_,h2,_⟩
   ·exact h1
   ·rw [hn] at h2;cases h2
  have e2:sdNew kvs k=kvs++[(k,.lst [])]:=by unfold sdNew;rw [hs];rfl
  have hapn:a≠pn:=λz=>hpnW (z ▸ sw1 a List.mem_cons_self)
  have hput:=putK_new (V.ref pn) hn
  have rN:Rep X.K (upd (upd H1 pn (.lst [])) a (.dK (putK kv k (.ref pn)))) (.dik (sdNew kvs k)) (.ref a) (a::(F++[pn])):=by
   rw [e2,hput]
   refine .dik upd_same ((r.upd e1 rfl na).append ?_)
   have:Rep X.K (upd (upd H1 pn (.lst [])) a (.dK (kv++[(k,.ref pn)]))) (.lst []) (.ref pn) [pn]:=.lst (by rw [upd_ne (Ne.symm hapn),upd_same]) .nil
   have:=RepK.cons (k:=k) this .nil
   simpa using this
  have ndN:(a::(F++[pn])).Nodup:=by
   refine List.nodup_cons.mpr ⟨λh=>?_,nodup_ins nF (by simp) λb hb hf=>?_⟩
   ·rcases List.mem_append.mp h with h | h
    ·exact na h
    ·exact hapn (List.mem_singleton.mp h)
   ·rw [List.mem_singleton.mp hb] at hf
    exact hpnW (sw1 pn (List.mem_cons_of_mem _ hf))
  have hWa:=sw1 a List.mem_cons_self
  have sN:=s1.write hl0 ht hv1 (by rw [hfp];exact List.mem_cons_self) upd_keep ⟨_,upd_same,rfl⟩ rN ndN (λb hb=>by
   rcases List.mem_cons.mp hb with rfl | hb
   ·exact .inl (by rw [hfp];exact List.mem_cons_self)
   ·rcases List.mem_append.mp hb with hb | hb
    ·exact .inl (by rw [hfp];exact List.mem_cons_of_mem _ hb)
    ·rw [List.mem_singleton.mp hb];exact .inr ⟨hpnW,hpnR⟩)
  have fN:=fn1.write (H':=upd (upd H1 pn (.lst [])) a (.dK (putK kv k (.ref pn)))) (F':=a::(F++[pn])) hWa (s1.wd a hWa) upd_keep ⟨_,upd_same,rfl⟩ (λb hb=>by
   rcases List.mem_cons.mp hb with rfl | hb
   ·exact .inl hWa
   ·rcases List.mem_append.mp hb with hb | hb
    ·exact .inl (sw1 b (List.mem_cons_of_mem _ hb))
    ·rw [List.mem_singleton.mp hb];exact .inr hpn0)
  refine fin _ _ (.ref pn) sN fN (by rw [e2];exact nd_key hnd hs) λa' kv' ea ha=>?_
  cases ea
  rw [upd_same] at ha
  cases ha
  rw [valV_put,if_pos rfl]
end
end PV
namespace PV
open PySem PySem.Spec L2
section
variable {X:Cx} {T:Tg} {m o m0 m1 m2 m3 o1 o2:Bool} {e a b:Expr} {w wa wb we:WE} {pos p2 p:Pos} {es:List Expr} {wr:WA} {x:Str} {wt:WT}
abbrev tupI (k:List Int):D:=.tup (k.map .int)
theorem Reps.tups {K:PySem.W.Frag} {H:Hp}:∀{keys:List (List Int)} {ys:List V} {F:List Addr},Reps K H (keys.map tupI) ys F->F=[]/\∃as:List Addr,ys=as.map V.ref/\as.length=keys.length/\∀(i:Nat) k,keys[i]? = some k->∃a,as[i]? = some a/\H a=some (.tup (k.map V.int))
 | [],_,_,r=>by cases r;exact ⟨rfl,[],rfl,rfl,λi k h=>by simp at h⟩
 | k::keys,_,_,r=>by
  cases r with
  | cons p r =>
   obtain ⟨hF,as,h1,h2,h3⟩:=Reps.tups r
   cases p with
   | @tup a xs _ F e q =>
    obtain ⟨h4,h5⟩:=q.of_ints
    subst h4 h5 h1
    refine ⟨by rw [hF];rfl,a::as,rfl,by simp [h2],λi k' hk=>?_⟩
    cases i with
    | zero=>simp at hk;subst hk;exact ⟨a,rfl,e⟩
    | succ i=>simpa using h3 i k' (by simpa using hk)
variable {rest:List Expr}
theorem Post.after {K:PySem.W.Frag} {z:Nat->V} {R:Addr->Prop} {H H1 H2:Hp} {W W1 W2:Addr->Prop} {σ:St} {ρ ρ1 ρ2:Env} {d1 d2:D} {v1 v2:V} {F1 F2:List Addr} (p:Post K T z R m1 o1 H W σ ρ H1 W1 ρ1 d1 v1 F1) (q:Post K T z R m2 o2 H1 W1 σ ρ1 H2 W2 ρ2 d2 v2 F2) :
  Post K T z R (m1 || m2) o2 H W σ ρ H2 W2 ρ2 d2 v2 F2:=⟨q.sr,p.fr.trans q.fr,p.calm2 q,q.rep,p.lastOwn q⟩
end
end PV
namespace PV
open PySem PySem.Spec L2
theorem bt_isinstance:bootBuiltins "isinstance" = some (.builtin "isinstance"):=by decide +kernel
theorem bt_min:bootBuiltins "min" = some (.builtin "min"):=by decide +kernel
theorem bt_len:bootBuiltins "len" = some (.builtin "len"):=by decide +kernel
theorem bt_int:bootBuiltins "int" = some (.type "int"):=by decide +kernel
theorem bt_bool:bootBuiltins "bool" = some (.type "bool"):=by decide +kernel
theorem bt_list:bootBuiltins "list" = some (.type "list"):=by decide +kernel
theorem bt_tuple:bootBuiltins "tuple" = some (.type "tuple"):=by decide +kernel
def wLift (w:WE):WE:=λρ Q=>w ρ λd ρ'=>d.pure=true/\Q d ρ'
def Cal (P:Program) (w:World) (K:PySem.W.Frag) (mg:Str->Option Value) (base:Heap) (x:Str) (k:Nat) (ps:List Str) (sp:Sp):Prop :=
 ∃f fd,FnOk P w K mg base CX0 k f fd ps sp/\mg x=some (.ref f)/\PySem.W.keepIn K (.ref f)=true/\Binds K fd ps []
section
variable {X:Cx} {T:Tg} {m o m0 m1 m2 m3 o1 o2:Bool} {e a b:Expr} {w wa wb we:WE} {pos p2 p:Pos} {es:List Expr} {wr:WA} {x:Str} {wt:WT} {k j:Nat} {ps:List Str}
theorem ev_lift (h:EV X T m o e w):EV X T m true e (wLift w):=h.lift
theorem ev_callC {g:GA} (C:Cal X.prog X.w X.K X.mg X.base x k ps (spR X.K g)) (hr:Room k X.A) (ha:AV X T m o (e::es) wr) (hg:Gl X x:=by rfl)
  (hdb:(x == ("__debug__" : Str))=false:=by decide) (he:starEach (e::es) X.env=(false,eval e X.env)::starEach es X.env:=by rfl) (hpl:(backTo pos (starEach es X.env)).any (·.1)=false:=by rfl) :
  EV X T m true (.Call (.Name x p) (e::es) [] pos) (wCall g wr):=by
 obtain ⟨f,fd,F,h1,h2,h3⟩:=C
 exact ev_call F hr h1 h2 h3 ha hg hdb he hpl
theorem ev_callIC {i q:Nat} {g:GI} {wi:WI} (C:Cal X.prog X.w X.K X.mg X.base x k ps (spI X.K q g)) (hr:Room k X.A) (ha:AI X T m i q (e::es) wi) (ht:T.own i=true:=by rfl) (hg:Gl X x:=by rfl)
  (hdb:(x == ("__debug__" : Str))=false:=by decide) (he:starEach (e::es) X.env=(false,eval e X.env)::starEach es X.env:=by rfl) (hpl:(backTo pos (starEach es X.env)).any (·.1)=false:=by rfl) :
  EV X T true true (.Call (.Name x p) (e::es) [] pos) (wCallI i g wi):=by
 obtain ⟨f,fd,F,h1,h2,h3⟩:=C
 exact ev_callI F hr h1 h2 h3 ha ht hg hdb he hpl
def compB (sc scope:Scope) (N:List Str) (x:Str) (ix:List Nat):Bool :=
 (scope.kind == .function) && scope.names.all (λy=>y.2 != .cell) && scope.names.all (λy=>y.2 != .local || scope.names.lookup y.1 == some .local) && (scope.names.lookup x == some .local) &&
  scope.names.all (λy=>y.2 != .free || (sc.names.lookup y.1 == some .cell || sc.names.lookup y.1 == some .free)) &&
  ix.all (λi=>match N[i]? with | some y=>scope.names.lookup y == some .free | none=>false) && decide (bN N x ix).Nodup
structure CompB (X:Cx) (scope:Scope) (x:Str) (ix:List Nat):Prop where
 B:BlkScope X.env scope x
 hix:∀i∈ix,∃y,X.N[i]? = some y/\scope.names.lookup y=some .free
 hN:(bN X.N x ix).Nodup
theorem compB_mk {scope:Scope} {ix:List Nat} (sc:Scope) (N:List Str) (h:compB sc scope N x ix=true) (h1:X.env.scope=sc:=by rfl) (h2:X.N=N:=by rfl):CompB X scope x ix:=by
 subst h1 h2
 simp only [compB,Bool.and_eq_true,List.all_eq_true,Bool.or_eq_true,decide_eq_true_eq,beq_iff_eq,bne_iff_ne] at h
 obtain ⟨⟨⟨⟨⟨⟨a1,a2⟩,a3⟩,a4⟩,a5⟩,a6⟩,a7⟩:=h
 refine ⟨⟨a1,a2,λy hy e=>(a3 y hy).resolve_left (λz=>z e),a4,λy hy e=>(a5 y hy).resolve_left (λz=>z e)⟩,λi hi=>?_,a7⟩
 have:=a6 i hi
 cases q:X.N[i]? with
 | none=>rw [q] at this;cases this
 | some y =>
  rw [q] at this
  exact ⟨y,rfl,by simpa using this⟩
theorem ev_compB {elt iter:Expr} {px:Pos} {scope:Scope} {ifs:List Expr} {ix:List Nat} (h:CompOk X T m elt iter x px scope ifs ix w) (B:CompB X scope x ix) (hc:X.calm=true:=by rfl)
  (hs:∀x,foldedSetIterable iter X.env x=pure x:=by intro _;rfl):EV X T m true (.ListComp elt [⟨.Name x px,iter,ifs,0⟩] scope pos) w:=ev_comp h B.B B.hix B.hN hc hs
theorem sv_compB {elt iter:Expr} {y:Str} {px py spos:Pos} {scope:Scope} {ifs:List Expr} {ix:List Nat} {j:Nat} (h:CompOk X T m elt iter x px scope ifs ix w) (B:CompB X scope x ix) (hNd:X.N.Nodup)
  (hj:X.N[j]? = some y:=by rfl) (hy:Loc X.env.scope y:=by first | exact Or.inl rfl | exact Or.inr rfl) (hio:j∉T.io:=by decide)
  (hsw:swapsWith (.ListComp elt [⟨.Name x px,iter,ifs,0⟩] scope pos) (some (.Name y py)) spos.line X.env=pure true:=by rfl)
  (hf:X.fn y=true\/X.env.scope.names.lookup y=some .local:=by first | exact .inl rfl | exact .inr rfl | assumption) (hc:X.calm=true:=by rfl)
  (hs:∀x,foldedSetIterable iter X.env x=pure x:=by intro _;rfl):SV X T (.Assign [.Name y py] (.ListComp elt [⟨.Name x px,iter,ifs,0⟩] scope pos) spos) (wSet j w):=sv_comp h B.B hNd B.hix B.hN hj hy hio hsw hf hc hs
end
end PV
namespace PV
open PySem PySem.Spec L2
section
variable {X:Cx} {T:Tg} {m o m0 m1 m2 m3 o1 o2:Bool} {e a b:Expr} {w wa wb we:WE} {pos p2 p:Pos} {es:List Expr} {wr:WA} {x y:Str} {wt:WT} {ws:WS}
end
end PV
namespace PV
open PySem PySem.Spec L2
section
variable {X:Cx} {T:Tg} {m o m0 m1 m2 m3 o1 o2:Bool} {e a b:Expr} {w wa wb we:WE} {pos p2 p:Pos} {es:List Expr} {wr:WA} {x y:Str} {wt:WT} {ws:WS}
def kD:Key->D
 | .inl i=>.int i
 | .inr x=>.str x
theorem rep_kD {K:PySem.W.Frag} {H:Hp} (k:Key):Rep K H (kD k) (kV k) []:=by
 cases k with
 | inl i=>exact .int i
 | inr x=>exact .str x
def keysD (kvs:List (Key × D)):List D:=kvs.map λkv=>kD kv.1
def wKeys (w:WE):WL:=λρ Q=>w ρ λd ρ'=>match d with
 | .dik kvs=>Q (keysD kvs) ρ'
 | _=>False
theorem iv_keys {tg oe:Expr} (h:EV X T m true oe w):IV X T m true tg oe (wKeys w):=by
 obtain ⟨te,pe,ge⟩:=h
 refine ⟨_,pi_keys pe,λz R σ H W ρ Q RR s hw k=>?_⟩
 refine ge z R σ H W ρ _ _ s hw λv H1 W1 d ρ1 F p q=>?_
 obtain ⟨es,rfl⟩:∃es,d=D.dik es:=by
  clear p
  cases d with
  | dik es=>exact ⟨es,rfl⟩
  | _=>exact (show False from q).elim
 obtain ⟨p1,p2,p3,p4,p5⟩:=p
 obtain ⟨nd,kF⟩:=p5 rfl
 cases p4 with
 | @dik dd kvs _ F e1 r =>
  have hd0:=kF dd List.mem_cons_self
  obtain ⟨nF,ndF⟩:=List.nodup_cons.mp nd
  refine ⟨dd,kvs,rfl,e1,λob=>k _ _ W1 (keysD es) ρ1 ⟨?_,?_,λh=>?_⟩ ?_ q⟩
  ·obtain ⟨fp,s1⟩:=p1
   have hi:ImmK H1 (upd H1 dd (.frz ob (.dK kvs))):=imm_upd e1 rfl
   refine ⟨fp,s1.len,λa ha=>?_,λi d hl=>?_,s1.own,s1.ro,s1.wr,λa ha=>?_,s1.dis,s1.fix⟩
   ·have:a≠dd:=λz=>hd0.2 (z ▸ ha)
    rw [upd_ne this];exact s1.wd a ha
   ·obtain ⟨u,h1,h2⟩:=s1.at_ i d hl
    refine ⟨u,h1,h2.frame hi λa ha=>upd_ne λz=>?_⟩
    subst z
    cases hto:T.own i with
    | true=>exact hd0.2 ((s1.own i d hl hto).2 _ ha)
    | false=>exact s.nr hd0.1 (s1.ro i d hl hto _ ha)
   ·have:a≠dd:=λz=>s.nr hd0.1 (z ▸ ha)
    rw [upd_ne this];exact s1.rd a ha
  ·refine ⟨λb u e n=>?_,λb e=>?_,λb u e im=>?_,p2.new⟩
   ·have:b≠dd:=λz=>by rw [z,hd0.1] at e;cases e
    rw [upd_ne this];exact p2.keep b u e n
   ·by_cases hb:b=dd
    ·rw [hb,upd_same] at e;cases e
    ·rw [upd_ne hb] at e;exact p2.dom b e
   ·have:b≠dd:=λz=>by rw [z,hd0.1] at e;cases e
    rw [upd_ne this];exact p2.imm b u e im
  ·obtain ⟨a1,a2,a3⟩:=p3 h
   refine ⟨λb u e=>?_,a2,a3⟩
   have:b≠dd:=λz=>by rw [z,hd0.1] at e;cases e
   rw [upd_ne this];exact a1 b u e
  ·rw [wz_true]
   intro i H2 W2 f
   have e2:H2 dd=some (.frz ob (.dK kvs)):=f.imm _ _ upd_same rfl
   have hlen:kvs.length=es.length:=r.length
   refine ⟨λhi=>⟨e2,by rw [keysD,List.length_map] at hi;omega⟩,λd hd=>?_⟩
   have hi:i<es.length:=by have:=(List.getElem?_eq_some_iff.mp hd).1;rwa [keysD,List.length_map] at this
   refine ⟨⟨e2,by omega⟩,λv H3 y=>?_⟩
   obtain ⟨rfl,kk,vv,hk,rfl⟩:=y
   obtain ⟨d',B,h1,h2,h3⟩:=r.get hk
   rw [keysD,List.getElem?_map,h1] at hd
   cases hd
   exact ⟨Same.refl _,[],rep_kD kk,λa ha=>nomatch ha⟩
end
end PV
namespace PV
open PySem PySem.Spec L2
open PySem.W (Dat kqdP kqdPs kqdOk)
section
variable {X:Cx}
end
end PV
namespace PV
open PySem PySem.Spec L2
section
variable {X:Cx} {T:Tg} {m o m0 m1 m2 m3 o1 o2:Bool} {e a b:Expr} {w wa wb we:WE} {pos p2 p:Pos} {es:List Expr} {wr:WA} {x y:Str} {wt:WT} {ws:WS}
theorem Reps.keysD {K:PySem.W.Frag} {H:Hp}:∀{ds:List (Key × D)} {kvs:List (Key × V)} {F:List Addr},RepK K H ds kvs F->Reps K H (keysD ds) (kvs.map λkv=>kV kv.1) []
 | [],_,_,r=>by cases r;exact .nil
 | p::ds,_,_,r=>by
  cases r with
  | @cons k d v _ vs F G h r =>
   have:=Reps.cons (rep_kD (K:=K) (H:=H) k) (Reps.keysD r)
   simpa [PV.keysD] using this
def dAddT:G2
 | .int i,.int j,k=>k (.int (i+j))
 | .str x,.str y,k=>x.length+y.length<=sizeLine/\k (.str (x++y))
 | .tup xs,.tup ys,k=>pureL xs=true/\pureL ys=true/\xs.length+ys.length<=sizeLine/\k (.tup (xs++ys))
 | .lst xs,.lst ys,k=>pureL xs=true/\pureL ys=true/\xs.length+ys.length<=sizeLine/\k (.lst (xs++ys))
 | _,_,_=>False
theorem addT_inv {a b:D} {k:D->Prop} (g:dAddT a b k):(∃i j,a=.int i/\b=.int j)\/(∃i j,a=.str i/\b=.str j)\/(∃i j,a=.lst i/\b=.lst j)\/∃i j,a=.tup i/\b=.tup j:=by
 cases a with
 | int i=>cases b with
  | int j=>exact .inl ⟨i,j,rfl,rfl⟩
  | _=>exact (show False from g).elim
 | str i=>cases b with
  | str j=>exact .inr (.inl ⟨i,j,rfl,rfl⟩)
  | _=>exact (show False from g).elim
 | lst i=>cases b with
  | lst j=>exact .inr (.inr (.inl ⟨i,j,rfl,rfl⟩))
  | _=>exact (show False from g).elim
 | tup i=>cases b with
  | tup j=>exact .inr (.inr (.inr ⟨i,j,rfl,rfl⟩))
  | _=>cases i <;> exact (show False from g).elim
 | _=>exact (show False from g).elim
theorem od_addT:OpD X (binaryOp .Add) dAddT:=by
 obtain ⟨r0,o0,g0⟩:=od_add (X:=X)
 refine ⟨_,OpR.or op_cat0 o0,λH a b x y F1 F2 k Q ra rb g q=>?_⟩
 rcases addT_inv g with ⟨i,j,rfl,rfl⟩ | ⟨i,j,rfl,rfl⟩ | ⟨i,j,rfl,rfl⟩ | ⟨i,ys,rfl,rfl⟩
 ·exact .inr (g0 H _ _ x y F1 F2 k Q ra rb g q)
 ·exact .inr (g0 H _ _ x y F1 F2 k Q ra rb g q)
 ·exact .inr (g0 H _ _ x y F1 F2 k Q ra rb g q)
 ·cases i with
  | nil =>
   cases ra with
   | @tup p _ _ _ e1 r1 =>
    cases r1
    cases rb with
    | @tup p' us _ _ e2 r2=>exact .inl ⟨p,p',us,rfl,rfl,.of e1,.of e2,q _ _ _ _ (.flat (.tup e2 (r2.pure g.2.1).2)) g.2.2.2⟩
  | cons d xs=>exact .inr (g0 H _ _ x y F1 F2 k Q ra rb ⟨g.1,g.2.1,by simp,g.2.2⟩ q)
def dSlT:D->Option Int->Option Int->(D->Prop)->Prop
 | .lst xs,lo,hi,k=>pureL xs=true/\k (.lst (cutD xs lo hi))
 | .kls xs,lo,hi,k=>pureL xs=true/\k (.lst (cutD xs lo hi))
 | .tup xs,lo,hi,k=>pureL xs=true/\k (.tup (cutD xs lo hi))
 | _,_,_,_=>False
theorem slT_inv {d:D} {lo hi:Option Int} {k:D->Prop} (g:dSlT d lo hi k):(∃ds,d=.lst ds)\/(∃ds,d=.kls ds)\/∃ds,d=.tup ds:=by
 cases d with
 | lst ds=>exact .inl ⟨ds,rfl⟩
 | kls ds=>exact .inr (.inl ⟨ds,rfl⟩)
 | tup ds=>exact .inr (.inr ⟨ds,rfl⟩)
 | _=>exact (show False from g).elim
theorem sl_anyT:SlR X (λx lo hi H Q=>(rSlL X.K x lo hi H Q\/rSlT X.K x lo hi H Q)\/rSlW X.K x lo hi H Q):=SlR.or sl_any sl_tupW
def wSlT (w:WE) (wl wh:WO):WE:=λρ Q=>w ρ λd ρ1=>wl ρ1 λlo ρ2=>wh ρ2 λhi ρ3=>dSlT d lo hi λd'=>Q d' ρ3
theorem cut_whole {xs:List D} {lo hi:Option Int} (h:HT.sIx xs.length 0 lo=0/\HT.sIx xs.length xs.length hi=xs.length):cutD xs lo hi=xs:=by
 unfold cutD
 rw [h.1,h.2]
 simp
theorem ev_slT {lo hi:Option Expr} {wl wh:WO} (he:EV X T m1 o1 e w) (hl:OV X T m2 lo wl) (hh:OV X T m3 hi wh) (hc:o1=true\/(m2 || m3)=false:=by first | exact .inl rfl | exact .inr rfl) :
  EV X T (m1 || (m2 || m3)) true (.Subscript e (.Slice lo hi none p2) pos) (wSlT w wl wh):=by
 obtain ⟨te,pe,ge⟩:=he
 obtain ⟨tl,pl,gl⟩:=hl
 obtain ⟨th,ph,gh⟩:=hh
 refine ⟨_,pe_slice sl_anyT pe pl ph,λz R σ H W ρ Q Q' s hw k=>?_⟩
 refine ge z R σ H W ρ _ _ s hw λv H1 W1 d ρ1 F p q=>?_
 refine gl z R σ H1 W1 ρ1 _ _ p.sr q λlo H2 W2 ρ2 p2 q2=>?_
 refine gh z R σ H2 W2 ρ2 _ _ p2.sr q2 λhi H3 W3 ρ3 p3 q3=>?_
 have pp:=p2.seq p3
 have r3:Rep X.K H3 d v F:=by
  rcases hc with hc | hc
  ·exact p.rep.keep pp.fr λa h=>((p.own hc).2 a h).2
  ·exact p.rep.same (pp.calm hc).1
 have fin:∀ad d' v' Fn,Fin X.K H3 ad d' v' Fn->Q d' ρ3->Q' v' ad:=λH' d' v' F' fi hq=>by
  refine k v' H' W3 d' ρ3 F' (Post.fin p3.sr (p.fr.trans pp.fr) (λh=>?_) fi.same fi.rep fi.nd fi.new) hq
  rw [Bool.or_eq_false_iff] at h
  obtain ⟨a1,a2,a3⟩:=p.calm h.1
  obtain ⟨b1,b2,b3⟩:=pp.calm h.2
  exact ⟨a1.trans b1,b2.trans a2,b3.trans a3⟩
 have q4:dSlT d lo hi λd'=>Q d' ρ3:=q3
 clear q3
 rcases slT_inv q4 with ⟨ds,rfl⟩ | ⟨ds,rfl⟩ | ⟨ds,rfl⟩
 ·have q3:=q4
  cases r3 with
  | @lst a xs _ F e1 r9 =>
   obtain ⟨hp,hq⟩:=q3
   obtain ⟨_,r9⟩:=r9.pure hp
   exact .inl (.inl ⟨a,xs,rfl,.of e1,λl hl=>fin _ _ _ [l] ⟨same_upd hl,.lst upd_same (r9.cut.same (same_upd hl)),by simp,λb m=>by rw [List.mem_singleton.mp m];exact hl⟩ hq⟩)
 ·have q3:=q4
  cases r3 with
  | @kls a xs _ e1 r9 =>
   obtain ⟨hp,hq⟩:=q3
   exact .inl (.inl ⟨a,xs,rfl,e1.sq,λl hl=>fin _ _ _ [l] ⟨same_upd hl,.lst upd_same (r9.cut.same (same_upd hl)),by simp,λb m=>by rw [List.mem_singleton.mp m];exact hl⟩ hq⟩)
 ·have q3:=q4
  cases r3 with
  | @tup a xs _ F e1 r9 =>
   obtain ⟨hp,hq⟩:=q3
   obtain ⟨_,r9⟩:=r9.pure hp
   by_cases hn:HT.sIx ds.length 0 lo=0/\HT.sIx ds.length ds.length hi=ds.length
   ·rw [cut_whole hn] at hq
    exact .inr ⟨a,xs,rfl,.of e1,by rw [r9.length];exact hn,fin _ _ _ [] (.flat (.tup e1 r9)) hq⟩
   ·exact .inl (.inr ⟨a,xs,rfl,.of e1,by rw [r9.length];exact hn,λl hl=>fin _ _ _ [] ⟨same_upd hl,.tup upd_same (r9.cut.same (same_upd hl)),by simp,λb m=>nomatch m⟩ hq⟩)
end
end PV
namespace PV
open PySem PySem.Spec L2
section
variable {κ:Type} [DecidableEq κ]
end
section
variable {K:PySem.W.Frag} {H:Hp}
end
section
variable {X:Cx} {T:Tg} {m o m0 m1 m2 m3 o1 o2:Bool} {e a b:Expr} {w wa wb we:WE} {pos p2 p:Pos} {es:List Expr} {wr:WA} {x y:Str} {wt:WT} {ws:WS}
def dikOf (d:D) (k:List (Key × D)->Prop):Prop:=match d with
 | .dik kvs=>k kvs
 | _=>False
end
end PV
namespace PV
open PySem PySem.Spec L2
section
variable {X:Cx} {T:Tg} {m o m0 m1 m2 m3 o1 o2:Bool} {e a b:Expr} {w wa wb we:WE} {pos p2 p:Pos} {es:List Expr} {wr:WA} {x y:Str} {wt:WT} {ws:WS}
end
end PV
namespace PV
open PySem PySem.Spec L2
section
variable {X:Cx} {T:Tg} {m o m0 m1 m2 m3 o1 o2:Bool} {e a b:Expr} {w wa wb we:WE} {pos p2 p:Pos} {es:List Expr} {wr:WA} {x y:Str} {wt:WT} {ws:WS}
end
end PV
namespace PV
open PySem PySem.Spec L2
section
variable {X:Cx} {T:Tg} {m o m0 m1 m2 m3 o1 o2:Bool} {e a b:Expr} {w wa wb we:WE} {pos p2 p:Pos} {es:List Expr} {wr:WA} {x y:Str} {wt:WT} {ws:WS}
end
end PV
namespace PV
open PySem PySem.Spec L2
section
variable {X:Cx} {T:Tg} {m o:Bool}
end
end PV
namespace PV
open PySem PySem.Spec L2
section
variable {X:Cx} {T:Tg} {m o m0 m1 m2 m3 o1 o2:Bool} {e a b:Expr} {w wa wb we:WE} {pos p2 p:Pos} {es:List Expr} {wr:WA} {x y:Str} {wt:WT} {ws:WS}
end
end PV
namespace PV
open PySem PySem.Spec L2
section
variable {X:Cx} {T:Tg} {m o m0 m1 m2 m3 me o1 o2:Bool} {e a b:Expr} {w wa wb we:WE} {pos p2 p:Pos} {es:List Expr} {wr:WA} {x y:Str} {wt:WT} {ws:WS}
def TB (q:Nat):Tg:={ own:=λi=>i == q,io:=[q] }
end
end PV
namespace PV
open PySem PySem.Spec L2
open PyProof.Rows (envOfC)
section
variable {X:Cx} {T:Tg} {m o m0 m1 m2 m3 o1 o2:Bool} {e a b:Expr} {w wa wb we:WE} {pos p2 p:Pos} {es:List Expr} {wr:WA} {x y:Str} {wt:WT} {ws:WS} {k:Nat} {ps:List Str}
def NotAt (σ:St) (i:Nat) (C:List Addr):Prop:=∀a,σ[i]? = some (some (.ref a))->a∉C
theorem NotAt.app {σ:St} {i:Nat} {A C:List Addr} (h:NotAt σ i A) (h':NotAt σ i C):NotAt σ i (A++C):=λa e m=>(List.mem_append.mp m).elim (h a e) (h' a e)
end
section
variable {K:PySem.W.Frag} {x:Str} {qual:Str} {st:Stmt} {f:Addr} {fd:FuncData} {N ps:List Str} {T:Tg} {P:Program} {w:World} {mg:Str->Option Value} {base:Heap} {k:Nat} {ww:WS}
end
end PV
namespace L2
open PySem PySem.Spec PyProof.Rows
section
variable {X:Cx} {es:List Expr} {t:TA} {pos:Pos}
def tLstF (t:TA):TE:=λσ H Q=>t σ H λxs H1=>xs.length<=sizeLine/\∀p o,H1 p=none->Q (.ref p) (upd H1 p (.frz o (.lst xs)))
theorem pe_lstF (h:PA X es t):PE X (.List es pos) (tLstF t):=by
 intro pins s σ H Q I hq
 refine wpAny_List_spliced (thn (h pos pins s σ H _ I hq) λus s1 ⟨xs,H1,I1,r,z,q⟩=>⟨by rw [← r.length];exact z,?_⟩)
 have hf:H1 s1.heap.objs.size=none:=I1.hok.fresh (Nat.le_refl _)
 refine ⟨.ref s1.heap.objs.size,upd H1 s1.heap.objs.size (.frz { cls:=.type "list",data:=.seq us.toArray } (.lst xs)),I1.laid (t':=s1.toks) (λb u e=>Heap.get?_push_of_some _ e) (Nat.le_refl _) ?_,rfl,q _ _ hf⟩
 exact ⟨Heap.get?_push_size _ rfl,z,us,0,r,Heap.get?_push_size _ rfl⟩
end
end L2
namespace PV
open PySem PySem.Spec L2
section
variable {X:Cx} {T:Tg} {m o m0 m1 m2 m3 me o1 o2:Bool} {e a b:Expr} {w wa wb we:WE} {pos p2 p:Pos} {es:List Expr} {wr:WA} {x y:Str} {wt:WT} {ws:WS}
def dAll:GA
 | [.lst ds],k=>∃bs:List Bool,ds=bs.map D.bl/\k (.bl (bs.all id))
 | _,_=>False
def wLstF (wr:WA):WE:=λρ Q=>wr ρ λds ρ'=>pureL ds=true/\ds.length<=sizeLine/\Q (.fls ds) ρ'
theorem ev_lstF (h:AV X T m o es wr):EV X T m true (.List es pos) (wLstF wr):=by
 obtain ⟨ta,pa,ga⟩:=h
 refine ⟨_,pe_lstF pa,λz R σ H W ρ Q Q' s hw k=>?_⟩
 refine ga z R σ H W ρ _ _ s hw λvs H1 W1 ds ρ1 F p q=>?_
 obtain ⟨hp,hz,q⟩:=q
 obtain ⟨-,r⟩:=p.rep.pure hp
 exact ⟨by rw [p.rep.length];exact hz,λa ob ha=>k _ _ W1 (.fls ds) ρ1 [] (Post.fin p.sr p.fr p.calm (same_upd ha) (.fls upd_same (r.same (same_upd ha))) List.nodup_nil (λb m=>nomatch m)) q⟩
def zipTD (xs ys:List D):List D:=(xs.zip ys).map λp=>.tup [p.1,p.2]
def zipTOf (ds:List D) (k:List D->Prop):Prop:=match ds with
 | [.tup xs,.tup ys]=>pureL xs=true/\pureL ys=true/\k (zipTD xs ys)
 | _=>False
def blkE2 (ρ:Env) (d1 d2:D) (ix:List Nat):Env:=some d1::some d2::ix.map (look ρ)
def two2 (d:D) (k:D->D->Prop):Prop:=match d with
 | .tup [a,b]=>k a b
 | _=>False
def compI2 (ds:List D) (wt:WT) (we:WE) (ρ1:Env) (ix:List Nat) (Q:D->Env->Prop):Prop:=∃I:Nat->List D->Prop,I 0 [] /\
 (∀i d ys,ds[i]? = some d->I i ys->ys.length<sizeLine/\two2 d λd1 d2=>wt (blkE2 ρ1 d1 d2 ix) λb _=>if b=true then we (blkE2 ρ1 d1 d2 ix) (λy _=>I (i+1) (ys++[y])) else I (i+1) ys) /\
 ∀ys,I ds.length ys->ys.length<=sizeLine/\Q (.lst ys) ρ1
def wComp2 (wl:WL) (wt:WT) (we:WE) (ix:List Nat):WE:=λρ Q=>wl ρ λds ρ1=>compI2 ds wt we ρ1 ix Q
def CompOk2 (X:Cx) (T:Tg) (m:Bool) (elt iter tg:Expr) (ts:List Str) (gt:TG) (scope:Scope) (ifs:List Expr) (ix:List Nat) (w:WE):Prop :=
 ∃(wi:TI) (tt:TT) (te:TE),PI X tg iter wi/\(∀cl C s₀ H₀ fp,PIfs (cxBlk X scope cl C (bN2 X.N ts ix) s₀ H₀ fp) ifs tt)/\(∀cl C s₀ H₀ fp,PE (cxBlk X scope cl C (bN2 X.N ts ix) s₀ H₀ fp) elt te) /\
  ∀(z:Nat->V) (R:Addr->Prop) (σ:St) (H:Hp) (W:Addr->Prop) (ρ:Env) (Q:D->Env->Prop) (Q':VK),SR X.K T z R H W σ ρ->w ρ Q ->
   (∀v H' W' d ρ' F,Post X.K T z R m true H W σ ρ H' W' ρ' d v F->Q d ρ'->Q' v H')->tComp2 ts wi gt tt te ix σ H Q'
def g2 (K:PySem.W.Frag):TG:=gTup K 2 (gCons (gName 0) (gCons (gName 1) gNil))
theorem comp_ok2 {elt iter:Expr} {px py pt:Pos} {kt:Nat} {scope:Scope} {ifs:List Expr} {wl:WL} {pr:Bool} (ix:List Nat) (hi:IV X T m pr (.Tuple [.Name x px,.Name y py] kt pt) iter wl)
  (ht:∀cl C s₀ H₀ fp,CV (cxBlk X scope cl C (bN2 X.N [x,y] ix) s₀ H₀ fp) ifs wt) (he:∀cl C s₀ H₀ fp,EV (cxBlk X scope cl C (bN2 X.N [x,y] ix) s₀ H₀ fp) TR false true elt we) :
  CompOk2 X T m elt iter (.Tuple [.Name x px,.Name y py] kt pt) [x,y] (g2 X.K) scope ifs ix (wComp2 wl wt we ix):=by
 obtain ⟨wi,pi,gi⟩:=hi
 refine ⟨wi,λσ H Q=>∀cl C s₀ H₀ fp,Classical.choose (ht cl C s₀ H₀ fp) σ H Q,λσ H Q=>∀cl C s₀ H₀ fp,Classical.choose (he cl C s₀ H₀ fp) σ H Q,pi,
  λcl C s₀ H₀ fp pins s σ H Q I h=>(Classical.choose_spec (ht cl C s₀ H₀ fp)).1 pins s σ H Q I (h cl C s₀ H₀ fp),λcl C s₀ H₀ fp pins s σ H Q I h=>(Classical.choose_spec (he cl C s₀ H₀ fp)).1 pins s σ H Q I (h cl C s₀ H₀ fp),?_⟩
 intro z R σ H W ρ Q Q' s hw k
 refine gi z R σ H W ρ _ _ s hw λJ H1 W1 ds ρ1 p jd q=>?_
 obtain ⟨I,h0,hI,hd⟩:=q
 refine ⟨λi n ys H2=>n=ds.length-i/\i<=ds.length/\Same H1 H2/\∃es F,Reps X.K H2 es ys F/\F.Nodup/\(∀a∈F,H1 a=none)/\I i es,ds.length,⟨by simp,Nat.zero_le _,Same.refl _,[],[],.nil,List.nodup_nil,(λa m=>(nomatch m)),h0⟩,?_⟩
 rintro i n ys H2 ⟨rfl,hi,sm,es,F,re,nd,nw,i2⟩
 obtain ⟨j1,j2⟩:=jd i H2 (wz pr W1) (FrW.same _ sm)
 by_cases hlt:i<ds.length
 ·have hdi:ds[i]? = some ds[i]:=List.getElem?_eq_getElem hlt
  obtain ⟨hgo,hy⟩:=j2 _ hdi
  obtain ⟨hz,q1⟩:=hI i _ es hdi i2
  refine .inr ⟨hgo,by rw [re.length];exact hz,λv H3 yl o ol=>?_⟩
  obtain ⟨sm3,Fv,rv,_⟩:=hy v H3 yl
  generalize ds[i]=dd at q1 rv
  match dd,rv,q1 with
  | .tup [d1,d2],rv,q1 =>
   cases rv with
   | @tup av vs _ _ ev rr =>
    obtain ⟨v1,v2,F1,F2,rfl,r1,r2⟩:=rr.at2
    refine ⟨av,[v1,v2],rfl,.of ev,rfl,v1,[v2],rfl,v2,[],rfl,rfl,[some v1,some v2],?_,rfl,?_⟩
    ·match o,ol with
     | [o1,o2],_=>rfl
    have srB:∀z',SR X.K TR z' (Any H3) H3 (λ_=>False) (((bS2 σ o ix).set 0 (some v1)).set 1 (some v2)) (blkE2 ρ1 d1 d2 ix):=λz'=>by
     have eS:((bS2 σ o ix).set 0 (some v1)).set 1 (some v2)=bS2 σ [some v1,some v2] ix:=by
      match o,ol with
      | [o1,o2],_=>rfl
     rw [eS]
     refine SR.readonly rfl (by simp [bS2,blkE2]) λj d hj=>⟨rfl,?_⟩
     match j with
     | 0 =>
      simp only [blkE2,look,Option.some.injEq] at hj
      subst hj
      exact ⟨v1,F1,rfl,r1⟩
     | 1 =>
      simp only [blkE2,look,Option.some.injEq] at hj
      subst hj
      exact ⟨v2,F2,rfl,r2⟩
     | j+2 =>
      have hj':look (ix.map (look ρ1)) j=some d:=hj
      rw [look_map] at hj'
      cases hx:ix[j]? with
      | none=>rw [hx] at hj';cases hj'
      | some q =>
       rw [hx] at hj'
       obtain ⟨fp,s1⟩:=(p.sr.same sm).same sm3
       obtain ⟨u,hu,ru⟩:=s1.at_ q d hj'
       refine ⟨u,fp q,?_,ru⟩
       show (ix.map λi=>(σ[i]?).getD none)[j]? = some (some u)
       rw [List.getElem?_map,hx]
       simp [hu]
    intro cl C s₀ H₀ fp
    refine (Classical.choose_spec (ht cl C s₀ H₀ fp)).2 (λ_=>.non) (Any H3) _ H3 (λ_=>False) (blkE2 ρ1 d1 d2 ix) _ _ (srB _) q1 λbb H4 W4 ρ4 p4 q4=>?_
    obtain ⟨sm4,hW4,hρ4⟩:=p4.calm rfl
    have re4:=((re.same sm3).same sm4)
    cases bb with
    | false=>exact ⟨ds.length-(i+1),by omega,rfl,hlt,(sm.trans sm3).trans sm4,es,F,re4,nd,nw,q4⟩
    | true =>
     show if true=true then _ else _
     rw [if_pos rfl]
     intro cl C s₀ H₀ fp
     refine (Classical.choose_spec (he cl C s₀ H₀ fp)).2 (λ_=>.non) (Any H3) _ H4 W4 (blkE2 ρ1 d1 d2 ix) _ _ (hρ4 ▸ p4.sr) (by simpa using q4) λu H5 W5 y ρ5 Fy p5 q5=>?_
     obtain ⟨sm5,_,_⟩:=p5.calm rfl
     obtain ⟨ny,ky⟩:=p5.own rfl
     have sm15:Same H1 H5:=((sm.trans sm3).trans sm4).trans sm5
     refine ⟨ds.length-(i+1),by omega,rfl,hlt,sm15,es++[y],F++Fy,(re4.same sm5).snoc p5.rep,nodup_ins nd ny λa ha hf=>?_,λa ha=>?_,q5⟩
     ·obtain ⟨ob,e1,_⟩:=re4.dom a hf
      rw [(ky a ha).1] at e1;cases e1
     ·rcases List.mem_append.mp ha with ha | ha
      ·exact nw a ha
      ·exact ((sm.trans sm3).trans sm4).free (ky a ha).1
 ·have e:i=ds.length:=by omega
  subst e
  obtain ⟨hz,q1⟩:=hd es i2
  refine .inl ⟨j1 (Nat.le_refl _),by rw [re.length];exact hz,λl hl=>?_⟩
  have hl1:H1 l=none:=sm.free hl
  refine k _ _ W1 (.lst es) ρ1 (l::F) ⟨(p.sr.same sm).same (same_upd hl),(p.fr.trans (FrW.same W1 sm)).trans (FrW.same W1 (same_upd hl)),λh=>⟨((p.calm h).1.trans sm).trans (same_upd hl),(p.calm h).2⟩,.lst upd_same (re.same (same_upd hl)),λ_=>⟨List.nodup_cons.mpr ⟨λh=>?_,nd⟩,λb hb=>?_⟩⟩ q1
  ·obtain ⟨ob,e1,_⟩:=re.dom l h
   rw [hl] at e1;cases e1
  ·rcases List.mem_cons.mp hb with rfl | hb
   ·exact ⟨p.fr.dom _ hl1,p.sr.nw hl1⟩
   ·exact ⟨p.fr.dom _ (nw b hb),p.sr.nw (nw b hb)⟩
structure CompB2 (X:Cx) (scope:Scope) (x y:Str) (ix:List Nat):Prop where
 B1:CompB X scope x ix
 B2:CompB X scope y ix
 nd:(bN2 X.N [x,y] ix).Nodup
theorem compB2_mk {scope:Scope} {ix:List Nat} (sc:Scope) (N:List Str) (h:(compB sc scope N x ix && compB sc scope N y ix && decide (bN2 N [x,y] ix).Nodup)=true) (h1:X.env.scope=sc:=by rfl) (h2:X.N=N:=by rfl):CompB2 X scope x y ix:=by
 simp only [Bool.and_eq_true,decide_eq_true_eq] at h
 exact ⟨compB_mk sc N h.1.1 h1 h2,compB_mk sc N h.1.2 h1 h2,by rw [h2];exact h.2⟩
theorem pg2 {scope:Scope} {ix:List Nat} {px py pt:Pos} {kt:Nat} (B:CompB2 X scope x y ix) (hc:X.calm=true) (cl:List (Str × Addr)) (C:Addr) (s₀:Shared) (H₀:Hp) (fp:List Addr) :
  PG (cxBlk X scope cl C (bN2 X.N [x,y] ix) s₀ H₀ fp) (.Tuple [.Name x px,.Name y py] kt pt) (g2 X.K):=by
 have l1:(cxBlk X scope cl C (bN2 X.N [x,y] ix) s₀ H₀ fp).env.scope.names.lookup x=some .local:=lookup_relabel_local B.B1.B.lx
 have l2:(cxBlk X scope cl C (bN2 X.N [x,y] ix) s₀ H₀ fp).env.scope.names.lookup y=some .local:=lookup_relabel_local B.B2.B.lx
 exact pg_tup hc (pgs_cons (pg_name (i:=0) B.nd rfl (.inl l1) (.inr l1)) (pgs_cons (pg_name (i:=1) B.nd rfl (.inl l2) (.inr l2)) pgs_nil))
theorem ev_comp2 {elt iter:Expr} {px py pt:Pos} {kt:Nat} {scope:Scope} {ifs:List Expr} {ix:List Nat} (h:CompOk2 X T m elt iter (.Tuple [.Name x px,.Name y py] kt pt) [x,y] (g2 X.K) scope ifs ix w) (B:CompB2 X scope x y ix) (hc:X.calm=true:=by rfl)
  (hs:∀x,foldedSetIterable iter X.env x=pure x:=by intro _;rfl):EV X T m true (.ListComp elt [⟨.Tuple [.Name x px,.Name y py] kt pt,iter,ifs,0⟩] scope pos) w:=by
 obtain ⟨wi,tt,te,h1,h2,h3,h4⟩:=h
 exact ⟨_,pe_comp2 ix hc B.B1.B B.B1.hix B.nd h1 (pg2 B hc) h2 h3 hs,h4⟩
end
end PV
namespace PV
open PySem PySem.Spec L2
open Builtin.Str (glued tooLong)
section
variable {X:Cx} {T:Tg} {m o m0 m1 m2 m3 me o1 o2:Bool} {e a b:Expr} {w wa wb we:WE} {pos p2 p:Pos} {es:List Expr} {wr:WA} {x y:Str} {wt:WT} {ws:WS}
end
end PV
namespace PV
open PySem PySem.Spec L2
open Builtin.Str (glued tooLong subAt)
section
variable {X:Cx} {T:Tg} {m o m0 m1 m2 m3 m4 me o1 o2:Bool} {e a b:Expr} {w wa wb we:WE} {pos p2 p:Pos} {es:List Expr} {wr:WA} {x y:Str} {wt:WT} {ws:WS}
end
end PV
namespace PV
open PySem PySem.Spec L2
section
variable {X:Cx} {T:Tg} {m o m0 m1 m2 m3 o1 o2:Bool} {e a b:Expr} {w wa wb we:WE} {pos p2 p:Pos} {es:List Expr} {wr:WA} {x y:Str}
end
end PV
namespace PV
open PySem PySem.Spec L2 PyProof.Rows
section
variable {X:Cx} {T:Tg} {m o m0 m1 m2 m3 me o1 o2:Bool} {e a b c:Expr} {w wa wb we:WE} {pos p2 p:Pos} {es:List Expr} {wr:WA} {x y:Str} {wt:WT} {ws:WS} {k:Nat} {ps:List Str} {tg:Expr}
def dMulB:G2
 | .int i,.int j,k=>i.natAbs<2 ^ 2000/\j.natAbs<2 ^ 2000/\k (.int (i*j))
 | _,_,_=>False
def wCallF (g:GI) (wr:WA):WE:=λρ Q=>wr ρ λds ρ1=>match ds with
 | d0::post=>flatD d0=true/\pureL post=true/\g (d0::post) λd _=>Q d ρ1
 | []=>False
theorem ev_callF {g:GI} (C:Cal X.prog X.w X.K X.mg X.base x k ps (spI X.K 0 g)) (hr:Room k X.A) (ha:AV X T false true (e::es) wr) (hg:Gl X x:=by rfl)
  (hdb:(x == ("__debug__" : Str))=false:=by decide) (he:starEach (e::es) X.env=(false,eval e X.env)::starEach es X.env:=by rfl) (hpl:(backTo pos (starEach es X.env)).any (·.1)=false:=by rfl) :
  EV X T false true (.Call (.Name x p) (e::es) [] pos) (wCallF g wr):=by
 obtain ⟨f,fd,F,hm,hk,hb⟩:=C
 obtain ⟨ta,pa,ga⟩:=ha
 refine ⟨_,pe_call F hr hg hm hk hb .nil pass0 pa hdb he hpl,λz R σ H W ρ Q Q' s hw k=>?_⟩
 refine ga z R σ H W ρ _ _ s hw λvs H1 W1 ds ρ1 F p q=>?_
 obtain ⟨sm,rfl,rfl⟩:=p.calm rfl
 obtain ⟨nd,own⟩:=p.own rfl
 have rp:=p.rep
 match ds,rp,q with
 | d0::post,rp,q =>
  obtain ⟨hf,hp,q⟩:=q
  cases rp with
  | @cons _ v0 _ vs F0 G r0 rr =>
   obtain ⟨a,rfl,hF⟩:=r0.flat1 hf
   obtain ⟨hE,rr⟩:=rr.pure hp
   subst hF hE
   refine ⟨d0::post,a,_,by rw [List.append_nil];exact .cons (G:=[]) r0 rr,rfl,q,λv H' d d' F' rd' rd nd new kp hk=>?_⟩
   have ha:H a=none:=(own a (by simp)).1
   have same:Same H H':=λb ob eb=>kp b ob (sm b ob eb) λz=>by rw [z,ha] at eb;cases eb
   refine k v H' W1 d ρ1 F' (Post.fin s (FrW.refl H W1) (λ_=>⟨Same.refl H,rfl,rfl⟩) same rd nd λb hb=>?_) hk
   cases hq:H b with
   | none=>rfl
   | some ob=>have:=sm b ob hq;rw [new b hb] at this;cases this
def rPopT:V->List V->Hp->VK->Prop:=λx vs H Q=>∃a b kvs k v,x=.ref a/\vs=[.ref b]/\H a=some (.dT kvs)/\H b=some (.tup (k.map kV))/\valV kvs k=some v/\Q v (upd H a (.dT (dropK kvs k)))
theorem mt_popT (hu:X.A.units+1<cLine):MtM X "dict.pop" rPopT:=by
 intro pins s σ H x vs v us Q I rx rv h
 obtain ⟨a,b,kvs,k,y,rfl,rfl,hH,hb,hv,q⟩:=h
 cases rx
 obtain ⟨u,rfl,ru⟩:=Vals.one rv
 cases ru
 exact d_popT hu I hH hb hv λw' s' I' rw'=>⟨y,_,I',rw',q⟩
def gPopT:GM
 | .dit kvs,[.tup xs],k=>oget (keysOf xs) λks=>oget (valD kvs ks) λd=>d.pure=true/\k d (.dit (dropD kvs ks))
 | _,_,_=>False
theorem md_popT (hu:X.A.units+1<cLine):MtD X "dict.pop" gPopT:=by
 refine ⟨_,mt_popT hu,λH d ds v xs F G k Q r nd rs ndG dis g q=>?_⟩
 cases d with
 | dit es =>
  cases ds with
  | nil=>exact (show False from g).elim
  | cons d ds =>
   cases ds with
   | cons _ _=>cases d <;> exact (show False from g).elim
   | nil =>
    cases d with
    | tup ys =>
     obtain ⟨u,rfl,rd⟩:=rs.at1
     obtain ⟨ks,hks,g⟩:=oget_some g
     obtain ⟨d,hd,hp,g⟩:=oget_some g
     cases r with
     | @dit l kvs _ F e r9 =>
      cases rd with
      | @tup b us _ _ eb rb =>
       have hkv:=rb.keys hks
       rcases r9.val ks with ⟨q1,_⟩ | ⟨d',v',B,q1,q2,q3,q4⟩
       ·rw [q1] at hd;cases hd
       ·rw [q1] at hd
        cases hd
        obtain ⟨hB,q3⟩:=q3.pure hp
        obtain ⟨nl,nd⟩:=List.nodup_cons.mp nd
        obtain ⟨G',rG,sG⟩:=r9.drop (k:=ks)
        have nG:l∉G':=λh=>nl (sG.subset h)
        refine ⟨l,b,kvs,ks,v',rfl,rfl,e,by rw [← hkv];exact eb,q2,?_⟩
        refine q v' l _ d _ (l::G') List.mem_cons_self rfl (.dit upd_same (rG.upd e rfl nG)) (List.nodup_cons.mpr ⟨nG,nd.sublist sG⟩) (λa ha=>?_) (q3.upd e rfl (λh=>nomatch h)) g
        rcases List.mem_cons.mp ha with rfl | ha
        ·exact .inl List.mem_cons_self
        ·exact .inl (List.mem_cons_of_mem _ (sG.subset ha))
    | _=>exact (show False from g).elim
 | _=>exact (show False from g).elim
def dLenT:GA
 | [.dit xs],k=>k (.int xs.length)
 | _,_=>False
theorem cd_lenT:CallD X (.builtin "len") dLenT:=by
 refine ⟨_,call_lenT,λH ds xs F k Q r g q=>?_⟩
 cases ds with
 | nil=>exact (show False from g).elim
 | cons d ds =>
  cases ds with
  | cons _ _=>cases d <;> exact (show False from g).elim
  | nil =>
   cases d with
   | dit es =>
    obtain ⟨v,rfl,rd⟩:=r.at1
    clear r
    cases rd with
    | dit e r9=>exact ⟨_,_,rfl,e,by rw [r9.length];exact q _ _ _ _ (.flat (.int _)) g⟩
   | _=>exact (show False from g).elim
theorem iv_par {i:Nat} (ht:T.own i=false:=by rfl) (hN:X.N[i]? = some x:=by rfl) (hv:Vis X.env.scope x:=by first | exact Or.inl rfl | exact Or.inr (Or.inl rfl) | exact Or.inr (Or.inr rfl)) (hd:(x == ("__debug__" : Str))=false:=by decide)
  (hcd:(x == ("__classdict__" : Str))=false:=by decide):IV X T false true tg (.Name x p) (wSeqD (wVar i)):=by
 refine ⟨_,pi_seq (pe_var hN hv hd hcd),λz R σ H W ρ Q RR s hw k=>?_⟩
 unfold wSeqD wVar at hw
 cases hl:look ρ i with
 | none=>rw [hl] at hw;exact hw.elim
 | some d =>
 rw [hl] at hw
 have q:=hw
 obtain ⟨fp,s0⟩:=id s
 obtain ⟨v,h1,r0⟩:=s0.at_ i d hl
 have nW:∀b∈fp i,¬W b:=λb hb hw=>s0.wr b hw (s0.ro i d hl ht b hb)
 refine ⟨v,h1,?_⟩
 cases d with
 | tup ds =>
  obtain ⟨hp,q⟩:=q
  obtain ⟨hF,rp⟩:=r0.pure (by simpa [D.pure] using hp)
  cases rp with
  | @tup a xs _ _ e1 r =>
   refine ⟨a,rfl,.inr ⟨⟨xs,.of e1⟩,k _ H W ds ρ ⟨s,FrW.refl H W,λ_=>⟨Same.refl H,rfl,rfl⟩⟩ (λi H2 W2 f=>?_) q⟩⟩
   have e2:H2 a=some (.tup xs):=f.imm _ _ e1 rfl
   refine ⟨λhi=>⟨xs,.of e2,by rw [r.length];exact hi⟩,λd hd=>?_⟩
   obtain ⟨x,B,hx,rx,sx⟩:=r.get hd
   refine ⟨⟨xs,x,.of e2,hx⟩,λv H3 y=>?_⟩
   obtain ⟨rfl,y⟩:=y
   have:=y xs (.of e2)
   rw [hx] at this
   cases this
   exact ⟨Same.refl _,B,rx.keep f (λa ha=>(nomatch sx.subset ha)),(λa ha=>(nomatch sx.subset ha))⟩
 | lst ds =>
  generalize hfp:fp i=G at r0 nW
  cases r0 with
  | @lst a xs _ F e1 r =>
   refine ⟨a,rfl,.inl ⟨⟨xs,.of e1⟩,k _ H W ds ρ ⟨s,FrW.refl H W,λ_=>⟨Same.refl H,rfl,rfl⟩⟩ (λi H2 W2 f=>?_) q⟩⟩
   rw [wz_true] at f
   have e2:H2 a=some (.lst xs):=f.keep _ _ e1 (nW a List.mem_cons_self)
   refine ⟨λhi=>⟨xs,.of e2,by rw [r.length];exact hi⟩,λd hd=>?_⟩
   obtain ⟨x,B,hx,rx,sx⟩:=r.get hd
   refine ⟨⟨xs,x,.of e2,hx⟩,λv H3 y=>?_⟩
   obtain ⟨rfl,y⟩:=y
   have:=y xs (.of e2)
   rw [hx] at this
   cases this
   refine ⟨Same.refl _,B,rx.keep f λb hb=>nW b (List.mem_cons_of_mem _ (sx.subset hb)),λb hb hw=>?_⟩
   have hb':b∈a::F:=List.mem_cons_of_mem _ (sx.subset hb)
   rcases f.new b hw with h | h
   ·exact nW b hb' h
   ·obtain ⟨ob,e3,_⟩:=rx.dom b hb
    rw [h] at e3;cases e3
 | _=>exact (show False from q).elim
def rngS (lo c:Int) (n:Nat):List D:=(List.range n).map λ(i:Nat)=>.int (lo+(i:Int)*c)
theorem rngS_length {lo c:Int} {n:Nat}:(rngS lo c n).length=n:=by simp [rngS]
theorem rngS_get {lo c:Int} {n i:Nat} {d:D} (h:(rngS lo c n)[i]? = some d):i<n/\d=.int (lo+(i:Int)*c):=by
 unfold rngS at h
 rw [List.getElem?_map] at h
 obtain ⟨j,hj,rfl⟩:=Option.map_eq_some_iff.mp h
 obtain ⟨h1,h2⟩:=List.getElem?_eq_some_iff.mp hj
 rw [List.length_range] at h1
 rw [List.getElem_range] at h2
 subst h2
 exact ⟨h1,rfl⟩
theorem pure_rngS {lo c:Int} {n:Nat}:pureL (rngS lo c n)=true:=pureL_iff.mpr λd hd=>by
 obtain ⟨i,_,rfl⟩:=List.mem_map.mp hd
 rfl
theorem jd_rangeS {K:PySem.W.Frag} {H:Hp} {W:Addr->Prop} {lo c:Int} {n:Nat}:JD K (ItrS lo c n) H W (rngS lo c n):=λi H1 W1 fr=>by
 refine ⟨λh=>?_,λd hd=>?_⟩
 ·rw [rngS_length] at h;exact h
 ·obtain ⟨h1,rfl⟩:=rngS_get hd
  refine ⟨h1,λv H2 y=>?_⟩
  obtain ⟨rfl,rfl⟩:=y
  exact ⟨Same.refl _,[],.int _,λa m=>nomatch m⟩
def wRng3 (wr:WA):WL:=λρ Q=>wr ρ λds ρ'=>match ds with
 | [.int i,.int j,.int c]=>(-(2 ^ 60)<=i/\i<2 ^ 60 /\ -(2 ^ 60)<=j/\j<2 ^ 60)/\(c=2\/c=3)/\Q (rngS i c (stepN i j c)) ρ'
 | _=>False
theorem iv_range3 (hm:X.mg "range" = none) (ha:AV X T m o [a,b,c] wr) (hg:Gl X "range":=by rfl) (hs:starEach [a,b,c] X.env=[(false,eval a X.env),(false,eval b X.env),(false,eval c X.env)]:=by rfl) (hs2:starEach [b,c] X.env=[(false,eval b X.env),(false,eval c X.env)]:=by rfl):IV X T m true tg (.Call (.Name "range" p) [a,b,c] [] pos) (wRng3 wr):=by
 obtain ⟨ta,pa,ga⟩:=ha
 refine ⟨_,pi_range3 hg hm pa hs hs2,λz R σ H W ρ Q RR s hw k=>?_⟩
 refine ga z R σ H W ρ _ _ s hw λvs H1 W1 ds ρ1 F p q=>?_
 match ds,p,q with
 | [.int i,.int j,.int c],p,q =>
  have rp:=p.rep
  cases rp with
  | cons r1 rp =>
   cases rp with
   | cons r2 rp =>
    cases rp with
    | cons r3 rp =>
     cases rp
     cases r1;cases r2;cases r3
     exact ⟨i,j,c,rfl,q.1,q.2.1,k _ H1 W1 _ ρ1 ⟨p.sr,p.fr,p.calm⟩ jd_rangeS q.2.2⟩
end
section
variable {i j:Int} {k:D->Prop} {kk:D->D->Prop} {kvs:List (List Key × D)} {xs:List D}
theorem sz0:(0<=sizeLine)=True:=propext ⟨λ_=>trivial,λ_=>by decide⟩
theorem sz1:(1<=sizeLine)=True:=propext ⟨λ_=>trivial,λ_=>by decide⟩
theorem sz2:(2<=sizeLine)=True:=propext ⟨λ_=>trivial,λ_=>by decide⟩
theorem sz3:(3<=sizeLine)=True:=propext ⟨λ_=>trivial,λ_=>by decide⟩
theorem sz4:(4<=sizeLine)=True:=propext ⟨λ_=>trivial,λ_=>by decide⟩
theorem r8_lenT {kts:List (List Key × D)}:dLenT [.dit kts] k=k (.int kts.length):=rfl
theorem r8_inT {n:Bool}:dIn n (.int i) (.tup xs) k=oget (inD (.int i) xs) λb=>k (.bl (xor n b)):=rfl
theorem r8_popT:gPopT (.dit kvs) [.tup xs] kk=oget (keysOf xs) λks=>oget (valD kvs ks) λd=>d.pure=true/\kk d (.dit (dropD kvs ks)):=rfl
def cfOf (g:GI) (ds:List D) (Q:D->Prop):Prop:=match ds with
 | d0::post=>flatD d0=true/\pureL post=true/\g (d0::post) λd _=>Q d
 | []=>False
theorem r8_callF {g:GI} {wr:WA} {ρ:Env} {Q:D->Env->Prop}:wCallF g wr ρ Q=wr ρ λds ρ1=>cfOf g ds λd=>Q d ρ1:=by
 unfold wCallF cfOf
 rfl
def rng3Of (ds:List D) (k:List D->Prop):Prop:=match ds with
 | [.int i,.int j,.int c]=>(-(2 ^ 60)<=i/\i<2 ^ 60 /\ -(2 ^ 60)<=j/\j<2 ^ 60)/\(c=2\/c=3)/\k (rngS i c (stepN i j c))
 | _=>False
theorem r8_rng3 {wr:WA} {ρ:Env} {Q:List D->Env->Prop}:wRng3 wr ρ Q=wr ρ λds ρ'=>rng3Of ds λl=>Q l ρ':=rfl
theorem r8_rng3I {i j c:Int} {k:List D->Prop}:rng3Of [.int i,.int j,.int c] k=((-(2 ^ 60)<=i/\i<2 ^ 60 /\ -(2 ^ 60)<=j/\j<2 ^ 60)/\(c=2\/c=3)/\k (rngS i c (stepN i j c))):=rfl
theorem r8_cf {g:GI} {d0:D} {post:List D} {Q:D->Prop}:cfOf g (d0::post) Q=(flatD d0=true/\pureL post=true/\g (d0::post) λd _=>Q d):=rfl
end
end PV
namespace L2
open PySem PySem.Spec PyProof.Rows
section
variable {X:Cx} {e:Expr} {te:TE}
end
end L2
namespace PV
open PySem PySem.Spec L2 PyProof.Rows
section
variable {X:Cx} {T:Tg} {m o:Bool} {e:Expr} {w:WE} {tg:Expr}
end
end PV
namespace PV
open PySem PySem.Spec L2
open PyProof.Rows (envOfC)
section
variable {X:Cx} {T:Tg} {m:Bool} {w:WE} {pos:Pos} {x:Str}
def compBC (sc scope:Scope) (N:List Str) (x:Str) (ix:List Nat):Bool :=
 (scope.kind == .function) && (scope.names.filter (λy=>y.2 == .cell) == [(x,.cell)]) && scope.names.all (λy=>y.2 != .local || scope.names.lookup y.1 == some .local) && (scope.names.lookup x == some .cell) &&
  scope.names.all (λy=>y.2 != .free || (sc.names.lookup y.1 == some .cell || sc.names.lookup y.1 == some .free)) &&
  ix.all (λi=>match N[i]? with | some y=>scope.names.lookup y == some .free | none=>false) && decide (bN N x ix).Nodup && scope.names.all (λy=>y.2 != .free || y.1 != x)
structure CompBC (X:Cx) (scope:Scope) (x:Str) (ix:List Nat):Prop where
 B:BlkScopeC X.env scope x
 hix:∀i∈ix,∃y,X.N[i]? = some y/\scope.names.lookup y=some .free
 hN:(bN X.N x ix).Nodup
theorem compBC_mk {scope:Scope} {ix:List Nat} (sc:Scope) (N:List Str) (h:compBC sc scope N x ix=true) (h1:X.env.scope=sc:=by rfl) (h2:X.N=N:=by rfl):CompBC X scope x ix:=by
 subst h1 h2
 simp only [compBC,Bool.and_eq_true,List.all_eq_true,Bool.or_eq_true,decide_eq_true_eq,beq_iff_eq,bne_iff_ne] at h
 obtain ⟨⟨⟨⟨⟨⟨⟨a1,a2⟩,a3⟩,a4⟩,a5⟩,a6⟩,a7⟩,a8⟩:=h
 obtain ⟨o1,o2⟩:=one_of a2
 refine ⟨⟨a1,o1,o2,λy hy e=>?_,λy hy e=>(a8 y hy).resolve_left (λz=>z e),λy hy e=>(a3 y hy).resolve_left (λz=>z e),a4,λy hy e=>(a5 y hy).resolve_left (λz=>z e)⟩,λi hi=>?_,a7⟩
 ·have:y∈scope.names.filter (λy=>y.2 == .cell):=List.mem_filter.mpr ⟨hy,by simpa using e⟩
  rw [a2] at this
  rw [List.mem_singleton.mp this]
 have:=a6 i hi
 cases q:X.N[i]? with
 | none=>rw [q] at this;cases this
 | some y =>
  rw [q] at this
  exact ⟨y,rfl,by simpa using this⟩
theorem sv_compC {elt iter:Expr} {y:Str} {px py spos:Pos} {scope:Scope} {ifs:List Expr} {ix:List Nat} {j:Nat} (h:CompOk X T m elt iter x px scope ifs ix w) (B:CompBC X scope x ix) (hNd:X.N.Nodup)
  (hj:X.N[j]? = some y:=by rfl) (hy:Loc X.env.scope y:=by first | exact Or.inl rfl | exact Or.inr rfl) (hio:j∉T.io:=by decide)
  (hsw:swapsWith (.ListComp elt [⟨.Name x px,iter,ifs,0⟩] scope pos) (some (.Name y py)) spos.line X.env=pure true:=by rfl)
  (hf:X.fn y=true\/X.env.scope.names.lookup y=some .local:=by first | exact .inl rfl | exact .inr rfl | assumption) (hc:X.calm=true:=by rfl)
  (hs:∀x,foldedSetIterable iter X.env x=pure x:=by intro _;rfl):SV X T (.Assign [.Name y py] (.ListComp elt [⟨.Name x px,iter,ifs,0⟩] scope pos) spos) (wSet j w):=by
 obtain ⟨wi,tt,te,h1,h2,h3,h4⟩:=h
 exact sv_setC ⟨_,ps_compC ix hc B.B hNd hj hy hsw B.hix B.hN h1 h2 h3 hf hs,h4⟩ hio
end
end PV
namespace PV
open PySem PySem.Spec L2
section
variable {X:Cx} {T:Tg} {m o m0 m1 m2 m3 o1 o2:Bool} {e a b:Expr} {w wa wb we:WE} {pos p2 p:Pos} {es:List Expr} {wr:WA} {x y:Str} {wt:WT} {ws:WS}
theorem RepT.get {K:PySem.W.Frag} {H:Hp}:∀{ds:List (List Key × D)} {xs:List (List Key × V)} {F:List Addr} {i:Nat} {k:List Key} {v:V},RepT K H ds xs F->xs[i]? = some (k,v)->∃d B,ds[i]? = some (k,d)/\Rep K H d v B/\B.Sublist F
 | [],_,_,_,_,_,r,h=>by cases r;simp at h
 | d::ds,_,_,i,_,_,r,h=>by
  cases r with
  | @cons j d v _ vs F G p r =>
   cases i with
   | zero =>
    simp at h
    obtain ⟨rfl,rfl⟩:=h
    exact ⟨d,F,rfl,p,List.sublist_append_left _ _⟩
   | succ i =>
    obtain ⟨d',B,h1,h2,h3⟩:=RepT.get r (i:=i) (by simpa using h)
    exact ⟨d',B,by simpa using h1,h2,h3.trans (List.sublist_append_right _ _)⟩
def keysTD (kvs:List (List Key × D)):List D:=kvs.map λkv=>.tup (kv.1.map kD)
theorem reps_kD {K:PySem.W.Frag} {H:Hp}:∀{ks:List Key},Reps K H (ks.map kD) (ks.map kV) []
 | []=>.nil
 | k::ks=>.cons (F:=[]) (G:=[]) (rep_kD k) reps_kD
theorem rep_kTD {K:PySem.W.Frag} {H:Hp} {b:Addr} {ks:List Key} (h:H b=some (.tup (ks.map kV))):Rep K H (.tup (ks.map kD)) (.ref b) []:=.tup h reps_kD
theorem SR0.freezeT {K:PySem.W.Frag} {z:Nat->V} {R:Addr->Prop} {H:Hp} {W:Addr->Prop} {σ:St} {ρ:Env} {fp:Nat->List Addr} {s:Nat} {ds:List (List Key × D)} {a:Addr} {kvs:List (List Key × V)} {F:List Addr} {ob:Obj} (h:SR0 K T z R H W σ ρ fp)
  (hl:look ρ s=some (.dit ds)) (ht:T.own s=true) (hv:σ[s]? = some (some (.ref a))) (e:H a=some (.dT kvs)) (r:RepT K H ds kvs F) (hF:fp s=a::F) :
  SR K T z R (upd H a (.frz ob (.dT kvs))) (λb=>W b/\b≠a) σ (ρ.set s (some (.fdt ds))):=by
 obtain ⟨nd,sw⟩:=h.own s _ hl ht
 rw [hF] at nd sw
 obtain ⟨na,ndF⟩:=List.nodup_cons.mp nd
 have hWa:=sw a List.mem_cons_self
 have hRa:¬R a:=h.wr a hWa
 have hi:ImmK H (upd H a (.frz ob (.dT kvs))):=imm_upd e rfl
 have notin:∀j d,look ρ j=some d->j≠s->a∉fp j:=λj d hj hne ha=>by
  cases hto:T.own j with
  | true=>exact h.dis s j _ d hl hj ht hto (λz=>hne z.symm) a (by rw [hF];exact List.mem_cons_self) ha
  | false=>exact hRa (h.ro j d hj hto a ha)
 refine ⟨λj=>if j=s then F else fp j,?_,?_,?_,?_,?_,?_,?_,?_,h.fix⟩
 ·rw [List.length_set];exact h.len
 ·rintro b ⟨hb,hne⟩
  rw [upd_ne hne];exact h.wd b hb
 ·intro j d hj
  by_cases hjs:j=s
  ·subst hjs
   rw [look_set_same (look_lt hl)] at hj
   cases hj
   exact ⟨_,hv,by rw [if_pos rfl];exact .fdt upd_same (r.upd e rfl na)⟩
  ·rw [look_set_ne hjs] at hj
   obtain ⟨u,h1,h2⟩:=h.at_ j d hj
   refine ⟨u,h1,?_⟩
   rw [if_neg hjs]
   exact h2.frame hi λb hb=>upd_ne λz=>notin j d hj hjs (z ▸ hb)
 ·intro j d hj hto
  by_cases hjs:j=s
  ·subst hjs
   simp only [if_pos]
   exact ⟨ndF,λb hb=>⟨sw b (List.mem_cons_of_mem _ hb),λz=>na (z ▸ hb)⟩⟩
  ·rw [look_set_ne hjs] at hj
   simp only [if_neg hjs]
   exact ⟨(h.own j d hj hto).1,λb hb=>⟨(h.own j d hj hto).2 b hb,λz=>notin j d hj hjs (z ▸ hb)⟩⟩
 ·intro j d hj hto
  have hjs:j≠s:=λz=>by subst z;rw [ht] at hto;cases hto
  rw [look_set_ne hjs] at hj
  simp only [if_neg hjs]
  exact h.ro j d hj hto
 ·exact λb hb hr=>h.wr b hb.1 hr
 ·intro b hr
  rw [upd_ne (show b≠a from λz=>hRa (z ▸ hr))];exact h.rd b hr
 ·intro j k d d' hj hk tj tk hne b hb hb'
  by_cases hjs:j=s
  ·subst hjs
   have hkj:k≠j:=λz=>hne z.symm
   rw [look_set_ne hkj] at hk
   simp only [if_pos,if_neg hkj] at hb hb'
   exact h.dis j k _ d' hl hk ht tk hne b (by rw [hF];exact List.mem_cons_of_mem _ hb) hb'
  ·rw [look_set_ne hjs] at hj
   simp only [if_neg hjs] at hb
   by_cases hks:k=s
   ·subst hks
    simp only [if_pos] at hb'
    exact h.dis j k d _ hj hl tj ht hne b hb (by rw [hF];exact List.mem_cons_of_mem _ hb')
   ·rw [look_set_ne hks] at hk
    simp only [if_neg hks] at hb'
    exact h.dis j k d d' hj hk tj tk hne b hb hb'
def ditOf (d:D) (k:List (List Key × D)->Prop):Prop:=match d with
 | .dit kvs=>k kvs
 | _=>False
theorem r10_dit {kvs:List (List Key × D)} {k:List (List Key × D)->Prop}:ditOf (.dit kvs) k=k kvs:=rfl
def wKeysST (s:Nat):WL:=λρ Q=>oget (look ρ s) λc=>ditOf c λkvs=>Q (keysTD kvs) (ρ.set s (some (.fdt kvs)))
theorem iv_keysST {tg:Expr} {s:Nat} (ht:T.own s=true:=by rfl) (hN:X.N[s]? = some x:=by rfl) (hv:Vis X.env.scope x:=by first | exact Or.inl rfl | exact Or.inr (Or.inl rfl) | exact Or.inr (Or.inr rfl)) (hd:(x == ("__debug__" : Str))=false:=by decide)
  (hcd:(x == ("__classdict__" : Str))=false:=by decide):IV X T true true tg (.Name x p) (wKeysST s):=by
 refine ⟨_,pi_keysT (pe_var hN hv hd hcd),λz R σ H W ρ Q RR sr hw k=>?_⟩
 obtain ⟨c,hl,hw⟩:=oget_some hw
 obtain ⟨ds,rfl⟩:∃ds,c=D.dit ds:=by
  clear hl
  cases c with
  | dit ds=>exact ⟨ds,rfl⟩
  | _=>exact (show False from hw).elim
 obtain ⟨fp,s0⟩:=id sr
 obtain ⟨v,hv0,r0⟩:=s0.at_ s _ hl
 obtain ⟨a,kvs,F,rfl,e,r,hF⟩:∃(a:Addr) (kvs:List (List Key × V)) (F:List Addr),v=.ref a/\H a=some (.dT kvs)/\RepT X.K H ds kvs F/\fp s=a::F:=by
  generalize fp s=Fi at r0
  cases r0 with
  | @dit a kv _ F e1 r=>exact ⟨a,kv,F,rfl,e1,r,rfl⟩
 have hWa:W a:=(s0.own s _ hl ht).2 a (by rw [hF];exact List.mem_cons_self)
 refine ⟨_,hv0,a,kvs,rfl,e,λob=>k _ _ (λb=>W b/\b≠a) (keysTD ds) _ ⟨s0.freezeT hl ht hv0 e r hF,⟨λb u eb nb=>?_,λb eb=>?_,imm_upd e rfl,λb hb=>.inl hb.1⟩,λh=>nomatch h⟩ ?_ hw⟩
 ·rw [upd_ne (show b≠a from λz=>nb (z ▸ hWa))];exact eb
 ·by_cases hb:b=a
  ·rw [hb,upd_same] at eb;cases eb
  ·rw [upd_ne hb] at eb;exact eb
 ·rw [wz_true]
  intro i H2 W2 f
  have e2:H2 a=some (.frz ob (.dT kvs)):=f.imm _ _ upd_same rfl
  have hlen:kvs.length=ds.length:=r.length
  refine ⟨λhi=>⟨e2,by rw [keysTD,List.length_map] at hi;omega⟩,λd hd=>?_⟩
  have hi:i<ds.length:=by have:=(List.getElem?_eq_some_iff.mp hd).1;rwa [keysTD,List.length_map] at this
  refine ⟨⟨e2,by omega⟩,λv H3 y=>?_⟩
  obtain ⟨rfl,kk,vv,bb,hk,rfl,hbb⟩:=y
  obtain ⟨d',B,h1,h2,h3⟩:=r.get hk
  rw [keysTD,List.getElem?_map,h1] at hd
  cases hd
  exact ⟨Same.refl _,[],rep_kTD hbb,λa ha=>nomatch ha⟩
def dIxT:G2
 | .fdt kvs,.tup l,k=>oget (keysOf l) λks=>oget (valD kvs ks) k
 | _,_,_=>False
theorem xd_ixT (hu:X.A.units+1<cLine):IxD X dIxT:=by
 refine ⟨_,ix_dict hu,λH a b x y F1 F2 k Q ra rb g q=>?_⟩
 (cases ra <;> first | exact (show False from g).elim | skip) <;> (cases rb <;> first | exact (show False from g).elim | skip)
 rename_i a ob kvs ds e r b xs es e2 r2
 obtain ⟨ks,hk,g⟩:=oget_some g
 obtain ⟨d,h,g⟩:=oget_some g
 have hx:=r2.keys hk
 subst hx
 rcases r.val ks with ⟨z,_⟩ | ⟨d',v,B,h1,h2,h3,h4⟩
 ·rw [h] at z;cases z
 ·rw [h] at h1;cases h1
  exact ⟨a,v,rfl,.inr ⟨kvs,ks,b,.inr ⟨ob,e⟩,rfl,e2,h2.symm⟩,q _ _ _ h3 h4 g⟩
end
end PV
namespace PV
open PySem PySem.Spec L2
section
variable {X:Cx} {T:Tg} {m o:Bool} {a:Expr} {pos p2 p:Pos} {wr:WA} {x:Str}
theorem Reps.back0 {K:PySem.W.Frag} {H:Hp} {ds:List D} {xs:List V} {F:List Addr} (r:Reps K H ds xs F):F=[]->Reps K H ds.reverse xs.reverse []:=by
 induction r using Reps.rec (motive_1:=λ_ _ _ _=>True) (motive_3:=λ_ _ _ _=>True) (motive_4:=λ_ _ _ _=>True) with
 | nil=>exact λ_=>.nil
 | cons h r ih1 ih2 =>
  intro e
  obtain ⟨rfl,rfl⟩:=List.append_eq_nil_iff.mp e
  rw [List.reverse_cons,List.reverse_cons]
  exact Reps.append (F:=[]) (G:=[]) (ih2 rfl) (Reps.one h)
 | _=>trivial
theorem Reps.back {K:PySem.W.Frag} {H:Hp} {ds:List D} {xs:List V} (r:Reps K H ds xs []):Reps K H ds.reverse xs.reverse []:=r.back0 rfl
end
end PV
namespace PV
open PySem PySem.Spec L2
theorem atI_ofNat {α:Type} (xs:List α) (j:Nat):L2.atI xs (j:Int)=xs[j]?:=by
 unfold L2.atI ixN
 rw [if_pos (by omega)]
 by_cases h:j<xs.length
 ·rw [if_pos (by omega)];simp
 ·rw [if_neg (by omega)];simp;omega
theorem atI_0 {α:Type} (xs:List α):L2.atI xs 0=xs[0]?:=atI_ofNat xs 0
theorem atI_1 {α:Type} (xs:List α):L2.atI xs 1=xs[1]?:=atI_ofNat xs 1
theorem atI_2 {α:Type} (xs:List α):L2.atI xs 2=xs[2]?:=atI_ofNat xs 2
theorem ixN_ofNat {n j:Nat} (h:j<n):ixN n (j:Int)=some j:=by
 unfold ixN
 rw [if_pos (by omega),if_pos (by omega)];simp
theorem ixN_0 {n:Nat} (h:0<n):ixN n 0=some 0:=ixN_ofNat h
theorem ixN_1 {n:Nat} (h:1<n):ixN n 1=some 1:=ixN_ofNat h
theorem seqIx_ofNat {n j:Nat} (h:j<n):seqIndex? (j:Int) n=some j:=(ixN_seq (ixN_ofNat h)).1
theorem seqIx_0 {n:Nat} (h:0<n):seqIndex? 0 n=some 0:=seqIx_ofNat h
theorem oget_s {α:Type} {d:α} {k:α->Prop}:oget (some d) k=k d:=rfl
theorem r_var {i:Nat} {ρ:Env} {Q:D->Env->Prop}:wVar i ρ Q=oget (look ρ i) λd=>Q d ρ:=by
 unfold wVar oget
 cases look ρ i <;> rfl
section
variable {i j:Int} {x y:Str} {xs ys:List D} {k:D->Prop} {b c:Bool} {d e:D} {kvs:List (Key × D)} {kts:List (List Key × D)}
theorem r_sub:dSub (.int i) (.int j) k=k (.int (i-j)):=rfl
theorem r_mul:dMul (.int i) (.int j) k=(CMul i j/\k (.int (i*j))):=rfl
theorem r_mulL:dMul (.lst xs) (.int j) k=(pureL xs=true /\ -(2 ^ 63)<=j/\j<2 ^ 63/\xs.length*j.toNat<=sizeLine/\k (.lst (List.replicate j.toNat xs).flatten)):=rfl
theorem r_div:dDiv (.int i) (.int j) k=((0<j/\j<1073741824/\k (.int (i / j)))\/(j<0/\j.natAbs<1073741824/\k (.int (i.fdiv j)))):=rfl
theorem r_mod:dMod (.int i) (.int j) k=((0<j/\k (.int (i % j)))\/(j<0/\k (.int (i.fmod j)))):=rfl
theorem r_pow:dPow (.int i) (.int j) k=(CPow i j/\k (.int (i ^ j.toNat))):=rfl
theorem r_neg:dNeg (.int i) k=k (.int (-i)):=rfl
theorem r_eqI:dEq (.int i) (.int j) k=k (.bl (decide (i=j))):=rfl
theorem r_eqT:dEq (.tup xs) d k=(eqOk 9 (.tup xs)=true/\eqOk 9 d=true/\(.tup xs=d->k (.bl true))/\(.tup xs≠d->k (.bl false))):=by cases d <;> rfl
theorem r_neT:dNe (.tup xs) d k=(eqOk 9 (.tup xs)=true/\eqOk 9 d=true/\(.tup xs=d->k (.bl false))/\(.tup xs≠d->k (.bl true))):=by cases d <;> rfl
theorem r_cmp {f:Int->Int->Bool}:dCmp f (.int i) (.int j) k=k (.bl (f i j)):=rfl
theorem r_ixL:dIx (.lst xs) (.int i) k=oget (L2.atI xs i) k:=rfl
theorem r_ixT:dIx (.tup xs) (.int i) k=oget (L2.atI xs i) k:=rfl
theorem r_ixK:dIx (.kls xs) (.int i) k=oget (L2.atI xs i) k:=rfl
theorem r_ixDi:dIx (.dik kvs) (.int i) k=oget (valD kvs (.inl i)) k:=rfl
theorem r_ixDt:dIx (.dit kts) (.tup xs) k=oget (keysOf xs) λks=>oget (valD kts ks) k:=rfl
theorem r_lenL:dLen [.lst xs] k=k (.int xs.length):=rfl
theorem r_lenT:dLen [.tup xs] k=k (.int xs.length):=rfl
theorem r_lenK:dLen [.kls xs] k=k (.int xs.length):=rfl
theorem r_lenD:dLen [.dik kvs] k=k (.int kvs.length):=rfl
theorem r_intB:dInt [.bl b] k=k (.int (if b then 1 else 0)):=rfl
theorem r_min:dMin2 [.int i,.int j] k=k (.int (if j<i then j else i)):=rfl
theorem r_listT:dList [.tup xs] k=(pureL xs=true/\k (.lst xs)):=rfl
theorem r_tupL:dTuple [.lst xs] k=(pureL xs=true/\k (.tup xs)):=rfl
theorem r_range:dRange [.int i] k=(0<=i/\i<=1000/\k (.lst (rngD 0 i.toNat))):=rfl
theorem r_isi {t:Ty}:dIsi [d,.ty t] k=oget (isiD d t) λb=>k (.bl b):=rfl
theorem r_setL:dSet (.lst xs) (.int i) d k=oget (ixN xs.length i) λn=>k (.lst (xs.set n d)):=rfl
theorem r_setDi:dSet (.dik kvs) (.int i) d k=(kvs.length<sizeLine/\k (.dik (putD kvs (.inl i) d))):=rfl
theorem r_setDt:dSet (.dit kts) (.tup xs) d k=(kts.length<sizeLine/\oget (keysOf xs) λks=>k (.dit (putD kts ks d))):=rfl
theorem r_inDi {n:Bool}:dIn n (.int i) (.dik kvs) k=k (.bl (xor n (valD kvs (.inl i)).isSome)):=rfl
theorem r_inDt {n:Bool}:dIn n (.tup xs) (.dit kts) k=oget (keysOf xs) λks=>k (.bl (xor n (valD kts ks).isSome)):=rfl
variable {kk:D->D->Prop}
theorem r_popAt:gPopAt (.lst xs) [.int i] kk=(-(2 ^ 63)<=i/\i<2 ^ 63/\oget (seqIndex? i xs.length) λj=>oget xs[j]? λd=>d.pure=true/\kk d (.lst (xs.eraseIdx j))):=rfl
variable {ρ:Env} {w:WE} {QE:D->Env->Prop} {QL:List D->Env->Prop} {QB:Bool->Env->Prop}
end
section
variable {i j:Int} {k:D->Prop}
theorem r_divP (h:0<j) (h2:j<1073741824):dDiv (.int i) (.int j) k=k (.int (i / j)):=by
 rw [r_div]
 apply propext
 exact ⟨λq=>q.elim (λz=>z.2.2) (λz=>absurd z.1 (by omega)),λq=>.inl ⟨h,h2,q⟩⟩
theorem r_modP (h:0<j):dMod (.int i) (.int j) k=k (.int (i % j)):=by
 rw [r_mod]
 apply propext
 exact ⟨λq=>q.elim (λz=>z.2) (λz=>absurd z.1 (by omega)),λq=>.inl ⟨h,q⟩⟩
theorem r_mulA (h:-18446744073709551616<i) (h2:i<18446744073709551616):dMul (.int i) (.int j) k=k (.int (i*j)):=by
 rw [r_mul]
 exact propext ⟨λq=>q.2,λq=>⟨.inl ⟨by omega,by omega⟩,q⟩⟩
theorem r_mulB (h:-18446744073709551616<j) (h2:j<18446744073709551616):dMul (.int i) (.int j) k=k (.int (i*j)):=by
 rw [r_mul]
 exact propext ⟨λq=>q.2,λq=>⟨.inr ⟨by omega,by omega⟩,q⟩⟩
theorem r_powP (h:0<=j) (h2:j<=1000000) (h3:-18446744073709551616<i) (h4:i<18446744073709551616):dPow (.int i) (.int j) k=k (.int (i ^ j.toNat)):=by
 rw [r_pow]
 exact propext ⟨λq=>q.2,λq=>⟨⟨h,h2,by omega⟩,q⟩⟩
end
def blOf (d:D) (k:Bool->Prop):Prop:=match d with
 | .bl b=>k b
 | _=>False
theorem r_bl {w:WE} {ρ:Env} {Q:Bool->Env->Prop}:wBl w ρ Q=w ρ λd ρ'=>blOf d λb=>Q b ρ':=by
 show (w ρ λd ρ'=>match d with | .bl b=>Q b ρ' | _=>False)=_
 rfl
theorem r_blOf {b:Bool} {k:Bool->Prop}:blOf (.bl b) k=k b:=rfl
def truOf (d:D) (k:Bool->Prop):Prop:=oget (truD d) k
theorem r_tru {w:WE} {ρ:Env} {Q:Bool->Env->Prop}:wTru w ρ Q=w ρ λd ρ'=>truOf d λb=>Q b ρ':=by
 unfold wTru
 congr 1
 funext d ρ'
 unfold truOf oget
 cases truD d <;> rfl
theorem r_truB {b:Bool} {k:Bool->Prop}:truOf (.bl b) k=k b:=rfl
def seqOf (d:D) (k:List D->Prop):Prop:=match d with
 | .tup ds=>pureL ds=true/\k ds
 | .lst ds=>k ds
 | _=>False
theorem r_seq {w:WE} {ρ:Env} {Q:List D->Env->Prop}:wSeqD w ρ Q=w ρ λd ρ'=>seqOf d λds=>Q ds ρ':=by
 show (w ρ λd ρ'=>match d with | .tup ds=>pureL ds=true/\Q ds ρ' | .lst ds=>Q ds ρ' | _=>False)=_
 rfl
theorem r_seqT {xs:List D} {k:List D->Prop}:seqOf (.tup xs) k=(pureL xs=true/\k xs):=rfl
theorem r_seqL {xs:List D} {k:List D->Prop}:seqOf (.lst xs) k=k xs:=rfl
def intOf (d:D) (k:Option Int->Prop):Prop:=match d with
 | .int i=>k (some i)
 | _=>False
theorem r_some {w:WE} {ρ:Env} {Q:Option Int->Env->Prop}:wSome w ρ Q=w ρ λd ρ'=>intOf d λi=>Q i ρ':=by
 show (w ρ λd ρ'=>match d with | .int i=>Q (some i) ρ' | _=>False)=_
 rfl
theorem r_intOf {i:Int} {k:Option Int->Prop}:intOf (.int i) k=k (some i):=rfl
def rng1Of (ds:List D) (k:List D->Prop):Prop:=match ds with
 | [.int j]=>-(2 ^ 62)<=j/\j<2 ^ 62/\k (rngD 0 j.toNat)
 | _=>False
theorem r_rng1 {wr:WA} {ρ:Env} {Q:List D->Env->Prop}:wRng1 wr ρ Q=wr ρ λds ρ'=>rng1Of ds λl=>Q l ρ':=by
 show (wr ρ λds ρ'=>match ds with | [.int j]=>-(2 ^ 62)<=j/\j<2 ^ 62/\Q (rngD 0 j.toNat) ρ' | _=>False)=_
 rfl
theorem r_rng1I {j:Int} {k:List D->Prop}:rng1Of [.int j] k=(-(2 ^ 62)<=j/\j<2 ^ 62/\k (rngD 0 j.toNat)):=rfl
def enumOf (ds:List D) (k:List D->Prop):Prop:=match ds with
 | [.tup es]=>pureL es=true/\k (enumD 0 es)
 | _=>False
theorem r_enum {wr:WA} {ρ:Env} {Q:List D->Env->Prop}:wEnum wr ρ Q=wr ρ λds ρ'=>enumOf ds λl=>Q l ρ':=by
 show (wr ρ λds ρ'=>match ds with | [.tup es]=>pureL es=true/\Q (enumD 0 es) ρ' | _=>False)=_
 rfl
theorem r_enumT {xs:List D} {k:List D->Prop}:enumOf [.tup xs] k=(pureL xs=true/\k (enumD 0 xs)):=rfl
theorem r_gTup {n:Nat} {wgs:List D->Env->(Env->Prop)->Prop} {xs:List D} {ρ:Env} {Q:Env->Prop}:gTupD n wgs (.tup xs) ρ Q=(xs.length=n/\wgs xs ρ Q):=rfl
theorem r_gCons {wg:WG} {wgs:List D->Env->(Env->Prop)->Prop} {d:D} {r:List D} {ρ:Env} {Q:Env->Prop}:gConsD wg wgs (d::r) ρ Q=wg d ρ λρ'=>wgs r ρ' Q:=rfl
theorem r_gNil {ρ:Env} {Q:Env->Prop}:gNilD [] ρ Q=Q ρ:=rfl
theorem r_tyL {xs:List D} {t:String}:tyD (some (.lst xs)) t=(t == "list"):=rfl
theorem r_tyT {xs:List (List Key × D)} {t:String}:tyD (some (.dit xs)) t=(t == "dict"):=rfl
theorem r_flL {xs:List D}:flatD (.lst xs)=pureL xs:=rfl
theorem r_flT {xs:List (List Key × D)}:flatD (.dit xs)=xs.all λkv=>kv.2.pure:=rfl
theorem pureL_map {α:Type} {f:α->D} {l:List α} (h:∀a∈l,(f a).pure=true):pureL (l.map f)=true:=by
 rw [pureL_iff]
 intro x hx
 obtain ⟨a,ha,rfl⟩:=List.mem_map.mp hx
 exact h a ha
theorem eqOks_map {α:Type} {f:α->D} {n:Nat} {l:List α} (h:∀a∈l,eqOk n (f a)=true):eqOks n (l.map f)=true:=by
 rw [eqOks_iff]
 intro x hx
 obtain ⟨a,ha,rfl⟩:=List.mem_map.mp hx
 exact h a ha
theorem comp_map {wl:WL} {we:WE} {ix:List Nat} {ρ:Env} {Q:D->Env->Prop} {f:D->D} (ds:List D) (ρ1:Env) (h:wl ρ=λq=>q ds ρ1) (hz:ds.length<sizeLine) (he:∀d∈ds,∀Q',Q' (f d) (blkE ρ1 d ix)->we (blkE ρ1 d ix) Q') (hQ:Q (.lst (ds.map f)) ρ1) :
  wComp wl wAll we ix ρ Q:=by
 unfold wComp
 rw [h]
 refine ⟨λi ys=>ys=(ds.take i).map f/\i<=ds.length,⟨by simp,Nat.zero_le _⟩,λi d ys hd ⟨hy,hi⟩=>?_,λys ⟨hy,_⟩=>?_⟩
 ·have hlt:=(List.getElem?_eq_some_iff.mp hd).1
  refine ⟨by rw [hy];simp;omega,?_⟩
  simp only [wAll,reduceIte]
  refine he d (List.mem_of_getElem? hd) _ ⟨?_,hlt⟩
  rw [hy,List.take_add_one,hd]
  simp
 ·rw [hy,List.take_length]
  exact ⟨by simp;omega,hQ⟩
def compI (ds:List D) (wt:WT) (we:WE) (ρ1:Env) (ix:List Nat) (Q:D->Env->Prop):Prop:=∃I:Nat->List D->Prop,I 0 [] /\
 (∀i d ys,ds[i]? = some d->I i ys->ys.length<sizeLine/\wt (blkE ρ1 d ix) λb _=>if b=true then we (blkE ρ1 d ix) (λy _=>I (i+1) (ys++[y])) else I (i+1) ys) /\
 ∀ys,I ds.length ys->ys.length<=sizeLine/\Q (.lst ys) ρ1
theorem r_comp {wl:WL} {wt:WT} {we:WE} {ix:List Nat} {ρ:Env} {Q:D->Env->Prop}:wComp wl wt we ix ρ Q=wl ρ λds ρ1=>compI ds wt we ρ1 ix Q:=rfl
theorem compI_map {ds:List D} {we:WE} {ρ1:Env} {ix:List Nat} {Q:D->Env->Prop} (f:D->D) (hz:ds.length<sizeLine) (he:∀d∈ds,∀Q':D->Env->Prop,Q' (f d) (blkE ρ1 d ix)->we (blkE ρ1 d ix) Q') (hQ:Q (.lst (ds.map f)) ρ1):compI ds wAll we ρ1 ix Q:=by
 refine ⟨λi ys=>ys=(ds.take i).map f/\i<=ds.length,⟨by simp,Nat.zero_le _⟩,λi d ys hd ⟨hy,hi⟩=>?_,λys ⟨hy,_⟩=>?_⟩
 ·have hlt:=(List.getElem?_eq_some_iff.mp hd).1
  refine ⟨by rw [hy];simp;omega,?_⟩
  simp only [wAll,reduceIte]
  refine he d (List.mem_of_getElem? hd) _ ⟨?_,hlt⟩
  rw [hy,List.take_add_one,hd]
  simp
 ·rw [hy,List.take_length]
  exact ⟨by simp;omega,hQ⟩
def forI (ds:List D) (wg:WG) (wb:WS) (P:EndsP) (ρ1:Env):Prop:=∃I:Nat->Env->Prop,I 0 ρ1 /\
 (∀i d ρ,ds[i]? = some d->I i ρ->wg d ρ λρ'=>wb { P with nx:=I (i+1),ct:=I (i+1),bk:=P.nx } ρ')/\∀ρ,I ds.length ρ->P.nx ρ
theorem r_for {wl:WL} {wg:WG} {wb:WS} {P:EndsP} {ρ:Env}:wFor wl wg wb P ρ=wl ρ λds ρ1=>pureL ds=true/\forI ds wg wb P ρ1:=rfl
end PV
namespace PV
open PySem PySem.Spec L2
section
variable {X:Cx} {T:Tg} {m o o1 o2 o3:Bool} {a b c:Expr} {wa wb wc:WE} {pos p2 p:Pos} {wr:WA} {x:Str}
end
end PV
namespace PV
open PySem PySem.Spec L2
section
variable {i j:Int} {x y:Str} {xs ys:List D} {k:D->Prop} {b c:Bool} {d e:D} {kvs kus:List (Key × D)}
theorem r2_add:dAddT (.int i) (.int j) k=k (.int (i+j)):=rfl
theorem r2_addT:dAddT (.tup xs) (.tup ys) k=(pureL xs=true/\pureL ys=true/\xs.length+ys.length<=sizeLine/\k (.tup (xs++ys))):=rfl
theorem r2_addL:dAddT (.lst xs) (.lst ys) k=(pureL xs=true/\pureL ys=true/\xs.length+ys.length<=sizeLine/\k (.lst (xs++ys))):=rfl
theorem r2_slL {lo hi:Option Int}:dSlT (.lst xs) lo hi k=(pureL xs=true/\k (.lst (cutD xs lo hi))):=rfl
theorem r2_slT {lo hi:Option Int}:dSlT (.tup xs) lo hi k=(pureL xs=true/\k (.tup (cutD xs lo hi))):=rfl
end
def keysOfD (d:D) (k:List D->Prop):Prop:=dikOf d λkvs=>k (keysD kvs)
theorem r2_keys {w:WE} {ρ:Env} {Q:List D->Env->Prop}:wKeys w ρ Q=w ρ λd ρ'=>keysOfD d λds=>Q ds ρ':=by
 show (w ρ λd ρ'=>match d with | .dik kvs=>Q (keysD kvs) ρ' | _=>False)=_
 first | rfl | (congr 1;funext d ρ';cases d <;> rfl)
theorem r2_keysD {kvs:List (Key × D)} {k:List D->Prop}:keysOfD (.dik kvs) k=k (keysD kvs):=rfl
end PV
namespace PV
open PySem PySem.Spec L2
section
variable {ns:List Int} {n:Int} {k:D->Prop} {xs:List D} {kvs:List (Key × D)}
end
end PV
namespace PV
open PySem PySem.Spec L2
section
variable {i j:Int} {k:D->Prop} {xs ys:List D} {bs:List Bool} {d e:D}
theorem r4_two {k:D->D->Prop}:two2 (.tup [d,e]) k=k d e:=rfl
end
end PV
namespace PV
open PySem PySem.Spec L2
theorem pick3 {a b c:D} {r:Int} (h0:0<=r) (h1:r<3):L2.atI [a,b,c] r=some a\/L2.atI [a,b,c] r=some b\/L2.atI [a,b,c] r=some c:=by
 have:r=0\/r=1\/r=2:=by omega
 rcases this with rfl | rfl | rfl
 ·exact .inl rfl
 ·exact .inr (.inl rfl)
 ·exact .inr (.inr rfl)
theorem pick4 {a b c d:D} {r:Int} (h0:0<=r) (h1:r<4):L2.atI [a,b,c,d] r=some a\/L2.atI [a,b,c,d] r=some b\/L2.atI [a,b,c,d] r=some c\/L2.atI [a,b,c,d] r=some d:=by
 have:r=0\/r=1\/r=2\/r=3:=by omega
 rcases this with rfl | rfl | rfl | rfl
 ·exact .inl rfl
 ·exact .inr (.inl rfl)
 ·exact .inr (.inr (.inl rfl))
 ·exact .inr (.inr (.inr rfl))
theorem mem_rngD {lo:Int} {n:Nat} {d:D} (h:d∈rngD lo n):∃i:Nat,i<n/\d=.int (lo+(i:Int)):=by
 obtain ⟨i,hi,rfl⟩:=List.mem_map.mp h
 exact ⟨i,List.mem_range.mp hi,rfl⟩
theorem rngD_length {lo:Int} {n:Nat}:(rngD lo n).length=n:=by simp [rngD]
theorem rngD_get {lo:Int} {n i:Nat} {d:D} (h:(rngD lo n)[i]? = some d):i<n/\d=.int (lo+(i:Int)):=by
 have hi:i<n:=by have:=(List.getElem?_eq_some_iff.mp h).1;rwa [rngD_length] at this
 simp only [rngD,List.getElem?_map,List.getElem?_range hi,Option.map_some,Option.some.injEq] at h
 exact ⟨hi,h.symm⟩
theorem pure_rngD {lo:Int} {n:Nat}:pureL (rngD lo n)=true:=pureL_map λ_ _=>rfl
theorem pure_ints {ns:List Int}:pureL (ns.map D.int)=true:=pureL_map λ_ _=>rfl
def isP (p:Int):Prop:=p=101\/p=10007\/p=999999937
theorem cop (p:Nat) (hp:p=101\/p=10007\/p=999999937):∀d:Nat,d<101->0<d->Nat.gcd p d=1:=by
 rcases hp with rfl | rfl | rfl <;> decide +kernel
theorem arcs_ne {p leap off:Int} (hp:isP p) (h1:0<leap) (h2:leap<p) {i j:Nat} (hi:i<101) (hij:j<i) (h:(off+(i:Int)*leap) % p=(off+(j:Int)*leap) % p):False:=by
 obtain ⟨q,rfl⟩:=Int.eq_ofNat_of_zero_le (show 0<=leap by omega)
 obtain ⟨P,rfl⟩:∃P:Nat,p=(P:Int):=Int.eq_ofNat_of_zero_le (by rcases hp with z | z | z <;> omega)
 have hP:P=101\/P=10007\/P=999999937:=by
  rcases hp with z | z | z
  ·exact .inl (by omega)
  ·exact .inr (.inl (by omega))
  ·exact .inr (.inr (by omega))
 have e:=Int.emod_eq_emod_iff_emod_sub_eq_zero.mp h
 have e2:off+(i:Int)*(q:Int)-(off+(j:Int)*(q:Int))=(((i-j)*q:Nat):Int):=by
  rw [Int.natCast_mul,Int.ofNat_sub (by omega),Int.sub_mul]
  omega
 rw [e2] at e
 have e3:((i-j)*q) % P=0:=by exact_mod_cast e
 have d1:P ∣ (i-j)*q:=Nat.dvd_of_mod_eq_zero e3
 have c1:Nat.gcd P (i-j)=1:=cop P hP _ (by omega) (by omega)
 have d2:P ∣ q:=Nat.Coprime.dvd_of_dvd_mul_left c1 d1
 have:=Nat.le_of_dvd (by omega) d2
 omega
theorem arcs_nodup {p leap off:Int} (hp:isP p) (h1:0<leap) (h2:leap<p) {q:Nat} (hq:q<=101):((List.range q).map λ(i:Nat)=>(off+(i:Int)*leap) % p).Nodup:=by
 rw [List.nodup_iff_pairwise_ne,List.pairwise_map]
 refine List.Pairwise.imp_of_mem ?_ (List.pairwise_lt_range)
 intro i j hi hj hlt h
 exact arcs_ne hp h1 h2 (by have:=List.mem_range.mp hj;omega) hlt h.symm
theorem cut_mid {ds:List D} {a b:Nat} (h:a<=b) (hb:b<=ds.length):cutD ds (some (a:Int)) (some (b:Int))=(ds.drop a).take (b-a):=by
 unfold cutD
 rw [HT.sIx_nat,HT.sIx_nat,Nat.min_eq_left hb,Nat.min_eq_left (Nat.le_trans h hb)]
theorem cut_from {ds:List D} {a:Nat} (h:a<=ds.length):cutD ds (some (a:Int)) none=ds.drop a:=by
 unfold cutD
 rw [HT.sIx_nat,HT.sIx_none,Nat.min_eq_left h,List.take_of_length_le (by simp)]
theorem cut_to {ds:List D} {b:Nat}:cutD ds none (some (b:Int))=ds.take b:=by
 unfold cutD
 rw [HT.sIx_nat,HT.sIx_none,List.drop_zero,Nat.sub_zero]
 by_cases h:b<=ds.length
 ·rw [Nat.min_eq_left h]
 ·rw [Nat.min_eq_right (by omega),List.take_of_length_le (by omega),List.take_of_length_le (by omega)]
def rowD (c n:Int):D:=.lst [.int c,.int n]
def webD (m e:Nat) (A:Nat->Int) (r:Int):D:=.tup [.tup ((List.range m).map λk=>.tup ((List.range 4).map λj=>.int (A (4*k+j)))),.tup ((List.range e).map λj=>.int (A (4*m+j))),.int r]
structure Pr (N:Nat) (xs:List Int) (t:Nat) (L:List Nat) (Bs:List Int) (ps:List (Nat × Nat)):Prop where
 bl:Bs.length=N
 pl:ps.length=t
 perm:(ps.flatMap (λp=>[p.1,p.2])++L).Perm (List.range N)
 val:∀(s:Nat) p,ps[s]? = some p->∃x,xs[s]? = some x/\Bs[p.1]? = some x/\Bs[p.2]? = some x
theorem Pr.lt {N:Nat} {xs:List Int} {t:Nat} {L:List Nat} {Bs:List Int} {ps:List (Nat × Nat)} (h:Pr N xs t L Bs ps) {i:Nat} (hi:i∈L):i<N:=by
 have:=h.perm.mem_iff.mp (List.mem_append.mpr (.inr hi))
 exact List.mem_range.mp this
theorem Pr.nd {N:Nat} {xs:List Int} {t:Nat} {L:List Nat} {Bs:List Int} {ps:List (Nat × Nat)} (h:Pr N xs t L Bs ps):(ps.flatMap (λp=>[p.1,p.2])++L).Nodup:=h.perm.nodup_iff.mpr List.nodup_range
theorem Pr.start (N:Nat) (xs:List Int):Pr N xs 0 (List.range N) (List.replicate N 0) []:=⟨by simp,rfl,by simp,λs p h=>by simp at h⟩
theorem perm_erase {α:Type}:∀{l:List α} {i:Nat} (h:i<l.length),(l[i]::l.eraseIdx i).Perm l
 | a::l,0,_=>List.Perm.refl _
 | a::l,i+1,h=>by
  have:=perm_erase (l:=l) (i:=i) (by simpa using h)
  simp only [List.getElem_cons_succ,List.eraseIdx_cons_succ]
  exact (List.Perm.swap _ _ _).trans (this.cons a)
theorem map_erase {α β:Type} {f:α->β}:∀{l:List α} {i:Nat},(l.map f).eraseIdx i=(l.eraseIdx i).map f
 | [],_=>rfl
 | a::l,0=>rfl
 | a::l,i+1=>by simp only [List.map_cons,List.eraseIdx_cons_succ,map_erase]
theorem Pr.step {N:Nat} {xs:List Int} {t i s:Nat} {L:List Nat} {Bs:List Int} {ps:List (Nat × Nat)} {x:Int} (h:Pr N xs t (i::L) Bs ps) (hx:xs[t]? = some x) (hs:s<L.length) :
  Pr N xs (t+1) (L.eraseIdx s) ((Bs.set i x).set L[s] x) (ps++[(i,L[s])]):=by
 have nd:=h.nd
 obtain ⟨n1,n2,n3⟩:=List.nodup_append.mp nd
 have hjm:L[s]∈L:=List.getElem_mem hs
 have hij:i≠L[s]:=λz=>(List.nodup_cons.mp n2).1 (z ▸ hjm)
 have hi:=h.lt (List.mem_cons_self (a:=i))
 have hj:=h.lt (List.mem_cons_of_mem i hjm)
 refine ⟨by simp [h.bl],by simp [h.pl],?_,λs' p hp=>?_⟩
 ·rw [List.flatMap_append]
  refine List.Perm.trans ?_ h.perm
  rw [List.append_assoc]
  refine List.Perm.append_left _ ?_
  show (i::L[s]::L.eraseIdx s).Perm (i::L)
  exact List.Perm.cons _ (perm_erase hs)
 ·by_cases hs':s' < ps.length
  ·rw [List.getElem?_append_left hs'] at hp
   obtain ⟨y,h1,h2,h3⟩:=h.val s' p hp
   have mem:∀a,a=p.1\/a=p.2->a∈ps.flatMap (λp=>[p.1,p.2]):=λa ha=>List.mem_flatMap.mpr ⟨p,List.mem_of_getElem? hp,by simpa using ha⟩
   have ne:∀a,a=p.1\/a=p.2->i≠a/\L[s]≠a:=λa ha=>⟨λz=>n3 a (mem a ha) i List.mem_cons_self z.symm,λz=>n3 a (mem a ha) L[s] (List.mem_cons_of_mem _ hjm) z.symm⟩
   refine ⟨y,h1,?_,?_⟩
   ·rw [List.getElem?_set_ne (ne _ (.inl rfl)).2,List.getElem?_set_ne (ne _ (.inl rfl)).1];exact h2
   ·rw [List.getElem?_set_ne (ne _ (.inr rfl)).2,List.getElem?_set_ne (ne _ (.inr rfl)).1];exact h3
  ·have e:s'=t:=by
    have:=(List.getElem?_eq_some_iff.mp hp).1
    have:=h.pl
    simp at *
    omega
   subst e
   rw [List.getElem?_append_right (by omega),h.pl,Nat.sub_self] at hp
   simp at hp
   subst hp
   refine ⟨x,hx,?_,?_⟩
   ·rw [List.getElem?_set_ne (Ne.symm hij),List.getElem?_set_self (by rw [h.bl];exact hi)]
   ·rw [List.getElem?_set_self (by rw [List.length_set,h.bl];exact hj)]
theorem Pr.tw {N:Nat} {xs:List Int} {t:Nat} {Bs:List Int} {ps:List (Nat × Nat)} (h:Pr N xs t [] Bs ps) (nd:xs.Nodup):∃g,M.Tw N (λi=>Bs.getD i 0) g:=by
 have nf:=h.nd
 rw [List.append_nil] at nf
 have val:∀i,i<N->∃(s:Nat) (p:Nat × Nat) (x:Int),ps[s]? = some p/\(i=p.1\/i=p.2)/\xs[s]? = some x/\Bs.getD i 0=x:=λi hi=>by
  have:=h.perm.mem_iff.mpr (List.mem_range.mpr hi)
  rw [List.append_nil] at this
  obtain ⟨p,hp,hip⟩:=List.mem_flatMap.mp this
  obtain ⟨s,hs⟩:=List.mem_iff_getElem?.mp hp
  obtain ⟨x,h1,h2,h3⟩:=h.val s p hs
  have hip':i=p.1\/i=p.2:=by simpa using hip
  refine ⟨s,p,x,hs,hip',h1,?_⟩
  rcases hip' with z | z
  ·rw [List.getD_eq_getElem?_getD,z,h2];rfl
  ·rw [List.getD_eq_getElem?_getD,z,h3];rfl
 have ne:∀p∈ps,p.1≠p.2:=λp hp z=>by
  have:[p.1,p.2].Nodup:=by
   have hsub:[p.1,p.2].Sublist (ps.flatMap λp=>[p.1,p.2]):=by
    obtain ⟨a,b,rfl⟩:=List.append_of_mem hp
    rw [List.flatMap_append,List.flatMap_cons]
    exact (List.sublist_append_left _ _).trans (List.sublist_append_right _ _)
   exact nf.sublist hsub
  simp [z] at this
 have ltp:∀p∈ps,p.1<N/\p.2<N:=λp hp=>by
  have m1:=h.perm.mem_iff.mp (List.mem_append.mpr (.inl (List.mem_flatMap.mpr ⟨p,hp,List.mem_cons_self⟩)))
  have m2:=h.perm.mem_iff.mp (List.mem_append.mpr (.inl (List.mem_flatMap.mpr ⟨p,hp,List.mem_cons_of_mem _ List.mem_cons_self⟩)))
  exact ⟨List.mem_range.mp m1,List.mem_range.mp m2⟩
 have ex:∀i,∃j,i<N->j<N/\j≠i/\Bs.getD j 0=Bs.getD i 0/\∀k,k<N->Bs.getD k 0=Bs.getD i 0->k=i\/k=j:=λi=>by
  by_cases hi:i<N
  ·obtain ⟨s,p,x,hs,hip,hx,hv⟩:=val i hi
   have hp:=List.mem_of_getElem? hs
   obtain ⟨x',h1,h2,h3⟩:=h.val s p hs
   rw [hx] at h1;cases h1
   have only:∀k,k<N->Bs.getD k 0=Bs.getD i 0->k=p.1\/k=p.2:=λk hk e=>by
    obtain ⟨s',p',y,hs',hkp,hy,hw⟩:=val k hk
    rw [hw,hv] at e
    subst e
    have:s'=s:=by
     have l1:=(List.getElem?_eq_some_iff.mp hx)
     have l2:=(List.getElem?_eq_some_iff.mp hy)
     obtain ⟨a1,a2⟩:=l1
     obtain ⟨b1,b2⟩:=l2
     exact (List.getElem_inj nd).mp (b2.trans a2.symm)
    subst this
    rw [hs] at hs';cases hs'
    exact hkp
   rcases hip with z | z
   ·refine ⟨p.2,λ_=>⟨(ltp p hp).2,λq=>ne p hp (by rw [← z,q]),?_,λk hk e=>(only k hk e).imp (λq=>q.trans z.symm) id⟩⟩
    rw [hv,List.getD_eq_getElem?_getD,h3];rfl
   ·refine ⟨p.1,λ_=>⟨(ltp p hp).1,λq=>ne p hp (by rw [q,z]),?_,λk hk e=>(only k hk e).elim .inr (λq=>.inl (q.trans z.symm))⟩⟩
    rw [hv,List.getD_eq_getElem?_getD,h2];rfl
  ·exact ⟨0,λz=>absurd z hi⟩
 refine ⟨λi=>Classical.choose (ex i),λi hi=>(Classical.choose_spec (ex i) hi).1,λi hi=>(Classical.choose_spec (ex i) hi).2.1,λi hi=>(Classical.choose_spec (ex i) hi).2.2.1,λi k hi hk e=>(Classical.choose_spec (ex i) hi).2.2.2 k hk e⟩
theorem drop_take_range {Bs:List Int} {a b:Nat} (h:a+b<=Bs.length):((Bs.map D.int).drop a).take b=(List.range b).map λj=>D.int (Bs.getD (a+j) 0):=by
 apply List.ext_getElem?
 intro j
 rw [List.getElem?_take,List.getElem?_map]
 by_cases hj:j<b
 ·rw [if_pos hj,List.getElem?_drop,List.getElem?_map,List.getElem?_range hj,List.getElem?_eq_getElem (by omega)]
  simp [List.getD_eq_getElem?_getD,List.getElem?_eq_getElem (show a+j<Bs.length by omega)]
 ·rw [if_neg hj,List.getElem?_eq_none (by simpa using hj)];rfl
def crossF (Bs:List Int):D->D
 | .int k=>.tup ((List.range 4).map λj=>.int (Bs.getD (4*k.toNat+j) 0))
 | d=>d
theorem crossF_nat {Bs:List Int} {i:Nat}:crossF Bs (.int (0+(i:Int)))=.tup ((List.range 4).map λj=>.int (Bs.getD (4*i+j) 0)):=by
 show D.tup ((List.range 4).map λj=>.int (Bs.getD (4*(0+(i:Int)).toNat+j) 0))=_
 rw [show (0+(i:Int)).toNat=i by omega]
theorem crossF_map {Bs:List Int} {m:Nat}:(rngD 0 m).map (crossF Bs)=(List.range m).map λk=>.tup ((List.range 4).map λj=>.int (Bs.getD (4*k+j) 0)):=by
 unfold rngD
 rw [List.map_map]
 apply List.map_congr_left
 intro i _
 exact crossF_nat
theorem getD_all {Bs:List Int} {P:Int->Prop} (h0:P 0) (h:∀b∈Bs,P b) (i:Nat):P (Bs.getD i 0):=by
 rw [List.getD_eq_getElem?_getD]
 cases q:Bs[i]? with
 | none=>exact h0
 | some b=>exact h b (List.mem_of_getElem? q)
theorem len1 {α:Type}:∀{us:List α},us.length=1->∃a,us=[a]
 | [a],_=>⟨a,rfl⟩
theorem len2 {α:Type} {us:List α} (h:us.length=2):∃a b,us=[a,b]:=by
 cases us with
 | nil=>cases h
 | cons a us=>obtain ⟨b,rfl⟩:=len1 (Nat.succ.inj h);exact ⟨a,b,rfl⟩
theorem len3 {α:Type} {us:List α} (h:us.length=3):∃a b c,us=[a,b,c]:=by
 cases us with
 | nil=>cases h
 | cons a us=>obtain ⟨b,c,rfl⟩:=len2 (Nat.succ.inj h);exact ⟨a,b,c,rfl⟩
theorem len4 {α:Type} {us:List α} (h:us.length=4):∃a b c d,us=[a,b,c,d]:=by
 cases us with
 | nil=>cases h
 | cons a us=>obtain ⟨b,c,d,rfl⟩:=len3 (Nat.succ.inj h);exact ⟨a,b,c,d,rfl⟩
end PV
namespace PV
open PySem PySem.Spec L2
def spD (m i:Nat):D:=.tup [.int (M.sp m i).1,.int (M.sp m i).2]
def ksP (m i:Nat):List Key:=[.inl (M.sp m i).1,.inl (M.sp m i).2]
theorem ksP_inj {m i j:Nat} (h:ksP m i=ksP m j):i=j:=by
 unfold ksP at h
 injection h with h1 h2
 injection h2 with h2 _
 injection h1 with h1
 injection h2 with h2
 exact M.sp_inj (Prod.ext h1 h2)
def encP (s:Nat->D) (P:List (Int × List Nat)):List (Key × D):=P.map λe=>((.inl e.1:Key),D.lst (e.2.map s))
theorem encP_keys {s:Nat->D} {P:List (Int × List Nat)} (nd:(P.map (·.1)).Nodup):((encP s P).map (·.1)).Nodup:=by
 unfold encP
 rw [List.map_map]
 have:(P.map ((λ(x:Key × D)=>x.1) ∘ λe=>((.inl e.1:Key),D.lst (e.2.map s))))=(P.map (·.1)).map (λa=>(.inl a:Key)):=by rw [List.map_map];rfl
 rw [this,List.nodup_iff_pairwise_ne,List.pairwise_map]
 exact List.Pairwise.imp (λh z=>h (by injection z)) (List.nodup_iff_pairwise_ne.mp nd)
theorem encP_val {s:Nat->D} {a:Int}:∀{P:List (Int × List Nat)},valD (encP s P) (.inl a)=(P.find? λe=>decide (e.1=a)).map λe=>D.lst (e.2.map s)
 | []=>rfl
 | e::P=>by
  show valD (((.inl e.1:Key),D.lst (e.2.map s))::encP s P) (.inl a)=_
  rw [valD_cons]
  by_cases h:e.1=a
  ·rw [if_pos (by rw [h]),List.find?_cons_of_pos (by simp [h])];rfl
  ·rw [if_neg (λz=>h (by injection z)),encP_val,List.find?_cons_of_neg (by simp [h])]
theorem key_uniq {α β:Type} {f:α->β}:∀{l:List α} {a b:α},(l.map f).Nodup->a∈l->b∈l->f a=f b->a=b
 | [],_,_,_,h,_,_=>by cases h
 | x::l,a,b,nd,ha,hb,e=>by
  obtain ⟨n1,n2⟩:=List.nodup_cons.mp (show (f x::l.map f).Nodup from nd)
  rcases List.mem_cons.mp ha with za | ha
  ·rcases List.mem_cons.mp hb with zb | hb
   ·rw [za,zb]
   ·exact absurd (by rw [← za,e];exact List.mem_map.mpr ⟨b,hb,rfl⟩) n1
  ·rcases List.mem_cons.mp hb with zb | hb
   ·exact absurd (by rw [← zb,← e];exact List.mem_map.mpr ⟨a,ha,rfl⟩) n1
   ·exact key_uniq n2 ha hb e
theorem sda_enc {s:Nat->D} {P:List (Int × List Nat)} {a:Int} {i:Nat} (nd:(P.map (·.1)).Nodup):∃l:List Nat,(l=[]\/∃e∈P,l=e.2)/\valD (sdNew (encP s P) (.inl a)) (.inl a)=some (.lst (l.map s)) /\
  putD (sdNew (encP s P) (.inl a)) (.inl a) (.lst (l.map s++[s i]))=encP s (M.addP P a i):=by
 have hv:=encP_val (s:=s) (a:=a) (P:=P)
 cases hf:P.find? λe=>decide (e.1=a) with
 | none =>
  rw [hf] at hv
  have hv:valD (encP s P) (.inl a)=none:=hv
  have e1:sdNew (encP s P) (.inl a)=encP s P++[((.inl a:Key),.lst [])]:=by unfold sdNew;rw [hv];rfl
  have hany:¬(P.any λe=>decide (e.1=a))=true:=λz=>by
   obtain ⟨e,he,h⟩:=List.any_eq_true.mp z
   exact List.find?_eq_none.mp hf e he h
  refine ⟨[],.inl rfl,?_,?_⟩
  ·rw [e1,valD_snoc,hv];simp
  ·have hadd:M.addP P a i=P++[(a,[i])]:=by unfold M.addP;rw [if_neg hany]
   have hno:∀kv∈encP s P,kv.1≠(.inl a:Key):=λkv hkv z=>by
    obtain ⟨e,he,rfl⟩:=List.mem_map.mp hkv
    exact hany (List.any_eq_true.mpr ⟨e,he,by simpa using z⟩)
   rw [hadd,e1]
   unfold putD
   rw [if_pos (by simp),List.map_append]
   have:(encP s P).map (λkv=>if kv.1=(.inl a:Key) then (kv.1,D.lst (([]:List Nat).map s++[s i])) else kv)=encP s P:=by
    conv=>rhs;rw [← List.map_id (encP s P)]
    apply List.map_congr_left
    intro kv hkv
    rw [if_neg (hno kv hkv)];rfl
   rw [this]
   simp [encP]
 | some e =>
  rw [hf] at hv
  have hv:valD (encP s P) (.inl a)=some (.lst (e.2.map s)):=hv
  have he:=List.mem_of_find?_eq_some hf
  have hk:e.1=a:=by have:=List.find?_some hf;simpa using this
  have e1:sdNew (encP s P) (.inl a)=encP s P:=by unfold sdNew;rw [hv];rfl
  have hany:(P.any λe=>decide (e.1=a))=true:=List.any_eq_true.mpr ⟨e,he,by simpa using hk⟩
  refine ⟨e.2,.inr ⟨e,he,rfl⟩,by rw [e1];exact hv,?_⟩
  have hadd:M.addP P a i=P.map (λx=>if x.1=a then (x.1,x.2++[i]) else x):=by unfold M.addP;rw [if_pos hany]
  rw [e1,hadd]
  unfold putD
  rw [if_pos (by rw [anyD_iff,hv];rfl)]
  unfold encP
  rw [List.map_map,List.map_map]
  apply List.map_congr_left
  intro x hx
  show (if (.inl x.1:Key)=.inl a then ((.inl x.1:Key),D.lst (e.2.map s++[s i])) else ((.inl x.1:Key),D.lst (x.2.map s)))=((.inl (if x.1=a then (x.1,x.2++[i]) else x).1:Key),D.lst ((if x.1=a then (x.1,x.2++[i]) else x).2.map s))
  by_cases q:x.1=a
  ·have:x=e:=key_uniq nd hx he (q.trans hk.symm)
   subst this
   rw [if_pos (by rw [q]),if_pos q]
   simp
  ·rw [if_neg (λz=>q (by injection z)),if_neg q]
theorem plc_len (A:Nat->Int):∀t,(M.plc A t).length<=t
 | 0=>Nat.le_refl _
 | t+1=>by
  rw [M.plc_succ]
  have:=plc_len A t
  unfold M.addP
  split <;> simp <;> omega
theorem plc_lens (A:Nat->Int) (t:Nat):∀e∈M.plc A t,e.2.length<=t:=λe he=>by
 obtain ⟨_,h2,_⟩:=M.plc_ok A t
 rw [(h2 e he).1]
 have:=List.length_filter_le (λi=>decide (A i=e.1)) (List.range t)
 simpa using this
theorem pure_enum:∀{ds:List D} {n:Nat},pureL ds=true->pureL (enumD n ds)=true
 | [],_,_=>rfl
 | d::r,n,h=>by
  simp only [pureL,Bool.and_eq_true] at h
  simp only [enumD,pureL,D.pure,Bool.and_eq_true]
  exact ⟨⟨trivial,h.1,trivial⟩,pure_enum h.2⟩
theorem pure_sp {m i:Nat}:(spD m i).pure=true:=rfl
theorem pure_spL {m:Nat} {l:List Nat}:pureL (l.map (spD m))=true:=pureL_map λ_ _=>rfl
end PV
namespace M
open PySem PySem.Spec L2 PV
def ix (a:Int):List Int->Nat
 | []=>0
 | x::l=>if x=a then 0 else ix a l+1
theorem ix_lt {a:Int}:∀{l:List Int},a∈l->ix a l<l.length
 | [],h=>by cases h
 | x::l,h=>by
  unfold ix
  split
  ·simp
  ·rename_i n
   rcases List.mem_cons.mp h with z | h
   ·exact absurd z.symm n
   ·have:=ix_lt h;simp;omega
theorem ix_inj {a b:Int}:∀{l:List Int},a∈l->b∈l->ix a l=ix b l->a=b
 | [],h,_,_=>by cases h
 | x::l,ha,hb,e=>by
  unfold ix at e
  split at e
  ·rename_i h1
   split at e
   ·rename_i h2;rw [← h1,← h2]
   ·omega
  ·rename_i h1
   split at e
   ·omega
   ·rename_i h2
    rcases List.mem_cons.mp ha with z | ha
    ·exact absurd z.symm h1
    ·rcases List.mem_cons.mp hb with z | hb
     ·exact absurd z.symm h2
     ·exact ix_inj ha hb (by omega)
theorem ix_map {f:Int->Int} {a:Int}:∀{l:List Int},(∀x∈l,f x=f a->x=a)->ix (f a) (l.map f)=ix a l
 | [],_=>rfl
 | x::l,h=>by
  rw [List.map_cons]
  unfold ix
  by_cases e:x=a
  ·rw [if_pos (by rw [e]),if_pos e]
  ·rw [if_neg (λz=>e (h x List.mem_cons_self z)),if_neg e,ix_map λy hy=>h y (List.mem_cons_of_mem _ hy)]
def keys (A:Nat->Int) (t:Nat):List Int:=(plc A t).map (·.1)
theorem keys_nd (A:Nat->Int) (t:Nat):(keys A t).Nodup:=(plc_ok A t).1
theorem keys_mem {A:Nat->Int} {t i:Nat} (h:i<t):A i∈keys A t:=by
 obtain ⟨e,he,hk⟩:=(plc_ok A t).2.2 i h
 exact List.mem_map.mpr ⟨e,he,hk⟩
theorem keys_of {A:Nat->Int} {t:Nat} {a:Int} (h:a∈keys A t):∃i,i<t/\A i=a:=by
 obtain ⟨e,he,rfl⟩:=List.mem_map.mp h
 obtain ⟨h1,h2⟩:=(plc_ok A t).2.1 e he
 rw [h1] at h2
 obtain ⟨i,hi⟩:=List.exists_mem_of_ne_nil _ h2
 rw [List.mem_filter] at hi
 exact ⟨i,List.mem_range.mp hi.1,by simpa using hi.2⟩
theorem keys_len (A:Nat->Int) (t:Nat):(keys A t).length<=t:=by unfold keys;rw [List.length_map];exact plc_len A t
theorem plc_map {f:Int->Int} {A:Nat->Int}:∀{t:Nat},(∀i j,i<t->j<t->f (A i)=f (A j)->A i=A j)->plc (λi=>f (A i)) t=(plc A t).map λe=>(f e.1,e.2)
 | 0,_=>rfl
 | t+1,h=>by
  have ih:=plc_map (f:=f) (A:=A) (t:=t) λi j hi hj=>h i j (by omega) (by omega)
  rw [plc_succ,plc_succ,ih]
  have hk:∀e∈plc A t,(f e.1=f (A t)↔e.1=A t):=λe he=>by
   obtain ⟨i,hi,q⟩:=keys_of (A:=A) (t:=t) (a:=e.1) (List.mem_map.mpr ⟨e,he,rfl⟩)
   constructor
   ·intro z
    rw [← q] at z ⊢
    exact h i t (by omega) (by omega) z
   ·intro z;rw [z]
  unfold addP
  have ha:(((plc A t).map λe=>(f e.1,e.2)).any λe=>decide (e.1=f (A t)))=((plc A t).any λe=>decide (e.1=A t)):=by
   rw [List.any_map]
   rw [Bool.eq_iff_iff,List.any_eq_true,List.any_eq_true]
   constructor
   ·rintro ⟨e,he,z⟩;exact ⟨e,he,by simpa using (hk e he).mp (by simpa using z)⟩
   ·rintro ⟨e,he,z⟩;exact ⟨e,he,by simpa using (hk e he).mpr (by simpa using z)⟩
  rw [ha]
  split
  ·rw [List.map_map,List.map_map]
   apply List.map_congr_left
   intro e he
   simp only [Function.comp]
   by_cases z:e.1=A t
   ·rw [if_pos ((hk e he).mpr z),if_pos z]
   ·rw [if_neg (λq=>z ((hk e he).mp q)),if_neg z]
  ·simp
theorem keys_map {f:Int->Int} {A:Nat->Int} {t:Nat} (h:∀i j,i<t->j<t->f (A i)=f (A j)->A i=A j):keys (λi=>f (A i)) t=(keys A t).map f:=by
 unfold keys
 rw [plc_map h,List.map_map,List.map_map];rfl
def anw (A:Nat->Int) (t:Nat) (i:Nat):Int:=(ix (A i) (keys A t):Nat)
theorem anw_ren {f:Int->Int} {A:Nat->Int} {t:Nat} (h:∀i j,i<t->j<t->f (A i)=f (A j)->A i=A j) {i:Nat} (hi:i<t):anw (λi=>f (A i)) t i=anw A t i:=by
 unfold anw
 rw [keys_map h,ix_map]
 intro x hx e
 obtain ⟨j,hj,rfl⟩:=keys_of hx
 exact h j i hj hi e
theorem anw_anw {A:Nat->Int} {t i:Nat} (hi:i<t):anw (anw A t) t i=anw A t i:=by
 have h:∀i j,i<t->j<t->(λb=>((ix b (keys A t):Nat):Int)) (A i)=(λb=>((ix b (keys A t):Nat):Int)) (A j)->A i=A j:=λi j hi hj e=>ix_inj (keys_mem hi) (keys_mem hj) (Int.ofNat.inj e)
 exact anw_ren (f:=λb=>((ix b (keys A t):Nat):Int)) h hi
end M
namespace PV
open PySem PySem.Spec L2
def num:Nat->List Int->List (Key × D)
 | _,[]=>[]
 | n,a::l=>(.inl a,.int (n:Nat))::num (n+1) l
theorem num_len:∀{l:List Int} {n:Nat},(num n l).length=l.length
 | [],_=>rfl
 | a::l,n=>by simp [num,num_len]
theorem num_val {a:Int}:∀{l:List Int} {n:Nat},a∈l->valD (num n l) (.inl a)=some (.int ((n+M.ix a l:Nat):Int))
 | [],_,h=>by cases h
 | x::l,n,h=>by
  unfold num M.ix
  rw [valD_cons]
  by_cases e:x=a
  ·rw [if_pos (by rw [e]),if_pos e];rfl
  ·rw [if_neg (λz=>e (by injection z)),if_neg e]
   rcases List.mem_cons.mp h with z | h
   ·exact absurd z.symm e
   ·rw [num_val h];congr 2;omega
theorem num_none {a:Int}:∀{l:List Int} {n:Nat},a∉l->valD (num n l) (.inl a)=none
 | [],_,_=>rfl
 | x::l,n,h=>by
  rw [List.mem_cons,not_or] at h
  unfold num
  rw [valD_cons,if_neg (λz=>h.1 (by injection z with z;exact z.symm)),num_none h.2]
theorem num_snoc {a:Int}:∀{l:List Int} {n:Nat},num n (l++[a])=num n l++[(.inl a,.int ((n+l.length:Nat):Int))]
 | [],n=>by simp [num]
 | x::l,n=>by
  rw [List.cons_append,num,num,num_snoc,List.cons_append]
  congr 3
  simp;omega
theorem num_put {a:Int} {l:List Int} (h:a∉l):putD (num 0 l) (.inl a) (.int ((num 0 l).length:Nat))=num 0 (l++[a]):=by
 rw [putD_new _ (num_none h),num_snoc,num_len,Nat.zero_add]
theorem keys_enc {s:Nat->D} {P:List (Int × List Nat)}:keysD (encP s P)=(P.map (·.1)).map D.int:=by
 unfold keysD encP
 rw [List.map_map,List.map_map];rfl
theorem webD_eq9 {m e:Nat} {A:Nat->Int} {r:Int}:eqOk 9 (webD m e A r)=true:=by
 unfold webD
 simp only [eqOk,eqOks,Bool.and_true,Bool.and_eq_true]
 exact ⟨eqOks_map λ_ _=>by simp only [eqOk];exact eqOks_map λ_ _=>rfl,eqOks_map λ_ _=>rfl⟩
end PV
namespace M32
def bin:Nat->Nat->Nat
 | _,0=>1
 | 0,_+1=>0
 | n+1,k+1=>bin n k+bin n (k+1)
def sg (r:Nat):Int:=if r % 2=0 then 1 else -1
def num (r k:Nat):Int:=sg r*(bin r k:Int)
open PV L2
section
variable {c:Int} {f:Nat->D} {n i:Nat}
def nm (r:Nat) (j:Nat):D:=.int (num r j)
end
def wt (p:Int) (r:Nat) (n:Nat):List D:=(List.range n).map λ(k:Nat)=>.tup [.int (p+4*(k:Int)),.int (num r k)]
end M32
namespace PV
open PySem PySem.Spec L2
section
variable {X:Cx} {T:Tg} {m o m1 m2 m3 o1 o2:Bool} {e a b:Expr} {w wa wb:WE} {pos p2 p:Pos} {es:List Expr} {wr:WA} {x:Str}
variable {name:Str} {apos cpos:Pos} {T' id:String}
end
end PV
namespace S03
open PySem PySem.Spec L2 PV
open PySem.Builtin.Str (glued)
def nw (n:Int):Str:=Str.ofString (toString n)
theorem O1:Str.ofString "o" = ⟨#[111]⟩:=by decide
def wx:Str:=Str.ofString "x"
def we:Str:=Str.ofString "e"
def wo:Str:=Str.ofString "o"
def Wx (A:Nat->Int):Nat->List Str
 | 0=>[]
 | k+1=>Wx A k++(wx::(List.range 4).map λj=>nw (A (4*k+j)))
def We (m e:Nat) (A:Nat->Int):List Str:=if e=0 then [] else we::(List.range e).map λj=>nw (A (4*m+j))
def Wo (r:Int):List Str:=if 0<r then [wo,nw r] else []
def Ws (m e:Nat) (A:Nat->Int) (r:Int):List Str:=Wx A m++(We m e A++Wo r)
def eo (m e:Nat):Nat:=if e=0 then 5*m else 5*m+1+e
def tx (m e:Nat) (A:Nat->Int) (r:Int):Str:=glued (Str.ofString " ") (Ws m e A r)
variable {k:D->Prop} {kk:D->D->Prop} {i:Int} {x y:Str} {xs ys:List D} {kvs:List (Key × D)}
theorem small {n:Nat} (h:n<=100000):n<sizeLine:=Nat.lt_of_le_of_lt h (by decide)
end S03
namespace S24
open PySem PySem.Spec L2 PV S03
open PySem.Builtin.Str (glued occurrences strSub subAt)
def big:Int:=1000000000000000000000000000000000000000000000000000000000000
def av (n:Int):Int:=if n<0 then -n else n
def fore (t:Int × Int):Str:=if av t.2=1 then Str.ofString "" else nw (av t.2)
def hind (p:Int):Str:=if p=1 then Str.ofString "" else Str.ofString "^" ++ nw p
def tm (t:Int × Int):Str:=if t.1=0 then nw (av t.2) else fore t++Str.ofString "x" ++ hind t.1
def sg (n:Int):Str:=if n<0 then Str.ofString "-" else Str.ofString "+"
def ws (ts:List (Int × Int)):List Str:=ts.flatMap λt=>[sg t.2,tm t]
def fst (n:Int):Str:=if n<0 then Str.ofString "-" else Str.ofString ""
def tx:List (Int × Int)->Str
 | []=>Str.ofString "0"
 | t::r=>fst t.2++glued (Str.ofString " ") (tm t::ws r)
section
variable {k:D->Prop} {i:Int} {x y:Str} {xs zs:List D}
end
end S24
namespace M
theorem keys_succ (A:Nat->Int) (t:Nat):keys A (t+1)=if A t∈keys A t then keys A t else keys A t++[A t]:=by
 unfold keys
 rw [plc_succ,addP_keys]
 by_cases h:A t∈(plc A t).map (·.1)
 ·rw [if_pos h,if_pos]
  obtain ⟨e,he,hq⟩:=List.mem_map.mp h
  exact List.any_eq_true.mpr ⟨e,he,decide_eq_true hq⟩
 ·rw [if_neg h,if_neg]
  intro z
  obtain ⟨e,he,hq⟩:=List.any_eq_true.mp z
  exact h (List.mem_map.mpr ⟨e,he,of_decide_eq_true hq⟩)
theorem keys_prefix (A:Nat->Int) {s t:Nat} (h:s<=t):∃r,keys A t=keys A s++r:=by
 induction t with
 | zero=>exact ⟨[],by rw [show s=0 by omega,List.append_nil]⟩
 | succ t ih =>
  by_cases e:s=t+1
  ·exact ⟨[],by rw [e,List.append_nil]⟩
  ·obtain ⟨r,hr⟩:=ih (by omega)
   rw [keys_succ]
   split
   ·exact ⟨r,hr⟩
   ·exact ⟨r++[A t],by rw [hr,List.append_assoc]⟩
theorem ix_new {a:Int}:∀{l r:List Int},a∉l->ix a (l++a::r)=l.length
 | [],r,_=>by show (if a=a then 0 else _)=0;rw [if_pos rfl]
 | x::l,r,h=>by
  rw [List.cons_append]
  unfold ix
  rw [if_neg (λe=>h (by rw [e];exact List.mem_cons_self)),ix_new λz=>h (List.mem_cons_of_mem _ z),List.length_cons]
theorem seen_iff {n t:Nat} {A:Nat->Int} {g:Nat->Nat} (T:Tw n A g) (ht:t<n):A t∈keys A t↔g t<t:=by
 refine ⟨λh=>?_,λh=>?_⟩
 ·obtain ⟨i,hi,e⟩:=keys_of h
  rcases T.only t i ht (by omega) e with z | z
  ·omega
  ·omega
 ·rw [← T.eq t ht]
  exact keys_mem h
theorem anw_new {n t:Nat} {A:Nat->Int} {g:Nat->Nat} (T:Tw n A g) (ht:t<n) (h:¬g t<t):anw A n t=((keys A t).length:Nat):=by
 have hn:A t∉keys A t:=λz=>h ((seen_iff T ht).mp z)
 obtain ⟨r,hr⟩:=keys_prefix A (show t+1<=n by omega)
 rw [keys_succ,if_neg hn,List.append_assoc] at hr
 unfold anw
 rw [hr]
 exact congrArg _ (ix_new hn)
theorem anw_twin {n i:Nat} {A:Nat->Int} {g:Nat->Nat} (T:Tw n A g) (h:i<n):anw A n (g i)=anw A n i:=by
 unfold anw
 rw [T.eq i h]
theorem keys_len_succ {n t:Nat} {A:Nat->Int} {g:Nat->Nat} (T:Tw n A g) (ht:t<n):(keys A (t+1)).length=(keys A t).length+if g t<t then 0 else 1:=by
 rw [keys_succ]
 by_cases h:g t<t
 ·rw [if_pos ((seen_iff T ht).mpr h),if_pos h];omega
 ·rw [if_neg (λz=>h ((seen_iff T ht).mp z)),if_neg h,List.length_append];rfl
section
variable {m e:Nat} {A:Nat->Int} {g:Nat->Nat} {p q:Nat}
def rest (e p q:Nat):List Nat:=(List.range e).filter λj=>decide (j≠p/\j≠q)
theorem rest_mem {e p q j:Nat}:j∈rest e p q↔j<e/\j≠p/\j≠q:=by
 unfold rest
 rw [List.mem_filter,List.mem_range]
 simp
theorem rest_nd {e p q:Nat}:(rest e p q).Nodup:=List.nodup_range.filter _
theorem nodup_len {α:Type} [DecidableEq α]:∀{l r:List α},l.Nodup->(∀x∈l,x∈r)->l.length<=r.length
 | [],_,_,_=>Nat.zero_le _
 | x::l,r,hn,h=>by
  obtain ⟨h1,h2⟩:=List.nodup_cons.mp hn
  have hx:x∈r:=h x List.mem_cons_self
  have:=nodup_len (r:=r.erase x) h2 λy hy=>(List.mem_erase_of_ne (show y≠x from λz=>h1 (by rw [← z];exact hy))).mpr (h y (List.mem_cons_of_mem _ hy))
  rw [List.length_erase_of_mem hx] at this
  have:0<r.length:=List.length_pos_of_mem hx
  rw [List.length_cons]
  omega
theorem nd_inj {α:Type}:∀{l:List α},l.Nodup->∀{i j:Nat} (hi:i<l.length) (hj:j<l.length),l[i]=l[j]->i=j
 | x::l,hn,0,0,_,_,_=>rfl
 | x::l,hn,0,j+1,_,hj,h=>absurd (show x∈l by rw [show x=l[j]'(by simpa using hj) from h];exact List.getElem_mem _) (List.nodup_cons.mp hn).1
 | x::l,hn,i+1,0,hi,_,h=>absurd (show x∈l by rw [show x=l[i]'(by simpa using hi) from h.symm];exact List.getElem_mem _) (List.nodup_cons.mp hn).1
 | x::l,hn,i+1,j+1,hi,hj,h=>congrArg (· + 1) (nd_inj (List.nodup_cons.mp hn).2 (i:=i) (j:=j) (by simpa using hi) (by simpa using hj) (by simpa using h))
theorem rest_len {e p q:Nat} (hp:p<e) (hq:q<e) (h:p≠q):(rest e p q).length+2=e:=by
 have h1:(p::q::rest e p q).length<=(List.range e).length:=by
  refine nodup_len ?_ ?_
  ·refine List.nodup_cons.mpr ⟨?_,List.nodup_cons.mpr ⟨?_,rest_nd⟩⟩
   ·intro z
    rcases List.mem_cons.mp z with z | z
    ·exact h z
    ·exact (rest_mem.mp z).2.1 rfl
   ·intro z
    exact (rest_mem.mp z).2.2 rfl
  ·intro x hx
   rcases List.mem_cons.mp hx with z | hx
   ·rw [z];exact List.mem_range.mpr hp
   ·rcases List.mem_cons.mp hx with z | hx
    ·rw [z];exact List.mem_range.mpr hq
    ·exact List.mem_range.mpr (rest_mem.mp hx).1
 have h2:(List.range e).length<=(p::q::rest e p q).length:=by
  refine nodup_len List.nodup_range λx hx=>?_
  by_cases e1:x=p
  ·rw [e1];exact List.mem_cons_self
  ·by_cases e2:x=q
   ·rw [e2];exact List.mem_cons_of_mem _ List.mem_cons_self
   ·exact List.mem_cons_of_mem _ (List.mem_cons_of_mem _ (rest_mem.mpr ⟨List.mem_range.mp hx,e1,e2⟩))
 rw [List.length_range,List.length_cons,List.length_cons] at h1 h2
 omega
def old (m e p q i:Nat):Nat:=if i<4*m then i else 4*m+(rest e p q).getD (i-4*m) 0
def tie (g:Nat->Nat) (a b x:Nat):Nat:=if x=g a then g b else if x=g b then g a else g x
theorem old_in {i:Nat} (h:i<4*m):old m e p q i=i:=if_pos h
theorem old_out {j:Nat}:old m e p q (4*m+j)=4*m+(rest e p q).getD j 0:=by
 unfold old
 rw [if_neg (by omega),show 4*m+j-4*m=j by omega]
theorem rest_get {j:Nat} (h:j<(rest e p q).length):(rest e p q).getD j 0<e/\(rest e p q).getD j 0≠p/\(rest e p q).getD j 0≠q:=by
 rw [List.getD_eq_getElem?_getD,List.getElem?_eq_getElem h]
 exact rest_mem.mp (List.getElem_mem h)
theorem old_lt {i:Nat} (h:i<4*m+(rest e p q).length):old m e p q i<4*m+e/\old m e p q i≠4*m+p/\old m e p q i≠4*m+q:=by
 by_cases hi:i<4*m
 ·rw [old_in hi];exact ⟨by omega,by omega,by omega⟩
 ·obtain ⟨j,rfl⟩:∃j,i=4*m+j:=⟨i-4*m,by omega⟩
  rw [old_out]
  obtain ⟨h1,h2,h3⟩:=rest_get (e:=e) (p:=p) (q:=q) (j:=j) (by omega)
  exact ⟨by omega,by omega,by omega⟩
theorem old_inj {i j:Nat} (hi:i<4*m+(rest e p q).length) (hj:j<4*m+(rest e p q).length) (h:old m e p q i=old m e p q j):i=j:=by
 by_cases h1:i<4*m
 ·by_cases h2:j<4*m
  ·rwa [old_in h1,old_in h2] at h
  ·obtain ⟨k,rfl⟩:∃k,j=4*m+k:=⟨j-4*m,by omega⟩
   rw [old_in h1,old_out] at h
   omega
 ·obtain ⟨k,rfl⟩:∃k,i=4*m+k:=⟨i-4*m,by omega⟩
  by_cases h2:j<4*m
  ·rw [old_in h2,old_out] at h
   omega
  ·obtain ⟨l,rfl⟩:∃l,j=4*m+l:=⟨j-4*m,by omega⟩
   rw [old_out,old_out] at h
   have hk:k<(rest e p q).length:=by omega
   have hl:l<(rest e p q).length:=by omega
   rw [List.getD_eq_getElem?_getD,List.getD_eq_getElem?_getD,List.getElem?_eq_getElem hk,List.getElem?_eq_getElem hl] at h
   have h':(rest e p q)[k]=(rest e p q)[l]:=by simpa using h
   have:=nd_inj rest_nd hk hl h'
   omega
theorem old_onto {x:Nat} (h:x<4*m+e) (h1:x≠4*m+p) (h2:x≠4*m+q):∃i,i<4*m+(rest e p q).length/\old m e p q i=x:=by
 by_cases hx:x<4*m
 ·exact ⟨x,by omega,old_in hx⟩
 ·obtain ⟨j,rfl⟩:∃j,x=4*m+j:=⟨x-4*m,by omega⟩
  obtain ⟨k,hk,e'⟩:=List.getElem_of_mem (rest_mem.mpr (⟨by omega,by omega,by omega⟩:j<e/\j≠p/\j≠q))
  refine ⟨4*m+k,by omega,?_⟩
  rw [old_out,List.getD_eq_getElem?_getD,List.getElem?_eq_getElem hk,e']
  rfl
def cal (A:Nat->Int) (a b:Nat) (x:Nat):Int:=if A x=A a then A b else A x
theorem tie_spec {n a b:Nat} (T:Tw n A g) (ha:a<n) (hb:b<n) (hab:a≠b) {x:Nat} (hx:x<n) (h1:x≠a) (h2:x≠b) :
  tie g a b x<n/\tie g a b x≠a/\tie g a b x≠b/\tie g a b x≠x/\cal A a b (tie g a b x)=cal A a b x/\∀y,y<n->y≠a->y≠b->cal A a b y=cal A a b x->y=x\/y=tie g a b x:=by
 have gga:=T.inv ha
 have ggb:=T.inv hb
 have ggx:=T.inv hx
 have gna:=T.ne a ha
 have gnb:=T.ne b hb
 have gnx:=T.ne x hx
 have la:=T.lt a ha
 have lb:=T.lt b hb
 have lx:=T.lt x hx
 have ea:=T.eq a ha
 have eb:=T.eq b hb
 have ex:=T.eq x hx
 have inj:∀y z,y<n->z<n->g y=g z->y=z:=λy z hy hz h=>by rw [← T.inv hy,h,T.inv hz]
 have oa:=λy hy=>T.only a y ha hy
 have ob:=λy hy=>T.only b y hb hy
 have ox:=λy hy=>T.only x y hx hy
 unfold tie cal
 by_cases c1:x=g a
 ·-- x was tied to a
  have hxb:g b≠a:=λz=>h2 (by rw [c1,← z,ggb])
  have hAx:A x=A a:=by rw [c1,ea]
  have hAb:A b≠A a:=λz=>by
   rcases oa b hb z with z | z
   ·exact hab z.symm
   ·exact h2 (by rw [c1,z])
  rw [if_pos c1,eb,if_neg hAb,if_pos hAx]
  refine ⟨lb,hxb,gnb,λz=>?_,rfl,λy hy y1 y2 hq=>?_⟩
  ·rw [c1] at z
   exact hab (inj a b ha hb z.symm)
  ·by_cases hya:A y=A a
   ·rcases oa y hy hya with z | z
    ·exact absurd z y1
    ·exact .inl (by rw [z,c1])
   ·rw [if_neg hya] at hq
    rcases ob y hy hq with z | z
    ·exact absurd z y2
    ·exact .inr z
 ·rw [if_neg c1]
  have hAx:A x≠A a:=λz=>by
   rcases oa x hx z with z | z
   ·exact h1 z
   ·exact c1 z
  by_cases c2:x=g b
  ·have hxa:g a≠b:=λz=>h1 (by rw [c2,← z,gga])
   have hAb:A x=A b:=by rw [c2,eb]
   rw [if_pos c2,ea,if_pos rfl,if_neg hAx]
   refine ⟨la,gna,hxa,λz=>c1 z.symm,hAb.symm,λy hy y1 y2 hq=>?_⟩
   by_cases hya:A y=A a
   ·rcases oa y hy hya with z | z
    ·exact absurd z y1
    ·exact .inr z
   ·rw [if_neg hya] at hq
    rcases ox y hy hq with z | z
    ·exact .inl z
    ·rw [c2,ggb] at z
     exact absurd z y2
  ·rw [if_neg c2,ex,if_neg hAx]
   have hAb:A x≠A b:=λz=>by
    rcases ob x hx z with z | z
    ·exact h2 z
    ·exact c2 z
   refine ⟨lx,λz=>c1 (by rw [← z,ggx]),λz=>c2 (by rw [← z,ggx]),gnx,rfl,λy hy y1 y2 hq=>?_⟩
   by_cases hya:A y=A a
   ·rw [if_pos hya] at hq
    exact absurd hq.symm hAb
   ·rw [if_neg hya] at hq
    exact ox y hy hq
theorem shut_tw (T:Tw (4*m+e) A g) (hp:p<e) (hq:q<e) (hpq:p≠q) :
  ∃h:Nat->Nat,Tw (4*m+(rest e p q).length) (λi=>cal A (4*m+p) (4*m+q) (old m e p q i)) h/\∀i,i<4*m+(rest e p q).length->old m e p q (h i)=tie g (4*m+p) (4*m+q) (old m e p q i):=by
 have key:∀i,∃j,i<4*m+(rest e p q).length->j<4*m+(rest e p q).length/\old m e p q j=tie g (4*m+p) (4*m+q) (old m e p q i):=λi=>by
  by_cases hi:i<4*m+(rest e p q).length
  ·obtain ⟨a1,a2,a3⟩:=old_lt (m:=m) hi
   obtain ⟨b1,b2,b3,_⟩:=tie_spec T (show 4*m+p<4*m+e by omega) (show 4*m+q<4*m+e by omega) (by omega) a1 a2 a3
   obtain ⟨j,hj,ej⟩:=old_onto b1 b2 b3
   exact ⟨j,λ_=>⟨hj,ej⟩⟩
  ·exact ⟨0,λz=>absurd z hi⟩
 obtain ⟨h,hh⟩:=Classical.skolem.mp key
 refine ⟨h,⟨λi hi=>(hh i hi).1,λi hi z=>?_,λi hi=>?_,λi k hi hk hc=>?_⟩,λi hi=>(hh i hi).2⟩
 ·obtain ⟨a1,a2,a3⟩:=old_lt (m:=m) hi
  obtain ⟨b1,b2,b3,b4,_⟩:=tie_spec T (show 4*m+p<4*m+e by omega) (show 4*m+q<4*m+e by omega) (by omega) a1 a2 a3
  rw [← (hh i hi).2,z] at b4
  exact b4 rfl
 ·obtain ⟨a1,a2,a3⟩:=old_lt (m:=m) hi
  obtain ⟨b1,b2,b3,b4,b5,_⟩:=tie_spec T (show 4*m+p<4*m+e by omega) (show 4*m+q<4*m+e by omega) (by omega) a1 a2 a3
  show cal A _ _ (old m e p q (h i))=_
  rw [(hh i hi).2,b5]
 ·obtain ⟨a1,a2,a3⟩:=old_lt (m:=m) hi
  obtain ⟨k1,k2,k3⟩:=old_lt (m:=m) hk
  obtain ⟨b1,b2,b3,b4,b5,b6⟩:=tie_spec T (show 4*m+p<4*m+e by omega) (show 4*m+q<4*m+e by omega) (by omega) a1 a2 a3
  rcases b6 _ k1 k2 k3 hc with z | z
  ·exact .inl (old_inj hk hi z)
  ·rw [← (hh i hi).2] at z
   exact .inr (old_inj hk (hh i hi).1 z)
end
end M
namespace K53
open PySem PySem.Spec L2 PV
open PyProof.Rows (envOfC)
def top (i:Nat):Stmt:=PySem.Challenge.pw_tanglehouse_k53_tangles_put_together.main.body.getD i (.Pass ⟨0,0,0,0⟩)
structure Bn (mg:Str->Option Value):Prop where
 nb_bool:mg "bool" = none
 nb_enumerate:mg "enumerate" = none
 nb_int:mg "int" = none
 nb_isinstance:mg "isinstance" = none
 nb_len:mg "len" = none
 nb_list:mg "list" = none
 nb_min:mg "min" = none
 nb_range:mg "range" = none
 nb_tuple:mg "tuple" = none
 c_RIM:∃t:Tok,mg "RIM" = some (.int (-1) t)
def g_law_take:GI:=λds k=>∃c n b,ds=[rowD c n,.int b]/\0<b/\b<1073741824/\0<=n/\n<=1000000/\∀c' r,0<=r->r<b->k (.int r) (rowD c' (n+1))
abbrev s__law_take:Stmt:=top 19
theorem sc__law_take:FnScope ["_law_row","_law_base","_law_rest","_law_number"] ["_law_row","_law_base"] (defScope s__law_take):=⟨rfl,rfl,rfl,by decide +kernel,rfl,by decide +kernel,by decide +kernel⟩
def t__law_take:Tg:={ own:=λi=>i == 0 || i == 2 || i == 3,io:=[0] }
def w__law_take:WS:=(wSeq (wSetIx 0 (wBin dAddT (wBin dIx (wVar 0) (wC (.int 1))) (wC (.int 1))) (wC (.int 1)))
 (wSeq (wIf (wBl (wBin (dCmp λi j=>decide (j<i)) (wBin dIx (wVar 0) (wC (.int 0))) (wBin dPow (wC (.int 10)) (wC (.int 18))))) (wSeq (wSet 2 (wBin dSub (wBin dIx (wVar 0) (wC (.int 0))) (wBin dPow (wC (.int 10)) (wC (.int 18)))))
 (wSeq (wSetIx 0 (wBin dAddT (wBin dPow (wC (.int 10)) (wC (.int 18))) (wBin dDiv (wVar 2) (wVar 1))) (wC (.int 0)))
 (wRet (wBin dMod (wVar 2) (wVar 1))))) wNext)
 (wSeq (wSet 3 (wBin dMod (wBin dAddT (wBin dAddT (wBin dMul (wBin dIx (wVar 0) (wC (.int 0))) (wC (.int 48271))) (wBin dMul (wBin dMul (wC (.int 7919)) (wBin dIx (wVar 0) (wC (.int 1)))) (wBin dIx (wVar 0) (wC (.int 1))))) (wC (.int 11))) (wC (.int 2147483629))))
 (wSeq (wSet 3 (wBin dMod (wBin dAddT (wBin dAddT (wBin dMul (wVar 3) (wVar 3)) (wBin dMul (wC (.int 69621)) (wBin dIx (wVar 0) (wC (.int 1))))) (wC (.int 7))) (wC (.int 2147483587))))
 (wRet (wBin dMod (wBin dDiv (wVar 3) (wC (.int 5))) (wVar 1)))))))
theorem b__law_take {P:Program} {w:World} {K:PySem.W.Frag} {mg:Str->Option Value} {base:Heap} {f:Addr} (B:Bn mg):∀(cdv:Value) (A:Around) (outer:List PySem.Env) (s:Shared) (H:Hp) (E:XK),Room 0 (A.deeper (envOfC "_law_take" (defScope s__law_take) s.heap.objs.size f cdv))->SVs (cxOf CX0 P w K mg base ["_law_row","_law_base","_law_rest","_law_number"] "_law_take" (defScope s__law_take) f cdv A outer s H E).nox t__law_take (defBody s__law_take) w__law_take:=λcdv A outer s H E hr =>
  (svs_cons (sv_setIx (i:=0) (hu_of hr) (ev_op od_addT (ev_ix (xd_ix (hu_of hr)) (ev_var 0) ev_int) ev_int) ev_int)
  (svs_cons (sv_if (tv_cmp od_gt (ev_ix (xd_ix (hu_of hr)) (ev_var 0) ev_int) (ev_op od_pow ev_int ev_int)) (svs_cons (sv_set (i:=2) (ev_op od_sub (ev_ix (xd_ix (hu_of hr)) (ev_var 0) ev_int) (ev_op od_pow ev_int ev_int)) sc__law_take.nd)
  (svs_cons (sv_setIx (i:=0) (hu_of hr) (ev_op od_addT (ev_op od_pow ev_int ev_int) (ev_op od_div (ev_var 2) (ev_var 1))) ev_int)
  (svs_one (sv_ret (ev_op od_mod (ev_var 2) (ev_var 1)))))) svs_nil)
  (svs_cons (sv_set (i:=3) (ev_op od_mod (ev_op od_addT (ev_op od_addT (ev_op od_mul (ev_ix (xd_ix (hu_of hr)) (ev_var 0) ev_int) ev_int) (ev_op od_mul (ev_op od_mul ev_int (ev_ix (xd_ix (hu_of hr)) (ev_var 0) ev_int)) (ev_ix (xd_ix (hu_of hr)) (ev_var 0) ev_int))) ev_int) ev_int) sc__law_take.nd)
  (svs_cons (sv_set (i:=3) (ev_op od_mod (ev_op od_addT (ev_op od_addT (ev_op od_mul (ev_var 3) (ev_var 3)) (ev_op od_mul ev_int (ev_ix (xd_ix (hu_of hr)) (ev_var 0) ev_int))) ev_int) ev_int) sc__law_take.nd)
  (svs_one (sv_ret (ev_op od_mod (ev_op od_div (ev_var 3) ev_int) (ev_var 1))))))))
theorem ok__law_take {P:Program} {w:World} {K:PySem.W.Frag} {mg:Str->Option Value} {base:Heap} {f:Addr} {fd:FuncData} (F:Fun K "_law_take" "_law_take" s__law_take f fd) (B:Bn mg):FnOk P w K mg base CX0 1 f fd ["_law_row","_law_base"] (spI K 0 g_law_take):=by
 refine fn_io (T:=t__law_take) F sc__law_take rfl rfl (λds kk h=>?_) (b__law_take B) (λds kk h=>?_)
 ·obtain ⟨c,n,b,rfl,_⟩:=h
  exact ⟨rfl,_,rfl,rfl⟩
 ·obtain ⟨c,n,b,rfl,hb,hb2,hn,hn2,k⟩:=h
  have hn1:-18446744073709551616<n+1:=by omega
  have hn2':n+1<18446744073709551616:=by omega
  simp only [w__law_take,wSeq,wSetIx,wBin,env0,rowD,List.map_cons,List.map_nil,List.length_cons,List.length_nil,Nat.zero_add,Nat.reduceAdd,List.replicate,List.cons_append,List.nil_append,wC,wIf,wSet,wRet,r_var,Int.reduceLE,Int.reduceNeg,Int.reduceLT,r_powP,Int.reduceToNat,Int.reducePow,wNext,r_bl,look,Option.isSome_some,List.set_cons_zero,List.set_cons_succ,oget_s,true_and,r_setL,Nat.lt_add_one,ixN_1,List.length_set,Nat.zero_lt_succ,ixN_0,r_flL,r_ixL,atI_0,atI_1,List.getElem?_cons_zero,pureL,Bool.and_true,r_sub,hb,r_modP,hb2,r_divP,r2_add,D.pure,Bool.true_and,List.getElem?_cons_succ,r_mulB,r_cmp,r_blOf,r_mulA,hn1,hn2']
  split
  ·exact k _ _ (Int.emod_nonneg _ (by omega)) (Int.emod_lt_of_pos _ hb)
  ·have hx:-18446744073709551616<(c*48271+7919*(n+1)*(n+1)+11) % 2147483629/\(c*48271+7919*(n+1)*(n+1)+11) % 2147483629<18446744073709551616:=by omega
   generalize (c*48271+7919*(n+1)*(n+1)+11) % 2147483629=x at hx
   simp only [Int.reduceNeg,hx.1,hx.2,r_mulA,r2_add,Int.reduceLT,r_modP,r_divP,hb]
   exact k _ _ (Int.emod_nonneg _ (by omega)) (Int.emod_lt_of_pos _ hb)
def arcF (r l p:Int):D->D
 | .int i=>.int ((r+i*l) % p)
 | d=>d
def g_law_arcs:GI:=λds k=>∃(c n:Int) (q:Nat),ds=[rowD c n,.int q]/\q<=100/\0<=n/\n<=999990/\∀(c':Int) (xs:List Int),xs.length=q->xs.Nodup->(∀x∈xs,0<=x/\x<1000000000)->k (.lst (xs.map .int)) (rowD c' (n+3))
abbrev s__law_arcs:Stmt:=top 20
theorem sc__law_arcs:FnScope ["_law_row","_law_many","_law_prime","_law_leap","_law_offset"] ["_law_row","_law_many"] (defScope s__law_arcs):=⟨rfl,rfl,rfl,by decide +kernel,rfl,by decide +kernel,by decide +kernel⟩
def t__law_arcs:Tg:={ own:=λi=>i == 0 || i == 2 || i == 3 || i == 4,io:=[0] }
def w__law_arcs:WS:=(wSeq (wSet 2 (wBin dIx (wLst (wCons (wC (.int 101)) (wCons (wC (.int 10007)) (wCons (wC (.int 999999937)) wNil)))) (wCallI 0 g_law_take (wHere 0 (wCons (wC (.int 3)) wNil)))))
 (wSeq (wSet 3 (wBin dAddT (wC (.int 1)) (wCallI 0 g_law_take (wHere 0 (wCons (wBin dSub (wVar 2) (wC (.int 1))) wNil)))))
 (wSeq (wSet 4 (wCallI 0 g_law_take (wHere 0 (wCons (wVar 2) wNil))))
 (wRet (wComp (wRng1 (wCons (wVar 1) wNil)) wAll (wBin dMod (wBin dAddT (wVar 2) (wBin dMul (wVar 0) (wVar 1))) (wVar 3)) [3,4,2])))))
theorem b__law_arcs {P:Program} {w:World} {K:PySem.W.Frag} {mg:Str->Option Value} {base:Heap} {f:Addr} (B:Bn mg) (C__law_take:Cal P w K mg base "_law_take" 1 ["_law_row","_law_base"] (spI K 0 g_law_take)):∀(cdv:Value) (A:Around) (outer:List PySem.Env) (s:Shared) (H:Hp) (E:XK),Room 1 (A.deeper (envOfC "_law_arcs" (defScope s__law_arcs) s.heap.objs.size f cdv))->SVs (cxOf CX0 P w K mg base ["_law_row","_law_many","_law_prime","_law_leap","_law_offset"] "_law_arcs" (defScope s__law_arcs) f cdv A outer s H E).nox t__law_arcs (defBody s__law_arcs) w__law_arcs:=λcdv A outer s H E hr =>
  (svs_cons (sv_set (i:=2) (ev_ix (xd_ix (hu_of hr)) (ev_lst (av_cons ev_int (av_cons ev_int (av_cons ev_int av_nil)))) (ev_callIC C__law_take (hr.mono (by decide)) (ai_here (i:=0) (av_cons ev_int av_nil)))) sc__law_arcs.nd)
  (svs_cons (sv_set (i:=3) (ev_op od_addT ev_int (ev_callIC C__law_take (hr.mono (by decide)) (ai_here (i:=0) (av_cons (ev_op od_sub (ev_var 2) ev_int) av_nil)))) sc__law_arcs.nd)
  (svs_cons (sv_set (i:=4) (ev_callIC C__law_take (hr.mono (by decide)) (ai_here (i:=0) (av_cons (ev_var 2) av_nil))) sc__law_arcs.nd)
  (svs_one (sv_ret (ev_compB (comp_ok [3,4,2] (iv_range1 B.nb_range (av_cons (ev_var 1) av_nil)) (λ_ _ _ _ _=>cv_nil) (λ_ _ _ _ _=>(ev_op od_mod (ev_op od_addT (ev_var 2) (ev_op od_mul (ev_var 0) (ev_var 1))) (ev_var 3)))) (compB_mk (defScope s__law_arcs) ["_law_row","_law_many","_law_prime","_law_leap","_law_offset"] (by decide +kernel))))))))
theorem ok__law_arcs {P:Program} {w:World} {K:PySem.W.Frag} {mg:Str->Option Value} {base:Heap} {f:Addr} {fd:FuncData} (F:Fun K "_law_arcs" "_law_arcs" s__law_arcs f fd) (B:Bn mg) (C1:Cal P w K mg base "_law_take" 1 ["_law_row","_law_base"] (spI K 0 g_law_take)):FnOk P w K mg base CX0 2 f fd ["_law_row","_law_many"] (spI K 0 g_law_arcs):=by
 refine fn_io (T:=t__law_arcs) F sc__law_arcs rfl rfl (λds kk h=>?_) (b__law_arcs B C1) (λds kk h=>?_)
 ·obtain ⟨c,n,q,rfl,_⟩:=h
  exact ⟨rfl,_,rfl,rfl⟩
 ·obtain ⟨c,n,q,rfl,hq,hn,hn2,k⟩:=h
  simp only [w__law_arcs,wSeq,wSet,wBin,wLst,wCons,wC,wNil,List.length_cons,List.length_nil,Nat.zero_add,Nat.reduceAdd,wCallI,wHere,env0,rowD,List.map_cons,List.map_nil,List.replicate,List.cons_append,List.nil_append,look,Option.isSome_some,pureL,D.pure,Bool.and_self,List.set_cons_zero,List.set_cons_succ,Bool.and_true,wRet,r_comp,r_rng1,r_var,oget_s,r_rng1I,Int.reducePow,Int.reduceNeg,Int.toNat_natCast,true_and,r_flL]
  refine ⟨by decide,c,n,3,rfl,by decide,by decide,hn,by omega,λc1 r1 h1 h2=>?_⟩
  obtain ⟨p,hat,hp⟩:∃p,L2.atI [D.int 101,D.int 10007,D.int 999999937] r1=some (.int p)/\isP p:=by
   rcases pick3 (a:=D.int 101) (b:=.int 10007) (c:=.int 999999937) h1 h2 with e | e | e
   ·exact ⟨_,e,.inl rfl⟩
   ·exact ⟨_,e,.inr (.inl rfl)⟩
   ·exact ⟨_,e,.inr (.inr rfl)⟩
  have hpb:100<p/\p<1073741824:=by rcases hp with z | z | z <;> omega
  simp only [rowD,r_flL,pureL,D.pure,Bool.and_self,Int.reduceNeg,true_and,r_ixL,hat,oget_s,r_sub]
  refine ⟨c1,n+1,p-1,rfl,by omega,by omega,by omega,by omega,λc2 r2 h3 h4=>?_⟩
  simp only [rowD,r_flL,pureL,D.pure,Bool.and_self,Int.reduceNeg,true_and,r2_add]
  refine ⟨c2,n+1+1,p,rfl,by omega,by omega,by omega,by omega,λc3 r3 h5 h6=>?_⟩
  simp only [Int.reduceNeg,rowD]
  refine ⟨by omega,by omega,compI_map (arcF r3 (1+r2) p) (by rw [rngD_length];exact Nat.lt_of_le_of_lt (show _<=1000 by omega) (by decide)) (λd hd Q' hQ=>?_) ?_⟩
  ·obtain ⟨i,hi,rfl⟩:=mem_rngD hd
   have hi1:-18446744073709551616<0+(i:Int):=by omega
   have hi2:0+(i:Int)<18446744073709551616:=by omega
   have hp0:0<p:=by omega
   simp only [wBin,blkE,List.map_cons,look,List.map_nil,r_var,oget_s,Int.reduceNeg,hi1,hi2,r_mulA,r2_add,hp0,r_modP]
   exact hQ
  ·simp only [look,oget_s,r_flL,pureL,D.pure,Bool.and_self,true_and]
   have e:(rngD 0 q).map (arcF r3 (1+r2) p)=((List.range q).map λ(i:Nat)=>(r3+(i:Int)*(1+r2)) % p).map D.int:=by
    simp [rngD,arcF]
   rw [e]
   have:=k c3 ((List.range q).map λ(i:Nat)=>(r3+(i:Int)*(1+r2)) % p) (by simp) (arcs_nodup hp (by omega) (by omega) (by omega)) (λx hx=>by
    obtain ⟨i,_,rfl⟩:=List.mem_map.mp hx
    refine ⟨Int.emod_nonneg _ (by omega),Int.lt_of_lt_of_le (Int.emod_lt_of_pos _ (by omega)) (by rcases hp with z | z | z <;> omega)⟩)
   simpa [rowD,Int.add_assoc] using this
def g_law_web:GI:=λds k=>∃(c n:Int) (m e:Nat) (mo:Int),ds=[rowD c n,.int m,.int e,.int mo]/\m<=40/\e<=12/\e % 2=0/\0<=n/\n<=900000 /\
 ∀(c' n':Int) (A:Nat->Int) (g:Nat->Nat) (r:Int),M.Tw (4*m+e) A g->(∀i,0<=A i/\A i<1000000000)->(r=0\/r=1\/r=2\/r=mo)->n<=n'->n'<=n+1000->k (webD m e A r) (rowD c' n')
abbrev s__law_web:Stmt:=top 21
theorem sc__law_web:FnScope ["_law_row","_law_many","_law_ends","_law_most","_law_arcs_here","_law_left","_law_near","_law_arc_here","_law_crossings"] ["_law_row","_law_many","_law_ends","_law_most"] (defScope s__law_web):=⟨rfl,rfl,rfl,by decide +kernel,rfl,by decide +kernel,by decide +kernel⟩
def t__law_web:Tg:={ own:=λi=>i == 0 || i == 4 || i == 5 || i == 6 || i == 7 || i == 8,io:=[0] }
def w__law_web:WS:=(wSeq (wSet 4 (wBin dMul (wLst (wCons (wC (.int 0)) wNil)) (wBin dAddT (wBin dMul (wC (.int 4)) (wVar 1)) (wVar 2))))
 (wSeq (wSet 5 (wCall dRange (wCons (wBin dAddT (wBin dMul (wC (.int 4)) (wVar 1)) (wVar 2)) wNil)))
 (wSeq (wSet 6 (wBin dIx (wLst (wCons (wC (.int 99)) (wCons (wC (.int 1)) (wCons (wC (.int 3)) (wCons (wC (.int 99)) wNil))))) (wCallI 0 g_law_take (wHere 0 (wCons (wC (.int 4)) wNil)))))
 (wSeq (wFor (wSeqD (wCallI 0 g_law_arcs (wHere 0 (wCons (wBin dAddT (wBin dMul (wC (.int 2)) (wVar 1)) (wBin dDiv (wVar 2) (wC (.int 2)))) wNil)))) (gN 7) (wSeq (wSetIx 4 (wVar 7) (wMt 5 "list" gPopAt (wCons (wC (.int 0)) wNil)))
 (wSetIx 4 (wVar 7) (wMt 5 "list" gPopAt (wCons (wCallI 0 g_law_take (wHere 0 (wCons (wCall dMin2 (wCons (wVar 6) (wCons (wCall dLen (wCons (wVar 5) wNil)) wNil))) wNil))) wNil)))))
 (wSeq (wSet 8 (wComp (wRng1 (wCons (wVar 1) wNil)) wAll (wCall dTuple (wCons (wSlT (wVar 1) (wSome (wBin dMul (wC (.int 4)) (wVar 0))) (wSome (wBin dAddT (wBin dMul (wC (.int 4)) (wVar 0)) (wC (.int 4))))) wNil)) [4]))
 (wRet (wTup (wCons (wCall dTuple (wCons (wVar 8) wNil)) (wCons (wCall dTuple (wCons (wSlT (wVar 4) (wSome (wBin dMul (wC (.int 4)) (wVar 1))) wNone) wNil)) (wCons (wBin dIx (wLst (wCons (wC (.int 0)) (wCons (wC (.int 1)) (wCons (wC (.int 2)) (wCons (wLift (wVar 3)) wNil))))) (wCallI 0 g_law_take (wHere 0 (wCons (wC (.int 4)) wNil)))) wNil))))))))))
theorem b__law_web {P:Program} {w:World} {K:PySem.W.Frag} {mg:Str->Option Value} {base:Heap} {f:Addr} (B:Bn mg) (C__law_take:Cal P w K mg base "_law_take" 1 ["_law_row","_law_base"] (spI K 0 g_law_take)) (C__law_arcs:Cal P w K mg base "_law_arcs" 2 ["_law_row","_law_many"] (spI K 0 g_law_arcs)):∀(cdv:Value) (A:Around) (outer:List PySem.Env) (s:Shared) (H:Hp) (E:XK),Room 2 (A.deeper (envOfC "_law_web" (defScope s__law_web) s.heap.objs.size f cdv))->SVs (cxOf CX0 P w K mg base ["_law_row","_law_many","_law_ends","_law_most","_law_arcs_here","_law_left","_law_near","_law_arc_here","_law_crossings"] "_law_web" (defScope s__law_web) f cdv A outer s H E).nox t__law_web (defBody s__law_web) w__law_web:=λcdv A outer s H E hr =>
  (svs_cons (sv_set (i:=4) (ev_op od_mul (ev_lst (av_cons ev_int av_nil)) (ev_op od_addT (ev_op od_mul ev_int (ev_var 1)) (ev_var 2))) sc__law_web.nd)
  (svs_cons (sv_set (i:=5) (ev_listRange B.nb_range B.nb_list (av_cons (ev_op od_addT (ev_op od_mul ev_int (ev_var 1)) (ev_var 2)) av_nil)) sc__law_web.nd)
  (svs_cons (sv_set (i:=6) (ev_ix (xd_ix (hu_of hr)) (ev_lst (av_cons ev_int (av_cons ev_int (av_cons ev_int (av_cons ev_int av_nil))))) (ev_callIC C__law_take (hr.mono (by decide)) (ai_here (i:=0) (av_cons ev_int av_nil)))) sc__law_web.nd)
  (svs_cons (sv_for PassesOwn.never (iv_seq (ev_callIC C__law_arcs (hr.mono (by decide)) (ai_here (i:=0) (av_cons (ev_op od_addT (ev_op od_mul ev_int (ev_var 1)) (ev_op od_div (ev_var 2) ev_int)) av_nil)))) (gv_name (i:=7) sc__law_web.nd) (svs_cons (sv_setIx (i:=4) (hu_of hr) (ev_var 7) (ev_mt (i:=5) md_popAt PySem.F.plainAttrs_list PySem.F.slot_list_pop PySem.F.type_list_pop (av_cons ev_int av_nil)))
  (svs_one (sv_setIx (i:=4) (hu_of hr) (ev_var 7) (ev_mt (i:=5) md_popAt PySem.F.plainAttrs_list PySem.F.slot_list_pop PySem.F.type_list_pop (av_cons (ev_callIC C__law_take (hr.mono (by decide)) (ai_here (i:=0) (av_cons (ev_callB (cd_min2 rfl) B.nb_min bt_min (av_cons (ev_var 6) (av_cons (ev_callB cd_len B.nb_len bt_len (av_cons (ev_var 5) av_nil)) av_nil))) av_nil))) av_nil))))))
  (svs_cons (sv_compB (j:=8) (comp_ok [4] (iv_range1 B.nb_range (av_cons (ev_var 1) av_nil)) (λ_ _ _ _ _=>cv_nil) (λ_ _ _ _ _=>(ev_callTy cd_tuple B.nb_tuple bt_tuple (av_cons (ev_slT (ev_var 1) (ov_some (ev_op od_mul ev_int (ev_var 0))) (ov_some (ev_op od_addT (ev_op od_mul ev_int (ev_var 0)) ev_int))) av_nil)))) (compB_mk (defScope s__law_web) ["_law_row","_law_many","_law_ends","_law_most","_law_arcs_here","_law_left","_law_near","_law_arc_here","_law_crossings"] (by decide +kernel)) sc__law_web.nd)
  (svs_one (sv_ret (ev_tup (av_cons (ev_callTy cd_tuple B.nb_tuple bt_tuple (av_cons (ev_var 8) av_nil)) (av_cons (ev_callTy cd_tuple B.nb_tuple bt_tuple (av_cons (ev_slT (ev_var 4) (ov_some (ev_op od_mul ev_int (ev_var 1))) ov_none) av_nil)) (av_cons (ev_ix (xd_ix (hu_of hr)) (ev_lst (av_cons ev_int (av_cons ev_int (av_cons ev_int (av_cons (ev_lift (ev_var 3)) av_nil))))) (ev_callIC C__law_take (hr.mono (by decide)) (ai_here (i:=0) (av_cons ev_int av_nil)))) av_nil)))))))))))
theorem ok__law_web {P:Program} {w:World} {K:PySem.W.Frag} {mg:Str->Option Value} {base:Heap} {f:Addr} {fd:FuncData} (F:Fun K "_law_web" "_law_web" s__law_web f fd) (B:Bn mg) (C1:Cal P w K mg base "_law_take" 1 ["_law_row","_law_base"] (spI K 0 g_law_take)) (C2:Cal P w K mg base "_law_arcs" 2 ["_law_row","_law_many"] (spI K 0 g_law_arcs)) :
  FnOk P w K mg base CX0 3 f fd ["_law_row","_law_many","_law_ends","_law_most"] (spI K 0 g_law_web):=by
 refine fn_io (T:=t__law_web) F sc__law_web rfl rfl (λds kk h=>?_) (b__law_web B C1 C2) (λds kk h=>?_)
 ·obtain ⟨c,n,m,e,mo,rfl,_⟩:=h
  exact ⟨rfl,_,rfl,rfl⟩
 ·obtain ⟨c,n,m,e,mo,rfl,hm,he,he2,hn,hn2,k⟩:=h
  simp only [w__law_web,wSeq,wSet,wBin,wLst,wCons,wC,wNil,List.length_cons,List.length_nil,Nat.zero_add,env0,rowD,List.map_cons,List.map_nil,Nat.reduceAdd,List.replicate,List.cons_append,List.nil_append,wCall,wCallI,wHere,pureL,D.pure,Bool.and_self,r_for,r_seq,Bool.and_true,r_var,true_and,look,List.set_cons_succ,List.set_cons_zero,Option.isSome_some,oget_s,Int.reduceLT,r_divP,Int.reduceNeg,r_mulA,r2_add,r_flL,r_range,r_mulL,Int.reducePow]
  have hN:(4*(m:Int)+(e:Int)).toNat=4*m+e:=by omega
  have e1:(List.replicate (4*(m:Int)+(e:Int)).toNat [D.int 0]).flatten=(List.replicate (4*m+e) (0:Int)).map D.int:=by rw [hN];simp
  have e2:rngD 0 (4*(m:Int)+(e:Int)).toNat=(List.range (4*m+e)).map λ(i:Nat)=>D.int (i:Int):=by rw [hN];simp [rngD]
  have big:∀n:Nat,n<=1000->n<sizeLine:=λn h=>Nat.lt_of_le_of_lt h (by decide)
  rw [e1,e2]
  refine ⟨by decide,by omega,by omega,by rw [hN];exact Nat.le_of_lt (big _ (by omega)),by omega,by omega,by decide,c,n,4,rfl,by decide,by decide,hn,by omega,λc0 r0 z1 z2=>?_⟩
  obtain ⟨near,hnear,hn1,hn99⟩:∃p,L2.atI [D.int 99,D.int 1,D.int 3,D.int 99] r0=some (.int p)/\1<=p/\p<=99:=by
   rcases pick4 (a:=D.int 99) (b:=.int 1) (c:=.int 3) (d:=.int 99) z1 z2 with q | q | q | q
   ·exact ⟨_,q,by decide,by decide⟩
   ·exact ⟨_,q,by decide,by decide⟩
   ·exact ⟨_,q,by decide,by decide⟩
   ·exact ⟨_,q,by decide,by decide⟩
  simp only [rowD,r_flL,pureL,D.pure,Bool.and_self,true_and,r_ixL,hnear,oget_s]
  refine ⟨c0,n+1,2*m+e / 2,by simp [rowD],by omega,by omega,by omega,λc1 xs hl nd hxs=>?_⟩
  simp only [rowD,r_seqL]
  refine ⟨pure_ints,λt ρ=>∃(c' n':Int) (L:List Nat) (Bs:List Int) (ps:List (Nat × Nat)) (o:Option D),ρ=[some (rowD c' n'),some (.int m),some (.int e),some (.int mo),some (.lst (Bs.map D.int)),some (.lst (L.map λ(i:Nat)=>D.int (i:Int))),some (.int near),o,none]/\Pr (4*m+e) xs t L Bs ps/\L.length=4*m+e-2*t/\n'=n+4+t/\t<=xs.length/\∀b∈Bs,0<=b/\b<1000000000,
   ⟨c1,n+1+3,List.range (4*m+e),List.replicate (4*m+e) 0,[],none,rfl,Pr.start _ _,by simp,by simp;omega,Nat.zero_le _,λb hb=>by rw [(List.mem_replicate.mp hb).2];decide⟩,?_,?_⟩
  ·rintro t d ρ hd ⟨c',n',L,Bs,ps,o,rfl,hp,hL,hn',ht,hB⟩
   obtain ⟨x,hx,rfl⟩:∃x,xs[t]? = some x/\d=.int x:=by
    rw [List.getElem?_map] at hd
    cases q:xs[t]? with
    | none=>rw [q] at hd;cases hd
    | some x=>rw [q] at hd;exact ⟨x,rfl,(Option.some.inj hd).symm⟩
   have htl:=(List.getElem?_eq_some_iff.mp hx).1
   cases L with
   | nil=>simp at hL;omega
   | cons i L =>
    simp only [List.length_cons] at hL
    have hi:=hp.lt (List.mem_cons_self (a:=i))
    have hbl:=hp.bl
    have hix:ixN Bs.length (i:Int)=some i:=ixN_ofNat (by omega)
    simp only [gN,wSeq,wSetIx,rowD,List.map_cons,List.set_cons_succ,List.set_cons_zero,wMt,wCons,wC,wNil,wCallI,wHere,wCall,pureL,Bool.and_true,List.nil_append,r_var,look,Option.isSome_some,r_tyL,BEq.rfl,oget_s,r_flL,D.pure,Bool.and_self,true_and,r_popAt,Int.reducePow,Int.reduceNeg,Int.reduceLE,Int.reduceLT,List.length_cons,List.length_map,Nat.zero_lt_succ,seqIx_0,r_lenL,r_min,List.getElem?_cons_zero,List.eraseIdx_cons_zero,r_setL,hix]
    have hlo:0<L.length:=by omega
    obtain ⟨bb,hbb,hb0,hb1⟩:∃bb:Int,(if (L.length:Int)<near then (L.length:Int) else near)=bb/\0<bb/\bb<=L.length:=⟨_,rfl,by split <;> omega,by split <;> omega⟩
    rw [hbb]
    refine ⟨c',n',bb,rfl,by omega,by omega,by omega,by omega,λc2 r h1 h2=>?_⟩
    obtain ⟨s,rfl⟩:=Int.eq_ofNat_of_zero_le h1
    have hs:s<L.length:=by omega
    have hj:=hp.lt (List.mem_cons_of_mem i (List.getElem_mem hs))
    have hsx:seqIndex? (s:Int) L.length=some s:=seqIx_ofNat hs
    have hjx:ixN Bs.length ((L[s]:Nat):Int)=some L[s]:=ixN_ofNat (by omega)
    simp only [rowD,r_popAt,Int.reducePow,Int.reduceNeg,List.length_map,hsx,List.getElem?_map,oget_s,List.getElem?_eq_getElem hs,Option.map_some,D.pure,r_setL,List.length_set,hjx,true_and]
    refine ⟨by omega,by omega,c2,n'+1,L.eraseIdx s,(Bs.set i x).set L[s] x,ps++[(i,L[s])],some (.int x),?_,hp.step hx hs,?_,by omega,by omega,λb hb=>?_⟩
    ·simp [rowD,List.map_set,map_erase]
    ·rw [List.length_eraseIdx_of_lt hs];omega
    ·rcases List.mem_or_eq_of_mem_set hb with hb | rfl
     ·rcases List.mem_or_eq_of_mem_set hb with hb | rfl
      ·exact hB b hb
      ·exact hxs _ (List.mem_of_getElem? hx)
     ·exact hxs _ (List.mem_of_getElem? hx)
  ·rintro ρ ⟨c',n',L,Bs,ps,o,rfl,hp,hL,hn',ht,hB⟩
   simp only [List.length_map] at hp hL hn' ht
   have hL0:L=[]:=List.length_eq_zero_iff.mp (by omega)
   subst hL0
   obtain ⟨g,tw⟩:=hp.tw nd
   have hbl:=hp.bl
   simp only [wSeq,wSet,rowD,wRet,wTup,wCons,wCall,wNil,wSlT,wNone,wBin,wLst,wC,wLift,List.length_cons,List.length_nil,Nat.zero_add,Nat.reduceAdd,wCallI,wHere,pureL,D.pure,Bool.and_self,List.nil_append,true_and,r_var,r_some,r_comp,r_rng1,look,oget_s,r_rng1I,Int.reducePow,Int.reduceNeg,Int.toNat_natCast]
   refine ⟨by omega,by omega,compI_map (crossF Bs) (by rw [rngD_length];exact big _ (by omega)) (λd hd Q' hQ=>?_) ?_⟩
   ·obtain ⟨i,hi,rfl⟩:=mem_rngD hd
    have hb1:-18446744073709551616<0+(i:Int):=by omega
    have hb2:0+(i:Int)<18446744073709551616:=by omega
    have q1:4*(0+(i:Int))=((4*i:Nat):Int):=by omega
    have q2:((4*i:Nat):Int)+4=((4*i+4:Nat):Int):=by omega
    simp only [wCall,wCons,wSlT,blkE,List.map_nil,List.map_cons,look,wNil,r_some,wBin,wC,r_var,oget_s,Int.reduceNeg,Int.reduceLT,r_mulA,r2_add,r_intOf,r2_slL,r_tupL]
    rw [q1,q2,cut_mid (by omega) (by rw [List.length_map];omega),show 4*i+4-4*i=4 by omega,drop_take_range (by omega)]
    refine ⟨pure_ints,pureL_map λ_ _=>rfl,?_⟩
    rw [crossF_nat] at hQ
    exact hQ
   ·simp only [List.set_cons_succ,List.set_cons_zero,look,Option.isSome_some,oget_s,r_flL,pureL,D.pure,Bool.and_self,true_and,Int.reduceNeg,Int.reduceLT,r_mulA,r_intOf,r2_slL,r_tupL]
    rw [crossF_map,show (4*(m:Int))=((4*m:Nat):Int) by omega,cut_from (by rw [List.length_map];omega)]
    have e3:(Bs.map D.int).drop (4*m)=(List.range e).map λj=>.int (Bs.getD (4*m+j) 0):=by
     rw [← drop_take_range (by omega),List.take_of_length_le (by simp;omega)]
    rw [e3]
    refine ⟨pureL_map λ_ _=>by simp only [D.pure];exact pureL_map λ_ _=>rfl,pure_ints,pureL_map λ_ _=>rfl,by decide,c',n',4,rfl,by decide,by decide,by omega,by omega,λc4 r4 h1 h2=>?_⟩
    obtain ⟨p,hat,hp4⟩:∃p,L2.atI [D.int 0,D.int 1,D.int 2,D.int mo] r4=some (.int p)/\(p=0\/p=1\/p=2\/p=mo):=by
     rcases pick4 (a:=D.int 0) (b:=.int 1) (c:=.int 2) (d:=.int mo) h1 h2 with q | q | q | q
     ·exact ⟨_,q,.inl rfl⟩
     ·exact ⟨_,q,.inr (.inl rfl)⟩
     ·exact ⟨_,q,.inr (.inr (.inl rfl))⟩
     ·exact ⟨_,q,.inr (.inr (.inr rfl))⟩
    simp only [rowD,r_flL,pureL,D.pure,Bool.and_self,true_and,r_ixL,hat,oget_s]
    exact ⟨by decide,k c4 (n'+1) (λi=>Bs.getD i 0) g p tw (λi=>getD_all (by decide) hB i) hp4 (by omega) (by omega)⟩
end K53
namespace K53
open PySem PySem.Spec L2 PV
open PyProof.Rows (envOfC)
theorem big {n:Nat} (h:n<=1000):n<sizeLine:=Nat.lt_of_le_of_lt h (by decide)
def crD (A:Nat->Int) (k:Nat):D:=.tup ((List.range 4).map λj=>.int (A (4*k+j)))
def g_places:GA:=λds k=>∃(m e:Nat) (A:Nat->Int) (r:Int),ds=[webD m e A r]/\m<=100/\e<=100/\k (.dik (encP (spD m) (M.plc A (4*m+e))))
abbrev s_places:Stmt:=top 2
theorem sc_places:FnScope ["web","told","k","crossing","j","arc"] ["web"] (defScope s_places):=⟨rfl,rfl,rfl,by decide +kernel,rfl,by decide +kernel,by decide +kernel⟩
def t_places:Tg:={ own:=λi=>i == 1 || i == 2 || i == 3 || i == 4 || i == 5,io:=[] }
def w_places:WS:=(wSeq (wSet 1 (wC (.dik [])))
 (wSeq (wFor (wEnum (wCons (wBin dIx (wVar 0) (wC (.int 0))) wNil)) (gTupD 2 (gConsD (gN 2) (gConsD (gN 3) gNilD))) (wFor (wEnum (wCons (wVar 3) wNil)) (gTupD 2 (gConsD (gN 4) (gConsD (gN 5) gNilD))) (wSda 1 (wVar 5) (wTup (wCons (wVar 2) (wCons (wVar 4) wNil))))))
 (wSeq (wFor (wEnum (wCons (wBin dIx (wVar 0) (wC (.int 1))) wNil)) (gTupD 2 (gConsD (gN 4) (gConsD (gN 5) gNilD))) (wSda 1 (wVar 5) (wTup (wCons (wC (.int (-1))) (wCons (wVar 4) wNil)))))
 (wRetS 1))))
theorem b_places {P:Program} {w:World} {K:PySem.W.Frag} {mg:Str->Option Value} {base:Heap} {f:Addr} (B:Bn mg):∀(cdv:Value) (A:Around) (outer:List PySem.Env) (s:Shared) (H:Hp) (E:XK),Room 0 (A.deeper (envOfC "places" (defScope s_places) s.heap.objs.size f cdv))->SVs (cxOf CX0 P w K mg base ["web","told","k","crossing","j","arc"] "places" (defScope s_places) f cdv A outer s H E).nox t_places (defBody s_places) w_places:=λcdv A outer s H E hr =>
  (svs_cons (sv_set (i:=1) ev_dnewK sc_places.nd)
  (svs_cons (sv_for PassesOwn.never (iv_enum B.nb_enumerate (av_cons (ev_ix (xd_ix (hu_of hr)) (ev_var 0) ev_int) av_nil)) (gv_tup (gvs_cons (gv_name (i:=2) sc_places.nd) (gvs_cons (gv_name (i:=3) sc_places.nd) gvs_nil))) (svs_one (sv_for PassesOwn.never (iv_enum B.nb_enumerate (av_cons (ev_var 3) av_nil)) (gv_tup (gvs_cons (gv_name (i:=4) sc_places.nd) (gvs_cons (gv_name (i:=5) sc_places.nd) gvs_nil))) (svs_one (sv_sda (i:=1) (ev_var 5) (ev_tup (av_cons (ev_var 2) (av_cons (ev_var 4) av_nil))))))))
  (svs_cons (sv_for PassesOwn.never (iv_enum B.nb_enumerate (av_cons (ev_ix (xd_ix (hu_of hr)) (ev_var 0) ev_int) av_nil)) (gv_tup (gvs_cons (gv_name (i:=4) sc_places.nd) (gvs_cons (gv_name (i:=5) sc_places.nd) gvs_nil))) (svs_one (sv_sda (i:=1) (ev_var 5) (ev_tup (av_cons (ev_gint B.c_RIM.choose_spec) (av_cons (ev_var 4) av_nil))))))
  (svs_one (sv_retS (i:=1))))))
theorem pl_step {m t:Nat} {A:Nat->Int} (ht:t<900) {P:EndsP} {ρ:PV.Env} {wk wv:WE} {a:Int} (ha:a=A t)
  (h1:look ρ 1=some (.dik (encP (spD m) (M.plc A t)))) (hk:∀Q,Q (.int a) ρ->wk ρ Q) (hv:∀d Q,Q (spD m t) (ρ.set 1 d)->wv (ρ.set 1 d) Q) (hn:P.nx (ρ.set 1 (some (.dik (encP (spD m) (M.plc A (t+1))))))):wSda 1 wk wv P ρ:=by
 obtain ⟨k1,k2,_⟩:=M.plc_ok A t
 unfold wSda
 rw [h1]
 obtain ⟨l,hl,v1,v2⟩:=sda_enc (s:=spD m) (P:=M.plc A t) (a:=a) (i:=t) k1
 have hlen:l.length<=t:=by
  rcases hl with rfl | ⟨e,he,rfl⟩
  ·exact Nat.zero_le _
  ·exact plc_lens A t e he
 refine ⟨?_,encP_keys k1,hk _ ?_⟩
 ·have:=plc_len A t
  unfold encP
  rw [List.length_map]
  exact big (by omega)
 ·show oget (valD (sdNew (encP (spD m) (M.plc A t)) (.inl a)) (.inl a)) _
  rw [v1]
  refine ⟨by rw [List.length_map];exact big (by omega),hv _ _ ⟨pure_sp,?_⟩⟩
  rw [v2,ha,← M.plc_succ]
  exact hn
theorem ok_places {P:Program} {w:World} {K:PySem.W.Frag} {mg:Str->Option Value} {base:Heap} {f:Addr} {fd:FuncData} (F:Fun K "places" "places" s_places f fd) (B:Bn mg):FnOk P w K mg base CX0 1 f fd ["web"] (spR K g_places):=by
 refine fn_ro (T:=t_places) F sc_places rfl (by decide) (λds kk h=>?_) (b_places B) (λds kk h=>?_)
 ·obtain ⟨m,e,A,r,rfl,_⟩:=h
  rfl
 ·obtain ⟨m,e,A,r,rfl,hm,he,k⟩:=h
  simp only [w_places,wSeq,wSet,wC,Int.reduceNeg,env0,webD,List.map_cons,List.map_nil,List.length_cons,List.length_nil,Nat.zero_add,Nat.reduceAdd,List.replicate,List.cons_append,List.nil_append,List.set_cons_succ,List.set_cons_zero,r_for,r_enum,wCons,wBin,wNil,r_var,look,oget_s,r_ixT,atI_0,List.getElem?_cons_zero,r_enumT]
  have pc:pureL ((List.range m).map λk=>D.tup ((List.range 4).map λj=>.int (A (4*k+j))))=true:=pureL_map λ_ _=>by simp only [D.pure];exact pureL_map λ_ _=>rfl
  have pe:pureL ((List.range e).map λj=>D.int (A (4*m+j)))=true:=pureL_map λ_ _=>rfl
  refine ⟨pc,pure_enum pc,λk ρ=>∃o2 o3 o4 o5:Option D,ρ=[some (webD m e A r),some (.dik (encP (spD m) (M.plc A (4*k)))),o2,o3,o4,o5],⟨none,none,none,none,rfl⟩,?_,?_⟩
  ·rintro i d ρ hd ⟨o2,o3,o4,o5,rfl⟩
   rw [enumD_get] at hd
   have hi:i<m:=by
    cases q:((List.range m).map λk=>D.tup ((List.range 4).map λj=>.int (A (4*k+j))))[i]? with
    | none=>rw [q] at hd;cases hd
    | some z=>simpa using (List.getElem?_eq_some_iff.mp q).1
   rw [List.getElem?_map,List.getElem?_range hi] at hd
   have hd:=(Option.some.inj hd).symm
   subst hd
   have pi:pureL ((List.range 4).map λj=>D.int (A (4*i+j)))=true:=pureL_map λ_ _=>rfl
   simp only [Nat.zero_add,Int.reduceNeg,r_for,r_enum,wCons,wNil,r_var,r_gTup,List.length_cons,List.length_nil,Nat.reduceAdd,r_gCons,gN,List.set_cons_succ,List.set_cons_zero,r_gNil,look,oget_s,r_enumT,true_and]
   refine ⟨pi,pure_enum pi,λj ρ=>∃o4 o5:Option D,ρ=[some (webD m e A r),some (.dik (encP (spD m) (M.plc A (4*i+j)))),some (.int (i:Int)),some (crD A i),o4,o5],⟨o4,o5,by simp [crD]⟩,?_,?_⟩
   ·rintro j d ρ hd ⟨o4,o5,rfl⟩
    rw [enumD_get] at hd
    have hj:j<4:=by
     cases q:((List.range 4).map λj=>D.int (A (4*i+j)))[j]? with
     | none=>rw [q] at hd;cases hd
     | some z=>simpa using (List.getElem?_eq_some_iff.mp q).1
    rw [List.getElem?_map,List.getElem?_range hj] at hd
    have hd:=(Option.some.inj hd).symm
    subst hd
    simp only [Nat.zero_add,r_gTup,List.length_cons,List.length_nil,Nat.reduceAdd,r_gCons,gN,List.set_cons_succ,List.set_cons_zero,r_gNil,true_and]
    refine pl_step (m:=m) (t:=4*i+j) (A:=A) (a:=A (4*i+j)) (by omega) rfl rfl (λQ hQ=>?_) (λd Q hQ=>?_) ?_
    ·simp only [r_var,look,oget_s];exact hQ
    ·simp only [wTup,wCons,List.set_cons_succ,List.set_cons_zero,wNil,List.length_cons,List.length_nil,Nat.zero_add,Nat.reduceAdd,r_var,look,oget_s]
     refine ⟨by decide,?_⟩
     simpa [spD,M.sp_in hi hj] using hQ
    ·exact ⟨some (.int (j:Int)),some (.int (A (4*i+j))),by simp [Nat.add_assoc]⟩
   ·rintro ρ ⟨o4,o5,rfl⟩
    have hl:(enumD 0 ((List.range 4).map λj=>D.int (A (4*i+j)))).length=4:=by rw [enumD_length];simp
    exact ⟨some (.int (i:Int)),some (crD A i),o4,o5,by rw [hl,Nat.mul_add]⟩
  ·rintro ρ ⟨o2,o3,o4,o5,rfl⟩
   have hl:(enumD 0 ((List.range m).map λk=>D.tup ((List.range 4).map λj=>.int (A (4*k+j))))).length=m:=by rw [enumD_length];simp
   rw [hl]
   simp only [wSeq,Int.reduceNeg,webD,r_for,r_enum,wCons,wBin,wC,wNil,r_var,look,oget_s,r_ixT,atI_1,List.getElem?_cons_succ,List.getElem?_cons_zero,r_enumT]
   refine ⟨pe,pure_enum pe,λj ρ=>∃o4 o5:Option D,ρ=[some (webD m e A r),some (.dik (encP (spD m) (M.plc A (4*m+j)))),o2,o3,o4,o5],⟨o4,o5,by simp [webD]⟩,?_,?_⟩
   ·rintro j d ρ hd ⟨o4,o5,rfl⟩
    rw [enumD_get] at hd
    have hj:j<e:=by
     cases q:((List.range e).map λj=>D.int (A (4*m+j)))[j]? with
     | none=>rw [q] at hd;cases hd
     | some z=>simpa using (List.getElem?_eq_some_iff.mp q).1
    rw [List.getElem?_map,List.getElem?_range hj] at hd
    have hd:=(Option.some.inj hd).symm
    subst hd
    simp only [Nat.zero_add,Int.reduceNeg,r_gTup,List.length_cons,List.length_nil,Nat.reduceAdd,r_gCons,gN,List.set_cons_succ,List.set_cons_zero,r_gNil,true_and]
    refine pl_step (m:=m) (t:=4*m+j) (A:=A) (a:=A (4*m+j)) (by omega) rfl rfl (λQ hQ=>?_) (λd Q hQ=>?_) ?_
    ·simp only [r_var,look,oget_s];exact hQ
    ·simp only [wTup,wCons,wC,List.set_cons_succ,List.set_cons_zero,wNil,Int.reduceNeg,List.length_cons,List.length_nil,Nat.zero_add,Nat.reduceAdd,r_var,look,oget_s]
     refine ⟨by decide,?_⟩
     simpa [spD,M.sp_out] using hQ
    ·exact ⟨some (.int (j:Int)),some (.int (A (4*m+j))),by simp [Nat.add_assoc]⟩
   ·rintro ρ ⟨o4,o5,rfl⟩
    have hl:(enumD 0 ((List.range e).map λj=>D.int (A (4*m+j)))).length=e:=by rw [enumD_length];simp
    rw [hl]
    simp only [wRetS,look,oget_s]
    exact k
def renF (f:Int->Int):D->D
 | .int i=>.int (f i)
 | d=>d
def g_renamed:GA:=λds k=>∃(ns:List Int) (T:List (Key × D)) (f:Int->Int),ds=[.tup (ns.map .int),.dik T]/\ns.length<=100/\(∀n∈ns,valD T (.inl n)=some (.int (f n)))/\k (.tup (ns.map λn=>.int (f n)))
abbrev s_renamed:Stmt:=top 3
theorem sc_renamed:FnScope ["arcs","names"] ["arcs","names"] (defScope s_renamed):=⟨rfl,rfl,rfl,by decide +kernel,rfl,by decide +kernel,by decide +kernel⟩
def t_renamed:Tg:={ own:=λi=>false,io:=[] }
def w_renamed:WS:=(wRet (wCall dTuple (wCons (wComp (wSeqD (wVar 0)) wAll (wLift (wBin dIx (wVar 1) (wVar 0))) [1]) wNil)))
theorem b_renamed {P:Program} {w:World} {K:PySem.W.Frag} {mg:Str->Option Value} {base:Heap} {f:Addr} (B:Bn mg):∀(cdv:Value) (A:Around) (outer:List PySem.Env) (s:Shared) (H:Hp) (E:XK),Room 0 (A.deeper (envOfC "renamed" (defScope s_renamed) s.heap.objs.size f cdv))->SVs (cxOf CX0 P w K mg base ["arcs","names"] "renamed" (defScope s_renamed) f cdv A outer s H E).nox t_renamed (defBody s_renamed) w_renamed:=λcdv A outer s H E hr =>
  (svs_one (sv_ret (ev_callTy cd_tuple B.nb_tuple bt_tuple (av_cons (ev_compB (comp_ok [1] (iv_seq (ev_var 0)) (λ_ _ _ _ _=>cv_nil) (λ_ _ _ _ _=>(ev_lift (ev_ix (xd_ix (hu_of hr)) (ev_var 1) (ev_var 0))))) (compB_mk (defScope s_renamed) ["arcs","names"] (by decide +kernel))) av_nil))))
theorem ok_renamed {P:Program} {w:World} {K:PySem.W.Frag} {mg:Str->Option Value} {base:Heap} {f:Addr} {fd:FuncData} (F:Fun K "renamed" "renamed" s_renamed f fd) (B:Bn mg):FnOk P w K mg base CX0 1 f fd ["arcs","names"] (spR K g_renamed):=by
 refine fn_ro (T:=t_renamed) F sc_renamed rfl (by decide) (λds kk h=>?_) (b_renamed B) (λds kk h=>?_)
 ·obtain ⟨ns,T,f,rfl,_⟩:=h
  rfl
 ·obtain ⟨ns,T,f,rfl,hl,hT,k⟩:=h
  simp only [w_renamed,wRet,wCall,wCons,env0,List.map_cons,List.map_nil,List.length_cons,List.length_nil,Nat.zero_add,Nat.reduceAdd,List.cons_append,List.nil_append,wNil,r_comp,r_seq,r_var,look,oget_s,r_seqT]
  refine ⟨pure_ints,compI_map (renF f) (by rw [List.length_map];exact big (by omega)) (λd hd Q' hQ=>?_) ?_⟩
  ·obtain ⟨n,hn,rfl⟩:=List.mem_map.mp hd
   simp only [wLift,wBin,blkE,List.map_cons,look,List.map_nil,r_var,oget_s,r_ixDi,hT n hn,D.pure,true_and]
   exact hQ
  ·simp only [r_tupL]
   rw [List.map_map]
   exact ⟨pureL_map λ_ _=>rfl,k⟩
def g_named_anew:GA:=λds k=>∃(m e:Nat) (A:Nat->Int) (r:Int),ds=[webD m e A r]/\m<=20/\e<=20/\k (webD m e (M.anw A (4*m+e)) r)
def crF (A:Nat->Int):D->D
 | .tup ds=>.tup (ds.map λd=>match d with | .int a=>.int (A a.toNat) | d=>d)
 | d=>d
def nmF (f:Int->Int):D->D
 | .tup ds=>.tup (ds.map (renF f))
 | d=>d
theorem web_cr {m e:Nat} {A:Nat->Int} {f:Int->Int} {r:Int}:D.tup [.tup (((List.range m).map λk=>D.tup ((List.range 4).map λj=>.int (A (4*k+j)))).map (nmF f)),.tup (((List.range e).map λj=>A (4*m+j)).map λn=>.int (f n)),.int r]=webD m e (λi=>f (A i)) r:=by
 unfold webD
 rw [List.map_map,List.map_map]
 congr 3
abbrev s_named_anew:Stmt:=top 4
theorem sc_named_anew:FnScope ["web","names","arc","crossings"] ["web"] (defScope s_named_anew):=⟨rfl,rfl,rfl,by decide +kernel,rfl,by decide +kernel,by decide +kernel⟩
def t_named_anew:Tg:={ own:=λi=>i == 1 || i == 2 || i == 3,io:=[] }
def w_named_anew:WS:=(wSeq (wSet 1 (wC (.dik [])))
 (wSeq (wFor (wKeys (wCall g_places (wCons (wVar 0) wNil))) (gN 2) (wSetIx 1 (wCall dLen (wCons (wVar 1) wNil)) (wVar 2)))
 (wSeq (wSet 3 (wCall dTuple (wCons (wComp (wSeqD (wBin dIx (wVar 0) (wC (.int 0)))) wAll (wCall g_renamed (wCons (wVar 0) (wCons (wVar 1) wNil))) [1]) wNil)))
 (wRet (wLift (wTup (wCons (wVar 3) (wCons (wCall g_renamed (wCons (wBin dIx (wVar 0) (wC (.int 1))) (wCons (wVar 1) wNil))) (wCons (wBin dIx (wVar 0) (wC (.int 2))) wNil)))))))))
theorem b_named_anew {P:Program} {w:World} {K:PySem.W.Frag} {mg:Str->Option Value} {base:Heap} {f:Addr} (B:Bn mg) (C_places:Cal P w K mg base "places" 1 ["web"] (spR K g_places)) (C_renamed:Cal P w K mg base "renamed" 1 ["arcs","names"] (spR K g_renamed)):∀(cdv:Value) (A:Around) (outer:List PySem.Env) (s:Shared) (H:Hp) (E:XK),Room 1 (A.deeper (envOfC "named_anew" (defScope s_named_anew) s.heap.objs.size f cdv))->SVs (cxOf CX0 P w K mg base ["web","names","arc","crossings"] "named_anew" (defScope s_named_anew) f cdv A outer s H E).nox t_named_anew (defBody s_named_anew) w_named_anew:=λcdv A outer s H E hr =>
  (svs_cons (sv_set (i:=1) ev_dnewK sc_named_anew.nd)
  (svs_cons (sv_for PassesOwn.never (iv_keys (ev_callC C_places (hr.mono (by decide)) (av_cons (ev_var 0) av_nil))) (gv_name (i:=2) sc_named_anew.nd) (svs_one (sv_setIx (i:=1) (hu_of hr) (ev_callB cd_len B.nb_len bt_len (av_cons (ev_var 1) av_nil)) (ev_var 2))))
  (svs_cons (sv_set (i:=3) (ev_callTy cd_tuple B.nb_tuple bt_tuple (av_cons (ev_compB (comp_ok [1] (iv_seq (ev_ix (xd_ix (hu_of hr)) (ev_var 0) ev_int)) (λ_ _ _ _ _=>cv_nil) (λ_ _ _ _ _=>(ev_callC C_renamed (hr.mono (by decide)) (av_cons (ev_var 0) (av_cons (ev_var 1) av_nil))))) (compB_mk (defScope s_named_anew) ["web","names","arc","crossings"] (by decide +kernel))) av_nil)) sc_named_anew.nd)
  (svs_one (sv_ret (ev_lift (ev_tup (av_cons (ev_var 3) (av_cons (ev_callC C_renamed (hr.mono (by decide)) (av_cons (ev_ix (xd_ix (hu_of hr)) (ev_var 0) ev_int) (av_cons (ev_var 1) av_nil))) (av_cons (ev_ix (xd_ix (hu_of hr)) (ev_var 0) ev_int) av_nil))))))))))
theorem ok_named_anew {P:Program} {w:World} {K:PySem.W.Frag} {mg:Str->Option Value} {base:Heap} {f:Addr} {fd:FuncData} (F:Fun K "named_anew" "named_anew" s_named_anew f fd) (B:Bn mg) (C1:Cal P w K mg base "places" 1 ["web"] (spR K g_places)) (C2:Cal P w K mg base "renamed" 1 ["arcs","names"] (spR K g_renamed)):FnOk P w K mg base CX0 2 f fd ["web"] (spR K g_named_anew):=by
 refine fn_ro (T:=t_named_anew) F sc_named_anew rfl (by decide) (λds kk h=>?_) (b_named_anew B C1 C2) (λds kk h=>?_)
 ·obtain ⟨m,e,A,r,rfl,_⟩:=h
  rfl
 ·obtain ⟨m,e,A,r,rfl,hm,he,k⟩:=h
  simp only [w_named_anew,wSeq,wSet,wC,env0,List.map_cons,List.map_nil,List.length_cons,List.length_nil,Nat.zero_add,Nat.reduceAdd,List.replicate,List.cons_append,List.nil_append,List.set_cons_succ,List.set_cons_zero,r_for,r2_keys,wCall,wCons,wNil,r_var,look,oget_s]
  refine ⟨m,e,A,r,rfl,by omega,by omega,?_⟩
  simp only [r2_keysD,keys_enc]
  refine ⟨pure_ints,λt ρ=>t<=(M.keys A (4*m+e)).length/\∃o:Option D,ρ=[some (webD m e A r),some (.dik (num 0 ((M.keys A (4*m+e)).take t))),o,none],⟨Nat.zero_le _,none,rfl⟩,?_,?_⟩
  ·rintro t d ρ hd ⟨ht,o,rfl⟩
   rw [List.getElem?_map] at hd
   cases hq:(M.keys A (4*m+e))[t]? with
   | none=>rw [show (M.plc A (4*m+e)).map (·.1)=M.keys A (4*m+e) from rfl,hq] at hd;cases hd
   | some a =>
    rw [show (M.plc A (4*m+e)).map (·.1)=M.keys A (4*m+e) from rfl,hq] at hd
    cases hd
    have hlt:=(List.getElem?_eq_some_iff.mp hq).1
    have hk:=M.keys_len A (4*m+e)
    have hno:a∉(M.keys A (4*m+e)).take t:=λhm'=>by
     obtain ⟨i,hi,e1⟩:=List.mem_take_iff_getElem.mp hm'
     have e2:=(List.getElem?_eq_some_iff.mp hq).2
     have:=(List.getElem_inj (M.keys_nd A (4*m+e))).mp (e1.trans e2.symm)
     omega
    simp only [gN,wSetIx,wCall,wCons,List.set_cons_succ,List.set_cons_zero,wNil,r_var,look,Option.isSome_some,oget_s,r_setDi,true_and,r_lenD,D.pure]
    refine ⟨by rw [num_len,List.length_take];exact big (by omega),by omega,some (.int a),?_⟩
    rw [num_put hno,List.take_add_one,hq]
    rfl
  ·rintro ρ ⟨ht,o,rfl⟩
   rw [show ((M.plc A (4*m+e)).map (·.1)).map D.int=(M.keys A (4*m+e)).map D.int from rfl,List.length_map,List.take_length]
   have hval:∀i,i<4*m+e->valD (num 0 (M.keys A (4*m+e))) (.inl (A i))=some (.int (M.anw A (4*m+e) i)):=λi hi=>by
    rw [num_val (M.keys_mem hi)];simp [M.anw]
   simp only [wSeq,wSet,wCall,wCons,webD,wNil,wRet,wLift,wTup,wBin,wC,List.length_cons,List.length_nil,Nat.zero_add,Nat.reduceAdd,D.pure,pureL,Bool.and_true,r_var,r_comp,r_seq,look,oget_s,r_ixT,atI_0,List.getElem?_cons_zero,r_seqT]
   refine ⟨pureL_map λ_ _=>by simp only [D.pure];exact pureL_map λ_ _=>rfl,compI_map (nmF λa=>((M.ix a (M.keys A (4*m+e)):Nat):Int)) (by simp;exact big (by omega)) (λd hd Q' hQ=>?_) ?_⟩
   ·obtain ⟨kk,hk,rfl⟩:=List.mem_map.mp hd
    have hk:=List.mem_range.mp hk
    simp only [wCall,wCons,blkE,List.map_cons,look,List.map_nil,wNil,r_var,oget_s]
    refine ⟨(List.range 4).map λj=>A (4*kk+j),num 0 (M.keys A (4*m+e)),λa=>((M.ix a (M.keys A (4*m+e)):Nat):Int),by simp,by simp,λn hn=>?_,?_⟩
    ·obtain ⟨j,hj,rfl⟩:=List.mem_map.mp hn
     have hj:=List.mem_range.mp hj
     exact hval _ (by omega)
    ·have e1:D.tup (((List.range 4).map λj=>A (4*kk+j)).map λn=>.int ((M.ix n (M.keys A (4*m+e)):Nat):Int))=nmF (λa=>((M.ix a (M.keys A (4*m+e)):Nat):Int)) (D.tup ((List.range 4).map λj=>.int (A (4*kk+j)))):=by
      simp [nmF,renF,Function.comp]
     rw [e1]
     exact hQ
   ·simp only [List.set_cons_succ,List.set_cons_zero,look,oget_s,r_ixT,atI_2,List.getElem?_cons_succ,List.getElem?_cons_zero,D.pure,Bool.and_true,atI_1,r_tupL]
    refine ⟨pureL_map λd hd=>?_,?_⟩
    ·obtain ⟨kk,hk,rfl⟩:=List.mem_map.mp hd
     simp only [nmF,D.pure,List.map_map]
     exact pureL_map λ_ _=>rfl
    ·refine ⟨(List.range e).map λj=>A (4*m+j),num 0 (M.keys A (4*m+e)),λa=>((M.ix a (M.keys A (4*m+e)):Nat):Int),by simp,by simp;omega,λn hn=>?_,by decide,?_⟩
     ·obtain ⟨j,hj,rfl⟩:=List.mem_map.mp hn
      have hj:=List.mem_range.mp hj
      exact hval _ (by omega)
     ·rw [web_cr]
      refine ⟨?_,k⟩
      rw [Bool.and_eq_true]
      refine ⟨pureL_map λd hd=>?_,by simp only [D.pure];exact pureL_map λ_ _=>rfl⟩
      obtain ⟨kk,hk,rfl⟩:=List.mem_map.mp hd
      simp only [nmF,D.pure,List.map_map]
      exact pureL_map λ_ _=>rfl
end K53
namespace K53
open PySem PySem.Spec L2 PV
open PyProof.Rows (envOfC)
theorem all_put {κ:Type} [DecidableEq κ] {kvs:List (κ × D)} {k:κ} {v:D} (h:(kvs.all λkv=>kv.2.pure)=true) (hv:v.pure=true):((putD kvs k v).all λkv=>kv.2.pure)=true:=by
 rw [List.all_eq_true] at *
 intro x hx
 unfold putD at hx
 split at hx
 ·obtain ⟨y,hy,rfl⟩:=List.mem_map.mp hx
  split
  ·exact hv
  ·exact h y hy
 ·rcases List.mem_append.mp hx with hx | hx
  ·exact h x hx
  ·rw [List.mem_singleton.mp hx];exact hv
theorem all_drop {κ:Type} [DecidableEq κ] {kvs:List (κ × D)} {k:κ} (h:(kvs.all λkv=>kv.2.pure)=true):((dropD kvs k).all λkv=>kv.2.pure)=true:=by
 rw [List.all_eq_true] at *
 exact λx hx=>h x (List.mem_filter.mp hx).1
theorem val_drop {κ:Type} [DecidableEq κ] {k j:κ}:∀{kvs:List (κ × D)},valD (dropD kvs k) j=if j=k then none else valD kvs j
 | []=>by rw [show dropD ([]:List (κ × D)) k=[] from rfl,valD_nil];split <;> rfl
 | p::r=>by
  unfold dropD
  by_cases h:p.1=k
  ·rw [List.filter_cons_of_neg (by simpa using h)]
   show valD (dropD r k) j=_
   rw [val_drop,valD_cons]
   by_cases hj:j=k
   ·rw [if_pos hj,if_pos hj]
   ·rw [if_neg hj,if_neg hj,if_neg λz=>hj (z.symm.trans h)]
  ·rw [List.filter_cons_of_pos (by simpa using h),valD_cons]
   show (if p.1=j then some p.2 else valD (dropD r k) j)=_
   rw [val_drop,valD_cons]
   by_cases hj:j=k
   ·rw [if_pos hj,if_pos hj,if_neg λz=>h (z.trans hj)]
   ·rw [if_neg hj,if_neg hj]
theorem len_drop {κ:Type} [DecidableEq κ] {kvs:List (κ × D)} {k:κ}:(dropD kvs k).length<=kvs.length:=List.length_filter_le _ _
def g_law_spots:GA:=λds k=>∃(m e:Nat) (A:Nat->Int) (r:Int),ds=[webD m e A r]/\m<=100/\e<=100/\k (.lst ((List.range (4*m+e)).map (spD m)))
abbrev s__law_spots:Stmt:=top 22
theorem sc__law_spots:FnScope ["_law_web_here","_law_found","_law_k"] ["_law_web_here"] (defScope s__law_spots):=⟨rfl,rfl,rfl,by decide +kernel,rfl,by decide +kernel,by decide +kernel⟩
def t__law_spots:Tg:={ own:=λi=>i == 1 || i == 2,io:=[] }
def w__law_spots:WS:=(wSeq (wSet 1 (wLst wNil))
 (wSeq (wFor (wRng1 (wCons (wCall dLen (wCons (wBin dIx (wVar 0) (wC (.int 0))) wNil)) wNil)) (gN 2) (wSet 1 (wBin dAddT (wVar 1) (wComp (wRng1 (wCons (wC (.int 4)) wNil)) wAll (wLift (wTup (wCons (wVar 1) (wCons (wVar 0) wNil)))) [2]))))
 (wRet (wBin dAddT (wVar 1) (wComp (wRng1 (wCons (wCall dLen (wCons (wBin dIx (wVar 0) (wC (.int 1))) wNil)) wNil)) wAll (wLift (wTup (wCons (wUn dNeg (wC (.int 1))) (wCons (wVar 0) wNil)))) [])))))
theorem b__law_spots {P:Program} {w:World} {K:PySem.W.Frag} {mg:Str->Option Value} {base:Heap} {f:Addr} (B:Bn mg):∀(cdv:Value) (A:Around) (outer:List PySem.Env) (s:Shared) (H:Hp) (E:XK),Room 0 (A.deeper (envOfC "_law_spots" (defScope s__law_spots) s.heap.objs.size f cdv))->SVs (cxOf CX0 P w K mg base ["_law_web_here","_law_found","_law_k"] "_law_spots" (defScope s__law_spots) f cdv A outer s H E).nox t__law_spots (defBody s__law_spots) w__law_spots:=λcdv A outer s H E hr =>
  (svs_cons (sv_set (i:=1) (ev_lst av_nil) sc__law_spots.nd)
  (svs_cons (sv_for PassesOwn.never (iv_range1 B.nb_range (av_cons (ev_callB cd_len B.nb_len bt_len (av_cons (ev_ix (xd_ix (hu_of hr)) (ev_var 0) ev_int) av_nil)) av_nil)) (gv_name (i:=2) sc__law_spots.nd) (svs_one (sv_set (i:=1) (ev_op od_addT (ev_var 1) (ev_compB (comp_ok [2] (iv_range1 B.nb_range (av_cons ev_int av_nil)) (λ_ _ _ _ _=>cv_nil) (λ_ _ _ _ _=>(ev_lift (ev_tup (av_cons (ev_var 1) (av_cons (ev_var 0) av_nil)))))) (compB_mk (defScope s__law_spots) ["_law_web_here","_law_found","_law_k"] (by decide +kernel)))) sc__law_spots.nd)))
  (svs_one (sv_ret (ev_op od_addT (ev_var 1) (ev_compB (comp_ok [] (iv_range1 B.nb_range (av_cons (ev_callB cd_len B.nb_len bt_len (av_cons (ev_ix (xd_ix (hu_of hr)) (ev_var 0) ev_int) av_nil)) av_nil)) (λ_ _ _ _ _=>cv_nil) (λ_ _ _ _ _=>(ev_lift (ev_tup (av_cons (ev_un ud_neg ev_int) (av_cons (ev_var 0) av_nil)))))) (compB_mk (defScope s__law_spots) ["_law_web_here","_law_found","_law_k"] (by decide +kernel))))))))
theorem range_add {α:Type} {f:Nat->α} {a b:Nat}:(List.range (a+b)).map f=(List.range a).map f++(List.range b).map λj=>f (a+j):=by
 rw [List.range_add,List.map_append,List.map_map];rfl
theorem ok__law_spots {P:Program} {w:World} {K:PySem.W.Frag} {mg:Str->Option Value} {base:Heap} {f:Addr} {fd:FuncData} (F:Fun K "_law_spots" "_law_spots" s__law_spots f fd) (B:Bn mg):FnOk P w K mg base CX0 1 f fd ["_law_web_here"] (spR K g_law_spots):=by
 refine fn_ro (T:=t__law_spots) F sc__law_spots rfl (by decide) (λds kk h=>?_) (b__law_spots B) (λds kk h=>?_)
 ·obtain ⟨m,e,A,r,rfl,_⟩:=h
  rfl
 ·obtain ⟨m,e,A,r,rfl,hm,he,k⟩:=h
  simp only [w__law_spots,wSeq,wSet,wLst,wNil,List.length_nil,env0,webD,List.map_cons,List.map_nil,List.length_cons,Nat.zero_add,Nat.reduceAdd,List.replicate,List.cons_append,List.nil_append,List.set_cons_succ,List.set_cons_zero,r_for,r_rng1,wCons,wCall,wBin,wC,r_var,look,oget_s,r_ixT,atI_0,List.getElem?_cons_zero,r_lenT,r_rng1I,Int.reducePow,Int.reduceNeg,Int.toNat_natCast]
  refine ⟨by decide,by simp <;> omega,by simp <;> omega,pure_rngD,λt ρ=>∃o:Option D,ρ=[some (webD m e A r),some (.lst ((List.range (4*t)).map (spD m))),o],⟨none,rfl⟩,?_,?_⟩
  ·rintro t d ρ hd ⟨o,rfl⟩
   obtain ⟨ht,rfl⟩:=rngD_get hd
   simp only [List.length_map,List.length_range] at ht
   simp only [gN,wSet,wBin,List.set_cons_succ,List.set_cons_zero,r_comp,r_rng1,wCons,wC,wNil,r_rng1I,Int.reducePow,Int.reduceNeg,Int.reduceLE,Int.reduceLT,Int.reduceToNat,true_and,r_var,look,oget_s]
   refine compI_map (λd=>.tup [.int (0+(t:Int)),d]) (by rw [rngD_length];decide) (λd hd Q' hQ=>?_) ?_
   ·obtain ⟨j,hj,rfl⟩:=mem_rngD hd
    simp only [wLift,wTup,wCons,blkE,List.map_cons,look,List.map_nil,wNil,List.length_cons,List.length_nil,Nat.zero_add,Nat.reduceAdd,D.pure,pureL,Bool.and_true,r_var,oget_s,true_and]
    exact ⟨by decide,hQ⟩
   ·have e1:(rngD 0 4).map (λd=>D.tup [.int (0+(t:Int)),d])=(List.range 4).map λj=>spD m (4*t+j):=by
     unfold rngD
     rw [List.map_map]
     apply List.map_congr_left
     intro j hj
     unfold spD
     rw [M.sp_in ht (List.mem_range.mp hj)]
     simp
    simp only [List.set_cons_succ,List.set_cons_zero,r2_addL]
    rw [e1]
    refine ⟨pure_spL,pureL_map λ_ _=>rfl,by simp <;> exact Nat.le_of_lt (big (by omega)),some (.int (0+(t:Int))),?_⟩
    rw [show 4*(t+1)=4*t+4 by omega,range_add]
  ·rintro ρ ⟨o,rfl⟩
   have hl:(rngD 0 ((List.range m).map λk=>D.tup ((List.range 4).map λj=>.int (A (4*k+j)))).length).length=m:=by rw [rngD_length];simp
   rw [hl]
   simp only [wRet,wBin,webD,r_comp,r_rng1,wCons,wCall,wC,wNil,r_var,look,oget_s,r_ixT,atI_1,List.getElem?_cons_succ,List.getElem?_cons_zero,r_lenT,r_rng1I,Int.reducePow,Int.reduceNeg,Int.toNat_natCast]
   refine ⟨by simp <;> omega,by simp <;> omega,compI_map (λd=>.tup [.int (-1),d]) (by rw [rngD_length];simp;exact big (by omega)) (λd hd Q' hQ=>?_) ?_⟩
   ·obtain ⟨j,hj,rfl⟩:=mem_rngD hd
    simp only [wLift,wTup,wCons,wUn,wC,blkE,List.map_nil,wNil,List.length_cons,List.length_nil,Nat.zero_add,Nat.reduceAdd,D.pure,pureL,Bool.and_true,r_var,look,oget_s,r_neg,Int.reduceNeg,true_and]
    exact ⟨by decide,hQ⟩
   ·have e1:(rngD 0 ((List.range e).map λj=>D.int (A (4*m+j))).length).map (λd=>D.tup [.int (-1),d])=(List.range e).map λj=>spD m (4*m+j):=by
     unfold rngD
     rw [List.map_map,List.length_map,List.length_range]
     apply List.map_congr_left
     intro j hj
     unfold spD
     rw [M.sp_out]
     simp
    simp only [Int.reduceNeg,r2_addL]
    rw [e1]
    refine ⟨pure_spL,pureL_map λ_ _=>rfl,by simp <;> exact Nat.le_of_lt (big (by omega)),?_⟩
    rw [← range_add]
    exact k
def g_law_arc:GA:=λds k=>∃(m e i:Nat) (A:Nat->Int) (r:Int),ds=[webD m e A r,spD m i]/\i<4*m+e/\k (.int (A i))
abbrev s__law_arc:Stmt:=top 23
theorem sc__law_arc:FnScope ["_law_web_here","_law_spot"] ["_law_web_here","_law_spot"] (defScope s__law_arc):=⟨rfl,rfl,rfl,by decide +kernel,rfl,by decide +kernel,by decide +kernel⟩
def t__law_arc:Tg:={ own:=λi=>false,io:=[] }
def w__law_arc:WS:=(wSeq (wIf (wBl (wBin (dCmp λi j=>decide (i<j)) (wBin dIx (wVar 1) (wC (.int 0))) (wC (.int 0)))) (wRet (wLift (wBin dIx (wBin dIx (wVar 0) (wC (.int 1))) (wBin dIx (wVar 1) (wC (.int 1)))))) wNext)
 (wRet (wLift (wBin dIx (wBin dIx (wBin dIx (wVar 0) (wC (.int 0))) (wBin dIx (wVar 1) (wC (.int 0)))) (wBin dIx (wVar 1) (wC (.int 1)))))))
theorem b__law_arc {P:Program} {w:World} {K:PySem.W.Frag} {mg:Str->Option Value} {base:Heap} {f:Addr} (B:Bn mg):∀(cdv:Value) (A:Around) (outer:List PySem.Env) (s:Shared) (H:Hp) (E:XK),Room 0 (A.deeper (envOfC "_law_arc" (defScope s__law_arc) s.heap.objs.size f cdv))->SVs (cxOf CX0 P w K mg base ["_law_web_here","_law_spot"] "_law_arc" (defScope s__law_arc) f cdv A outer s H E).nox t__law_arc (defBody s__law_arc) w__law_arc:=λcdv A outer s H E hr =>
  (svs_cons (sv_if (tv_cmp od_lt (ev_ix (xd_ix (hu_of hr)) (ev_var 1) ev_int) ev_int) (svs_one (sv_ret (ev_lift (ev_ix (xd_ix (hu_of hr)) (ev_ix (xd_ix (hu_of hr)) (ev_var 0) ev_int) (ev_ix (xd_ix (hu_of hr)) (ev_var 1) ev_int))))) svs_nil)
  (svs_one (sv_ret (ev_lift (ev_ix (xd_ix (hu_of hr)) (ev_ix (xd_ix (hu_of hr)) (ev_ix (xd_ix (hu_of hr)) (ev_var 0) ev_int) (ev_ix (xd_ix (hu_of hr)) (ev_var 1) ev_int)) (ev_ix (xd_ix (hu_of hr)) (ev_var 1) ev_int))))))
theorem ok__law_arc {P:Program} {w:World} {K:PySem.W.Frag} {mg:Str->Option Value} {base:Heap} {f:Addr} {fd:FuncData} (F:Fun K "_law_arc" "_law_arc" s__law_arc f fd) (B:Bn mg):FnOk P w K mg base CX0 1 f fd ["_law_web_here","_law_spot"] (spR K g_law_arc):=by
 refine fn_ro (T:=t__law_arc) F sc__law_arc rfl (by decide) (λds kk h=>?_) (b__law_arc B) (λds kk h=>?_)
 ·obtain ⟨m,e,i,A,r,rfl,_⟩:=h
  rfl
 ·obtain ⟨m,e,i,A,r,rfl,hi,k⟩:=h
  by_cases h4:i<4*m
  ·obtain ⟨q,j,rfl,hj⟩:∃q j,i=4*q+j/\j<4:=⟨i / 4,i % 4,by omega,by omega⟩
   have hq:q<m:=by omega
   simp only [w__law_arc,wSeq,wIf,env0,webD,spD,M.sp_in hq hj,List.map_cons,List.map_nil,List.length_cons,List.length_nil,Nat.zero_add,Nat.reduceAdd,List.cons_append,List.nil_append,wRet,wLift,wBin,wC,r_var,wNext,r_bl,look,oget_s,r_ixT,atI_1,List.getElem?_cons_succ,List.getElem?_cons_zero,atI_0,r_cmp,r_blOf]
   have:¬((q:Int)<0):=by omega
   simp only [this,decide_false,Bool.false_eq_true,atI_ofNat,List.getElem?_map,List.getElem?_range hq,Option.map_some,oget_s,r_ixT,List.getElem?_range hj,D.pure,true_and,reduceIte]
   exact k
  ·obtain ⟨j,rfl⟩:∃j,i=4*m+j:=⟨i-4*m,by omega⟩
   have hj:j<e:=by omega
   simp only [w__law_arc,wSeq,wIf,env0,webD,spD,M.sp_out,Int.reduceNeg,List.map_cons,List.map_nil,List.length_cons,List.length_nil,Nat.zero_add,Nat.reduceAdd,List.cons_append,List.nil_append,wRet,wLift,wBin,wC,r_var,wNext,r_bl,look,oget_s,r_ixT,atI_1,List.getElem?_cons_succ,List.getElem?_cons_zero,atI_0,r_cmp,Int.reduceLT,r_blOf]
   simp only [decide_true,atI_ofNat,List.getElem?_map,List.getElem?_range hj,Option.map_some,oget_s,D.pure,true_and,Int.reduceNeg,reduceIte]
   exact k
def KeysIn (m n:Nat) (T:List (List Key × D)):Prop:=∀kv∈T,∃i,i<n/\kv.1=ksP m i
theorem KeysIn.put {m n i:Nat} {T:List (List Key × D)} {v:D} (h:KeysIn m n T) (hi:i<n):KeysIn m n (putD T (ksP m i) v):=by
 intro kv hkv
 unfold putD at hkv
 split at hkv
 ·obtain ⟨kv',h1,rfl⟩:=List.mem_map.mp hkv
  split
  ·exact h kv' h1
  ·exact h kv' h1
 ·rcases List.mem_append.mp hkv with h1 | h1
  ·exact h kv h1
  ·rw [List.mem_singleton.mp h1];exact ⟨i,hi,rfl⟩
def g_law_ties:GA:=λds k=>∃(m e:Nat) (A:Nat->Int) (r:Int) (g:Nat->Nat),ds=[webD m e A r]/\m<=100/\e<=100/\M.Tw (4*m+e) A g/\∀T:List (List Key × D),T.length<=1000->(T.all λkv=>kv.2.pure)=true->(∀i,i<4*m+e->valD T (ksP m i)=some (spD m (g i)))->KeysIn m (4*m+e) T->k (.dit T)
abbrev s__law_ties:Stmt:=top 24
theorem sc__law_ties:FnScope ["_law_web_here","_law_first","_law_found","_law_spot","_law_arc_here"] ["_law_web_here"] (defScope s__law_ties):=⟨rfl,rfl,rfl,by decide +kernel,rfl,by decide +kernel,by decide +kernel⟩
def t__law_ties:Tg:={ own:=λi=>i == 1 || i == 2 || i == 3 || i == 4,io:=[] }
def w__law_ties:WS:=(wSeq (wSet 1 (wC (.dik [])))
 (wSeq (wSet 2 (wC (.dit [])))
 (wSeq (wFor (wSeqD (wCall g_law_spots (wCons (wVar 0) wNil))) (gN 3) (wSeq (wSet 4 (wCall g_law_arc (wCons (wVar 0) (wCons (wVar 3) wNil))))
 (wIf (wBl (wBin (dIn false) (wVar 4) (wVar 1))) (wSeq (wSetIx 2 (wBin dIx (wVar 1) (wVar 4)) (wVar 3))
 (wSetIx 2 (wVar 3) (wBin dIx (wVar 1) (wVar 4)))) (wSetIx 1 (wVar 3) (wVar 4)))))
 (wRetS 2))))
theorem b__law_ties {P:Program} {w:World} {K:PySem.W.Frag} {mg:Str->Option Value} {base:Heap} {f:Addr} (B:Bn mg) (C__law_spots:Cal P w K mg base "_law_spots" 1 ["_law_web_here"] (spR K g_law_spots)) (C__law_arc:Cal P w K mg base "_law_arc" 1 ["_law_web_here","_law_spot"] (spR K g_law_arc)):∀(cdv:Value) (A:Around) (outer:List PySem.Env) (s:Shared) (H:Hp) (E:XK),Room 1 (A.deeper (envOfC "_law_ties" (defScope s__law_ties) s.heap.objs.size f cdv))->SVs (cxOf CX0 P w K mg base ["_law_web_here","_law_first","_law_found","_law_spot","_law_arc_here"] "_law_ties" (defScope s__law_ties) f cdv A outer s H E).nox t__law_ties (defBody s__law_ties) w__law_ties:=λcdv A outer s H E hr =>
  (svs_cons (sv_set (i:=1) ev_dnewK sc__law_ties.nd)
  (svs_cons (sv_set (i:=2) ev_dnewT sc__law_ties.nd)
  (svs_cons (sv_for PassesOwn.never (iv_seq (ev_callC C__law_spots (hr.mono (by decide)) (av_cons (ev_var 0) av_nil))) (gv_name (i:=3) sc__law_ties.nd) (svs_cons (sv_set (i:=4) (ev_callC C__law_arc (hr.mono (by decide)) (av_cons (ev_var 0) (av_cons (ev_var 3) av_nil))) sc__law_ties.nd)
  (svs_one (sv_if (tv_cmp (od_in (hu_of hr)) (ev_var 4) (ev_var 1)) (svs_cons (sv_setIx (i:=2) (hu_of hr) (ev_ix (xd_ix (hu_of hr)) (ev_var 1) (ev_var 4)) (ev_var 3))
  (svs_one (sv_setIx (i:=2) (hu_of hr) (ev_var 3) (ev_ix (xd_ix (hu_of hr)) (ev_var 1) (ev_var 4))))) (svs_one (sv_setIx (i:=1) (hu_of hr) (ev_var 3) (ev_var 4)))))))
  (svs_one (sv_retS (i:=2))))))
theorem ok__law_ties {P:Program} {w:World} {K:PySem.W.Frag} {mg:Str->Option Value} {base:Heap} {f:Addr} {fd:FuncData} (F:Fun K "_law_ties" "_law_ties" s__law_ties f fd) (B:Bn mg) (C1:Cal P w K mg base "_law_spots" 1 ["_law_web_here"] (spR K g_law_spots)) (C2:Cal P w K mg base "_law_arc" 1 ["_law_web_here","_law_spot"] (spR K g_law_arc)):FnOk P w K mg base CX0 2 f fd ["_law_web_here"] (spR K g_law_ties):=by
 refine fn_ro (T:=t__law_ties) F sc__law_ties rfl (by decide) (λds kk h=>?_) (b__law_ties B C1 C2) (λds kk h=>?_)
 ·obtain ⟨m,e,A,r,g,rfl,_⟩:=h
  rfl
 ·obtain ⟨m,e,A,r,g,rfl,hm,he,tw,k⟩:=h
  simp only [w__law_ties,wSeq,wSet,wC,env0,List.map_cons,List.map_nil,List.length_cons,List.length_nil,Nat.zero_add,Nat.reduceAdd,List.replicate,List.cons_append,List.nil_append,List.set_cons_succ,List.set_cons_zero,r_for,r_seq,wCall,wCons,wNil,r_var,look,oget_s]
  refine ⟨m,e,A,r,rfl,hm,he,?_⟩
  simp only [r_seqL]
  refine ⟨pure_spL,λt ρ=>∃(U:List (Key × D)) (T:List (List Key × D)) (o3 o4:Option D),ρ=[some (webD m e A r),some (.dik U),some (.dit T),o3,o4]/\t<=4*m+e/\U.length<=t/\T.length<=2*t/\(T.all λkv=>kv.2.pure)=true /\
   (∀a,valD U (.inl a)=none\/∃i,i<t/\A i=a/\valD U (.inl a)=some (spD m i))/\(∀i,i<t->(valD U (.inl (A i))).isSome=true)/\(∀i,i<t->g i<t->valD T (ksP m i)=some (spD m (g i)))/\KeysIn m (4*m+e) T,⟨[],[],none,none,rfl,Nat.zero_le _,Nat.zero_le _,Nat.zero_le _,rfl,λa=>.inl rfl,λi h=>by omega,λi h=>by omega,λkv h=>nomatch h⟩,?_,?_⟩
  ·rintro t d ρ hd ⟨U,T,o3,o4,rfl,ht,hU,hT,hpu,u1,u2,u3,hki⟩
   have htl:t<4*m+e:=by have:=(List.getElem?_eq_some_iff.mp hd).1;simpa using this
   rw [List.getElem?_map,List.getElem?_range htl] at hd
   have hd:=(Option.some.inj hd).symm
   subst hd
   simp only [gN,wSeq,wSet,wCall,wCons,List.set_cons_succ,List.set_cons_zero,wNil,wIf,wSetIx,wBin,r_var,r_bl,look,Option.isSome_some,oget_s,true_and]
   refine ⟨m,e,t,A,r,rfl,htl,?_⟩
   simp only [spD,D.pure,pureL,Bool.and_self,r_ixDi,true_and,r_setDt,keysOf,Option.map_some,oget_s,r_setDi,r_inDi,r_blOf]
   rcases u1 (A t) with hv | ⟨i,hi,hA,hv⟩
   ·-- the arc comes for the first time
    simp only [hv,Option.isSome_none,Bool.xor_false,Bool.false_eq_true,reduceIte]
    refine ⟨big (by omega),_,T,_,_,rfl,htl,Nat.le_trans (length_putD _ _ _) (by omega),by omega,hpu,λa=>?_,λi hi=>?_,λi hi hg=>?_,hki⟩
    ·rw [valD_put]
     by_cases z:(.inl a:Key)=.inl (A t)
     ·rw [if_pos z]
      exact .inr ⟨t,by omega,by injection z with z;exact z.symm,rfl⟩
     ·rw [if_neg z]
      rcases u1 a with h | ⟨i,h1,h2,h3⟩
      ·exact .inl h
      ·exact .inr ⟨i,by omega,h2,h3⟩
    ·rw [valD_put]
     split
     ·rfl
     ·rename_i z
      have:i≠t:=λq=>z (by rw [q])
      exact u2 i (by omega)
    ·have ht0:∀j,j<t->A j≠A t:=λj hj q=>by
      have:=u2 j hj
      rw [q,hv] at this
      cases this
     by_cases hit:i=t
     ·subst hit
      exact absurd (tw.eq i htl) (ht0 (g i) (by have:=tw.ne i htl;omega))
     ·by_cases hgt:g i=t
      ·exact absurd (by rw [← hgt];exact (tw.eq i (by omega)).symm) (ht0 i (by omega))
      ·exact u3 i (by omega) (by omega)
   ·-- its second place
    have hgi:g i=t:=by
     rcases tw.only i t (by omega) htl hA.symm with z | z
     ·omega
     ·exact z.symm
    have hgt:g t=i:=by rw [← hgi];exact tw.inv (by omega)
    simp only [hv,spD,Option.isSome_some,Bool.xor_true,Bool.not_false,oget_s,r_setDt,keysOf,Option.map_some,D.pure,pureL,Bool.and_self,true_and,reduceIte]
    refine ⟨big (by omega),big (Nat.le_trans (length_putD _ _ _) (by omega)),U,_,_,_,rfl,htl,by omega,?_,all_put (all_put hpu rfl) rfl,λa=>?_,λj hj=>?_,λj hj hg=>?_,(hki.put htl).put (show i<4*m+e by omega)⟩
    ·have a1:=length_putD T (ksP m t) (spD m i)
     have a2:=length_putD (putD T (ksP m t) (spD m i)) (ksP m i) (spD m t)
     exact Nat.le_trans a2 (by omega)
    ·rcases u1 a with h | ⟨i,h1,h2,h3⟩
     ·exact .inl h
     ·exact .inr ⟨i,by omega,h2,h3⟩
    ·by_cases z:j=t
     ·rw [z,← hA,hA,hv];rfl
     ·exact u2 j (by omega)
    ·show valD (putD (putD T (ksP m t) (spD m i)) (ksP m i) (spD m t)) (ksP m j)=_
     rw [valD_put,valD_put]
     by_cases z1:ksP m j=ksP m i
     ·rw [if_pos z1,ksP_inj z1,hgi];rfl
     ·rw [if_neg z1]
      by_cases z2:ksP m j=ksP m t
      ·rw [if_pos z2,ksP_inj z2,hgt];rfl
      ·rw [if_neg z2]
       have hjt:j≠t:=λq=>z2 (by rw [q])
       have hji:j≠i:=λq=>z1 (by rw [q])
       have hgj:g j≠t:=λq=>hji (by rw [← tw.inv (show j<4*m+e by omega),q,hgt])
       exact u3 j (by omega) (by omega)
  ·rintro ρ ⟨U,T,o3,o4,rfl,ht,hU,hT,hpu,u1,u2,u3,hki⟩
   simp only [List.length_map,List.length_range] at u3
   simp only [wRetS,look,oget_s]
   rw [List.length_map,List.length_range] at hT
   exact k T (by omega) hpu (λi hi=>u3 i hi (tw.lt i hi)) hki
end K53
namespace K53
open PySem PySem.Spec L2 PV
open PyProof.Rows (envOfC)
def calF (a b:Int) (n:Int):Int:=if n=a then b else n
def dF (f:Int->Int):D->D
 | .int n=>.int (f n)
 | d=>d
def g_called:GA:=λds k=>∃(ns:List Int) (a b:Int),ds=[.tup (ns.map .int),.int a,.int b]/\ns.length<=100/\k (.tup (ns.map λn=>.int (calF a b n)))
abbrev s_called:Stmt:=top 7
theorem sc_called:FnScope ["arcs","gone","kept"] ["arcs","gone","kept"] (defScope s_called):=⟨rfl,rfl,rfl,by decide +kernel,rfl,by decide +kernel,by decide +kernel⟩
def t_called:Tg:={ own:=λi=>false,io:=[] }
def w_called:WS:=(wRet (wCall dTuple (wCons (wComp (wSeqD (wVar 0)) wAll (wLift (wIfE (wBl (wBin dEq (wVar 0) (wVar 1))) (wVar 2) (wVar 0))) [1,2]) wNil)))
theorem b_called {P:Program} {w:World} {K:PySem.W.Frag} {mg:Str->Option Value} {base:Heap} {f:Addr} (B:Bn mg):∀(cdv:Value) (A:Around) (outer:List PySem.Env) (s:Shared) (H:Hp) (E:XK),Room 0 (A.deeper (envOfC "called" (defScope s_called) s.heap.objs.size f cdv))->SVs (cxOf CX0 P w K mg base ["arcs","gone","kept"] "called" (defScope s_called) f cdv A outer s H E).nox t_called (defBody s_called) w_called:=λcdv A outer s H E hr =>
  (svs_one (sv_ret (ev_callTy cd_tuple B.nb_tuple bt_tuple (av_cons (ev_compB (comp_ok [1,2] (iv_seq (ev_var 0)) (λ_ _ _ _ _=>cv_nil) (λ_ _ _ _ _=>(ev_lift (ev_if (tv_cmp (od_eq hr.units) (ev_var 0) (ev_var 1)) (ev_var 2) (ev_var 0))))) (compB_mk (defScope s_called) ["arcs","gone","kept"] (by decide +kernel))) av_nil))))
theorem ok_called {P:Program} {w:World} {K:PySem.W.Frag} {mg:Str->Option Value} {base:Heap} {f:Addr} {fd:FuncData} (F:Fun K "called" "called" s_called f fd) (B:Bn mg):FnOk P w K mg base CX0 1 f fd ["arcs","gone","kept"] (spR K g_called):=by
 refine fn_ro (T:=t_called) F sc_called rfl (by decide) (λds kk h=>?_) (b_called B) (λds kk h=>?_)
 ·obtain ⟨ns,a,b,rfl,_⟩:=h
  rfl
 ·obtain ⟨ns,a,b,rfl,hl,k⟩:=h
  simp only [w_called,wRet,wCall,wCons,env0,List.map_cons,List.map_nil,List.length_cons,List.length_nil,Nat.zero_add,Nat.reduceAdd,List.cons_append,List.nil_append,wNil,r_comp,r_seq,r_var,look,oget_s,r_seqT,pure_ints,true_and]
  refine compI_map (dF (calF a b)) (by rw [List.length_map];exact big (by omega)) (λd hd Q' hQ=>?_) ?_
  ·obtain ⟨n,hn,rfl⟩:=List.mem_map.mp hd
   simp only [wLift,wIfE,blkE,List.map_cons,look,List.map_nil,r_var,r_bl,wBin,oget_s,D.pure,true_and,r_eqI,r_blOf]
   have hQ:Q' (.int (if n=a then b else n)) (blkE (some (D.tup (List.map D.int ns))::some (D.int a)::some (D.int b)::List.replicate (3-3) none) (D.int n) [1,2]):=hQ
   split
   ·rename_i h
    rw [if_pos (of_decide_eq_true h)] at hQ
    exact hQ
   ·rename_i h
    rw [if_neg (λz=>h (decide_eq_true z))] at hQ
    exact hQ
  ·simp only [r_tupL]
   rw [List.map_map]
   exact ⟨pureL_map λ_ _=>rfl,k⟩
def aft (e p:Nat):Nat:=(p+1) % e
def shA (m e p:Nat) (A:Nat->Int) (i:Nat):Int:=M.cal A (4*m+p) (4*m+aft e p) (M.old m e p (aft e p) i)
def shR (m e p:Nat) (A:Nat->Int) (r:Int):Int:=if A (4*m+p)=A (4*m+aft e p) then r+1 else r
theorem aft_lt {e p:Nat} (h:0<e):aft e p<e:=Nat.mod_lt _ h
theorem aft_ne {e p:Nat} (h:2<=e) (hp:p<e):p≠aft e p:=by
 unfold aft
 by_cases hq:p+1=e
 ·rw [hq,Nat.mod_self];omega
 ·rw [Nat.mod_eq_of_lt (by omega)];omega
theorem list_range {f:Nat->D} {l:List Nat}:l.map f=(List.range l.length).map λj=>f (l.getD j 0):=by
 apply List.ext_getElem
 ·simp
 ·intro i h1 h2
  simp only [List.getElem_map,List.getElem_range]
  rw [List.getD_eq_getElem?_getD,List.getElem?_eq_getElem (by simpa using h1)]
  rfl
def g_shut_as_named:GA:=λds k=>∃(m e:Nat) (A:Nat->Int) (r:Int) (p:Nat),ds=[webD m e A r,.int p]/\p<e/\2<=e/\m<=50/\e<=50/\k (webD m (M.rest e p (aft e p)).length (shA m e p A) (shR m e p A r))
theorem in_two {j p q:Int}:inD (.int j) [.int p,.int q]=some (decide (j=p) || decide (j=q)):=by
 simp only [inD,Option.map_some,Bool.or_false]
 have h:∀a b:Int,(a == b)=decide (b=a):=λa b=>by
  by_cases h:b=a
  ·rw [decide_eq_true h,h];exact beq_self_eq_true a
  ·rw [decide_eq_false h];exact beq_eq_false_iff_ne.mpr λz=>h z.symm
 rw [h,h]
theorem web_shut {m e p:Nat} {A:Nat->Int} {r:Int} (hne:A (4*m+p)≠A (4*m+aft e p)):D.tup [.tup ((List.range m).map λk=>.tup ((List.range 4).map λj=>.int (calF (A (4*m+p)) (A (4*m+aft e p)) (A (4*k+j))))),
  .tup ((M.rest e p (aft e p)).map λj=>.int (calF (A (4*m+p)) (A (4*m+aft e p)) (A (4*m+j)))),.int r]=webD m (M.rest e p (aft e p)).length (shA m e p A) (shR m e p A r):=by
 unfold webD shR
 rw [if_neg hne,list_range (l:=M.rest e p (aft e p))]
 have e1:(List.range m).map (λk=>D.tup ((List.range 4).map λj=>.int (calF (A (4*m+p)) (A (4*m+aft e p)) (A (4*k+j)))))=(List.range m).map λk=>D.tup ((List.range 4).map λj=>.int (shA m e p A (4*k+j))):=by
  refine List.map_congr_left λk hk=>?_
  congr 1
  refine List.map_congr_left λj hj=>?_
  have hk:=List.mem_range.mp hk
  have hj:=List.mem_range.mp hj
  unfold shA
  rw [M.old_in (by omega)]
  rfl
 have e2:(List.range (M.rest e p (aft e p)).length).map (λj=>D.int (calF (A (4*m+p)) (A (4*m+aft e p)) (A (4*m+(M.rest e p (aft e p)).getD j 0))))=(List.range (M.rest e p (aft e p)).length).map λj=>D.int (shA m e p A (4*m+j)):=by
  refine List.map_congr_left λj hj=>?_
  unfold shA
  rw [M.old_out]
  rfl
 rw [e1,e2]
theorem web_same {m e p:Nat} {A:Nat->Int} {r:Int} (he:A (4*m+p)=A (4*m+aft e p)):D.tup [.tup ((List.range m).map λk=>.tup ((List.range 4).map λj=>.int (A (4*k+j)))),
  .tup ((M.rest e p (aft e p)).map λj=>.int (A (4*m+j))),.int (r+1)]=webD m (M.rest e p (aft e p)).length (shA m e p A) (shR m e p A r):=by
 have hc:∀x,M.cal A (4*m+p) (4*m+aft e p) x=A x:=λx=>by
  unfold M.cal
  split
  ·rename_i h;rw [h,← he]
  ·rfl
 unfold webD shR
 rw [if_pos he,list_range (l:=M.rest e p (aft e p))]
 have e1:(List.range m).map (λk=>D.tup ((List.range 4).map λj=>.int (A (4*k+j))))=(List.range m).map λk=>D.tup ((List.range 4).map λj=>.int (shA m e p A (4*k+j))):=by
  refine List.map_congr_left λk hk=>?_
  congr 1
  refine List.map_congr_left λj hj=>?_
  have hk:=List.mem_range.mp hk
  have hj:=List.mem_range.mp hj
  unfold shA
  rw [M.old_in (by omega),hc]
 have e2:(List.range (M.rest e p (aft e p)).length).map (λj=>D.int (A (4*m+(M.rest e p (aft e p)).getD j 0)))=(List.range (M.rest e p (aft e p)).length).map λj=>D.int (shA m e p A (4*m+j)):=by
  refine List.map_congr_left λj hj=>?_
  unfold shA
  rw [M.old_out,hc]
 rw [e1,e2]
abbrev s_shut_as_named:Stmt:=top 8
theorem sc_shut_as_named:FnScope ["web","place","after","gone","kept","ends","crossings"] ["web","place"] (defScope s_shut_as_named):=⟨rfl,rfl,rfl,by decide +kernel,rfl,by decide +kernel,by decide +kernel⟩
def t_shut_as_named:Tg:={ own:=λi=>i == 2 || i == 3 || i == 4 || i == 5 || i == 6,io:=[] }
def w_shut_as_named:WS:=(wSeq (wSet 2 (wBin dMod (wBin dAddT (wVar 1) (wC (.int 1))) (wCall dLen (wCons (wBin dIx (wVar 0) (wC (.int 1))) wNil))))
 (wSeq (wSet 3 (wLift (wBin dIx (wBin dIx (wVar 0) (wC (.int 1))) (wVar 1))))
 (wSeq (wSet 4 (wLift (wBin dIx (wBin dIx (wVar 0) (wC (.int 1))) (wVar 2))))
 (wSeq (wSet 5 (wCall dTuple (wCons (wComp2 (wEnum (wCons (wBin dIx (wVar 0) (wC (.int 1))) wNil)) (wBl (wBin (dIn true) (wVar 0) (wTup (wCons (wVar 3) (wCons (wVar 2) wNil))))) (wLift (wVar 1)) [2,1]) wNil)))
 (wSeq (wIf (wBl (wBin dEq (wVar 3) (wVar 4))) (wRet (wLift (wTup (wCons (wBin dIx (wVar 0) (wC (.int 0))) (wCons (wVar 5) (wCons (wBin dAddT (wBin dIx (wVar 0) (wC (.int 2))) (wC (.int 1))) wNil)))))) wNext)
 (wSeq (wSet 6 (wCall dTuple (wCons (wComp (wSeqD (wBin dIx (wVar 0) (wC (.int 0)))) wAll (wCall g_called (wCons (wVar 0) (wCons (wVar 1) (wCons (wVar 2) wNil)))) [3,4]) wNil)))
 (wRet (wLift (wTup (wCons (wVar 6) (wCons (wCall g_called (wCons (wVar 5) (wCons (wVar 3) (wCons (wVar 4) wNil)))) (wCons (wBin dIx (wVar 0) (wC (.int 2))) wNil))))))))))))
theorem b_shut_as_named {P:Program} {w:World} {K:PySem.W.Frag} {mg:Str->Option Value} {base:Heap} {f:Addr} (B:Bn mg) (C_called:Cal P w K mg base "called" 1 ["arcs","gone","kept"] (spR K g_called)):∀(cdv:Value) (A:Around) (outer:List PySem.Env) (s:Shared) (H:Hp) (E:XK),Room 1 (A.deeper (envOfC "shut_as_named" (defScope s_shut_as_named) s.heap.objs.size f cdv))->SVs (cxOf CX0 P w K mg base ["web","place","after","gone","kept","ends","crossings"] "shut_as_named" (defScope s_shut_as_named) f cdv A outer s H E).nox t_shut_as_named (defBody s_shut_as_named) w_shut_as_named:=λcdv A outer s H E hr =>
  (svs_cons (sv_set (i:=2) (ev_op od_mod (ev_op od_addT (ev_var 1) ev_int) (ev_callB cd_len B.nb_len bt_len (av_cons (ev_ix (xd_ix (hu_of hr)) (ev_var 0) ev_int) av_nil))) sc_shut_as_named.nd)
  (svs_cons (sv_set (i:=3) (ev_lift (ev_ix (xd_ix (hu_of hr)) (ev_ix (xd_ix (hu_of hr)) (ev_var 0) ev_int) (ev_var 1))) sc_shut_as_named.nd)
  (svs_cons (sv_set (i:=4) (ev_lift (ev_ix (xd_ix (hu_of hr)) (ev_ix (xd_ix (hu_of hr)) (ev_var 0) ev_int) (ev_var 2))) sc_shut_as_named.nd)
  (svs_cons (sv_set (i:=5) (ev_callTy cd_tuple B.nb_tuple bt_tuple (av_cons (ev_comp2 (comp_ok2 [2,1] (iv_enum B.nb_enumerate (av_cons (ev_ix (xd_ix (hu_of hr)) (ev_var 0) ev_int) av_nil)) (λ_ _ _ _ _=>cv_one (tv_cmp (od_nin (hu_of hr)) (ev_var 0) (ev_tup (av_cons (ev_var 3) (av_cons (ev_var 2) av_nil))))) (λ_ _ _ _ _=>(ev_lift (ev_var 1)))) (compB2_mk (defScope s_shut_as_named) ["web","place","after","gone","kept","ends","crossings"] (by decide +kernel))) av_nil)) sc_shut_as_named.nd)
  (svs_cons (sv_if (tv_cmp (od_eq hr.units) (ev_var 3) (ev_var 4)) (svs_one (sv_ret (ev_lift (ev_tup (av_cons (ev_ix (xd_ix (hu_of hr)) (ev_var 0) ev_int) (av_cons (ev_var 5) (av_cons (ev_op od_addT (ev_ix (xd_ix (hu_of hr)) (ev_var 0) ev_int) ev_int) av_nil))))))) svs_nil)
  (svs_cons (sv_set (i:=6) (ev_callTy cd_tuple B.nb_tuple bt_tuple (av_cons (ev_compB (comp_ok [3,4] (iv_seq (ev_ix (xd_ix (hu_of hr)) (ev_var 0) ev_int)) (λ_ _ _ _ _=>cv_nil) (λ_ _ _ _ _=>(ev_callC C_called (hr.mono (by decide)) (av_cons (ev_var 0) (av_cons (ev_var 1) (av_cons (ev_var 2) av_nil)))))) (compB_mk (defScope s_shut_as_named) ["web","place","after","gone","kept","ends","crossings"] (by decide +kernel))) av_nil)) sc_shut_as_named.nd)
  (svs_one (sv_ret (ev_lift (ev_tup (av_cons (ev_var 6) (av_cons (ev_callC C_called (hr.mono (by decide)) (av_cons (ev_var 5) (av_cons (ev_var 3) (av_cons (ev_var 4) av_nil)))) (av_cons (ev_ix (xd_ix (hu_of hr)) (ev_var 0) ev_int) av_nil)))))))))))))
theorem ok_shut_as_named {P:Program} {w:World} {K:PySem.W.Frag} {mg:Str->Option Value} {base:Heap} {f:Addr} {fd:FuncData} (F:Fun K "shut_as_named" "shut_as_named" s_shut_as_named f fd) (B:Bn mg) (C1:Cal P w K mg base "called" 1 ["arcs","gone","kept"] (spR K g_called)):FnOk P w K mg base CX0 2 f fd ["web","place"] (spR K g_shut_as_named):=by
 refine fn_ro (T:=t_shut_as_named) F sc_shut_as_named rfl (by decide) (λds kk h=>?_) (b_shut_as_named B C1) (λds kk h=>?_)
 ·obtain ⟨m,e,A,r,p,rfl,_⟩:=h
  rfl
 ·obtain ⟨m,e,A,r,p,rfl,hp,he,hm,he2,k⟩:=h
  have hq:=aft_lt (p:=p) (show 0<e by omega)
  have hpe:((p:Int)+1) % (e:Int)=((aft e p:Nat):Int):=by unfold aft;rw [Int.natCast_emod];rfl
  have he0:(0:Int)<(e:Int):=by omega
  have hpe2:pureL ((List.range e).map λj=>D.int (A (4*m+j)))=true:=pureL_map λ_ _=>rfl
  simp only [w_shut_as_named,wSeq,wSet,wBin,env0,webD,List.map_cons,List.map_nil,List.length_cons,List.length_nil,Nat.zero_add,Nat.reduceAdd,List.replicate,List.cons_append,List.nil_append,wC,wCall,wCons,wNil,wLift,wComp2,wIf,wRet,wTup,sz3,D.pure,pureL,Bool.and_true,true_and,r_var,wNext,r_comp,r_seq,r_bl,r_enum,look,List.set_cons_succ,List.set_cons_zero,oget_s,r_ixT,atI_1,List.getElem?_cons_succ,List.getElem?_cons_zero,r_enumT,atI_ofNat,List.getElem?_map,List.getElem?_range hp,Option.map_some,r_lenT,List.length_map,List.length_range,r2_add,he0,r_modP,hpe,List.getElem?_range hq]
  refine ⟨hpe2,λi ys=>i<=e/\ys=((List.range i).filter λj=>decide (j≠p/\j≠aft e p)).map (λj=>D.int (A (4*m+j))),⟨Nat.zero_le _,rfl⟩,?_,?_⟩
  ·rintro i d ys hd ⟨_,rfl⟩
   rw [enumD_get] at hd
   have hi:i<e:=by
    cases q:((List.range e).map λj=>D.int (A (4*m+j)))[i]? with
    | none=>rw [q] at hd;cases hd
    | some z=>simpa using (List.getElem?_eq_some_iff.mp q).1
   rw [List.getElem?_map,List.getElem?_range hi] at hd
   have hd:=(Option.some.inj hd).symm
   subst hd
   have hlen:((List.range i).filter λj=>decide (j≠p/\j≠aft e p)).length<=i:=by
    refine Nat.le_trans (List.length_filter_le _ _) ?_
    rw [List.length_range];exact Nat.le_refl _
   refine ⟨by rw [List.length_map];exact big (by omega),?_⟩
   simp only [Nat.zero_add,blkE2,List.map_cons,look,List.map_nil,wLift,r_var,oget_s,r_bl,wBin,wTup,wCons,wNil,List.length_cons,List.length_nil,Nat.reduceAdd,sz2,true_and,r4_two,D.pure,r8_inT,in_two,r_blOf]
   rw [List.range_succ,List.filter_append,List.map_append]
   have c1:((i:Int)=(p:Int))=(i=p):=propext ⟨λh=>by omega,λh=>by omega⟩
   have c2:((i:Int)=((aft e p:Nat):Int))=(i=aft e p):=propext ⟨λh=>by omega,λh=>by omega⟩
   simp only [c1,c2]
   by_cases h:i≠p/\i≠aft e p
   ·simp only [h.1,decide_false,h.2,Bool.or_self,Bool.xor_false,reduceIte]
    refine ⟨by omega,?_⟩
    simp [h.1,h.2]
   ·have hx:(decide (i=p) || decide (i=aft e p))=true:=by
     by_cases h1:i=p
     ·simp [h1]
     ·have h2:i=aft e p:=Classical.byContradiction λz=>h ⟨h1,z⟩
      simp [h2]
    simp only [hx,Bool.xor_true,Bool.not_true,Bool.false_eq_true,reduceIte]
    refine ⟨by omega,?_⟩
    rw [List.filter_cons_of_neg (by simpa using h)]
    simp
  ·rintro ys ⟨_,rfl⟩
   have hlen:(enumD 0 ((List.range e).map λj=>D.int (A (4*m+j)))).length=e:=by rw [enumD_length];simp
   rw [hlen]
   have hrl:=M.rest_len hp hq (aft_ne he hp)
   have er:((List.range e).filter λj=>decide (j≠p/\j≠aft e p))=M.rest e p (aft e p):=rfl
   rw [er]
   have pr:pureL ((M.rest e p (aft e p)).map λj=>D.int (A (4*m+j)))=true:=pureL_map λ_ _=>rfl
   have pc:pureL ((List.range m).map λk=>D.tup ((List.range 4).map λj=>.int (A (4*k+j))))=true:=pureL_map λ_ _=>by simp only [D.pure];exact pureL_map λ_ _=>rfl
   simp only [List.set_cons_succ,List.set_cons_zero,look,oget_s,r_ixT,atI_2,List.getElem?_cons_succ,List.getElem?_cons_zero,r2_add,D.pure,Bool.and_true,atI_0,pc,Bool.true_and,r_seqT,true_and,r_eqI,r_blOf,r_tupL,pr]
   refine ⟨by rw [List.length_map];exact Nat.le_of_lt (big (by omega)),?_⟩
   split
   ·rename_i h
    rw [web_same (of_decide_eq_true h)]
    exact k
   ·rename_i h
    have h:A (4*m+p)≠A (4*m+aft e p):=λz=>h (decide_eq_true z)
    refine compI_map (nmF (calF (A (4*m+p)) (A (4*m+aft e p)))) (by rw [List.length_map,List.length_range];exact big (by omega)) (λd hd Q' hQ=>?_) ?_
    ·obtain ⟨kk,hk,rfl⟩:=List.mem_map.mp hd
     simp only [wCall,wCons,blkE,List.map_cons,look,List.map_nil,wNil,r_var,oget_s]
     refine ⟨(List.range 4).map λj=>A (4*kk+j),_,_,by rw [List.map_map];rfl,by simp,?_⟩
     rw [List.map_map]
     exact hQ
    ·have e1:((List.range m).map λk=>D.tup ((List.range 4).map λj=>.int (A (4*k+j)))).map (nmF (calF (A (4*m+p)) (A (4*m+aft e p))))=(List.range m).map λk=>D.tup ((List.range 4).map λj=>.int (calF (A (4*m+p)) (A (4*m+aft e p)) (A (4*k+j)))):=by
      rw [List.map_map];rfl
     rw [e1]
     have pc2:pureL ((List.range m).map λk=>D.tup ((List.range 4).map λj=>.int (calF (A (4*m+p)) (A (4*m+aft e p)) (A (4*k+j)))))=true:=pureL_map λ_ _=>by simp only [D.pure];exact pureL_map λ_ _=>rfl
     have pr2:pureL ((M.rest e p (aft e p)).map λj=>D.int (calF (A (4*m+p)) (A (4*m+aft e p)) (A (4*m+j))))=true:=pureL_map λ_ _=>rfl
     simp only [List.set_cons_succ,List.set_cons_zero,look,oget_s,r_ixT,atI_2,List.getElem?_cons_succ,List.getElem?_cons_zero,D.pure,Bool.and_true,r_tupL,pc2,Bool.true_and,true_and]
     refine ⟨(M.rest e p (aft e p)).map λj=>A (4*m+j),_,_,by rw [List.map_map];rfl,by rw [List.length_map];omega,?_⟩
     rw [List.map_map]
     have e2:(M.rest e p (aft e p)).map ((λn=>D.int (calF (A (4*m+p)) (A (4*m+aft e p)) n)) ∘ λj=>A (4*m+j))=(M.rest e p (aft e p)).map λj=>D.int (calF (A (4*m+p)) (A (4*m+aft e p)) (A (4*m+j))):=rfl
     rw [e2]
     simp only [D.pure,pr2,web_shut h,true_and]
     exact k
end K53
namespace K53
open PySem PySem.Spec L2 PV
open PyProof.Rows (envOfC)
def sd (q:Int × Int):D:=.tup [.int q.1,.int q.2]
def sk (q:Int × Int):List Key:=[.inl q.1,.inl q.2]
theorem sk_inj {q r:Int × Int} (h:sk q=sk r):q=r:=by
 unfold sk at h
 injection h with h1 h2
 injection h2 with h2 _
 exact Prod.ext (Sum.inl.inj h1) (Sum.inl.inj h2)
theorem sd_inj {q r:Int × Int} (h:sd q=sd r):q=r:=by
 unfold sd at h
 injection h with h
 injection h with h1 h2
 injection h2 with h2 _
 injection h1 with h1
 injection h2 with h2
 exact Prod.ext h1 h2
def pur (T:List (List Key × D)):Prop:=(T.all λkv=>kv.2.pure)=true
theorem big2 {n:Nat} (h:n<=5000):n<sizeLine:=Nat.lt_of_le_of_lt h (by decide)
def g_law_joined:GI:=λds k=>∃(T:List (List Key × D)) (a b h t:Int × Int),ds=[.dit T,sd a,sd b]/\T.length<=4000/\pur T/\a≠b/\valD T (sk a)=some (sd h)/\valD T (sk b)=some (sd t) /\
 (h=b->∀U,U.length<=T.length+2->pur U->(∀x,x≠sk a->x≠sk b->valD U x=valD T x)->k (.int 1) (.dit U)) /\
 (h≠b->∀U,U.length<=T.length+2->pur U->(∀x,x≠sk a->x≠sk b->valD U x=if x=sk t then some (sd h) else if x=sk h then some (sd t) else valD T x)->k (.int 0) (.dit U))
abbrev s__law_joined:Stmt:=top 25
theorem sc__law_joined:FnScope ["_law_ties_here","_law_one","_law_other","_law_here","_law_there"] ["_law_ties_here","_law_one","_law_other"] (defScope s__law_joined):=⟨rfl,rfl,rfl,by decide +kernel,rfl,by decide +kernel,by decide +kernel⟩
def t__law_joined:Tg:={ own:=λi=>i == 0 || i == 3 || i == 4,io:=[0] }
def w__law_joined:WS:=(wSeq (wSet 3 (wMt 0 "dict" gPopT (wCons (wLift (wVar 1)) wNil)))
 (wSeq (wSet 4 (wMt 0 "dict" gPopT (wCons (wLift (wVar 2)) wNil)))
 (wSeq (wIf (wBl (wBin dEq (wVar 3) (wVar 2))) (wRet (wC (.int 1))) wNext)
 (wSeq (wSetIx 0 (wVar 4) (wVar 3))
 (wSeq (wSetIx 0 (wVar 3) (wVar 4))
 (wRet (wC (.int 0))))))))
theorem b__law_joined {P:Program} {w:World} {K:PySem.W.Frag} {mg:Str->Option Value} {base:Heap} {f:Addr} (B:Bn mg):∀(cdv:Value) (A:Around) (outer:List PySem.Env) (s:Shared) (H:Hp) (E:XK),Room 0 (A.deeper (envOfC "_law_joined" (defScope s__law_joined) s.heap.objs.size f cdv))->SVs (cxOf CX0 P w K mg base ["_law_ties_here","_law_one","_law_other","_law_here","_law_there"] "_law_joined" (defScope s__law_joined) f cdv A outer s H E).nox t__law_joined (defBody s__law_joined) w__law_joined:=λcdv A outer s H E hr =>
  (svs_cons (sv_set (i:=3) (ev_mt (i:=0) (md_popT (hu_of hr)) PySem.F.plainAttrs_dict PySem.F.slot_dict_pop PySem.F.type_dict_pop (av_cons (ev_lift (ev_var 1)) av_nil)) sc__law_joined.nd)
  (svs_cons (sv_set (i:=4) (ev_mt (i:=0) (md_popT (hu_of hr)) PySem.F.plainAttrs_dict PySem.F.slot_dict_pop PySem.F.type_dict_pop (av_cons (ev_lift (ev_var 2)) av_nil)) sc__law_joined.nd)
  (svs_cons (sv_if (tv_cmp (od_eq hr.units) (ev_var 3) (ev_var 2)) (svs_one (sv_ret ev_int)) svs_nil)
  (svs_cons (sv_setIx (i:=0) (hu_of hr) (ev_var 4) (ev_var 3))
  (svs_cons (sv_setIx (i:=0) (hu_of hr) (ev_var 3) (ev_var 4))
  (svs_one (sv_ret ev_int)))))))
theorem ok__law_joined {P:Program} {w:World} {K:PySem.W.Frag} {mg:Str->Option Value} {base:Heap} {f:Addr} {fd:FuncData} (F:Fun K "_law_joined" "_law_joined" s__law_joined f fd) (B:Bn mg):FnOk P w K mg base CX0 1 f fd ["_law_ties_here","_law_one","_law_other"] (spI K 0 g_law_joined):=by
 refine fn_io (T:=t__law_joined) F sc__law_joined rfl rfl (λds kk h=>?_) (b__law_joined B) (λds kk h=>?_)
 ·obtain ⟨T,a,b,h,t,rfl,_,hp,_⟩:=h
  exact ⟨rfl,_,rfl,hp⟩
 ·obtain ⟨T,a,b,h,t,rfl,hl,hp,hab,h1,h2,k1,k2⟩:=h
  have hb:valD (dropD T (sk a)) (sk b)=some (sd t):=by rw [val_drop,if_neg (λz=>hab (sk_inj z).symm)];exact h2
  have l1:(dropD (dropD T (sk a)) (sk b)).length<=T.length:=Nat.le_trans len_drop len_drop
  have p1:pur (dropD (dropD T (sk a)) (sk b)):=all_drop (all_drop hp)
  have v1:∀x,x≠sk a->x≠sk b->valD (dropD (dropD T (sk a)) (sk b)) x=valD T x:=λx x1 x2=>by
   rw [val_drop,if_neg x2,val_drop,if_neg x1]
  have hsd:∀q:Int × Int,(sd q).pure=true:=λ_=>rfl
  simp only [w__law_joined,wSeq,wSet,wMt,env0,sd,List.map_cons,List.map_nil,List.length_cons,List.length_nil,Nat.zero_add,Nat.reduceAdd,List.replicate,List.cons_append,List.nil_append,look,r_tyT,BEq.rfl,wCons,wLift,wNil,wIf,wRet,wC,wNext,wSetIx,r_var,r_bl,wBin,List.set_cons_zero,List.set_cons_succ,oget_s,Option.isSome_some,true_and,D.pure,pureL,Bool.and_self,r8_popT,keysOf,Option.map_some,r_flT]
  have ka:([Sum.inl a.1,Sum.inl a.2]:List Key)=sk a:=rfl
  have kb:([Sum.inl b.1,Sum.inl b.2]:List Key)=sk b:=rfl
  rw [ka,kb,h1]
  refine ⟨rfl,?_⟩
  rw [hb]
  refine ⟨rfl,?_⟩
  simp only [sd,D.pure,pureL,Bool.and_self,true_and,r_setDt,keysOf,Option.map_some,r_flT,oget_s,r_eqT,r_blOf,reduceIte,Bool.false_eq_true]
  refine ⟨rfl,rfl,λhq=>?_,λhq=>?_⟩
  ·exact ⟨p1,k1 (sd_inj hq) _ (by omega) p1 v1⟩
  ·have hne:h≠b:=λz=>hq (by rw [z])
   have kh:([Sum.inl h.1,Sum.inl h.2]:List Key)=sk h:=rfl
   have kt:([Sum.inl t.1,Sum.inl t.2]:List Key)=sk t:=rfl
   rw [kh,kt,show D.tup [.int h.1,.int h.2]=sd h from rfl,show D.tup [.int t.1,.int t.2]=sd t from rfl]
   have a0:=length_putD (dropD (dropD T (sk a)) (sk b)) (sk h) (sd t)
   refine ⟨big2 (by omega),big2 (by omega),?_⟩
   have p2:pur (putD (putD (dropD (dropD T (sk a)) (sk b)) (sk h) (sd t)) (sk t) (sd h)):=all_put (all_put p1 rfl) rfl
   refine ⟨p2,k2 hne _ ?_ p2 λx x1 x2=>?_⟩
   ·have a1:=length_putD (dropD (dropD T (sk a)) (sk b)) (sk h) (sd t)
    have a2:=length_putD (putD (dropD (dropD T (sk a)) (sk b)) (sk h) (sd t)) (sk t) (sd h)
    omega
   ·rw [valD_put,valD_put,v1 x x1 x2]
theorem joined_of {T:List (List Key × D)} {a b h t:Int × Int} {k:D->D->Prop} (h1:T.length<=4000) (h2:pur T) (h3:a≠b) (h4:valD T (sk a)=some (sd h)) (h5:valD T (sk b)=some (sd t))
  (kk:∀(ring:Int) (U:List (List Key × D)),U.length<=T.length+2->pur U->(h=b/\ring=1/\(∀x,x≠sk a->x≠sk b->valD U x=valD T x))\/(h≠b/\ring=0/\∀x,x≠sk a->x≠sk b->valD U x=if x=sk t then some (sd h) else if x=sk h then some (sd t) else valD T x)->k (.int ring) (.dit U)):g_law_joined [.dit T,sd a,sd b] k :=
 ⟨T,a,b,h,t,rfl,h1,h2,h3,h4,h5,λz U u1 u2 u3=>kk 1 U (by omega) u2 (.inl ⟨z,rfl,u3⟩),λz U u1 u2 u3=>kk 0 U u1 u2 (.inr ⟨z,rfl,u3⟩)⟩
theorem range_addD {f:Nat->D} {a b:Nat}:(List.range (a+b)).map f=(List.range a).map f++(List.range b).map λj=>f (a+j):=by
 rw [List.range_add,List.map_append,List.map_map];rfl
def cr4 (A:Nat->Int) (k:Nat):D->D
 | .int l=>.int (A (4*k+l.toNat))
 | d=>d
def crW (A:Nat->Int):D->D
 | .int k=>crD A k.toNat
 | d=>d
noncomputable def ixW (s:Nat->Int × Int) (a e:Nat) (d:D):Nat:=by
 classical
 exact if h:∃j,j<e/\d=sd (s (a+j)) then a+Classical.choose h else 0
theorem ixW_at {s:Nat->Int × Int} {a e j:Nat} (hinj:∀i j,i<a+e->j<a+e->s i=s j->i=j) (hj:j<e):ixW s a e (sd (s (a+j)))=a+j:=by
 unfold ixW
 have h:∃i,i<e/\sd (s (a+j))=sd (s (a+i)):=⟨j,hj,rfl⟩
 rw [dif_pos h]
 obtain ⟨h1,h2⟩:=Classical.choose_spec h
 exact (hinj _ _ (by omega) (by omega) (sd_inj h2)).symm
def g_law_built:GA:=λds k=>∃(m e:Nat) (s:Nat->Int × Int) (B:Nat->Int) (h:Nat->Nat) (r:Int) (T:List (List Key × D)),ds=[.int m,.lst ((List.range e).map λj=>sd (s (4*m+j))),.int r,.dit T]/\m<=20/\e<=20 /\
 (∀i,i<4*m->s i=M.sp m i)/\(∀i j,i<4*m+e->j<4*m+e->s i=s j->i=j)/\M.Tw (4*m+e) B h/\(∀i,i<4*m+e->valD T (sk (s i))=some (sd (s (h i))))/\k (webD m e (M.anw B (4*m+e)) r)
abbrev s__law_built:Stmt:=top 26
theorem sc__law_built:FnScope ["_law_many","_law_rim","_law_rings","_law_ties_here","_law_spots_here","_law_k","_law_names","_law_spot","_law_number","_law_crossings"] ["_law_many","_law_rim","_law_rings","_law_ties_here"] (defScope s__law_built):=⟨rfl,rfl,rfl,by decide +kernel,rfl,by decide +kernel,by decide +kernel⟩
def t__law_built:Tg:={ own:=λi=>i == 4 || i == 5 || i == 6 || i == 7 || i == 8 || i == 9,io:=[] }
def w__law_built:WS:=(wSeq (wSet 4 (wLst wNil))
 (wSeq (wFor (wRng1 (wCons (wVar 0) wNil)) (gN 5) (wSet 4 (wBin dAddT (wVar 4) (wComp (wRng1 (wCons (wC (.int 4)) wNil)) wAll (wLift (wTup (wCons (wVar 1) (wCons (wVar 0) wNil)))) [5]))))
 (wSeq (wSet 6 (wC (.dit [])))
 (wSeq (wFor (wSeqD (wBin dAddT (wVar 4) (wVar 1))) (gN 7) (wIf (wBl (wBin (dIn true) (wVar 7) (wVar 6))) (wSeq (wSet 8 (wBin dDiv (wCall dLenT (wCons (wVar 6) wNil)) (wC (.int 2))))
 (wSeq (wSetIx 6 (wVar 8) (wVar 7))
 (wSetIx 6 (wVar 8) (wBin dIx (wVar 3) (wVar 7))))) wNext))
 (wSeq (wSet 9 (wComp (wRng1 (wCons (wVar 0) wNil)) wAll (wCall dTuple (wCons (wComp (wRng1 (wCons (wC (.int 4)) wNil)) wAll (wLift (wBin dIx (wVar 2) (wTup (wCons (wVar 1) (wCons (wVar 0) wNil))))) [0,1]) wNil)) [6]))
 (wRet (wLift (wTup (wCons (wCall dTuple (wCons (wVar 9) wNil)) (wCons (wCall dTuple (wCons (wComp (wSeqD (wVar 1)) wAll (wLift (wBin dIx (wVar 1) (wVar 0))) [6]) wNil)) (wCons (wVar 2) wNil)))))))))))
theorem b__law_built {P:Program} {w:World} {K:PySem.W.Frag} {mg:Str->Option Value} {base:Heap} {f:Addr} (B:Bn mg):∀(cdv:Value) (A:Around) (outer:List PySem.Env) (s:Shared) (H:Hp) (E:XK),Room 0 (A.deeper (envOfC "_law_built" (defScope s__law_built) s.heap.objs.size f cdv))->SVs (cxOf CX0 P w K mg base ["_law_many","_law_rim","_law_rings","_law_ties_here","_law_spots_here","_law_k","_law_names","_law_spot","_law_number","_law_crossings"] "_law_built" (defScope s__law_built) f cdv A outer s H E).nox t__law_built (defBody s__law_built) w__law_built:=λcdv A outer s H E hr =>
  (svs_cons (sv_set (i:=4) (ev_lst av_nil) sc__law_built.nd)
  (svs_cons (sv_for PassesOwn.never (iv_range1 B.nb_range (av_cons (ev_var 0) av_nil)) (gv_name (i:=5) sc__law_built.nd) (svs_one (sv_set (i:=4) (ev_op od_addT (ev_var 4) (ev_compB (comp_ok [5] (iv_range1 B.nb_range (av_cons ev_int av_nil)) (λ_ _ _ _ _=>cv_nil) (λ_ _ _ _ _=>(ev_lift (ev_tup (av_cons (ev_var 1) (av_cons (ev_var 0) av_nil)))))) (compB_mk (defScope s__law_built) ["_law_many","_law_rim","_law_rings","_law_ties_here","_law_spots_here","_law_k","_law_names","_law_spot","_law_number","_law_crossings"] (by decide +kernel)))) sc__law_built.nd)))
  (svs_cons (sv_set (i:=6) ev_dnewT sc__law_built.nd)
  (svs_cons (sv_for PassesOwn.never (iv_seq (ev_op od_addT (ev_var 4) (ev_var 1))) (gv_name (i:=7) sc__law_built.nd) (svs_one (sv_if (tv_cmp (od_nin (hu_of hr)) (ev_var 7) (ev_var 6)) (svs_cons (sv_set (i:=8) (ev_op od_div (ev_callB cd_lenT B.nb_len bt_len (av_cons (ev_var 6) av_nil)) ev_int) sc__law_built.nd)
  (svs_cons (sv_setIx (i:=6) (hu_of hr) (ev_var 8) (ev_var 7))
  (svs_one (sv_setIx (i:=6) (hu_of hr) (ev_var 8) (ev_ix (xd_ix (hu_of hr)) (ev_var 3) (ev_var 7)))))) svs_nil)))
  (svs_cons (sv_compC (j:=9) (comp_ok [6] (iv_range1 B.nb_range (av_cons (ev_var 0) av_nil)) (λ_ _ _ _ _=>cv_nil) (λ_ _ _ _ _=>(ev_callTy cd_tuple B.nb_tuple bt_tuple (av_cons (ev_compB (comp_ok [0,1] (iv_range1 B.nb_range (av_cons ev_int av_nil)) (λ_ _ _ _ _=>cv_nil) (λ_ _ _ _ _=>(ev_lift (ev_ix (xd_ix (hu_of hr)) (ev_var 2) (ev_tup (av_cons (ev_var 1) (av_cons (ev_var 0) av_nil))))))) (compB_mk ({ kind:=.function,names:=[(".0",.local),("_law_k",.cell),("tuple",.globalImplicit),("range",.globalImplicit),("_law_names",.cell)],isGenerator:=false,isCoroutine:=false }:Scope) ["_law_k","_law_names"] (by decide +kernel))) av_nil)))) (compBC_mk (defScope s__law_built) ["_law_many","_law_rim","_law_rings","_law_ties_here","_law_spots_here","_law_k","_law_names","_law_spot","_law_number","_law_crossings"] (by decide +kernel)) sc__law_built.nd)
  (svs_one (sv_ret (ev_lift (ev_tup (av_cons (ev_callTy cd_tuple B.nb_tuple bt_tuple (av_cons (ev_var 9) av_nil)) (av_cons (ev_callTy cd_tuple B.nb_tuple bt_tuple (av_cons (ev_compB (comp_ok [6] (iv_seq (ev_var 1)) (λ_ _ _ _ _=>cv_nil) (λ_ _ _ _ _=>(ev_lift (ev_ix (xd_ix (hu_of hr)) (ev_var 1) (ev_var 0))))) (compB_mk (defScope s__law_built) ["_law_many","_law_rim","_law_rings","_law_ties_here","_law_spots_here","_law_k","_law_names","_law_spot","_law_number","_law_crossings"] (by decide +kernel))) av_nil)) (av_cons (ev_var 2) av_nil))))))))))))
theorem ok__law_built {P:Program} {w:World} {K:PySem.W.Frag} {mg:Str->Option Value} {base:Heap} {f:Addr} {fd:FuncData} (F:Fun K "_law_built" "_law_built" s__law_built f fd) (B:Bn mg):FnOk P w K mg base CX0 1 f fd ["_law_many","_law_rim","_law_rings","_law_ties_here"] (spR K g_law_built):=by
 refine fn_ro (T:=t__law_built) F sc__law_built rfl (by decide) (λds kk h=>?_) (b__law_built B) (λds kk h=>?_)
 ·obtain ⟨m,e,s,B,h,r,T,rfl,_⟩:=h
  rfl
 ·obtain ⟨m,e,s,B,h,r,T,rfl,hm,he,hs,hinj,tw,hT,k⟩:=h
  have prim:pureL ((List.range e).map λj=>sd (s (4*m+j)))=true:=pureL_map λ_ _=>rfl
  simp only [w__law_built,wSeq,wSet,wLst,wNil,List.length_nil,sz0,env0,List.map_cons,List.map_nil,List.length_cons,Nat.zero_add,Nat.reduceAdd,List.replicate,List.cons_append,List.nil_append,List.set_cons_succ,List.set_cons_zero,r_for,r_rng1,wCons,r_var,look,oget_s,r_rng1I,Int.reducePow,Int.reduceNeg,Int.toNat_natCast,true_and]
  refine ⟨by omega,by omega,pure_rngD,λt ρ=>∃o:Option D,t<=m/\ρ=[some (.int m),some (.lst ((List.range e).map λj=>sd (s (4*m+j)))),some (.int r),some (.dit T),some (.lst ((List.range (4*t)).map (spD m))),o,none,none,none,none],⟨none,Nat.zero_le _,rfl⟩,?_,?_⟩
  ·rintro t d ρ hd ⟨o,_,rfl⟩
   obtain ⟨ht,rfl⟩:=rngD_get hd
   simp only [gN,wSet,wBin,List.set_cons_succ,List.set_cons_zero,r_comp,r_rng1,wCons,wC,wNil,r_rng1I,Int.reducePow,Int.reduceNeg,Int.reduceLE,Int.reduceLT,Int.reduceToNat,true_and,r_var,look,oget_s]
   refine compI_map (λd=>.tup [.int (0+(t:Int)),d]) (by rw [rngD_length];decide) (λd hd Q' hQ=>?_) ?_
   ·obtain ⟨j,hj,rfl⟩:=mem_rngD hd
    simp only [wLift,wTup,wCons,blkE,List.map_cons,look,List.map_nil,wNil,List.length_cons,List.length_nil,Nat.zero_add,Nat.reduceAdd,sz2,D.pure,pureL,Bool.and_true,true_and,r_var,oget_s]
    exact hQ
   ·have e1:(rngD 0 4).map (λd=>D.tup [.int (0+(t:Int)),d])=(List.range 4).map λj=>spD m (4*t+j):=by
     unfold rngD
     rw [List.map_map]
     apply List.map_congr_left
     intro j hj
     unfold spD
     rw [M.sp_in ht (List.mem_range.mp hj)]
     simp
    simp only [List.set_cons_succ,List.set_cons_zero,r2_addL]
    rw [e1]
    refine ⟨pure_spL,pureL_map λ_ _=>rfl,by simp;exact Nat.le_of_lt (big (by omega)),some (.int (0+(t:Int))),ht,?_⟩
    rw [show 4*(t+1)=4*t+4 by omega,range_addD]
  ·rintro ρ ⟨o,_,rfl⟩
   rw [rngD_length]
   simp only [wSeq,wSet,wC,List.set_cons_succ,List.set_cons_zero,r_for,r_seq,wBin,r_var,look,oget_s,r2_addL,pure_spL,prim,List.length_map,List.length_range,r_seqL,true_and]
   have eL:(List.range (4*m)).map (spD m)++(List.range e).map (λj=>sd (s (4*m+j)))=(List.range (4*m+e)).map λi=>sd (s i):=by
    rw [range_addD]
    congr 1
    refine List.map_congr_left λi hi=>?_
    rw [hs i (List.mem_range.mp hi)];rfl
   rw [eL]
   refine ⟨Nat.le_of_lt (big (by omega)),pureL_map λ_ _=>rfl,λt ρ=>∃(N:List (List Key × D)) (o7 o8:Option D),t<=4*m+e/\ρ=[some (.int m),some (.lst ((List.range e).map λj=>sd (s (4*m+j)))),some (.int r),some (.dit T),some (.lst ((List.range (4*m)).map (spD m))),o,some (.dit N),o7,o8,none]/\N.length=2*(M.keys B t).length/\N.length<=2*t/\pur N /\
    ∀i,i<4*m+e->valD N (sk (s i))=if i<t\/h i<t then some (.int (M.anw B (4*m+e) i)) else none,⟨[],none,none,Nat.zero_le _,rfl,rfl,Nat.zero_le _,rfl,λi hi=>by rw [if_neg (by omega)];rfl⟩,?_,?_⟩
   ·rintro t d ρ hd ⟨N,o7,o8,_,rfl,hN,hN2,hp,hv⟩
    obtain ⟨ht,rfl⟩:t<4*m+e/\d=sd (s t):=by
     rw [List.getElem?_map] at hd
     by_cases q:t<4*m+e
     ·rw [List.getElem?_range q] at hd;exact ⟨q,(Option.some.inj hd).symm⟩
     ·rw [List.getElem?_eq_none (by simp;omega)] at hd;cases hd
    have ks:∀q:Int × Int,([Sum.inl q.1,Sum.inl q.2]:List Key)=sk q:=λ_=>rfl
    have hvt:=hv t ht
    have hls:=M.keys_len_succ tw ht
    by_cases hg:h t<t
    ·rw [if_pos (.inr hg)] at hvt
     rw [if_pos hg] at hls
     simp only [gN,wIf,sd,List.set_cons_succ,List.set_cons_zero,wSeq,wSet,wBin,wCall,wCons,wNil,wC,wSetIx,r_var,wNext,r_bl,look,Option.isSome_some,oget_s,r_ixDt,keysOf,Option.map_some,ks,true_and,r_setDt,r8_lenT,Int.reduceLT,r_divP,D.pure,r_inDt,Bool.true_bne,r_blOf,hvt,Bool.not_true,Bool.false_eq_true,reduceIte]
     refine ⟨N,_,_,ht,rfl,by omega,by omega,hp,λi hi=>?_⟩
     rw [hv i hi]
     by_cases c:i<t\/h i<t
     ·rw [if_pos c,if_pos (by omega)]
     ·rw [if_neg c,if_neg]
      rintro (z | z)
      ·exact c (.inr (by rw [show i=t by omega];exact hg))
      ·have z:h i=t:=by omega
       have:=tw.inv hi
       rw [z] at this
       exact c (.inl (by omega))
    ·rw [if_neg (by omega)] at hvt
     rw [if_neg hg] at hls
     have hht:=tw.lt t ht
     have hinv:=tw.inv ht
     have hne:=tw.ne t ht
     have hnm:=M.anw_new tw ht hg
     have htw:=M.anw_twin tw ht
     have hk:sk (s (h t))≠sk (s t):=λz=>hne (hinj _ _ hht ht (sk_inj z))
     have hdiv:(N.length:Int) / 2=M.anw B (4*m+e) t:=by rw [hnm,hN];omega
     have ev2:valD N (sk (s (h t)))=none:=by rw [hv _ hht,if_neg (by rw [hinv];omega)]
     have hl1:(putD N (sk (s t)) (.int (M.anw B (4*m+e) t))).length=N.length+1:=by rw [putD_new _ hvt];simp
     have hl2:(putD (putD N (sk (s t)) (.int (M.anw B (4*m+e) t))) (sk (s (h t))) (.int (M.anw B (4*m+e) t))).length=N.length+2:=by rw [putD_new _ (by rw [valD_put,if_neg hk,ev2]),List.length_append,hl1];rfl
     simp only [gN,wIf,sd,List.set_cons_succ,List.set_cons_zero,wSeq,wSet,wBin,wCall,wCons,wNil,wC,wSetIx,r_var,wNext,r_bl,look,Option.isSome_some,oget_s,r_ixDt,keysOf,Option.map_some,ks,hT t ht,true_and,r_setDt,r8_lenT,Int.reduceLT,r_divP,D.pure,hdiv,r_inDt,Bool.true_bne,r_blOf,hvt,Option.isSome_none,Bool.not_false,reduceIte]
     refine ⟨big (by omega),?_⟩
     simp only [hl1]
     refine ⟨big (by omega),_,_,_,ht,rfl,by omega,by omega,all_put (all_put hp rfl) rfl,λi hi=>?_⟩
     rw [valD_put,valD_put]
     by_cases c1:i=h t
     ·rw [if_pos (by rw [c1]),if_pos (.inr (by rw [c1,hinv];omega)),c1,htw]
     ·rw [if_neg (λz=>c1 (hinj _ _ hi hht (sk_inj z)))]
      by_cases c2:i=t
      ·rw [if_pos (by rw [c2]),if_pos (.inl (by omega)),c2]
      ·rw [if_neg (λz=>c2 (hinj _ _ hi ht (sk_inj z))),hv i hi]
       by_cases c:i<t\/h i<t
       ·rw [if_pos c,if_pos (by omega)]
       ·rw [if_neg c,if_neg]
        rintro (z | z)
        ·omega
        ·have z:h i=t:=by omega
         have:=tw.inv hi
         rw [z] at this
         exact c1 this.symm
   ·rintro ρ ⟨N,o7,o8,_,rfl,hN,hN2,hp,hv⟩
    simp only [List.length_map,List.length_range] at hv
    have hv:∀i,i<4*m+e->valD N (sk (s i))=some (.int (M.anw B (4*m+e) i)):=λi hi=>by rw [hv i hi,if_pos (.inl hi)]
    have ks:∀q:Int × Int,([Sum.inl q.1,Sum.inl q.2]:List Key)=sk q:=λ_=>rfl
    simp only [wSeq,wSet,wRet,wLift,wTup,wCons,wCall,wNil,List.length_cons,List.length_nil,Nat.zero_add,Nat.reduceAdd,sz3,D.pure,pureL,Bool.and_true,true_and,r_var,r_comp,r_seq,r_rng1,look,oget_s,r_rng1I,Int.reducePow,Int.reduceNeg,Int.toNat_natCast]
    refine ⟨by omega,by omega,compI_map (crW (M.anw B (4*m+e))) (by rw [rngD_length];exact big (by omega)) (λd hd Q' hQ=>?_) ?_⟩
    ·obtain ⟨j,hj,rfl⟩:=mem_rngD hd
     simp only [wCall,wCons,blkE,List.map_cons,look,List.map_nil,wNil,r_comp,r_rng1,wC,r_rng1I,Int.reducePow,Int.reduceNeg,Int.reduceLE,Int.reduceLT,Int.reduceToNat,true_and]
     refine compI_map (cr4 (M.anw B (4*m+e)) j) (by rw [rngD_length];decide) (λd hd Q2 hQ2=>?_) ?_
     ·obtain ⟨l,hl,rfl⟩:=mem_rngD hd
      have hl:l<4:=hl
      have e1:([Sum.inl (0+(j:Int)),Sum.inl (0+(l:Int))]:List Key)=sk (s (4*j+l)):=by
       rw [hs _ (by omega),M.sp_in (by omega) hl]
       simp [sk]
      simp only [wLift,wBin,blkE,List.map_cons,look,List.map_nil,wTup,wCons,wNil,List.length_cons,List.length_nil,Nat.zero_add,Nat.reduceAdd,sz2,true_and,r_var,oget_s,r_ixDt,keysOf,Option.map_some]
      rw [e1,hv _ (show 4*j+l<4*m+e by omega)]
      refine ⟨rfl,?_⟩
      have e2:cr4 (M.anw B (4*m+e)) j (D.int (0+(l:Int)))=.int (M.anw B (4*m+e) (4*j+l)):=by
       show D.int (M.anw B (4*m+e) (4*j+(0+(l:Int)).toNat))=_
       rw [show (0+(l:Int)).toNat=l by omega]
      rw [e2] at hQ2
      exact hQ2
     ·simp only [r_tupL]
      have e3:(rngD 0 4).map (cr4 (M.anw B (4*m+e)) j)=(List.range 4).map λl=>D.int (M.anw B (4*m+e) (4*j+l)):=rfl
      have e4:crW (M.anw B (4*m+e)) (D.int (0+(j:Int)))=D.tup ((List.range 4).map λl=>.int (M.anw B (4*m+e) (4*j+l))):=by
       show crD (M.anw B (4*m+e)) (0+(j:Int)).toNat=_
       rw [show (0+(j:Int)).toNat=j by omega]
       rfl
      rw [e3]
      rw [e4] at hQ
      exact ⟨pureL_map λ_ _=>rfl,hQ⟩
    ·have e5:(rngD 0 m).map (crW (M.anw B (4*m+e)))=(List.range m).map λk=>D.tup ((List.range 4).map λj=>.int (M.anw B (4*m+e) (4*k+j))):=by
      unfold rngD
      rw [List.map_map]
      refine List.map_congr_left λk hk=>?_
      show crD (M.anw B (4*m+e)) (0+(k:Int)).toNat=_
      rw [show (0+(k:Int)).toNat=k by omega]
      rfl
     rw [e5]
     have pc:pureL ((List.range m).map λk=>D.tup ((List.range 4).map λj=>.int (M.anw B (4*m+e) (4*k+j))))=true:=pureL_map λ_ _=>by simp only [D.pure];exact pureL_map λ_ _=>rfl
     simp only [List.set_cons_succ,List.set_cons_zero,look,oget_s,r_seqL,r_tupL,pc,D.pure,Bool.true_and,true_and]
     refine compI_map (λd=>.int (M.anw B (4*m+e) (ixW s (4*m) e d))) (by simp;exact big (by omega)) (λd hd Q2 hQ2=>?_) ?_
     ·obtain ⟨j,hj,rfl⟩:=List.mem_map.mp hd
      have hj:=List.mem_range.mp hj
      simp only [ixW_at hinj hj] at hQ2
      simp only [wLift,wBin,blkE,sd,List.map_cons,look,List.map_nil,r_var,oget_s,r_ixDt,keysOf,Option.map_some,ks,hv _ (show 4*m+j<4*m+e by omega),D.pure,true_and]
      exact hQ2
     ·rw [List.map_map]
      have e6:(List.range e).map ((λd=>D.int (M.anw B (4*m+e) (ixW s (4*m) e d))) ∘ λj=>sd (s (4*m+j)))=(List.range e).map λj=>.int (M.anw B (4*m+e) (4*m+j)):=by
       refine List.map_congr_left λj hj=>?_
       show D.int (M.anw B (4*m+e) (ixW s (4*m) e (sd (s (4*m+j)))))=_
       rw [ixW_at hinj (List.mem_range.mp hj)]
      rw [e6]
      have pe:pureL ((List.range e).map λj=>D.int (M.anw B (4*m+e) (4*m+j)))=true:=pureL_map λ_ _=>rfl
      simp only [look,oget_s,D.pure,Bool.and_true,r_tupL,pe,true_and]
      exact k
def g_law_is:GA:=λds k=>∃(m e:Nat) (A:Nat->Int) (r:Int),ds=[webD m e A r,webD m e A r]/\m<=50/\e<=50/\k (.bl true)
abbrev s__law_is:Stmt:=top 27
theorem sc__law_is:FnScope ["_law_found","_law_due","_law_row","_law_number"] ["_law_found","_law_due"] (defScope s__law_is):=⟨rfl,rfl,rfl,by decide +kernel,rfl,by decide +kernel,by decide +kernel⟩
def t__law_is:Tg:={ own:=λi=>i == 2 || i == 3,io:=[] }
def w__law_is:WS:=(wSeq (wIf (wOr (wNot (wTru (wCall dIsi (wCons (wVar 0) (wCons (wC (.ty .tuple)) wNil))))) (wBl (wBin dNe (wVar 0) (wVar 1)))) (wRet (wC (.bl false))) wNext)
 (wSeq (wFor (wSeqD (wBin dAddT (wCall dList (wCons (wBin dIx (wVar 0) (wC (.int 0))) wNil)) (wLst (wCons (wLift (wBin dIx (wVar 0) (wC (.int 1)))) (wCons (wLift (wTup (wCons (wBin dIx (wVar 0) (wC (.int 2))) wNil))) wNil))))) (gN 2) (wSeq (wIf (wNot (wTru (wCall dIsi (wCons (wVar 2) (wCons (wC (.ty .tuple)) wNil))))) (wRet (wC (.bl false))) wNext)
 (wFor (wSeqD (wLift (wVar 2))) (gN 3) (wIf (wOr (wNot (wTru (wCall dIsi (wCons (wVar 3) (wCons (wC (.ty .int)) wNil))))) (wTru (wCall dIsi (wCons (wVar 3) (wCons (wC (.ty .bool)) wNil))))) (wRet (wC (.bl false))) wNext))))
 (wRet (wC (.bl true)))))
theorem b__law_is {P:Program} {w:World} {K:PySem.W.Frag} {mg:Str->Option Value} {base:Heap} {f:Addr} (B:Bn mg):∀(cdv:Value) (A:Around) (outer:List PySem.Env) (s:Shared) (H:Hp) (E:XK),Room 0 (A.deeper (envOfC "_law_is" (defScope s__law_is) s.heap.objs.size f cdv))->SVs (cxOf CX0 P w K mg base ["_law_found","_law_due","_law_row","_law_number"] "_law_is" (defScope s__law_is) f cdv A outer s H E).nox t__law_is (defBody s__law_is) w__law_is:=λcdv A outer s H E hr =>
  (svs_cons (sv_if (tv_bool (bv_or (tv_not (tv_tru (ev_callB cd_isi B.nb_isinstance bt_isinstance (av_cons (ev_var 0) (av_cons (ev_ty .tuple B.nb_tuple bt_tuple) av_nil))))) (bv_or1 (tv_cmp (od_ne hr.units) (ev_var 0) (ev_var 1))))) (svs_one (sv_ret ev_bl)) svs_nil)
  (svs_cons (sv_for PassesOwn.never (iv_seq (ev_op od_addT (ev_callTy cd_list B.nb_list bt_list (av_cons (ev_ix (xd_ix (hu_of hr)) (ev_var 0) ev_int) av_nil)) (ev_lst (av_cons (ev_lift (ev_ix (xd_ix (hu_of hr)) (ev_var 0) ev_int)) (av_cons (ev_lift (ev_tup (av_cons (ev_ix (xd_ix (hu_of hr)) (ev_var 0) ev_int) av_nil))) av_nil))))) (gv_name (i:=2) sc__law_is.nd) (svs_cons (sv_if (tv_not (tv_tru (ev_callB cd_isi B.nb_isinstance bt_isinstance (av_cons (ev_var 2) (av_cons (ev_ty .tuple B.nb_tuple bt_tuple) av_nil))))) (svs_one (sv_ret ev_bl)) svs_nil)
  (svs_one (sv_for PassesOwn.never (iv_seq (ev_lift (ev_var 2))) (gv_name (i:=3) sc__law_is.nd) (svs_one (sv_if (tv_bool (bv_or (tv_not (tv_tru (ev_callB cd_isi B.nb_isinstance bt_isinstance (av_cons (ev_var 3) (av_cons (ev_ty .int B.nb_int bt_int) av_nil))))) (bv_or1 (tv_tru (ev_callB cd_isi B.nb_isinstance bt_isinstance (av_cons (ev_var 3) (av_cons (ev_ty .bool B.nb_bool bt_bool) av_nil))))))) (svs_one (sv_ret ev_bl)) svs_nil))))))
  (svs_one (sv_ret ev_bl))))
theorem ok__law_is {P:Program} {w:World} {K:PySem.W.Frag} {mg:Str->Option Value} {base:Heap} {f:Addr} {fd:FuncData} (F:Fun K "_law_is" "_law_is" s__law_is f fd) (B:Bn mg):FnOk P w K mg base CX0 1 f fd ["_law_found","_law_due"] (spR K g_law_is):=by
 refine fn_ro (T:=t__law_is) F sc__law_is rfl (by decide) (λds kk h=>?_) (b__law_is B) (λds kk h=>?_)
 ·obtain ⟨m,e,A,r,rfl,_⟩:=h
  rfl
 ·obtain ⟨m,e,A,r,rfl,hm,he,k⟩:=h
  have pc:pureL ((List.range m).map λk=>D.tup ((List.range 4).map λj=>.int (A (4*k+j))))=true:=pureL_map λ_ _=>by simp only [D.pure];exact pureL_map λ_ _=>rfl
  have pe:pureL ((List.range e).map λj=>D.int (A (4*m+j)))=true:=pureL_map λ_ _=>rfl
  have rows:∀d∈((List.range m).map λk=>D.tup ((List.range 4).map λj=>.int (A (4*k+j))))++[D.tup ((List.range e).map λj=>.int (A (4*m+j))),D.tup [.int r]],∃ns:List Int,d=.tup (ns.map .int):=λd hd=>by
   rcases List.mem_append.mp hd with hd | hd
   ·obtain ⟨k,_,rfl⟩:=List.mem_map.mp hd
    exact ⟨(List.range 4).map λj=>A (4*k+j),by rw [List.map_map];rfl⟩
   ·rcases List.mem_cons.mp hd with rfl | hd
    ·exact ⟨(List.range e).map λj=>A (4*m+j),by rw [List.map_map];rfl⟩
    ·exact ⟨[r],List.mem_singleton.mp hd⟩
  simp only [w__law_is,wSeq,wIf,wOr,wNot,env0,webD,List.map_cons,List.map_nil,List.length_cons,List.length_nil,Nat.zero_add,Nat.reduceAdd,List.replicate,List.cons_append,List.nil_append,wRet,wC,wNext,r_for,r_seq,wBin,wCall,wCons,wNil,wLst,wLift,wTup,sz1,D.pure,pureL,Bool.and_true,sz2,true_and,r_var,reduceIte,r_bl,r_tru,r_isi,isiD,r_truB,look,oget_s,r_ixT,atI_2,List.getElem?_cons_succ,List.getElem?_cons_zero,atI_1,pe,atI_0,r_listT,pc,r2_addL,Bool.and_self,r_seqL,r_neT,r_blOf,Bool.false_eq_true,BEq.rfl,Bool.not_true]
  refine ⟨webD_eq9,webD_eq9,λ_=>⟨by simp;exact Nat.le_of_lt (big (by omega)),?_,λt ρ=>∃o2 o3:Option D,ρ=[some (webD m e A r),some (webD m e A r),o2,o3],⟨none,none,rfl⟩,?_,?_⟩,λz=>absurd rfl z⟩
  ·rw [pureL_iff]
   intro d hd
   obtain ⟨ns,rfl⟩:=rows d hd
   exact pure_ints
  ·rintro t d ρ hd ⟨o2,o3,rfl⟩
   obtain ⟨ns,rfl⟩:=rows d (List.mem_of_getElem? hd)
   have pn:pureL (ns.map D.int)=true:=pure_ints
   simp only [gN,wSeq,wIf,wNot,List.set_cons_succ,List.set_cons_zero,wRet,wC,wNext,r_for,r_seq,wLift,r_var,r_tru,wCall,wCons,wNil,r_isi,isiD,r_truB,look,oget_s,D.pure,pn,r_seqT,true_and,BEq.rfl,Bool.not_true,Bool.false_eq_true,reduceIte]
   refine ⟨λt ρ=>∃o3:Option D,ρ=[some (webD m e A r),some (webD m e A r),some (.tup (ns.map D.int)),o3],⟨_,rfl⟩,?_,?_⟩
   ·rintro t d ρ hd ⟨o3,rfl⟩
    obtain ⟨n,_,rfl⟩:=List.mem_map.mp (List.mem_of_getElem? hd)
    simp only [gN,wIf,wOr,wNot,List.set_cons_succ,List.set_cons_zero,wRet,wC,wNext,reduceIte,r_tru,wCall,wCons,wNil,r_isi,isiD,r_truB,r_var,look,oget_s,BEq.rfl,Bool.not_true,Bool.false_eq_true]
    exact ⟨_,rfl⟩
   ·rintro ρ ⟨o3,rfl⟩
    exact ⟨_,_,rfl⟩
  ·rintro ρ ⟨o2,o3,rfl⟩
   simp only [wRet,wC]
   exact k
end K53
namespace K53
open PySem PySem.Spec L2 PV
open PyProof.Rows (envOfC)
section
variable (m1 e1 m2:Nat)
def sid (i:Nat):Bool:=decide (i<4*m1\/(4*(m1+m2)<=i/\i<4*(m1+m2)+e1))
def loc (i:Nat):Nat:=if i<4*m1 then i else if i<4*(m1+m2) then i-4*m1 else if i<4*(m1+m2)+e1 then i-4*m2 else i-4*m1-e1
def emb (b:Bool) (x:Nat):Nat:=if b=true then (if x<4*m1 then x else x+4*m2) else (if x<4*m2 then x+4*m1 else x+4*m1+e1)
def bth (A1 A2:Nat->Int) (i:Nat):Int:=if sid m1 e1 m2 i=true then A1 (loc m1 e1 m2 i) else A2 (loc m1 e1 m2 i)
def bG (g1 g2:Nat->Nat) (i:Nat):Nat:=emb m1 e1 m2 (sid m1 e1 m2 i) (if sid m1 e1 m2 i=true then g1 (loc m1 e1 m2 i) else g2 (loc m1 e1 m2 i))
theorem four (i:Nat):(i<4*m1/\sid m1 e1 m2 i=true/\loc m1 e1 m2 i=i)\/(4*m1<=i/\i<4*(m1+m2)/\sid m1 e1 m2 i=false/\loc m1 e1 m2 i=i-4*m1) \/
  (4*(m1+m2)<=i/\i<4*(m1+m2)+e1/\sid m1 e1 m2 i=true/\loc m1 e1 m2 i=i-4*m2)\/(4*(m1+m2)+e1<=i/\sid m1 e1 m2 i=false/\loc m1 e1 m2 i=i-4*m1-e1):=by
 unfold sid loc
 by_cases h1:i<4*m1
 ·exact .inl ⟨h1,decide_eq_true (.inl h1),if_pos h1⟩
 ·by_cases h2:i<4*(m1+m2)
  ·exact .inr (.inl ⟨by omega,h2,decide_eq_false (by omega),by rw [if_neg h1,if_pos h2]⟩)
  ·by_cases h3:i<4*(m1+m2)+e1
   ·exact .inr (.inr (.inl ⟨by omega,h3,decide_eq_true (.inr ⟨by omega,h3⟩),by rw [if_neg h1,if_neg h2,if_pos h3]⟩))
   ·exact .inr (.inr (.inr ⟨by omega,decide_eq_false (by omega),by rw [if_neg h1,if_neg h2,if_neg h3]⟩))
theorem emb_t (x:Nat):(x<4*m1/\emb m1 e1 m2 true x=x)\/(4*m1<=x/\emb m1 e1 m2 true x=x+4*m2):=by
 unfold emb
 rw [if_pos rfl]
 by_cases h:x<4*m1
 ·exact .inl ⟨h,if_pos h⟩
 ·exact .inr ⟨by omega,if_neg h⟩
theorem emb_f (x:Nat):(x<4*m2/\emb m1 e1 m2 false x=x+4*m1)\/(4*m2<=x/\emb m1 e1 m2 false x=x+4*m1+e1):=by
 unfold emb
 rw [if_neg (by decide)]
 by_cases h:x<4*m2
 ·exact .inl ⟨h,if_pos h⟩
 ·exact .inr ⟨by omega,if_neg h⟩
end
section
variable {m1 e1 m2 e2:Nat}
theorem emb_loc (i:Nat):emb m1 e1 m2 (sid m1 e1 m2 i) (loc m1 e1 m2 i)=i:=by
 rcases four m1 e1 m2 i with ⟨h,a,b⟩ | ⟨h,h',a,b⟩ | ⟨h,h',a,b⟩ | ⟨h,a,b⟩
 ·rw [a,b];rcases emb_t m1 e1 m2 i with z | z <;> omega
 ·rw [a,b];rcases emb_f m1 e1 m2 (i-4*m1) with z | z <;> omega
 ·rw [a,b];rcases emb_t m1 e1 m2 (i-4*m2) with z | z <;> omega
 ·rw [a,b];rcases emb_f m1 e1 m2 (i-4*m1-e1) with z | z <;> omega
theorem loc1 {i:Nat} (hi:i<4*(m1+m2)+(e1+e2)) (h:sid m1 e1 m2 i=true):loc m1 e1 m2 i<4*m1+e1:=by
 rcases four m1 e1 m2 i with ⟨h1,a,b⟩ | ⟨h1,h',a,b⟩ | ⟨h1,h',a,b⟩ | ⟨h1,a,b⟩
 ·omega
 ·rw [h] at a;cases a
 ·omega
 ·rw [h] at a;cases a
theorem loc2 {i:Nat} (hi:i<4*(m1+m2)+(e1+e2)) (h:sid m1 e1 m2 i=false):loc m1 e1 m2 i<4*m2+e2:=by
 rcases four m1 e1 m2 i with ⟨h1,a,b⟩ | ⟨h1,h',a,b⟩ | ⟨h1,h',a,b⟩ | ⟨h1,a,b⟩
 ·rw [h] at a;cases a
 ·omega
 ·rw [h] at a;cases a
 ·omega
theorem emb1 {x:Nat} (hx:x<4*m1+e1):emb m1 e1 m2 true x<4*(m1+m2)+(e1+e2)/\sid m1 e1 m2 (emb m1 e1 m2 true x)=true/\loc m1 e1 m2 (emb m1 e1 m2 true x)=x:=by
 rcases emb_t m1 e1 m2 x with ⟨z,e⟩ | ⟨z,e⟩ <;> rw [e]
 ·rcases four m1 e1 m2 x with ⟨h1,a,b⟩ | ⟨h1,h',a,b⟩ | ⟨h1,h',a,b⟩ | ⟨h1,a,b⟩ <;> first | exact ⟨by omega,a,b⟩ | omega
 ·rcases four m1 e1 m2 (x+4*m2) with ⟨h1,a,b⟩ | ⟨h1,h',a,b⟩ | ⟨h1,h',a,b⟩ | ⟨h1,a,b⟩ <;> first | exact ⟨by omega,a,by omega⟩ | omega
theorem emb2 {x:Nat} (hx:x<4*m2+e2):emb m1 e1 m2 false x<4*(m1+m2)+(e1+e2)/\sid m1 e1 m2 (emb m1 e1 m2 false x)=false/\loc m1 e1 m2 (emb m1 e1 m2 false x)=x:=by
 rcases emb_f m1 e1 m2 x with ⟨z,e⟩ | ⟨z,e⟩ <;> rw [e]
 ·rcases four m1 e1 m2 (x+4*m1) with ⟨h1,a,b⟩ | ⟨h1,h',a,b⟩ | ⟨h1,h',a,b⟩ | ⟨h1,a,b⟩ <;> first | exact ⟨by omega,a,by omega⟩ | omega
 ·rcases four m1 e1 m2 (x+4*m1+e1) with ⟨h1,a,b⟩ | ⟨h1,h',a,b⟩ | ⟨h1,h',a,b⟩ | ⟨h1,a,b⟩ <;> first | exact ⟨by omega,a,by omega⟩ | omega
theorem bth1 {A1 A2:Nat->Int} {x:Nat} (hx:x<4*m1+e1):bth m1 e1 m2 A1 A2 (emb m1 e1 m2 true x)=A1 x:=by
 obtain ⟨_,a,b⟩:=emb1 (m2:=m2) (e2:=0) hx
 unfold bth
 rw [a,b,if_pos rfl]
theorem bth2 {A1 A2:Nat->Int} {x:Nat} (hx:x<4*m2+e2):bth m1 e1 m2 A1 A2 (emb m1 e1 m2 false x)=A2 x:=by
 obtain ⟨_,a,b⟩:=emb2 (m1:=m1) (e1:=e1) hx
 unfold bth
 rw [a,b,if_neg (by decide)]
theorem bG1 {g1 g2:Nat->Nat} {x:Nat} (hx:x<4*m1+e1):bG m1 e1 m2 g1 g2 (emb m1 e1 m2 true x)=emb m1 e1 m2 true (g1 x):=by
 obtain ⟨_,a,b⟩:=emb1 (m2:=m2) (e2:=0) hx
 unfold bG
 rw [a,b,if_pos rfl]
theorem bG2 {g1 g2:Nat->Nat} {x:Nat} (hx:x<4*m2+e2):bG m1 e1 m2 g1 g2 (emb m1 e1 m2 false x)=emb m1 e1 m2 false (g2 x):=by
 obtain ⟨_,a,b⟩:=emb2 (m1:=m1) (e1:=e1) hx
 unfold bG
 rw [a,b,if_neg (by decide)]
theorem of_two {i:Nat} (hi:i<4*(m1+m2)+(e1+e2)):(∃x,x<4*m1+e1/\i=emb m1 e1 m2 true x)\/∃x,x<4*m2+e2/\i=emb m1 e1 m2 false x:=by
 cases h:sid m1 e1 m2 i with
 | true=>exact .inl ⟨_,loc1 hi h,by rw [← h,emb_loc]⟩
 | false=>exact .inr ⟨_,loc2 hi h,by rw [← h,emb_loc]⟩
theorem bth_tw {A1 A2:Nat->Int} {g1 g2:Nat->Nat} (T1:M.Tw (4*m1+e1) A1 g1) (T2:M.Tw (4*m2+e2) A2 g2) (hd:∀x y,x<4*m1+e1->y<4*m2+e2->A1 x≠A2 y):M.Tw (4*(m1+m2)+(e1+e2)) (bth m1 e1 m2 A1 A2) (bG m1 e1 m2 g1 g2):=by
 refine ⟨λi hi=>?_,λi hi=>?_,λi hi=>?_,λi k hi hk h=>?_⟩
 ·rcases of_two hi with ⟨x,hx,rfl⟩ | ⟨x,hx,rfl⟩
  ·rw [bG1 hx];exact (emb1 (T1.lt x hx)).1
  ·rw [bG2 hx];exact (emb2 (T2.lt x hx)).1
 ·rcases of_two hi with ⟨x,hx,rfl⟩ | ⟨x,hx,rfl⟩
  ·rw [bG1 hx];intro z
   have:=congrArg (loc m1 e1 m2) z
   rw [(emb1 (m2:=m2) (e2:=e2) (T1.lt x hx)).2.2,(emb1 (m2:=m2) (e2:=e2) hx).2.2] at this
   exact T1.ne x hx this
  ·rw [bG2 hx];intro z
   have:=congrArg (loc m1 e1 m2) z
   rw [(emb2 (m1:=m1) (e1:=e1) (T2.lt x hx)).2.2,(emb2 (m1:=m1) (e1:=e1) hx).2.2] at this
   exact T2.ne x hx this
 ·rcases of_two hi with ⟨x,hx,rfl⟩ | ⟨x,hx,rfl⟩
  ·rw [bG1 hx,bth1 hx,bth1 (T1.lt x hx),T1.eq x hx]
  ·rw [bG2 hx,bth2 hx,bth2 (T2.lt x hx),T2.eq x hx]
 ·rcases of_two hi with ⟨x,hx,rfl⟩ | ⟨x,hx,rfl⟩
  ·rcases of_two hk with ⟨y,hy,rfl⟩ | ⟨y,hy,rfl⟩
   ·rw [bth1 hx,bth1 hy] at h
    rw [bG1 hx]
    rcases T1.only x y hx hy h with z | z
    ·exact .inl (by rw [z])
    ·exact .inr (by rw [z])
   ·rw [bth1 hx,bth2 hy] at h
    exact absurd h.symm (hd x y hx hy)
  ·rcases of_two hk with ⟨y,hy,rfl⟩ | ⟨y,hy,rfl⟩
   ·rw [bth2 hx,bth1 hy] at h
    exact absurd h (hd y x hy hx)
   ·rw [bth2 hx,bth2 hy] at h
    rw [bG2 hx]
    rcases T2.only x y hx hy h with z | z
    ·exact .inl (by rw [z])
    ·exact .inr (by rw [z])
end
theorem anw_tw {n:Nat} {A:Nat->Int} {g:Nat->Nat} (T:M.Tw n A g):M.Tw n (M.anw A n) g:=by
 refine ⟨T.lt,T.ne,λi hi=>M.anw_twin T hi,λi k hi hk h=>T.only i k hi hk ?_⟩
 unfold M.anw at h
 exact M.ix_inj (M.keys_mem hk) (M.keys_mem hi) (by omega)
theorem keys_same {n:Nat} {A B:Nat->Int} {g:Nat->Nat} (TA:M.Tw n A g) (TB:M.Tw n B g):∀t,t<=n->(M.keys A t).length=(M.keys B t).length
 | 0,_=>rfl
 | t+1,h=>by rw [M.keys_len_succ TA (by omega),M.keys_len_succ TB (by omega),keys_same TA TB t (by omega)]
def mny (n:Nat) (A:Nat->Int):Int:=((M.keys (M.anw A n) n).length:Nat)
theorem anw_lt {n i:Nat} {A:Nat->Int} {g:Nat->Nat} (T:M.Tw n A g) (hi:i<n):M.anw A n i<mny n A:=by
 unfold mny
 rw [← keys_same T (anw_tw T) n (Nat.le_refl _)]
 have:=M.ix_lt (M.keys_mem (A:=A) hi)
 unfold M.anw
 omega
def twoA (m1 e1 m2:Nat) (A1 A2:Nat->Int):Nat->Int:=bth m1 e1 m2 (M.anw A1 (4*m1+e1)) λy=>A2 y+mny (4*m1+e1) A1
theorem two_tw {m1 e1 m2 e2:Nat} {A1 A2:Nat->Int} {g1 g2:Nat->Nat} (T1:M.Tw (4*m1+e1) A1 g1) (T2:M.Tw (4*m2+e2) A2 g2) (hA:∀i,0<=A2 i):M.Tw (4*(m1+m2)+(e1+e2)) (twoA m1 e1 m2 A1 A2) (bG m1 e1 m2 g1 g2):=by
 refine bth_tw (anw_tw T1) ⟨T2.lt,T2.ne,λi hi=>by rw [T2.eq i hi],λi k hi hk h=>T2.only i k hi hk (by omega)⟩ λx y hx hy h=>?_
 have:=anw_lt T1 hx
 have:=hA y
 omega
def g_raised:GA:=λds k=>∃(ns:List Int) (q:Int),ds=[.tup (ns.map .int),.int q]/\ns.length<=100/\k (.tup (ns.map λn=>.int (n+q)))
abbrev s_raised:Stmt:=top 10
theorem sc_raised:FnScope ["arcs","many"] ["arcs","many"] (defScope s_raised):=⟨rfl,rfl,rfl,by decide +kernel,rfl,by decide +kernel,by decide +kernel⟩
def t_raised:Tg:={ own:=λi=>false,io:=[] }
def w_raised:WS:=(wRet (wCall dTuple (wCons (wComp (wSeqD (wVar 0)) wAll (wBin dAddT (wVar 0) (wVar 1)) [1]) wNil)))
theorem b_raised {P:Program} {w:World} {K:PySem.W.Frag} {mg:Str->Option Value} {base:Heap} {f:Addr} (B:Bn mg):∀(cdv:Value) (A:Around) (outer:List PySem.Env) (s:Shared) (H:Hp) (E:XK),Room 0 (A.deeper (envOfC "raised" (defScope s_raised) s.heap.objs.size f cdv))->SVs (cxOf CX0 P w K mg base ["arcs","many"] "raised" (defScope s_raised) f cdv A outer s H E).nox t_raised (defBody s_raised) w_raised:=λcdv A outer s H E hr =>
  (svs_one (sv_ret (ev_callTy cd_tuple B.nb_tuple bt_tuple (av_cons (ev_compB (comp_ok [1] (iv_seq (ev_var 0)) (λ_ _ _ _ _=>cv_nil) (λ_ _ _ _ _=>(ev_op od_addT (ev_var 0) (ev_var 1)))) (compB_mk (defScope s_raised) ["arcs","many"] (by decide +kernel))) av_nil))))
theorem ok_raised {P:Program} {w:World} {K:PySem.W.Frag} {mg:Str->Option Value} {base:Heap} {f:Addr} {fd:FuncData} (F:Fun K "raised" "raised" s_raised f fd) (B:Bn mg):FnOk P w K mg base CX0 1 f fd ["arcs","many"] (spR K g_raised):=by
 refine fn_ro (T:=t_raised) F sc_raised rfl (by decide) (λds kk h=>?_) (b_raised B) (λds kk h=>?_)
 ·obtain ⟨ns,q,rfl,_⟩:=h
  rfl
 ·obtain ⟨ns,q,rfl,hl,k⟩:=h
  simp only [w_raised,wRet,wCall,wCons,env0,List.map_cons,List.map_nil,List.length_cons,List.length_nil,Nat.zero_add,Nat.reduceAdd,List.cons_append,List.nil_append,wNil,r_comp,r_seq,r_var,look,oget_s,r_seqT,pure_ints,true_and]
  refine compI_map (dF (· + q)) (by rw [List.length_map];exact big (by omega)) (λd hd Q' hQ=>?_) ?_
  ·obtain ⟨n,hn,rfl⟩:=List.mem_map.mp hd
   simp only [wBin,blkE,List.map_cons,look,List.map_nil,r_var,oget_s,r2_add]
   exact hQ
  ·simp only [r_tupL]
   rw [List.map_map]
   exact ⟨pureL_map λ_ _=>rfl,k⟩
def g_both:GA:=λds k=>∃(m1 e1:Nat) (A1:Nat->Int) (r1:Int) (m2 e2:Nat) (A2:Nat->Int) (r2:Int),ds=[webD m1 e1 A1 r1,webD m2 e2 A2 r2]/\m1<=20/\e1<=20/\m2<=20/\e2<=20/\k (webD (m1+m2) (e1+e2) (twoA m1 e1 m2 A1 A2) (r1+r2))
abbrev s_both:Stmt:=top 11
theorem sc_both:FnScope ["one","other","first","many","crossings"] ["one","other"] (defScope s_both):=⟨rfl,rfl,rfl,by decide +kernel,rfl,by decide +kernel,by decide +kernel⟩
def t_both:Tg:={ own:=λi=>i == 2 || i == 3 || i == 4,io:=[] }
def w_both:WS:=(wSeq (wSet 2 (wCall g_named_anew (wCons (wVar 0) wNil)))
 (wSeq (wSet 3 (wCall dLen (wCons (wCall g_places (wCons (wVar 2) wNil)) wNil)))
 (wSeq (wSet 4 (wBin dAddT (wBin dIx (wVar 2) (wC (.int 0))) (wCall dTuple (wCons (wComp (wSeqD (wBin dIx (wVar 1) (wC (.int 0)))) wAll (wCall g_raised (wCons (wVar 0) (wCons (wVar 1) wNil))) [3]) wNil))))
 (wRet (wLift (wTup (wCons (wVar 4) (wCons (wBin dAddT (wBin dIx (wVar 2) (wC (.int 1))) (wCall g_raised (wCons (wBin dIx (wVar 1) (wC (.int 1))) (wCons (wVar 3) wNil)))) (wCons (wBin dAddT (wBin dIx (wVar 2) (wC (.int 2))) (wBin dIx (wVar 1) (wC (.int 2)))) wNil)))))))))
theorem b_both {P:Program} {w:World} {K:PySem.W.Frag} {mg:Str->Option Value} {base:Heap} {f:Addr} (B:Bn mg) (C_places:Cal P w K mg base "places" 1 ["web"] (spR K g_places)) (C_named_anew:Cal P w K mg base "named_anew" 2 ["web"] (spR K g_named_anew)) (C_raised:Cal P w K mg base "raised" 1 ["arcs","many"] (spR K g_raised)):∀(cdv:Value) (A:Around) (outer:List PySem.Env) (s:Shared) (H:Hp) (E:XK),Room 2 (A.deeper (envOfC "both" (defScope s_both) s.heap.objs.size f cdv))->SVs (cxOf CX0 P w K mg base ["one","other","first","many","crossings"] "both" (defScope s_both) f cdv A outer s H E).nox t_both (defBody s_both) w_both:=λcdv A outer s H E hr =>
  (svs_cons (sv_set (i:=2) (ev_callC C_named_anew (hr.mono (by decide)) (av_cons (ev_var 0) av_nil)) sc_both.nd)
  (svs_cons (sv_set (i:=3) (ev_callB cd_len B.nb_len bt_len (av_cons (ev_callC C_places (hr.mono (by decide)) (av_cons (ev_var 2) av_nil)) av_nil)) sc_both.nd)
  (svs_cons (sv_set (i:=4) (ev_op od_addT (ev_ix (xd_ix (hu_of hr)) (ev_var 2) ev_int) (ev_callTy cd_tuple B.nb_tuple bt_tuple (av_cons (ev_compB (comp_ok [3] (iv_seq (ev_ix (xd_ix (hu_of hr)) (ev_var 1) ev_int)) (λ_ _ _ _ _=>cv_nil) (λ_ _ _ _ _=>(ev_callC C_raised (hr.mono (by decide)) (av_cons (ev_var 0) (av_cons (ev_var 1) av_nil))))) (compB_mk (defScope s_both) ["one","other","first","many","crossings"] (by decide +kernel))) av_nil))) sc_both.nd)
  (svs_one (sv_ret (ev_lift (ev_tup (av_cons (ev_var 4) (av_cons (ev_op od_addT (ev_ix (xd_ix (hu_of hr)) (ev_var 2) ev_int) (ev_callC C_raised (hr.mono (by decide)) (av_cons (ev_ix (xd_ix (hu_of hr)) (ev_var 1) ev_int) (av_cons (ev_var 3) av_nil)))) (av_cons (ev_op od_addT (ev_ix (xd_ix (hu_of hr)) (ev_var 2) ev_int) (ev_ix (xd_ix (hu_of hr)) (ev_var 1) ev_int)) av_nil))))))))))
theorem ok_both {P:Program} {w:World} {K:PySem.W.Frag} {mg:Str->Option Value} {base:Heap} {f:Addr} {fd:FuncData} (F:Fun K "both" "both" s_both f fd) (B:Bn mg) (C1:Cal P w K mg base "places" 1 ["web"] (spR K g_places)) (C2:Cal P w K mg base "named_anew" 2 ["web"] (spR K g_named_anew)) (C3:Cal P w K mg base "raised" 1 ["arcs","many"] (spR K g_raised)):FnOk P w K mg base CX0 3 f fd ["one","other"] (spR K g_both):=by
 refine fn_ro (T:=t_both) F sc_both rfl (by decide) (λds kk h=>?_) (b_both B C1 C2 C3) (λds kk h=>?_)
 ·obtain ⟨m1,e1,A1,r1,m2,e2,A2,r2,rfl,_⟩:=h
  rfl
 ·obtain ⟨m1,e1,A1,r1,m2,e2,A2,r2,rfl,hm1,he1,hm2,he2,k⟩:=h
  simp only [w_both,wSeq,wSet,wCall,wCons,env0,List.map_cons,List.map_nil,List.length_cons,List.length_nil,Nat.zero_add,Nat.reduceAdd,List.replicate,List.cons_append,List.nil_append,wNil,wBin,wC,wRet,wLift,wTup,sz3,D.pure,pureL,Bool.and_true,true_and,r_var,r_comp,r_seq,look,List.set_cons_succ,List.set_cons_zero,oget_s]
  refine ⟨m1,e1,A1,r1,rfl,by omega,by omega,?_⟩
  simp only []
  refine ⟨m1,e1,_,r1,rfl,by omega,by omega,?_⟩
  have hmn:((encP (spD m1) (M.plc (M.anw A1 (4*m1+e1)) (4*m1+e1))).length:Int)=mny (4*m1+e1) A1:=by
   unfold mny M.keys encP
   rw [List.length_map,List.length_map]
  have pcr:∀(m:Nat) (A:Nat->Int),pureL ((List.range m).map λk=>D.tup ((List.range 4).map λj=>.int (A (4*k+j))))=true:=λm A=>pureL_map λ_ _=>by simp only [D.pure];exact pureL_map λ_ _=>rfl
  have pin:∀(e a:Nat) (A:Nat->Int),pureL ((List.range e).map λj=>D.int (A (a+j)))=true:=λe a A=>pureL_map λ_ _=>rfl
  simp only [webD,r_ixT,atI_0,List.getElem?_cons_zero,oget_s,r_seqT,pcr,true_and,r_lenD,hmn]
  refine compI_map (nmF (· + mny (4*m1+e1) A1)) (by rw [List.length_map,List.length_range];exact big (by omega)) (λd hd Q' hQ=>?_) ?_
  ·obtain ⟨kk,hk,rfl⟩:=List.mem_map.mp hd
   simp only [wCall,wCons,blkE,List.map_cons,look,List.map_nil,wNil,r_var,oget_s]
   refine ⟨(List.range 4).map λj=>A2 (4*kk+j),_,by rw [List.map_map];rfl,by simp,?_⟩
   rw [List.map_map]
   exact hQ
  ·have e1':((List.range m2).map λk=>D.tup ((List.range 4).map λj=>.int (A2 (4*k+j)))).map (nmF (· + mny (4*m1+e1) A1))=(List.range m2).map λk=>D.tup ((List.range 4).map λj=>.int ((λy=>A2 y+mny (4*m1+e1) A1) (4*k+j))):=by
    rw [List.map_map];rfl
   rw [e1']
   have c1:(List.range m1).map (λk=>D.tup ((List.range 4).map λj=>.int (M.anw A1 (4*m1+e1) (4*k+j))))++(List.range m2).map (λk=>D.tup ((List.range 4).map λj=>.int ((λy=>A2 y+mny (4*m1+e1) A1) (4*k+j))))=(List.range (m1+m2)).map λk=>D.tup ((List.range 4).map λj=>.int (twoA m1 e1 m2 A1 A2 (4*k+j))):=by
    rw [range_addD]
    congr 1
    ·refine List.map_congr_left λk hk=>congrArg D.tup (List.map_congr_left λj hj=>congrArg D.int ?_)
     have hk:=List.mem_range.mp hk
     have hj:=List.mem_range.mp hj
     have z:=bth1 (m1:=m1) (e1:=e1) (m2:=m2) (A1:=M.anw A1 (4*m1+e1)) (A2:=λy=>A2 y+mny (4*m1+e1) A1) (x:=4*k+j) (by omega)
     rcases emb_t m1 e1 m2 (4*k+j) with ⟨_,q⟩ | ⟨q,_⟩
     ·rw [q] at z;exact z.symm
     ·omega
    ·refine List.map_congr_left λk hk=>congrArg D.tup (List.map_congr_left λj hj=>congrArg D.int ?_)
     have hk:=List.mem_range.mp hk
     have hj:=List.mem_range.mp hj
     have z:=bth2 (m1:=m1) (e1:=e1) (m2:=m2) (e2:=e2) (A1:=M.anw A1 (4*m1+e1)) (A2:=λy=>A2 y+mny (4*m1+e1) A1) (x:=4*k+j) (by omega)
     rcases emb_f m1 e1 m2 (4*k+j) with ⟨_,q⟩ | ⟨q,_⟩
     ·rw [q,show 4*k+j+4*m1=4*(m1+k)+j by omega] at z;exact z.symm
     ·omega
   have c2:(List.range e1).map (λj=>D.int (M.anw A1 (4*m1+e1) (4*m1+j)))++(List.range e2).map (λj=>D.int ((λy=>A2 y+mny (4*m1+e1) A1) (4*m2+j)))=(List.range (e1+e2)).map λj=>.int (twoA m1 e1 m2 A1 A2 (4*(m1+m2)+j)):=by
    rw [range_addD]
    congr 1
    ·refine List.map_congr_left λj hj=>congrArg D.int ?_
     have hj:=List.mem_range.mp hj
     have z:=bth1 (m1:=m1) (e1:=e1) (m2:=m2) (A1:=M.anw A1 (4*m1+e1)) (A2:=λy=>A2 y+mny (4*m1+e1) A1) (x:=4*m1+j) (by omega)
     rcases emb_t m1 e1 m2 (4*m1+j) with ⟨q,_⟩ | ⟨_,q⟩
     ·omega
     ·rw [q,show 4*m1+j+4*m2=4*(m1+m2)+j by omega] at z;exact z.symm
    ·refine List.map_congr_left λj hj=>congrArg D.int ?_
     have hj:=List.mem_range.mp hj
     have z:=bth2 (m1:=m1) (e1:=e1) (m2:=m2) (e2:=e2) (A1:=M.anw A1 (4*m1+e1)) (A2:=λy=>A2 y+mny (4*m1+e1) A1) (x:=4*m2+j) (by omega)
     rcases emb_f m1 e1 m2 (4*m2+j) with ⟨q,_⟩ | ⟨_,q⟩
     ·omega
     ·rw [q,show 4*m2+j+4*m1+e1=4*(m1+m2)+(e1+j) by omega] at z;exact z.symm
   have pc2:pureL ((List.range m2).map λk=>D.tup ((List.range 4).map λj=>.int ((λy=>A2 y+mny (4*m1+e1) A1) (4*k+j))))=true:=pcr m2 λy=>A2 y+mny (4*m1+e1) A1
   simp only [List.set_cons_succ,List.set_cons_zero,look,oget_s,r_ixT,atI_2,List.getElem?_cons_succ,List.getElem?_cons_zero,r2_add,D.pure,Bool.and_true,atI_1,r_tupL,pc2,r2_addT,pcr,List.length_map,List.length_range,c1,Bool.true_and,true_and]
   refine ⟨Nat.le_of_lt (big (by omega)),(List.range e2).map λj=>A2 (4*m2+j),_,by rw [List.map_map];rfl,by simp;omega,?_⟩
   rw [List.map_map]
   have e3:(List.range e2).map ((λn=>D.int (n+mny (4*m1+e1) A1)) ∘ λj=>A2 (4*m2+j))=(List.range e2).map (λj=>D.int ((λy=>A2 y+mny (4*m1+e1) A1) (4*m2+j))):=rfl
   rw [e3]
   have pi2:pureL ((List.range e2).map (λj=>D.int ((λy=>A2 y+mny (4*m1+e1) A1) (4*m2+j))))=true:=pureL_map λ_ _=>rfl
   simp only [r2_addT,pin,pi2,List.length_map,List.length_range,D.pure,c2,true_and]
   exact ⟨Nat.le_of_lt (big (by omega)),k⟩
def itS (m e1:Nat) (x:Nat × (Nat->Int) × Int):Nat->Nat × (Nat->Int) × Int
 | 0=>x
 | k+1=>((M.rest (itS m e1 x k).1 (e1-1-k) (aft (itS m e1 x k).1 (e1-1-k))).length,shA m (itS m e1 x k).1 (e1-1-k) (itS m e1 x k).2.1,shR m (itS m e1 x k).1 (e1-1-k) (itS m e1 x k).2.1 (itS m e1 x k).2.2)
theorem it_len {m e1 e2:Nat} {B:Nat->Int} {r:Int}:∀k,k<=e1->k<=e2->(itS m e1 (e1+e2,B,r) k).1+2*k=e1+e2
 | 0,_,_=>rfl
 | k+1,h1,h2=>by
  have ih:=it_len (m:=m) (B:=B) (r:=r) k (by omega:k<=e1) (by omega:k<=e2)
  have:=M.rest_len (e:=(itS m e1 (e1+e2,B,r) k).1) (p:=e1-1-k) (by omega) (aft_lt (by omega)) (aft_ne (by omega) (by omega))
  show (M.rest _ _ _).length+_=_
  omega
def g_glued:GA:=λds k=>∃(m1 e1:Nat) (A1:Nat->Int) (r1:Int) (m2 e2:Nat) (A2:Nat->Int) (r2:Int) (c:Nat),ds=[webD m1 e1 A1 r1,webD m2 e2 A2 r2,.int c]/\m1<=10/\e1<=10/\m2<=10/\e2<=10/\c<=e1/\c<=e2 /\
 k (webD (m1+m2) (itS (m1+m2) e1 (e1+e2,twoA m1 e1 m2 A1 A2,r1+r2) c).1 (M.anw (itS (m1+m2) e1 (e1+e2,twoA m1 e1 m2 A1 A2,r1+r2) c).2.1 (4*(m1+m2)+(itS (m1+m2) e1 (e1+e2,twoA m1 e1 m2 A1 A2,r1+r2) c).1)) (itS (m1+m2) e1 (e1+e2,twoA m1 e1 m2 A1 A2,r1+r2) c).2.2)
abbrev s_glued:Stmt:=top 12
theorem sc_glued:FnScope ["one","other","many","web","k"] ["one","other","many"] (defScope s_glued):=⟨rfl,rfl,rfl,by decide +kernel,rfl,by decide +kernel,by decide +kernel⟩
def t_glued:Tg:={ own:=λi=>i == 3 || i == 4,io:=[] }
def w_glued:WS:=(wSeq (wSet 3 (wCall g_both (wCons (wVar 0) (wCons (wVar 1) wNil))))
 (wSeq (wFor (wRng1 (wCons (wVar 2) wNil)) (gN 4) (wSet 3 (wCall g_shut_as_named (wCons (wVar 3) (wCons (wBin dSub (wBin dSub (wCall dLen (wCons (wBin dIx (wVar 0) (wC (.int 1))) wNil)) (wC (.int 1))) (wVar 4)) wNil)))))
 (wRet (wCall g_named_anew (wCons (wVar 3) wNil)))))
theorem b_glued {P:Program} {w:World} {K:PySem.W.Frag} {mg:Str->Option Value} {base:Heap} {f:Addr} (B:Bn mg) (C_named_anew:Cal P w K mg base "named_anew" 2 ["web"] (spR K g_named_anew)) (C_shut_as_named:Cal P w K mg base "shut_as_named" 2 ["web","place"] (spR K g_shut_as_named)) (C_both:Cal P w K mg base "both" 3 ["one","other"] (spR K g_both)):∀(cdv:Value) (A:Around) (outer:List PySem.Env) (s:Shared) (H:Hp) (E:XK),Room 3 (A.deeper (envOfC "glued" (defScope s_glued) s.heap.objs.size f cdv))->SVs (cxOf CX0 P w K mg base ["one","other","many","web","k"] "glued" (defScope s_glued) f cdv A outer s H E).nox t_glued (defBody s_glued) w_glued:=λcdv A outer s H E hr =>
  (svs_cons (sv_set (i:=3) (ev_callC C_both (hr.mono (by decide)) (av_cons (ev_var 0) (av_cons (ev_var 1) av_nil))) sc_glued.nd)
  (svs_cons (sv_for PassesOwn.never (iv_range1 B.nb_range (av_cons (ev_var 2) av_nil)) (gv_name (i:=4) sc_glued.nd) (svs_one (sv_set (i:=3) (ev_callC C_shut_as_named (hr.mono (by decide)) (av_cons (ev_var 3) (av_cons (ev_op od_sub (ev_op od_sub (ev_callB cd_len B.nb_len bt_len (av_cons (ev_ix (xd_ix (hu_of hr)) (ev_var 0) ev_int) av_nil)) ev_int) (ev_var 4)) av_nil))) sc_glued.nd)))
  (svs_one (sv_ret (ev_callC C_named_anew (hr.mono (by decide)) (av_cons (ev_var 3) av_nil))))))
theorem ok_glued {P:Program} {w:World} {K:PySem.W.Frag} {mg:Str->Option Value} {base:Heap} {f:Addr} {fd:FuncData} (F:Fun K "glued" "glued" s_glued f fd) (B:Bn mg) (C1:Cal P w K mg base "named_anew" 2 ["web"] (spR K g_named_anew)) (C2:Cal P w K mg base "shut_as_named" 2 ["web","place"] (spR K g_shut_as_named)) (C3:Cal P w K mg base "both" 3 ["one","other"] (spR K g_both)):FnOk P w K mg base CX0 4 f fd ["one","other","many"] (spR K g_glued):=by
 refine fn_ro (T:=t_glued) F sc_glued rfl (by decide) (λds kk h=>?_) (b_glued B C1 C2 C3) (λds kk h=>?_)
 ·obtain ⟨m1,e1,A1,r1,m2,e2,A2,r2,c,rfl,_⟩:=h
  rfl
 ·obtain ⟨m1,e1,A1,r1,m2,e2,A2,r2,c,rfl,hm1,he1,hm2,he2,hc1,hc2,k⟩:=h
  generalize hx:(e1+e2,twoA m1 e1 m2 A1 A2,r1+r2)=x at k
  have hlen:∀k,k<=c->(itS (m1+m2) e1 x k).1+2*k=e1+e2:=λk hk=>by rw [← hx];exact it_len k (by omega) (by omega)
  have hl1:∀(kq:D->Prop),dIx (webD m1 e1 A1 r1) (.int 1) (λd=>dLen [d] kq)=kq (.int e1):=λkq=>by
   simp only [webD,r_ixT,atI_1,List.getElem?_cons_succ,List.getElem?_cons_zero,oget_s,r_lenT,List.length_map,List.length_range]
  simp only [w_glued,wSeq,wSet,wCall,wCons,env0,List.map_cons,List.map_nil,List.length_cons,List.length_nil,Nat.zero_add,Nat.reduceAdd,List.replicate,List.cons_append,List.nil_append,wNil,r_for,r_rng1,r_var,look,List.set_cons_succ,List.set_cons_zero,oget_s,r_rng1I,Int.reducePow,Int.reduceNeg,Int.toNat_natCast]
  refine ⟨m1,e1,A1,r1,m2,e2,A2,r2,rfl,by omega,by omega,by omega,by omega,?_⟩
  simp only [Int.reduceNeg]
  refine ⟨by omega,by omega,pure_rngD,λt ρ=>∃o4:Option D,t<=c/\ρ=[some (webD m1 e1 A1 r1),some (webD m2 e2 A2 r2),some (.int c),some (webD (m1+m2) (itS (m1+m2) e1 x t).1 (itS (m1+m2) e1 x t).2.1 (itS (m1+m2) e1 x t).2.2),o4],⟨none,Nat.zero_le _,by rw [← hx];rfl⟩,?_,?_⟩
  ·rintro t d ρ hd ⟨o4,_,rfl⟩
   obtain ⟨ht,rfl⟩:=rngD_get hd
   have hlt:=hlen t (by omega)
   simp only [gN,wSet,wCall,wCons,Int.zero_add,List.set_cons_succ,List.set_cons_zero,wBin,wC,wNil,r_var,look,oget_s,hl1,r_sub]
   rw [show (e1:Int)-1-(t:Int)=((e1-1-t:Nat):Int) by omega]
   exact ⟨m1+m2,_,_,_,e1-1-t,rfl,by omega,by omega,by omega,by omega,_,ht,rfl⟩
  ·rintro ρ ⟨o4,_,rfl⟩
   have hlt:=hlen c (Nat.le_refl _)
   simp only [wRet,wCall,wCons,rngD_length,wNil,r_var,look,oget_s]
   exact ⟨m1+m2,_,_,_,rfl,by omega,by omega,k⟩
end K53
namespace K53
open PySem PySem.Spec L2 PV
open PyProof.Rows (envOfC)
theorem rest_adj {e p:Nat} (h:p+1<e):M.rest e p (p+1)=List.range p++(List.range (e-p-2)).map (p+2 + ·):=by
 unfold M.rest
 have e1:List.range e=List.range p++((List.range 2).map (p + ·)++(List.range (e-p-2)).map (p+2 + ·)):=by
  have:e=p+(2+(e-p-2)):=by omega
  rw [this,List.range_add,List.range_add,List.map_append,List.map_map]
  congr 2
  rw [show p+(2+(e-p-2))-p-2=e-p-2 by omega]
  refine List.map_congr_left λa _=>?_
  show p+(2+a)=p+2+a
  omega
 rw [e1,List.filter_append,List.filter_append]
 have f1:(List.range p).filter (λj=>decide (j≠p/\j≠p+1))=List.range p:=List.filter_eq_self.mpr λa ha=>by
  have:=List.mem_range.mp ha
  exact decide_eq_true ⟨by omega,by omega⟩
 have f2:((List.range 2).map (p + ·)).filter (λj=>decide (j≠p/\j≠p+1))=[]:=List.filter_eq_nil_iff.mpr λa ha=>by
  obtain ⟨b,hb,rfl⟩:=List.mem_map.mp ha
  have:=List.mem_range.mp hb
  simp only [decide_eq_true_eq]
  omega
 have f3:((List.range (e-p-2)).map (p+2 + ·)).filter (λj=>decide (j≠p/\j≠p+1))=(List.range (e-p-2)).map (p+2 + ·):=List.filter_eq_self.mpr λa ha=>by
  obtain ⟨b,hb,rfl⟩:=List.mem_map.mp ha
  exact decide_eq_true ⟨by omega,by omega⟩
 rw [f1,f2,f3,List.nil_append]
theorem old_adj {m e p i:Nat} (h:p+1<e) (hi:i<4*m+(e-2)):M.old m e p (p+1) i=if i<4*m+p then i else i+2:=by
 by_cases h1:i<4*m
 ·rw [M.old_in h1,if_pos (by omega)]
 ·obtain ⟨j,rfl⟩:∃j,i=4*m+j:=⟨i-4*m,by omega⟩
  rw [M.old_out,rest_adj h,List.getD_eq_getElem?_getD]
  by_cases h2:j<p
  ·rw [List.getElem?_append_left (by simpa using h2),List.getElem?_range h2,if_pos (by omega)]
   rfl
  ·rw [List.getElem?_append_right (by simp;omega),List.length_range,List.getElem?_map,List.getElem?_range (by omega),if_neg (by omega)]
   show 4*m+(p+2+(j-p))=_
   omega
def sG (m e1 k i:Nat):Int × Int:=if i<4*m then M.sp m i else if i-4*m<e1-k then (-1,((i-4*m:Nat):Int)) else (-2,((i-4*m-(e1-k)+k:Nat):Int))
theorem sG_in {m e1 k i:Nat} (h:i<4*m):sG m e1 k i=M.sp m i:=if_pos h
theorem sG_a {m e1 k j:Nat} (h:j<e1-k):sG m e1 k (4*m+j)=(-1,(j:Int)):=by
 unfold sG
 rw [if_neg (by omega),if_pos (by omega),show 4*m+j-4*m=j by omega]
theorem sG_b {m e1 k j:Nat} (h:e1-k<=j):sG m e1 k (4*m+j)=(-2,((j-(e1-k)+k:Nat):Int)):=by
 unfold sG
 rw [if_neg (by omega),if_neg (by omega),show 4*m+j-4*m=j by omega]
theorem sp_nn {m i:Nat} (h:i<4*m):0<=(M.sp m i).1:=by
 unfold M.sp
 rw [if_pos h]
 show (0:Int)<=((i / 4:Nat):Int)
 omega
theorem sG_inj {m e1 k i j:Nat} (h:sG m e1 k i=sG m e1 k j):i=j:=by
 have three:∀i,(i<4*m/\sG m e1 k i=M.sp m i)\/(∃a,i=4*m+a/\a<e1-k/\sG m e1 k i=(-1,(a:Int)))\/(∃a,i=4*m+a/\e1-k<=a/\sG m e1 k i=(-2,((a-(e1-k)+k:Nat):Int))):=λi=>by
  by_cases h1:i<4*m
  ·exact .inl ⟨h1,sG_in h1⟩
  ·by_cases h2:i-4*m<e1-k
   ·exact .inr (.inl ⟨i-4*m,by omega,h2,by rw [← sG_a (m:=m) h2,show 4*m+(i-4*m)=i by omega]⟩)
   ·exact .inr (.inr ⟨i-4*m,by omega,by omega,by rw [← sG_b (m:=m) (show e1-k<=i-4*m by omega),show 4*m+(i-4*m)=i by omega]⟩)
 rcases three i with ⟨i1,q⟩ | ⟨a,i1,i2,q⟩ | ⟨a,i1,i2,q⟩ <;> rcases three j with ⟨j1,r⟩ | ⟨b,j1,j2,r⟩ | ⟨b,j1,j2,r⟩ <;> rw [q,r] at h
 ·exact M.sp_inj h
 ·have:=sp_nn i1;have z:=congrArg Prod.fst h;dsimp only at z;omega
 ·have:=sp_nn i1;have z:=congrArg Prod.fst h;dsimp only at z;omega
 ·have:=sp_nn j1;have z:=congrArg Prod.fst h;dsimp only at z;omega
 ·have z:=congrArg Prod.snd h;dsimp only at z;omega
 ·have z:=congrArg Prod.fst h;dsimp only at z;omega
 ·have:=sp_nn j1;have z:=congrArg Prod.fst h;dsimp only at z;omega
 ·have z:=congrArg Prod.fst h;dsimp only at z;omega
 ·have z:=congrArg Prod.snd h;dsimp only at z;omega
def mv (m1:Nat) (q:Int × Int):Int × Int:=if q.1<0 then (-2,q.2) else (q.1+(m1:Int),q.2)
theorem sG_1 {m1 e1 m2 x:Nat} (hx:x<4*m1+e1):sG (m1+m2) e1 0 (emb m1 e1 m2 true x)=M.sp m1 x:=by
 rcases emb_t m1 e1 m2 x with ⟨z,e⟩ | ⟨z,e⟩ <;> rw [e]
 ·rw [sG_in (by omega)]
  unfold M.sp
  rw [if_pos (by omega),if_pos z]
 ·obtain ⟨j,rfl⟩:∃j,x=4*m1+j:=⟨x-4*m1,by omega⟩
  rw [show 4*m1+j+4*m2=4*(m1+m2)+j by omega,sG_a (by omega),M.sp_out]
theorem sG_2 {m1 e1 m2 y:Nat}:sG (m1+m2) e1 0 (emb m1 e1 m2 false y)=mv m1 (M.sp m2 y):=by
 rcases emb_f m1 e1 m2 y with ⟨z,e⟩ | ⟨z,e⟩ <;> rw [e]
 ·rw [sG_in (by omega)]
  unfold mv
  rw [if_neg (by have:=sp_nn z;omega)]
  unfold M.sp
  rw [if_pos (by omega),if_pos z]
  refine Prod.ext ?_ ?_
  ·show (((y+4*m1) / 4:Nat):Int)=((y / 4:Nat):Int)+(m1:Int)
   omega
  ·show (((y+4*m1) % 4:Nat):Int)=((y % 4:Nat):Int)
   omega
 ·obtain ⟨j,rfl⟩:∃j,y=4*m2+j:=⟨y-4*m2,by omega⟩
  rw [show 4*m2+j+4*m1+e1=4*(m1+m2)+(e1+j) by omega,sG_b (by omega),M.sp_out]
  unfold mv
  rw [if_pos (show (-1:Int)<0 by decide)]
  refine Prod.ext rfl ?_
  show ((e1+j-(e1-0)+0:Nat):Int)=(j:Int)
  omega
theorem val_mem {T:List (List Key × D)} {k:List Key} {d:D} (h:valD T k=some d):∃j,j<T.length/\(T[j]?).map (·.1)=some k:=by
 unfold valD at h
 cases q:T.find? (λkv=>decide (kv.1=k)) with
 | none=>rw [q] at h;cases h
 | some kv =>
  obtain ⟨j,hj,e⟩:=List.getElem_of_mem (List.mem_of_find?_eq_some q)
  refine ⟨j,hj,?_⟩
  rw [List.getElem?_eq_getElem hj,e]
  have:=List.find?_some q
  exact congrArg some (of_decide_eq_true this)
end K53
namespace K53
open PySem PySem.Spec L2 PV
open PyProof.Rows (envOfC)
open M (tie)
def rg (G:Nat->Nat) (a b:Nat):Int:=if G a=b then 1 else 0
structure Prt (S:Nat->Prop) (G:Nat->Nat):Prop where
 st:∀x,S x->S (G x)
 ne:∀x,S x->G x≠x
 inv:∀x,S x->G (G x)=x
theorem Prt.inj {S:Nat->Prop} {G:Nat->Nat} (P:Prt S G) {x y:Nat} (hx:S x) (hy:S y) (h:G x=G y):x=y:=by rw [← P.inv x hx,h,P.inv y hy]
def less (S:Nat->Prop) (a b:Nat):Nat->Prop:=λx=>S x/\x≠a/\x≠b
theorem Prt.tie {S:Nat->Prop} {G:Nat->Nat} (P:Prt S G) {a b:Nat} (ha:S a) (hb:S b) (hab:a≠b):Prt (less S a b) (tie G a b):=by
 have key:∀x,less S a b x->less S a b (M.tie G a b x)/\M.tie G a b x≠x/\M.tie G a b (M.tie G a b x)=x:=λx ⟨hx,h1,h2⟩=>by
  have sa:=P.st a ha;have sb:=P.st b hb;have sx:=P.st x hx
  have na:=P.ne a ha;have nb:=P.ne b hb;have nx:=P.ne x hx
  have ia:=P.inv a ha;have ib:=P.inv b hb;have ix:=P.inv x hx
  have gab:G a≠G b:=λz=>hab (P.inj ha hb z)
  unfold M.tie
  by_cases c1:x=G a
  ·rw [if_pos c1]
   have q:G b≠a:=λz=>h2 (by rw [c1,← z,ib])
   refine ⟨⟨sb,q,nb⟩,λz=>gab (by rw [← c1,z]),?_⟩
   rw [if_neg (λz=>gab z.symm),if_pos rfl,c1]
  ·rw [if_neg c1]
   by_cases c2:x=G b
   ·rw [if_pos c2]
    have q:G a≠b:=λz=>h1 (by rw [c2,← z,ia])
    refine ⟨⟨sa,na,q⟩,λz=>c1 z.symm,?_⟩
    rw [if_pos rfl,c2]
   ·rw [if_neg c2]
    have q1:G x≠a:=λz=>c1 (by rw [← z,ix])
    have q2:G x≠b:=λz=>c2 (by rw [← z,ix])
    refine ⟨⟨sx,q1,q2⟩,nx,?_⟩
    rw [if_neg (λz=>h1 (P.inj hx ha z)),if_neg (λz=>h2 (P.inj hx hb z)),ix]
 exact ⟨λx hx=>(key x hx).1,λx hx=>(key x hx).2.1,λx hx=>(key x hx).2.2⟩
theorem joinG {S:Nat->Prop} {G:Nat->Nat} {s:Nat->Int × Int} {T U:List (List Key × D)} {ring:Int} {a b:Nat} (P:Prt S G) (inj:∀i j,S i->S j->s i=s j->i=j) (hT:∀i,S i->valD T (sk (s i))=some (sd (s (G i)))) (ha:S a) (hb:S b) (hab:a≠b)
  (hc:(s (G a)=s b/\ring=1/\(∀x,x≠sk (s a)->x≠sk (s b)->valD U x=valD T x))\/(s (G a)≠s b/\ring=0/\∀x,x≠sk (s a)->x≠sk (s b)->valD U x=if x=sk (s (G b)) then some (sd (s (G a))) else if x=sk (s (G a)) then some (sd (s (G b))) else valD T x)) :
  ring=rg G a b/\∀i,less S a b i->valD U (sk (s i))=some (sd (s (tie G a b i))):=by
 have sa:=P.st a ha
 have sb:=P.st b hb
 refine ⟨?_,λi ⟨hi,o2,o3⟩=>?_⟩
 ·unfold rg
  rcases hc with ⟨z,rfl,_⟩ | ⟨z,rfl,_⟩
  ·rw [if_pos (inj _ _ sa hb z)]
  ·rw [if_neg (λq=>z (by rw [q]))]
 ·have n1:sk (s i)≠sk (s a):=λz=>o2 (inj _ _ hi ha (sk_inj z))
  have n2:sk (s i)≠sk (s b):=λz=>o3 (inj _ _ hi hb (sk_inj z))
  unfold M.tie
  rcases hc with ⟨z,_,hv⟩ | ⟨z,_,hv⟩
  ·rw [hv _ n1 n2,hT _ hi]
   have z:=inj _ _ sa hb z
   have z2:G b=a:=by rw [← z,P.inv a ha]
   rw [z,z2,if_neg o3,if_neg o2]
  ·rw [hv _ n1 n2]
   by_cases c1:i=G b
   ·rw [if_pos (by rw [c1])]
    by_cases c2:i=G a
    ·exact absurd (P.inj ha hb (c2.symm.trans c1)) hab
    ·rw [if_neg c2,if_pos c1]
   ·rw [if_neg (λz=>c1 (inj _ _ hi sb (sk_inj z)))]
    by_cases c2:i=G a
    ·rw [if_pos (by rw [c2]),if_pos c2]
    ·rw [if_neg (λz=>c2 (inj _ _ hi sa (sk_inj z))),if_neg c2,if_neg c1,hT _ hi]
theorem tie_comm {S:Nat->Prop} {G:Nat->Nat} (P:Prt S G) {a b x:Nat} (ha:S a) (hb:S b) (hab:a≠b):tie G a b x=tie G b a x:=by
 unfold M.tie
 by_cases c1:x=G a
 ·by_cases c2:x=G b
  ·exact absurd (P.inj ha hb (c1.symm.trans c2)) hab
  ·rw [if_pos c1,if_neg c2,if_pos c1]
 ·by_cases c2:x=G b
  ·rw [if_neg c1,if_pos c2,if_pos c2]
  ·rw [if_neg c1,if_neg c2,if_neg c2,if_neg c1]
theorem rg_comm {S:Nat->Prop} {G:Nat->Nat} (P:Prt S G) {a b:Nat} (ha:S a) (hb:S b):rg G a b=rg G b a:=by
 unfold rg
 by_cases c:G a=b
 ·rw [if_pos c,if_pos (by rw [← c,P.inv a ha])]
 ·rw [if_neg c,if_neg (λz=>c (by rw [← z,P.inv b hb]))]
theorem tie_swap {S:Nat->Prop} {G:Nat->Nat} (P:Prt S G) {a b c d x:Nat} (ha:S a) (hb:S b) (hc:S c) (hd:S d) (hx:S x) (hab:a≠b) (hac:a≠c) (had:a≠d) (hbc:b≠c) (hbd:b≠d) (hcd:c≠d) (xa:x≠a) (xb:x≠b) (xc:x≠c) (xd:x≠d) :
  tie (tie G a b) c d x=tie (tie G c d) a b x:=by
 have ia:=P.inv a ha;have ib:=P.inv b hb;have ic:=P.inv c hc;have id:=P.inv d hd;have ix:=P.inv x hx
 clear P ha hb hc hd hx
 unfold M.tie
 grind (splits:=30)
theorem rg_swap {S:Nat->Prop} {G:Nat->Nat} (P:Prt S G) {a b c d:Nat} (ha:S a) (hb:S b) (hc:S c) (hd:S d) (hab:a≠b) (hac:a≠c) (had:a≠d) (hbc:b≠c) (hbd:b≠d) (hcd:c≠d) :
  rg G a b+rg (tie G a b) c d=rg G c d+rg (tie G c d) a b:=by
 have ia:=P.inv a ha;have ib:=P.inv b hb;have ic:=P.inv c hc;have id:=P.inv d hd
 clear P ha hb hc hd
 unfold rg M.tie
 grind (splits:=30)
structure Out (m e:Nat) (A:Nat->Int) (h o:Nat->Nat) (S:Nat->Prop) (G:Nat->Nat):Prop where
 tw:M.Tw (4*m+e) A h
 mem:∀i,i<4*m+e->S (o i)
 inj:∀i j,i<4*m+e->j<4*m+e->o i=o j->i=j
 map:∀i,i<4*m+e->o (h i)=G (o i)
 fix:∀i,i<4*m->o i=i
theorem tie_map {n:Nat} {h o G:Nat->Nat} {a b x:Nat} (lt:∀i,i<n->h i<n) (inj:∀i j,i<n->j<n->o i=o j->i=j) (map:∀i,i<n->o (h i)=G (o i)) (ha:a<n) (hb:b<n) (hx:x<n):o (tie h a b x)=tie G (o a) (o b) (o x):=by
 unfold M.tie
 rw [← map a ha,← map b hb,← map x hx]
 by_cases c1:x=h a
 ·rw [if_pos c1,if_pos (by rw [c1])]
 ·rw [if_neg c1,if_neg (λz=>c1 (inj _ _ hx (lt a ha) z))]
  by_cases c2:x=h b
  ·rw [if_pos c2,if_pos (by rw [c2])]
  ·rw [if_neg c2,if_neg (λz=>c2 (inj _ _ hx (lt b hb) z))]
theorem Out.shut {m e:Nat} {A:Nat->Int} {h o:Nat->Nat} {S:Nat->Prop} {G:Nat->Nat} {p:Nat} (O:Out m e A h o S G) (hp:p<e) (he:2<=e) (r:Int) :
  (∃h',Out m (M.rest e p (aft e p)).length (shA m e p A) h' (λi=>o (M.old m e p (aft e p) i)) (less S (o (4*m+p)) (o (4*m+aft e p))) (tie G (o (4*m+p)) (o (4*m+aft e p))))/\shR m e p A r=r+rg G (o (4*m+p)) (o (4*m+aft e p)):=by
 have hq:=aft_lt (p:=p) (show 0<e by omega)
 have hpq:=aft_ne he hp
 obtain ⟨h',tw',hh⟩:=M.shut_tw O.tw hp hq hpq
 have la:4*m+p<4*m+e:=by omega
 have lb:4*m+aft e p<4*m+e:=by omega
 refine ⟨⟨h',tw',λi hi=>?_,λi j hi hj z=>?_,λi hi=>?_,λi hi=>?_⟩,?_⟩
 ·obtain ⟨o1,o2,o3⟩:=M.old_lt (m:=m) hi
  exact ⟨O.mem _ o1,λz=>o2 (O.inj _ _ o1 la z),λz=>o3 (O.inj _ _ o1 lb z)⟩
 ·exact M.old_inj hi hj (O.inj _ _ (M.old_lt (m:=m) hi).1 (M.old_lt (m:=m) hj).1 z)
 ·show o (M.old m e p (aft e p) (h' i))=_
  rw [hh i hi,tie_map O.tw.lt O.inj O.map la lb (M.old_lt (m:=m) hi).1]
 ·show o (M.old m e p (aft e p) i)=i
  rw [M.old_in hi,O.fix i hi]
 ·unfold shR rg
  rw [← O.map _ la]
  by_cases c:A (4*m+p)=A (4*m+aft e p)
  ·rw [if_pos c,if_pos]
   rcases O.tw.only _ _ la lb c.symm with z | z
   ·omega
   ·rw [z]
  ·rw [if_neg c,if_neg,Int.add_zero]
   intro z
   exact c (by rw [← O.inj _ _ (O.tw.lt _ la) lb z,O.tw.eq _ la])
theorem Out.named {m e:Nat} {A:Nat->Int} {h o:Nat->Nat} {S:Nat->Prop} {G:Nat->Nat} (O:Out m e A h o S G):Out m e (M.anw A (4*m+e)) h o S G:=⟨anw_tw O.tw,O.mem,O.inj,O.map,O.fix⟩
theorem Out.perm {m e:Nat} {A:Nat->Int} {h o:Nat->Nat} {S:Nat->Prop} {G:Nat->Nat} {u v:Nat->Nat} (O:Out m e A h o S G) (hu:∀i,i<4*m+e->u i<4*m+e) (hv:∀i,i<4*m+e->v i<4*m+e) (uv:∀i,i<4*m+e->u (v i)=i) (vu:∀i,i<4*m+e->v (u i)=i) (fu:∀i,i<4*m->u i=i) :
  Out m e (λi=>A (u i)) (λi=>v (h (u i))) (λi=>o (u i)) S G:=by
 have ui:∀i j,i<4*m+e->j<4*m+e->u i=u j->i=j:=λi j hi hj z=>by rw [← vu i hi,z,vu j hj]
 refine ⟨⟨λi hi=>hv _ (O.tw.lt _ (hu i hi)),λi hi z=>?_,λi hi=>?_,λi k hi hk z=>?_⟩,λi hi=>O.mem _ (hu i hi),λi j hi hj z=>ui i j hi hj (O.inj _ _ (hu i hi) (hu j hj) z),λi hi=>?_,λi hi=>?_⟩
 ·have:=congrArg u z
  rw [uv _ (O.tw.lt _ (hu i hi))] at this
  exact O.tw.ne _ (hu i hi) this
 ·show A (u (v (h (u i))))=_
  rw [uv _ (O.tw.lt _ (hu i hi)),O.tw.eq _ (hu i hi)]
 ·rcases O.tw.only _ _ (hu i hi) (hu k hk) z with q | q
  ·exact .inl (ui k i hk hi q)
  ·exact .inr (by rw [← q,vu k hk])
 ·show o (u (v (h (u i))))=_
  rw [uv _ (O.tw.lt _ (hu i hi)),O.map _ (hu i hi)]
 ·show o (u i)=i
  rw [fu i hi,O.fix i hi]
theorem Out.trans {m e:Nat} {A:Nat->Int} {h o f:Nat->Nat} {S S':Nat->Prop} {G G':Nat->Nat} (O:Out m e A h o S G) (fs:∀x,S x->S' (f x)) (fi:∀x y,S x->S y->f x=f y->x=y) (fm:∀x,S x->f (G x)=G' (f x)) (ff:∀x,x<4*m->f x=x):Out m e A h (λi=>f (o i)) S' G' :=
 ⟨O.tw,λi hi=>fs _ (O.mem i hi),λi j hi hj z=>O.inj i j hi hj (fi _ _ (O.mem i hi) (O.mem j hj) z),λi hi=>by show f (o (h i))=_;rw [O.map i hi,fm _ (O.mem i hi)],λi hi=>by show f (o i)=i;rw [O.fix i hi,ff i hi]⟩
theorem Out.congr {m e:Nat} {A:Nat->Int} {h o o':Nat->Nat} {S S':Nat->Prop} {G G':Nat->Nat} (O:Out m e A h o S G) (ho:∀i,i<4*m+e->o i=o' i) (hs:∀x,S x->S' x) (hg:∀x,S x->G x=G' x):Out m e A h o' S' G' :=
 ⟨O.tw,λi hi=>by rw [← ho i hi];exact hs _ (O.mem i hi),λi j hi hj z=>O.inj i j hi hj (by rw [ho i hi,ho j hj,z]),λi hi=>by rw [← ho i hi,← ho _ (O.tw.lt i hi),O.map i hi,hg _ (O.mem i hi)],λi hi=>by rw [← ho i (by omega)];exact O.fix i hi⟩
theorem Out.one {m e:Nat} {A:Nat->Int} {g:Nat->Nat} (T:M.Tw (4*m+e) A g):Out m e A g (λi=>i) (· < 4*m+e) g:=⟨T,λ_ h=>h,λ_ _ _ _ z=>z,λ_ _=>rfl,λ_ _=>rfl⟩
theorem prt_one {n:Nat} {A:Nat->Int} {g:Nat->Nat} (T:M.Tw n A g):Prt (· < n) g:=⟨T.lt,T.ne,λ_ h=>T.inv h⟩
end K53
namespace K53
open PySem PySem.Spec L2 PV
open PyProof.Rows (envOfC)
open M (tie)
def shf (m q i:Nat):Nat:=if i<4*m then i else 4*m+(i-4*m+q) % 4
theorem shf_in {m q i:Nat} (h:i<4*m):shf m q i=i:=if_pos h
theorem shf_out {m q j:Nat}:shf m q (4*m+j)=4*m+(j+q) % 4:=by
 unfold shf
 rw [if_neg (by omega),show 4*m+j-4*m=j by omega]
theorem shf_lt {m q i:Nat} (h:i<4*m+4):shf m q i<4*m+4:=by
 unfold shf
 split <;> omega
theorem shf_31 {m i:Nat} (h:i<4*m+4):shf m 3 (shf m 1 i)=i:=by
 by_cases h1:i<4*m
 ·rw [shf_in h1,shf_in h1]
 ·obtain ⟨j,rfl⟩:∃j,i=4*m+j:=⟨i-4*m,by omega⟩
  rw [shf_out,shf_out];omega
theorem shf_13 {m i:Nat} (h:i<4*m+4):shf m 1 (shf m 3 i)=i:=by
 by_cases h1:i<4*m
 ·rw [shf_in h1,shf_in h1]
 ·obtain ⟨j,rfl⟩:∃j,i=4*m+j:=⟨i-4*m,by omega⟩
  rw [shf_out,shf_out];omega
def g_shifted:GA:=λds k=>∃(m:Nat) (A:Nat->Int) (r:Int) (q:Nat),ds=[webD m 4 A r,.int q]/\(q=3\/q=1)/\k (webD m 4 (λi=>A (shf m q i)) r)
abbrev s_shifted:Stmt:=top 5
theorem sc_shifted:FnScope ["web","many"] ["web","many"] (defScope s_shifted):=⟨rfl,rfl,rfl,by decide +kernel,rfl,by decide +kernel,by decide +kernel⟩
def t_shifted:Tg:={ own:=λi=>false,io:=[] }
def w_shifted:WS:=(wRet (wLift (wTup (wCons (wBin dIx (wVar 0) (wC (.int 0))) (wCons (wBin dAddT (wSlT (wBin dIx (wVar 0) (wC (.int 1))) (wSome (wVar 1)) wNone) (wSlT (wBin dIx (wVar 0) (wC (.int 1))) wNone (wSome (wVar 1)))) (wCons (wBin dIx (wVar 0) (wC (.int 2))) wNil))))))
theorem b_shifted {P:Program} {w:World} {K:PySem.W.Frag} {mg:Str->Option Value} {base:Heap} {f:Addr} (B:Bn mg):∀(cdv:Value) (A:Around) (outer:List PySem.Env) (s:Shared) (H:Hp) (E:XK),Room 0 (A.deeper (envOfC "shifted" (defScope s_shifted) s.heap.objs.size f cdv))->SVs (cxOf CX0 P w K mg base ["web","many"] "shifted" (defScope s_shifted) f cdv A outer s H E).nox t_shifted (defBody s_shifted) w_shifted:=λcdv A outer s H E hr =>
  (svs_one (sv_ret (ev_lift (ev_tup (av_cons (ev_ix (xd_ix (hu_of hr)) (ev_var 0) ev_int) (av_cons (ev_op od_addT (ev_slT (ev_ix (xd_ix (hu_of hr)) (ev_var 0) ev_int) (ov_some (ev_var 1)) ov_none) (ev_slT (ev_ix (xd_ix (hu_of hr)) (ev_var 0) ev_int) ov_none (ov_some (ev_var 1)))) (av_cons (ev_ix (xd_ix (hu_of hr)) (ev_var 0) ev_int) av_nil)))))))
theorem ok_shifted {P:Program} {w:World} {K:PySem.W.Frag} {mg:Str->Option Value} {base:Heap} {f:Addr} {fd:FuncData} (F:Fun K "shifted" "shifted" s_shifted f fd) (B:Bn mg):FnOk P w K mg base CX0 1 f fd ["web","many"] (spR K g_shifted):=by
 refine fn_ro (T:=t_shifted) F sc_shifted rfl (by decide) (λds kk h=>?_) (b_shifted B) (λds kk h=>?_)
 ·obtain ⟨m,A,r,q,rfl,_⟩:=h
  rfl
 ·obtain ⟨m,A,r,q,rfl,hq,k⟩:=h
  have pc:pureL ((List.range m).map λk=>D.tup ((List.range 4).map λj=>.int (A (4*k+j))))=true:=pureL_map λ_ _=>by simp only [D.pure];exact pureL_map λ_ _=>rfl
  have pe:pureL ((List.range 4).map λj=>D.int (A (4*m+j)))=true:=pureL_map λ_ _=>rfl
  have hk:webD m 4 (λi=>A (shf m q i)) r=.tup [.tup ((List.range m).map λk=>.tup ((List.range 4).map λj=>.int (A (4*k+j)))),.tup ((List.range 4).map λj=>.int (A (4*m+(j+q) % 4))),.int r]:=by
   unfold webD
   have e1:(List.range m).map (λk=>D.tup ((List.range 4).map λj=>.int (A (shf m q (4*k+j)))))=(List.range m).map λk=>D.tup ((List.range 4).map λj=>.int (A (4*k+j))):=by
    refine List.map_congr_left λk hk=>congrArg D.tup (List.map_congr_left λj hj=>?_)
    have:=List.mem_range.mp hk
    have:=List.mem_range.mp hj
    rw [shf_in (by omega)]
   rw [e1]
   simp only [shf_out]
  rw [hk] at k
  have c1:cutD ((List.range 4).map λj=>D.int (A (4*m+j))) (some (q:Int)) none=((List.range 4).map λj=>D.int (A (4*m+j))).drop q:=cut_from (by simp;omega)
  have c2:cutD ((List.range 4).map λj=>D.int (A (4*m+j))) none (some (q:Int))=((List.range 4).map λj=>D.int (A (4*m+j))).take q:=cut_to
  have c3:((List.range 4).map λj=>D.int (A (4*m+j))).drop q++((List.range 4).map λj=>D.int (A (4*m+j))).take q=(List.range 4).map λj=>.int (A (4*m+(j+q) % 4)):=by
   rcases hq with rfl | rfl <;> rfl
  have p1:pureL (((List.range 4).map λj=>D.int (A (4*m+j))).drop q)=true:=pureL_iff.mpr λd hd=>pureL_iff.mp pe d (List.mem_of_mem_drop hd)
  have p2:pureL (((List.range 4).map λj=>D.int (A (4*m+j))).take q)=true:=pureL_iff.mpr λd hd=>pureL_iff.mp pe d (List.mem_of_mem_take hd)
  have p3:pureL ((List.range 4).map λj=>D.int (A (4*m+(j+q) % 4)))=true:=pureL_map λ_ _=>rfl
  simp only [w_shifted,wRet,wLift,wTup,wCons,wBin,env0,webD,List.map_cons,List.map_nil,List.length_cons,List.length_nil,Nat.zero_add,Nat.reduceAdd,List.cons_append,List.nil_append,wC,wSlT,wNone,wNil,sz3,D.pure,pureL,Bool.and_true,true_and,r_var,r_some,look,oget_s,r_ixT,atI_2,List.getElem?_cons_succ,List.getElem?_cons_zero,r_intOf,atI_1,r2_slT,pe,c2,c1,r2_addT,p1,p2,c3,p3,atI_0,pc]
  refine ⟨?_,k⟩
  simp
  exact Nat.le_of_lt (big (by omega))
def g_shut:GA:=λds k=>∃(m e:Nat) (A:Nat->Int) (r:Int) (p:Nat),ds=[webD m e A r,.int p]/\p<e/\2<=e/\m<=20/\e<=20/\k (webD m (M.rest e p (aft e p)).length (M.anw (shA m e p A) (4*m+(M.rest e p (aft e p)).length)) (shR m e p A r))
abbrev s_shut:Stmt:=top 9
theorem sc_shut:FnScope ["web","place"] ["web","place"] (defScope s_shut):=⟨rfl,rfl,rfl,by decide +kernel,rfl,by decide +kernel,by decide +kernel⟩
def t_shut:Tg:={ own:=λi=>false,io:=[] }
def w_shut:WS:=(wRet (wCall g_named_anew (wCons (wCall g_shut_as_named (wCons (wVar 0) (wCons (wVar 1) wNil))) wNil)))
theorem b_shut {P:Program} {w:World} {K:PySem.W.Frag} {mg:Str->Option Value} {base:Heap} {f:Addr} (B:Bn mg) (C_named_anew:Cal P w K mg base "named_anew" 2 ["web"] (spR K g_named_anew)) (C_shut_as_named:Cal P w K mg base "shut_as_named" 2 ["web","place"] (spR K g_shut_as_named)):∀(cdv:Value) (A:Around) (outer:List PySem.Env) (s:Shared) (H:Hp) (E:XK),Room 2 (A.deeper (envOfC "shut" (defScope s_shut) s.heap.objs.size f cdv))->SVs (cxOf CX0 P w K mg base ["web","place"] "shut" (defScope s_shut) f cdv A outer s H E).nox t_shut (defBody s_shut) w_shut:=λcdv A outer s H E hr =>
  (svs_one (sv_ret (ev_callC C_named_anew (hr.mono (by decide)) (av_cons (ev_callC C_shut_as_named (hr.mono (by decide)) (av_cons (ev_var 0) (av_cons (ev_var 1) av_nil))) av_nil))))
theorem ok_shut {P:Program} {w:World} {K:PySem.W.Frag} {mg:Str->Option Value} {base:Heap} {f:Addr} {fd:FuncData} (F:Fun K "shut" "shut" s_shut f fd) (B:Bn mg) (C1:Cal P w K mg base "named_anew" 2 ["web"] (spR K g_named_anew)) (C2:Cal P w K mg base "shut_as_named" 2 ["web","place"] (spR K g_shut_as_named)):FnOk P w K mg base CX0 3 f fd ["web","place"] (spR K g_shut):=by
 refine fn_ro (T:=t_shut) F sc_shut rfl (by decide) (λds kk h=>?_) (b_shut B C1 C2) (λds kk h=>?_)
 ·obtain ⟨m,e,A,r,p,rfl,_⟩:=h
  rfl
 ·obtain ⟨m,e,A,r,p,rfl,hp,he,hm,he2,k⟩:=h
  have hrl:=M.rest_len hp (aft_lt (p:=p) (show 0<e by omega)) (aft_ne he hp)
  simp only [w_shut,wRet,wCall,wCons,env0,List.map_cons,List.map_nil,List.length_cons,List.length_nil,Nat.zero_add,Nat.reduceAdd,List.cons_append,List.nil_append,wNil,r_var,look,oget_s]
  refine ⟨m,e,A,r,p,rfl,hp,he,by omega,by omega,?_⟩
  exact ⟨m,_,_,_,rfl,hm,by omega,k⟩
def Nm (n:Nat) (A:Nat->Int):Prop:=∀i,i<n->M.anw A n i=A i
theorem nm_anw {n:Nat} {A:Nat->Int}:Nm n (M.anw A n):=λ_ hi=>M.anw_anw hi
theorem anw_nn {n:Nat} {A:Nat->Int} (i:Nat):0<=M.anw A n i:=by unfold M.anw;omega
def g_quarter:GA:=λds k=>∃(m:Nat) (A:Nat->Int) (r:Int) (g:Nat->Nat),ds=[webD m 4 A r]/\M.Tw (4*m+4) A g/\m<=10/\∀(A':Nat->Int) (h:Nat->Nat),Out m 4 A' h (shf m 3) (· < 4*m+4) g->Nm (4*m+4) A'->(∀i,0<=A' i)->k (webD m 4 A' r)
abbrev s_quarter:Stmt:=top 14
theorem sc_quarter:FnScope ["one"] ["one"] (defScope s_quarter):=⟨rfl,rfl,rfl,by decide +kernel,rfl,by decide +kernel,by decide +kernel⟩
def t_quarter:Tg:={ own:=λi=>false,io:=[] }
def w_quarter:WS:=(wRet (wCall g_named_anew (wCons (wCall g_shifted (wCons (wVar 0) (wCons (wC (.int 3)) wNil))) wNil)))
theorem b_quarter {P:Program} {w:World} {K:PySem.W.Frag} {mg:Str->Option Value} {base:Heap} {f:Addr} (B:Bn mg) (C_named_anew:Cal P w K mg base "named_anew" 2 ["web"] (spR K g_named_anew)) (C_shifted:Cal P w K mg base "shifted" 1 ["web","many"] (spR K g_shifted)):∀(cdv:Value) (A:Around) (outer:List PySem.Env) (s:Shared) (H:Hp) (E:XK),Room 2 (A.deeper (envOfC "quarter" (defScope s_quarter) s.heap.objs.size f cdv))->SVs (cxOf CX0 P w K mg base ["one"] "quarter" (defScope s_quarter) f cdv A outer s H E).nox t_quarter (defBody s_quarter) w_quarter:=λcdv A outer s H E hr =>
  (svs_one (sv_ret (ev_callC C_named_anew (hr.mono (by decide)) (av_cons (ev_callC C_shifted (hr.mono (by decide)) (av_cons (ev_var 0) (av_cons ev_int av_nil))) av_nil))))
theorem ok_quarter {P:Program} {w:World} {K:PySem.W.Frag} {mg:Str->Option Value} {base:Heap} {f:Addr} {fd:FuncData} (F:Fun K "quarter" "quarter" s_quarter f fd) (B:Bn mg) (C1:Cal P w K mg base "named_anew" 2 ["web"] (spR K g_named_anew)) (C2:Cal P w K mg base "shifted" 1 ["web","many"] (spR K g_shifted)):FnOk P w K mg base CX0 3 f fd ["one"] (spR K g_quarter):=by
 refine fn_ro (T:=t_quarter) F sc_quarter rfl (by decide) (λds kk h=>?_) (b_quarter B C1 C2) (λds kk h=>?_)
 ·obtain ⟨m,A,r,g,rfl,_⟩:=h
  rfl
 ·obtain ⟨m,A,r,g,rfl,tw,hm,k⟩:=h
  simp only [w_quarter,wRet,wCall,wCons,env0,List.map_cons,List.map_nil,List.length_cons,List.length_nil,Nat.zero_add,List.cons_append,List.nil_append,wC,wNil,r_var,look,oget_s]
  refine ⟨m,A,r,3,rfl,.inl rfl,?_⟩
  refine ⟨m,4,_,r,rfl,by omega,by omega,?_⟩
  exact k _ _ ((Out.one tw).perm (u:=shf m 3) (v:=shf m 1) (λi hi=>shf_lt hi) (λi hi=>shf_lt hi) (λi hi=>shf_31 hi) (λi hi=>shf_13 hi) λi hi=>shf_in hi).named nm_anw anw_nn
def oB (m i:Nat):Nat:=if i<4*m+2 then i else i+4
abbrev S0 (m:Nat):Nat->Prop:=(· < 4*m+8)
def g_beside:GA:=λds k=>∃(m1:Nat) (A1:Nat->Int) (r1:Int) (g1:Nat->Nat) (m2:Nat) (A2:Nat->Int) (r2:Int) (g2:Nat->Nat),ds=[webD m1 4 A1 r1,webD m2 4 A2 r2]/\M.Tw (4*m1+4) A1 g1/\M.Tw (4*m2+4) A2 g2/\(∀i,0<=A2 i)/\m1<=10/\m2<=10 /\
 ∀(m:Nat) (A':Nat->Int) (h G:Nat->Nat),m=m1+m2->G=bG m1 4 m2 g1 g2->Out m 4 A' h (oB m) (less (less (S0 m) (4*m+3) (4*m+4)) (4*m+2) (4*m+5)) (tie (tie G (4*m+3) (4*m+4)) (4*m+2) (4*m+5))->Nm (4*m+4) A' ->
  k (webD m 4 A' (r1+r2+rg G (4*m+3) (4*m+4)+rg (tie G (4*m+3) (4*m+4)) (4*m+2) (4*m+5)))
abbrev s_beside:Stmt:=top 13
theorem sc_beside:FnScope ["one","other"] ["one","other"] (defScope s_beside):=⟨rfl,rfl,rfl,by decide +kernel,rfl,by decide +kernel,by decide +kernel⟩
def t_beside:Tg:={ own:=λi=>false,io:=[] }
def w_beside:WS:=(wRet (wCall g_glued (wCons (wVar 0) (wCons (wVar 1) (wCons (wC (.int 2)) wNil)))))
theorem b_beside {P:Program} {w:World} {K:PySem.W.Frag} {mg:Str->Option Value} {base:Heap} {f:Addr} (B:Bn mg) (C_glued:Cal P w K mg base "glued" 4 ["one","other","many"] (spR K g_glued)):∀(cdv:Value) (A:Around) (outer:List PySem.Env) (s:Shared) (H:Hp) (E:XK),Room 4 (A.deeper (envOfC "beside" (defScope s_beside) s.heap.objs.size f cdv))->SVs (cxOf CX0 P w K mg base ["one","other"] "beside" (defScope s_beside) f cdv A outer s H E).nox t_beside (defBody s_beside) w_beside:=λcdv A outer s H E hr =>
  (svs_one (sv_ret (ev_callC C_glued (hr.mono (by decide)) (av_cons (ev_var 0) (av_cons (ev_var 1) (av_cons ev_int av_nil))))))
theorem ok_beside {P:Program} {w:World} {K:PySem.W.Frag} {mg:Str->Option Value} {base:Heap} {f:Addr} {fd:FuncData} (F:Fun K "beside" "beside" s_beside f fd) (B:Bn mg) (C1:Cal P w K mg base "glued" 4 ["one","other","many"] (spR K g_glued)):FnOk P w K mg base CX0 5 f fd ["one","other"] (spR K g_beside):=by
 refine fn_ro (T:=t_beside) F sc_beside rfl (by decide) (λds kk h=>?_) (b_beside B C1) (λds kk h=>?_)
 ·obtain ⟨m1,A1,r1,g1,m2,A2,r2,g2,rfl,_⟩:=h
  rfl
 ·obtain ⟨m1,A1,r1,g1,m2,A2,r2,g2,rfl,tw1,tw2,hA,hm1,hm2,k⟩:=h
  simp only [w_beside,wRet,wCall,wCons,env0,List.map_cons,List.map_nil,List.length_cons,List.length_nil,Nat.zero_add,Nat.reduceAdd,List.cons_append,List.nil_append,wC,wNil,r_var,look,oget_s]
  refine ⟨m1,4,A1,r1,m2,4,A2,r2,2,rfl,hm1,by omega,hm2,by omega,by omega,by omega,?_⟩
  have k:=λA' h=>k _ A' h _ rfl rfl
  have tw:=two_tw tw1 tw2 hA
  generalize twoA m1 4 m2 A1 A2=C at tw ⊢
  generalize bG m1 4 m2 g1 g2=G at tw k
  generalize m1+m2=m at tw k ⊢
  have hE:(itS m 4 (4+4,C,r1+r2) 2).1=4:=by have:=it_len (m:=m) (e1:=4) (e2:=4) (B:=C) (r:=r1+r2) 2 (by decide) (by decide);omega
  have O0:Out m (4+4) C G (λi=>i) (S0 m) G:=Out.one tw
  have a1:aft (4+4) (4-1-0)=4:=rfl
  have l1:(M.rest (4+4) (4-1-0) (aft (4+4) (4-1-0))).length=6:=rfl
  obtain ⟨⟨h1,O1⟩,R1⟩:=O0.shut (p:=4-1-0) (by decide) (by decide) (r1+r2)
  obtain ⟨⟨h2,O2⟩,R2⟩:=O1.shut (p:=4-1-1) (by rw [l1];decide) (by rw [l1];decide) (shR m (4+4) (4-1-0) C (r1+r2))
  have o1:∀i,i<4*m+6->M.old m (4+4) (4-1-0) (aft (4+4) (4-1-0)) i=if i<4*m+3 then i else i+2:=λi hi=>old_adj (p:=3) (by decide) (by omega)
  have o2:∀i,i<4*m+4->M.old m (M.rest (4+4) (4-1-0) (aft (4+4) (4-1-0))).length (4-1-1) (aft (M.rest (4+4) (4-1-0) (aft (4+4) (4-1-0))).length (4-1-1)) i=if i<4*m+2 then i else i+2:=λi hi=>old_adj (e:=6) (p:=2) (by decide) (by omega)
  have c1:M.old m (4+4) (4-1-0) (aft (4+4) (4-1-0)) (4*m+(4-1-1))=4*m+2:=by rw [o1 _ (by omega),if_pos (by omega)]
  have c2:M.old m (4+4) (4-1-0) (aft (4+4) (4-1-0)) (4*m+aft (M.rest (4+4) (4-1-0) (aft (4+4) (4-1-0))).length (4-1-1))=4*m+5:=by
   rw [show aft (M.rest (4+4) (4-1-0) (aft (4+4) (4-1-0))).length (4-1-1)=3 from rfl,o1 _ (by omega),if_neg (by omega)]
  try dsimp only at O2
  try dsimp only at R2
  rw [c1,c2] at O2 R2
  have e4:(itS m 4 (4+4,C,r1+r2) 2)=((M.rest (M.rest (4+4) (4-1-0) (aft (4+4) (4-1-0))).length (4-1-1) (aft (M.rest (4+4) (4-1-0) (aft (4+4) (4-1-0))).length (4-1-1))).length,shA m (M.rest (4+4) (4-1-0) (aft (4+4) (4-1-0))).length (4-1-1) (shA m (4+4) (4-1-0) C),shR m (M.rest (4+4) (4-1-0) (aft (4+4) (4-1-0))).length (4-1-1) (shA m (4+4) (4-1-0) C) (shR m (4+4) (4-1-0) C (r1+r2))):=rfl
  rw [e4] at hE ⊢
  try dsimp only at hE
  try dsimp only
  rw [hE] at O2 ⊢
  rw [R2,R1]
  refine k _ h2 (O2.named.congr (λi hi=>?_) (λx hx=>hx) λx hx=>rfl) nm_anw
  rw [o2 i hi]
  unfold oB
  split
  ·rw [o1 _ (by omega),if_pos (by omega)]
  ·rw [o1 _ (by omega),if_neg (by omega)]
end K53
namespace K53
open PySem PySem.Spec L2 PV
open PyProof.Rows (envOfC)
open M (tie)
def phi (m i:Nat):Nat:=if i<4*m then i else if i<4*m+4 then 4*m+(i-4*m+3) % 4 else 4*m+4+(i-4*m-4+3) % 4
theorem phi_lt {m i:Nat} (h:i<4*m+8):phi m i<4*m+8:=by
 unfold phi
 split
 ·omega
 ·split <;> omega
theorem phi_inj {m i j:Nat} (hi:i<4*m+8) (hj:j<4*m+8) (h:phi m i=phi m j):i=j:=by
 unfold phi at h
 split at h <;> split at h <;> (try split at h) <;> (try split at h) <;> omega
theorem phi_1 {m1 m2 x:Nat} (hx:x<4*m1+4):phi (m1+m2) (emb m1 4 m2 true x)=emb m1 4 m2 true (shf m1 3 x):=by
 by_cases h:x<4*m1
 ·rw [shf_in h]
  rcases emb_t m1 4 m2 x with ⟨_,e⟩ | ⟨z,_⟩
  ·rw [e];unfold phi;rw [if_pos (by omega)]
  ·omega
 ·obtain ⟨j,rfl⟩:∃j,x=4*m1+j:=⟨x-4*m1,by omega⟩
  rw [shf_out]
  rcases emb_t m1 4 m2 (4*m1+j) with ⟨z,_⟩ | ⟨_,e⟩
  ·omega
  ·rcases emb_t m1 4 m2 (4*m1+(j+3) % 4) with ⟨z,_⟩ | ⟨_,e'⟩
   ·omega
   ·rw [e,e'];unfold phi;rw [if_neg (by omega),if_pos (by omega)];omega
theorem phi_2 {m1 m2 x:Nat} (hx:x<4*m2+4):phi (m1+m2) (emb m1 4 m2 false x)=emb m1 4 m2 false (shf m2 3 x):=by
 by_cases h:x<4*m2
 ·rw [shf_in h]
  rcases emb_f m1 4 m2 x with ⟨_,e⟩ | ⟨z,_⟩
  ·rw [e];unfold phi;rw [if_pos (by omega)]
  ·omega
 ·obtain ⟨j,rfl⟩:∃j,x=4*m2+j:=⟨x-4*m2,by omega⟩
  rw [shf_out]
  rcases emb_f m1 4 m2 (4*m2+j) with ⟨z,_⟩ | ⟨_,e⟩
  ·omega
  ·rcases emb_f m1 4 m2 (4*m2+(j+3) % 4) with ⟨z,_⟩ | ⟨_,e'⟩
   ·omega
   ·rw [e,e'];unfold phi;rw [if_neg (by omega),if_neg (by omega)];omega
theorem tie_lt {n a b i:Nat} {G:Nat->Nat} (h:∀i,i<n->G i<n) (ha:a<n) (hb:b<n) (hi:i<n):tie G a b i<n:=by
 unfold M.tie
 split
 ·exact h b hb
 ·split
  ·exact h a ha
  ·exact h i hi
theorem rg_map {n a b:Nat} {G G' o:Nat->Nat} (lt:∀i,i<n->G i<n) (inj:∀i j,i<n->j<n->o i=o j->i=j) (map:∀i,i<n->o (G i)=G' (o i)) (ha:a<n) (hb:b<n):rg G a b=rg G' (o a) (o b):=by
 unfold rg
 rw [← map a ha]
 by_cases c:G a=b
 ·rw [if_pos c,if_pos (by rw [c])]
 ·rw [if_neg c,if_neg (λz=>c (inj _ _ (lt a ha) hb z))]
def oA (m i:Nat):Nat:=if i<4*m+1 then i else if i<4*m+3 then i+4 else i
theorem o_above {m i:Nat} (hi:i<4*m+4):phi m (oB m (shf m 1 i))=oA m i:=by
 have b1:∀x,x<4*m+2->oB m x=x:=λx h=>if_pos h
 have b2:∀x,¬x<4*m+2->oB m x=x+4:=λx h=>if_neg h
 have p1:∀x,x<4*m->phi m x=x:=λx h=>if_pos h
 have p2:∀j,j<4->phi m (4*m+j)=4*m+(j+3) % 4:=λj h=>by unfold phi;rw [if_neg (by omega),if_pos (by omega)];omega
 have p3:∀j,phi m (4*m+4+j)=4*m+4+(j+3) % 4:=λj=>by unfold phi;rw [if_neg (by omega),if_neg (by omega)];omega
 have a1:∀x,x<4*m+1->oA m x=x:=λx h=>if_pos h
 have a2:∀x,¬x<4*m+1->x<4*m+3->oA m x=x+4:=λx h h'=>by unfold oA;rw [if_neg h,if_pos h']
 have a3:∀x,¬x<4*m+3->oA m x=x:=λx h=>by unfold oA;rw [if_neg (by omega),if_neg h]
 by_cases h:i<4*m
 ·rw [shf_in h,b1 _ (by omega),p1 _ h,a1 _ (by omega)]
 ·obtain ⟨j,rfl⟩:∃j,i=4*m+j:=⟨i-4*m,by omega⟩
  have hj:j=0\/j=1\/j=2\/j=3:=by omega
  rw [shf_out]
  rcases hj with rfl | rfl | rfl | rfl
  ·rw [b1 _ (by omega),p2 _ (by omega),a1 _ (by omega)]
  ·rw [b2 _ (by omega),show 4*m+(1+1) % 4+4=4*m+4+2 by omega,p3,a2 _ (by omega) (by omega)]
  ·rw [b2 _ (by omega),show 4*m+(2+1) % 4+4=4*m+4+3 by omega,p3,a2 _ (by omega) (by omega)]
  ·rw [b1 _ (by omega),p2 _ (by omega),a3 _ (by omega)]
def g_above:GA:=λds k=>∃(m1:Nat) (A1:Nat->Int) (r1:Int) (g1:Nat->Nat) (m2:Nat) (A2:Nat->Int) (r2:Int) (g2:Nat->Nat),ds=[webD m1 4 A1 r1,webD m2 4 A2 r2]/\M.Tw (4*m1+4) A1 g1/\M.Tw (4*m2+4) A2 g2/\(∀i,0<=A2 i)/\m1<=10/\m2<=10 /\
 ∀(m:Nat) (A':Nat->Int) (h G:Nat->Nat),m=m1+m2->G=bG m1 4 m2 g1 g2->Out m 4 A' h (oA m) (less (less (S0 m) (4*m+2) (4*m+7)) (4*m+1) (4*m+4)) (tie (tie G (4*m+2) (4*m+7)) (4*m+1) (4*m+4))->Nm (4*m+4) A' ->
  k (webD m 4 A' (r1+r2+rg G (4*m+2) (4*m+7)+rg (tie G (4*m+2) (4*m+7)) (4*m+1) (4*m+4)))
abbrev s_above:Stmt:=top 15
theorem sc_above:FnScope ["one","other"] ["one","other"] (defScope s_above):=⟨rfl,rfl,rfl,by decide +kernel,rfl,by decide +kernel,by decide +kernel⟩
def t_above:Tg:={ own:=λi=>false,io:=[] }
def w_above:WS:=(wRet (wCall g_named_anew (wCons (wCall g_shifted (wCons (wCall g_beside (wCons (wCall g_quarter (wCons (wVar 0) wNil)) (wCons (wCall g_quarter (wCons (wVar 1) wNil)) wNil))) (wCons (wC (.int 1)) wNil))) wNil)))
theorem b_above {P:Program} {w:World} {K:PySem.W.Frag} {mg:Str->Option Value} {base:Heap} {f:Addr} (B:Bn mg) (C_named_anew:Cal P w K mg base "named_anew" 2 ["web"] (spR K g_named_anew)) (C_shifted:Cal P w K mg base "shifted" 1 ["web","many"] (spR K g_shifted)) (C_beside:Cal P w K mg base "beside" 5 ["one","other"] (spR K g_beside)) (C_quarter:Cal P w K mg base "quarter" 3 ["one"] (spR K g_quarter)):∀(cdv:Value) (A:Around) (outer:List PySem.Env) (s:Shared) (H:Hp) (E:XK),Room 5 (A.deeper (envOfC "above" (defScope s_above) s.heap.objs.size f cdv))->SVs (cxOf CX0 P w K mg base ["one","other"] "above" (defScope s_above) f cdv A outer s H E).nox t_above (defBody s_above) w_above:=λcdv A outer s H E hr =>
  (svs_one (sv_ret (ev_callC C_named_anew (hr.mono (by decide)) (av_cons (ev_callC C_shifted (hr.mono (by decide)) (av_cons (ev_callC C_beside (hr.mono (by decide)) (av_cons (ev_callC C_quarter (hr.mono (by decide)) (av_cons (ev_var 0) av_nil)) (av_cons (ev_callC C_quarter (hr.mono (by decide)) (av_cons (ev_var 1) av_nil)) av_nil))) (av_cons ev_int av_nil))) av_nil))))
theorem ok_above {P:Program} {w:World} {K:PySem.W.Frag} {mg:Str->Option Value} {base:Heap} {f:Addr} {fd:FuncData} (F:Fun K "above" "above" s_above f fd) (B:Bn mg) (C1:Cal P w K mg base "named_anew" 2 ["web"] (spR K g_named_anew)) (C2:Cal P w K mg base "shifted" 1 ["web","many"] (spR K g_shifted)) (C3:Cal P w K mg base "beside" 5 ["one","other"] (spR K g_beside)) (C4:Cal P w K mg base "quarter" 3 ["one"] (spR K g_quarter)):FnOk P w K mg base CX0 6 f fd ["one","other"] (spR K g_above):=by
 refine fn_ro (T:=t_above) F sc_above rfl (by decide) (λds kk h=>?_) (b_above B C1 C2 C3 C4) (λds kk h=>?_)
 ·obtain ⟨m1,A1,r1,g1,m2,A2,r2,g2,rfl,_⟩:=h
  rfl
 ·obtain ⟨m1,A1,r1,g1,m2,A2,r2,g2,rfl,tw1,tw2,hA,hm1,hm2,k⟩:=h
  simp only [w_above,wRet,wCall,wCons,env0,List.map_cons,List.map_nil,List.length_cons,List.length_nil,Nat.zero_add,Nat.reduceAdd,List.cons_append,List.nil_append,wNil,wC,r_var,look,oget_s]
  refine ⟨m1,A1,r1,g1,rfl,tw1,hm1,λQ1 h1 O1 _ _=>?_⟩
  simp only []
  refine ⟨m2,A2,r2,g2,rfl,tw2,hm2,λQ2 h2 O2 _ nn2=>?_⟩
  simp only []
  refine ⟨m1,Q1,r1,h1,m2,Q2,r2,h2,rfl,O1.tw,O2.tw,nn2,hm1,hm2,λm A3 h3 G3 em eG O3 nm3=>?_⟩
  simp only []
  refine ⟨m,A3,_,1,rfl,.inr rfl,?_⟩
  refine ⟨m,4,_,_,rfl,by omega,by omega,?_⟩
  have twG:=two_tw O1.tw O2.tw nn2
  rw [← eG,← em] at twG
  have lt3:∀i,i<4*m+8->G3 i<4*m+8:=twG.lt
  have pi:∀i j,i<4*m+8->j<4*m+8->phi m i=phi m j->i=j:=λi j hi hj z=>phi_inj hi hj z
  have map:∀i,i<4*m+8->phi m (G3 i)=bG m1 4 m2 g1 g2 (phi m i):=λi hi=>by
   subst em eG
   rcases of_two (e2:=4) (show i<4*(m1+m2)+(4+4) from hi) with ⟨x,hx,rfl⟩ | ⟨x,hx,rfl⟩
   ·rw [bG1 hx,phi_1 hx,phi_1 (O1.tw.lt x hx),O1.map x hx,bG1 (shf_lt hx)]
   ·rw [bG2 hx,phi_2 hx,phi_2 (O2.tw.lt x hx),O2.map x hx,bG2 (shf_lt hx)]
  have k:=λA' h=>k m A' h _ em rfl
  generalize bG m1 4 m2 g1 g2=G at map k
  have f3:phi m (4*m+3)=4*m+2:=by unfold phi;rw [if_neg (by omega),if_pos (by omega)];omega
  have f4:phi m (4*m+4)=4*m+7:=by unfold phi;rw [if_neg (by omega),if_neg (by omega)];omega
  have f2:phi m (4*m+2)=4*m+1:=by unfold phi;rw [if_neg (by omega),if_pos (by omega)];omega
  have f5:phi m (4*m+5)=4*m+4:=by unfold phi;rw [if_neg (by omega),if_neg (by omega)];omega
  have map2:∀i,i<4*m+8->phi m (tie G3 (4*m+3) (4*m+4) i)=tie G (4*m+2) (4*m+7) (phi m i):=λi hi=>by
   have:=tie_map lt3 pi map (a:=4*m+3) (b:=4*m+4) (by omega) (by omega) hi
   rwa [f3,f4] at this
  have lt4:∀i,i<4*m+8->tie G3 (4*m+3) (4*m+4) i<4*m+8:=λi hi=>tie_lt lt3 (by omega) (by omega) hi
  have map3:∀i,i<4*m+8->phi m (tie (tie G3 (4*m+3) (4*m+4)) (4*m+2) (4*m+5) i)=tie (tie G (4*m+2) (4*m+7)) (4*m+1) (4*m+4) (phi m i):=λi hi=>by
   have:=tie_map lt4 pi map2 (a:=4*m+2) (b:=4*m+5) (by omega) (by omega) hi
   rwa [f2,f5] at this
  have R1:=rg_map lt3 pi map (a:=4*m+3) (b:=4*m+4) (by omega) (by omega)
  have R2:=rg_map lt4 pi map2 (a:=4*m+2) (b:=4*m+5) (by omega) (by omega)
  rw [f3,f4] at R1
  rw [f2,f5] at R2
  rw [R1,R2]
  refine k _ _ (((O3.perm (u:=shf m 1) (v:=shf m 3) (λi hi=>shf_lt hi) (λi hi=>shf_lt hi) (λi hi=>shf_13 hi) (λi hi=>shf_31 hi) λi hi=>shf_in hi).named.trans (f:=phi m) (S':=less (less (S0 m) (4*m+2) (4*m+7)) (4*m+1) (4*m+4)) (λx hx=>?_) (λx y hx hy z=>pi x y hx.1.1 hy.1.1 z) (λx hx=>map3 x hx.1.1) λx hx=>if_pos hx).congr (λi hi=>?_) (λx hx=>hx) λx hx=>rfl) nm_anw
  ·obtain ⟨⟨x0,x1,x2⟩,x3,x4⟩:=hx
   have x0:x<4*m+8:=x0
   refine ⟨⟨phi_lt x0,λz=>x1 (pi _ _ x0 (by omega) (by rw [z,f3])),λz=>x2 (pi _ _ x0 (by omega) (by rw [z,f4]))⟩,λz=>x3 (pi _ _ x0 (by omega) (by rw [z,f2])),λz=>x4 (pi _ _ x0 (by omega) (by rw [z,f5]))⟩
  ·show phi m (oB m (shf m 1 i))=oA m i
   exact o_above hi
def g_closed:GA:=λds k=>∃(m:Nat) (A:Nat->Int) (r:Int) (g:Nat->Nat) (w a b c d:Nat),ds=[webD m 4 A r,.int w]/\M.Tw (4*m+4) A g/\m<=10/\((w=0/\a=4*m+3/\b=4*m+0/\c=4*m+1/\d=4*m+2)\/(w=1/\a=4*m+0/\b=4*m+1/\c=4*m+2/\d=4*m+3)) /\
 ∀(A':Nat->Int) (h:Nat->Nat),Out m 0 A' h (λi=>i) (less (less (· < 4*m+4) a b) c d) (tie (tie g a b) c d)->Nm (4*m+0) A'->k (webD m 0 A' (r+rg g a b+rg (tie g a b) c d))
abbrev s_closed:Stmt:=top 16
theorem sc_closed:FnScope ["one","way"] ["one","way"] (defScope s_closed):=⟨rfl,rfl,rfl,by decide +kernel,rfl,by decide +kernel,by decide +kernel⟩
def t_closed:Tg:={ own:=λi=>false,io:=[] }
def w_closed:WS:=(wRet (wCall g_shut (wCons (wCall g_shut (wCons (wVar 0) (wCons (wIfE (wBl (wBin dEq (wVar 1) (wC (.int 0)))) (wC (.int 3)) (wC (.int 0))) wNil))) (wCons (wC (.int 0)) wNil))))
theorem b_closed {P:Program} {w:World} {K:PySem.W.Frag} {mg:Str->Option Value} {base:Heap} {f:Addr} (B:Bn mg) (C_shut:Cal P w K mg base "shut" 3 ["web","place"] (spR K g_shut)):∀(cdv:Value) (A:Around) (outer:List PySem.Env) (s:Shared) (H:Hp) (E:XK),Room 3 (A.deeper (envOfC "closed" (defScope s_closed) s.heap.objs.size f cdv))->SVs (cxOf CX0 P w K mg base ["one","way"] "closed" (defScope s_closed) f cdv A outer s H E).nox t_closed (defBody s_closed) w_closed:=λcdv A outer s H E hr =>
  (svs_one (sv_ret (ev_callC C_shut (hr.mono (by decide)) (av_cons (ev_callC C_shut (hr.mono (by decide)) (av_cons (ev_var 0) (av_cons (ev_if (tv_cmp (od_eq hr.units) (ev_var 1) ev_int) ev_int ev_int) av_nil))) (av_cons ev_int av_nil)))))
theorem ok_closed {P:Program} {w:World} {K:PySem.W.Frag} {mg:Str->Option Value} {base:Heap} {f:Addr} {fd:FuncData} (F:Fun K "closed" "closed" s_closed f fd) (B:Bn mg) (C1:Cal P w K mg base "shut" 3 ["web","place"] (spR K g_shut)):FnOk P w K mg base CX0 4 f fd ["one","way"] (spR K g_closed):=by
 refine fn_ro (T:=t_closed) F sc_closed rfl (by decide) (λds kk h=>?_) (b_closed B C1) (λds kk h=>?_)
 ·obtain ⟨m,A,r,g,w,a,b,c,d,rfl,_⟩:=h
  rfl
 ·obtain ⟨m,A,r,g,w,a,b,c,d,rfl,tw,hm,hw,k⟩:=h
  have O0:=Out.one tw
  rcases hw with ⟨rfl,rfl,rfl,rfl,rfl⟩ | ⟨rfl,rfl,rfl,rfl,rfl⟩
  ·obtain ⟨⟨h1,O1⟩,R1⟩:=O0.shut (p:=3) (by decide) (by decide) r
   obtain ⟨⟨h2,O2⟩,R2⟩:=O1.named.shut (p:=0) (show 0<(M.rest 4 3 (aft 4 3)).length from by decide) (show 2<=(M.rest 4 3 (aft 4 3)).length from by decide) (shR m 4 3 A r)
   have c1:M.old m 4 3 (aft 4 3) (4*m+0)=4*m+1:=by rw [M.old_out];rfl
   have c2:M.old m 4 3 (aft 4 3) (4*m+aft (M.rest 4 3 (aft 4 3)).length 0)=4*m+2:=by rw [M.old_out];rfl
   simp only [w_closed,wRet,wCall,wCons,env0,List.map_cons,List.map_nil,List.length_cons,List.length_nil,Nat.zero_add,Nat.reduceAdd,List.cons_append,List.nil_append,wIfE,wC,wNil,r_bl,wBin,r_var,look,oget_s,r_eqI,r_blOf]
   refine ⟨m,4,A,r,3,rfl,by decide,by decide,by omega,by omega,?_⟩
   simp only []
   refine ⟨m,_,_,_,0,rfl,by decide,by decide,by omega,by decide,?_⟩
   try dsimp only at O2
   try dsimp only at R2
   rw [c1,c2] at O2 R2
   rw [R2,R1]
   have hE:(M.rest (M.rest 4 3 (aft 4 3)).length 0 (aft (M.rest 4 3 (aft 4 3)).length 0)).length=0:=by decide
   rw [hE] at O2 ⊢
   exact k _ h2 (O2.named.congr (λi hi=>O2.fix i (by omega)) (λx hx=>hx) λx hx=>rfl) nm_anw
  ·obtain ⟨⟨h1,O1⟩,R1⟩:=O0.shut (p:=0) (by decide) (by decide) r
   obtain ⟨⟨h2,O2⟩,R2⟩:=O1.named.shut (p:=0) (show 0<(M.rest 4 0 (aft 4 0)).length from by decide) (show 2<=(M.rest 4 0 (aft 4 0)).length from by decide) (shR m 4 0 A r)
   have c1:M.old m 4 0 (aft 4 0) (4*m+0)=4*m+2:=by rw [M.old_out];rfl
   have c2:M.old m 4 0 (aft 4 0) (4*m+aft (M.rest 4 0 (aft 4 0)).length 0)=4*m+3:=by rw [M.old_out];rfl
   simp only [w_closed,wRet,wCall,wCons,env0,List.map_cons,List.map_nil,List.length_cons,List.length_nil,Nat.zero_add,Nat.reduceAdd,List.cons_append,List.nil_append,wIfE,wC,wNil,r_bl,wBin,r_var,look,oget_s,r_eqI,r_blOf]
   refine ⟨m,4,A,r,0,rfl,by decide,by decide,by omega,by omega,?_⟩
   simp only []
   refine ⟨m,_,_,_,0,rfl,by decide,by decide,by omega,by decide,?_⟩
   try dsimp only at O2
   try dsimp only at R2
   rw [c1,c2] at O2 R2
   rw [R2,R1]
   have hE:(M.rest (M.rest 4 0 (aft 4 0)).length 0 (aft (M.rest 4 0 (aft 4 0)).length 0)).length=0:=by decide
   rw [hE] at O2 ⊢
   exact k _ h2 (O2.named.congr (λi hi=>O2.fix i (by omega)) (λx hx=>hx) λx hx=>rfl) nm_anw
end K53
namespace K53
open PySem PySem.Spec L2 PV
open PyProof.Rows (envOfC)
open M (tie)
def g_law_moved:GA:=λds k=>∃(q:Int × Int) (m1:Nat),ds=[sd q,.int m1]/\k (sd (mv m1 q))
abbrev s__law_moved:Stmt:=top 28
theorem sc__law_moved:FnScope ["_law_spot","_law_many"] ["_law_spot","_law_many"] (defScope s__law_moved):=⟨rfl,rfl,rfl,by decide +kernel,rfl,by decide +kernel,by decide +kernel⟩
def t__law_moved:Tg:={ own:=λi=>false,io:=[] }
def w__law_moved:WS:=(wSeq (wIf (wBl (wBin (dCmp λi j=>decide (i<j)) (wBin dIx (wVar 0) (wC (.int 0))) (wC (.int 0)))) (wRet (wLift (wTup (wCons (wUn dNeg (wC (.int 2))) (wCons (wBin dIx (wVar 0) (wC (.int 1))) wNil))))) wNext)
 (wRet (wLift (wTup (wCons (wBin dAddT (wBin dIx (wVar 0) (wC (.int 0))) (wVar 1)) (wCons (wBin dIx (wVar 0) (wC (.int 1))) wNil))))))
theorem b__law_moved {P:Program} {w:World} {K:PySem.W.Frag} {mg:Str->Option Value} {base:Heap} {f:Addr} (B:Bn mg):∀(cdv:Value) (A:Around) (outer:List PySem.Env) (s:Shared) (H:Hp) (E:XK),Room 0 (A.deeper (envOfC "_law_moved" (defScope s__law_moved) s.heap.objs.size f cdv))->SVs (cxOf CX0 P w K mg base ["_law_spot","_law_many"] "_law_moved" (defScope s__law_moved) f cdv A outer s H E).nox t__law_moved (defBody s__law_moved) w__law_moved:=λcdv A outer s H E hr =>
  (svs_cons (sv_if (tv_cmp od_lt (ev_ix (xd_ix (hu_of hr)) (ev_var 0) ev_int) ev_int) (svs_one (sv_ret (ev_lift (ev_tup (av_cons (ev_un ud_neg ev_int) (av_cons (ev_ix (xd_ix (hu_of hr)) (ev_var 0) ev_int) av_nil)))))) svs_nil)
  (svs_one (sv_ret (ev_lift (ev_tup (av_cons (ev_op od_addT (ev_ix (xd_ix (hu_of hr)) (ev_var 0) ev_int) (ev_var 1)) (av_cons (ev_ix (xd_ix (hu_of hr)) (ev_var 0) ev_int) av_nil)))))))
theorem ok__law_moved {P:Program} {w:World} {K:PySem.W.Frag} {mg:Str->Option Value} {base:Heap} {f:Addr} {fd:FuncData} (F:Fun K "_law_moved" "_law_moved" s__law_moved f fd) (B:Bn mg):FnOk P w K mg base CX0 1 f fd ["_law_spot","_law_many"] (spR K g_law_moved):=by
 refine fn_ro (T:=t__law_moved) F sc__law_moved rfl (by decide) (λds kk h=>?_) (b__law_moved B) (λds kk h=>?_)
 ·obtain ⟨q,m1,rfl,_⟩:=h
  rfl
 ·obtain ⟨q,m1,rfl,k⟩:=h
  simp only [w__law_moved,wSeq,wIf,env0,sd,List.map_cons,List.map_nil,List.length_cons,List.length_nil,Nat.zero_add,Nat.reduceAdd,List.cons_append,List.nil_append,wRet,wLift,wTup,wCons,wUn,wC,wBin,wNil,sz2,D.pure,pureL,Bool.and_true,true_and,r_var,r_neg,Bool.true_and,Int.reduceNeg,wNext,r_bl,look,oget_s,r_ixT,atI_1,List.getElem?_cons_succ,List.getElem?_cons_zero,atI_0,r2_add,r_cmp,r_blOf]
  unfold mv at k
  by_cases h:q.1<0
  ·rw [if_pos h] at k
   simp only [h,decide_true,Int.reduceNeg,reduceIte]
   exact k
  ·rw [if_neg h] at k
   simp only [h,decide_false,Bool.false_eq_true,Int.reduceNeg,reduceIte]
   exact k
def g_law_both:GA:=λds k=>∃(m1:Nat) (A1:Nat->Int) (r1:Int) (g1:Nat->Nat) (m2:Nat) (A2:Nat->Int) (r2:Int) (g2:Nat->Nat) (m:Nat) (G:Nat->Nat) (ja jb jc jd:Nat) (B:Nat->Int) (h o:Nat->Nat),ds=[webD m1 4 A1 r1,webD m2 4 A2 r2,.lst [.tup [.int ja,.int jb],.tup [.int jc,.int jd]],.lst ((List.range 4).map λj=>sd (sG m 4 0 (o (4*m+j))))] /\
 m=m1+m2/\G=bG m1 4 m2 g1 g2/\M.Tw (4*m1+4) A1 g1/\M.Tw (4*m2+4) A2 g2/\(∀i,0<=A2 i)/\(ja<4/\jb<4/\jc<4/\jd<4/\ja≠jc/\jb≠jd)/\m1<=10/\m2<=10/\Out m 4 B h o (less (less (S0 m) (4*m+ja) (4*m+(4+jb))) (4*m+jc) (4*m+(4+jd))) (tie (tie G (4*m+ja) (4*m+(4+jb))) (4*m+jc) (4*m+(4+jd))) /\
 k (webD m 4 (M.anw B (4*m+4)) (r1+r2+rg G (4*m+ja) (4*m+(4+jb))+rg (tie G (4*m+ja) (4*m+(4+jb))) (4*m+jc) (4*m+(4+jd))))
abbrev s__law_both:Stmt:=top 29
theorem sc__law_both:FnScope ["_law_one","_law_other","_law_seam","_law_rim","_law_ties_here","_law_more","_law_spot","_law_rings","_law_here","_law_there"] ["_law_one","_law_other","_law_seam","_law_rim"] (defScope s__law_both):=⟨rfl,rfl,rfl,by decide +kernel,rfl,by decide +kernel,by decide +kernel⟩
def t__law_both:Tg:={ own:=λi=>i == 4 || i == 5 || i == 6 || i == 7 || i == 8 || i == 9,io:=[] }
def w__law_both:WS:=(wSeq (wSet 4 (wCall g_law_ties (wCons (wVar 0) wNil)))
 (wSeq (wSet 5 (wCall g_law_ties (wCons (wVar 1) wNil)))
 (wSeq (wFor (wKeysST 5) (gN 6) (wSetIx 4 (wCall g_law_moved (wCons (wBin dIxT (wVar 5) (wVar 6)) (wCons (wCall dLen (wCons (wBin dIx (wVar 0) (wC (.int 0))) wNil)) wNil))) (wCall g_law_moved (wCons (wVar 6) (wCons (wCall dLen (wCons (wBin dIx (wVar 0) (wC (.int 0))) wNil)) wNil)))))
 (wSeq (wSet 7 (wBin dAddT (wBin dIx (wVar 0) (wC (.int 2))) (wBin dIx (wVar 1) (wC (.int 2)))))
 (wSeq (wFor (wSeqD (wVar 2)) (gTupD 2 (gConsD (gN 8) (gConsD (gN 9) gNilD))) (wSet 7 (wBin dAddT (wLift (wVar 7)) (wCallI 4 g_law_joined (wHere 4 (wCons (wTup (wCons (wUn dNeg (wC (.int 1))) (wCons (wVar 8) wNil))) (wCons (wTup (wCons (wUn dNeg (wC (.int 2))) (wCons (wVar 9) wNil))) wNil)))))))
 (wRet (wCall g_law_built (wCons (wBin dAddT (wCall dLen (wCons (wBin dIx (wVar 0) (wC (.int 0))) wNil)) (wCall dLen (wCons (wBin dIx (wVar 1) (wC (.int 0))) wNil))) (wCons (wVar 3) (wCons (wVar 7) (wCons (wVar 4) wNil)))))))))))
theorem b__law_both {P:Program} {w:World} {K:PySem.W.Frag} {mg:Str->Option Value} {base:Heap} {f:Addr} (B:Bn mg) (C__law_ties:Cal P w K mg base "_law_ties" 2 ["_law_web_here"] (spR K g_law_ties)) (C__law_joined:Cal P w K mg base "_law_joined" 1 ["_law_ties_here","_law_one","_law_other"] (spI K 0 g_law_joined)) (C__law_built:Cal P w K mg base "_law_built" 1 ["_law_many","_law_rim","_law_rings","_law_ties_here"] (spR K g_law_built)) (C__law_moved:Cal P w K mg base "_law_moved" 1 ["_law_spot","_law_many"] (spR K g_law_moved)):∀(cdv:Value) (A:Around) (outer:List PySem.Env) (s:Shared) (H:Hp) (E:XK),Room 2 (A.deeper (envOfC "_law_both" (defScope s__law_both) s.heap.objs.size f cdv))->SVs (cxOf CX0 P w K mg base ["_law_one","_law_other","_law_seam","_law_rim","_law_ties_here","_law_more","_law_spot","_law_rings","_law_here","_law_there"] "_law_both" (defScope s__law_both) f cdv A outer s H E).nox t__law_both (defBody s__law_both) w__law_both:=λcdv A outer s H E hr =>
  (svs_cons (sv_set (i:=4) (ev_callC C__law_ties (hr.mono (by decide)) (av_cons (ev_var 0) av_nil)) sc__law_both.nd)
  (svs_cons (sv_set (i:=5) (ev_callC C__law_ties (hr.mono (by decide)) (av_cons (ev_var 1) av_nil)) sc__law_both.nd)
  (svs_cons (sv_for PassesOwn.never (iv_keysST (s:=5)) (gv_name (i:=6) sc__law_both.nd) (svs_one (sv_setIx (i:=4) (hu_of hr) (ev_callC C__law_moved (hr.mono (by decide)) (av_cons (ev_ix (xd_ixT (hu_of hr)) (ev_var 5) (ev_var 6)) (av_cons (ev_callB cd_len B.nb_len bt_len (av_cons (ev_ix (xd_ix (hu_of hr)) (ev_var 0) ev_int) av_nil)) av_nil))) (ev_callC C__law_moved (hr.mono (by decide)) (av_cons (ev_var 6) (av_cons (ev_callB cd_len B.nb_len bt_len (av_cons (ev_ix (xd_ix (hu_of hr)) (ev_var 0) ev_int) av_nil)) av_nil))))))
  (svs_cons (sv_set (i:=7) (ev_op od_addT (ev_ix (xd_ix (hu_of hr)) (ev_var 0) ev_int) (ev_ix (xd_ix (hu_of hr)) (ev_var 1) ev_int)) sc__law_both.nd)
  (svs_cons (sv_for PassesOwn.never (iv_par (i:=2)) (gv_tup (gvs_cons (gv_name (i:=8) sc__law_both.nd) (gvs_cons (gv_name (i:=9) sc__law_both.nd) gvs_nil))) (svs_one (sv_set (i:=7) (ev_op od_addT (ev_lift (ev_var 7)) (ev_callIC C__law_joined (hr.mono (by decide)) (ai_here (i:=4) (av_cons (ev_tup (av_cons (ev_un ud_neg ev_int) (av_cons (ev_var 8) av_nil))) (av_cons (ev_tup (av_cons (ev_un ud_neg ev_int) (av_cons (ev_var 9) av_nil))) av_nil))))) sc__law_both.nd)))
  (svs_one (sv_ret (ev_callC C__law_built (hr.mono (by decide)) (av_cons (ev_op od_addT (ev_callB cd_len B.nb_len bt_len (av_cons (ev_ix (xd_ix (hu_of hr)) (ev_var 0) ev_int) av_nil)) (ev_callB cd_len B.nb_len bt_len (av_cons (ev_ix (xd_ix (hu_of hr)) (ev_var 1) ev_int) av_nil))) (av_cons (ev_var 3) (av_cons (ev_var 7) (av_cons (ev_var 4) av_nil))))))))))))
theorem ok__law_both {P:Program} {w:World} {K:PySem.W.Frag} {mg:Str->Option Value} {base:Heap} {f:Addr} {fd:FuncData} (F:Fun K "_law_both" "_law_both" s__law_both f fd) (B:Bn mg) (C1:Cal P w K mg base "_law_ties" 2 ["_law_web_here"] (spR K g_law_ties)) (C2:Cal P w K mg base "_law_joined" 1 ["_law_ties_here","_law_one","_law_other"] (spI K 0 g_law_joined)) (C3:Cal P w K mg base "_law_built" 1 ["_law_many","_law_rim","_law_rings","_law_ties_here"] (spR K g_law_built)) (C4:Cal P w K mg base "_law_moved" 1 ["_law_spot","_law_many"] (spR K g_law_moved)):FnOk P w K mg base CX0 3 f fd ["_law_one","_law_other","_law_seam","_law_rim"] (spR K g_law_both):=by
 refine fn_ro (T:=t__law_both) F sc__law_both rfl (by decide) (λds kk h=>?_) (b__law_both B C1 C2 C3 C4) (λds kk h=>?_)
 ·obtain ⟨m1,A1,r1,g1,m2,A2,r2,g2,m,G,ja,jb,jc,jd,B,h,o,rfl,_⟩:=h
  rfl
 ·obtain ⟨m1,A1,r1,g1,m2,A2,r2,g2,m,G,ja,jb,jc,jd,B,h,o,rfl,em,eG,tw1,tw2,hA2,hj,hm1,hm2,O,k⟩:=h
  have tw0:=two_tw tw1 tw2 hA2
  generalize hsm:D.lst [.tup [.int (ja:Int),.int (jb:Int)],.tup [.int (jc:Int),.int (jd:Int)]]=sm
  generalize hrm:D.lst ((List.range 4).map λj=>sd (sG m 4 0 (o (4*m+j))))=rm
  simp only [w__law_both,wSeq,wSet,wCall,wCons,env0,List.map_cons,List.map_nil,List.length_cons,List.length_nil,Nat.zero_add,Nat.reduceAdd,List.replicate,List.cons_append,List.nil_append,wNil,r_for,r_var,look,List.set_cons_succ,List.set_cons_zero,oget_s]
  refine ⟨m1,4,A1,r1,g1,rfl,by omega,by omega,tw1,λT1 a1 a2 a3 a4=>?_⟩
  simp only []
  refine ⟨m2,4,A2,r2,g2,rfl,by omega,by omega,tw2,λT2 b1 b2 b3 b4=>?_⟩
  have a3:∀x,x<4*m1+4->valD T1 (sk (M.sp m1 x))=some (sd (M.sp m1 (g1 x))):=a3
  have b3:∀x,x<4*m2+4->valD T2 (sk (M.sp m2 x))=some (sd (M.sp m2 (g2 x))):=b3
  have w0:∀(m e:Nat) (A:Nat->Int) (r:Int) (kq:D->Prop),dIx (webD m e A r) (.int 0) (λd=>dLen [d] kq)=kq (.int m):=λm e A r kq=>by simp only [webD,r_ixT,atI_0,List.getElem?_cons_zero,oget_s,r_lenT,List.length_map,List.length_range]
  have w1:∀(m e:Nat) (A:Nat->Int) (r:Int) (kq:D->Prop),dIx (webD m e A r) (.int 1) (λd=>dLen [d] kq)=kq (.int e):=λm e A r kq=>by simp only [webD,r_ixT,atI_1,List.getElem?_cons_succ,List.getElem?_cons_zero,oget_s,r_lenT,List.length_map,List.length_range]
  have w2:∀(m e:Nat) (A:Nat->Int) (r:Int) (kq:D->Prop),dIx (webD m e A r) (.int 2) kq=kq (.int r):=λm e A r kq=>by simp only [webD,r_ixT,atI_2,List.getElem?_cons_succ,List.getElem?_cons_zero,oget_s]
  have pK:pureL (keysTD T2)=true:=pureL_map λkv hkv=>by
   obtain ⟨y,_,e⟩:=b4 kv hkv
   rw [e];rfl
  simp only [wKeysST,look,List.set_cons_succ,List.set_cons_zero,oget_s,r10_dit,pK,true_and]
  refine ⟨λt ρ=>∃(T:List (List Key × D)) (o6:Option D),t<=T2.length/\ρ=[some (webD m1 4 A1 r1),some (webD m2 4 A2 r2),some sm,some rm,some (.dit T),some (.fdt T2),o6,none,none,none]/\T.length<=1000+t/\pur T /\
   (∀x,x<4*m1+4->valD T (sk (M.sp m1 x))=some (sd (M.sp m1 (g1 x))))/\∀j y,j<t->y<4*m2+4->(T2[j]?).map (·.1)=some (ksP m2 y)->valD T (sk (mv m1 (M.sp m2 y)))=some (sd (mv m1 (M.sp m2 (g2 y)))),⟨T1,none,Nat.zero_le _,rfl,a1,a2,a3,λj y h=>absurd h (Nat.not_lt_zero _)⟩,?_,?_⟩
  ·rintro t d ρ hd ⟨T,o6,_,rfl,hl,hp,u1,u2⟩
   obtain ⟨ht,y,hy,hky,rfl⟩:t<T2.length/\∃y,y<4*m2+4/\(T2[t]?).map (·.1)=some (ksP m2 y)/\d=sd (M.sp m2 y):=by
    unfold keysTD at hd
    rw [List.getElem?_map] at hd
    cases q:T2[t]? with
    | none=>rw [q] at hd;cases hd
    | some kv =>
     rw [q] at hd
     obtain ⟨y,hy,e⟩:=b4 kv (List.mem_of_getElem? q)
     refine ⟨(List.getElem?_eq_some_iff.mp q).1,y,hy,congrArg some e,?_⟩
     have hd:=(Option.some.inj hd).symm
     rw [hd]
     show D.tup (kv.1.map kD)=_
     rw [e];rfl
   have ks:∀q:Int × Int,([Sum.inl q.1,Sum.inl q.2]:List Key)=sk q:=λ_=>rfl
   have ixT:∀kq:D->Prop,dIxT (.fdt T2) (sd (M.sp m2 y)) kq=kq (sd (M.sp m2 (g2 y))):=λkq=>by
    have:dIxT (.fdt T2) (sd (M.sp m2 y)) kq=oget (valD T2 (sk (M.sp m2 y))) kq:=rfl
    rw [this,b3 y hy];rfl
   have stD:∀(q:Int × Int) (d:D) (kq:D->Prop),dSet (.dit T) (sd q) d kq=(T.length<sizeLine/\kq (.dit (putD T (sk q) d))):=λ_ _ _=>rfl
   simp only [gN,wSetIx,wCall,wCons,wBin,List.set_cons_succ,List.set_cons_zero,wC,wNil,r_var,look,Option.isSome_some,oget_s,w0,true_and,ixT]
   refine ⟨_,m1,rfl,?_⟩
   simp only []
   refine ⟨rfl,_,m1,rfl,?_⟩
   simp only [stD]
   refine ⟨big2 (by omega),_,_,ht,rfl,Nat.le_trans (length_putD _ _ _) (by omega),all_put hp rfl,λx hx=>?_,λj z hj hz hk=>?_⟩
   ·rw [valD_put,if_neg,u1 x hx]
    intro q
    have q:=sk_inj q
    have e1':=sG_1 (m2:=m2) hx
    have e2':=sG_2 (m1:=m1) (e1:=4) (m2:=m2) (y:=y)
    rw [← e1',← e2'] at q
    have q:=congrArg (sid m1 4 m2) (sG_inj q)
    rw [(emb1 (m2:=m2) (e2:=4) hx).2.1,(emb2 (m1:=m1) (e1:=4) hy).2.1] at q
    cases q
   ·rw [valD_put]
    by_cases q:sk (mv m1 (M.sp m2 z))=sk (mv m1 (M.sp m2 y))
    ·rw [if_pos q]
     have q:=sk_inj q
     rw [← sG_2 (m1:=m1) (e1:=4) (m2:=m2) (y:=y),← sG_2 (m1:=m1) (e1:=4) (m2:=m2) (y:=z)] at q
     have q:=congrArg (loc m1 4 m2) (sG_inj q)
     rw [(emb2 (m1:=m1) (e1:=4) hz).2.2,(emb2 (m1:=m1) (e1:=4) hy).2.2] at q
     rw [q]
    ·rw [if_neg q]
     by_cases hjt:j=t
     ·subst hjt
      rw [hky] at hk
      exact absurd (by rw [ksP_inj (Option.some.inj hk)]) q
     ·exact u2 j z (by omega) hz hk
  ·rintro ρ ⟨T,o6,_,rfl,hl,hp,u1,u2⟩
   have hkl:(keysTD T2).length=T2.length:=List.length_map ..
   rw [hkl] at hl u2
   have u2:∀y,y<4*m2+4->valD T (sk (mv m1 (M.sp m2 y)))=some (sd (mv m1 (M.sp m2 (g2 y)))):=λy hy=>by
    obtain ⟨j,hj,e⟩:=val_mem (b3 y hy)
    exact u2 j y hj hy e
   have uT:∀i,i<4*(m1+m2)+(4+4)->valD T (sk (sG (m1+m2) 4 0 i))=some (sd (sG (m1+m2) 4 0 (bG m1 4 m2 g1 g2 i))):=λi hi=>by
    rcases of_two hi with ⟨x,hx,rfl⟩ | ⟨x,hx,rfl⟩
    ·rw [bG1 hx,sG_1 hx,sG_1 (tw1.lt x hx),u1 x hx]
    ·rw [bG2 hx,sG_2,sG_2,u2 x hx]
   rw [← em,← eG] at uT tw0
   have P0:Prt (S0 m) G:=prt_one tw0
   have uT:∀i,S0 m i->valD T (sk (sG m 4 0 i))=some (sd (sG m 4 0 (G i))):=uT
   subst hsm
   simp only [wSeq,wSet,wBin,wC,r_for,r_seq,r_var,look,List.set_cons_succ,List.set_cons_zero,oget_s,r_seqL,pureL,D.pure,Bool.and_self,true_and,w2,r2_add]
   obtain ⟨hja,hjb,hjc,hjd,hac,hbd⟩:=hj
   have ea:∀j:Nat,j<4->D.tup [.int (-1),.int (j:Int)]=sd (sG m 4 0 (4*m+j)):=λj h=>by rw [sG_a (by omega)];rfl
   have eb:∀j:Nat,D.tup [.int (-2),.int (j:Int)]=sd (sG m 4 0 (4*m+(4+j))):=λj=>by rw [sG_b (by omega),show 4+j-(4-0)+0=j by omega];rfl
   refine ⟨λt ρ=>∃(T:List (List Key × D)) (o8 o9:Option D) (R:Int) (S:Nat->Prop) (G':Nat->Nat),ρ=[some (webD m1 4 A1 r1),some (webD m2 4 A2 r2),some (.lst [.tup [.int (ja:Int),.int (jb:Int)],.tup [.int (jc:Int),.int (jd:Int)]]),some rm,some (.dit T),some (.fdt T2),o6,some (.int R),o8,o9]/\T.length<=2000+2*t/\pur T/\(∀i,S i->valD T (sk (sG m 4 0 i))=some (sd (sG m 4 0 (G' i)))) /\
    ((t=0/\R=r1+r2/\S=S0 m/\G'=G)\/(t=1/\R=r1+r2+rg G (4*m+ja) (4*m+(4+jb))/\S=less (S0 m) (4*m+ja) (4*m+(4+jb))/\G'=tie G (4*m+ja) (4*m+(4+jb))) \/
     (t=2/\R=r1+r2+rg G (4*m+ja) (4*m+(4+jb))+rg (tie G (4*m+ja) (4*m+(4+jb))) (4*m+jc) (4*m+(4+jd))/\S=less (less (S0 m) (4*m+ja) (4*m+(4+jb))) (4*m+jc) (4*m+(4+jd))/\G'=tie (tie G (4*m+ja) (4*m+(4+jb))) (4*m+jc) (4*m+(4+jd)))),⟨T,none,none,_,_,_,rfl,by omega,hp,uT,.inl ⟨rfl,rfl,rfl,rfl⟩⟩,?_,?_⟩
   ·rintro t d ρ hd ⟨T,o8,o9,R,S,G',rfl,hl,hp,hT,hc⟩
    rcases hc with ⟨rfl,rfl,rfl,rfl⟩ | ⟨rfl,rfl,rfl,rfl⟩ | ⟨rfl,_⟩
    ·have hd:=(Option.some.inj hd).symm
     subst hd
     simp only [wSet,wBin,wLift,wCallI,wHere,wCons,wTup,wUn,wC,wNil,List.length_cons,List.length_nil,Nat.zero_add,Nat.reduceAdd,sz2,pureL,D.pure,Bool.and_true,List.nil_append,true_and,r_var,r_neg,Bool.true_and,Int.reduceNeg,r_gTup,r_gCons,gN,List.set_cons_succ,List.set_cons_zero,r_gNil,look,Option.isSome_some,oget_s,r_flT]
     rw [ea ja hja,eb jb]
     refine ⟨hp,joined_of (by omega) hp (λz=>by have:=sG_inj z;omega) (hT _ (show 4*m+ja<4*m+8 by omega)) (hT _ (show 4*m+(4+jb)<4*m+8 by omega)) λring U ul up hc=>?_⟩
     obtain ⟨hR,hU⟩:=joinG P0 (λi j _ _ z=>sG_inj z) hT (show 4*m+ja<4*m+8 by omega) (show 4*m+(4+jb)<4*m+8 by omega) (by omega) hc
     simp only [hR,r2_add]
     exact ⟨U,_,_,_,_,_,rfl,by omega,up,hU,by first | exact .inr (.inl ⟨rfl,rfl,rfl,rfl⟩) | exact .inr (.inl ⟨rfl,rfl,rfl⟩) | exact .inl ⟨rfl,rfl,rfl⟩ | exact ⟨rfl,rfl,rfl⟩ | exact .inr ⟨rfl,rfl,rfl⟩⟩
    ·have hd:=(Option.some.inj hd).symm
     subst hd
     have P1:=P0.tie (show 4*m+ja<4*m+8 by omega) (show 4*m+(4+jb)<4*m+8 by omega) (by omega)
     have sc:less (S0 m) (4*m+ja) (4*m+(4+jb)) (4*m+jc):=⟨show 4*m+jc<4*m+8 by omega,by omega,by omega⟩
     have sd':less (S0 m) (4*m+ja) (4*m+(4+jb)) (4*m+(4+jd)):=⟨show 4*m+(4+jd)<4*m+8 by omega,by omega,by omega⟩
     simp only [wSet,wBin,wLift,wCallI,wHere,wCons,wTup,wUn,wC,wNil,List.length_cons,List.length_nil,Nat.zero_add,Nat.reduceAdd,sz2,pureL,D.pure,Bool.and_true,List.nil_append,true_and,r_var,r_neg,Bool.true_and,Int.reduceNeg,r_gTup,r_gCons,gN,List.set_cons_succ,List.set_cons_zero,r_gNil,look,Option.isSome_some,oget_s,r_flT]
     rw [ea jc hjc,eb jd]
     refine ⟨hp,joined_of (by omega) hp (λz=>by have:=sG_inj z;omega) (hT _ sc) (hT _ sd') λring U ul up hc=>?_⟩
     obtain ⟨hR,hU⟩:=joinG P1 (λi j _ _ z=>sG_inj z) hT sc sd' (by omega) hc
     simp only [hR,r2_add]
     exact ⟨U,_,_,_,_,_,rfl,by omega,up,hU,by first | exact .inr (.inr ⟨rfl,rfl,rfl,rfl⟩) | exact .inr (.inr ⟨rfl,rfl,rfl⟩) | exact .inl ⟨rfl,rfl,rfl⟩ | exact ⟨rfl,rfl,rfl⟩ | exact .inr ⟨rfl,rfl,rfl⟩⟩
    ·cases hd
   ·rintro ρ ⟨T,o8,o9,R,S,G',rfl,hl,hp,hT,hc⟩
    rcases hc with ⟨z,_⟩ | ⟨z,_⟩ | ⟨_,rfl,rfl,rfl⟩
    ·cases z
    ·cases z
    ·simp only [wRet,wCall,wCons,wBin,wC,wNil,r_var,look,oget_s,w0,r2_add]
     rw [show (m1:Int)+(m2:Int)=((m:Nat):Int) by omega]
     refine ⟨m,4,λi=>sG m 4 0 (o i),B,h,_,T,by rw [← hrm],by omega,by omega,λi hi=>by show sG m 4 0 (o i)=_;rw [O.fix i hi,sG_in hi],λi j hi hj z=>O.inj i j hi hj (sG_inj z),O.tw,λi hi=>?_,k⟩
     show _=some (sd (sG m 4 0 (o (h i))))
     rw [hT _ (O.mem i hi),O.map i hi]
def g_law_closed:GA:=λds k=>∃(m:Nat) (A:Nat->Int) (r:Int) (g:Nat->Nat) (ja jb jc jd:Nat) (B:Nat->Int) (h:Nat->Nat),ds=[webD m 4 A r,.lst [.tup [.int ja,.int jb],.tup [.int jc,.int jd]]]/\M.Tw (4*m+4) A g/\(ja<4/\jb<4/\jc<4/\jd<4/\ja≠jb/\jc≠jd/\ja≠jc/\ja≠jd/\jb≠jc/\jb≠jd)/\m<=10 /\
 Out m 0 B h (λi=>i) (less (less (· < 4*m+4) (4*m+ja) (4*m+jb)) (4*m+jc) (4*m+jd)) (tie (tie g (4*m+ja) (4*m+jb)) (4*m+jc) (4*m+jd))/\k (webD m 0 (M.anw B (4*m+0)) (r+rg g (4*m+ja) (4*m+jb)+rg (tie g (4*m+ja) (4*m+jb)) (4*m+jc) (4*m+jd)))
abbrev s__law_closed:Stmt:=top 30
theorem sc__law_closed:FnScope ["_law_one","_law_seam","_law_ties_here","_law_rings","_law_here","_law_there"] ["_law_one","_law_seam"] (defScope s__law_closed):=⟨rfl,rfl,rfl,by decide +kernel,rfl,by decide +kernel,by decide +kernel⟩
def t__law_closed:Tg:={ own:=λi=>i == 2 || i == 3 || i == 4 || i == 5,io:=[] }
def w__law_closed:WS:=(wSeq (wSet 2 (wCall g_law_ties (wCons (wVar 0) wNil)))
 (wSeq (wSet 3 (wLift (wBin dIx (wVar 0) (wC (.int 2)))))
 (wSeq (wFor (wSeqD (wVar 1)) (gTupD 2 (gConsD (gN 4) (gConsD (gN 5) gNilD))) (wSet 3 (wBin dAddT (wLift (wVar 3)) (wCallI 2 g_law_joined (wHere 2 (wCons (wTup (wCons (wUn dNeg (wC (.int 1))) (wCons (wVar 4) wNil))) (wCons (wTup (wCons (wUn dNeg (wC (.int 1))) (wCons (wVar 5) wNil))) wNil)))))))
 (wRet (wCall g_law_built (wCons (wCall dLen (wCons (wBin dIx (wVar 0) (wC (.int 0))) wNil)) (wCons (wLst wNil) (wCons (wVar 3) (wCons (wVar 2) wNil)))))))))
theorem b__law_closed {P:Program} {w:World} {K:PySem.W.Frag} {mg:Str->Option Value} {base:Heap} {f:Addr} (B:Bn mg) (C__law_ties:Cal P w K mg base "_law_ties" 2 ["_law_web_here"] (spR K g_law_ties)) (C__law_joined:Cal P w K mg base "_law_joined" 1 ["_law_ties_here","_law_one","_law_other"] (spI K 0 g_law_joined)) (C__law_built:Cal P w K mg base "_law_built" 1 ["_law_many","_law_rim","_law_rings","_law_ties_here"] (spR K g_law_built)):∀(cdv:Value) (A:Around) (outer:List PySem.Env) (s:Shared) (H:Hp) (E:XK),Room 2 (A.deeper (envOfC "_law_closed" (defScope s__law_closed) s.heap.objs.size f cdv))->SVs (cxOf CX0 P w K mg base ["_law_one","_law_seam","_law_ties_here","_law_rings","_law_here","_law_there"] "_law_closed" (defScope s__law_closed) f cdv A outer s H E).nox t__law_closed (defBody s__law_closed) w__law_closed:=λcdv A outer s H E hr =>
  (svs_cons (sv_set (i:=2) (ev_callC C__law_ties (hr.mono (by decide)) (av_cons (ev_var 0) av_nil)) sc__law_closed.nd)
  (svs_cons (sv_set (i:=3) (ev_lift (ev_ix (xd_ix (hu_of hr)) (ev_var 0) ev_int)) sc__law_closed.nd)
  (svs_cons (sv_for PassesOwn.never (iv_par (i:=1)) (gv_tup (gvs_cons (gv_name (i:=4) sc__law_closed.nd) (gvs_cons (gv_name (i:=5) sc__law_closed.nd) gvs_nil))) (svs_one (sv_set (i:=3) (ev_op od_addT (ev_lift (ev_var 3)) (ev_callIC C__law_joined (hr.mono (by decide)) (ai_here (i:=2) (av_cons (ev_tup (av_cons (ev_un ud_neg ev_int) (av_cons (ev_var 4) av_nil))) (av_cons (ev_tup (av_cons (ev_un ud_neg ev_int) (av_cons (ev_var 5) av_nil))) av_nil))))) sc__law_closed.nd)))
  (svs_one (sv_ret (ev_callC C__law_built (hr.mono (by decide)) (av_cons (ev_callB cd_len B.nb_len bt_len (av_cons (ev_ix (xd_ix (hu_of hr)) (ev_var 0) ev_int) av_nil)) (av_cons (ev_lst av_nil) (av_cons (ev_var 3) (av_cons (ev_var 2) av_nil))))))))))
theorem ok__law_closed {P:Program} {w:World} {K:PySem.W.Frag} {mg:Str->Option Value} {base:Heap} {f:Addr} {fd:FuncData} (F:Fun K "_law_closed" "_law_closed" s__law_closed f fd) (B:Bn mg) (C1:Cal P w K mg base "_law_ties" 2 ["_law_web_here"] (spR K g_law_ties)) (C2:Cal P w K mg base "_law_joined" 1 ["_law_ties_here","_law_one","_law_other"] (spI K 0 g_law_joined)) (C3:Cal P w K mg base "_law_built" 1 ["_law_many","_law_rim","_law_rings","_law_ties_here"] (spR K g_law_built)):FnOk P w K mg base CX0 3 f fd ["_law_one","_law_seam"] (spR K g_law_closed):=by
 refine fn_ro (T:=t__law_closed) F sc__law_closed rfl (by decide) (λds kk h=>?_) (b__law_closed B C1 C2 C3) (λds kk h=>?_)
 ·obtain ⟨m,A,r,g,ja,jb,jc,jd,B,h,rfl,_⟩:=h
  rfl
 ·obtain ⟨m,A,r,g,ja,jb,jc,jd,B,h,rfl,tw,⟨hja,hjb,hjc,hjd,hab,hcd,hac,had,hbc,hbd⟩,hm,O,k⟩:=h
  have w0:∀(m e:Nat) (A:Nat->Int) (r:Int) (kq:D->Prop),dIx (webD m e A r) (.int 0) (λd=>dLen [d] kq)=kq (.int m):=λm e A r kq=>by simp only [webD,r_ixT,atI_0,List.getElem?_cons_zero,oget_s,r_lenT,List.length_map,List.length_range]
  have w2:∀(m e:Nat) (A:Nat->Int) (r:Int) (kq:D->Prop),dIx (webD m e A r) (.int 2) kq=kq (.int r):=λm e A r kq=>by simp only [webD,r_ixT,atI_2,List.getElem?_cons_succ,List.getElem?_cons_zero,oget_s]
  have P0:Prt (· < 4*m+4) g:=prt_one tw
  have ea:∀j:Nat,D.tup [.int (-1),.int (j:Int)]=sd (M.sp m (4*m+j)):=λj=>by rw [M.sp_out];rfl
  simp only [w__law_closed,wSeq,wSet,wCall,wCons,env0,List.map_cons,List.map_nil,List.length_cons,List.length_nil,Nat.zero_add,Nat.reduceAdd,List.replicate,List.cons_append,List.nil_append,wNil,wLift,wBin,wC,r_for,r_seq,r_var,look,List.set_cons_succ,List.set_cons_zero,oget_s,r_seqL,pureL,D.pure,Bool.and_self,true_and]
  refine ⟨m,4,A,r,g,rfl,by omega,by omega,tw,λT a1 a2 a3 a4=>?_⟩
  have a3:∀x,x<4*m+4->valD T (sk (M.sp m x))=some (sd (M.sp m (g x))):=a3
  simp only [w2,D.pure,true_and]
  refine ⟨λt ρ=>∃(T:List (List Key × D)) (o8 o9:Option D) (R:Int) (S:Nat->Prop) (G':Nat->Nat),ρ=[some (webD m 4 A r),some (.lst [.tup [.int (ja:Int),.int (jb:Int)],.tup [.int (jc:Int),.int (jd:Int)]]),some (.dit T),some (.int R),o8,o9]/\T.length<=1000+2*t/\pur T/\(∀i,S i->valD T (sk (M.sp m i))=some (sd (M.sp m (G' i)))) /\
   ((t=0/\R=r/\S=(· < 4*m+4)/\G'=g)\/(t=1/\R=r+rg g (4*m+ja) (4*m+jb)/\S=less (· < 4*m+4) (4*m+ja) (4*m+jb)/\G'=tie g (4*m+ja) (4*m+jb)) \/
    (t=2/\R=r+rg g (4*m+ja) (4*m+jb)+rg (tie g (4*m+ja) (4*m+jb)) (4*m+jc) (4*m+jd)/\S=less (less (· < 4*m+4) (4*m+ja) (4*m+jb)) (4*m+jc) (4*m+jd)/\G'=tie (tie g (4*m+ja) (4*m+jb)) (4*m+jc) (4*m+jd))),⟨T,none,none,_,_,_,rfl,by omega,a2,a3,.inl ⟨rfl,rfl,rfl,rfl⟩⟩,?_,?_⟩
  ·rintro t d ρ hd ⟨T,o8,o9,R,S,G',rfl,hl,hp,hT,hc⟩
   rcases hc with ⟨rfl,rfl,rfl,rfl⟩ | ⟨rfl,rfl,rfl,rfl⟩ | ⟨rfl,_⟩
   ·have hd:=(Option.some.inj hd).symm
    subst hd
    simp only [wSet,wBin,wLift,wCallI,wHere,wCons,wTup,wUn,wC,wNil,List.length_cons,List.length_nil,Nat.zero_add,Nat.reduceAdd,sz2,pureL,D.pure,Bool.and_true,List.nil_append,true_and,r_var,r_neg,Bool.true_and,Int.reduceNeg,r_gTup,r_gCons,gN,List.set_cons_succ,List.set_cons_zero,r_gNil,look,Option.isSome_some,oget_s,r_flT]
    rw [ea ja,ea jb]
    refine ⟨hp,joined_of (by omega) hp (λz=>by have:=M.sp_inj z;omega) (hT _ (show 4*m+ja<4*m+4 by omega)) (hT _ (show 4*m+jb<4*m+4 by omega)) λring U ul up hc=>?_⟩
    obtain ⟨hR,hU⟩:=joinG P0 (λi j _ _ z=>M.sp_inj z) hT (show 4*m+ja<4*m+4 by omega) (show 4*m+jb<4*m+4 by omega) (by omega) hc
    simp only [hR,r2_add]
    exact ⟨U,_,_,_,_,_,rfl,by omega,up,hU,by first | exact .inr (.inl ⟨rfl,rfl,rfl,rfl⟩) | exact .inr (.inl ⟨rfl,rfl,rfl⟩) | exact .inl ⟨rfl,rfl,rfl⟩ | exact ⟨rfl,rfl,rfl⟩ | exact .inr ⟨rfl,rfl,rfl⟩⟩
   ·have hd:=(Option.some.inj hd).symm
    subst hd
    have P1:=P0.tie (show 4*m+ja<4*m+4 by omega) (show 4*m+jb<4*m+4 by omega) (by omega)
    have sc:less (· < 4*m+4) (4*m+ja) (4*m+jb) (4*m+jc):=⟨show 4*m+jc<4*m+4 by omega,by omega,by omega⟩
    have sd':less (· < 4*m+4) (4*m+ja) (4*m+jb) (4*m+jd):=⟨show 4*m+jd<4*m+4 by omega,by omega,by omega⟩
    simp only [wSet,wBin,wLift,wCallI,wHere,wCons,wTup,wUn,wC,wNil,List.length_cons,List.length_nil,Nat.zero_add,Nat.reduceAdd,sz2,pureL,D.pure,Bool.and_true,List.nil_append,true_and,r_var,r_neg,Bool.true_and,Int.reduceNeg,r_gTup,r_gCons,gN,List.set_cons_succ,List.set_cons_zero,r_gNil,look,Option.isSome_some,oget_s,r_flT]
    rw [ea jc,ea jd]
    refine ⟨hp,joined_of (by omega) hp (λz=>by have:=M.sp_inj z;omega) (hT _ sc) (hT _ sd') λring U ul up hc=>?_⟩
    obtain ⟨hR,hU⟩:=joinG P1 (λi j _ _ z=>M.sp_inj z) hT sc sd' (by omega) hc
    simp only [hR,r2_add]
    exact ⟨U,_,_,_,_,_,rfl,by omega,up,hU,by first | exact .inr (.inr ⟨rfl,rfl,rfl,rfl⟩) | exact .inr (.inr ⟨rfl,rfl,rfl⟩) | exact .inl ⟨rfl,rfl,rfl⟩ | exact ⟨rfl,rfl,rfl⟩ | exact .inr ⟨rfl,rfl,rfl⟩⟩
   ·cases hd
  ·rintro ρ ⟨T,o8,o9,R,S,G',rfl,hl,hp,hT,hc⟩
   rcases hc with ⟨z,_⟩ | ⟨z,_⟩ | ⟨_,rfl,rfl,rfl⟩
   ·cases z
   ·cases z
   ·simp only [wRet,wCall,wCons,wBin,wC,wNil,wLst,List.length_nil,sz0,r_var,true_and,look,oget_s,w0]
    refine ⟨m,0,λi=>M.sp m i,B,h,_,T,rfl,by omega,by omega,λi hi=>rfl,λi j hi hj z=>M.sp_inj z,O.tw,λi hi=>?_,k⟩
    have:=hT _ (O.mem i hi)
    rw [this]
    have:=O.map i hi
    rw [← this]
end K53
namespace K53
open PySem PySem.Spec L2 PV
open PyProof.Rows (envOfC)
open M (tie)
def g_law_cell_at:GA:=λds k=>∃(ns:List Int) (i:Int),ds=[.kls (ns.map .int),.int i]/\0<=i/\∀c:Int,k (.int c)
abbrev s__law_cell_at:Stmt:=top 18
theorem sc__law_cell_at:FnScope ["_law_script","_law_k"] ["_law_script","_law_k"] (defScope s__law_cell_at):=⟨rfl,rfl,rfl,by decide +kernel,rfl,by decide +kernel,by decide +kernel⟩
def t__law_cell_at:Tg:={ own:=λi=>false,io:=[] }
def w__law_cell_at:WS:=(wSeq (wIf (wBl (wBin (dCmp λi j=>decide (i<j)) (wVar 1) (wCall dLen (wCons (wVar 0) wNil)))) (wRet (wLift (wBin dIx (wVar 0) (wVar 1)))) wNext)
 (wRet (wC (.int 0))))
theorem b__law_cell_at {P:Program} {w:World} {K:PySem.W.Frag} {mg:Str->Option Value} {base:Heap} {f:Addr} (B:Bn mg):∀(cdv:Value) (A:Around) (outer:List PySem.Env) (s:Shared) (H:Hp) (E:XK),Room 0 (A.deeper (envOfC "_law_cell_at" (defScope s__law_cell_at) s.heap.objs.size f cdv))->SVs (cxOf CX0 P w K mg base ["_law_script","_law_k"] "_law_cell_at" (defScope s__law_cell_at) f cdv A outer s H E).nox t__law_cell_at (defBody s__law_cell_at) w__law_cell_at:=λcdv A outer s H E hr =>
  (svs_cons (sv_if (tv_cmp od_lt (ev_var 1) (ev_callB cd_len B.nb_len bt_len (av_cons (ev_var 0) av_nil))) (svs_one (sv_ret (ev_lift (ev_ix (xd_ix (hu_of hr)) (ev_var 0) (ev_var 1))))) svs_nil)
  (svs_one (sv_ret ev_int)))
theorem ok__law_cell_at {P:Program} {w:World} {K:PySem.W.Frag} {mg:Str->Option Value} {base:Heap} {f:Addr} {fd:FuncData} (F:Fun K "_law_cell_at" "_law_cell_at" s__law_cell_at f fd) (B:Bn mg):FnOk P w K mg base CX0 1 f fd ["_law_script","_law_k"] (spR K g_law_cell_at):=by
 refine fn_ro (T:=t__law_cell_at) F sc__law_cell_at rfl (by decide) (λds kk h=>?_) (b__law_cell_at B) (λds kk h=>?_)
 ·obtain ⟨ns,i,rfl,_⟩:=h
  rfl
 ·obtain ⟨ns,i,rfl,h0,k⟩:=h
  obtain ⟨i,rfl⟩:=Int.eq_ofNat_of_zero_le h0
  simp only [w__law_cell_at,wSeq,wIf,env0,List.map_cons,List.map_nil,List.length_cons,List.length_nil,Nat.zero_add,Nat.reduceAdd,List.cons_append,List.nil_append,wRet,wLift,wBin,r_var,wNext,wC,r_bl,wCall,wCons,wNil,look,oget_s,r_ixK,r_lenK,r_cmp,r_blOf]
  split
  ·rename_i h
   have h:(i:Int)<((ns.map D.int).length:Int):=by simpa using h
   have hi:i<ns.length:=by rw [List.length_map] at h;omega
   rw [atI_ofNat,List.getElem?_map,List.getElem?_eq_getElem hi]
   exact ⟨rfl,k _⟩
  ·exact k 0
def g_law_drawn:GI:=λds k=>∃(c n:Int),ds=[rowD c n]/\0<=n/\n<=100/\∀(c' n':Int) (m:Nat) (A:Nat->Int) (g:Nat->Nat) (r:Int),m<=6->M.Tw (4*m+4) A g->(∀i,0<=A i)->k (webD m 4 A r) (rowD c' n')
abbrev s__law_drawn:Stmt:=top 31
theorem sc__law_drawn:FnScope ["_law_row","_law_many"] ["_law_row"] (defScope s__law_drawn):=⟨rfl,rfl,rfl,by decide +kernel,rfl,by decide +kernel,by decide +kernel⟩
def t__law_drawn:Tg:={ own:=λi=>i == 0 || i == 1,io:=[0] }
def w__law_drawn:WS:=(wSeq (wSet 1 (wBin dIx (wLst (wCons (wCallI 0 g_law_take (wHere 0 (wCons (wC (.int 3)) wNil))) (wCons (wCallI 0 g_law_take (wHere 0 (wCons (wC (.int 7)) wNil))) wNil))) (wCall dInt (wCons (wBin dEq (wCallI 0 g_law_take (wHere 0 (wCons (wC (.int 4)) wNil))) (wC (.int 1))) wNil))))
 (wRet (wCallI 0 g_law_web (wHere 0 (wCons (wVar 1) (wCons (wC (.int 4)) (wCons (wC (.int 6)) wNil)))))))
theorem b__law_drawn {P:Program} {w:World} {K:PySem.W.Frag} {mg:Str->Option Value} {base:Heap} {f:Addr} (B:Bn mg) (C__law_take:Cal P w K mg base "_law_take" 1 ["_law_row","_law_base"] (spI K 0 g_law_take)) (C__law_web:Cal P w K mg base "_law_web" 3 ["_law_row","_law_many","_law_ends","_law_most"] (spI K 0 g_law_web)):∀(cdv:Value) (A:Around) (outer:List PySem.Env) (s:Shared) (H:Hp) (E:XK),Room 3 (A.deeper (envOfC "_law_drawn" (defScope s__law_drawn) s.heap.objs.size f cdv))->SVs (cxOf CX0 P w K mg base ["_law_row","_law_many"] "_law_drawn" (defScope s__law_drawn) f cdv A outer s H E).nox t__law_drawn (defBody s__law_drawn) w__law_drawn:=λcdv A outer s H E hr =>
  (svs_cons (sv_set (i:=1) (ev_ix (xd_ix (hu_of hr)) (ev_lst (av_cons (ev_callIC C__law_take (hr.mono (by decide)) (ai_here (i:=0) (av_cons ev_int av_nil))) (av_cons (ev_callIC C__law_take (hr.mono (by decide)) (ai_here (i:=0) (av_cons ev_int av_nil))) av_nil))) (ev_callTy cd_int B.nb_int bt_int (av_cons (ev_cmp (od_eq hr.units) (ev_callIC C__law_take (hr.mono (by decide)) (ai_here (i:=0) (av_cons ev_int av_nil))) ev_int) av_nil))) sc__law_drawn.nd)
  (svs_one (sv_ret (ev_callIC C__law_web (hr.mono (by decide)) (ai_here (i:=0) (av_cons (ev_var 1) (av_cons ev_int (av_cons ev_int av_nil))))))))
theorem ok__law_drawn {P:Program} {w:World} {K:PySem.W.Frag} {mg:Str->Option Value} {base:Heap} {f:Addr} {fd:FuncData} (F:Fun K "_law_drawn" "_law_drawn" s__law_drawn f fd) (B:Bn mg) (C1:Cal P w K mg base "_law_take" 1 ["_law_row","_law_base"] (spI K 0 g_law_take)) (C2:Cal P w K mg base "_law_web" 3 ["_law_row","_law_many","_law_ends","_law_most"] (spI K 0 g_law_web)):FnOk P w K mg base CX0 4 f fd ["_law_row"] (spI K 0 g_law_drawn):=by
 refine fn_io (T:=t__law_drawn) F sc__law_drawn rfl rfl (λds kk h=>?_) (b__law_drawn B C1 C2) (λds kk h=>?_)
 ·obtain ⟨c,n,rfl,_⟩:=h
  exact ⟨rfl,_,rfl,rfl⟩
 ·obtain ⟨c,n,rfl,hn,hn2,k⟩:=h
  simp only [w__law_drawn,wSeq,wSet,wBin,wLst,wCons,wCallI,wHere,env0,rowD,List.map_cons,List.map_nil,List.length_cons,List.length_nil,Nat.zero_add,Nat.reduceAdd,List.replicate,List.cons_append,List.nil_append,look,Option.isSome_some,wC,wNil,pureL,D.pure,Bool.and_self,List.set_cons_zero,sz2,wCall,wRet,List.set_cons_succ,Bool.and_true,r_var,oget_s,true_and,r_flL]
  refine ⟨c,n,3,rfl,by decide,by decide,by omega,by omega,λc1 r1 a1 b1=>?_⟩
  simp only [rowD,r_flL,pureL,D.pure,Bool.and_self,true_and]
  refine ⟨c1,n+1,7,rfl,by decide,by decide,by omega,by omega,λc2 r2 a2 b2=>?_⟩
  simp only [rowD,r_flL,pureL,D.pure,Bool.and_self,true_and]
  refine ⟨c2,n+1+1,4,rfl,by decide,by decide,by omega,by omega,λc3 r3 a3 b3=>?_⟩
  simp only [rowD,r_flL,pureL,D.pure,Bool.and_self,true_and,r_eqI,r_intB,r_ixL]
  obtain ⟨m,hm,hat⟩:∃m:Nat,m<=6/\L2.atI [D.int r1,D.int r2] (if decide (r3=1)=true then 1 else 0)=some (.int (m:Int)):=by
   split
   ·exact ⟨r2.toNat,by omega,by rw [atI_1,show ((r2.toNat:Nat):Int)=r2 by omega];rfl⟩
   ·exact ⟨r1.toNat,by omega,by rw [atI_0,show ((r1.toNat:Nat):Int)=r1 by omega];rfl⟩
  rw [hat]
  simp only [oget_s,D.pure,true_and]
  refine ⟨c3,n+1+1+1,m,4,6,rfl,by omega,by omega,by omega,by omega,by omega,λc5 n5 A g r tw hA hr hn1 hn2=>?_⟩
  have:=k c5 n5 m A g r hm tw λi=>(hA i).1
  exact ⟨rfl,this⟩
theorem web_nm {m e:Nat} {A:Nat->Int} {r:Int} (h:Nm (4*m+e) A):webD m e (M.anw A (4*m+e)) r=webD m e A r:=by
 unfold webD
 have e1:(List.range m).map (λk=>D.tup ((List.range 4).map λj=>.int (M.anw A (4*m+e) (4*k+j))))=(List.range m).map λk=>D.tup ((List.range 4).map λj=>.int (A (4*k+j))):=by
  refine List.map_congr_left λk hk=>congrArg D.tup (List.map_congr_left λj hj=>?_)
  have:=List.mem_range.mp hk
  have:=List.mem_range.mp hj
  rw [h _ (by omega)]
 have e2:(List.range e).map (λj=>D.int (M.anw A (4*m+e) (4*m+j)))=(List.range e).map λj=>D.int (A (4*m+j)):=by
  refine List.map_congr_left λj hj=>?_
  have:=List.mem_range.mp hj
  rw [h _ (by omega)]
 rw [e1,e2]
theorem rim_b {m:Nat}:(List.range 4).map (λj=>sd (sG m 4 0 (oB m (4*m+j))))=[.tup [.int (-1),.int 0],.tup [.int (-1),.int 1],.tup [.int (-2),.int 2],.tup [.int (-2),.int 3]]:=by
 have b0:oB m (4*m+0)=4*m+0:=if_pos (by omega)
 have b1:oB m (4*m+1)=4*m+1:=if_pos (by omega)
 have b2:oB m (4*m+2)=4*m+6:=by unfold oB;rw [if_neg (by omega)]
 have b3:oB m (4*m+3)=4*m+7:=by unfold oB;rw [if_neg (by omega)]
 show [sd (sG m 4 0 (oB m (4*m+0))),sd (sG m 4 0 (oB m (4*m+1))),sd (sG m 4 0 (oB m (4*m+2))),sd (sG m 4 0 (oB m (4*m+3)))]=_
 rw [b0,b1,b2,b3,sG_a (by omega),sG_a (by omega),sG_b (by omega),sG_b (by omega)]
 rfl
theorem rim_a {m:Nat}:(List.range 4).map (λj=>sd (sG m 4 0 (oA m (4*m+j))))=[.tup [.int (-1),.int 0],.tup [.int (-2),.int 1],.tup [.int (-2),.int 2],.tup [.int (-1),.int 3]]:=by
 have b0:oA m (4*m+0)=4*m+0:=if_pos (by omega)
 have b1:oA m (4*m+1)=4*m+5:=by unfold oA;rw [if_neg (by omega),if_pos (by omega)]
 have b2:oA m (4*m+2)=4*m+6:=by unfold oA;rw [if_neg (by omega),if_pos (by omega)]
 have b3:oA m (4*m+3)=4*m+3:=by unfold oA;rw [if_neg (by omega),if_neg (by omega)]
 show [sd (sG m 4 0 (oA m (4*m+0))),sd (sG m 4 0 (oA m (4*m+1))),sd (sG m 4 0 (oA m (4*m+2))),sd (sG m 4 0 (oA m (4*m+3)))]=_
 rw [b0,b1,b2,b3,sG_a (by omega),sG_b (by omega),sG_b (by omega),sG_a (by omega)]
 rfl
theorem rim_q {m:Nat}:(List.range 4).map (λj=>sd (M.sp m (shf m 3 (4*m+j))))=[.tup [.int (-1),.int 3],.tup [.int (-1),.int 0],.tup [.int (-1),.int 1],.tup [.int (-1),.int 2]]:=by
 show [sd (M.sp m (shf m 3 (4*m+0))),sd (M.sp m (shf m 3 (4*m+1))),sd (M.sp m (shf m 3 (4*m+2))),sd (M.sp m (shf m 3 (4*m+3)))]=_
 rw [shf_out,shf_out,shf_out,shf_out,M.sp_out,M.sp_out,M.sp_out,M.sp_out]
 rfl
def g_law:GA:=λds k=>∃ns:List Int,ds=[.kls (ns.map .int)]/\ns.length<=63/\k (.bl true)
abbrev s_law:Stmt:=top 32
theorem sc_law:FnScope ["_law_script","_law_upper_left","_law_lower_left","_law_lower_right","_law_upper_right","_law_k","_law_one","_law_other","_law_rim","_law_seam"] ["_law_script"] (defScope s_law):=⟨rfl,rfl,rfl,by decide +kernel,rfl,by decide +kernel,by decide +kernel⟩
def t_law:Tg:={ own:=λi=>i == 1 || i == 2 || i == 3 || i == 4 || i == 5 || i == 6 || i == 7 || i == 8 || i == 9,io:=[] }
def w_law:WS:=(wSeq (wAsg (wTup (wCons (wC (.int 0)) (wCons (wC (.int 1)) (wCons (wC (.int 2)) (wCons (wC (.int 3)) wNil))))) (gTupD 4 (gConsD (gN 1) (gConsD (gN 2) (gConsD (gN 3) (gConsD (gN 4) gNilD))))))
 (wSeq (wFor (wRng3 (wCons (wC (.int 0)) (wCons (wBin dAddT (wC (.int 1)) (wCall dMin2 (wCons (wC (.int 10)) (wCons (wCall dLen (wCons (wVar 0) wNil)) wNil)))) (wCons (wC (.int 2)) wNil)))) (gN 5) (wSeq (wSet 6 (wCallF g_law_drawn (wCons (wLst (wCons (wCall g_law_cell_at (wCons (wVar 0) (wCons (wVar 5) wNil))) (wCons (wC (.int 0)) wNil))) wNil)))
 (wSeq (wSet 7 (wCallF g_law_drawn (wCons (wLst (wCons (wCall g_law_cell_at (wCons (wVar 0) (wCons (wBin dAddT (wVar 5) (wC (.int 1))) wNil))) (wCons (wC (.int 40)) wNil))) wNil)))
 (wSeq (wSet 8 (wLst (wCons (wLift (wTup (wCons (wUn dNeg (wC (.int 1))) (wCons (wVar 1) wNil)))) (wCons (wLift (wTup (wCons (wUn dNeg (wC (.int 1))) (wCons (wVar 2) wNil)))) (wCons (wLift (wTup (wCons (wUn dNeg (wC (.int 2))) (wCons (wVar 3) wNil)))) (wCons (wLift (wTup (wCons (wUn dNeg (wC (.int 2))) (wCons (wVar 4) wNil)))) wNil))))))
 (wSeq (wSet 9 (wLst (wCons (wLift (wTup (wCons (wVar 4) (wCons (wVar 1) wNil)))) (wCons (wLift (wTup (wCons (wVar 3) (wCons (wVar 2) wNil)))) wNil))))
 (wSeq (wIf (wNot (wTru (wCall g_law_is (wCons (wCall g_beside (wCons (wVar 6) (wCons (wVar 7) wNil))) (wCons (wCall g_law_both (wCons (wVar 6) (wCons (wVar 7) (wCons (wVar 9) (wCons (wVar 8) wNil))))) wNil))))) (wRet (wC (.bl false))) wNext)
 (wSeq (wSet 8 (wLst (wCons (wLift (wTup (wCons (wUn dNeg (wC (.int 1))) (wCons (wVar 1) wNil)))) (wCons (wLift (wTup (wCons (wUn dNeg (wC (.int 2))) (wCons (wVar 2) wNil)))) (wCons (wLift (wTup (wCons (wUn dNeg (wC (.int 2))) (wCons (wVar 3) wNil)))) (wCons (wLift (wTup (wCons (wUn dNeg (wC (.int 1))) (wCons (wVar 4) wNil)))) wNil))))))
 (wSeq (wSet 9 (wLst (wCons (wLift (wTup (wCons (wVar 2) (wCons (wVar 1) wNil)))) (wCons (wLift (wTup (wCons (wVar 3) (wCons (wVar 4) wNil)))) wNil))))
 (wSeq (wIf (wNot (wTru (wCall g_law_is (wCons (wCall g_above (wCons (wVar 6) (wCons (wVar 7) wNil))) (wCons (wCall g_law_both (wCons (wVar 6) (wCons (wVar 7) (wCons (wVar 9) (wCons (wVar 8) wNil))))) wNil))))) (wRet (wC (.bl false))) wNext)
 (wSeq (wSet 8 (wLst (wCons (wLift (wTup (wCons (wUn dNeg (wC (.int 1))) (wCons (wVar 4) wNil)))) (wCons (wLift (wTup (wCons (wUn dNeg (wC (.int 1))) (wCons (wVar 1) wNil)))) (wCons (wLift (wTup (wCons (wUn dNeg (wC (.int 1))) (wCons (wVar 2) wNil)))) (wCons (wLift (wTup (wCons (wUn dNeg (wC (.int 1))) (wCons (wVar 3) wNil)))) wNil))))))
 (wSeq (wIf (wNot (wTru (wCall g_law_is (wCons (wCall g_quarter (wCons (wVar 6) wNil)) (wCons (wCall g_law_built (wCons (wCall dLen (wCons (wBin dIx (wVar 6) (wC (.int 0))) wNil)) (wCons (wVar 8) (wCons (wBin dIx (wVar 6) (wC (.int 2))) (wCons (wCall g_law_ties (wCons (wVar 6) wNil)) wNil))))) wNil))))) (wRet (wC (.bl false))) wNext)
 (wSeq (wIf (wNot (wTru (wCall g_law_is (wCons (wCall g_closed (wCons (wVar 6) (wCons (wC (.int 0)) wNil))) (wCons (wCall g_law_closed (wCons (wVar 6) (wCons (wLst (wCons (wLift (wTup (wCons (wVar 1) (wCons (wVar 4) wNil)))) (wCons (wLift (wTup (wCons (wVar 2) (wCons (wVar 3) wNil)))) wNil))) wNil))) wNil))))) (wRet (wC (.bl false))) wNext)
 (wIf (wNot (wTru (wCall g_law_is (wCons (wCall g_closed (wCons (wVar 6) (wCons (wC (.int 1)) wNil))) (wCons (wCall g_law_closed (wCons (wVar 6) (wCons (wLst (wCons (wLift (wTup (wCons (wVar 1) (wCons (wVar 2) wNil)))) (wCons (wLift (wTup (wCons (wVar 3) (wCons (wVar 4) wNil)))) wNil))) wNil))) wNil))))) (wRet (wC (.bl false))) wNext)))))))))))))
 (wRet (wC (.bl true)))))
theorem b_law {P:Program} {w:World} {K:PySem.W.Frag} {mg:Str->Option Value} {base:Heap} {f:Addr} (B:Bn mg) (C_beside:Cal P w K mg base "beside" 5 ["one","other"] (spR K g_beside)) (C_quarter:Cal P w K mg base "quarter" 3 ["one"] (spR K g_quarter)) (C_above:Cal P w K mg base "above" 6 ["one","other"] (spR K g_above)) (C_closed:Cal P w K mg base "closed" 4 ["one","way"] (spR K g_closed)) (C__law_cell_at:Cal P w K mg base "_law_cell_at" 1 ["_law_script","_law_k"] (spR K g_law_cell_at)) (C__law_ties:Cal P w K mg base "_law_ties" 2 ["_law_web_here"] (spR K g_law_ties)) (C__law_built:Cal P w K mg base "_law_built" 1 ["_law_many","_law_rim","_law_rings","_law_ties_here"] (spR K g_law_built)) (C__law_is:Cal P w K mg base "_law_is" 1 ["_law_found","_law_due"] (spR K g_law_is)) (C__law_both:Cal P w K mg base "_law_both" 3 ["_law_one","_law_other","_law_seam","_law_rim"] (spR K g_law_both)) (C__law_closed:Cal P w K mg base "_law_closed" 3 ["_law_one","_law_seam"] (spR K g_law_closed)) (C__law_drawn:Cal P w K mg base "_law_drawn" 4 ["_law_row"] (spI K 0 g_law_drawn)):∀(cdv:Value) (A:Around) (outer:List PySem.Env) (s:Shared) (H:Hp) (E:XK),Room 6 (A.deeper (envOfC "law" (defScope s_law) s.heap.objs.size f cdv))->SVs (cxOf CX0 P w K mg base ["_law_script","_law_upper_left","_law_lower_left","_law_lower_right","_law_upper_right","_law_k","_law_one","_law_other","_law_rim","_law_seam"] "law" (defScope s_law) f cdv A outer s H E).nox t_law (defBody s_law) w_law:=λcdv A outer s H E hr =>
  (svs_cons (sv_asg (ev_tup (av_cons ev_int (av_cons ev_int (av_cons ev_int (av_cons ev_int av_nil))))) (gv_tup (gvs_cons (gv_name (i:=1) sc_law.nd) (gvs_cons (gv_name (i:=2) sc_law.nd) (gvs_cons (gv_name (i:=3) sc_law.nd) (gvs_cons (gv_name (i:=4) sc_law.nd) gvs_nil))))))
  (svs_cons (sv_for PassesOwn.never (iv_range3 B.nb_range (av_cons ev_int (av_cons (ev_op od_addT ev_int (ev_callB (cd_min2 rfl) B.nb_min bt_min (av_cons ev_int (av_cons (ev_callB cd_len B.nb_len bt_len (av_cons (ev_var 0) av_nil)) av_nil)))) (av_cons ev_int av_nil)))) (gv_name (i:=5) sc_law.nd) (svs_cons (sv_set (i:=6) (ev_callF C__law_drawn (hr.mono (by decide)) (av_cons (ev_lst (av_cons (ev_callC C__law_cell_at (hr.mono (by decide)) (av_cons (ev_var 0) (av_cons (ev_var 5) av_nil))) (av_cons ev_int av_nil))) av_nil)) sc_law.nd)
  (svs_cons (sv_set (i:=7) (ev_callF C__law_drawn (hr.mono (by decide)) (av_cons (ev_lst (av_cons (ev_callC C__law_cell_at (hr.mono (by decide)) (av_cons (ev_var 0) (av_cons (ev_op od_addT (ev_var 5) ev_int) av_nil))) (av_cons ev_int av_nil))) av_nil)) sc_law.nd)
  (svs_cons (sv_set (i:=8) (ev_lst (av_cons (ev_lift (ev_tup (av_cons (ev_un ud_neg ev_int) (av_cons (ev_var 1) av_nil)))) (av_cons (ev_lift (ev_tup (av_cons (ev_un ud_neg ev_int) (av_cons (ev_var 2) av_nil)))) (av_cons (ev_lift (ev_tup (av_cons (ev_un ud_neg ev_int) (av_cons (ev_var 3) av_nil)))) (av_cons (ev_lift (ev_tup (av_cons (ev_un ud_neg ev_int) (av_cons (ev_var 4) av_nil)))) av_nil))))) sc_law.nd)
  (svs_cons (sv_set (i:=9) (ev_lst (av_cons (ev_lift (ev_tup (av_cons (ev_var 4) (av_cons (ev_var 1) av_nil)))) (av_cons (ev_lift (ev_tup (av_cons (ev_var 3) (av_cons (ev_var 2) av_nil)))) av_nil))) sc_law.nd)
  (svs_cons (sv_if (tv_not (tv_tru (ev_callC C__law_is (hr.mono (by decide)) (av_cons (ev_callC C_beside (hr.mono (by decide)) (av_cons (ev_var 6) (av_cons (ev_var 7) av_nil))) (av_cons (ev_callC C__law_both (hr.mono (by decide)) (av_cons (ev_var 6) (av_cons (ev_var 7) (av_cons (ev_var 9) (av_cons (ev_var 8) av_nil))))) av_nil))))) (svs_one (sv_ret ev_bl)) svs_nil)
  (svs_cons (sv_set (i:=8) (ev_lst (av_cons (ev_lift (ev_tup (av_cons (ev_un ud_neg ev_int) (av_cons (ev_var 1) av_nil)))) (av_cons (ev_lift (ev_tup (av_cons (ev_un ud_neg ev_int) (av_cons (ev_var 2) av_nil)))) (av_cons (ev_lift (ev_tup (av_cons (ev_un ud_neg ev_int) (av_cons (ev_var 3) av_nil)))) (av_cons (ev_lift (ev_tup (av_cons (ev_un ud_neg ev_int) (av_cons (ev_var 4) av_nil)))) av_nil))))) sc_law.nd)
  (svs_cons (sv_set (i:=9) (ev_lst (av_cons (ev_lift (ev_tup (av_cons (ev_var 2) (av_cons (ev_var 1) av_nil)))) (av_cons (ev_lift (ev_tup (av_cons (ev_var 3) (av_cons (ev_var 4) av_nil)))) av_nil))) sc_law.nd)
  (svs_cons (sv_if (tv_not (tv_tru (ev_callC C__law_is (hr.mono (by decide)) (av_cons (ev_callC C_above (hr.mono (by decide)) (av_cons (ev_var 6) (av_cons (ev_var 7) av_nil))) (av_cons (ev_callC C__law_both (hr.mono (by decide)) (av_cons (ev_var 6) (av_cons (ev_var 7) (av_cons (ev_var 9) (av_cons (ev_var 8) av_nil))))) av_nil))))) (svs_one (sv_ret ev_bl)) svs_nil)
  (svs_cons (sv_set (i:=8) (ev_lst (av_cons (ev_lift (ev_tup (av_cons (ev_un ud_neg ev_int) (av_cons (ev_var 4) av_nil)))) (av_cons (ev_lift (ev_tup (av_cons (ev_un ud_neg ev_int) (av_cons (ev_var 1) av_nil)))) (av_cons (ev_lift (ev_tup (av_cons (ev_un ud_neg ev_int) (av_cons (ev_var 2) av_nil)))) (av_cons (ev_lift (ev_tup (av_cons (ev_un ud_neg ev_int) (av_cons (ev_var 3) av_nil)))) av_nil))))) sc_law.nd)
  (svs_cons (sv_if (tv_not (tv_tru (ev_callC C__law_is (hr.mono (by decide)) (av_cons (ev_callC C_quarter (hr.mono (by decide)) (av_cons (ev_var 6) av_nil)) (av_cons (ev_callC C__law_built (hr.mono (by decide)) (av_cons (ev_callB cd_len B.nb_len bt_len (av_cons (ev_ix (xd_ix (hu_of hr)) (ev_var 6) ev_int) av_nil)) (av_cons (ev_var 8) (av_cons (ev_ix (xd_ix (hu_of hr)) (ev_var 6) ev_int) (av_cons (ev_callC C__law_ties (hr.mono (by decide)) (av_cons (ev_var 6) av_nil)) av_nil))))) av_nil))))) (svs_one (sv_ret ev_bl)) svs_nil)
  (svs_cons (sv_if (tv_not (tv_tru (ev_callC C__law_is (hr.mono (by decide)) (av_cons (ev_callC C_closed (hr.mono (by decide)) (av_cons (ev_var 6) (av_cons ev_int av_nil))) (av_cons (ev_callC C__law_closed (hr.mono (by decide)) (av_cons (ev_var 6) (av_cons (ev_lst (av_cons (ev_lift (ev_tup (av_cons (ev_var 1) (av_cons (ev_var 4) av_nil)))) (av_cons (ev_lift (ev_tup (av_cons (ev_var 2) (av_cons (ev_var 3) av_nil)))) av_nil))) av_nil))) av_nil))))) (svs_one (sv_ret ev_bl)) svs_nil)
  (svs_one (sv_if (tv_not (tv_tru (ev_callC C__law_is (hr.mono (by decide)) (av_cons (ev_callC C_closed (hr.mono (by decide)) (av_cons (ev_var 6) (av_cons ev_int av_nil))) (av_cons (ev_callC C__law_closed (hr.mono (by decide)) (av_cons (ev_var 6) (av_cons (ev_lst (av_cons (ev_lift (ev_tup (av_cons (ev_var 1) (av_cons (ev_var 2) av_nil)))) (av_cons (ev_lift (ev_tup (av_cons (ev_var 3) (av_cons (ev_var 4) av_nil)))) av_nil))) av_nil))) av_nil))))) (svs_one (sv_ret ev_bl)) svs_nil))))))))))))))
  (svs_one (sv_ret ev_bl))))
theorem ok_law {P:Program} {w:World} {K:PySem.W.Frag} {mg:Str->Option Value} {base:Heap} {f:Addr} {fd:FuncData} (F:Fun K "law" "law" s_law f fd) (B:Bn mg) (C1:Cal P w K mg base "beside" 5 ["one","other"] (spR K g_beside)) (C2:Cal P w K mg base "quarter" 3 ["one"] (spR K g_quarter)) (C3:Cal P w K mg base "above" 6 ["one","other"] (spR K g_above)) (C4:Cal P w K mg base "closed" 4 ["one","way"] (spR K g_closed)) (C5:Cal P w K mg base "_law_cell_at" 1 ["_law_script","_law_k"] (spR K g_law_cell_at)) (C6:Cal P w K mg base "_law_ties" 2 ["_law_web_here"] (spR K g_law_ties)) (C7:Cal P w K mg base "_law_built" 1 ["_law_many","_law_rim","_law_rings","_law_ties_here"] (spR K g_law_built)) (C8:Cal P w K mg base "_law_is" 1 ["_law_found","_law_due"] (spR K g_law_is)) (C9:Cal P w K mg base "_law_both" 3 ["_law_one","_law_other","_law_seam","_law_rim"] (spR K g_law_both)) (C10:Cal P w K mg base "_law_closed" 3 ["_law_one","_law_seam"] (spR K g_law_closed)) (C11:Cal P w K mg base "_law_drawn" 4 ["_law_row"] (spI K 0 g_law_drawn)):FnOk P w K mg base CX0 7 f fd ["_law_script"] (spR K g_law):=by
 refine fn_ro (T:=t_law) F sc_law rfl (by decide) (λds kk h=>?_) (b_law B C1 C2 C3 C4 C5 C6 C7 C8 C9 C10 C11) (λds kk h=>?_)
 ·obtain ⟨ns,rfl,_⟩:=h
  rfl
 ·obtain ⟨ns,rfl,hns,k⟩:=h
  have w0:∀(m e:Nat) (A:Nat->Int) (r:Int) (kq:D->Prop),dIx (webD m e A r) (.int 0) (λd=>dLen [d] kq)=kq (.int m):=λm e A r kq=>by simp only [webD,r_ixT,atI_0,List.getElem?_cons_zero,oget_s,r_lenT,List.length_map,List.length_range]
  have w2:∀(m e:Nat) (A:Nat->Int) (r:Int) (kq:D->Prop),dIx (webD m e A r) (.int 2) kq=kq (.int r):=λm e A r kq=>by simp only [webD,r_ixT,atI_2,List.getElem?_cons_succ,List.getElem?_cons_zero,oget_s]
  simp only [w_law,wSeq,wAsg,wTup,wCons,wC,wNil,List.length_cons,List.length_nil,Nat.zero_add,Nat.reduceAdd,sz4,D.pure,pureL,Bool.and_self,env0,List.map_cons,List.map_nil,List.replicate,List.cons_append,List.nil_append,r_gTup,r_gCons,gN,List.set_cons_succ,List.set_cons_zero,r_gNil,r_for,r8_rng3,wBin,wCall,r_var,look,oget_s,r_lenK,List.length_map,r_min,r2_add,r8_rng3I,Int.reducePow,Int.reduceNeg,Int.reduceLE,Int.reduceLT,true_and,pure_rngS]
  have hmin:∃q:Int,(1+if (ns.length:Int)<10 then (ns.length:Int) else 10)=q/\0<=q/\q<=11:=⟨_,rfl,by split <;> omega,by split <;> omega⟩
  obtain ⟨q,hq,q0,q1⟩:=hmin
  rw [hq]
  refine ⟨by omega,.inl trivial,λ_ ρ=>∃o5 o6 o7 o8 o9:Option D,ρ=[some (.kls (ns.map .int)),some (.int 0),some (.int 1),some (.int 2),some (.int 3),o5,o6,o7,o8,o9],⟨none,none,none,none,none,rfl⟩,?_,?_⟩
  ·rintro i d ρ hd ⟨o5,o6,o7,o8,o9,rfl⟩
   obtain ⟨hi,rfl⟩:=rngS_get hd
   simp only [gN,wSeq,wSet,List.set_cons_succ,List.set_cons_zero,wLst,wCons,wLift,wTup,wUn,wC,wNil,List.length_cons,List.length_nil,Nat.zero_add,Nat.reduceAdd,sz2,D.pure,pureL,Bool.and_true,sz4,wIf,wNot,wRet,wNext,r_tru,wCall,true_and,r_var,wBin,r_neg,Bool.true_and,Int.reduceNeg,r8_callF,r8_cf,r_flL,Bool.and_self,look,oget_s,r2_add]
   refine ⟨ns,_,rfl,by omega,λc=>?_⟩
   simp only [D.pure,Int.reduceNeg,true_and]
   refine ⟨c,0,rfl,by decide,by decide,λc1 n1 m1 A1 g1 r1 hm1 tw1 hA1=>?_⟩
   simp only [Int.reduceNeg]
   refine ⟨ns,_,rfl,by omega,λc2=>?_⟩
   simp only [D.pure,Int.reduceNeg,true_and]
   refine ⟨c2,40,rfl,by decide,by decide,λc3 n3 m2 A2 g2 r2 hm2 tw2 hA2=>?_⟩
   simp only [Int.reduceNeg]
   refine ⟨m1,A1,r1,g1,m2,A2,r2,g2,rfl,tw1,tw2,hA2,by omega,by omega,λm A' h G em eG O nm=>?_⟩
   refine ⟨m1,A1,r1,g1,m2,A2,r2,g2,m,G,3,0,2,1,A',h,oB m,by rw [rim_b];rfl,em,eG,tw1,tw2,hA2,by decide,by omega,by omega,O,?_⟩
   simp only [Nat.reduceAdd,Int.reduceNeg]
   rw [web_nm nm]
   refine ⟨m,4,A',_,rfl,by omega,by omega,?_⟩
   simp only [Int.reduceNeg,r_truB,Bool.not_true,Bool.false_eq_true,reduceIte]
   have twG:=two_tw tw1 tw2 hA2
   rw [← em,← eG] at twG
   have P0:Prt (S0 m) G:=prt_one twG
   refine ⟨m1,A1,r1,g1,m2,A2,r2,g2,rfl,tw1,tw2,hA2,by omega,by omega,λm' A2' h2' G' em' eG' O2' nm2=>?_⟩
   obtain rfl:m'=m:=by omega
   obtain rfl:G'=G:=by rw [eG',eG]
   refine ⟨m1,A1,r1,g1,m2,A2,r2,g2,m',G',1,0,2,3,A2',h2',oA m',by rw [rim_a];rfl,em,eG,tw1,tw2,hA2,by decide,by omega,by omega,O2'.congr (λ_ _=>rfl) (λx hx=>⟨⟨hx.1.1,hx.2.1,hx.2.2⟩,hx.1.2.1,hx.1.2.2⟩) (λx hx=>tie_swap P0 (show 4*m'+2<4*m'+8 by omega) (show 4*m'+7<4*m'+8 by omega) (show 4*m'+1<4*m'+8 by omega) (show 4*m'+4<4*m'+8 by omega) hx.1.1 (by omega) (by omega) (by omega) (by omega) (by omega) (by omega) hx.1.2.1 hx.1.2.2 hx.2.1 hx.2.2),?_⟩
   simp only [Nat.reduceAdd,Int.reduceNeg]
   have hsw:=rg_swap P0 (a:=4*m'+2) (b:=4*m'+7) (c:=4*m'+1) (d:=4*m'+4) (show 4*m'+2<4*m'+8 by omega) (show 4*m'+7<4*m'+8 by omega) (show 4*m'+1<4*m'+8 by omega) (show 4*m'+4<4*m'+8 by omega) (by omega) (by omega) (by omega) (by omega) (by omega) (by omega)
   rw [web_nm nm2,show r1+r2+rg G' (4*m'+2) (4*m'+7)+rg (tie G' (4*m'+2) (4*m'+7)) (4*m'+1) (4*m'+4)=r1+r2+rg G' (4*m'+1) (4*m'+4)+rg (tie G' (4*m'+1) (4*m'+4)) (4*m'+2) (4*m'+7) by
    have:rg G' (4*m'+2) (4*m'+7)+rg (tie G' (4*m'+2) (4*m'+7)) (4*m'+1) (4*m'+4)=rg G' (4*m'+1) (4*m'+4)+rg (tie G' (4*m'+1) (4*m'+4)) (4*m'+2) (4*m'+7):=hsw
    omega]
   refine ⟨m',4,A2',_,rfl,by omega,by omega,?_⟩
   simp only [Int.reduceNeg,r_truB,Bool.not_true,Bool.false_eq_true,reduceIte]
   refine ⟨m1,A1,r1,g1,rfl,tw1,by omega,λA' h O nm _=>?_⟩
   simp only [Int.reduceNeg,w2,w0]
   refine ⟨m1,4,A1,r1,g1,rfl,by omega,by omega,tw1,λT t1 t2 t3 t4=>?_⟩
   simp only [Int.reduceNeg]
   refine ⟨m1,4,λi=>M.sp m1 (shf m1 3 i),A',h,r1,T,by rw [rim_q],by omega,by omega,λi hi=>by show M.sp m1 (shf m1 3 i)=_;rw [shf_in hi],λi j hi hj z=>O.inj i j hi hj (M.sp_inj z),O.tw,λi hi=>?_,?_⟩
   ·show _=some (sd (M.sp m1 (shf m1 3 (h i))))
    rw [O.map i hi]
    exact t3 _ (O.mem i hi)
   simp only [Int.reduceNeg]
   rw [web_nm nm]
   refine ⟨m1,4,A',_,rfl,by omega,by omega,?_⟩
   simp only [Int.reduceNeg,r_truB,Bool.not_true,Bool.false_eq_true,reduceIte]
   have P1:Prt (· < 4*m1+4) g1:=prt_one tw1
   refine ⟨m1,A1,r1,g1,0,_,_,_,_,rfl,tw1,by omega,.inl ⟨rfl,rfl,rfl,rfl,rfl⟩,λA' h O nm=>?_⟩
   have tc:tie g1 (4*m1+3) (4*m1+0)=tie g1 (4*m1+0) (4*m1+3):=funext λx=>tie_comm P1 (show 4*m1+3<4*m1+4 by omega) (show 4*m1+0<4*m1+4 by omega) (by omega)
   have rc:rg g1 (4*m1+3) (4*m1+0)=rg g1 (4*m1+0) (4*m1+3):=rg_comm P1 (show 4*m1+3<4*m1+4 by omega) (show 4*m1+0<4*m1+4 by omega)
   rw [tc] at O
   rw [tc,rc]
   refine ⟨m1,A1,r1,g1,0,3,1,2,A',h,rfl,tw1,by decide,by omega,O.congr (λ_ _=>rfl) (λx hx=>⟨⟨hx.1.1,hx.1.2.2,hx.1.2.1⟩,hx.2⟩) (λ_ _=>rfl),?_⟩
   simp only [Int.reduceNeg]
   rw [web_nm nm]
   refine ⟨m1,0,A',_,rfl,by omega,by omega,?_⟩
   simp only [Int.reduceNeg,r_truB,Bool.not_true,Bool.false_eq_true,reduceIte]
   refine ⟨m1,A1,r1,g1,1,_,_,_,_,rfl,tw1,by omega,.inr ⟨rfl,rfl,rfl,rfl,rfl⟩,λA' h O nm=>?_⟩
   refine ⟨m1,A1,r1,g1,0,1,2,3,A',h,rfl,tw1,by decide,by omega,O,?_⟩
   simp only [Int.reduceNeg]
   rw [web_nm nm]
   refine ⟨m1,0,A',_,rfl,by omega,by omega,?_⟩
   simp only [Int.reduceNeg,r_truB,Bool.not_true,Bool.false_eq_true,reduceIte]
   exact ⟨_,_,_,_,_,rfl⟩
  ·rintro ρ ⟨o5,o6,o7,o8,o9,rfl⟩
   simp only [wRet,wC]
   exact k
end K53
namespace K53
open PySem PySem.Spec L2 PV
open PyProof.Rows (envOfC)
theorem all_mk {l:PySem.W.OpenLaw} {w:World} {K:PySem.W.Frag} {h:Heap} {mg:Str->Option Value} {fa:Addr} (X:K.In h) (G:h.Ns mainGlobals mg) (hfa:mg "law" = some (.ref fa))
  {f1:Addr} {od1 an1:Option Addr} {sl1:Array (Option Value)} {oc1 kV1 dc1 pm1 cd1 ct1:Value}
  (a1:PySem.W.nsIn K mainGlobals "places" = some (some (.ref f1))) (l1:K.lookup f1=some ⟨oc1,od1,.func (PySem.W.fnOf "places" "places" (defArgs s_places) (defBody s_places) (defScope s_places) .none kV1 dc1 pm1 an1 cd1 ct1),sl1⟩) (c1:PySem.W.codeIn K cd1 "places" = true) (k1:PySem.W.keepIn K (.ref f1)=true)
  {f2:Addr} {od2 an2:Option Addr} {sl2:Array (Option Value)} {oc2 kV2 dc2 pm2 cd2 ct2:Value}
  (a2:PySem.W.nsIn K mainGlobals "renamed" = some (some (.ref f2))) (l2:K.lookup f2=some ⟨oc2,od2,.func (PySem.W.fnOf "renamed" "renamed" (defArgs s_renamed) (defBody s_renamed) (defScope s_renamed) .none kV2 dc2 pm2 an2 cd2 ct2),sl2⟩) (c2:PySem.W.codeIn K cd2 "renamed" = true) (k2:PySem.W.keepIn K (.ref f2)=true)
  {f3:Addr} {od3 an3:Option Addr} {sl3:Array (Option Value)} {oc3 kV3 dc3 pm3 cd3 ct3:Value}
  (a3:PySem.W.nsIn K mainGlobals "named_anew" = some (some (.ref f3))) (l3:K.lookup f3=some ⟨oc3,od3,.func (PySem.W.fnOf "named_anew" "named_anew" (defArgs s_named_anew) (defBody s_named_anew) (defScope s_named_anew) .none kV3 dc3 pm3 an3 cd3 ct3),sl3⟩) (c3:PySem.W.codeIn K cd3 "named_anew" = true) (k3:PySem.W.keepIn K (.ref f3)=true)
  {f4:Addr} {od4 an4:Option Addr} {sl4:Array (Option Value)} {oc4 kV4 dc4 pm4 cd4 ct4:Value}
  (a4:PySem.W.nsIn K mainGlobals "shifted" = some (some (.ref f4))) (l4:K.lookup f4=some ⟨oc4,od4,.func (PySem.W.fnOf "shifted" "shifted" (defArgs s_shifted) (defBody s_shifted) (defScope s_shifted) .none kV4 dc4 pm4 an4 cd4 ct4),sl4⟩) (c4:PySem.W.codeIn K cd4 "shifted" = true) (k4:PySem.W.keepIn K (.ref f4)=true)
  {f5:Addr} {od5 an5:Option Addr} {sl5:Array (Option Value)} {oc5 kV5 dc5 pm5 cd5 ct5:Value}
  (a5:PySem.W.nsIn K mainGlobals "called" = some (some (.ref f5))) (l5:K.lookup f5=some ⟨oc5,od5,.func (PySem.W.fnOf "called" "called" (defArgs s_called) (defBody s_called) (defScope s_called) .none kV5 dc5 pm5 an5 cd5 ct5),sl5⟩) (c5:PySem.W.codeIn K cd5 "called" = true) (k5:PySem.W.keepIn K (.ref f5)=true)
  {f6:Addr} {od6 an6:Option Addr} {sl6:Array (Option Value)} {oc6 kV6 dc6 pm6 cd6 ct6:Value}
  (a6:PySem.W.nsIn K mainGlobals "shut_as_named" = some (some (.ref f6))) (l6:K.lookup f6=some ⟨oc6,od6,.func (PySem.W.fnOf "shut_as_named" "shut_as_named" (defArgs s_shut_as_named) (defBody s_shut_as_named) (defScope s_shut_as_named) .none kV6 dc6 pm6 an6 cd6 ct6),sl6⟩) (c6:PySem.W.codeIn K cd6 "shut_as_named" = true) (k6:PySem.W.keepIn K (.ref f6)=true)
  {f7:Addr} {od7 an7:Option Addr} {sl7:Array (Option Value)} {oc7 kV7 dc7 pm7 cd7 ct7:Value}
  (a7:PySem.W.nsIn K mainGlobals "shut" = some (some (.ref f7))) (l7:K.lookup f7=some ⟨oc7,od7,.func (PySem.W.fnOf "shut" "shut" (defArgs s_shut) (defBody s_shut) (defScope s_shut) .none kV7 dc7 pm7 an7 cd7 ct7),sl7⟩) (c7:PySem.W.codeIn K cd7 "shut" = true) (k7:PySem.W.keepIn K (.ref f7)=true)
  {f8:Addr} {od8 an8:Option Addr} {sl8:Array (Option Value)} {oc8 kV8 dc8 pm8 cd8 ct8:Value}
  (a8:PySem.W.nsIn K mainGlobals "raised" = some (some (.ref f8))) (l8:K.lookup f8=some ⟨oc8,od8,.func (PySem.W.fnOf "raised" "raised" (defArgs s_raised) (defBody s_raised) (defScope s_raised) .none kV8 dc8 pm8 an8 cd8 ct8),sl8⟩) (c8:PySem.W.codeIn K cd8 "raised" = true) (k8:PySem.W.keepIn K (.ref f8)=true)
  {f9:Addr} {od9 an9:Option Addr} {sl9:Array (Option Value)} {oc9 kV9 dc9 pm9 cd9 ct9:Value}
  (a9:PySem.W.nsIn K mainGlobals "both" = some (some (.ref f9))) (l9:K.lookup f9=some ⟨oc9,od9,.func (PySem.W.fnOf "both" "both" (defArgs s_both) (defBody s_both) (defScope s_both) .none kV9 dc9 pm9 an9 cd9 ct9),sl9⟩) (c9:PySem.W.codeIn K cd9 "both" = true) (k9:PySem.W.keepIn K (.ref f9)=true)
  {f10:Addr} {od10 an10:Option Addr} {sl10:Array (Option Value)} {oc10 kV10 dc10 pm10 cd10 ct10:Value}
  (a10:PySem.W.nsIn K mainGlobals "glued" = some (some (.ref f10))) (l10:K.lookup f10=some ⟨oc10,od10,.func (PySem.W.fnOf "glued" "glued" (defArgs s_glued) (defBody s_glued) (defScope s_glued) .none kV10 dc10 pm10 an10 cd10 ct10),sl10⟩) (c10:PySem.W.codeIn K cd10 "glued" = true) (k10:PySem.W.keepIn K (.ref f10)=true)
  {f11:Addr} {od11 an11:Option Addr} {sl11:Array (Option Value)} {oc11 kV11 dc11 pm11 cd11 ct11:Value}
  (a11:PySem.W.nsIn K mainGlobals "beside" = some (some (.ref f11))) (l11:K.lookup f11=some ⟨oc11,od11,.func (PySem.W.fnOf "beside" "beside" (defArgs s_beside) (defBody s_beside) (defScope s_beside) .none kV11 dc11 pm11 an11 cd11 ct11),sl11⟩) (c11:PySem.W.codeIn K cd11 "beside" = true) (k11:PySem.W.keepIn K (.ref f11)=true)
  {f12:Addr} {od12 an12:Option Addr} {sl12:Array (Option Value)} {oc12 kV12 dc12 pm12 cd12 ct12:Value}
  (a12:PySem.W.nsIn K mainGlobals "quarter" = some (some (.ref f12))) (l12:K.lookup f12=some ⟨oc12,od12,.func (PySem.W.fnOf "quarter" "quarter" (defArgs s_quarter) (defBody s_quarter) (defScope s_quarter) .none kV12 dc12 pm12 an12 cd12 ct12),sl12⟩) (c12:PySem.W.codeIn K cd12 "quarter" = true) (k12:PySem.W.keepIn K (.ref f12)=true)
  {f13:Addr} {od13 an13:Option Addr} {sl13:Array (Option Value)} {oc13 kV13 dc13 pm13 cd13 ct13:Value}
  (a13:PySem.W.nsIn K mainGlobals "above" = some (some (.ref f13))) (l13:K.lookup f13=some ⟨oc13,od13,.func (PySem.W.fnOf "above" "above" (defArgs s_above) (defBody s_above) (defScope s_above) .none kV13 dc13 pm13 an13 cd13 ct13),sl13⟩) (c13:PySem.W.codeIn K cd13 "above" = true) (k13:PySem.W.keepIn K (.ref f13)=true)
  {f14:Addr} {od14 an14:Option Addr} {sl14:Array (Option Value)} {oc14 kV14 dc14 pm14 cd14 ct14:Value}
  (a14:PySem.W.nsIn K mainGlobals "closed" = some (some (.ref f14))) (l14:K.lookup f14=some ⟨oc14,od14,.func (PySem.W.fnOf "closed" "closed" (defArgs s_closed) (defBody s_closed) (defScope s_closed) .none kV14 dc14 pm14 an14 cd14 ct14),sl14⟩) (c14:PySem.W.codeIn K cd14 "closed" = true) (k14:PySem.W.keepIn K (.ref f14)=true)
  {f15:Addr} {od15 an15:Option Addr} {sl15:Array (Option Value)} {oc15 kV15 dc15 pm15 cd15 ct15:Value}
  (a15:PySem.W.nsIn K mainGlobals "_law_cell_at" = some (some (.ref f15))) (l15:K.lookup f15=some ⟨oc15,od15,.func (PySem.W.fnOf "_law_cell_at" "_law_cell_at" (defArgs s__law_cell_at) (defBody s__law_cell_at) (defScope s__law_cell_at) .none kV15 dc15 pm15 an15 cd15 ct15),sl15⟩) (c15:PySem.W.codeIn K cd15 "_law_cell_at" = true) (k15:PySem.W.keepIn K (.ref f15)=true)
  {f16:Addr} {od16 an16:Option Addr} {sl16:Array (Option Value)} {oc16 kV16 dc16 pm16 cd16 ct16:Value}
  (a16:PySem.W.nsIn K mainGlobals "_law_take" = some (some (.ref f16))) (l16:K.lookup f16=some ⟨oc16,od16,.func (PySem.W.fnOf "_law_take" "_law_take" (defArgs s__law_take) (defBody s__law_take) (defScope s__law_take) .none kV16 dc16 pm16 an16 cd16 ct16),sl16⟩) (c16:PySem.W.codeIn K cd16 "_law_take" = true) (k16:PySem.W.keepIn K (.ref f16)=true)
  {f17:Addr} {od17 an17:Option Addr} {sl17:Array (Option Value)} {oc17 kV17 dc17 pm17 cd17 ct17:Value}
  (a17:PySem.W.nsIn K mainGlobals "_law_arcs" = some (some (.ref f17))) (l17:K.lookup f17=some ⟨oc17,od17,.func (PySem.W.fnOf "_law_arcs" "_law_arcs" (defArgs s__law_arcs) (defBody s__law_arcs) (defScope s__law_arcs) .none kV17 dc17 pm17 an17 cd17 ct17),sl17⟩) (c17:PySem.W.codeIn K cd17 "_law_arcs" = true) (k17:PySem.W.keepIn K (.ref f17)=true)
  {f18:Addr} {od18 an18:Option Addr} {sl18:Array (Option Value)} {oc18 kV18 dc18 pm18 cd18 ct18:Value}
  (a18:PySem.W.nsIn K mainGlobals "_law_web" = some (some (.ref f18))) (l18:K.lookup f18=some ⟨oc18,od18,.func (PySem.W.fnOf "_law_web" "_law_web" (defArgs s__law_web) (defBody s__law_web) (defScope s__law_web) .none kV18 dc18 pm18 an18 cd18 ct18),sl18⟩) (c18:PySem.W.codeIn K cd18 "_law_web" = true) (k18:PySem.W.keepIn K (.ref f18)=true)
  {f19:Addr} {od19 an19:Option Addr} {sl19:Array (Option Value)} {oc19 kV19 dc19 pm19 cd19 ct19:Value}
  (a19:PySem.W.nsIn K mainGlobals "_law_spots" = some (some (.ref f19))) (l19:K.lookup f19=some ⟨oc19,od19,.func (PySem.W.fnOf "_law_spots" "_law_spots" (defArgs s__law_spots) (defBody s__law_spots) (defScope s__law_spots) .none kV19 dc19 pm19 an19 cd19 ct19),sl19⟩) (c19:PySem.W.codeIn K cd19 "_law_spots" = true) (k19:PySem.W.keepIn K (.ref f19)=true)
  {f20:Addr} {od20 an20:Option Addr} {sl20:Array (Option Value)} {oc20 kV20 dc20 pm20 cd20 ct20:Value}
  (a20:PySem.W.nsIn K mainGlobals "_law_arc" = some (some (.ref f20))) (l20:K.lookup f20=some ⟨oc20,od20,.func (PySem.W.fnOf "_law_arc" "_law_arc" (defArgs s__law_arc) (defBody s__law_arc) (defScope s__law_arc) .none kV20 dc20 pm20 an20 cd20 ct20),sl20⟩) (c20:PySem.W.codeIn K cd20 "_law_arc" = true) (k20:PySem.W.keepIn K (.ref f20)=true)
  {f21:Addr} {od21 an21:Option Addr} {sl21:Array (Option Value)} {oc21 kV21 dc21 pm21 cd21 ct21:Value}
  (a21:PySem.W.nsIn K mainGlobals "_law_ties" = some (some (.ref f21))) (l21:K.lookup f21=some ⟨oc21,od21,.func (PySem.W.fnOf "_law_ties" "_law_ties" (defArgs s__law_ties) (defBody s__law_ties) (defScope s__law_ties) .none kV21 dc21 pm21 an21 cd21 ct21),sl21⟩) (c21:PySem.W.codeIn K cd21 "_law_ties" = true) (k21:PySem.W.keepIn K (.ref f21)=true)
  {f22:Addr} {od22 an22:Option Addr} {sl22:Array (Option Value)} {oc22 kV22 dc22 pm22 cd22 ct22:Value}
  (a22:PySem.W.nsIn K mainGlobals "_law_joined" = some (some (.ref f22))) (l22:K.lookup f22=some ⟨oc22,od22,.func (PySem.W.fnOf "_law_joined" "_law_joined" (defArgs s__law_joined) (defBody s__law_joined) (defScope s__law_joined) .none kV22 dc22 pm22 an22 cd22 ct22),sl22⟩) (c22:PySem.W.codeIn K cd22 "_law_joined" = true) (k22:PySem.W.keepIn K (.ref f22)=true)
  {f23:Addr} {od23 an23:Option Addr} {sl23:Array (Option Value)} {oc23 kV23 dc23 pm23 cd23 ct23:Value}
  (a23:PySem.W.nsIn K mainGlobals "_law_built" = some (some (.ref f23))) (l23:K.lookup f23=some ⟨oc23,od23,.func (PySem.W.fnOf "_law_built" "_law_built" (defArgs s__law_built) (defBody s__law_built) (defScope s__law_built) .none kV23 dc23 pm23 an23 cd23 ct23),sl23⟩) (c23:PySem.W.codeIn K cd23 "_law_built" = true) (k23:PySem.W.keepIn K (.ref f23)=true)
  {f24:Addr} {od24 an24:Option Addr} {sl24:Array (Option Value)} {oc24 kV24 dc24 pm24 cd24 ct24:Value}
  (a24:PySem.W.nsIn K mainGlobals "_law_is" = some (some (.ref f24))) (l24:K.lookup f24=some ⟨oc24,od24,.func (PySem.W.fnOf "_law_is" "_law_is" (defArgs s__law_is) (defBody s__law_is) (defScope s__law_is) .none kV24 dc24 pm24 an24 cd24 ct24),sl24⟩) (c24:PySem.W.codeIn K cd24 "_law_is" = true) (k24:PySem.W.keepIn K (.ref f24)=true)
  {f25:Addr} {od25 an25:Option Addr} {sl25:Array (Option Value)} {oc25 kV25 dc25 pm25 cd25 ct25:Value}
  (a25:PySem.W.nsIn K mainGlobals "_law_moved" = some (some (.ref f25))) (l25:K.lookup f25=some ⟨oc25,od25,.func (PySem.W.fnOf "_law_moved" "_law_moved" (defArgs s__law_moved) (defBody s__law_moved) (defScope s__law_moved) .none kV25 dc25 pm25 an25 cd25 ct25),sl25⟩) (c25:PySem.W.codeIn K cd25 "_law_moved" = true) (k25:PySem.W.keepIn K (.ref f25)=true)
  {f26:Addr} {od26 an26:Option Addr} {sl26:Array (Option Value)} {oc26 kV26 dc26 pm26 cd26 ct26:Value}
  (a26:PySem.W.nsIn K mainGlobals "_law_both" = some (some (.ref f26))) (l26:K.lookup f26=some ⟨oc26,od26,.func (PySem.W.fnOf "_law_both" "_law_both" (defArgs s__law_both) (defBody s__law_both) (defScope s__law_both) .none kV26 dc26 pm26 an26 cd26 ct26),sl26⟩) (c26:PySem.W.codeIn K cd26 "_law_both" = true) (k26:PySem.W.keepIn K (.ref f26)=true)
  {f27:Addr} {od27 an27:Option Addr} {sl27:Array (Option Value)} {oc27 kV27 dc27 pm27 cd27 ct27:Value}
  (a27:PySem.W.nsIn K mainGlobals "_law_closed" = some (some (.ref f27))) (l27:K.lookup f27=some ⟨oc27,od27,.func (PySem.W.fnOf "_law_closed" "_law_closed" (defArgs s__law_closed) (defBody s__law_closed) (defScope s__law_closed) .none kV27 dc27 pm27 an27 cd27 ct27),sl27⟩) (c27:PySem.W.codeIn K cd27 "_law_closed" = true) (k27:PySem.W.keepIn K (.ref f27)=true)
  {f28:Addr} {od28 an28:Option Addr} {sl28:Array (Option Value)} {oc28 kV28 dc28 pm28 cd28 ct28:Value}
  (a28:PySem.W.nsIn K mainGlobals "_law_drawn" = some (some (.ref f28))) (l28:K.lookup f28=some ⟨oc28,od28,.func (PySem.W.fnOf "_law_drawn" "_law_drawn" (defArgs s__law_drawn) (defBody s__law_drawn) (defScope s__law_drawn) .none kV28 dc28 pm28 an28 cd28 ct28),sl28⟩) (c28:PySem.W.codeIn K cd28 "_law_drawn" = true) (k28:PySem.W.keepIn K (.ref f28)=true)
  {f29:Addr} {od29 an29:Option Addr} {sl29:Array (Option Value)} {oc29 kV29 dc29 pm29 cd29 ct29:Value}
  (a29:PySem.W.nsIn K mainGlobals "law" = some (some (.ref f29))) (l29:K.lookup f29=some ⟨oc29,od29,.func (PySem.W.fnOf "law" "law" (defArgs s_law) (defBody s_law) (defScope s_law) .none kV29 dc29 pm29 an29 cd29 ct29),sl29⟩) (c29:PySem.W.codeIn K cd29 "law" = true) (k29:PySem.W.keepIn K (.ref f29)=true)
  (z_bool:PySem.W.nsIn K mainGlobals "bool" = some none)
  (z_enumerate:PySem.W.nsIn K mainGlobals "enumerate" = some none)
  (z_int:PySem.W.nsIn K mainGlobals "int" = some none)
  (z_isinstance:PySem.W.nsIn K mainGlobals "isinstance" = some none)
  (z_len:PySem.W.nsIn K mainGlobals "len" = some none)
  (z_list:PySem.W.nsIn K mainGlobals "list" = some none)
  (z_min:PySem.W.nsIn K mainGlobals "min" = some none)
  (z_range:PySem.W.nsIn K mainGlobals "range" = some none)
  (z_tuple:PySem.W.nsIn K mainGlobals "tuple" = some none)
  {tk_RIM:Tok} (z_RIM:PySem.W.nsIn K mainGlobals "RIM" = some (some (.int (-1) tk_RIM)))
  : ∃fd:FuncData,(∀(s:Shared) (v:Value),BindsTo s fd ⟨[v],[]⟩ [("_law_script",v)])/\∀base:Heap,K.In base->base.Ns mainGlobals mg->FnOk l.prog w K mg base CX0 7 fa fd ["_law_script"] (spR K g_law):=by
 have e:=hfa.symm.trans (PySem.W.mg_of X G a29)
 cases e
 have B:Bn mg:=⟨PySem.W.mg_none_of X G z_bool,PySem.W.mg_none_of X G z_enumerate,PySem.W.mg_none_of X G z_int,PySem.W.mg_none_of X G z_isinstance,PySem.W.mg_none_of X G z_len,PySem.W.mg_none_of X G z_list,PySem.W.mg_none_of X G z_min,PySem.W.mg_none_of X G z_range,PySem.W.mg_none_of X G z_tuple,⟨tk_RIM,PySem.W.mg_of X G z_RIM⟩⟩
 have F1:=fun_mk (st:=s_places) l1 c1 k1
 have F2:=fun_mk (st:=s_renamed) l2 c2 k2
 have F3:=fun_mk (st:=s_named_anew) l3 c3 k3
 have F4:=fun_mk (st:=s_shifted) l4 c4 k4
 have F5:=fun_mk (st:=s_called) l5 c5 k5
 have F6:=fun_mk (st:=s_shut_as_named) l6 c6 k6
 have F7:=fun_mk (st:=s_shut) l7 c7 k7
 have F8:=fun_mk (st:=s_raised) l8 c8 k8
 have F9:=fun_mk (st:=s_both) l9 c9 k9
 have F10:=fun_mk (st:=s_glued) l10 c10 k10
 have F11:=fun_mk (st:=s_beside) l11 c11 k11
 have F12:=fun_mk (st:=s_quarter) l12 c12 k12
 have F13:=fun_mk (st:=s_above) l13 c13 k13
 have F14:=fun_mk (st:=s_closed) l14 c14 k14
 have F15:=fun_mk (st:=s__law_cell_at) l15 c15 k15
 have F16:=fun_mk (st:=s__law_take) l16 c16 k16
 have F17:=fun_mk (st:=s__law_arcs) l17 c17 k17
 have F18:=fun_mk (st:=s__law_web) l18 c18 k18
 have F19:=fun_mk (st:=s__law_spots) l19 c19 k19
 have F20:=fun_mk (st:=s__law_arc) l20 c20 k20
 have F21:=fun_mk (st:=s__law_ties) l21 c21 k21
 have F22:=fun_mk (st:=s__law_joined) l22 c22 k22
 have F23:=fun_mk (st:=s__law_built) l23 c23 k23
 have F24:=fun_mk (st:=s__law_is) l24 c24 k24
 have F25:=fun_mk (st:=s__law_moved) l25 c25 k25
 have F26:=fun_mk (st:=s__law_both) l26 c26 k26
 have F27:=fun_mk (st:=s__law_closed) l27 c27 k27
 have F28:=fun_mk (st:=s__law_drawn) l28 c28 k28
 have F29:=fun_mk (st:=s_law) l29 c29 k29
 refine ⟨PySem.W.fnOf "law" "law" (defArgs s_law) (defBody s_law) (defScope s_law) .none kV29 dc29 pm29 an29 cd29 ct29,λs v=>.of_eq rfl,λbase _ _=>?_⟩
 have C_places:Cal l.prog w K mg base "places" 1 ["web"] (spR K g_places):=⟨f1,_,ok_places F1 B,PySem.W.mg_of X G a1,k1,F1.binds λ_ _ _ _ _ _ us hl=>by obtain ⟨_,rfl⟩:=len1 hl;rfl⟩
 have C_renamed:Cal l.prog w K mg base "renamed" 1 ["arcs","names"] (spR K g_renamed):=⟨f2,_,ok_renamed F2 B,PySem.W.mg_of X G a2,k2,F2.binds λ_ _ _ _ _ _ us hl=>by obtain ⟨_,_,rfl⟩:=len2 hl;rfl⟩
 have C_named_anew:Cal l.prog w K mg base "named_anew" 2 ["web"] (spR K g_named_anew):=⟨f3,_,ok_named_anew F3 B C_places C_renamed,PySem.W.mg_of X G a3,k3,F3.binds λ_ _ _ _ _ _ us hl=>by obtain ⟨_,rfl⟩:=len1 hl;rfl⟩
 have C_shifted:Cal l.prog w K mg base "shifted" 1 ["web","many"] (spR K g_shifted):=⟨f4,_,ok_shifted F4 B,PySem.W.mg_of X G a4,k4,F4.binds λ_ _ _ _ _ _ us hl=>by obtain ⟨_,_,rfl⟩:=len2 hl;rfl⟩
 have C_called:Cal l.prog w K mg base "called" 1 ["arcs","gone","kept"] (spR K g_called):=⟨f5,_,ok_called F5 B,PySem.W.mg_of X G a5,k5,F5.binds λ_ _ _ _ _ _ us hl=>by obtain ⟨_,_,_,rfl⟩:=len3 hl;rfl⟩
 have C_shut_as_named:Cal l.prog w K mg base "shut_as_named" 2 ["web","place"] (spR K g_shut_as_named):=⟨f6,_,ok_shut_as_named F6 B C_called,PySem.W.mg_of X G a6,k6,F6.binds λ_ _ _ _ _ _ us hl=>by obtain ⟨_,_,rfl⟩:=len2 hl;rfl⟩
 have C_shut:Cal l.prog w K mg base "shut" 3 ["web","place"] (spR K g_shut):=⟨f7,_,ok_shut F7 B C_named_anew C_shut_as_named,PySem.W.mg_of X G a7,k7,F7.binds λ_ _ _ _ _ _ us hl=>by obtain ⟨_,_,rfl⟩:=len2 hl;rfl⟩
 have C_raised:Cal l.prog w K mg base "raised" 1 ["arcs","many"] (spR K g_raised):=⟨f8,_,ok_raised F8 B,PySem.W.mg_of X G a8,k8,F8.binds λ_ _ _ _ _ _ us hl=>by obtain ⟨_,_,rfl⟩:=len2 hl;rfl⟩
 have C_both:Cal l.prog w K mg base "both" 3 ["one","other"] (spR K g_both):=⟨f9,_,ok_both F9 B C_places C_named_anew C_raised,PySem.W.mg_of X G a9,k9,F9.binds λ_ _ _ _ _ _ us hl=>by obtain ⟨_,_,rfl⟩:=len2 hl;rfl⟩
 have C_glued:Cal l.prog w K mg base "glued" 4 ["one","other","many"] (spR K g_glued):=⟨f10,_,ok_glued F10 B C_named_anew C_shut_as_named C_both,PySem.W.mg_of X G a10,k10,F10.binds λ_ _ _ _ _ _ us hl=>by obtain ⟨_,_,_,rfl⟩:=len3 hl;rfl⟩
 have C_beside:Cal l.prog w K mg base "beside" 5 ["one","other"] (spR K g_beside):=⟨f11,_,ok_beside F11 B C_glued,PySem.W.mg_of X G a11,k11,F11.binds λ_ _ _ _ _ _ us hl=>by obtain ⟨_,_,rfl⟩:=len2 hl;rfl⟩
 have C_quarter:Cal l.prog w K mg base "quarter" 3 ["one"] (spR K g_quarter):=⟨f12,_,ok_quarter F12 B C_named_anew C_shifted,PySem.W.mg_of X G a12,k12,F12.binds λ_ _ _ _ _ _ us hl=>by obtain ⟨_,rfl⟩:=len1 hl;rfl⟩
 have C_above:Cal l.prog w K mg base "above" 6 ["one","other"] (spR K g_above):=⟨f13,_,ok_above F13 B C_named_anew C_shifted C_beside C_quarter,PySem.W.mg_of X G a13,k13,F13.binds λ_ _ _ _ _ _ us hl=>by obtain ⟨_,_,rfl⟩:=len2 hl;rfl⟩
 have C_closed:Cal l.prog w K mg base "closed" 4 ["one","way"] (spR K g_closed):=⟨f14,_,ok_closed F14 B C_shut,PySem.W.mg_of X G a14,k14,F14.binds λ_ _ _ _ _ _ us hl=>by obtain ⟨_,_,rfl⟩:=len2 hl;rfl⟩
 have C__law_cell_at:Cal l.prog w K mg base "_law_cell_at" 1 ["_law_script","_law_k"] (spR K g_law_cell_at):=⟨f15,_,ok__law_cell_at F15 B,PySem.W.mg_of X G a15,k15,F15.binds λ_ _ _ _ _ _ us hl=>by obtain ⟨_,_,rfl⟩:=len2 hl;rfl⟩
 have C__law_take:Cal l.prog w K mg base "_law_take" 1 ["_law_row","_law_base"] (spI K 0 g_law_take):=⟨f16,_,ok__law_take F16 B,PySem.W.mg_of X G a16,k16,F16.binds λ_ _ _ _ _ _ us hl=>by obtain ⟨_,_,rfl⟩:=len2 hl;rfl⟩
 have C__law_arcs:Cal l.prog w K mg base "_law_arcs" 2 ["_law_row","_law_many"] (spI K 0 g_law_arcs):=⟨f17,_,ok__law_arcs F17 B C__law_take,PySem.W.mg_of X G a17,k17,F17.binds λ_ _ _ _ _ _ us hl=>by obtain ⟨_,_,rfl⟩:=len2 hl;rfl⟩
 have C__law_web:Cal l.prog w K mg base "_law_web" 3 ["_law_row","_law_many","_law_ends","_law_most"] (spI K 0 g_law_web):=⟨f18,_,ok__law_web F18 B C__law_take C__law_arcs,PySem.W.mg_of X G a18,k18,F18.binds λ_ _ _ _ _ _ us hl=>by obtain ⟨_,_,_,_,rfl⟩:=len4 hl;rfl⟩
 have C__law_spots:Cal l.prog w K mg base "_law_spots" 1 ["_law_web_here"] (spR K g_law_spots):=⟨f19,_,ok__law_spots F19 B,PySem.W.mg_of X G a19,k19,F19.binds λ_ _ _ _ _ _ us hl=>by obtain ⟨_,rfl⟩:=len1 hl;rfl⟩
 have C__law_arc:Cal l.prog w K mg base "_law_arc" 1 ["_law_web_here","_law_spot"] (spR K g_law_arc):=⟨f20,_,ok__law_arc F20 B,PySem.W.mg_of X G a20,k20,F20.binds λ_ _ _ _ _ _ us hl=>by obtain ⟨_,_,rfl⟩:=len2 hl;rfl⟩
 have C__law_ties:Cal l.prog w K mg base "_law_ties" 2 ["_law_web_here"] (spR K g_law_ties):=⟨f21,_,ok__law_ties F21 B C__law_spots C__law_arc,PySem.W.mg_of X G a21,k21,F21.binds λ_ _ _ _ _ _ us hl=>by obtain ⟨_,rfl⟩:=len1 hl;rfl⟩
 have C__law_joined:Cal l.prog w K mg base "_law_joined" 1 ["_law_ties_here","_law_one","_law_other"] (spI K 0 g_law_joined):=⟨f22,_,ok__law_joined F22 B,PySem.W.mg_of X G a22,k22,F22.binds λ_ _ _ _ _ _ us hl=>by obtain ⟨_,_,_,rfl⟩:=len3 hl;rfl⟩
 have C__law_built:Cal l.prog w K mg base "_law_built" 1 ["_law_many","_law_rim","_law_rings","_law_ties_here"] (spR K g_law_built):=⟨f23,_,ok__law_built F23 B,PySem.W.mg_of X G a23,k23,F23.binds λ_ _ _ _ _ _ us hl=>by obtain ⟨_,_,_,_,rfl⟩:=len4 hl;rfl⟩
 have C__law_is:Cal l.prog w K mg base "_law_is" 1 ["_law_found","_law_due"] (spR K g_law_is):=⟨f24,_,ok__law_is F24 B,PySem.W.mg_of X G a24,k24,F24.binds λ_ _ _ _ _ _ us hl=>by obtain ⟨_,_,rfl⟩:=len2 hl;rfl⟩
 have C__law_moved:Cal l.prog w K mg base "_law_moved" 1 ["_law_spot","_law_many"] (spR K g_law_moved):=⟨f25,_,ok__law_moved F25 B,PySem.W.mg_of X G a25,k25,F25.binds λ_ _ _ _ _ _ us hl=>by obtain ⟨_,_,rfl⟩:=len2 hl;rfl⟩
 have C__law_both:Cal l.prog w K mg base "_law_both" 3 ["_law_one","_law_other","_law_seam","_law_rim"] (spR K g_law_both):=⟨f26,_,ok__law_both F26 B C__law_ties C__law_joined C__law_built C__law_moved,PySem.W.mg_of X G a26,k26,F26.binds λ_ _ _ _ _ _ us hl=>by obtain ⟨_,_,_,_,rfl⟩:=len4 hl;rfl⟩
 have C__law_closed:Cal l.prog w K mg base "_law_closed" 3 ["_law_one","_law_seam"] (spR K g_law_closed):=⟨f27,_,ok__law_closed F27 B C__law_ties C__law_joined C__law_built,PySem.W.mg_of X G a27,k27,F27.binds λ_ _ _ _ _ _ us hl=>by obtain ⟨_,_,rfl⟩:=len2 hl;rfl⟩
 have C__law_drawn:Cal l.prog w K mg base "_law_drawn" 4 ["_law_row"] (spI K 0 g_law_drawn):=⟨f28,_,ok__law_drawn F28 B C__law_take C__law_web,PySem.W.mg_of X G a28,k28,F28.binds λ_ _ _ _ _ _ us hl=>by obtain ⟨_,rfl⟩:=len1 hl;rfl⟩
 exact ok_law F29 B C_beside C_quarter C_above C_closed C__law_cell_at C__law_ties C__law_built C__law_is C__law_both C__law_closed C__law_drawn
theorem law_sp {K:PySem.W.Frag} {H:Hp} {a:Addr} {ns:List Int} (hl:ns.length<=63) (ho:Only H) (hS:SqL K H a (ns.map V.int)):spR K g_law [.ref a] H (λv _=>v=.bl true) λ_ _ _=>False:=by
 have fz:FzL K H a (ns.map V.int):=by
  rcases hS with (h | h) | h
  ·rcases ho a with z | ⟨o,xs,z⟩
   ·rw [z] at h;cases h
   ·rw [z] at h;cases h
  ·exact .inl h
  ·exact .inr h
 refine ⟨[.kls (ns.map .int)],[],λd=>d=.bl true,?_,⟨ns,rfl,hl,rfl⟩,λv H' d F' fi hd=>?_⟩
 ·exact .cons (F:=[]) (G:=[]) (.kls fz (Reps.ints ns)) .nil
 ·subst hd
  exact rep_bl fi.rep
theorem walk {l:PySem.W.OpenLaw} {q:Program} {loose:List Str} {XP:(Str->Option Value)->Heap->Prop} {YP:World->Heap->Prop} {d:DefRec} {K:Params->PySem.W.Frag} (hn:l.most=some 63) (hdf:d.params.defaults=[])
  (hY:∀(w:World) (h:Heap),YP w h->(K w.params).In h)
  (F:∀(w:World) (mg:Str->Option Value) (fa:Addr) (h:Heap),(K w.params).In h->h.Ns mainGlobals mg->mg d.name=some (.ref fa) ->
   ∃fd:FuncData,(∀(s:Shared) (u:Value),BindsTo s fd ⟨[u],[]⟩ [("_law_script",u)])/\∀base:Heap,(K w.params).In base->base.Ns mainGlobals mg->FnOk l.prog w (K w.params) mg base CX0 7 fa fd ["_law_script"] (spR (K w.params) g_law)) :
  PySem.W.WalkO q loose XP YP l.row.toRowW d [] (λf vs=>PySem.call f vs) :=
 L2.walk_of (n:=63) (k:=7) (x:="_law_script") (CX:=λ_=>CX0) (sp:=λw=>spR (K w.params) g_law) hn (by decide) hdf ⟨rfl,by decide,by decide⟩ hY F (λ_ _ a ns hl ho hS=>law_sp hl ho hS) λ_ _ _ _ _ z=>z
end K53
open PySem PySem.W PyProof.Rows
def PySem.W.Fast.tw10677548631199429722:=0
def PySem.W.Fast.tw3596434247368531022:=0
def PySem.W.Fast.tw6630297647490884704:=0
def PySem.W.Fast.tw9336438686291934529:=0
def PySem.W.Fast.tw16528375292595802842:=0
def PySem.W.Fast.tw4408114003419360008:=0
def PySem.W.Fast.tw2487681487282928980:=0
def PySem.W.Fast.tw16536182600862736319:=0
def PySem.W.Fast.tw2008523011650094173:=0
def PySem.W.Fast.tw8724103152019772820:=0
def PySem.W.Fast.tw3017352529063052956:=0
def PySem.W.Fast.tw18308258846803732355:=0
def PySem.W.Fast.tw8622392290355467121:=0
def PySem.W.Fast.tw13536698834541257078:=0
def PySem.W.Fast.tw8019467034026524970:=0
def PySem.W.Fast.tw6952219315727452758:=0
def PySem.W.Fast.tw6130290235862381875:=0
def PySem.W.Fast.tw17900271462352635597:=0
def PySem.W.Fast.tw16292881297630784329:=0
def PySem.W.Fast.tw8234216236384442802:=0
def PySem.W.Fast.tw17100027620360734665:=0
def PySem.W.Fast.tw9707926594959214429:=0
def PySem.W.Fast.tw17213208780133945458:=0
def PySem.W.Fast.tw15383719174023032449:=0
def PySem.W.Fast.tw9393166263226709988:=0
def PySem.W.Fast.tw3722569229558669147:=0
def PySem.W.Fast.tw3684753048963715167:=0
def PySem.W.Fast.tw9032083543119871525:=0
def PySem.W.Fast.tw3603517430773359965:=0
def PySem.W.Fast.tw3590276229846436064:=0
def PySem.W.Fast.tw8112566616018117878:=0
def PySem.W.Fast.tw372945322373258498:=0
def PySem.W.Fast.tw8716070612525222985:=0
def PySem.W.Fast.tw11175324817577510012:=0
def PySem.W.Fast.tw11371407204306339127:=0
def PySem.W.Fast.tw18413678449819559433:=0
def PySem.W.Fast.tw10392611635578222101:=0
def PySem.W.Fast.tw8226792753154544482:=0
def PySem.W.Fast.tw4496433962006931851:=0
def PySem.W.Fast.tw17453472424708380405:=0
def PySem.W.Fast.tw7696219612360076711:=0
def PySem.W.Fast.tw11707668215700638457:=0
def PySem.W.Fast.tw8153257864326481471:=0
def PySem.W.Fast.tw10740450972607404828:=0
def PySem.W.Fast.tw8633415780857179754:=0
def PySem.W.Fast.tw6662779034619494638:=0
def PySem.W.Fast.tw4688811280134134037:=0
def PySem.W.Fast.tw11103978819097051609:=0
def PySem.W.Fast.tw1643058882760693425:=0
def PySem.W.Fast.tw9909891162132502955:=0
def PySem.W.Fast.tw8215586885236207356:=0
def PySem.W.Fast.tw14921325495596548477:=0
def PySem.W.Fast.tw6940414100486334009:=0
def PySem.W.Fast.tw3352974224677707313:=0
def PySem.W.Fast.tw3186450806836550555:=0
def PySem.W.Fast.tw535941046853634386:=0
def PySem.W.Fast.tw8771283754471940876:=0
def PySem.W.Fast.tw3894431727728803860:=0
def PySem.W.Fast.tw12731015255837142274:=0
def PySem.W.Fast.tw5113757064402232833:=0
def PySem.W.Fast.tw2552552090037290804:=0
def PySem.W.Fast.tw5887588349910636416:=0
def PySem.W.Fast.tw556750891964325542:=0
def PySem.W.Fast.tw18057285651163921022:=0
def PySem.W.Fast.tw7605006346202888785:=0
def PySem.W.Fast.tw1684685948960702256:=0
def PySem.W.Fast.tw10399774464468780608:=0
def PySem.W.Fast.tw16121364200101076771:=0
def PySem.W.Fast.tw11237996708158674439:=0
def PySem.W.Fast.tw3639827852941480218:=0
def PySem.W.Fast.tw6369589003852370285:=0
def PySem.W.Fast.tw8890604606983220436:=0
def PySem.W.Fast.tw2176518371740692330:=0
def PySem.W.Fast.tw11208985089191170495:=0
def PySem.W.Fast.tw14816523205662080581:=0
def PySem.W.Fast.tw18015920955474458572:=0
def PySem.W.Fast.tw12622309234115353180:=0
def PySem.W.Fast.tw14330336591635550252:=0
def PySem.W.Fast.tw8017335705022730634:=0
def PySem.W.Fast.tw9777495974744184422:=0
def PySem.W.Fast.tw3837657549551563122:=0
def PySem.W.Fast.tw4474137015134575265:=0
def PySem.W.Fast.tw8195595718689143439:=0
def PySem.W.Fast.tw17954771506239982446:=0
def PySem.W.Fast.tw12390706603479099655:=0
def PySem.W.Fast.tw1031151709289973486:=0
def PySem.W.Fast.tw10622825704369358428:=0
def PySem.W.Fast.tw17594757804251017014:=0
def PySem.W.Fast.tw8765673157530783466:=0
def PySem.W.Fast.tw12122893013818991704:=0
def PySem.W.Fast.tw10283624146595434888:=0
def PySem.W.Fast.tw12793285888017273235:=0
def PySem.W.Fast.tw4724296353328403974:=0
def PySem.W.Fast.tw4128335629928682077:=0
def PySem.W.Fast.tw5225523208386209175:=0
def PySem.W.Fast.tw10945579072296722763:=0
def PySem.W.Fast.tw12882665558931479676:=0
def PySem.W.Fast.tw17906727834639300400:=0
def PySem.W.Fast.tw17802691534464560159:=0
def PySem.W.Fast.tw5640021567530487241:=0
def PySem.W.Fast.tw7845869000824035353:=0
def PySem.W.Fast.tw14821010435663645745:=0
def PySem.W.Fast.tw2247000463100830060:=0
def PySem.W.Fast.tw18218871178466979232:=0
def PySem.W.Fast.tw17342921804479516440:=0
def PySem.W.Fast.tw10366900000527601595:=0
def PySem.W.Fast.tw17034193156885928332:=0
def PySem.W.Fast.tw11272111159089157195:=0
def PySem.W.Fast.tw3343585356586896150:=0
def PySem.W.Fast.tw15611327111172657119:=0
def PySem.W.Fast.tw18261734234561344071:=0
def PySem.W.Fast.tw17357472992531482349:=0
def PySem.W.Fast.tw310408284273503481:=0
def PySem.W.Fast.tw5558771406361214201:=0
def PySem.W.Fast.tw6948295188743576218:=0
def PySem.W.Fast.tw17251655014405099758:=0
def PySem.W.Fast.tw9587531306525724921:=0
def PySem.W.Fast.tw6343082534507589579:=0
def PySem.W.Fast.tw12232269910447044515:=0
def PySem.W.Fast.tw15303944658690234257:=0
def PySem.W.Fast.tw8084469722271844824:=0
def PySem.W.Fast.tw8740291382824327111:=0
def PySem.W.Fast.tw13482893884004801639:=0
def PySem.W.Fast.tw1354474769564496761:=0
def PySem.W.Fast.tw14311475491582080153:=0
def PySem.W.Fast.tw13137550208169827466:=0
def PySem.W.Fast.tw8418236504718307947:=0
def PySem.W.Fast.tw4992957347839109942:=0
def PySem.W.Fast.tw2945833680543934003:=0
def PySem.W.Fast.tw2292595154185010641:=0
def PySem.W.Fast.tw13348704907726944492:=0
def PySem.W.Fast.tw1444665651716909372:=0
def PySem.W.Fast.tw11564365657836979186:=0
def PySem.W.Fast.tw1918792881498928100:=0
def PySem.W.Fast.tw12124572506841321087:=0
def PySem.W.Fast.tw17609635083416113631:=0
def PySem.W.Fast.tw15205290206412513859:=0
def PySem.W.Fast.tw3337150430951340448:=0
def PySem.W.Fast.tw11650414659668711069:=0
def PySem.W.Fast.tw9569013875071130431:=0
def PySem.W.Fast.tw5897139145885123918:=0
def PySem.W.Fast.tw14322476964640325162:=0
def PySem.W.Fast.tw6255948580027090429:=0
def PySem.W.Fast.tw16958468458268739572:=0
def PySem.W.Fast.tw4392621138478203428:=0
def PySem.W.Fast.tw9082109921353461166:=0
def PySem.W.Fast.tw8066285252649745449:=0
def PySem.W.Fast.tw879262711201658906:=0
def PySem.W.Fast.tw2193067251954306786:=0
def PySem.W.Fast.tw3857362434462813568:=0
def PySem.W.Fast.tw7432331827805013877:=0
def PySem.W.Fast.tw3874696304633173871:=0
def PySem.W.Fast.tw4196628309531674956:=0
def PySem.W.Fast.tw16218677502930345466:=0
def PySem.W.Fast.tw1610524609711266351:=0
def PySem.W.Fast.tw12402411428816690330:=0
def PySem.W.Fast.tw2200031744474323335:=0
def PySem.W.Fast.tw10664382993505466369:=0
def PySem.W.Fast.tw4307534944253677499:=0
def PySem.W.Fast.tw8498356296259844298:=0
def PySem.W.Fast.tw18403422284791898495:=0
def PySem.W.Fast.tw3651993592330247121:=0
def PySem.W.Fast.tw6350607979442390916:=0
def PySem.W.Fast.tw1777245825822996954:=0
def PySem.W.Fast.tw10205072753906349140:=0
def PySem.W.Fast.tw13689540772557150395:=0
def PySem.W.Fast.tw6848942868101949087:=0
def PySem.W.Fast.tw15093521716914491279:=0
def PySem.W.Fast.tw15845399586431734634:=0
def PySem.W.Fast.tw16194739706442874150:=0
def PySem.W.Fast.tw4153985296949934943:=0
def PySem.W.Fast.tw6039283463488443273:=0
def PySem.W.Fast.tw15591249145557359382:=0
def PySem.W.Fast.tw10298893610994653517:=0
set_option maxRecDepth 100000 in
set_option maxHeartbeats 0 in
theorem PySem.Challenge.cw_tanglehouse_k53_tangles_put_together_holds : PySem.Challenge.rw_tanglehouse_k53_tangles_put_together.Holds := by
 w_on;o_law;k_head;(case hw=>w_witness2)
 k_fill
 refine K53.walk (l:=PySem.Challenge.rw_tanglehouse_k53_tangles_put_together) rfl rfl (λw h Y=>PySem.W.kIn_of Y) ?F
 case F =>
  intro w mg fa h KX G hmg
  refine' K53.all_mk KX G hmg ?a1 ?l1 ?c1 ?k1 ?a2 ?l2 ?c2 ?k2 ?a3 ?l3 ?c3 ?k3 ?a4 ?l4 ?c4 ?k4 ?a5 ?l5 ?c5 ?k5 ?a6 ?l6 ?c6 ?k6 ?a7 ?l7 ?c7 ?k7 ?a8 ?l8 ?c8 ?k8 ?a9 ?l9 ?c9 ?k9 ?a10 ?l10 ?c10 ?k10 ?a11 ?l11 ?c11 ?k11 ?a12 ?l12 ?c12 ?k12 ?a13 ?l13 ?c13 ?k13 ?a14 ?l14 ?c14 ?k14 ?a15 ?l15 ?c15 ?k15 ?a16 ?l16 ?c16 ?k16 ?a17 ?l17 ?c17 ?k17 ?a18 ?l18 ?c18 ?k18 ?a19 ?l19 ?c19 ?k19 ?a20 ?l20 ?c20 ?k20 ?a21 ?l21 ?c21 ?k21 ?a22 ?l22 ?c22 ?k22 ?a23 ?l23 ?c23 ?k23 ?a24 ?l24 ?c24 ?k24 ?a25 ?l25 ?c25 ?k25 ?a26 ?l26 ?c26 ?k26 ?a27 ?l27 ?c27 ?k27 ?a28 ?l28 ?c28 ?k28 ?a29 ?l29 ?c29 ?k29 ?z_bool ?z_enumerate ?z_int ?z_isinstance ?z_len ?z_list ?z_min ?z_range ?z_tuple ?z_RIM
  (case a1=>k_is)
  (case l1=>k_is)
  (case c1=>k_is)
  (case k1=>k_is)
  (case a2=>k_is)
  (case l2=>k_is)
  (case c2=>k_is)
  (case k2=>k_is)
  (case a3=>k_is)
  (case l3=>k_is)
  (case c3=>k_is)
  (case k3=>k_is)
  (case a4=>k_is)
  (case l4=>k_is)
  (case c4=>k_is)
  (case k4=>k_is)
  (case a5=>k_is)
  (case l5=>k_is)
  (case c5=>k_is)
  (case k5=>k_is)
  (case a6=>k_is)
  (case l6=>k_is)
  (case c6=>k_is)
  (case k6=>k_is)
  (case a7=>k_is)
  (case l7=>k_is)
  (case c7=>k_is)
  (case k7=>k_is)
  (case a8=>k_is)
  (case l8=>k_is)
  (case c8=>k_is)
  (case k8=>k_is)
  (case a9=>k_is)
  (case l9=>k_is)
  (case c9=>k_is)
  (case k9=>k_is)
  (case a10=>k_is)
  (case l10=>k_is)
  (case c10=>k_is)
  (case k10=>k_is)
  (case a11=>k_is)
  (case l11=>k_is)
  (case c11=>k_is)
  (case k11=>k_is)
  (case a12=>k_is)
  (case l12=>k_is)
  (case c12=>k_is)
  (case k12=>k_is)
  (case a13=>k_is)
  (case l13=>k_is)
  (case c13=>k_is)
  (case k13=>k_is)
  (case a14=>k_is)
  (case l14=>k_is)
  (case c14=>k_is)
  (case k14=>k_is)
  (case a15=>k_is)
  (case l15=>k_is)
  (case c15=>k_is)
  (case k15=>k_is)
  (case a16=>k_is)
  (case l16=>k_is)
  (case c16=>k_is)
  (case k16=>k_is)
  (case a17=>k_is)
  (case l17=>k_is)
  (case c17=>k_is)
  (case k17=>k_is)
  (case a18=>k_is)
  (case l18=>k_is)
  (case c18=>k_is)
  (case k18=>k_is)
  (case a19=>k_is)
  (case l19=>k_is)
  (case c19=>k_is)
  (case k19=>k_is)
  (case a20=>k_is)
  (case l20=>k_is)
  (case c20=>k_is)
  (case k20=>k_is)
  (case a21=>k_is)
  (case l21=>k_is)
  (case c21=>k_is)
  (case k21=>k_is)
  (case a22=>k_is)
  (case l22=>k_is)
  (case c22=>k_is)
  (case k22=>k_is)
  (case a23=>k_is)
  (case l23=>k_is)
  (case c23=>k_is)
  (case k23=>k_is)
  (case a24=>k_is)
  (case l24=>k_is)
  (case c24=>k_is)
  (case k24=>k_is)
  (case a25=>k_is)
  (case l25=>k_is)
  (case c25=>k_is)
  (case k25=>k_is)
  (case a26=>k_is)
  (case l26=>k_is)
  (case c26=>k_is)
  (case k26=>k_is)
  (case a27=>k_is)
  (case l27=>k_is)
  (case c27=>k_is)
  (case k27=>k_is)
  (case a28=>k_is)
  (case l28=>k_is)
  (case c28=>k_is)
  (case k28=>k_is)
  (case a29=>k_is)
  (case l29=>k_is)
  (case c29=>k_is)
  (case k29=>k_is)
  (case z_bool=>first | k_is | rfl | decide +kernel)
  (case z_enumerate=>first | k_is | rfl | decide +kernel)
  (case z_int=>first | k_is | rfl | decide +kernel)
  (case z_isinstance=>first | k_is | rfl | decide +kernel)
  (case z_len=>first | k_is | rfl | decide +kernel)
  (case z_list=>first | k_is | rfl | decide +kernel)
  (case z_min=>first | k_is | rfl | decide +kernel)
  (case z_range=>first | k_is | rfl | decide +kernel)
  (case z_tuple=>first | k_is | rfl | decide +kernel)
  (case z_RIM=>first | k_is | rfl | decide +kernel)
