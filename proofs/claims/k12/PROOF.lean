import PyProof.Rows.All
import Wide.All
import OpenK.AllK
import Wide.FinOn
import Lean
import PyProof.EqAt
import PyProof.EqKinds
import PyProof.TupleCall
import PyProof.EnumMake
import PyProof.EnumFor
import PyProof.Draws
import PyProof.DictWalks
import PyProof.ListRange
import PyProof.ZipIter
import PyProof.Rows.SortWalk
import PyProof.Rows.SumAny
import PyProof.TupleIter
import PyProof.MeetsStr2
import PyProof.StrWalks
import Wide.Txt
import PyProof.Rows.SortRuns
import PyProof.Rows.MinMaxN
import PySem.Challenge.RW_tanglehouse_k12_faces_walked
set_option Elab.async false
set_option linter.all false
set_option maxRecDepth 100000
namespace L2
open PySem PySem.Spec PyProof.Rows
noncomputable abbrev Key:=Sum Int Str
noncomputable def keyIs:Key->Value->Bool
 | .inl k,v=>Value.isInt k v
 | .inr x,v=>Value.isStrOf x v
noncomputable def keyH (w:World):Key->Int
 | .inl k=>hashInt k
 | .inr x=>hashStr w x
theorem keyIs_shape:∀{k:Key} {v:Value},keyIs k v=true->(∃i t,k=Sum.inl i/\v=Value.int i t)\/(∃x t,k=Sum.inr x/\v=Value.str x t)
 | .inl i,v,h=>by
  obtain ⟨t,e⟩:=Value.isInt_shape (k:=i) (v:=v) h
  exact .inl ⟨i,t,rfl,e⟩
 | .inr x,v,h=>by
  obtain ⟨t,e⟩:=Value.isStrOf_shape (x:=x) (v:=v) h
  exact .inr ⟨x,t,rfl,e⟩
theorem keyIs_int (i:Int) (t:Tok):keyIs (.inl i) (.int i t)=true:=by simp [keyIs,Value.isInt]
theorem keyIs_str (x:Str) (t:Tok):keyIs (.inr x) (.str x t)=true:=by simp [keyIs,Value.isStrOf]
theorem key_ll (a b:Int):decide ((Sum.inl a:Key)=Sum.inl b)=(a == b):=by
 by_cases e:a=b
 ·subst e;simp
 ·have h:¬(Sum.inl a:Key)=Sum.inl b:=λq=>e (Sum.inl.inj q)
  rw [decide_eq_false h]
  exact (beq_eq_false_iff_ne.mpr e).symm
theorem key_rr (a b:Str):decide ((Sum.inr a:Key)=Sum.inr b)=decide (a=b):=by
 by_cases e:a=b
 ·subst e;simp
 ·have h:¬(Sum.inr a:Key)=Sum.inr b:=λq=>e (Sum.inr.inj q)
  rw [decide_eq_false h,decide_eq_false e]
theorem key_lr (a:Int) (b:Str):decide ((Sum.inl a:Key)=Sum.inr b)=false:=decide_eq_false (λq=>nomatch q)
theorem key_rl (a:Str) (b:Int):decide ((Sum.inr a:Key)=Sum.inl b)=false:=decide_eq_false (λq=>nomatch q)
noncomputable def mixKind (prog:Program) (w:World):PySem.KeyKind prog w Key where
 is:=keyIs
 hash:=keyH w
 inj:=λv a b ha hb=>by
  rcases keyIs_shape ha with ⟨i,t,rfl,rfl⟩ | ⟨x,t,rfl,rfl⟩
  ·rcases keyIs_shape hb with ⟨j,u,rfl,e⟩ | ⟨y,u,rfl,e⟩
   ·injection e with e1 _;rw [e1]
   ·exact nomatch e
  ·rcases keyIs_shape hb with ⟨j,u,rfl,e⟩ | ⟨y,u,rfl,e⟩
   ·exact nomatch e
   ·injection e with e1 _;rw [e1]
 byValue:=λk v h=>by
  rcases keyIs_shape h with ⟨i,t,rfl,rfl⟩ | ⟨x,t,rfl,rfl⟩ <;> rfl
 pyHash:=λhv h=>by
  rcases keyIs_shape hv with ⟨i,t,rfl,rfl⟩ | ⟨x,t,rfl,rfl⟩
  ·exact wpAny_pyHash_int h
  ·exact wpAny_pyHash_str h
 eqBool:=λhu hv h=>by
  rcases keyIs_shape hu with ⟨i,t,rfl,rfl⟩ | ⟨x,t,rfl,rfl⟩
  ·rcases keyIs_shape hv with ⟨j,u,rfl,rfl⟩ | ⟨y,u,rfl,rfl⟩
   ·rw [key_ll] at h;exact wpAny_eqBool_int h
   ·rw [key_lr] at h;exact SeqAt.EqAt.int_str i t y u _ _ _ _ h
  ·rcases keyIs_shape hv with ⟨j,u,rfl,rfl⟩ | ⟨y,u,rfl,rfl⟩
   ·rw [key_rl] at h;exact SeqAt.EqAt.str_int x t j u _ _ _ _ h
   ·rw [key_rr] at h;exact wpAny_eqBool_str h
 «strs»:=λk x t v h=>by
  rcases keyIs_shape h with ⟨i,u,rfl,e⟩ | ⟨y,u,rfl,e⟩
  ·exact nomatch e
  ·injection e with e1 _
   subst e1
   cases v <;> rfl
theorem mixKind_int (prog:Program) (w:World) (i:Int) (t:Tok):(mixKind prog w).is (.inl i) (.int i t)=true:=keyIs_int i t
theorem mixKind_str (prog:Program) (w:World) (x:Str) (t:Tok):(mixKind prog w).is (.inr x) (.str x t)=true:=keyIs_str x t
end L2
namespace L2
open PySem PySem.Spec PyProof.Rows
inductive V where
 | non | bl (b:Bool) | int (i:Int) | str (x:Str) | byt (b:Array UInt8) | flt (b:UInt64) | ref (a:Addr) | ty (n:String)
 deriving DecidableEq
noncomputable def RelV:V->Value->Prop
 | .non,u=>u=Value.none
 | .bl b,u=>u=Value.bool b
 | .int i,u=>∃t,u=Value.int i t
 | .str x,u=>∃t,u=Value.str x t
 | .byt b,u=>∃t,u=Value.bytes b t
 | .flt b,u=>∃t,u=Value.float b t
 | .ref a,u=>u=Value.ref a
 | .ty n,u=>u=Value.type n
noncomputable abbrev Vals:List V->List Value->Prop:=Paired RelV
theorem Vals.length {xs:List V} {us:List Value} (r:Vals xs us):xs.length=us.length:=Paired.length r
theorem Vals.get:∀{xs:List V} {us:List Value} {i:Nat} {x:V},Vals xs us->xs[i]? = some x->∃u,us[i]? = some u/\RelV x u
 | _,_,_,_,.nil,e=>by simp at e
 | _,_,0,_,.cons r _,e=>by simp at e;subst e;exact ⟨_,rfl,r⟩
 | _,_,i+1,x,.cons _ t,e=>by
  obtain ⟨u,h1,h2⟩:=Vals.get (i:=i) (x:=x) t (by simpa using e)
  exact ⟨u,by simpa using h1,h2⟩
theorem Vals.set {x:V} {u:Value} (r:RelV x u):∀{xs:List V} {us:List Value} (i:Nat),Vals xs us->Vals (xs.set i x) (us.set i u)
 | _,_,_,.nil=>.nil
 | _,_,0,.cons _ t=>.cons r t
 | _,_,i+1,.cons q t=>.cons q (Vals.set r i t)
theorem Vals.append:∀{xs ys:List V} {us ws:List Value},Vals xs us->Vals ys ws->Vals (xs++ys) (us++ws)
 | _,_,_,_,.nil,s=>s
 | _,_,_,_,.cons r t,s=>.cons r (Vals.append t s)
theorem Vals.take:∀{xs:List V} {us:List Value} (n:Nat),Vals xs us->Vals (xs.take n) (us.take n)
 | _,_,0,_=>.nil
 | _,_,_+1,.nil=>.nil
 | _,_,n+1,.cons r t=>.cons r (Vals.take n t)
theorem Vals.drop:∀{xs:List V} {us:List Value} (n:Nat),Vals xs us->Vals (xs.drop n) (us.drop n)
 | _,_,0,r=>r
 | _,_,_+1,.nil=>.nil
 | _,_,n+1,.cons _ t=>Vals.drop n t
noncomputable def RelO:Option V->Option Value->Prop
 | some v,some u=>RelV v u
 | none,none=>True
 | _,_=>False
noncomputable def KV {κ:Type}:List (κ × V)->List (κ × Value)->Prop:=Paired λ(p:κ × V) (q:κ × Value)=>p.1=q.1/\RelV p.2 q.2
noncomputable def kV:Key->V
 | .inl i=>.int i
 | .inr x=>.str x
inductive HO where
 | lst (xs:List V)
 | tup (xs:List V)
 | dK (kvs:List (Key × V)) | dT (kvs:List (List Key × V))
 | set (S:Int->Bool) (n:Nat)
 | ins (C dx:Addr) (fs:List (Str × V))
 | own (x:Addr)
 | xd (fs:List (Str × V))
 | met (f x:Addr)
 | rng (lo hi:Int)
 | frz (o:Obj) (u:HO)
 | tbl (ps:Array Value)
 | ext (φ:Heap->Prop)
noncomputable abbrev Hp:=Addr->Option HO
noncomputable def upd (H:Hp) (a:Addr) (o:HO):Hp:=λb=>if b=a then some o else H b
theorem upd_same {H:Hp} {a:Addr} {o:HO}:upd H a o a=some o:=by unfold upd;rw [if_pos rfl]
theorem upd_ne {H:Hp} {a b:Addr} {o:HO} (h:b≠a):upd H a o b=H b:=by unfold upd;rw [if_neg h]
theorem ne_of {H:Hp} {a b:Addr} {o u:HO} (h:H a=some o) (h':H b=some u) (d:o≠u):a≠b:=by
 intro e;subst e;rw [h] at h';exact d (Option.some.inj h')
theorem ne_of_none {H:Hp} {a b:Addr} {o:HO} (h:H a=some o) (h':H b=none):a≠b:=by
 intro e;subst e;rw [h] at h';cases h'
section
variable (P:Program) (w:World)
noncomputable def ObjOk (H:Hp) (h:Heap) (a:Addr):HO->Prop
 | .lst xs=>xs.length<=sizeLine/\∃(its:List Value) (n:Nat),Vals xs its/\h.get? a=some { cls:=.type "list",data:=.seq its.toArray n }
 | .tup xs=>xs.length<=sizeLine/\∃its:List Value,Vals xs its/\IsTup h a its.toArray
 | .dK kvs=>kvs.length<=sizeLine/\(a == sysModules)=false/\∃vs,KV kvs vs/\h.DictOf (mixKind P w) a vs
 | .dT kvs=>kvs.length<=sizeLine/\(a == sysModules)=false/\∃xs:List (List Key × Addr × Value),
   Paired (λ(p:List Key × V) (q:List Key × Addr × Value)=>p.1=q.1/\H q.2.1=some (.tup (p.1.map kV))/\RelV p.2 q.2.2) kvs xs /\
   ∃o es ep,h.get? a=some o/\o.ExactDict/\o.data=.dict es ep/\es.toList=xs.map (entryOfKey (tupleKind (mixKind P w)))/\(xs.map (·.1)).Nodup
 | .set S n=>h.SetOf (intKind P w) a S n
 | .ins C dx fs=>H dx=some (.own a)/\fs.length<=1000/\dx≠a/\h.get? a=some (PySem.W.instObj C dx) /\
   ∃mA,h.Ns1 dx mA/\(∀f,RelO (fs.lookup f) (mA f))/\PySem.Within mA (fs.map (·.1))
 | .own _=>∃o,h.get? a=some o
 | .xd fs=>∃mA,h.Ns1 a mA/\∀f,RelO (fs.lookup f) (mA f)
 | .rng lo hi=>∃t u v,h.get? a=some { cls:=.type "range",data:=.fields #[.int lo t,.int hi u,.int 1 v] }
 | .frz o u=>h.get? a=some o/\ObjOk H h a u
 | .tbl ps=>∃ts:Array Value,h.get? a=some { cls:=.none,data:=.fields ts }/\(ts = #[]\/∃(b:Addr) (oc:Obj) (u:HO) (vs:Array Value) (t:Tok) (q:Str) (t':Tok),ts = #[ps.getD 0 .none,ps.getD 1 .none,.ref b]/\H b=some (.frz oc u)/\oc.data=.fields vs/\ps.getD 2 .none=.str q t'/\vs[1]? = some (.str q t))
 | .met f x=>h.get? a=some (PySem.W.methodObj (.ref f) (.ref x))
 | .ext φ=>φ h/\(∃o,h.get? a=some o)/\∀h1 h2:Heap,φ h1->(∀o,h1.get? a=some o->h2.get? a=some o)->φ h2
noncomputable def HOk (H:Hp) (h:Heap):Prop:=∀a o,H a=some o->ObjOk P w H h a o
end
section
variable {P:Program} {w:World} {H H':Hp} {h h':Heap} {a:Addr} {o:HO}
theorem ObjOk.lt (x:ObjOk P w H h a o):a<h.objs.size:=by
 cases o with
 | lst xs=>obtain ⟨_,_,_,_,e⟩:=x;exact Heap.lt_size e
 | tup xs=>obtain ⟨_,_,_,p⟩:=x;exact p.lt
 | dK kvs=>obtain ⟨_,_,_,_,o,_,_,e,_⟩:=x;exact Heap.lt_size e
 | dT kvs=>obtain ⟨_,_,_,_,o,_,_,e,_⟩:=x;exact Heap.lt_size e
 | set S n=>obtain ⟨o,_,_,_,e,_⟩:=x;exact Heap.lt_size e
 | ins C dx fs=>obtain ⟨_,_,_,e,_⟩:=x;exact Heap.lt_size e
 | own y=>obtain ⟨_,e⟩:=x;exact Heap.lt_size e
 | xd fs=>obtain ⟨_,⟨_,_,_,e,_⟩,_⟩:=x;exact Heap.lt_size e
 | rng lo hi=>obtain ⟨_,_,_,e⟩:=x;exact Heap.lt_size e
 | frz ob u=>obtain ⟨e,_⟩:=x;exact Heap.lt_size e
 | tbl ps=>obtain ⟨_,e,_⟩:=x;exact Heap.lt_size e
 | met f y=>exact Heap.lt_size (show h.get? a=some _ from x)
 | ext φ=>obtain ⟨_,⟨_,e⟩,_⟩:=x;exact Heap.lt_size e
theorem Paired.mapP {α β:Type} {F G:α->β->Prop}:∀{l₁:List α} {l₂:List β},Paired F l₁ l₂->(∀a b,F a b->G a b)->Paired G l₁ l₂
 | _,_,.nil,_=>.nil
 | _,_,.cons r t,f=>.cons (f _ _ r) (Paired.mapP t f)
theorem ObjOk.stay (x:ObjOk P w H h a o) (k:∀b u,(b=a\/H b=some (.own a))->h.get? b=some u->h'.get? b=some u)
  (ho:∀b,H b=some (.own a)->H' b=some (.own a)) (ht:∀b xs,H b=some (.tup xs)->H' b=some (.tup xs)) (hf:∀b u v vs,H b=some (.frz u v)->u.data=.fields vs->H' b=some (.frz u v):=by exact λ_ _ _ _ q _=>q):ObjOk P w H' h' a o:=by
 induction o with
 | lst xs=>obtain ⟨z,its,n,r,e⟩:=x;exact ⟨z,its,n,r,k _ _ (.inl rfl) e⟩
 | tup xs=>obtain ⟨z,its,r,ob,e,c⟩:=x;exact ⟨z,its,r,ob,k _ _ (.inl rfl) e,c⟩
 | dK kvs=>obtain ⟨z,y,vs,r,ob,es,ep,e,c⟩:=x;exact ⟨z,y,vs,r,ob,es,ep,k _ _ (.inl rfl) e,c⟩
 | dT kvs =>
  obtain ⟨z,y,xs,r,ob,es,ep,e,c⟩:=x
  exact ⟨z,y,xs,Paired.mapP r λp q z=>⟨z.1,ht _ _ z.2.1,z.2.2⟩,ob,es,ep,k _ _ (.inl rfl) e,c⟩
 | set S n=>obtain ⟨ob,es,ep,t,e,c⟩:=x;exact ⟨ob,es,ep,t,k _ _ (.inl rfl) e,c⟩
 | ins C dx fs =>
  obtain ⟨d,z,ne,e,mA,⟨od,es,ep,e2,c⟩,r⟩:=x
  exact ⟨ho _ d,z,ne,k _ _ (.inl rfl) e,mA,⟨od,es,ep,k _ _ (.inr d) e2,c⟩,r⟩
 | own y=>obtain ⟨ob,e⟩:=x;exact ⟨ob,k _ _ (.inl rfl) e⟩
 | xd fs=>obtain ⟨mA,⟨od,es,ep,e,c⟩,r⟩:=x;exact ⟨mA,⟨od,es,ep,k _ _ (.inl rfl) e,c⟩,r⟩
 | rng lo hi=>obtain ⟨t,u,v,e⟩:=x;exact ⟨t,u,v,k _ _ (.inl rfl) e⟩
 | frz ob u ih=>obtain ⟨e,q⟩:=x;exact ⟨k _ _ (.inl rfl) e,ih q⟩
 | tbl ps =>
  obtain ⟨ts,e,r⟩:=x
  exact ⟨ts,k _ _ (.inl rfl) e,r.imp id λ⟨b,oc,u,vs,t,q,t',z1,z2,z3⟩=>⟨b,oc,u,vs,t,q,t',z1,hf _ _ _ _ z2 z3.1,z3⟩⟩
 | met f y =>
  have e:h.get? a=some (PySem.W.methodObj (.ref f) (.ref y)):=x
  show h'.get? a=some (PySem.W.methodObj (.ref f) (.ref y))
  exact k a _ (.inl rfl) e
 | ext φ=>obtain ⟨p,⟨o,e⟩,st⟩:=x;exact ⟨st _ _ p λo q=>k _ _ (.inl rfl) q,⟨o,k _ _ (.inl rfl) e⟩,st⟩
theorem HOk.lt (x:HOk P w H h) (e:H a=some o):a<h.objs.size:=(x a o e).lt
theorem HOk.fresh (x:HOk P w H h) (e:h.objs.size<=a):H a=none:=by
 cases q:H a with
 | none=>rfl
 | some u=>exact absurd (Nat.lt_of_lt_of_le (x.lt q) e) (Nat.lt_irrefl _)
theorem HOk.kept (x:HOk P w H h) (k:∀b u,h.get? b=some u->h'.get? b=some u):HOk P w H h':=λa o e =>
 (x a o e).stay (λb u _ q=>k b u q) (λ_ q=>q) λ_ _ q=>q
theorem HOk.laid (x:HOk P w H h) (k:∀b u,h.get? b=some u->h'.get? b=some u) (hp:h.objs.size<=a) (new:ObjOk P w (upd H a o) h' a o):HOk P w (upd H a o) h':=λb u e=>by
 have hn:=x.fresh hp
 by_cases hb:b=a
 ·subst hb;rw [upd_same] at e;cases e;exact new
 ·rw [upd_ne hb] at e
  exact (x b u e).stay (λc v _ q=>k c v q) (λc q=>by rw [upd_ne (ne_of_none q hn)];exact q) (λc xs q=>by rw [upd_ne (ne_of_none q hn)];exact q) λc _ _ _ q _=>by rw [upd_ne (ne_of_none q hn)];exact q
end
noncomputable def Rd (H:Hp) (a:Addr) (u:HO):Prop:=H a=some u\/∃o,H a=some (.frz o u)
theorem Rd.of {H:Hp} {a:Addr} {u:HO} (h:H a=some u):Rd H a u:=.inl h
theorem Rd.ok {P:Program} {w:World} {H:Hp} {h:Heap} {a:Addr} {u:HO} (r:Rd H a u) (x:HOk P w H h):ObjOk P w H h a u:=by
 rcases r with r | ⟨o,r⟩
 ·exact x a u r
 ·obtain ⟨_,q⟩:=x a _ r
  exact q
noncomputable def Mut:Option HO->Prop
 | some (.lst _)=>True
 | some (.dK _)=>True
 | some (.dT _)=>True
 | some (.set _ _)=>True
 | some (.ins _ _ _)=>True
 | some (.ext _)=>True
 | _=>False
section
variable {P:Program} {w:World} {H:Hp} {h h':Heap} {x e:Addr} {o':HO}
theorem HOk.write (ok:HOk P w H h) (mu:Mut (H x)) (he:e=x\/H e=some (.own x)) (k:∀b u,b≠e->h.get? b=some u->h'.get? b=some u) (heo:∃u,h'.get? e=some u)
  (new:ObjOk P w (upd H x o') h' x o'):HOk P w (upd H x o') h':=λb u q=>by
 have nown:∀c y,H c=some (.own y)->c≠x:=λc y r z=>by subst z;rw [r] at mu;exact mu
 have ntup:∀c xs,H c=some (.tup xs)->c≠x:=λc xs r z=>by subst z;rw [r] at mu;exact mu
 have nfrz:∀c o v,H c=some (.frz o v)->c≠x:=λc o v r z=>by subst z;rw [r] at mu;exact mu
 by_cases hb:b=x
 ·subst hb;rw [upd_same] at q;cases q;exact new
 ·rw [upd_ne hb] at q
  by_cases hbe:b=e
  ·have q':H b=some (.own x):=by
    rcases he with z | z
    ·exact absurd (hbe.trans z) hb
    ·rw [hbe];exact z
   rw [q] at q';cases q'
   obtain ⟨v,hv⟩:=heo
   exact ⟨v,by rw [hbe];exact hv⟩
  ·refine (ok b u q).stay (λc v hc r=>k c v ?_ r) (λc r=>by rw [upd_ne (nown c b r)];exact r) (λc xs r=>by rw [upd_ne (ntup c xs r)];exact r) λc o v _ r _=>by rw [upd_ne (nfrz c o v r)];exact r
   rcases hc with rfl | hc
   ·exact hbe
   ·rintro rfl
    rcases he with z | z
    ·exact nown c b hc z
    ·rw [hc] at z;cases z;exact hb rfl
end
structure Un (fs ex:List Addr) (H H':Hp) (h h':Heap):Prop where
 keep:∀b o,h.get? b=some o->H b=none->b∉fs->b∉ex->h'.get? b=some o
 slot:∀b o,h.get? b=some o->H b=none->b∈fs->b∉ex->∃sl,h'.get? b=some { o with slots:=sl }
 free:∀b o,h.get? b=some o->H b=none->b∉ex->H' b=none
 there:∀b o,h.get? b=some o->b∉ex->∃o',h'.get? b=some o'
 tups:∀b xs,H b=some (.tup xs)->H' b=some (.tup xs)
 frzs:∀b o u,H b=some (.frz o u)->H' b=some (.frz o u)
 tbls:∀b ps,H b=some (.tbl ps)->∃more,H' b=some (.tbl (ps++more))
section
variable {fs fs' ex ex':List Addr} {H H1 H2:Hp} {h h1 h2 h':Heap} {a x e:Addr} {o:HO}
theorem Un.any (u:Un fs ex H H1 h h1) {b:Addr} {ob:Obj} (q:h.get? b=some ob) (n:H b=none) (hx:b∉ex):∃sl,h1.get? b=some { ob with slots:=sl }:=by
 by_cases hb:b∈fs
 ·exact u.slot b ob q n hb hx
 ·exact ⟨ob.slots,u.keep b ob q n hb hx⟩
theorem Un.trans (a:Un fs ex H H1 h h1) (b:Un fs ex H1 H2 h1 h2):Un fs ex H H2 h h2 where
 keep:=λc ob q n hc hx=>b.keep c ob (a.keep c ob q n hc hx) (a.free c ob q n hx) hc hx
 slot:=λc ob q n hc hx=>by
  obtain ⟨sl,e1⟩:=a.slot c ob q n hc hx
  obtain ⟨sl',e2⟩:=b.slot c _ e1 (a.free c ob q n hx) hc hx
  exact ⟨sl',e2⟩
 free:=λc ob q n hx=>by
  obtain ⟨o',e1⟩:=a.there c ob q hx
  exact b.free c o' e1 (a.free c ob q n hx) hx
 there:=λc ob q hx=>by
  obtain ⟨o',e1⟩:=a.there c ob q hx
  exact b.there c o' e1 hx
 tups:=λc xs q=>b.tups c xs (a.tups c xs q)
 frzs:=λc ob xs q=>b.frzs c ob xs (a.frzs c ob xs q)
 tbls:=λc ps q=>by
  obtain ⟨m1,e1⟩:=a.tbls c ps q
  obtain ⟨m2,e2⟩:=b.tbls c _ e1
  exact ⟨m1++m2,by rw [e2,Array.append_assoc]⟩
theorem Un.kept (k:∀b u,h.get? b=some u->h'.get? b=some u):Un fs ex H H h h' :=
 ⟨λb ob q _ _ _=>k b ob q,λb ob q _ _ _=>⟨ob.slots,k b ob q⟩,λ_ _ _ n _=>n,λb ob q _=>⟨ob,k b ob q⟩,λ_ _ q=>q,λ_ _ _ q=>q,λ_ ps q=>⟨#[],by rw [q];simp⟩⟩
theorem Un.refl:Un fs ex H H h h:=Un.kept λ_ _ q=>q
theorem Un.laid (k:∀b u,h.get? b=some u->h'.get? b=some u) (hp:h.objs.size<=a) (hn:H a=none):Un fs ex H (upd H a o) h h' where
 keep:=λb u q _ _ _=>k b u q
 slot:=λb u q _ _ _=>⟨u.slots,k b u q⟩
 free:=λb u q n _=>by rw [upd_ne (Nat.ne_of_lt (Nat.lt_of_lt_of_le (Heap.lt_size q) hp))];exact n
 there:=λb u q _=>⟨u,k b u q⟩
 tups:=λb xs q=>by rw [upd_ne (ne_of_none q hn)];exact q
 frzs:=λb u xs q=>by rw [upd_ne (ne_of_none q hn)];exact q
 tbls:=λb ps q=>⟨#[],by rw [upd_ne (ne_of_none q hn),q];simp⟩
theorem Un.write (mu:Mut (H x)) (he:e=x\/H e=some (.own x)) (k:∀b u,b≠e->h.get? b=some u->h'.get? b=some u) (heo:∃u,h'.get? e=some u):Un fs ex H (upd H x o) h h':=by
 have hx:∀b,H b=none->b≠x:=λb n z=>by subst z;rw [n] at mu;exact mu
 have hb:∀b,H b=none->b≠e:=λb n z=>by
  subst z
  rcases he with r | r
  ·exact hx b n r
  ·rw [n] at r;cases r
 have hm:∀b u,H b=some u->¬Mut (some u)->b≠x:=λb u q nm z=>by subst z;rw [q] at mu;exact nm mu
 refine ⟨λb u q n _ _=>k b u (hb b n) q,λb u q n _ _=>⟨u.slots,k b u (hb b n) q⟩,λb u q n _=>by rw [upd_ne (hx b n)];exact n,λb u q _=>?_,
  λb xs q=>by rw [upd_ne (hm b _ q λz=>z)];exact q,λb u xs q=>by rw [upd_ne (hm b _ q λz=>z)];exact q,λb ps q=>⟨#[],by rw [upd_ne (hm b _ q λz=>z),q];simp⟩⟩
 by_cases hbe:b=e
 ·subst hbe;exact heo
 ·exact ⟨u,k b u hbe q⟩
theorem Un.mono (u:Un fs ex H H1 h h1) (hs:∀b∈fs,b∈fs') (hx:∀b∈ex,b∈ex'):Un fs' ex' H H1 h h1 :=
 ⟨λb ob q n hb he=>u.keep b ob q n (λz=>hb (hs b z)) λz=>he (hx b z),λ_ _ q n _ he=>u.any q n λz=>he (hx _ z),λb ob q n he=>u.free b ob q n λz=>he (hx b z),λb ob q he=>u.there b ob q λz=>he (hx b z),u.tups,u.frzs,u.tbls⟩
end
noncomputable def trk (h:Heap) (H:Hp):List Addr:=(List.range h.objs.size).filter λa=>(H a).isSome
noncomputable def hidT (h:Heap) (H:Hp):Heap:=PySem.W.hideAll h (trk h H)
theorem hidT_size (h:Heap) (H:Hp):(hidT h H).objs.size=h.objs.size:=PySem.W.hideAll_size _ _
theorem hidT_get {h:Heap} {H:Hp} {b:Addr} {o:Obj} (e:h.get? b=some o) (n:H b=none):(hidT h H).get? b=some o :=
 PySem.W.hideAll_get _ e λhm=>by
  have q:(H b).isSome=true:=(List.mem_filter.mp hm).2
  rw [n] at q;simp at q
theorem of_hidT {h:Heap} {H:Hp} {b:Addr} {o:Obj} (e:(hidT h H).get? b=some o):h.get? b=some o/\H b=none:=by
 have e':h.get? b=some o:=PySem.W.of_hideAll (trk h H) e
 refine ⟨e',?_⟩
 cases q:H b with
 | none=>rfl
 | some x =>
  have hm:b∈trk h H:=List.mem_filter.mpr ⟨List.mem_range.mpr (Heap.lt_size e'),by simp [q]⟩
  have z:(hidT h H).get? b=none:=PySem.W.hideAll_none (trk h H) hm
  rw [z] at e;cases e
noncomputable def allNews (g h:Heap) (L:Addr):List (Addr × Obj):=(List.range h.objs.size).filterMap λa=>if a=L\/(g.get? a).isSome=true then none else (h.get? a).map λo=>(a,o)
noncomputable def rest (g h:Heap) (L d:Addr):List (Addr × Obj):=(allNews g h L).filter λp=>decide (p.1≠d)
end L2
namespace L2
open PySem PySem.Spec PyProof.Rows
structure Mod (K:PySem.W.Frag) (mg:Str->Option Value) (base:Heap):Prop where
 kin:K.In base
 glob:base.Ns mainGlobals mg
 blt:∃mb,base.Ns builtinsNs mb/\∀x:Str,x ≠ "__name__" -> mb x=bootBuiltins x
 nolimit:base.NoLimit
structure Cx where
 prog:Program
 w:World
 K:PySem.W.Frag
 mg:Str->Option Value
 base:Heap
 A:Around
 N:List Str
 s₀:Shared
 H₀:Hp
 env:Env
 outer:List Env
 stack:List Env
 ex:List Addr
 fn:Str->Bool
 calm:Bool
 pn:List (Addr × Obj)
 xe:Value->Shared->Prop
noncomputable def frs (l:List Env):List Addr:=l.filterMap (·.frame)
noncomputable abbrev Cx.fs (X:Cx):List Addr:=frs X.outer
noncomputable def Vis (sc:Scope) (x:Str):Prop:=sc.names.lookup x=some .local\/sc.names.lookup x=some .cell\/sc.names.lookup x=some .free
noncomputable def Loc (sc:Scope) (x:Str):Prop:=sc.names.lookup x=some .local\/sc.names.lookup x=some .cell
noncomputable def Look (env:Env) (h:Heap) (m:Str->Option Value) (x:Str) (u:Value):Prop :=
 (env.kindOf x=some .local/\m x=some u)\/((env.kindOf x=some .cell\/env.kindOf x=some .free)/\∃c,env.cells.lookup x=some c/\h.IsCell c (some u))
structure Cx.Ok (X:Cx):Prop where
 mod:Mod X.K X.mg X.base
 kind:X.env.scope.kind=.function
 glob:X.env.globals=mainGlobals
 blt:X.env.builtins=builtinsNs
 above:X.s₀.heap.objs.size<=X.env.locals
 inj:∀x y c,X.env.cells.lookup x=some c->X.env.cells.lookup y=some c->x=y
 has:∀x,(X.env.kindOf x=some .cell\/X.env.kindOf x=some .free)->∃c,X.env.cells.lookup x=some c
 cab:∀x c,X.fn x=true->X.env.cells.lookup x=some c->X.s₀.heap.objs.size<=c
 hd:X.calm=true->X.A.handled=none
 frames:X.A.frames=some X.stack
 stk:X.stack=X.outer\/(X.stack=X.env::X.outer/\X.env.frame=some X.env.locals)
 exf:∀b∈X.ex,b≠X.env.locals/\∀x c,X.env.cells.lookup x=some c->c≠b
 bs:∀b o,X.base.get? b=some o->X.s₀.heap.get? b=some o/\X.H₀ b=none
 bsz:X.base.objs.size<=X.s₀.heap.objs.size
 noex:∀b o,X.base.get? b=some o->b∉X.ex
 exfs:∀b∈X.ex,b∉X.fs
 funs:X.s₀.heap.FunFrames X.base X.outer
 frf:∀b∈X.fs,X.H₀ b=none
structure Inv (X:Cx) (pins:List (Addr × Obj)) (σ:List (Option V)) (H:Hp) (s:Shared):Prop where
 ok:X.Ok
 os:s.os=X.s₀.os
 bare:AllBare s.gens
 base:Un X.fs X.ex X.H₀ H X.s₀.heap s.heap
 loc:∃m,s.heap.Ns X.env.locals m/\∀(i:Nat) (x:Str) (v:V),X.N[i]? = some x->σ[i]? = some (some v)->Vis X.env.scope x->∃u,RelV v u/\Look X.env s.heap m x u
 cell:∀x c,X.env.cells.lookup x=some c->∃v,s.heap.IsCell c v
 free:H X.env.locals=none
 freeC:∀x c,X.env.cells.lookup x=some c->H c=none
 pin:∀p∈X.pn++pins,s.heap.get? p.1=some p.2/\H p.1=none/\p.1≠X.env.locals/\p.1∉X.fs/\∀v,p.2.data ≠ .cell v
 hok:HOk X.prog X.w H s.heap
 len:σ.length=X.N.length
section
variable {X:Cx} {pins:List (Addr × Obj)} {σ:List (Option V)} {H H':Hp} {s:Shared} {h':Heap}
theorem Cx.Ok.nofr (ok:X.Ok) {b:Addr} {o:Obj} (e:X.base.get? b=some o):b∉X.fs:=λhb=>by
 have:=(ok.funs.mem hb).1
 rw [e] at this;cases this
theorem Inv.bs (I:Inv X pins σ H s):∀b o,X.base.get? b=some o->s.heap.get? b=some o/\H b=none:=λb o e =>
 ⟨I.base.keep b o (I.ok.bs b o e).1 (I.ok.bs b o e).2 (I.ok.nofr e) (I.ok.noex b o e),I.base.free b o (I.ok.bs b o e).1 (I.ok.bs b o e).2 (I.ok.noex b o e)⟩
theorem Inv.bk (I:Inv X pins σ H s):∀b o,X.base.get? b=some o->s.heap.get? b=some o:=λb o e=>(I.bs b o e).1
theorem Inv.mod (I:Inv X pins σ H s):Mod X.K X.mg X.base:=I.ok.mod
theorem Inv.kIn (I:Inv X pins σ H s):X.K.In s.heap:=I.ok.mod.kin.keeps I.bk
theorem Inv.nolimit (I:Inv X pins σ H s):s.heap.NoLimit:=I.ok.mod.nolimit.keeps I.bk
theorem Inv.fr (I:Inv X pins σ H s):∃m,Fr X.base X.env.locals s.heap m :=
 let ⟨m,hn,_⟩:=I.loc
 ⟨m,hn,I.bk,Nat.le_trans I.ok.bsz I.ok.above⟩
theorem Inv.lt (I:Inv X pins σ H s):X.env.locals<s.heap.objs.size:=let ⟨_,hn,_⟩:=I.loc;hn.lt
theorem Inv.sz (I:Inv X pins σ H s):X.s₀.heap.objs.size<=s.heap.objs.size:=Nat.le_trans I.ok.above (Nat.le_of_lt I.lt)
theorem Inv.nofs (I:Inv X pins σ H s) {a:Addr} (h:s.heap.objs.size<=a):a∉X.fs:=λhb=>by
 obtain ⟨_,o,ho,_⟩:=I.ok.funs.mem hb
 exact absurd (Nat.lt_of_lt_of_le (Heap.lt_size ho) (Nat.le_trans I.sz h)) (Nat.lt_irrefl _)
theorem Inv.cne (I:Inv X pins σ H s):∀x c,X.env.cells.lookup x=some c->c≠X.env.locals:=λx c e z=>by
 obtain ⟨v,o,ho,hd⟩:=I.cell x c e
 obtain ⟨m,⟨o',es,ep,ho',hd',_⟩,_⟩:=I.loc
 rw [z,ho'] at ho;cases ho;rw [hd'] at hd;cases hd
theorem Inv.funs (I:Inv X pins σ H s):s.heap.FunFrames X.base X.outer:=by
 have all:∀(l:List Env),(∀b∈frs l,b∈X.fs)->X.s₀.heap.FunFrames X.base l->s.heap.FunFrames X.base l:=by
  intro l
  induction l with
  | nil=>intro _ _;trivial
  | cons env r ih =>
   intro hs hl
   obtain ⟨hk,⟨L,o,hf,hn,ho,hd⟩,hr⟩:=hl
   have hL:L∈X.fs:=hs L (by unfold frs;rw [List.filterMap_cons,hf];exact List.mem_cons_self)
   obtain ⟨sl,e⟩:=I.base.slot L o ho (I.ok.frf L hL) hL λz=>I.ok.exfs L z hL
   exact ⟨hk,⟨L,_,hf,hn,e,hd⟩,ih (λb hb=>hs b (by unfold frs;rw [List.filterMap_cons,hf];exact List.mem_cons_of_mem _ hb)) hr⟩
 exact all X.outer (λ_ hb=>hb) I.ok.funs
theorem Inv.stack (I:Inv X pins σ H s):s.heap.FunFrames X.base X.stack:=by
 rcases I.ok.stk with e | ⟨e,hf⟩
 ·rw [e];exact I.funs
 ·rw [e]
  obtain ⟨m,hn,_⟩:=I.loc
  refine .cons (by rw [I.ok.kind];decide) hf hn ?_ I.funs
  exact Heap.get?_none_of_le (Nat.le_trans I.ok.bsz I.ok.above)
theorem Inv.stkSub (I:Inv X pins σ H s):∀b∈frs X.stack,b∈X.env.locals::X.fs:=λb hb=>by
 rcases I.ok.stk with e | ⟨e,hf⟩
 ·rw [e] at hb;exact List.mem_cons_of_mem _ hb
 ·rw [e] at hb
  unfold frs at hb
  rw [List.filterMap_cons,hf] at hb
  exact hb
theorem Inv.stkFree (I:Inv X pins σ H s):∀b∈frs X.stack,H b=none:=λb hb=>by
 rcases List.mem_cons.mp (I.stkSub b hb) with e | hb
 ·rw [e];exact I.free
 ·obtain ⟨_,o,ho,_⟩:=I.ok.funs.mem hb
  exact I.base.free b o ho (I.ok.frf b hb) λz=>I.ok.exfs b z hb
theorem Inv.step {g':Array GenState} {t':Nat} {d':Drawn} {ch:List Addr} (I:Inv X pins σ H s)
  (hch:∀b∈ch,(b∈X.ex\/X.s₀.heap.objs.size<=b)/\b≠X.env.locals/\(∀x c,X.env.cells.lookup x=some c->c≠b)/\∀p∈X.pn++pins,p.1≠b)
  (keep:∀b o,b≠X.env.locals->b∉X.fs->b∉ch->s.heap.get? b=some o->H b=none->h'.get? b=some o)
  (slot:∀b o,b≠X.env.locals->b∈X.fs->b∉ch->s.heap.get? b=some o->H b=none->∃sl,h'.get? b=some { o with slots:=sl }) (free:∀b o,b∉ch->s.heap.get? b=some o->H b=none->H' b=none)
  (there:∀b o,b∉ch->s.heap.get? b=some o->∃o',h'.get? b=some o')
  (tups:∀b xs,H b=some (.tup xs)->H' b=some (.tup xs)) (frzs:∀b o u,H b=some (.frz o u)->H' b=some (.frz o u)) (tbls:∀b ps,H b=some (.tbl ps)->∃more,H' b=some (.tbl (ps++more)))
  (ns:∀m,s.heap.Ns X.env.locals m->h'.Ns X.env.locals m) (hok:HOk X.prog X.w H' h') (hg:AllBare g') :
  Inv X pins σ H' { s with heap:=h',gens:=g',drawn:=d',toks:=t' }:=by
 have neL:∀b o,X.s₀.heap.get? b=some o->b≠X.env.locals:=λb o e=>Nat.ne_of_lt (Nat.lt_of_lt_of_le (Heap.lt_size e) I.ok.above)
 have neC:∀b o,X.s₀.heap.get? b=some o->b∉X.ex->b∉ch:=λb o e hx hb=>by
  rcases (hch b hb).1 with z | z
  ·exact hx z
  ·exact absurd (Nat.lt_of_lt_of_le (Heap.lt_size e) z) (Nat.lt_irrefl _)
 have cellK:∀x c,X.env.cells.lookup x=some c->∀v,s.heap.IsCell c v->h'.IsCell c v:=λx c e v ⟨o,ho,hd⟩=>by
  have nch:c∉ch:=λz=>(hch c z).2.2.1 x c e rfl
  by_cases hc:c∈X.fs
  ·obtain ⟨sl,q⟩:=slot c o (I.cne x c e) hc nch ho (I.freeC x c e)
   exact ⟨_,q,hd⟩
  ·exact ⟨o,keep c o (I.cne x c e) hc nch ho (I.freeC x c e),hd⟩
 refine ⟨I.ok,I.os,hg,⟨λb o e n hb hx=>?_,λb o e n hb hx=>?_,λb o e n hx=>?_,λb o e hx=>?_,λb xs e=>tups b xs (I.base.tups b xs e),λb o xs e=>frzs b o xs (I.base.frzs b o xs e),λb ps e=>?_⟩,?_,λx c e=>?_,?_,λx c e=>?_,λp hp=>?_,hok,I.len⟩
 ·exact keep b o (neL b o e) hb (neC b o e hx) (I.base.keep b o e n hb hx) (I.base.free b o e n hx)
 ·obtain ⟨sl,e1⟩:=I.base.slot b o e n hb hx
  obtain ⟨sl',e2⟩:=slot b _ (neL b o e) hb (neC b o e hx) e1 (I.base.free b o e n hx)
  exact ⟨sl',e2⟩
 ·obtain ⟨o',e1⟩:=I.base.there b o e hx
  exact free b o' (neC b o e hx) e1 (I.base.free b o e n hx)
 ·obtain ⟨o',e1⟩:=I.base.there b o e hx
  exact there b o' (neC b o e hx) e1
 ·obtain ⟨m1,e1⟩:=I.base.tbls b ps e
  obtain ⟨m2,e2⟩:=tbls b _ e1
  exact ⟨m1++m2,by rw [e2,Array.append_assoc]⟩
 ·obtain ⟨m,hn,hl⟩:=I.loc
  refine ⟨m,ns m hn,λi x v e1 e2 e3=>?_⟩
  obtain ⟨u,r,l⟩:=hl i x v e1 e2 e3
  refine ⟨u,r,?_⟩
  rcases l with l | ⟨k,c,e,z⟩
  ·exact .inl l
  ·exact .inr ⟨k,c,e,cellK x c e _ z⟩
 ·obtain ⟨v,z⟩:=I.cell x c e
  exact ⟨v,cellK x c e v z⟩
 ·obtain ⟨m,⟨o,_,_,ho,_⟩,_⟩:=I.loc
  exact free _ o (λz=>(hch _ z).2.1 rfl) ho I.free
 ·obtain ⟨v,o,ho,hd⟩:=I.cell x c e
  exact free c o (λz=>(hch c z).2.2.1 x c e rfl) ho (I.freeC x c e)
 ·obtain ⟨e,n,ne,nf,d⟩:=I.pin p hp
  have nch:p.1∉ch:=λz=>(hch p.1 z).2.2.2 p hp rfl
  exact ⟨keep p.1 p.2 ne nf nch e n,free p.1 p.2 nch e n,ne,nf,d⟩
theorem Inv.un {t':Nat} (I:Inv X pins σ H s) (u:Un X.fs [] H H' s.heap h') (hok:HOk X.prog X.w H' h'):Inv X pins σ H' { s with heap:=h',toks:=t' }:=by
 obtain ⟨m,⟨o,es,ep,ho,r⟩,_⟩:=id I.loc
 obtain ⟨sl,hL⟩:=u.any ho I.free (by simp)
 exact I.step (g':=s.gens) (d':=s.drawn) (ch:=[]) (λ_ z=>nomatch z) (λb o _ hb _ e n=>u.keep b o e n hb (by simp)) (λb o _ hb _ e n=>u.slot b o e n hb (by simp)) (λb o _ e n=>u.free b o e n (by simp)) (λb o _ e=>u.there b o e (by simp)) u.tups u.frzs u.tbls (λm' hm=>by
  obtain ⟨o',es',ep',ho',r'⟩:=hm
  rw [ho] at ho';cases ho'
  exact ⟨_,es',ep',hL,r'⟩) hok I.bare
theorem Inv.call {g':Array GenState} {t':Nat} {d':Drawn} {ch:List Addr} (I:Inv X pins σ H s) (u:Un (frs X.stack) ch H H' s.heap h') (hok:HOk X.prog X.w H' h') (hg:AllBare g')
  (hch:∀b∈ch,(b∈X.ex\/X.s₀.heap.objs.size<=b)/\b≠X.env.locals/\(∀x c,X.env.cells.lookup x=some c->c≠b)/\∀p∈X.pn++pins,p.1≠b) :
  Inv X pins σ H' { s with heap:=h',gens:=g',drawn:=d',toks:=t' }:=by
 obtain ⟨m,⟨o,es,ep,ho,r⟩,_⟩:=id I.loc
 obtain ⟨sl,hL⟩:=u.any ho I.free λz=>(hch _ z).2.1 rfl
 exact I.step (ch:=ch) hch (λb o hL hb hc e n=>u.keep b o e n (λz=>(List.mem_cons.mp (I.stkSub b z)).elim hL hb) hc) (λb o _ _ hc e n=>u.any e n hc) (λb o hc e n=>u.free b o e n hc) (λb o hc e=>u.there b o e hc) u.tups u.frzs u.tbls (λm' hm=>by
  obtain ⟨o',es',ep',ho',r'⟩:=hm
  rw [ho] at ho';cases ho'
  exact ⟨_,es',ep',hL,r'⟩) hok hg
theorem Inv.turned {t':Nat} {it:Addr} (I:Inv X pins σ H s) (k:∀b o,b≠it->s.heap.get? b=some o->h'.get? b=some o) (hn:H it=none) (hL:it≠X.env.locals)
  (h1:it∈X.ex\/X.s₀.heap.objs.size<=it) (h2:∀x c,X.env.cells.lookup x=some c->c≠it) (h3:∀p∈X.pn++pins,p.1≠it):Inv X pins σ H { s with heap:=h',toks:=t' }:=by
 have nit:∀b u,H b=some u->b≠it:=λb u e z=>by rw [z,hn] at e;cases e
 refine I.step (g':=s.gens) (d':=s.drawn) (ch:=[it]) (λb hb=>?_) (λb o _ _ hc e _=>k b o (λz=>hc (by simp [z])) e) (λb o _ _ hc e _=>⟨o.slots,k b o (λz=>hc (by simp [z])) e⟩) (λ_ _ _ _ n=>n)
  (λb o hc e=>⟨o,k b o (λz=>hc (by simp [z])) e⟩) (λ_ _ e=>e) (λ_ _ _ e=>e) (λb ps e=>⟨#[],by rw [e];simp⟩) (λm hm=>?_) (λb u e=>?_) I.bare
 ·have e:b=it:=by simpa using hb
  subst e
  exact ⟨h1,hL,h2,h3⟩
 ·obtain ⟨o,es,ep,ho,r⟩:=hm
  exact ⟨o,es,ep,k _ o (Ne.symm hL) ho,r⟩
 ·refine (I.hok b u e).stay (λc v hc q=>k c v ?_ q) (λ_ q=>q) λ_ _ q=>q
  rcases hc with z | z
  ·rw [z];exact nit b u e
  ·exact nit c _ z
theorem Inv.tok (I:Inv X pins σ H s) (t:Nat):Inv X pins σ H { s with toks:=t }:=I.un (h':=s.heap) (t':=t) Un.refl I.hok
theorem Inv.kept {t':Nat} (I:Inv X pins σ H s) (k:∀b u,s.heap.get? b=some u->h'.get? b=some u):Inv X pins σ H { s with heap:=h',toks:=t' }:=I.un (Un.kept k) (I.hok.kept k)
theorem Inv.laid {a:Addr} {o:HO} {t':Nat} (I:Inv X pins σ H s) (k:∀b u,s.heap.get? b=some u->h'.get? b=some u) (hp:s.heap.objs.size<=a) (new:ObjOk X.prog X.w (upd H a o) h' a o) :
  Inv X pins σ (upd H a o) { s with heap:=h',toks:=t' }:=I.un (Un.laid k hp (I.hok.fresh hp)) (I.hok.laid k hp new)
theorem Inv.write {x e:Addr} {o:HO} {t':Nat} (I:Inv X pins σ H s) (mu:Mut (H x)) (he:e=x\/H e=some (.own x)) (k:∀b u,b≠e->s.heap.get? b=some u->h'.get? b=some u) (heo:∃u,h'.get? e=some u)
  (new:ObjOk X.prog X.w (upd H x o) h' x o):Inv X pins σ (upd H x o) { s with heap:=h',toks:=t' }:=I.un (Un.write mu he k heo) (I.hok.write mu he k heo new)
theorem Inv.pins_of {pins':List (Addr × Obj)} (I:Inv X pins σ H s) (h:∀p∈pins',s.heap.get? p.1=some p.2/\H p.1=none/\p.1≠X.env.locals/\p.1∉X.fs/\∀v,p.2.data ≠ .cell v):Inv X pins' σ H s :=
 ⟨I.ok,I.os,I.bare,I.base,I.loc,I.cell,I.free,I.freeC,λp hp=>(List.mem_append.mp hp).elim (λz=>I.pin p (List.mem_append_left _ z)) (h p),I.hok,I.len⟩
theorem nodup_ix {N:List Str} (hN:N.Nodup) {i j:Nat} {x:Str} (a:N[i]? = some x) (b:N[j]? = some x):i=j:=by
 obtain ⟨h1,e1⟩:=List.getElem?_eq_some_iff.mp a
 obtain ⟨h2,e2⟩:=List.getElem?_eq_some_iff.mp b
 exact (List.getElem_inj hN).mp (e1.trans e2.symm)
theorem store_ok2 {M:Model} {A:Around} {E:Value->Shared->Prop} {i:Nat} {x:Str} {v:V} {u:Value} {Q:Unit->Shared->Prop} (I:Inv X pins σ H s) (hN:X.N.Nodup) (hi:X.N[i]? = some x) (hx:Loc X.env.scope x) (r:RelV v u)
  (h:∀s',Inv X pins (σ.set i (some v)) H s'->(∃a,Heap.SameBut a s.heap s'.heap/\(a=X.env.locals\/X.env.cells.lookup x=some a))->Q () s') (hf:X.fn x=true\/X.env.scope.names.lookup x=some .local:=by first | exact .inl rfl | exact .inr rfl | assumption):wpAny M A (storeName X.env x u) Q E s:=by
 obtain ⟨m,hn,hl⟩:=id I.loc
 have hcls:(X.env.scope.kind == .class || (X.env.scope.kind == .module && X.env.locals != X.env.globals))=false:=by rw [I.ok.kind];rfl
 have hiσ:i<σ.length:=by rw [I.len];exact (List.getElem?_eq_some_iff.mp hi).1
 have cne:=I.cne
 have tracked:∀{a:Addr} {h':Heap},(∃o,s.heap.get? a=some o/\H a=none)->Heap.SameBut a s.heap h'->HOk X.prog X.w H h':=λ{a h'} ha hs b ob e=>by
  obtain ⟨_,_,hfree⟩:=ha
  refine (I.hok b ob e).stay (λc w' hc q=>(hs.2 c ?_).trans q) (λ_ q=>q) λ_ _ q=>q
  rintro rfl
  rcases hc with rfl | hc
  ·rw [hfree] at e;cases e
  ·rw [hfree] at hc;cases hc
 rcases hx with hk | hk
 ·refine wpAny_storeName_local hk hn (λh' hn' hs=>?_) hcls
  obtain ⟨oL,_,_,hoL,_⟩:=id hn
  refine h _ ⟨I.ok,I.os,I.bare,⟨λb o e n hb hx=>?_,λb o e n hb hx=>?_,I.base.free,λb o e hx=>?_,I.base.tups,I.base.frzs,I.base.tbls⟩,⟨_,hn',λj y v' e1 e2 e3=>?_⟩,λy c e=>?_,I.free,I.freeC,λp hp=>?_,tracked ⟨oL,hoL,I.free⟩ hs,by simpa using I.len⟩ ⟨_,hs,.inl rfl⟩
  ·exact (hs.2 b (Nat.ne_of_lt (Nat.lt_of_lt_of_le (Heap.lt_size e) I.ok.above))).trans (I.base.keep b o e n hb hx)
  ·obtain ⟨sl,e1⟩:=I.base.slot b o e n hb hx
   exact ⟨sl,(hs.2 b (Nat.ne_of_lt (Nat.lt_of_lt_of_le (Heap.lt_size e) I.ok.above))).trans e1⟩
  ·obtain ⟨o',e1⟩:=I.base.there b o e hx
   exact ⟨o',(hs.2 b (Nat.ne_of_lt (Nat.lt_of_lt_of_le (Heap.lt_size e) I.ok.above))).trans e1⟩
  ·by_cases hj:j=i
   ·subst hj
    rw [hi] at e1;cases e1
    rw [List.getElem?_set_self hiσ] at e2
    cases e2
    exact ⟨u,r,.inl ⟨hk,by simp⟩⟩
   ·rw [List.getElem?_set_ne (Ne.symm hj)] at e2
    obtain ⟨u',r',q⟩:=hl j y v' e1 e2 e3
    refine ⟨u',r',?_⟩
    rcases q with ⟨k,e⟩ | ⟨k,c,e,z⟩
    ·refine .inl ⟨k,?_⟩
     have:y≠x:=λe=>hj (nodup_ix hN e1 (e ▸ hi))
     simp [this,e]
    ·exact .inr ⟨k,c,e,z.sameBut hs (cne y c e)⟩
  ·obtain ⟨w',z⟩:=I.cell y c e
   exact ⟨w',z.sameBut hs (cne y c e)⟩
  ·obtain ⟨e,n,ne,nf,d⟩:=I.pin p hp
   exact ⟨(hs.2 p.1 ne).trans e,n,ne,nf,d⟩
 ·have hfn:X.fn x=true:=by
   rcases hf with z | z
   ·exact z
   ·rw [z] at hk;cases hk
  obtain ⟨c,hc⟩:=I.ok.has x (.inl hk)
  obtain ⟨w',z⟩:=I.cell x c hc
  refine wpAny_storeName_cell I.ok.kind hk hc z (λh' hc' hs=>?_)
  obtain ⟨oc,hoc,hocd⟩:=id z
  refine h { s with heap:=h' } ⟨I.ok,I.os,I.bare,⟨λb o e n hb hx=>?_,λb o e n hb hx=>?_,I.base.free,λb o e hx=>?_,I.base.tups,I.base.frzs,I.base.tbls⟩,⟨m,hn.sameBut hs (Ne.symm (cne x c hc)),λj y v' e1 e2 e3=>?_⟩,λy c' e=>?_,I.free,I.freeC,λp hp=>?_,tracked ⟨oc,hoc,I.freeC x c hc⟩ hs,by simpa using I.len⟩ ⟨c,hs,.inr hc⟩
  ·exact (hs.2 b (Nat.ne_of_lt (Nat.lt_of_lt_of_le (Heap.lt_size e) (I.ok.cab x c hfn hc)))).trans (I.base.keep b o e n hb hx)
  ·obtain ⟨sl,e1⟩:=I.base.slot b o e n hb hx
   exact ⟨sl,(hs.2 b (Nat.ne_of_lt (Nat.lt_of_lt_of_le (Heap.lt_size e) (I.ok.cab x c hfn hc)))).trans e1⟩
  ·obtain ⟨o',e1⟩:=I.base.there b o e hx
   exact ⟨o',(hs.2 b (Nat.ne_of_lt (Nat.lt_of_lt_of_le (Heap.lt_size e) (I.ok.cab x c hfn hc)))).trans e1⟩
  ·by_cases hj:j=i
   ·subst hj
    rw [hi] at e1;cases e1
    rw [List.getElem?_set_self hiσ] at e2
    cases e2
    exact ⟨u,r,.inr ⟨.inl hk,c,hc,hc'⟩⟩
   ·rw [List.getElem?_set_ne (Ne.symm hj)] at e2
    obtain ⟨u',r',q⟩:=hl j y v' e1 e2 e3
    refine ⟨u',r',?_⟩
    rcases q with q | ⟨k,c',e,z'⟩
    ·exact .inl q
    ·refine .inr ⟨k,c',e,z'.sameBut hs ?_⟩
     rintro rfl
     exact hj (nodup_ix hN e1 (I.ok.inj _ _ _ e hc ▸ hi))
  ·by_cases hcc:c'=c
   ·subst hcc;exact ⟨_,hc'⟩
   ·obtain ⟨w2,z2⟩:=I.cell y c' e
    exact ⟨w2,z2.sameBut hs hcc⟩
  ·obtain ⟨e,n,ne,nf,d⟩:=I.pin p hp
   refine ⟨(hs.2 p.1 ?_).trans e,n,ne,nf,d⟩
   intro q
   rw [q,hoc] at e
   have q':oc=p.2:=Option.some.inj e
   exact d w' (by rw [← q'];exact hocd)
theorem store_ok {M:Model} {A:Around} {E:Value->Shared->Prop} {i:Nat} {x:Str} {v:V} {u:Value} {Q:Unit->Shared->Prop} (I:Inv X pins σ H s) (hN:X.N.Nodup) (hi:X.N[i]? = some x) (hx:Loc X.env.scope x) (r:RelV v u)
  (h:∀s',Inv X pins (σ.set i (some v)) H s'->Q () s') (hf:X.fn x=true\/X.env.scope.names.lookup x=some .local:=by first | exact .inl rfl | exact .inr rfl | assumption):wpAny M A (storeName X.env x u) Q E s :=
 store_ok2 I hN hi hx r (λs' I' _=>h s' I') hf
theorem Inv.call' {s':Shared} {ch:List Addr} (I:Inv X pins σ H s) (ho:s'.os=s.os) (u:Un (frs X.stack) ch H H' s.heap s'.heap) (hok:HOk X.prog X.w H' s'.heap) (hg:AllBare s'.gens)
  (hch:∀b∈ch,(b∈X.ex\/X.s₀.heap.objs.size<=b)/\b≠X.env.locals/\(∀x c,X.env.cells.lookup x=some c->c≠b)/\∀p∈X.pn++pins,p.1≠b):Inv X pins σ H' s':=by
 obtain ⟨h',g',d',t',o'⟩:=s'
 have e:o'=s.os:=ho
 subst e
 exact I.call (g':=g') (t':=t') (d':=d') u hok hg hch
end
noncomputable abbrev XK:=Value->Option Addr->Hp->Prop
noncomputable abbrev St:=List (Option V)
noncomputable abbrev VK:=V->Hp->Prop
noncomputable abbrev TE:=St->Hp->VK->Prop
noncomputable abbrev TT:=St->Hp->(Bool->Hp->Prop)->Prop
noncomputable abbrev TA:=St->Hp->(List V->Hp->Prop)->Prop
structure Ends where
 nx:St->Hp->Prop
 rt:VK
 bk:St->Hp->Prop:=λ_ _=>False
 ct:St->Hp->Prop:=λ_ _=>False
noncomputable abbrev TS:=Ends->St->Hp->Prop
noncomputable def EP (X:Cx) (pins:List (Addr × Obj)) (σ:St) (Q:VK) (u:Value) (s':Shared):Prop:=∃v H',Inv X pins σ H' s'/\RelV v u/\Q v H'
noncomputable def TP (X:Cx) (pins:List (Addr × Obj)) (σ:St) (Q:Bool->Hp->Prop) (b:Bool) (s':Shared):Prop:=∃H',Inv X pins σ H' s'/\Q b H'
noncomputable def AP (X:Cx) (pins:List (Addr × Obj)) (σ:St) (Q:List V->Hp->Prop) (us:List Value) (s':Shared):Prop:=∃vs H',Inv X pins σ H' s'/\Vals vs us/\Q vs H'
noncomputable def SP (X:Cx) (pins:List (Addr × Obj)) (D:Ends) (f:Flow) (s':Shared):Prop :=
 match f with
 | .next=>∃σ' H',Inv X pins σ' H' s'/\D.nx σ' H'
 | .brk=>∃σ' H',Inv X pins σ' H' s'/\D.bk σ' H'
 | .cont=>∃σ' H',Inv X pins σ' H' s'/\D.ct σ' H'
 | .ret u=>∃v σ' H',Inv X pins σ' H' s'/\RelV v u/\D.rt v H'
noncomputable def PE (X:Cx) (e:Expr) (t:TE):Prop :=
 ∀(pins:List (Addr × Obj)) (s:Shared) (σ:St) (H:Hp) (Q:VK),Inv X pins σ H s->t σ H Q->wpAny (model X.prog X.w) X.A (eval e X.env) (EP X pins σ Q) X.xe s
noncomputable def PT (X:Cx) (e:Expr) (t:TT):Prop :=
 ∀(pins:List (Addr × Obj)) (s:Shared) (σ:St) (H:Hp) (Q:Bool->Hp->Prop),Inv X pins σ H s->t σ H Q->wpAny (model X.prog X.w) X.A (isTrue e X.env (eval e X.env)) (TP X pins σ Q) X.xe s
noncomputable def PW (X:Cx) (e:Expr) (t:TT):Prop :=
 ∀(whole:Sem Value) (pins:List (Addr × Obj)) (s:Shared) (σ:St) (H:Hp) (Q:Bool->Hp->Prop),Inv X pins σ H s->t σ H Q->wpAny (model X.prog X.w) X.A (isTrue e X.env whole) (TP X pins σ Q) X.xe s
theorem PW.pt {X:Cx} {e:Expr} {t:TT} (h:PW X e t):PT X e t:=h _
noncomputable def PA (X:Cx) (es:List Expr) (t:TA):Prop :=
 ∀(pos:Pos) (pins:List (Addr × Obj)) (s:Shared) (σ:St) (H:Hp) (Q:List V->Hp->Prop),Inv X pins σ H s->t σ H Q->wpAny (model X.prog X.w) X.A (spliced (backTo pos (starEach es X.env))) (AP X pins σ Q) X.xe s
noncomputable def PS (X:Cx) (st:Stmt) (t:TS):Prop :=
 ∀(pins:List (Addr × Obj)) (s:Shared) (σ:St) (H:Hp) (D:Ends),Inv X pins σ H s->t D σ H->wpAny (model X.prog X.w) X.A (exec st X.env) (SP X pins D) X.xe s
noncomputable def PSs (X:Cx) (st:List Stmt) (t:TS):Prop :=
 ∀(pins:List (Addr × Obj)) (s:Shared) (σ:St) (H:Hp) (D:Ends),Inv X pins σ H s->t D σ H->wpAny (model X.prog X.w) X.A (execs st X.env) (SP X pins D) X.xe s
theorem thn {α:Type} {t:Sem α} {Q Q':α->Shared->Prop} {M:Model} {A:Around} {E:Value->Shared->Prop} {s:Shared} (h:wpAny M A t Q E s) (hQ:∀a s,Q a s->Q' a s):wpAny M A t Q' E s:=wpAny_mono h hQ λ_ _ x=>x
end L2
namespace L2
open PySem PySem.Spec PyProof.Rows
section
variable {X:Cx}
theorem bin {a b:Expr} {ta tb:TE} (ha:PE X a ta) (hb:PE X b tb) {pins:List (Addr × Obj)} {s:Shared} {σ:St} {H:Hp} {R:V->V->Hp->Prop} (I:Inv X pins σ H s) (h:ta σ H λx H1=>tb σ H1 λy H2=>R x y H2)
  {α:Type} {Q:α->Shared->Prop} {f:Value->Value->Sem α}
  (hf:∀v u s2 x y H2,Inv X pins σ H2 s2->RelV x v->RelV y u->R x y H2->wpAny (model X.prog X.w) X.A (f v u) Q X.xe s2) :
  wpAny (model X.prog X.w) X.A (eval a X.env) (λv s₁=>wpAny (model X.prog X.w) X.A (eval b X.env) (λu s₂=>wpAny (model X.prog X.w) X.A (f v u) Q X.xe s₂) X.xe s₁) X.xe s:=by
 refine thn (ha pins s σ H _ I h) λv s1 ⟨x,H1,I1,r1,q1⟩=>?_
 refine thn (hb pins s1 σ H1 _ I1 q1) λu s2 ⟨y,H2,I2,r2,q2⟩=>?_
 exact hf v u s2 x y H2 I2 r1 r2 q2
noncomputable def tVar (i:Nat):TE:=λσ H Q=>∃v,σ[i]? = some (some v)/\Q v H
noncomputable def tC (v:V):TE:=λ_ H Q=>Q v H
theorem pe_var {i:Nat} {x:Str} {pos:Pos} (hN:X.N[i]? = some x) (hv:Vis X.env.scope x) (hd:(x == ("__debug__" : Str))=false:=by decide) (hcd:(x == ("__classdict__" : Str))=false:=by decide):PE X (.Name x pos) (tVar i):=by
 intro pins s σ H Q I h
 obtain ⟨v,e,h⟩:=h
 obtain ⟨m,hn,hl⟩:=I.loc
 obtain ⟨u,r,l⟩:=hl i x v hN e hv
 have fin:EP X pins σ Q u s:=⟨v,H,I,r,h⟩
 rcases l with ⟨hk,hm⟩ | ⟨hk,c,hc,hcell⟩
 ·exact wpAny_Name (wpAny_loadName_local I.ok.kind hk hn hm fin) hd
 ·rcases hk with hk | hk
  ·exact wpAny_Name (wpAny_loadName_cell I.ok.kind hk hc hcell fin) hd
  ·exact wpAny_Name (wpAny_loadName_free I.ok.kind hk hc hcell fin hcd) hd
theorem pe_int {i j pos}:PE X (.Constant (.int i) j pos) (tC (.int i)):=λ_ _ _ H _ I h=>wpAny_Constant_int ⟨.int i,H,I.tok _,⟨_,rfl⟩,h⟩
theorem pe_bl {b j pos}:PE X (.Constant (.bool b) j pos) (tC (.bl b)):=λ_ _ _ H _ I h=>Constant_bool ⟨.bl b,H,I,rfl,h⟩
noncomputable def Gl (X:Cx) (x:Str):Prop:=X.env.kindOf x=some .globalImplicit
theorem ld_glob {E:Value->Shared->Prop} {pins:List (Addr × Obj)} {s:Shared} {σ:St} {H:Hp} {x:Str} {u:Value} {pos:Pos} {Q:Value->Shared->Prop} (I:Inv X pins σ H s) (hg:Gl X x) (hm:X.mg x=some u) (h:Q u s)
  (hd:(x == ("__debug__" : Str))=false:=by decide):wpAny (model X.prog X.w) X.A (eval (.Name x pos) X.env) Q E s :=
 Calls.Name_function_global I.ok.kind hg (Calls.loadGlobal_global (by rw [I.ok.glob];exact I.mod.glob.keeps I.bk) hm h) hd
theorem ld_blt {E:Value->Shared->Prop} {pins:List (Addr × Obj)} {s:Shared} {σ:St} {H:Hp} {x:Str} {u:Value} {pos:Pos} {Q:Value->Shared->Prop} (I:Inv X pins σ H s) (hg:Gl X x) (hm:X.mg x=none) (hv:bootBuiltins x=some u) (h:Q u s)
  (hn:x ≠ "__name__":=by decide) (hd:(x == ("__debug__" : Str))=false:=by decide):wpAny (model X.prog X.w) X.A (eval (.Name x pos) X.env) Q E s:=by
 obtain ⟨mb,h1,h2⟩:=I.mod.blt
 exact Calls.Name_function_global I.ok.kind hg (Calls.loadGlobal_builtin (by rw [I.ok.glob];exact I.mod.glob.keeps I.bk) hm (by rw [I.ok.blt];exact h1.keeps I.bk) ((h2 x hn).trans hv) h) hd
theorem pe_glob {x:Str} {v:V} {u:Value} {pos:Pos} (hg:Gl X x) (hm:X.mg x=some u) (r:RelV v u) (hd:(x == ("__debug__" : Str))=false:=by decide):PE X (.Name x pos) (tC v) :=
 λ_ _ _ H _ I h=>ld_glob I hg hm ⟨v,H,I,r,h⟩ hd
theorem pe_bltn {x:Str} {v:V} {u:Value} {pos:Pos} (hg:Gl X x) (hm:X.mg x=none) (hv:bootBuiltins x=some u) (r:RelV v u) (hn:x ≠ "__name__":=by decide) (hd:(x == ("__debug__" : Str))=false:=by decide):PE X (.Name x pos) (tC v) :=
 λ_ _ _ H _ I h=>ld_blt I hg hm hv ⟨v,H,I,r,h⟩ hn hd
variable {a b:Expr} {ta tb:TE} {pos:Pos}
variable {tA tB':TT} {rest:List Expr}
noncomputable def tOr (t u:TT):TT:=λσ H Q=>t σ H λc H1=>if c=true then Q true H1 else u σ H1 Q
noncomputable def tNot (t:TT):TT:=λσ H Q=>t σ H λc H1=>Q (!c) H1
theorem pw_or1 (ha:PT X a tA):PW X (.BoolOp .Or [a] pos) tA:=by
 intro wh pins s σ H Q I h
 refine isTrue_or (thn (ha pins s σ H Q I h) λc s1 e=>?_)
 cases c with
 | false=>exact isTrue_or_nil e
 | true=>exact e
theorem pw_or (ha:PT X a tA) (hb:PW X (.BoolOp .Or (b::rest) pos) tB'):PW X (.BoolOp .Or (a::b::rest) pos) (tOr tA tB'):=by
 intro wh pins s σ H Q I h
 refine isTrue_or (thn (ha pins s σ H _ I h) λc s1 ⟨H1,I1,q1⟩=>?_)
 cases c with
 | true=>exact ⟨H1,I1,q1⟩
 | false=>exact hb wh pins s1 σ H1 Q I1 q1
theorem pt_not (ha:PT X a tA):PT X (.UnaryOp .Not a pos) (tNot tA):=by
 intro pins s σ H Q I h
 exact isTrue_not (ha pins s σ H (λc H1=>Q (!c) H1) I h)
end
end L2
namespace L2
open PySem PySem.Spec PyProof.Rows
noncomputable def SqL (K:PySem.W.Frag) (H:Hp) (a:Addr) (xs:List V):Prop :=
 Rd H a (.lst xs) \/
  ∃(o:Obj) (its:Array Value) (n:Nat),K.lookup a=some o/\o.cls=.type "list" /\ o.dict=none/\o.data=.seq its n/\its.size<=sizeLine/\Vals xs its.toList
noncomputable def SqT (K:PySem.W.Frag) (H:Hp) (a:Addr) (xs:List V):Prop :=
 Rd H a (.tup xs) \/
  ∃(o:Obj) (its:Array Value) (n:Nat),K.lookup a=some o/\o.cls=.type "tuple" /\ o.data=.seq its n/\its.size<=sizeLine/\Vals xs its.toList
noncomputable def absV:Value->Option V
 | .none=>some .non
 | .bool b=>some (.bl b)
 | .int i _=>some (.int i)
 | .str x _=>some (.str x)
 | .bytes b _=>some (.byt b)
 | .float b _=>some (.flt b)
 | .ref a=>some (.ref a)
 | .type n=>some (.ty n)
 | _=>none
theorem RelV.abs {x:V} {u:Value} (r:RelV x u):absV u=some x:=by
 cases x with
 | non=>cases r;rfl
 | bl _=>cases r;rfl
 | int _=>obtain ⟨t,rfl⟩:=r;rfl
 | str _=>obtain ⟨t,rfl⟩:=r;rfl
 | byt _=>obtain ⟨t,rfl⟩:=r;rfl
 | flt _=>obtain ⟨t,rfl⟩:=r;rfl
 | ref _=>cases r;rfl
 | ty _=>cases r;rfl
theorem RelV.inj {x y:V} {u:Value} (r:RelV x u) (q:RelV y u):x=y:=Option.some.inj (r.abs.symm.trans q.abs)
theorem Vals.inj:∀{xs ys:List V} {us:List Value},Vals xs us->Vals ys us->xs=ys
 | _,_,_,.nil,.nil=>rfl
 | _,_,_,.cons r t,.cons r' t'=>by rw [r.inj r',Vals.inj t t']
section
variable {X:Cx} {pins:List (Addr × Obj)} {σ:St} {H:Hp} {s:Shared} {a:Addr} {xs ys:List V}
theorem SqL.of {K:PySem.W.Frag} (h:H a=some (.lst xs)):SqL K H a xs:=.inl (.inl h)
theorem SqT.of {K:PySem.W.Frag} (h:H a=some (.tup xs)):SqT K H a xs:=.inl (.inl h)
theorem Inv.list (I:Inv X pins σ H s) (h:SqL X.K H a xs):∃its:List Value,Vals xs its/\PlainL s.heap a its.toArray/\xs.length<=sizeLine:=by
 rcases h with h | ⟨o,its,n,hk,hc,hd,hs,hz,r⟩
 ·obtain ⟨z,its,n,r,e⟩:=h.ok I.hok
  exact ⟨its,r,⟨_,n,e,rfl,rfl,rfl⟩,z⟩
 ·refine ⟨its.toList,r,⟨o,n,I.kIn a o hk,hc,hd,by simpa using hs⟩,?_⟩
  have e:=r.length
  simp only [Array.length_toList] at e
  omega
theorem Inv.tuple (I:Inv X pins σ H s) (h:SqT X.K H a xs):∃its:List Value,Vals xs its/\IsTup s.heap a its.toArray/\xs.length<=sizeLine:=by
 rcases h with h | ⟨o,its,n,hk,hc,hs,hz,r⟩
 ·obtain ⟨z,its,r,p⟩:=h.ok I.hok
  exact ⟨its,r,p,z⟩
 ·refine ⟨its.toList,r,⟨o,I.kIn a o hk,hc,n,by simpa using hs⟩,?_⟩
  have e:=r.length
  simp only [Array.length_toList] at e
  omega
theorem Inv.list_inj (I:Inv X pins σ H s) (h:SqL X.K H a xs) (h':SqL X.K H a ys):xs=ys:=by
 obtain ⟨its,r,⟨o,n,e,_,_,d⟩,_⟩:=I.list h
 obtain ⟨its',r',⟨o',n',e',_,_,d'⟩,_⟩:=I.list h'
 rw [e] at e';cases e'
 rw [d] at d'
 injection d' with d1 _
 have:its=its':=by simpa using congrArg Array.toList d1
 subst this
 exact r.inj r'
theorem Inv.tuple_inj (I:Inv X pins σ H s) (h:SqT X.K H a xs) (h':SqT X.K H a ys):xs=ys:=by
 obtain ⟨its,r,⟨o,e,_,n,d⟩,_⟩:=I.tuple h
 obtain ⟨its',r',⟨o',e',_,n',d'⟩,_⟩:=I.tuple h'
 rw [e] at e';cases e'
 rw [d] at d'
 injection d' with d1 _
 have:its=its':=by simpa using congrArg Array.toList d1
 subst this
 exact r.inj r'
end
noncomputable abbrev Cx.wish (X:Cx) (E:Value->Shared->Prop):Cx:={ X with xe:=E }
noncomputable abbrev Cx.nox (X:Cx):Cx:=X.wish λ_ _=>False
theorem Cx.Ok.wish {X:Cx} (ok:X.Ok) (E:Value->Shared->Prop):(X.wish E).Ok :=
 ⟨ok.mod,ok.kind,ok.glob,ok.blt,ok.above,ok.inj,ok.has,ok.cab,ok.hd,ok.frames,ok.stk,ok.exf,ok.bs,ok.bsz,ok.noex,ok.exfs,ok.funs,ok.frf⟩
theorem Cx.Ok.unwish {X:Cx} {E:Value->Shared->Prop} (ok:(X.wish E).Ok):X.Ok :=
 ⟨ok.mod,ok.kind,ok.glob,ok.blt,ok.above,ok.inj,ok.has,ok.cab,ok.hd,ok.frames,ok.stk,ok.exf,ok.bs,ok.bsz,ok.noex,ok.exfs,ok.funs,ok.frf⟩
section
variable {X:Cx} {pins:List (Addr × Obj)} {σ:St} {H:Hp} {s:Shared} {E:Value->Shared->Prop}
theorem Inv.wish (I:Inv X pins σ H s) (E:Value->Shared->Prop):Inv (X.wish E) pins σ H s:=⟨I.ok.wish E,I.os,I.bare,I.base,I.loc,I.cell,I.free,I.freeC,I.pin,I.hok,I.len⟩
theorem Inv.unwish (I:Inv (X.wish E) pins σ H s):Inv X pins σ H s:=⟨I.ok.unwish,I.os,I.bare,I.base,I.loc,I.cell,I.free,I.freeC,I.pin,I.hok,I.len⟩
theorem SP.unwish {D:Ends} {f:Flow} {s':Shared} (h:SP (X.wish E) pins D f s'):SP X pins D f s':=by
 cases f with
 | next=>obtain ⟨σ',H',I,q⟩:=h;exact ⟨σ',H',I.unwish,q⟩
 | brk=>obtain ⟨σ',H',I,q⟩:=h;exact ⟨σ',H',I.unwish,q⟩
 | cont=>obtain ⟨σ',H',I,q⟩:=h;exact ⟨σ',H',I.unwish,q⟩
 | ret u=>obtain ⟨v,σ',H',I,r,q⟩:=h;exact ⟨v,σ',H',I.unwish,r,q⟩
theorem PE.nox {e:Expr} {t:TE} (h:PE X.nox e t):PE X e t:=λpins s σ H Q I hw =>
 wpAny_mono (h pins s σ H Q (I.wish _) hw) (λ_ _ ⟨v,H',I',r,q⟩=>⟨v,H',I'.unwish,r,q⟩) λ_ _ z=>False.elim z
theorem PT.nox {e:Expr} {t:TT} (h:PT X.nox e t):PT X e t:=λpins s σ H Q I hw =>
 wpAny_mono (h pins s σ H Q (I.wish _) hw) (λ_ _ ⟨H',I',q⟩=>⟨H',I'.unwish,q⟩) λ_ _ z=>False.elim z
theorem PSs.nox {st:List Stmt} {t:TS} (h:PSs X.nox st t):PSs X st t:=λpins s σ H D I hw =>
 wpAny_mono (h pins s σ H D (I.wish _) hw) (λ_ _ q=>q.unwish) λ_ _ z=>False.elim z
end
section
variable {X:Cx} {st:Stmt} {rest:List Stmt} {t u:TS} {e:Expr} {te:TE} {pos:Pos}
noncomputable def tNext:TS:=λD σ H=>D.nx σ H
noncomputable def tSeq (t u:TS):TS:=λD σ H=>t { D with nx:=u D } σ H
theorem pss_nil:PSs X [] tNext:=λ_ _ σ H _ I h=>wpAny_execs_nil ⟨σ,H,I,h⟩
theorem pss_cons (h1:PS X st t) (h2:PSs X rest u):PSs X (st::rest) (tSeq t u):=by
 intro pins s σ H D I h
 refine wpAny_execs_cons (thn (h1 pins s σ H { D with nx:=u D } I h) λf s1 q=>?_)
 cases f with
 | next =>
  obtain ⟨σ',H',I',q⟩:=q
  exact h2 pins s1 σ' H' D I' q
 | ret v=>exact q
 | brk=>exact q
 | cont=>exact q
theorem pss_one (h1:PS X st t):PSs X [st] t:=by
 intro pins s σ H D I h
 refine wpAny_execs_cons (thn (h1 pins s σ H D I h) λf s1 q=>?_)
 cases f with
 | next=>exact wpAny_execs_nil q
 | ret v=>exact q
 | brk=>exact q
 | cont=>exact q
theorem Inv.quiet {pins:List (Addr × Obj)} {σ:St} {H:Hp} {s:Shared} (I:Inv X pins σ H s):interactive X.env=false:=by simp [interactive,I.ok.kind]
noncomputable def tDrop (te:TE):TS:=λD σ H=>te σ H λ_ H1=>D.nx σ H1
theorem ps_expr (he:PE X e te) (hs:swapsWith e none pos.line X.env=pure false:=by rfl):PS X (.Expr e pos) (tDrop te):=by
 intro pins s σ H D I h
 exact wpAny_Expr_any (thn (he pins s σ H _ I h) λv s1 ⟨x,H1,I1,r1,q1⟩=>⟨σ,H1,I1,q1⟩) I.quiet hs
noncomputable def tRet (te:TE):TS:=λD σ H=>te σ H D.rt
theorem ps_ret (he:PE X e te):PS X (.Return (some e) pos) (tRet te):=by
 intro pins s σ H D I h
 exact wpAny_Return_some (thn (he pins s σ H _ I h) λv s1 ⟨x,H1,I1,r1,q1⟩=>⟨x,σ,H1,I1,r1,q1⟩)
noncomputable def tRetN:TS:=λD _ H=>D.rt .non H
theorem ps_retN:PS X (.Return none pos) tRetN:=λ_ _ σ H _ I h=>wpAny_Return_none ⟨.non,σ,H,I,rfl,h⟩
noncomputable def tIfS (c:TT) (t u:TS):TS:=λD σ H=>c σ H λb H1=>if b=true then t D σ H1 else u D σ H1
theorem ps_if {c:Expr} {a b:List Stmt} {tc:TT} (hc:PT X c tc) (ha:PSs X a t) (hb:PSs X b u):PS X (.If c a b pos) (tIfS tc t u):=by
 intro pins s σ H D I h
 refine wpAny_If (thn (hc pins s σ H _ I h) λd s1 ⟨H1,I1,q1⟩=>?_)
 cases d with
 | true=>exact ha pins s1 σ H1 D I1 q1
 | false=>exact hb pins s1 σ H1 D I1 q1
end
noncomputable abbrev TG:=V->St->Hp->(St->Hp->Prop)->Prop
noncomputable abbrev TGs:=List V->St->Hp->(St->Hp->Prop)->Prop
noncomputable def PG (X:Cx) (target:Expr) (t:TG):Prop :=
 ∀(pins:List (Addr × Obj)) (s:Shared) (σ:St) (H:Hp) (v:V) (u:Value) (Q:St->Hp->Prop),Inv X pins σ H s->RelV v u->t v σ H Q ->
  wpAny (model X.prog X.w) X.A (assign target X.env u) (λ_ s'=>∃σ' H',Inv X pins σ' H' s'/\Q σ' H') X.xe s
noncomputable def PGs (X:Cx) (ts:List Expr) (t:TGs):Prop :=
 ∀(pins:List (Addr × Obj)) (s:Shared) (σ:St) (H:Hp) (vs:List V) (us:List Value) (Q:St->Hp->Prop),Inv X pins σ H s->Vals vs us->t vs σ H Q ->
  wpAny (model X.prog X.w) X.A (assignInOrder ((assignEach ts X.env).map (·.2)) us) (λ_ s'=>∃σ' H',Inv X pins σ' H' s'/\Q σ' H') X.xe s
noncomputable abbrev TSet:=V->V->V->Hp->(Hp->Prop)->Prop
noncomputable def PSet (X:Cx) (t:TSet):Prop :=
 ∀(pins:List (Addr × Obj)) (s:Shared) (σ:St) (H:Hp) (o i v:V) (ov iv u:Value) (Q:Hp->Prop),Inv X pins σ H s->RelV o ov->RelV i iv->RelV v u->t o i v H Q ->
  wpAny (model X.prog X.w) X.A (setItem ov iv u) (λ_ s'=>∃H',Inv X pins σ H' s'/\Q H') X.xe s
section
variable {X:Cx} {pos:Pos}
noncomputable def gName (i:Nat):TG:=λv σ H Q=>Q (σ.set i (some v)) H
theorem pg_name {i:Nat} {x:Str} (hN:X.N.Nodup) (hi:X.N[i]? = some x) (hx:Loc X.env.scope x) (hf:X.fn x=true\/X.env.scope.names.lookup x=some .local:=by first | exact .inl rfl | exact .inr rfl | assumption):PG X (.Name x pos) (gName i):=by
 intro pins s σ H v u Q I r h
 exact wpAny_assign_Name (store_ok I hN hi hx r (λs' I'=>⟨_,H,I',h⟩) hf)
noncomputable def gNil:TGs:=λvs σ H Q=>vs=[]/\Q σ H
noncomputable def gCons (t:TG) (u:TGs):TGs:=λvs σ H Q=>∃v r,vs=v::r/\t v σ H λσ' H'=>u r σ' H' Q
theorem pgs_nil:PGs X [] gNil:=by
 intro pins s σ H vs us Q I r h
 obtain ⟨e,h⟩:=h
 subst e
 cases r
 exact assignInOrder_nil ⟨σ,H,I,h⟩
theorem pgs_cons {e:Expr} {es:List Expr} {t:TG} {u:TGs} (h1:PG X e t) (h2:PGs X es u)
  (hs:(assignEach (e::es) X.env).map (·.2)=assign e X.env::(assignEach es X.env).map (·.2):=by rfl):PGs X (e::es) (gCons t u):=by
 intro pins s σ H vs us Q I r h
 obtain ⟨v,vr,e1,h⟩:=h
 subst e1
 cases r with
 | cons r rr =>
  rw [hs]
  refine assignInOrder_cons (thn (h1 pins s σ H _ _ _ I r h) λ_ s1 ⟨σ1,H1,I1,q1⟩=>?_)
  exact h2 pins s1 σ1 H1 _ _ Q I1 rr q1
noncomputable def gTup (K:PySem.W.Frag) (n:Nat) (t:TGs):TG:=λv σ H Q=>∃a xs,v=.ref a/\SqT K H a xs/\xs.length=n/\t xs σ H Q
theorem pg_tup {es:List Expr} {k:Nat} {t:TGs} {n:Nat} (hc:X.calm=true) (h:PGs X es t)
  (hn:(assignEach es X.env).length=n:=by rfl) (hst:(assignEach es X.env).findIdx? (·.1)=none:=by rfl):PG X (.Tuple es k pos) (gTup X.K n t):=by
 intro pins s σ H v u Q I r hw
 obtain ⟨a,xs,e1,hq,hl,hw⟩:=hw
 subst e1
 cases r
 obtain ⟨its,rv,ht,hz⟩:=I.tuple hq
 refine assign_Tuple_tuple (I.ok.hd hc) ht (by simp [hn,← hl,rv.length]) hst λh' hx=>?_
 have I1:Inv X pins σ H { s with heap:=h' }:=I.kept (t':=s.toks) λb o e=>hx b o (Nat.ne_of_lt (Heap.lt_size e)) e
 exact h pins _ σ H xs _ Q I1 (by simpa using rv) hw
noncomputable def gSub (to ti:TE) (t:TSet):TG:=λv σ H Q=>to σ H λo H1=>ti σ H1 λi H2=>t o i v H2 λH3=>Q σ H3
theorem pg_sub {o i:Expr} {to ti:TE} {t:TSet} (ho:PE X o to) (hi:PE X i ti) (hs:PSet X t)
  (ha:∀v,assign (.Subscript o i pos) X.env v=(do
   let ov ← holding [v] (eval o X.env)
   let iv ← holding [v,ov] (eval i X.env)
   standAt pos
   holding [v,ov,iv] (setItem ov iv v)
   release [v,ov,iv] []):=by intro _;rfl):PG X (.Subscript o i pos) (gSub to ti t):=by
 intro pins s σ H v u Q I r h
 rw [ha]
 refine wpAny_bind (wpAny_holding (thn (ho pins s σ H _ I h) λov s1 ⟨x,H1,I1,r1,q1⟩=>?_))
 refine wpAny_bind (wpAny_holding (thn (hi pins s1 σ H1 _ I1 q1) λiv s2 ⟨y,H2,I2,r2,q2⟩=>?_))
 refine wpAny_bind (wpAny_standAt (wpAny_bind (wpAny_holding (thn (hs pins s2 σ H2 x y v ov iv u _ I2 r1 r2 r q2) λ_ s3 ⟨H3,I3,q3⟩=>?_))))
 exact wpAny_release ⟨σ,H3,I3,q3⟩
noncomputable def tAsg (te:TE) (g:TG):TS:=λD σ H=>te σ H λx H1=>g x σ H1 D.nx
theorem ps_asg {tg e:Expr} {te:TE} {g:TG} (he:PE X e te) (hg:PG X tg g) (hs:swapsWithSole [tg] e pos.line X.env=pure false:=by rfl) (hw:swappedStores [tg] e X.env=pure none:=by rfl)
  (h1:(assignEach [tg] X.env).map (·.2)=[assign tg X.env]:=by rfl):PS X (.Assign [tg] e pos) (tAsg te g):=by
 intro pins s σ H D I h
 refine wpAny_Assign_stores (thn (he pins s σ H _ I h) λv s1 ⟨x,H1,I1,r1,q1⟩=>?_) hs hw
 rw [h1]
 exact thn (hg pins s1 σ H1 x v _ I1 r1 q1) λ_ s2 q=>q
theorem ps_set {i:Nat} {x:Str} {e:Expr} {te:TE} {pos':Pos} (hN:X.N.Nodup) (hi:X.N[i]? = some x) (hx:Loc X.env.scope x) (he:PE X e te) (hs:swapsWith e (some (.Name x pos')) pos.line X.env=pure false:=by rfl) (hf:X.fn x=true\/X.env.scope.names.lookup x=some .local:=by first | exact .inl rfl | exact .inr rfl | assumption) :
  PS X (.Assign [.Name x pos'] e pos) (tAsg te (gName i)):=by
 intro pins s σ H D I h
 refine wpAny_Assign_Name (thn (he pins s σ H _ I h) λv s1 ⟨y,H1,I1,r1,q1⟩=>?_) hs
 exact store_ok I1 hN hi hx r1 (λs2 I2=>⟨_,H1,I2,q1⟩) hf
end
section
variable {X:Cx} {pos:Pos}
noncomputable def tWhile (c:TT) (tb:TS):TS:=λD σ H=>∃W:Nat->St->Hp->Prop,(∃m,W m σ H)/\∀m σ H,W m σ H ->
 c σ H λb H1=>if b=true then ∃N:St->Hp->Prop,(∀σ' H',N σ' H'->∃m',m' < m/\W m' σ' H')/\tb { D with nx:=N,ct:=N,bk:=D.nx } σ H1 else D.nx σ H1
theorem ps_while {c:Expr} {body:List Stmt} {tc:TT} {tb:TS} (hp:PassesOwn (model X.prog X.w) X.A X.env X.xe) (hc:PT X c tc) (hb:PSs X body tb):PS X (.While c body [] pos) (tWhile tc tb):=by
 intro pins s σ H D I h
 obtain ⟨W,⟨m0,w0⟩,turn⟩:=h
 refine wpAny_While (codeAny_whileLoop (λn s'=>∃σ' H',Inv X pins σ' H' s'/\W n σ' H') ?_ m0 ⟨σ,H,I,w0⟩)
 rintro n s1 ⟨σ1,H1,I1,w1⟩
 refine wpAny_passesOwn hp (thn (hc pins s1 σ1 H1 _ I1 (turn n σ1 H1 w1)) λb s2 ⟨H2,I2,q2⟩=>?_)
 cases b with
 | true =>
  obtain ⟨N,hN,q2⟩:=q2
  rw [if_pos rfl]
  refine wpAny_passesOwn hp (thn (hb pins s2 σ1 H2 _ I2 q2) λf s3 q3=>?_)
  cases f with
  | next =>
   obtain ⟨σ3,H3,I3,n3⟩:=q3
   obtain ⟨m',hm,w3⟩:=hN σ3 H3 n3
   exact ⟨m',hm,σ3,H3,I3,w3⟩
  | cont =>
   obtain ⟨σ3,H3,I3,n3⟩:=q3
   obtain ⟨m',hm,w3⟩:=hN σ3 H3 n3
   exact ⟨m',hm,σ3,H3,I3,w3⟩
  | brk=>exact q3
  | ret v=>exact q3
 | false =>
  rw [if_neg Bool.false_ne_true]
  exact wpAny_execs_nil ⟨σ1,H2,I2,q2⟩
end
structure It where
 go:Nat->Hp->Prop
 yld:Nat->Hp->V->Hp->Prop
 stop:Nat->Hp->Prop
noncomputable def FpOk (X:Cx) (pins:List (Addr × Obj)) (H:Hp) (b:Addr):Prop :=
 H b=none/\b≠X.env.locals/\b∉X.fs/\(b∈X.ex\/X.s₀.heap.objs.size<=b)/\(∀x c,X.env.cells.lookup x=some c->c≠b)/\∀p∈X.pn++pins,p.1≠b
theorem Inv.fpOk {X:Cx} {pins:List (Addr × Obj)} {σ:St} {H H':Hp} {s:Shared} {b:Addr} (I:Inv X pins σ H s) (hb:s.heap.objs.size<=b) (hn:H' b=none):FpOk X pins H' b:=by
 refine ⟨hn,Nat.ne_of_gt (Nat.lt_of_lt_of_le I.lt hb),I.nofs hb,.inr (Nat.le_trans I.sz hb),λx c e z=>?_,λp hp z=>?_⟩
 ·obtain ⟨v,q⟩:=I.cell x c e
  exact absurd (Nat.lt_of_lt_of_le q.lt (by rw [z];exact hb)) (Nat.lt_irrefl _)
 ·exact absurd (Nat.lt_of_lt_of_le (Heap.lt_size (I.pin p hp).1) (by rw [z];exact hb)) (Nat.lt_irrefl _)
structure Turn (P:Program) (w:World) (K:PySem.W.Frag) (tg:Expr) (J:It) (fp:List Addr) (it:Addr) (tn:Nat->Heap->Prop):Prop where
 mem:it∈fp
 obj:∀i h,tn i h->∀b∈fp,∃o,h.get? b=some o/\∀v,o.data ≠ .cell v
 keep:∀i h h',tn i h->(∀b∈fp,∀o,h.get? b=some o->h'.get? b=some o)->tn i h'
 item:∀(X:Cx),X.prog=P->X.w=w->X.K=K->X.calm=true->∀(i:Nat) (pins:List (Addr × Obj)) (s:Shared) (σ:St) (H:Hp) (E:Value->Shared->Prop),Inv X pins σ H s->(∀b∈fp,FpOk X pins H b)->tn i s.heap->J.go i H ->
  wpAny (model P w) X.A (pyNext (.ref it)) (λr s1=>∃u,r=some u /\
   wpAny (model P w) X.A (letOwnedTupleGo tg (.ref it) u) (λ_ s2=>∃x H',Inv X pins σ H' s2/\RelV x u/\J.yld i H x H'/\tn (i+1) s2.heap/\∀b∈fp,H' b=none) E s1) E s
 done:∀(X:Cx),X.prog=P->X.w=w->X.K=K->X.calm=true->∀(i:Nat) (pins:List (Addr × Obj)) (s:Shared) (σ:St) (H:Hp) (E:Value->Shared->Prop),Inv X pins σ H s->(∀b∈fp,FpOk X pins H b)->tn i s.heap->J.stop i H ->
  wpAny (model P w) X.A (pyNext (.ref it)) (λr s1=>r=none/\Inv X pins σ H s1) E s
 self:∀(A:Around) (i:Nat) (s:Shared) (Q:Value->Shared->Prop) (E:Value->Shared->Prop),tn i s.heap->Q (.ref it) s->wpAny (model P w) A (pyIter (.ref it)) Q E s
noncomputable abbrev TI:=St->Hp->(It->Hp->Prop)->Prop
noncomputable def PIE (X:Cx) (pins:List (Addr × Obj)) (σ:St) (tg:Expr) (R:It->Hp->Prop) (itv:Value) (s2:Shared):Prop :=
 ∃(it:Addr) (fp:List Addr) (tn:Nat->Heap->Prop) (J:It) (H':Hp),itv=.ref it/\Inv X pins σ H' s2/\Turn X.prog X.w X.K tg J fp it tn/\tn 0 s2.heap/\(∀b∈fp,FpOk X pins H' b)/\R J H'
noncomputable def PI (X:Cx) (tg iter:Expr) (wi:TI):Prop :=
 ∀(pins:List (Addr × Obj)) (s:Shared) (σ:St) (H:Hp) (R:It->Hp->Prop),Inv X pins σ H s->wi σ H R ->
  wpAny (model X.prog X.w) X.A (eval iter X.env) (λv s1=>wpAny (model X.prog X.w) X.A (pyIter v) (PIE X pins σ tg R) X.xe s1) X.xe s
theorem go_of {M:Model} {A:Around} {E:Value->Shared->Prop} {s:Shared} {tg:Expr} {it:Addr} {u:Value} {o:Obj} {n:String} {vs:Array Value} {Q:Unit->Shared->Prop} (ho:s.heap.get? it=some o) (hc:o.cls=.type n) (hd:o.data=.fields vs)
    (hn:["enumerate","zip","dict_itemiterator","dict_reverseitemiterator","odict_iterator","itertools.zip_longest","itertools.pairwise"].contains n=false) (hQ:Q () s):wpAny M A (letOwnedTupleGo tg (.ref it) u) Q E s:=by
  unfold letOwnedTupleGo
  cases tg <;> first
    | exact wpAny_pure hQ
    | (cases u <;> first
        | exact wpAny_pure hQ
        | (refine wpAny_bind (wpAny_load ho ?_)
           rw [hc,hd]
           show wpAny M A (if (["enumerate","zip","dict_itemiterator","dict_reverseitemiterator","odict_iterator","itertools.zip_longest","itertools.pairwise"].contains n && vs[0]? == some (rawInt _))=true then _ else _) Q E s
           rw [if_neg (by intro h;rw [hn,Bool.false_and] at h;cases h)]
           exact wpAny_pure hQ))
noncomputable def Itl (K:PySem.W.Frag) (a:Addr):It :=
 ⟨λi H=>∃xs x,SqL K H a xs/\xs[i]? = some x,λi H x H'=>H'=H/\∀xs,SqL K H a xs->xs[i]? = some x,λi H=>∃xs,SqL K H a xs/\xs.length<=i⟩
noncomputable def Itt (K:PySem.W.Frag) (a:Addr):It :=
 ⟨λi H=>∃xs x,SqT K H a xs/\xs[i]? = some x,λi H x H'=>H'=H/\∀xs,SqT K H a xs->xs[i]? = some x,λi H=>∃xs,SqT K H a xs/\xs.length<=i⟩
noncomputable def Itr (lo:Int) (n:Nat):It:=⟨λi _=>i<n,λi H x H'=>H'=H/\x=.int (lo+i),λi _=>n<=i⟩
theorem turn_list {P:Program} {w:World} {K:PySem.W.Frag} {tg:Expr} (a it:Addr):Turn P w K tg (Itl K a) [it] it (λi h=>h.IsListIter it a i) where
 mem:=by simp
 obj:=λi h st b hb=>by
  have e:b=it:=by simpa using hb
  subst e
  obtain ⟨o,e,c,d⟩:=st
  exact ⟨o,e,λv z=>by rw [d] at z;cases z⟩
 keep:=λi h h' st k=>st.at λo e=>k it (by simp) o e
 item:=by
  intro X hP hw hK hc i pins s σ H E I hf st hg
  subst hP hw hK
  obtain ⟨xs,x,hq,hx⟩:=hg
  obtain ⟨its,rv,p,hz⟩:=I.list hq
  obtain ⟨u,hu,ru⟩:=rv.get hx
  obtain ⟨f0,f1,f2,f3,f4,f5⟩:=hf it (by simp)
  refine wpAny_pyNext_list_item st p.isList (x:=u) (by simpa using hu) λh' st' sb=>?_
  have I1:Inv X pins σ H { s with heap:=h' }:=I.turned (t':=s.toks) (λb o hb e=>(sb.2 b hb).trans e) f0 f1 f3 f4 f5
  obtain ⟨o,e,c,d⟩:=id st'
  exact ⟨u,rfl,go_of (s:={ s with heap:=h' }) e c d (by decide) ⟨x,H,I1,ru,⟨rfl,λys hy=>by rw [I.list_inj hy hq];exact hx⟩,st',λb hb=>(hf b hb).1⟩⟩
 done:=by
  intro X hP hw hK hc i pins s σ H E I hf st hg
  subst hP hw hK
  obtain ⟨xs,hq,hx⟩:=hg
  obtain ⟨its,rv,p,hz⟩:=I.list hq
  obtain ⟨f0,f1,f2,f3,f4,f5⟩:=hf it (by simp)
  have hl:=rv.length
  exact wpAny_pyNext_list_end (I.ok.hd hc) st p.isList (by simp;omega) λh' eb=>⟨rfl,I.turned (t':=s.toks) (λb o hb e=>eb b o hb e) f0 f1 f3 f4 f5⟩
 self:=λ_ _ _ _ _ st h=>wpAny_pyIter_listiter st h
theorem turn_tuple {P:Program} {w:World} {K:PySem.W.Frag} {tg:Expr} (a it:Addr):Turn P w K tg (Itt K a) [it] it (λi h=>h.IsTupleIter it a i) where
 mem:=by simp
 obj:=λi h st b hb=>by
  have e:b=it:=by simpa using hb
  subst e
  obtain ⟨o,e,c,d⟩:=st
  exact ⟨o,e,λv z=>by rw [d] at z;cases z⟩
 keep:=λi h h' st k=>st.at λo e=>k it (by simp) o e
 item:=by
  intro X hP hw hK hc i pins s σ H E I hf st hg
  subst hP hw hK
  obtain ⟨xs,x,hq,hx⟩:=hg
  obtain ⟨its,rv,p,hz⟩:=I.tuple hq
  obtain ⟨u,hu,ru⟩:=rv.get hx
  obtain ⟨f0,f1,f2,f3,f4,f5⟩:=hf it (by simp)
  refine wpAny_pyNext_tuple_item st (show s.heap.IsTuple a its.toArray from p) (x:=u) (by simpa using hu) λh' st' sb=>?_
  have I1:Inv X pins σ H { s with heap:=h' }:=I.turned (t':=s.toks) (λb o hb e=>(sb.2 b hb).trans e) f0 f1 f3 f4 f5
  obtain ⟨o,e,c,d⟩:=id st'
  exact ⟨u,rfl,go_of (s:={ s with heap:=h' }) e c d (by decide) ⟨x,H,I1,ru,⟨rfl,λys hy=>by rw [I.tuple_inj hy hq];exact hx⟩,st',λb hb=>(hf b hb).1⟩⟩
 done:=by
  intro X hP hw hK hc i pins s σ H E I hf st hg
  subst hP hw hK
  obtain ⟨xs,hq,hx⟩:=hg
  obtain ⟨its,rv,p,hz⟩:=I.tuple hq
  obtain ⟨f0,f1,f2,f3,f4,f5⟩:=hf it (by simp)
  have hl:=rv.length
  exact wpAny_pyNext_tuple_end (I.ok.hd hc) st (show s.heap.IsTuple a its.toArray from p) (by simp;omega) λh' eb=>⟨rfl,I.turned (t':=s.toks) (λb o hb e=>eb b o hb e) f0 f1 f3 f4 f5⟩
 self:=λ_ _ _ _ _ st h=>wpAny_pyIter_tupleiter st h
theorem turn_range {P:Program} {w:World} {K:PySem.W.Frag} {tg:Expr} (it:Addr) (lo:Int) (n:Nat):Turn P w K tg (Itr lo n) [it] it (λi h=>IsRangeIter h it (lo+(i:Nat)*1) ((n:Int)-(i:Nat)) 1) where
 mem:=by simp
 obj:=λi h st b hb=>by
  have e:b=it:=by simpa using hb
  subst e
  exact ⟨_,st,λv z=>by
   have z':Data.fields _=Data.cell v:=z
   cases z'⟩
 keep:=λi h h' st k=>k it (by simp) _ st
 item:=by
  intro X hP hw hK hc i pins s σ H E I hf st hg
  subst hP hw hK
  obtain ⟨f0,f1,f2,f3,f4,f5⟩:=hf it (by simp)
  have W:=Walks.range (prog:=X.prog) (w:=X.w) (I.ok.hd hc) it lo 1 n
  refine W.item i s _ _ hg st λv h' tk hv st' kk=>?_
  obtain ⟨t,rfl⟩:=hv
  have I1:Inv X pins σ H { s with heap:=h',toks:=tk }:=I.turned (λb o hb e=>kk b o (by simpa using hb) e) f0 f1 f3 f4 f5
  refine ⟨_,rfl,go_of (s:={ s with heap:=h',toks:=tk }) (n:="range_iterator") st' rfl rfl (by decide) ⟨.int (lo+i),H,I1,⟨t,?_⟩,⟨rfl,rfl⟩,st',λb hb=>(hf b hb).1⟩⟩
  rw [Int.mul_one]
 done:=by
  intro X hP hw hK hc i pins s σ H E I hf st hg
  subst hP hw hK
  obtain ⟨f0,f1,f2,f3,f4,f5⟩:=hf it (by simp)
  exact wpAny_pyNext_range_end (I.ok.hd hc) st (by have:n<=i:=hg;omega) λh' eb=>⟨rfl,I.turned (t':=s.toks) (λb o hb e=>eb b o hb e) f0 f1 f3 f4 f5⟩
 self:=λ_ _ _ _ _ st h=>wpAny_pyIter_rangeiter st h
end L2
namespace L2
open PySem PySem.Spec PyProof.Rows
section
variable {X:Cx} {tg:Expr}
noncomputable def iTup (K:PySem.W.Frag) (tl:TE):TI:=λσ H R=>tl σ H λx H1=>∃a,x=.ref a/\(∃xs,SqT K H1 a xs)/\R (Itt K a) H1
theorem range_it {pins:List (Addr × Obj)} {σ:St} {H:Hp} {s:Shared} {R:It->Hp->Prop} {E:Value->Shared->Prop} {lo hi:Int} {t u v:Tok} {tk:Nat} (I:Inv X pins σ H s) (h1:-(2 ^ 62)<=lo) (h2:lo<2 ^ 62) (h3:-(2 ^ 62)<=hi) (h4:hi<2 ^ 62)
  (q:R (Itr lo (hi-lo).toNat) H):wpAny (model X.prog X.w) X.A (pyIter (.ref s.heap.objs.size)) (PIE X pins σ tg R) E { s with heap:=s.heap.push { cls:=.type "range",data:=.fields #[.int lo t,.int hi u,.int 1 v] },toks:=tk }:=by
 refine wpAny_pyIter_range (IsRange.new ..) (small_one h1 h2 h3 h4) ?_
 have I1:Inv X pins σ H { s with heap:=s.heap.push { cls:=.type "range",data:=.fields #[.int lo t,.int hi u,.int 1 v] },toks:=tk }:=I.kept λb o e=>Heap.get?_push_of_some _ e
 refine ⟨(s.heap.push { cls:=.type "range",data:=.fields #[.int lo t,.int hi u,.int 1 v] }).objs.size,[(s.heap.push { cls:=.type "range",data:=.fields #[.int lo t,.int hi u,.int 1 v] }).objs.size],_,_,H,rfl,
  I1.kept (t':=tk) λb o e=>Heap.get?_push_of_some _ e,turn_range _ lo (hi-lo).toNat,?_,λb hb=>?_,q⟩
 ·have e1:lo+((0:Nat):Int)*1=lo:=by simp
  have e2:(((hi-lo).toNat:Nat):Int)-((0:Nat):Int)=Builtin.Range.rangeSize lo hi 1:=by rw [rangeSize_one];split <;> omega
  show IsRangeIter _ _ (lo+((0:Nat):Int)*1) ((((hi-lo).toNat:Nat):Int)-((0:Nat):Int)) 1
  rw [e1,e2]
  exact Heap.get?_push_size _ rfl
 ·have e:b=(s.heap.push { cls:=.type "range",data:=.fields #[.int lo t,.int hi u,.int 1 v] }).objs.size:=by simpa using hb
  subst e
  exact I1.fpOk (Nat.le_refl _) (I1.hok.fresh (Nat.le_refl _))
noncomputable def iRng1 (ta:TA):TI:=λσ H R=>ta σ H λvs H1=>∃j:Int,vs=[.int j] /\ -(2 ^ 62)<=j/\j<2 ^ 62/\R (Itr 0 j.toNat) H1
theorem pi_range1 {a:Expr} {ta:TA} {p pos:Pos} (hg:Gl X "range") (hm:X.mg "range" = none) (ha:PA X [a] ta) (hs:starEach [a] X.env=[(false,eval a X.env)]:=by rfl):PI X tg (.Call (.Name "range" p) [a] [] pos) (iRng1 ta):=by
 intro pins s σ H R I h
 refine Call_ (ld_blt I hg hm boot_range (PyProof.Rows.callWith_type1 (thn (ha pos pins s σ H _ I h) λus s1 ⟨vs,H1,I1,r1,q1⟩=>?_) hs rfl))
 obtain ⟨j,e,q1,q2,q⟩:=q1
 subst e
 cases r1 with
 | cons r rr =>
  cases rr
  obtain ⟨t,rfl⟩:=r
  exact call_range_1 (range_it I1 (by omega) (by omega) q1 q2 (by simpa using q))
noncomputable def tFor (wi:TI) (g:TG) (tb:TS):TS:=λD σ H=>wi σ H λJ H1=>∃W:Nat->Nat->St->Hp->Prop,(∃m,W 0 m σ H1)/\∀i m σ H,W i m σ H ->
 (J.stop i H/\D.nx σ H)\/(J.go i H/\∃N:St->Hp->Prop,(∀σ' H',N σ' H'->∃m',m' < m/\W (i+1) m' σ' H')/\∀x H',J.yld i H x H'->g x σ H' λσ2 H2=>tb { D with nx:=N,ct:=N,bk:=D.nx } σ2 H2)
noncomputable def pinsAt (fp:List Addr) (h:Heap):List (Addr × Obj):=fp.filterMap λb=>(h.get? b).map λo=>(b,o)
theorem mem_pinsAt {fp:List Addr} {h:Heap} {b:Addr} {o:Obj} (hb:b∈fp) (e:h.get? b=some o):(b,o)∈pinsAt fp h:=List.mem_filterMap.mpr ⟨b,hb,by rw [e];rfl⟩
theorem of_pinsAt {fp:List Addr} {h:Heap} {p:Addr × Obj} (hp:p∈pinsAt fp h):p.1∈fp/\h.get? p.1=some p.2:=by
 obtain ⟨b,hb,e⟩:=List.mem_filterMap.mp hp
 cases q:h.get? b with
 | none=>rw [q] at e;cases e
 | some o =>
  rw [q] at e
  have e':(b,o)=p:=Option.some.inj e
  subst e'
  exact ⟨hb,q⟩
theorem Inv.pinned {pins:List (Addr × Obj)} {σ:St} {H:Hp} {s:Shared} {fp:List Addr} (I:Inv X pins σ H s) (hf:∀b∈fp,FpOk X pins H b) (ho:∀b∈fp,∃o,s.heap.get? b=some o/\∀v,o.data ≠ .cell v):Inv X (pins++pinsAt fp s.heap) σ H s :=
 I.pins_of λp hp=>(List.mem_append.mp hp).elim (λz=>I.pin p (List.mem_append_right _ z)) λz=>by
  obtain ⟨hb,e⟩:=of_pinsAt z
  obtain ⟨f0,f1,f2,_⟩:=hf p.1 hb
  obtain ⟨o,e',d⟩:=ho p.1 hb
  rw [e] at e';cases e'
  exact ⟨e,f0,f1,f2,d⟩
theorem Inv.unpinned {pins pl:List (Addr × Obj)} {σ:St} {H:Hp} {s:Shared} (I:Inv X (pins++pl) σ H s):Inv X pins σ H s:=I.pins_of λp hp=>I.pin p (List.mem_append_right _ (List.mem_append_left _ hp))
theorem ps_for {iter:Expr} {body:List Stmt} {wi:TI} {g:TG} {tb:TS} {pos:Pos} (hp:PassesOwn (model X.prog X.w) X.A X.env X.xe) (hc:X.calm=true) (hi:PI X tg iter wi) (hg:PG X tg g) (hb:PSs X body tb)
  (hs:∀x,foldedSetIterable iter X.env x=pure x:=by intro _;rfl):PS X (.For tg iter body [] pos) (tFor wi g tb):=by
 intro pins s σ H D I h
 refine wpAny_For (thn (hi pins s σ H _ I h) λv s1 h1=>thn h1 λitv s2 h2=>?_) hs
 obtain ⟨it,fp,tn,J,H2,e,I2,T,st2,f2,W,⟨m0,w0⟩,turn⟩:=h2
 subst e
 -- what stays true of the iterator's objects through the loop
 have stat:∀{H':Hp},(∀b∈fp,H' b=none)->∀b∈fp,FpOk X pins H' b:=λhn b hb=>⟨hn b hb,(f2 b hb).2⟩
 refine codeAny_forLoop_any (λn s'=>∃i σ' H',Inv X pins σ' H' s'/\tn i s'.heap/\(∀b∈fp,H' b=none)/\W i n σ' H') ?_ m0 ⟨0,σ,H2,I2,st2,λb hb=>(f2 b hb).1,w0⟩
 rintro n s3 ⟨i,σ3,H3,I3,st3,fr3,w3⟩
 rcases turn i n σ3 H3 w3 with ⟨stop,qn⟩ | ⟨go,N,hN,step⟩
 ·refine wpAny_passesOwn hp (thn (T.done X rfl rfl rfl hc i pins s3 σ3 H3 X.xe I3 (stat fr3) st3 stop) λr s4 ⟨hr,I4⟩=>?_)
  subst hr
  exact wpAny_execs_nil ⟨σ3,H3,I4,qn⟩
 ·refine wpAny_passesOwn hp (thn (T.item X rfl rfl rfl hc i pins s3 σ3 H3 X.xe I3 (stat fr3) st3 go) λr s4 ⟨u,hr,h4⟩=>?_)
  subst hr
  refine wpAny_passesOwn hp (thn h4 λ_ s5 ⟨x,H5,I5,r5,y5,st5,fr5⟩=>?_)
  have I5':=I5.pinned (stat fr5) (T.obj _ _ st5)
  refine wpAny_passesOwn hp (thn (hg _ s5 σ3 H5 x u _ I5' r5 (step x H5 y5)) λ_ s6 ⟨σ6,H6,I6,q6⟩=>?_)
  refine wpAny_passesOwn hp (thn (hb _ s6 σ6 H6 _ I6 q6) λf s7 q7=>?_)
  have again:∀{σ7:St} {H7:Hp},Inv X (pins++pinsAt fp s5.heap) σ7 H7 s7->N σ7 H7->∃m,m<n/\∃i σ' H',Inv X pins σ' H' s7/\tn i s7.heap/\(∀b∈fp,H' b=none)/\W i m σ' H':=λ{σ7 H7} I7 n7=>by
   obtain ⟨m',hm,w7⟩:=hN σ7 H7 n7
   refine ⟨m',hm,i+1,σ7,H7,I7.unpinned,T.keep _ _ _ st5 λb hb o e=>(I7.pin (b,o) (List.mem_append_right _ (List.mem_append_right _ (mem_pinsAt hb e)))).1,λb hb=>?_,w7⟩
   obtain ⟨o,e,d⟩:=T.obj _ _ st5 b hb
   exact (I7.pin (b,o) (List.mem_append_right _ (List.mem_append_right _ (mem_pinsAt hb e)))).2.1
  cases f with
  | next=>obtain ⟨σ7,H7,I7,n7⟩:=q7;exact again I7 n7
  | cont=>obtain ⟨σ7,H7,I7,n7⟩:=q7;exact again I7 n7
  | brk=>obtain ⟨σ7,H7,I7,q7⟩:=q7;exact ⟨σ7,H7,I7.unpinned,q7⟩
  | ret v=>obtain ⟨x7,σ7,H7,I7,r7,q7⟩:=q7;exact ⟨x7,σ7,H7,I7.unpinned,r7,q7⟩
end
end L2
namespace L2
open PySem PySem.Spec PyProof.Rows
noncomputable abbrev R2:=V->V->Hp->VK->Prop
noncomputable def OpR (X:Cx) (f:Value->Value->Sem Value) (r:R2):Prop :=
 ∀(pins:List (Addr × Obj)) (s:Shared) (σ:St) (H:Hp) (x y:V) (v u:Value) (Q:VK),Inv X pins σ H s->RelV x v->RelV y u->r x y H Q ->
  wpAny (model X.prog X.w) X.A (f v u) (EP X pins σ Q) X.xe s
noncomputable def UnR (X:Cx) (f:Value->Sem Value) (r:V->Hp->VK->Prop):Prop :=
 ∀(pins:List (Addr × Obj)) (s:Shared) (σ:St) (H:Hp) (x:V) (v:Value) (Q:VK),Inv X pins σ H s->RelV x v->r x H Q ->
  wpAny (model X.prog X.w) X.A (f v) (EP X pins σ Q) X.xe s
noncomputable def CallR (X:Cx) (f:Value) (r:List V->Hp->VK->Prop):Prop :=
 ∀(pins:List (Addr × Obj)) (s:Shared) (σ:St) (H:Hp) (xs:List V) (us:List Value) (Q:VK),Inv X pins σ H s->Vals xs us->r xs H Q ->
  wpAny (model X.prog X.w) X.A (call f us) (EP X pins σ Q) X.xe s
noncomputable def TruR (X:Cx) (r:V->Hp->(Bool->Hp->Prop)->Prop):Prop :=
 ∀(pins:List (Addr × Obj)) (s:Shared) (σ:St) (H:Hp) (x:V) (v:Value) (Q:Bool->Hp->Prop),Inv X pins σ H s->RelV x v->r x H Q ->
  wpAny (model X.prog X.w) X.A (truthy v) (TP X pins σ Q) X.xe s
noncomputable def tOp (r:R2) (ta tb:TE):TE:=λσ H Q=>ta σ H λx H1=>tb σ H1 λy H2=>r x y H2 Q
noncomputable def tUn (r:V->Hp->VK->Prop) (ta:TE):TE:=λσ H Q=>ta σ H λx H1=>r x H1 Q
noncomputable def rI (C:Int->Int->Prop) (g:Int->Int->V):R2:=λx y H Q=>∃i j,x=.int i/\y=.int j/\C i j/\Q (g i j) H
noncomputable def rI0 (g:Int->Int->V):R2:=λx y H Q=>∃i j,x=.int i/\y=.int j/\Q (g i j) H
noncomputable def rU (g:Int->V):V->Hp->VK->Prop:=λx H Q=>∃i,x=.int i/\Q (g i) H
section
variable {X:Cx} {a b c:Expr} {ta tb tc:TE} {pos:Pos}
theorem binT (ha:PE X a ta) (hb:PE X b tb) {pins:List (Addr × Obj)} {s:Shared} {σ:St} {H:Hp} {R:V->V->Hp->Prop} (I:Inv X pins σ H s)
  (h:ta σ H λx H1=>tb σ H1 λy H2=>R x y H2) {Q:Value->Shared->Prop} {f:Value->Value->Sem Value}
  (hf:∀v u s2 x y H2,Inv X pins σ H2 s2->RelV x v->RelV y u->R x y H2->wpAny (model X.prog X.w) X.A (f v u) Q X.xe s2) :
  wpAny (model X.prog X.w) X.A (eval a X.env) (λv s₁=>wpAny (model X.prog X.w) X.A (eval b X.env) (λu s₂=>wpAny (model X.prog X.w) X.A (f v u) Q X.xe s₂) X.xe s₁) X.xe s:=by
 refine thn (ha pins s σ H _ I h) λv s1 ⟨x,H1,I1,r1,q1⟩=>?_
 refine thn (hb pins s1 σ H1 _ I1 q1) λu s2 ⟨y,H2,I2,r2,q2⟩=>?_
 exact hf v u s2 x y H2 I2 r1 r2 q2
theorem pe_op {op:Operator} {r:R2} (ho:OpR X (binaryOp op) r) (ha:PE X a ta) (hb:PE X b tb):PE X (.BinOp a op b pos) (tOp r ta tb):=by
 intro pins s σ H Q I h
 exact wpAny_BinOp (binT ha hb I h λv u s2 x y H2 I2 rx ry q=>ho pins s2 σ H2 x y v u Q I2 rx ry q)
theorem pe_un {op:UnaryOp} {r:V->Hp->VK->Prop} (ho:UnR X (unaryOp op) r) (ha:PE X a ta):PE X (.UnaryOp op a pos) (tUn r ta):=by
 intro pins s σ H Q I h
 exact UnaryOp_ (thn (ha pins s σ H _ I h) λv s1 ⟨x,H1,I1,r1,q1⟩=>ho pins s1 σ H1 x v Q I1 r1 q1)
theorem opI {f:Value->Value->Sem Value} {C:Int->Int->Prop} {g:Int->Int->Int}
  (rule:∀(i j:Int) (t u:Tok) (s:Shared) (Q:Value->Shared->Prop) (E:Value->Shared->Prop),C i j->Q (.int (g i j) s.toks) { s with toks:=s.toks+1 }->wpAny (model X.prog X.w) X.A (f (.int i t) (.int j u)) Q E s) :
  OpR X f (rI C λi j=>.int (g i j)):=by
 intro pins s σ H x y v u Q I rx ry h
 obtain ⟨i,j,rfl,rfl,hc,q⟩:=h
 obtain ⟨t,rfl⟩:=rx
 obtain ⟨t',rfl⟩:=ry
 exact rule i j t t' s _ _ hc ⟨.int (g i j),H,I.tok _,⟨_,rfl⟩,q⟩
theorem opI0 {f:Value->Value->Sem Value} {g:Int->Int->Int}
  (rule:∀(i j:Int) (t u:Tok) (s:Shared) (Q:Value->Shared->Prop) (E:Value->Shared->Prop),Q (.int (g i j) s.toks) { s with toks:=s.toks+1 }->wpAny (model X.prog X.w) X.A (f (.int i t) (.int j u)) Q E s) :
  OpR X f (rI0 λi j=>.int (g i j)):=by
 intro pins s σ H x y v u Q I rx ry h
 obtain ⟨i,j,rfl,rfl,q⟩:=h
 obtain ⟨t,rfl⟩:=rx
 obtain ⟨t',rfl⟩:=ry
 exact rule i j t t' s _ _ ⟨.int (g i j),H,I.tok _,⟨_,rfl⟩,q⟩
theorem opB0 {f:Value->Value->Sem Value} {g:Int->Int->Bool}
  (rule:∀(i j:Int) (t u:Tok) (s:Shared) (Q:Value->Shared->Prop) (E:Value->Shared->Prop),Q (.bool (g i j)) s->wpAny (model X.prog X.w) X.A (f (.int i t) (.int j u)) Q E s) :
  OpR X f (rI0 λi j=>.bl (g i j)):=by
 intro pins s σ H x y v u Q I rx ry h
 obtain ⟨i,j,rfl,rfl,q⟩:=h
 obtain ⟨t,rfl⟩:=rx
 obtain ⟨t',rfl⟩:=ry
 exact rule i j t t' s _ _ ⟨.bl (g i j),H,I,rfl,q⟩
noncomputable def CDiv (i j:Int):Prop:=0<j/\j<1073741824
noncomputable def CDivN (i j:Int):Prop:=j≠0/\j.natAbs<1073741824
noncomputable def CPow (i j:Int):Prop:=0<=j/\j<=1000000/\i.natAbs<2 ^ 64
noncomputable def CMul (i j:Int):Prop:=(-(2 ^ 64)<i/\i<2 ^ 64)\/(-(2 ^ 64)<j/\j<2 ^ 64)
theorem CMul.ok {i j:Int} (h:CMul i j):IntMulOk i j:=by
 rcases h with ⟨h1,h2⟩ | ⟨h1,h2⟩
 ·exact .of_left (intBits_le_64 h1 h2)
 ·exact .of_right (intBits_le_64 h1 h2)
theorem op_add:OpR X (binaryOp .Add) (rI0 λi j=>.int (i+j)):=opI0 λ_ _ _ _ _ _ _ q=>add_int q
theorem op_sub:OpR X (binaryOp .Sub) (rI0 λi j=>.int (i-j)):=opI0 λ_ _ _ _ _ _ _ q=>sub_int q
theorem op_mul:OpR X (binaryOp .Mult) (rI CMul λi j=>.int (i*j)):=opI λ_ _ _ _ _ _ _ hc q=>mul_int q hc.ok
theorem op_fdiv:OpR X (binaryOp .FloorDiv) (rI CDiv λi j=>.int (i / j)):=opI λi j _ _ _ _ _ hc q=>by
 have h1:(0:Int)<j:=hc.1
 have h2:j<1073741824:=hc.2
 exact floordiv_int (by omega) (by rw [Int.fdiv_eq_ediv_of_nonneg i (by omega)];exact q) (.inl (PyProof.noPylong_small (by omega)))
theorem op_fdivN:OpR X (binaryOp .FloorDiv) (rI CDivN λi j=>.int (i.fdiv j)):=opI λ_ _ _ _ _ _ _ hc q=>floordiv_int hc.1 q (.inl (PyProof.noPylong_small hc.2))
theorem op_mod:OpR X (binaryOp .Mod) (rI (λ_ j=>0<j) λi j=>.int (i % j)):=opI λi j _ _ _ _ _ hc q=>by
 have h1:(0:Int)<j:=hc
 exact mod_int' (by omega) (by rw [Int.fmod_eq_emod_of_nonneg i (by omega)];exact q)
theorem op_modN:OpR X (binaryOp .Mod) (rI (λ_ j=>j≠0) λi j=>.int (i.fmod j)):=opI λ_ _ _ _ _ _ _ hc q=>mod_int' hc q
theorem op_pow:OpR X (binaryOp .Pow) (rI CPow λi j=>.int (i ^ j.toNat)):=opI λ_ _ _ _ _ _ _ hc q=>pow_int_small hc.1 hc.2.1 hc.2.2 q
theorem unI {f:Value->Sem Value} {g:Int->Int}
  (rule:∀(i:Int) (t:Tok) (s:Shared) (Q:Value->Shared->Prop) (E:Value->Shared->Prop),Q (.int (g i) s.toks) { s with toks:=s.toks+1 }->wpAny (model X.prog X.w) X.A (f (.int i t)) Q E s) :
  UnR X f (rU λi=>.int (g i)):=by
 intro pins s σ H x v Q I rx h
 obtain ⟨i,rfl,q⟩:=h
 obtain ⟨t,rfl⟩:=rx
 exact rule i t s _ _ ⟨.int (g i),H,I.tok _,⟨_,rfl⟩,q⟩
theorem un_neg:UnR X (unaryOp .USub) (rU λi=>.int (-i)):=unI λ_ _ _ _ _ q=>neg_int q
end
noncomputable def scal:V->V->Bool
 | .non,.non=>true | .non,.int _=>true | .int _,.non=>true | .non,.bl _=>true | .bl _,.non=>true | .non,.str _=>true | .str _,.non=>true
 | .int _,.int _=>true | .bl _,.bl _=>true | .str _,.str _=>true | .byt _,.byt _=>true
 | .int _,.str _=>true | .str _,.int _=>true | .bl _,.str _=>true | .str _,.bl _=>true
 | _,_=>false
noncomputable def rEq:R2:=λx y H Q=>scal x y=true/\Q (.bl (decide (x=y))) H
noncomputable def rNe:R2:=λx y H Q=>scal x y=true/\Q (.bl (!decide (x=y))) H
theorem dec_int {i j:Int}:decide (V.int i=V.int j)=(i == j):=by
 rw [Bool.eq_iff_iff]
 simp
theorem dec_bl {i j:Bool}:decide (V.bl i=V.bl j)=(i == j):=by
 rw [Bool.eq_iff_iff]
 simp
theorem dec_str {i j:Str}:decide (V.str i=V.str j)=(i == j):=by
 rw [Bool.eq_iff_iff]
 simp
theorem dec_byt {i j:Array UInt8}:decide (V.byt i=V.byt j)=(i.toList == j.toList):=by
 rw [Bool.eq_iff_iff]
 cases i
 cases j
 simp
section
variable {X:Cx} {a b c:Expr} {ta tb tc:TE} {pos:Pos}
theorem fin_bl {pins:List (Addr × Obj)} {σ:St} {H:Hp} {s:Shared} {Q:VK} {k k':Bool} (I:Inv X pins σ H s) (q:Q (.bl k) H) (e:k=k'):EP X pins σ Q (.bool k') s:=by
 subst e
 exact ⟨.bl k,H,I,rfl,q⟩
theorem op_eq:OpR X (compareOp .Eq) rEq:=by
 intro pins s σ H x y v u Q I rx ry h
 obtain ⟨hs,q⟩:=h
 cases x with
 | non =>
  cases rx
  cases y with
  | non=>cases ry;exact PySem.EqNone.eq_none_none (fin_bl I q (by simp))
  | bl j=>cases ry;exact PySem.EqNone.eq_none_bool (fin_bl I q (by simp))
  | int j=>obtain ⟨t',rfl⟩:=ry;exact PySem.EqNone.eq_none_int (fin_bl I q (by simp))
  | str j=>obtain ⟨t',rfl⟩:=ry;exact PySem.EqNone.eq_none_str (fin_bl I q (by simp))
  | _=>exact absurd (show false=true from hs) Bool.false_ne_true
 | bl i =>
  cases rx
  cases y with
  | non=>cases ry;exact PySem.EqNone.eq_bool_none (fin_bl I q (by simp))
  | bl j=>cases ry;exact eq_bool (fin_bl I q dec_bl)
  | str j=>obtain ⟨t',rfl⟩:=ry;exact PySem.EqMixed.eq_bool_str (fin_bl I q (by simp))
  | _=>exact absurd (show false=true from hs) Bool.false_ne_true
 | int i =>
  obtain ⟨t,rfl⟩:=rx
  cases y with
  | non=>cases ry;exact PySem.EqNone.eq_int_none (fin_bl I q (by simp))
  | int j=>obtain ⟨t',rfl⟩:=ry;exact eq_int (fin_bl I q dec_int)
  | str j=>obtain ⟨t',rfl⟩:=ry;exact PySem.EqMixed.eq_int_str (fin_bl I q (by simp))
  | _=>exact absurd (show false=true from hs) Bool.false_ne_true
 | str i =>
  obtain ⟨t,rfl⟩:=rx
  cases y with
  | non=>cases ry;exact PySem.EqNone.eq_str_none (fin_bl I q (by simp))
  | bl j=>cases ry;exact PySem.EqMixed.eq_str_bool (fin_bl I q (by simp))
  | int j=>obtain ⟨t',rfl⟩:=ry;exact PySem.EqMixed.eq_str_int (fin_bl I q (by simp))
  | str j=>obtain ⟨t',rfl⟩:=ry;exact eq_str (fin_bl I q dec_str)
  | _=>exact absurd (show false=true from hs) Bool.false_ne_true
 | byt i =>
  obtain ⟨t,rfl⟩:=rx
  cases y with
  | byt j=>obtain ⟨t',rfl⟩:=ry;exact PySem.W.eq_bytes (fin_bl I q dec_byt)
  | _=>exact absurd (show false=true from hs) Bool.false_ne_true
 | _=>cases y <;> exact absurd (show false=true from hs) Bool.false_ne_true
theorem op_ne:OpR X (compareOp .NotEq) rNe:=by
 intro pins s σ H x y v u Q I rx ry h
 obtain ⟨hs,q⟩:=h
 cases x with
 | non =>
  cases rx
  cases y with
  | non=>cases ry;exact PySem.EqNone.ne_none_none (fin_bl I q (by simp))
  | bl j=>cases ry;exact PySem.EqNone.ne_none_bool (fin_bl I q (by simp))
  | int j=>obtain ⟨t',rfl⟩:=ry;exact PySem.EqNone.ne_none_int (fin_bl I q (by simp))
  | str j=>obtain ⟨t',rfl⟩:=ry;exact PySem.EqNone.ne_none_str (fin_bl I q (by simp))
  | _=>exact absurd (show false=true from hs) Bool.false_ne_true
 | bl i =>
  cases rx
  cases y with
  | non=>cases ry;exact PySem.EqNone.ne_bool_none (fin_bl I q (by simp))
  | bl j=>cases ry;exact ne_bool (fin_bl I q (congrArg not dec_bl))
  | str j=>obtain ⟨t',rfl⟩:=ry;exact PySem.EqMixed.ne_bool_str (fin_bl I q (by simp))
  | _=>exact absurd (show false=true from hs) Bool.false_ne_true
 | int i =>
  obtain ⟨t,rfl⟩:=rx
  cases y with
  | non=>cases ry;exact PySem.EqNone.ne_int_none (fin_bl I q (by simp))
  | int j=>obtain ⟨t',rfl⟩:=ry;exact ne_int (fin_bl I q (congrArg not dec_int))
  | str j=>obtain ⟨t',rfl⟩:=ry;exact PySem.EqMixed.ne_int_str (fin_bl I q (by simp))
  | _=>exact absurd (show false=true from hs) Bool.false_ne_true
 | str i =>
  obtain ⟨t,rfl⟩:=rx
  cases y with
  | non=>cases ry;exact PySem.EqNone.ne_str_none (fin_bl I q (by simp))
  | bl j=>cases ry;exact PySem.EqMixed.ne_str_bool (fin_bl I q (by simp))
  | int j=>obtain ⟨t',rfl⟩:=ry;exact PySem.EqMixed.ne_str_int (fin_bl I q (by simp))
  | str j=>obtain ⟨t',rfl⟩:=ry;exact ne_str (fin_bl I q (congrArg not dec_str))
  | _=>exact absurd (show false=true from hs) Bool.false_ne_true
 | byt i =>
  obtain ⟨t,rfl⟩:=rx
  cases y with
  | byt j=>obtain ⟨t',rfl⟩:=ry;exact PySem.W.ne_bytes (fin_bl I q (congrArg not dec_byt))
  | _=>exact absurd (show false=true from hs) Bool.false_ne_true
 | _=>cases y <;> exact absurd (show false=true from hs) Bool.false_ne_true
theorem op_lt:OpR X (compareOp .Lt) (rI0 λi j=>.bl (decide (i<j))):=opB0 λ_ _ _ _ _ _ _ q=>lt_int q
theorem op_gt:OpR X (compareOp .Gt) (rI0 λi j=>.bl (decide (j<i))):=opB0 λ_ _ _ _ _ _ _ q=>gt_int q
theorem op_in_str:OpR X (compareOp .In) (λx y H Q=>∃i j,x=.str i/\y=.str j/\Q (.bl (!(Builtin.Str.occurrences j i 0 j.length 1).isEmpty)) H):=by
 intro pins s σ H x y v u Q I rx ry h
 obtain ⟨i,j,rfl,rfl,q⟩:=h
 obtain ⟨t,rfl⟩:=rx
 obtain ⟨t',rfl⟩:=ry
 exact in_str (fin_bl I q rfl)
theorem OpR.or {f:Value->Value->Sem Value} {r r':R2} (h:OpR X f r) (h':OpR X f r'):OpR X f (λx y H Q=>r x y H Q\/r' x y H Q):=by
 intro pins s σ H x y v u Q I rx ry q
 rcases q with q | q
 ·exact h pins s σ H x y v u Q I rx ry q
 ·exact h' pins s σ H x y v u Q I rx ry q
theorem nomark (b:Expr) {op:CmpOp} (h:op ≠ .In:=by decide) (h2:op ≠ .NotIn:=by decide):behindInMarks op b=false:=by
 have e1:(op == CmpOp.In)=false:=by cases op <;> first | rfl | exact absurd rfl h
 have e2:(op == CmpOp.NotIn)=false:=by cases op <;> first | rfl | exact absurd rfl h2
 cases b <;> simp [behindInMarks,e1,e2]
theorem pe_cmpR {op:CmpOp} {r:R2} (ho:OpR X (compareOp op) r) (ha:PE X a ta) (hb:PE X b tb) (hm:behindInMarks op b=false):PE X (.Compare a [op] [b] pos) (tOp r ta tb):=by
 intro pins s σ H Q I h
 exact wpAny_Compare1 (binT ha hb I h λv u s2 x y H2 I2 rx ry q=>ho pins s2 σ H2 x y v u Q I2 rx ry q) hm
noncomputable def tTest (t:TE):TT:=λσ H Q=>t σ H λx H'=>∃k,x=.bl k/\Q k H'
theorem pt_cmpR {op:CmpOp} {r:R2} (ho:OpR X (compareOp op) r) (ha:PE X a ta) (hb:PE X b tb) (hm:behindInMarks op b=false):PT X (.Compare a [op] [b] pos) (tTest (tOp r ta tb)):=by
 intro pins s σ H Q I h
 refine wpAny_isTrue_Compare1 (thn (ha pins s σ H _ I h) λv s1 ⟨x,H1,I1,r1,q1⟩=>thn (hb pins s1 σ H1 _ I1 q1) λu s2 ⟨y,H2,I2,r2,q2⟩ =>
  thn (ho pins s2 σ H2 x y v u _ I2 r1 r2 q2) λc s3 ⟨z,H3,I3,r3,k,e,q3⟩=>?_) hm
 subst e
 cases r3
 exact wpAny_truthy_bool ⟨H3,I3,q3⟩
noncomputable def TruV (K:PySem.W.Frag) (x:V) (H:Hp) (k:Bool):Prop :=
 match x with
 | .non=>k=false
 | .bl b=>k=b
 | .int i=>k=(i != 0)
 | .str y=>y.length<=sizeLine/\k=((y.length:Int) != 0)
 | .byt y=>y.size<=sizeLine/\k=((y.size:Int) != 0)
 | .ref p=>(∃xs,SqL K H p xs/\k = !xs.isEmpty)\/(∃xs,SqT K H p xs/\k = !xs.isEmpty)\/∃kvs,H p=some (.dK kvs)/\k = !kvs.isEmpty
 | _=>False
theorem isEmpty_kv {κ:Type} {kvs:List (κ × V)} {vs:List (κ × Value)} (r:KV kvs vs):(!vs.isEmpty) = !kvs.isEmpty:=by
 cases r <;> rfl
theorem isEmpty_of {xs:List V} {its:List Value} (r:Vals xs its):(!its.toArray.isEmpty) = !xs.isEmpty:=by
 cases r <;> simp
theorem line63:(sizeLine:Nat)<2 ^ 63:=by rw [sizeLine_eq];decide
theorem tru_ok:TruR X (λx H Q=>∃k,TruV X.K x H k/\Q k H):=by
 intro pins s σ H x v Q I rx h
 obtain ⟨k,e,q⟩:=h
 have hl:=line63
 have hs:sizeLine=16777216:=sizeLine_eq
 cases x with
 | non =>
  cases rx
  have e':k=false:=e
  subst e'
  exact truthy_none ⟨H,I,q⟩
 | bl b =>
  cases rx
  have e':k=b:=e
  subst e'
  exact wpAny_truthy_bool ⟨H,I,q⟩
 | int i =>
  obtain ⟨t,rfl⟩:=rx
  have e':k=(i != 0):=e
  subst e'
  exact PySem.P.truthy_int ⟨H,I,q⟩
 | str y =>
  obtain ⟨t,rfl⟩:=rx
  obtain ⟨hy,e'⟩:y.length<=sizeLine/\k=((y.length:Int) != 0):=e
  subst e'
  exact PySem.P.truthy_str (by omega) ⟨H,I.tok _,q⟩
 | byt y =>
  obtain ⟨t,rfl⟩:=rx
  obtain ⟨hy,e'⟩:y.size<=sizeLine/\k=((y.size:Int) != 0):=e
  subst e'
  exact PySem.W.truthy_bytes (by omega) ⟨H,I.tok _,q⟩
 | ref p =>
  cases rx
  have e':(∃xs,SqL X.K H p xs/\k = !xs.isEmpty)\/(∃xs,SqT X.K H p xs/\k = !xs.isEmpty)\/∃kvs,H p=some (.dK kvs)/\k = !kvs.isEmpty:=e
  rcases e' with ⟨xs,hx,e'⟩ | ⟨xs,hx,e'⟩ | ⟨kvs,hx,e'⟩
  ·subst e'
   obtain ⟨its,r,pl,hz⟩:=I.list hx
   have hlen:=r.length
   exact wpAny_truthy_list pl.isList (by simp only [List.size_toArray];omega) ⟨H,I.tok _,by rw [isEmpty_of r];exact q⟩
  ·subst e'
   obtain ⟨its,r,pl,hz⟩:=I.tuple hx
   have hlen:=r.length
   exact truthy_tuple pl (by simp only [List.size_toArray];omega) ⟨H,I.tok _,by rw [isEmpty_of r];exact q⟩
  ·subst e'
   obtain ⟨hz,hS,vs,r,m⟩:kvs.length<=sizeLine/\(p == sysModules)=false/\∃vs,KV kvs vs/\s.heap.DictOf (mixKind X.prog X.w) p vs:=I.hok p _ hx
   have hlen:kvs.length=vs.length:=Paired.length r
   exact wpAny_truthy_dict hS m (by omega) ⟨H,I.tok _,by rw [isEmpty_kv r];exact q⟩
 | _=>exact (show False from e).elim
theorem pt_truth (ha:PE X a ta) (he:∀whole,isTrue a X.env whole=(do let v ← whole;standAt a.pos;holding [v] (truthy v))) :
  PT X a (λσ H Q=>ta σ H λx H'=>∃k,TruV X.K x H' k/\Q k H'):=by
 intro pins s σ H Q I h
 exact isTrue_plain (thn (ha pins s σ H _ I h) λv s1 ⟨x,H1,I1,r1,q1⟩=>tru_ok pins s1 σ H1 x v Q I1 r1 q1) (he _)
theorem op_add_str:OpR X (binaryOp .Add) (λx y H Q=>∃i j,x=.str i/\y=.str j/\i.length+j.length<=sizeLine/\Q (.str (i++j)) H):=by
 intro pins s σ H x y v u Q I rx ry h
 obtain ⟨i,j,rfl,rfl,hz,q⟩:=h
 obtain ⟨t,rfl⟩:=rx
 obtain ⟨t',rfl⟩:=ry
 exact add_str (λt' tk=>⟨.str (i++j),H,I.tok _,⟨_,rfl⟩,q⟩) hz
theorem vals1 {x:V} {us:List Value} (r:Vals [x] us):∃u,us=[u]/\RelV x u:=by
 cases r with
 | cons r1 r2=>cases r2;exact ⟨_,rfl,r1⟩
theorem vals2 {x y:V} {us:List Value} (r:Vals [x,y] us):∃u w',us=[u,w']/\RelV x u/\RelV y w':=by
 cases r with
 | cons r1 r2 =>
  cases r2 with
  | cons r3 r4=>cases r4;exact ⟨_,_,rfl,r1,r3⟩
theorem call_min2 (hc:X.calm=true):CallR X (.builtin "min") (λxs H Q=>∃i j,xs=[.int i,.int j]/\Q (.int (if j<i then j else i)) H):=by
 intro pins s σ H xs us Q I r h
 obtain ⟨i,j,rfl,q⟩:=h
 obtain ⟨u,w',rfl,⟨t,rfl⟩,⟨t',rfl⟩⟩:=vals2 r
 refine min_two_ints (I.ok.hd hc) λh' tk k=>⟨_,H,I.kept k,?_,q⟩
 by_cases hj:j<i
 ·rw [if_pos hj,if_pos hj];exact ⟨_,rfl⟩
 ·rw [if_neg hj,if_neg hj];exact ⟨_,rfl⟩
theorem call_int1:CallR X (.type "int") (λxs H Q=>(∃i,xs=[.int i]/\Q (.int i) H)\/∃k,xs=[.bl k]/\Q (.int (if k then 1 else 0)) H):=by
 intro pins s σ H xs us Q I r h
 rcases h with ⟨i,rfl,q⟩ | ⟨k,rfl,q⟩
 ·obtain ⟨u,rfl,t,rfl⟩:=vals1 r
  exact call_int_int ⟨.int i,H,I,⟨_,rfl⟩,q⟩
 ·obtain ⟨u,rfl,r1⟩:=vals1 r
  cases r1
  exact call_int_bool ⟨.int (if k then 1 else 0),H,I.tok _,⟨_,rfl⟩,q⟩
noncomputable def LenV (K:PySem.W.Frag) (x:V) (H:Hp) (n:Nat):Prop :=
 match x with
 | .str y=>y.length<=sizeLine/\n=y.length
 | .byt y=>y.size<=sizeLine/\n=y.size
 | .ref p=>(∃xs,SqL K H p xs/\n=xs.length)\/∃xs,SqT K H p xs/\n=xs.length
 | _=>False
theorem call_len:CallR X (.builtin "len") (λxs H Q=>∃x n,xs=[x]/\LenV X.K x H n/\Q (.int n) H):=by
 intro pins s σ H xs us Q I r h
 obtain ⟨x,n,rfl,e,q⟩:=h
 obtain ⟨u,rfl,rx⟩:=vals1 r
 have hl:=line63
 have hs:sizeLine=16777216:=sizeLine_eq
 cases x with
 | str y =>
  obtain ⟨t,rfl⟩:=rx
  obtain ⟨hy,e'⟩:y.length<=sizeLine/\n=y.length:=e
  subst e'
  exact len_str (by omega) ⟨.int _,H,I.tok _,⟨_,rfl⟩,q⟩
 | byt y =>
  obtain ⟨t,rfl⟩:=rx
  obtain ⟨hy,e'⟩:y.size<=sizeLine/\n=y.size:=e
  subst e'
  exact PySem.W.len_bytes (by omega) ⟨.int _,H,I.tok _,⟨_,rfl⟩,q⟩
 | ref p =>
  cases rx
  have e':(∃xs,SqL X.K H p xs/\n=xs.length)\/∃xs,SqT X.K H p xs/\n=xs.length:=e
  rcases e' with ⟨xs,hx,e'⟩ | ⟨xs,hx,e'⟩
  ·subst e'
   obtain ⟨its,r',pl,hz⟩:=I.list hx
   have hlen:=r'.length
   exact Calls.call_len_list pl.isList (by simp only [List.size_toArray];omega) ⟨.int xs.length,H,I.tok _,⟨_,by simp only [List.size_toArray];rw [hlen]⟩,q⟩
  ·subst e'
   obtain ⟨its,r',pl,hz⟩:=I.tuple hx
   have hlen:=r'.length
   exact len_tuple pl (by simp only [List.size_toArray];omega) ⟨.int xs.length,H,I.tok _,⟨_,by simp only [List.size_toArray];rw [hlen]⟩,q⟩
 | _=>exact (show False from e).elim
end
end L2
namespace L2
open PySem PySem.Spec PyProof.Rows
structure ObjM (h:Heap) (x dx C:Addr) (mA:Str->Option Value):Prop where
 obj:h.get? x=some (PySem.W.instObj C dx)
 ns:h.Ns1 dx mA
 ne:dx≠x
theorem lookIn_ns {h:Heap} {dx:Addr} {mA:Str->Option Value} (n:h.Ns1 dx mA):∃od,h.get? dx=some od/\∀name,PySem.W.lookIn name od=some (mA name):=by
 obtain ⟨o,es,ep,ho,hd,hk,_,hm⟩:=n
 refine ⟨o,ho,λname=>?_⟩
 have e:=hm name
 unfold nsFind findBy at e
 rw [← Array.find?_toList] at e
 unfold PySem.W.lookIn
 rw [hd]
 dsimp only
 split
 ·rename_i y q
  rw [q] at e
  exact congrArg some e
 ·rename_i q
  rw [q] at e
  have a:es.toList.any (·.refKey)=false:=by
   rw [List.any_eq_false]
   intro y hy
   obtain ⟨z,t,hkey⟩:=hk y (Array.mem_toList_iff.mp hy)
   simp [DictEntry.refKey,hkey]
  have a':¬es.toList.any (·.refKey)=true:=by rw [a];exact Bool.false_ne_true
  rw [if_neg a']
  exact congrArg some e
theorem ObjM.look {h:Heap} {x dx C:Addr} {mA:Str->Option Value} (I:ObjM h x dx C mA):∃od,PySem.W.InstAt h x (PySem.W.instObj C dx) C (some od)/\∀name,PySem.W.lookIn name od=some (mA name) :=
 let ⟨od,ho,hl⟩:=lookIn_ns I.ns
 ⟨od,⟨I.obj,rfl,rfl,ho⟩,hl⟩
section
variable {prog:Program} {w:World} {A:Around} {E:Value->Shared->Prop} {s:Shared} {K:PySem.W.Frag} {x dx C f:Addr} {mA:Str->Option Value} {name:Str} {v:Value}
end
theorem RelO.some_of {v:V} {o:Option Value} (r:RelO (some v) o):∃u,o=some u/\RelV v u:=by
 cases o with
 | none=>exact (show False from r).elim
 | some u=>exact ⟨u,rfl,r⟩
section
variable {P:Program} {w:World} {H H':Hp} {h h':Heap} {a C dx:Addr} {fs fs':List (Str × V)}
theorem ins_get (hok:HOk P w H h) (e:H a=some (.ins C dx fs)):∃mA,ObjM h a dx C mA/\(∀f,RelO (fs.lookup f) (mA f))/\PySem.Within mA (fs.map (·.1))/\fs.length<=1000/\H dx=some (.own a):=by
 obtain ⟨d,z,ne,ob,mA,n,r,q⟩:=(show ObjOk P w H h a (.ins C dx fs) from hok a _ e)
 exact ⟨mA,⟨ob,n,ne⟩,r,q,z,d⟩
end
structure Cls (K:PySem.W.Frag) (C:Addr):Prop where
 pg:PySem.W.plainGet K C Str.empty=true
 hd:PySem.W.hasDictIn K C=true
 po:PySem.W.plainOver K C=true
 sa:PySem.W.findIn K (.ref C) "__setattr__" = some (some (.builtin "object.__setattr__"))
theorem Cls.get {K:PySem.W.Frag} {C:Addr} (c:Cls K C) (f:Str):PySem.W.plainGet K C f=true:=c.pg
section
variable {X:Cx} {pins:List (Addr × Obj)} {σ:St} {H:Hp} {s:Shared} {a C dx:Addr} {fs:List (Str × V)} {f:Str} {v:V} {A:Around} {E:Value->Shared->Prop}
end
section
variable {X:Cx} {o e value:Expr} {f:Str} {pos pos' tpos:Pos} {ta tv:TE}
end
section
variable {X:Cx} {pins:List (Addr × Obj)} {σ:St} {H:Hp} {s:Shared} {A:Around} {E:Value->Shared->Prop} {Q:Value->Shared->Prop} {c:Value} {b:Bool}
inductive TyOf (K:PySem.W.Frag) (H:Hp):V->Value->Prop where
 | non:TyOf K H .non (.type "NoneType")
 | bl (x:Bool):TyOf K H (.bl x) (.type "bool")
 | int (i:Int):TyOf K H (.int i) (.type "int")
 | str (x:Str):TyOf K H (.str x) (.type "str")
 | flt (x:UInt64):TyOf K H (.flt x) (.type "float")
 | lst {a:Addr} {xs:List V} (e:H a=some (.lst xs)):TyOf K H (.ref a) (.type "list")
 | frz {a:Addr} {o:Obj} {xs:List V} (e:H a=some (.frz o (.lst xs))):TyOf K H (.ref a) (.type "list")
 | tup {a:Addr} {xs:List V} (e:H a=some (.tup xs)):TyOf K H (.ref a) (.type "tuple")
 | dK {a:Addr} {kvs:List (Key × V)} (e:H a=some (.dK kvs)):TyOf K H (.ref a) (.type "dict")
 | dT {a:Addr} {kvs:List (List Key × V)} (e:H a=some (.dT kvs)):TyOf K H (.ref a) (.type "dict")
 | ins {a C dx:Addr} {fs:List (Str × V)} (e:H a=some (.ins C dx fs)) (cl:Cls K C) (ha:PySem.W.findIn K (.ref C) "__class__" = some (some (.builtin "object.__class__")))
   (hn:PySem.W.specialIn K (.builtin "object.__class__") "__get__" = some (some (.builtin "getset_descriptor.__get__"))) (htk:PySem.W.takesIn K (.builtin "object.__class__")=some true)
   (hm:PySem.W.mroIn K C (.type "object")=some true):TyOf K H (.ref a) (.ref C)
theorem isinst_ok {x:V} {u t:Value} (I:Inv X pins σ H s) (rx:RelV x u) (ty:TyOf X.K H x t) (e:PySem.W.kitOne X.K t c=some b) (h:∀tk,Q (.bool b) { s with toks:=tk }) :
  wpAny (model X.prog X.w) A (call (.builtin "isinstance") [u,c]) Q E s:=by
 cases ty with
 | non=>cases (show u=Value.none from rx);exact PySem.W.kia_one PySem.W.kitx_none I.kIn True.intro e (λz=>nomatch z) h
 | bl y=>cases (show u=Value.bool y from rx);exact PySem.W.kia_one PySem.W.kitx_bool I.kIn True.intro e (λz=>nomatch z) h
 | int i=>obtain ⟨t,q⟩:=(show ∃t,u=Value.int i t from rx);cases q;exact PySem.W.kia_one PySem.W.kitx_int I.kIn True.intro e (λz=>nomatch z) h
 | str y=>obtain ⟨t,q⟩:=(show ∃t,u=Value.str y t from rx);cases q;exact PySem.W.kia_one PySem.W.kitx_str I.kIn True.intro e (λz=>nomatch z) h
 | flt y=>obtain ⟨t,q⟩:=(show ∃t,u=Value.float y t from rx);cases q;exact PySem.W.kia_one PySem.W.kitx_float I.kIn True.intro e (λz=>nomatch z) h
 | @lst a xs ea =>
  cases (show u=Value.ref a from rx)
  obtain ⟨_,_,n,_,h1⟩:=(show ObjOk X.prog X.w H s.heap a (.lst xs) from I.hok a _ ea)
  exact PySem.W.kia_one PySem.W.kitx_list I.kIn ⟨_,h1,rfl⟩ e (λz=>nomatch z) h
 | @frz a ob xs ea =>
  cases (show u=Value.ref a from rx)
  obtain ⟨_,_,_,n,_,h1⟩:=(show ObjOk X.prog X.w H s.heap a (.frz ob (.lst xs)) from I.hok a _ ea)
  exact PySem.W.kia_one PySem.W.kitx_list I.kIn ⟨_,h1,rfl⟩ e (λz=>nomatch z) h
 | @tup a xs ea =>
  cases (show u=Value.ref a from rx)
  obtain ⟨_,_,_,p⟩:=(show ObjOk X.prog X.w H s.heap a (.tup xs) from I.hok a _ ea)
  obtain ⟨o,h1,h2,_⟩:=p
  exact PySem.W.kia_one PySem.W.kitx_tuple I.kIn ⟨o,h1,h2⟩ e (λz=>nomatch z) h
 | @dK a kvs ea =>
  cases (show u=Value.ref a from rx)
  obtain ⟨_,_,vs,_,p⟩:=(show ObjOk X.prog X.w H s.heap a (.dK kvs) from I.hok a _ ea)
  obtain ⟨o,es,ep,h1,h2,_⟩:=p
  exact PySem.W.kia_one PySem.W.kitx_dict I.kIn ⟨o,h1,h2.1⟩ e (λz=>nomatch z) h
 | @dT a kvs ea =>
  cases (show u=Value.ref a from rx)
  obtain ⟨_,_,xs,_,o,es,ep,h1,h2,_⟩:=(show ObjOk X.prog X.w H s.heap a (.dT kvs) from I.hok a _ ea)
  exact PySem.W.kia_one PySem.W.kitx_dict I.kIn ⟨o,h1,h2.1⟩ e (λz=>nomatch z) h
 | @ins a C dx fs ea cl ha hn htk hm =>
  cases (show u=Value.ref a from rx)
  obtain ⟨mA,O,_⟩:=ins_get I.hok ea
  obtain ⟨od,J,_⟩:=O.look
  exact PySem.W.kia_one (PySem.W.kitx_own (cl.get _) cl.hd ha hn htk hm) I.kIn J e (λz=>nomatch z) h
end
end L2
namespace L2
open PySem PySem.Spec PyProof.Rows
structure Room (k:Nat) (A:Around):Prop where
 hd:A.handled=none
 dp:A.depth+3*k+5<recursionLimit
 un:A.units+16*k+200<cLine
theorem Room.mono {j k:Nat} {A:Around} (r:Room k A) (h:j<=k):Room j A:=⟨r.hd,by have:=r.dp;omega,by have:=r.un;omega⟩
theorem Room.deeper {k:Nat} {A:Around} (r:Room (k+1) A) (env:Env):Room k (A.deeper env) :=
 ⟨r.hd,by have:=r.dp;show A.depth+1+3*k+5<_;omega,by have:=r.un;show A.units+3+16*k+200<_;omega⟩
theorem Room.in1 {k:Nat} {A:Around} (r:Room (k+1) A):Room k A.in1 :=
 ⟨r.hd,by have:=r.dp;show A.depth+3*k+5<_;omega,by have:=r.un;show A.units+1+16*k+200<_;omega⟩
theorem Room.depth {k:Nat} {A:Around} (r:Room k A):A.depth<recursionLimit:=by have:=r.dp;omega
theorem Room.units {k:Nat} {A:Around} (r:Room k A):A.units+64<cLine:=by have:=r.un;omega
noncomputable def tNil:TA:=λ_ H Q=>Q [] H
noncomputable def tCons (ta:TE) (tr:TA):TA:=λσ H Q=>ta σ H λx H1=>tr σ H1 λxs H2=>Q (x::xs) H2
section
variable {X:Cx} {e:Expr} {es:List Expr} {te:TE} {t:TA} {pos:Pos}
theorem pa_nil:PA X [] tNil:=λ_ _ _ _ H Q I h=>Calls.spliced_nil ⟨[],H,I,.nil,h⟩
theorem pa_cons (ha:PE X e te) (hr:PA X es t) (hs:starEach (e::es) X.env=(false,eval e X.env)::starEach es X.env:=by rfl):PA X (e::es) (tCons te t):=by
 intro pos pins s σ H Q I h
 rw [hs]
 show wpAny _ _ (spliced ((false,eval e X.env)::backTo pos (starEach es X.env))) _ _ s
 refine Calls.spliced_cons (thn (ha pins s σ H _ I h) λu s1 ⟨x,H1,I1,r1,q1⟩=>?_)
 exact thn (hr pos pins s1 σ H1 _ I1 q1) λus s2 ⟨xs,H2,I2,r2,q2⟩=>⟨x::xs,H2,I2,.cons r1 r2,q2⟩
noncomputable def tTup (t:TA):TE:=λσ H Q=>t σ H λxs H1=>xs.length<=sizeLine/\∀p,H1 p=none->Q (.ref p) (upd H1 p (.tup xs))
noncomputable def tLst (t:TA):TE:=λσ H Q=>t σ H λxs H1=>xs.length<=sizeLine/\∀p,H1 p=none->Q (.ref p) (upd H1 p (.lst xs))
theorem pe_tup {x1} (h:PA X es t):PE X (.Tuple es x1 pos) (tTup t):=by
 intro pins s σ H Q I hq
 refine wpAny_Tuple_spliced (thn (h pos pins s σ H _ I hq) λus s1 ⟨xs,H1,I1,r,z,q⟩=>⟨by rw [← r.length];exact z,?_⟩)
 have hf:H1 s1.heap.objs.size=none:=I1.hok.fresh (Nat.le_refl _)
 refine ⟨.ref s1.heap.objs.size,upd H1 s1.heap.objs.size (.tup xs),I1.laid (t':=s1.toks) (λb u e=>Heap.get?_push_of_some _ e) (Nat.le_refl _) ?_,rfl,q _ hf⟩
 exact ⟨z,us,r,⟨_,Heap.get?_push_size _ rfl,rfl,_,rfl⟩⟩
theorem pe_lst (h:PA X es t):PE X (.List es pos) (tLst t):=by
 intro pins s σ H Q I hq
 refine wpAny_List_spliced (thn (h pos pins s σ H _ I hq) λus s1 ⟨xs,H1,I1,r,z,q⟩=>⟨by rw [← r.length];exact z,?_⟩)
 have hf:H1 s1.heap.objs.size=none:=I1.hok.fresh (Nat.le_refl _)
 refine ⟨.ref s1.heap.objs.size,upd H1 s1.heap.objs.size (.lst xs),I1.laid (t':=s1.toks) (λb u e=>Heap.get?_push_of_some _ e) (Nat.le_refl _) ?_,rfl,q _ hf⟩
 exact ⟨z,us,0,r,Heap.get?_push_size _ rfl⟩
end
noncomputable abbrev Sp:=List V->Hp->VK->XK->Prop
noncomputable abbrev CXT:=List Env->Hp->Shared->XK->Value->Shared->Prop
structure Env0 (P:Program) (w:World) (K:PySem.W.Frag) (mg:Str->Option Value) (base:Heap) (A:Around) (outer:List Env) (s:Shared) (H:Hp):Prop where
 frames:A.frames=some outer
 mod:Mod K mg base
 bs:∀b o,base.get? b=some o->s.heap.get? b=some o/\H b=none
 bsz:base.objs.size<=s.heap.objs.size
 funs:s.heap.FunFrames base outer
 frf:∀b∈frs outer,H b=none
 hok:HOk P w H s.heap
 bare:AllBare s.gens
noncomputable def CE (outer:List Env) (P:Program) (w:World) (H:Hp) (s:Shared) (Q:VK) (u:Value) (s':Shared):Prop :=
 ∃v H',s'.os=s.os/\AllBare s'.gens/\Un (frs outer) [] H H' s.heap s'.heap/\HOk P w H' s'.heap/\RelV v u/\Q v H'
noncomputable def CR (CX:CXT) (outer:List Env) (P:Program) (w:World) (H:Hp) (s:Shared) (Q:VK) (E:XK) (r:Result) (s':Shared):Prop :=
 match r with
 | .ok (.ret u)=>CE outer P w H s Q u s'
 | .ok _=>False
 | .error e=>CX outer H s E e s'
structure FnOk (P:Program) (w:World) (K:PySem.W.Frag) (mg:Str->Option Value) (base:Heap) (CX:CXT) (k:Nat) (f:Addr) (fd:FuncData) (ps:List Str) (sp:Sp):Prop where
 len:∀vs H Q E,sp vs H Q E->vs.length=ps.length
 run:∀(A:Around) (outer:List Env) (s:Shared) (H:Hp) (args:Args) (us:List Value) (vs:List V) (Q:VK) (E:XK),Room k A->Env0 P w K mg base A outer s H->BindsTo s fd args (ps.zip us)->Vals vs us->sp vs H Q E ->
  codeAny (model P w) A (.call (.ref f) args) (CR CX outer P w H s Q E) s
theorem FnOk.mono {P:Program} {w:World} {K:PySem.W.Frag} {mg:Str->Option Value} {base:Heap} {CX:CXT} {j k:Nat} {f:Addr} {fd:FuncData} {ps:List Str} {sp:Sp} (F:FnOk P w K mg base CX j f fd ps sp) (h:j<=k) :
  FnOk P w K mg base CX k f fd ps sp:=⟨F.len,λA outer s H args us vs Q E hr=>F.run A outer s H args us vs Q E (hr.mono h)⟩
theorem FnOk.imp {P:Program} {w:World} {K:PySem.W.Frag} {mg:Str->Option Value} {base:Heap} {CX:CXT} {k:Nat} {f:Addr} {fd:FuncData} {ps:List Str} {sp sp':Sp} (F:FnOk P w K mg base CX k f fd ps sp)
  (h:∀vs H Q E,sp' vs H Q E->sp vs H Q E):FnOk P w K mg base CX k f fd ps sp' :=
 ⟨λvs H Q E q=>F.len vs H Q E (h _ _ _ _ q),λA outer s H args us vs Q E hr he hb hv hs=>F.run A outer s H args us vs Q E hr he hb hv (h _ _ _ _ hs)⟩
theorem Env0.in1 {P:Program} {w:World} {K:PySem.W.Frag} {mg:Str->Option Value} {base:Heap} {A:Around} {outer:List Env} {s:Shared} {H:Hp} (e:Env0 P w K mg base A outer s H) :
  Env0 P w K mg base A.in1 outer s H:=⟨e.frames,e.mod,e.bs,e.bsz,e.funs,e.frf,e.hok,e.bare⟩
section
variable {X:Cx} {pins:List (Addr × Obj)} {σ:St} {H:Hp} {s s':Shared}
theorem Inv.env0 (I:Inv X pins σ H s):Env0 X.prog X.w X.K X.mg X.base X.A X.stack s H :=
 ⟨I.ok.frames,I.ok.mod,I.bs,Nat.le_trans I.ok.bsz I.sz,I.stack,I.stkFree,I.hok,I.bare⟩
theorem Inv.after {Q:VK} {u:Value} (I:Inv X pins σ H s) (h:CE X.stack X.prog X.w H s Q u s'):EP X pins σ Q u s':=by
 obtain ⟨v,H',os,bare,un,hok,r,q⟩:=h
 obtain ⟨hh,g,d,t,os'⟩:=s'
 obtain rfl:os'=s.os:=os
 exact ⟨v,H',I.call (h':=hh) (g':=g) (d':=d) (t':=t) (ch:=[]) un hok bare (λb z=>absurd z (by simp)),r,q⟩
end
noncomputable def tCall (sp:Sp) (dvs:List V) (E:XK) (t:TA):TE:=λσ H Q=>t σ H λvs H1=>sp (vs++dvs) H1 Q E
noncomputable def Binds (K:PySem.W.Frag) (fd:FuncData) (ps:List Str) (ds:List Value):Prop :=
 ∀(s:Shared) (us:List Value),K.In s.heap->(us++ds).length=ps.length->BindsTo s fd ⟨us,[]⟩ (ps.zip (us++ds))
theorem Binds.all {K:PySem.W.Frag} {fd:FuncData} {ps:List Str} (h:∀us:List Value,us.length=ps.length->bindArgs fd ⟨us,[]⟩=pure (ps.zip us)):Binds K fd ps []:=λs us _ hl=>by
 rw [List.append_nil] at hl ⊢
 exact .of_eq (h us hl)
noncomputable def Passes (CX:CXT) (X:Cx) (E:XK):Prop:=∀(pins:List (Addr × Obj)) (σ:St) (H:Hp) (s:Shared) (e:Value) (s':Shared),Inv X pins σ H s->CX X.stack H s E e s'->X.xe e s'
section
variable {X:Cx} {CX:CXT} {k:Nat} {f C:Addr} {fd:FuncData} {ps:List Str} {sp:Sp} {dvs:List V} {ds:List Value} {E:XK} {x m:Str} {p pos apos:Pos} {e o:Expr} {es:List Expr} {ta:TE} {t:TA}
theorem run_fn {pins:List (Addr × Obj)} {σ:St} {H:Hp} {s:Shared} {Q:VK} {us:List Value} {vs:List V} (F:FnOk X.prog X.w X.K X.mg X.base CX k f fd ps sp) (hr:Room k X.A) (hb:Binds X.K fd ps ds) (hd:Vals dvs ds) (hx:Passes CX X E)
  (I:Inv X pins σ H s) (r:Vals vs us) (h:sp (vs++dvs) H Q E):wpAny (model X.prog X.w) X.A (call (.ref f) us) (EP X pins σ Q) X.xe s:=by
 have r2:Vals (vs++dvs) (us++ds):=r.append hd
 have hl:(us++ds).length=ps.length:=by rw [← r2.length];exact F.len _ _ _ _ h
 refine wpAny_call (codeAny_mono (F.run X.A X.stack s H ⟨us,[]⟩ (us++ds) (vs++dvs) Q E hr I.env0 (hb s us I.kIn hl) r2 h) λr s' hq=>?_)
 cases r with
 | error e=>exact hx pins σ H s e s' I hq
 | ok fl =>
  cases fl with
  | ret u=>exact I.after hq
  | next=>exact False.elim hq
  | brk=>exact False.elim hq
  | cont=>exact False.elim hq
theorem pe_call (F:FnOk X.prog X.w X.K X.mg X.base CX k f fd ps sp) (hr:Room k X.A) (hg:Gl X x) (hm:X.mg x=some (.ref f)) (hk:PySem.W.keepIn X.K (.ref f)=true) (hb:Binds X.K fd ps ds) (hd:Vals dvs ds) (hx:Passes CX X E)
  (ha:PA X (e::es) t) (hdb:(x == ("__debug__" : Str))=false:=by decide) (he:starEach (e::es) X.env=(false,eval e X.env)::starEach es X.env:=by rfl) (hpl:(backTo pos (starEach es X.env)).any (·.1)=false:=by rfl) :
  PE X (.Call (.Name x p) (e::es) [] pos) (tCall sp dvs E t):=by
 intro pins s σ H Q I h
 refine wpAny_Call_Name_kw (ld_glob I hg hm ?_ hdb)
 refine PySem.W.callWith_K (h₀:=X.base) I.ok.mod.kin hk (thn (ha pos pins s σ H _ I h) λus s1 ⟨vs,H1,I1,r,q⟩=>⟨I1.kIn,?_⟩) he hpl
 exact run_fn F hr hb hd hx I1 r q
end
section
variable {X:Cx} {CX:CXT} {k:Nat} {f C:Addr} {fd:FuncData} {ps ks:List Str} {sp:Sp} {E:XK} {x m:Str} {p pos apos kpos:Pos} {e o:Expr} {es:List Expr} {kws:List Keyword} {te ta:TE} {t tk:TA} {nm:Option Str}
variable {g:List Value->List Value->List Value} {gV:List V->List V->List V}
end
structure FnScope (N P:List Str) (sc:Scope):Prop where
 kind:sc.kind=.function
 co:sc.isCoroutine=false
 gen:sc.isGenerator=false
 nd:N.Nodup
 pre:N.take P.length=P
 par:∀x∈P,sc.names.lookup x=some .local\/sc.names.lookup x=some .cell
 nofree:∀y∈sc.names,y.2 ≠ .free
theorem bindL_out {kindOf:Str->Option NameKind} {x:Str}:∀{binds:List (Str × Value)} {m:Str->Option Value},(∀v,(x,v)∉binds)->bindL kindOf binds m x=m x
 | [],_,_=>rfl
 | (n,v)::r,m,h=>by
  unfold bindL
  rw [bindL_out λw hw=>h w (List.mem_cons_of_mem _ hw)]
  split
  ·have:x≠n:=by rintro rfl;exact h v List.mem_cons_self
   simp [this]
  ·rfl
theorem bindC_out {kindOf:Str->Option NameKind} {x:Str}:∀{binds:List (Str × Value)} {m:Str->Option Value},(∀v,(x,v)∉binds)->bindC kindOf binds m x=m x
 | [],_,_=>rfl
 | (n,v)::r,m,h=>by
  unfold bindC
  rw [bindC_out λw hw=>h w (List.mem_cons_of_mem _ hw)]
  split
  ·rfl
  ·have:x≠n:=by rintro rfl;exact h v List.mem_cons_self
   simp [this]
theorem bindL_get {kindOf:Str->Option NameKind} {x:Str} {v:Value}:∀{P:List Str} {vs:List Value} {i:Nat} {m:Str->Option Value},P.Nodup->P[i]? = some x->vs[i]? = some v->kindOf x=some .local ->
  bindL kindOf (P.zip vs) m x=some v
 | [],_,_,_,_,h,_,_=>by simp at h
 | _::_,[],_,_,_,_,h,_=>by simp at h
 | p::P,w::vs,0,m,nd,h1,h2,hk=>by
  simp at h1 h2;subst h1;subst h2
  show bindL kindOf ((p,w)::P.zip vs) m p=_
  unfold bindL
  rw [bindL_out λv hv=>(List.nodup_cons.mp nd).1 (List.of_mem_zip hv).1,if_pos hk]
  simp
 | p::P,w::vs,i+1,m,nd,h1,h2,hk=>by
  show bindL kindOf ((p,w)::P.zip vs) m x=_
  unfold bindL
  exact bindL_get (i:=i) (List.nodup_cons.mp nd).2 (by simpa using h1) (by simpa using h2) hk
theorem bindC_get {kindOf:Str->Option NameKind} {x:Str} {v:Value}:∀{P:List Str} {vs:List Value} {i:Nat} {m:Str->Option Value},P.Nodup->P[i]? = some x->vs[i]? = some v->kindOf x≠some .local ->
  bindC kindOf (P.zip vs) m x=some v
 | [],_,_,_,_,h,_,_=>by simp at h
 | _::_,[],_,_,_,_,h,_=>by simp at h
 | p::P,w::vs,0,m,nd,h1,h2,hk=>by
  simp at h1 h2;subst h1;subst h2
  show bindC kindOf ((p,w)::P.zip vs) m p=_
  unfold bindC
  rw [bindC_out λv hv=>(List.nodup_cons.mp nd).1 (List.of_mem_zip hv).1,if_neg hk]
  simp
 | p::P,w::vs,i+1,m,nd,h1,h2,hk=>by
  show bindC kindOf ((p,w)::P.zip vs) m x=_
  unfold bindC
  exact bindC_get (i:=i) (List.nodup_cons.mp nd).2 (by simpa using h1) (by simpa using h2) hk
noncomputable def start (N:List Str) (vs:List V):St:=vs.map some++List.replicate (N.length-vs.length) none
noncomputable def cxOf (CX:CXT) (P:Program) (w:World) (K:PySem.W.Frag) (mg:Str->Option Value) (base:Heap) (N:List Str) (qual:Str) (scope:Scope) (f:Addr) (cd:Value) (A:Around) (outer:List Env) (s:Shared) (H:Hp) (E:XK):Cx where
 prog:=P
 w:=w
 K:=K
 mg:=mg
 base:=base
 A:=A.deeper (envOfC qual scope s.heap.objs.size f cd)
 N:=N
 s₀:=s
 H₀:=H
 env:=envOfC qual scope s.heap.objs.size f cd
 outer:=outer
 stack:=envOfC qual scope s.heap.objs.size f cd::outer
 ex:=[]
 calm:=true
 fn:=λ_=>true
 pn:=[]
 xe:=λe s'=>wpAny (model P w) (A.deeper (envOfC qual scope s.heap.objs.size f cd)) (leaving (envOfC qual scope s.heap.objs.size f cd) e) (λ_ s''=>CX outer H s E e s'') (λe' s''=>CX outer H s E e' s'') s'
theorem cell_has {sc:Scope} {n:Nat} {x:Str} (h:sc.names.lookup x=some .cell):∃c,(cellsFrom n sc.names []).lookup x=some c:=by
 have q:=PySem.W.cellsFrom_some sc.names n [] (.inl h)
 exact Option.isSome_iff_exists.mp q
theorem inv_start {CX:CXT} {P:Program} {w:World} {K:PySem.W.Frag} {mg:Str->Option Value} {base:Heap} {N ps:List Str} {qual:Str} {scope:Scope} {f:Addr} {cd:Value} {A:Around} {outer:List Env} {s s1:Shared} {H:Hp} {E:XK} {us:List Value} {vs:List V}
  (S:FnScope N ps scope) (hd:A.handled=none) (e0:Env0 P w K mg base A outer s H) (hl:vs.length=ps.length) (r:Vals vs us)
  (x:InCallC s s.heap.objs.size (bindL (envOfC qual scope s.heap.objs.size f cd).kindOf (ps.zip us) λ_=>none) (cellsFrom (s.heap.objs.size+1) scope.names []) (bindC (envOfC qual scope s.heap.objs.size f cd).kindOf (ps.zip us) λ_=>none) s1) :
  Inv (cxOf CX P w K mg base N qual scope f cd A outer s H E) [] (start N vs) H s1:=by
 have hpl:ps.length<=N.length:=by have:=congrArg List.length S.pre;rw [List.length_take] at this;omega
 obtain ⟨h1,tk,rfl,hk⟩:=x.done
 have noA:∀b:Addr,b∉(cxOf CX P w K mg base N qual scope f cd A outer s H E).ex:=λb z=>absurd (show b∈([]:List Addr) from z) (by simp)
 refine ⟨⟨e0.mod,S.kind,rfl,rfl,Nat.le_refl _,λy z c h1 h2=>?_,λy hy=>?_,λy c _ h=>?_,λ_=>hd,Around.frames_deeper e0.frames,.inr ⟨rfl,rfl⟩,λb z=>absurd z (noA b),e0.bs,e0.bsz,λb _ _=>noA b,λb z=>absurd z (noA b),e0.funs,e0.frf⟩,
  rfl,e0.bare,Un.kept hk,⟨_,x.toInCall.ns,λi y v h1 h2 h3=>?_⟩,λy c h=>⟨_,x.cell y c h⟩,e0.hok.fresh (Nat.le_refl _),λy c h=>?_,λp hp=>absurd (show p∈([]:List (Addr × Obj)) from hp) (by simp),e0.hok.kept hk,?_⟩
 ·exact name_of_addr x.apart (PySem.mem_of_lookup h1) (PySem.mem_of_lookup h2)
 ·have hy:scope.names.lookup y=some .cell\/scope.names.lookup y=some .free:=hy
  rcases hy with hy | hy
  ·exact cell_has hy
  ·exact absurd rfl (S.nofree _ (PySem.mem_of_lookup hy))
 ·exact Nat.le_of_lt (x.above y c (PySem.mem_of_lookup h))
 ·have hi:i<vs.length:=by
   unfold start at h2
   by_cases hi:i<vs.length
   ·exact hi
   ·rw [List.getElem?_append_right (by simpa using hi)] at h2
    rw [List.getElem?_replicate] at h2
    split at h2 <;> cases h2
  have ha:vs[i]? = some v:=by
   unfold start at h2
   rw [List.getElem?_append_left (by simpa using hi),List.getElem?_map] at h2
   cases e:vs[i]? with
   | none=>rw [e] at h2;cases h2
   | some a=>rw [e] at h2;cases h2;rfl
  obtain ⟨u,hu,rv⟩:=r.get ha
  have hp:ps[i]? = some y:=by
   rw [← S.pre,List.getElem?_take_of_lt (by omega)];exact h1
  have ndP:ps.Nodup:=by rw [← S.pre];exact S.nd.sublist (List.take_sublist _ _)
  refine ⟨u,rv,?_⟩
  rcases S.par y (List.mem_of_getElem? hp) with k | k
  ·exact .inl ⟨k,bindL_get ndP hp hu k⟩
  ·obtain ⟨c,e⟩:=cell_has (n:=s.heap.objs.size+1) k
   refine .inr ⟨.inl k,c,e,?_⟩
   have q:=x.cell y c e
   rw [bindC_get ndP hp hu (by show scope.names.lookup y≠_;rw [k];decide)] at q
   exact q
 ·exact e0.hok.fresh (Nat.le_of_lt (x.above y c (PySem.mem_of_lookup h)))
 ·unfold start
  show _=N.length
  rw [List.length_append,List.length_map,List.length_replicate]
  omega
theorem fn_of {CX:CXT} {P:Program} {w:World} {K:PySem.W.Frag} {mg:Str->Option Value} {base:Heap} {k:Nat} {f:Addr} {name qual:Str} {params:Arguments} {body:List Stmt} {scope:Scope} {dV kV doc pm cdv ct oc:Value} {an od:Option Addr}
  {osl:Array (Option Value)} {N ps:List Str} {sp:Sp} (lk:K.lookup f=some ⟨oc,od,.func (PySem.W.fnOf name qual params body scope dV kV doc pm an cdv ct),osl⟩) (hcd:PySem.W.codeIn K cdv qual=true) (S:FnScope N ps scope)
  (len:∀vs H Q E,sp vs H Q E->vs.length=ps.length)
  (hbody:∀(A:Around) (outer:List Env) (s:Shared) (H:Hp) (vs:List V) (Q:VK) (E:XK),Room k (A.deeper (envOfC qual scope s.heap.objs.size f cdv))->sp vs H Q E ->
   ∃t,PSs (cxOf CX P w K mg base N qual scope f cdv A outer s H E) body t/\t { nx:=λ_ H'=>Q .non H',rt:=Q } (start N vs) H) :
  FnOk P w K mg base CX (k+1) f (PySem.W.fnOf name qual params body scope dV kV doc pm an cdv ct) ps sp:=by
 refine ⟨len,λA outer s H args us vs Q E hr e0 hb r hsp=>?_⟩
 have hl:=len _ _ _ _ hsp
 have KX:K.In s.heap:=e0.mod.kin.keeps λb o e=>(e0.bs b o e).1
 have lim:s.heap.NoLimit:=e0.mod.nolimit.keeps λb o e=>(e0.bs b o e).1
 have hkind:∀y∈ps.zip us,scope.names.lookup y.1=some .local\/(scope.names.lookup y.1=some .cell/\((cellsFrom (s.heap.objs.size+1) scope.names []).lookup y.1).isSome=true):=λ⟨n,v⟩ hy=>by
  rcases S.par n (List.of_mem_zip hy).1 with q | q
  ·exact .inl q
  ·exact .inr ⟨q,PySem.W.cellsFrom_some _ _ _ (.inl q)⟩
 refine codeAny_call_function hr.depth (KX _ _ lk) rfl S.co S.gen rfl (PySem.W.codeRec_of KX hcd) (hb _ _ _ _ ?_)
 refine wpAny_newFunctionEnv_cells S.kind hkind λenv he s1 x=>?_
 subst he
 refine ⟨lim.keeps x.toInCall.keep,codeAny_func ?_⟩
 obtain ⟨t,ht,hq⟩:=hbody A outer s H vs Q E (hr.deeper _) hsp
 have I:Inv (cxOf CX P w K mg base N qual scope f cdv A outer s H E) [] (start N vs) H s1:=inv_start S hr.hd e0 hl r x
 refine wpAny_mono (ht [] s1 (start N vs) H _ I hq) (λfl s' hs=>?_) λe s' hs=>hs
 have fin:∀{σ':St} {H':Hp} {v:V} {u:Value},Inv (cxOf CX P w K mg base N qual scope f cdv A outer s H E) [] σ' H' s'->RelV v u->Q v H'->CE outer P w H s Q u s' :=
  λ{σ' H' v u} J rv q=>⟨v,H',J.os,J.bare,J.base,J.hok,rv,q⟩
 cases fl with
 | ret u =>
  obtain ⟨v,σ',H',J,rv,q⟩:=hs
  exact fin J rv q
 | next =>
  obtain ⟨σ',H',J,q⟩:=hs
  exact fin (v:=V.non) (u:=Value.none) J rfl q
 | brk =>
  obtain ⟨_,_,_,q⟩:=hs
  exact False.elim q
 | cont =>
  obtain ⟨_,_,_,q⟩:=hs
  exact False.elim q
end L2
namespace L2
open PySem PySem.Spec PyProof.Rows
section
variable {X:Cx} {x:Str} {p pos:Pos} {e:Expr} {es:List Expr} {t:TA} {id T:String} {r:List V->Hp->VK->Prop}
noncomputable def tCB (r:List V->Hp->VK->Prop) (t:TA):TE:=λσ H Q=>t σ H λvs H1=>r vs H1 Q
theorem pe_callB (hc:CallR X (.builtin id) r) (hg:Gl X x) (hm:X.mg x=none) (hv:bootBuiltins x=some (.builtin id)) (ha:PA X (e::es) t) (hn:x ≠ "__name__":=by decide) (hdb:(x == ("__debug__" : Str))=false:=by decide)
  (he:starEach (e::es) X.env=(false,eval e X.env)::starEach es X.env:=by rfl) (hpl:(backTo pos (starEach es X.env)).any (·.1)=false:=by rfl):PE X (.Call (.Name x p) (e::es) [] pos) (tCB r t):=by
 intro pins s σ H Q I h
 refine wpAny_Call_Name_kw (ld_blt I hg hm hv ?_ hn hdb)
 exact PyProof.Rows.callWith_builtin1 (thn (ha pos pins s σ H _ I h) λus s1 ⟨vs,H1,I1,r1,q1⟩=>hc pins s1 σ H1 vs us Q I1 r1 q1) he hpl
theorem pe_callTy (hc:CallR X (.type T) r) (hg:Gl X x) (hm:X.mg x=none) (hv:bootBuiltins x=some (.type T)) (ha:PA X (e::es) t) (hn:x ≠ "__name__":=by decide) (hdb:(x == ("__debug__" : Str))=false:=by decide)
  (he:starEach (e::es) X.env=(false,eval e X.env)::starEach es X.env:=by rfl) (hpl:(backTo pos (starEach es X.env)).any (·.1)=false:=by rfl):PE X (.Call (.Name x p) (e::es) [] pos) (tCB r t):=by
 intro pins s σ H Q I h
 refine wpAny_Call_Name_kw (ld_blt I hg hm hv ?_ hn hdb)
 exact PyProof.Rows.callWith_type1 (thn (ha pos pins s σ H _ I h) λus s1 ⟨vs,H1,I1,r1,q1⟩=>hc pins s1 σ H1 vs us Q I1 r1 q1) he hpl
end
end L2
namespace HT
open PySem PyProof.Rows
noncomputable def lexLt:List Int->List Int->Bool
 | [],[]=>false
 | [],_::_=>true
 | _::_,[]=>false
 | x::xs,y::ys=>if x=y then lexLt xs ys else decide (x<y)
theorem lexLt_cons (x y:Int) (xs ys:List Int):lexLt (x::xs) (y::ys)=if x=y then lexLt xs ys else decide (x<y):=rfl
theorem lexLt_nil_nil:lexLt [] []=false:=rfl
section
open PySem.SeqAt
open PySem.AutoSeq1 (wpAny_loadPart')
open PySem.MeetsSeq PySem.MeetsSeq2 PySem.MeetsSeq3
end
section
variable {prog:Program} {w:World} {A:Around} {E:Value->Shared->Prop} {s:Shared}
theorem cat_tup {t b:Addr} {vs ws:List Value} {Q:Value->Shared->Prop} (ht:IsTup s.heap t vs.toArray) (hb:IsTup s.heap b ws.toArray) (hv:vs≠[])
  (h1:ws=[]->Q (.ref t) s) (h2:ws≠[]->Q (.ref s.heap.objs.size) { s with heap:=s.heap.push { cls:=.type "tuple",data:=.seq (vs++ws).toArray } })
  (hsz:vs.length+ws.length<=sizeLine):wpAny (model prog w) A (binaryOp .Add (.ref t) (.ref b)) Q E s:=by
 obtain ⟨⟨cls,dd,data,sl⟩,ho,hc,n,hd⟩:=id ht
 obtain ⟨⟨cls2,dd2,data2,sl2⟩,ho2,hc2,n2,hd2⟩:=id hb
 simp only at hc hd hc2 hd2
 subst hc hd hc2 hd2
 have e:vs.toArray++ws.toArray=(vs++ws).toArray:=by simp
 by_cases hw:ws=[]
 ·exact concat_meets ⟨_,ho,rfl⟩ ⟨_,ho2,rfl⟩ noFill_tuple_add seq_tuple_add PySem.F.slot_tuple_add PySem.F.entry_tuple_add (PySem.F.args_tuple_add_2 _ _)
   (tuple_addW1 t b vs.toArray ws.toArray n n2 dd dd2 sl sl2 (by simpa using hv) (by simp [hw])) ⟨ho,ho2,h1 hw⟩
 ·refine concat_meets ⟨_,ho,rfl⟩ ⟨_,ho2,rfl⟩ noFill_tuple_add seq_tuple_add PySem.F.slot_tuple_add PySem.F.entry_tuple_add (PySem.F.args_tuple_add_2 _ _)
   (tuple_addW2 t b vs.toArray ws.toArray n n2 dd dd2 sl sl2 (by simpa using hv) (by simpa using hw) (by rw [List.size_toArray,List.size_toArray];exact hsz)) ⟨ho,ho2,?_⟩
  rw [e]
  exact h2 hw
noncomputable def sIx (n d:Nat):Option Int->Nat
 | none=>d
 | some v=>if v<0 then (v+(n:Int)).toNat else min v.toNat n
theorem sIx_none (n d:Nat):sIx n d none=d:=rfl
theorem sIx_nat (n d k:Nat):sIx n d (some (k:Int))=min k n:=by
 show (if (k:Int)<0 then ((k:Int)+(n:Int)).toNat else min (k:Int).toNat n)=min k n
 rw [if_neg (by omega),Int.toNat_natCast]
theorem sIx_le (n d:Nat) (hd:d<=n) (o:Option Int):sIx n d o<=n:=by
 cases o with
 | none=>exact hd
 | some v =>
  show (if v<0 then (v+(n:Int)).toNat else min v.toNat n)<=n
  by_cases hv:v<0
  ·rw [if_pos hv];omega
  ·rw [if_neg hv];exact Nat.min_le_right _ _
theorem clip_eq (v:Int) (n d:Nat):(if v<0 then max (v+(n:Int)) 0 else min v (n:Int))=((sIx n d (some v):Nat):Int):=by
 show (if v<0 then max (v+(n:Int)) 0 else min v (n:Int))=(((if v<0 then (v+(n:Int)).toNat else min v.toNat n):Nat):Int)
 by_cases hv:v<0
 ·simp only [if_pos hv];omega
 ·simp only [if_neg hv];omega
theorem adjust_gen (lo hi:Option Int) (n:Nat):Builtin.Slice.sliceAdjust lo hi 1 (n:Int)=(((sIx n 0 lo:Nat):Int),((sIx n n hi:Nat):Int)):=by
 have h1:¬((1:Int)<0):=by omega
 unfold Builtin.Slice.sliceAdjust
 simp only [h1,if_false]
 refine Prod.ext ?_ ?_
 ·cases lo with
  | none=>rfl
  | some v=>exact clip_eq v n 0
 ·cases hi with
  | none=>rfl
  | some v=>exact clip_eq v n n
theorem places_gen (i j:Nat):Builtin.Slice.slicePlaces (i:Int) (j:Int) 1=j-i:=by
 unfold Builtin.Slice.slicePlaces
 have h1:(1:Int) > 0:=by omega
 simp only [h1,if_true,Int.ediv_one]
 split <;> omega
theorem slicePart_ {v:Value} {o:Option Int} {Q:Option Int->Shared->Prop} (p:IsPart v o) (h:Q o s):wpAny (model prog w) A (Builtin.Slice.slicePartIndex v) Q E s:=by
 cases p with
 | none=>exact slicePart_none h
 | int i t=>exact slicePart_int h
theorem sliceApplied_gen {sl:Addr} {vl vu:Value} {lo hi:Option Int} {n:Nat} {Q:Int × Int × Nat->Shared->Prop} (hs:s.heap.IsSliceOf sl vl vu .none) (pl:IsPart vl lo) (pu:IsPart vu hi)
  (h:Q (((sIx n 0 lo:Nat):Int),1,sIx n n hi-sIx n 0 lo) s):wpAny (model prog w) A (Builtin.Slice.sliceApplied (.ref sl) (pure (n:Int))) Q E s:=by
 obtain ⟨os,hos,hcs,hds⟩:=id hs
 unfold Builtin.Slice.sliceApplied Builtin.Slice.sliceFields
 refine wpAny_bind (wpAny_bind (wpAny_field hos hds (x:=vl) rfl (wpAny_bind (wpAny_field hos hds (x:=vu) rfl (wpAny_bind (wpAny_field hos hds (x:=.none) rfl (wpAny_pure ?_)))))))
 refine wpAny_bind (slicePart_none ?_)
 show wpAny _ _ (if ((1:Int) == 0)=true then _ else _) _ _ s
 rw [if_neg (by decide)]
 refine wpAny_bind (slicePart_ pl (wpAny_bind (slicePart_ pu (wpAny_bind (wpAny_pure ?_)))))
 show wpAny _ _ (match Builtin.Slice.sliceAdjust lo hi 1 (n:Int) with | (lo,hi)=>pure (lo,(1:Int),Builtin.Slice.slicePlaces lo hi 1)) _ _ s
 rw [adjust_gen lo hi n]
 show wpAny _ _ (pure (((sIx n 0 lo:Nat):Int),(1:Int),Builtin.Slice.slicePlaces ((sIx n 0 lo:Nat):Int) ((sIx n n hi:Nat):Int) 1)) _ _ s
 rw [places_gen]
 exact wpAny_pure h
theorem pick_gen (xs:Array Value) (i k:Nat):((List.range k).filterMap λ(m:Nat)=>xs[((i:Int)+(m:Int)*1).toNat]?).toArray=((xs.toList.drop i).take k).toArray:=by
 have e:(λ(m:Nat)=>xs[((i:Int)+(m:Int)*1).toNat]?)=λm=>xs[i+m]?:=by
  funext m
  have:((i:Int)+(m:Int)*1).toNat=i+m:=by omega
  rw [this]
 rw [e]
 have:=pick_run xs i k
 rw [List.filterMap_map] at this
 have e2:((λx=>xs[x]?) ∘ λx=>i+x)=λm=>xs[i+m]?:=rfl
 rw [e2] at this
 rw [this]
theorem getItem_tuple_cut {t sl:Addr} {items:Array Value} {vl vu:Value} {lo hi:Option Int} {Q:Value->Shared->Prop} (ht:IsTup s.heap t items) (hs:s.heap.IsSliceOf sl vl vu .none) (pl:IsPart vl lo) (pu:IsPart vu hi)
  (hw:¬(sIx items.size 0 lo=0/\sIx items.size items.size hi=items.size))
  (h:Q (.ref s.heap.objs.size) { s with heap:=s.heap.push { cls:=.type "tuple",data:=.seq ((items.toList.drop (sIx items.size 0 lo)).take (sIx items.size items.size hi-sIx items.size 0 lo)).toArray } })
  (hsz:items.size<=sizeLine):wpAny (model prog w) A (getItem (.ref t) (.ref sl)) Q E s:=by
 have htake:sizeOk (.seq ((items.toList.drop (sIx items.size 0 lo)).take (sIx items.size items.size hi-sIx items.size 0 lo)).toArray):=by
  show ((items.toList.drop (sIx items.size 0 lo)).take (sIx items.size items.size hi-sIx items.size 0 lo)).toArray.size<=sizeLine
  rw [List.size_toArray,List.length_take,List.length_drop,Array.length_toList]
  omega
 have hj:sIx items.size items.size hi<=items.size:=sIx_le _ _ (Nat.le_refl _) hi
 obtain ⟨os,hos,hcs,hds⟩:=id hs
 have hTs:s.TypeIs (.ref sl) "slice":=⟨os,hos,hcs⟩
 unfold getItem
 try with_reducible refine wpAny_holding ?_
 first | refine wpAny_bind (wpAny_pure ?_) | skip
 refine wpAny_bind (wpAny_sequenceKey ht.typeIs (by decide) ?_)
 refine wpAny_bind (wpAny_callSpecial?_slot (name:=Str.ofString "__getitem__") ht.typeIs PyProof.Rows.slot_tuple_getitem
  (wpAny_call_entry PyProof.Rows.slot_tuple_getitem ht.typeIs entry_tuple_getitem ?_ (args_tuple_getitem _ _)))
 show wpAny _ _ (Builtin.Tuple.tupleItemsOf (.ref t) >>= _) _ _ s
 refine wpAny_bind (tupleItemsOf_ ht ?_)
 refine wpAny_bind (wpAny_typeOf hTs ?_)
 rw [if_pos (by decide)]
 refine wpAny_bind (sliceApplied_gen hs pl pu ?_)
 have hno:¬((((sIx items.size 0 lo:Nat):Int) == 0 && (1:Int) == 1 && (sIx items.size items.size hi-sIx items.size 0 lo) == items.size)=true):=by
  intro q
  rw [Bool.and_eq_true,Bool.and_eq_true] at q
  have q1:((sIx items.size 0 lo:Nat):Int)=0:=eq_of_beq q.1.1
  have q2:sIx items.size items.size hi-sIx items.size 0 lo=items.size:=eq_of_beq q.2
  exact hw ⟨by omega,by omega⟩
 show wpAny _ _ (if (((sIx items.size 0 lo:Nat):Int) == 0 && (1:Int) == 1 && (sIx items.size items.size hi-sIx items.size 0 lo) == items.size)=true then _ else _) _ _ s
 rw [if_neg hno,pick_gen]
 first
  | exact wpAny_bind (m:=Builtin.Tuple.tupleExact _) (wpAny_newObj_type (wpAny_pure ⟨_,rfl,wpAny_pure h⟩) htake)
  | exact wpAny_bind (m:=Builtin.Tuple.tupleExact _) (wpAny_newObj_type (wpAny_bind (wpAny_pure (wpAny_pure ⟨_,rfl,wpAny_pure h⟩))) htake)
  | exact wpAny_bind (wpAny_bind (m:=Builtin.Tuple.tupleExact _) (wpAny_newObj_type (wpAny_pure (wpAny_pure ⟨_,rfl,wpAny_pure h⟩)) htake))
  | exact wpAny_bind (wpAny_bind (m:=Builtin.Tuple.tupleExact _) (wpAny_newObj_type (wpAny_pure ⟨_,rfl,wpAny_pure h⟩) htake))
end
end HT
namespace L2
open PySem PySem.Spec PyProof.Rows
noncomputable abbrev TO:=St->Hp->(Option Int->Hp->Prop)->Prop
noncomputable def PO (X:Cx) (e:Option Expr) (t:TO):Prop :=
 ∀(pins:List (Addr × Obj)) (s:Shared) (σ:St) (H:Hp) (Q:Option Int->Hp->Prop),Inv X pins σ H s->t σ H Q ->
  wpAny (model X.prog X.w) X.A (evalPart e X.env) (λu s'=>∃o H',Inv X pins σ H' s'/\IsPart u o/\Q o H') X.xe s
noncomputable def tNoPart:TO:=λ_ H Q=>Q none H
noncomputable def tPart (t:TE):TO:=λσ H Q=>t σ H λx H1=>∃i,x=.int i/\Q (some i) H1
section
variable {X:Cx} {e:Expr} {te:TE} {lo hi:Option Expr} {tl th:TO} {pos p2:Pos}
theorem po_none:PO X none tNoPart:=by
 intro pins s σ H Q I h
 rw [evalPart_none]
 exact wpAny_pure ⟨none,H,I,.none,h⟩
theorem po_some (h:PE X e te):PO X (some e) (tPart te):=by
 intro pins s σ H Q I hw
 rw [evalPart_some]
 refine thn (h pins s σ H _ I hw) λu s1 ⟨x,H1,I1,r1,q1⟩=>?_
 obtain ⟨i,rfl,q⟩:=q1
 obtain ⟨t,rfl⟩:=r1
 exact ⟨some i,H1,I1,.int i t,q⟩
noncomputable def SlR (X:Cx) (r:V->Option Int->Option Int->Hp->VK->Prop):Prop :=
 ∀(pins:List (Addr × Obj)) (s:Shared) (σ:St) (H:Hp) (x:V) (v vl vu:Value) (lo hi:Option Int) (sl:Addr) (Q:VK),Inv X pins σ H s->RelV x v->s.heap.IsSliceOf sl vl vu .none->IsPart vl lo->IsPart vu hi->r x lo hi H Q ->
  ∃T id,typeLookup (.type T) "__getitem__" = pure (some (.builtin id))/\s.TypeIs v T/\wpAny (model X.prog X.w) X.A (getItem v (.ref sl)) (EP X pins σ Q) X.xe s
theorem SlR.or {r r':V->Option Int->Option Int->Hp->VK->Prop} (h:SlR X r) (h':SlR X r'):SlR X (λx lo hi H Q=>r x lo hi H Q\/r' x lo hi H Q):=by
 intro pins s σ H x v vl vu lo hi sl Q I rx hs pl pu q
 rcases q with q | q
 ·exact h pins s σ H x v vl vu lo hi sl Q I rx hs pl pu q
 ·exact h' pins s σ H x v vl vu lo hi sl Q I rx hs pl pu q
noncomputable def tSl (r:V->Option Int->Option Int->Hp->VK->Prop) (te:TE) (tl th:TO):TE:=λσ H Q=>te σ H λx H1=>tl σ H1 λl H2=>th σ H2 λu H3=>r x l u H3 Q
theorem pe_slice {r:V->Option Int->Option Int->Hp->VK->Prop} (hr:SlR X r) (he:PE X e te) (hl:PO X lo tl) (hu:PO X hi th):PE X (.Subscript e (.Slice lo hi none p2) pos) (tSl r te tl th):=by
 intro pins s σ H Q I h
 refine Subscript_ (thn (he pins s σ H _ I h) λv s1 ⟨x,H1,I1,r1,q1⟩=>?_)
 refine wpAny_Slice (thn (hl pins s1 σ H1 _ I1 q1) λvl s2 ⟨l,H2,I2,pl,q2⟩=>thn (hu pins s2 σ H2 _ I2 q2) λvu s3 ⟨u,H3,I3,pu,q3⟩=>?_)
 rw [evalPart_none]
 refine wpAny_pure ?_
 have I4:Inv X pins σ H3 { s3 with heap:=s3.heap.push { cls:=.type "slice",data:=.fields #[vl,vu,.none] } }:=I3.kept (t':=s3.toks) λb ob q=>Heap.get?_push_of_some _ q
 obtain ⟨T,id,hT,ht,hg⟩:=hr pins { s3 with heap:=s3.heap.push { cls:=.type "slice",data:=.fields #[vl,vu,.none] } } σ H3 x v vl vu l u s3.heap.objs.size Q I4 r1 (Heap.IsSliceOf.new ..) pl pu q3
 show wpAny (model X.prog X.w) X.A (subscriptTail e (.Slice lo hi none p2) v (.ref s3.heap.objs.size)) (EP X pins σ Q) X.xe { s3 with heap:=s3.heap.push { cls:=.type "slice",data:=.fields #[vl,vu,.none] } }
 exact tail_any (ops:=[.ref s3.heap.objs.size,v]) ht hT hg (by with_unfolding_all rfl)
noncomputable def cutV (xs:List V) (lo hi:Option Int):List V:=(xs.drop (HT.sIx xs.length 0 lo)).take (HT.sIx xs.length xs.length hi-HT.sIx xs.length 0 lo)
theorem cutV_length (xs:List V) (lo hi:Option Int):(cutV xs lo hi).length<=xs.length:=by
 unfold cutV
 rw [List.length_take,List.length_drop]
 omega
noncomputable def rSlT (K:PySem.W.Frag):V->Option Int->Option Int->Hp->VK->Prop:=λx lo hi H Q=>∃a xs,x=.ref a/\SqT K H a xs /\
 ¬(HT.sIx xs.length 0 lo=0/\HT.sIx xs.length xs.length hi=xs.length)/\∀p,H p=none->Q (.ref p) (upd H p (.tup (cutV xs lo hi)))
theorem sl_tup:SlR X (rSlT X.K):=by
 intro pins s σ H x v vl vu lo hi sl Q I rx hs pl pu h
 obtain ⟨a,xs,rfl,hx,hw,q⟩:=h
 cases rx
 obtain ⟨its,r,ht,hz⟩:=I.tuple hx
 have hlen:its.toArray.size=xs.length:=by rw [List.size_toArray];exact r.length.symm
 refine ⟨"tuple",_,PyProof.Rows.slot_tuple_getitem.lookup,ht.typeIs,?_⟩
 refine HT.getItem_tuple_cut ht hs pl pu (by rw [hlen];exact hw) ?_ (by rw [hlen];exact hz)
 rw [hlen]
 refine ⟨.ref s.heap.objs.size,_,I.laid (t':=s.toks) (o:=.tup (cutV xs lo hi)) (λb ob q=>Heap.get?_push_of_some _ q) (Nat.le_refl _) ?_,rfl,q _ (I.hok.fresh (Nat.le_refl _))⟩
 exact ⟨Nat.le_trans (cutV_length xs lo hi) hz,_,(r.drop (HT.sIx xs.length 0 lo)).take (HT.sIx xs.length xs.length hi-HT.sIx xs.length 0 lo),IsTup.new _ _⟩
noncomputable def rCatT (K:PySem.W.Frag):R2:=λx y H Q=>∃a b xs ys,x=.ref a/\y=.ref b/\SqT K H a xs/\SqT K H b ys/\xs≠[]/\xs.length+ys.length<=sizeLine /\
 (ys=[]->Q (.ref a) H)/\(ys≠[]->∀p,H p=none->Q (.ref p) (upd H p (.tup (xs++ys))))
theorem Vals.nil_iff {xs:List V} {us:List Value} (r:Vals xs us):us=[]↔xs=[]:=by
 cases r with
 | nil=>simp
 | cons _ _=>simp
theorem op_catT:OpR X (binaryOp .Add) (rCatT X.K):=by
 intro pins s σ H x y v u Q I rx ry h
 obtain ⟨a,b,xs,ys,rfl,rfl,ha,hb,hx,hz,q1,q2⟩:=h
 cases rx
 cases ry
 obtain ⟨its,r1,p1,_⟩:=I.tuple ha
 obtain ⟨its2,r2,p2,_⟩:=I.tuple hb
 refine HT.cat_tup p1 p2 (λz=>hx (r1.nil_iff.mp z)) (λz=>⟨.ref a,H,I,rfl,q1 (r2.nil_iff.mp z)⟩) (λz=>?_) (by rw [← r1.length,← r2.length];exact hz)
 refine ⟨.ref s.heap.objs.size,_,I.laid (t':=s.toks) (o:=.tup (xs++ys)) (λb ob q=>Heap.get?_push_of_some _ q) (Nat.le_refl _) ?_,rfl,q2 (λw=>z (r2.nil_iff.mpr w)) _ (I.hok.fresh (Nat.le_refl _))⟩
 exact ⟨by rw [List.length_append];exact hz,_,r1.append r2,IsTup.new _ _⟩
end
end L2
namespace L2
open PySem PySem.Spec PyProof.Rows
noncomputable def ixN (n:Nat) (i:Int):Option Nat:=if 0<=i then (if i<n then some i.toNat else none) else if -(n:Int)<=i then some (i+n).toNat else none
noncomputable def atI {α:Type} (xs:List α) (i:Int):Option α:=(ixN xs.length i).bind λj=>xs[j]?
theorem ixN_seq {n:Nat} {i:Int} {j:Nat} (h:ixN n i=some j):seqIndex? i n=some j/\j<n /\ -(n:Int)<=i/\i<n:=by
 unfold ixN at h
 by_cases h0:0<=i
 ·rw [if_pos h0] at h
  by_cases h1:i<n
  ·rw [if_pos h1] at h
   have e:i.toNat=j:=Option.some.inj h
   exact ⟨by rw [seqIndex_of h0 h1,e],by omega,by omega,h1⟩
  ·rw [if_neg h1] at h;cases h
 ·rw [if_neg h0] at h
  by_cases h1:-(n:Int)<=i
  ·rw [if_pos h1] at h
   have e:(i+n).toNat=j:=Option.some.inj h
   exact ⟨by rw [seqIndex_neg (by omega) h1,e],by omega,h1,by omega⟩
  ·rw [if_neg h1] at h;cases h
theorem atI_get {α:Type} {xs:List α} {i:Int} {v:α} (h:atI xs i=some v):∃j,seqIndex? i xs.length=some j/\xs[j]? = some v/\j<xs.length /\ -(xs.length:Int)<=i/\i<xs.length:=by
 unfold atI at h
 cases e:ixN xs.length i with
 | none=>rw [e] at h;cases h
 | some j =>
  rw [e] at h
  obtain ⟨h1,h2,h3,h4⟩:=ixN_seq e
  exact ⟨j,h1,h,h2,h3,h4⟩
noncomputable def PlainIx (b:Expr):Prop:=∀o i,subscripted b false o i=operate [o,i] (getItem o i)
noncomputable def IxR (X:Cx) (r:R2):Prop :=
 ∀(value slice:Expr) (pins:List (Addr × Obj)) (s:Shared) (σ:St) (H:Hp) (x y:V) (v u:Value) (Q:VK),Inv X pins σ H s->RelV x v->RelV y u->r x y H Q ->
  subscripted slice false v u=operate [v,u] (getItem v u)->wpAny (model X.prog X.w) X.A (subscriptTail value slice v u) (EP X pins σ Q) X.xe s
noncomputable def MtR (X:Cx) (id:String) (r:V->List V->Hp->VK->Prop):Prop :=
 ∀(pins:List (Addr × Obj)) (s:Shared) (σ:St) (H:Hp) (x:V) (xs:List V) (v:Value) (us:List Value) (Q:VK),Inv X pins σ H s->RelV x v->Vals xs us->r x xs H Q ->
  wpAny (model X.prog X.w) X.A (call (.builtin id) (v::us)) (EP X pins σ Q) X.xe s
section
variable {X:Cx} {a b:Expr} {ta tb:TE} {pos:Pos}
theorem IxR.or {r r':R2} (h:IxR X r) (h':IxR X r'):IxR X (λx y H Q=>r x y H Q\/r' x y H Q):=by
 intro value slice pins s σ H x y v u Q I rx ry q hs
 rcases q with q | q
 ·exact h value slice pins s σ H x y v u Q I rx ry q hs
 ·exact h' value slice pins s σ H x y v u Q I rx ry q hs
theorem MtR.or {id:String} {r r':V->List V->Hp->VK->Prop} (h:MtR X id r) (h':MtR X id r'):MtR X id (λx xs H Q=>r x xs H Q\/r' x xs H Q):=by
 intro pins s σ H x xs v us Q I rx rs q
 rcases q with q | q
 ·exact h pins s σ H x xs v us Q I rx rs q
 ·exact h' pins s σ H x xs v us Q I rx rs q
theorem pe_ix {r:R2} (hr:IxR X r) (ha:PE X a ta) (hb:PE X b tb) (hs:PlainIx b):PE X (.Subscript a b pos) (tOp r ta tb):=by
 intro pins s σ H Q I h
 exact Subscript_ (binT ha hb I h λv u s2 x y H2 I2 rx ry q=>hr a b pins s2 σ H2 x y v u Q I2 rx ry q (hs _ _))
noncomputable def rIxL (K:PySem.W.Frag):R2:=λx y H Q=>∃p xs i v,x=.ref p/\y=.int i/\SqL K H p xs/\atI xs i=some v/\Q v H
noncomputable def rIxT (K:PySem.W.Frag):R2:=λx y H Q=>∃p xs i v,x=.ref p/\y=.int i/\SqT K H p xs/\atI xs i=some v/\Q v H
noncomputable def rIxS:R2:=λx y H Q=>∃z i c,x=.str z/\y=.int i/\z.length<=sizeLine/\atI z.cps.toList i=some c/\Q (.str ⟨#[c]⟩) H
theorem ix_list:IxR X (rIxL X.K):=by
 intro value slice pins s σ H x y v u Q I rx ry h hs
 obtain ⟨p,xs,i,z,rfl,rfl,hq,he,q⟩:=h
 cases rx
 obtain ⟨t,rfl⟩:=ry
 obtain ⟨its,r,pl,hz⟩:=I.list hq
 obtain ⟨j,h1,h2,h3,h4,h5⟩:=atI_get he
 obtain ⟨w,ew,rw'⟩:=r.get h2
 have hl:=r.length
 have hn:=line63
 have fin:EP X pins σ Q w s:=⟨z,H,I,rw',q⟩
 by_cases h0:0<=i
 ·have hj:i.toNat=j:=by
   rw [seqIndex_of h0 h5] at h1
   exact Option.some.inj h1
  exact item_listR pl.isList h0 (by omega) (by rw [hj];simpa using ew) fin hs
 ·have hj:(i+(its.toArray.size:Int)).toNat=j:=by
   rw [seqIndex_neg (by omega) h4] at h1
   rw [List.size_toArray,← hl]
   exact Option.some.inj h1
  exact subscriptTail_builtinR (x:=w) pl.isList.typeIs slot_list_getitem.lookup
   (wpAny_getItem_list_neg (Q:=λr s'=>r=w/\EP X pins σ Q r s') pl.isList (by omega) (by rw [List.size_toArray] <;> omega) (by omega) (by rw [hj];simpa using ew) ⟨rfl,fin⟩) hs
theorem ix_tup:IxR X (rIxT X.K):=by
 intro value slice pins s σ H x y v u Q I rx ry h hs
 obtain ⟨p,xs,i,z,rfl,rfl,hq,he,q⟩:=h
 cases rx
 obtain ⟨t,rfl⟩:=ry
 obtain ⟨its,r,pl,hz⟩:=I.tuple hq
 obtain ⟨j,h1,h2,h3,h4,h5⟩:=atI_get he
 obtain ⟨w,ew,rw'⟩:=r.get h2
 have hl:=r.length
 have hn:=line63
 have fin:EP X pins σ Q w s:=⟨z,H,I,rw',q⟩
 exact subscriptTail_builtinR (x:=w) pl.typeIs slot_tuple_getitem.lookup
  (getItem_tuple (j:=j) (Q:=λr s'=>r=w/\EP X pins σ Q r s') pl (by omega) (by omega) (by rw [List.size_toArray,← hl];exact h1) (by simpa using ew) ⟨rfl,fin⟩) hs
theorem ix_str:IxR X rIxS:=by
 intro value slice pins s σ H x y v u Q I rx ry h hs
 obtain ⟨z,i,c,rfl,rfl,hz,he,q⟩:=h
 obtain ⟨t,rfl⟩:=rx
 obtain ⟨t',rfl⟩:=ry
 obtain ⟨j,h1,h2,h3,h4,h5⟩:=atI_get he
 have hl:z.cps.toList.length=z.length:=by simp [Str.length]
 rw [hl] at h1 h4 h5
 have hn:=line63
 exact tail_any (typeIs_str s z t) slot_str_getitem.lookup (getItem_str (c:=c) (by
  have e1:decide (i < -(2 ^ 63:Int))=false:=decide_eq_false (by omega)
  have e2:decide (i ≥ 2 ^ 63)=false:=decide_eq_false (by omega)
  rw [e1,e2,Bool.or_false]) (by rw [h1];simpa using h2) ⟨.str ⟨#[c]⟩,H,I.tok _,⟨_,rfl⟩,q⟩) hs
noncomputable def rIx (K:PySem.W.Frag):R2:=λx y H Q=>rIxL K x y H Q\/rIxT K x y H Q\/rIxS x y H Q
theorem ix_seq:IxR X (rIx X.K):=ix_list.or (ix_tup.or ix_str)
theorem mapSeq_set (its:List Value) (n j:Nat) (u:Value):Obj.mapSeq (·.setIfInBounds j u) { cls:=.type "list",data:=.seq its.toArray n }={ cls:=.type "list",data:=.seq (its.set j u).toArray n }:=by
 simp [Obj.mapSeq]
theorem Inv.lst {pins:List (Addr × Obj)} {σ:St} {H:Hp} {s:Shared} {p:Addr} {xs:List V} (I:Inv X pins σ H s) (h:H p=some (.lst xs)) :
  ∃(its:List Value) (n:Nat),Vals xs its/\s.heap.get? p=some { cls:=.type "list",data:=.seq its.toArray n }/\xs.length<=sizeLine:=by
 obtain ⟨z,its,n,r,e⟩:=I.hok p _ h
 exact ⟨its,n,r,e,z⟩
theorem Inv.lstUpd {pins:List (Addr × Obj)} {σ:St} {H:Hp} {s:Shared} {p:Addr} {xs ys:List V} {its its':List Value} {n n':Nat} {f:Obj->Obj} (I:Inv X pins σ H s) (h:H p=some (.lst xs))
  (ho:s.heap.get? p=some { cls:=.type "list",data:=.seq its.toArray n }) (hf:f { cls:=.type "list",data:=.seq its.toArray n }={ cls:=.type "list",data:=.seq its'.toArray n' }) (r:Vals ys its') (hz:ys.length<=sizeLine) (t:Nat) :
  Inv X pins σ (upd H p (.lst ys)) { s with heap:=s.heap.update p f,toks:=t }:=by
 have e:(s.heap.update p f).get? p=some { cls:=.type "list",data:=.seq its'.toArray n' }:=by
  rw [Heap.get?_update_self f ho (by rw [hf] <;> rfl),hf]
 refine I.write (x:=p) (e:=p) (by rw [h];trivial) (.inl rfl) (λb u hb q=>(Heap.get?_update_other _ _ (Ne.symm hb)).trans q) ⟨_,e⟩ ?_
 exact ⟨hz,its',n',r,e⟩
noncomputable def rSetL:V->V->V->Hp->(Hp->Prop)->Prop:=λo i v H Q=>∃p xs k j,o=.ref p/\i=.int k/\H p=some (.lst xs)/\ixN xs.length k=some j/\Q (upd H p (.lst (xs.set j v)))
theorem set_list:PSet X rSetL:=by
 intro pins s σ H o i v ov iv u Q I ro ri rv h
 obtain ⟨p,xs,k,j,rfl,rfl,hp,hj,q⟩:=h
 cases ro
 obtain ⟨t,rfl⟩:=ri
 obtain ⟨its,n,r,ho,hz⟩:=I.lst hp
 obtain ⟨h1,h2,h3,h4⟩:=ixN_seq hj
 have hl:=r.length
 have hn:=line63
 have I':Inv X pins σ (upd H p (.lst (xs.set j v))) { s with heap:=s.heap.update p (Obj.mapSeq (·.setIfInBounds j u)) } :=
  I.lstUpd hp ho (mapSeq_set its n j u) (r.set rv j) (by rw [List.length_set];exact hz) s.toks
 by_cases h0:0<=k
 ·have hk:k.toNat=j:=by
   rw [seqIndex_of h0 h4] at h1
   exact Option.some.inj h1
  exact PySem.W.ki_setAt ho h0 (by omega) (by rw [List.size_toArray,← hl];exact h4) (by rw [hk];exact ⟨_,I',q⟩)
 ·have hk:(k+(its.toArray.size:Int)).toNat=j:=by
   rw [seqIndex_neg (by omega) h3] at h1
   rw [List.size_toArray,← hl]
   exact Option.some.inj h1
  exact PySem.W.ki_setBack ho (by omega) (by rw [List.size_toArray,← hl];exact h3) (by omega) (by rw [hk];exact ⟨_,I',q⟩)
theorem slice_bounds (lo hi:Option Int) (n:Nat):(sliceBounds lo hi none n).1=((HT.sIx n 0 lo:Nat):Int)/\(sliceBounds lo hi none n).2.1=((HT.sIx n n hi:Nat):Int)/\(sliceBounds lo hi none n).2.2=1:=by
 refine ⟨?_,?_,rfl⟩
 ·cases lo with
  | none=>simp [sliceBounds,HT.sIx]
  | some i =>
   simp only [sliceBounds,HT.sIx,Option.getD_none,show (1:Int) > 0 by decide,if_true]
   by_cases h:i<0
   ·simp only [h,if_true] <;> omega
   ·simp only [h,if_false] <;> omega
 ·cases hi with
  | none=>simp [sliceBounds,HT.sIx]
  | some i =>
   simp only [sliceBounds,HT.sIx,Option.getD_none,show (1:Int) > 0 by decide,if_true]
   by_cases h:i<0
   ·simp only [h,if_true] <;> omega
   ·simp only [h,if_false] <;> omega
theorem slicePick_cut (its:List Value) (lo hi:Option Int):slicePick its.toArray lo hi none=((its.drop (HT.sIx its.length 0 lo)).take (HT.sIx its.length its.length hi-HT.sIx its.length 0 lo)).toArray:=by
 obtain ⟨h1,h2,h3⟩:=slice_bounds lo hi its.toArray.size
 unfold slicePick
 rw [h1,h2,h3]
 simp only [sliceRange_one,pick_run,List.size_toArray] <;> rfl
noncomputable def rSlL (K:PySem.W.Frag):V->Option Int->Option Int->Hp->VK->Prop:=λx lo hi H Q=>∃a xs,x=.ref a/\SqL K H a xs/\∀p,H p=none->Q (.ref p) (upd H p (.lst (cutV xs lo hi)))
theorem sl_list:SlR X (rSlL X.K):=by
 intro pins s σ H x v vl vu lo hi sl Q I rx hs pl pu h
 obtain ⟨a,xs,rfl,hx,q⟩:=h
 cases rx
 obtain ⟨its,r,ht,hz⟩:=I.list hx
 have hlen:=r.length
 refine ⟨"list",_,slot_list_getitem.lookup,ht.isList.typeIs,?_⟩
 refine wpAny_getItem_list_slice ht.isList hs pl pu .none (by simp) ?_ (by rw [List.size_toArray] <;> omega)
 rw [slicePick_cut,← hlen]
 refine ⟨.ref s.heap.objs.size,_,I.laid (t':=s.toks) (o:=.lst (cutV xs lo hi)) (λb ob q=>Heap.get?_push_of_some _ q) (Nat.le_refl _) ?_,rfl,q _ (I.hok.fresh (Nat.le_refl _))⟩
 exact ⟨Nat.le_trans (cutV_length xs lo hi) hz,_,0,(r.drop (HT.sIx xs.length 0 lo)).take (HT.sIx xs.length xs.length hi-HT.sIx xs.length 0 lo),Heap.get?_push_size _ rfl⟩
noncomputable def flatV:V->Bool
 | .non=>true
 | .bl _=>true
 | .int _=>true
 | .str _=>true
 | _=>false
noncomputable def eqV:V->V->Bool
 | .non,.non=>true
 | .bl a,.bl b=>a == b
 | .bl a,.int b=>(if a then 1 else 0) == b
 | .int a,.bl b=>a == (if b then 1 else 0)
 | .int a,.int b=>a == b
 | .str a,.str b=>a == b
 | _,_=>false
theorem eqAt_V {A:Around} {s:Shared} {y x:V} {u v:Value} (ry:RelV y u) (rx:RelV x v) (fy:flatV y=true) (fx:flatV x=true):SeqAt.EqAt A s u v (eqV y x):=by
 cases y with
 | non =>
  cases ry
  cases x with
  | non=>cases rx;exact SeqAt.EqAt.same _
  | bl b=>cases rx;exact SeqAt.EqAt.none_bool b
  | int b=>obtain ⟨t,rfl⟩:=rx;exact SeqAt.EqAt.none_int b t
  | str b=>obtain ⟨t,rfl⟩:=rx;exact SeqAt.EqAt.none_str b t
  | _=>exact absurd (show false=true from fx) Bool.false_ne_true
 | bl a =>
  cases ry
  cases x with
  | non=>cases rx;exact SeqAt.EqAt.bool_none a
  | bl b=>cases rx;exact SeqAt.EqAt.bool_bool a b
  | int b=>obtain ⟨t,rfl⟩:=rx;exact SeqAt.EqAt.bool_int a b t
  | str b=>obtain ⟨t,rfl⟩:=rx;exact SeqAt.EqAt.bool_str a b t
  | _=>exact absurd (show false=true from fx) Bool.false_ne_true
 | int a =>
  obtain ⟨t',rfl⟩:=ry
  cases x with
  | non=>cases rx;exact SeqAt.EqAt.int_none a t'
  | bl b=>cases rx;exact SeqAt.EqAt.int_bool a t' b
  | int b=>obtain ⟨t,rfl⟩:=rx;exact SeqAt.EqAt.int_int a t' b t
  | str b=>obtain ⟨t,rfl⟩:=rx;exact SeqAt.EqAt.int_str a t' b t
  | _=>exact absurd (show false=true from fx) Bool.false_ne_true
 | str a =>
  obtain ⟨t',rfl⟩:=ry
  cases x with
  | non=>cases rx;exact SeqAt.EqAt.str_none a t'
  | bl b=>cases rx;exact SeqAt.EqAt.str_bool a t' b
  | int b=>obtain ⟨t,rfl⟩:=rx;exact SeqAt.EqAt.str_int a t' b t
  | str b=>obtain ⟨t,rfl⟩:=rx;exact SeqAt.EqAt.str_str a t' b t
  | _=>exact absurd (show false=true from fx) Bool.false_ne_true
 | _=>exact absurd (show false=true from fy) Bool.false_ne_true
noncomputable def eqU (x:V) (u:Value):Bool:=match u with
 | .none=>eqV .non x
 | .bool b=>eqV (.bl b) x
 | .int i _=>eqV (.int i) x
 | .str z _=>eqV (.str z) x
 | _=>false
theorem eqU_of {x y:V} {u:Value} (r:RelV y u) (f:flatV y=true):eqU x u=eqV y x:=by
 cases y with
 | non=>cases r;rfl
 | bl b=>cases r;rfl
 | int i=>obtain ⟨t,rfl⟩:=r;rfl
 | str z=>obtain ⟨t,rfl⟩:=r;rfl
 | _=>exact absurd (show false=true from f) Bool.false_ne_true
theorem any_eqU {x:V}:∀{xs:List V} {us:List Value},Vals xs us->xs.all flatV=true->us.any (eqU x)=xs.any λy=>eqV y x
 | _,_,.nil,_=>rfl
 | y::xs,u::us,.cons r t,f=>by
  rw [List.all_cons,Bool.and_eq_true] at f
  rw [List.any_cons,List.any_cons,eqU_of r f.1,any_eqU t f.2]
theorem mem_eqAt {A:Around} {s:Shared} {x:V} {v:Value} (rx:RelV x v) (fx:flatV x=true):∀{xs:List V} {us:List Value},Vals xs us->xs.all flatV=true->∀u∈us,SeqAt.EqAt A s u v (eqU x u)
 | _,_,.nil,_=>λu hu=>by cases hu
 | y::xs,u::us,.cons r t,f=>λu' hu=>by
  rw [List.all_cons,Bool.and_eq_true] at f
  rcases List.mem_cons.mp hu with rfl | hu
  ·rw [eqU_of r f.1];exact eqAt_V r rx f.1 fx
  ·exact mem_eqAt rx fx t f.2 u' hu
noncomputable def inV (x:V) (xs:List V):Bool:=xs.any λy=>eqV y x
noncomputable def rIn (K:PySem.W.Frag) (neg:Bool):R2:=λx y H Q=>∃p xs,y=.ref p/\(SqL K H p xs\/SqT K H p xs)/\flatV x=true/\xs.all flatV=true/\Q (.bl (if neg then !inV x xs else inV x xs)) H
theorem op_in_seq:OpR X (compareOp .In) (rIn X.K false):=by
 intro pins s σ H x y v u Q I rx ry h
 obtain ⟨p,xs,rfl,hq,fx,fs,q⟩:=h
 cases ry
 rcases hq with hq | hq
 ·obtain ⟨its,r,pl,hz⟩:=I.list hq
  refine SeqAt.in_listAt (eqU x) pl.isList (λw hw=>mem_eqAt rx fx r fs w (by simpa using hw)) ⟨.bl _,H,I,rfl,?_⟩
  rw [show its.toArray.any (eqU x)=its.any (eqU x) by simp,any_eqU r fs]
  exact q
 ·obtain ⟨its,r,pl,hz⟩:=I.tuple hq
  refine SeqAt.in_tupleAt (eqU x) pl (λw hw=>mem_eqAt rx fx r fs w (by simpa using hw)) ⟨.bl _,H,I,rfl,?_⟩
  rw [show its.toArray.any (eqU x)=its.any (eqU x) by simp,any_eqU r fs]
  exact q
theorem op_notIn_seq:OpR X (compareOp .NotIn) (rIn X.K true):=by
 intro pins s σ H x y v u Q I rx ry h
 obtain ⟨p,xs,rfl,hq,fx,fs,q⟩:=h
 cases ry
 rcases hq with hq | hq
 ·obtain ⟨its,r,pl,hz⟩:=I.list hq
  refine SeqAt.notIn_listAt (eqU x) pl.isList (λw hw=>mem_eqAt rx fx r fs w (by simpa using hw)) ⟨.bl _,H,I,rfl,?_⟩
  rw [show its.toArray.any (eqU x)=its.any (eqU x) by simp,any_eqU r fs]
  exact q
 ·obtain ⟨its,r,pl,hz⟩:=I.tuple hq
  refine SeqAt.notIn_tupleAt (eqU x) pl (λw hw=>mem_eqAt rx fx r fs w (by simpa using hw)) ⟨.bl _,H,I,rfl,?_⟩
  rw [show its.toArray.any (eqU x)=its.any (eqU x) by simp,any_eqU r fs]
  exact q
theorem op_notIn_str:OpR X (compareOp .NotIn) (λx y H Q=>∃i j,x=.str i/\y=.str j/\Q (.bl (!(!(Builtin.Str.occurrences j i 0 j.length 1).isEmpty))) H):=by
 intro pins s σ H x y v u Q I rx ry h
 obtain ⟨i,j,rfl,rfl,q⟩:=h
 obtain ⟨t,rfl⟩:=rx
 obtain ⟨t',rfl⟩:=ry
 exact notIn_str ⟨.bl _,H,I,rfl,q⟩
theorem CallR.or {f:Value} {r r':List V->Hp->VK->Prop} (h:CallR X f r) (h':CallR X f r'):CallR X f (λxs H Q=>r xs H Q\/r' xs H Q):=by
 intro pins s σ H xs us Q I rs q
 rcases q with q | q
 ·exact h pins s σ H xs us Q I rs q
 ·exact h' pins s σ H xs us Q I rs q
theorem call_tuple_of:CallR X (.type "tuple") (λxs H Q=>∃p ys,xs=[.ref p]/\((SqL X.K H p ys/\∀l,H l=none->Q (.ref l) (upd H l (.tup ys)))\/(SqT X.K H p ys/\Q (.ref p) H))):=by
 intro pins s σ H xs us Q I r h
 obtain ⟨p,ys,rfl,h⟩:=h
 obtain ⟨u,rfl,rx⟩:=vals1 r
 cases rx
 rcases h with ⟨hq,q⟩ | ⟨hq,q⟩
 ·obtain ⟨its,r',pl,hz⟩:=I.list hq
  have hlen:=r'.length
  refine call_tuple_list pl.isList (λh' kp=>?_) (by simp only [List.size_toArray] <;> omega)
  have I1:Inv X pins σ H { s with heap:=h' }:=I.kept (t':=s.toks) kp
  have I2:Inv X pins σ (upd H h'.objs.size (.tup ys)) { s with heap:=h'.push { cls:=.type "tuple",data:=.seq its.toArray } } :=
   I1.laid (t':=s.toks) (λb o e=>Heap.get?_push_of_some _ e) (Nat.le_refl _) (show ObjOk X.prog X.w _ _ _ (.tup ys) from ⟨hz,its,r',IsTup.new _ _⟩)
  exact ⟨.ref h'.objs.size,_,I2,rfl,q _ (I1.hok.fresh (Nat.le_refl _))⟩
 ·obtain ⟨its,r',pl,hz⟩:=I.tuple hq
  exact call_tuple_same pl ⟨.ref p,H,I,rfl,q⟩
noncomputable def tyV (K:PySem.W.Frag) (T:String) (x:V) (H:Hp):Prop:=match x with
 | .str _=>T = "str"
 | .int _=>T = "int"
 | .ref p=>(T = "list" /\ ∃xs,SqL K H p xs)\/(T = "tuple" /\ ∃o,K.lookup p=some o/\o.cls=.type "tuple" /\ o.dict=none) \/
   (T = "dict" /\ ((∃kvs,H p=some (.dK kvs))\/∃kvs,H p=some (.dT kvs)))\/(T = "set" /\ ∃S n,H p=some (.set S n))
 | _=>False
theorem tyV_is {pins:List (Addr × Obj)} {σ:St} {H:Hp} {s:Shared} {T:String} {x:V} {v:Value} (I:Inv X pins σ H s) (r:RelV x v) (ty:tyV X.K T x H) :
  s.TypeIs v T/\∀a,v=.ref a->∃ob,s.heap.get? a=some ob/\ob.dict=none:=by
 cases x with
 | str z =>
  obtain ⟨t,rfl⟩:=r
  cases (show T = "str" from ty)
  exact ⟨typeIs_str s z t,λ_ e=>nomatch e⟩
 | int i =>
  obtain ⟨t,rfl⟩:=r
  cases (show T = "int" from ty)
  exact ⟨typeIs_int s i t,λ_ e=>nomatch e⟩
 | ref p =>
  cases r
  rcases ty with ⟨rfl,xs,hq⟩ | ⟨rfl,o,hk,hc,hd⟩ | ⟨rfl,hk⟩ | ⟨rfl,S,n,hk⟩
  ·obtain ⟨its,_,pl,_⟩:=I.list hq
   refine ⟨pl.isList.typeIs,λa e=>?_⟩
   cases e
   obtain ⟨o,n,e,c,hd,_⟩:=pl
   exact ⟨o,e,hd⟩
  ·refine ⟨⟨o,I.kIn p o hk,hc⟩,λa e=>?_⟩
   cases e
   exact ⟨o,I.kIn _ o hk,hd⟩
  ·have z:∃o,s.heap.get? p=some o/\o.ExactDict:=by
    rcases hk with ⟨kvs,hk⟩ | ⟨kvs,hk⟩
    ·obtain ⟨_,_,_,_,o,_,_,e,ex,_⟩:=I.hok p _ hk
     exact ⟨o,e,ex⟩
    ·obtain ⟨_,_,_,_,o,_,_,e,ex,_⟩:=I.hok p _ hk
     exact ⟨o,e,ex⟩
   obtain ⟨o,e,ex⟩:=z
   refine ⟨⟨o,e,ex.1⟩,λa e2=>?_⟩
   cases e2
   exact ⟨o,e,ex.2.1⟩
  ·obtain ⟨o,_,_,_,e,ex,_⟩:=I.hok p _ hk
   refine ⟨⟨o,e,ex.1⟩,λa e2=>?_⟩
   cases e2
   exact ⟨o,e,ex.2.1⟩
 | _=>exact False.elim ty
noncomputable def tBM (K:PySem.W.Frag) (T:String) (r:V->List V->Hp->VK->Prop) (to:TE) (t:TA):TE:=λσ H Q=>to σ H λx H1=>tyV K T x H1/\t σ H1 λxs H2=>r x xs H2 Q
variable {o e:Expr} {es:List Expr} {to:TE} {t:TA} {name:Str} {apos cpos:Pos} {T id:String} {r:V->List V->Hp->VK->Prop}
theorem pe_bm (pa:PlainAttrs T) (slot:Slot T name id) (hty:typeOf (.builtin id)=pure (.type "method_descriptor")) (hm:MtR X id r) (ho:PE X o to) (ha:PA X (e::es) t)
  (hbase:attributeBase o name X.env (eval o X.env)=eval o X.env:=by rfl)
  (hfew:((backTo cpos (starEach (e::es) X.env)).all (λx=>!x.1) && (backToKw cpos (keywordEach [] X.env)).all (λx=>x.1.isSome)
   && decide ((e::es).length+([]:List Keyword).length+(if ([]:List Keyword).isEmpty then 0 else 1)<30))=true:=by rfl)
  (hline:(apos.endLine == cpos.line)=true:=by rfl) (hs:starEach (e::es) X.env=(false,eval e X.env)::starEach es X.env:=by rfl) (hplain:(backTo cpos (starEach es X.env)).any (·.1)=false:=by rfl) :
  PE X (.Call (.Attribute o name apos) (e::es) [] cpos) (tBM X.K T r to t):=by
 intro pins s σ H Q I h
 refine wpAny_Call_method_late hbase hfew hline rfl (thn (ho pins s σ H _ I h) λv s1 ⟨x,H1,I1,r1,ty,q1⟩=>?_)
 obtain ⟨h1,h2⟩:=tyV_is I1 r1 ty
 refine ⟨T,id,pa,slot,hty,h1,h2,?_⟩
 have hA:=ha cpos pins s1 σ H1 _ I1 q1
 rw [hs] at hA ⊢
 refine Calls.callWith_builtin (by show (false || (backTo cpos (starEach es X.env)).any (·.1))=false;rw [hplain] <;> rfl) (Calls.evalArgs_plain ?_)
 exact thn hA λus s2 ⟨vs,H2,I2,r2,q2⟩=>hm pins s2 σ H2 x vs v us Q I2 r1 r2 q2
end
end L2
namespace L2
open PySem PySem.Spec PyProof.Rows
noncomputable def MtM (X:Cx) (id:String) (r:V->List V->Hp->VK->Prop):Prop :=
 ∀(pins:List (Addr × Obj)) (s:Shared) (σ:St) (H:Hp) (x:V) (xs:List V) (v:Value) (us:List Value) (Q:VK),Inv X pins σ H s->RelV x v->Vals xs us->r x xs H Q ->
  wpAny (model X.prog X.w) X.A (call (.builtin id) (v::us)) (EP X pins σ Q) X.xe s
theorem Vals.one:∀{x:V} {us:List Value},Vals [x] us->∃u,us=[u]/\RelV x u
 | _,_,.cons r .nil=>⟨_,rfl,r⟩
theorem Vals.two:∀{x y:V} {us:List Value},Vals [x,y] us->∃u v,us=[u,v]/\RelV x u/\RelV y v
 | _,_,_,.cons r (.cons q .nil)=>⟨_,_,rfl,r,q⟩
theorem Vals.zero:∀{us:List Value},Vals [] us->us=[]
 | _,.nil=>rfl
theorem Vals.dropLast {xs:List V} {us:List Value} (h:Vals xs us):Vals xs.dropLast us.dropLast:=by
 induction h with
 | nil=>exact .nil
 | cons r t ih =>
  cases t with
  | nil=>exact .nil
  | cons q t'=>exact .cons r ih
theorem Vals.eraseIdx:∀{xs:List V} {us:List Value} (i:Nat),Vals xs us->Vals (xs.eraseIdx i) (us.eraseIdx i)
 | _,_,_,.nil=>.nil
 | _,_,0,.cons _ t=>t
 | _,_,i+1,.cons r t=>.cons r (Vals.eraseIdx i t)
theorem Vals.reverse {xs:List V} {us:List Value} (h:Vals xs us):Vals xs.reverse us.reverse:=by
 induction h with
 | nil=>exact .nil
 | cons r t ih=>rw [List.reverse_cons,List.reverse_cons];exact Vals.append ih (.cons r .nil)
theorem Vals.rep {xs:List V} {us:List Value} (h:Vals xs us):∀k:Nat,Vals (List.replicate k xs).flatten (List.replicate k us).flatten
 | 0=>.nil
 | k+1=>by
  rw [List.replicate_succ,List.replicate_succ,List.flatten_cons,List.flatten_cons]
  exact Vals.append h (Vals.rep h k)
theorem len_erase {α:Type}:∀(l:List α) (i:Nat),(l.eraseIdx i).length<=l.length
 | [],_=>Nat.le_refl _
 | _::_,0=>Nat.le_succ _
 | _::r,i+1=>Nat.succ_le_succ (len_erase r i)
theorem foldl_rep (its:List Value):∀(k:Nat) (acc:List Value),
  List.foldl (λx1 x2=>x1++x2) acc.toArray (List.replicate k its.toArray)=(acc++(List.replicate k its).flatten).toArray
 | 0,acc=>by simp
 | k+1,acc=>by
  have e:acc.toArray++its.toArray=(acc++its).toArray:=by simp
  have e2:(acc++its)++(List.replicate k its).flatten=acc++(List.replicate (k+1) its).flatten:=by
   rw [List.replicate_succ,List.flatten_cons,List.append_assoc]
  rw [← e2,← foldl_rep its k (acc++its),← e,List.replicate_succ,List.foldl_cons]
section
variable {X:Cx} {pins:List (Addr × Obj)} {σ:St} {H:Hp} {s:Shared} {l b:Addr} {xs ys zs:List V}
theorem Inv.lset {its its':List Value} {n:Nat} {f:Array Value->Array Value} {t':Nat} (I:Inv X pins σ H s) (hH:H l=some (.lst xs))
  (e:s.heap.get? l=some { cls:=.type "list",data:=.seq its.toArray n }) (hf:f its.toArray=its'.toArray) (hv:Vals ys its') (hz:ys.length<=sizeLine) :
  Inv X pins σ (upd H l (.lst ys)) { s with heap:=s.heap.update l (Obj.mapSeq f),toks:=t' }:=by
 have q:=PySem.IsL.update e f
 rw [hf] at q
 refine I.write (x:=l) (e:=l) (by rw [hH];exact trivial) (.inl rfl) (λb' u hb hu=>(Heap.get?_update_other s.heap (Obj.mapSeq f) (Ne.symm hb)).trans hu) ⟨_,q⟩ ?_
 exact ⟨hz,its',_,hv,q⟩
theorem Inv.lnew {its:List Value} {t':Nat} (I:Inv X pins σ H s) (hv:Vals ys its) (hz:ys.length<=sizeLine) :
  Inv X pins σ (upd H s.heap.objs.size (.lst ys)) { s with heap:=s.heap.push { cls:=.type "list",data:=.seq its.toArray },toks:=t' } :=
 I.laid (λ_ _ q=>Heap.get?_push_of_some _ q) (Nat.le_refl _) ⟨hz,its,0,hv,Heap.get?_push_size _ rfl⟩
theorem Inv.fresh (I:Inv X pins σ H s):H s.heap.objs.size=none:=I.hok.fresh (Nat.le_refl _)
theorem Inv.lstM (I:Inv X pins σ H s) (hH:H l=some (.lst xs)):xs.length<=sizeLine/\∃(its:List Value) (n:Nat),Vals xs its/\xs.length=its.length/\s.heap.get? l=some { cls:=.type "list",data:=.seq its.toArray n }:=by
 obtain ⟨z,its,n,r,e⟩:=I.hok l _ hH
 exact ⟨z,its,n,r,r.length,e⟩
theorem notLongL {n:Nat} (h:n<=sizeLine):Builtin.List.listTooLong n=false:=by
 unfold Builtin.List.listTooLong
 exact decide_eq_false (by omega)
end
section
variable {X:Cx}
noncomputable def rAppend:V->List V->Hp->VK->Prop:=λx vs H Q=>∃l xs y,x=.ref l/\vs=[y]/\H l=some (.lst xs)/\xs.length<sizeLine/\Q .non (upd H l (.lst (xs++[y])))
theorem mt_append:MtM X "list.append" rAppend:=by
 intro pins s σ H x vs v us Q I rx rv h
 obtain ⟨l,xs,y,rfl,rfl,hH,hz,q⟩:=h
 cases rx
 obtain ⟨u,rfl,ru⟩:=rv.one
 obtain ⟨z,its,n,r,hl,e⟩:=I.lstM hH
 refine call_meets F.slot_list_append ⟨_,e,rfl⟩ F.entry_list_append (F.args_list_append_2 _ _) (PySem.list_append l its.toArray n u (by rw [List.size_toArray];omega)) ⟨e,?_⟩
 refine ⟨.non,_,I.lset (its':=its++[u]) hH e (by simp) (r.append (.cons ru .nil)) ?_,rfl,q⟩
 rw [List.length_append,List.length_singleton]
 omega
noncomputable def rExtend:V->List V->Hp->VK->Prop:=λx vs H Q=>∃l b xs zs,x=.ref l/\vs=[.ref b]/\H l=some (.lst xs)/\H b=some (.lst zs)/\xs.length+zs.length<=sizeLine/\Q .non (upd H l (.lst (xs++zs)))
theorem mt_extend:MtM X "list.extend" rExtend:=by
 intro pins s σ H x vs v us Q I rx rv h
 obtain ⟨l,b,xs,zs,rfl,rfl,hH,hB,hz,q⟩:=h
 cases rx
 obtain ⟨u,rfl,ru⟩:=rv.one
 cases ru
 obtain ⟨z,its,n,r,hl,e⟩:=I.lstM hH
 obtain ⟨z2,its2,n2,r2,hl2,e2⟩:=I.lstM hB
 have hsz:its.toArray.size+its2.toArray.size<=sizeLine:=by rw [List.size_toArray,List.size_toArray];omega
 have hlong:¬(!its.toArray.isEmpty && Builtin.List.listTooLong (its.toArray.size+its2.toArray.size))=true:=by
  rw [notLongL hsz,Bool.and_false]
  exact Bool.false_ne_true
 refine call_meets F.slot_list_extend ⟨_,e,rfl⟩ F.entry_list_extend (F.args_list_extend_2 _ _)
  (AutoSeq1.list_extend_list_list_0 l its.toArray n b its2.toArray n2 hlong (by rw [List.size_toArray];omega) (by omega)) ⟨e,e2,?_⟩
 refine ⟨.non,_,I.lset (its':=its++its2) hH e (by simp) (r.append r2) ?_,rfl,q⟩
 rw [List.length_append]
 omega
noncomputable def rPopAt:V->List V->Hp->VK->Prop:=λx vs H Q=>∃l xs i k y,x=.ref l/\vs=[.int i]/\H l=some (.lst xs) /\ -(2 ^ 63)<=i/\i<2 ^ 63/\seqIndex? i xs.length=some k/\xs[k]? = some y/\Q y (upd H l (.lst (xs.eraseIdx k)))
theorem mt_popAt:MtM X "list.pop" rPopAt:=by
 intro pins s σ H x vs v us Q I rx rv h
 obtain ⟨l,xs,i,k,y,rfl,rfl,hH,h1,h2,hk,hy,q⟩:=h
 cases rx
 obtain ⟨u,rfl,ru⟩:=rv.one
 obtain ⟨t,rfl⟩:=ru
 obtain ⟨z,its,n,r,hl,e⟩:=I.lstM hH
 obtain ⟨w,hw,rw'⟩:=r.get hy
 refine call_meets F.slot_list_pop ⟨_,e,rfl⟩ F.entry_list_pop (F.args_list_pop_2 _ _)
  (MeetsSeq.list_pop_at l its.toArray n i t k w (fitsIndex_both h1 h2) (by rw [List.size_toArray,← hl];exact hk) (by rw [← Array.getElem?_toList];exact hw) (by rw [List.size_toArray];omega)) ⟨e,?_⟩
 refine ⟨y,_,I.lset (its':=its.eraseIdx k) hH e ?_ (r.eraseIdx k) ?_,rw',q⟩
 ·show its.toArray.eraseIdxIfInBounds k=(its.eraseIdx k).toArray
  rw [List.eraseIdxIfInBounds_toArray]
 ·have:=len_erase xs k
  omega
noncomputable def rCat:R2:=λx y H Q=>∃l b xs zs,x=.ref l/\y=.ref b/\H l=some (.lst xs)/\H b=some (.lst zs)/\xs.length+zs.length<=sizeLine/\∀p,H p=none->Q (.ref p) (upd H p (.lst (xs++zs)))
theorem op_cat:OpR X (binaryOp .Add) rCat:=by
 intro pins s σ H x y v u Q I rx ry h
 obtain ⟨l,b,xs,zs,rfl,rfl,hH,hB,hz,q⟩:=h
 cases rx
 cases ry
 obtain ⟨z,its,n,r,hl,e⟩:=I.lstM hH
 obtain ⟨z2,its2,n2,r2,hl2,e2⟩:=I.lstM hB
 refine PySem.P.add_list e e2 ?_ (by rw [List.size_toArray,List.size_toArray];omega)
 have ea:its.toArray++its2.toArray=(its++its2).toArray:=by simp
 rw [ea]
 exact ⟨.ref _,_,I.lnew (t':=s.toks) (r.append r2) (by rw [List.length_append];omega),rfl,q _ I.fresh⟩
noncomputable def rRep:R2:=λx y H Q=>∃l k xs,x=.ref l/\y=.int k/\H l=some (.lst xs) /\ -(2 ^ 63)<=k/\k<2 ^ 63/\xs.length*k.toNat<=sizeLine /\
 ∀p,H p=none->Q (.ref p) (upd H p (.lst (List.replicate k.toNat xs).flatten))
theorem len_rep {α:Type} (xs:List α) (k:Nat):(List.replicate k xs).flatten.length=k*xs.length:=by
 induction k with
 | zero=>simp
 | succ k ih=>rw [List.replicate_succ,List.flatten_cons,List.length_append,ih,Nat.succ_mul,Nat.add_comm]
theorem op_rep:OpR X (binaryOp .Mult) rRep:=by
 intro pins s σ H x y v u Q I rx ry h
 obtain ⟨l,k,xs,rfl,rfl,hH,h1,h2,hz,q⟩:=h
 cases rx
 obtain ⟨t,rfl⟩:=ry
 obtain ⟨z,its,n,r,hl,e⟩:=I.lstM hH
 have hlen:its.toArray.size*k.toNat<=sizeLine:=by rw [List.size_toArray,← hl];exact hz
 have hcap:¬its.toArray.size*k.toNat > (2 ^ 63-1) / 8:=by
  have:(sizeLine:Nat)<=(2 ^ 63-1) / 8:=by decide
  omega
 have hfit:¬(!Builtin.List.listFitsIndex k)=true:=by
  rw [fitsIndex_both h1 h2]
  exact Bool.false_ne_true
 have hlong:¬Builtin.List.listTooLong (its.toArray.size*k.toNat)=true:=by
  rw [notLongL hlen]
  exact Bool.false_ne_true
 have hnew:List.foldl (λx1 x2=>x1++x2) #[] (List.replicate (if its.toArray.isEmpty=true then 0 else k.toNat) its.toArray)=(List.replicate k.toNat its).flatten.toArray:=by
  have f0:∀m:Nat,List.foldl (λx1 x2=>x1++x2) #[] (List.replicate m its.toArray)=(List.replicate m its).flatten.toArray:=λm=>by
   have:=foldl_rep its m []
   rw [List.nil_append] at this
   exact this
  rw [f0]
  cases its with
  | nil=>simp
  | cons a r'=>rw [if_neg (by simp)]
 refine wpAny_binaryOp_repeat_ref (T:="list") (U:="int") (by decide) ⟨_,e,rfl⟩ (λs'=>typeIs_int s' k t) noFill_list_mul F.fills_int_mul F.slot_int_rmul repeat_list F.slot_int_index.lookup
  (call_meets F.slot_int_rmul (typeIs_int s k t) F.entry_int_rmul (F.args_int_rmul_2 _ _) (int___rmul___int_list k t l its.toArray n)
   ⟨e,rfl,⟨_,e,rfl⟩,call_meets F.slot_list_mul ⟨_,e,rfl⟩ F.entry_list_mul (F.args_list_mul_2 _ _) (AutoListH.list___mul___list_int_3 l its.toArray n k t hfit hcap hlong) ⟨e,?_⟩⟩)
 rw [hnew]
 exact ⟨.ref _,_,I.lnew (t':=s.toks) (r.rep k.toNat) (by rw [len_rep,Nat.mul_comm];exact hz),rfl,q _ I.fresh⟩
end
section
variable {prog:Program} {w:World} {A:Around} {E:Value->Shared->Prop} {s:Shared}
end
section
variable {X:Cx}
end
end L2
namespace L2
open PySem PySem.Spec PyProof.Rows
section
variable {κ:Type} [DecidableEq κ]
noncomputable def valV (kvs:List (κ × V)) (k:κ):Option V:=(kvs.find? λkv=>decide (kv.1=k)).map (·.2)
noncomputable def putK (kvs:List (κ × V)) (k:κ) (v:V):List (κ × V) :=
 if (kvs.any λkv=>decide (kv.1=k))=true then kvs.map (λkv=>if kv.1=k then (kv.1,v) else kv) else kvs++[(k,v)]
noncomputable def dropK (kvs:List (κ × V)) (k:κ):List (κ × V):=kvs.filter λkv=>decide (kv.1≠k)
theorem valV_pos {p:κ × V} {r:List (κ × V)} {k:κ} (e:p.1=k):valV (p::r) k=some p.2:=by simp [valV,List.find?_cons,e]
theorem valV_neg {p:κ × V} {r:List (κ × V)} {k:κ} (e:¬p.1=k):valV (p::r) k=valV r k:=by simp [valV,List.find?_cons,e]
theorem valV_any (k:κ):∀kvs:List (κ × V),(kvs.any λkv=>decide (kv.1=k))=(valV kvs k).isSome
 | []=>rfl
 | p::r=>by
  rw [List.any_cons]
  by_cases e:p.1=k
  ·simp only [valV_pos e,decide_eq_true e,Bool.true_or,Option.isSome_some]
  ·rw [valV_neg e,decide_eq_false e,Bool.false_or];exact valV_any k r
theorem valV_map (k j:κ) (y:V):∀kvs:List (κ × V),valV (kvs.map λkv=>if kv.1=k then (kv.1,y) else kv) j=(valV kvs j).map λx=>if j=k then y else x
 | []=>rfl
 | p::r=>by
  have ih:=valV_map k j y r
  rw [List.map_cons]
  by_cases h:p.1=k
  ·rw [if_pos h]
   by_cases e:p.1=j
   ·rw [valV_pos (p:=(p.1,y)) e,valV_pos e,Option.map_some,if_pos (e.symm.trans h)]
   ·rw [valV_neg (p:=(p.1,y)) e,valV_neg e,ih]
  ·rw [if_neg h]
   by_cases e:p.1=j
   ·rw [valV_pos (p:=p) e,valV_pos e,Option.map_some,if_neg (λz=>h (e.trans z))]
   ·rw [valV_neg (p:=p) e,valV_neg e,ih]
theorem valV_snoc (k j:κ) (y:V):∀kvs:List (κ × V),valV kvs k=none->valV (kvs++[(k,y)]) j=if j=k then some y else valV kvs j
 | [],_=>by
  by_cases e:k=j
  ·rw [if_pos e.symm];exact valV_pos (p:=(k,y)) e
  ·rw [if_neg (λz=>e z.symm)];exact valV_neg (p:=(k,y)) e
 | p::r,hn=>by
  rw [List.cons_append]
  have hk:¬p.1=k:=λz=>by rw [valV_pos z] at hn;cases hn
  rw [valV_neg hk] at hn
  have ih:=valV_snoc k j y r hn
  by_cases e:p.1=j
  ·rw [valV_pos e,valV_pos e,if_neg (λz=>hk (e.trans z))]
  ·rw [valV_neg e,valV_neg e,ih]
theorem valV_put (kvs:List (κ × V)) (k j:κ) (y:V):valV (putK kvs k y) j=if j=k then some y else valV kvs j:=by
 unfold putK
 by_cases a:(kvs.any λkv=>decide (kv.1=k))=true
 ·rw [if_pos a,valV_map]
  rw [valV_any] at a
  by_cases e:j=k
  ·obtain ⟨x,hx⟩:=Option.isSome_iff_exists.mp a
   rw [if_pos e,e,hx,Option.map_some,if_pos rfl]
  ·rw [if_neg e]
   cases valV kvs j with
   | none=>rfl
   | some x=>rw [Option.map_some,if_neg e]
 ·rw [if_neg a]
  refine valV_snoc k j y kvs ?_
  rw [valV_any] at a
  cases q:valV kvs k with
  | none=>rfl
  | some x=>rw [q] at a;exact (a rfl).elim
theorem length_putK (kvs:List (κ × V)) (k:κ) (v:V):(putK kvs k v).length<=kvs.length+1:=by
 unfold putK
 split
 ·rw [List.length_map];omega
 ·rw [List.length_append,List.length_cons,List.length_nil];omega
theorem putK_new {kvs:List (κ × V)} {k:κ} (v:V) (h:valV kvs k=none):putK kvs k v=kvs++[(k,v)]:=by
 unfold putK
 rw [valV_any,h]
 exact if_neg (by decide)
theorem RelO.isSome_eq {o:Option V} {u:Option Value} (r:RelO o u):o.isSome=u.isSome:=by
 cases o with
 | none=>cases u with
  | none=>rfl
  | some _=>exact (show False from r).elim
 | some _=>cases u with
  | none=>exact (show False from r).elim
  | some _=>rfl
theorem RelO.getD {o:Option V} {u:Option Value} {d:V} {d':Value} (r:RelO o u) (rd:RelV d d'):RelV (o.getD d) (u.getD d'):=by
 cases o with
 | none=>cases u with
  | none=>exact rd
  | some _=>exact (show False from r).elim
 | some _=>cases u with
  | none=>exact (show False from r).elim
  | some _=>exact r
theorem KV.val {kvs:List (κ × V)} {vs:List (κ × Value)} (r:KV kvs vs) (k:κ):RelO (valV kvs k) (valueAt vs k):=by
 unfold KV at r
 induction r with
 | nil=>exact True.intro
 | @cons p q ps qs h t ih =>
  obtain ⟨h1,h2⟩:=h
  by_cases e:p.1=k
  ·have e':q.1=k:=h1.symm.trans e
   have b:valueAt (q::qs) k=some q.2:=by simp [valueAt,List.find?_cons,e']
   rw [valV_pos e,b];exact h2
  ·have e':¬q.1=k:=λz=>e (h1.trans z)
   have b:valueAt (q::qs) k=valueAt qs k:=by simp [valueAt,List.find?_cons,e']
   rw [valV_neg e,b];exact ih
theorem KV.any {kvs:List (κ × V)} {vs:List (κ × Value)} (r:KV kvs vs) (k:κ):(kvs.any λkv=>decide (kv.1=k))=vs.any λkv=>decide (kv.1=k):=by
 unfold KV at r
 induction r with
 | nil=>rfl
 | cons h t ih=>rw [List.any_cons,List.any_cons,ih,h.1]
theorem KV.repl {kvs:List (κ × V)} {vs:List (κ × Value)} (r:KV kvs vs) (k:κ) {y:V} {u:Value} (ry:RelV y u) :
  KV (kvs.map λkv=>if kv.1=k then (kv.1,y) else kv) (vs.map λkv=>if kv.1=k then (kv.1,u) else kv):=by
 unfold KV at r ⊢
 induction r with
 | nil=>exact .nil
 | @cons p q ps qs h t ih =>
  rw [List.map_cons,List.map_cons]
  refine .cons ?_ ih
  obtain ⟨h1,h2⟩:=h
  by_cases e:p.1=k
  ·rw [if_pos e,if_pos (h1.symm.trans e)];exact ⟨h1,ry⟩
  ·rw [if_neg e,if_neg (λz=>e (h1.trans z))];exact ⟨h1,h2⟩
theorem KV.put {kvs:List (κ × V)} {vs:List (κ × Value)} (r:KV kvs vs) (k:κ) {y:V} {u:Value} (ry:RelV y u):KV (putK kvs k y) (stored vs k u):=by
 unfold putK stored
 rw [r.any k]
 by_cases e:(vs.any λkv=>decide (kv.1=k))=true
 ·rw [if_pos e,if_pos e];exact r.repl k ry
 ·rw [if_neg e,if_neg e];exact Paired.snoc r ⟨rfl,ry⟩
theorem KV.drop {kvs:List (κ × V)} {vs:List (κ × Value)} (r:KV kvs vs) (k:κ):KV (dropK kvs k) (without vs k):=by
 unfold KV at r ⊢
 unfold dropK without
 induction r with
 | nil=>exact .nil
 | @cons p q ps qs h t ih =>
  obtain ⟨h1,h2⟩:=h
  rw [List.filter_cons,List.filter_cons]
  by_cases e:p.1=k
  ·have a:¬decide (p.1≠k)=true:=by simp [e]
   have b:¬decide (q.1≠k)=true:=by simp [h1.symm.trans e]
   rw [if_neg a,if_neg b];exact ih
  ·have e':¬q.1=k:=λz=>e (h1.trans z)
   have a:decide (p.1≠k)=true:=by simp [e]
   have b:decide (q.1≠k)=true:=by simp [e']
   rw [if_pos a,if_pos b];exact .cons ⟨h1,h2⟩ ih
theorem KV.keys {kvs:List (κ × V)} {vs:List (κ × Value)} (r:KV kvs vs):kvs.map (·.1)=vs.map (·.1):=by
 unfold KV at r
 induction r with
 | nil=>rfl
 | cons h t ih=>rw [List.map_cons,List.map_cons,ih,h.1]
theorem KV.length {kvs:List (κ × V)} {vs:List (κ × Value)} (r:KV kvs vs):kvs.length=vs.length:=Paired.length r
theorem dropK_le (kvs:List (κ × V)) (k:κ):(dropK kvs k).length<=kvs.length:=List.length_filter_le _ _
end
theorem kV_is {P:Program} {w:World} {k:Key} {u:Value} (r:RelV (kV k) u):(mixKind P w).is k u=true:=by
 cases k with
 | inl i=>obtain ⟨t,e⟩:=(show ∃t,u=Value.int i t from r);subst e;exact mixKind_int P w i t
 | inr x=>obtain ⟨t,e⟩:=(show ∃t,u=Value.str x t from r);subst e;exact mixKind_str P w x t
theorem items_are {P:Program} {w:World}:∀{ks:List Key} {us:List Value},Vals (ks.map kV) us->ItemsAre (mixKind P w) ks us
 | [],_,r=>by rw [List.map_nil] at r;cases r;exact .nil
 | k::ks,_,r=>by
  rw [List.map_cons] at r
  cases r with
  | cons h t=>exact .cons (kV_is h) (items_are t)
noncomputable abbrev KT (H:Hp):List (List Key × V)->List (List Key × Addr × Value)->Prop:=Paired λp q=>p.1=q.1/\H q.2.1=some (.tup (p.1.map kV))/\RelV p.2 q.2.2
theorem KT.val {H:Hp} {kvs:List (List Key × V)} {xs:List (List Key × Addr × Value)} (r:KT H kvs xs) (k:List Key):RelO (valV kvs k) ((atKey xs k).map (·.2)):=by
 induction r with
 | nil=>exact True.intro
 | @cons p q ps qs h t ih =>
  obtain ⟨h1,_,h2⟩:=h
  by_cases e:p.1=k
  ·have e':q.1=k:=h1.symm.trans e
   have b:atKey (q::qs) k=some q.2:=by simp [atKey,List.find?_cons,e']
   rw [valV_pos e,b];exact h2
  ·have e':¬q.1=k:=λz=>e (h1.trans z)
   have b:atKey (q::qs) k=atKey qs k:=by simp [atKey,List.find?_cons,e']
   rw [valV_neg e,b];exact ih
theorem KT.repl {H:Hp} {kvs:List (List Key × V)} {xs:List (List Key × Addr × Value)} (r:KT H kvs xs) (k:List Key) {y:V} {u:Value} (ry:RelV y u) :
  KT H (kvs.map λkv=>if kv.1=k then (kv.1,y) else kv) (xs.map (putAt k u)):=by
 induction r with
 | nil=>exact .nil
 | @cons p q ps qs h t ih =>
  rw [List.map_cons,List.map_cons]
  refine .cons ?_ ih
  obtain ⟨h1,h2,h3⟩:=h
  unfold putAt
  by_cases e:p.1=k
  ·rw [if_pos e,if_pos (h1.symm.trans e)];exact ⟨h1,h2,ry⟩
  ·rw [if_neg e,if_neg (λz=>e (h1.trans z))];exact ⟨h1,h2,h3⟩
theorem KT.put {H:Hp} {kvs:List (List Key × V)} {xs:List (List Key × Addr × Value)} (r:KT H kvs xs) (k:List Key) {b:Addr} {y:V} {u:Value} (hb:H b=some (.tup (k.map kV))) (ry:RelV y u) :
  KT H (putK kvs k y) (storedH xs k b u):=by
 have e:(kvs.any λkv=>decide (kv.1=k))=(atKey xs k).isSome:=by
  rw [valV_any,(r.val k).isSome_eq,Option.isSome_map]
 unfold putK storedH
 rw [e]
 by_cases q:(atKey xs k).isSome=true
 ·rw [if_pos q,if_pos q];exact r.repl k ry
 ·rw [if_neg q,if_neg q];exact Paired.snoc r ⟨rfl,hb,ry⟩
theorem KT.keeps {H H':Hp} {kvs:List (List Key × V)} {xs:List (List Key × Addr × Value)} (r:KT H kvs xs) (ht:∀b ys,H b=some (.tup ys)->H' b=some (.tup ys)):KT H' kvs xs :=
 Paired.mapP r λ_ _ z=>⟨z.1,ht _ _ z.2.1,z.2.2⟩
section
variable {P:Program} {w:World} {H:Hp} {h:Heap} {a:Addr}
theorem rd_of {u:HO} (ok:HOk P w H h) (e:Rd H a u):ObjOk P w H h a u:=e.ok ok
theorem dk_rd {kvs:List (Key × V)} (ok:HOk P w H h) (e:Rd H a (.dK kvs)):kvs.length<=sizeLine/\(a == sysModules)=false/\∃vs,KV kvs vs/\h.DictOf (mixKind P w) a vs :=
 show ObjOk P w H h a (.dK kvs) from rd_of ok e
theorem dk_of {kvs:List (Key × V)} (ok:HOk P w H h) (e:H a=some (.dK kvs)):kvs.length<=sizeLine/\(a == sysModules)=false/\∃vs,KV kvs vs/\h.DictOf (mixKind P w) a vs:=dk_rd ok (.inl e)
theorem key_of {ks:List Key} (ok:HOk P w H h) (e:H a=some (.tup (ks.map kV))):(tupleKind (mixKind P w)).is h ks a:=by
 obtain ⟨_,its,r,o,h1,h2,n,h3⟩:=(show ObjOk P w H h a (.tup (ks.map kV)) from ok a _ e)
 exact ⟨o,its.toArray,n,h1,h2,h3,by simpa using items_are r⟩
theorem dt_rd {kvs:List (List Key × V)} (ok:HOk P w H h) (e:Rd H a (.dT kvs)):kvs.length<=sizeLine/\(a == sysModules)=false /\
  ∃xs,KT H kvs xs/\h.DictOfH (tupleKind (mixKind P w)) a xs:=by
 obtain ⟨z,y,xs,r,o,es,ep,h1,h2,h3,h4,h5⟩:=(show ObjOk P w H h a (.dT kvs) from rd_of ok e)
 refine ⟨z,y,xs,r,o,es,ep,h1,h2,h3,h4,λx hx=>?_,h5⟩
 have all:∀{l:List (List Key × V)} {m:List (List Key × Addr × Value)},KT H l m->∀x∈m,(tupleKind (mixKind P w)).is h x.1 x.2.1:=by
  intro l m q
  induction q with
  | nil=>intro x hx;exact nomatch hx
  | @cons p q ps qs hq t ih =>
   intro x hx
   rcases List.mem_cons.mp hx with e | hx
   ·subst e
    exact key_of ok (by rw [← hq.1];exact hq.2.1)
   ·exact ih x hx
 exact all r x hx
theorem dt_of {kvs:List (List Key × V)} (ok:HOk P w H h) (e:H a=some (.dT kvs)):kvs.length<=sizeLine/\(a == sysModules)=false /\
  ∃xs,KT H kvs xs/\h.DictOfH (tupleKind (mixKind P w)) a xs:=dt_rd ok (.inl e)
end
noncomputable def DGet (H:Hp) (a:Addr) (y:V) (r:Option V):Prop :=
 (∃kvs k,Rd H a (.dK kvs)/\y=kV k/\r=valV kvs k)\/∃kvs k b,Rd H a (.dT kvs)/\y=.ref b/\H b=some (.tup (k.map kV))/\r=valV kvs k
noncomputable def DPut (H:Hp) (a:Addr) (y v:V) (H':Hp):Prop :=
 (∃kvs k,H a=some (.dK kvs)/\y=kV k/\kvs.length<sizeLine/\H'=upd H a (.dK (putK kvs k v))) \/
 ∃kvs k b,H a=some (.dT kvs)/\y=.ref b/\H b=some (.tup (k.map kV))/\kvs.length<sizeLine/\H'=upd H a (.dT (putK kvs k v))
theorem DGet.k {H:Hp} {a:Addr} {kvs:List (Key × V)} {k:Key} (e:H a=some (.dK kvs)):DGet H a (kV k) (valV kvs k):=.inl ⟨kvs,k,.inl e,rfl,rfl⟩
theorem DGet.t {H:Hp} {a b:Addr} {kvs:List (List Key × V)} {k:List Key} (e:H a=some (.dT kvs)) (eb:H b=some (.tup (k.map kV))):DGet H a (.ref b) (valV kvs k):=.inr ⟨kvs,k,b,.inl e,rfl,eb,rfl⟩
theorem DPut.k {H:Hp} {a:Addr} {kvs:List (Key × V)} {k:Key} {v:V} (e:H a=some (.dK kvs)) (hl:kvs.length<sizeLine):DPut H a (kV k) v (upd H a (.dK (putK kvs k v))):=.inl ⟨kvs,k,e,rfl,hl,rfl⟩
theorem DPut.t {H:Hp} {a b:Addr} {kvs:List (List Key × V)} {k:List Key} {v:V} (e:H a=some (.dT kvs)) (eb:H b=some (.tup (k.map kV))) (hl:kvs.length<sizeLine) :
  DPut H a (.ref b) v (upd H a (.dT (putK kvs k v))):=.inr ⟨kvs,k,b,e,rfl,eb,hl,rfl⟩
section
variable {X:Cx} {pins:List (Addr × Obj)} {σ:St} {H:Hp} {s:Shared} {a:Addr} {y v:V} {u r:Value} {o:Option V} {A:Around} {E:Value->Shared->Prop}
theorem Inv.big (I:Inv X pins σ H s):sysModules<s.heap.objs.size:=by
 have h:mainGlobals<s.heap.objs.size:=(I.mod.glob.keeps I.bk).lt
 exact Nat.lt_trans (by decide) h
theorem d_getItem {Q:Value->Shared->Prop} (hu:A.units+1<cLine) (I:Inv X pins σ H s) (g:DGet H a y (some v)) (ry:RelV y u) (h:∀w' s',Inv X pins σ H s'->RelV v w'->Q w' s') :
  wpAny (model X.prog X.w) A (getItem (.ref a) u) Q E s:=by
 rcases g with ⟨kvs,k,e,ey,l⟩ | ⟨kvs,k,b,e,ey,eb,l⟩
 ·subst ey
  obtain ⟨z,hd,vs,rel,dd⟩:=dk_rd I.hok e
  obtain ⟨w',hw,rw'⟩:=RelO.some_of (v:=v) (o:=valueAt vs k) (by rw [l];exact rel.val k)
  exact wpAny_getItem_of (kV_is ry) dd.mapOf hw (h w' _ (I.tok _) rw')
 ·subst ey
  cases (show u=Value.ref b from ry)
  obtain ⟨z,hd,xs,rel,dd⟩:=dt_rd I.hok e
  obtain ⟨w',hw,rw'⟩:=RelO.some_of (v:=v) (o:=(atKey xs k).map (·.2)) (by rw [l];exact rel.val k)
  obtain ⟨p,hp,hp2⟩:=Option.map_eq_some_iff.mp hw
  refine wpAny_getItem_heap (tupleKind_room_in1 hu) (key_of I.hok eb) dd hp ?_
  rw [hp2]
  exact h w' _ (I.tok _) rw'
theorem d_in {Q:Value->Shared->Prop} (hu:A.units+1<cLine) (I:Inv X pins σ H s) (g:DGet H a y o) (ry:RelV y u) (h:∀s',Inv X pins σ H s'->Q (.bool o.isSome) s') :
  wpAny (model X.prog X.w) A (compareOp .In u (.ref a)) Q E s:=by
 rcases g with ⟨kvs,k,e,ey,l⟩ | ⟨kvs,k,b,e,ey,eb,l⟩
 ·subst ey
  obtain ⟨z,hd,vs,rel,dd⟩:=dk_rd I.hok e
  refine wpAny_in_of (kV_is ry) hd dd.mapOf ?_
  rw [← (rel.val k).isSome_eq,← l]
  exact h _ (I.tok _)
 ·subst ey
  cases (show u=Value.ref b from ry)
  obtain ⟨z,hd,xs,rel,dd⟩:=dt_rd I.hok e
  refine wpAny_in_heap (tupleKind_room_in1 hu) (key_of I.hok eb) hd dd ?_
  have q:=(rel.val k).isSome_eq
  rw [Option.isSome_map] at q
  rw [← q,← l]
  exact h _ (I.tok _)
theorem d_notIn {Q:Value->Shared->Prop} (hu:A.units+1<cLine) (I:Inv X pins σ H s) (g:DGet H a y o) (ry:RelV y u) (h:∀s',Inv X pins σ H s'->Q (.bool (!o.isSome)) s') :
  wpAny (model X.prog X.w) A (compareOp .NotIn u (.ref a)) Q E s:=by
 rcases g with ⟨kvs,k,e,ey,l⟩ | ⟨kvs,k,b,e,ey,eb,l⟩
 ·subst ey
  obtain ⟨z,hd,vs,rel,dd⟩:=dk_rd I.hok e
  refine wpAny_notIn_of (kV_is ry) hd dd.mapOf ?_
  rw [← (rel.val k).isSome_eq,← l]
  exact h _ (I.tok _)
 ·subst ey
  cases (show u=Value.ref b from ry)
  obtain ⟨z,hd,xs,rel,dd⟩:=dt_rd I.hok e
  refine wpAny_notIn_heap (tupleKind_room_in1 hu) (key_of I.hok eb) hd dd ?_
  have q:=(rel.val k).isSome_eq
  rw [Option.isSome_map] at q
  rw [← q,← l]
  exact h _ (I.tok _)
theorem d_write {h':Heap} {t':Nat} {ob:HO} (I:Inv X pins σ H s) (mu:Mut (H a)) (hs:Heap.SameBut a s.heap h') (he:∃q,h'.get? a=some q) (new:ObjOk X.prog X.w (upd H a ob) h' a ob) :
  Inv X pins σ (upd H a ob) { s with heap:=h',toks:=t' } :=
 I.write (x:=a) (e:=a) mu (.inl rfl) (λb q hb z=>(hs.2 b hb).trans z) he new
theorem dk_new {P:Program} {w:World} {H':Hp} {h':Heap} {kvs:List (Key × V)} {vs:List (Key × Value)} (z:kvs.length<=sizeLine) (hd:(a == sysModules)=false) (rel:KV kvs vs) (dd:h'.DictOf (mixKind P w) a vs) :
  ObjOk P w H' h' a (.dK kvs):=⟨z,hd,vs,rel,dd⟩
theorem d_setItem {H':Hp} {Q:Unit->Shared->Prop} (hu:A.units+1<cLine) (I:Inv X pins σ H s) (g:DPut H a y v H') (ry:RelV y u) (rv:RelV v r) (h:∀s',Inv X pins σ H' s'->Q () s') :
  wpAny (model X.prog X.w) A (setItem (.ref a) u r) Q E s:=by
 rcases g with ⟨kvs,k,e,ey,l,eH⟩ | ⟨kvs,k,b,e,ey,eb,l,eH⟩
 ·subst ey eH
  obtain ⟨z,hd,vs,rel,dd⟩:=dk_of I.hok e
  have hz:vs.length<=sizeLine:=by rw [← rel.length];exact z
  have hl:(putK kvs k v).length<=sizeLine:=by have:=length_putK kvs k v;omega
  refine wpAny_setItem_pairs (hsz:=hz) (kV_is ry) dd λh' dd' hs=>h _ ?_
  have he:∃q,h'.get? a=some q:=let ⟨q,_,_,hq,_⟩:=dd';⟨q,hq⟩
  exact d_write I (by rw [e];exact True.intro) hs he (dk_new hl hd (rel.put k rv) dd')
 ·subst ey eH
  cases (show u=Value.ref b from ry)
  obtain ⟨z,hd,xs,rel,dd⟩:=dt_of I.hok e
  have hz:xs.length<=sizeLine:=by rw [← Paired.length rel];exact z
  have hl:(putK kvs k v).length<=sizeLine:=by have:=length_putK kvs k v;omega
  refine wpAny_setItem_heap (hsz:=hz) (tupleKind_room_in1 hu) (key_of I.hok eb) dd λh' dd' hs=>h _ ?_
  obtain ⟨q,es,ep,hq,h2,h3,h4,_,h5⟩:=dd'
  refine d_write I (by rw [e];exact True.intro) hs ⟨q,hq⟩ ⟨hl,hd,_,(rel.put k eb rv).keeps λc ys ec=>?_,q,es,ep,hq,h2,h3,h4,h5⟩
  rw [upd_ne (ne_of ec e (λz=>nomatch z))]
  exact ec
end
section
variable {X:Cx} {pins:List (Addr × Obj)} {σ:St} {H:Hp} {s:Shared} {a:Addr} {kvs:List (Key × V)} {k:Key} {u:Value} {A:Around} {E:Value->Shared->Prop}
theorem d_len {Q:Value->Shared->Prop} (I:Inv X pins σ H s) (e:Rd H a (.dK kvs)) (h:∀t s',Inv X pins σ H s'->Q (.int kvs.length t) s'):wpAny (model X.prog X.w) A (call (.builtin "len") [.ref a]) Q E s:=by
 obtain ⟨z,hd,vs,rel,dd⟩:=dk_rd I.hok e
 refine call_len_dict hd dd (by rw [← rel.length];rw [sizeLine_eq] at z;omega) ?_
 rw [← rel.length]
 exact h _ _ (I.tok _)
end
theorem dict_typeIs {X:Cx} {pins:List (Addr × Obj)} {σ:St} {H:Hp} {s:Shared} {a:Addr} {y:V} {o:Option V} (I:Inv X pins σ H s) (g:DGet H a y o):s.TypeIs (.ref a) "dict":=by
 rcases g with ⟨kvs,k,e,_,_⟩ | ⟨kvs,k,b,e,_,_,_⟩
 ·obtain ⟨_,_,vs,_,dd⟩:=dk_rd I.hok e
  exact dd.typeIs
 ·obtain ⟨_,_,xs,_,dd⟩:=dt_rd I.hok e
  exact dd.typeIs
section
variable {X:Cx} {o i e value:Expr} {pos pos' tpos:Pos} {td ty tv:TE}
end
theorem dk_empty {P:Program} {w:World} {H:Hp} (h:Heap) (hb:sysModules<h.objs.size):ObjOk P w H (h.push { cls:=.type "dict",data:=.dict #[] }) h.objs.size (.dK []) :=
 ⟨Nat.zero_le _,beq_eq_false_iff_ne.mpr (Ne.symm (Nat.ne_of_lt hb)),[],.nil,Heap.DictOf.new h⟩
theorem dt_empty {P:Program} {w:World} {H:Hp} (h:Heap) (hb:sysModules<h.objs.size):ObjOk P w H (h.push { cls:=.type "dict",data:=.dict #[] }) h.objs.size (.dT []) :=
 ⟨Nat.zero_le _,beq_eq_false_iff_ne.mpr (Ne.symm (Nat.ne_of_lt hb)),[],.nil,_,#[],0,Heap.get?_push_size _ rfl,⟨rfl,rfl,rfl⟩,rfl,rfl,List.nodup_nil⟩
noncomputable def tDNewK:TE:=λ_ H Q=>∀p,H p=none->Q (.ref p) (upd H p (.dK []))
noncomputable def tDNewT:TE:=λ_ H Q=>∀p,H p=none->Q (.ref p) (upd H p (.dT []))
section
variable {X:Cx} {pos:Pos}
theorem pe_dnewK:PE X (.Dict [] [] pos) tDNewK:=λpins s σ H Q I h =>
 wpAny_Dict_empty ⟨.ref s.heap.objs.size,_,I.laid (a:=s.heap.objs.size) (o:=.dK []) (t':=s.toks) (λ_ _ q=>Heap.get?_push_of_some _ q) (Nat.le_refl _) (dk_empty s.heap I.big),rfl,h _ (I.hok.fresh (Nat.le_refl _))⟩
theorem pe_dnewT:PE X (.Dict [] [] pos) tDNewT:=λpins s σ H Q I h =>
 wpAny_Dict_empty ⟨.ref s.heap.objs.size,_,I.laid (a:=s.heap.objs.size) (o:=.dT []) (t':=s.toks) (λ_ _ q=>Heap.get?_push_of_some _ q) (Nat.le_refl _) (dt_empty s.heap I.big),rfl,h _ (I.hok.fresh (Nat.le_refl _))⟩
end
noncomputable def mergeK (kvs more:List (Key × V)):List (Key × V):=more.foldl (λacc kv=>putK acc kv.1 kv.2) kvs
theorem KV.merge:∀{more:List (Key × V)} {rs:List (Key × Value)} {kvs:List (Key × V)} {vs:List (Key × Value)},KV more rs->KV kvs vs->KV (mergeK kvs more) (merged vs rs):=by
 intro more rs kvs vs r
 unfold KV at r
 induction r generalizing kvs vs with
 | nil=>intro q;exact q
 | @cons p q ps qs h t ih =>
  intro r0
  have e:KV (putK kvs p.1 p.2) (stored vs q.1 q.2):=by
   have:=r0.put p.1 h.2
   rw [← h.1];exact this
  exact ih e
structure M1 (X:Cx) (o:Expr) (m:Str) (apos:Pos) (e:Expr) (cpos:Pos):Prop where
 base:attributeBase o m X.env (eval o X.env)=eval o X.env
 few:((backTo cpos (starEach [e] X.env)).all (λx=>!x.1) && (backToKw cpos (keywordEach [] X.env)).all (λx=>x.1.isSome)
  && decide (([e]:List Expr).length+([]:List Keyword).length+(if ([]:List Keyword).isEmpty then 0 else 1)<30))=true
 line:(apos.endLine == cpos.line)=true
 trees:backTo cpos (starEach [e] X.env)=[(false,eval e X.env)]
section
variable {X:Cx} {pins:List (Addr × Obj)} {σ:St} {H:Hp} {s:Shared} {a:Addr} {y d:V} {u r:Value} {o:Option V} {A:Around} {E:Value->Shared->Prop}
end
section
variable {X:Cx} {o e f:Expr} {apos cpos:Pos} {td ty tx:TE}
end
section
variable {X:Cx} {pins:List (Addr × Obj)} {σ:St} {H:Hp} {s:Shared} {a:Addr} {kvs:List (Key × V)} {A:Around} {E:Value->Shared->Prop}
end
section
variable {X:Cx} {pins:List (Addr × Obj)} {σ:St} {H:Hp} {s:Shared} {a:Addr} {y:V} {u:Value} {A:Around} {E:Value->Shared->Prop}
end
end L2
namespace Att
open PySem PySem.W PySem.Calls PyProof.Rows
theorem ints_of_wellAll {P:Params} {h:Heap}:∀(ns:List Int) (vs:List Value),WellAll P h vs (ns.map WData.int)->IntsAre vs ns:=by
 intro ns
 induction ns with
 | nil =>
  intro vs w
  rw [List.map_nil] at w
  cases w
  exact .nil
 | cons n ns ih =>
  intro vs w
  rw [List.map_cons] at w
  cases w with
  | cons a b =>
   cases a
   exact .cons _ _ (ih _ b)
theorem script_of {l:OpenLaw} {n:Nat} (hn:l.most=some n) {P:Params} {h:Heap} {args:List WData} {vals:List Value}
  (hpre:l.row.toRowW.claim.pre args=true) (hwl:WellAll P h vals args) :
  ∃a vs ns,vals=[Value.ref a]/\args=[WData.list (ns.map WData.int)]/\h.get? a=some { cls:=.type "list",data:=.seq vs.toArray }/\IntsAre vs ns/\ns.length<=n:=by
 have hsh:WShape.hasAll [] args [.list .int]=true:=(pre_splitW hpre).1
 have hc:l.pre.holds [] { args:=args }=true:=(pre_splitW hpre).2
 obtain ⟨d,r,rfl,h1,h2⟩:=hasAllW_cons hsh
 obtain rfl:=hasAllW_nil h2
 obtain ⟨xs,rfl,h3⟩:=hasW_list h1
 obtain ⟨ns,rfl⟩:=items_int h3
 have hlen:ns.length<=n:=by
  unfold OpenLaw.pre at hc
  have h4:(WTm.not (.lt (.lit (.int (n:Int))) (.len (.arg 0)))).holds [] { args:=[.list (ns.map .int)] }=true:=by
   have h4:=(holds_andW hc).1
   rw [hn] at h4
   exact h4
  have h5:=condW_of h4 (w_not (w_lt w_lit (w_len_list (w_arg rfl))))
  rw [List.length_map] at h5
  refine Nat.le_of_not_lt λq=>?_
  have q':(n:Int)<((ns.length:Nat):Int):=by omega
  first
   | (rw [decide_eq_true q'] at h5;exact absurd h5 (by decide))
   | (simp at h5;omega)
 cases hwl with
 | cons w1 w2 =>
  cases w2
  cases w1 with
  | list ho hall=>exact ⟨_,_,ns,rfl,rfl,ho,ints_of_wellAll ns _ hall,hlen⟩
theorem post_true (l:OpenLaw) (args:List WData):l.row.toRowW.claim.post args (.bool true) args=true :=
 postW_of (r:=l.row.toRowW) (X:=(true == true))
  (show WShape.has [] (.bool true) .bool=true by first | rfl | decide | simp [WShape.has,WShape.arms,WShape.armsAll])
  (show (WTm.eq .res (.lit (.bool true))).value [] { args:=args,res:=some (.bool true),after:=args }=some (.bool (true == true)) from w_eq_bool (w_res rfl) w_lit) rfl
theorem attach_call {l:OpenLaw} {n:Nat} {q:Program} {loose:List Str} {XP:(Str->Option Value)->Heap->Prop} {YP:World->Heap->Prop} {d:DefRec}
  (hn:l.most=some n) (hdf:d.params.defaults=[])
  (call:∀(w:World) (s₀ s₁:Shared) (mg mb:Str->Option Value) (fa:Addr) (o:Obj) (pm cd doc:Value) (a:Addr) (vs:List Value) (ns:List Int),
   Ground q loose [] XP w s₀ mg mb s₁.heap->YP w s₁.heap ->
   s₁.heap.get? fa=some o->o.data=.func (docDef d.name d.params d.body d.scope pm cd doc)->s₁.heap.CodeRec cd d.name->mg d.name=some (.ref fa) ->
   s₁.heap.get? a=some { cls:=.type "list",data:=.seq vs.toArray }->IntsAre vs ns->ns.length<=n->s₁.gens = #[] ->
   codeAny (model l.prog w) callerA (.call (.ref fa) ⟨[.ref a],[]⟩) (λr s'=>r=.ok (.ret (.bool true))/\OldK s₁.heap s'.heap/\s'.os=s₁.os/\AllBare s'.gens) s₁) :
  WalkO q loose XP YP l.row.toRowW d [] (λf vs=>PySem.call f vs):=by
 intro w s₀ s₁ mg mb G Y fa o pm cd doc dV kV ho hd hcd hD hmg hg args vals as hpre hlay hrd hwl hlo
 obtain rfl:dV=.none:=Dflts.none hD hdf
 obtain rfl:kV=.none:=Dflts.noKw hD
 obtain ⟨a,vs,ns,rfl,rfl,hobj,hints,hlen⟩:=script_of hn hpre hwl
 refine enter_call (codeAny_mono (call w s₀ s₁ mg mb fa o pm cd doc a vs ns G Y ho (fd_plain hd) hcd hmg hobj hints hlen hg) λr s' hq=>?_)
 obtain ⟨rfl,h2,h3,h4⟩:=hq
 exact ⟨.inl ⟨.bool true,.bool true,[],rfl,λ_=>rfl,.bool true,post_true l _,λ_=>⟨List.Pairwise.nil,λ_ hm=>(nomatch hm)⟩⟩,h2,h3,h4⟩
section
variable {prog:Program} {w:World} {A:Around} {E:Value->Shared->Prop} {s:Shared} {K:Frag}
end
end Att
namespace L2
open PySem PySem.Spec PyProof.Rows
theorem vals_ints:∀{vs:List Value} {ns:List Int},IntsAre vs ns->Vals (ns.map V.int) vs
 | _,_,.nil=>.nil
 | _,_,.cons n t h=>.cons ⟨t,rfl⟩ (vals_ints h)
noncomputable def Only (H:Hp):Prop:=∀b,H b=none\/∃o xs,H b=some (.frz o (.lst xs))
end L2
namespace L2
open PySem PySem.Spec PyProof.Rows
end L2
namespace L2
open PySem PySem.Spec PyProof.Rows
noncomputable def defArgs (s:Stmt):Arguments:=match s with
 | .FunctionDef _ a _ _ _ _ _ _ _ _=>a
 | _=>{ posonlyargs:=[],args:=[],vararg:=none,kwonlyargs:=[],kw_defaults:=[],kwarg:=none,defaults:=[] }
noncomputable def defBody (s:Stmt):List Stmt:=match s with
 | .FunctionDef _ _ b _ _ _ _ _ _ _=>b
 | _=>[]
noncomputable def defScope (s:Stmt):Scope:=match s with
 | .FunctionDef _ _ _ _ _ _ sc _ _ _=>sc
 | _=>{ kind:=.function,names:=[],isGenerator:=false,isCoroutine:=false }
noncomputable abbrev CX0:CXT:=λ_ _ _ _ _ _=>False
noncomputable abbrev E0:XK:=λ_ _ _=>False
theorem pass0 {X:Cx}:Passes CX0 X E0:=λ_ _ _ _ _ _ _ h=>h.elim
structure Fun (K:PySem.W.Frag) (x qual:Str) (st:Stmt) (f:Addr) (fd:FuncData):Prop where
 ex:∃(oc:Value) (od:Option Addr) (kV doc pm:Value) (an:Option Addr) (cdv ct:Value) (osl:Array (Option Value)),
  fd=PySem.W.fnOf x qual (defArgs st) (defBody st) (defScope st) .none kV doc pm an cdv ct/\K.lookup f=some ⟨oc,od,.func fd,osl⟩/\PySem.W.codeIn K cdv qual=true
 kp:PySem.W.keepIn K (.ref f)=true
section
variable {P:Program} {w:World} {K:PySem.W.Frag} {mg:Str->Option Value} {base:Heap}
theorem Fun.ok {x qual:Str} {st:Stmt} {f:Addr} {fd:FuncData} {N ps:List Str} {k:Nat} {sp:Sp} (F:Fun K x qual st f fd) (S:FnScope N ps (defScope st)) (len:∀vs H Q E,sp vs H Q E->vs.length=ps.length)
  (hbody:∀(cdv:Value) (A:Around) (outer:List Env) (s:Shared) (H:Hp) (vs:List V) (Q:VK) (E:XK),Room k (A.deeper (envOfC qual (defScope st) s.heap.objs.size f cdv))->sp vs H Q E ->
   ∃t,PSs (cxOf CX0 P w K mg base N qual (defScope st) f cdv A outer s H E).nox (defBody st) t/\t { nx:=λ_ H'=>Q .non H',rt:=Q } (start N vs) H):FnOk P w K mg base CX0 (k+1) f fd ps sp:=by
 obtain ⟨oc,od,kV,doc,pm,an,cdv,ct,osl,rfl,lk,hcd⟩:=F.ex
 refine fn_of lk hcd S len λA outer s H vs Q E hr hsp=>?_
 obtain ⟨t,h,q⟩:=hbody cdv A outer s H vs Q E hr hsp
 exact ⟨t,h.nox,q⟩
theorem Fun.binds {x qual:Str} {st:Stmt} {f:Addr} {fd:FuncData} {ps:List Str} (F:Fun K x qual st f fd)
  (h:∀(kV doc pm:Value) (an:Option Addr) (cdv ct:Value) (us:List Value),us.length=ps.length->bindArgs (PySem.W.fnOf x qual (defArgs st) (defBody st) (defScope st) .none kV doc pm an cdv ct) ⟨us,[]⟩=pure (ps.zip us)):Binds K fd ps []:=by
 obtain ⟨oc,od,kV,doc,pm,an,cdv,ct,osl,rfl,lk,hcd⟩:=F.ex
 exact .all (h kV doc pm an cdv ct)
theorem fun_mk {x qual:Str} {st:Stmt} {f:Addr} {oc:Value} {od an:Option Addr} {osl:Array (Option Value)} {kV doc pm cdv ct:Value} (l:K.lookup f=some ⟨oc,od,.func (PySem.W.fnOf x qual (defArgs st) (defBody st) (defScope st) .none kV doc pm an cdv ct),osl⟩)
  (c:PySem.W.codeIn K cdv qual=true) (k:PySem.W.keepIn K (.ref f)=true):Fun K x qual st f (PySem.W.fnOf x qual (defArgs st) (defBody st) (defScope st) .none kV doc pm an cdv ct):=⟨⟨oc,od,kV,doc,pm,an,cdv,ct,osl,rfl,l,c⟩,k⟩
end
theorem hu_of {A:Around} {k:Nat} (hr:Room k A):A.units+1<cLine:=Nat.lt_of_le_of_lt (Nat.add_le_add_left (by decide:1<=64) _) hr.units
section
variable {X:Cx}
theorem pv (i:Nat) {x:Str} {pos:Pos} (hN:X.N[i]? = some x:=by rfl) (hv:Vis X.env.scope x:=by first | exact Or.inl rfl | exact Or.inr (Or.inl rfl) | exact Or.inr (Or.inr rfl)) (hd:(x == ("__debug__" : Str))=false:=by decide)
  (hcd:(x == ("__classdict__" : Str))=false:=by decide):PE X (.Name x pos) (tVar i):=pe_var hN hv hd hcd
theorem call_lenD:CallR X (.builtin "len") (λxs H Q=>∃a kvs,xs=[V.ref a]/\H a=some (.dK kvs)/\Q (.int kvs.length) H):=by
 intro pins s σ H xs us Q I r h
 obtain ⟨a,kvs,rfl,ha,q⟩:=h
 obtain ⟨u,rfl,ru⟩:=vals1 r
 cases ru
 exact d_len I (.inl ha) λt s' I'=>⟨.int kvs.length,H,I',⟨t,rfl⟩,q⟩
end
noncomputable def Same (H H':Hp):Prop:=∀b o,H b=some o->H' b=some o
theorem Same.refl (H:Hp):Same H H:=λ_ _ h=>h
theorem Same.trans {H H1 H2:Hp} (a:Same H H1) (b:Same H1 H2):Same H H2:=λc o h=>b c o (a c o h)
theorem Same.free {H H':Hp} (e:Same H H') {l:Addr} (h:H' l=Option.none):H l=Option.none:=by
 cases q:H l with
 | none=>rfl
 | some o =>
  rw [e l o q] at h
  cases h
theorem Same.seq {K:PySem.W.Frag} {H H':Hp} {a:Addr} {xs:List V} (e:Same H H') (h:SqL K H a xs):SqL K H' a xs:=by
 rcases h with (h | ⟨o,h⟩) | h
 ·exact .inl (.inl (e _ _ h))
 ·exact .inl (.inr ⟨o,e _ _ h⟩)
 ·exact .inr h
section
variable {κ:Type} [DecidableEq κ]
end
end L2
set_option maxHeartbeats 4000000
namespace L2
open PySem PySem.Spec PyProof.Rows
theorem closure_run {env:Env}:∀(names:List (Str × NameKind)) (acc:List (Str × Addr)),
  (∀x∈names,x.2=.free->∃c,env.cells.lookup x.1=some c)->(∀y c,acc.lookup y=some c->env.cells.lookup y=some c) ->
  ∃cl:List (Str × Addr),(forIn names acc (λ(x:Str × NameKind) (cs:List (Str × Addr)) =>
    if (x.2 == NameKind.free)=true then do
     let c ← cellOf env x.1
     pure (ForInStep.yield ((x.1,c)::cs))
    else pure (ForInStep.yield cs)):Sem (List (Str × Addr)))=pure cl /\
   (∀y c,cl.lookup y=some c->env.cells.lookup y=some c)/\(∀y,(acc.lookup y).isSome=true->(cl.lookup y).isSome=true) /\
   ∀x∈names,x.2=.free->(cl.lookup x.1).isSome=true
 | [],acc,_,ha=>⟨acc,by rw [List.forIn_nil],ha,λ_ h=>h,λ_ h=>nomatch h⟩
 | (n,k)::r,acc,hn,ha=>by
  rw [List.forIn_cons]
  by_cases hk:k=.free
  ·subst hk
   obtain ⟨c,hc⟩:=hn (n,.free) List.mem_cons_self rfl
   have hc':env.cells.lookup n=some c:=hc
   obtain ⟨cl,e,h1,h2,h3⟩:=closure_run r ((n,c)::acc) (λx hx=>hn x (List.mem_cons_of_mem _ hx)) (λy c' h=>by
    rw [List.lookup_cons] at h
    cases q:y == n with
    | true=>rw [q] at h;cases h;rw [beq_iff_eq.mp q];exact hc'
    | false=>rw [q] at h;exact ha y c' h)
   refine ⟨cl,?_,h1,λy hy=>h2 y ?_,λx hx hf=>?_⟩
   ·have e0:cellOf env n=pure c:=by unfold cellOf;rw [hc']
    show ((if ((NameKind.free == NameKind.free)=true) then (cellOf env n >>= λc=>pure (ForInStep.yield ((n,c)::acc))) else pure (ForInStep.yield acc)) >>= _)=_
    rw [if_pos (by decide),e0]
    exact e
   ·rw [List.lookup_cons]
    cases q:y == n with
    | true=>rfl
    | false=>exact hy
   ·rcases List.mem_cons.mp hx with rfl | hx
    ·exact h2 n (by simp [List.lookup_cons])
    ·exact h3 x hx hf
  ·obtain ⟨cl,e,h1,h2,h3⟩:=closure_run r acc (λx hx=>hn x (List.mem_cons_of_mem _ hx)) ha
   refine ⟨cl,?_,h1,h2,λx hx hf=>?_⟩
   ·show ((if ((k == NameKind.free)=true) then (cellOf env n >>= λc=>pure (ForInStep.yield ((n,c)::acc))) else pure (ForInStep.yield acc)) >>= _)=_
    rw [if_neg (by simpa using hk)]
    exact e
   ·rcases List.mem_cons.mp hx with rfl | hx
    ·exact absurd hf hk
    ·exact h3 x hx hf
theorem closure_for {env:Env} {scope:Scope} (h:∀x∈scope.names,x.2=.free->∃c,env.cells.lookup x.1=some c) :
  ∃cl,closureFor scope env=pure cl/\(∀y c,cl.lookup y=some c->env.cells.lookup y=some c)/\∀x∈scope.names,x.2=.free->∃c,cl.lookup x.1=some c:=by
 obtain ⟨cl,e,h1,_,h3⟩:=closure_run scope.names [] h (λy c q=>by simp at q)
 refine ⟨cl,?_,h1,λx hx hf=>Option.isSome_iff_exists.mp (h3 x hx hf)⟩
 simp only [closureFor]
 show (forIn scope.names [] _ >>= λr=>pure r)=_
 rw [e]
 rfl
theorem lookup_relabel_free {env:Env} {x:Str}:∀{names:List (Str × NameKind)},names.lookup x=some .free ->
  (names.map λ(n,k)=>if (k == NameKind.free && env.scope.kind == .function && env.kindOf n == some .cell) then (n,NameKind.cell) else (n,k)).lookup x=some .cell \/
  (names.map λ(n,k)=>if (k == NameKind.free && env.scope.kind == .function && env.kindOf n == some .cell) then (n,NameKind.cell) else (n,k)).lookup x=some .free
 | [],h=>by simp at h
 | (n,k)::r,h=>by
  have ih:=@lookup_relabel_free env x r
  show List.lookup x ((if (k == NameKind.free && env.scope.kind == .function && env.kindOf n == some .cell)=true then (n,NameKind.cell) else (n,k))::_)=_\/List.lookup x ((if (k == NameKind.free && env.scope.kind == .function && env.kindOf n == some .cell)=true then (n,NameKind.cell) else (n,k))::_)=_
  cases hx:x == n with
  | true =>
   simp only [List.lookup_cons,hx] at h
   cases h
   by_cases hc:(NameKind.free == NameKind.free && env.scope.kind == .function && env.kindOf n == some .cell)=true
   ·rw [if_pos hc];left;simp only [List.lookup_cons,hx]
   ·rw [if_neg hc];right;simp only [List.lookup_cons,hx]
  | false =>
   simp only [List.lookup_cons,hx] at h
   by_cases hc:(k == NameKind.free && env.scope.kind == .function && env.kindOf n == some .cell)=true
   ·rw [if_pos hc];simp only [List.lookup_cons,hx];exact ih h
   ·rw [if_neg hc];simp only [List.lookup_cons,hx];exact ih h
theorem relabel_back {env:Env} {x:Str} {q:NameKind}:∀{names:List (Str × NameKind)},(∀y∈names,y.2 ≠ .cell)->q=.cell\/q=.free ->
  (names.map λ(n,k)=>if (k == NameKind.free && env.scope.kind == .function && env.kindOf n == some .cell) then (n,NameKind.cell) else (n,k)).lookup x=some q->(x,NameKind.free)∈names
 | [],_,_,h=>by simp at h
 | (n,k)::r,hn,hq,h=>by
  have h:List.lookup x ((if (k == NameKind.free && env.scope.kind == .function && env.kindOf n == some .cell)=true then (n,NameKind.cell) else (n,k))::(r.map λ(n,k)=>if (k == NameKind.free && env.scope.kind == .function && env.kindOf n == some .cell) then (n,NameKind.cell) else (n,k)))=some q:=h
  by_cases hc:(k == NameKind.free && env.scope.kind == .function && env.kindOf n == some .cell)=true
  ·rw [if_pos hc] at h
   cases hx:x == n with
   | true =>
    have hk:k=.free:=by
     cases k <;> first | rfl | (simp at hc)
    rw [beq_iff_eq.mp hx,hk]
    exact List.mem_cons_self
   | false =>
    simp only [List.lookup_cons,hx] at h
    exact List.mem_cons_of_mem _ (relabel_back (λy hy=>hn y (List.mem_cons_of_mem _ hy)) hq h)
  ·rw [if_neg hc] at h
   cases hx:x == n with
   | true =>
    simp only [List.lookup_cons,hx] at h
    have hk:k=q:=Option.some.inj h
    have hk2:k=.free:=by
     rcases hq with rfl | rfl
     ·exact absurd hk (hn (n,k) List.mem_cons_self)
     ·exact hk
    rw [beq_iff_eq.mp hx,hk2]
    exact List.mem_cons_self
   | false =>
    simp only [List.lookup_cons,hx] at h
    exact List.mem_cons_of_mem _ (relabel_back (λy hy=>hn y (List.mem_cons_of_mem _ hy)) hq h)
noncomputable def cxBlk (X:Cx) (scope:Scope) (cl:List (Str × Addr)) (C:Addr) (N:List Str) (s₀:Shared) (H₀:Hp) (fp:List Addr):Cx :=
 { X with N:=N,s₀:=s₀,H₀:=H₀,env:=compEnvC scope cl C X.env,outer:=X.stack,stack:=X.stack,ex:=fp,fn:=λ_=>false,pn:=[],xe:=λ_ _=>False }
structure BlkScope (env:Env) (scope:Scope) (x:Str):Prop where
 kind:scope.kind=.function
 cells:∀y∈scope.names,y.2 ≠ .cell
 names:∀y∈scope.names,y.2=.local->scope.names.lookup y.1=some .local
 lx:scope.names.lookup x=some .local
 free:∀y∈scope.names,y.2=.free->env.kindOf y.1=some .cell\/env.kindOf y.1=some .free
noncomputable def bN (N:List Str) (x:Str) (ix:List Nat):List Str:=x::ix.map λi=>N.getD i Str.empty
noncomputable def bS (σ:St) (o:Option V) (ix:List Nat):St:=o::ix.map λi=>(σ[i]?).getD none
noncomputable def PIfs (X:Cx) (ifs:List Expr) (tt:TT):Prop :=
 ∀(pins:List (Addr × Obj)) (s:Shared) (σ:St) (H:Hp) (Q:Bool->Hp->Prop),Inv X pins σ H s->tt σ H Q ->
  wpAny (model X.prog X.w) X.A (forIn ifs true λc r=>if r=true then do let ok ← isTrue c X.env (eval c X.env);pure (ForInStep.yield ok) else pure (ForInStep.yield r)) (TP X pins σ Q) X.xe s
noncomputable def tAll:TT:=λ_ H Q=>Q true H
theorem pifs_nil {X:Cx}:PIfs X [] tAll:=by
 intro pins s σ H Q I h
 rw [List.forIn_nil]
 exact wpAny_pure ⟨H,I,h⟩
theorem pifs_one {X:Cx} {c:Expr} {tt:TT} (h:PT X c tt):PIfs X [c] tt:=by
 intro pins s σ H Q I hw
 rw [List.forIn_cons]
 refine wpAny_bind ?_
 rw [if_pos rfl]
 refine wpAny_bind (thn (h pins s σ H _ I hw) λok s1 q=>wpAny_pure ?_)
 show wpAny _ _ (forIn [] ok _) _ _ s1
 rw [List.forIn_nil]
 exact wpAny_pure q
section
variable {X:Cx}
theorem blk_ok {pins:List (Addr × Obj)} {σ:St} {H:Hp} {s:Shared} {scope:Scope} {cl:List (Str × Addr)} {C:Addr} {N:List Str} {fp:List Addr} {x:Str} (I:Inv X pins σ H s) (B:BlkScope X.env scope x)
  (h1:∀y c,cl.lookup y=some c->X.env.cells.lookup y=some c) (h3:∀y∈scope.names,y.2=.free->∃c,cl.lookup y.1=some c) (hC:s.heap.objs.size<=C) (hf:∀b∈fp,FpOk X pins H b) (hl:∀b∈fp,b<s.heap.objs.size) :
  (cxBlk X scope cl C N s H fp).Ok where
 mod:=I.ok.mod
 kind:=by show (relabel scope X.env).kind=_;exact B.kind
 glob:=I.ok.glob
 blt:=I.ok.blt
 above:=hC
 inj:=λy z c q r=>I.ok.inj y z c (h1 y c q) (h1 z c r)
 has:=λy hy=>by
  have hy:(relabel scope X.env).names.lookup y=some .cell\/(relabel scope X.env).names.lookup y=some .free:=hy
  have m:(y,NameKind.free)∈scope.names:=by
   rcases hy with q | q
   ·exact relabel_back B.cells (.inl rfl) q
   ·exact relabel_back B.cells (.inr rfl) q
  exact h3 _ m rfl
 cab:=λy c q=>by cases (show false=true from q)
 hd:=I.ok.hd
 frames:=I.ok.frames
 stk:=.inl rfl
 exf:=λb hb=>⟨Nat.ne_of_lt (Nat.lt_of_lt_of_le (hl b hb) hC),λy c q=>(hf b hb).2.2.2.2.1 y c (h1 y c q)⟩
 bs:=I.bs
 bsz:=Nat.le_trans I.ok.bsz I.sz
 noex:=λb o e hb=>by
  rcases (hf b hb).2.2.2.1 with z | z
  ·exact I.ok.noex b o e z
  ·exact absurd (Nat.lt_of_lt_of_le (Heap.lt_size e) (Nat.le_trans I.ok.bsz z)) (Nat.lt_irrefl _)
 exfs:=λb hb z=>by
  have z':=I.stkSub b z
  rcases List.mem_cons.mp z' with q | q
  ·exact (hf b hb).2.1 q
  ·exact (hf b hb).2.2.1 q
 funs:=I.stack
 frf:=I.stkFree
theorem HOk.add {P:Program} {w:World} {H:Hp} {h:Heap} {a:Addr} {o:HO} (x:HOk P w H h) (hn:H a=none) (new:ObjOk P w (upd H a o) h a o):HOk P w (upd H a o) h:=λb u e=>by
 by_cases hb:b=a
 ·subst hb;rw [upd_same] at e;cases e;exact new
 ·rw [upd_ne hb] at e
  exact (x b u e).stay (λc v _ q=>q) (λc q=>by rw [upd_ne (ne_of_none q hn)];exact q) (λc xs q=>by rw [upd_ne (ne_of_none q hn)];exact q) λc _ _ _ q _=>by rw [upd_ne (ne_of_none q hn)];exact q
theorem Un.add {fs ex:List Addr} {H H':Hp} {h h':Heap} {a:Addr} {o:HO} (u:Un fs ex H H' h h') (hn:h.get? a=none) (hH:H a=none):Un fs ex H (upd H' a o) h h' where
 keep:=u.keep
 slot:=u.slot
 free:=λb ob e n hx=>by
  have:b≠a:=λz=>by rw [z,hn] at e;cases e
  rw [upd_ne this];exact u.free b ob e n hx
 there:=u.there
 tups:=λb xs e=>by rw [upd_ne (ne_of_none e hH)];exact u.tups b xs e
 frzs:=λb ob w e=>by rw [upd_ne (ne_of_none e hH)];exact u.frzs b ob w e
 tbls:=λb ps e=>by rw [upd_ne (ne_of_none e hH)];exact u.tbls b ps e
end
end L2
namespace L2
open PySem PySem.Spec PyProof.Rows
section
variable {X:Cx}
theorem comp_blk {elt iter:Expr} {x:Str} {px pos:Pos} {scope:Scope} {te:TE} {tt:TT} {ifs:List Expr} {ix:List Nat} {pins:List (Addr × Obj)} {s:Shared} {σ:St} {H:Hp} {cl:List (Str × Addr)}
  {J:It} {fp:List Addr} {it:Addr} {tn:Nat->Heap->Prop} {E:Value->Shared->Prop} {RR:Value->Addr->Result->Shared->Prop} {G:List V->Hp->Prop}
  (I:Inv X pins σ H s) (hc:X.calm=true) (B:BlkScope X.env scope x) (h1:∀y c,cl.lookup y=some c->X.env.cells.lookup y=some c) (h3:∀y∈scope.names,y.2=.free->∃c,cl.lookup y.1=some c)
  (hix:∀i∈ix,∃y,X.N[i]? = some y/\scope.names.lookup y=some .free) (hN:(bN X.N x ix).Nodup)
  (T:Turn X.prog X.w X.K (.Name x px) J fp it tn) (st:tn 0 s.heap) (hf:∀b∈fp,FpOk X pins H b)
  (he:∀cl C s₀ H₀ fp,PE (cxBlk X scope cl C (bN X.N x ix) s₀ H₀ fp) elt te)
  (hi:∀cl C s₀ H₀ fp,PIfs (cxBlk X scope cl C (bN X.N x ix) s₀ H₀ fp) ifs tt)
  (W:Nat->Nat->List V->Hp->Prop) (m₀:Nat) (w0:W 0 m₀ [] H)
  (turn:∀i m ys H,W i m ys H->(J.stop i H/\ys.length<=sizeLine/\G ys H)\/(J.go i H/\ys.length<sizeLine/\∀v H',J.yld i H v H' ->
    tt (bS σ (some v) ix) H' λb H1=>if b=true then te (bS σ (some v) ix) H1 λy H2=>∃m',m' < m/\W (i+1) m' (ys++[y]) H2 else ∃m',m' < m/\W (i+1) m' ys H1))
  (hRR:∀D C s' ys H',Inv X pins σ (upd H' D (.lst ys)) s'->H' D=none->H' C=none->(∃m,s'.heap.Ns C m)->s.heap.objs.size<=C->D≠C->G ys H'->RR (.ref D) C (.ok .next) s') :
  wpAny (model X.prog X.w) X.A (newList []) (λacc s₃=>wpAny (model X.prog X.w) X.A (newFunctionEnv scope X.env.globals cl [] X.env.qual none .none (some X.env)) (λcenv s₄ =>
   codeAny (model X.prog X.w) X.A (.compStart (.ListComp elt [⟨.Name x px,iter,ifs,0⟩] scope pos) 0 (.ref it) acc { cenv with scope:=relabel scope X.env }) (RR acc cenv.locals) s₄) E s₃) E s:=by
 have hl:∀b∈fp,b<s.heap.objs.size:=λb hb=>by obtain ⟨o,e,_⟩:=T.obj 0 _ st b hb;exact Heap.lt_size e
 refine wpAny_newObj_type (wpAny_newFunctionEnv B.cells (by intro y hy;simp at hy) (λh₁ hns₁ hsb₁=>?_) B.kind)
 dsimp only at hns₁ hsb₁ ⊢
 generalize hH2:s.heap.push { cls:=.type "list",dict:=none,data:=.seq ([]:List Value).toArray }=H2 at hns₁ hsb₁ ⊢
 have hC:H2.objs.size=s.heap.objs.size+1:=by rw [← hH2,Heap.size_push]
 generalize hD:s.heap.objs.size=D at hC hl hRR ⊢
 generalize hCC:H2.objs.size=C at hC hns₁ hsb₁ ⊢
 have hDC:D≠C:=by omega
 have old:∀b o,s.heap.get? b=some o->h₁.get? b=some o:=λb o e=>hsb₁.extBut b o (Nat.ne_of_lt (by have z:=Heap.lt_size e;rw [hD] at z;exact Nat.lt_of_lt_of_le z (by rw [hC];exact Nat.le_succ _))) (Heap.get?_push_of_some _ (hH2 ▸ Heap.get?_push_of_some _ e))
 have hacc:h₁.get? D=some { cls:=.type "list",data:=.seq ([]:List Value).toArray 0 }:=hsb₁.extBut _ _ hDC (Heap.get?_push_of_some _ (hH2 ▸ (by rw [← hD];exact Heap.get?_push_size _ rfl)))
 have hfr:∀a,D<=a->s.heap.get? a=none:=λa ha=>by
  cases e:s.heap.get? a with
  | none=>rfl
  | some o=>exact absurd (Heap.lt_size e) (by rw [hD];exact Nat.not_lt.mpr ha)
 have hHn:∀a,D<=a->H a=none:=λa ha=>I.hok.fresh (by omega)
 have ok:(cxBlk X scope cl C (bN X.N x ix) s H fp).Ok:=blk_ok I B h1 h3 (by omega) hf (by rw [hD];exact hl)
 generalize hK:cxBlk X scope cl C (bN X.N x ix) s H fp=K at ok
 have kp:K.prog=X.prog:=by rw [← hK];rfl
 have kw:K.w=X.w:=by rw [← hK];rfl
 have kK:K.K=X.K:=by rw [← hK];rfl
 have kA:K.A=X.A:=by rw [← hK];rfl
 have kc:K.calm=true:=by rw [← hK];exact hc
 have kN:K.N=bN X.N x ix:=by rw [← hK];rfl
 have kenv:K.env=compEnvC scope cl C X.env:=by rw [← hK];rfl
 have kloc:K.env.locals=C:=by rw [← hK];rfl
 have kfs:K.fs=frs X.stack:=by rw [← hK];rfl
 have kex:K.ex=fp:=by rw [← hK];rfl
 have kpn:K.pn=[]:=by rw [← hK];rfl
 have ks:K.s₀=s:=by rw [← hK];rfl
 have kH:K.H₀=H:=by rw [← hK];rfl
 have kx:K.xe=λ_ _=>False:=by rw [← hK];rfl
 have kcl:K.env.cells=cl:=by rw [← hK];rfl
 have cellLt:∀y c,cl.lookup y=some c->c<D:=λy c q=>by obtain ⟨v,z⟩:=I.cell y c (h1 y c q);rw [← hD];exact z.lt
 have stkLt:∀b∈frs X.stack,b<D:=λb hb=>by
  rcases List.mem_cons.mp (I.stkSub b hb) with q | q
  ·rw [q,← hD];exact I.lt
  ·rcases Nat.lt_or_ge b D with z | z
   ·exact z
   ·exact absurd q (I.nofs (by omega))
 -- the state at the block's begin
 have I0:∀tk,Inv K [(D,{ cls:=.type "list",data:=.seq ([]:List Value).toArray 0 })] (bS σ none ix) H { s with heap:=h₁,toks:=tk }:=λtk=>by
  refine ⟨ok,by rw [ks],I.bare,by rw [ks,kH];exact Un.kept old,?_,?_,?_,?_,?_,by rw [kp,kw];exact I.hok.kept old,?_⟩
  ·refine ⟨_,by rw [kloc];exact hns₁,λi y v e1 e2 e3=>?_⟩
   rw [kN] at e1
   cases i with
   | zero =>
    have:(none:Option V)=some v:=by simpa [bS] using e2
    cases this
   | succ i =>
    have e1':(ix.map λi=>X.N.getD i Str.empty)[i]? = some y:=by simpa [bN] using e1
    have e2':(ix.map λi=>(σ[i]?).getD none)[i]? = some (some v):=by simpa [bS] using e2
    rw [List.getElem?_map] at e1' e2'
    cases q:ix[i]? with
    | none=>rw [q] at e1';cases e1'
    | some j =>
     rw [q] at e1' e2'
     obtain ⟨y',a1,a2⟩:=hix j (List.mem_of_getElem? q)
     have a3:X.N.getD j Str.empty=y':=by simp [List.getD,a1]
     have ey:y'=y:=by rw [← a3];exact Option.some.inj e1'
     subst ey
     have es:σ[j]? = some (some v):=by
      have z:(σ[j]?).getD none=some v:=Option.some.inj e2'
      cases w:σ[j]? with
      | none=>rw [w] at z;cases z
      | some o=>rw [w] at z;have z':o=some v:=z;rw [z']
     obtain ⟨m,hn,hlk⟩:=I.loc
     have hk:=B.free (y',.free) (PySem.mem_of_lookup a2) rfl
     have hk:X.env.kindOf y'=some .cell\/X.env.kindOf y'=some .free:=hk
     have vis:Vis X.env.scope y':=hk.elim (λz=>.inr (.inl z)) λz=>.inr (.inr z)
     obtain ⟨u,ru,lk⟩:=hlk j y' v a1 es vis
     refine ⟨u,ru,?_⟩
     rcases lk with ⟨k,_⟩ | ⟨_,c,ec,ce⟩
     ·rcases hk with z | z <;> (rw [k] at z;cases z)
     ·obtain ⟨c',ec'⟩:=h3 (y',.free) (PySem.mem_of_lookup a2) rfl
      have ec':cl.lookup y'=some c':=ec'
      have:c'=c:=Option.some.inj ((h1 y' c' ec').symm.trans ec)
      subst this
      refine .inr ⟨?_,c',by rw [kcl];exact ec',?_⟩
      ·show K.env.scope.names.lookup y'=_\/K.env.scope.names.lookup y'=_
       rw [kenv]
       exact lookup_relabel_free a2
      ·obtain ⟨oc,hoc,r⟩:=ce
       exact ⟨oc,old _ _ hoc,r⟩
  ·intro y c q
   rw [kcl] at q
   obtain ⟨v,oc,hoc,r⟩:=I.cell y c (h1 y c q)
   exact ⟨v,oc,old _ _ hoc,r⟩
  ·rw [kloc];exact hHn _ (by omega)
  ·intro y c q
   rw [kcl] at q
   exact I.freeC y c (h1 y c q)
  ·intro p hp
   rw [kpn] at hp
   have e:p=(D,{ cls:=.type "list",data:=.seq ([]:List Value).toArray 0 }):=by simpa using hp
   subst e
   refine ⟨hacc,hHn _ (Nat.le_refl _),by rw [kloc];exact hDC,?_,λv z=>?_⟩
   ·rw [kfs];intro z;exact absurd (stkLt D z) (Nat.lt_irrefl _)
   ·have z':Data.seq _ _=Data.cell v:=z
    cases z'
  ·rw [kN];simp [bS,bN]
 have stat:∀{H':Hp} {ob:Obj},(∀b∈fp,H' b=none)->∀b∈fp,FpOk K [(D,ob)] H' b:=λ{H' ob} hn b hb=>by
  refine ⟨hn b hb,?_,?_,.inl (by rw [kex];exact hb),?_,?_⟩
  ·rw [kloc];exact Nat.ne_of_lt (Nat.lt_of_lt_of_le (hl b hb) (by rw [hC];exact Nat.le_succ _))
  ·rw [kfs];intro z
   rcases List.mem_cons.mp (I.stkSub b z) with q | q
   ·exact (hf b hb).2.1 q
   ·exact (hf b hb).2.2.1 q
  ·intro y c q;rw [kcl] at q;exact (hf b hb).2.2.2.2.1 y c (h1 y c q)
  ·intro p hp;rw [kpn] at hp
   have e:p=(D,ob):=by simpa using hp
   subst e
   exact Nat.ne_of_gt (hl b hb)
 have st₁:tn 0 h₁:=T.keep _ _ _ st λb hb o e=>old b o e
 have loop:∀tk,codeAny (model X.prog X.w) X.A (.compLoop (.ListComp elt [⟨.Name x px,iter,ifs,0⟩] scope pos) 0 (.ref it) (.ref D) (compEnvC scope cl C X.env)) (RR (.ref D) C) { s with heap:=h₁,toks:=tk }:=by
  intro tk
  refine codeAny_compLoop_tests (λn s'=>∃i o H' ys its c,Inv K [(D,{ cls:=.type "list",data:=.seq (its:List Value).toArray c })] (bS σ o ix) H' s'/\Vals ys its/\tn i s'.heap/\(∀b∈fp,H' b=none)/\W i n ys H') ?_ m₀
   ⟨0,none,H,[],[],0,I0 tk,.nil,st₁,λb hb=>(hf b hb).1,w0⟩
  rintro n s1 ⟨i,o,H1,ys,its,c,I1,rv,t1,f1,w1⟩
  rcases turn i n ys H1 w1 with ⟨stop,hz,g⟩ | ⟨go,hz,step⟩
  ·have dn:=T.done K kp kw kK kc i _ s1 _ H1 (notedBy (model X.prog X.w) X.A (compEnvC scope cl C X.env) λe s'=>RR (.ref D) C (.error e) s') I1 (stat f1) t1 stop
   rw [kA] at dn
   refine thn dn λr s2 ⟨hr,I2⟩=>?_
   subst hr
   obtain ⟨p1,p2,p3,p4,p5⟩:=I2.pin (D,{ cls:=.type "list",data:=.seq its.toArray c }) (List.mem_append_right _ (List.mem_singleton.mpr rfl))
   have u2:=I2.base
   rw [kfs,kex,kH,ks] at u2
   refine hRR D C s2 ys H1 ?_ p2 (by rw [← kloc];exact I2.free) (by obtain ⟨m,hm,_⟩:=I2.loc;rw [kloc] at hm;exact ⟨m,hm⟩) (by omega) hDC g
   have hk2:HOk X.prog X.w H1 s2.heap:=by have:=I2.hok;rw [kp,kw] at this;exact this
   refine I.call' (ch:=fp) (by have:=I2.os;rw [ks] at this;exact this) (u2.add (hfr D (Nat.le_refl _)) (hHn D (Nat.le_refl _))) (hk2.add p2 ⟨hz,its,c,rv,p1⟩) I2.bare λb hb=>?_
   exact ⟨(hf b hb).2.2.2.1,(hf b hb).2.1,(hf b hb).2.2.2.2.1,(hf b hb).2.2.2.2.2⟩
  ·have im:=T.item K kp kw kK kc i _ s1 _ H1 (notedBy (model X.prog X.w) X.A (compEnvC scope cl C X.env) λe s'=>RR (.ref D) C (.error e) s') I1 (stat f1) t1 go
   rw [kA] at im
   refine thn im λr s2 ⟨u,hr,h2⟩=>?_
   subst hr
   show wpAny _ _ (assign (.Name x px) (compEnvC scope cl C X.env) u) _ _ s2
   have h2':wpAny (model X.prog X.w) X.A (pure ():Sem Unit) _ _ s2:=h2
   suffices q:wpAny (model X.prog X.w) X.A ((pure ():Sem Unit) >>= λ_=>assign (.Name x px) (compEnvC scope cl C X.env) u) _ _ s2 from q
   refine wpAny_bind (thn h2' λ_ s3 ⟨v,H3,I3,r3,y3,t3,f3⟩=>?_)
   have q3:=step v H3 y3
   have I3':=I3.pinned (stat f3) (T.obj _ _ t3)
   rw [← kenv]
   refine wpAny_assign_Name (store_ok I3' (i:=0) (x:=x) (by rw [kN];exact hN) (by rw [kN];rfl) (.inl (by rw [kenv];exact lookup_relabel_local B.lx)) r3 (λs4 I4=>?_) (.inr (by rw [kenv];exact lookup_relabel_local B.lx)))
   have I4:Inv K ([(D,{ cls:=.type "list",data:=.seq its.toArray c })]++pinsAt fp s3.heap) (bS σ (some v) ix) H3 s4:=I4
   have hi':=hi cl C s H fp
   rw [hK] at hi'
   have hiv:=hi' _ s4 _ H3 _ I4 q3
   rw [kx,kp,kw,kA] at hiv
   refine wpAny_mono hiv (λok s5 ⟨H5,I5,q5⟩=>?_) λ_ _ z=>z.elim
   have back:∀{H7:Hp} {s7:Shared} {o7:Option V},Inv K ([(D,{ cls:=.type "list",data:=.seq its.toArray c })]++pinsAt fp s3.heap) (bS σ o7 ix) H7 s7->tn (i+1) s7.heap/\∀b∈fp,H7 b=none:=λ{H7 s7 o7} I7=>by
    refine ⟨T.keep _ _ _ t3 λb hb o e=>(I7.pin (b,o) (List.mem_append_right _ (List.mem_append_right _ (mem_pinsAt hb e)))).1,λb hb=>?_⟩
    obtain ⟨ob,e,d⟩:=T.obj _ _ t3 b hb
    exact (I7.pin (b,ob) (List.mem_append_right _ (List.mem_append_right _ (mem_pinsAt hb e)))).2.1
   cases ok with
   | false =>
    rw [if_neg Bool.false_ne_true]
    have q5:∃m',m' < n/\W (i+1) m' ys H5:=q5
    obtain ⟨m',hm,w5⟩:=q5
    obtain ⟨b1,b2⟩:=back I5
    exact ⟨m',hm,i+1,some v,H5,ys,its,c,I5.unpinned,rv,b1,b2,w5⟩
   | true =>
    rw [if_pos rfl]
    have q5:te (bS σ (some v) ix) H5 λy H2=>∃m',m' < n/\W (i+1) m' (ys++[y]) H2:=q5
    have he':=he cl C s H fp
    rw [hK] at he'
    have hev:=he' _ s5 _ H5 _ I5 q5
    rw [kx,kp,kw,kA] at hev
    refine wpAny_mono hev (λy s6 ⟨yv,H6,I6,r6,m',hm,w6⟩=>?_) λ_ _ z=>z.elim
    obtain ⟨b1,b2⟩:=back I6
    have I6':=I6.unpinned
    obtain ⟨p1,p2,p3,p4,p5⟩:=I6'.pin (D,{ cls:=.type "list",data:=.seq its.toArray c }) (List.mem_append_right _ (List.mem_singleton.mpr rfl))
    have hlen:=rv.length
    refine call_meets F.slot_list_append ⟨_,p1,rfl⟩ F.entry_list_append (F.args_list_append_2 _ _) (PySem.list_append D its.toArray c y (by rw [List.size_toArray];omega)) ⟨p1,?_⟩
    have ea:its.toArray.push y=(its++[y]).toArray:=by simp
    obtain ⟨c',q⟩:∃c',(s6.heap.update D (Obj.mapSeq (·.push y))).get? D=some { cls:=.type "list",data:=.seq (its++[y]).toArray c' }:=⟨_,by rw [← ea];exact PySem.IsL.update p1 (·.push y)⟩
    refine ⟨m',hm,i+1,some v,H6,ys++[yv],its++[y],c',?_,rv.append (.cons r6 .nil),T.keep _ _ _ b1 λb hb o e=>?_,b2,w6⟩
    ·have Id:Inv K [] (bS σ (some v) ix) H6 s6:=I6'.pins_of λp hp=>by simp at hp
     have It:Inv K [] (bS σ (some v) ix) H6 { s6 with heap:=s6.heap.update D (Obj.mapSeq (·.push y)) }:=Id.turned (t':=s6.toks) (it:=D) (λb o hb e=>(Heap.get?_update_other _ _ (Ne.symm hb)).trans e) p2 p3
      (.inr (by rw [ks];omega)) (λy' c' e=>by rw [kcl] at e;exact Nat.ne_of_lt (cellLt y' c' e)) (λp hp=>by rw [kpn] at hp;simp at hp)
     refine It.pins_of λp hp=>?_
     obtain rfl:p=(D,{ cls:=.type "list",data:=.seq (its++[y]).toArray c' }):=by simpa using hp
     refine ⟨q,p2,p3,p4,λv z=>?_⟩
     have z':Data.seq _ _=Data.cell v:=z
     cases z'
    ·exact (Heap.get?_update_other _ _ (Nat.ne_of_gt (hl b hb))).trans e
 have selfs:wpAny (model X.prog X.w) X.A (pyIter (.ref it)) (λit' s'=>codeAny (model X.prog X.w) X.A (.compLoop (.ListComp elt [⟨.Name x px,iter,ifs,0⟩] scope pos) 0 it' (.ref D) (compEnvC scope cl C X.env)) (RR (.ref D) C) s')
   (notedBy (model X.prog X.w) X.A (compEnvC scope cl C X.env) λe s'=>RR (.ref D) C (.error e) s') { s with heap:=h₁,toks:=s.toks+([]:List (Str × Value)).length }:=T.self X.A 0 _ _ _ st₁ (loop _)
 exact codeAny_compStart_list (loop _) selfs
noncomputable def tComp (wi:TI) (tt:TT) (te:TE) (ix:List Nat):TE:=λσ H Q=>wi σ H λJ H1=>∃(W:Nat->Nat->List V->Hp->Prop) (m₀:Nat),W 0 m₀ [] H1 /\
 ∀i m ys H,W i m ys H->(J.stop i H/\ys.length<=sizeLine/\∀l,H l=none->Q (.ref l) (upd H l (.lst ys)))\/(J.go i H/\ys.length<sizeLine/\∀v H',J.yld i H v H' ->
  tt (bS σ (some v) ix) H' λb H1=>if b=true then te (bS σ (some v) ix) H1 λy H2=>∃m',m' < m/\W (i+1) m' (ys++[y]) H2 else ∃m',m' < m/\W (i+1) m' ys H1)
theorem blk_free {scope:Scope} {x:Str} {pins:List (Addr × Obj)} {σ:St} {H:Hp} {s:Shared} (I:Inv X pins σ H s) (B:BlkScope X.env scope x):∀y∈scope.names,y.2=.free->∃c,X.env.cells.lookup y.1=some c :=
 λy hy hf=>I.ok.has y.1 (B.free y hy hf)
theorem Inv.blkGone {pins:List (Addr × Obj)} {σ:St} {H:Hp} {s s₀:Shared} {H₀:Hp} {C:Addr} {h':Heap} {σ₀:St} (I₀:Inv X pins σ₀ H₀ s₀) (I:Inv X pins σ H s) (hC:s₀.heap.objs.size<=C) (hn:H C=none) (hs:Heap.SameBut C s.heap h'):Inv X pins σ H { s with heap:=h' } :=
 I.turned (t':=s.toks) (it:=C) (λb o hb e=>(hs.2 b hb).trans e) hn (Nat.ne_of_gt (Nat.lt_of_lt_of_le I₀.lt hC)) (.inr (Nat.le_trans I₀.sz hC))
  (λx c e=>by obtain ⟨v,z⟩:=I₀.cell x c e;exact Nat.ne_of_lt (Nat.lt_of_lt_of_le z.lt hC)) (λp hp=>Nat.ne_of_lt (Nat.lt_of_lt_of_le (Heap.lt_size (I₀.pin p hp).1) hC))
theorem pe_comp {elt iter:Expr} {x:Str} {px pos:Pos} {scope:Scope} {te:TE} {tt:TT} {wi:TI} {ifs:List Expr} (ix:List Nat) (hc:X.calm=true) (B:BlkScope X.env scope x)
  (hix:∀i∈ix,∃y,X.N[i]? = some y/\scope.names.lookup y=some .free) (hN:(bN X.N x ix).Nodup) (hi:PI X (.Name x px) iter wi)
  (ht:∀cl C s₀ H₀ fp,PIfs (cxBlk X scope cl C (bN X.N x ix) s₀ H₀ fp) ifs tt)
  (he:∀cl C s₀ H₀ fp,PE (cxBlk X scope cl C (bN X.N x ix) s₀ H₀ fp) elt te)
  (hs:∀x,foldedSetIterable iter X.env x=pure x:=by intro _;rfl) :
  PE X (.ListComp elt [⟨.Name x px,iter,ifs,0⟩] scope pos) (tComp wi tt te ix):=by
 intro pins s σ H Q I h
 obtain ⟨cl,hcl,h1,h3⟩:=closure_for (blk_free I B)
 rw [eval_ListComp]
 refine wpAny_comprehension_free (use:=none) rfl hs hcl B.kind B.names (thn (hi pins s σ H _ I h) λv s1 h1'=>thn h1' λitv s2 h2=>?_)
 obtain ⟨it,fp,tn,J,H2,e,I2,T,st2,f2,W,m0,w0,turn⟩:=h2
 subst e
 refine comp_blk (G:=λys H'=>∀l,H' l=none->Q (.ref l) (upd H' l (.lst ys))) I2 hc B h1 h3 hix hN T st2 f2 he ht W m0 w0 turn λD C s' ys H' I' hD hC hm hCs hDC g=>?_
 obtain ⟨m,hm⟩:=hm
 refine ⟨m,hm,λh' hsb=>⟨.ref D,upd H' D (.lst ys),I2.blkGone I' hCs (by rw [upd_ne (Ne.symm hDC)];exact hC) hsb,rfl,g D hD⟩⟩
theorem ps_comp {elt iter:Expr} {x y:Str} {px py pos spos:Pos} {scope:Scope} {te:TE} {tt:TT} {wi:TI} {ifs:List Expr} {j:Nat} (ix:List Nat) (hc:X.calm=true) (B:BlkScope X.env scope x)
  (hNd:X.N.Nodup) (hj:X.N[j]? = some y) (hy:Loc X.env.scope y)
  (hsw:swapsWith (.ListComp elt [⟨.Name x px,iter,ifs,0⟩] scope pos) (some (.Name y py)) spos.line X.env=pure true)
  (hix:∀i∈ix,∃y,X.N[i]? = some y/\scope.names.lookup y=some .free) (hN:(bN X.N x ix).Nodup) (hi:PI X (.Name x px) iter wi)
  (ht:∀cl C s₀ H₀ fp,PIfs (cxBlk X scope cl C (bN X.N x ix) s₀ H₀ fp) ifs tt)
  (he:∀cl C s₀ H₀ fp,PE (cxBlk X scope cl C (bN X.N x ix) s₀ H₀ fp) elt te)
  (hf:X.fn y=true\/X.env.scope.names.lookup y=some .local:=by first | exact .inl rfl | exact .inr rfl | assumption)
  (hs:∀x,foldedSetIterable iter X.env x=pure x:=by intro _;rfl) :
  PS X (.Assign [.Name y py] (.ListComp elt [⟨.Name x px,iter,ifs,0⟩] scope pos) spos) (tAsg (tComp wi tt te ix) (gName j)):=by
 intro pins s σ H D0 I h
 obtain ⟨cl,hcl,h1,h3⟩:=closure_for (blk_free I B)
 rw [exec_Assign_Name_used _ _ _ _ hsw]
 refine wpAny_bind (wpAny_standAt (wpAny_bind ?_))
 show wpAny _ X.A (do let _ ← comprehension (.ListComp elt [⟨.Name x px,iter,ifs,0⟩] scope pos) scope X.env _ (newList []) false (eval iter X.env) (some (assign (.Name y py) X.env))) _ _ s
 refine wpAny_bind (wpAny_mono (wpAny_comprehension_free (use:=some (assign (.Name y py) X.env)) (Q:=λ_ s'=>SP X pins D0 .next s') rfl hs hcl B.kind B.names
  (thn (hi pins s σ H _ I h) λv s1 h1'=>thn h1' λitv s2 h2=>?_)) (λ_ s' hq=>wpAny_pure (wpAny_pure hq)) λ_ _ e=>e)
 obtain ⟨it,fp,tn,J,H2,e,I2,T,st2,f2,W,m0,w0,turn⟩:=h2
 subst e
 refine comp_blk (G:=λys H'=>∀l,H' l=none->gName j (.ref l) σ (upd H' l (.lst ys)) D0.nx) I2 hc B h1 h3 hix hN T st2 f2 he ht W m0 w0 turn λD C s' ys H' I' hD hC hm hCs hDC g=>?_
 obtain ⟨m,hm⟩:=hm
 have hCn:upd H' D (.lst ys) C=none:=by rw [upd_ne (Ne.symm hDC)];exact hC
 show wpAny _ _ (assign (.Name y py) X.env (.ref D)) _ _ s'
 refine wpAny_assign_Name (store_ok2 I' hNd hj hy (show RelV (.ref D) (.ref D) from rfl) (λs3 I3 ⟨a,hsa,ha⟩=>?_) hf)
 have hCa:C≠a:=by
  rcases ha with z | z
  ·rw [z];exact Nat.ne_of_gt (Nat.lt_of_lt_of_le I2.lt hCs)
  ·obtain ⟨v,q⟩:=I2.cell y a z;exact Nat.ne_of_gt (Nat.lt_of_lt_of_le q.lt hCs)
 exact ⟨m,hm.sameBut hsa hCa,λh' hsb=>⟨_,_,I2.blkGone I3 hCs hCn hsb,g D hD⟩⟩
end
end L2
namespace L2
open PySem PySem.Spec PyProof.Rows
section
variable {X:Cx}
theorem Inv.turnNew {pins:List (Addr × Obj)} {σ:St} {H:Hp} {s:Shared} {ch:List Addr} {T:Addr} {o:HO} {h':Heap} {t':Nat} (I:Inv X pins σ H s) (hT:s.heap.objs.size<=T)
  (k:∀b u,b∉ch->s.heap.get? b=some u->h'.get? b=some u) (hch:∀b∈ch,FpOk X pins H b) (new:ObjOk X.prog X.w (upd H T o) h' T o):Inv X pins σ (upd H T o) { s with heap:=h',toks:=t' }:=by
 have hn:H T=none:=I.hok.fresh hT
 have hg:s.heap.get? T=none:=by
  cases e:s.heap.get? T with
  | none=>rfl
  | some u=>exact absurd (Heap.lt_size e) (Nat.not_lt.mpr hT)
 have u:Un (frs X.stack) ch H H s.heap h':=⟨λb q e _ _ hx=>k b q hx e,λb q e _ _ hx=>⟨q.slots,k b q hx e⟩,λb q e n _=>n,λb q e hx=>⟨q,k b q hx e⟩,λ_ _ e=>e,λ_ _ _ e=>e,λb ps e=>⟨#[],by rw [Array.append_empty];exact e⟩⟩
 have hok:HOk X.prog X.w H h':=λb q e=>(I.hok b q e).stay (λc v hc z=>k c v (λm=>by
  have q1:=(hch c m).1
  rcases hc with rfl | hc
  ·rw [q1] at e;cases e
  ·rw [q1] at hc;cases hc) z) (λ_ z=>z) λ_ _ z=>z
 exact I.call' (s':={ s with heap:=h',toks:=t' }) rfl (u.add hg hn) (hok.add hn new) I.bare λb hb=>⟨(hch b hb).2.2.2.1,(hch b hb).2.1,(hch b hb).2.2.2.2.1,(hch b hb).2.2.2.2.2⟩
theorem Inv.turnAll {pins:List (Addr × Obj)} {σ:St} {H:Hp} {s:Shared} {ch:List Addr} {h':Heap} {t':Nat} (I:Inv X pins σ H s)
  (k:∀b u,b∉ch->s.heap.get? b=some u->h'.get? b=some u) (hch:∀b∈ch,FpOk X pins H b):Inv X pins σ H { s with heap:=h',toks:=t' }:=by
 have u:Un (frs X.stack) ch H H s.heap h':=⟨λb q e _ _ hx=>k b q hx e,λb q e _ _ hx=>⟨q.slots,k b q hx e⟩,λb q e n _=>n,λb q e hx=>⟨q,k b q hx e⟩,λ_ _ e=>e,λ_ _ _ e=>e,λb ps e=>⟨#[],by rw [Array.append_empty];exact e⟩⟩
 have hok:HOk X.prog X.w H h':=λb q e=>(I.hok b q e).stay (λc v hc z=>k c v (λm=>by
  have q1:=(hch c m).1
  rcases hc with rfl | hc
  ·rw [q1] at e;cases e
  ·rw [q1] at hc;cases hc) z) (λ_ z=>z) λ_ _ z=>z
 exact I.call' (s':={ s with heap:=h',toks:=t' }) rfl u hok I.bare λb hb=>⟨(hch b hb).2.2.2.1,(hch b hb).2.1,(hch b hb).2.2.2.2.1,(hch b hb).2.2.2.2.2⟩
end
section
variable {prog:Program} {w:World} {A:Around} {E:Value->Shared->Prop} {s:Shared}
theorem tupNext {it t:Addr} {i:Nat} {items:Array Value} {x:Value} {Q:Value->Shared->Prop} (hit:s.heap.IsTupleIter it t i) (ht:s.heap.IsTuple t items) (hx:items[i]? = some x)
  (hQ:∀h',h'.IsTupleIter it t (i+1)->Heap.SameBut it s.heap h'->Q x { s with heap:=h' }):wpAny (model prog w) A (Builtin.SmallTypes.nextOf (.ref it)) Q E s:=by
 obtain ⟨o,ho,hc,hd⟩:=id hit
 obtain ⟨ol,hol,_,nl,hdl⟩:=ht
 unfold Builtin.SmallTypes.nextOf
 refine wpAny_bind (wpAny_callSpecial?_slot (name:=Str.ofString "__next__") hit.typeIs F.slot_tuple_iterator_next (wpAny_call_entry F.slot_tuple_iterator_next hit.typeIs F.entry_tuple_iterator_next ?_ (F.args_tuple_iterator_next_1 _)))
 show wpAny _ _ (field (.ref it) 0 >>= _) _ _ s;refine wpAny_bind (wpAny_field ho hd (x:=.ref t) rfl ?_)
 show wpAny _ _ (if (Value.ref t == Value.none)=true then _ else _) _ _ s;rw [if_neg (show ¬((Value.ref t == Value.none)=true) from Bool.false_ne_true)]
 show wpAny _ _ (field (.ref it) 1 >>= _) _ _ s;refine wpAny_bind (wpAny_field ho hd (x:=.int i 0) rfl ?_)
 show wpAny _ _ (seqItems? (.ref t) >>= _) _ _ s;refine wpAny_bind (wpAny_seqItems hol hdl ?_)
 simp only [Int.toNat_natCast,hx]
 refine wpAny_bind (wpAny_setField ho hd (by simp) (wpAny_pure ⟨x,rfl,wpAny_pure (hQ _ ⟨_,Heap.get?_update_self _ ho (Obj.isFreed_of_fields (Obj.data_mapFields hd _)),(Obj.cls_mapFields ..).trans hc,by rw [Obj.data_mapFields hd];simp [rawInt]⟩ (Heap.SameBut.update ..))⟩))
theorem tupEnd {it t:Addr} {i:Nat} {items:Array Value} {Q:Value->Shared->Prop} (hh:A.handled=none) (hit:s.heap.IsTupleIter it t i) (ht:s.heap.IsTuple t items) (hx:items[i]? = none)
  (hE:∀h' e,Heap.ExtBut it s.heap h'->(∃o,h'.get? e=some o/\o.cls=.type "StopIteration")->E (.ref e) { s with heap:=h' }):wpAny (model prog w) A (Builtin.SmallTypes.nextOf (.ref it)) Q E s:=by
 obtain ⟨o,ho,hc,hd⟩:=id hit
 obtain ⟨ol,hol,_,nl,hdl⟩:=ht
 unfold Builtin.SmallTypes.nextOf
 refine wpAny_bind (wpAny_callSpecial?_slot (name:=Str.ofString "__next__") hit.typeIs F.slot_tuple_iterator_next (wpAny_call_entry F.slot_tuple_iterator_next hit.typeIs F.entry_tuple_iterator_next ?_ (F.args_tuple_iterator_next_1 _)))
 show wpAny _ _ (field (.ref it) 0 >>= _) _ _ s;refine wpAny_bind (wpAny_field ho hd (x:=.ref t) rfl ?_)
 show wpAny _ _ (if (Value.ref t == Value.none)=true then _ else _) _ _ s;rw [if_neg (show ¬((Value.ref t == Value.none)=true) from Bool.false_ne_true)]
 show wpAny _ _ (field (.ref it) 1 >>= _) _ _ s;refine wpAny_bind (wpAny_field ho hd (x:=.int i 0) rfl ?_)
 show wpAny _ _ (seqItems? (.ref t) >>= _) _ _ s;refine wpAny_bind (wpAny_seqItems hol hdl ?_)
 simp only [Int.toNat_natCast,hx]
 refine wpAny_bind (wpAny_rule (wpAny_bind (wpAny_setField ho hd (by simp) ?_)))
 show wpAny _ _ (newExc (.type "StopIteration") [] >>= _) _ _ _;refine wpAny_bind ?_
 simp only [newExc,newTuple]
 refine wpAny_bind (wpAny_newObj_type ?_ (by size_fits));refine wpAny_bind (m:=firstArgMember _ _) (wpAny_of_eq (a:=Value.none) (by first | rfl | (simp only [firstArgMember];rfl)) ?_)
 refine wpAny_newObj_type ?_ (by size_fits);simp only [raiseNew]
 refine wpAny_bind (wpAny_handled ?_)
 first | rw [show A.in1.handled=none from hh] | rw [hh]
 refine wpAny_bind (wpAny_pure (wpAny_throw (hE _ _ (((Heap.SameBut.update ..).extBut.push _).push _) ⟨_,Heap.get?_push_size _ rfl,rfl⟩)))
theorem drawsTup (hh:A.handled=none) (it t:Addr) (hne:t≠it) (items:Array Value) :
  Draws prog w A it [it,t] items.size (λi v=>items[i]? = some v) (λi h=>h.IsTupleIter it t i/\h.IsTuple t items) where
 live:=λ_ _ st=>let ⟨o,ho,_⟩:=st.1;⟨o,ho⟩
 frame:=λ_ _ _ st hk=>⟨st.1.at λo e=>hk it (by simp) o e,let ⟨o,ho,r⟩:=st.2;⟨o,hk t (by simp) o ho,r⟩⟩
 item:=λi s Q E hi st hQ=>tupNext st.1 st.2 (x:=items[i]) (by simp [hi]) λh' hit' hs'=>hQ _ h' s.toks (by simp [hi]) ⟨hit',st.2.extBut hs'.extBut hne⟩ hs'
 done:=λs Q E st hE=>tupEnd hh st.1 st.2 (by simp) hE
open AutoSeq1 (wpAny_loadPart') in
theorem enumNewT (l:Addr) (items:Array Value) (n:Nat) (dct:Option Addr) (sl:Array (Option Value)) :
  Meets (Builtin.«enumerate.__new__» ⟨[.type "enumerate",.ref l],[]⟩) (λ_ R s=>s.heap.get? l=some { cls:=.type "tuple",dict:=dct,data:=.seq items n,slots:=sl } /\
   R (.ok (.ret (.ref (s.heap.push { cls:=.type "tuple_iterator",data:=.fields #[.ref l,.int 0 0] }).objs.size)))
    { s with heap:=(s.heap.push { cls:=.type "tuple_iterator",data:=.fields #[.ref l,.int 0 0] }).push { cls:=.type "enumerate",data:=.fields #[.none,.bool false,.ref s.heap.objs.size,rawInt 0,.none,.none] } }) :=
 .of_wp λprog w A R s h=>by
  obtain ⟨hp,g,d,tk,os⟩:=s;obtain ⟨hl,h⟩:=h
  have hsub:=sub_enumerate
  have hL:Heap.IsTuple (Shared.heap ⟨hp,g,d,tk,os⟩) l items:=⟨_,hl,rfl,n,rfl⟩
  wp_walk using wpAny_loadPart' hl
  refine wpAny_stack_any λst=>wpAny_pure ?_
  split
  ·rename_i c _ _ _ _ _
   cases (c == Value.type "enumerate")
   ·wp_walk using wpAny_loadPart' hl,wpAny_pyIter_tuple hL
    exact ⟨_,rfl,h⟩
   ·wp_walk using wpAny_loadPart' hl,wpAny_pyIter_tuple hL
    exact ⟨_,rfl,h⟩
  ·wp_walk using wpAny_loadPart' hl,wpAny_pyIter_tuple hL
   exact ⟨_,rfl,h⟩
theorem callEnumT {l:Addr} {items:Array Value} {Q:Value->Shared->Prop} (hL:s.heap.IsTuple l items)
  (h:∀h',IsEnum h' (s.heap.objs.size+1) s.heap.objs.size 0 .none->h'.IsTupleIter s.heap.objs.size l 0->h'.objs.size=s.heap.objs.size+2->(∀b o,s.heap.get? b=some o->h'.get? b=some o)->Q (.ref (s.heap.objs.size+1)) { s with heap:=h' }) :
  wpAny (model prog w) A (call (.type "enumerate") [.ref l]) Q E s:=by
 obtain ⟨⟨c,dct,dt,sl⟩,hl,hc,n,hd⟩:=hL
 obtain rfl:c=.type "tuple":=hc
 obtain rfl:dt=.seq items n:=hd
 refine callType_new F.called_enumerate (by decide) (F.typeCall_enumerate_1 _) (F.newCall_enumerate_1 _) (λobj=>F.args_object_init_2 obj _) F.entry_enumerate_new (enumNewT l items n dct sl) ⟨hl,?_⟩
 have hz:(s.heap.push { cls:=.type "tuple_iterator",data:=.fields #[.ref l,.int 0 0] }).objs.size=s.heap.objs.size+1:=Heap.size_push ..
 show _/\_
 rw [hz]
 have he:IsEnum ((s.heap.push { cls:=.type "tuple_iterator",data:=.fields #[.ref l,.int 0 0] }).push
   { cls:=.type "enumerate",data:=.fields #[.none,.bool false,.ref s.heap.objs.size,rawInt 0,.none,.none] }) (s.heap.objs.size+1) s.heap.objs.size 0 .none:=by
  have q:=Heap.get?_push_size (s.heap.push { cls:=.type "tuple_iterator",data:=.fields #[.ref l,.int 0 0] }) (o:={ cls:=.type "enumerate",data:=.fields #[.none,.bool false,.ref s.heap.objs.size,rawInt 0,.none,.none] }) rfl
  rw [hz] at q;exact q
 exact ⟨⟨_,he,rfl⟩,h _ he ⟨_,Heap.get?_push_of_some _ (Heap.get?_push_size _ rfl),rfl,rfl⟩ (by rw [Heap.size_push,hz]) λb o x=>Heap.get?_push_of_some _ (Heap.get?_push_of_some _ x)⟩
end
noncomputable def Ite (K:PySem.W.Frag) (a:Addr):It :=
 ⟨λi H=>∃xs x,SqT K H a xs/\xs[i]? = some x,λi H v H'=>∀xs,SqT K H a xs->∃x p,xs[i]? = some x/\v=.ref p/\H p=none/\H'=upd H p (.tup [.int i,x]),λi H=>∃xs,SqT K H a xs/\xs.length<=i⟩
theorem turn_enum {P:Program} {w:World} {K:PySem.W.Frag} {es:List Expr} {kt:Nat} {pt:Pos} (a e it:Addr) (hei:e≠it):Turn P w K (.Tuple es kt pt) (Ite K a) [e,it] e (λi h=>(∃old,IsEnum h e it i old)/\h.IsTupleIter it a i) where
 mem:=by simp
 obj:=λi h st b hb=>by
  obtain ⟨⟨old,h1⟩,o,h2,c,d⟩:=st
  rcases List.mem_cons.mp hb with z | z
  ·subst z;exact ⟨_,h1,λv z=>by have z':Data.fields _=Data.cell v:=z;cases z'⟩
  ·have z':b=it:=by simpa using z
   subst z';exact ⟨o,h2,λv z=>by rw [d] at z;cases z⟩
 keep:=λi h h' st k=>⟨let ⟨old,h1⟩:=st.1;⟨old,k e (by simp) _ h1⟩,st.2.at λo q=>k it (by simp) o q⟩
 item:=by
  intro X hP hw hK hc i pins s σ H E I hf st hg
  subst hP hw hK
  obtain ⟨⟨old,he⟩,hit⟩:=st
  obtain ⟨xs,x,hq,hx⟩:=hg
  obtain ⟨its,rv,p,hz⟩:=I.tuple hq
  have hlen:=rv.length
  have hi:i<its.toArray.size:=by rw [List.size_toArray,← hlen];exact (List.getElem?_eq_some_iff.mp hx).1
  have hai:a≠it:=λz=>by
   obtain ⟨o,h1,h2,_⟩:=p
   obtain ⟨o',h1',h2',_⟩:=hit
   rw [z,h1'] at h1;cases h1;rw [h2'] at h2;exact absurd h2 (by decide)
  have hae:e∉[it,a]:=λz=>by
   rcases List.mem_cons.mp z with q | q
   ·exact hei q
   ·have q':e=a:=by simpa using q
    obtain ⟨o,h1,h2,_⟩:=p
    rw [← q',he] at h1;cases h1;exact absurd h2 (by show ¬(Value.type "enumerate" = Value.type "tuple");decide)
  refine wpAny_pyNext_enum_itemD (drawsTup (A:=X.A.in1) (I.ok.hd hc) it a hai its.toArray) he ⟨hit,show s.heap.IsTuple a its.toArray from p⟩ hi hei hae λu h' tk hu ho hst' hT hsz hk=>?_
  refine ⟨_,rfl,wpAny_letOwnedTupleGo_enum ho λh2 he2 hs2=>?_⟩
  obtain ⟨u',hu',ru⟩:=rv.get hx
  have euu:u'=u:=by
   have z:its.toArray[i]? = some u:=hu
   have z2:its[i]? = some u:=by simpa using z
   rw [hu'] at z2;exact Option.some.inj z2
  subst euu
  have hTe:s.heap.objs.size≠e:=Nat.ne_of_gt (Heap.lt_size he)
  have hT2:h2.get? s.heap.objs.size=some { cls:=.type "tuple",data:=.seq #[.int i tk,u'] }:=(hs2.2 _ hTe).trans hT
  have hn:H s.heap.objs.size=none:=I.hok.fresh (Nat.le_refl _)
  refine ⟨.ref s.heap.objs.size,upd H s.heap.objs.size (.tup [.int i,x]),I.turnNew (ch:=[e,it]) (t':=tk+1) (Nat.le_refl _) (λb o hb q=>?_) hf ?_,rfl,λys hy=>?_,⟨⟨_,he2⟩,hst'.1.at λo q=>?_⟩,λb hb=>?_⟩
  ·have h1:b≠e:=λz=>hb (by simp [z])
   have h2':b≠it:=λz=>hb (by simp [z])
   exact (hs2.2 b h1).trans (hk b o h1 h2' q)
  ·exact ⟨by show 2<=sizeLine;decide,[.int i tk,u'],.cons ⟨_,rfl⟩ (.cons ru .nil),⟨_,hT2,rfl,_,rfl⟩⟩
  ·rw [I.tuple_inj hy hq]
   exact ⟨x,_,hx,rfl,hn,rfl⟩
  ·exact (hs2.2 it (Ne.symm hei)).trans q
  ·obtain ⟨o,q,_⟩:∃o,s.heap.get? b=some o/\True:=by
    rcases List.mem_cons.mp hb with z | z
    ·exact ⟨_,z ▸ he,trivial⟩
    ·have z':b=it:=by simpa using z
     obtain ⟨o,q,_⟩:=hit
     exact ⟨o,z' ▸ q,trivial⟩
   rw [upd_ne (Nat.ne_of_lt (Heap.lt_size q))]
   exact (hf b hb).1
 done:=by
  intro X hP hw hK hc i pins s σ H E I hf st hg
  subst hP hw hK
  obtain ⟨⟨old,he⟩,hit⟩:=st
  obtain ⟨xs,hq,hx⟩:=hg
  obtain ⟨its,rv,p,hz⟩:=I.tuple hq
  have hlen:=rv.length
  have hT:s.TypeIs (.ref e) "enumerate":=⟨_,he,rfl⟩
  unfold pyNext
  refine wpAny_bind (wpAny_attempt (wpAny_callSpecial?_slot (name:=Str.ofString "__next__") hT F.slot_enumerate_next (wpAny_call_entry F.slot_enumerate_next hT F.entry_enumerate_next ?_ (F.args_enumerate_next_1 _))))
  show wpAny _ _ (field (.ref e) 2 >>= _) _ _ _;refine wpAny_bind (wpAny_field he rfl (x:=.ref it) rfl ?_)
  refine wpAny_bind (tupEnd (I.ok.hd hc) hit (show s.heap.IsTuple a its.toArray from p) (by simp;omega) λh' x he' hx'=>?_)
  obtain ⟨o,ho,hc⟩:=hx'
  refine wpAny_bind (wpAny_isInstance (T:="StopIteration") (b:=true) ⟨o,ho,hc⟩ isSubtype_stop ?_)
  exact wpAny_pure ⟨rfl,I.turnAll (ch:=[e,it]) (t':=s.toks) (λb u hb q=>he' b u (λz=>hb (by simp [z])) q) hf⟩
 self:=λ_ _ _ _ _ st h=>by
  obtain ⟨⟨old,q⟩,_⟩:=st
  exact wpAny_pyIter_enum q h
section
variable {X:Cx}
noncomputable def iEnum (K:PySem.W.Frag) (ta:TA):TI:=λσ H R=>ta σ H λvs H1=>∃a,vs=[.ref a]/\(∃xs,SqT K H1 a xs)/\R (Ite K a) H1
theorem pi_enum {a:Expr} {ta:TA} {p pos:Pos} {es:List Expr} {kt:Nat} {pt:Pos} (hg:Gl X "enumerate") (hm:X.mg "enumerate" = none) (ha:PA X [a] ta) (hs:starEach [a] X.env=[(false,eval a X.env)]:=by rfl) :
  PI X (.Tuple es kt pt) (.Call (.Name "enumerate" p) [a] [] pos) (iEnum X.K ta):=by
 intro pins s σ H R I h
 refine Call_ (ld_blt I hg hm boot_enumerate (PyProof.Rows.callWith_type1 (thn (ha pos pins s σ H _ I h) λus s1 ⟨vs,H1,I1,r1,q1⟩=>?_) hs rfl))
 obtain ⟨x,e,⟨xs,hq⟩,q⟩:=q1
 subst e
 obtain ⟨u,rfl,ru⟩:=vals1 r1
 cases ru
 obtain ⟨its,rv,pl,hz⟩:=I1.tuple hq
 refine callEnumT (show s1.heap.IsTuple x its.toArray from pl) λh' he hit hz kp=>?_
 have I2:Inv X pins σ H1 { s1 with heap:=h' }:=I1.kept (t':=s1.toks) kp
 refine wpAny_pyIter_enum he ⟨s1.heap.objs.size+1,[s1.heap.objs.size+1,s1.heap.objs.size],_,_,H1,rfl,I2,turn_enum x _ _ (Nat.ne_of_gt (Nat.lt_succ_self _)),⟨⟨_,he⟩,hit⟩,λb hb=>?_,q⟩
 have hb':s1.heap.objs.size<=b:=by
  rcases List.mem_cons.mp hb with z | z
  ·rw [z];exact Nat.le_succ _
  ·have z':b=s1.heap.objs.size:=by simpa using z
   rw [z'];exact Nat.le_refl _
 exact I1.fpOk hb' (I1.hok.fresh hb')
end
end L2
namespace L2
open PySem PySem.Spec PyProof.Rows
section
variable {X:Cx}
noncomputable def rSetD:V->List V->Hp->VK->Prop:=λx vs H Q=>∃a kvs k v,x=.ref a/\vs=[kV k,v]/\H a=some (.dK kvs)/\kvs.length<sizeLine /\
 (∀y,valV kvs k=some y->Q y H)/\(valV kvs k=none->Q v (upd H a (.dK (putK kvs k v))))
theorem mt_setdefault:MtM X "dict.setdefault" rSetD:=by
 intro pins s σ H x vs v us Q I rx rv h
 obtain ⟨a,kvs,k,y,rfl,rfl,hH,hz,q1,q2⟩:=h
 cases rx
 obtain ⟨ku,vu,rfl,rk,ry⟩:=rv.two
 obtain ⟨z,hd,xs,rel,dd⟩:=dk_of I.hok hH
 have hl:xs.length<=sizeLine:=by rw [← rel.length];exact z
 refine call_meetsIn PySem.F.slot_dict_setdefault dd.typeIs PySem.F.entry_dict_setdefault (PySem.F.args_dict_setdefault_3 _ _ _) (kt_meets_setdefault (mixKind X.prog X.w) a (kV_is rk) hd vu) ⟨xs,dd,hl,λw hw=>?_,λhn h' dd' hs=>?_⟩
 ·have ro:=rel.val k
  rw [hw] at ro
  cases e:valV kvs k with
  | none=>rw [e] at ro;exact ro.elim
  | some b=>rw [e] at ro;exact ⟨b,H,I.tok _,ro,q1 b e⟩
 ·have ro:=rel.val k
  rw [hn] at ro
  cases e:valV kvs k with
  | some b=>rw [e] at ro;exact ro.elim
  | none =>
   have hlp:(putK kvs k y).length<=sizeLine:=by have:=length_putK kvs k y;omega
   refine ⟨y,upd H a (.dK (putK kvs k y)),d_write (t':=s.toks+1) I (by rw [hH];trivial) hs ?_ (dk_new hlp hd (rel.put k ry) dd'),ry,q2 e⟩
   obtain ⟨o,_,_,e',_⟩:=dd'
   exact ⟨o,e'⟩
end
theorem pairedAt {α β:Type} {F:α->β->Prop}:∀{l₁:List α} {l₂:List β} {i:Nat} {a:α} {b:β},Paired F l₁ l₂->l₁[i]? = some a->l₂[i]? = some b->F a b
 | _,_,_,_,_,.nil,e,_=>by simp at e
 | _,_,0,_,_,.cons r _,e,e'=>by simp at e e';subst e;subst e';exact r
 | _,_,i+1,_,_,.cons _ t,e,e'=>pairedAt (i:=i) t (by simpa using e) (by simpa using e')
theorem small24 {n:Nat} (h:n<=1000):n<=2 ^ 24:=Nat.le_trans h (by decide)
noncomputable def Itv (d:Addr) (o:Obj) (kvs:List (Key × V)):It :=
 ⟨λi H=>H d=some (.frz o (.dK kvs))/\i<kvs.length,λi H x H'=>H'=H/\∃k,kvs[i]? = some (k,x),λi H=>H d=some (.frz o (.dK kvs))/\kvs.length<=i⟩
theorem turn_vals {P:Program} {w:World} {K:PySem.W.Frag} {tg:Expr} (d it:Addr) (o:Obj) (kvs:List (Key × V)) (vs:List (Key × Value)) (ep:Nat) (rel:KV kvs vs) (hdi:d≠it)
  (hd:∀h:Heap,h.get? d=some o->h.DictAt (mixKind P w) d vs ep) :
  Turn P w K tg (Itv d o kvs) [it] it (λi h=>h.IsValIter it d i vs.length ep) where
 mem:=by simp
 obj:=λi h st b hb=>by
  have e:b=it:=by simpa using hb
  subst e
  obtain ⟨o,e,c,d⟩:=st
  exact ⟨o,e,λv z=>by rw [d] at z;cases z⟩
 keep:=λi h h' st k=>st.at λo e=>k it (by simp) o e
 item:=by
  intro X hP hw hK hc i pins s σ H E I hf st hg
  subst hP hw hK
  obtain ⟨hH,hlt⟩:=hg
  obtain ⟨e1,_⟩:=I.hok d _ hH
  obtain ⟨⟨k,y⟩,hx⟩:∃p,kvs[i]? = some p:=⟨kvs[i],by simp [hlt]⟩
  have hlen:kvs.length=vs.length:=Paired.length rel
  obtain ⟨⟨k',u⟩,hu⟩:∃p,vs[i]? = some p:=⟨vs[i]'(by omega),by simp [show i<vs.length by omega]⟩
  have ru:RelV y u:=(pairedAt rel hx hu).2
  obtain ⟨f0,f1,f2,f3,f4,f5⟩:=hf it (by simp)
  refine wpAny_pyNext_values_item st (hd _ e1) hu λh' st' sb=>?_
  have I1:Inv X pins σ H { s with heap:=h' }:=I.turned (t':=s.toks) (λb o hb e=>(sb.2 b hb).trans e) f0 f1 f3 f4 f5
  obtain ⟨oi,e,c,dd⟩:=id st'
  exact ⟨u,rfl,go_of (s:={ s with heap:=h' }) e c dd (by decide) ⟨y,H,I1,ru,⟨rfl,k,hx⟩,st',λb hb=>(hf b hb).1⟩⟩
 done:=by
  intro X hP hw hK hc i pins s σ H E I hf st hg
  subst hP hw hK
  obtain ⟨hH,hge⟩:=hg
  obtain ⟨e1,_⟩:=I.hok d _ hH
  have hlen:kvs.length=vs.length:=Paired.length rel
  obtain ⟨f0,f1,f2,f3,f4,f5⟩:=hf it (by simp)
  exact wpAny_pyNext_values_end (I.ok.hd hc) st (hd _ e1) (List.getElem?_eq_none (by omega)) λh' eb=>⟨rfl,I.turned (t':=s.toks) (λb o hb e=>eb b o hb e) f0 f1 f3 f4 f5⟩
 self:=λ_ _ _ _ _ st h=>wpAny_pyIter_valiter st h
section
variable {X:Cx}
noncomputable def iVals (to:TE):TI:=λσ H R=>to σ H λx H1=>∃d kvs,x=.ref d/\H1 d=some (.dK kvs)/\∀o,R (Itv d o kvs) (upd H1 d (.frz o (.dK kvs)))
theorem pi_vals {tg o:Expr} {to:TE} {apos cpos:Pos} (ho:PE X o to) (hbase:attributeBase o "values" X.env (eval o X.env)=eval o X.env:=by rfl) (hline:(apos.endLine == cpos.line)=true:=by rfl) :
  PI X tg (.Call (.Attribute o "values" apos) [] [] cpos) (iVals to):=by
 intro pins s σ H R I h
 refine wpAny_Call_method0_late hbase hline (thn (ho pins s σ H _ I h) λv s1 ⟨x,H1,I1,r1,d,kvs,e,hd,q⟩=>?_)
 subst e
 cases r1
 obtain ⟨h1,h2⟩:=tyV_is (T:="dict") I1 (show RelV (.ref d) (.ref d) from rfl) (.inr (.inr (.inl ⟨rfl,.inl ⟨kvs,hd⟩⟩)))
 refine ⟨"dict",_,PySem.F.plainAttrs_dict,PySem.F.slot_dict_values,PySem.F.type_dict_values,h1,h2,Calls.callWith_builtin rfl (PySem.evalArgs_none ?_)⟩
 obtain ⟨z,hs,vs,rel,dd⟩:=dk_of I1.hok hd
 refine call_meetsIn PySem.F.slot_dict_values dd.typeIs PySem.F.entry_dict_values (PySem.F.args_dict_values_1 _) (meets_dict_values (mixKind X.prog X.w) d hs) ⟨⟨vs,dd⟩,?_⟩
 have I2:Inv X pins σ H1 { s1 with heap:=s1.heap.push { cls:=.type "dict_values",data:=.fields #[.ref d] } }:=I1.kept (t':=s1.toks) λb u e=>Heap.get?_push_of_some _ e
 obtain ⟨ep,da⟩:=dd.dictAt
 obtain ⟨ob,es,hob,dr⟩:=id da
 have hob2:(s1.heap.push { cls:=.type "dict_values",data:=.fields #[.ref d] }).get? d=some ob:=Heap.get?_push_of_some _ hob
 refine wpAny_pyIter_values (knd:=mixKind X.prog X.w) (d:=d) (kvs:=vs) (ep:=ep) ⟨_,Heap.get?_push_size _ rfl,rfl,rfl⟩ ⟨ob,es,hob2,dr⟩ ?_
 have I3:=I2.kept (h':=(s1.heap.push { cls:=.type "dict_values",data:=.fields #[.ref d] }).push { cls:=.type "dict_valueiterator",data:=.fields #[.ref d,.int 0 0,.int vs.length 0,.int ep 0] }) (t':=s1.toks) λb u e=>Heap.get?_push_of_some _ e
 have hob3:=Heap.get?_push_of_some (h:=s1.heap.push { cls:=.type "dict_values",data:=.fields #[.ref d] }) { cls:=.type "dict_valueiterator",data:=.fields #[.ref d,.int 0 0,.int vs.length 0,.int ep 0] } hob2
 have I4:=I3.write (x:=d) (e:=d) (o:=.frz ob (.dK kvs)) (t':=s1.toks) (by rw [hd];trivial) (.inl rfl) (λb u _ q=>q) ⟨_,hob3⟩
  (show ObjOk X.prog X.w _ _ d (.frz ob (.dK kvs)) from ⟨hob3,z,hs,vs,rel,ob,es,ep,hob3,dr⟩)
 have hlt:d<(s1.heap.push { cls:=.type "dict_values",data:=.fields #[.ref d] }).objs.size:=Heap.lt_size hob2
 refine ⟨(s1.heap.push { cls:=.type "dict_values",data:=.fields #[.ref d] }).objs.size,[(s1.heap.push { cls:=.type "dict_values",data:=.fields #[.ref d] }).objs.size],_,_,_,rfl,I4,
  turn_vals d _ ob kvs vs ep rel (Nat.ne_of_lt hlt) (λh e=>⟨ob,es,e,dr⟩),⟨_,Heap.get?_push_size _ rfl,rfl,rfl⟩,λb hb=>?_,q ob⟩
 have e:b=(s1.heap.push { cls:=.type "dict_values",data:=.fields #[.ref d] }).objs.size:=by simpa using hb
 subst e
 exact I2.fpOk (Nat.le_refl _) (by rw [upd_ne (Nat.ne_of_gt hlt)];exact I2.hok.fresh (Nat.le_refl _))
theorem pe_range1 {a:Expr} {ta:TA} {p pos:Pos} (hg:Gl X "range") (hm:X.mg "range" = none) (ha:PA X [a] ta) (hs:starEach [a] X.env=[(false,eval a X.env)]:=by rfl) :
  PE X (.Call (.Name "range" p) [a] [] pos) (λσ H Q=>ta σ H λvs H1=>∃j:Int,vs=[.int j]/\∀r,H1 r=none->Q (.ref r) (upd H1 r (.rng 0 j))):=by
 intro pins s σ H Q I h
 refine Call_ (ld_blt I hg hm boot_range (PyProof.Rows.callWith_type1 (thn (ha pos pins s σ H _ I h) λus s1 ⟨vs,H1,I1,r1,q1⟩=>?_) hs rfl))
 obtain ⟨j,e,q⟩:=q1
 subst e
 obtain ⟨u,rfl,ru⟩:=vals1 r1
 obtain ⟨t,rfl⟩:=ru
 refine call_range_1 ?_
 refine ⟨.ref s1.heap.objs.size,_,I1.laid (o:=.rng 0 j) (λb u e=>Heap.get?_push_of_some _ e) (Nat.le_refl _) ?_,rfl,q _ (I1.hok.fresh (Nat.le_refl _))⟩
 exact ⟨_,_,_,Heap.get?_push_size _ rfl⟩
theorem call_list_rng (hc:X.calm=true):CallR X (.type "list") (λxs H Q=>∃r j,xs=[.ref r]/\H r=some (.rng 0 j)/\0<=j/\j<=1000/\∀l,H l=none->Q (.ref l) (upd H l (.lst ((List.range j.toNat).map λi=>.int (i:Nat))))):=by
 intro pins s σ H xs us Q I r h
 obtain ⟨a,j,rfl,ha,h0,h1,q⟩:=h
 obtain ⟨u,rfl,ru⟩:=vals1 r
 cases ru
 obtain ⟨t,u,v,e⟩:=I.hok a _ ha
 refine call_list_range (n:=j.toNat) (I.ok.hd hc) (show IsRange s.heap a 0 j 1 t u v from e) (small_one (by omega) (by omega) (by omega) (by omega)) (by rw [rangeSize_one];split <;> omega) (small24 (by omega)) λh' tk acc c' kp hl hacc=>?_
 obtain ⟨hsz,hit⟩:=hacc
 have rv:Vals ((List.range j.toNat).map λi=>V.int (i:Nat)) acc.toList:=by
  have gen:∀(n:Nat) (l:List Value),l.length=n->(∀(j:Nat) v,l[j]? = some v->∃t,v=.int (0+(j:Int)*1) t)->Vals ((List.range n).map λi=>V.int (i:Nat)) l:=by
   intro n
   induction n with
   | zero=>intro l hl _;cases l with | nil=>exact .nil | cons=>simp at hl
   | succ n ih =>
    intro l hl hj
    have hne:l≠[]:=by intro z;rw [z] at hl;simp at hl
    have el:l=l.dropLast++[l.getLast hne]:=(List.dropLast_concat_getLast hne).symm
    rw [List.range_succ,List.map_append,el]
    refine Vals.append (ih _ (by rw [List.length_dropLast,hl];rfl) λj v e=>hj j v ?_) (.cons ?_ .nil)
    ·rw [List.getElem?_dropLast] at e
     split at e
     ·exact e
     ·cases e
    ·obtain ⟨t,e⟩:=hj n (l.getLast hne) (by rw [List.getLast_eq_getElem,List.getElem?_eq_getElem (by omega)];congr 1;simp [hl])
     exact ⟨t,by rw [e];congr 1;omega⟩
  refine gen _ _ (by rw [Array.length_toList];exact hsz) λj v e=>hit j v (by simpa using e)
 have hlen:((List.range j.toNat).map λi=>V.int (i:Nat)).length<=sizeLine:=by rw [List.length_map,List.length_range];have:=(by decide:1000<sizeLine);omega
 refine ⟨.ref s.heap.objs.size,_,I.laid (o:=.lst ((List.range j.toNat).map λi=>V.int (i:Nat))) (t':=tk) kp (Nat.le_refl _) ?_,rfl,q _ (I.hok.fresh (Nat.le_refl _))⟩
 exact ⟨hlen,acc.toList,c',rv,by rw [Array.toArray_toList];exact hl⟩
end
end L2
namespace L2
open PySem PySem.Spec PyProof.Rows
open PySem.W (Dat kqdP kqdPs kqdOk)
mutual
inductive DV (H:Hp):V->Dat->Prop
 | non:DV H .non .none
 | int (i:Int):DV H (.int i) (.int i)
 | str (x:Str):DV H (.str x) (.str x)
 | tup {a:Addr} {xs:List V} {ds:List Dat} (e:H a=some (.tup xs)) (r:DVs H xs ds):DV H (.ref a) (.tuple ds)
 | lst {a:Addr} {xs:List V} {ds:List Dat} (e:H a=some (.lst xs)) (r:DVs H xs ds):DV H (.ref a) (.list ds)
inductive DVs (H:Hp):List V->List Dat->Prop
 | nil:DVs H [] []
 | cons {x:V} {d:Dat} {xs:List V} {ds:List Dat} (h:DV H x d) (r:DVs H xs ds):DVs H (x::xs) (d::ds)
end
mutual
theorem DV.reads {P:Program} {w:World} {H:Hp} {h:Heap} (ok:HOk P w H h):∀{x:V} {d:Dat} {u:Value},DV H x d->RelV x u->∃as,Reads h u (kqdP d) as
 | _,_,_,.non,r=>by cases r;exact ⟨_,by rw [kqdP];exact Reads.none⟩
 | _,_,_,.int i,r=>by obtain ⟨t,rfl⟩:=r;exact ⟨_,by rw [kqdP];exact Reads.int i t⟩
 | _,_,_,.str x,r=>by obtain ⟨t,rfl⟩:=r;exact ⟨_,by rw [kqdP];exact Reads.str x t⟩
 | _,_,_,.tup (a:=a) e q,r=>by
  cases r
  obtain ⟨_,its,rv,o,h1,h2,n,h3⟩:=ok a _ e
  obtain ⟨as,z⟩:=DVs.reads ok q rv
  rw [kqdP]
  exact ⟨as,reads_tuple_at h1 h2 h3 (by simpa using z)⟩
 | _,_,_,.lst (a:=a) e q,r=>by
  cases r
  obtain ⟨_,its,n,rv,h1⟩:=ok a _ e
  obtain ⟨as,z⟩:=DVs.reads ok q rv
  rw [kqdP]
  exact ⟨_,reads_list_at h1 rfl rfl (by simpa using z)⟩
theorem DVs.reads {P:Program} {w:World} {H:Hp} {h:Heap} (ok:HOk P w H h):∀{xs:List V} {ds:List Dat} {us:List Value},DVs H xs ds->Vals xs us->∃as,ReadsAll h us (kqdPs ds) as
 | _,_,_,.nil,r=>by cases r;exact ⟨_,by rw [kqdPs];exact ReadsAll.nil⟩
 | _,_,_,.cons p q,r=>by
  cases r with
  | cons r1 r2 =>
   obtain ⟨as,z⟩:=DV.reads ok p r1
   obtain ⟨bs,y⟩:=DVs.reads ok q r2
   rw [kqdPs]
   exact ⟨_,ReadsAll.cons z y⟩
end
mutual
theorem DV.mono {H H':Hp} (s:∀b o,H b=some o->H' b=some o):∀{x:V} {d:Dat},DV H x d->DV H' x d
 | _,_,.non=>.non
 | _,_,.int i=>.int i
 | _,_,.str x=>.str x
 | _,_,.tup e q=>.tup (s _ _ e) (DVs.mono s q)
 | _,_,.lst e q=>.lst (s _ _ e) (DVs.mono s q)
theorem DVs.mono {H H':Hp} (s:∀b o,H b=some o->H' b=some o):∀{xs:List V} {ds:List Dat},DVs H xs ds->DVs H' xs ds
 | _,_,.nil=>.nil
 | _,_,.cons p q=>.cons (DV.mono s p) (DVs.mono s q)
end
theorem DVs.ints {H:Hp}:∀ns:List Int,DVs H (ns.map V.int) (ns.map Dat.int)
 | []=>.nil
 | n::r=>.cons (.int n) (DVs.ints r)
theorem dat_shaped {n:Nat} {d:Dat} (h:kqdOk n d=true) (hn:n<=9):SeqAt.shaped (kqdP d)=true:=by
 have l:=PySem.W.kqd_lay n d h
 unfold SeqAt.shaped
 rw [l.1,Bool.true_and]
 exact decide_eq_true (Nat.le_trans l.2 (Nat.le_trans hn (by decide)))
open Classical in
theorem dat_eqv {n k:Nat} {d e:Dat} (h:kqdOk n d=true) (h':kqdOk k e=true):PyData.eqv (kqdP d) (kqdP e)=decide (d=e):=by
 have q:=PySem.W.kqd_eqv n d e k h h'
 by_cases hq:d=e
 ·rw [decide_eq_true hq];exact q.mpr hq
 ·rw [decide_eq_false hq];exact Bool.eq_false_iff.mpr λx=>hq (q.mp x)
section
variable {X:Cx}
noncomputable def rDat (neg:Bool):R2:=λx y H Q=>∃d e n,DV H x d/\DV H y e/\kqdOk n d=true/\kqdOk n e=true/\n<=9/\((d=e->Q (.bl (!neg)) H)/\(d≠e->Q (.bl neg) H))
theorem op_eqD (hu:X.A.units+64<cLine):OpR X (compareOp .Eq) (rDat false):=by
 classical
 intro pins s σ H x y v u Q I rx ry h
 obtain ⟨d,e,n,dx,dy,hd,he,hn,q1,q2⟩:=h
 obtain ⟨as,ra⟩:=dx.reads I.hok rx
 obtain ⟨bs,rb⟩:=dy.reads I.hok ry
 refine eq_dataH ra rb (dat_shaped hd hn) (dat_shaped he hn) hu ?_
 rw [dat_eqv hd he]
 by_cases hq:d=e
 ·rw [decide_eq_true hq];exact ⟨.bl true,H,I,rfl,q1 hq⟩
 ·rw [decide_eq_false hq];exact ⟨.bl false,H,I,rfl,q2 hq⟩
theorem op_neD (hu:X.A.units+64<cLine):OpR X (compareOp .NotEq) (rDat true):=by
 classical
 intro pins s σ H x y v u Q I rx ry h
 obtain ⟨d,e,n,dx,dy,hd,he,hn,q1,q2⟩:=h
 obtain ⟨as,ra⟩:=dx.reads I.hok rx
 obtain ⟨bs,rb⟩:=dy.reads I.hok ry
 refine ne_dataH ra rb (dat_shaped hd hn) (dat_shaped he hn) hu ?_
 rw [dat_eqv hd he]
 by_cases hq:d=e
 ·rw [decide_eq_true hq];exact ⟨.bl false,H,I,rfl,q1 hq⟩
 ·rw [decide_eq_false hq];exact ⟨.bl true,H,I,rfl,q2 hq⟩
theorem call_isinst:CallR X (.builtin "isinstance") (λxs H Q=>∃x T t b,xs=[x,.ty T]/\TyOf X.K H x (.type t)/\PySem.W.kitOne X.K (.type t) (.type T)=some b/\Q (.bl b) H):=by
 intro pins s σ H xs us Q I r h
 obtain ⟨x,T,t,b,rfl,ty,e,q⟩:=h
 obtain ⟨u,c,rfl,ru,rc⟩:=vals2 r
 cases (show c=Value.type T from rc)
 exact isinst_ok I ru ty e λtk=>⟨.bl b,H,I.tok _,rfl,q⟩
end
end L2
namespace SortT
open PySem PySem.W PyProof.Rows
structure Ord (f:Nat->Nat->Bool):Prop where
 asym:∀i j,f i j=true->f j i=false
 tr:∀i j k,f j i=false->f k j=false->f k i=false
section
variable {f:Nat->Nat->Bool} (O:Ord f)
noncomputable def Le (f:Nat->Nat->Bool) (i j:Nat):Prop:=f j i=false
include O in
theorem le_refl (i:Nat):Le f i i:=by
 unfold Le
 cases h:f i i with
 | false=>rfl
 | true=>have:=O.asym i i h;rw [h] at this;cases this
theorem Le.trans {i j k:Nat} (O:Ord f) (h:Le f i j) (h':Le f j k):Le f i k:=O.tr i j k h h'
theorem Le.of {i j:Nat} (O:Ord f) (h:f i j=true):Le f i j:=O.asym i j h
noncomputable abbrev at_ (p:Array Nat) (i:Nat):Nat:=p.getD i 0
end
end SortT
namespace SortT
open PySem PySem.W PyProof.Rows
noncomputable def AllT {α:Type} (P:Nat->Nat->Prop) (R:α->Prop):KasT α->Prop
 | .ret a=>R a
 | .ask i j k=>P i j/\∀b,AllT P R (k b)
theorem AllT.bind {α β:Type} {P:Nat->Nat->Prop} {R:α->Prop} {S:β->Prop} {g:α->KasT β}:∀{t:KasT α},AllT P R t->(∀a,R a->AllT P S (g a))->AllT P S (t.bind g)
 | .ret a,h,hg=>hg a h
 | .ask i j k,h,hg=>⟨h.1,λb=>AllT.bind (h.2 b) hg⟩
section
variable {N:Nat}
noncomputable def Bd (N:Nat) (p:Array Nat):Prop:=0<N/\∀x∈p.toList,x<N
theorem Bd.at {p:Array Nat} (h:Bd N p) (i:Nat):p.getD i 0<N:=by
 rw [Array.getD_eq_getD_getElem?]
 cases e:p[i]? with
 | none=>exact h.1
 | some x=>exact h.2 x (by rw [← Array.getElem?_toList] at e;exact List.mem_of_getElem? e)
theorem Bd.perm {p q:Array Nat} (h:Bd N p) (hp:q.Perm p):Bd N q:=⟨h.1,λx hx=>h.2 x ((Array.perm_iff_toList_perm.mp hp).mem_iff.mp hx)⟩
end
theorem lex_asym:∀a b:List Int,HT.lexLt a b=true->HT.lexLt b a=false
 | [],[],h=>by cases h
 | [],_::_,_=>rfl
 | _::_,[],h=>by cases h
 | x::xs,y::ys,h=>by
  rw [HT.lexLt_cons] at h ⊢
  by_cases e:x=y
  ·rw [if_pos e] at h;rw [if_pos e.symm];exact lex_asym xs ys h
  ·rw [if_neg e] at h;rw [if_neg (λz=>e z.symm)]
   have:=of_decide_eq_true h
   exact decide_eq_false (by omega)
theorem lex_anti:∀a b:List Int,HT.lexLt a b=false->HT.lexLt b a=false->a=b
 | [],[],_,_=>rfl
 | [],_::_,h,_=>by cases h
 | _::_,[],_,h=>by cases h
 | x::xs,y::ys,h1,h2=>by
  rw [HT.lexLt_cons] at h1 h2
  by_cases e:x=y
  ·rw [if_pos e] at h1;rw [if_pos e.symm] at h2;rw [e,lex_anti xs ys h1 h2]
  ·rw [if_neg e] at h1;rw [if_neg (λz=>e z.symm)] at h2
   have q1:=of_decide_eq_false h1
   have q2:=of_decide_eq_false h2
   omega
section
variable {prog:Program} {w:World} {A:Around} {E:Value->Shared->Prop} {s:Shared}
theorem katLex {Q:Bool->Shared->Prop}:∀{us vs:List Value} {ns ms:List Int} (i:Nat),IntsAre us ns->IntsAre vs ms->∀{fin:Bool},fin=decide (ns.length<ms.length)->Q (HT.lexLt ns ms) s->KatLex prog w A true fin Q (us.zip vs) i s
 | _,_,_,_,i,.nil,.nil,fin,hf,h=>by rw [hf];exact h
 | _,_,_,_,i,.nil,.cons m t r,fin,hf,h=>by
  rw [hf];exact h
 | _,_,_,_,i,.cons n t r,.nil,fin,hf,h=>by
  rw [hf];exact h
 | _,_,_,_,i,.cons (ns:=ns) n t r,.cons (ns:=ms) m u q,fin,hf,h=>by
  refine kat_cons (SeqAt.EqAt.int_int n t m u prog w _ _ (kat_go (λe=>?_) λe=>?_))
  ·have e':n=m:=by simpa using e
   refine kat_yes (katLex (i+1) r q (by rw [hf];simp) ?_)
   rw [HT.lexLt_cons,if_pos e'] at h
   exact h
  ·have e':n≠m:=by simpa using e
   rw [HT.lexLt_cons,if_neg e'] at h
   refine kat_no ?_
   cases hi:(true && i == 0) with
   | true=>exact oneLt_int h
   | false=>exact kat_one _ _ (PyProof.Rows.lt_int h)
end
end SortT
namespace L2
open PySem PySem.Spec PyProof.Rows
theorem ObjOk.there {P:Program} {w:World} {H:Hp} {h:Heap} {a:Addr} {o:HO} (x:ObjOk P w H h a o):∃ob,h.get? a=some ob:=by
 cases o with
 | lst xs=>obtain ⟨_,_,_,_,e⟩:=x;exact ⟨_,e⟩
 | tup xs=>obtain ⟨_,_,_,o,e,_⟩:=x;exact ⟨_,e⟩
 | dK kvs=>obtain ⟨_,_,_,_,o,_,_,e,_⟩:=x;exact ⟨_,e⟩
 | dT kvs=>obtain ⟨_,_,_,_,o,_,_,e,_⟩:=x;exact ⟨_,e⟩
 | set S n=>obtain ⟨o,_,_,_,e,_⟩:=x;exact ⟨_,e⟩
 | ins C dx fs=>obtain ⟨_,_,_,e,_⟩:=x;exact ⟨_,e⟩
 | own y=>exact x
 | xd fs=>obtain ⟨_,⟨_,_,_,e,_⟩,_⟩:=x;exact ⟨_,e⟩
 | rng lo hi=>obtain ⟨_,_,_,e⟩:=x;exact ⟨_,e⟩
 | frz ob u=>obtain ⟨e,_⟩:=x;exact ⟨_,e⟩
 | tbl ps=>obtain ⟨_,e,_⟩:=x;exact ⟨_,e⟩
 | met f y=>exact ⟨_,(show h.get? a=some _ from x)⟩
 | ext φ=>obtain ⟨_,e,_⟩:=x;exact e
section
variable {X:Cx}
end
end L2
namespace L2
open PySem PySem.Spec PyProof.Rows
theorem Same.put {H H':Hp} {a:Addr} {o:HO} (s:Same H H') (h:H a=none):Same H (upd H' a o):=λb u e=>by rw [upd_ne (ne_of_none e h)];exact s b u e
theorem Same.new {H H':Hp} {a:Addr} {o:HO} (s:Same H H') (h:H' a=none):Same H (upd H' a o):=s.put (s.free h)
end L2
namespace L2
open PySem PySem.Spec PyProof.Rows
section
variable {X:Cx}
end
end L2
namespace HT
open PySem PySem.Spec PyProof.Rows L2
section
variable {prog:Program} {w:World} {A:Around} {E:Value->Shared->Prop} {s:Shared}
end
end HT
namespace L2
open PySem PySem.Spec PyProof.Rows
section
variable {X:Cx}
end
end L2
namespace HT
open PySem PySem.Spec PyProof.Rows L2
section
variable {prog:Program} {w:World} {K:Type} [DecidableEq K] {knd:KeyKind prog w K} {A:Around} {E:Value->Shared->Prop} {s:Shared}
end
section
variable {prog:Program} {w:World} {A:Around} {E:Value->Shared->Prop} {s:Shared}
end
section
variable {prog:Program} {w:World} {K:Type} [DecidableEq K] {knd:KeyKind prog w K} {A:Around} {E:Value->Shared->Prop} {s:Shared}
end
end HT
namespace L2
open PySem PySem.Spec PyProof.Rows
section
variable {X:Cx}
end
end L2
namespace L2
open PySem PySem.Spec PyProof.Rows
section
variable {X:Cx}
theorem ints_are:∀{ns:List Int} {its:List Value},Vals (ns.map V.int) its->IntsAre its ns
 | [],_,r=>by rw [List.map_nil] at r;cases r;exact .nil
 | n::ns,_,r=>by
  rw [List.map_cons] at r
  cases r with
  | cons h t=>obtain ⟨tk,rfl⟩:=h;exact .cons n tk (ints_are t)
noncomputable def FT (x:V) (H:Hp):Prop:=∃p o xs,x=.ref p/\H p=some (.frz o (.tup xs))/\o.dict=none
theorem FT.is {pins:List (Addr × Obj)} {σ:St} {H:Hp} {s:Shared} {x:V} {v:Value} (I:Inv X pins σ H s) (r:RelV x v) (h:FT x H) :
  s.TypeIs v "tuple" /\ ∀a,v=.ref a->∃ob,s.heap.get? a=some ob/\ob.dict=none:=by
 obtain ⟨p,o,xs,rfl,h1,h2⟩:=h
 cases r
 obtain ⟨e,_,its,_,o',e',c,n,d⟩:=I.hok p _ h1
 rw [e] at e'
 cases e'
 exact ⟨⟨o,e,c⟩,λa ea=>by cases ea;exact ⟨o,e,h2⟩⟩
variable {o e:Expr} {es:List Expr} {to:TE} {t:TA} {name:Str} {apos cpos:Pos} {T id:String} {r:V->List V->Hp->VK->Prop}
noncomputable def isN (n:Int):Value->Bool
 | .int m _=>m == n
 | _=>false
theorem collect_dict {P:Program} {w:World} {A:Around} {E:Value->Shared->Prop} {s:Shared} {T:String} {r d:Addr} {n:Nat} {Pv:Nat->Value->Prop} {OK:Heap->Prop} {Q:List Value->Shared->Prop} (K:PySem.W.KdlSrc P w T r d n Pv OK) (hh:A.handled=none) (hok:OK s.heap) (hn:n<=sizeLine)
  (h:∀h' tk (vs:List Value),(∀b o,s.heap.get? b=some o->h'.get? b=some o)->vs.length=n->(∀j v,vs[j]? = some v->Pv j v)->Q vs { s with heap:=h',toks:=tk }) :
  wpAny (model P w) A (collect (.ref r)) Q E s:=by
 unfold collect
 refine wpAny_bind (wpAny_runValue (codeAny_builtin entry_proto_collect' ?_))
 show wpAny _ _ (do again (.builtin "list.__iadd__" ⟨[← newList [],.ref r],[]⟩)) _ _ s
 refine wpAny_bind (wpAny_newList (wpAny_pure ⟨Code.quiet_builtin _ (by decide +kernel),codeAny_builtin entry_list_iadd' ?_⟩))
 show wpAny _ _ (Builtin.List.listExtendWith (.ref s.heap.objs.size) (.ref r) (.ref s.heap.objs.size)) _ _ { s with heap:=s.heap.push (seqObj "list" #[] 0) }
 have hlt:=K.there _ hok
 rw [Around.under_plainId (by decide +kernel) _]
 refine PySem.W.kdl_extend (R:=λr s'=>match r with
  | .ok (.ret v)=>wpAny (model P w) A (match v with
   | .ref a=>do
    let o ← load a
    match o.data with
    | .seq xs _=>pure xs.toList
    | _=>unsupported "internal:collect"
   | _=>unsupported "internal:collect") Q E s'
  | .ok _=>False
  | .error e=>E e s') (s:={ s with heap:=s.heap.push (seqObj "list" #[] 0) }) K hh (K.keep _ _ hok λb _ o e=>Heap.get?_push_of_some _ e) s.heap.objs.size (Nat.ne_of_gt hlt.1) (Nat.ne_of_gt hlt.2) (.ref s.heap.objs.size) 0 (Heap.get?_push_size _ rfl) (λh' tk acc' c' hk hS' hacc=>?_) hn
 show wpAny (model P w) A (do
   let o ← load s.heap.objs.size
   match o.data with
   | .seq xs _=>pure xs.toList
   | _=>unsupported "internal:collect") Q E { s with heap:=h',toks:=tk }
 refine wpAny_bind (wpAny_load hS' ?_)
 show wpAny _ _ (pure acc'.toList) Q E _
 exact wpAny_pure (h h' tk acc'.toList (λb o e=>hk b o (Nat.ne_of_lt (Heap.lt_size e)) (Heap.get?_push_of_some _ e)) (by rw [Array.length_toList];exact hacc.1) λj v e=>hacc.2 j v (by rw [← Array.getElem?_toList];exact e))
end
end L2
namespace L2
open PySem PySem.Spec PyProof.Rows
section
variable {prog:Program} {w:World} {A:Around} {R:Result->Shared->Prop} {s:Shared}
end
section
variable {X:Cx}
end
end L2
namespace HT
open PySem PySem.Spec PyProof.Rows L2
section
variable {prog:Program} {w:World} {A:Around} {E:Value->Shared->Prop} {s:Shared}
end
section
variable {prog:Program} {w:World} {A:Around} {E:Value->Shared->Prop} {s:Shared}
end
end HT
namespace L2
open PySem PySem.Spec PyProof.Rows
section
variable {X:Cx}
end
end L2
namespace L2
open PySem PySem.Spec PyProof.Rows
open Builtin.Str (glued partsBetween occurrences tooLong strSub)
section
variable {X:Cx}
end
end L2
namespace L2
open PySem PySem.Spec PyProof.Rows
section
variable {X:Cx}
end
end L2
namespace HT
open PySem PySem.Spec PyProof.Rows L2
section
variable {prog:Program} {w:World} {A:Around} {E:Value->Shared->Prop} {s:Shared}
end
section
variable {prog:Program} {w:World} {A:Around} {E:Value->Shared->Prop} {s:Shared}
end
end HT
namespace L2
open PySem PySem.Spec PyProof.Rows
section
variable {X:Cx}
end
end L2
namespace L2
open PySem PySem.Spec PyProof.Rows
open Builtin.Str (occurrences strSub subAt)
section
variable {X:Cx} {e:Expr} {te:TE} {lo hi st:Option Expr} {tl th ts:TO} {p2 pos:Pos}
noncomputable def stepV {α:Type} (xs:List α) (lo hi st:Option Int):List α:=(sliceRange (sliceBounds lo hi st xs.length).1 (sliceBounds lo hi st xs.length).2.1 (sliceBounds lo hi st xs.length).2.2).filterMap (xs[·]?)
end
end L2
namespace Srt
open PySem PyProof.Rows
class KN where
 nk:Keyed->Int
 isN:Keyed->Prop
 kind:SortKind
open KN (nk isN kind)
class KL [KN] (prog:Program) (w:World) (A:Around) (E:Value->Shared->Prop) (s:Shared):Prop where
 lt:∀{st:SortSt} {x y:Keyed} {Q:Option Bool->SortSt->Prop},kindOf st=kind->isN x->isN y->Q (some (decide (nk x<nk y))) st->wpS (model prog w) A E s (lt' x y) Q st
variable [KN]
noncomputable def K (xs:Array Keyed) (i:Nat):Int:=match xs[i]? with
 | some p=>nk p
 | none=>0
noncomputable def SortedTo (xs:Array Keyed) (k:Nat):Prop:=∀i j,i<=j->j<k->K xs i<=K xs j
theorem K_eqv {xs ys:Array Keyed} {i j:Nat} (h:xs[i]? = ys[j]?):K xs i=K ys j:=by unfold K;rw [h]
theorem K_bub {x:Array Keyed} {r d:Nat} (hr:r<x.size) (hd:d<=r) (n:Nat):K (bubble x r d) n=if n=r-d then K x r else if r-d<n/\n<=r then K x (n-1) else K x n:=by
 have q:=getElem?_bubble hr d hd n
 split
 ·rename_i z;rw [if_pos z] at q;exact K_eqv q
 ·rename_i z;rw [if_neg z] at q
  split
  ·rename_i y;rw [if_pos y] at q;exact K_eqv q
  ·rename_i y;rw [if_neg y] at q;exact K_eqv q
theorem K_mir {x:Array Keyed} {a b:Nat} (hb:b<=x.size) (n:Nat):K (mirror x a b ((b-a) / 2)) n=if a<=n/\n<b then K x (a+b-1-n) else K x n:=by
 have q:=getElem?_mirror_all (i:=a) hb n
 split
 ·rename_i z;rw [if_pos z] at q;exact K_eqv q
 ·rename_i z;rw [if_neg z] at q;exact K_eqv q
theorem K_mir_same {x:Array Keyed} {a b:Nat} (hb:b<=x.size) (h:∀n,a<=n->n<b->K x n=K x (b-1)) (n:Nat):K (mirror x a b ((b-a) / 2)) n=K x n:=by
 rw [K_mir hb]
 split
 ·rw [h _ (by omega) (by omega),h n (by omega) (by omega)]
 ·rfl
section
variable {prog:Program} {w:World} {A:Around} {E:Value->Shared->Prop} {s:Shared} [KL prog w A E s]
theorem wpS_lt2 {st:SortSt} {x y:Keyed} {Q:Option Bool->SortSt->Prop} (hk:kindOf st=kind) (hx:isN x) (hy:isN y) (h:Q (some (decide (nk x<nk y))) st):wpS (model prog w) A E s (lt' x y) Q st:=KL.lt hk hx hy h
theorem wpS_elem {st:SortSt} {xs:Array Keyed} {i:Nat} {p:Keyed} {Q:Keyed->SortSt->Prop} (hi:xs[i]? = some p) (h:Q p st):wpS (model prog w) A E s (elem' xs i) Q st:=by
 rw [elem'_eq,hi]
 exact wpS_pure h
noncomputable def leap:Bool->Keyed->Array Keyed->Nat->Nat->Nat->StateT SortSt Sem (Option Nat):=sortPriv% PySem.Builtin.gallop
noncomputable def past (left:Bool) (key:Keyed) (xs:Array Keyed) (b i:Nat):StateT SortSt Sem (Option Bool):=do
 let p ← elem' xs (b+i)
 if left then lt' p key else return (← lt' key p).map (!·)
noncomputable def pv (left:Bool) (key:Keyed) (xs:Array Keyed) (b i:Nat):Bool:=if left then decide (K xs (b+i)<nk key) else !decide (nk key<K xs (b+i))
theorem wpS_past {st:SortSt} {left:Bool} {key:Keyed} {xs:Array Keyed} {b i:Nat} {Q:Option Bool->SortSt->Prop} (hk:kindOf st=kind) (hx:∀p∈xs.toList,isN p) (hy:isN key) (hi:b+i<xs.size) (h:Q (some (pv left key xs b i)) st):wpS (model prog w) A E s (past left key xs b i) Q st:=by
 have e:xs[b+i]? = some (xs[b+i]'hi):=Array.getElem?_eq_getElem hi
 have hp:isN xs[b+i]:=hx _ (by simp)
 have ek:K xs (b+i)=nk xs[b+i]:=by unfold K;rw [e]
 unfold past
 refine wpS_bind (wpS_elem e ?_)
 unfold pv at h
 rw [ek] at h
 cases left with
 | true =>
  simp only [if_true] at h ⊢
  exact wpS_lt2 hk hp hy h
 | false =>
  simp only [Bool.false_eq_true,if_false] at h ⊢
  exact wpS_bind (wpS_lt2 hk hy hp (wpS_pure h))
theorem leap_do (left:Bool) (key:Keyed) (xs:Array Keyed) (b n hint:Nat):leap left key xs b n hint=(do
 let mut la:=0
 let mut of:=1
 let mut l:=0
 let mut h:=0
 let some r ← past left key xs b hint | return none
 if r then
  let mx:=n-hint
  for _ in [0:n] do
   if of ≥ mx then break
   let some m ← past left key xs b (hint+of) | return none
   if !m then break
   la:=of
   of:=2*of+1
  l:=hint+la+1
  h:=hint+min of mx
 else
  let mx:=hint+1
  for _ in [0:n] do
   if of ≥ mx then break
   let some m ← past left key xs b (hint-of) | return none
   if m then break
   la:=of
   of:=2*of+1
  l:=hint+1-min of mx
  h:=hint-la
 for _ in [0:n] do
  if l ≥ h then break
  let mid:=l+(h-l) / 2
  let some m ← past left key xs b mid | return none
  if m then l:=mid+1 else h:=mid
 return some h):=rfl
noncomputable def half (left:Bool) (key:Keyed) (xs:Array Keyed) (b n l0 h0:Nat):StateT SortSt Sem (Option Nat):=do
 let mut l:=l0
 let mut h:=h0
 for _ in [0:n] do
  if l ≥ h then break
  let mid:=l+(h-l) / 2
  let some m ← past left key xs b mid | return none
  if m then l:=mid+1 else h:=mid
 return some h
structure Ask (st:SortSt) (key:Keyed) (xs:Array Keyed) (b n:Nat):Prop where
 k:kindOf st=kind
 x:∀p∈xs.toList,isN p
 y:isN key
 s:∀i j,i<=j->j<n->K xs (b+i)<=K xs (b+j)
 z:b+n<=xs.size
variable {st:SortSt} {left:Bool} {key:Keyed} {xs:Array Keyed} {b n hint:Nat}
theorem Ask.down (h:Ask st key xs b n) {i j:Nat} (hij:i<=j) (hj:j<n) (hp:pv left key xs b j=true):pv left key xs b i=true:=by
 have:=h.s i j hij hj
 unfold pv at hp ⊢
 cases left with
 | true=>simp only [if_true,decide_eq_true_eq] at hp ⊢;omega
 | false=>simp only [Bool.false_eq_true,if_false,Bool.not_eq_true',decide_eq_false_iff_not] at hp ⊢;omega
theorem Ask.up (h:Ask st key xs b n) {i j:Nat} (hij:i<=j) (hj:j<n) (hp:pv left key xs b i=false):pv left key xs b j=false:=by
 cases hq:pv left key xs b j with
 | false=>rfl
 | true=>rw [h.down hij hj hq] at hp;cases hp
noncomputable def Cut (left:Bool) (key:Keyed) (xs:Array Keyed) (b n k:Nat):Prop:=k<=n/\(∀i,i<k->pv left key xs b i=true)/\∀i,k<=i->i<n->pv left key xs b i=false
theorem wpS_half {l h:Nat} {Q:Option Nat->SortSt->Prop} (a:Ask st key xs b n) (h1:l<=h) (h2:h<=n) (h3:∀i,i<l->pv left key xs b i=true) (h4:∀i,h<=i->i<n->pv left key xs b i=false)
  (hQ:∀k,Cut left key xs b n k->Q (some k) st):wpS (model prog w) A E s (half left key xs b n l h) Q st:=by
 unfold half
 refine wpS_bind (wpS_mono (wpS_forRange (I:=λx c st'=>st'=st/\∃l h,c=(none,l,h)/\l<=h/\h<=n/\h-l<=n-x/\(∀i,i<l->pv left key xs b i=true)/\∀i,h<=i->i<n->pv left key xs b i=false)
  (Q:=λc st'=>st'=st/\∃k,c=(none,k,k)/\Cut left key xs b n k) ?step ?fin ⟨rfl,l,h,rfl,h1,h2,by omega,h3,h4⟩) ?post)
 case fin =>
  rintro c st' ⟨rfl,l,h,rfl,a1,a2,a3,a4,a5⟩
  have:l=h:=by omega
  subst this
  exact ⟨rfl,l,rfl,a2,a4,a5⟩
 case step =>
  rintro x c st' _ hx ⟨rfl,l,h,rfl,a1,a2,a3,a4,a5⟩
  dsimp only
  by_cases hge:l ≥ h
  ·rw [if_pos hge]
   have:l=h:=by omega
   subst this
   exact wpS_pure ⟨rfl,l,rfl,a2,a4,a5⟩
  ·rw [if_neg hge]
   refine wpS_bind (wpS_past a.k a.x a.y (by have:=a.z;omega) ?_)
   dsimp only
   cases hp:pv left key xs b (l+(h-l) / 2) with
   | true =>
    simp only [if_true]
    exact wpS_pure ⟨rfl,_,_,rfl,by omega,by omega,by omega,λi hi=>a.down (by omega) (by omega) hp,a5⟩
   | false =>
    simp only [Bool.false_eq_true,if_false]
    exact wpS_pure ⟨rfl,_,_,rfl,by omega,by omega,by omega,a4,λi hi hn=>a.up hi hn hp⟩
 case post =>
  rintro c st' ⟨rfl,k,rfl,hc⟩
  exact wpS_pure (hQ k hc)
theorem wpS_leap {Q:Option Nat->SortSt->Prop} (a:Ask st key xs b n) (hh:hint<n) (hQ:∀k,Cut left key xs b n k->Q (some k) st):wpS (model prog w) A E s (leap left key xs b n hint) Q st:=by
 have hz:=a.z
 rw [leap_do]
 dsimp only
 refine wpS_bind (wpS_past a.k a.x a.y (by omega) ?_)
 dsimp only
 cases hr:pv left key xs b hint with
 | true =>
  simp only [if_true]
  refine wpS_bind (wpS_mono (wpS_forRange (I:=λx c st'=>st'=st/\∃la of,c=(none,la,of)/\la<of/\x+1<=of/\hint+la<n/\pv left key xs b (hint+la)=true)
   (Q:=λc st'=>st'=st/\∃la of,c=(none,la,of)/\la<of/\hint+la<n/\pv left key xs b (hint+la)=true/\(n-hint<=of\/pv left key xs b (hint+of)=false)) ?step ?fin ⟨rfl,0,1,rfl,by omega,by omega,by omega,hr⟩) ?post)
  case fin =>
   rintro c st' ⟨rfl,la,of,rfl,a1,a2,a3,a4⟩
   exact ⟨rfl,la,of,rfl,a1,a3,a4,.inl (by omega)⟩
  case step =>
   rintro x c st' _ hx ⟨rfl,la,of,rfl,a1,a2,a3,a4⟩
   dsimp only
   by_cases hge:of ≥ n-hint
   ·rw [if_pos hge]
    exact wpS_pure ⟨rfl,la,of,rfl,a1,a3,a4,.inl hge⟩
   ·rw [if_neg hge]
    refine wpS_bind (wpS_past a.k a.x a.y (by omega) ?_)
    dsimp only
    cases hp:pv left key xs b (hint+of) with
    | true =>
     simp only [Bool.not_true,Bool.false_eq_true,if_false]
     exact wpS_pure ⟨rfl,_,_,rfl,by omega,by omega,by omega,hp⟩
    | false =>
     simp only [Bool.not_false,if_true]
     exact wpS_pure ⟨rfl,la,of,rfl,a1,a3,a4,.inr hp⟩
  case post =>
   rintro c st' ⟨rfl,la,of,rfl,a1,a3,a4,a5⟩
   refine wpS_half (h:=hint+min of (n-hint)) (l:=hint+la+1) a (by omega) (by omega) (λi hi=>a.down (by omega) a3 a4) (λi hi hn=>?_) hQ
   rcases a5 with q | q
   ·omega
   ·exact a.up (by omega) hn q
 | false =>
  simp only [Bool.false_eq_true,if_false]
  refine wpS_bind (wpS_mono (wpS_forRange (I:=λx c st'=>st'=st/\∃la of,c=(none,la,of)/\la<of/\x+1<=of/\la<=hint/\pv left key xs b (hint-la)=false)
   (Q:=λc st'=>st'=st/\∃la of,c=(none,la,of)/\la<of/\la<=hint/\pv left key xs b (hint-la)=false/\(hint+1<=of\/(of<=hint/\pv left key xs b (hint-of)=true))) ?step ?fin ⟨rfl,0,1,rfl,by omega,by omega,by omega,hr⟩) ?post)
  case fin =>
   rintro c st' ⟨rfl,la,of,rfl,a1,a2,a3,a4⟩
   exact ⟨rfl,la,of,rfl,a1,a3,a4,.inl (by omega)⟩
  case step =>
   rintro x c st' _ hx ⟨rfl,la,of,rfl,a1,a2,a3,a4⟩
   dsimp only
   by_cases hge:of ≥ hint+1
   ·rw [if_pos hge]
    exact wpS_pure ⟨rfl,la,of,rfl,a1,a3,a4,.inl hge⟩
   ·rw [if_neg hge]
    refine wpS_bind (wpS_past a.k a.x a.y (by omega) ?_)
    dsimp only
    cases hp:pv left key xs b (hint-of) with
    | true =>
     simp only [if_true]
     exact wpS_pure ⟨rfl,la,of,rfl,a1,a3,a4,.inr ⟨by omega,hp⟩⟩
    | false =>
     simp only [Bool.false_eq_true,if_false]
     exact wpS_pure ⟨rfl,_,_,rfl,by omega,by omega,by omega,hp⟩
  case post =>
   rintro c st' ⟨rfl,la,of,rfl,a1,a3,a4,a5⟩
   refine wpS_half (h:=hint-la) (l:=hint+1-min of (hint+1)) a (by omega) (by omega) (λi hi=>?_) (λi hi hn=>a.up hi hn a4) hQ
   rcases a5 with q | ⟨q1,q2⟩
   ·omega
   ·exact a.down (by omega) (by omega) q2
end
end Srt
namespace Srt
open PySem PyProof.Rows
open KN (nk isN kind)
variable [KN]
noncomputable def mLo:Array Keyed->Array Keyed->StateT SortSt Sem (Array Keyed):=sortPriv% PySem.Builtin.mergeLo
noncomputable def setG:Nat->StateT SortSt Sem Unit:=sortPriv% PySem.Builtin.setMinGallop
theorem setG_eq (g:Nat):setG g=modify λs=>SortSt.mk' (kindOf s) (arrOf s) (pendingOf s) g (failedOf s):=rfl
theorem mLo_do (x y:Array Keyed):∃u:StateT SortSt Sem (Array Keyed),mLo x y=(do
 rule "list.sort.merge-lo"
 let tot:=x.size+y.size
 let fin (o:Array Keyed) (i j:Nat):=o++x.extract i x.size++y.extract j y.size
 let las (o:Array Keyed) (i j:Nat):=o++y.extract j y.size++x.extract i x.size
 let mut o:Array Keyed:=#[← elem' y 0]
 let mut i:=0
 let mut j:=1
 if j == y.size then return fin o i j
 if i+1 == x.size then return las o i j
 let mut g:=gallopOf (← get)
 for _ in [0:tot] do
  let mut ca:=0
  let mut cb:=0
  for _ in [0:tot] do
   let some bw ← lt' (← elem' y j) (← elem' x i) | return fin o i j
   if bw then
    o:=o.push (← elem' y j);j:=j+1;cb:=cb+1;ca:=0
    if j == y.size then return fin o i j
    if cb ≥ g then break
   else
    o:=o.push (← elem' x i);i:=i+1;ca:=ca+1;cb:=0
    if i+1 == x.size then return las o i j
    if ca ≥ g then break
  rule "list.sort.gallop"
  g:=g+1
  for _ in [0:tot] do
   if g > 1 then g:=g-1
   setG g
   let some k ← leap false (← elem' y j) x i (x.size-i) 0 | return fin o i j
   ca:=k
   if k > 0 then
    o:=o++x.extract i (i+k);i:=i+k
    if i+1 == x.size then return las o i j
    if i == x.size then return fin o i j
   o:=o.push (← elem' y j);j:=j+1
   if j == y.size then return fin o i j
   let some k ← leap true (← elem' x i) y j (y.size-j) 0 | return fin o i j
   cb:=k
   if k > 0 then
    o:=o++y.extract j (j+k);j:=j+k
    if j == y.size then return fin o i j
   o:=o.push (← elem' x i);i:=i+1
   if i+1 == x.size then return las o i j
   if ca<7 && cb<7 then break
  g:=g+1
  setG g
 u):=⟨_,rfl⟩
noncomputable def Inc (l:List Keyed):Prop:=l.Pairwise λp q=>nk p<=nk q
structure Mg (X Y:List Keyed) (i j:Nat) (O:List Keyed):Prop where
 perm:O.Perm (X.take i++Y.take j)
 inc:Inc O
 le:∀p∈O,∀q,(q∈X.drop i\/q∈Y.drop j)->nk p<=nk q
theorem Inc.drop {l:List Keyed} (h:Inc l) (k:Nat):Inc (l.drop k):=List.Pairwise.sublist (List.drop_sublist _ _) h
theorem Inc.take {l:List Keyed} (h:Inc l) (k:Nat):Inc (l.take k):=List.Pairwise.sublist (List.take_sublist _ _) h
theorem Inc.split {l:List Keyed} (h:Inc l) (k:Nat):∀p∈l.take k,∀q∈l.drop k,nk p<=nk q:=by
 have:Inc (l.take k++l.drop k):=by rw [List.take_append_drop];exact h
 exact (List.pairwise_append.mp this).2.2
theorem drop_mem {l:List Keyed} {i k:Nat} {q:Keyed} (h:q∈l.drop (i+k)):q∈l.drop i:=by
 rw [← List.drop_drop] at h
 exact List.mem_of_mem_drop h
theorem Mg.stepX {X Y O:List Keyed} {i j k:Nat} (h:Mg X Y i j O) (hX:Inc X) (hc:∀p∈(X.drop i).take k,∀q∈Y.drop j,nk p<=nk q):Mg X Y (i+k) j (O++(X.drop i).take k):=by
 refine ⟨?_,?_,λp hp q hq=>?_⟩
 ·rw [List.take_add]
  refine (h.perm.append_right _).trans ?_
  rw [List.append_assoc,List.append_assoc]
  exact List.Perm.append_left _ List.perm_append_comm
 ·refine List.pairwise_append.mpr ⟨h.inc,(hX.drop i).take k,λp hp q hq=>h.le p hp q (.inl (List.mem_of_mem_take hq))⟩
 ·rcases List.mem_append.mp hp with hp | hp
  ·rcases hq with hq | hq
   ·exact h.le p hp q (.inl (drop_mem hq))
   ·exact h.le p hp q (.inr hq)
  ·rcases hq with hq | hq
   ·rw [← List.drop_drop] at hq
    exact (hX.drop i).split k p hp q hq
   ·exact hc p hp q hq
theorem Mg.stepY {X Y O:List Keyed} {i j k:Nat} (h:Mg X Y i j O) (hY:Inc Y) (hc:∀p∈(Y.drop j).take k,∀q∈X.drop i,nk p<=nk q):Mg X Y i (j+k) (O++(Y.drop j).take k):=by
 refine ⟨?_,?_,λp hp q hq=>?_⟩
 ·rw [List.take_add,← List.append_assoc]
  exact h.perm.append_right _
 ·refine List.pairwise_append.mpr ⟨h.inc,(hY.drop j).take k,λp hp q hq=>h.le p hp q (.inr (List.mem_of_mem_take hq))⟩
 ·rcases List.mem_append.mp hp with hp | hp
  ·rcases hq with hq | hq
   ·exact h.le p hp q (.inl hq)
   ·exact h.le p hp q (.inr (drop_mem hq))
  ·rcases hq with hq | hq
   ·exact hc p hp q hq
   ·rw [← List.drop_drop] at hq
    exact (hY.drop j).split k p hp q hq
noncomputable def Out (X Y O:List Keyed):Prop:=O.Perm (X++Y)/\Inc O
theorem Mg.endX {X Y O:List Keyed} {i j:Nat} (h:Mg X Y i j O) (hX:Inc X) (hj:Y.length<=j):Out X Y (O++X.drop i):=by
 have ht:Y.take j=Y:=List.take_of_length_le hj
 refine ⟨?_,List.pairwise_append.mpr ⟨h.inc,hX.drop i,λp hp q hq=>h.le p hp q (.inl hq)⟩⟩
 have:=h.perm
 rw [ht] at this
 refine (this.append_right _).trans ?_
 have e:X++Y=X.take i++(X.drop i++Y):=by rw [← List.append_assoc,List.take_append_drop]
 rw [List.append_assoc,e]
 exact List.Perm.append_left _ List.perm_append_comm
theorem Mg.endY {X Y O:List Keyed} {i j:Nat} (h:Mg X Y i j O) (hY:Inc Y) (hi:X.length<=i):Out X Y (O++Y.drop j):=by
 have ht:X.take i=X:=List.take_of_length_le hi
 refine ⟨?_,List.pairwise_append.mpr ⟨h.inc,hY.drop j,λp hp q hq=>h.le p hp q (.inr hq)⟩⟩
 have:=h.perm
 rw [ht] at this
 refine (this.append_right _).trans ?_
 rw [List.append_assoc,List.take_append_drop]
theorem Mg.endL {X Y O:List Keyed} {i j:Nat} (h:Mg X Y i j O) (hX:Inc X) (hY:Inc Y) (hi:i+1=X.length) (hl:∀p∈X.drop i,∀q∈Y,nk q<=nk p):Out X Y (O++Y.drop j++X.drop i):=by
 refine ⟨?_,?_⟩
 ·refine ((h.perm.append_right _).append_right _).trans ?_
  rw [List.append_assoc (X.take i),List.take_append_drop]
  have e:X++Y=X.take i++(X.drop i++Y):=by rw [← List.append_assoc,List.take_append_drop]
  rw [List.append_assoc,e]
  exact List.Perm.append_left _ List.perm_append_comm
 ·refine List.pairwise_append.mpr ⟨List.pairwise_append.mpr ⟨h.inc,hY.drop j,λp hp q hq=>h.le p hp q (.inr hq)⟩,hX.drop i,λp hp q hq=>?_⟩
  rcases List.mem_append.mp hp with hp | hp
  ·exact h.le p hp q (.inl hq)
  ·exact hl q hq p (List.mem_of_mem_drop hp)
theorem Mg.start {X Y:List Keyed}:Mg X Y 0 0 []:=⟨by simp,List.Pairwise.nil,λp hp=>nomatch hp⟩
theorem one_drop {x:Array Keyed} {i:Nat} (h:i<x.size):(x.toList.drop i).take 1=[x[i]]:=by
 have h':i<x.toList.length:=by simpa using h
 rw [List.drop_eq_getElem_cons h'];simp
theorem ext_list (x:Array Keyed) (i k:Nat):(x.extract i (i+k)).toList=(x.toList.drop i).take k:=by
 simp
theorem ext_end (x:Array Keyed) (i:Nat):(x.extract i x.size).toList=x.toList.drop i:=by
 rw [Array.toList_extract,List.extract_eq_take_drop,List.take_of_length_le]
 simp
theorem K_nk {x:Array Keyed} {i:Nat} (h:i<x.size):K x i=nk x[i]:=by
 unfold K
 rw [Array.getElem?_eq_getElem h]
theorem inc_K {x:Array Keyed} (h:Inc x.toList) {i j:Nat} (hij:i<=j) (hj:j<x.size):K x i<=K x j:=by
 rw [K_nk (by omega),K_nk hj]
 by_cases e:i=j
 ·subst e;exact Int.le_refl _
 ·have:=List.pairwise_iff_getElem.mp h i j (by simp;omega) (by simpa using hj) (by omega)
  simpa using this
structure Keep (st st':SortSt):Prop where
 k:kindOf st'=kindOf st
 a:arrOf st'=arrOf st
 p:pendingOf st'=pendingOf st
 f:failedOf st'=failedOf st
theorem Keep.refl (st:SortSt):Keep st st:=⟨rfl,rfl,rfl,rfl⟩
structure Mr (x y:Array Keyed):Prop where
 nx:∀p∈x.toList,isN p
 ny:∀p∈y.toList,isN p
 ix:Inc x.toList
 iy:Inc y.toList
 x0:0<x.size
 y0:0<y.size
 fst:∀p∈y.toList.take 1,∀q∈x.toList,nk p<=nk q
 lst:∀p∈x.toList.drop (x.size-1),∀q∈y.toList,nk q<=nk p
section
variable {prog:Program} {w:World} {A:Around} {E:Value->Shared->Prop} {s:Shared} [KL prog w A E s] {st:SortSt} {x y:Array Keyed}
theorem Mr.askX (h:Mr x y) (hk:kindOf st=kind) {key:Keyed} (hy:isN key) {i:Nat} (hi:i<=x.size):Ask st key x i (x.size-i) :=
 ⟨hk,h.nx,hy,λa b hab hb=>inc_K h.ix (by omega) (by omega),by omega⟩
theorem Mr.askY (h:Mr x y) (hk:kindOf st=kind) {key:Keyed} (hy:isN key) {i:Nat} (hi:i<=y.size):Ask st key y i (y.size-i) :=
 ⟨hk,h.ny,hy,λa b hab hb=>inc_K h.iy (by omega) (by omega),by omega⟩
theorem wpS_setG {g:Nat} {Q:Unit->SortSt->Prop} (h:∀st',Keep st st'->Q () st'):wpS (model prog w) A E s (setG g) Q st:=by
 rw [setG_eq]
 exact wpS_modify (h _ ⟨rfl,rfl,rfl,rfl⟩)
theorem Keep.trans {a b c:SortSt} (h:Keep a b) (k:Keep b c):Keep a c:=⟨k.k.trans h.k,k.a.trans h.a,k.p.trans h.p,k.f.trans h.f⟩
theorem mem_drop {x:Array Keyed} {i:Nat} {q:Keyed} (h:q∈x.toList.drop i):∃t,∃(h:i+t<x.size),q=x[i+t]:=by
 obtain ⟨t,ht,e⟩:=List.getElem_of_mem h
 rw [List.length_drop,Array.length_toList] at ht
 exact ⟨t,by omega,by rw [← e,List.getElem_drop];simp⟩
theorem mem_take {x:Array Keyed} {i k:Nat} {q:Keyed} (h:q∈(x.toList.drop i).take k):∃t,t<k/\∃(h:i+t<x.size),q=x[i+t]:=by
 obtain ⟨t,ht,e⟩:=List.getElem_of_mem h
 rw [List.length_take,List.length_drop,Array.length_toList] at ht
 exact ⟨t,by omega,by omega,by rw [← e,List.getElem_take,List.getElem_drop];simp⟩
noncomputable abbrev R1:=Option (Array Keyed) × Array Keyed × Nat × Nat × Nat × Nat
noncomputable abbrev LoS:=ForInStep (Option (Array Keyed) × Array Keyed × Nat × Nat × Nat × Nat × Nat)
noncomputable abbrev LoS1:=ForInStep (Option (Array Keyed) × Array Keyed × Nat × Nat × Nat × Nat)
noncomputable abbrev LoS2:=ForInStep (Option (Array Keyed) × Array Keyed × Nat × Nat × Nat)
noncomputable def loC (x y o:Array Keyed) (i j g ca cb:Nat):StateT SortSt Sem LoS:=do
 let a ← elem' x i
 if i+1+1 == x.size then pure (.done (some (o.push a++y.extract j y.size++x.extract (i+1) x.size),o.push a,i+1,j,g,ca,cb))
 else if ca<7 && cb<7 then pure (.done (none,o.push a,i+1,j,g,ca,cb))
 else pure (.yield (none,o.push a,i+1,j,g,ca,cb))
noncomputable def loB (x y o:Array Keyed) (i j g ca cb:Nat):StateT SortSt Sem LoS:=do
 let a ← elem' y j
 if j+1 == y.size then pure (.done (some (o.push a++x.extract i x.size++y.extract (j+1) y.size),o.push a,i,j+1,g,ca,cb))
 else do
  let b ← elem' x i
  let z ← leap true b y (j+1) (y.size-(j+1)) 0
  match z with
  | some k =>
   if k > 0 then
    if j+1+k == y.size then pure (.done (some (o.push a++y.extract (j+1) (j+1+k)++x.extract i x.size++y.extract (j+1+k) y.size),o.push a++y.extract (j+1) (j+1+k),i,j+1+k,g,ca,k))
    else loC x y (o.push a++y.extract (j+1) (j+1+k)) i (j+1+k) g ca k
   else loC x y (o.push a) i (j+1) g ca k
  | _=>pure (.done (some (o.push a++x.extract i x.size++y.extract (j+1) y.size),o.push a,i,j+1,g,ca,cb))
noncomputable def loA (x y o:Array Keyed) (i j g ca cb:Nat):StateT SortSt Sem LoS:=do
 let a ← elem' y j
 let z ← leap false a x i (x.size-i) 0
 match z with
 | some k =>
  if k > 0 then
   if i+k+1 == x.size then pure (.done (some (o++x.extract i (i+k)++y.extract j y.size++x.extract (i+k) x.size),o++x.extract i (i+k),i+k,j,g,k,cb))
   else if i+k == x.size then pure (.done (some (o++x.extract i (i+k)++x.extract (i+k) x.size++y.extract j y.size),o++x.extract i (i+k),i+k,j,g,k,cb))
   else loB x y (o++x.extract i (i+k)) (i+k) j g k cb
  else loB x y o i j g k cb
 | _=>pure (.done (some (o++x.extract i x.size++y.extract j y.size),o,i,j,g,ca,cb))
noncomputable def lo1 (x y:Array Keyed) (g:Nat) (o:Array Keyed) (i j ca cb:Nat):StateT SortSt Sem LoS1:=do
 let a ← elem' y j
 let b ← elem' x i
 let z ← lt' a b
 match z with
 | some bw =>
  if bw then do
   let c ← elem' y j
   if j+1 == y.size then pure (.done (some (o.push c++x.extract i x.size++y.extract (j+1) y.size),o.push c,i,j+1,0,cb+1))
   else if cb+1 ≥ g then pure (.done (none,o.push c,i,j+1,0,cb+1))
   else pure (.yield (none,o.push c,i,j+1,0,cb+1))
  else do
   let c ← elem' x i
   if i+1+1 == x.size then pure (.done (some (o.push c++y.extract j y.size++x.extract (i+1) x.size),o.push c,i+1,j,ca+1,0))
   else if ca+1 ≥ g then pure (.done (none,o.push c,i+1,j,ca+1,0))
   else pure (.yield (none,o.push c,i+1,j,ca+1,0))
 | _=>pure (.done (some (o++x.extract i x.size++y.extract j y.size),o,i,j,ca,cb))
noncomputable def lo3 (x y o:Array Keyed) (i j g ca cb:Nat):StateT SortSt Sem LoS :=
 if g > 1 then (do setG (g-1);loA x y o i j (g-1) ca cb) else (do setG g;loA x y o i j g ca cb)
noncomputable def lo2b (x y:Array Keyed) (tot:Nat) (o:Array Keyed) (i j g ca cb:Nat):StateT SortSt Sem LoS2:=do
 rule "list.sort.gallop"
 let c ← forIn [:tot] ((none,o,i,j,g+1,ca,cb):Option (Array Keyed) × Array Keyed × Nat × Nat × Nat × Nat × Nat) λ_ c=>lo3 x y c.2.1 c.2.2.1 c.2.2.2.1 c.2.2.2.2.1 c.2.2.2.2.2.1 c.2.2.2.2.2.2
 match c.1 with
 | some r=>pure (.done (some r,c.2.1,c.2.2.1,c.2.2.2.1,c.2.2.2.2.1))
 | none=>do
  setG (c.2.2.2.2.1+1)
  pure (.yield (none,c.2.1,c.2.2.1,c.2.2.2.1,c.2.2.2.2.1+1))
noncomputable def lo2 (x y:Array Keyed) (tot:Nat) (o:Array Keyed) (i j g:Nat):StateT SortSt Sem LoS2:=do
 let c ← forIn [:tot] ((none,o,i,j,0,0):Option (Array Keyed) × Array Keyed × Nat × Nat × Nat × Nat) λ_ c=>lo1 x y g c.2.1 c.2.2.1 c.2.2.2.1 c.2.2.2.2.1 c.2.2.2.2.2
 match c.1 with
 | some r=>pure (.done (some r,c.2.1,c.2.2.1,c.2.2.2.1,g))
 | none=>lo2b x y tot c.2.1 c.2.2.1 c.2.2.2.1 g c.2.2.2.2.1 c.2.2.2.2.2
theorem mLo_eq (x y:Array Keyed):∃u:StateT SortSt Sem (Array Keyed),mLo x y=(do
 rule "list.sort.merge-lo"
 let a ← elem' y 0
 if 1 == y.size then pure ((#[a]:Array Keyed)++x.extract 0 x.size++y.extract 1 y.size)
 else if 0+1 == x.size then pure ((#[a]:Array Keyed)++y.extract 1 y.size++x.extract 0 x.size)
 else do
  let st ← get
  let c ← forIn [:x.size+y.size] ((none,#[a],0,1,gallopOf st):Option (Array Keyed) × Array Keyed × Nat × Nat × Nat) λ_ c=>lo2 x y (x.size+y.size) c.2.1 c.2.2.1 c.2.2.2.1 c.2.2.2.2
  match c.1 with
  | some r=>pure r
  | none=>u):=by
 obtain ⟨u,e⟩:=mLo_do x y
 refine ⟨u,e.trans ?_⟩
 clear e
 dsimp only [lo2,lo2b,lo3,loA,loB,loC,lo1]
 refine congrArg (bind _) (funext λ_=>?_)
 refine congrArg (bind _) (funext λa=>?_)
 refine congrArg (ite _ _) (congrArg (ite _ _) ?_)
 refine congrArg (bind _) (funext λb=>?_)
 refine congr (congrArg _ ?_) (funext λz=>?_)
 ·refine congrArg _ (funext λ_=>funext λc=>?_)
  refine congr (congrArg _ ?_) (funext λd=>?_)
  ·rfl
  ·match d.1 with
   | some r=>rfl
   | none =>
    refine congrArg (bind _) (funext λ_=>?_)
    refine congr (congrArg _ ?_) (funext λz=>?_)
    ·refine congrArg _ (funext λ_=>funext λc=>?_)
     rfl
    ·match z.1 with
     | some r=>rfl
     | none=>rfl
 ·match z.1 with
  | some r=>rfl
  | none=>rfl
structure LoQ (x y:Array Keyed) (n:Nat) (Q:LoS->Prop):Prop where
 out:∀r c,Out x.toList y.toList r.toList->Q (.done (some r,c))
 brk:∀o i j g ca cb,Mg x.toList y.toList i j o.toList->i+1<x.size->j<y.size->n<=i+j->Q (.done (none,o,i,j,g,ca,cb))
 go:∀o i j g ca cb,Mg x.toList y.toList i j o.toList->i+1<x.size->j<y.size->n<=i+j->Q (.yield (none,o,i,j,g,ca,cb))
theorem Mr.eX (h:Mr x y) {o:Array Keyed} {i j:Nat} (m:Mg x.toList y.toList i j o.toList) (hj:j=y.size):Out x.toList y.toList (o++x.extract i x.size++y.extract j y.size).toList:=by
 have:=m.endX h.ix (by simp;omega)
 rw [Array.toList_append,Array.toList_append,ext_end,ext_end,hj,List.drop_of_length_le (l:=y.toList) (by simp),List.append_nil]
 exact this
theorem Mr.eY (h:Mr x y) {o:Array Keyed} {i j:Nat} (m:Mg x.toList y.toList i j o.toList) (hi:i=x.size):Out x.toList y.toList (o++x.extract i x.size++y.extract j y.size).toList:=by
 have:=m.endY h.iy (by simp;omega)
 rw [Array.toList_append,Array.toList_append,ext_end,ext_end,hi,List.drop_of_length_le (l:=x.toList) (by simp),List.append_nil]
 exact this
theorem Mr.eL (h:Mr x y) {o:Array Keyed} {i j:Nat} (m:Mg x.toList y.toList i j o.toList) (hi:i+1=x.size):Out x.toList y.toList (o++y.extract j y.size++x.extract i x.size).toList:=by
 have:=m.endL h.ix h.iy (by simpa using hi) (by rw [show i=x.size-1 by omega];exact h.lst)
 rw [Array.toList_append,Array.toList_append,ext_end,ext_end]
 exact this
theorem wpS_loC {Q:LoS->SortSt->Prop} {i j n g ca cb:Nat} {o:Array Keyed} (h:Mr x y) (q:LoQ x y n (Q · st)) (n2:i+1<x.size) (n4:j<y.size) (p4:n<=i+j) (m:Mg x.toList y.toList i j o.toList) (cx:∀p∈(x.toList.drop i).take 1,∀q∈y.toList.drop j,nk p<=nk q) :
  wpS (model prog w) A E s (loC x y o i j g ca cb) Q st:=by
 have hi2:i<x.size:=by omega
 refine wpS_bind (wpS_elem (Array.getElem?_eq_getElem hi2) ?_)
 have m5:=m.stepX (k:=1) h.ix cx
 rw [one_drop hi2,← Array.toList_push] at m5
 by_cases q5:i+1+1=x.size
 ·rw [if_pos (by simpa using q5)]
  exact wpS_pure (q.out _ _ (h.eL m5 q5))
 rw [if_neg (by simpa using q5)]
 split
 ·exact wpS_pure (q.brk _ _ _ _ _ _ m5 (by omega) n4 (by omega))
 ·exact wpS_pure (q.go _ _ _ _ _ _ m5 (by omega) n4 (by omega))
theorem wpS_loB {Q:LoS->SortSt->Prop} {i j n g ca cb:Nat} {o:Array Keyed} (hk:kindOf st=kind) (h:Mr x y) (q:LoQ x y n (Q · st)) (n2:i+1<x.size) (b2:j<y.size) (p2:n<=i+j) (mk:Mg x.toList y.toList i j o.toList) (cy:∀p∈(y.toList.drop j).take 1,∀q∈x.toList.drop i,nk p<=nk q) :
  wpS (model prog w) A E s (loB x y o i j g ca cb) Q st:=by
 refine wpS_bind (wpS_elem (Array.getElem?_eq_getElem b2) ?_)
 have m3:=mk.stepY (k:=1) h.iy cy
 rw [one_drop b2,← Array.toList_push] at m3
 by_cases q3:j+1=y.size
 ·rw [if_pos (by simpa using q3)]
  exact wpS_pure (q.out _ _ (h.eX m3 q3))
 rw [if_neg (by simpa using q3)]
 have hi2:i<x.size:=by omega
 refine wpS_bind (wpS_elem (Array.getElem?_eq_getElem hi2) ?_)
 refine wpS_bind (wpS_leap (h.askY hk (h.nx _ (by simp)) (by omega)) (by omega) λk2 hc2=>?_)
 dsimp only
 obtain ⟨d1,d2,d3⟩:=hc2
 have m4:Mg x.toList y.toList i (j+1+k2) (o.push y[j]++y.extract (j+1) (j+1+k2)).toList:=by
  have:=m3.stepY (k:=k2) h.iy (λp hp q hq=>by
   obtain ⟨t,ht,hts,rfl⟩:=mem_take hp
   obtain ⟨v,hv,rfl⟩:=mem_drop hq
   have h1:=d2 t ht
   have h2:=inc_K h.ix (show i<=i+v by omega) hv
   rw [K_nk hi2,K_nk hv] at h2
   unfold pv at h1
   simp only [if_true,decide_eq_true_eq] at h1
   rw [K_nk hts] at h1
   omega)
  rw [Array.toList_append,ext_list];exact this
 have cx:∀p∈(x.toList.drop i).take 1,∀q∈y.toList.drop (j+1+k2),nk p<=nk q:=λp hp q hq=>by
  rw [one_drop hi2] at hp
  rw [List.mem_singleton.mp hp]
  obtain ⟨v,hv,rfl⟩:=mem_drop hq
  have h1:=d3 (k2+v) (by omega) (by omega)
  unfold pv at h1
  simp only [if_true,decide_eq_false_iff_not] at h1
  rw [← Nat.add_assoc,K_nk hv] at h1
  omega
 by_cases k20:k2 > 0
 ·rw [if_pos k20]
  by_cases q4:j+1+k2=y.size
  ·rw [if_pos (by simpa using q4)]
   exact wpS_pure (q.out _ _ (h.eX m4 q4))
  rw [if_neg (by simpa using q4)]
  exact wpS_loC h q n2 (by omega) (by omega) m4 cx
 ·rw [if_neg k20]
  have k00:k2=0:=by omega
  subst k00
  rw [Nat.add_zero] at cx
  exact wpS_loC h q n2 (by omega) (by omega) m3 cx
theorem wpS_loA {Q:LoS->SortSt->Prop} {i j n g ca cb:Nat} {o:Array Keyed} (hk:kindOf st=kind) (h:Mr x y) (q:LoQ x y n (Q · st)) (b1:i+1<x.size) (b2:j<y.size) (b3:n<=i+j) (m:Mg x.toList y.toList i j o.toList) :
  wpS (model prog w) A E s (loA x y o i j g ca cb) Q st:=by
 refine wpS_bind (wpS_elem (Array.getElem?_eq_getElem b2) ?_)
 refine wpS_bind (wpS_leap (h.askX hk (h.ny _ (by simp)) (by omega)) (by omega) λk hc=>?_)
 dsimp only
 obtain ⟨c1,c2,c3⟩:=hc
 have mk:Mg x.toList y.toList (i+k) j (o++x.extract i (i+k)).toList:=by
  have:=m.stepX (k:=k) h.ix (λp hp q hq=>by
   obtain ⟨t,ht,hts,rfl⟩:=mem_take hp
   obtain ⟨v,hv,rfl⟩:=mem_drop hq
   have h1:=c2 t ht
   have h2:=inc_K h.iy (show j<=j+v by omega) hv
   rw [K_nk b2,K_nk hv] at h2
   unfold pv at h1
   simp only [Bool.false_eq_true,if_false,Bool.not_eq_true',decide_eq_false_iff_not] at h1
   rw [K_nk hts] at h1
   omega)
  rw [Array.toList_append,ext_list];exact this
 have cy:∀p∈(y.toList.drop j).take 1,∀q∈x.toList.drop (i+k),nk p<=nk q:=λp hp q hq=>by
  rw [one_drop b2] at hp
  rw [List.mem_singleton.mp hp]
  obtain ⟨v,hv,rfl⟩:=mem_drop hq
  have h1:=c3 (k+v) (by omega) (by omega)
  unfold pv at h1
  simp only [Bool.false_eq_true,if_false,Bool.not_eq_false',decide_eq_true_eq] at h1
  rw [← Nat.add_assoc,K_nk hv] at h1
  omega
 by_cases k0:k > 0
 ·rw [if_pos k0]
  by_cases q1:i+k+1=x.size
  ·rw [if_pos (by simpa using q1)]
   exact wpS_pure (q.out _ _ (h.eL mk q1))
  rw [if_neg (by simpa using q1)]
  by_cases q2:i+k=x.size
  ·rw [if_pos (by simpa using q2)]
   exact wpS_pure (q.out _ _ (h.eY mk q2))
  rw [if_neg (by simpa using q2)]
  exact wpS_loB hk h q (by omega) b2 (by omega) mk cy
 ·rw [if_neg k0]
  have k00:k=0:=by omega
  subst k00
  rw [Nat.add_zero] at cy
  exact wpS_loB hk h q b1 b2 b3 m cy
theorem wpS_lo1 {Q:LoS1->SortSt->Prop} {i j g ca cb:Nat} {o:Array Keyed} (hk:kindOf st=kind) (h:Mr x y) (m:Mg x.toList y.toList i j o.toList) (b1:i+1<x.size) (b2:j<y.size) (qo:∀r c,Out x.toList y.toList r.toList->Q (.done (some r,c)) st)
  (qn:∀o' i' j' ca cb,Mg x.toList y.toList i' j' o'.toList->i'+1<x.size->j' < y.size->i+j+1<=i'+j'->Q (.done (none,o',i',j',ca,cb)) st/\Q (.yield (none,o',i',j',ca,cb)) st):wpS (model prog w) A E s (lo1 x y g o i j ca cb) Q st:=by
 have hi:i<x.size:=by omega
 refine wpS_bind (wpS_elem (Array.getElem?_eq_getElem b2) (wpS_bind (wpS_elem (Array.getElem?_eq_getElem hi) (wpS_bind (wpS_lt2 hk (h.ny _ (by simp)) (h.nx _ (by simp)) ?_)))))
 dsimp only
 by_cases hw:nk y[j] < nk x[i]
 ·simp only [hw,decide_true,if_true]
  refine wpS_bind (wpS_elem (Array.getElem?_eq_getElem b2) ?_)
  have m2:Mg x.toList y.toList i (j+1) (o.push y[j]).toList:=by
   have:=m.stepY (k:=1) h.iy (λp hp q hq=>by
    rw [one_drop b2] at hp
    rw [List.mem_singleton.mp hp]
    obtain ⟨t,ht,rfl⟩:=mem_drop hq
    have:=inc_K h.ix (show i<=i+t by omega) ht
    rw [K_nk (by omega),K_nk ht] at this
    omega)
   rw [one_drop b2] at this
   rw [Array.toList_push];exact this
  by_cases q1:j+1=y.size
  ·rw [if_pos (by simpa using q1)]
   exact wpS_pure (qo _ _ (h.eX m2 q1))
  ·rw [if_neg (by simpa using q1)]
   have z:=λca cb=>qn _ _ _ ca cb m2 b1 (by omega) (by omega)
   split
   ·exact wpS_pure (z _ _).1
   ·exact wpS_pure (z _ _).2
 ·simp only [hw,decide_false,Bool.false_eq_true,if_false]
  refine wpS_bind (wpS_elem (Array.getElem?_eq_getElem hi) ?_)
  have m2:Mg x.toList y.toList (i+1) j (o.push x[i]).toList:=by
   have:=m.stepX (k:=1) h.ix (λp hp q hq=>by
    rw [one_drop hi] at hp
    rw [List.mem_singleton.mp hp]
    obtain ⟨t,ht,rfl⟩:=mem_drop hq
    have:=inc_K h.iy (show j<=j+t by omega) ht
    rw [K_nk (by omega),K_nk ht] at this
    omega)
   rw [one_drop hi] at this
   rw [Array.toList_push];exact this
  by_cases q1:i+1+1=x.size
  ·rw [if_pos (by simpa using q1)]
   exact wpS_pure (qo _ _ (h.eL m2 q1))
  ·rw [if_neg (by simpa using q1)]
   have z:=λca cb=>qn _ _ _ ca cb m2 (by omega) b2 (by omega)
   split
   ·exact wpS_pure (z _ _).1
   ·exact wpS_pure (z _ _).2
theorem wpS_lo2b {Q:LoS2->SortSt->Prop} {tot i j g ca cb n:Nat} {o:Array Keyed} (hk:kindOf st=kind) (h:Mr x y) (m:Mg x.toList y.toList i j o.toList) (b1:i+1<x.size) (b2:j<y.size) (b3:n<=i+j) (qo:∀r c st',Keep st st'->Out x.toList y.toList r.toList->Q (.done (some r,c)) st')
  (qn:∀o' i' j' g' st',Keep st st'->Mg x.toList y.toList i' j' o'.toList->i'+1<x.size->j' < y.size->n<=i'+j'->Q (.yield (none,o',i',j',g')) st'):wpS (model prog w) A E s (lo2b x y tot o i j g ca cb) Q st:=by
 refine wpS_bind (wpS_lift (wpAny_rule ⟨rfl,?_⟩))
 refine wpS_bind (wpS_mono (wpS_forRange (I:=λt3 c st3=>Keep st st3/\∃o i' j' g ca cb,c=(none,o,i',j',g,ca,cb)/\Mg x.toList y.toList i' j' o.toList/\i'+1<x.size/\j' < y.size/\n<=i'+j')
  (Q:=λc st3=>Keep st st3/\((∃r c2,c=(some r,c2)/\Out x.toList y.toList r.toList)\/∃o i' j' g ca cb,c=(none,o,i',j',g,ca,cb)/\Mg x.toList y.toList i' j' o.toList/\i'+1<x.size/\j' < y.size/\n<=i'+j')) ?step2 ?fin2 ⟨Keep.refl st,_,_,_,_,_,_,rfl,m,b1,b2,b3⟩) ?post2)
 case fin2 =>
  rintro c st3 ⟨kp3,o,i',j',g,ca,cb,rfl,m,b⟩
  exact ⟨kp3,.inr ⟨o,i',j',g,ca,cb,rfl,m,b⟩⟩
 case post2 =>
  rintro c st3 ⟨kp3,⟨r,c2,rfl,ho⟩ | ⟨o,i',j',g,ca,cb,rfl,m,b1,b2,b3⟩⟩
  ·exact wpS_pure (qo _ _ _ kp3 ho)
  ·exact wpS_bind (wpS_setG λst4 kp4=>wpS_pure (qn _ _ _ _ _ (kp3.trans kp4) m b1 b2 b3))
 case step2 =>
  rintro t3 c st3 _ ht3 ⟨kp3,o,i',j',g,ca,cb,rfl,m,b1,b2,b3⟩
  show wpS (model prog w) A E s (lo3 x y o i' j' g ca cb) _ st3
  unfold lo3
  by_cases hg:g > 1
  ·rw [if_pos hg]
   exact wpS_bind (wpS_setG λst4 kp4=>wpS_loA (n:=n) ((kp3.trans kp4).k.trans hk) h ⟨λr c ho=>⟨kp3.trans kp4,.inl ⟨_,_,rfl,ho⟩⟩,λo i j g ca cb m h1 h2 h3=>⟨kp3.trans kp4,.inr ⟨_,_,_,_,_,_,rfl,m,h1,h2,h3⟩⟩,λo i j g ca cb m h1 h2 h3=>⟨kp3.trans kp4,_,_,_,_,_,_,rfl,m,h1,h2,h3⟩⟩ b1 b2 b3 m)
  ·rw [if_neg hg]
   exact wpS_bind (wpS_setG λst4 kp4=>wpS_loA (n:=n) ((kp3.trans kp4).k.trans hk) h ⟨λr c ho=>⟨kp3.trans kp4,.inl ⟨_,_,rfl,ho⟩⟩,λo i j g ca cb m h1 h2 h3=>⟨kp3.trans kp4,.inr ⟨_,_,_,_,_,_,rfl,m,h1,h2,h3⟩⟩,λo i j g ca cb m h1 h2 h3=>⟨kp3.trans kp4,_,_,_,_,_,_,rfl,m,h1,h2,h3⟩⟩ b1 b2 b3 m)
theorem wpS_lo2 {Q:LoS2->SortSt->Prop} {tot i j g:Nat} {o:Array Keyed} (htot:1<=tot) (hk:kindOf st=kind) (h:Mr x y) (m:Mg x.toList y.toList i j o.toList) (a1:i+1<x.size) (a2:j<y.size) (qo:∀r c st',Keep st st'->Out x.toList y.toList r.toList->Q (.done (some r,c)) st')
  (qn:∀o' i' j' g' st',Keep st st'->Mg x.toList y.toList i' j' o'.toList->i'+1<x.size->j' < y.size->i+j+1<=i'+j'->Q (.yield (none,o',i',j',g')) st'):wpS (model prog w) A E s (lo2 x y tot o i j g) Q st:=by
 refine wpS_bind (wpS_mono (wpS_forRange (I:=λt2 c st2=>st2=st/\∃o i' j' ca cb,c=(none,o,i',j',ca,cb)/\Mg x.toList y.toList i' j' o.toList/\i'+1<x.size/\j' < y.size/\i+j+t2<=i'+j')
  (Q:=λc st2=>st2=st/\((∃r c2,c=(some r,c2)/\Out x.toList y.toList r.toList)\/∃o i' j' ca cb,c=(none,o,i',j',ca,cb)/\Mg x.toList y.toList i' j' o.toList/\i'+1<x.size/\j' < y.size/\i+j+1<=i'+j')) ?step1 ?fin1 ⟨rfl,_,_,_,_,_,rfl,m,a1,a2,by omega⟩) ?post1)
 case fin1 =>
  rintro c st2 ⟨rfl,o,i',j',ca,cb,rfl,m,b1,b2,b3⟩
  exact ⟨rfl,.inr ⟨o,i',j',ca,cb,rfl,m,b1,b2,by omega⟩⟩
 case step1 =>
  rintro t2 c st2 _ ht2 ⟨rfl,o,i',j',ca,cb,rfl,m,b1,b2,b3⟩
  show wpS (model prog w) A E s (lo1 x y g o i' j' ca cb) _ _
  refine wpS_lo1 hk h m b1 b2 (λr c ho=>⟨rfl,.inl ⟨_,_,rfl,ho⟩⟩) λo2 i2 j2 ca cb m2 c1 c2 c3=>⟨⟨rfl,.inr ⟨_,_,_,_,_,rfl,m2,c1,c2,by omega⟩⟩,rfl,_,_,_,_,_,rfl,m2,c1,c2,by omega⟩
 case post1 =>
  rintro c st2 ⟨rfl,⟨r,c2,rfl,ho⟩ | ⟨o,i',j',ca,cb,rfl,m,b1,b2,b3⟩⟩
  ·exact wpS_pure (qo _ _ _ (Keep.refl _) ho)
  ·exact wpS_lo2b hk h m b1 b2 b3 qo qn
theorem wpS_mLo {Q:Array Keyed->SortSt->Prop} (hk:kindOf st=kind) (h:Mr x y) (hQ:∀o st',Keep st st'->Out x.toList y.toList o.toList->Q o st'):wpS (model prog w) A E s (mLo x y) Q st:=by
 obtain ⟨u,e⟩:=mLo_eq x y
 rw [e]
 refine wpS_bind (wpS_lift (wpAny_rule ⟨rfl,?_⟩))
 have hx0:=h.x0
 have hy0:=h.y0
 refine wpS_bind (wpS_elem (Array.getElem?_eq_getElem hy0) ?_)
 have M1:Mg x.toList y.toList 0 1 [y[0]]:=by
  have:=Mg.start.stepY (X:=x.toList) (k:=1) h.iy (λp hp q hq=>h.fst p hp q hq)
  rw [one_drop hy0] at this
  exact this
 by_cases h1:1=y.size
 ·rw [if_pos (by simpa using h1)]
  exact wpS_pure (hQ _ _ (Keep.refl st) (h.eX M1 h1))
 rw [if_neg (by simpa using h1)]
 by_cases h2:0+1=x.size
 ·rw [if_pos (by simpa using h2)]
  exact wpS_pure (hQ _ _ (Keep.refl st) (h.eL M1 h2))
 rw [if_neg (by simpa using h2)]
 refine wpS_bind (wpS_get ?_)
 refine wpS_bind (wpS_mono (wpS_forRange (I:=λt c st'=>Keep st st'/\∃o i j g,c=(none,o,i,j,g)/\Mg x.toList y.toList i j o.toList/\i+1<x.size/\j<y.size/\t+1<=i+j)
  (Q:=λc st'=>Keep st st'/\∃r,c.1=some r/\Out x.toList y.toList r.toList) ?step ?fin ⟨Keep.refl st,_,_,_,_,rfl,M1,by omega,by omega,by omega⟩) ?post)
 case fin =>
  rintro c st' ⟨_,o,i,j,g,rfl,_,a1,a2,a3⟩
  omega
 case post =>
  rintro ⟨c1,c2⟩ st' ⟨kp,r,e,ho⟩
  cases e
  exact wpS_pure (hQ r st' kp ho)
 case step =>
  rintro t c st' _ ht ⟨kp,o,i,j,g,rfl,m,a1,a2,a3⟩
  show wpS (model prog w) A E s (lo2 x y (x.size+y.size) o i j g) _ _
  exact wpS_lo2 (by omega) (kp.k.trans hk) h m a1 a2 (λr c st2 kp2 ho=>⟨kp.trans kp2,_,rfl,ho⟩) λo2 i2 j2 g2 st2 kp2 m2 c1 c2 c3=>⟨kp.trans kp2,_,_,_,_,rfl,m2,c1,c2,by omega⟩
end
end Srt
namespace Srt
open PySem PyProof.Rows
open KN (nk isN kind)
variable [KN]
noncomputable def mHi:Array Keyed->Array Keyed->StateT SortSt Sem (Array Keyed):=sortPriv% PySem.Builtin.mergeHi
theorem mHi_do (x y:Array Keyed):∃u:StateT SortSt Sem (Array Keyed),mHi x y=(do
 rule "list.sort.merge-hi"
 let tot:=x.size+y.size
 let fin (o:Array Keyed) (i j:Nat):=x.extract 0 i++y.extract 0 j++o.reverse
 let frs (o:Array Keyed) (i j:Nat):=y.extract 0 j++x.extract 0 i++o.reverse
 let mut i:=x.size-1
 let mut j:=y.size
 let mut o:Array Keyed:=#[← elem' x i]
 if i == 0 then return fin o i j
 if j == 1 then return frs o i j
 let mut g:=gallopOf (← get)
 for _ in [0:tot] do
  let mut ca:=0
  let mut cb:=0
  for _ in [0:tot] do
   let some aw ← lt' (← elem' y (j-1)) (← elem' x (i-1)) | return fin o i j
   if aw then
    i:=i-1;o:=o.push (← elem' x i);ca:=ca+1;cb:=0
    if i == 0 then return fin o i j
    if ca ≥ g then break
   else
    j:=j-1;o:=o.push (← elem' y j);cb:=cb+1;ca:=0
    if j == 1 then return frs o i j
    if cb ≥ g then break
  rule "list.sort.gallop"
  g:=g+1
  for _ in [0:tot] do
   if g > 1 then g:=g-1
   setG g
   let some v ← leap false (← elem' y (j-1)) x 0 i (i-1) | return fin o i j
   let k:=i-v
   ca:=k
   if k > 0 then
    o:=o++(x.extract v i).reverse;i:=v
    if i == 0 then return fin o i j
   j:=j-1;o:=o.push (← elem' y j)
   if j == 1 then return frs o i j
   let some v ← leap true (← elem' x (i-1)) y 0 j (j-1) | return fin o i j
   let k:=j-v
   cb:=k
   if k > 0 then
    o:=o++(y.extract v j).reverse;j:=v
    if j == 1 then return frs o i j
    if j == 0 then return fin o i j
   i:=i-1;o:=o.push (← elem' x i)
   if i == 0 then return fin o i j
   if ca<7 && cb<7 then break
  g:=g+1
  setG g
 u):=⟨_,rfl⟩
structure Mh (X Y:List Keyed) (i j:Nat) (R:List Keyed):Prop where
 perm:R.Perm (X.drop i++Y.drop j)
 inc:Inc R
 le:∀p,(p∈X.take i\/p∈Y.take j)->∀q∈R,nk p<=nk q
theorem drop_cut {X:List Keyed} {i v:Nat} (h:v<=i):X.drop v=(X.take i).drop v++X.drop i:=by
 rw [List.drop_take]
 have:X.drop i=(X.drop v).drop (i-v):=by rw [List.drop_drop];congr 1;omega
 rw [this,List.take_append_drop]
theorem take_mem {X:List Keyed} {i v:Nat} (h:v<=i) {p:Keyed} (hp:p∈X.take v):p∈X.take i:=by
 have:X.take v=(X.take i).take v:=by rw [List.take_take];congr 1;omega
 rw [this] at hp
 exact List.mem_of_mem_take hp
theorem take_cut {X:List Keyed} (hX:Inc X) {i v:Nat} (h:v<=i):∀p∈X.take v,∀q∈(X.take i).drop v,nk p<=nk q:=λp hp q hq=>by
 have e:X.take v=(X.take i).take v:=by rw [List.take_take];congr 1;omega
 rw [e] at hp
 exact (hX.take i).split v p hp q hq
theorem Mh.stepX {X Y R:List Keyed} {i j v:Nat} (h:Mh X Y i j R) (hX:Inc X) (hv:v<=i) (hc:∀p∈Y.take j,∀q∈(X.take i).drop v,nk p<=nk q):Mh X Y v j ((X.take i).drop v++R):=by
 refine ⟨?_,?_,λp hp q hq=>?_⟩
 ·rw [drop_cut (X:=X) hv,List.append_assoc]
  exact List.Perm.append_left _ h.perm
 ·exact List.pairwise_append.mpr ⟨(hX.take i).drop v,h.inc,λp hp q hq=>h.le p (.inl (List.mem_of_mem_drop hp)) q hq⟩
 ·rcases List.mem_append.mp hq with hq | hq
  ·rcases hp with hp | hp
   ·exact take_cut hX hv p hp q hq
   ·exact hc p hp q hq
  ·rcases hp with hp | hp
   ·exact h.le p (.inl (take_mem hv hp)) q hq
   ·exact h.le p (.inr hp) q hq
theorem Mh.stepY {X Y R:List Keyed} {i j v:Nat} (h:Mh X Y i j R) (hY:Inc Y) (hv:v<=j) (hc:∀p∈X.take i,∀q∈(Y.take j).drop v,nk p<=nk q):Mh X Y i v ((Y.take j).drop v++R):=by
 refine ⟨?_,?_,λp hp q hq=>?_⟩
 ·rw [drop_cut (X:=Y) hv]
  refine (List.Perm.append_left _ h.perm).trans ?_
  rw [← List.append_assoc,← List.append_assoc]
  exact List.Perm.append_right _ List.perm_append_comm
 ·exact List.pairwise_append.mpr ⟨(hY.take j).drop v,h.inc,λp hp q hq=>h.le p (.inr (List.mem_of_mem_drop hp)) q hq⟩
 ·rcases List.mem_append.mp hq with hq | hq
  ·rcases hp with hp | hp
   ·exact hc p hp q hq
   ·exact take_cut hY hv p hp q hq
  ·rcases hp with hp | hp
   ·exact h.le p (.inl hp) q hq
   ·exact h.le p (.inr (take_mem hv hp)) q hq
theorem Mh.end0 {X Y R:List Keyed} {i j:Nat} (h:Mh X Y i j R) (hX:Inc X) (hY:Inc Y) (hc:∀p∈X.take i,∀q∈Y.take j,nk p<=nk q):Out X Y (X.take i++Y.take j++R):=by
 refine ⟨?_,List.pairwise_append.mpr ⟨List.pairwise_append.mpr ⟨hX.take i,hY.take j,hc⟩,h.inc,λp hp q hq=>h.le p (List.mem_append.mp hp) q hq⟩⟩
 refine (List.Perm.append_left _ h.perm).trans ?_
 have e:X++Y=X.take i++X.drop i++(Y.take j++Y.drop j):=by rw [List.take_append_drop,List.take_append_drop]
 rw [e,List.append_assoc,List.append_assoc]
 refine List.Perm.append_left _ ?_
 rw [← List.append_assoc,← List.append_assoc]
 exact List.Perm.append_right _ List.perm_append_comm
theorem Mh.end1 {X Y R:List Keyed} {i j:Nat} (h:Mh X Y i j R) (hX:Inc X) (hY:Inc Y) (hc:∀p∈Y.take j,∀q∈X.take i,nk p<=nk q):Out X Y (Y.take j++X.take i++R):=by
 refine ⟨?_,List.pairwise_append.mpr ⟨List.pairwise_append.mpr ⟨hY.take j,hX.take i,hc⟩,h.inc,λp hp q hq=>h.le p ((List.mem_append.mp hp).symm) q hq⟩⟩
 refine (List.Perm.append_left _ h.perm).trans ?_
 have e:X++Y=X.take i++X.drop i++(Y.take j++Y.drop j):=by rw [List.take_append_drop,List.take_append_drop]
 rw [e]
 have e2:Y.take j++X.take i++(X.drop i++Y.drop j)=Y.take j++(X.take i++X.drop i)++Y.drop j:=by simp only [List.append_assoc]
 rw [e2,← List.append_assoc (X.take i++X.drop i)]
 exact List.Perm.append_right _ List.perm_append_comm
theorem one_last {x:Array Keyed} {i:Nat} (h0:0<i) (h:i<=x.size):(x.toList.take i).drop (i-1)=[x[i-1]'(by omega)]:=by
 rw [List.drop_take,show i-(i-1)=1 by omega]
 exact one_drop (by omega)
theorem ext_0 (x:Array Keyed) (i:Nat):(x.extract 0 i).toList=x.toList.take i:=by simp
theorem ext_vi (x:Array Keyed) (v i:Nat):(x.extract v i).toList=(x.toList.take i).drop v:=by
 rw [Array.toList_extract,List.extract_eq_take_drop,List.drop_take]
theorem mem_tk {x:Array Keyed} {i:Nat} {q:Keyed} (h:q∈x.toList.take i):∃t,t<i/\∃(h:t<x.size),q=x[t]:=by
 obtain ⟨t,ht,e⟩:=List.getElem_of_mem h
 rw [List.length_take,Array.length_toList] at ht
 exact ⟨t,by omega,by omega,by rw [← e,List.getElem_take];simp⟩
theorem mem_td {x:Array Keyed} {v i:Nat} {q:Keyed} (h:q∈(x.toList.take i).drop v):∃t,v<=t/\t<i/\∃(h:t<x.size),q=x[t]:=by
 obtain ⟨t,ht,e⟩:=List.getElem_of_mem h
 rw [List.length_drop,List.length_take,Array.length_toList] at ht
 exact ⟨v+t,by omega,by omega,by omega,by rw [← e,List.getElem_drop,List.getElem_take];simp⟩
section
variable {prog:Program} {w:World} {A:Around} {E:Value->Shared->Prop} {s:Shared} [KL prog w A E s] {st:SortSt} {x y:Array Keyed}
theorem Mr.ask0X (h:Mr x y) (hk:kindOf st=kind) {key:Keyed} (hy:isN key) {i:Nat} (hi:i<=x.size):Ask st key x 0 i :=
 ⟨hk,h.nx,hy,λa b hab hb=>inc_K h.ix (by omega) (by omega),by omega⟩
theorem Mr.ask0Y (h:Mr x y) (hk:kindOf st=kind) {key:Keyed} (hy:isN key) {i:Nat} (hi:i<=y.size):Ask st key y 0 i :=
 ⟨hk,h.ny,hy,λa b hab hb=>inc_K h.iy (by omega) (by omega),by omega⟩
noncomputable abbrev HiS:=ForInStep (Option (Array Keyed) × Nat × Nat × Array Keyed × Nat × Nat × Nat)
noncomputable def hiC (x y:Array Keyed) (i j:Nat) (o:Array Keyed) (g ca cb:Nat):StateT SortSt Sem HiS:=do
 let a ← elem' x (i-1)
 if i-1 == 0 then pure (.done (some (x.extract 0 (i-1)++y.extract 0 j++(o.push a).reverse),i-1,j,o.push a,g,ca,cb))
 else if ca<7 && cb<7 then pure (.done (none,i-1,j,o.push a,g,ca,cb))
 else pure (.yield (none,i-1,j,o.push a,g,ca,cb))
noncomputable def hiB (x y:Array Keyed) (i j:Nat) (o:Array Keyed) (g ca cb:Nat):StateT SortSt Sem HiS:=do
 let a ← elem' y (j-1)
 if j-1 == 1 then pure (.done (some (y.extract 0 (j-1)++x.extract 0 i++(o.push a).reverse),i,j-1,o.push a,g,ca,cb))
 else do
  let b ← elem' x (i-1)
  let z ← leap true b y 0 (j-1) (j-1-1)
  match z with
  | some v =>
   if j-1-v > 0 then
    if v == 1 then pure (.done (some (y.extract 0 v++x.extract 0 i++(o.push a++(y.extract v (j-1)).reverse).reverse),i,v,o.push a++(y.extract v (j-1)).reverse,g,ca,j-1-v))
    else if v == 0 then pure (.done (some (x.extract 0 i++y.extract 0 v++(o.push a++(y.extract v (j-1)).reverse).reverse),i,v,o.push a++(y.extract v (j-1)).reverse,g,ca,j-1-v))
    else hiC x y i v (o.push a++(y.extract v (j-1)).reverse) g ca (j-1-v)
   else hiC x y i (j-1) (o.push a) g ca (j-1-v)
  | _=>pure (.done (some (x.extract 0 i++y.extract 0 (j-1)++(o.push a).reverse),i,j-1,o.push a,g,ca,cb))
noncomputable def hiA (x y:Array Keyed) (i j:Nat) (o:Array Keyed) (g ca cb:Nat):StateT SortSt Sem HiS:=do
 let a ← elem' y (j-1)
 let z ← leap false a x 0 i (i-1)
 match z with
 | some v =>
  if i-v > 0 then
   if v == 0 then pure (.done (some (x.extract 0 v++y.extract 0 j++(o++(x.extract v i).reverse).reverse),v,j,o++(x.extract v i).reverse,g,i-v,cb))
   else hiB x y v j (o++(x.extract v i).reverse) g (i-v) cb
  else hiB x y i j o g (i-v) cb
 | _=>pure (.done (some (x.extract 0 i++y.extract 0 j++o.reverse),i,j,o,g,ca,cb))
structure HiQ (x y:Array Keyed) (n:Nat) (Q:HiS->Prop):Prop where
 out:∀r c,Out x.toList y.toList r.toList->Q (.done (some r,c))
 brk:∀i j o g ca cb,Mh x.toList y.toList i j o.toList.reverse->0<i->1<j->i<=x.size->j<=y.size->i+j+1<=n->Q (.done (none,i,j,o,g,ca,cb))
 go:∀i j o g ca cb,Mh x.toList y.toList i j o.toList.reverse->0<i->1<j->i<=x.size->j<=y.size->i+j+1<=n->Q (.yield (none,i,j,o,g,ca,cb))
theorem Mr.e0 (h:Mr x y) {o:Array Keyed} {i j:Nat} (m:Mh x.toList y.toList i j o.toList.reverse) (hi:i=0\/j=0):Out x.toList y.toList (x.extract 0 i++y.extract 0 j++o.reverse).toList:=by
 have:=m.end0 h.ix h.iy (λp hp q hq=>by
  rcases hi with rfl | rfl
  ·cases hp
  ·cases hq)
 rw [Array.toList_append,Array.toList_append,ext_0,ext_0,Array.toList_reverse]
 exact this
theorem Mr.e1 (h:Mr x y) {o:Array Keyed} {i j:Nat} (m:Mh x.toList y.toList i j o.toList.reverse) (hj:j=1):Out x.toList y.toList (y.extract 0 j++x.extract 0 i++o.reverse).toList:=by
 have:=m.end1 h.ix h.iy (λp hp q hq=>by
  subst hj
  exact h.fst p hp q (List.mem_of_mem_take hq))
 rw [Array.toList_append,Array.toList_append,ext_0,ext_0,Array.toList_reverse]
 exact this
theorem Mr.pushX (h:Mr x y) {o:Array Keyed} {i j:Nat} (hi:0<i) (hi2:i<=x.size) (m:Mh x.toList y.toList i j o.toList.reverse) (hc:∀p∈y.toList.take j,nk p<=nk (x[i-1]'(by omega))):Mh x.toList y.toList (i-1) j (o.push (x[i-1]'(by omega))).toList.reverse:=by
 have:=m.stepX h.ix (v:=i-1) (by omega) (λp hp q hq=>by
  rw [one_last hi hi2] at hq
  rw [List.mem_singleton.mp hq];exact hc p hp)
 rw [one_last hi hi2] at this
 rw [Array.toList_push,List.reverse_append];exact this
theorem Mr.pushY (h:Mr x y) {o:Array Keyed} {i j:Nat} (hi:0<j) (hi2:j<=y.size) (m:Mh x.toList y.toList i j o.toList.reverse) (hc:∀p∈x.toList.take i,nk p<=nk (y[j-1]'(by omega))):Mh x.toList y.toList i (j-1) (o.push (y[j-1]'(by omega))).toList.reverse:=by
 have:=m.stepY h.iy (v:=j-1) (by omega) (λp hp q hq=>by
  rw [one_last hi hi2] at hq
  rw [List.mem_singleton.mp hq];exact hc p hp)
 rw [one_last hi hi2] at this
 rw [Array.toList_push,List.reverse_append];exact this
theorem topA {x:Array Keyed} (h:Inc x.toList) {i:Nat} (hi:0<i) (hi2:i<=x.size):∀p∈x.toList.take i,nk p<=nk (x[i-1]'(by omega)):=λp hp=>by
 obtain ⟨t,ht,hts,rfl⟩:=mem_tk hp
 have:=inc_K h (show t<=i-1 by omega) (by omega)
 rw [K_nk hts,K_nk (by omega)] at this
 exact this
theorem wpS_hiC {Q:HiS->SortSt->Prop} {i j n g ca cb:Nat} {o:Array Keyed} (h:Mr x y) (q:HiQ x y n (Q · st)) (n2:0<i) (n3:i<=x.size) (n4:1<j) (n5:j<=y.size) (p4:i+j+1<=n) (m:Mh x.toList y.toList i j o.toList.reverse) (cx:∀p∈y.toList.take j,nk p<=nk (x[i-1]'(by omega))) :
  wpS (model prog w) A E s (hiC x y i j o g ca cb) Q st:=by
 refine wpS_bind (wpS_elem (Array.getElem?_eq_getElem (show i-1<x.size by omega)) ?_)
 have m5:=h.pushX n2 n3 m cx
 by_cases q5:i-1=0
 ·rw [if_pos (by simpa using q5)]
  exact wpS_pure (q.out _ _ (h.e0 m5 (.inl q5)))
 rw [if_neg (by simpa using q5)]
 split
 ·exact wpS_pure (q.brk _ _ _ _ _ _ m5 (by omega) n4 (by omega) n5 (by omega))
 ·exact wpS_pure (q.go _ _ _ _ _ _ m5 (by omega) n4 (by omega) n5 (by omega))
theorem wpS_hiB {Q:HiS->SortSt->Prop} {i j n g ca cb:Nat} {o:Array Keyed} (hk:kindOf st=kind) (h:Mr x y) (q:HiQ x y n (Q · st)) (n2:0<i) (n3:i<=x.size) (b2:1<j) (b4:j<=y.size) (p2:i+j+1<=n) (mk:Mh x.toList y.toList i j o.toList.reverse) (cy:∀p∈x.toList.take i,nk p<=nk (y[j-1]'(by omega))) :
  wpS (model prog w) A E s (hiB x y i j o g ca cb) Q st:=by
 refine wpS_bind (wpS_elem (Array.getElem?_eq_getElem (show j-1<y.size by omega)) ?_)
 have m3:=h.pushY (by omega) b4 mk cy
 by_cases q3:j-1=1
 ·rw [if_pos (by simpa using q3)]
  exact wpS_pure (q.out _ _ (h.e1 m3 q3))
 rw [if_neg (by simpa using q3)]
 have hi1:i-1<x.size:=by omega
 refine wpS_bind (wpS_elem (Array.getElem?_eq_getElem hi1) ?_)
 refine wpS_bind (wpS_leap (h.ask0Y hk (h.nx _ (by simp)) (show j-1<=y.size by omega)) (by omega) λv2 hc2=>?_)
 dsimp only
 obtain ⟨d1,d2,d3⟩:=hc2
 have m4:Mh x.toList y.toList i v2 (o.push y[j-1]++(y.extract v2 (j-1)).reverse).toList.reverse:=by
  have:=m3.stepY h.iy (v:=v2) d1 (λp hp q hq=>by
   obtain ⟨t,ht1,ht2,hts,rfl⟩:=mem_td hq
   have h1:=d3 t ht1 ht2
   have h2:=topA h.ix n2 n3 p hp
   unfold pv at h1
   simp only [if_true,decide_eq_false_iff_not,Nat.zero_add] at h1
   rw [K_nk hts] at h1
   omega)
  rw [Array.toList_append,List.reverse_append,Array.toList_reverse,List.reverse_reverse,ext_vi];exact this
 have cx:∀p∈y.toList.take v2,nk p<=nk (x[i-1]):=λp hp=>by
  obtain ⟨t,ht,hts,rfl⟩:=mem_tk hp
  have h1:=d2 t ht
  unfold pv at h1
  simp only [if_true,decide_eq_true_eq,Nat.zero_add] at h1
  rw [K_nk hts] at h1
  omega
 by_cases k20:j-1-v2 > 0
 ·rw [if_pos k20]
  by_cases q4:v2=1
  ·rw [if_pos (by simpa using q4)]
   exact wpS_pure (q.out _ _ (h.e1 m4 q4))
  rw [if_neg (by simpa using q4)]
  by_cases q6:v2=0
  ·rw [if_pos (by simpa using q6)]
   exact wpS_pure (q.out _ _ (h.e0 m4 (.inr q6)))
  rw [if_neg (by simpa using q6)]
  exact wpS_hiC h q n2 n3 (by omega) (by omega) (by omega) m4 cx
 ·rw [if_neg k20]
  have k00:v2=j-1:=by omega
  subst k00
  exact wpS_hiC h q n2 n3 (by omega) (by omega) (by omega) m3 cx
theorem wpS_hiA {Q:HiS->SortSt->Prop} {i j n g ca cb:Nat} {o:Array Keyed} (hk:kindOf st=kind) (h:Mr x y) (q:HiQ x y n (Q · st)) (b1:0<i) (b2:1<j) (b3:i<=x.size) (b4:j<=y.size) (b5:i+j+1<=n) (m:Mh x.toList y.toList i j o.toList.reverse) :
  wpS (model prog w) A E s (hiA x y i j o g ca cb) Q st:=by
 refine wpS_bind (wpS_elem (Array.getElem?_eq_getElem (show j-1<y.size by omega)) ?_)
 refine wpS_bind (wpS_leap (h.ask0X hk (h.ny _ (by simp)) b3) (by omega) λv hc=>?_)
 dsimp only
 obtain ⟨c1,c2,c3⟩:=hc
 have mk:Mh x.toList y.toList v j (o++(x.extract v i).reverse).toList.reverse:=by
  have:=m.stepX h.ix (v:=v) c1 (λp hp q hq=>by
   obtain ⟨t,ht1,ht2,hts,rfl⟩:=mem_td hq
   have h1:=c3 t ht1 ht2
   have h2:=topA h.iy (by omega) b4 p hp
   unfold pv at h1
   simp only [Bool.false_eq_true,if_false,Bool.not_eq_false',decide_eq_true_eq,Nat.zero_add] at h1
   rw [K_nk hts] at h1
   omega)
  rw [Array.toList_append,List.reverse_append,Array.toList_reverse,List.reverse_reverse,ext_vi];exact this
 have cy:∀p∈x.toList.take v,nk p<=nk (y[j-1]):=λp hp=>by
  obtain ⟨t,ht,hts,rfl⟩:=mem_tk hp
  have h1:=c2 t ht
  unfold pv at h1
  simp only [Bool.false_eq_true,if_false,Bool.not_eq_true',decide_eq_false_iff_not,Nat.zero_add] at h1
  rw [K_nk hts] at h1
  omega
 by_cases k0:i-v > 0
 ·rw [if_pos k0]
  by_cases q1:v=0
  ·rw [if_pos (by simpa using q1)]
   exact wpS_pure (q.out _ _ (h.e0 mk (.inl q1)))
  rw [if_neg (by simpa using q1)]
  exact wpS_hiB hk h q (by omega) (by omega) b2 b4 (by omega) mk cy
 ·rw [if_neg k0]
  have k00:v=i:=by omega
  subst k00
  exact wpS_hiB hk h q b1 b3 b2 b4 b5 m cy
noncomputable abbrev HiS1:=ForInStep (Option (Array Keyed) × Nat × Nat × Array Keyed × Nat × Nat)
noncomputable abbrev HiS2:=ForInStep (Option (Array Keyed) × Nat × Nat × Array Keyed × Nat)
noncomputable def hi1 (x y:Array Keyed) (g i j:Nat) (o:Array Keyed) (ca cb:Nat):StateT SortSt Sem HiS1:=do
 let a ← elem' y (j-1)
 let b ← elem' x (i-1)
 let z ← lt' a b
 match z with
 | some aw =>
  if aw then do
   let c ← elem' x (i-1)
   if i-1 == 0 then pure (.done (some (x.extract 0 (i-1)++y.extract 0 j++(o.push c).reverse),i-1,j,o.push c,ca+1,0))
   else if ca+1 ≥ g then pure (.done (none,i-1,j,o.push c,ca+1,0))
   else pure (.yield (none,i-1,j,o.push c,ca+1,0))
  else do
   let c ← elem' y (j-1)
   if j-1 == 1 then pure (.done (some (y.extract 0 (j-1)++x.extract 0 i++(o.push c).reverse),i,j-1,o.push c,0,cb+1))
   else if cb+1 ≥ g then pure (.done (none,i,j-1,o.push c,0,cb+1))
   else pure (.yield (none,i,j-1,o.push c,0,cb+1))
 | _=>pure (.done (some (x.extract 0 i++y.extract 0 j++o.reverse),i,j,o,ca,cb))
noncomputable def hi3 (x y:Array Keyed) (i j:Nat) (o:Array Keyed) (g ca cb:Nat):StateT SortSt Sem HiS :=
 if g > 1 then (do setG (g-1);hiA x y i j o (g-1) ca cb) else (do setG g;hiA x y i j o g ca cb)
noncomputable def hi2b (x y:Array Keyed) (tot i j:Nat) (o:Array Keyed) (g ca cb:Nat):StateT SortSt Sem HiS2:=do
 rule "list.sort.gallop"
 let c ← forIn [:tot] ((none,i,j,o,g+1,ca,cb):Option (Array Keyed) × Nat × Nat × Array Keyed × Nat × Nat × Nat) λ_ c=>hi3 x y c.2.1 c.2.2.1 c.2.2.2.1 c.2.2.2.2.1 c.2.2.2.2.2.1 c.2.2.2.2.2.2
 match c.1 with
 | some r=>pure (.done (some r,c.2.1,c.2.2.1,c.2.2.2.1,c.2.2.2.2.1))
 | none=>do
  setG (c.2.2.2.2.1+1)
  pure (.yield (none,c.2.1,c.2.2.1,c.2.2.2.1,c.2.2.2.2.1+1))
noncomputable def hi2 (x y:Array Keyed) (tot i j:Nat) (o:Array Keyed) (g:Nat):StateT SortSt Sem HiS2:=do
 let c ← forIn [:tot] ((none,i,j,o,0,0):Option (Array Keyed) × Nat × Nat × Array Keyed × Nat × Nat) λ_ c=>hi1 x y g c.2.1 c.2.2.1 c.2.2.2.1 c.2.2.2.2.1 c.2.2.2.2.2
 match c.1 with
 | some r=>pure (.done (some r,c.2.1,c.2.2.1,c.2.2.2.1,g))
 | none=>hi2b x y tot c.2.1 c.2.2.1 c.2.2.2.1 g c.2.2.2.2.1 c.2.2.2.2.2
theorem mHi_eq (x y:Array Keyed):∃u:StateT SortSt Sem (Array Keyed),mHi x y=(do
 rule "list.sort.merge-hi"
 let a ← elem' x (x.size-1)
 if x.size-1 == 0 then pure (x.extract 0 (x.size-1)++y.extract 0 y.size++(#[a]:Array Keyed).reverse)
 else if y.size == 1 then pure (y.extract 0 y.size++x.extract 0 (x.size-1)++(#[a]:Array Keyed).reverse)
 else do
  let st ← get
  let c ← forIn [:x.size+y.size] ((none,x.size-1,y.size,#[a],gallopOf st):Option (Array Keyed) × Nat × Nat × Array Keyed × Nat) λ_ c=>hi2 x y (x.size+y.size) c.2.1 c.2.2.1 c.2.2.2.1 c.2.2.2.2
  match c.1 with
  | some r=>pure r
  | none=>u):=by
 obtain ⟨u,e⟩:=mHi_do x y
 refine ⟨u,e.trans ?_⟩
 clear e
 dsimp only [hi2,hi2b,hi3,hiA,hiB,hiC,hi1]
 refine congrArg (bind _) (funext λ_=>?_)
 refine congrArg (bind _) (funext λa=>?_)
 refine congrArg (ite _ _) (congrArg (ite _ _) ?_)
 refine congrArg (bind _) (funext λb=>?_)
 refine congr (congrArg _ ?_) (funext λz=>?_)
 ·refine congrArg _ (funext λ_=>funext λc=>?_)
  refine congr (congrArg _ ?_) (funext λd=>?_)
  ·rfl
  ·match d.1 with
   | some r=>rfl
   | none =>
    refine congrArg (bind _) (funext λ_=>?_)
    refine congr (congrArg _ ?_) (funext λz=>?_)
    ·refine congrArg _ (funext λ_=>funext λc=>?_)
     rfl
    ·match z.1 with
     | some r=>rfl
     | none=>rfl
 ·match z.1 with
  | some r=>rfl
  | none=>rfl
theorem wpS_hi1 {Q:HiS1->SortSt->Prop} {i j g ca cb:Nat} {o:Array Keyed} (hk:kindOf st=kind) (h:Mr x y) (m:Mh x.toList y.toList i j o.toList.reverse) (b1:0<i) (b2:1<j) (b3:i<=x.size) (b4:j<=y.size) (qo:∀r c,Out x.toList y.toList r.toList->Q (.done (some r,c)) st)
  (qn:∀i' j' o' ca cb,Mh x.toList y.toList i' j' o'.toList.reverse->0<i'->1<j'->i'<=x.size->j'<=y.size->i'+j'+1<=i+j->Q (.done (none,i',j',o',ca,cb)) st/\Q (.yield (none,i',j',o',ca,cb)) st):wpS (model prog w) A E s (hi1 x y g i j o ca cb) Q st:=by
 have hj1:j-1<y.size:=by omega
 have hi1:i-1<x.size:=by omega
 refine wpS_bind (wpS_elem (Array.getElem?_eq_getElem hj1) (wpS_bind (wpS_elem (Array.getElem?_eq_getElem hi1) (wpS_bind (wpS_lt2 hk (h.ny _ (by simp)) (h.nx _ (by simp)) ?_)))))
 dsimp only
 by_cases hw:nk y[j-1] < nk x[i-1]
 ·simp only [hw,decide_true,if_true]
  refine wpS_bind (wpS_elem (Array.getElem?_eq_getElem hi1) ?_)
  have m2:=h.pushX b1 b3 m (λp hp=>by have:=topA h.iy (by omega) b4 p hp;omega)
  by_cases q1:i-1=0
  ·rw [if_pos (by simpa using q1)]
   exact wpS_pure (qo _ _ (h.e0 m2 (.inl q1)))
  ·rw [if_neg (by simpa using q1)]
   have z:=λca cb=>qn _ _ _ ca cb m2 (by omega) b2 (by omega) b4 (by omega)
   split
   ·exact wpS_pure (z _ _).1
   ·exact wpS_pure (z _ _).2
 ·simp only [hw,decide_false,Bool.false_eq_true,if_false]
  refine wpS_bind (wpS_elem (Array.getElem?_eq_getElem hj1) ?_)
  have m2:=h.pushY (by omega) b4 m (λp hp=>by have:=topA h.ix b1 b3 p hp;omega)
  by_cases q1:j-1=1
  ·rw [if_pos (by simpa using q1)]
   exact wpS_pure (qo _ _ (h.e1 m2 q1))
  ·rw [if_neg (by simpa using q1)]
   have z:=λca cb=>qn _ _ _ ca cb m2 b1 (by omega) b3 (by omega) (by omega)
   split
   ·exact wpS_pure (z _ _).1
   ·exact wpS_pure (z _ _).2
theorem wpS_hi2b {Q:HiS2->SortSt->Prop} {tot i j g ca cb n:Nat} {o:Array Keyed} (hk:kindOf st=kind) (h:Mr x y) (m:Mh x.toList y.toList i j o.toList.reverse) (b1:0<i) (b2:1<j) (b3:i<=x.size) (b4:j<=y.size) (b5:i+j+1<=n) (qo:∀r c st',Keep st st'->Out x.toList y.toList r.toList->Q (.done (some r,c)) st')
  (qn:∀i' j' o' g' st',Keep st st'->Mh x.toList y.toList i' j' o'.toList.reverse->0<i'->1<j'->i'<=x.size->j'<=y.size->i'+j'+1<=n->Q (.yield (none,i',j',o',g')) st'):wpS (model prog w) A E s (hi2b x y tot i j o g ca cb) Q st:=by
 refine wpS_bind (wpS_lift (wpAny_rule ⟨rfl,?_⟩))
 refine wpS_bind (wpS_mono (wpS_forRange (I:=λt3 c st3=>Keep st st3/\∃i' j' o g ca cb,c=(none,i',j',o,g,ca,cb)/\Mh x.toList y.toList i' j' o.toList.reverse/\0<i'/\1<j'/\i'<=x.size/\j'<=y.size/\i'+j'+1<=n)
  (Q:=λc st3=>Keep st st3/\((∃r c2,c=(some r,c2)/\Out x.toList y.toList r.toList)\/∃i' j' o g ca cb,c=(none,i',j',o,g,ca,cb)/\Mh x.toList y.toList i' j' o.toList.reverse/\0<i'/\1<j'/\i'<=x.size/\j'<=y.size/\i'+j'+1<=n)) ?step2 ?fin2 ⟨Keep.refl st,_,_,_,_,_,_,rfl,m,b1,b2,b3,b4,b5⟩) ?post2)
 case fin2 =>
  rintro c st3 ⟨kp3,i',j',o,g,ca,cb,rfl,m,b⟩
  exact ⟨kp3,.inr ⟨i',j',o,g,ca,cb,rfl,m,b⟩⟩
 case post2 =>
  rintro c st3 ⟨kp3,⟨r,c2,rfl,ho⟩ | ⟨i',j',o,g,ca,cb,rfl,m,b1,b2,b3,b4,b5⟩⟩
  ·exact wpS_pure (qo _ _ _ kp3 ho)
  ·exact wpS_bind (wpS_setG λst4 kp4=>wpS_pure (qn _ _ _ _ _ (kp3.trans kp4) m b1 b2 b3 b4 b5))
 case step2 =>
  rintro t3 c st3 _ ht3 ⟨kp3,i',j',o,g,ca,cb,rfl,m,b1,b2,b3,b4,b5⟩
  show wpS (model prog w) A E s (hi3 x y i' j' o g ca cb) _ st3
  unfold hi3
  by_cases hg:g > 1
  ·rw [if_pos hg]
   exact wpS_bind (wpS_setG λst4 kp4=>wpS_hiA (n:=n) ((kp3.trans kp4).k.trans hk) h ⟨λr c ho=>⟨kp3.trans kp4,.inl ⟨_,_,rfl,ho⟩⟩,λi j o g ca cb m h1 h2 h3 h4 h5=>⟨kp3.trans kp4,.inr ⟨_,_,_,_,_,_,rfl,m,h1,h2,h3,h4,h5⟩⟩,λi j o g ca cb m h1 h2 h3 h4 h5=>⟨kp3.trans kp4,_,_,_,_,_,_,rfl,m,h1,h2,h3,h4,h5⟩⟩ b1 b2 b3 b4 b5 m)
  ·rw [if_neg hg]
   exact wpS_bind (wpS_setG λst4 kp4=>wpS_hiA (n:=n) ((kp3.trans kp4).k.trans hk) h ⟨λr c ho=>⟨kp3.trans kp4,.inl ⟨_,_,rfl,ho⟩⟩,λi j o g ca cb m h1 h2 h3 h4 h5=>⟨kp3.trans kp4,.inr ⟨_,_,_,_,_,_,rfl,m,h1,h2,h3,h4,h5⟩⟩,λi j o g ca cb m h1 h2 h3 h4 h5=>⟨kp3.trans kp4,_,_,_,_,_,_,rfl,m,h1,h2,h3,h4,h5⟩⟩ b1 b2 b3 b4 b5 m)
theorem wpS_hi2 {Q:HiS2->SortSt->Prop} {tot i j g:Nat} {o:Array Keyed} (htot:1<=tot) (hk:kindOf st=kind) (h:Mr x y) (m:Mh x.toList y.toList i j o.toList.reverse) (a1:0<i) (a2:1<j) (a3:i<=x.size) (a4:j<=y.size) (qo:∀r c st',Keep st st'->Out x.toList y.toList r.toList->Q (.done (some r,c)) st')
  (qn:∀i' j' o' g' st',Keep st st'->Mh x.toList y.toList i' j' o'.toList.reverse->0<i'->1<j'->i'<=x.size->j'<=y.size->i'+j'+1<=i+j->Q (.yield (none,i',j',o',g')) st'):wpS (model prog w) A E s (hi2 x y tot i j o g) Q st:=by
 refine wpS_bind (wpS_mono (wpS_forRange (I:=λt2 c st2=>st2=st/\∃i' j' o ca cb,c=(none,i',j',o,ca,cb)/\Mh x.toList y.toList i' j' o.toList.reverse/\0<i'/\1<j'/\i'<=x.size/\j'<=y.size/\i'+j'+t2<=i+j)
  (Q:=λc st2=>st2=st/\((∃r c2,c=(some r,c2)/\Out x.toList y.toList r.toList)\/∃i' j' o ca cb,c=(none,i',j',o,ca,cb)/\Mh x.toList y.toList i' j' o.toList.reverse/\0<i'/\1<j'/\i'<=x.size/\j'<=y.size/\i'+j'+1<=i+j)) ?step1 ?fin1 ⟨rfl,_,_,_,_,_,rfl,m,a1,a2,a3,a4,by omega⟩) ?post1)
 case fin1 =>
  rintro c st2 ⟨rfl,i',j',o,ca,cb,rfl,m,b1,b2,b3,b4,b5⟩
  exact ⟨rfl,.inr ⟨i',j',o,ca,cb,rfl,m,b1,b2,b3,b4,by omega⟩⟩
 case step1 =>
  rintro t2 c st2 _ ht2 ⟨rfl,i',j',o,ca,cb,rfl,m,b1,b2,b3,b4,b5⟩
  show wpS (model prog w) A E s (hi1 x y g i' j' o ca cb) _ _
  refine wpS_hi1 hk h m b1 b2 b3 b4 (λr c ho=>⟨rfl,.inl ⟨_,_,rfl,ho⟩⟩) λi2 j2 o2 ca cb m2 c1 c2 c3 c4 c5=>⟨⟨rfl,.inr ⟨_,_,_,_,_,rfl,m2,c1,c2,c3,c4,by omega⟩⟩,rfl,_,_,_,_,_,rfl,m2,c1,c2,c3,c4,by omega⟩
 case post1 =>
  rintro c st2 ⟨rfl,⟨r,c2,rfl,ho⟩ | ⟨i',j',o,ca,cb,rfl,m,b1,b2,b3,b4,b5⟩⟩
  ·exact wpS_pure (qo _ _ _ (Keep.refl _) ho)
  ·exact wpS_hi2b hk h m b1 b2 b3 b4 b5 qo qn
theorem wpS_mHi {Q:Array Keyed->SortSt->Prop} (hk:kindOf st=kind) (h:Mr x y) (hQ:∀o st',Keep st st'->Out x.toList y.toList o.toList->Q o st'):wpS (model prog w) A E s (mHi x y) Q st:=by
 obtain ⟨u,e⟩:=mHi_eq x y
 rw [e]
 refine wpS_bind (wpS_lift (wpAny_rule ⟨rfl,?_⟩))
 have hx0:=h.x0
 have hy0:=h.y0
 refine wpS_bind (wpS_elem (Array.getElem?_eq_getElem (show x.size-1<x.size by omega)) ?_)
 have M1:Mh x.toList y.toList (x.size-1) y.size (#[x[x.size-1]]:Array Keyed).toList.reverse:=by
  have m0:Mh x.toList y.toList x.size y.size []:=⟨by simp,List.Pairwise.nil,λ_ _ _ hq=>nomatch hq⟩
  have:=m0.stepX h.ix (v:=x.size-1) (by omega) (λp hp q hq=>h.lst q (by
   have e:x.toList.take x.size=x.toList:=List.take_of_length_le (by simp)
   rw [e] at hq;exact hq) p (List.mem_of_mem_take hp))
  rw [one_last hx0 (Nat.le_refl _)] at this
  exact this
 by_cases h1:x.size-1=0
 ·rw [if_pos (by simpa using h1)]
  exact wpS_pure (hQ _ _ (Keep.refl st) (h.e0 M1 (.inl h1)))
 rw [if_neg (by simpa using h1)]
 by_cases h2:y.size=1
 ·rw [if_pos (by simpa using h2)]
  exact wpS_pure (hQ _ _ (Keep.refl st) (h.e1 M1 h2))
 rw [if_neg (by simpa using h2)]
 refine wpS_bind (wpS_get ?_)
 refine wpS_bind (wpS_mono (wpS_forRange (I:=λt c st'=>Keep st st'/\∃i j o g,c=(none,i,j,o,g)/\Mh x.toList y.toList i j o.toList.reverse/\0<i/\1<j/\i<=x.size/\j<=y.size/\i+j+t+1<=x.size+y.size)
  (Q:=λc st'=>Keep st st'/\∃r,c.1=some r/\Out x.toList y.toList r.toList) ?step ?fin ⟨Keep.refl st,_,_,_,_,rfl,M1,by omega,by omega,by omega,by omega,by omega⟩) ?post)
 case fin =>
  rintro c st' ⟨_,i,j,o,g,rfl,_,a1,a2,a3,a4,a5⟩
  omega
 case post =>
  rintro ⟨c1,c2⟩ st' ⟨kp,r,e,ho⟩
  cases e
  exact wpS_pure (hQ r st' kp ho)
 case step =>
  rintro t c st' _ ht ⟨kp,i,j,o,g,rfl,m,a1,a2,a3,a4,a5⟩
  show wpS (model prog w) A E s (hi2 x y (x.size+y.size) i j o g) _ _
  exact wpS_hi2 (by omega) (kp.k.trans hk) h m a1 a2 a3 a4 (λr c st2 kp2 ho=>⟨kp.trans kp2,_,rfl,ho⟩) λi2 j2 o2 g2 st2 kp2 m2 c1 c2 c3 c4 c5=>⟨kp.trans kp2,_,_,_,_,rfl,m2,c1,c2,c3,c4,by omega⟩
end
end Srt
namespace Srt
open PySem PyProof.Rows
open KN (nk isN kind)
variable [KN]
theorem mAt_do (i:Nat):∃u:StateT SortSt Sem Bool,mergeAt' i=(do
 let s ← get
 let (some (sa,na,pw),some (sb,nb,_)):=((pendingOf s)[i]?,(pendingOf s)[i+1]?) | u
 set (setPending s (((pendingOf s).setIfInBounds i (sa,na+nb,pw)).eraseIdxIfInBounds (i+1)))
 let some k ← leap false (← elem' (arrOf s) sb) (arrOf s) sa na 0 | return false
 let (sa,na):=(sa+k,na-k)
 if na == 0 then return true
 let some nb ← leap true (← elem' (arrOf s) (sa+na-1)) (arrOf s) sb nb (nb-1) | return false
 if nb == 0 then return true
 let x:=(arrOf s).extract sa sb
 let y:=(arrOf s).extract sb (sb+nb)
 let o ← if na<=nb then mLo x y else mHi x y
 modify λs=>setArr s (o.toList.zipIdx.foldl (λa (p,j)=>a.setIfInBounds (sa+j) p) (arrOf s))
 return (failedOf (← get)).isNone):=⟨_,rfl⟩
theorem lay_list:∀(o:List Keyed) (a:Array Keyed) (sa c:Nat),sa+c+o.length<=a.size->((o.zipIdx c).foldl (λa (p,j)=>a.setIfInBounds (sa+j) p) a).toList=a.toList.take (sa+c)++o++a.toList.drop (sa+c+o.length)
 | [],a,sa,c,h=>by simp
 | p::o,a,sa,c,h=>by
  rw [List.zipIdx_cons,List.foldl_cons]
  simp only [List.length_cons] at h
  have ih:=lay_list o (a.setIfInBounds (sa+c) p) sa (c+1) (by rw [Array.size_setIfInBounds];omega)
  rw [ih,Array.toList_setIfInBounds,← Nat.add_assoc]
  have h1:sa+c<a.toList.length:=by simp;(clear ih;omega)
  have e1:(a.toList.set (sa+c) p).take (sa+c+1)=a.toList.take (sa+c)++[p]:=by
   rw [List.take_add_one,List.take_set_of_le (Nat.le_refl _),List.getElem?_set_self h1];rfl
  have e2:(a.toList.set (sa+c) p).drop (sa+c+1+o.length)=a.toList.drop (sa+c+(o.length+1)):=by
   rw [List.drop_set_of_lt (by (clear e1 h1 ih h;omega))];congr 1;(clear e1 h1 ih h;omega)
  rw [e1,e2,List.length_cons];simp
section
variable {prog:Program} {w:World} {A:Around} {E:Value->Shared->Prop} {s:Shared} [KL prog w A E s] {st:SortSt}
structure Ok (st:SortSt):Prop where
 k:kindOf st=kind
 n:∀p∈(arrOf st).toList,isN p
 f:failedOf st=none
theorem wpS_set {st1:SortSt} {Q:PUnit->SortSt->Prop} (h:Q ⟨⟩ st1):wpS (model prog w) A E s (set st1:StateT SortSt Sem PUnit) Q st:=by
 unfold wpS;rw [StateT.run_set];exact wpAny_pure ⟨rfl,h⟩
theorem seg {a:Array Keyed} {P C T:List Keyed} (hl:a.toList=P++C++T) {t:Nat} (ht:t<C.length):a[P.length+t]? = some C[t]:=by
 rw [← Array.getElem?_toList,hl,List.append_assoc,List.getElem?_append_right (by (clear ht hl;omega)),List.getElem?_append_left (by (clear hl;omega))]
 rw [show P.length+t-P.length=t by (clear ht hl;omega),List.getElem?_eq_getElem ht]
theorem seg_K {a:Array Keyed} {P C T:List Keyed} (hl:a.toList=P++C++T) {t:Nat} (ht:t<C.length):K a (P.length+t)=nk C[t]:=by
 unfold K;rw [seg hl ht]
theorem inc_get {C:List Keyed} (h:Inc C) {i j:Nat} (hij:i<=j) (hj:j<C.length):nk (C[i]'(by (clear h;omega)))<=nk C[j]:=by
 by_cases e:i=j
 ·subst e;exact Int.le_refl _
 ·exact List.pairwise_iff_getElem.mp h i j (by (clear e h;omega)) hj (by (clear hj h;omega))
theorem wpS_mAt {i pw pw':Nat} {P C B S:List Keyed} {Q:Bool->SortSt->Prop} (ok:Ok st) (hp:(pendingOf st)[i]? = some (P.length,C.length,pw)) (hq:(pendingOf st)[i+1]? = some (P.length+C.length,B.length,pw'))
  (hl:(arrOf st).toList=P++C++B++S) (c0:0<C.length) (b0:0<B.length) (iC:Inc C) (iB:Inc B)
  (hQ:∀st' R,Ok st'->pendingOf st'=((pendingOf st).setIfInBounds i (P.length,C.length+B.length,pw)).eraseIdxIfInBounds (i+1)->(arrOf st').toList=P++R++S->R.Perm (C++B)->Inc R->Q true st'):wpS (model prog w) A E s (mergeAt' i) Q st:=by
 obtain ⟨u,e⟩:=mAt_do i
 rw [e]
 refine wpS_bind (wpS_get ?_)
 rw [hp,hq]
 dsimp only
 refine wpS_bind (wpS_set ?_)
 have hlC:(arrOf st).toList=P++C++(B++S):=by rw [hl];simp
 have hlB:(arrOf st).toList=(P++C)++B++S:=hl
 have lPC:(P++C).length=P.length+C.length:=List.length_append
 have hsz:(arrOf st).size=P.length+C.length+B.length+S.length:=by
  rw [← Array.length_toList,hl];simp;(clear lPC hlB hlC e hQ iB iC b0 c0 hl hq hp ok;omega)
 have kC:∀{t:Nat} (h:t<C.length),K (arrOf st) (P.length+t)=nk C[t]:=λh=>seg_K hlC h
 have kB:∀{t:Nat} (h:t<B.length),K (arrOf st) (P.length+C.length+t)=nk B[t]:=λ{t} h=>by rw [← lPC];exact seg_K hlB h
 have eB:(arrOf st)[P.length+C.length]? = some B[0]:=by
  have:=seg hlB b0
  rw [lPC,Nat.add_zero] at this;exact this
 have nC:∀p∈C,isN p:=λp hp=>ok.n p (by rw [hl];simp [hp])
 have nB:∀p∈B,isN p:=λp hp=>ok.n p (by rw [hl];simp [hp])
 have ok1:Ok (setPending st (((pendingOf st).setIfInBounds i (P.length,C.length+B.length,pw)).eraseIdxIfInBounds (i+1))):=⟨ok.k,ok.n,ok.f⟩
 refine wpS_bind (wpS_elem eB ?_)
 refine wpS_bind (wpS_leap (⟨ok1.k,ok.n,nB _ (List.getElem_mem _),λa b hab hb=>by rw [kC (by (clear ok1 nB nC eB kB kC hsz lPC hlB hlC e hQ iB iC c0 hl hq hp ok;omega)),kC hb];exact inc_get iC hab hb,by (clear ok1 nB nC eB kB kC lPC hlB hlC e hQ iB iC c0 hl hq hp ok;omega)⟩:Ask _ B[0] (arrOf st) P.length C.length) c0 λk hc=>?_)
 obtain ⟨k1,k2,k3⟩:=hc
 dsimp only
 have lowC:∀p∈C.take k,∀q∈B,nk p<=nk q:=λp hp q hq=>by
  obtain ⟨t,ht,e⟩:=List.getElem_of_mem hp
  rw [List.length_take] at ht
  rw [List.getElem_take] at e
  obtain ⟨v,hv,e2⟩:=List.getElem_of_mem hq
  have h1:=k2 t (by (clear e2 e hq hp k3 k2 k1 ok1 nB nC eB kB kC hsz lPC hlB hlC hQ iB iC c0 hl ok;omega))
  have h2:=inc_get iB (Nat.zero_le v) hv
  unfold pv at h1
  simp only [Bool.false_eq_true,if_false,Bool.not_eq_true',decide_eq_false_iff_not] at h1
  rw [kC (by (clear h1 h2 e2 e hq hp k3 k2 k1 ok1 nB nC eB kB kC hsz lPC hlB hlC hQ iB iC c0 hl ok;omega)),e] at h1
  rw [e2] at h2
  (clear e2 e ht hq hp k3 k2 k1 ok1 nB nC eB kB kC hsz lPC hlB hlC hQ iB iC c0 hl ok;omega)
 have hiC:∀p∈C.drop k,nk B[0]<=nk p:=λp hp=>by
  obtain ⟨t,ht,e⟩:=List.getElem_of_mem hp
  rw [List.length_drop] at ht
  rw [List.getElem_drop] at e
  have h1:=k3 (k+t) (by (clear e ht hp lowC k3 k2 k1 ok1 nB nC eB kB kC hsz lPC hlB hlC hQ iB iC c0 hl hq ok;omega)) (by (clear e hp lowC k3 k2 k1 ok1 nB nC eB kB kC hsz lPC hlB hlC hQ iB iC c0 hl hq ok;omega))
  unfold pv at h1
  simp only [Bool.false_eq_true,if_false,Bool.not_eq_false',decide_eq_true_eq] at h1
  rw [kC (by (clear h1 e hp lowC k3 k2 k1 ok1 nB nC eB kB kC hsz lPC hlB hlC hQ iB iC c0 hl hq ok;omega)),e] at h1
  (clear e ht hp lowC k3 k2 k1 ok1 nB nC eB kB kC hsz lPC hlB hlC hQ iB iC c0 hl hq ok;omega)
 have whole:(∀p∈C,∀q∈B,nk p<=nk q)->∀st',Ok st'->pendingOf st'=((pendingOf st).setIfInBounds i (P.length,C.length+B.length,pw)).eraseIdxIfInBounds (i+1)->arrOf st'=arrOf st->Q true st':=λhc st' o1 o2 o3 =>
  hQ st' (C++B) o1 o2 (by rw [o3,hl];simp) (List.Perm.refl _) (List.pairwise_append.mpr ⟨iC,iB,hc⟩)
 by_cases q1:C.length-k=0
 ·rw [if_pos (by simpa using q1)]
  refine wpS_pure (whole ?_ _ ok1 rfl rfl)
  have:C.take k=C:=List.take_of_length_le (by (clear whole hiC lowC k3 k2 k1 ok1 nB nC eB kB kC hsz lPC hlB hlC e hQ iB iC c0 hl hq hp ok;omega))
  rw [this] at lowC
  exact lowC
 rw [if_neg (by simpa using q1)]
 have hlast:P.length+k+(C.length-k)-1=P.length+(C.length-1):=by (clear q1 whole hiC lowC k3 k2 ok1 nB nC eB kB kC hsz lPC hlB hlC e hQ iB iC hl hq hp ok;omega)
 have eL:(arrOf st)[P.length+k+(C.length-k)-1]? = some (C[C.length-1]'(by (clear hlast q1 whole hiC lowC k3 k2 k1 ok1 nB nC eB kB kC hsz lPC hlB hlC e hQ iB iC hl hq hp ok;omega))):=by rw [hlast];exact seg hlC (by (clear hlast q1 whole hiC lowC k3 k2 k1 ok1 nB nC eB kB kC hsz lPC hlB hlC e hQ iB iC hl hq hp ok;omega))
 refine wpS_bind (wpS_elem eL ?_)
 refine wpS_bind (wpS_leap (⟨ok1.k,ok.n,nC _ (List.getElem_mem _),λa b hab hb=>by rw [kB (by (clear eL q1 whole hiC lowC k3 k2 k1 ok1 nB nC eB kB kC hsz hlB hlC e hQ iB iC hl hq hp ok;omega)),kB hb];exact inc_get iB hab hb,by (clear eL q1 whole hiC lowC k3 k2 k1 ok1 nB nC eB kB kC hlB hlC e hQ iB iC hl hq hp ok;omega)⟩:Ask _ (C[C.length-1]'(by (clear eL q1 whole hiC lowC k3 k2 k1 ok1 nB nC eB kB kC hsz hlB hlC e hQ iB iC hl hq hp ok;omega))) (arrOf st) (P.length+C.length) B.length) (by (clear eL q1 whole hiC lowC k3 k2 k1 ok1 nB nC eB kB kC hsz hlB hlC e hQ iB iC hl hq hp ok;omega)) λv hc=>?_)
 obtain ⟨v1,v2,v3⟩:=hc
 dsimp only
 have topC:∀p∈C,nk p<=nk (C[C.length-1]'(by (clear v3 v2 v1 eL q1 whole hiC lowC k3 k2 k1 ok1 nB nC eB kB kC hsz hlB hlC e hQ iB iC hl hq hp ok;omega))):=λp hp=>by
  obtain ⟨t,ht,e⟩:=List.getElem_of_mem hp
  have:=inc_get iC (show t<=C.length-1 by (clear e hp v3 v2 v1 eL q1 whole hiC lowC k3 k2 k1 ok1 nB nC eB kB kC hsz hlB hlC hQ iB iC hl hq ok;omega)) (by (clear e hp v3 v2 v1 eL q1 whole hiC lowC k3 k2 k1 ok1 nB nC eB kB kC hsz hlB hlC hQ iB iC hl hq ok;omega))
  rw [e] at this;exact this
 have hiB:∀q∈B.drop v,nk (C[C.length-1]'(by (clear topC v3 v2 v1 eL q1 whole hiC lowC k3 k2 k1 ok1 nB nC eB kB kC hsz hlB hlC e hQ iB iC hl hq hp ok;omega)))<=nk q:=λq hq=>by
  obtain ⟨t,ht,e⟩:=List.getElem_of_mem hq
  rw [List.length_drop] at ht
  rw [List.getElem_drop] at e
  have h1:=v3 (v+t) (by (clear e ht hq topC v3 v2 v1 eL q1 whole hiC lowC k3 k2 k1 ok1 nB nC eB kB kC hsz hlB hlC hQ iB iC hl hp ok;omega)) (by (clear e hq topC v3 v2 v1 eL q1 whole hiC lowC k3 k2 k1 ok1 nB nC eB kB kC hsz hlB hlC hQ iB iC hl hp ok;omega))
  unfold pv at h1
  simp only [if_true,decide_eq_false_iff_not] at h1
  rw [kB (by (clear h1 e hq topC v3 v2 v1 eL q1 whole hiC lowC k3 k2 k1 ok1 nB nC eB kB kC hsz hlB hlC hQ iB iC hl hp ok;omega)),e] at h1
  (clear e ht hq topC v3 v2 v1 eL q1 whole hiC lowC k3 k2 k1 ok1 nB nC eB kB kC hsz hlB hlC hQ iB iC hl hp ok;omega)
 have loB:∀q∈B.take v,nk q<=nk (C[C.length-1]'(by (clear hiB topC v3 v2 v1 eL q1 whole hiC lowC k3 k2 k1 ok1 nB nC eB kB kC hsz hlB hlC e hQ iB iC hl hq hp ok;omega))):=λq hq=>by
  obtain ⟨t,ht,e⟩:=List.getElem_of_mem hq
  rw [List.length_take] at ht
  rw [List.getElem_take] at e
  have h1:=v2 t (by (clear e hq hiB topC v3 v2 v1 eL q1 whole hiC lowC k3 k2 k1 ok1 nB nC eB kB kC hsz hlB hlC hQ iB iC hl hp ok;omega))
  unfold pv at h1
  simp only [if_true,decide_eq_true_eq] at h1
  rw [kB (by (clear h1 e hq hiB topC v3 v2 v1 eL q1 whole hiC lowC k3 k2 k1 ok1 nB nC eB kB kC hsz hlB hlC hQ iB iC hl hp ok;omega)),e] at h1
  (clear e ht hq hiB topC v3 v2 v1 eL q1 whole hiC lowC k3 k2 k1 ok1 nB nC eB kB kC hsz hlB hlC hQ iB iC hl hp ok;omega)
 by_cases q2:v=0
 ·rw [if_pos (by simpa using q2)]
  refine wpS_pure (whole (λp hp q hq=>?_) _ ok1 rfl rfl)
  have h1:=topC p hp
  have h2:=hiB q (by rw [q2];exact hq)
  (clear hq hp q2 loB hiB topC v3 v2 v1 eL q1 whole hiC lowC k3 k2 k1 ok1 nB nC eB kB kC hsz hlB hlC e hQ iB iC hl ok;omega)
 rw [if_neg (by simpa using q2)]
 have ex:((arrOf st).extract (P.length+k) (P.length+C.length)).toList=C.drop k:=by
  rw [ext_vi,List.drop_take,hlC,List.append_assoc,← List.drop_drop,List.drop_left,List.drop_append_of_le_length k1,show P.length+C.length-(P.length+k)=(C.drop k).length by rw [List.length_drop];(clear q2 loB hiB topC v3 v2 v1 eL q1 whole hiC lowC k3 k2 k1 ok1 nB nC eB kB kC hsz hlB hlC e hQ iB iC hl hq hp ok;omega),List.take_left]
 have ey:((arrOf st).extract (P.length+C.length) (P.length+C.length+v)).toList=B.take v:=by
  rw [ext_vi,List.drop_take,hlB,← lPC,List.append_assoc,List.drop_left,show (P++C).length+v-(P++C).length=v by (clear ex q2 loB hiB topC v3 v2 v1 eL q1 whole hiC lowC k3 k2 k1 ok1 nB nC eB kB kC hsz hlB hlC e hQ iB iC hl hq hp ok;omega),List.take_append_of_le_length v1]
 generalize hx:(arrOf st).extract (P.length+k) (P.length+C.length)=x at ex ⊢
 generalize hy:(arrOf st).extract (P.length+C.length) (P.length+C.length+v)=y at ey ⊢
 have zx:x.size=C.length-k:=by rw [← Array.length_toList,ex,List.length_drop]
 have zy:y.size=v:=by rw [← Array.length_toList,ey,List.length_take];(clear zx ey hy ex hx q2 loB hiB topC v3 v2 eL q1 whole hiC lowC k3 k2 k1 ok1 nB nC eB kB kC hsz hlB hlC e hQ iB iC hl hq hp ok;omega)
 have mr:Mr x y:=by
  refine ⟨λp hp=>nC p (by rw [ex] at hp;exact List.mem_of_mem_drop hp),λp hp=>nB p (by rw [ey] at hp;exact List.mem_of_mem_take hp),by rw [ex];exact iC.drop k,by rw [ey];exact iB.take v,by (clear zy ey hy ex hx q2 loB hiB topC v3 v2 v1 eL whole hiC lowC k3 k2 k1 ok1 nB nC eB kB kC hsz hlB hlC e hQ iB iC hl hq hp ok;omega),by (clear zx ey hy ex hx loB hiB topC v3 v2 v1 eL q1 whole hiC lowC k3 k2 k1 ok1 nB nC eB kB kC hsz hlB hlC e hQ iB iC hl hq hp ok;omega),λp hp q hq=>?_,λp hp q hq=>?_⟩
  ·rw [ey,List.take_take] at hp
   rw [ex] at hq
   have h1:=hiC q hq
   obtain ⟨t,ht,e⟩:=List.getElem_of_mem hp
   rw [List.length_take] at ht
   rw [List.getElem_take] at e
   have:t=0:=by (clear e h1 hq hp zy zx ey hy ex hx q2 loB hiB topC v3 v2 v1 eL q1 whole hiC lowC k3 k2 k1 ok1 nB nC eB kB kC hsz hlB hlC hQ iB iC hl ok;omega)
   subst this
   rw [← e];exact h1
  ·rw [ex] at hp
   rw [ey] at hq
   have h1:=loB q hq
   rw [List.drop_drop] at hp
   obtain ⟨t,ht,e⟩:=List.getElem_of_mem hp
   rw [List.length_drop] at ht
   rw [List.getElem_drop] at e
   have e3:k+(x.size-1)+t=C.length-1:=by (clear e h1 hq hp zy ey hy ex hx q2 loB hiB topC v3 v2 v1 eL q1 whole hiC lowC k3 k2 k1 ok1 nB nC eB kB kC hsz hlB hlC hQ iB iC hl ok;omega)
   have e4:nk p=nk (C[C.length-1]'(by (clear e3 e ht h1 hq hp zy zx ey hy ex hx q2 loB hiB topC v3 v2 v1 eL q1 whole hiC lowC k3 k2 k1 ok1 nB nC eB kB kC hsz hlB hlC hQ iB iC hl ok;omega))):=by rw [← e];congr 2
   (clear e hq hp zy zx ey hy ex hx q2 loB hiB topC v3 v2 v1 eL q1 whole hiC lowC k3 k2 ok1 nB nC eB kB kC hsz hlB hlC hQ iB iC hl ok;omega)
 have done:∀(o:Array Keyed) (st':SortSt),Keep (setPending st (((pendingOf st).setIfInBounds i (P.length,C.length+B.length,pw)).eraseIdxIfInBounds (i+1))) st'->Out x.toList y.toList o.toList ->
   wpS (model prog w) A E s (do
    modify λs=>setArr s (o.toList.zipIdx.foldl (λa (p,j)=>a.setIfInBounds (P.length+k+j) p) (arrOf s))
    return (failedOf (← get)).isNone:StateT SortSt Sem Bool) Q st':=λo st' kp ho=>by
  obtain ⟨hp,hi⟩:=ho
  rw [ex,ey] at hp
  have lo:o.toList.length=C.length-k+v:=by rw [hp.length_eq,List.length_append,List.length_drop,List.length_take];(clear hi hp kp mr zy zx ey hy ex hx q2 loB hiB topC v3 v2 eL q1 whole hiC lowC k3 k2 k1 ok1 nB nC eB kB kC hsz hlB hlC e hQ iB iC hl hq ok;omega)
  refine wpS_bind (wpS_modify ?_)
  refine wpS_bind (wpS_get ?_)
  have ea:arrOf st'=arrOf st:=kp.a
  have ef:failedOf st'=none:=kp.f.trans ok.f
  have el:(o.toList.zipIdx.foldl (λa (p,j)=>a.setIfInBounds (P.length+k+j) p) (arrOf st')).toList=P++(C.take k++o.toList++B.drop v)++S:=by
   rw [ea]
   have:=lay_list o.toList (arrOf st) (P.length+k) 0 (by rw [hsz,lo];(clear ef ea lo hi hp kp mr zy zx ey hy ex hx q2 loB hiB topC v3 v2 eL q1 whole hiC lowC k3 k2 k1 ok1 nB nC eB kB kC hsz hlB hlC e hQ iB iC hl hq ok;omega))
   rw [Nat.add_zero] at this
   rw [this,lo]
   have t1:(arrOf st).toList.take (P.length+k)=P++C.take k:=by
    rw [hlC,List.append_assoc,List.take_append,show P.length+k-P.length=k by (clear this ef ea lo hi hp kp mr zy zx ey hy ex hx q2 loB hiB topC v3 v2 v1 eL q1 whole hiC lowC k3 k2 k1 ok1 nB nC eB kB kC hsz hlB hlC e hQ iB iC hl hq ok;omega),List.take_of_length_le (by (clear this ef ea lo hi hp kp mr zy zx ey hy ex hx q2 loB hiB topC v3 v2 v1 eL q1 whole hiC lowC k3 k2 k1 ok1 nB nC eB kB kC hsz hlB hlC e hQ iB iC hl hq ok;omega)),List.take_append_of_le_length k1]
   have t2:(arrOf st).toList.drop (P.length+k+(C.length-k+v))=B.drop v++S:=by
    rw [hlB,show P.length+k+(C.length-k+v)=(P++C).length+v by rw [lPC];(clear t1 this ef ea lo hi hp kp mr zy zx ey hy ex hx q2 loB hiB topC v3 v2 v1 eL q1 whole hiC lowC k3 k2 k1 ok1 nB nC eB kB kC hsz hlB hlC e hQ iB iC hl hq ok;omega),List.append_assoc,← List.drop_drop,List.drop_left,List.drop_append_of_le_length v1]
   rw [t1,t2];simp
  show wpS _ _ _ _ (pure ((failedOf st').isNone)) _ _
  rw [ef]
  refine wpS_pure (hQ _ (C.take k++o.toList++B.drop v) ⟨kp.k.trans ok1.k,λp hp'=>?_,ef⟩ kp.p el ?_ ?_)
  ·have hp':p∈P++(C.take k++o.toList++B.drop v)++S:=by rw [← el];exact hp'
   refine ok.n p ?_
   rw [hl]
   simp only [List.mem_append] at hp' ⊢
   rcases hp' with (h | (h | h) | h) | h
   ·exact .inl (.inl (.inl h))
   ·exact .inl (.inl (.inr (List.mem_of_mem_take h)))
   ·rcases List.mem_append.mp (hp.mem_iff.mp h) with h | h
    ·exact .inl (.inl (.inr (List.mem_of_mem_drop h)))
    ·exact .inl (.inr (List.mem_of_mem_take h))
   ·exact .inl (.inr (List.mem_of_mem_drop h))
   ·exact .inr h
  ·refine ((hp.append_left _).append_right _).trans ?_
   rw [← List.append_assoc,List.take_append_drop,List.append_assoc,List.take_append_drop]
  ·refine List.pairwise_append.mpr ⟨List.pairwise_append.mpr ⟨iC.take k,hi,λp hp' q hq=>?_⟩,iB.drop v,λp hp' q hq=>?_⟩
   ·rcases List.mem_append.mp (hp.mem_iff.mp hq) with h | h
    ·exact iC.split k p hp' q h
    ·exact lowC p hp' q (List.mem_of_mem_take h)
   ·rcases List.mem_append.mp hp' with h | h
    ·exact lowC p h q (List.mem_of_mem_drop hq)
    ·rcases List.mem_append.mp (hp.mem_iff.mp h) with h | h
     ·have h1:=topC p (List.mem_of_mem_drop h)
      have h2:=hiB q hq
      (clear h hq hp' el ef ea lo hi hp kp mr zy zx ey hy ex hx q2 loB hiB topC v3 v2 v1 eL q1 whole hiC lowC k3 k2 k1 ok1 nB nC eB kB kC hsz hlB hlC e hQ iB iC hl ok;omega)
     ·exact iB.split v p h q hq
 by_cases hle:C.length-k<=v
 ·rw [if_pos hle]
  exact wpS_bind (wpS_mLo ok1.k mr λo st' kp ho=>done o st' kp ho)
 ·rw [if_neg hle]
  exact wpS_bind (wpS_mHi ok1.k mr λo st' kp ho=>done o st' kp ho)
end
end Srt
namespace Srt
open PySem PyProof.Rows
open KN (nk isN kind)
variable [KN]
structure SB (lo:Nat) (st0 st:SortSt):Prop where
 ok:Ok st
 perm:(arrOf st).Perm (arrOf st0)
 pend:pendingOf st=pendingOf st0
 pre:∀k,k<lo->(arrOf st)[k]? = (arrOf st0)[k]?
theorem SB.size {lo:Nat} {st0 st:SortSt} (h:SB lo st0 st):(arrOf st).size=(arrOf st0).size:=h.perm.size_eq
theorem SB.arr {lo:Nat} {st0 st:SortSt} (h:SB lo st0 st) {xs:Array Keyed} (hp:xs.Perm (arrOf st)) (hk:∀k,k<lo->xs[k]? = (arrOf st)[k]?):SB lo st0 (setArr st xs) :=
 ⟨⟨h.ok.k,λp hp'=>h.ok.n p ((Array.perm_iff_toList_perm.mp hp).mem_iff.mp hp'),h.ok.f⟩,hp.trans h.perm,h.pend,λk hk'=>(hk k hk').trans (h.pre k hk')⟩
noncomputable def SF (a:Array Keyed) (lo k:Nat):Prop:=∀i j,i<=j->j<k->K a (lo+i)<=K a (lo+j)
section
variable {prog:Program} {w:World} {A:Around} {E:Value->Shared->Prop} {s:Shared} [KL prog w A E s] {st st0:SortSt} {lo:Nat}
theorem wpS_at {i j:Nat} {Q:Option Bool->SortSt->Prop} (ok:Ok st) (hi:i<(arrOf st).size) (hj:j<(arrOf st).size) (h:Q (some (decide (K (arrOf st) i<K (arrOf st) j))) st):wpS (model prog w) A E s (ltAt' i j) Q st:=by
 rw [ltAt'_eq]
 refine wpS_bind (wpS_get ?_)
 refine wpS_bind (wpS_elem (Array.getElem?_eq_getElem hi) (wpS_bind (wpS_elem (Array.getElem?_eq_getElem hj) (wpS_lt2 ok.k (ok.n _ (by simp)) (ok.n _ (by simp)) ?_))))
 rw [K_nk hi,K_nk hj] at h
 exact h
theorem wpS_bin {n o:Nat} {Q:Bool->SortSt->Prop} (hB:SB lo st0 st) (hn:lo+n<=(arrOf st0).size) (ho:o<=n) (hs:SF (arrOf st) lo o) (h:∀st',SB lo st0 st'->SF (arrOf st') lo n->Q true st'):wpS (model prog w) A E s (binarySort' lo n o) Q st:=by
 rw [binarySort'_eq]
 refine wpS_bind (wpS_mono (wpS_forRange (I:=λk c st'=>c=(none,())/\SB lo st0 st'/\SF (arrOf st') lo (min k n)) (Q:=λc st'=>c=(none,())/\SB lo st0 st'/\SF (arrOf st') lo n) ?step ?fin ⟨rfl,hB,?init⟩) ?post)
 case post =>
  rintro c st' ⟨rfl,hB',hs'⟩
  exact wpS_pure (h st' hB' hs')
 case fin =>
  rintro c st' ⟨hc,hB',hs'⟩
  rw [show min (max (max o 1) n) n=n by (clear hs' hB' hc h hs ho hn hB;omega)] at hs'
  exact ⟨hc,hB',hs'⟩
 case init =>
  intro i j hij hj
  by_cases h1:o=0
  ·have:i=j:=by (clear h hs ho hn hB;omega)
   subst this;exact Int.le_refl _
  ·exact hs i j hij (by (clear hij h hs ho hn hB;omega))
 case step =>
  rintro k c st' hak hkn ⟨rfl,hB',hs'⟩
  have hsz:=hB'.size
  rw [show min k n=k by (clear hsz hs' hB' hak h hs ho hn hB;omega)] at hs'
  refine wpS_bind (wpS_mono (wpS_forRange (I:=λt c st2=>st2=st'/\∃l r,c=(none,l,r)/\l<=r/\r<=k/\r-l<=k-t/\(∀i,i<l->K (arrOf st') (lo+i)<=K (arrOf st') (lo+k))/\∀i,r<=i->i<k->K (arrOf st') (lo+k)<K (arrOf st') (lo+i))
   (Q:=λc st2=>st2=st'/\∃l,c=(none,l,l)/\l<=k/\(∀i,i<l->K (arrOf st') (lo+i)<=K (arrOf st') (lo+k))/\∀i,l<=i->i<k->K (arrOf st') (lo+k)<K (arrOf st') (lo+i)) ?js ?jf ⟨rfl,0,k,rfl,by (clear hsz hs' hB' hkn hak h hs ho hn hB;omega),by (clear hsz hs' hB' hkn hak h hs ho hn hB;omega),by (clear hsz hs' hB' hkn hak h hs ho hn hB;omega),λi hi=>by (clear hsz hs' hB' hkn hak h hs ho hn hB;omega),λi h1 h2=>by (clear hsz hs' hB' hkn hak h hs ho hn hB;omega)⟩) ?jp)
  case jf =>
   rintro c st2 ⟨rfl,l,r,rfl,b1,b2,b3,b4,b5⟩
   have:l=r:=by (clear b5 b4 b2 hsz hs' hB' hkn hak h hs ho hn hB;omega)
   subst this
   exact ⟨rfl,l,rfl,b2,b4,b5⟩
  case js =>
   rintro t c st2 _ ht ⟨rfl,l,r,rfl,b1,b2,b3,b4,b5⟩
   dsimp only
   by_cases hge:l ≥ r
   ·rw [if_pos hge]
    have:l=r:=by (clear b5 b4 b3 b2 hsz hs' hB' ht hkn hak h hs ho hn hB;omega)
    subst this
    exact wpS_pure ⟨rfl,l,rfl,b2,b4,b5⟩
   ·rw [if_neg hge]
    refine wpS_bind (wpS_at hB'.ok (by (clear hge b5 b4 b3 b2 b1 hs' hB' ht hak h hs ho hB;omega)) (by (clear hge b5 b4 b3 hs' hB' ht hak h hs ho hB;omega)) ?_)
    dsimp only
    by_cases hl:K (arrOf st2) (lo+k)<K (arrOf st2) (lo+(l+r) / 2)
    ·simp only [hl,decide_true,if_true]
     exact wpS_pure ⟨rfl,_,_,rfl,by (clear hl hge b5 b4 b3 b2 hsz hs' hB' ht hkn hak h hs ho hn hB;omega),by (clear hl hge b5 b4 b3 hsz hs' hB' ht hkn hak h hs ho hn hB;omega),by (clear hl hge b5 b4 b2 b1 hsz hs' hB' ht hkn hak h hs ho hn hB;omega),b4,λi h1 h2=>Int.lt_of_lt_of_le hl (hs' _ _ h1 h2)⟩
    ·simp only [hl,decide_false,Bool.false_eq_true,if_false]
     exact wpS_pure ⟨rfl,_,_,rfl,by (clear hl b5 b4 b3 b2 b1 hsz hs' hB' ht hkn hak h hs ho hn hB;omega),by (clear hl hge b5 b4 b3 b1 hsz hs' hB' ht hkn hak h hs ho hn hB;omega),by (clear hl hge b5 b4 b2 b1 hsz hs' hB' ht hkn hak h hs ho hn hB;omega),λi h1=>Int.le_trans (hs' i ((l+r) / 2) (by (clear hl hge b5 b4 b3 b2 b1 hsz hs' hB' ht hkn hak h hs ho hn hB;omega)) (by (clear h1 hl b5 b4 b3 b1 hsz hs' hB' ht hkn hak h hs ho hn hB;omega))) (Int.not_lt.mp hl),b5⟩
  case jp =>
   rintro c st2 ⟨rfl,l,rfl,b1,b2,b3⟩
   dsimp only
   rw [moveDown'_eq]
   have hks:lo+k<(arrOf st2).size:=by (clear b3 b2 b1 hs' hB' hak h hs ho hB;omega)
   refine wpS_bind (wpS_modify (wpS_pure ⟨rfl,hB'.arr (bubble_perm _ _ _) (λq hq=>?_),?_⟩))
   ·rw [getElem?_bubble hks _ (by (clear hq hks b3 b2 b1 hsz hs' hB' hkn hak h hs ho hn hB;omega)),if_neg (by (clear hks b3 b2 b1 hsz hs' hB' hkn hak h hs ho hn hB;omega)),if_neg (by (clear hks b3 b2 b1 hsz hs' hB' hkn hak h hs ho hn hB;omega))]
   ·rw [show min (k+1) n=k+1 by (clear hks b3 b2 b1 hsz hs' hB' hak h hs ho hn hB;omega)]
    intro i j hij hj
    show K (bubble (arrOf st2) (lo+k) (lo+k-(lo+l))) (lo+i)<=K (bubble (arrOf st2) (lo+k) (lo+k-(lo+l))) (lo+j)
    rw [K_bub hks (by (clear hj hij hks b3 b2 b1 hsz hs' hB' hkn hak h hs ho hn hB;omega)),K_bub hks (by (clear hj hij hks b3 b2 b1 hsz hs' hB' hkn hak h hs ho hn hB;omega)),show lo+k-(lo+k-(lo+l))=lo+l by (clear hj hij hks b3 b2 hsz hs' hB' hkn hak h hs ho hn hB;omega)]
    by_cases i1:i<l
    ·rw [if_neg (by (clear hj hij hks b3 b2 b1 hsz hs' hB' hkn hak h hs ho hn hB;omega)),if_neg (by (clear hj hij hks b3 b2 b1 hsz hs' hB' hkn hak h hs ho hn hB;omega))]
     by_cases j1:j<l
     ·rw [if_neg (by (clear i1 hj hij hks b3 b2 b1 hsz hs' hB' hkn hak h hs ho hn hB;omega)),if_neg (by (clear i1 hj hij hks b3 b2 b1 hsz hs' hB' hkn hak h hs ho hn hB;omega))];exact hs' i j hij (by (clear i1 hj hij hks b3 b2 hsz hs' hB' hkn hak h hs ho hn hB;omega))
     ·by_cases j2:j=l
      ·rw [if_pos (by (clear j1 i1 hj hij hks b3 b2 b1 hsz hs' hB' hkn hak h hs ho hn hB;omega))];exact b2 i i1
      ·rw [if_neg (by (clear j1 i1 hj hij hks b3 b2 b1 hsz hs' hB' hkn hak h hs ho hn hB;omega)),if_pos (by (clear i1 hij hks b3 b2 b1 hsz hs' hB' hkn hak h hs ho hn hB;omega)),show lo+j-1=lo+(j-1) by (clear j2 hj hij hks b3 b2 b1 hsz hs' hB' hkn hak h hs ho hn hB;omega)]
       exact hs' i (j-1) (by (clear j2 hj hij hks b3 b2 b1 hsz hs' hB' hkn hak h hs ho hn hB;omega)) (by (clear j2 j1 i1 hij hks b3 b2 b1 hsz hs' hB' hkn h hs ho hn hB;omega))
    ·by_cases i2:i=l
     ·rw [if_pos (by (clear i1 hj hij hks b3 b2 b1 hsz hs' hB' hkn hak h hs ho hn hB;omega))]
      by_cases j2:j=l
      ·rw [if_pos (by (clear i2 i1 hj hij hks b3 b2 b1 hsz hs' hB' hkn hak h hs ho hn hB;omega))];exact Int.le_refl _
      ·rw [if_neg (by (clear i2 i1 hj hij hks b3 b2 b1 hsz hs' hB' hkn hak h hs ho hn hB;omega)),if_pos (by (clear i2 hks b3 b2 b1 hsz hs' hB' hkn hak h hs ho hn hB;omega)),show lo+j-1=lo+(j-1) by (clear i2 hj hks b3 b2 b1 hsz hs' hB' hkn hak h hs ho hn hB;omega)]
       exact Int.le_of_lt (b3 _ (by (clear i2 hj hks b3 b2 b1 hsz hs' hB' hkn hak h hs ho hn hB;omega)) (by (clear j2 i2 i1 hij hks b3 b2 b1 hsz hs' hB' hkn h hs ho hn hB;omega)))
     ·rw [if_neg (by (clear i1 hj hij hks b3 b2 b1 hsz hs' hB' hkn hak h hs ho hn hB;omega)),if_pos (by (clear hks b3 b2 b1 hsz hs' hB' hkn hak h hs ho hn hB;omega)),if_neg (by (clear hj hks b3 b2 b1 hsz hs' hB' hkn hak h hs ho hn hB;omega)),if_pos (by (clear hks b3 b2 b1 hsz hs' hB' hkn hak h hs ho hn hB;omega)),show lo+j-1=lo+(j-1) by (clear hj hks b3 b2 b1 hsz hs' hB' hkn hak h hs ho hn hB;omega),show lo+i-1=lo+(i-1) by (clear hj hij hks b3 b2 b1 hsz hs' hB' hkn hak h hs ho hn hB;omega)]
      exact hs' _ _ (by (clear i2 i1 hj hks b3 b2 b1 hsz hs' hB' hkn hak h hs ho hn hB;omega)) (by (clear i2 i1 hij hks b3 b2 b1 hsz hs' hB' hkn h hs ho hn hB;omega))
end
end Srt
namespace Srt
open PySem PyProof.Rows
open KN (nk isN kind)
variable [KN]
section
variable {prog:Program} {w:World} {A:Around} {E:Value->Shared->Prop} {s:Shared} [KL prog w A E s] {st st0:SortSt} {lo:Nat}
noncomputable def NI (a:Array Keyed) (lo k:Nat):Prop:=∀i j,i<=j->j<k->K a (lo+j)<=K a (lo+i)
theorem SF.one {a:Array Keyed} {lo:Nat}:SF a lo 1:=λi j hij hj=>by
 have:i=j:=by omega
 subst this;exact Int.le_refl _
theorem SF.more {a:Array Keyed} {lo n:Nat} (h:SF a lo n) (h1:1<=n) (hn:¬K a (lo+n)<K a (lo+n-1)):SF a lo (n+1):=λi j hij hj=>by
 by_cases hjn:j<n
 ·exact h i j hij hjn
 ·have:j=n:=by (clear hij hn h1 h;omega)
  subst this
  by_cases hi:i=j
  ·subst hi;exact Int.le_refl _
  ·have:=h i (j-1) (by (clear hjn hj hn h1 h;omega)) (by (clear hi hjn hj hn h hij;omega))
   rw [show lo+(j-1)=lo+j-1 by (clear this hi hjn hj hn h hij;omega)] at this
   (clear hi hjn hj h1 h hij;omega)
theorem NI.more {a:Array Keyed} {lo n:Nat} (h:NI a lo n) (h1:1<=n) (hn:K a (lo+n)<=K a (lo+n-1)):NI a lo (n+1):=λi j hij hj=>by
 by_cases hjn:j<n
 ·exact h i j hij hjn
 ·have:j=n:=by (clear hij hn h1 h;omega)
  subst this
  by_cases hi:i=j
  ·subst hi;exact Int.le_refl _
  ·have:=h i (j-1) (by (clear hjn hj hn h1 h;omega)) (by (clear hi hjn hj hn h hij;omega))
   rw [show lo+(j-1)=lo+j-1 by (clear this hi hjn hj hn h hij;omega)] at this
   (clear hi hjn hj h1 h hij;omega)
theorem SB.mir {i j:Nat} (h:SB lo st0 st) (hi:lo<=i) (hj:j<=(arrOf st).size):SB lo st0 (setArr st (mirror (arrOf st) i j ((j-i) / 2))) :=
 h.arr (mirror_perm _ _ _ _) λk hk=>by rw [getElem?_mirror_all hj,if_neg (by (clear hj h;omega))]
theorem wpS_rev {i j:Nat} {Q:Unit->SortSt->Prop} (h:Q () (setArr st (mirror (arrOf st) i j ((j-i) / 2)))):wpS (model prog w) A E s (reverseSlice' i j) Q st:=by
 rw [reverseSlice'_eq];exact wpS_modify h
theorem wpS_asc {a nrem:Nat} {Q:Option (Option Nat) × Nat->SortSt->Prop} (hB:SB lo st0 st) (hn:lo+nrem<=(arrOf st0).size) (ha:1<=a) (han:a<=nrem) (hs:SF (arrOf st) lo a)
  (h:∀n,a<=n->n<=nrem->SF (arrOf st) lo n->(n=nrem\/K (arrOf st) (lo+n)<K (arrOf st) (lo+n-1))->Q (none,n) st) :
  wpS (model prog w) A E s (forIn [a:nrem] ((none,a):Option (Option Nat) × Nat) λ_ c=>do
   let x ← ltAt' (lo+c.2) (lo+c.2-1)
   match x with
   | some m=>if m=true then pure (ForInStep.done (none,c.2)) else pure (ForInStep.yield (none,c.2+1))
   | _=>pure (ForInStep.done (some none,c.2))) Q st:=by
 have hsz:=hB.size
 refine wpS_forRange (I:=λx c st'=>st'=st/\c=(none,x)/\SF (arrOf st) lo x) ?step ?fin ⟨rfl,rfl,hs⟩
 case fin =>
  rintro c st' ⟨rfl,rfl,hs'⟩
  rw [show max a nrem=nrem by omega] at hs' ⊢
  exact h nrem han (Nat.le_refl _) hs' (.inl rfl)
 case step =>
  rintro x c st' hax hxn ⟨rfl,rfl,hs'⟩
  dsimp only
  refine wpS_bind (wpS_at hB.ok (by (clear hs' h hs hB hax han ha;omega)) (by (clear hs' h hs hB hax han ha;omega)) ?_)
  by_cases hl:K (arrOf st') (lo+x)<K (arrOf st') (lo+x-1)
  ·simp only [hl,decide_true,if_true]
   exact wpS_pure (h x hax (by (clear hl hs' hsz h hs hB hax han ha hn;omega)) hs' (.inr hl))
  ·simp only [hl,decide_false,Bool.false_eq_true,if_false]
   exact wpS_pure ⟨rfl,rfl,hs'.more (by (clear hl hs' hsz h hs hB hxn han hn;omega)) hl⟩
theorem mir_K {xs:Array Keyed} {i j:Nat} (hj:j<=xs.size) (k:Nat):K (mirror xs i j ((j-i) / 2)) k=if i<=k/\k<j then K xs (i+j-1-k) else K xs k:=K_mir hj k
theorem mir_same {xs:Array Keyed} {i j:Nat} (hj:j<=xs.size) (he:∀k,i<=k->k<j->K xs k=K xs (j-1)) (k:Nat):K (mirror xs i j ((j-i) / 2)) k=K xs k:=K_mir_same hj he k
theorem wpS_run {nrem:Nat} {Q:Option Nat->SortSt->Prop} (hB:SB lo st0 st) (hn:lo+nrem<=(arrOf st0).size) (h1:1<=nrem)
  (h:∀m st',SB lo st0 st'->1<=m->m<=nrem->SF (arrOf st') lo m->Q (some m) st'):wpS (model prog w) A E s (countRun' lo nrem) Q st:=by
 rw [countRun'_eq]
 dsimp only
 have hsz:=hB.size
 refine wpS_bind (wpS_asc hB hn (Nat.le_refl 1) h1 SF.one λn n1 n2 n3 n4=>?_)
 dsimp only
 by_cases q1:n=nrem
 ·rw [if_pos (by simpa using q1)]
  exact wpS_pure (h n st hB n1 n2 n3)
 rw [if_neg (by simpa using q1)]
 have hlt:=n4.resolve_left q1
 refine' (λ(fin:∀st1,SB lo st0 st1->NI (arrOf st1) lo (n+1)->wpS (model prog w) A E s _ Q st1)=>?main) ?later
 case main =>
  by_cases q2:n > 1
  ·rw [if_pos q2]
   refine wpS_bind (wpS_at hB.ok (by (clear fin q2 hlt q1 n4 n3 n2 n1 h hB;omega)) (by (clear fin q2 hlt q1 n4 n3 n1 h hB;omega)) ?_)
   dsimp only
   by_cases q3:K (arrOf st) lo<K (arrOf st) (lo+n-1)
   ·simp only [q3,decide_true,if_true]
    exact wpS_pure (h n st hB n1 n2 n3)
   simp only [q3,decide_false,Bool.false_eq_true,if_false]
   have hall:∀k,lo<=k->k<lo+n->K (arrOf st) k=K (arrOf st) (lo+n-1):=λk a b=>by
    have a1:=n3 0 (k-lo) (by (clear fin b a q3 q2 hlt q1 n4 n3 n2 n1 hsz h h1 hn hB;omega)) (by (clear fin a q3 q2 hlt q1 n4 n3 n2 hsz h h1 hn hB;omega))
    have a2:=n3 (k-lo) (n-1) (by (clear fin a1 a q3 q2 hlt q1 n4 n3 n2 n1 hsz h h1 hn hB;omega)) (by (clear fin a1 b a q3 q2 hlt q1 n4 n3 n2 hsz h h1 hn hB;omega))
    rw [Nat.add_zero,show lo+(k-lo)=k by (clear fin a2 a1 b q3 q2 hlt q1 n4 n3 n2 n1 hsz h h1 hn hB;omega)] at a1
    rw [show lo+(k-lo)=k by (clear fin a2 a1 b q3 q2 hlt q1 n4 n3 n2 n1 hsz h h1 hn hB;omega),show lo+(n-1)=lo+n-1 by (clear fin a2 a1 b a q3 q2 hlt q1 n4 n3 n2 hsz h h1 hn hB;omega)] at a2
    (clear fin b a q2 hlt q1 n4 n3 n2 n1 hsz h h1 hn hB;omega)
   refine wpS_bind (wpS_rev ?_)
   have hB1:=hB.mir (i:=lo) (j:=lo+n) (Nat.le_refl _) (by (clear fin hall q3 q2 hlt q1 n4 n3 n1 h h1 hB;omega))
   have hN1:NI (arrOf (setArr st (mirror (arrOf st) lo (lo+n) ((lo+n-lo) / 2)))) lo (n+1):=by
    intro i j hij hj
    show K (mirror (arrOf st) lo (lo+n) ((lo+n-lo) / 2)) (lo+j)<=K (mirror (arrOf st) lo (lo+n) ((lo+n-lo) / 2)) (lo+i)
    rw [mir_same (by (clear fin hj hij hB1 hall q3 q2 hlt q1 n4 n3 n1 h h1 hB;omega)) hall,mir_same (by (clear fin hj hij hB1 hall q3 q2 hlt q1 n4 n3 n1 h h1 hB;omega)) hall]
    by_cases hjn:j<n
    ·rw [hall _ (by (clear fin hjn hj hij hB1 hall q3 q2 hlt q1 n4 n3 n2 n1 hsz h h1 hn hB;omega)) (by (clear fin hj hij hB1 hall q3 q2 hlt q1 n4 n3 n2 n1 hsz h h1 hn hB;omega)),hall (lo+i) (by (clear fin hjn hj hij hB1 hall q3 q2 hlt q1 n4 n3 n2 n1 hsz h h1 hn hB;omega)) (by (clear fin hj hB1 hall q3 q2 hlt q1 n4 n3 n2 n1 hsz h h1 hn hB;omega))];exact Int.le_refl _
    ·have:j=n:=by (clear fin hij hB1 hall q3 q2 hlt q1 n4 n3 n2 n1 hsz h h1 hn hB;omega)
     subst this
     by_cases hi:i=j
     ·subst hi;exact Int.le_refl _
     ·rw [hall (lo+i) (by (clear fin hi hjn hj hB1 hall q3 q2 hlt q1 n4 n3 n2 n1 hij hsz h h1 hn hB;omega)) (by (clear fin hjn hj hB1 hall q3 q2 hlt q1 n4 n3 n2 n1 hsz h h1 hn hB;omega))];exact Int.le_of_lt hlt
   exact fin _ hB1 hN1
  ·rw [if_neg q2]
   have hn1:n=1:=by (clear fin hlt q1 n4 n3 n2 hsz h h1 hn hB;omega)
   have hB1:=hB
   have hN1:NI (arrOf st) lo (n+1):=NI.more (λi j hij hj=>by
    have:i=j:=by (clear fin hB1 hn1 hlt q1 n4 n3 n2 n1 hsz h h1 hn hB;omega)
    subst this;exact Int.le_refl _) (by (clear fin hB1 hn1 q2 hlt q1 n4 n3 n2 hsz h h1 hn hB;omega)) (Int.le_of_lt hlt)
   exact fin _ hB1 hN1
 case later =>
  intro st1 hB1 hN1
  clear hB n3 n4 hlt hsz
  have hsz1:=hB1.size
  refine wpS_bind (wpS_lift (wpAny_rule ⟨rfl,?_⟩))
  refine wpS_bind (wpS_mono (wpS_forRange (I:=λx c st'=>∃q,c=(none,x,q)/\SB lo st0 st'/\NI (arrOf st') lo x/\q+1<=x/\∀i,lo+x-(q+1)<=i->i<lo+x->K (arrOf st') i=K (arrOf st') (lo+x-1))
   (Q:=λc st'=>∃x q,c=(none,x,q)/\n+1<=x/\x<=nrem/\SB lo st0 st'/\NI (arrOf st') lo x/\q+1<=x/\∀i,lo+x-(q+1)<=i->i<lo+x->K (arrOf st') i=K (arrOf st') (lo+x-1)) ?step ?fin ⟨0,rfl,hB1,hN1,by omega,λi a b=>by congr 1;omega⟩) ?post)
  case fin =>
   rintro c st' ⟨q,rfl,b1,b2,b3,b4⟩
   rw [show max (n+1) nrem=nrem by omega] at *
   exact ⟨nrem,q,rfl,by omega,by omega,b1,b2,b3,b4⟩
  case step =>
   rintro x c st' hx1 hx2 ⟨q,rfl,b1,b2,b3,b4⟩
   dsimp only
   have hz:=b1.size
   refine wpS_bind (wpS_at b1.ok (by omega) (by omega) ?_)
   dsimp only
   by_cases hl:K (arrOf st') (lo+x)<K (arrOf st') (lo+x-1)
   ·simp only [hl,decide_true,if_true]
    by_cases hq:q > 0
    ·rw [if_pos hq]
     refine wpS_bind (wpS_rev (wpS_pure ⟨0,rfl,b1.mir (by omega) (by omega),λi j hij hj=>?_,by omega,λi a b=>by congr 1;omega⟩))
     show K (mirror (arrOf st') _ _ _) _<=K (mirror (arrOf st') _ _ _) _
     rw [mir_same (by omega) (λk a b=>b4 k (by omega) b),mir_same (by omega) (λk a b=>b4 k (by omega) b)]
     exact b2.more (by omega) (Int.le_of_lt hl) i j hij hj
    ·rw [if_neg hq]
     exact wpS_pure ⟨0,rfl,b1,b2.more (by omega) (Int.le_of_lt hl),by omega,λi a b=>by congr 1;omega⟩
   ·simp only [hl,decide_false,Bool.false_eq_true,if_false]
    refine wpS_bind (wpS_at b1.ok (by omega) (by omega) ?_)
    dsimp only
    by_cases hl2:K (arrOf st') (lo+x-1)<K (arrOf st') (lo+x)
    ·simp only [hl2,decide_true,if_true]
     exact wpS_pure ⟨x,q,rfl,by omega,by omega,b1,b2,b3,b4⟩
    ·simp only [hl2,decide_false,Bool.false_eq_true,if_false]
     have he:K (arrOf st') (lo+x)=K (arrOf st') (lo+x-1):=by omega
     refine wpS_pure ⟨q+1,rfl,b1,b2.more (by omega) (by omega),by omega,λi a b=>?_⟩
     rw [show lo+(x+1)-1=lo+x by omega]
     by_cases hi:i=lo+x
     ·rw [hi]
     ·rw [he];exact b4 i (by omega) (by omega)
  case post =>
   rintro c st' ⟨x,q,rfl,c1,c2,b1,b2,b3,b4⟩
   dsimp only
   have hz:=b1.size
   by_cases hq:q > 0
   rw [if_pos hq]
   refine wpS_bind (wpS_rev ?_)
   have b1':=b1.mir (i:=lo+x-(q+1)) (j:=lo+x) (by omega) (by omega)
   have b2':NI (arrOf (setArr st' (mirror (arrOf st') (lo+x-(q+1)) (lo+x) ((lo+x-(lo+x-(q+1))) / 2)))) lo x:=λi j hij hj=>by
    show K (mirror (arrOf st') _ _ _) _<=K (mirror (arrOf st') _ _ _) _
    rw [mir_same (by omega) b4,mir_same (by omega) b4]
    exact b2 i j hij hj
   generalize setArr st' (mirror (arrOf st') (lo+x-(q+1)) (lo+x) ((lo+x-(lo+x-(q+1))) / 2))=st2 at b1' b2' ⊢
   rotate_left
   rw [if_neg hq]
   have b1':=b1
   have b2':=b2
   clear b1 b2 b4 hz
   generalize st'=st2 at b1' b2' ⊢
   all_goals
    have hz2:=b1'.size
    refine wpS_bind (wpS_rev ?_)
    have b3':=b1'.mir (i:=lo) (j:=lo+x) (Nat.le_refl _) (by omega)
    refine wpS_bind (wpS_asc b3' hn (by omega) c2 (λi j hij hj=>?_) λm m1 m2 m3 _=>?_)
    ·show K (mirror (arrOf st2) lo (lo+x) _) _<=K (mirror (arrOf st2) lo (lo+x) _) _
     rw [mir_K (by omega),mir_K (by omega),if_pos (by omega),if_pos (by omega),show lo+(lo+x)-1-(lo+i)=lo+(x-1-i) by omega,show lo+(lo+x)-1-(lo+j)=lo+(x-1-j) by omega]
     exact b2' _ _ (by omega) (by omega)
    ·exact wpS_pure (h m _ b3' (by omega) m2 m3)
end
end Srt
namespace Srt
open PySem PyProof.Rows
open KN (nk isN kind)
variable [KN]
noncomputable def Pd:Nat->List (List Keyed)->List (Nat × Nat × Nat)->Prop
 | _,[],[]=>True
 | o,R::rs,(a,n,_)::ps=>a=o/\n=R.length/\Pd (o+R.length) rs ps
 | _,_,_=>False
theorem Pd.len:∀{o:Nat} {rs:List (List Keyed)} {ps:List (Nat × Nat × Nat)},Pd o rs ps->ps.length=rs.length
 | _,[],[],_=>rfl
 | _,R::rs,(a,n,w)::ps,h=>by rw [List.length_cons,List.length_cons,Pd.len h.2.2]
 | _,[],_::_,h=>h.elim
 | _,_::_,[],h=>h.elim
theorem Pd.merge:∀{o:Nat} {rs1:List (List Keyed)} {C B:List Keyed} {rs2:List (List Keyed)} {ps:List (Nat × Nat × Nat)},Pd o (rs1++C::B::rs2) ps ->
  ∃pw pw',ps[rs1.length]? = some (o+rs1.flatten.length,C.length,pw)/\ps[rs1.length+1]? = some (o+rs1.flatten.length+C.length,B.length,pw')/\∀R:List Keyed,R.length=C.length+B.length->Pd o (rs1++R::rs2) ((ps.set rs1.length (o+rs1.flatten.length,C.length+B.length,pw)).eraseIdx (rs1.length+1))
 | o,[],C,B,rs2,(a,n,w)::(a',n',w')::ps,h=>by
  obtain ⟨rfl,rfl,rfl,rfl,h⟩:=h
  refine ⟨w,w',by simp,by simp,λR hR=>?_⟩
  exact ⟨by simp,by rw [hR],by rw [hR,← Nat.add_assoc];exact h⟩
 | o,D::rs1,C,B,rs2,(a,n,w)::ps,h=>by
  obtain ⟨rfl,rfl,h⟩:=h
  obtain ⟨pw,pw',h1,h2,h3⟩:=Pd.merge h
  have e:a+(D::rs1).flatten.length=a+D.length+rs1.flatten.length:=by simp;(clear h3 h2 h1 h;omega)
  refine ⟨pw,pw',?_,?_,λR hR=>⟨rfl,rfl,?_⟩⟩
  ·rw [e];exact h1
  ·rw [e];exact h2
  ·rw [e];exact h3 R hR
 | _,[],_,_,_,[],h=>h.elim
 | _,[],_,_,_,[_],h=>by obtain ⟨_,_,h⟩:=h;exact h.elim
 | _,_::_,_,_,_,[],h=>h.elim
theorem Pd.snoc:∀{o:Nat} {rs:List (List Keyed)} {R:List Keyed} {ps:List (Nat × Nat × Nat)},Pd o rs ps->Pd o (rs++[R]) (ps++[(o+rs.flatten.length,R.length,0)])
 | o,[],R,[],_=>⟨by simp,rfl,trivial⟩
 | o,D::rs,R,(a,n,w)::ps,h=>by
  obtain ⟨rfl,rfl,h⟩:=h
  refine ⟨rfl,rfl,?_⟩
  have:=Pd.snoc (R:=R) h
  rw [show a+(D::rs).flatten.length=a+D.length+rs.flatten.length by simp;(clear this h;omega)]
  exact this
 | _,[],_,_::_,h=>h.elim
 | _,_::_,_,[],h=>h.elim
theorem Pd.modify {o:Nat} {rs:List (List Keyed)} {pw:Nat}:∀{o:Nat} {rs:List (List Keyed)} {ps:List (Nat × Nat × Nat)} (i:Nat),Pd o rs ps->Pd o rs (ps.modify i λ(a,n,_)=>(a,n,pw))
 | o,[],[],i,_=>by simp;trivial
 | o,R::rs,(a,n,w)::ps,0,h=>h
 | o,R::rs,(a,n,w)::ps,i+1,h=>⟨h.1,h.2.1,Pd.modify (o:=o) (rs:=rs) i h.2.2⟩
 | _,[],_::_,_,h=>h.elim
 | _,_::_,[],_,h=>h.elim
structure RI (a₀:Array Keyed) (st:SortSt) (runs:List (List Keyed)) (T:List Keyed):Prop where
 ok:Ok st
 perm:(arrOf st).Perm a₀
 lst:(arrOf st).toList=runs.flatten++T
 pd:Pd 0 runs (pendingOf st).toList
 inc:∀R∈runs,Inc R/\0<R.length
section
variable {prog:Program} {w:World} {A:Around} {E:Value->Shared->Prop} {s:Shared} [KL prog w A E s] {st:SortSt} {a₀:Array Keyed} {runs:List (List Keyed)} {T:List Keyed}
theorem RI.psize (h:RI a₀ st runs T):(pendingOf st).size=runs.length:=by rw [← Array.length_toList];exact h.pd.len
theorem RI.alen (h:RI a₀ st runs T):runs.flatten.length+T.length=a₀.size:=by
 have:=congrArg List.length h.lst
 rw [List.length_append,Array.length_toList,h.perm.size_eq] at this
 (clear h;omega)
theorem wpS_mAtR {i:Nat} {Q:Bool->SortSt->Prop} (h:RI a₀ st runs T) (hi:i+1<runs.length) (hQ:∀st' runs',RI a₀ st' runs' T->runs'.length+1=runs.length->Q true st'):wpS (model prog w) A E s (mergeAt' i) Q st:=by
 obtain ⟨rs1,C,B,rs2,rfl,rfl⟩:∃rs1 C B rs2,runs=rs1++C::B::rs2/\rs1.length=i:=by
  refine ⟨runs.take i,runs[i],runs[i+1],runs.drop (i+2),?_,by rw [List.length_take];(clear hQ h;omega)⟩
  rw [← List.drop_eq_getElem_cons,← List.drop_eq_getElem_cons,List.take_append_drop]
 obtain ⟨pw,pw',h1,h2,h3⟩:=Pd.merge h.pd
 rw [Nat.zero_add] at h1 h2 h3
 have iC:=h.inc C (by simp)
 have iB:=h.inc B (by simp)
 refine wpS_mAt (P:=rs1.flatten) (C:=C) (B:=B) (S:=rs2.flatten++T) (pw:=pw) (pw':=pw') h.ok (by rw [← Array.getElem?_toList];exact h1) (by rw [← Array.getElem?_toList];exact h2) (by rw [h.lst];simp) iC.2 iB.2 iC.1 iB.1 λst' R o1 o2 o3 o4 o5=>?_
 have lR:R.length=C.length+B.length:=by rw [o4.length_eq,List.length_append]
 refine hQ st' (rs1++R::rs2) ⟨o1,?_,by rw [o3];simp,?_,λD hD=>?_⟩ (by simp;(clear lR o5 o4 o3 o2 o1 iB iC h3 h2 h1 hi hQ h;omega))
 ·refine Array.perm_iff_toList_perm.mpr ?_
  refine List.Perm.trans ?_ (Array.perm_iff_toList_perm.mp h.perm)
  rw [o3,h.lst]
  simp only [List.flatten_append,List.flatten_cons,List.append_assoc]
  refine List.Perm.append_left _ ?_
  rw [← List.append_assoc C]
  exact List.Perm.append_right _ o4
 ·rw [o2]
  have:=h3 R lR
  rw [Array.toList_eraseIdxIfInBounds,Array.toList_setIfInBounds]
  exact this
 ·simp only [List.mem_append,List.mem_cons] at hD
  rcases hD with hD | rfl | hD
  ·exact h.inc D (by simp [hD])
  ·exact ⟨o5,by (clear o5 o4 o3 o2 o1 iB h3 h2 h1 hi hQ h;omega)⟩
  ·exact h.inc D (by simp [hD])
theorem RI.cut {st2:SortSt} {n:Nat} (h:RI a₀ st runs T) (b:SB runs.flatten.length st st2) (hs:SF (arrOf st2) runs.flatten.length n) (hn:runs.flatten.length+n<=a₀.size) (h0:0<n) :
  ∃R T',R.length=n/\Inc R/\RI a₀ st2 runs (R++T'):=by
 have hsz:(arrOf st2).size=a₀.size:=b.size.trans h.perm.size_eq
 have hz2:(arrOf st2).toList.length=a₀.size:=by rw [Array.length_toList];exact hsz
 refine ⟨((arrOf st2).toList.drop runs.flatten.length).take n,(arrOf st2).toList.drop (runs.flatten.length+n),?_,?_,b.ok,b.perm.trans h.perm,?_,by rw [b.pend];exact h.pd,h.inc⟩
 ·rw [List.length_take,List.length_drop];(clear hsz h0 hs b h;omega)
 ·refine List.pairwise_iff_getElem.mpr λi j hi hj hij=>?_
  rw [List.length_take,List.length_drop] at hi hj
  have:=hs i j (by (clear hj hi hz2 hsz h0 hn hs b h;omega)) (by (clear hij hi hz2 hsz h0 hn hs b h;omega))
  rw [K_nk (by (clear this hij hj hz2 h0 hs b h;omega)),K_nk (by (clear this hij h0 hs b h;omega))] at this
  simpa [List.getElem_take,List.getElem_drop] using this
 ·have e1:(arrOf st2).toList.take runs.flatten.length=runs.flatten:=by
   have:(arrOf st2).toList.take runs.flatten.length=(arrOf st).toList.take runs.flatten.length:=by
    apply List.ext_getElem?
    intro k
    by_cases hk:k<runs.flatten.length
    ·rw [List.getElem?_take_of_lt hk,List.getElem?_take_of_lt hk,Array.getElem?_toList,Array.getElem?_toList]
     exact b.pre k hk
    ·rw [List.getElem?_eq_none (by rw [List.length_take];(clear hz2 hsz h0 hn hs b h;omega)),List.getElem?_eq_none (by rw [List.length_take];(clear hz2 hsz h0 hn hs b h;omega))]
   rw [this,h.lst,List.take_left]
  have e2:((arrOf st2).toList.drop runs.flatten.length).take n++(arrOf st2).toList.drop (runs.flatten.length+n)=(arrOf st2).toList.drop runs.flatten.length:=by
   rw [← List.drop_drop,List.take_append_drop]
  rw [e2]
  have:=List.take_append_drop runs.flatten.length (arrOf st2).toList
  rw [e1] at this
  exact this.symm
theorem RI.push {R:List Keyed} {T':List Keyed} (h:RI a₀ st runs (R++T')) (iR:Inc R) (l0:0<R.length) {lo:Nat} (hlo:runs.flatten.length=lo):RI a₀ (setPending st ((pendingOf st).push (lo,R.length,0))) (runs++[R]) T':=by
 refine ⟨⟨h.ok.k,h.ok.n,h.ok.f⟩,h.perm,by show (arrOf st).toList=_;rw [h.lst];simp,?_,λD hD=>?_⟩
 ·show Pd 0 (runs++[R]) ((pendingOf st).push (lo,R.length,0)).toList
  rw [Array.toList_push]
  have:=h.pd.snoc (R:=R)
  rw [Nat.zero_add,hlo] at this
  exact this
 ·rcases List.mem_append.mp hD with hD | hD
  ·exact h.inc D hD
  ·rw [List.mem_singleton.mp hD];exact ⟨iR,l0⟩
theorem RI.mod {pw i:Nat} (h:RI a₀ st runs T):RI a₀ (setPending st ((pendingOf st).modify i λ(a,n,_)=>(a,n,pw))) runs T:=by
 refine ⟨⟨h.ok.k,h.ok.n,h.ok.f⟩,h.perm,h.lst,?_,h.inc⟩
 show Pd 0 runs ((pendingOf st).modify i λ(a,n,_)=>(a,n,pw)).toList
 rw [Array.toList_modify]
 exact Pd.modify (o:=0) (rs:=runs) i h.pd
theorem wpS_all {Q:Unit->SortSt->Prop} (ok:Ok st) (hp:pendingOf st = #[]) (h2:2<=(arrOf st).size)
  (h:∀st',(arrOf st').Perm (arrOf st)->failedOf st'=none->SortedTo (arrOf st') (arrOf st).size->Q () st'):wpS (model prog w) A E s sortRuns' Q st:=by
 rw [sortRuns'_eq]
 refine wpS_bind (wpS_get ?_)
 dsimp only
 generalize ha:arrOf st=a₀ at *
 have hR0:RI a₀ st [] a₀.toList:=⟨ok,by rw [ha],by rw [ha];rfl,by rw [hp];trivial,λR hR=>nomatch hR⟩
 generalize minRun' a₀.size a₀.size 0=mr
 refine wpS_bind (wpS_mono (wpS_forRange (I:=λx c st'=>∃lo runs T,c=(none,lo)/\RI a₀ st' runs T/\runs.flatten.length=lo/\x<=lo)
  (Q:=λc st'=>∃runs,c=(none,a₀.size)/\RI a₀ st' runs []) ?step ?fin ⟨0,[],_,rfl,hR0,rfl,Nat.le_refl _⟩) ?post)
 case fin =>
  rintro c st' ⟨lo,runs,T,rfl,ri,hl,hx⟩
  have:=ri.alen
  have hT:T=[]:=List.length_eq_zero_iff.mp (by (clear ri hR0 h h2 ha hp ok;omega))
  subst hT
  rw [List.length_nil,Nat.add_zero] at this
  exact ⟨runs,by rw [← this,hl],ri⟩
 case step =>
  rintro x c st' _ hx ⟨lo,runs,T,rfl,ri,hl,hxl⟩
  have hal:=ri.alen
  dsimp only
  by_cases hge:lo ≥ a₀.size
  ·rw [if_pos hge]
   have hT:T=[]:=List.length_eq_zero_iff.mp (by (clear hxl ri hx hR0 h h2 ha hp ok;omega))
   subst hT
   rw [List.length_nil,Nat.add_zero] at hal
   exact wpS_pure ⟨runs,by rw [← hal,hl],ri⟩
  rw [if_neg hge]
  have hz:(arrOf st').size=a₀.size:=ri.perm.size_eq
  subst hl
  have hB:SB runs.flatten.length st' st':=⟨ri.ok,Array.Perm.refl _,rfl,λ_ _=>rfl⟩
  refine wpS_bind (wpS_run hB (by (clear hB hge hxl ri hx hR0 h h2 ha hp ok;omega)) (by (clear hB hxl hz hal ri hx hR0 h h2 ha hp ok;omega)) λm st2 b m1 m2 m3=>?_)
  dsimp only
  by_cases hmr:m<mr
  rw [if_pos hmr]
  refine wpS_bind (wpS_lift (wpAny_rule ⟨rfl,?_⟩))
  refine wpS_bind (wpS_bin b (show runs.flatten.length+min (a₀.size-runs.flatten.length) mr<=(arrOf st').size by (clear hmr m3 m2 m1 b hB hge hxl ri hx hR0 h h2 ha hp ok;omega)) (by (clear m3 m1 b hB hge hxl hz hal ri hx hR0 h h2 ha hp ok;omega)) m3 λst3 b3 hs3=>?_)
  simp only [Bool.not_true,Bool.false_eq_true,if_false]
  have hn0:0<min (a₀.size-runs.flatten.length) mr:=by (clear hs3 b3 m3 m2 m1 b hB hxl hz hal ri hx hR0 h h2 ha hp ok;omega)
  have hn1:runs.flatten.length+min (a₀.size-runs.flatten.length) mr<=a₀.size:=by (clear hn0 hs3 b3 hmr m3 m2 m1 b hB hge hxl hz ri hx hR0 h h2 ha hp ok;omega)
  generalize min (a₀.size-runs.flatten.length) mr=n at hs3 hn0 hn1 ⊢
  rotate_left
  rw [if_neg hmr]
  have b3:=b
  have hs3:=m3
  have hn0:0<m:=by (clear hs3 b3 hmr m3 m2 b hB hge hxl hz hal ri hx hR0 h h2 ha hp ok;omega)
  have hn1:runs.flatten.length+m<=a₀.size:=by (clear hn0 hs3 b3 hmr m3 m1 b hB hge hxl hz ri hx hR0 h h2 ha hp ok;omega)
  clear b m3 m1 m2 hmr
  generalize m=n at hs3 hn0 hn1 ⊢
  generalize st2=st3 at b3 hs3 ⊢
  all_goals
   obtain ⟨R,T',lR,iR,ri2⟩:=ri.cut b3 hs3 hn1 hn0
   refine wpS_bind (wpS_get ?_)
   cases hb:(pendingOf st3).back? with
   | none =>
    dsimp only
    refine wpS_bind (wpS_modify (wpS_pure ⟨_,runs++[R],T',rfl,?_,by simp;omega,by omega⟩))
    rw [← lR]
    exact ri2.push iR (by omega) rfl
   | some t =>
    obtain ⟨s1,n1,w1⟩:=t
    dsimp only
    generalize power' a₀.size (2*s1+n1) (2*s1+n1+n1+n) a₀.size=pw
    refine wpS_bind (wpS_mono (wpS_forRange (I:=λx c st4=>c=(none,())/\∃runs',RI a₀ st4 runs' (R++T')) (Q:=λc st4=>c=(none,())/\∃runs',RI a₀ st4 runs' (R++T')) ?_ (λc st4 q=>q) ⟨rfl,runs,ri2⟩) ?_)
    ·rintro x c st4 _ _ ⟨rfl,runs',ri4⟩
     refine wpS_bind (wpS_get ?_)
     have hps:=ri4.psize
     by_cases hp1:(pendingOf st4).size > 1
     ·have e:(pendingOf st4)[(pendingOf st4).size-2]? = some ((pendingOf st4)[(pendingOf st4).size-2]'(by omega)):=Array.getElem?_eq_getElem _
      rw [if_pos hp1,e]
      dsimp only
      split
      ·exact wpS_pure ⟨rfl,runs',ri4⟩
      ·refine wpS_bind (wpS_mAtR ri4 (by omega) λst5 runs5 ri5 _=>?_)
       simp only [Bool.not_true,Bool.false_eq_true,if_false]
       exact wpS_pure ⟨rfl,runs5,ri5⟩
     ·rw [if_neg hp1]
      exact wpS_pure ⟨rfl,runs',ri4⟩
    ·rintro c st4 ⟨rfl,runs',ri4⟩
     dsimp only
     have hal2:=ri2.alen
     have hal4:=ri4.alen
     have hfl:runs'.flatten.length=runs.flatten.length:=by omega
     refine wpS_bind (wpS_modify (wpS_bind (wpS_modify (wpS_pure ⟨_,runs'++[R],T',rfl,?_,by rw [List.flatten_append,List.length_append,hfl];simp;omega,by omega⟩))))
     rw [← lR]
     exact (ri4.mod (pw:=pw)).push iR (by omega) hfl
 case post =>
  rintro c st' ⟨runs,rfl,ri⟩
  dsimp only
  have hal:=ri.alen
  have hrl:runs.length<=a₀.size:=by
   rw [List.length_nil,Nat.add_zero] at hal
   rw [← hal]
   have:∀l:List (List Keyed),(∀R∈l,Inc R/\0<R.length)->l.length<=l.flatten.length:=by
    intro l
    induction l with
    | nil=>intro _;exact Nat.le_refl _
    | cons D l ih =>
     intro hl
     have a1:=(hl D List.mem_cons_self).2
     have a2:=ih λR hR=>hl R (List.mem_cons_of_mem _ hR)
     rw [List.flatten_cons,List.length_append,List.length_cons];(clear hl ih hal ri hR0 h h2 ha hp ok;omega)
   exact this runs ri.inc
  refine wpS_bind (wpS_mono (wpS_forRange (I:=λx c st4=>c=(none,())/\∃runs',RI a₀ st4 runs' []/\(runs'.length<=1\/runs'.length+x<=a₀.size)) (Q:=λc st4=>c=(none,())/\∃runs',RI a₀ st4 runs' []/\runs'.length<=1) ?_ ?_ ⟨rfl,runs,ri,.inr (by (clear hal ri hR0 h h2 ha hp ok;omega))⟩) ?_)
  ·rintro x c st4 _ hx ⟨rfl,runs',ri4,hr⟩
   refine wpS_bind (wpS_get ?_)
   have hps:=ri4.psize
   by_cases hp1:(pendingOf st4).size<=1
   ·rw [if_pos hp1]
    exact wpS_pure ⟨rfl,runs',ri4,by (clear hr ri4 hx hrl hal ri hR0 h h2 ha hp ok;omega)⟩
   ·rw [if_neg hp1]
    refine wpS_bind (wpS_mAtR ri4 ?_ λst5 runs5 ri5 h5=>?_)
    ·split <;> split <;> omega
    ·simp only [Bool.not_true,Bool.false_eq_true,if_false]
     exact wpS_pure ⟨rfl,runs5,ri5,.inr (by (clear ri5 hp1 hps ri4 hrl hal ri hR0 h h2 ha hp ok;omega))⟩
  ·rintro c st4 ⟨rfl,runs',ri4,hr⟩
   refine ⟨rfl,runs',ri4,?_⟩
   (clear ri4 hrl hal ri hR0 h h2 ha hp ok;omega)
  ·rintro c st4 ⟨rfl,runs',ri4,hr⟩
   refine wpS_pure (h st4 ri4.perm ri4.ok.f ?_)
   have hl:=ri4.lst
   rw [List.append_nil] at hl
   intro i j hij hj
   have hz:(arrOf st4).size=a₀.size:=ri4.perm.size_eq
   refine inc_K ?_ hij (by (clear hij hl hr ri4 hrl hal ri hR0 h h2 ha hp ok;omega))
   rw [hl]
   match runs',hr,ri4 with
   | [],_,_=>exact List.Pairwise.nil
   | [R],_,ri4=>simpa using (ri4.inc R (by simp)).1
end
end Srt
namespace Srt
open PySem PyProof.Rows
section
variable {prog:Program} {w:World} {A:Around} {E:Value->Shared->Prop} {s:Shared}
end
end Srt
namespace Srt
open PySem PyProof.Rows
noncomputable def tupKN (S:Addr->Prop) (num:Addr->Int):KN:=⟨λp=>match p.1 with | .ref a=>num a | _=>0,λp=>∃a,p.1=.ref a/\S a,tuples' true⟩
noncomputable def TupsAt (h:Heap) (S:Addr->Prop) (key:Addr->List Int):Prop:=∀a,S a->∃(o:Obj) (us:List Value) (n:Nat),h.get? a=some o/\o.cls=.type "tuple" /\ o.data=.seq us.toArray n/\IntsAre us (key a)/\key a≠[]
theorem tupKL {prog:Program} {w:World} {A:Around} {E:Value->Shared->Prop} {s:Shared} {S:Addr->Prop} {num:Addr->Int} {key:Addr->List Int} (hS:TupsAt s.heap S key) (hn:∀a b,S a->S b->HT.lexLt (key a) (key b)=decide (num a<num b)):@KL (tupKN S num) prog w A E s:=@KL.mk (tupKN S num) prog w A E s λ{st x y Q} hk hx hy h=>by
 obtain ⟨a,ea,sa⟩:=hx
 obtain ⟨b,eb,sb⟩:=hy
 have hk:kindOf st=tuples' true:=hk
 have h:Q (some (decide ((match x.1 with | .ref a=>num a | _=>0)<(match y.1 with | .ref a=>num a | _=>0)))) st:=h
 rw [ea,eb] at h
 have h:Q (some (decide (num a<num b))) st:=h
 rw [← hn a b sa sb] at h
 obtain ⟨oa,us,na,ga,ca,da,ia,_⟩:=hS a sa
 obtain ⟨ob,vs,nb,gb,cb,db,ib,_⟩:=hS b sb
 rw [lt'_eq]
 refine wpS_bind (wpS_get ?_)
 rw [hk,ea,eb]
 refine wpS_bind (wpS_lift (wpAny_attempt (PySem.W.kat_lt ga da gb db (SortT.katLex 0 ia ib (by simp only [List.size_toArray];rw [ia.length,ib.length]) ⟨rfl,wpS_pure h⟩))))
theorem firsts {h:Heap} {S:Addr->Prop} {key:Addr->List Int} (hS:TupsAt h S key):∀as:List Addr,(∀a∈as,S a)->∃fs:List Value,PySem.W.KatTups h (as.map Value.ref) fs/\fs.length=as.length/\∀v∈fs,∃n t,v=Value.int n t
 | [],_=>⟨[],PySem.W.KatTups.nil,rfl,λ_ h=>nomatch h⟩
 | a::as,hs=>by
  obtain ⟨fs,h1,h2,h3⟩:=firsts hS as λb hb=>hs b (List.mem_cons_of_mem _ hb)
  obtain ⟨o,us,n,g,c,d,i,ne⟩:=hS a (hs a List.mem_cons_self)
  generalize key a=ka at i ne
  cases i with
  | nil=>exact absurd rfl ne
  | cons k t r =>
   refine ⟨Value.int k t::fs,PySem.W.KatTups.cons g c d (by simp) h1,by simp [h2],λv hv=>?_⟩
   rcases List.mem_cons.mp hv with rfl | hv
   ·exact ⟨k,t,rfl⟩
   ·exact h3 v hv
section
variable {prog:Program} {w:World} {A:Around} {E:Value->Shared->Prop} {s:Shared}
theorem sort_longT {a:Addr} {as:List Addr} {n:Nat} {P:Fin->Shared->Prop} {S:Addr->Prop} {num:Addr->Int} {key:Addr->List Int} (ho:s.heap.get? a=some (seqObj "list" (as.map Value.ref).toArray n)) (hS:TupsAt s.heap S key) (hn:∀x y,S x->S y->HT.lexLt (key x) (key y)=decide (num x<num y))
  (has:∀x∈as,S x) (h2':as.length≠1) (hv:as.length<=100000) (h:∀out:List Addr,out.Perm as->out.Pairwise (λx y=>num x<=num y)->P (.done (.ret .none)) { s with heap:=sortedHeap s.heap a (as.map Value.ref) (out.map Value.ref).toArray }) :
  wpAny (model prog w) A (Builtin.«list.sort» ⟨[.ref a],[]⟩) P E s:=by
 by_cases h0:as=[]
 ·subst h0
  refine list_sort_tree (vs:=[]) (ns:=[]) ho .nil (by decide) λout ns' a1 a2 a3=>?_
  have e1:ns'=[]:=a2.eq_nil
  subst e1
  have e2:out.toList=[]:=by
   generalize out.toList=l at a1
   cases a1;rfl
  have e3:out = #[]:=by cases out;simp at e2;subst e2;rfl
  subst e3
  exact h [] (.refl _) .nil
 have h2:2<=as.length:=by
  have:=List.length_pos_iff.mpr h0
  omega
 letI:KN:=tupKN S num
 have hna:¬S a:=λsa=>by
  obtain ⟨o,us,m,g,c,d,_⟩:=hS a sa
  rw [ho] at g
  cases g
  have c':Value.type "list" = Value.type "tuple":=c
  exact absurd c' (by decide)
 rw [list_sort_plain]
 have hbig:100000<=sizeLine:=by decide
 have ha:a<s.heap.objs.size:=Heap.lt_size ho
 have hlen:(as.map Value.ref).length=as.length:=List.length_map _
 refine wpAny_bind (listItems_at ho rfl ?_)
 refine wpAny_bind (listUpdate_at ho rfl ?_)
 obtain ⟨e1,ho1⟩:∃e1,(s.heap.update a (Obj.mapSeq λ_=>#[])).get? a=some (seqObj "list" #[] e1):=⟨_,get?_update_seq ho (λ_=>#[])⟩
 refine wpAny_bind (seqEpoch_at ho1 rfl ?_)
 refine wpAny_bind (wpAny_newTuple ?_ (by simp;omega))
 refine wpAny_bind (wpAny_newList ?_)
 refine wpAny_holding ?_
 have ho6:(((s.heap.update a (Obj.mapSeq λ_=>#[])).push (seqObj "tuple" (as.map Value.ref).toArray 0)).push (seqObj "list" #[] 0)).get? a=some (seqObj "list" #[] e1):=by
  rw [Heap.get?_push_ne _ _ _ (by rw [size_push',Heap.size_update];exact Nat.ne_of_lt (Nat.lt_succ_of_lt ha)),Heap.get?_push_ne _ _ _ (by rw [Heap.size_update];exact Nat.ne_of_lt ha)]
  exact ho1
 have hS6:TupsAt (((s.heap.update a (Obj.mapSeq λ_=>#[])).push (seqObj "tuple" (as.map Value.ref).toArray 0)).push (seqObj "list" #[] 0)) S key:=λb sb=>by
  obtain ⟨o,us,m,g,r⟩:=hS b sb
  refine ⟨o,us,m,Heap.get?_push_of_some _ (Heap.get?_push_of_some _ ?_),r⟩
  rw [Heap.get?_update_other _ _ (show a≠b from λz=>hna (by rw [z];exact sb))]
  exact g
 show wpAny (model prog w) A _ P E { s with heap:=((s.heap.update a (Obj.mapSeq λ_=>#[])).push (seqObj "tuple" (as.map Value.ref).toArray 0)).push (seqObj "list" #[] 0) }
 haveI:KL prog w A E { s with heap:=((s.heap.update a (Obj.mapSeq λ_=>#[])).push (seqObj "tuple" (as.map Value.ref).toArray 0)).push (seqObj "list" #[] 0) }:=tupKL hS6 hn
 dsimp only
 have hsz:(as.map Value.ref).toArray.size=as.length:=by simp
 rw [if_neg (by omega),if_neg (by omega)]
 obtain ⟨fs,k1,k2,k3⟩:=firsts hS6 as has
 refine wpAny_bind (PySem.W.kat_kind (s:={ s with heap:=((s.heap.update a (Obj.mapSeq λ_=>#[])).push (seqObj "tuple" (as.map Value.ref).toArray 0)).push (seqObj "list" #[] 0) }) (T:=.type "int") k1 (by omega) (λv hv=>by obtain ⟨n,t,rfl⟩:=k3 v hv;exact PySem.W.Looks.of_pure rfl) (by decide) ?_)
 have keys:∀p∈(pairsOf (as.map Value.ref)).toList,∃b,p=(Value.ref b,Value.ref b)/\b∈as:=λp hp=>by
  unfold pairsOf at hp
  rw [List.zip_toArray] at hp
  have:p∈(as.map Value.ref).zip (as.map Value.ref):=hp
  rw [List.zip_map'] at this
  obtain ⟨b,hb,rfl⟩:=List.mem_map.mp this
  exact ⟨b,rfl,hb⟩
 refine wpAny_bind (wpAny_mono (wpS_all (st:=SortSt.mk' (tuples' true) (pairsOf (as.map Value.ref)) #[] 7 none)
  (Q:=λ_ st'=>(arrOf st').Perm (pairsOf (as.map Value.ref))/\failedOf st'=none/\SortedTo (arrOf st') (pairsOf (as.map Value.ref)).size)
  ⟨rfl,λp hp=>?_,rfl⟩ rfl (by show 2<=(pairsOf (as.map Value.ref)).size;rw [pairsOf_size];omega) λst' a1 a2 a3=>⟨a1,a2,a3⟩) ?_ λ_ _ e=>e)
 ·obtain ⟨b,rfl,hb⟩:=keys p hp
  exact ⟨b,rfl,has b hb⟩
 rintro ⟨⟨⟩,st'⟩ s' ⟨rfl,hp,hf,hs⟩
 dsimp only
 obtain ⟨out,eo,po⟩:∃out:List Addr,(arrOf st').toList=out.map (λb=>(Value.ref b,Value.ref b))/\out.Perm as:=by
  have hz:(pairsOf (as.map Value.ref)).toList=as.map λb=>(Value.ref b,Value.ref b):=by
   unfold pairsOf
   rw [List.zip_toArray]
   show (as.map Value.ref).zip (as.map Value.ref)=_
   rw [List.zip_map',]
  have hp':=Array.perm_iff_toList_perm.mp hp
  rw [hz] at hp'
  refine ⟨(arrOf st').toList.map λp=>match p.1 with | .ref b=>b | _=>0,?_,?_⟩
  ·rw [List.map_map]
   conv=>lhs;rw [← List.map_id (arrOf st').toList]
   refine List.map_congr_left λp hpm=>?_
   obtain ⟨b,_,e⟩:=List.mem_map.mp (hp'.mem_iff.mp hpm)
   subst e;rfl
  ·have:=hp'.map λp:Keyed=>(match p.1 with | .ref b=>b | _=>0:Addr)
   rw [List.map_map] at this
   refine this.trans ?_
   rw [show ((λp:Keyed=>(match p.1 with | .ref b=>b | _=>0:Addr)) ∘ λb:Addr=>(Value.ref b,Value.ref b))=id from rfl,List.map_id]
 have so:out.Pairwise (λx y=>num x<=num y):=by
  refine List.pairwise_iff_getElem.mpr λi j hi hj hij=>?_
  have hsz2:(pairsOf (as.map Value.ref)).size=out.length:=by rw [pairsOf_size,hlen,po.length_eq]
  have q:=hs i j (by omega) (by omega)
  have at_:∀(i:Nat) (hi:i<out.length),K (arrOf st') i=num out[i]:=λi hi=>by
   unfold K
   rw [← Array.getElem?_toList,eo,List.getElem?_map,List.getElem?_eq_getElem hi]
   rfl
  rwa [at_ i hi,at_ j hj] at q
 have eout:(arrOf st').map (·.2)=(out.map Value.ref).toArray:=by
  apply Array.toList_inj.mp
  rw [Array.toList_map,eo,List.map_map]
  rfl
 refine wpAny_bind (seqEpoch_at ho6 rfl ?_)
 refine wpAny_bind (listUpdate_at ho6 rfl ?_ (hsz2:=by
  show ((arrOf st').map (·.2)).size<=_
  rw [eout]
  have:=po.length_eq
  simp;omega))
 rw [hf]
 simp only [bne_self_eq_false,Bool.false_eq_true,if_false]
 rw [eout]
 exact wpAny_pure (h out po so)
end
end Srt
namespace L2
open PySem PySem.Spec PyProof.Rows
section
variable {X:Cx}
end
end L2
namespace RV
open PySem PySem.Spec
noncomputable def IsRev (h:Heap) (a t:Addr) (i:Int):Prop:=∃o,h.get? a=some o/\o.cls=.type "reversed" /\ o.data=.fields #[.ref t,rawInt i]
section
variable {prog:Program} {w:World} {A:Around} {E:Value->Shared->Prop} {s:Shared}
theorem IsRev.ty {a t:Addr} {i:Int} (x:IsRev s.heap a t i):s.TypeIs (.ref a) "reversed":=let ⟨o,ho,hc,_⟩:=x;⟨o,ho,hc⟩
theorem IsRev.at {h h':Heap} {a t:Addr} {i:Int} (x:IsRev h a t i) (e:∀o,h.get? a=some o->h'.get? a=some o):IsRev h' a t i:=let ⟨o,ho,r⟩:=x;⟨o,e _ ho,r⟩
end
end RV
namespace L2
open PySem PySem.Spec PyProof.Rows
section
variable {X:Cx} {tg:Expr}
end
end L2
namespace PT
open PySem PySem.Spec
section
variable {prog:Program} {w:World} {K:Type} [DecidableEq K] {knd:HeapKind prog w K} {A:Around} {E:Value->Shared->Prop} {s:Shared}
noncomputable def wo (xs:List (K × Addr × Value)) (k:K):List (K × Addr × Value):=xs.filter λx=>decide (x.1≠k)
theorem wo_at {k:K}:∀{xs:List (K × Addr × Value)} {j:Nat} {p:Addr × Value},(xs.map (·.1)).Nodup->xs[j]? = some (k,p)->xs.eraseIdx j=wo xs k
 | x::xs,0,p,hn,h=>by
  cases h
  obtain ⟨h1,_⟩:=List.nodup_cons.mp hn
  unfold wo
  rw [List.eraseIdx_cons_zero,List.filter_cons_of_neg (by simp)]
  symm
  rw [List.filter_eq_self]
  intro y hy
  have:y.1≠k:=λe=>h1 (by rw [← e];exact List.mem_map.mpr ⟨y,hy,rfl⟩)
  simpa using this
 | x::xs,j+1,p,hn,h=>by
  obtain ⟨h1,h2⟩:=List.nodup_cons.mp hn
  have h':xs[j]? = some (k,p):=by simpa using h
  have hm:k∈xs.map (·.1):=List.mem_map.mpr ⟨_,List.mem_of_getElem? h',rfl⟩
  have hx:x.1≠k:=λe=>h1 (by show x.1∈_;rw [e];exact hm)
  rw [List.eraseIdx_cons_succ,wo_at h2 h']
  unfold wo
  rw [List.filter_cons_of_pos (by simpa using hx)]
theorem erase_map {α β:Type} {f:α->β}:∀{l:List α} {i:Nat},(l.map f).eraseIdx i=(l.eraseIdx i).map f
 | [],_=>rfl
 | _::_,0=>rfl
 | x::l,i+1=>by rw [List.map_cons,List.eraseIdx_cons_succ,List.eraseIdx_cons_succ,List.map_cons,erase_map]
theorem take_heap {d a:Addr} {xs:List (K × Addr × Value)} {k:K} {p:Addr × Value} {Q:Option DictEntry->Shared->Prop} (hu:knd.room A) (hkey:knd.is s.heap k a) (hm:s.heap.DictOfH knd d xs) (hz:xs.length<=sizeLine) (hp:atKey xs k=some p)
  (hQ:∀e h',e.val=p.2->h'.DictOfH knd d (wo xs k)->Heap.SameBut d s.heap h'->Q (some e) { s with heap:=h',toks:=s.toks+knd.draws k }):wpAny (model prog w) A (Builtin.Dict.takeOut d (.ref a)) Q E s:=by
 obtain ⟨o,es,ep,ho,hc,hd,he,his,hn⟩:=hm
 unfold Builtin.Dict.takeOut
 try with_reducible refine wpAny_holding ?_
 refine wpAny_bind (knd.pyHash hu hkey (wpAny_bind (wpAny_dictFind_heap (s:={ s with toks:=s.toks+knd.draws k }) hu hkey ho hd he his hn ?_ ?_)))
 ·intro hno
  rw [atKey_none_of_get hno] at hp
  cases hp
 ·intro j q hj
  rw [atKey_of_get hn hj] at hp
  cases hp
  refine wpAny_bind (wpAny_dictEntries (s:={ s with toks:=s.toks+knd.draws k }) ho hd ?_)
  rw [entry_at he j,hj]
  refine wpAny_bind (wpAny_updateDictKeys (hz:=by have e:=size_of_entries he;omega) (s:={ s with toks:=s.toks+knd.draws k }) ho hd (wpAny_pure (hQ _ _ rfl ⟨_,_,ep+1,Heap.get?_update_self _ ho (Obj.isFreed_of_dict (Obj.data_mapDictKeys hd _)),
   hc.mapDictKeys _,Obj.data_mapDictKeys hd _,?_,?_,?_⟩ (Heap.SameBut.update ..))))
  ·rw [← wo_at hn hj]
   obtain ⟨l⟩:=es
   have:l=xs.map (entryOfKey knd):=he
   subst this
   simp [erase_map]
  ·intro x hx
   exact knd.keeps (his x (List.mem_filter.mp hx).1) ho hd (Heap.SameBut.update ..)
  ·exact hn.sublist (List.filter_sublist.map _)
theorem pop_meets {d a:Addr}:MeetsIn prog w (Builtin.«dict.pop» ⟨[.ref d,.ref a],[]⟩) (λA R s=>knd.room A.in1/\∃k xs p,knd.is s.heap k a/\s.heap.DictOfH knd d xs/\xs.length<=sizeLine/\atKey xs k=some p /\
   ∀h',h'.DictOfH knd d (wo xs k)->Heap.SameBut d s.heap h'->R (.ok (.ret p.2)) { s with heap:=h',toks:=s.toks+knd.draws k }) :=
 .of_wp λA R s ⟨hu,k,xs,p,hkey,hm,hz,hp,h⟩=>by
  unfold Builtin.«dict.pop»
  refine wpAny_bind ?_
  unfold Builtin.Dict.keyAndDefault
  refine wpAny_bind (wpAny_notOrdered_dict hm.typeIs ?_)
  show wpAny _ _ (pure (d,Value.ref a,none)) _ _ s
  refine wpAny_pure ?_
  obtain ⟨o,es,ep,ho,hc,hd,he,his,hn⟩:=id hm
  have hne:es.isEmpty=false:=by
   cases hx:xs with
   | nil=>subst hx;cases hp
   | cons x r =>
    subst hx
    obtain ⟨l⟩:=es
    have:l=(x::r).map (entryOfKey knd):=he
    subst this
    rfl
  simp only [keyPart,Option.isSome_none,Bool.false_eq_true,if_false]
  refine wpAny_bind (m:=dictEntries d none) (wpAny_dictEntries ho hd ?_)
  refine wpAny_bind (wpAny_pure ?_)
  rw [hne]
  simp only [Bool.false_eq_true,if_false]
  refine wpAny_bind (take_heap hu hkey hm hz hp λe h' hv hm' hs'=>?_)
  simp only [Option.isNone_some,Bool.false_eq_true,if_false]
  exact wpAny_bind (wpAny_letGo (wpAny_pure ⟨e.val,rfl,by rw [hv];exact h h' hm' hs'⟩))
theorem len_meets {d:Addr} (hd:(d == sysModules)=false):MeetsIn prog w (Builtin.«dict.__len__» ⟨[.ref d],[]⟩) (λ_ R s=>∃xs,s.heap.DictOfH knd d xs/\R (.ok (.ret (.int xs.length s.toks))) { s with toks:=s.toks+1 }) :=
 .of_wp λA R s ⟨xs,hm,h⟩=>by
  obtain ⟨o,es,ep,ho,hc,hdat,he,his,hn⟩:=hm
  show wpAny _ _ (dictSize d >>= _) _ _ s
  unfold dictSize
  refine wpAny_bind (wpAny_bind (wpAny_dictEntries ho hdat (wpAny_pure ?_)))
  show wpAny _ _ (Builtin.Dict.pendingCount d >>= _) _ _ s
  refine wpAny_bind (wpAny_pendingCount_other hd ?_)
  refine wpAny_ret_mkInt ?_
  have:es.size=xs.length:=size_of_entries he
  rw [Nat.add_zero,this];exact h
theorem call_len {d:Addr} {xs:List (K × Addr × Value)} {Q:Value->Shared->Prop} (hd:(d == sysModules)=false) (hm:s.heap.DictOfH knd d xs) (hfit:(xs.length:Int)<2 ^ 63)
  (h:Q (.int xs.length (s.toks+1)) { s with toks:=s.toks+1+1 }):wpAny (model prog w) A (call (.builtin "len") [.ref d]) Q E s:=by
 refine Calls.call_function_entry kind_len plain_len entry_len (args_len1 _) ?_
 unfold Builtin.«len»
 refine wpAny_bind (m:=oneArg "len" _) (wpAny_pure ?_)
 refine wpAny_bind (m:=callSpecial? (.ref d) (Str.ofString "__len__")) (wpAny_callSpecial?_slot (name:=Str.ofString "__len__") hm.typeIs F.slot_dict_len
  (call_meetsIn F.slot_dict_len hm.typeIs F.entry_dict_len (F.args_dict_len_1 _) (len_meets (knd:=knd) hd) ⟨xs,hm,?_⟩))
 show wpAny _ _ _ _ _ { s with toks:=s.toks+1 }
 refine wpAny_bind (wpAny_holding (wpAny_pure ?_))
 refine wpAny_bind (wpAny_letGo ?_)
 show wpAny _ _ (if ((xs.length:Nat):Int)<0 then _ else _) _ _ _
 rw [if_neg (by omega)]
 show wpAny _ _ (if ((xs.length:Nat):Int) ≥ 2 ^ 63 then _ else _) _ _ _
 rw [if_neg (by omega)]
 exact wpAny_bind (wpAny_mkInt (wpAny_pure ⟨_,rfl,h⟩))
end
end PT
namespace L2
open PySem PySem.Spec PyProof.Rows
section
variable {X:Cx} {pins:List (Addr × Obj)} {σ:St} {H:Hp} {s:Shared} {a b:Addr} {kvs:List (List Key × V)} {k:List Key} {A:Around} {E:Value->Shared->Prop}
theorem KT.drop {H:Hp} {kvs:List (List Key × V)} {xs:List (List Key × Addr × Value)} (r:KT H kvs xs) (k:List Key):KT H (dropK kvs k) (PT.wo xs k):=by
 induction r with
 | nil=>exact .nil
 | @cons p q ps qs hq t ih =>
  unfold dropK PT.wo at *
  by_cases e:p.1=k
  ·rw [List.filter_cons_of_neg (by simpa using e),List.filter_cons_of_neg (by simpa using (hq.1.symm.trans e))]
   exact ih
  ·rw [List.filter_cons_of_pos (by simpa using e),List.filter_cons_of_pos (by simpa using (λz=>e (hq.1.trans z)))]
   exact .cons hq ih
theorem d_popT {v:V} {Q:Value->Shared->Prop} (hu:A.units+1<cLine) (I:Inv X pins σ H s) (e:H a=some (.dT kvs)) (eb:H b=some (.tup (k.map kV))) (l:valV kvs k=some v)
  (h:∀w' s',Inv X pins σ (upd H a (.dT (dropK kvs k))) s'->RelV v w'->Q w' s'):wpAny (model X.prog X.w) A (call (.builtin "dict.pop") [.ref a,.ref b]) Q E s:=by
 obtain ⟨z,hd,xs,rel,dd⟩:=dt_of I.hok e
 obtain ⟨w',hw,rw'⟩:=RelO.some_of (v:=v) (o:=(atKey xs k).map (·.2)) (by rw [← l];exact rel.val k)
 obtain ⟨p,hp,hp2⟩:=Option.map_eq_some_iff.mp hw
 have hz:xs.length<=sizeLine:=by rw [← Paired.length rel];exact z
 refine call_meetsIn PySem.F.slot_dict_pop dd.typeIs PySem.F.entry_dict_pop (PySem.F.args_dict_pop_2 _ _) (PT.pop_meets (knd:=tupleKind (mixKind X.prog X.w))) ⟨tupleKind_room_in1 hu,k,xs,p,key_of I.hok eb,dd,hz,hp,λh' dd' hs=>?_⟩
 rw [hp2]
 refine h w' _ ?_ rw'
 obtain ⟨q,es,ep,hq,h2,h3,h4,_,h5⟩:=dd'
 refine d_write I (by rw [e];exact True.intro) hs ⟨q,hq⟩ ⟨Nat.le_trans (dropK_le kvs k) z,hd,_,(rel.drop k).keeps λc ys ec=>?_,q,es,ep,hq,h2,h3,h4,h5⟩
 rw [upd_ne (ne_of ec e (λz=>nomatch z))]
 exact ec
end
end L2
namespace L2
open PySem PySem.Spec PyProof.Rows
section
variable {M:Model} {A:Around} {E:Value->Shared->Prop} {s:Shared}
end
section
variable {X:Cx}
end
end L2
namespace L2
open PySem PySem.Spec PyProof.Rows
section
variable {prog:Program} {w:World} {A:Around} {E:Value->Shared->Prop} {s:Shared}
theorem iter_any {d:Addr} {od:Obj} {es:Array DictEntry} {ep:Nat} {Q:Value->Shared->Prop} (hd:(d == sysModules)=false) (ho:s.heap.get? d=some od) (hc:od.ExactDict) (hdat:od.data=.dict es ep)
  (hQ:Q (.ref s.heap.objs.size) { s with heap:=s.heap.push { cls:=.type "dict_keyiterator",data:=.fields #[.ref d,.int 0 0,.int es.size 0,.int ep 0] } }) :
  wpAny (model prog w) A (pyIter (.ref d)) Q E s:=by
 have hT:s.TypeIs (.ref d) "dict":=⟨od,ho,hc.1⟩
 refine wpAny_pyIter_slot hT F.slot_dict_iter (wpAny_call_entry F.slot_dict_iter hT F.entry_dict_iter ?_ (F.args_dict_iter_1 _))
 unfold Builtin.«dict.__iter__»
 refine wpAny_bind ?_
 unfold Builtin.Dict.dictSlotNone
 refine wpAny_bind (wpAny_notOrdered_dict hT ?_)
 show wpAny _ _ (pure (Value.ref d)) _ _ s
 refine wpAny_pure ?_
 show wpAny _ _ (Builtin.Dict.showsAll d >>= _) _ _ s
 unfold Builtin.Dict.showsAll
 rw [if_neg (by rw [hd];exact Bool.false_ne_true)]
 refine wpAny_bind (wpAny_pure (wpAny_bind (wpAny_dictEntries ho hdat (wpAny_bind (wpAny_dictEpoch ho hdat ?_)))))
 refine wpAny_bind (wpAny_newObj_type (wpAny_pure ⟨_,rfl,"dict_keyiterator",_,⟨_,Heap.get?_push_size _ rfl,rfl⟩,F.slot_dict_keyiterator_next.lookup,?_⟩))
 simpa [rawInt] using hQ
theorem next_any {it d:Addr} {i ep:Nat} {od:Obj} {es:Array DictEntry} {e:DictEntry} {Q:Option Value->Shared->Prop} (hit:s.heap.IsKeyIter it d i es.size ep) (hod:s.heap.get? d=some od) (hdd:od.data=.dict es ep) (hx:es[i]? = some e)
  (hQ:∀h',h'.IsKeyIter it d (i+1) es.size ep->Heap.SameBut it s.heap h'->Q (some e.key) { s with heap:=h' }):wpAny (model prog w) A (pyNext (.ref it)) Q E s:=by
 obtain ⟨o,ho,hc,hd⟩:=id hit
 unfold pyNext
 refine wpAny_bind (wpAny_attempt (wpAny_callSpecial?_slot (name:=Str.ofString "__next__") hit.typeIs F.slot_dict_keyiterator_next
  (wpAny_call_entry F.slot_dict_keyiterator_next hit.typeIs F.entry_dict_keyiterator_next ?_ (F.args_dict_keyiterator_next_1 _))))
 refine wpAny_bind (wpAny_pure (wpAny_bind (wpAny_bind ?_)))
 first | refine wpAny_bind (wpAny_typeNameOfWhole_keyiter hit.typeIs (wpAny_pure ?_)) | refine wpAny_bind (wpAny_typeNameOf_keyiter hit.typeIs (wpAny_pure ?_))
 refine wpAny_bind (wpAny_fieldsOf ho hd ?_)
 simp only [show Builtin.Dict_items.ownsTuple "dict_keyiterator" = false by decide,Bool.false_eq_true,if_false]
 show wpAny _ _ (if (Value.ref d == Value.none)=true then _ else _) _ _ s
 rw [if_neg (show ¬((Value.ref d == Value.none)=true) from Bool.false_ne_true)]
 refine wpAny_bind (wpAny_pure (wpAny_bind (wpAny_dictEntries hod hdd ?_)))
 rw [if_neg (by simp)]
 refine wpAny_bind (wpAny_pure (wpAny_bind (wpAny_dictEpoch hod hdd ?_)))
 rw [if_neg (by simp)]
 refine wpAny_pure ?_
 simp only [show ¬((i:Int)<0) from by omega,if_false,Int.toNat_natCast,hx]
 refine wpAny_bind ?_
 first | refine wpAny_bind (wpAny_typeNameOfWhole_keyiter hit.typeIs (wpAny_pure ?_)) | refine wpAny_bind (wpAny_typeNameOf_keyiter hit.typeIs (wpAny_pure ?_))
 refine wpAny_bind (wpAny_isOneOf_keyiter hit.typeIs ?_)
 show wpAny _ _ (setField (.ref it) 1 (rawInt ((i:Int)+1)) >>= _) _ _ s
 refine wpAny_bind (wpAny_setField ho hd (by simp) ?_)
 have hit':(s.heap.update it (Obj.mapFields (·.setIfInBounds 1 (rawInt ((i:Int)+1))))).IsKeyIter it d (i+1) es.size ep :=
  ⟨_,Heap.get?_update_self _ ho (Obj.isFreed_of_fields (Obj.data_mapFields hd _)),(Obj.cls_mapFields ..).trans hc,by rw [Obj.data_mapFields hd];simp [rawInt]⟩
 refine wpAny_bind (wpAny_holding (wpAny_bind (wpAny_isOneOf_keyiter (s:={ s with heap:=s.heap.update it (Obj.mapFields (·.setIfInBounds 1 (rawInt ((i:Int)+1)))) }) hit'.typeIs ?_)))
 show wpAny _ _ (pure e.key) _ _ _
 exact wpAny_pure (wpAny_pure ⟨_,rfl,wpAny_pure (hQ _ hit' (Heap.SameBut.update ..))⟩)
theorem end_any {it d:Addr} {i ep:Nat} {od:Obj} {es:Array DictEntry} {Q:Option Value->Shared->Prop} (hh:A.handled=none) (hit:s.heap.IsKeyIter it d i es.size ep) (hod:s.heap.get? d=some od) (hdd:od.data=.dict es ep) (hx:es.size<=i)
  (hQ:∀h',Heap.ExtBut it s.heap h'->Q none { s with heap:=h' }):wpAny (model prog w) A (pyNext (.ref it)) Q E s:=by
 obtain ⟨o,ho,hc,hd⟩:=id hit
 unfold pyNext
 refine wpAny_bind (wpAny_attempt (wpAny_callSpecial?_slot (name:=Str.ofString "__next__") hit.typeIs F.slot_dict_keyiterator_next
  (wpAny_call_entry F.slot_dict_keyiterator_next hit.typeIs F.entry_dict_keyiterator_next ?_ (F.args_dict_keyiterator_next_1 _))))
 refine wpAny_bind (wpAny_pure (wpAny_bind (wpAny_bind ?_)))
 first | refine wpAny_bind (wpAny_typeNameOfWhole_keyiter hit.typeIs (wpAny_pure ?_)) | refine wpAny_bind (wpAny_typeNameOf_keyiter hit.typeIs (wpAny_pure ?_))
 refine wpAny_bind (wpAny_fieldsOf ho hd ?_)
 simp only [show Builtin.Dict_items.ownsTuple "dict_keyiterator" = false by decide,Bool.false_eq_true,if_false]
 show wpAny _ _ (if (Value.ref d == Value.none)=true then _ else _) _ _ s
 rw [if_neg (show ¬((Value.ref d == Value.none)=true) from Bool.false_ne_true)]
 refine wpAny_bind (wpAny_pure (wpAny_bind (wpAny_dictEntries hod hdd ?_)))
 rw [if_neg (by simp)]
 refine wpAny_bind (wpAny_pure (wpAny_bind (wpAny_dictEpoch hod hdd ?_)))
 rw [if_neg (by simp)]
 refine wpAny_pure ?_
 simp only [show ¬((i:Int)<0) from by omega,if_false,Int.toNat_natCast,Array.getElem?_eq_none hx]
 refine wpAny_bind ?_
 first | refine wpAny_bind (wpAny_typeNameOfWhole_keyiter hit.typeIs (wpAny_pure ?_)) | refine wpAny_bind (wpAny_typeNameOf_keyiter hit.typeIs (wpAny_pure ?_))
 show wpAny _ _ (setField (.ref it) 0 .none >>= _) _ _ s
 refine wpAny_bind (wpAny_setField ho hd (by simp) ?_)
 show wpAny _ _ (newExc (.type "StopIteration") [] >>= _) _ _ _
 refine wpAny_bind ?_
 simp only [newExc,newTuple]
 refine wpAny_bind (wpAny_newObj_type ?_ (by size_fits))
 refine wpAny_bind (m:=firstArgMember _ _) (wpAny_of_eq (a:=Value.none) (by first | rfl | (simp only [firstArgMember];rfl)) ?_)
 refine wpAny_newObj_type ?_ (by size_fits)
 simp only [raiseNew]
 refine wpAny_bind (wpAny_handled ?_)
 rw [show A.in1.handled=none from hh]
 refine wpAny_bind (wpAny_pure (wpAny_throw ?_))
 refine wpAny_bind (wpAny_isInstance (T:="StopIteration") (b:=true) ⟨_,Heap.get?_push_size _ rfl,rfl⟩ isSubtype_stop ?_)
 exact wpAny_pure (hQ _ (((Heap.SameBut.update ..).extBut.push _).push _))
end
section
variable {X:Cx}
end
end L2
namespace LR
open PySem PySem.Spec PyProof.Rows
theorem no_len:typeLookup (.type "list_reverseiterator") "__len__" = pure none:=by rw [typeLookup_type,builtinLookup_eq_fast];kernel_rfl
theorem has_hint:typeLookup (.type "list_reverseiterator") "__length_hint__" = pure (some (.builtin "list_reverseiterator.__length_hint__")):=by rw [typeLookup_type,builtinLookup_eq_fast];kernel_rfl
section
variable {prog:Program} {w:World} {A:Around} {E:Value->Shared->Prop} {s:Shared}
theorem hint {r:Addr} {Q:Bool->Shared->Prop} (ty:s.TypeIs (.ref r) "list_reverseiterator") (q:Q false s):wpAny (model prog w) A (Builtin.List.listLengthHint (.ref r)) Q E s:=by
 unfold Builtin.List.listLengthHint
 refine wpAny_bind (wpAny_specialOf ty no_len ?_)
 refine wpAny_ite_split (λz=>absurd z (by decide)) (λ_=>?_)
 refine wpAny_ite_split (λz=>absurd z (by decide)) (λ_=>?_)
 refine wpAny_bind (wpAny_specialOf ty has_hint ?_)
 generalize hid:("list_reverseiterator.__length_hint__" : String)=id0
 wp_delta
 rw [show splitId id0=some ("list_reverseiterator","__length_hint__") from by subst hid;decide +kernel]
 subst hid
 refine wpAny_bind (wpAny_isInstance (T:="list_reverseiterator") (b:=true) ty (by rw [isSubtype_type];kernel_rfl) ?_)
 refine wpAny_ite_split (λz=>absurd z (by decide)) (λ_=>?_)
 refine wpAny_ite_split (λ_=>?_) (λz=>absurd (by decide +kernel) z)
 refine wpAny_ite_split (λz=>absurd z (by decide +kernel)) (λ_=>?_)
 exact wpAny_pure q
noncomputable abbrev Back (items:Array Value):Nat->Value->Prop:=λi v=>items[items.size-1-i]? = some v
theorem more {R:Result->Shared->Prop} {r l S:Addr} {items:Array Value} {res:Value} {c₀:Nat} (hh:A.handled=none) (hl:s.heap.IsList l items) (hr:s.heap.IsRevIter r l ((items.size:Int)-1)) (hne:l≠r) (h1:S≠r) (h2:S≠l) (hz:items.size<=sizeLine)
  (hS:s.heap.get? S=some { cls:=.type "list",data:=.seq #[] c₀ })
  (q:∀h' tk acc c,(∀b o,b≠S->b≠r->s.heap.get? b=some o->h'.get? b=some o)->h'.get? S=some { cls:=.type "list",dict:=none,data:=.seq acc c,slots:=#[] }->ItemsOf (Back items) acc items.size->R (.ok (.ret res)) { s with heap:=h',toks:=tk }) :
  wpAny (model prog w) A.in1 (Builtin.List.listExtendWith (.ref S) (.ref r) res)
   (λfin s'=>match fin with | .done f=>R (.ok f) s' | .again c'=>c'.quiet=true/\codeAny (model prog w) A c' R s') (λe s'=>R (.error e) s') s:=by
 have Wk:=Walks.listRev (prog:=prog) (w:=w) (A:=A.in1) hh r l hne items
 have out:S∉[r,l]:=by simp [h1,h2]
 have st0:∀h:Heap,h.IsRevIter r l ((items.size:Int)-1)->h.IsList l items->0<=items.size/\h.IsRevIter r l ((items.size:Int)-1-((0:Nat):Int))/\h.IsList l items:=λh x y=>⟨Nat.zero_le _,by rw [show (items.size:Int)-1-((0:Nat):Int)=(items.size:Int)-1 by omega];exact x,y⟩
 unfold Builtin.List.listExtendWith
 refine wpAny_bind (wpAny_typeOf (T:="list_reverseiterator") hr.typeIs ?_)
 have e1:Builtin.List.listSameRef (.ref S) (.ref r)=false:=by simp [Builtin.List.listSameRef,h1]
 have e2:(Value.type "list_reverseiterator" == Value.type "list")=false:=by decide
 have e3:(Value.type "list_reverseiterator" == Value.type "tuple")=false:=by decide
 simp only [e1,e2,e3,Bool.or_false,Bool.false_eq_true,if_false]
 refine wpAny_bind (wpAny_pyIter_revIter hr ?_)
 refine wpAny_bind (wpAny_holding (hint hr.typeIs ?_))
 have key:∀(h:Heap) (c₁ tk:Nat),h.IsRevIter r l ((items.size:Int)-1)->h.IsList l items->(∀b o,b≠S->s.heap.get? b=some o->h.get? b=some o) ->
   h.get? S=some { cls:=.type "list",data:=.seq #[] c₁ }->codeAny (model prog w) A (.builtin "list.extend.loop" ⟨[.ref S,.ref r,res],[]⟩) R { s with heap:=h,toks:=tk }:=by
  intro h c₁ tk x1 x2 hk x3
  refine codeAny_extend_loopS Wk.toS hz S out res items.size 0 _ #[] c₁ rfl (Nat.zero_le _) (st0 h x1 x2) x3 (ItemsOf.nil _) λs' acc c mv x4 x5=>?_
  rw [Moved.eq_with mv]
  exact q s'.heap s'.toks acc c (λb o b1 b2 e=>mv.heap b o (λz=>by
   rcases List.mem_cons.mp z with z | z
   ·exact b1 z
   ·exact b2 (List.mem_singleton.mp z)) (hk b o b1 e)) x4 x5
 refine wpAny_ite_split (λ_=>?_) (λ_=>wpAny_pure ⟨plainId_quiet PySem.F.plain_extend_loop _,key _ c₀ _ hr hl (λb o _ e=>e) hS⟩)
 refine wpAny_bind (wpAny_rule ?_)
 refine wpAny_bind ?_
 show wpAny _ _ (updateSeq S (·.push .none) >>= λ_=>updateSeq S (·.pop)) _ _ _
 refine wpAny_bind (wpAny_updateSeq hS rfl ?_)
 have y1:=Heap.get?_update_self (Obj.mapSeq (·.push Value.none)) hS rfl
 refine wpAny_updateSeq (hz:=by seq_fits) y1 rfl ?_
 have y2:=Heap.get?_update_self (Obj.mapSeq (·.pop)) y1 rfl
 have oth:∀b o,b≠S->s.heap.get? b=some o->((s.heap.update S (Obj.mapSeq (·.push Value.none))).update S (Obj.mapSeq (·.pop))).get? b=some o:=λb o hb e =>
  (Heap.get?_update_other _ _ (Ne.symm hb)).trans ((Heap.get?_update_other _ _ (Ne.symm hb)).trans e)
 exact wpAny_pure ⟨plainId_quiet PySem.F.plain_extend_loop _,key _ _ _ (hr.at λo e=>oth r o (Ne.symm h1) e) (hl.at λo e=>oth l o (Ne.symm h2) e) oth y2⟩
end
end LR
namespace L2
open PySem PySem.Spec PyProof.Rows
section
variable {X:Cx}
end
end L2
namespace L2
open PySem PySem.Spec PyProof.Rows
section
variable {X:Cx}
end
end L2
namespace L2
open PySem PySem.Spec PyProof.Rows
section
variable {prog:Program} {w:World}
theorem kdl_any {d:Addr} {es:Array DictEntry} {ep:Nat} (lo:(d == sysModules)=false):PySem.W.KdlSrc prog w "dict" d d es.size (λi v=>∃e,es[i]? = some e/\v=e.key) (λh=>∃od,h.get? d=some od/\od.ExactDict/\od.data=.dict es ep) where
 type:=λ_ ⟨od,ho,hc,_⟩=>⟨od,ho,hc.1⟩
 there:=λ_ ⟨_,ho,_⟩=>⟨Heap.lt_size ho,Heap.lt_size ho⟩
 keep:=λ_ _ ⟨od,ho,r⟩ hk=>⟨od,hk d (.inl rfl) od ho,r⟩
 notList:=by decide
 notTuple:=by decide
 hint:=λ_ _ s _ ⟨od,ho,hc,_⟩ hq=>PySem.W.kdl_hint_dict (s:=s) ⟨od,ho,hc.1⟩ hq
 iter:=λA s hh ⟨od,ho,hc,hd⟩=>⟨_,λi h=>h.IsKeyIter s.heap.objs.size d i es.size ep/\∃od,h.get? d=some od/\od.ExactDict/\od.data=.dict es ep,(λ_ _ hq=>iter_any lo ho hc hd hq),{
   sub:=λb hb=>by simp at hb;simp [hb]
   frame:=λ_ _ _ st hk=>⟨st.1.at λo e=>hk _ (by simp) o e,let ⟨od,e,r⟩:=st.2;⟨od,hk d (by simp) od e,r⟩⟩
   item:=λi s1 Q E hi st hQ=>by
    obtain ⟨st1,od1,ho1,hc1,hd1⟩:=st
    have hx:es[i]? = some es[i]:=Array.getElem?_eq_getElem hi
    refine next_any st1 ho1 hd1 hx λh' hit' hs'=>hQ _ h' s1.toks ⟨_,hx,rfl⟩ ⟨hit',od1,?_,hc1,hd1⟩ λb o hb e=>hs'.extBut b o (λz=>hb (by simp [z])) e
    exact hs'.extBut d od1 (Nat.ne_of_lt (Heap.lt_size ho)) ho1
   done:=λs1 Q E st hQ=>by
    obtain ⟨st1,od1,ho1,hc1,hd1⟩:=st
    exact end_any hh st1 ho1 hd1 (Nat.le_refl _) λh' he'=>hQ h' s1.toks λb o hb e=>he' b o (λz=>hb (by simp [z])) e
   self:=λ_ _ _ _ st hQ=>wpAny_pyIter_keyiter st.1 hQ },⟨⟨_,Heap.get?_push_size _ rfl,rfl,rfl⟩,od,Heap.get?_push_of_some _ ho,hc,hd⟩⟩
end
noncomputable def intOfV:V->Int
 | .int i=>i
 | _=>0
noncomputable def keyAt (H:Hp) (b:Addr):List Int:=match H b with
 | some (.tup xs)=>xs.map intOfV
 | _=>[]
section
variable {X:Cx}
noncomputable def rSortTL:List V->Hp->VK->Prop:=λxs H Q=>∃(a:Addr) (kvs:List (List Key × V)) (ks:List (List Int)) (num:List Int->Int),xs=[.ref a]/\Rd H a (.dT kvs)/\kvs.map (·.1)=ks.map (λk=>k.map Sum.inl)/\(∀k∈ks,k≠[])/\kvs.length≠1/\kvs.length<=100000 /\
 (∀x∈ks,∀y∈ks,HT.lexLt x y=decide (num x<num y)) /\
 ∀(out:List (List Int)) (as:List Addr) D,out.Perm ks->out.Pairwise (λx y=>num x<=num y)->as.length=out.length->(∀(i:Nat) b k,as[i]? = some b->out[i]? = some k->H b=some (.tup (k.map V.int)))->H D=none->Q (.ref D) (upd H D (.lst (as.map V.ref)))
theorem call_sortTL (hc:X.calm=true):CallR X (.builtin "sorted") rSortTL:=by
 intro pins s σ H xs us Q I r h
 obtain ⟨a,kvs,ks,num,rfl,ha,hks,hne,h2,hbig,hnum,q⟩:=h
 obtain ⟨u,rfl,ru⟩:=vals1 r
 cases ru
 obtain ⟨z,hs,ps,rel,od,es,ep,ho,hex,hdat,hes,hnd⟩:=dt_rd I.hok ha
 have hlen:kvs.length=ps.length:=Paired.length rel
 have hesz:es.size=ps.length:=by rw [← Array.length_toList,hes,List.length_map]
 have hkl:kvs.length=ks.length:=by have:=congrArg List.length hks;simpa using this
 refine Calls.call_function_entry kind_sorted plain_sorted entry_sorted (args_sorted1 _) ?_
 unfold Builtin.«sorted»
 refine wpAny_bind (m:=checkCount "sorted" 1 1 _) (wpAny_pure ?_)
 refine wpAny_bind (collect_dict (kdl_any (ep:=ep) hs) (I.ok.hd hc) ⟨od,ho,hex,hdat⟩ (by rw [hesz,← hlen];exact Nat.le_trans hbig (by decide)) λh1 tk us hk hul hit=>?_)
 -- the keys' addresses
 have I1:Inv X pins σ H { s with heap:=h1,toks:=tk }:=I.kept (t':=tk) hk
 have eus:us=(ps.map λq=>q.2.1).map Value.ref:=by
  apply List.ext_getElem?
  intro i
  by_cases hi:i<us.length
  ·obtain ⟨e,e1,e2⟩:=hit i us[i] (List.getElem?_eq_getElem hi)
   have hi':i<ps.length:=by omega
   have:es[i]? = some (entryOfKey (tupleKind (mixKind X.prog X.w)) ps[i]):=by
    rw [← Array.getElem?_toList,hes,List.getElem?_map,List.getElem?_eq_getElem hi'];rfl
   rw [this] at e1
   cases e1
   rw [List.getElem?_eq_getElem hi,List.getElem?_map,List.getElem?_map,List.getElem?_eq_getElem hi',e2]
   rfl
  ·rw [List.getElem?_eq_none (by omega),List.getElem?_eq_none (by simp;omega)]
 have at_:∀(i:Nat) b,(ps.map λq=>q.2.1)[i]? = some b->∃k,ks[i]? = some k/\H b=some (.tup (k.map V.int)):=λi b hb=>by
  rw [List.getElem?_map] at hb
  cases e:ps[i]? with
  | none=>rw [e] at hb;cases hb
  | some p =>
   rw [e] at hb
   have hb:=(Option.some.inj hb)
   have hi:i<kvs.length:=by rw [hlen];exact (List.getElem?_eq_some_iff.mp e).1
   obtain ⟨r1,r2,_⟩:=pairedAt rel (List.getElem?_eq_getElem hi) e
   have hk:ks[i]? = some (ks[i]'(by omega)):=List.getElem?_eq_getElem (by omega)
   refine ⟨_,hk,?_⟩
   have e2:(kvs.map (·.1))[i]? = (ks.map λk=>k.map Sum.inl)[i]?:=by rw [hks]
   rw [List.getElem?_map,List.getElem?_map,List.getElem?_eq_getElem hi,hk] at e2
   have e2:kvs[i].1=(ks[i]'(by omega)).map Sum.inl:=Option.some.inj e2
   subst hb
   rw [r2,e2,List.map_map]
   rfl
 -- a number for each address
 have inS:∀b∈ps.map (λq=>q.2.1),∃k∈ks,H b=some (.tup (k.map V.int)):=λb hb=>by
  obtain ⟨i,hi⟩:=List.getElem?_of_mem hb
  obtain ⟨k,h3,h4⟩:=at_ i b hi
  exact ⟨k,List.mem_of_getElem? h3,h4⟩
 let key:Addr->List Int:=keyAt H
 have keyE:∀(b:Addr) (k:List Int),H b=some (.tup (k.map V.int))->key b=k:=λb k e=>by
  show keyAt H b=k
  unfold keyAt
  rw [e]
  show (k.map V.int).map intOfV=k
  rw [List.map_map]
  exact List.map_id _
 have hS:∀h':Heap,(∀b o,h1.get? b=some o->h'.get? b=some o)->Srt.TupsAt h' (λb=>b∈ps.map λq=>q.2.1) key:=λh' hk' b hb=>by
  obtain ⟨k,hkm,hH⟩:=inS b hb
  obtain ⟨_,its,rv,o,e1,e2,n,e3⟩:=I1.hok b _ hH
  rw [keyE b k hH]
  exact ⟨o,its,n,hk' _ _ e1,e2,e3,ints_are rv,hne k hkm⟩
 subst eus
 have hlA:(ps.map λq=>q.2.1).length=kvs.length:=by rw [List.length_map,hlen]
 refine wpAny_bind (wpAny_newList ?_ (by rw [List.length_map,hlA];exact Nat.le_trans hbig (by decide)))
 have hoL:(h1.push (seqObj "list" ((ps.map λq=>q.2.1).map Value.ref).toArray 0)).get? h1.objs.size=some (seqObj "list" ((ps.map λq=>q.2.1).map Value.ref).toArray 0):=Heap.get?_push_size _ rfl
 refine wpAny_bind (wpAny_holding (wpAny_call_entry slot_list_sort ⟨_,hoL,rfl⟩ entry_list_sort (Srt.sort_longT (num:=λb=>num (key b)) hoL (hS _ λb o e=>Heap.get?_push_of_some _ e) (λx y hx hy=>?_) (λx hx=>hx) (by omega) (by omega) λout a1 a2=>⟨_,rfl,?_⟩) (args_list_sort _)))
 ·obtain ⟨k1,m1,e1⟩:=inS x hx
  obtain ⟨k2,m2,e2⟩:=inS y hy
  rw [keyE x k1 e1,keyE y k2 e2]
  exact hnum k1 m1 k2 m2
 refine wpAny_pure ⟨_,rfl,?_⟩
 obtain ⟨e,he⟩:=sortedHeap_at (out:=(out.map Value.ref).toArray) hoL
 have vr:∀l:List Addr,Vals (l.map V.ref) (l.map Value.ref):=λl=>by
  induction l with
  | nil=>exact .nil
  | cons x l ih=>exact .cons rfl ih
 have I2:Inv X pins σ (upd H h1.objs.size (.lst (out.map V.ref))) { s with heap:=sortedHeap (h1.push (seqObj "list" ((ps.map λq=>q.2.1).map Value.ref).toArray 0)) h1.objs.size ((ps.map λq=>q.2.1).map Value.ref) (out.map Value.ref).toArray,toks:=tk }:=by
  refine I1.laid (t':=tk) (λb o eb=>?_) (Nat.le_refl _) ⟨?_,out.map Value.ref,e,vr out,he⟩
  ·have hb:=Heap.lt_size eb
   rw [sortedHeap_old (Nat.ne_of_lt hb) (by rw [size_push'];exact Nat.lt_succ_of_lt hb)]
   exact Heap.get?_push_of_some _ eb
  ·rw [List.length_map,a1.length_eq,hlA,sizeLine_eq];omega
 refine ⟨.ref h1.objs.size,_,I2,rfl,q (out.map key) out _ ?_ ?_ (by simp) (λi b k hb hk=>?_) (I1.hok.fresh (Nat.le_refl _))⟩
 ·refine (a1.map key).trans (List.Perm.of_eq ?_)
  apply List.ext_getElem?
  intro i
  rw [List.getElem?_map]
  cases e:(ps.map λq=>q.2.1)[i]? with
  | none=>rw [List.getElem?_eq_none (by have:=List.getElem?_eq_none_iff.mp e;omega)];rfl
  | some b =>
   obtain ⟨k,h3,h4⟩:=at_ i b e
   rw [h3]
   show some (key b)=some k
   rw [keyE b k h4]
 ·exact List.pairwise_map.mpr a2
 ·have hbm:b∈ps.map λq=>q.2.1:=a1.mem_iff.mp (List.mem_of_getElem? hb)
  obtain ⟨k1,_,e1⟩:=inS b hbm
  rw [List.getElem?_map,hb] at hk
  have:key b=k:=Option.some.inj hk
  rw [keyE b k1 e1] at this
  rw [← this];exact e1
end
end L2
namespace L2
open PySem PySem.Spec PyProof.Rows
open PySem.W (Dat kqdP kqdPs kqdOk)
open AutoSeq1 (wpAny_loadPart')
open MeetsSeq (plain_remove_loop entry_remove_loop size_erased)
theorem rm_loop (l:Addr) (its:Array Value) (n:Nat) (x:Value) (j:Nat) (hj:j<its.size) (big:its.size<=sizeLine) (k:Nat) :
  ∀i:Nat,j-i=k->i<=j->Meets (Builtin.«list.remove.loop» ⟨[.ref l,x,rawInt i],[]⟩)
   (λA R s=>s.heap.get? l=some { cls:=.type "list",dict:=none,data:=.seq its n,slots:=#[] }/\SeqAt.EqAt A.in1 s its[j] x true/\(∀m (hm:m<its.size),m<j->SeqAt.EqAt A.in1 s its[m] x false)/\R (.ok (.ret .none)) { s with heap:=s.heap.update l (Obj.mapSeq λxs=>xs.eraseIdxIfInBounds j) }):=by
 induction k with
 | zero =>
  intro i hk le prog w A R s h
  obtain ⟨hp,g,d,tk,os⟩:=s;obtain ⟨hl,yes,no,h⟩:=h
  obtain rfl:i=j:=by omega
  wp_walk using wpAny_loadPart' hl
  have at_:its[((i:Nat):Int).toNat]? = some its[i]:=by simp [hj]
  rw [at_]
  refine wpAny_bind (yes prog w _ _ ?_)
  have small:(its.eraseIdxIfInBounds i).size<=sizeLine+1:=Nat.le_trans (size_erased its _) (Nat.le_succ_of_le big)
  wp_walk using (wpAny_updateSeq hl rfl (hz:=big) (_hz':=small)),wpAny_loadPart' hl
  simpa using h
 | succ k ih =>
  intro i hk le prog w A R s h
  obtain ⟨hp,g,d,tk,os⟩:=s;obtain ⟨hl,yes,no,h⟩:=h
  have lt:i<its.size:=by omega
  wp_walk using wpAny_loadPart' hl
  have at_:its[((i:Nat):Int).toNat]? = some its[i]:=by simp [lt]
  have up:((i:Int)+1)=((i+1:Nat):Int):=by push_cast;rfl
  rw [at_]
  refine wpAny_bind (no i lt (by omega) prog w _ _ ?_)
  wp_walk
  rw [up]
  exact ⟨plainId_quiet plain_remove_loop _,codeAny_builtin entry_remove_loop (by
   rw [Around.under_plainId plain_remove_loop _]
   exact ih (i+1) (by omega) (by omega) prog w A R _ ⟨hl,yes,no,h⟩)⟩
theorem rm_list (l:Addr) (its:Array Value) (n:Nat) (x:Value) (j:Nat) (hj:j<its.size) (big:its.size<=sizeLine) :
  Meets (Builtin.«list.remove» ⟨[.ref l,x],[]⟩)
   (λA R s=>s.heap.get? l=some { cls:=.type "list",dict:=none,data:=.seq its n,slots:=#[] }/\SeqAt.EqAt A.in1 s its[j] x true/\(∀m (hm:m<its.size),m<j->SeqAt.EqAt A.in1 s its[m] x false)/\R (.ok (.ret .none)) { s with heap:=s.heap.update l (Obj.mapSeq λxs=>xs.eraseIdxIfInBounds j) }):=by
 intro prog w A R s h
 obtain ⟨hp,g,d,tk,os⟩:=s;obtain ⟨hl,yes,no,h⟩:=h
 wp_walk using wpAny_loadPart' hl
 exact ⟨plainId_quiet plain_remove_loop _,codeAny_builtin entry_remove_loop (by
  rw [Around.under_plainId plain_remove_loop _]
  exact rm_loop l its n x j hj big _ 0 rfl (Nat.zero_le _) prog w A R _ ⟨hl,yes,no,h⟩)⟩
section
variable {X:Cx}
noncomputable def rRemove:V->List V->Hp->VK->Prop:=λx vs H Q=>∃(l:Addr) (xs:List V) (y:V) (ds:List Dat) (d:Dat) (n i:Nat),x=.ref l/\vs=[y]/\H l=some (.lst xs)/\DVs H xs ds/\DV H y d/\(∀e∈ds,kqdOk n e=true)/\kqdOk n d=true/\n<=9/\ds[i]? = some d/\(∀j e,j<i->ds[j]? = some e->e≠d)/\Q .non (upd H l (.lst (xs.eraseIdx i)))
theorem DVs.get {H:Hp}:∀{xs:List V} {ds:List Dat} {i:Nat} {x:V},DVs H xs ds->xs[i]? = some x->∃d,ds[i]? = some d/\DV H x d
 | _,_,_,_,.nil,e=>by simp at e
 | _,_,0,_,.cons p q,e=>by simp at e;subst e;exact ⟨_,rfl,p⟩
 | _,_,i+1,_,.cons p q,e=>by
  obtain ⟨d,h1,h2⟩:=DVs.get (i:=i) q (by simpa using e)
  exact ⟨d,by simpa using h1,h2⟩
theorem DVs.len {H:Hp}:∀{xs:List V} {ds:List Dat},DVs H xs ds->xs.length=ds.length
 | _,_,.nil=>rfl
 | _,_,.cons p q=>by simp [DVs.len q]
theorem mt_remove (hu:X.A.units+66<cLine):MtM X "list.remove" rRemove:=by
 classical
 intro pins s σ H x vs v us Q I rx rv h
 obtain ⟨l,xs,y,ds,d,n,i,rfl,rfl,hH,dxs,dy,hds,hd,hn,hi,hno,q⟩:=h
 cases rx
 obtain ⟨u,rfl,ru⟩:=rv.one
 obtain ⟨z,its,c,r,hl,e⟩:=I.lstM hH
 obtain ⟨bs,rb⟩:=dy.reads I.hok ru
 have lenD:=dxs.len
 have hil:i<its.length:=by
  have:=(List.getElem?_eq_some_iff.mp hi).1
  omega
 -- the data of an item
 have dat:∀(m:Nat) (hm:m<its.length),∃e as,ds[m]? = some e/\Reads s.heap its[m] (kqdP e) as/\kqdOk n e=true:=λm hm=>by
  have hx:xs[m]? = some (xs[m]'(by omega)):=List.getElem?_eq_getElem (by omega)
  obtain ⟨e,e1,e2⟩:=dxs.get hx
  obtain ⟨w,w1,w2⟩:=r.get hx
  rw [List.getElem?_eq_getElem hm] at w1
  cases w1
  obtain ⟨as,ra⟩:=e2.reads I.hok w2
  exact ⟨e,as,e1,ra,hds e (List.mem_of_getElem? e1)⟩
 have eqs:∀(B:Around) (m:Nat) (hm:m<its.length),B.units+64<cLine->∃e,ds[m]? = some e/\SeqAt.EqAt B s its[m] u (decide (e=d)):=λB m hm hB=>by
  obtain ⟨e,as,e2,ra,he⟩:=dat m hm
  refine ⟨e,e2,?_⟩
  rw [← dat_eqv he hd]
  exact SeqAt.eqAt_reads (kqdP e) (kqdP d) B s _ u as bs ra rb (SeqAt.canLay_of_shaped (dat_shaped he hn)) (SeqAt.canLay_of_shaped (dat_shaped hd hn)) (SeqAt.room_of_shaped (dat_shaped he hn) hB)
 have hB:X.A.in1.units+64<cLine:=by
  show X.A.units+1+64<cLine
  omega
 refine call_meets F.slot_list_remove ⟨_,e,rfl⟩ F.entry_list_remove (F.args_list_remove_2 _ _) (rm_list l its.toArray c u i (by simpa using hil) (by rw [List.size_toArray];omega)) ⟨e,?_,λm hm hlt=>?_,?_⟩
 ·obtain ⟨e',e1,e2⟩:=eqs X.A.in1 i hil hB
  rw [hi] at e1
  cases e1
  rw [decide_eq_true rfl] at e2
  simpa using e2
 ·have hm':m<its.length:=by simpa using hm
  obtain ⟨e',e1,e2⟩:=eqs X.A.in1 m hm' hB
  rw [decide_eq_false (hno m e' hlt e1)] at e2
  simpa using e2
 ·refine ⟨.non,_,I.lset (its':=its.eraseIdx i) hH e ?_ (r.eraseIdx i) ?_,rfl,q⟩
  ·show its.toArray.eraseIdxIfInBounds i=(its.eraseIdx i).toArray
   rw [List.eraseIdxIfInBounds_toArray]
  ·have:=len_erase xs i
   omega
end
end L2
namespace M
noncomputable def sp (m i:Nat):Int × Int:=if i<4*m then (((i / 4:Nat):Int),((i % 4:Nat):Int)) else (-1,((i-4*m:Nat):Int))
theorem sp_in {m k j:Nat} (hk:k<m) (hj:j<4):sp m (4*k+j)=((k:Int),(j:Int)):=by
 unfold sp
 rw [if_pos (by omega)]
 congr 1 <;> omega
theorem sp_out (m j:Nat):sp m (4*m+j)=(-1,(j:Int)):=by
 unfold sp
 rw [if_neg (by omega)]
 congr 1;omega
theorem sp_inj {m i j:Nat} (h:sp m i=sp m j):i=j:=by
 unfold sp at h
 by_cases hi:i<4*m
 ·rw [if_pos hi] at h
  by_cases hj:j<4*m
  ·rw [if_pos hj] at h
   have h1:=congrArg Prod.fst h
   have h2:=congrArg Prod.snd h
   dsimp only at h1 h2
   omega
  ·rw [if_neg hj] at h
   have h1:=congrArg Prod.fst h
   dsimp only at h1
   omega
 ·rw [if_neg hi] at h
  by_cases hj:j<4*m
  ·rw [if_pos hj] at h
   have h1:=congrArg Prod.fst h
   dsimp only at h1
   omega
  ·rw [if_neg hj] at h
   have h2:=congrArg Prod.snd h
   dsimp only at h2
   omega
structure Tw (n:Nat) (A:Nat->Int) (g:Nat->Nat):Prop where
 lt:∀i,i<n->g i<n
 ne:∀i,i<n->g i≠i
 eq:∀i,i<n->A (g i)=A i
 only:∀i k,i<n->k<n->A k=A i->k=i\/k=g i
theorem Tw.inv {n:Nat} {A:Nat->Int} {g:Nat->Nat} (T:Tw n A g) {i:Nat} (h:i<n):g (g i)=i:=by
 rcases T.only (g i) i (T.lt i h) h (T.eq i h).symm with z | z
 ·exact absurd z.symm (T.ne i h)
 ·exact z.symm
noncomputable def addP (P:List (Int × List Nat)) (a:Int) (i:Nat):List (Int × List Nat) :=
 if (P.any λe=>decide (e.1=a))=true then P.map (λe=>if e.1=a then (e.1,e.2++[i]) else e) else P++[(a,[i])]
noncomputable def plc (A:Nat->Int) (t:Nat):List (Int × List Nat):=(List.range t).foldl (λP i=>addP P (A i) i) []
theorem plc_succ (A:Nat->Int) (t:Nat):plc A (t+1)=addP (plc A t) (A t) t:=by
 unfold plc;rw [List.range_succ,List.foldl_append];rfl
theorem addP_keys (P:List (Int × List Nat)) (a:Int) (i:Nat):(addP P a i).map (·.1)=if (P.any λe=>decide (e.1=a))=true then P.map (·.1) else P.map (·.1)++[a]:=by
 unfold addP
 by_cases h:(P.any λe=>decide (e.1=a))=true
 ·rw [if_pos h,if_pos h,List.map_map]
  apply List.map_congr_left
  intro e _
  show (if e.1=a then (e.1,e.2++[i]) else e).1=e.1
  split <;> rfl
 ·rw [if_neg h,if_neg h,List.map_append];rfl
theorem plc_ok (A:Nat->Int):∀t,((plc A t).map (·.1)).Nodup/\(∀e∈plc A t,e.2=(List.range t).filter (λi=>decide (A i=e.1))/\e.2≠[])/\∀i,i<t->∃e∈plc A t,e.1=A i:=by
 intro t
 induction t with
 | zero=>exact ⟨List.nodup_nil,(λe h=>by cases h),λi h=>absurd h (Nat.not_lt_zero _)⟩
 | succ t ih =>
  obtain ⟨h1,h2,h3⟩:=ih
  rw [plc_succ]
  have hr:∀(p:Nat->Bool),(List.range (t+1)).filter p=(List.range t).filter p++if p t then [t] else []:=λp=>by
   rw [List.range_succ,List.filter_append]
   congr 1
   by_cases hp:p t=true
   ·simp [hp]
   ·simp [hp]
  by_cases h:((plc A t).any λe=>decide (e.1=A t))=true
  ·refine ⟨by rw [addP_keys,if_pos h];exact h1,λe he=>?_,λi hi=>?_⟩
   ·unfold addP at he
    rw [if_pos h] at he
    obtain ⟨e',he',rfl⟩:=List.mem_map.mp he
    obtain ⟨a1,a2⟩:=h2 e' he'
    by_cases hk:e'.1=A t
    ·rw [if_pos hk]
     refine ⟨?_,by simp⟩
     show e'.2++[t]=_
     rw [hr,← a1,if_pos (by simp [hk])]
    ·rw [if_neg hk]
     refine ⟨?_,a2⟩
     rw [hr,← a1,if_neg (by simp;exact λz=>hk z.symm),List.append_nil]
   ·have hmem:∀e∈plc A t,∃e'∈addP (plc A t) (A t) t,e'.1=e.1:=λe he=>by
     have:e.1∈(addP (plc A t) (A t) t).map (·.1):=by rw [addP_keys,if_pos h];exact List.mem_map.mpr ⟨e,he,rfl⟩
     obtain ⟨e',h1',h2'⟩:=List.mem_map.mp this
     exact ⟨e',h1',h2'⟩
    by_cases hit:i<t
    ·obtain ⟨e,he,q⟩:=h3 i hit
     obtain ⟨e',a1,a2⟩:=hmem e he
     exact ⟨e',a1,a2.trans q⟩
    ·have:i=t:=by omega
     subst this
     obtain ⟨e,he,q⟩:=List.any_eq_true.mp h
     obtain ⟨e',a1,a2⟩:=hmem e he
     exact ⟨e',a1,a2.trans (of_decide_eq_true q)⟩
  ·have hno:∀e∈plc A t,e.1≠A t:=λe he z=>h (List.any_eq_true.mpr ⟨e,he,decide_eq_true z⟩)
   have hadd:addP (plc A t) (A t) t=plc A t++[(A t,[t])]:=by unfold addP;rw [if_neg h]
   rw [hadd]
   refine ⟨?_,λe he=>?_,λi hi=>?_⟩
   ·rw [List.map_append]
    refine List.nodup_append.mpr ⟨h1,by simp,λa ha b hb=>?_⟩
    obtain ⟨e,he,rfl⟩:=List.mem_map.mp ha
    have:b=A t:=by simpa using hb
    rw [this];exact hno e he
   ·rcases List.mem_append.mp he with he | he
    ·obtain ⟨a1,a2⟩:=h2 e he
     refine ⟨?_,a2⟩
     rw [hr,← a1,if_neg (by simp;exact λz=>hno e he z.symm),List.append_nil]
    ·have ee:e=(A t,[t]):=by simpa using he
     subst ee
     refine ⟨?_,by simp⟩
     rw [hr,if_pos (by simp)]
     have:(List.range t).filter (λi=>decide (A i=A t))=[]:=by
      rw [List.filter_eq_nil_iff]
      intro i hi
      have hi':i<t:=List.mem_range.mp hi
      obtain ⟨e,he,q⟩:=h3 i hi'
      simp
      intro z
      exact hno e he (q.trans z)
     show [t]=List.filter (λi=>decide (A i=A t)) (List.range t)++[t]
     rw [this];rfl
   ·by_cases hit:i<t
    ·obtain ⟨e,he,q⟩:=h3 i hit
     exact ⟨e,List.mem_append_left _ he,q⟩
    ·have:i=t:=by omega
     subst this
     exact ⟨_,List.mem_append_right _ (List.mem_singleton.mpr rfl),rfl⟩
theorem plc_two {n:Nat} {A:Nat->Int} {g:Nat->Nat} (T:Tw n A g):(∀e∈plc A n,∃i,i<n/\e.2=[i,g i])/\∀i,i<n->∃e∈plc A n,i∈e.2:=by
 obtain ⟨_,h2,h3⟩:=plc_ok A n
 constructor
 ·intro e he
  obtain ⟨a1,a2⟩:=h2 e he
  have mem:∀k,k∈e.2↔k<n/\A k=e.1:=λk=>by rw [a1,List.mem_filter,List.mem_range];simp
  have nd:e.2.Nodup:=by rw [a1];exact List.nodup_range.sublist List.filter_sublist
  cases hl:e.2 with
  | nil=>exact absurd hl a2
  | cons i r =>
   rw [hl] at mem nd
   obtain ⟨hi,hA⟩:=(mem i).mp List.mem_cons_self
   obtain ⟨n1,n2⟩:=List.nodup_cons.mp nd
   refine ⟨i,hi,?_⟩
   have gm:g i∈i::r:=(mem (g i)).mpr ⟨T.lt i hi,(T.eq i hi).trans hA⟩
   have gr:g i∈r:=(List.mem_cons.mp gm).resolve_left (T.ne i hi)
   have all:∀k∈r,k=g i:=λk hk=>by
    obtain ⟨k1,k2⟩:=(mem k).mp (List.mem_cons_of_mem _ hk)
    rcases T.only i k hi k1 (k2.trans hA.symm) with z | z
    ·exact absurd (z ▸ hk) n1
    ·exact z
   have hr:r=[g i]:=by
    cases r with
    | nil=>cases gr
    | cons x r' =>
     have hx:=all x List.mem_cons_self
     cases r' with
     | nil=>rw [hx]
     | cons y r'' =>
      have hy:=all y (List.mem_cons_of_mem _ List.mem_cons_self)
      have:=(List.nodup_cons.mp n2).1
      exact absurd (by rw [hx,← hy];exact List.mem_cons_self) this
   rw [hr]
 ·intro i hi
  obtain ⟨e,he,q⟩:=h3 i hi
  obtain ⟨a1,_⟩:=h2 e he
  exact ⟨e,he,by rw [a1,List.mem_filter];exact ⟨List.mem_range.mpr hi,by simp [q]⟩⟩
noncomputable def nxt (e:Nat) (q:Int × Int):Int × Int:=if q.1 = -1 then (-1,(q.2+1) % (e:Int)) else (q.1,(q.2-1) % 4)
noncomputable def nx (m e i:Nat):Nat:=if i<4*m then 4*(i / 4)+(i % 4+3) % 4 else 4*m+(i-4*m+1) % e
theorem nx_lt {m e i:Nat} (h:i<4*m+e):nx m e i<4*m+e:=by
 unfold nx
 by_cases hi:i<4*m
 ·rw [if_pos hi];omega
 ·rw [if_neg hi];have:=Nat.mod_lt (i-4*m+1) (show 0<e by omega);omega
theorem sp_nx {m e i:Nat} (h:i<4*m+e):sp m (nx m e i)=nxt e (sp m i):=by
 unfold nx
 by_cases hi:i<4*m
 ·rw [if_pos hi,sp_in (by omega) (by omega)]
  unfold sp nxt
  rw [if_pos hi,if_neg (by dsimp only;omega)]
  congr 1
  dsimp only
  omega
 ·rw [if_neg hi,sp_out]
  unfold sp nxt
  rw [if_neg hi,if_pos rfl]
  congr 1
theorem nx_inj {m e i j:Nat} (hi:i<4*m+e) (hj:j<4*m+e) (h:nx m e i=nx m e j):i=j:=by
 unfold nx at h
 by_cases h1:i<4*m
 ·rw [if_pos h1] at h
  by_cases h2:j<4*m
  ·rw [if_pos h2] at h;omega
  ·rw [if_neg h2] at h;omega
 ·rw [if_neg h1] at h
  by_cases h2:j<4*m
  ·rw [if_pos h2] at h;omega
  ·rw [if_neg h2] at h
   have a:(i-4*m+1) % e=(j-4*m+1) % e:=by omega
   have b1:(i-4*m+1) % e=if i-4*m+1=e then 0 else i-4*m+1:=by
    by_cases q:i-4*m+1=e
    ·rw [if_pos q,q,Nat.mod_self]
    ·rw [if_neg q];exact Nat.mod_eq_of_lt (by omega)
   have b2:(j-4*m+1) % e=if j-4*m+1=e then 0 else j-4*m+1:=by
    by_cases q:j-4*m+1=e
    ·rw [if_pos q,q,Nat.mod_self]
    ·rw [if_neg q];exact Nat.mod_eq_of_lt (by omega)
   rw [b1,b2] at a
   split at a <;> split at a <;> omega
theorem sorted_same:∀{l r:List (List Int)},l.Perm r->l.Pairwise (λa b=>HT.lexLt b a=false)->r.Pairwise (λa b=>HT.lexLt b a=false)->l=r
 | [],r,p,_,_=>(List.Perm.nil_eq p)
 | a::l,[],p,_,_=>by have:=p.length_eq;simp at this
 | a::l,b::r,p,ha,hb=>by
  obtain ⟨a1,a2⟩:=List.pairwise_cons.mp ha
  obtain ⟨b1,b2⟩:=List.pairwise_cons.mp hb
  have hab:HT.lexLt b a=false:=by
   rcases List.mem_cons.mp (p.mem_iff.mpr (List.mem_cons_self (a:=b))) with z | z
   ·rw [z];cases q:HT.lexLt a a with
    | false=>rfl
    | true=>have:=SortT.lex_asym _ _ q;rw [q] at this;cases this
   ·exact a1 b z
  have hba:HT.lexLt a b=false:=by
   rcases List.mem_cons.mp (p.mem_iff.mp (List.mem_cons_self (a:=a))) with z | z
   ·rw [z];cases q:HT.lexLt b b with
    | false=>rfl
    | true=>have:=SortT.lex_asym _ _ q;rw [q] at this;cases this
   ·exact b1 a z
  have e:=SortT.lex_anti a b hba hab
  subst e
  rw [sorted_same (p.cons_inv) a2 b2]
end M
namespace L2
open PySem PySem.Spec PyProof.Rows
structure Lam where
 qual:Str
 args:Arguments
 body:Expr
 scope:Scope
 names:List Str
noncomputable abbrev anyO:HO:=.ext λ_=>True
noncomputable abbrev Lam.obj (L:Lam) (cl:List (Str × Addr)) (pm:Value) (c':Addr) (ctv:Value):Obj:=PySem.W.kla_obj "<lambda>" L.qual L.args L.body L.scope cl pm c' ctv
noncomputable def CloPre (H:Hp) (L:Lam) (a:Addr) (cl:List (Str × Addr)):Prop :=
 ∃(c':Addr) (oc:Obj) (vs:Array Value) (t:Tok) (pm ctv:Value) (u:HO),H a=some (.frz (L.obj cl pm c' ctv) anyO)/\H c'=some (.frz oc u)/\oc.data=.fields vs/\vs[1]? = some (.str L.qual t)
noncomputable def CellsAt (H:Hp):List (Str × Addr)->List V->Prop
 | [],[]=>True
 | p::cl,x::xs=>(∃oo v,H p.2=some (.frz oo anyO)/\oo.data=.cell (some v)/\RelV x v)/\CellsAt H cl xs
 | _,_=>False
noncomputable def CloAt (H:Hp) (L:Lam) (a:Addr) (xs:List V):Prop :=
 ∃cl:List (Str × Addr),CloPre H L a cl/\cl.map (·.1)=L.names/\(cl.map (·.2)).Nodup/\CellsAt H cl xs
section
variable {H H':Hp} {L:Lam} {a:Addr} {cl:List (Str × Addr)} {xs:List V}
theorem CloPre.keeps (hi:∀b o u,H b=some (.frz o u)->H' b=some (.frz o u)) (x:CloPre H L a cl):CloPre H' L a cl:=by
 obtain ⟨c',oc,vs,t,pm,ctv,u,h1,h2,r⟩:=x
 exact ⟨c',oc,vs,t,pm,ctv,u,hi _ _ _ h1,hi _ _ _ h2,r⟩
theorem CellsAt.keeps (hi:∀b o u,H b=some (.frz o u)->H' b=some (.frz o u)):∀{cl:List (Str × Addr)} {xs:List V},CellsAt H cl xs->CellsAt H' cl xs
 | [],[],_=>trivial
 | p::cl,x::xs,⟨⟨oo,v,h1,r⟩,q⟩=>⟨⟨oo,v,hi _ _ _ h1,r⟩,CellsAt.keeps hi q⟩
 | [],_::_,h=>h.elim
 | _::_,[],h=>h.elim
theorem CloAt.keeps (hi:∀b o u,H b=some (.frz o u)->H' b=some (.frz o u)) (x:CloAt H L a xs):CloAt H' L a xs:=by
 obtain ⟨cl,h1,h2,h3,h4⟩:=x
 exact ⟨cl,h1.keeps hi,h2,h3,h4.keeps hi⟩
theorem CellsAt.mem:∀{cl:List (Str × Addr)} {xs:List V},CellsAt H cl xs->∀p∈cl,∃oo v,H p.2=some (.frz oo anyO)/\oo.data=.cell (some v)
 | p::cl,x::xs,⟨⟨oo,v,h1,h2,_⟩,q⟩,p',h=>by
  rcases List.mem_cons.mp h with rfl | h
  ·exact ⟨oo,v,h1,h2⟩
  ·exact CellsAt.mem q p' h
 | _::_,[],h,_,_=>h.elim
theorem CellsAt.length:∀{cl:List (Str × Addr)} {xs:List V},CellsAt H cl xs->cl.length=xs.length
 | [],[],_=>rfl
 | p::cl,x::xs,⟨_,q⟩=>by rw [List.length_cons,List.length_cons,CellsAt.length q]
 | [],_::_,h=>h.elim
 | _::_,[],h=>h.elim
theorem CellsAt.get:∀{cl:List (Str × Addr)} {xs:List V} {i:Nat} {x:V},CellsAt H cl xs->xs[i]? = some x->∃p oo v,cl[i]? = some p/\H p.2=some (.frz oo anyO)/\oo.data=.cell (some v)/\RelV x v
 | p::cl,x::xs,0,y,⟨⟨oo,v,h⟩,q⟩,e=>by
  simp at e;subst e
  exact ⟨p,oo,v,by simp,h⟩
 | p::cl,x::xs,i+1,y,⟨_,q⟩,e=>by
  obtain ⟨p',oo,v,h⟩:=CellsAt.get (i:=i) q (by simpa using e)
  exact ⟨p',oo,v,by simpa using h⟩
 | [],[],_,_,_,e=>by simp at e
 | [],_::_,_,_,h,_=>h.elim
 | _::_,[],_,_,h,_=>h.elim
end
noncomputable def rmC (H:Hp) (cs:List Addr):Hp:=λb=>if b∈cs then none else H b
noncomputable def putC (H2 H:Hp) (cs:List Addr):Hp:=λb=>if b∈cs then H b else H2 b
theorem rmC_in {H:Hp} {cs:List Addr} {b:Addr} (h:b∈cs):rmC H cs b=none:=if_pos h
theorem rmC_out {H:Hp} {cs:List Addr} {b:Addr} (h:b∉cs):rmC H cs b=H b:=if_neg h
theorem rmC_none {H:Hp} {cs:List Addr} {b:Addr} (h:H b=none):rmC H cs b=none:=by unfold rmC;split <;> first | rfl | exact h
theorem putC_in {H2 H:Hp} {cs:List Addr} {b:Addr} (h:b∈cs):putC H2 H cs b=H b:=if_pos h
theorem putC_out {H2 H:Hp} {cs:List Addr} {b:Addr} (h:b∉cs):putC H2 H cs b=H2 b:=if_neg h
noncomputable def AreCells (H:Hp) (cs:List Addr):Prop:=∀b∈cs,∃oo v,H b=some (.frz oo anyO)/\oo.data=.cell v
section
variable {P:Program} {w:World} {K:PySem.W.Frag} {mg:Str->Option Value} {base:Heap} {A:Around} {outer:List Env} {s s':Shared} {H H2:Hp} {cs:List Addr} {h:Heap}
theorem AreCells.out (c:AreCells H cs) {b:Addr} {o:HO} (e:H b=some o) (n:∀oo v,o=.frz oo anyO->oo.data=.cell v->False):b∉cs:=λhb=>by
 obtain ⟨oo,v,e1,e2⟩:=c b hb
 rw [e] at e1
 cases e1
 exact n oo v rfl e2
theorem HOk.rm (ok:HOk P w H h) (c:AreCells H cs):HOk P w (rmC H cs) h:=λa o e=>by
 have ha:a∉cs:=λz=>by rw [rmC_in z] at e;cases e
 rw [rmC_out ha] at e
 refine (ok a o e).stay (λb u _ q=>q) (λb q=>?_) (λb xs q=>?_) λb u v vs q hd=>?_
 ·rw [rmC_out (c.out q λ_ _ z _=>by cases z)];exact q
 ·rw [rmC_out (c.out q λ_ _ z _=>by cases z)];exact q
 ·rw [rmC_out (c.out q λoo v z hd'=>by cases z;rw [hd] at hd';cases hd')];exact q
theorem Env0.rm (e:Env0 P w K mg base A outer s H) (c:AreCells H cs):Env0 P w K mg base A outer s (rmC H cs) :=
 ⟨e.frames,e.mod,λb o q=>⟨(e.bs b o q).1,rmC_none (e.bs b o q).2⟩,e.bsz,e.funs,λb hb=>rmC_none (e.frf b hb),e.hok.rm c,e.bare⟩
theorem CE.back {Q Q':VK} {u:Value} (e:Env0 P w K mg base A outer s H) (c:AreCells H cs) (x:CE outer P w (rmC H cs) s Q' u s') (hq:∀v H2,(∀b∈cs,H2 b=none)->Q' v H2->Q v (putC H2 H cs)):CE outer P w H s Q u s':=by
 obtain ⟨v,H2,os,bare,un,hok,r,q⟩:=x
 have gone:∀b∈cs,H2 b=none:=λb hb=>by
  obtain ⟨oo,v,e1,_⟩:=c b hb
  obtain ⟨e2,_⟩:=e.hok b _ e1
  exact un.free b _ e2 (rmC_in hb) (by simp)
 have outN:∀b,H b=none->b∉cs:=λb n hb=>by
  obtain ⟨oo,v,e1,_⟩:=c b hb
  rw [n] at e1;cases e1
 have out2:∀b o,H2 b=some o->b∉cs:=λb o q hb=>by rw [gone b hb] at q;cases q
 refine ⟨v,putC H2 H cs,os,bare,⟨λb o q n=>un.keep b o q (rmC_none n),λb o q n=>un.slot b o q (rmC_none n),λb o q n hx=>?_,un.there,λb xs q=>?_,λb o v' q=>?_,λb ps q=>?_⟩,λa o q=>?_,r,hq v H2 gone q⟩
 ·rw [putC_out (outN b n)];exact un.free b o q (rmC_none n) hx
 ·have z:=c.out q λ_ _ z _=>by cases z
  rw [putC_out z];exact un.tups b xs (by rw [rmC_out z];exact q)
 ·by_cases z:b∈cs
  ·rw [putC_in z];exact q
  ·rw [putC_out z];exact un.frzs b o v' (by rw [rmC_out z];exact q)
 ·have z:=c.out q λ_ _ z _=>by cases z
  obtain ⟨more,e1⟩:=un.tbls b ps (by rw [rmC_out z];exact q)
  exact ⟨more,by rw [putC_out z];exact e1⟩
 ·by_cases z:a∈cs
  ·rw [putC_in z] at q
   obtain ⟨oo,v',e1,_⟩:=c a z
   rw [e1] at q
   cases q
   obtain ⟨e2,_⟩:=e.hok a _ e1
   have e3:=un.keep a _ e2 (rmC_in z) (λhb=>by rw [e.frf a hb] at e1;cases e1) (by simp)
   exact ⟨e3,trivial,⟨_,e3⟩,λ_ _ _ _=>trivial⟩
  ·rw [putC_out z] at q
   refine (hok a o q).stay (λb u _ q=>q) (λb q=>?_) (λb xs q=>?_) λb u v vs q _=>?_
   ·rw [putC_out (out2 b _ q)];exact q
   ·rw [putC_out (out2 b _ q)];exact q
   ·rw [putC_out (out2 b _ q)];exact q
end
noncomputable def addC (H:Hp) (h:Heap) (cs:List Addr):Hp:=λb=>if b∈cs then (h.get? b).map λo=>.frz o anyO else H b
section
variable {P:Program} {w:World} {K:PySem.W.Frag} {mg:Str->Option Value} {base:Heap} {A:Around} {outer:List Env} {s s':Shared} {H H2:Hp} {cs:List Addr}
theorem addC_in {h:Heap} {b:Addr} {o:Obj} (hb:b∈cs) (e:h.get? b=some o):addC H h cs b=some (.frz o anyO):=by unfold addC;rw [if_pos hb,e];rfl
theorem addC_out {h:Heap} {b:Addr} (hb:b∉cs):addC H h cs b=H b:=if_neg hb
theorem addC_same {h:Heap} (n:∀b∈cs,H b=none):∀b o,H b=some o->addC H h cs b=some o:=λb o e=>by
 rw [addC_out λhb=>by rw [n b hb] at e;cases e];exact e
theorem HOk.addC {h:Heap} (ok:HOk P w H h) (n:∀b∈cs,H b=none) (t:∀b∈cs,∃o,h.get? b=some o):HOk P w (addC H h cs) h:=λa o e=>by
 by_cases z:a∈cs
 ·obtain ⟨ob,eb⟩:=t a z
  rw [addC_in z eb] at e
  cases e
  exact ⟨eb,trivial,⟨_,eb⟩,λ_ _ _ _=>trivial⟩
 ·rw [addC_out z] at e
  exact (ok a o e).stay (λb u _ q=>q) (λb q=>addC_same n b _ q) (λb xs q=>addC_same n b _ q) λb u v vs q _=>addC_same n b _ q
theorem Env0.addC (e:Env0 P w K mg base A outer s H) (n:∀b∈cs,H b=none) (t:∀b∈cs,∃o,s.heap.get? b=some o) (hb:∀b∈cs,base.get? b=none) (hf:∀b∈cs,b∉frs outer):Env0 P w K mg base A outer s (addC H s.heap cs) :=
 ⟨e.frames,e.mod,λb o q=>⟨(e.bs b o q).1,by rw [addC_out λz=>by rw [hb b z] at q;cases q];exact (e.bs b o q).2⟩,e.bsz,e.funs,λb z=>by rw [addC_out λy=>hf b y z];exact e.frf b z,e.hok.addC n t,e.bare⟩
theorem CE.unC {Q Q':VK} {u:Value} (n:∀b∈cs,H b=none) (t:∀b∈cs,∃o,s.heap.get? b=some o/\∃v,o.data=.cell v) (x:CE outer P w (addC H s.heap cs) s Q' u s') (hq:∀v H2,AreCells H2 cs->Q' v H2->Q v (rmC H2 cs)):CE outer P w H s Q u s':=by
 obtain ⟨v,H2,os,bare,un,hok,r,q⟩:=x
 have isC:AreCells H2 cs:=λb hb=>by
  obtain ⟨o,e,v,hv⟩:=t b hb
  exact ⟨o,v,un.frzs b o _ (addC_in hb e),hv⟩
 have outS:∀b o,H b=some o->b∉cs:=λb o q hb=>by rw [n b hb] at q;cases q
 have kept:∀b∈cs,∀o,s.heap.get? b=some o->s'.heap.get? b=some o:=λb hb o e=>(hok b _ (un.frzs b o _ (addC_in hb e))).1
 refine ⟨v,rmC H2 cs,os,bare,⟨λb o q n' hb hx=>?_,λb o q n' hb hx=>?_,λb o q n' hx=>?_,λb o q hx=>?_,λb xs q=>?_,λb o v' q=>?_,λb ps q=>?_⟩,hok.rm isC,r,hq v H2 isC q⟩
 ·by_cases z:b∈cs
  ·exact kept b z o q
  ·exact un.keep b o q (by rw [addC_out z];exact n') hb hx
 ·by_cases z:b∈cs
  ·exact ⟨o.slots,kept b z o q⟩
  ·exact un.slot b o q (by rw [addC_out z];exact n') hb hx
 ·by_cases z:b∈cs
  ·exact rmC_in z
  ·rw [rmC_out z];exact un.free b o q (by rw [addC_out z];exact n') hx
 ·exact un.there b o q hx
 ·have z:=outS b _ q
  rw [rmC_out z];exact un.tups b xs (by rw [addC_out z];exact q)
 ·have z:=outS b _ q
  rw [rmC_out z];exact un.frzs b o v' (by rw [addC_out z];exact q)
 ·have z:=outS b _ q
  obtain ⟨more,e⟩:=un.tbls b ps (by rw [addC_out z];exact q)
  exact ⟨more,by rw [rmC_out z];exact e⟩
end
end L2
namespace L2
open PySem PySem.Spec PyProof.Rows
open PySem.W (kla_obj kla_fn envX CodeHd codeHd_of_K codeHdIn tabObj)
noncomputable def BltAt (mg:Str->Option Value) (base:Heap):Prop:=∃bm ob,mg "__builtins__" = some (.ref bm)/\bm≠builtinsNs/\base.get? bm=some ob/\ob.cls=.type "module" /\ ob.dict=some builtinsNs/\ob.data=.plain
noncomputable def Tabs (TB:List (Addr × Array Value)) (H:Hp):Prop:=∀p∈TB,∃more,H p.1=some (.tbl (p.2++more))
theorem Tabs.un {TB:List (Addr × Array Value)} {fs ex:List Addr} {H H':Hp} {h h':Heap} (t:Tabs TB H) (u:Un fs ex H H' h h'):Tabs TB H':=λp hp=>by
 obtain ⟨m,e⟩:=t p hp
 obtain ⟨m2,e2⟩:=u.tbls _ _ e
 exact ⟨m++m2,by rw [e2,Array.append_assoc]⟩
noncomputable abbrev tgOf (pos:Pos) (q:Str):Array Value:=#[rawInt pos.line,rawInt pos.col,.str q 0]
theorem tg0 {a b c:Value} {more:Array Value}:(#[a,b,c]++more).getD 0 .none=a:=by rw [Array.getD_eq_getD_getElem?,Array.getElem?_append_left (by show 0<3;decide)];rfl
theorem tg1 {a b c:Value} {more:Array Value}:(#[a,b,c]++more).getD 1 .none=b:=by rw [Array.getD_eq_getD_getElem?,Array.getElem?_append_left (by show 1<3;decide)];rfl
theorem tg2 {a b c:Value} {more:Array Value}:(#[a,b,c]++more).getD 2 .none=c:=by rw [Array.getD_eq_getD_getElem?,Array.getElem?_append_left (by show 2<3;decide)];rfl
section
variable {X:Cx}
theorem pe_lam {L:Lam} {c P:Addr} {lpos:Pos} {clos:List (Str × Addr)} (hcode:X.env.code=.ref c) (hd:codeHdIn X.K c P=true) (hT:∃more,X.H₀ P=some (.tbl (tgOf lpos L.qual++more))) (hb:BltAt X.mg X.base)
  (hq:X.env.qual ++ "<lambda>" = L.qual:=by rfl) (hcl:closureFor L.scope X.env=pure clos:=by rfl) (hdef:defaultsOf L.args X.env=([],[]):=by rfl) :
  PE X (.Lambda L.args L.body L.scope lpos) (λσ H Q=>∀f H',H f=none->Same H H'->CloPre H' L f clos->Q (.ref f) H'):=by
 intro pins s σ H Q I h
 refine PySem.W.kla_eval hdef ?_
 rw [hq]
 obtain ⟨more0,e0⟩:=hT
 obtain ⟨more,eP⟩:=I.base.tbls P _ e0
 rw [Array.append_assoc] at eP
 obtain ⟨ts,eT,alt⟩:=I.hok P _ eP
 rw [tg0,tg1,tg2] at alt
 obtain ⟨bm,ob,b1,b2,b3,b4,b5,b6⟩:=hb
 have hbm:=I.bs bm ob b3
 have hPbm:bm≠P:=λz=>by rw [z] at hbm;rw [eP] at hbm;cases hbm.2
 obtain ⟨og,esg,epg,eg,dg,rg⟩:=id I.mod.glob
 have hGP:mainGlobals≠P:=λz=>by
  have:=(I.bs _ og eg).2
  rw [z,eP] at this;cases this
 have hbmG:bm≠mainGlobals:=λz=>by
  rw [z,eg] at b3
  cases b3
  rw [dg] at b6;cases b6
 have hgl:s.heap.Ns mainGlobals X.mg:=I.mod.glob.keeps I.bk
 have BA:s.heap.BuiltinsAt X.mg P:=⟨bm,ob,b1,b2,hbmG,hPbm,hbm.1,b4,b5,b6⟩
 have C:CodeHd s.heap c P:=codeHd_of_K I.kIn hd
 rcases alt with rfl | ⟨k,oc,u,vs,t,q,t',z1,z2,z3,z4,z5⟩
 ·refine PySem.W.kla_makeFunction hcl I.ok.glob hgl hcode C eT trivial rfl hGP BA λc' ctv h' tk hx hge hlt hrec htb=>?_
  obtain ⟨c2,oc,vs,t,e2,hoc,hod,hv⟩:=hrec
  cases e2
  generalize hpm:(X.mg "__name__").getD .none=pm
  have hcn:H c'=none:=I.hok.fresh hge
  have hfn:H h'.objs.size=none:=I.hok.fresh (Nat.le_trans hge (Nat.le_of_lt hlt))
  have hfc:h'.objs.size≠c':=Nat.ne_of_gt hlt
  have old:∀b o,s.heap.get? b=some o->b≠P->(h'.push (L.obj clos pm c' ctv)).get? b=some o:=λb o e n=>Heap.get?_push_of_some _ (hx b o n e)
  have lt:∀b o,s.heap.get? b=some o->b≠h'.objs.size/\b≠c':=λb o e=>⟨Nat.ne_of_lt (Nat.lt_trans (Nat.lt_of_lt_of_le (Heap.lt_size e) hge) hlt),Nat.ne_of_lt (Nat.lt_of_lt_of_le (Heap.lt_size e) hge)⟩
  have nP:∀b,H b=none->b≠P:=λb n z=>by rw [z,eP] at n;cases n
  have sm:∀b o,H b=some o->upd (upd H c' (.frz oc anyO)) h'.objs.size (.frz (L.obj clos pm c' ctv) anyO) b=some o:=λb o e=>by
   rw [upd_ne (ne_of_none e hfn),upd_ne (ne_of_none e hcn)];exact e
  have hc2:upd (upd H c' (.frz oc anyO)) h'.objs.size (.frz (L.obj clos pm c' ctv) anyO) c'=some (.frz oc anyO):=by rw [upd_ne (Ne.symm hfc),upd_same]
  have I':Inv X pins σ (upd (upd H c' (.frz oc anyO)) h'.objs.size (.frz (L.obj clos pm c' ctv) anyO)) { s with heap:=h'.push (L.obj clos pm c' ctv),toks:=tk }:=by
   refine I.un ⟨λb o e n _ _=>old b o e (nP b n),λb o e n _ _=>⟨o.slots,old b o e (nP b n)⟩,λb o e n _=>?_,λb o e _=>?_,λb xs e=>sm _ _ e,λb o v e=>sm _ _ e,λb ps e=>⟨#[],by rw [sm _ _ e];simp⟩⟩ λa o e=>?_
   ·rw [upd_ne (lt b o e).1,upd_ne (lt b o e).2];exact n
   ·by_cases z:b=P
    ·exact ⟨_,by rw [z];exact Heap.get?_push_of_some _ htb⟩
    ·exact ⟨_,old b o e z⟩
   ·by_cases z1:a=h'.objs.size
    ·subst z1
     rw [upd_same] at e
     cases e
     have e3:=Heap.get?_push_size h' (o:=L.obj clos pm c' ctv) rfl
     exact ⟨e3,trivial,⟨_,e3⟩,λ_ _ _ _=>trivial⟩
    ·rw [upd_ne z1] at e
     by_cases z2:a=c'
     ·subst z2
      rw [upd_same] at e
      cases e
      have e3:=Heap.get?_push_of_some (L.obj clos pm a ctv) hoc
      exact ⟨e3,trivial,⟨_,e3⟩,λ_ _ _ _=>trivial⟩
     ·rw [upd_ne z2] at e
      by_cases z3:a=P
      ·subst z3
       rw [eP] at e
       cases e
       refine ⟨_,Heap.get?_push_of_some _ htb,.inr ⟨c',oc,anyO,vs,t,L.qual,0,?_,hc2,hod,tg2,hv⟩⟩
       rw [tg0,tg1];rfl
      ·refine (I.hok a o e).stay (λb u hb q=>old b u q λz=>?_) (λb q=>sm _ _ q) (λb xs q=>sm _ _ q) λb u v vs q _=>sm _ _ q
       rcases hb with hb | hb
       ·exact z3 (hb ▸ z)
       ·rw [z,eP] at hb;cases hb
  exact ⟨.ref h'.objs.size,_,I',rfl,h _ _ hfn sm ⟨c',oc,vs,t,pm,ctv,anyO,upd_same,hc2,hod,hv⟩⟩
 ·cases z4
  refine PySem.W.kla_makeFunctionHit (cv:=.ref k) hcl I.ok.glob hgl hcode C eT (by rw [z1];exact trivial) (by rw [z1];simp [codeAmong,rawInt]) BA λctv h' tk hk hsz=>?_
  generalize hpm:(X.mg "__name__").getD .none=pm
  have hfn:H h'.objs.size=none:=I.hok.fresh hsz
  have e3:=Heap.get?_push_size h' (o:=L.obj clos pm k ctv) rfl
  have sm:∀b o,H b=some o->upd H h'.objs.size (.frz (L.obj clos pm k ctv) anyO) b=some o:=λb o e=>by rw [upd_ne (ne_of_none e hfn)];exact e
  exact ⟨.ref h'.objs.size,_,I.laid (o:=.frz (L.obj clos pm k ctv) anyO) (λb o e=>Heap.get?_push_of_some _ (hk b o e)) hsz ⟨e3,trivial,⟨_,e3⟩,λ_ _ _ _=>trivial⟩,rfl,h _ _ hfn sm ⟨k,oc,vs,t,pm,ctv,u,upd_same,sm _ _ z2,z3,z5⟩⟩
end
noncomputable def LamOk (P:Program) (w:World) (K:PySem.W.Frag) (mg:Str->Option Value) (base:Heap) (k:Nat) (L:Lam) (sp:Sp):Prop :=
 ∀(A:Around) (outer:List Env) (s:Shared) (H:Hp) (u:Value) (y:V) (xs:List V) (a:Addr) (Q:VK),Room k A->Env0 P w K mg base A outer s H->CloAt H L a xs->RelV y u->sp (y::xs) H Q E0 ->
  codeAny (model P w) A (.call (.ref a) ⟨[u],[]⟩) (CR CX0 outer P w H s Q E0) s
noncomputable def cxLam (P:Program) (w:World) (K:PySem.W.Frag) (mg:Str->Option Value) (base:Heap) (L:Lam) (p:Str) (f:Addr) (cd:Value) (cl:List (Str × Addr)) (A:Around) (outer:List Env) (s:Shared) (H:Hp):Cx where
 prog:=P
 w:=w
 K:=K
 mg:=mg
 base:=base
 A:=A.deeper (envX L.qual L.scope s.heap.objs.size f cd cl)
 N:=p::L.names
 s₀:=s
 H₀:=H
 env:=envX L.qual L.scope s.heap.objs.size f cd cl
 outer:=outer
 stack:=envX L.qual L.scope s.heap.objs.size f cd cl::outer
 ex:=[]
 calm:=true
 fn:=λx=>decide (x=p)
 pn:=[]
 xe:=λ_ _=>False
structure LamScope (L:Lam) (p:Str):Prop where
 kind:L.scope.kind=.function
 co:L.scope.isCoroutine=false
 gen:L.scope.isGenerator=false
 cell:∀x∈L.scope.names,x.2 ≠ .cell
 par:L.scope.names.lookup p=some .local
 free:∀x∈L.scope.names,x.2=.free->x.1∈L.names
 vis:∀x∈L.names,L.scope.names.lookup x=some .free
 nd:(p::L.names).Nodup
theorem lookup_at:∀{cl:List (Str × Addr)} {i:Nat} {q:Str × Addr},(cl.map (·.1)).Nodup->cl[i]? = some q->cl.lookup q.1=some q.2
 | p::cl,0,q,_,e=>by
  simp at e;subst e
  simp [List.lookup]
 | p::cl,i+1,q,nd,e=>by
  have nd':=List.nodup_cons.mp nd
  have e':cl[i]? = some q:=by simpa using e
  have:q.1≠p.1:=λz=>nd'.1 (by show p.1∈_;rw [← z];exact List.mem_map_of_mem (f:=λx:Str × Addr=>x.1) (List.mem_of_getElem? e'))
  obtain ⟨p1,p2⟩:=p
  rw [List.lookup_cons,show (q.1 == p1)=false by simpa using this]
  exact lookup_at nd'.2 e'
 | [],_,_,_,e=>by simp at e
theorem lam_of {P:Program} {w:World} {K:PySem.W.Frag} {mg:Str->Option Value} {base:Heap} {k:Nat} {L:Lam} {p:Str} {sp:Sp} (S:LamScope L p)
  (hbind:∀(cl:List (Str × Addr)) (pm cdv ct u:Value),bindArgs (kla_fn "<lambda>" L.qual L.args L.body L.scope cl pm cdv ct) ⟨[u],[]⟩=pure [(p,u)])
  (hbody:∀(A:Around) (outer:List Env) (s:Shared) (H:Hp) (f:Addr) (cd:Value) (cl:List (Str × Addr)) (y:V) (xs:List V) (Q:VK),Room k (A.deeper (envX L.qual L.scope s.heap.objs.size f cd cl))->AreCells H (cl.map (·.2))->sp (y::xs) H Q E0 ->
   ∃t,PE (cxLam P w K mg base L p f cd cl A outer s (rmC H (cl.map (·.2)))) L.body t/\t (some y::xs.map some) (rmC H (cl.map (·.2))) (λv H2=>(∀b∈cl.map (·.2),H2 b=none)->Q v (putC H2 H (cl.map (·.2))))) :
  LamOk P w K mg base (k+1) L sp:=by
 intro A outer s H u y xs a Q hr e0 hc ry hsp
 obtain ⟨cl,⟨c',oc,vs,t,pm,ctv,u1,h1,h2,h3,h4⟩,hnm,hnd,hcs⟩:=hc
 have ha:=(e0.hok a _ h1).1
 have hcode:=(e0.hok c' _ h2).1
 have isC:AreCells H (cl.map (·.2)):=λb hb=>by
  obtain ⟨q,hq,rfl⟩:=List.mem_map.mp hb
  obtain ⟨oo,v,e1,e2⟩:=hcs.mem q hq
  exact ⟨oo,_,e1,e2⟩
 have ndn:(cl.map (·.1)).Nodup:=by rw [hnm];exact (List.nodup_cons.mp S.nd).2
 have KX:K.In s.heap:=e0.mod.kin.keeps λb o e=>(e0.bs b o e).1
 have lim:s.heap.NoLimit:=e0.mod.nolimit.keeps λb o e=>(e0.bs b o e).1
 refine PySem.W.kla_callFunE hr.depth ha rfl S.co S.gen rfl ⟨c',oc,vs,t,rfl,hcode,h3,h4⟩ ?_
 rw [hbind]
 refine wpAny_pure (wpAny_newFunctionEnv S.cell (λz hz=>by rw [List.mem_singleton.mp hz];exact S.par) (λh₁ hns hsb=>⟨lim.fresh _ hsb,?_⟩) S.kind)
 show codeAny _ _ (.expr L.body (envX L.qual L.scope s.heap.objs.size a (.ref c') cl)) _ _
 have hk₁:∀b o,s.heap.get? b=some o->h₁.get? b=some o:=λb o e=>hsb.extBut b o (Nat.ne_of_lt (Heap.lt_size e)) (Heap.get?_push_of_some _ e)
 have er:=e0.rm isC
 obtain ⟨tt,ht,hq⟩:=hbody A outer s H a (.ref c') cl y xs Q (hr.deeper _) isC hsp
 have cellAt:∀x c,cl.lookup x=some c->∃v,h₁.IsCell c v:=λx c e=>by
  obtain ⟨oo,v,e1,e2⟩:=isC c (List.mem_map.mpr ⟨(x,c),PySem.mem_of_lookup e,rfl⟩)
  exact ⟨_,oo,hk₁ _ _ (e0.hok c _ e1).1,e2⟩
 have noA:∀b:Addr,b∉(cxLam P w K mg base L p a (.ref c') cl A outer s (rmC H (cl.map (·.2)))).ex:=λb z=>absurd (show b∈([]:List Addr) from z) (by simp)
 have lkN:∀y c,cl.lookup y=some c->y∈L.names:=λy c e=>by rw [← hnm];exact List.mem_map.mpr ⟨(y,c),PySem.mem_of_lookup e,rfl⟩
 have I:Inv (cxLam P w K mg base L p a (.ref c') cl A outer s (rmC H (cl.map (·.2)))) [] (some y::xs.map some) (rmC H (cl.map (·.2))) { s with heap:=h₁,toks:=s.toks+1 }:=by
  refine ⟨⟨e0.mod,S.kind,rfl,rfl,Nat.le_refl _,λy z c h1 h2=>?_,λy hy=>?_,λy c hf h=>?_,λ_=>hr.hd,Around.frames_deeper e0.frames,.inr ⟨rfl,rfl⟩,λb z=>absurd z (noA b),er.bs,er.bsz,λb _ _=>noA b,λb z=>absurd z (noA b),er.funs,er.frf⟩,
   rfl,e0.bare,Un.kept hk₁,⟨_,hns,λi z v h1 h2 h3=>?_⟩,cellAt,rmC_none (e0.hok.fresh (Nat.le_refl _)),λy c h=>rmC_in (List.mem_map.mpr ⟨(y,c),PySem.mem_of_lookup h,rfl⟩),λq hq=>absurd (show q∈([]:List (Addr × Obj)) from hq) (by simp),er.hok.kept hk₁,?_⟩
  ·have m1:=PySem.mem_of_lookup h1
   have m2:=PySem.mem_of_lookup h2
   obtain ⟨i,hi,e1⟩:=List.getElem_of_mem m1
   obtain ⟨j,hj,e2⟩:=List.getElem_of_mem m2
   have:i=j:=by
    have hi2:i<cl.length:=hi
    have hj2:j<cl.length:=hj
    have e1:cl[i]=_:=e1
    have e2:cl[j]=_:=e2
    have hi':i<(cl.map λq:Str × Addr=>q.2).length:=by rw [List.length_map];exact hi2
    have hj':j<(cl.map λq:Str × Addr=>q.2).length:=by rw [List.length_map];exact hj2
    exact (List.getElem_inj (h₀:=hi') (h₁:=hj') hnd).mp (by rw [List.getElem_map,List.getElem_map,e1,e2])
   subst this
   rw [e1] at e2
   cases e2;rfl
  ·have hy:L.scope.names.lookup y=some .cell\/L.scope.names.lookup y=some .free:=hy
   rcases hy with hy | hy
   ·exact absurd rfl (S.cell _ (PySem.mem_of_lookup hy))
   ·have:=S.free _ (PySem.mem_of_lookup hy) rfl
    rw [← hnm] at this
    obtain ⟨q,hq,e⟩:=List.mem_map.mp this
    obtain ⟨i,hi⟩:=List.getElem?_of_mem hq
    have e:q.1=y:=e
    exact ⟨q.2,by rw [← e];exact lookup_at ndn hi⟩
  ·have hf:decide (y=p)=true:=hf
   have:=of_decide_eq_true hf
   subst this
   exact absurd (lkN _ _ h) (List.nodup_cons.mp S.nd).1
  ·cases i with
   | zero =>
    simp at h2
    subst h2
    have:z=p:=by
     have h1:(p::L.names)[0]? = some z:=h1
     simpa using h1.symm
    subst this
    exact ⟨u,ry,.inl ⟨S.par,by simp [List.lookup]⟩⟩
   | succ i =>
    have hx:xs[i]? = some v:=by
     rw [List.getElem?_cons_succ,List.getElem?_map] at h2
     cases q:xs[i]? with
     | none=>rw [q] at h2;cases h2
     | some x=>rw [q] at h2;simp at h2;rw [h2]
    have hz:L.names[i]? = some z:=by
     have h1:(p::L.names)[i+1]? = some z:=h1
     simpa using h1
    obtain ⟨q,oo,uv,e1,e2,e3,e4⟩:=hcs.get hx
    have e5:q.1=z:=by
     rw [← hnm,List.getElem?_map,e1] at hz
     simpa using hz
    refine ⟨uv,e4,.inr ⟨.inr (S.vis z (List.mem_of_getElem? hz)),q.2,by rw [← e5];exact lookup_at ndn e1,oo,hk₁ _ _ (e0.hok q.2 _ e2).1,e3⟩⟩
  ·show (some y::xs.map some).length=(p::L.names).length
   rw [List.length_cons,List.length_map,List.length_cons,← hnm,List.length_map,hcs.length]
 refine PySem.W.kla_codeExpr (wpAny_mono (ht [] _ _ _ _ I hq) (λv s' hz=>?_) λe s' hz=>hz.elim)
 obtain ⟨v',H2,J,rv,q⟩:=hz
 have ce:CE outer P w (rmC H (cl.map (·.2))) s (λv H2=>(∀b∈cl.map (·.2),H2 b=none)->Q v (putC H2 H (cl.map (·.2)))) v s':=⟨v',H2,J.os,J.bare,J.base,J.hok,rv,q⟩
 exact CE.back e0 isC ce λv H2 hn hq=>hq hn
section
variable {X:Cx} {k:Nat}
theorem pe_callClo {i:Nat} {L:Lam} {sp:Sp} {e:Expr} {te:TE} {v:Str} {p pos:Pos} (F:LamOk X.prog X.w X.K X.mg X.base k L sp) (hr:Room k X.A) (he:PE X e te) (hN:X.N[i]? = some v) (hv:Vis X.env.scope v) (hd:(v == ("__debug__" : Str))=false:=by decide) (hcd:(v == ("__classdict__" : Str))=false:=by decide)
  (hs:starEach [e] X.env=(false,eval e X.env)::starEach [] X.env:=by rfl) (hpl:(backTo pos (starEach [] X.env)).any (·.1)=false:=by rfl) :
  PE X (.Call (.Name v p) [e] [] pos) (λσ H Q=>∃a xs,σ[i]? = some (some (.ref a))/\CloAt H L a xs/\te σ H λy H1=>CloAt H1 L a xs/\sp (y::xs) H1 Q E0):=by
 intro pins s σ H Q I h
 obtain ⟨a,xs,h1,h2,h3⟩:=h
 refine wpAny_Call_Name_kw (thn (pe_var hN hv hd hcd pins s σ H (λx H'=>x=.ref a/\H'=H) I ⟨_,h1,rfl,rfl⟩) λf s1 z=>?_)
 obtain ⟨x,H0,I0,rx,rfl,rfl⟩:=z
 cases rx
 have fn:∀{H:Hp} {s:Shared},Inv X pins σ H s->CloAt H L a xs->PySem.W.FnAt a s.heap:=λI ⟨cl,⟨c',oc,vs,t,pm,ctv,u,e1,_⟩,_⟩=>⟨_,_,_,_,(I.hok a _ e1).1⟩
 refine PySem.W.callWith_F (fn I0 h2) ?_ hs hpl
 rw [hs]
 refine Calls.spliced_cons (thn (he pins s1 σ H0 _ I0 h3) λu s2 ⟨y,H1,I1,r1,q1,q2⟩=>?_)
 refine Calls.spliced_nil ⟨fn I1 q1,?_⟩
 refine wpAny_call (codeAny_mono (F X.A X.stack s2 H1 u y xs a Q hr I1.env0 q1 r1 q2) λr s' hq=>?_)
 cases r with
 | error e=>exact hq.elim
 | ok fl =>
  cases fl with
  | ret u=>exact I1.after hq
  | next=>exact False.elim hq
  | brk=>exact False.elim hq
  | cont=>exact False.elim hq
noncomputable def capd (σ:St):List Nat->List V->Prop
 | [],[]=>True
 | i::ix,x::xs=>σ[i]? = some (some x)/\capd σ ix xs
 | _,_=>False
noncomputable def CapOk (X:Cx):List Nat->List (Str × Addr)->Prop
 | [],[]=>True
 | i::ix,p::cl=>X.N[i]? = some p.1/\X.env.scope.names.lookup p.1=some .cell/\X.env.cells.lookup p.1=some p.2/\X.fn p.1=true/\CapOk X ix cl
 | _,_=>False
theorem capd_cells {pins:List (Addr × Obj)} {σ:St} {H H':Hp} {s:Shared} (I:Inv X pins σ H s):∀{ix:List Nat} {cl:List (Str × Addr)} {xs:List V},CapOk X ix cl->capd σ ix xs->(∀p∈cl,∀o,s.heap.get? p.2=some o->H' p.2=some (.frz o anyO))->CellsAt H' cl xs
 | [],[],[],_,_,_=>trivial
 | i::ix,p::cl,x::xs,⟨h1,h2,h3,_,h5⟩,⟨g1,g2⟩,hk=>by
  obtain ⟨m,_,hl⟩:=I.loc
  obtain ⟨u,r,l⟩:=hl i p.1 x h1 g1 (.inr (.inl h2))
  refine ⟨?_,capd_cells I h5 g2 λq hq=>hk q (List.mem_cons_of_mem _ hq)⟩
  rcases l with ⟨k,_⟩ | ⟨_,c,e,oo,e1,e2⟩
  ·have k:X.env.scope.names.lookup p.1=some .local:=k
   rw [h2] at k;cases k
  ·rw [h3] at e
   cases e
   exact ⟨oo,u,hk p List.mem_cons_self oo e1,e2,r⟩
 | [],[],_::_,_,h,_=>h.elim
 | _::_,_::_,[],_,h,_=>h.elim
 | [],_::_,_,h,_,_=>h.elim
 | _::_,[],_,h,_,_=>h.elim
theorem cap_mem:∀{ix:List Nat} {cl:List (Str × Addr)},CapOk X ix cl->∀p∈cl,X.env.cells.lookup p.1=some p.2/\X.fn p.1=true
 | i::ix,q::cl,⟨_,_,h3,h4,h5⟩,p,h=>by
  rcases List.mem_cons.mp h with rfl | h
  ·exact ⟨h3,h4⟩
  ·exact cap_mem h5 p h
 | [],_::_,h,_,_=>h.elim
theorem pe_callLam {L:Lam} {f:Addr} {fd:FuncData} {ps:List Str} {sp:Sp} {x:Str} {p pos:Pos} {e lam:Expr} {te:TE} {ix:List Nat} {clos:List (Str × Addr)} (F:FnOk X.prog X.w X.K X.mg X.base CX0 k f fd ps sp) (hr:Room k X.A) (hg:Gl X x) (hm:X.mg x=some (.ref f)) (hk:PySem.W.keepIn X.K (.ref f)=true) (hb:Binds X.K fd ps [])
  (he:PE X e te) (hlam:PE X lam (λσ H Q=>∀f H',H f=none->Same H H'->CloPre H' L f clos->Q (.ref f) H')) (hc:CapOk X ix clos) (hn:clos.map (·.1)=L.names) (hnd:(clos.map (·.2)).Nodup) (hdb:(x == ("__debug__" : Str))=false:=by decide)
  (hs:starEach [e,lam] X.env=(false,eval e X.env)::starEach [lam] X.env:=by rfl) (hs2:starEach [lam] X.env=(false,eval lam X.env)::starEach [] X.env:=by rfl) (hpl:(backTo pos (starEach [lam] X.env)).any (·.1)=false:=by rfl) :
  PE X (.Call (.Name x p) [e,lam] [] pos) (λσ H Q=>te σ H λy H1=>∃xs,capd σ ix xs/\∀f H2,H1 f=none->Same H1 H2->CloAt H2 L f xs->sp [y,.ref f] H2 (λv H3=>∀H4,(∀b ob,H3 b=some ob->(∀o u,ob ≠ .frz o u)->H4 b=some ob)->(∀b ob,H1 b=some ob->H3 b=some ob->H4 b=some ob)->Q v H4) E0):=by
 intro pins s σ H Q I h
 refine wpAny_Call_Name_kw (ld_glob I hg hm ?_ hdb)
 refine PySem.W.callWith_K (h₀:=X.base) I.ok.mod.kin hk ?_ hs hpl
 rw [hs]
 show wpAny _ _ (spliced ((false,eval e X.env)::backTo pos (starEach [lam] X.env))) _ _ s
 refine Calls.spliced_cons (thn (he pins s σ H _ I h) λu s1 ⟨y,H1,I1,r1,xs,cx,q1⟩=>?_)
 rw [hs2]
 show wpAny _ _ (spliced ((false,eval lam X.env)::backTo pos (starEach [] X.env))) _ _ s1
 refine Calls.spliced_cons (thn (hlam pins s1 σ H1 (λv H2=>∃f,v=.ref f/\H1 f=none/\Same H1 H2/\CloPre H2 L f clos) I1 λf H' n sm cp=>⟨f,rfl,n,sm,cp⟩) λu2 s2 z=>?_)
 obtain ⟨v2,H2,I2,r2,f2,rfl,n2,sm2,cp2⟩:=z
 cases r2
 refine Calls.spliced_nil ⟨I2.kIn,?_⟩
 have cN:∀b∈clos.map (·.2),H2 b=none:=λb hb=>by
  obtain ⟨q,hq,rfl⟩:=List.mem_map.mp hb
  exact I2.freeC q.1 q.2 (cap_mem hc q hq).1
 have cT:∀b∈clos.map (·.2),∃o,s2.heap.get? b=some o/\∃v,o.data=.cell v:=λb hb=>by
  obtain ⟨q,hq,rfl⟩:=List.mem_map.mp hb
  obtain ⟨v,o,ho,hd⟩:=I2.cell q.1 q.2 (cap_mem hc q hq).1
  exact ⟨o,ho,v,hd⟩
 have cU:∀b∈clos.map (·.2),X.s₀.heap.objs.size<=b:=λb hb=>by
  obtain ⟨q,hq,rfl⟩:=List.mem_map.mp hb
  exact I2.ok.cab q.1 q.2 (cap_mem hc q hq).2 (cap_mem hc q hq).1
 have cB:∀b∈clos.map (·.2),X.base.get? b=none:=λb hb=>Heap.get?_none_of_le (Nat.le_trans I2.ok.bsz (cU b hb))
 have cF:∀b∈clos.map (·.2),b∉frs X.stack:=λb hb z=>by
  rcases List.mem_cons.mp (I2.stkSub b z) with z | z
  ·obtain ⟨q,hq,rfl⟩:=List.mem_map.mp hb
   exact I2.cne q.1 q.2 (cap_mem hc q hq).1 z
  ·obtain ⟨_,o,ho,_⟩:=I2.ok.funs.mem z
   exact absurd (Nat.lt_of_lt_of_le (Heap.lt_size ho) (cU b hb)) (Nat.lt_irrefl _)
 have eA:=I2.env0.addC cN (λb hb=>let ⟨o,e,_⟩:=cT b hb;⟨o,e⟩) cB cF
 have smA:Same H2 (addC H2 s2.heap (clos.map (·.2))):=addC_same cN
 have cA:CloAt (addC H2 s2.heap (clos.map (·.2))) L f2 xs:=⟨clos,cp2.keeps λb o u e=>smA b _ e,hn,hnd,capd_cells I2 hc cx λq hq o e=>addC_in (List.mem_map_of_mem hq) e⟩
 have hsp:=q1 f2 _ n2 (sm2.trans smA) cA
 have rv:Vals [y,V.ref f2] [u,.ref f2]:=.cons r1 (.cons rfl .nil)
 have hl:([u,Value.ref f2]++[]).length=ps.length:=F.len _ _ _ _ hsp
 have hbb:=hb s2 [u,.ref f2] I2.kIn hl
 rw [List.append_nil] at hbb
 refine wpAny_call (codeAny_mono (F.run X.A X.stack s2 _ ⟨[u,.ref f2],[]⟩ [u,.ref f2] [y,.ref f2] _ E0 hr eA hbb rv hsp) λr s' hq=>?_)
 cases r with
 | error e=>exact hq.elim
 | ok fl =>
  cases fl with
  | next=>exact False.elim hq
  | brk=>exact False.elim hq
  | cont=>exact False.elim hq
  | ret u =>
   refine I2.after (CE.unC (Q:=Q) cN cT hq λv H3 isC hv=>hv _ (λb ob e nf=>?_) λb ob e e3=>?_)
   ·rw [rmC_out (isC.out e λo _ z _=>nf _ _ z)];exact e
   ·rw [rmC_out λhb=>by have:=sm2 b ob e;rw [cN b hb] at this;cases this];exact e3
end
end L2
namespace PV
open PySem PySem.Spec L2
inductive Ty where
 | int | bool | str | tuple | list | dict
 deriving DecidableEq
noncomputable def Ty.nm:Ty->String
 | .int=>"int" | .bool=>"bool" | .str=>"str" | .tuple=>"tuple" | .list=>"list" | .dict=>"dict"
inductive D where
 | non
 | bl (b:Bool)
 | int (i:Int)
 | str (x:Str)
 | tup (xs:List D)
 | lst (xs:List D)
 | dik (kvs:List (Key × D))
 | dit (kvs:List (List Key × D))
 | kls (xs:List D)
 | ty (t:Ty)
 | fdk (kvs:List (Key × D))
 | ftp (xs:List D)
 | fls (xs:List D)
 | fdt (kvs:List (List Key × D))
 | obj (x:Str) (fs:List (Str × Int))
 | clo (L:Lam) (ds:List D)
noncomputable def imm:HO->Bool
 | .tup _=>true
 | .frz _ _=>true
 | _=>false
noncomputable def FzL (K:PySem.W.Frag) (H:Hp) (a:Addr) (xs:List V):Prop :=
 (∃o,H a=some (.frz o (.lst xs))) \/
  ∃(o:Obj) (its:Array Value) (n:Nat),K.lookup a=some o/\o.cls=.type "list" /\ o.dict=none/\o.data=.seq its n/\its.size<=sizeLine/\Vals xs its.toList
theorem FzL.sq {K:PySem.W.Frag} {H:Hp} {a:Addr} {xs:List V} (h:FzL K H a xs):SqL K H a xs:=by
 rcases h with h | h
 ·exact .inl (.inr h)
 ·exact .inr h
mutual
inductive Rep (K:PySem.W.Frag) (H:Hp):D->V->List Addr->Prop
 | non:Rep K H .non .non []
 | bl (b:Bool):Rep K H (.bl b) (.bl b) []
 | int (i:Int):Rep K H (.int i) (.int i) []
 | str (x:Str):Rep K H (.str x) (.str x) []
 | tup {a:Addr} {xs:List V} {ds:List D} {F:List Addr} (e:H a=some (.tup xs)) (r:Reps K H ds xs F):Rep K H (.tup ds) (.ref a) F
 | lst {a:Addr} {xs:List V} {ds:List D} {F:List Addr} (e:H a=some (.lst xs)) (r:Reps K H ds xs F):Rep K H (.lst ds) (.ref a) (a::F)
 | dik {a:Addr} {kvs:List (Key × V)} {ds:List (Key × D)} {F:List Addr} (e:H a=some (.dK kvs)) (r:RepK K H ds kvs F):Rep K H (.dik ds) (.ref a) (a::F)
 | dit {a:Addr} {kvs:List (List Key × V)} {ds:List (List Key × D)} {F:List Addr} (e:H a=some (.dT kvs)) (r:RepT K H ds kvs F):Rep K H (.dit ds) (.ref a) (a::F)
 | kls {a:Addr} {xs:List V} {ds:List D} (e:FzL K H a xs) (r:Reps K H ds xs []):Rep K H (.kls ds) (.ref a) []
 | ty (t:Ty):Rep K H (.ty t) (.ty t.nm) []
 | fdk {a:Addr} {o:Obj} {kvs:List (Key × V)} {ds:List (Key × D)} {F:List Addr} (e:H a=some (.frz o (.dK kvs))) (r:RepK K H ds kvs F):Rep K H (.fdk ds) (.ref a) F
 | ftp {a:Addr} {o:Obj} {xs:List V} {ds:List D} (e:H a=some (.frz o (.tup xs))) (hd:o.dict=none) (r:Reps K H ds xs []):Rep K H (.ftp ds) (.ref a) []
 | fls {a:Addr} {o:Obj} {xs:List V} {ds:List D} (e:H a=some (.frz o (.lst xs))) (r:Reps K H ds xs []):Rep K H (.fls ds) (.ref a) []
 | fdt {a:Addr} {o:Obj} {kvs:List (List Key × V)} {ds:List (List Key × D)} {F:List Addr} (e:H a=some (.frz o (.dT kvs))) (r:RepT K H ds kvs F):Rep K H (.fdt ds) (.ref a) F
 | obj {a:Addr} {x:Str} {o:Obj} {φ:Heap->Prop} {fs:List (Str × Int)} (e:H a=some (.frz o (.ext φ))) (hc:∃C,o.cls=.ref C/\PySem.W.nsIn K mainGlobals x=some (some (.ref C))) (hf:fs=[]\/∃dx od,o.dict=some dx/\H dx=some (.frz od (.xd (fs.map λp=>(p.1,V.int p.2))))):Rep K H (.obj x fs) (.ref a) []
 | clo {a:Addr} {L:Lam} {xs:List V} {ds:List D} {F:List Addr} (e:CloAt H L a xs) (r:Reps K H ds xs F):Rep K H (.clo L ds) (.ref a) F
inductive Reps (K:PySem.W.Frag) (H:Hp):List D->List V->List Addr->Prop
 | nil:Reps K H [] [] []
 | cons {d:D} {v:V} {ds:List D} {vs:List V} {F G:List Addr} (h:Rep K H d v F) (r:Reps K H ds vs G):Reps K H (d::ds) (v::vs) (F++G)
inductive RepK (K:PySem.W.Frag) (H:Hp):List (Key × D)->List (Key × V)->List Addr->Prop
 | nil:RepK K H [] [] []
 | cons {k:Key} {d:D} {v:V} {ds:List (Key × D)} {vs:List (Key × V)} {F G:List Addr} (h:Rep K H d v F) (r:RepK K H ds vs G):RepK K H ((k,d)::ds) ((k,v)::vs) (F++G)
inductive RepT (K:PySem.W.Frag) (H:Hp):List (List Key × D)->List (List Key × V)->List Addr->Prop
 | nil:RepT K H [] [] []
 | cons {k:List Key} {d:D} {v:V} {ds:List (List Key × D)} {vs:List (List Key × V)} {F G:List Addr} (h:Rep K H d v F) (r:RepT K H ds vs G):RepT K H ((k,d)::ds) ((k,v)::vs) (F++G)
end
noncomputable def ImmK (H H':Hp):Prop:=∀b ob,H b=some ob->imm ob=true->H' b=some ob
theorem ImmK.fzL {K:PySem.W.Frag} {H H':Hp} (hi:ImmK H H') {a:Addr} {xs:List V} (e:FzL K H a xs):FzL K H' a xs:=by
 rcases e with ⟨o,e⟩ | e
 ·exact .inl ⟨o,hi _ _ e rfl⟩
 ·exact .inr e
theorem Rep.frame {K:PySem.W.Frag} {H H':Hp} (hi:ImmK H H') {d:D} {v:V} {F:List Addr} (r:Rep K H d v F):(∀a∈F,H' a=H a)->Rep K H' d v F:=by
 refine Rep.rec (motive_1:=λd v F _=>(∀a∈F,H' a=H a)->Rep K H' d v F) (motive_2:=λd v F _=>(∀a∈F,H' a=H a)->Reps K H' d v F) (motive_3:=λd v F _=>(∀a∈F,H' a=H a)->RepK K H' d v F) (motive_4:=λd v F _=>(∀a∈F,H' a=H a)->RepT K H' d v F) ?_ ?_ ?_ ?_ ?_ ?_ ?_ ?_ ?_ ?_ ?_ ?_ ?_ ?_ ?_ ?_ ?_ ?_ ?_ ?_ ?_ ?_ r
 ·exact λ_=>.non
 ·exact λb _=>.bl b
 ·exact λb _=>.int b
 ·exact λb _=>.str b
 ·exact λe _ ih k=>.tup (hi _ _ e rfl) (ih k)
 ·exact λe _ ih k=>.lst ((k _ (List.mem_cons_self)).trans e) (ih λa h=>k a (List.mem_cons_of_mem _ h))
 ·exact λe _ ih k=>.dik ((k _ (List.mem_cons_self)).trans e) (ih λa h=>k a (List.mem_cons_of_mem _ h))
 ·exact λe _ ih k=>.dit ((k _ (List.mem_cons_self)).trans e) (ih λa h=>k a (List.mem_cons_of_mem _ h))
 ·exact λe _ ih k=>.kls (hi.fzL e) (ih k)
 ·exact λt _=>.ty t
 ·exact λe _ ih k=>.fdk (hi _ _ e rfl) (ih k)
 ·exact λe hd _ ih k=>.ftp (hi _ _ e rfl) hd (ih k)
 ·exact λe _ ih k=>.fls (hi _ _ e rfl) (ih k)
 ·exact λe _ ih k=>.fdt (hi _ _ e rfl) (ih k)
 ·exact λe hc hf _=>.obj (hi _ _ e rfl) hc (hf.imp id λ⟨dx,od,h1,h2⟩=>⟨dx,od,h1,hi _ _ h2 rfl⟩)
 ·exact λe _ ih k=>.clo (e.keeps λ_ _ _ q=>hi _ _ q rfl) (ih k)
 ·exact λ_=>.nil
 ·exact λ_ _ ih1 ih2 k=>.cons (ih1 λa q=>k a (List.mem_append.mpr (.inl q))) (ih2 λa q=>k a (List.mem_append.mpr (.inr q)))
 ·exact λ_=>.nil
 ·exact λ_ _ ih1 ih2 k=>.cons (ih1 λa q=>k a (List.mem_append.mpr (.inl q))) (ih2 λa q=>k a (List.mem_append.mpr (.inr q)))
 ·exact λ_=>.nil
 ·exact λ_ _ ih1 ih2 k=>.cons (ih1 λa q=>k a (List.mem_append.mpr (.inl q))) (ih2 λa q=>k a (List.mem_append.mpr (.inr q)))
theorem Reps.frame {K:PySem.W.Frag} {H H':Hp} (hi:ImmK H H') {d:List D} {v:List V} {F:List Addr} (r:Reps K H d v F) (k:∀a∈F,H' a=H a):Reps K H' d v F:=by
 induction d generalizing v F with
 | nil=>cases r;exact .nil
 | cons d ds ih=>cases r with | cons h r=>exact .cons (Rep.frame hi h λa q=>k a (List.mem_append.mpr (.inl q))) (ih r λa q=>k a (List.mem_append.mpr (.inr q)))
theorem RepK.frame {K:PySem.W.Frag} {H H':Hp} (hi:ImmK H H') {d:List (Key × D)} {v:List (Key × V)} {F:List Addr} (r:RepK K H d v F) (k:∀a∈F,H' a=H a):RepK K H' d v F:=by
 induction d generalizing v F with
 | nil=>cases r;exact .nil
 | cons d ds ih=>cases r with | cons h r=>exact .cons (Rep.frame hi h λa q=>k a (List.mem_append.mpr (.inl q))) (ih r λa q=>k a (List.mem_append.mpr (.inr q)))
theorem RepT.frame {K:PySem.W.Frag} {H H':Hp} (hi:ImmK H H') {d:List (List Key × D)} {v:List (List Key × V)} {F:List Addr} (r:RepT K H d v F) (k:∀a∈F,H' a=H a):RepT K H' d v F:=by
 induction d generalizing v F with
 | nil=>cases r;exact .nil
 | cons d ds ih=>cases r with | cons h r=>exact .cons (Rep.frame hi h λa q=>k a (List.mem_append.mpr (.inl q))) (ih r λa q=>k a (List.mem_append.mpr (.inr q)))
theorem Rep.dom {K:PySem.W.Frag} {H:Hp} {d:D} {v:V} {F:List Addr} (r:Rep K H d v F):∀a∈F,∃ob,H a=some ob/\imm ob=false:=by
 have cn:∀{b:Addr} {F:List Addr} {ob:HO},H b=some ob->imm ob=false->(∀a∈F,∃ob,H a=some ob/\imm ob=false)->∀a∈b::F,∃ob,H a=some ob/\imm ob=false:=λe hb ih a m=>(List.mem_cons.mp m).elim (λz=>z ▸ ⟨_,e,hb⟩) (ih a)
 have ap:∀{F G:List Addr},(∀a∈F,∃ob,H a=some ob/\imm ob=false)->(∀a∈G,∃ob,H a=some ob/\imm ob=false)->∀a∈F++G,∃ob,H a=some ob/\imm ob=false:=λih1 ih2 a m=>(List.mem_append.mp m).elim (ih1 a) (ih2 a)
 have no:∀a∈([]:List Addr),∃ob,H a=some ob/\imm ob=false:=λ_ m=>nomatch m
 refine Rep.rec (motive_1:=λ_ _ F _=>∀a∈F,∃ob,H a=some ob/\imm ob=false) (motive_2:=λ_ _ F _=>∀a∈F,∃ob,H a=some ob/\imm ob=false) (motive_3:=λ_ _ F _=>∀a∈F,∃ob,H a=some ob/\imm ob=false) (motive_4:=λ_ _ F _=>∀a∈F,∃ob,H a=some ob/\imm ob=false) no (λ_=>no) (λ_=>no) (λ_=>no) (λ_ _ ih=>ih) (λe _ ih=>cn e rfl ih) (λe _ ih=>cn e rfl ih) (λe _ ih=>cn e rfl ih) (λ_ _ _=>no) (λ_=>no) (λ_ _ ih=>ih) (λ_ _ _ _=>no) (λ_ _ _=>no) (λ_ _ ih=>ih) (λ_ _ _=>no) (λ_ _ ih=>ih) no (λ_ _=>ap) no (λ_ _=>ap) no (λ_ _=>ap) r
theorem Reps.dom {K:PySem.W.Frag} {H:Hp} {d:List D} {v:List V} {F:List Addr} (r:Reps K H d v F):∀a∈F,∃ob,H a=some ob/\imm ob=false:=by
 induction d generalizing v F with
 | nil=>cases r;exact λ_ m=>nomatch m
 | cons d ds ih=>cases r with | cons h r=>exact λa m=>(List.mem_append.mp m).elim (Rep.dom h a) (ih r a)
theorem RepK.dom {K:PySem.W.Frag} {H:Hp} {d:List (Key × D)} {v:List (Key × V)} {F:List Addr} (r:RepK K H d v F):∀a∈F,∃ob,H a=some ob/\imm ob=false:=by
 induction d generalizing v F with
 | nil=>cases r;exact λ_ m=>nomatch m
 | cons d ds ih=>cases r with | cons h r=>exact λa m=>(List.mem_append.mp m).elim (Rep.dom h a) (ih r a)
theorem RepT.dom {K:PySem.W.Frag} {H:Hp} {d:List (List Key × D)} {v:List (List Key × V)} {F:List Addr} (r:RepT K H d v F):∀a∈F,∃ob,H a=some ob/\imm ob=false:=by
 induction d generalizing v F with
 | nil=>cases r;exact λ_ m=>nomatch m
 | cons d ds ih=>cases r with | cons h r=>exact λa m=>(List.mem_append.mp m).elim (Rep.dom h a) (ih r a)
mutual
noncomputable def D.pure:D->Bool
 | .tup xs=>pureL xs
 | .lst _=>false
 | .dik _=>false
 | .dit _=>false
 | .kls _=>false
 | .non=>true
 | .bl _=>true
 | .int _=>true
 | .str _=>true
 | .ty _=>true
 | .fdk _=>false
 | .ftp _=>true
 | .fls _=>true
 | .fdt _=>false
 | .obj _ _=>true
 | .clo _ _=>false
noncomputable def pureL:List D->Bool
 | []=>true
 | d::r=>d.pure && pureL r
end
theorem pureL_iff {xs:List D}:pureL xs=true↔∀x∈xs,x.pure=true:=by
 induction xs with
 | nil=>simp [pureL]
 | cons d r ih=>simp only [pureL,Bool.and_eq_true,ih,List.mem_cons,forall_eq_or_imp]
theorem Rep.pure {K:PySem.W.Frag} {H:Hp} {d:D} {v:V} {F:List Addr} (r:Rep K H d v F):d.pure=true->F=[]/\Rep K H d v []:=by
 have no:∀{P:Prop} {b:Bool},b=false->b=true->P:=λh h'=>absurd (h.symm.trans h') (by simp)
 refine Rep.rec (motive_1:=λd v F _=>d.pure=true->F=[]/\Rep K H d v []) (motive_2:=λd v F _=>pureL d=true->F=[]/\Reps K H d v []) (motive_3:=λ_ _ _ _=>True) (motive_4:=λ_ _ _ _=>True) ?_ ?_ ?_ ?_ ?_ ?_ ?_ ?_ ?_ ?_ ?_ ?_ ?_ ?_ ?_ ?_ ?_ ?_ trivial (λ_ _ _ _=>trivial) trivial (λ_ _ _ _=>trivial) r
 ·exact λ_=>⟨rfl,.non⟩
 ·exact λb _=>⟨rfl,.bl b⟩
 ·exact λb _=>⟨rfl,.int b⟩
 ·exact λb _=>⟨rfl,.str b⟩
 ·exact λe _ ih p=>⟨(ih (by rw [D.pure] at p;exact p)).1,.tup e (ih (by rw [D.pure] at p;exact p)).2⟩
 ·exact λ_ _ _=>no (by rw [D.pure])
 ·exact λ_ _ _=>no (by rw [D.pure])
 ·exact λ_ _ _=>no (by rw [D.pure])
 ·exact λ_ _ _=>no (by rw [D.pure])
 ·exact λb _=>⟨rfl,.ty b⟩
 ·exact λ_ _ _=>no (by rw [D.pure])
 ·exact λe hd r _ _=>⟨rfl,.ftp e hd r⟩
 ·exact λe r _ _=>⟨rfl,.fls e r⟩
 ·exact λ_ _ _=>no (by rw [D.pure])
 ·exact λe hc hf _=>⟨rfl,.obj e hc hf⟩
 ·exact λ_ _ _=>no (by rw [D.pure])
 ·exact λ_=>⟨rfl,.nil⟩
 ·intro _ _ _ _ _ _ _ _ ih1 ih2 p
  rw [pureL,Bool.and_eq_true] at p
  obtain ⟨e1,r1⟩:=ih1 p.1
  obtain ⟨e2,r2⟩:=ih2 p.2
  subst e1 e2
  exact ⟨rfl,.cons (F:=[]) (G:=[]) r1 r2⟩
theorem Reps.pure {K:PySem.W.Frag} {H:Hp} {d:List D} {v:List V} {F:List Addr} (r:Reps K H d v F) (p:pureL d=true):F=[]/\Reps K H d v []:=by
 induction d generalizing v F with
 | nil=>cases r;exact ⟨rfl,.nil⟩
 | cons d ds ih =>
  cases r with
  | cons h r =>
   rw [pureL,Bool.and_eq_true] at p
   obtain ⟨e1,r1⟩:=h.pure p.1
   obtain ⟨e2,r2⟩:=ih r p.2
   subst e1 e2
   exact ⟨rfl,.cons (F:=[]) (G:=[]) r1 r2⟩
section
variable {K:PySem.W.Frag} {H:Hp}
theorem Reps.length {ds:List D} {xs:List V} {F:List Addr} (r:Reps K H ds xs F):xs.length=ds.length:=by
 induction ds generalizing xs F with
 | nil=>cases r;rfl
 | cons d ds ih=>cases r with | cons h r=>simp [ih r]
theorem Reps.append {ds es:List D} {xs ys:List V} {F G:List Addr} (r:Reps K H ds xs F) (q:Reps K H es ys G):Reps K H (ds++es) (xs++ys) (F++G):=by
 induction ds generalizing xs F with
 | nil=>cases r;exact q
 | cons d ds ih=>cases r with | cons h r=>rw [List.append_assoc];exact .cons h (ih r)
theorem Reps.one {d:D} {x:V} {F:List Addr} (h:Rep K H d x F):Reps K H [d] [x] F:=by
 have:=Reps.cons h (Reps.nil (K:=K) (H:=H))
 rwa [List.append_nil] at this
theorem Reps.snoc {ds:List D} {xs:List V} {d:D} {x:V} {F G:List Addr} (r:Reps K H ds xs F) (h:Rep K H d x G):Reps K H (ds++[d]) (xs++[x]) (F++G):=r.append (.one h)
theorem Reps.split {ds:List D} {xs:List V} {F:List Addr} {i:Nat} {d:D} (r:Reps K H ds xs F) (h:ds[i]? = some d) :
  ∃x A B C,xs[i]? = some x/\F=A++B++C/\Rep K H d x B/\Reps K H (ds.take i) (xs.take i) A/\Reps K H (ds.drop (i+1)) (xs.drop (i+1)) C:=by
 induction ds generalizing xs F i with
 | nil=>simp at h
 | cons e ds ih =>
  cases r with
  | @cons _ v _ vs F G p r =>
   cases i with
   | zero =>
    simp at h
    subst h
    exact ⟨v,[],F,G,rfl,by simp,p,.nil,by simpa using r⟩
   | succ i =>
    obtain ⟨x,A,B,C,h1,h2,h3,h4,h5⟩:=ih r (i:=i) (by simpa using h)
    exact ⟨x,F++A,B,C,by simpa using h1,by rw [h2];simp,h3,by simpa using Reps.cons p h4,by simpa using h5⟩
theorem Reps.get {ds:List D} {xs:List V} {F:List Addr} {i:Nat} {d:D} (r:Reps K H ds xs F) (h:ds[i]? = some d):∃x B,xs[i]? = some x/\Rep K H d x B/\B.Sublist F:=by
 obtain ⟨x,A,B,C,h1,h2,h3,_⟩:=r.split h
 exact ⟨x,B,h1,h3,h2 ▸ (List.sublist_append_right A B).trans (List.sublist_append_left _ C)⟩
theorem take_set_drop {α:Type} {l:List α} {i:Nat} {a:α} (h:i<l.length):l.set i a=l.take i++a::l.drop (i+1):=by
 rw [List.set_eq_take_append_cons_drop,if_pos h]
theorem erase_td {α:Type} (l:List α) (i:Nat):l.eraseIdx i=l.take i++l.drop (i+1):=List.eraseIdx_eq_take_drop_succ l i
theorem Reps.take {ds:List D} {xs:List V} {F:List Addr} (i:Nat) (r:Reps K H ds xs F):∃G,Reps K H (ds.take i) (xs.take i) G/\G.Sublist F:=by
 induction ds generalizing xs F i with
 | nil=>cases r;exact ⟨[],by simpa using Reps.nil,List.Sublist.slnil⟩
 | cons d ds ih =>
  cases r with
  | @cons _ v _ vs F G p r =>
   cases i with
   | zero=>exact ⟨[],by simpa using Reps.nil,List.nil_sublist _⟩
   | succ i =>
    obtain ⟨G',q,s⟩:=ih i r
    exact ⟨F++G',by simpa using Reps.cons p q,List.Sublist.append (List.Sublist.refl _) s⟩
theorem Reps.drop {ds:List D} {xs:List V} {F:List Addr} (i:Nat) (r:Reps K H ds xs F):∃G,Reps K H (ds.drop i) (xs.drop i) G/\G.Sublist F:=by
 induction ds generalizing xs F i with
 | nil=>cases r;exact ⟨[],by simpa using Reps.nil,List.Sublist.slnil⟩
 | cons d ds ih =>
  cases i with
  | zero=>exact ⟨F,by simpa using r,List.Sublist.refl _⟩
  | succ i =>
   cases r with
   | @cons _ v _ vs F G p r =>
    obtain ⟨G',q,s⟩:=ih i r
    exact ⟨G',by simpa using q,s.trans (List.sublist_append_right _ _)⟩
theorem Reps.flat {ds:List D} (f:D->V) (hf:∀d∈ds,Rep K H d (f d) []):Reps K H ds (ds.map f) []:=by
 induction ds with
 | nil=>exact .nil
 | cons d ds ih=>exact .cons (F:=[]) (G:=[]) (hf d List.mem_cons_self) (ih λe he=>hf e (List.mem_cons_of_mem _ he))
theorem Reps.ints (ns:List Int):Reps K H (ns.map D.int) (ns.map V.int) []:=by
 induction ns with
 | nil=>exact .nil
 | cons n ns ih=>exact .cons (F:=[]) (G:=[]) (.int n) ih
theorem Reps.of_ints {ns:List Int} {xs:List V} {F:List Addr} (r:Reps K H (ns.map D.int) xs F):xs=ns.map V.int/\F=[]:=by
 induction ns generalizing xs F with
 | nil=>cases r;exact ⟨rfl,rfl⟩
 | cons n ns ih =>
  cases r with
  | cons h r =>
   cases h
   obtain ⟨e1,e2⟩:=ih r
   exact ⟨by rw [e1];rfl,by rw [e2];rfl⟩
end
section
variable {K:PySem.W.Frag} {H:Hp} {v:V} {F:List Addr}
theorem Rep.iInt {i:Int} (r:Rep K H (.int i) v F):v=.int i:=by cases r;rfl
theorem Rep.iStr {i:Str} (r:Rep K H (.str i) v F):v=.str i:=by cases r;rfl
theorem Rep.iBl {i:Bool} (r:Rep K H (.bl i) v F):v=.bl i:=by cases r;rfl
theorem Rep.iTup {ds:List D} (r:Rep K H (.tup ds) v F):∃a xs,v=.ref a/\H a=some (.tup xs)/\Reps K H ds xs F:=by cases r with | tup e r=>exact ⟨_,_,rfl,e,r⟩
theorem Rep.iLst {ds:List D} (r:Rep K H (.lst ds) v F):∃a xs G,v=.ref a/\F=a::G/\H a=some (.lst xs)/\Reps K H ds xs G:=by cases r with | lst e r=>exact ⟨_,_,_,rfl,rfl,e,r⟩
theorem Rep.iDik {ds:List (Key × D)} (r:Rep K H (.dik ds) v F):∃a xs G,v=.ref a/\F=a::G/\H a=some (.dK xs)/\RepK K H ds xs G:=by cases r with | dik e r=>exact ⟨_,_,_,rfl,rfl,e,r⟩
theorem Rep.iDit {ds:List (List Key × D)} (r:Rep K H (.dit ds) v F):∃a xs G,v=.ref a/\F=a::G/\H a=some (.dT xs)/\RepT K H ds xs G:=by cases r with | dit e r=>exact ⟨_,_,_,rfl,rfl,e,r⟩
theorem Rep.iKls {ds:List D} (r:Rep K H (.kls ds) v F):∃a xs,v=.ref a/\F=[]/\FzL K H a xs/\Reps K H ds xs []:=by cases r with | kls e r=>exact ⟨_,_,rfl,rfl,e,r⟩
theorem Rep.iFdk {ds:List (Key × D)} (r:Rep K H (.fdk ds) v F):∃a o xs,v=.ref a/\H a=some (.frz o (.dK xs))/\RepK K H ds xs F:=by cases r with | fdk e r=>exact ⟨_,_,_,rfl,e,r⟩
end
section
variable {κ:Type} [DecidableEq κ]
noncomputable def valD (kvs:List (κ × D)) (k:κ):Option D:=(kvs.find? λkv=>decide (kv.1=k)).map (·.2)
noncomputable def putD (kvs:List (κ × D)) (k:κ) (v:D):List (κ × D) :=
 if (kvs.any λkv=>decide (kv.1=k))=true then kvs.map (λkv=>if kv.1=k then (kv.1,v) else kv) else kvs++[(k,v)]
noncomputable def dropD (kvs:List (κ × D)) (k:κ):List (κ × D):=kvs.filter λkv=>decide (kv.1≠k)
theorem valD_nil {k:κ}:valD ([]:List (κ × D)) k=none:=rfl
theorem valD_cons {p:κ × D} {r:List (κ × D)} {k:κ}:valD (p::r) k=if p.1=k then some p.2 else valD r k:=by
 unfold valD
 by_cases h:p.1=k
 ·rw [List.find?_cons_of_pos (by simpa using h),if_pos h];rfl
 ·rw [List.find?_cons_of_neg (by simpa using h),if_neg h]
theorem anyD_iff (k:κ):∀kvs:List (κ × D),(kvs.any λkv=>decide (kv.1=k))=(valD kvs k).isSome
 | []=>rfl
 | p::r=>by
  rw [List.any_cons,valD_cons,anyD_iff k r]
  by_cases h:p.1=k <;> simp [h]
theorem valD_map (k j:κ) (y:D):∀kvs:List (κ × D),valD (kvs.map λkv=>if kv.1=k then (kv.1,y) else kv) j=(valD kvs j).map λx=>if j=k then y else x
 | []=>rfl
 | p::r=>by
  rw [List.map_cons,valD_cons,valD_cons,valD_map k j y r]
  by_cases h:p.1=k
  ·rw [if_pos h]
   by_cases h':p.1=j
   ·simp [h',← h]
   ·simp [h']
  ·rw [if_neg h]
   by_cases h':p.1=j
   ·subst h';simp [h]
   ·simp [h']
theorem valD_snoc (k j:κ) (y:D):∀kvs:List (κ × D),valD (kvs++[(k,y)]) j=if (valD kvs j).isSome then valD kvs j else if k=j then some y else none
 | []=>by simp [valD_cons,valD_nil]
 | p::r=>by
  rw [List.cons_append,valD_cons,valD_cons,valD_snoc k j y r]
  by_cases h:p.1=j <;> simp [h]
theorem valD_put (kvs:List (κ × D)) (k j:κ) (y:D):valD (putD kvs k y) j=if j=k then some y else valD kvs j:=by
 unfold putD
 rw [anyD_iff]
 cases h:(valD kvs k).isSome with
 | true =>
  rw [if_pos rfl,valD_map]
  by_cases e:j=k
  ·subst e
   obtain ⟨x,hx⟩:=Option.isSome_iff_exists.mp h
   simp [hx]
  ·rw [if_neg e]
   cases valD kvs j <;> simp [e]
 | false =>
  rw [if_neg (by simp),valD_snoc]
  have hn:valD kvs k=none:=by simpa using h
  by_cases e:j=k
  ·subst e;simp [hn]
  ·have e':¬k=j:=λz=>e z.symm
   rw [if_neg e]
   cases valD kvs j <;> simp [e']
theorem length_putD (kvs:List (κ × D)) (k:κ) (v:D):(putD kvs k v).length<=kvs.length+1:=by
 unfold putD
 split <;> simp
end
section
variable {K:PySem.W.Frag} {H:Hp}
theorem RepK.length {ds:List (Key × D)} {xs:List (Key × V)} {F:List Addr} (r:RepK K H ds xs F):xs.length=ds.length:=by
 induction ds generalizing xs F with
 | nil=>cases r;rfl
 | cons d ds ih=>cases r with | cons h r=>simp [ih r]
theorem RepK.keys {ds:List (Key × D)} {xs:List (Key × V)} {F:List Addr} (r:RepK K H ds xs F):xs.map (·.1)=ds.map (·.1):=by
 induction ds generalizing xs F with
 | nil=>cases r;rfl
 | cons d ds ih=>cases r with | cons h r=>simp [ih r]
theorem RepK.val {ds:List (Key × D)} {xs:List (Key × V)} {F:List Addr} (r:RepK K H ds xs F) (k:Key) :
  (valD ds k=none/\valV xs k=none)\/∃d v B,valD ds k=some d/\valV xs k=some v/\Rep K H d v B/\B.Sublist F:=by
 induction ds generalizing xs F with
 | nil=>cases r;exact .inl ⟨rfl,rfl⟩
 | cons d ds ih =>
  cases r with
  | @cons j d v _ vs F G h r =>
   rw [valD_cons]
   by_cases e:j=k
   ·rw [valV_pos e,if_pos e]
    exact .inr ⟨d,v,F,rfl,rfl,h,List.sublist_append_left _ _⟩
   ·rw [valV_neg e,if_neg e]
    rcases ih r with q | ⟨d',v',B,h1,h2,h3,h4⟩
    ·exact .inl q
    ·exact .inr ⟨d',v',B,h1,h2,h3,h4.trans (List.sublist_append_right _ _)⟩
theorem RepK.append {ds es:List (Key × D)} {xs ys:List (Key × V)} {F G:List Addr} (r:RepK K H ds xs F) (q:RepK K H es ys G):RepK K H (ds++es) (xs++ys) (F++G):=by
 induction ds generalizing xs F with
 | nil=>cases r;exact q
 | cons d ds ih=>cases r with | cons h r=>rw [List.append_assoc];exact .cons h (ih r)
theorem RepK.put {ds:List (Key × D)} {xs:List (Key × V)} {F:List Addr} {k:Key} {d:D} {v:V} (r:RepK K H ds xs F) (h:Rep K H d v []):∃G,RepK K H (putD ds k d) (putK xs k v) G/\G.Sublist F:=by
 have hk:(xs.any λkv=>decide (kv.1=k))=(ds.any λkv=>decide (kv.1=k)):=by
  have e:=r.keys
  rw [show (xs.any λkv=>decide (kv.1=k))=(xs.map (·.1)).any (λj=>decide (j=k)) by rw [List.any_map];rfl,e,List.any_map];rfl
 unfold putD putK
 rw [hk]
 split
 ·clear hk
  rename_i hc
  clear hc
  induction ds generalizing xs F with
  | nil=>cases r;exact ⟨[],.nil,List.Sublist.slnil⟩
  | cons e ds ih =>
   cases r with
   | @cons j e u _ us F G p r =>
    obtain ⟨G',q,s⟩:=ih r
    by_cases ej:j=k
    ·exact ⟨[]++G',by simpa [ej] using RepK.cons (k:=k) h q,s.trans (List.sublist_append_right _ _)⟩
    ·exact ⟨F++G',by simpa [ej] using RepK.cons (k:=j) p q,List.Sublist.append (List.Sublist.refl _) s⟩
 ·refine ⟨F++[],r.append ?_,by simp⟩
  exact RepK.cons (F:=[]) (G:=[]) h .nil
theorem RepK.drop {ds:List (Key × D)} {xs:List (Key × V)} {F:List Addr} {k:Key} (r:RepK K H ds xs F):∃G,RepK K H (dropD ds k) (dropK xs k) G/\G.Sublist F:=by
 induction ds generalizing xs F with
 | nil=>cases r;exact ⟨[],.nil,List.Sublist.slnil⟩
 | cons e ds ih =>
  cases r with
  | @cons j e u _ us F G p r =>
   obtain ⟨G',q,s⟩:=ih r
   unfold dropD dropK at *
   by_cases ej:j=k
   ·exact ⟨G',by simpa [ej] using q,s.trans (List.sublist_append_right _ _)⟩
   ·exact ⟨F++G',by simpa [ej] using RepK.cons (k:=j) p q,List.Sublist.append (List.Sublist.refl _) s⟩
theorem RepT.length {ds:List (List Key × D)} {xs:List (List Key × V)} {F:List Addr} (r:RepT K H ds xs F):xs.length=ds.length:=by
 induction ds generalizing xs F with
 | nil=>cases r;rfl
 | cons d ds ih=>cases r with | cons h r=>simp [ih r]
theorem RepT.keys {ds:List (List Key × D)} {xs:List (List Key × V)} {F:List Addr} (r:RepT K H ds xs F):xs.map (·.1)=ds.map (·.1):=by
 induction ds generalizing xs F with
 | nil=>cases r;rfl
 | cons d ds ih=>cases r with | cons h r=>simp [ih r]
theorem RepT.val {ds:List (List Key × D)} {xs:List (List Key × V)} {F:List Addr} (r:RepT K H ds xs F) (k:List Key) :
  (valD ds k=none/\valV xs k=none)\/∃d v B,valD ds k=some d/\valV xs k=some v/\Rep K H d v B/\B.Sublist F:=by
 induction ds generalizing xs F with
 | nil=>cases r;exact .inl ⟨rfl,rfl⟩
 | cons d ds ih =>
  cases r with
  | @cons j d v _ vs F G h r =>
   rw [valD_cons]
   by_cases e:j=k
   ·rw [valV_pos e,if_pos e]
    exact .inr ⟨d,v,F,rfl,rfl,h,List.sublist_append_left _ _⟩
   ·rw [valV_neg e,if_neg e]
    rcases ih r with q | ⟨d',v',B,h1,h2,h3,h4⟩
    ·exact .inl q
    ·exact .inr ⟨d',v',B,h1,h2,h3,h4.trans (List.sublist_append_right _ _)⟩
theorem RepT.append {ds es:List (List Key × D)} {xs ys:List (List Key × V)} {F G:List Addr} (r:RepT K H ds xs F) (q:RepT K H es ys G):RepT K H (ds++es) (xs++ys) (F++G):=by
 induction ds generalizing xs F with
 | nil=>cases r;exact q
 | cons d ds ih=>cases r with | cons h r=>rw [List.append_assoc];exact .cons h (ih r)
theorem RepT.put {ds:List (List Key × D)} {xs:List (List Key × V)} {F:List Addr} {k:List Key} {d:D} {v:V} (r:RepT K H ds xs F) (h:Rep K H d v []):∃G,RepT K H (putD ds k d) (putK xs k v) G/\G.Sublist F:=by
 have hk:(xs.any λkv=>decide (kv.1=k))=(ds.any λkv=>decide (kv.1=k)):=by
  have e:=r.keys
  rw [show (xs.any λkv=>decide (kv.1=k))=(xs.map (·.1)).any (λj=>decide (j=k)) by rw [List.any_map];rfl,e,List.any_map];rfl
 unfold putD putK
 rw [hk]
 split
 ·clear hk
  rename_i hc
  clear hc
  induction ds generalizing xs F with
  | nil=>cases r;exact ⟨[],.nil,List.Sublist.slnil⟩
  | cons e ds ih =>
   cases r with
   | @cons j e u _ us F G p r =>
    obtain ⟨G',q,s⟩:=ih r
    by_cases ej:j=k
    ·exact ⟨[]++G',by simpa [ej] using RepT.cons (k:=k) h q,s.trans (List.sublist_append_right _ _)⟩
    ·exact ⟨F++G',by simpa [ej] using RepT.cons (k:=j) p q,List.Sublist.append (List.Sublist.refl _) s⟩
 ·refine ⟨F++[],r.append ?_,by simp⟩
  exact RepT.cons (F:=[]) (G:=[]) h .nil
theorem RepT.drop {ds:List (List Key × D)} {xs:List (List Key × V)} {F:List Addr} {k:List Key} (r:RepT K H ds xs F):∃G,RepT K H (dropD ds k) (dropK xs k) G/\G.Sublist F:=by
 induction ds generalizing xs F with
 | nil=>cases r;exact ⟨[],.nil,List.Sublist.slnil⟩
 | cons e ds ih =>
  cases r with
  | @cons j e u _ us F G p r =>
   obtain ⟨G',q,s⟩:=ih r
   unfold dropD dropK at *
   by_cases ej:j=k
   ·exact ⟨G',by simpa [ej] using q,s.trans (List.sublist_append_right _ _)⟩
   ·exact ⟨F++G',by simpa [ej] using RepT.cons (k:=j) p q,List.Sublist.append (List.Sublist.refl _) s⟩
end
end PV
namespace PV
open PySem PySem.Spec L2
noncomputable abbrev Env:=List (Option D)
noncomputable def look:Env->Nat->Option D
 | [],_=>none
 | a::_,0=>a
 | _::r,n+1=>look r n
theorem look_get:∀{ρ:Env} {i:Nat} {d:D},look ρ i=some d->ρ[i]? = some (some d)
 | _::_,0,_,h=>by simpa [look] using h
 | _::r,n+1,_,h=>by simpa using look_get (ρ:=r) (i:=n) (by simpa [look] using h)
theorem look_lt {ρ:Env} {i:Nat} {d:D} (h:look ρ i=some d):i<ρ.length:=by
 have:=look_get h
 exact (List.getElem?_eq_some_iff.mp this).1
theorem look_set {o:Option D}:∀{ρ:Env} {i j:Nat},look (ρ.set i o) j=if j=i/\i<ρ.length then o else look ρ j
 | [],i,j=>by simp [look]
 | a::r,0,0=>by simp [look]
 | a::r,0,j+1=>by simp [look]
 | a::r,i+1,0=>by simp [look]
 | a::r,i+1,j+1=>by
  have:=look_set (o:=o) (ρ:=r) (i:=i) (j:=j)
  simp only [List.set_cons_succ,look,this,List.length_cons,Nat.add_right_cancel_iff,Nat.add_lt_add_iff_right]
theorem look_set_same {o:Option D} {ρ:Env} {i:Nat} (h:i<ρ.length):look (ρ.set i o) i=o:=by rw [look_set,if_pos ⟨rfl,h⟩]
theorem look_set_ne {o:Option D} {ρ:Env} {i j:Nat} (h:j≠i):look (ρ.set i o) j=look ρ j:=by rw [look_set,if_neg (λz=>h z.1)]
structure Tg where
 own:Nat->Bool
 io:List Nat
 xe:D->St->Hp->Prop:=λ_ _ _=>False
structure SR0 (K:PySem.W.Frag) (T:Tg) (z:Nat->V) (R:Addr->Prop) (H:Hp) (W:Addr->Prop) (σ:St) (ρ:Env) (fp:Nat->List Addr):Prop where
 len:ρ.length=σ.length
 wd:∀a,W a->∃ob,H a=some ob/\imm ob=false
 at_:∀i d,look ρ i=some d->∃v,σ[i]? = some (some v)/\Rep K H d v (fp i)
 own:∀i d,look ρ i=some d->T.own i=true->(fp i).Nodup/\∀a∈fp i,W a
 ro:∀i d,look ρ i=some d->T.own i=false->∀a∈fp i,R a
 wr:∀a,W a->¬R a
 rd:∀a,R a->∃ob,H a=some ob/\imm ob=false
 dis:∀i j d e,look ρ i=some d->look ρ j=some e->T.own i=true->T.own j=true->i≠j->∀a∈fp i,a∉fp j
 fix:∀i∈T.io,σ[i]? = some (some (z i))
noncomputable def SR (K:PySem.W.Frag) (T:Tg) (z:Nat->V) (R:Addr->Prop) (H:Hp) (W:Addr->Prop) (σ:St) (ρ:Env):Prop:=∃fp,SR0 K T z R H W σ ρ fp
structure FrW (H:Hp) (W:Addr->Prop) (H':Hp) (W':Addr->Prop):Prop where
 keep:∀b ob,H b=some ob->¬W b->H' b=some ob
 dom:∀b,H' b=none->H b=none
 imm:ImmK H H'
 new:∀b,W' b->W b\/H b=none
theorem FrW.refl (H:Hp) (W:Addr->Prop):FrW H W H W:=⟨λ_ _ h _=>h,λ_ h=>h,λ_ _ h _=>h,λ_ h=>.inl h⟩
theorem FrW.trans {H H1 H2:Hp} {W W1 W2:Addr->Prop} (a:FrW H W H1 W1) (b:FrW H1 W1 H2 W2):FrW H W H2 W2 where
 keep:=λc ob h n=>b.keep c ob (a.keep c ob h n) λw=>by
  rcases a.new c w with w | w
  ·exact n w
  ·rw [w] at h;cases h
 dom:=λc h=>a.dom c (b.dom c h)
 imm:=λc ob h i=>b.imm c ob (a.imm c ob h i) i
 new:=λc h=>by
  rcases b.new c h with w | w
  ·exact a.new c w
  ·exact .inr (a.dom c w)
theorem Same.imm {H H':Hp} (s:Same H H'):ImmK H H':=λb ob h _=>s b ob h
theorem FrW.same {H H':Hp} (W:Addr->Prop) (s:Same H H'):FrW H W H' W:=⟨λb ob h _=>s b ob h,λb h=>s.free h,Same.imm s,λ_ h=>.inl h⟩
theorem Rep.same {K:PySem.W.Frag} {H H':Hp} {d:D} {v:V} {F:List Addr} (r:Rep K H d v F) (s:Same H H'):Rep K H' d v F :=
 r.frame (Same.imm s) λa m=>by
  obtain ⟨ob,h,_⟩:=r.dom a m
  rw [h];exact s _ _ h
theorem Reps.same {K:PySem.W.Frag} {H H':Hp} {d:List D} {v:List V} {F:List Addr} (r:Reps K H d v F) (s:Same H H'):Reps K H' d v F :=
 r.frame (Same.imm s) λa m=>by
  obtain ⟨ob,h,_⟩:=r.dom a m
  rw [h];exact s _ _ h
theorem Rep.keep {K:PySem.W.Frag} {H H':Hp} {W W':Addr->Prop} {d:D} {v:V} {F:List Addr} (r:Rep K H d v F) (f:FrW H W H' W') (n:∀a∈F,¬W a):Rep K H' d v F :=
 r.frame f.imm λa m=>by
  obtain ⟨ob,h,_⟩:=r.dom a m
  rw [h];exact f.keep _ _ h (n a m)
theorem Reps.keep {K:PySem.W.Frag} {H H':Hp} {W W':Addr->Prop} {d:List D} {v:List V} {F:List Addr} (r:Reps K H d v F) (f:FrW H W H' W') (n:∀a∈F,¬W a):Reps K H' d v F :=
 r.frame f.imm λa m=>by
  obtain ⟨ob,h,_⟩:=r.dom a m
  rw [h];exact f.keep _ _ h (n a m)
section
variable {K:PySem.W.Frag} {T:Tg} {z:Nat->V} {R:Addr->Prop} {H H':Hp} {W W':Addr->Prop} {σ:St} {ρ:Env}
theorem SR.same (s:SR K T z R H W σ ρ) (k:Same H H'):SR K T z R H' W σ ρ:=by
 obtain ⟨fp,r⟩:=s
 exact ⟨fp,r.len,λa h=>(r.wd a h).imp λob q=>⟨k _ _ q.1,q.2⟩,λi d h=>(r.at_ i d h).imp λv q=>⟨q.1,q.2.same k⟩,r.own,r.ro,r.wr,λa h=>(r.rd a h).imp λob q=>⟨k _ _ q.1,q.2⟩,r.dis,r.fix⟩
theorem SR.len (s:SR K T z R H W σ ρ):ρ.length=σ.length:=by obtain ⟨fp,r⟩:=s;exact r.len
theorem SR.wd (s:SR K T z R H W σ ρ):∀a,W a->∃ob,H a=some ob/\imm ob=false:=by obtain ⟨fp,r⟩:=s;exact r.wd
theorem SR.rd (s:SR K T z R H W σ ρ):∀a,R a->∃ob,H a=some ob/\imm ob=false:=by obtain ⟨fp,r⟩:=s;exact r.rd
theorem SR.wr (s:SR K T z R H W σ ρ):∀a,W a->¬R a:=by obtain ⟨fp,r⟩:=s;exact r.wr
theorem SR.nr (s:SR K T z R H W σ ρ) {a:Addr} (h:H a=none):¬R a:=λw=>by
 obtain ⟨ob,q,_⟩:=s.rd a w
 rw [h] at q;cases q
theorem SR.nw (s:SR K T z R H W σ ρ) {a:Addr} (h:H a=none):¬W a:=λw=>by
 obtain ⟨ob,q,_⟩:=s.wd a w
 rw [h] at q;cases q
theorem SR.drop (s:SR K T z R H W σ ρ) (i:Nat):SR K T z R H W σ (ρ.set i none):=by
 obtain ⟨fp,r⟩:=s
 have key:∀j d,look (ρ.set i none) j=some d->look ρ j=some d:=λj d h=>by
  rw [look_set] at h
  split at h
  ·cases h
  ·exact h
 exact ⟨fp,by rw [List.length_set];exact r.len,r.wd,λj d h=>r.at_ j d (key j d h),λj d h=>r.own j d (key j d h),λj d h=>r.ro j d (key j d h),r.wr,r.rd,λj k d e h h'=>r.dis j k d e (key j d h) (key k e h'),r.fix⟩
end
noncomputable abbrev WE:=Env->(D->Env->Prop)->Prop
structure Post (K:PySem.W.Frag) (T:Tg) (z:Nat->V) (R:Addr->Prop) (m o:Bool) (H:Hp) (W:Addr->Prop) (σ:St) (ρ:Env) (H':Hp) (W':Addr->Prop) (ρ':Env) (d:D) (v:V) (F:List Addr):Prop where
 sr:SR K T z R H' W' σ ρ'
 fr:FrW H W H' W'
 calm:m=false->Same H H'/\W'=W/\ρ'=ρ
 rep:Rep K H' d v F
 own:o=true->F.Nodup/\∀a∈F,H a=none/\¬W' a
noncomputable def EV (X:Cx) (T:Tg) (m o:Bool) (e:Expr) (w:WE):Prop :=
 ∃te,PE X e te/\∀(z:Nat->V) (R:Addr->Prop) (σ:St) (H:Hp) (W:Addr->Prop) (ρ:Env) (Q:D->Env->Prop) (Q':VK),SR X.K T z R H W σ ρ->w ρ Q ->
  (∀v H' W' d ρ' F,Post X.K T z R m o H W σ ρ H' W' ρ' d v F->Q d ρ'->Q' v H')->te σ H Q'
section
variable {K:PySem.W.Frag} {T:Tg} {z:Nat->V} {R:Addr->Prop} {H H1 H2:Hp} {W W1 W2:Addr->Prop} {σ:St} {ρ ρ1 ρ2:Env} {m1 m2 o1 o2:Bool} {d1 d2:D} {v1 v2:V} {F1 F2:List Addr}
theorem Post.first (p:Post K T z R m1 o1 H W σ ρ H1 W1 ρ1 d1 v1 F1) (q:Post K T z R m2 o2 H1 W1 σ ρ1 H2 W2 ρ2 d2 v2 F2) (hc:o1=true\/m2=false):Rep K H2 d1 v1 F1:=by
 rcases hc with hc | hc
 ·exact p.rep.keep q.fr λa h=>((p.own hc).2 a h).2
 ·exact p.rep.same (q.calm hc).1
theorem Post.firstOwn (p:Post K T z R m1 o1 H W σ ρ H1 W1 ρ1 d1 v1 F1) (q:Post K T z R m2 o2 H1 W1 σ ρ1 H2 W2 ρ2 d2 v2 F2) (h:o1=true):F1.Nodup/\∀a∈F1,H a=none/\¬W2 a:=by
 obtain ⟨h1,h2⟩:=p.own h
 refine ⟨h1,λa m=>⟨(h2 a m).1,λw=>?_⟩⟩
 rcases q.fr.new a w with w | w
 ·exact (h2 a m).2 w
 ·obtain ⟨ob,e,_⟩:=p.rep.dom a m
  rw [e] at w;cases w
theorem Post.lastOwn (p:Post K T z R m1 o1 H W σ ρ H1 W1 ρ1 d1 v1 F1) (q:Post K T z R m2 o2 H1 W1 σ ρ1 H2 W2 ρ2 d2 v2 F2) (h:o2=true):F2.Nodup/\∀a∈F2,H a=none/\¬W2 a:=by
 obtain ⟨h1,h2⟩:=q.own h
 exact ⟨h1,λa m=>⟨p.fr.dom a (h2 a m).1,(h2 a m).2⟩⟩
theorem Post.calm2 (p:Post K T z R m1 o1 H W σ ρ H1 W1 ρ1 d1 v1 F1) (q:Post K T z R m2 o2 H1 W1 σ ρ1 H2 W2 ρ2 d2 v2 F2) (h:(m1 || m2)=false):Same H H2/\W2=W/\ρ2=ρ:=by
 rw [Bool.or_eq_false_iff] at h
 obtain ⟨a1,a2,a3⟩:=p.calm h.1
 obtain ⟨b1,b2,b3⟩:=q.calm h.2
 exact ⟨a1.trans b1,b2.trans a2,b3.trans a3⟩
theorem Post.fin {m:Bool} {d:D} {v:V} {F:List Addr} (s:SR K T z R H1 W1 σ ρ1) (f:FrW H W H1 W1) (c:m=false->Same H H1/\W1=W/\ρ1=ρ) (k:Same H1 H2) (r:Rep K H2 d v F) (nd:F.Nodup) (nw:∀a∈F,H1 a=none) :
  Post K T z R m true H W σ ρ H2 W1 ρ1 d v F where
 sr:=s.same k
 fr:=f.trans (FrW.same W1 k)
 calm:=λh=>⟨(c h).1.trans k,(c h).2⟩
 rep:=r
 own:=λ_=>⟨nd,λa m=>⟨f.dom a (nw a m),s.nw (nw a m)⟩⟩
theorem Post.flat {m:Bool} {d:D} {v:V} (s:SR K T z R H1 W1 σ ρ1) (f:FrW H W H1 W1) (c:m=false->Same H H1/\W1=W/\ρ1=ρ) (r:Rep K H1 d v []):Post K T z R m true H W σ ρ H1 W1 ρ1 d v [] where
 sr:=s
 fr:=f
 calm:=c
 rep:=r
 own:=λ_=>⟨List.nodup_nil,λa m=>nomatch m⟩
end
section
variable {X:Cx} {T:Tg} {m o m1 m2 o1 o2:Bool} {e a b:Expr} {w wa wb:WE} {pos:Pos}
theorem EV.lift (h:EV X T m o e w):EV X T m true e (λρ Q=>w ρ λd ρ'=>d.pure=true/\Q d ρ'):=by
 obtain ⟨te,p,g⟩:=h
 refine ⟨te,p,λz R σ H W ρ Q Q' s hw k=>g z R σ H W ρ _ Q' s hw λv H' W' d ρ' F q ⟨hp,hq⟩=>?_⟩
 obtain ⟨e,r⟩:=q.rep.pure hp
 exact k v H' W' d ρ' [] ⟨q.sr,q.fr,q.calm,r,λ_=>⟨List.nodup_nil,λa m=>nomatch m⟩⟩ hq
theorem EV.ro (h:EV X T m o e w):EV X T m false e w:=by
 obtain ⟨te,p,g⟩:=h
 exact ⟨te,p,λz R σ H W ρ Q Q' s hw k=>g z R σ H W ρ _ Q' s hw λv H' W' d ρ' F q hq=>k v H' W' d ρ' F ⟨q.sr,q.fr,q.calm,q.rep,λh=>nomatch h⟩ hq⟩
theorem EV.mut (h:EV X T m o e w):EV X T true o e w:=by
 obtain ⟨te,p,g⟩:=h
 exact ⟨te,p,λz R σ H W ρ Q Q' s hw k=>g z R σ H W ρ _ Q' s hw λv H' W' d ρ' F q hq=>k v H' W' d ρ' F ⟨q.sr,q.fr,(λh=>nomatch h),q.rep,q.own⟩ hq⟩
noncomputable def wVar (i:Nat):WE:=λρ Q=>match look ρ i with
 | some d=>Q d ρ
 | none=>False
noncomputable def wC (d:D):WE:=λρ Q=>Q d ρ
theorem ev_pv (i:Nat) (h:PE X e (tVar i)):EV X T false false e (wVar i):=by
 refine ⟨_,h,λz R σ H W ρ Q Q' s hw k=>?_⟩
 unfold wVar at hw
 cases hl:look ρ i with
 | none=>rw [hl] at hw;exact hw.elim
 | some d =>
  rw [hl] at hw
  obtain ⟨fp,r⟩:=s
  obtain ⟨v,h1,h2⟩:=r.at_ i d hl
  exact ⟨v,h1,k v H W d ρ (fp i) ⟨⟨fp,r⟩,FrW.refl H W,λ_=>⟨Same.refl H,rfl,rfl⟩,h2,λh=>nomatch h⟩ hw⟩
theorem ev_var (i:Nat) {x:Str} (hN:X.N[i]? = some x:=by rfl) (hv:Vis X.env.scope x:=by first | exact Or.inl rfl | exact Or.inr (Or.inl rfl) | exact Or.inr (Or.inr rfl)) (hd:(x == ("__debug__" : Str))=false:=by decide)
  (hcd:(x == ("__classdict__" : Str))=false:=by decide):EV X T false false (.Name x pos) (wVar i):=ev_pv i (pe_var hN hv hd hcd)
theorem ev_const {d:D} {v:V} (h:PE X e (tC v)) (r:∀H,Rep X.K H d v []):EV X T false true e (wC d) :=
 ⟨_,h,λz R σ H W ρ Q Q' s hw k=>k v H W d ρ [] (Post.flat s (FrW.refl H W) (λ_=>⟨Same.refl H,rfl,rfl⟩) (r H)) hw⟩
theorem ev_int {i:Int} {j pos}:EV X T false true (.Constant (.int i) j pos) (wC (.int i)):=ev_const pe_int λ_=>.int i
theorem ev_bl {i:Bool} {j pos}:EV X T false true (.Constant (.bool i) j pos) (wC (.bl i)):=ev_const pe_bl λ_=>.bl i
theorem ev_gint {x:Str} {i:Int} {t:Tok} (hm:X.mg x=some (.int i t)) (hg:Gl X x:=by rfl) (hd:(x == ("__debug__" : Str))=false:=by decide):EV X T false true (.Name x pos) (wC (.int i)) :=
 ev_const (pe_glob hg hm (v:=.int i) ⟨t,rfl⟩ hd) λ_=>.int i
noncomputable abbrev G2:=D->D->(D->Prop)->Prop
structure Fin (K:PySem.W.Frag) (H H':Hp) (d:D) (v:V) (F:List Addr):Prop where
 same:Same H H'
 rep:Rep K H' d v F
 nd:F.Nodup
 new:∀a∈F,H a=none
theorem Fin.flat {K:PySem.W.Frag} {H:Hp} {d:D} {v:V} (r:Rep K H d v []):Fin K H H d v []:=⟨Same.refl H,r,List.nodup_nil,λ_ m=>nomatch m⟩
theorem same_upd {H:Hp} {p:Addr} {ob:HO} (h:H p=none):Same H (upd H p ob):=λb u e=>by rw [upd_ne (ne_of_none e h)];exact e
noncomputable def OpD (X:Cx) (f:Value->Value->Sem Value) (g:G2):Prop :=
 ∃r,OpR X f r/\∀(H:Hp) (a b:D) (x y:V) (F1 F2:List Addr) (k:D->Prop) (Q:VK),Rep X.K H a x F1->Rep X.K H b y F2->g a b k ->
  (∀v H' d F,Fin X.K H H' d v F->k d->Q v H')->r x y H Q
noncomputable def wBin (g:G2) (wa wb:WE):WE:=λρ Q=>wa ρ λx ρ1=>wb ρ1 λy ρ2=>g x y λd=>Q d ρ2
theorem two {ta tb:TE} {z:Nat->V} {R:Addr->Prop} {σ:St} {H:Hp} {W:Addr->Prop} {ρ:Env} {RR:V->V->Hp->Prop} {Q2:D->D->Env->Prop}
  (ga:∀(z:Nat->V) (R:Addr->Prop) (σ:St) (H:Hp) (W:Addr->Prop) (ρ:Env) (Q:D->Env->Prop) (Q':VK),SR X.K T z R H W σ ρ->wa ρ Q->(∀v H' W' d ρ' F,Post X.K T z R m1 o1 H W σ ρ H' W' ρ' d v F->Q d ρ'->Q' v H')->ta σ H Q')
  (gb:∀(z:Nat->V) (R:Addr->Prop) (σ:St) (H:Hp) (W:Addr->Prop) (ρ:Env) (Q:D->Env->Prop) (Q':VK),SR X.K T z R H W σ ρ->wb ρ Q->(∀v H' W' d ρ' F,Post X.K T z R m2 o2 H W σ ρ H' W' ρ' d v F->Q d ρ'->Q' v H')->tb σ H Q')
  (hc:o1=true\/m2=false) (s:SR X.K T z R H W σ ρ) (hw:wa ρ λx ρ1=>wb ρ1 λy ρ2=>Q2 x y ρ2)
  (k:∀x y H2 W2 d1 d2 ρ2 F1 F2,SR X.K T z R H2 W2 σ ρ2->FrW H W H2 W2->((m1 || m2)=false->Same H H2/\W2=W/\ρ2=ρ)->Rep X.K H2 d1 x F1->Rep X.K H2 d2 y F2 ->
   (o1=true->F1.Nodup/\∀a∈F1,H a=none/\¬W2 a)->(o2=true->F2.Nodup/\∀a∈F2,H a=none/\¬W2 a)->(o2=true->∀a∈F1,a∉F2)->Q2 d1 d2 ρ2->RR x y H2) :
  ta σ H λx H1=>tb σ H1 λy H2=>RR x y H2:=by
 refine ga z R σ H W ρ _ _ s hw λv1 H1 W1 d1 ρ1 F1 p q1=>?_
 refine gb z R σ H1 W1 ρ1 _ _ p.sr q1 λv2 H2 W2 d2 ρ2 F2 q q2=>?_
 refine k v1 v2 H2 W2 d1 d2 ρ2 F1 F2 q.sr (p.fr.trans q.fr) (p.calm2 q) (p.first q hc) q.rep (p.firstOwn q) (p.lastOwn q) (λh a m1 m2=>?_) q2
 obtain ⟨ob,e,_⟩:=p.rep.dom a m1
 rw [((q.own h).2 a m2).1] at e
 cases e
theorem ev_op {op:Operator} {g:G2} (ho:OpD X (binaryOp op) g) (ha:EV X T m1 o1 a wa) (hb:EV X T m2 o2 b wb) (hc:o1=true\/m2=false:=by first | exact .inl rfl | exact .inr rfl) :
  EV X T (m1 || m2) true (.BinOp a op b pos) (wBin g wa wb):=by
 obtain ⟨r,ro,gr⟩:=ho
 obtain ⟨ta,pa,ga⟩:=ha
 obtain ⟨tb,pb,gb⟩:=hb
 refine ⟨_,pe_op ro pa pb,λz R σ H W ρ Q Q' s hw k=>?_⟩
 refine two ga gb hc s hw λx y H2 W2 d1 d2 ρ2 F1 F2 s2 f2 c2 r1 r2 _ _ _ q2=>?_
 exact gr H2 d1 d2 x y F1 F2 _ Q' r1 r2 q2 λv H' d F fi hk=>k v H' W2 d ρ2 F (Post.fin s2 f2 c2 fi.same fi.rep fi.nd fi.new) hk
theorem ev_cmp {op:CmpOp} {g:G2} (ho:OpD X (compareOp op) g) (ha:EV X T m1 o1 a wa) (hb:EV X T m2 o2 b wb) (hc:o1=true\/m2=false:=by first | exact .inl rfl | exact .inr rfl)
  (hm:behindInMarks op b=false:=by first | exact nomark _ | with_unfolding_all rfl):EV X T (m1 || m2) true (.Compare a [op] [b] pos) (wBin g wa wb):=by
 obtain ⟨r,ro,gr⟩:=ho
 obtain ⟨ta,pa,ga⟩:=ha
 obtain ⟨tb,pb,gb⟩:=hb
 refine ⟨_,pe_cmpR ro pa pb hm,λz R σ H W ρ Q Q' s hw k=>?_⟩
 refine two ga gb hc s hw λx y H2 W2 d1 d2 ρ2 F1 F2 s2 f2 c2 r1 r2 _ _ _ q2=>?_
 exact gr H2 d1 d2 x y F1 F2 _ Q' r1 r2 q2 λv H' d F fi hk=>k v H' W2 d ρ2 F (Post.fin s2 f2 c2 fi.same fi.rep fi.nd fi.new) hk
noncomputable def UnD (X:Cx) (f:Value->Sem Value) (g:D->(D->Prop)->Prop):Prop :=
 ∃r,UnR X f r/\∀(H:Hp) (a:D) (x:V) (F1:List Addr) (k:D->Prop) (Q:VK),Rep X.K H a x F1->g a k->(∀v H' d F,Fin X.K H H' d v F->k d->Q v H')->r x H Q
noncomputable def wUn (g:D->(D->Prop)->Prop) (wa:WE):WE:=λρ Q=>wa ρ λx ρ1=>g x λd=>Q d ρ1
theorem ev_un {op:UnaryOp} {g:D->(D->Prop)->Prop} (ho:UnD X (unaryOp op) g) (ha:EV X T m o a wa):EV X T m true (.UnaryOp op a pos) (wUn g wa):=by
 obtain ⟨r,ro,gr⟩:=ho
 obtain ⟨ta,pa,ga⟩:=ha
 refine ⟨_,pe_un ro pa,λz R σ H W ρ Q Q' s hw k=>?_⟩
 refine ga z R σ H W ρ _ _ s hw λv1 H1 W1 d1 ρ1 F1 p q1=>?_
 exact gr H1 d1 v1 F1 _ Q' p.rep q1 λv H' d F fi hk=>k v H' W1 d ρ1 F (Post.fin p.sr p.fr p.calm fi.same fi.rep fi.nd fi.new) hk
noncomputable abbrev WT:=Env->(Bool->Env->Prop)->Prop
structure PostT (K:PySem.W.Frag) (T:Tg) (z:Nat->V) (R:Addr->Prop) (m:Bool) (H:Hp) (W:Addr->Prop) (σ:St) (ρ:Env) (H':Hp) (W':Addr->Prop) (ρ':Env):Prop where
 sr:SR K T z R H' W' σ ρ'
 fr:FrW H W H' W'
 calm:m=false->Same H H'/\W'=W/\ρ'=ρ
noncomputable def TV (X:Cx) (T:Tg) (m:Bool) (e:Expr) (w:WT):Prop :=
 ∃tt,PT X e tt/\∀(z:Nat->V) (R:Addr->Prop) (σ:St) (H:Hp) (W:Addr->Prop) (ρ:Env) (Q:Bool->Env->Prop) (Q':Bool->Hp->Prop),SR X.K T z R H W σ ρ->w ρ Q ->
  (∀b H' W' ρ',PostT X.K T z R m H W σ ρ H' W' ρ'->Q b ρ'->Q' b H')->tt σ H Q'
noncomputable def truD:D->Option Bool
 | .non=>some false
 | .bl b=>some b
 | .int i=>some (i != 0)
 | .str y=>if y.length<=sizeLine then some ((y.length:Int) != 0) else none
 | .lst xs=>some (!xs.isEmpty)
 | .tup xs=>some (!xs.isEmpty)
 | .dik kvs=>some (!kvs.isEmpty)
 | .kls xs=>some (!xs.isEmpty)
 | .dit _=>none
 | .ty _=>none
 | .fdk _=>none
 | .ftp _=>none
 | .fls _=>none
 | .fdt _=>none
 | .obj _ _=>none
 | .clo _ _=>none
noncomputable def wTru (wa:WE):WT:=λρ Q=>wa ρ λd ρ'=>match truD d with
 | some b=>Q b ρ'
 | none=>False
theorem Reps.emp {K:PySem.W.Frag} {H:Hp} {ds:List D} {xs:List V} {F:List Addr} (r:Reps K H ds xs F):ds.isEmpty=xs.isEmpty:=by
 have:=r.length
 cases ds <;> cases xs <;> simp at this <;> rfl
theorem RepK.emp {K:PySem.W.Frag} {H:Hp} {ds:List (Key × D)} {xs:List (Key × V)} {F:List Addr} (r:RepK K H ds xs F):ds.isEmpty=xs.isEmpty:=by
 have:=r.length
 cases ds <;> cases xs <;> simp at this <;> rfl
theorem truV_of {K:PySem.W.Frag} {H:Hp} {d:D} {x:V} {F:List Addr} {b:Bool} (r:Rep K H d x F) (h:truD d=some b):TruV K x H b:=by
 cases r with
 | non=>exact (Option.some.inj h).symm
 | bl c=>exact (Option.some.inj h).symm
 | int c=>exact (Option.some.inj h).symm
 | str y =>
  have h:(if y.length<=sizeLine then some ((y.length:Int) != 0) else none)=some b:=h
  split at h
  ·rename_i hl;exact ⟨hl,(Option.some.inj h).symm⟩
  ·cases h
 | tup e r =>
  refine .inr (.inl ⟨_,.of e,?_⟩)
  rw [← Option.some.inj h,r.emp]
 | lst e r =>
  refine .inl ⟨_,.of e,?_⟩
  rw [← Option.some.inj h,r.emp]
 | kls e r =>
  refine .inl ⟨_,e.sq,?_⟩
  rw [← Option.some.inj h,r.emp]
 | dik e r =>
  refine .inr (.inr ⟨_,e,?_⟩)
  rw [← Option.some.inj h,r.emp]
 | dit e r=>cases h
 | ty t=>cases h
 | fdk e r=>cases h
 | ftp e hd r=>cases h
 | fls e r=>cases h
 | fdt e r=>cases h
 | obj e hc hf=>cases h
 | clo e r=>cases h
theorem tv_tru (ha:EV X T m o a wa) (he:∀whole,isTrue a X.env whole=(do let v ← whole;standAt a.pos;holding [v] (truthy v)):=by intro _;rfl):TV X T m a (wTru wa):=by
 obtain ⟨ta,pa,ga⟩:=ha
 refine ⟨_,pt_truth pa he,λz R σ H W ρ Q Q' s hw k=>?_⟩
 refine ga z R σ H W ρ _ _ s hw λv1 H1 W1 d1 ρ1 F1 p q1=>?_
 cases ht:truD d1 with
 | none=>rw [ht] at q1;exact q1.elim
 | some b =>
  rw [ht] at q1
  exact ⟨b,truV_of p.rep ht,k b H1 W1 ρ1 ⟨p.sr,p.fr,p.calm⟩ q1⟩
noncomputable def wBl (wa:WE):WT:=λρ Q=>wa ρ λd ρ'=>match d with
 | .bl b=>Q b ρ'
 | _=>False
theorem rep_bl {K:PySem.W.Frag} {H:Hp} {b:Bool} {x:V} {F:List Addr} (r:Rep K H (.bl b) x F):x=.bl b:=by cases r;rfl
theorem tv_cmp {op:CmpOp} {g:G2} (ho:OpD X (compareOp op) g) (ha:EV X T m1 o1 a wa) (hb:EV X T m2 o2 b wb) (hc:o1=true\/m2=false:=by first | exact .inl rfl | exact .inr rfl)
  (hm:behindInMarks op b=false:=by first | exact nomark _ | with_unfolding_all rfl):TV X T (m1 || m2) (.Compare a [op] [b] pos) (wBl (wBin g wa wb)):=by
 obtain ⟨r,ro,gr⟩:=ho
 obtain ⟨ta,pa,ga⟩:=ha
 obtain ⟨tb,pb,gb⟩:=hb
 refine ⟨_,pt_cmpR ro pa pb hm,λz R σ H W ρ Q Q' s hw k=>?_⟩
 refine two ga gb hc s hw λx y H2 W2 d1 d2 ρ2 F1 F2 s2 f2 c2 r1 r2 _ _ _ q2=>?_
 refine gr H2 d1 d2 x y F1 F2 _ _ r1 r2 q2 λv H' d F fi hk=>?_
 cases d with
 | bl b=>exact ⟨b,rep_bl fi.rep,k b H' W2 ρ2 ⟨s2.same fi.same,f2.trans (FrW.same W2 fi.same),λh=>⟨(c2 h).1.trans fi.same,(c2 h).2⟩⟩ hk⟩
 | _=>exact hk.elim
variable {wt wu:WT} {rest:List Expr}
noncomputable def wNot (wt:WT):WT:=λρ Q=>wt ρ λb ρ'=>Q (!b) ρ'
noncomputable def wOr (wt wu:WT):WT:=λρ Q=>wt ρ λb ρ'=>if b=true then Q true ρ' else wu ρ' Q
theorem tv_not (ha:TV X T m a wt):TV X T m (.UnaryOp .Not a pos) (wNot wt):=by
 obtain ⟨ta,pa,ga⟩:=ha
 exact ⟨_,pt_not pa,λz R σ H W ρ Q Q' s hw k=>ga z R σ H W ρ _ _ s hw λb H1 W1 ρ1 p q1=>k (!b) H1 W1 ρ1 p q1⟩
noncomputable def BV (X:Cx) (T:Tg) (m:Bool) (e:Expr) (w:WT):Prop :=
 ∃tt,PW X e tt/\∀(z:Nat->V) (R:Addr->Prop) (σ:St) (H:Hp) (W:Addr->Prop) (ρ:Env) (Q:Bool->Env->Prop) (Q':Bool->Hp->Prop),SR X.K T z R H W σ ρ->w ρ Q ->
  (∀b H' W' ρ',PostT X.K T z R m H W σ ρ H' W' ρ'->Q b ρ'->Q' b H')->tt σ H Q'
theorem PostT.seq {K:PySem.W.Frag} {z:Nat->V} {R:Addr->Prop} {H H1 H2:Hp} {W W1 W2:Addr->Prop} {σ:St} {ρ ρ1 ρ2:Env} (p:PostT K T z R m1 H W σ ρ H1 W1 ρ1) (q:PostT K T z R m2 H1 W1 σ ρ1 H2 W2 ρ2):PostT K T z R (m1 || m2) H W σ ρ H2 W2 ρ2 where
 sr:=q.sr
 fr:=p.fr.trans q.fr
 calm:=λh=>by
  rw [Bool.or_eq_false_iff] at h
  obtain ⟨a1,a2,a3⟩:=p.calm h.1
  obtain ⟨b1,b2,b3⟩:=q.calm h.2
  exact ⟨a1.trans b1,b2.trans a2,b3.trans a3⟩
theorem PostT.left {K:PySem.W.Frag} {z:Nat->V} {R:Addr->Prop} {H H1:Hp} {W W1:Addr->Prop} {σ:St} {ρ ρ1:Env} (p:PostT K T z R m1 H W σ ρ H1 W1 ρ1):PostT K T z R (m1 || m2) H W σ ρ H1 W1 ρ1 :=
 ⟨p.sr,p.fr,λh=>p.calm (Bool.or_eq_false_iff.mp h).1⟩
theorem bv_or1 (ha:TV X T m a wt):BV X T m (.BoolOp .Or [a] pos) wt:=by
 obtain ⟨ta,pa,ga⟩:=ha
 exact ⟨_,pw_or1 pa,ga⟩
theorem bv_or (ha:TV X T m1 a wt) (hb:BV X T m2 (.BoolOp .Or (b::rest) pos) wu):BV X T (m1 || m2) (.BoolOp .Or (a::b::rest) pos) (wOr wt wu):=by
 obtain ⟨ta,pa,ga⟩:=ha
 obtain ⟨tb,pb,gb⟩:=hb
 refine ⟨_,pw_or pa pb,λz R σ H W ρ Q Q' s hw k=>ga z R σ H W ρ _ _ s hw λc H1 W1 ρ1 p q1=>?_⟩
 cases c with
 | false=>exact gb z R σ H1 W1 ρ1 Q Q' p.sr q1 λb H2 W2 ρ2 q q2=>k b H2 W2 ρ2 (p.seq q) q2
 | true=>exact k true H1 W1 ρ1 p.left q1
theorem tv_bool (h:BV X T m e wt):TV X T m e wt:=by
 obtain ⟨ta,pa,ga⟩:=h
 exact ⟨_,pa.pt,ga⟩
end
end PV
namespace PV
open PySem PySem.Spec L2
open PySem.W (Dat kqdP kqdPs kqdOk)
mutual
noncomputable def toDat:D->Dat
 | .non=>.none
 | .bl b=>.bool b
 | .int i=>.int i
 | .str x=>.str x
 | .tup xs=>.tuple (toDats xs)
 | .lst xs=>.list (toDats xs)
 | .dik _=>.none
 | .dit _=>.none
 | .kls _=>.none
 | .ty _=>.none
 | .fdk _=>.none
 | .ftp _=>.none
 | .fls _=>.none
 | .fdt _=>.none
 | .obj _ _=>.none
 | .clo _ _=>.none
noncomputable def toDats:List D->List Dat
 | []=>[]
 | d::r=>toDat d::toDats r
end
mutual
noncomputable def eqOk:Nat->D->Bool
 | _,.non=>true
 | _,.int _=>true
 | _,.str x=>PyData.strOk x
 | n+1,.tup xs=>eqOks n xs
 | n+1,.lst xs=>eqOks n xs
 | _,_=>false
noncomputable def eqOks:Nat->List D->Bool
 | _,[]=>true
 | n,d::r=>eqOk n d && eqOks n r
end
theorem eqOks_iff {n:Nat} {xs:List D}:eqOks n xs=true↔∀x∈xs,eqOk n x=true:=by
 induction xs with
 | nil=>simp [eqOks]
 | cons d r ih=>simp only [eqOks,Bool.and_eq_true,ih,List.mem_cons,forall_eq_or_imp]
mutual
theorem eqOk_kqd:∀(n:Nat) (d:D),eqOk n d=true->kqdOk n (toDat d)=true
 | _,.non,_=>by simp [toDat,kqdOk]
 | _,.bl _,h=>by cases ‹Nat› <;> simp [eqOk] at h
 | _,.int _,_=>by simp [toDat,kqdOk]
 | _,.str x,h=>by
  cases ‹Nat› <;> (simp only [eqOk] at h;simpa [toDat,kqdOk] using h)
 | 0,.tup _,h=>by simp [eqOk] at h
 | 0,.lst _,h=>by simp [eqOk] at h
 | n+1,.tup xs,h=>by
  simp only [eqOk] at h
  rw [toDat];simp only [kqdOk]
  exact eqOks_kqd n xs h
 | n+1,.lst xs,h=>by
  simp only [eqOk] at h
  rw [toDat];simp only [kqdOk]
  exact eqOks_kqd n xs h
 | n,.dik _,h=>by cases n <;> simp [eqOk] at h
 | n,.dit _,h=>by cases n <;> simp [eqOk] at h
 | n,.kls _,h=>by cases n <;> simp [eqOk] at h
 | n,.ty _,h=>by cases n <;> simp [eqOk] at h
 | n,.fdk _,h=>by cases n <;> simp [eqOk] at h
 | n,.ftp _,h=>by cases n <;> simp [eqOk] at h
 | n,.fls _,h=>by cases n <;> simp [eqOk] at h
 | n,.fdt _,h=>by cases n <;> simp [eqOk] at h
 | n,.obj _ _,h=>by cases n <;> simp [eqOk] at h
 | n,.clo _ _,h=>by cases n <;> simp [eqOk] at h
theorem eqOks_kqd:∀(n:Nat) (xs:List D),eqOks n xs=true->(toDats xs).all (kqdOk n)=true
 | _,[],_=>by simp [toDats]
 | n,d::r,h=>by
  simp only [eqOks,Bool.and_eq_true] at h
  rw [toDats,List.all_cons,eqOk_kqd n d h.1,eqOks_kqd n r h.2];rfl
end
mutual
theorem toDat_inj:∀(n k:Nat) (a b:D),eqOk n a=true->eqOk k b=true->toDat a=toDat b->a=b
 | n,k,a,b,ha,hb,h=>by
  cases a with
  | non=>cases b <;> first | rfl | (simp [toDat] at h;done) | (cases k <;> simp [eqOk] at hb)
  | bl x=>cases n <;> simp [eqOk] at ha
  | int x=>cases b <;> first | (simp [toDat] at h;rw [h]) | (simp [toDat] at h)
  | str x=>cases b <;> first | (simp [toDat] at h;rw [h]) | (simp [toDat] at h)
  | tup xs =>
   cases b with
   | tup ys =>
    cases n with
    | zero=>simp [eqOk] at ha
    | succ n =>
     cases k with
     | zero=>simp [eqOk] at hb
     | succ k =>
      simp only [eqOk] at ha hb
      simp only [toDat,Dat.tuple.injEq] at h
      rw [toDats_inj n k xs ys ha hb h]
   | _=>simp [toDat] at h
  | lst xs =>
   cases b with
   | lst ys =>
    cases n with
    | zero=>simp [eqOk] at ha
    | succ n =>
     cases k with
     | zero=>simp [eqOk] at hb
     | succ k =>
      simp only [eqOk] at ha hb
      simp only [toDat,Dat.list.injEq] at h
      rw [toDats_inj n k xs ys ha hb h]
   | _=>simp [toDat] at h
  | dik x=>cases n <;> simp [eqOk] at ha
  | dit x=>cases n <;> simp [eqOk] at ha
  | kls x=>cases n <;> simp [eqOk] at ha
  | ty x=>cases n <;> simp [eqOk] at ha
  | fdk x=>cases n <;> simp [eqOk] at ha
  | ftp x=>cases n <;> simp [eqOk] at ha
  | fls x=>cases n <;> simp [eqOk] at ha
  | fdt x=>cases n <;> simp [eqOk] at ha
  | obj x y=>cases n <;> simp [eqOk] at ha
  | clo x y=>cases n <;> simp [eqOk] at ha
theorem toDats_inj:∀(n k:Nat) (a b:List D),eqOks n a=true->eqOks k b=true->toDats a=toDats b->a=b
 | n,k,[],b,ha,hb,h=>by
  cases b with
  | nil=>rfl
  | cons=>simp [toDats] at h
 | n,k,x::a,b,ha,hb,h=>by
  cases b with
  | nil=>simp [toDats] at h
  | cons y b =>
   simp only [toDats,List.cons.injEq] at h
   simp only [eqOks,Bool.and_eq_true] at ha hb
   rw [toDat_inj n k x y ha.1 hb.1 h.1,toDats_inj n k a b ha.2 hb.2 h.2]
end
theorem Rep.dv {K:PySem.W.Frag} {H:Hp} {d:D} {v:V} {F:List Addr} (n:Nat) (r:Rep K H d v F):eqOk n d=true->DV H v (toDat d):=by
 have no:∀{P:Prop} {n:Nat} {d:D},(∀n,eqOk n d=false)->eqOk n d=true->P:=λh h'=>absurd ((h _).symm.trans h') (by simp)
 refine Rep.rec (motive_1:=λd v _ _=>∀n,eqOk n d=true->DV H v (toDat d)) (motive_2:=λd v _ _=>∀n,eqOks n d=true->DVs H v (toDats d)) (motive_3:=λ_ _ _ _=>True) (motive_4:=λ_ _ _ _=>True) ?_ ?_ ?_ ?_ ?_ ?_ ?_ ?_ ?_ ?_ ?_ ?_ ?_ ?_ ?_ ?_ ?_ ?_ trivial (λ_ _ _ _=>trivial) trivial (λ_ _ _ _=>trivial) r n
 ·exact λ_ _=>by rw [toDat];exact .non
 ·exact λb n=>no λn=>by cases n <;> rfl
 ·exact λi _ _=>by rw [toDat];exact .int i
 ·exact λi _ _=>by rw [toDat];exact .str i
 ·intro _ _ _ _ e _ ih n h
  cases n with
  | zero=>simp [eqOk] at h
  | succ n=>rw [eqOk] at h;rw [toDat];exact .tup e (ih n h)
 ·intro _ _ _ _ e _ ih n h
  cases n with
  | zero=>simp [eqOk] at h
  | succ n=>rw [eqOk] at h;rw [toDat];exact .lst e (ih n h)
 ·exact λ_ _ _ n=>no λn=>by cases n <;> rfl
 ·exact λ_ _ _ n=>no λn=>by cases n <;> rfl
 ·exact λ_ _ _ n=>no λn=>by cases n <;> rfl
 ·exact λ_ n=>no λn=>by cases n <;> rfl
 ·exact λ_ _ _ n=>no λn=>by cases n <;> rfl
 ·exact λ_ _ _ _ n=>no λn=>by cases n <;> rfl
 ·exact λ_ _ _ n=>no λn=>by cases n <;> rfl
 ·exact λ_ _ _ n=>no λn=>by cases n <;> rfl
 ·exact λ_ _ _ n=>no λn=>by cases n <;> rfl
 ·exact λ_ _ _ n=>no λn=>by cases n <;> rfl
 ·exact λ_ _=>by rw [toDats];exact .nil
 ·intro _ _ _ _ _ _ _ _ ih1 ih2 n q
  rw [eqOks,Bool.and_eq_true] at q
  rw [toDats];exact .cons (ih1 n q.1) (ih2 n q.2)
theorem Reps.dv {K:PySem.W.Frag} {H:Hp} {d:List D} {v:List V} {F:List Addr} (n:Nat) (r:Reps K H d v F) (q:eqOks n d=true):DVs H v (toDats d):=by
 induction d generalizing v F with
 | nil=>cases r;rw [toDats];exact .nil
 | cons d ds ih =>
  cases r with
  | cons h r =>
   rw [eqOks,Bool.and_eq_true] at q
   rw [toDats];exact .cons (h.dv n q.1) (ih r q.2)
noncomputable def dAdd:G2
 | .int i,.int j,k=>k (.int (i+j))
 | .str x,.str y,k=>x.length+y.length<=sizeLine/\k (.str (x++y))
 | .tup xs,.tup ys,k=>pureL xs=true/\pureL ys=true/\xs≠[]/\xs.length+ys.length<=sizeLine/\k (.tup (xs++ys))
 | .lst xs,.lst ys,k=>pureL xs=true/\pureL ys=true/\xs.length+ys.length<=sizeLine/\k (.lst (xs++ys))
 | _,_,_=>False
noncomputable def dSub:G2
 | .int i,.int j,k=>k (.int (i-j))
 | _,_,_=>False
noncomputable def dMul:G2
 | .int i,.int j,k=>CMul i j/\k (.int (i*j))
 | .lst xs,.int n,k=>pureL xs=true /\ -(2 ^ 63)<=n/\n<2 ^ 63/\xs.length*n.toNat<=sizeLine/\k (.lst (List.replicate n.toNat xs).flatten)
 | _,_,_=>False
noncomputable def dDiv:G2
 | .int i,.int j,k=>(0<j/\j<1073741824/\k (.int (i / j)))\/(j<0/\j.natAbs<1073741824/\k (.int (i.fdiv j)))
 | _,_,_=>False
noncomputable def dMod:G2
 | .int i,.int j,k=>(0<j/\k (.int (i % j)))\/(j<0/\k (.int (i.fmod j)))
 | _,_,_=>False
noncomputable def dPow:G2
 | .int i,.int j,k=>CPow i j/\k (.int (i ^ j.toNat))
 | _,_,_=>False
noncomputable def dEq:G2
 | .int i,.int j,k=>k (.bl (decide (i=j)))
 | .bl i,.bl j,k=>k (.bl (i == j))
 | .str i,.str j,k=>k (.bl (decide (i=j)))
 | a,b,k=>eqOk 9 a=true/\eqOk 9 b=true/\(a=b->k (.bl true))/\(a≠b->k (.bl false))
noncomputable def dNe:G2
 | .int i,.int j,k=>k (.bl (!decide (i=j)))
 | .bl i,.bl j,k=>k (.bl (!(i == j)))
 | .str i,.str j,k=>k (.bl (!decide (i=j)))
 | a,b,k=>eqOk 9 a=true/\eqOk 9 b=true/\(a=b->k (.bl false))/\(a≠b->k (.bl true))
noncomputable def dCmp (f:Int->Int->Bool):G2
 | .int i,.int j,k=>k (.bl (f i j))
 | _,_,_=>False
section
variable {X:Cx}
theorem rep_int {K:PySem.W.Frag} {H:Hp} {i:Int} {x:V} {F:List Addr} (r:Rep K H (.int i) x F):x=.int i:=by cases r;rfl
theorem Reps.flatten {K:PySem.W.Frag} {H:Hp} {ds:List D} {xs:List V} (r:Reps K H ds xs []):∀n:Nat,Reps K H (List.replicate n ds).flatten (List.replicate n xs).flatten []
 | 0=>.nil
 | n+1=>by
  have:=r.append (Reps.flatten r n)
  simpa [List.replicate_succ,List.flatten_cons] using this
theorem dAdd_inv {a b:D} {k:D->Prop} (g:dAdd a b k):(∃i j,a=.int i/\b=.int j)\/(∃i j,a=.str i/\b=.str j)\/(∃i j,a=.tup i/\b=.tup j)\/∃i j,a=.lst i/\b=.lst j:=by
 cases a with
 | int i=>cases b with
  | int j=>exact .inl ⟨i,j,rfl,rfl⟩
  | _=>exact (show False from g).elim
 | str i=>cases b with
  | str j=>exact .inr (.inl ⟨i,j,rfl,rfl⟩)
  | _=>exact (show False from g).elim
 | tup i=>cases b with
  | tup j=>exact .inr (.inr (.inl ⟨i,j,rfl,rfl⟩))
  | _=>exact (show False from g).elim
 | lst i=>cases b with
  | lst j=>exact .inr (.inr (.inr ⟨i,j,rfl,rfl⟩))
  | _=>exact (show False from g).elim
 | _=>exact (show False from g).elim
theorem od_add:OpD X (binaryOp .Add) dAdd:=by
 refine ⟨_,OpR.or op_add (OpR.or op_cat (OpR.or op_catT op_add_str)),λH a b x y F1 F2 k Q ra rb g q=>?_⟩
 rcases dAdd_inv g with ⟨i,j,rfl,rfl⟩ | ⟨i,j,rfl,rfl⟩ | ⟨ds,es,rfl,rfl⟩ | ⟨ds,es,rfl,rfl⟩
 ·exact .inl ⟨_,_,ra.iInt,rb.iInt,q _ _ _ _ (.flat (.int _)) g⟩
 ·exact .inr (.inr (.inr ⟨_,_,ra.iStr,rb.iStr,g.1,q _ _ _ _ (.flat (.str _)) g.2⟩))
 ·obtain ⟨a,xs,rfl,e1,r1⟩:=ra.iTup
  obtain ⟨b,ys,rfl,e2,r2⟩:=rb.iTup
  obtain ⟨p1,p2,hne,hz,g⟩:=g
  obtain ⟨-,r1⟩:=r1.pure p1
  obtain ⟨-,r2⟩:=r2.pure p2
  have l1:=r1.length
  have l2:=r2.length
  refine .inr (.inr (.inl ⟨a,b,xs,ys,rfl,rfl,.of e1,.of e2,λz=>hne (List.length_eq_zero_iff.mp (by rw [← l1,z];rfl)),by omega,λz=>?_,λz p hp=>?_⟩))
  ·have:es=[]:=List.length_eq_zero_iff.mp (by rw [← l2,z];rfl)
   subst this
   rw [List.append_nil] at g
   exact q _ _ _ _ (.flat (.tup e1 r1)) g
  ·refine q _ _ _ [] ⟨same_upd hp,.tup upd_same ?_,List.nodup_nil,λ_ m=>nomatch m⟩ g
   exact (r1.append r2).same (same_upd hp)
 ·obtain ⟨a,xs,_,rfl,_,e1,r1⟩:=ra.iLst
  obtain ⟨b,ys,_,rfl,_,e2,r2⟩:=rb.iLst
  obtain ⟨p1,p2,hz,g⟩:=g
  obtain ⟨-,r1⟩:=r1.pure p1
  obtain ⟨-,r2⟩:=r2.pure p2
  have l1:=r1.length
  have l2:=r2.length
  refine .inr (.inl ⟨a,b,xs,ys,rfl,rfl,e1,e2,by omega,λp hp=>?_⟩)
  refine q _ _ _ [p] ⟨same_upd hp,.lst upd_same ((r1.append r2).same (same_upd hp)),by simp,λc m=>by rw [List.mem_singleton.mp m];exact hp⟩ g
theorem od_sub:OpD X (binaryOp .Sub) dSub:=by
 refine ⟨_,op_sub,λH a b x y F1 F2 k Q ra rb g q=>?_⟩
 (cases ra <;> first | exact (show False from g).elim | skip) <;> (cases rb <;> first | exact (show False from g).elim | skip)
 exact ⟨_,_,rfl,rfl,q _ _ _ _ (.flat (.int _)) g⟩
theorem dMul_inv {a b:D} {k:D->Prop} (g:dMul a b k):(∃i j,a=.int i/\b=.int j)\/∃i j,a=.lst i/\b=.int j:=by
 cases a with
 | int i=>cases b with
  | int j=>exact .inl ⟨i,j,rfl,rfl⟩
  | _=>exact (show False from g).elim
 | lst i=>cases b with
  | int j=>exact .inr ⟨i,j,rfl,rfl⟩
  | _=>exact (show False from g).elim
 | _=>exact (show False from g).elim
theorem od_mul:OpD X (binaryOp .Mult) dMul:=by
 refine ⟨_,OpR.or op_mul op_rep,λH a b x y F1 F2 k Q ra rb g q=>?_⟩
 rcases dMul_inv g with ⟨i,j,rfl,rfl⟩ | ⟨ds,n,rfl,rfl⟩
 ·exact .inl ⟨_,_,ra.iInt,rb.iInt,g.1,q _ _ _ _ (.flat (.int _)) g.2⟩
 ·obtain ⟨a,xs,_,rfl,_,e1,r1⟩:=ra.iLst
  obtain rfl:=rb.iInt
  obtain ⟨p1,h1,h2,hz,g⟩:=g
  obtain ⟨-,r1⟩:=r1.pure p1
  have l1:=r1.length
  refine .inr ⟨a,n,xs,rfl,rfl,e1,h1,h2,by rw [l1];exact hz,λp hp=>?_⟩
  refine q _ _ _ [p] ⟨same_upd hp,.lst upd_same ((r1.flatten _).same (same_upd hp)),by simp,λc m=>by rw [List.mem_singleton.mp m];exact hp⟩ g
theorem od_div:OpD X (binaryOp .FloorDiv) dDiv:=by
 refine ⟨_,OpR.or op_fdiv op_fdivN,λH a b x y F1 F2 k Q ra rb g q=>?_⟩
 (cases ra <;> first | exact (show False from g).elim | skip) <;> (cases rb <;> first | exact (show False from g).elim | skip)
 rcases (show _\/_ from g) with ⟨h1,h2,g⟩ | ⟨h1,h2,g⟩
 ·exact .inl ⟨_,_,rfl,rfl,⟨h1,h2⟩,q _ _ _ _ (.flat (.int _)) g⟩
 ·exact .inr ⟨_,_,rfl,rfl,⟨by omega,h2⟩,q _ _ _ _ (.flat (.int _)) g⟩
theorem od_mod:OpD X (binaryOp .Mod) dMod:=by
 refine ⟨_,OpR.or op_mod op_modN,λH a b x y F1 F2 k Q ra rb g q=>?_⟩
 (cases ra <;> first | exact (show False from g).elim | skip) <;> (cases rb <;> first | exact (show False from g).elim | skip)
 rcases (show _\/_ from g) with ⟨h1,g⟩ | ⟨h1,g⟩
 ·exact .inl ⟨_,_,rfl,rfl,h1,q _ _ _ _ (.flat (.int _)) g⟩
 ·exact .inr ⟨_,_,rfl,rfl,by omega,q _ _ _ _ (.flat (.int _)) g⟩
theorem od_pow:OpD X (binaryOp .Pow) dPow:=by
 refine ⟨_,op_pow,λH a b x y F1 F2 k Q ra rb g q=>?_⟩
 (cases ra <;> first | exact (show False from g).elim | skip) <;> (cases rb <;> first | exact (show False from g).elim | skip)
 exact ⟨_,_,rfl,rfl,g.1,q _ _ _ _ (.flat (.int _)) g.2⟩
theorem od_cmpI {op:CmpOp} {f:Int->Int->Bool} (h:OpR X (compareOp op) (rI0 λi j=>.bl (f i j))):OpD X (compareOp op) (dCmp f):=by
 refine ⟨_,h,λH a b x y F1 F2 k Q ra rb g q=>?_⟩
 (cases ra <;> first | exact (show False from g).elim | skip) <;> (cases rb <;> first | exact (show False from g).elim | skip)
 exact ⟨_,_,rfl,rfl,q _ _ _ _ (.flat (.bl _)) g⟩
theorem od_lt:OpD X (compareOp .Lt) (dCmp λi j=>decide (i<j)):=od_cmpI op_lt
theorem od_gt:OpD X (compareOp .Gt) (dCmp λi j=>decide (j<i)):=od_cmpI op_gt
theorem eq_nest {H:Hp} {a b:D} {x y:V} {F1 F2:List Addr} {k:D->Prop} {Q:VK} {neg:Bool} (ra:Rep X.K H a x F1) (rb:Rep X.K H b y F2)
  (h1:eqOk 9 a=true) (h2:eqOk 9 b=true) (g1:a=b->k (.bl (!neg))) (g2:a≠b->k (.bl neg)) (q:∀v H' d F,Fin X.K H H' d v F->k d->Q v H'):rDat neg x y H Q:=by
 refine ⟨toDat a,toDat b,9,ra.dv 9 h1,rb.dv 9 h2,eqOk_kqd _ _ h1,eqOk_kqd _ _ h2,Nat.le_refl _,λe=>?_,λe=>?_⟩
 ·exact q _ _ _ _ (.flat (.bl _)) (g1 (toDat_inj 9 9 a b h1 h2 e))
 ·exact q _ _ _ _ (.flat (.bl _)) (g2 λz=>e (by rw [z]))
theorem dEq_inv {a b:D} {k:D->Prop} (g:dEq a b k):(∃i j,a=.int i/\b=.int j)\/(∃i j,a=.bl i/\b=.bl j)\/(∃i j,a=.str i/\b=.str j)\/(eqOk 9 a=true/\eqOk 9 b=true/\(a=b->k (.bl true))/\(a≠b->k (.bl false))):=by
 cases a with
 | int i=>cases b with
  | int j=>exact .inl ⟨i,j,rfl,rfl⟩
  | _=>exact .inr (.inr (.inr g))
 | bl i=>cases b with
  | bl j=>exact .inr (.inl ⟨i,j,rfl,rfl⟩)
  | _=>exact .inr (.inr (.inr g))
 | str i=>cases b with
  | str j=>exact .inr (.inr (.inl ⟨i,j,rfl,rfl⟩))
  | _=>exact .inr (.inr (.inr g))
 | _=>exact .inr (.inr (.inr g))
theorem od_eq (hu:X.A.units+64<cLine):OpD X (compareOp .Eq) dEq:=by
 refine ⟨_,OpR.or op_eq (op_eqD hu),λH a b x y F1 F2 k Q ra rb g q=>?_⟩
 rcases dEq_inv g with ⟨i,j,rfl,rfl⟩ | ⟨i,j,rfl,rfl⟩ | ⟨i,j,rfl,rfl⟩ | ⟨h1,h2,g1,g2⟩
 ·obtain rfl:=ra.iInt
  obtain rfl:=rb.iInt
  refine .inl ⟨rfl,?_⟩
  have e:decide (V.int i=V.int j)=decide (i=j):=by simp
  rw [e]
  exact q _ _ _ _ (.flat (.bl _)) g
 ·obtain rfl:=ra.iBl
  obtain rfl:=rb.iBl
  refine .inl ⟨rfl,?_⟩
  rw [dec_bl]
  exact q _ _ _ _ (.flat (.bl _)) g
 ·obtain rfl:=ra.iStr
  obtain rfl:=rb.iStr
  refine .inl ⟨rfl,?_⟩
  have e:decide (V.str i=V.str j)=decide (i=j):=by simp
  rw [e]
  exact q _ _ _ _ (.flat (.bl _)) g
 ·exact .inr (eq_nest ra rb h1 h2 g1 g2 q)
theorem dNe_inv {a b:D} {k:D->Prop} (g:dNe a b k):(∃i j,a=.int i/\b=.int j)\/(∃i j,a=.bl i/\b=.bl j)\/(∃i j,a=.str i/\b=.str j)\/(eqOk 9 a=true/\eqOk 9 b=true/\(a=b->k (.bl false))/\(a≠b->k (.bl true))):=by
 cases a with
 | int i=>cases b with
  | int j=>exact .inl ⟨i,j,rfl,rfl⟩
  | _=>exact .inr (.inr (.inr g))
 | bl i=>cases b with
  | bl j=>exact .inr (.inl ⟨i,j,rfl,rfl⟩)
  | _=>exact .inr (.inr (.inr g))
 | str i=>cases b with
  | str j=>exact .inr (.inr (.inl ⟨i,j,rfl,rfl⟩))
  | _=>exact .inr (.inr (.inr g))
 | _=>exact .inr (.inr (.inr g))
theorem od_ne (hu:X.A.units+64<cLine):OpD X (compareOp .NotEq) dNe:=by
 refine ⟨_,OpR.or op_ne (op_neD hu),λH a b x y F1 F2 k Q ra rb g q=>?_⟩
 rcases dNe_inv g with ⟨i,j,rfl,rfl⟩ | ⟨i,j,rfl,rfl⟩ | ⟨i,j,rfl,rfl⟩ | ⟨h1,h2,g1,g2⟩
 ·obtain rfl:=ra.iInt
  obtain rfl:=rb.iInt
  refine .inl ⟨rfl,?_⟩
  have e:(!decide (V.int i=V.int j)) = !decide (i=j):=by simp
  rw [e]
  exact q _ _ _ _ (.flat (.bl _)) g
 ·obtain rfl:=ra.iBl
  obtain rfl:=rb.iBl
  refine .inl ⟨rfl,?_⟩
  rw [dec_bl]
  exact q _ _ _ _ (.flat (.bl _)) g
 ·obtain rfl:=ra.iStr
  obtain rfl:=rb.iStr
  refine .inl ⟨rfl,?_⟩
  have e:(!decide (V.str i=V.str j)) = !decide (i=j):=by simp
  rw [e]
  exact q _ _ _ _ (.flat (.bl _)) g
 ·exact .inr (eq_nest (neg:=true) ra rb h1 h2 g1 g2 q)
noncomputable def dNeg:D->(D->Prop)->Prop
 | .int i,k=>k (.int (-i))
 | _,_=>False
theorem ud_neg:UnD X (unaryOp .USub) dNeg:=by
 refine ⟨_,un_neg,λH a x F1 k Q ra g q=>?_⟩
 cases ra <;> try exact (show False from g).elim
 exact ⟨_,rfl,q _ _ _ _ (.flat (.int _)) g⟩
end
end PV
namespace PV
open PySem PySem.Spec L2
open PyProof.Rows (subscriptTail)
noncomputable def keysOf:List D->Option (List Key)
 | []=>some []
 | .int i::r=>(keysOf r).map λl=>.inl i::l
 | .str x::r=>(keysOf r).map λl=>.inr x::l
 | _::_=>none
theorem Reps.keys {K:PySem.W.Frag} {H:Hp}:∀{ds:List D} {xs:List V} {F:List Addr} {l:List Key},Reps K H ds xs F->keysOf ds=some l->xs=l.map kV
 | [],_,_,_,r,h=>by
  cases r
  simp only [keysOf,Option.some.injEq] at h
  subst h
  rfl
 | d::ds,_,_,_,r,h=>by
  cases r with
  | cons p r =>
   cases d with
   | int i =>
    simp only [keysOf,Option.map_eq_some_iff] at h
    obtain ⟨l',h1,rfl⟩:=h
    cases p
    rw [Reps.keys r h1]
    rfl
   | str i =>
    simp only [keysOf,Option.map_eq_some_iff] at h
    obtain ⟨l',h1,rfl⟩:=h
    cases p
    rw [Reps.keys r h1]
    rfl
   | _=>simp [keysOf] at h
theorem Reps.atI {K:PySem.W.Frag} {H:Hp} {ds:List D} {xs:List V} {F:List Addr} {i:Int} {d:D} (r:Reps K H ds xs F) (h:L2.atI ds i=some d):∃x B,L2.atI xs i=some x/\Rep K H d x B/\B.Sublist F:=by
 unfold L2.atI at h
 cases hj:ixN ds.length i with
 | none=>rw [hj] at h;cases h
 | some j =>
  rw [hj] at h
  obtain ⟨x,B,h1,h2,h3⟩:=r.get (i:=j) h
  refine ⟨x,B,?_,h2,h3⟩
  unfold L2.atI
  rw [r.length,hj]
  exact h1
noncomputable def oget {α:Type} (o:Option α) (k:α->Prop):Prop:=match o with
 | some d=>k d
 | none=>False
noncomputable def onI (b:D) (k:Int->Prop):Prop:=match b with
 | .int i=>k i
 | _=>False
noncomputable def onK (b:D) (k:Key->Prop):Prop:=match b with
 | .int i=>k (.inl i)
 | .str i=>k (.inr i)
 | _=>False
noncomputable def onT (b:D) (k:List D->Prop):Prop:=match b with
 | .tup l=>k l
 | _=>False
theorem onI_inv {b:D} {k:Int->Prop} (h:onI b k):∃i,b=.int i/\k i:=by
 cases b with
 | int i=>exact ⟨i,rfl,h⟩
 | _=>exact (show False from h).elim
theorem onT_inv {b:D} {k:List D->Prop} (h:onT b k):∃i,b=.tup i/\k i:=by
 cases b with
 | tup i=>exact ⟨i,rfl,h⟩
 | _=>exact (show False from h).elim
theorem onK_inv {b:D} {k:Key->Prop} (h:onK b k):∃key,k key/\∀{K:PySem.W.Frag} {H:Hp} {v:V} {F:List Addr},Rep K H b v F->v=kV key:=by
 cases b with
 | int i=>exact ⟨.inl i,h,λr=>r.iInt⟩
 | str i=>exact ⟨.inr i,h,λr=>r.iStr⟩
 | _=>exact (show False from h).elim
noncomputable def dIx:G2:=λa b k=>match a with
 | .lst xs=>onI b λi=>oget (L2.atI xs i) k
 | .tup xs=>onI b λi=>oget (L2.atI xs i) k
 | .kls xs=>onI b λi=>oget (L2.atI xs i) k
 | .str z=>onI b λi=>z.length<=sizeLine/\oget (L2.atI z.cps.toList i) λc=>k (.str ⟨#[c]⟩)
 | .dik kvs=>onK b λkey=>oget (valD kvs key) k
 | .dit kvs=>onT b λl=>oget (keysOf l) λks=>oget (valD kvs ks) k
 | .fdk kvs=>onK b λkey=>oget (valD kvs key) k
 | _=>False
theorem oget_some {α:Type} {o:Option α} {k:α->Prop} (h:oget o k):∃d,o=some d/\k d:=by
 cases o with
 | none=>exact h.elim
 | some d=>exact ⟨d,rfl,h⟩
theorem oget_of {α:Type} {o:Option α} {k:α->Prop} {d:α} (e:o=some d) (h:k d):oget o k:=by rw [e];exact h
section
variable {X:Cx}
theorem tail_dict {prog:Program} {w:World} {A:Around} {E:Value->Shared->Prop} {s₂:Shared} {value slice:Expr} {o i:Value} {T id:String} {Q:Value->Shared->Prop}
  (hl:typeLookup (.type T) "__getitem__" = pure (some (.builtin id))) (hs:subscripted slice false o i=operate [o,i] (getItem o i)) (hT:s₂.TypeIs o T) (h₂:wpAny (model prog w) A (getItem o i) Q E s₂) :
  wpAny (model prog w) A (subscriptTail value slice o i) Q E s₂:=by
 unfold subscriptTail
 refine wpAny_bind ?_
 rw [getitemInPython_of_ne hT.not_modules]
 refine wpAny_bind (wpAny_specialOf hT hl ?_)
 have fin:wpAny (model prog w) A (subscripted slice false o i) (λr s₃=>wpAny (model prog w) A (letTemporaryGo value o r >>= λ_=>pure r) Q E s₃) E s₂:=by
  rw [hs]
  exact wpAny_operating (wpAny_mono h₂ (λr s₃ h₃=>wpAny_bind (wpAny_letTemporaryGo (wpAny_pure h₃))) λ_ _ x=>x)
 first
  | exact wpAny_pure (wpAny_bind fin)
  | exact wpAny_bind (wpAny_pure (wpAny_bind fin))
  | exact wpAny_bind fin
theorem ix_dict (hu:X.A.units+1<cLine):IxR X (λx y H Q=>∃a v,x=.ref a/\DGet H a y (some v)/\Q v H):=by
 intro value slice pins s σ H x y v u Q I rx ry h hs
 obtain ⟨a,z,rfl,g,q⟩:=h
 cases rx
 exact tail_dict PySem.F.slot_dict_getitem.lookup hs (dict_typeIs I g) (d_getItem hu I g ry λw' s3 I3 rw'=>⟨z,H,I3,rw',q⟩)
noncomputable def IxD (X:Cx) (g:G2):Prop :=
 ∃r,IxR X r/\∀(H:Hp) (a b:D) (x y:V) (F1 F2:List Addr) (k:D->Prop) (Q:VK),Rep X.K H a x F1->Rep X.K H b y F2->g a b k ->
  (∀v d F,Rep X.K H d v F->F.Sublist F1->k d->Q v H)->r x y H Q
theorem xd_ix (hu:X.A.units+1<cLine):IxD X dIx:=by
 refine ⟨_,IxR.or ix_seq (ix_dict hu),λH a b x y F1 F2 k Q ra rb g q=>?_⟩
 cases a with
 | str z =>
  obtain ⟨i,rfl,hz,g⟩:=onI_inv g
  obtain ⟨c,e,g⟩:=oget_some g
  exact .inl (.inr (.inr ⟨_,_,c,ra.iStr,rb.iInt,hz,e,q _ _ _ (.str _) (List.nil_sublist _) g⟩))
 | tup ds =>
  obtain ⟨i,rfl,g⟩:=onI_inv g
  obtain ⟨a,xs,rfl,e,r⟩:=ra.iTup
  obtain ⟨d,h,g⟩:=oget_some g
  obtain ⟨v,B,h1,h2,h3⟩:=r.atI h
  exact .inl (.inr (.inl ⟨a,xs,i,v,rfl,rb.iInt,.of e,h1,q _ _ _ h2 h3 g⟩))
 | lst ds =>
  obtain ⟨i,rfl,g⟩:=onI_inv g
  obtain ⟨a,xs,G,rfl,rfl,e,r⟩:=ra.iLst
  obtain ⟨d,h,g⟩:=oget_some g
  obtain ⟨v,B,h1,h2,h3⟩:=r.atI h
  exact .inl (.inl ⟨a,xs,i,v,rfl,rb.iInt,.of e,h1,q _ _ _ h2 (h3.trans (List.sublist_cons_self _ _)) g⟩)
 | dik ds =>
  obtain ⟨key,g,hy⟩:=onK_inv (show onK b (λkey=>oget (valD ds key) k) from g)
  obtain ⟨a,kvs,G,rfl,rfl,e,r⟩:=ra.iDik
  obtain rfl:=hy rb
  obtain ⟨d,h,g⟩:=oget_some g
  rcases r.val key with ⟨z,_⟩ | ⟨d',v,B,h1,h2,h3,h4⟩
  ·rw [h] at z;cases z
  ·rw [h] at h1;cases h1
   exact .inr ⟨a,v,rfl,h2 ▸ DGet.k (k:=key) e,q _ _ _ h3 (h4.trans (List.sublist_cons_self _ _)) g⟩
 | dit ds =>
  obtain ⟨l,rfl,g⟩:=onT_inv g
  obtain ⟨a,kvs,G,rfl,rfl,e,r⟩:=ra.iDit
  obtain ⟨b,xs,rfl,e2,r2⟩:=rb.iTup
  obtain ⟨ks,hk,g⟩:=oget_some g
  obtain ⟨d,h,g⟩:=oget_some g
  have hx:=r2.keys hk
  subst hx
  rcases r.val ks with ⟨z,_⟩ | ⟨d',v,B,h1,h2,h3,h4⟩
  ·rw [h] at z;cases z
  ·rw [h] at h1;cases h1
   exact .inr ⟨a,v,rfl,h2 ▸ DGet.t (k:=ks) e e2,q _ _ _ h3 (h4.trans (List.sublist_cons_self _ _)) g⟩
 | kls ds =>
  obtain ⟨i,rfl,g⟩:=onI_inv g
  obtain ⟨a,xs,rfl,rfl,e,r⟩:=ra.iKls
  obtain ⟨d,h,g⟩:=oget_some g
  obtain ⟨v,B,h1,h2,h3⟩:=r.atI h
  exact .inl (.inl ⟨a,xs,i,v,rfl,rb.iInt,e.sq,h1,q _ _ _ h2 h3 g⟩)
 | fdk ds =>
  obtain ⟨key,g,hy⟩:=onK_inv (show onK b (λkey=>oget (valD ds key) k) from g)
  obtain ⟨a,ob,kvs,rfl,e,r⟩:=ra.iFdk
  obtain rfl:=hy rb
  obtain ⟨d,h,g⟩:=oget_some g
  rcases r.val key with ⟨z,_⟩ | ⟨d',v,B,h1,h2,h3,h4⟩
  ·rw [h] at z;cases z
  ·rw [h] at h1;cases h1
   exact .inr ⟨a,v,rfl,.inl ⟨kvs,key,.inr ⟨ob,e⟩,rfl,h2.symm⟩,q _ _ _ h3 h4 g⟩
 | _=>exact (show False from g).elim
variable {T:Tg} {m o m1 m2 m3 o1 o2:Bool} {e a b:Expr} {w wa wb:WE} {pos p2:Pos}
theorem ev_ix {g:G2} (hg:IxD X g) (ha:EV X T m1 o1 a wa) (hb:EV X T m2 o2 b wb) (hc:o1=true\/m2=false:=by first | exact .inl rfl | exact .inr rfl) (hs:PlainIx b:=by intro _ _;rfl) :
  EV X T (m1 || m2) o1 (.Subscript a b pos) (wBin g wa wb):=by
 obtain ⟨r,ro,gr⟩:=hg
 obtain ⟨ta,pa,ga⟩:=ha
 obtain ⟨tb,pb,gb⟩:=hb
 refine ⟨_,pe_ix ro pa pb hs,λz R σ H W ρ Q Q' s hw k=>?_⟩
 refine two ga gb hc s hw λx y H2 W2 d1 d2 ρ2 F1 F2 s2 f2 c2 r1 r2 o1 _ _ q2=>?_
 exact gr H2 d1 d2 x y F1 F2 _ Q' r1 r2 q2 λv d F rd sub hk=>k v H2 W2 d ρ2 F ⟨s2,f2,c2,rd,λh=>⟨(o1 h).1.sublist sub,λa m=>(o1 h).2 a (sub.subset m)⟩⟩ hk
noncomputable def inD:D->List D->Option Bool
 | .int i,[]=>some false
 | .int i,.int j::r=>(inD (.int i) r).map λb=>(j == i) || b
 | .str i,[]=>some false
 | .str i,.str j::r=>(inD (.str i) r).map λb=>(j == i) || b
 | _,_=>none
noncomputable def dIn (neg:Bool):G2
 | .int i,.dik kvs,k=>k (.bl (xor neg (valD kvs (.inl i)).isSome))
 | .str i,.dik kvs,k=>k (.bl (xor neg (valD kvs (.inr i)).isSome))
 | .tup l,.dit kvs,k=>oget (keysOf l) λks=>k (.bl (xor neg (valD kvs ks).isSome))
 | .int i,.lst xs,k=>oget (inD (.int i) xs) λb=>k (.bl (xor neg b))
 | .int i,.tup xs,k=>oget (inD (.int i) xs) λb=>k (.bl (xor neg b))
 | .str i,.lst xs,k=>oget (inD (.str i) xs) λb=>k (.bl (xor neg b))
 | .str i,.tup xs,k=>oget (inD (.str i) xs) λb=>k (.bl (xor neg b))
 | .str i,.str j,k=>k (.bl (xor neg (!(Builtin.Str.occurrences j i 0 j.length 1).isEmpty)))
 | _,_,_=>False
theorem inD_int {K:PySem.W.Frag} {H:Hp} {i:Int}:∀{ds:List D} {xs:List V} {F:List Addr} {b:Bool},Reps K H ds xs F->inD (.int i) ds=some b->xs.all flatV=true/\inV (.int i) xs=b
 | [],_,_,_,r,h=>by
  cases r
  simp only [inD,Option.some.injEq] at h
  subst h
  exact ⟨rfl,rfl⟩
 | d::ds,_,_,_,r,h=>by
  cases r with
  | cons p r =>
   cases d with
   | int j =>
    simp only [inD,Option.map_eq_some_iff] at h
    obtain ⟨b',h1,rfl⟩:=h
    cases p
    obtain ⟨e1,e2⟩:=inD_int r h1
    refine ⟨by rw [List.all_cons,e1];rfl,?_⟩
    unfold inV at e2 ⊢
    rw [List.any_cons,e2]
    rfl
   | _=>simp [inD] at h
theorem inD_str {K:PySem.W.Frag} {H:Hp} {i:Str}:∀{ds:List D} {xs:List V} {F:List Addr} {b:Bool},Reps K H ds xs F->inD (.str i) ds=some b->xs.all flatV=true/\inV (.str i) xs=b
 | [],_,_,_,r,h=>by
  cases r
  simp only [inD,Option.some.injEq] at h
  subst h
  exact ⟨rfl,rfl⟩
 | d::ds,_,_,_,r,h=>by
  cases r with
  | cons p r =>
   cases d with
   | str j =>
    simp only [inD,Option.map_eq_some_iff] at h
    obtain ⟨b',h1,rfl⟩:=h
    cases p
    obtain ⟨e1,e2⟩:=inD_str r h1
    refine ⟨by rw [List.all_cons,e1];rfl,?_⟩
    unfold inV at e2 ⊢
    rw [List.any_cons,e2]
    rfl
   | _=>simp [inD] at h
theorem op_dict (neg:Bool) (hu:X.A.units+1<cLine):OpR X (compareOp (if neg then .NotIn else .In)) (λy x H Q=>∃a o,x=.ref a/\DGet H a y o/\Q (.bl (xor neg o.isSome)) H):=by
 intro pins s σ H y x u v Q I ry rx h
 obtain ⟨a,ov,rfl,g,q⟩:=h
 cases rx
 cases neg with
 | false=>exact d_in hu I g ry λs3 I3=>⟨.bl ov.isSome,H,I3,rfl,by simpa using q⟩
 | true=>exact d_notIn hu I g ry λs3 I3=>⟨.bl (!ov.isSome),H,I3,rfl,by simpa using q⟩
theorem op_inseq (neg:Bool):OpR X (compareOp (if neg then .NotIn else .In)) (rIn X.K neg):=by
 cases neg with
 | false=>exact op_in_seq
 | true=>exact op_notIn_seq
theorem op_instr (neg:Bool):OpR X (compareOp (if neg then .NotIn else .In)) (λx y H Q=>∃i j,x=.str i/\y=.str j/\Q (.bl (xor neg (!(Builtin.Str.occurrences j i 0 j.length 1).isEmpty))) H):=by
 cases neg with
 | false=>simpa using op_in_str (X:=X)
 | true=>simpa using op_notIn_str (X:=X)
theorem repk_dget {H:Hp} {a:Addr} {kvs:List (Key × V)} {ds:List (Key × D)} {F:List Addr} {k:Key} (e:H a=some (.dK kvs)) (r:RepK X.K H ds kvs F):∃o,DGet H a (kV k) o/\o.isSome=(valD ds k).isSome:=by
 refine ⟨_,DGet.k (k:=k) e,?_⟩
 rcases r.val k with ⟨h1,h2⟩ | ⟨d,v,B,h1,h2,_⟩ <;> simp [h1,h2]
theorem dIn_inv {neg:Bool} {a b:D} {k:D->Prop} (g:dIn neg a b k):(∃i z,a=.int i/\b=.tup z)\/(∃i z,a=.int i/\b=.lst z)\/(∃i z,a=.int i/\b=.dik z)\/(∃i z,a=.str i/\b=.str z)\/(∃i z,a=.str i/\b=.tup z)\/(∃i z,a=.str i/\b=.lst z)\/(∃i z,a=.str i/\b=.dik z)\/∃i z,a=.tup i/\b=.dit z:=by
 cases a with
 | int i=>cases b with
  | tup z=>exact .inl ⟨i,z,rfl,rfl⟩
  | lst z=>exact .inr (.inl ⟨i,z,rfl,rfl⟩)
  | dik z=>exact .inr (.inr (.inl ⟨i,z,rfl,rfl⟩))
  | _=>exact (show False from g).elim
 | str i=>cases b with
  | str z=>exact .inr (.inr (.inr (.inl ⟨i,z,rfl,rfl⟩)))
  | tup z=>exact .inr (.inr (.inr (.inr (.inl ⟨i,z,rfl,rfl⟩))))
  | lst z=>exact .inr (.inr (.inr (.inr (.inr (.inl ⟨i,z,rfl,rfl⟩)))))
  | dik z=>exact .inr (.inr (.inr (.inr (.inr (.inr (.inl ⟨i,z,rfl,rfl⟩))))))
  | _=>exact (show False from g).elim
 | tup i=>cases b with
  | dit z=>exact .inr (.inr (.inr (.inr (.inr (.inr (.inr ⟨i,z,rfl,rfl⟩))))))
  | _=>exact (show False from g).elim
 | _=>exact (show False from g).elim
theorem od_in' (neg:Bool) (hu:X.A.units+1<cLine):OpD X (compareOp (if neg then .NotIn else .In)) (dIn neg):=by
 refine ⟨_,OpR.or (op_dict neg hu) (OpR.or (op_inseq neg) (op_instr neg)),λH a b x y F1 F2 k Q ra rb g q=>?_⟩
 have seqI:∀{i:Int} {p:Addr} {ds:List D} {xs:List V} {F:List Addr},x=.int i->y=.ref p->Reps X.K H ds xs F->(SqL X.K H p xs\/SqT X.K H p xs)->oget (inD (.int i) ds) (λb=>k (.bl (xor neg b)))->rIn X.K neg x y H Q:=λ{i p ds xs F} ex ey r hs g=>by
  subst ex ey
  obtain ⟨b,h,g⟩:=oget_some g
  obtain ⟨e1,e2⟩:=inD_int r h
  refine ⟨p,xs,rfl,hs,rfl,e1,?_⟩
  rw [e2]
  have:=q _ _ _ _ (.flat (.bl _)) g
  cases neg <;> simpa using this
 have seqS:∀{i:Str} {p:Addr} {ds:List D} {xs:List V} {F:List Addr},x=.str i->y=.ref p->Reps X.K H ds xs F->(SqL X.K H p xs\/SqT X.K H p xs)->oget (inD (.str i) ds) (λb=>k (.bl (xor neg b)))->rIn X.K neg x y H Q:=λ{i p ds xs F} ex ey r hs g=>by
  subst ex ey
  obtain ⟨b,h,g⟩:=oget_some g
  obtain ⟨e1,e2⟩:=inD_str r h
  refine ⟨p,xs,rfl,hs,rfl,e1,?_⟩
  rw [e2]
  have:=q _ _ _ _ (.flat (.bl _)) g
  cases neg <;> simpa using this
 rcases dIn_inv g with ⟨i,z,rfl,rfl⟩ | ⟨i,z,rfl,rfl⟩ | ⟨i,ds,rfl,rfl⟩ | ⟨i,z,rfl,rfl⟩ | ⟨i,z,rfl,rfl⟩ | ⟨i,z,rfl,rfl⟩ | ⟨i,ds,rfl,rfl⟩ | ⟨l,ds,rfl,rfl⟩
 ·obtain ⟨p,xs,ey,e,r⟩:=rb.iTup
  exact .inr (.inl (seqI ra.iInt ey r (.inr (.of e)) g))
 ·obtain ⟨p,xs,G,ey,_,e,r⟩:=rb.iLst
  exact .inr (.inl (seqI ra.iInt ey r (.inl (.of e)) g))
 ·obtain ⟨a,kvs,G,rfl,_,e,r⟩:=rb.iDik
  obtain rfl:=ra.iInt
  obtain ⟨o,h1,h2⟩:=repk_dget (k:=.inl i) e r
  refine .inl ⟨a,o,rfl,h1,?_⟩
  rw [h2]
  exact q _ _ _ _ (.flat (.bl _)) g
 ·exact .inr (.inr ⟨_,_,ra.iStr,rb.iStr,q _ _ _ _ (.flat (.bl _)) g⟩)
 ·obtain ⟨p,xs,ey,e,r⟩:=rb.iTup
  exact .inr (.inl (seqS ra.iStr ey r (.inr (.of e)) g))
 ·obtain ⟨p,xs,G,ey,_,e,r⟩:=rb.iLst
  exact .inr (.inl (seqS ra.iStr ey r (.inl (.of e)) g))
 ·obtain ⟨a,kvs,G,rfl,_,e,r⟩:=rb.iDik
  obtain rfl:=ra.iStr
  obtain ⟨o,h1,h2⟩:=repk_dget (k:=.inr i) e r
  refine .inl ⟨a,o,rfl,h1,?_⟩
  rw [h2]
  exact q _ _ _ _ (.flat (.bl _)) g
 ·obtain ⟨b,xs,rfl,e2,r2⟩:=ra.iTup
  obtain ⟨a,kvs,G,rfl,_,e,r⟩:=rb.iDit
  obtain ⟨ks,hk,g⟩:=oget_some g
  have hx:=r2.keys hk
  subst hx
  refine .inl ⟨a,valV kvs ks,rfl,DGet.t (k:=ks) e e2,?_⟩
  have h2:(valV kvs ks).isSome=(valD ds ks).isSome:=by
   rcases r.val ks with ⟨h1,h2⟩ | ⟨d,v,B,h1,h2,_⟩ <;> simp [h1,h2]
  rw [h2]
  exact q _ _ _ _ (.flat (.bl _)) g
theorem od_in (hu:X.A.units+1<cLine):OpD X (compareOp .In) (dIn false):=od_in' false hu
theorem od_nin (hu:X.A.units+1<cLine):OpD X (compareOp .NotIn) (dIn true):=od_in' true hu
noncomputable abbrev WA:=Env->(List D->Env->Prop)->Prop
structure PostA (K:PySem.W.Frag) (T:Tg) (z:Nat->V) (R:Addr->Prop) (m o:Bool) (H:Hp) (W:Addr->Prop) (σ:St) (ρ:Env) (H':Hp) (W':Addr->Prop) (ρ':Env) (ds:List D) (vs:List V) (F:List Addr):Prop where
 sr:SR K T z R H' W' σ ρ'
 fr:FrW H W H' W'
 calm:m=false->Same H H'/\W'=W/\ρ'=ρ
 rep:Reps K H' ds vs F
 own:o=true->F.Nodup/\∀a∈F,H a=none/\¬W' a
noncomputable def AV (X:Cx) (T:Tg) (m o:Bool) (es:List Expr) (w:WA):Prop :=
 ∃ta,PA X es ta/\∀(z:Nat->V) (R:Addr->Prop) (σ:St) (H:Hp) (W:Addr->Prop) (ρ:Env) (Q:List D->Env->Prop) (Q':List V->Hp->Prop),SR X.K T z R H W σ ρ->w ρ Q ->
  (∀vs H' W' ds ρ' F,PostA X.K T z R m o H W σ ρ H' W' ρ' ds vs F->Q ds ρ'->Q' vs H')->ta σ H Q'
variable {es:List Expr} {wr:WA}
noncomputable def wNil:WA:=λρ Q=>Q [] ρ
noncomputable def wCons (w:WE) (wr:WA):WA:=λρ Q=>w ρ λd ρ1=>wr ρ1 λds ρ2=>Q (d::ds) ρ2
theorem av_nil:AV X T false true [] wNil:=⟨_,pa_nil,λz R σ H W ρ Q Q' s hw k=>k [] H W [] ρ [] ⟨s,FrW.refl H W,λ_=>⟨Same.refl H,rfl,rfl⟩,.nil,λ_=>⟨List.nodup_nil,λa m=>nomatch m⟩⟩ hw⟩
theorem av_cons (he:EV X T m1 o1 e w) (hr:AV X T m2 o2 es wr) (hc:o1=true\/m2=false:=by first | exact .inl rfl | exact .inr rfl) (hs:starEach (e::es) X.env=(false,eval e X.env)::starEach es X.env:=by rfl) :
  AV X T (m1 || m2) (o1 && o2) (e::es) (wCons w wr):=by
 obtain ⟨te,pe,ge⟩:=he
 obtain ⟨ta,pa,ga⟩:=hr
 refine ⟨_,pa_cons pe pa hs,λz R σ H W ρ Q Q' s hw k=>?_⟩
 refine ge z R σ H W ρ _ _ s hw λv1 H1 W1 d1 ρ1 F1 p q1=>?_
 refine ga z R σ H1 W1 ρ1 _ _ p.sr q1 λvs H2 W2 ds ρ2 F2 q q2=>?_
 have r1:Rep X.K H2 d1 v1 F1:=by
  rcases hc with hc | hc
  ·exact p.rep.keep q.fr λa h=>((p.own hc).2 a h).2
  ·exact p.rep.same (q.calm hc).1
 refine k (v1::vs) H2 W2 (d1::ds) ρ2 (F1++F2) ⟨q.sr,p.fr.trans q.fr,λh=>?_,.cons r1 q.rep,λh=>?_⟩ q2
 ·rw [Bool.or_eq_false_iff] at h
  obtain ⟨a1,a2,a3⟩:=p.calm h.1
  obtain ⟨b1,b2,b3⟩:=q.calm h.2
  exact ⟨a1.trans b1,b2.trans a2,b3.trans a3⟩
 ·rw [Bool.and_eq_true] at h
  obtain ⟨n1,k1⟩:=p.own h.1
  obtain ⟨n2,k2⟩:=q.own h.2
  refine ⟨List.nodup_append.mpr ⟨n1,n2,λa ma b mb e=>?_⟩,λa ma=>?_⟩
  ·subst e
   obtain ⟨ob,e,_⟩:=p.rep.dom a ma
   rw [(k2 a mb).1] at e;cases e
  ·rcases List.mem_append.mp ma with ma | ma
   ·refine ⟨(k1 a ma).1,λw=>?_⟩
    rcases q.fr.new a w with w | w
    ·exact (k1 a ma).2 w
    ·obtain ⟨ob,e,_⟩:=p.rep.dom a ma
     rw [w] at e;cases e
   ·exact ⟨p.fr.dom a (k2 a ma).1,(k2 a ma).2⟩
noncomputable def wTup (wr:WA):WE:=λρ Q=>wr ρ λds ρ'=>ds.length<=sizeLine/\Q (.tup ds) ρ'
noncomputable def wLst (wr:WA):WE:=λρ Q=>wr ρ λds ρ'=>ds.length<=sizeLine/\Q (.lst ds) ρ'
theorem ev_tup {x1} (h:AV X T m o es wr):EV X T m o (.Tuple es x1 pos) (wTup wr):=by
 obtain ⟨ta,pa,ga⟩:=h
 refine ⟨_,pe_tup pa,λz R σ H W ρ Q Q' s hw k=>?_⟩
 refine ga z R σ H W ρ _ _ s hw λvs H1 W1 ds ρ1 F p q=>?_
 obtain ⟨hz,q⟩:=q
 refine ⟨by rw [p.rep.length];exact hz,λa ha=>k _ _ W1 (.tup ds) ρ1 F ⟨p.sr.same (same_upd ha),p.fr.trans (FrW.same W1 (same_upd ha)),λh=>⟨(p.calm h).1.trans (same_upd ha),(p.calm h).2⟩,.tup upd_same (p.rep.same (same_upd ha)),p.own⟩ q⟩
theorem ev_lst (h:AV X T m o es wr):EV X T m o (.List es pos) (wLst wr):=by
 obtain ⟨ta,pa,ga⟩:=h
 refine ⟨_,pe_lst pa,λz R σ H W ρ Q Q' s hw k=>?_⟩
 refine ga z R σ H W ρ _ _ s hw λvs H1 W1 ds ρ1 F p q=>?_
 obtain ⟨hz,q⟩:=q
 refine ⟨by rw [p.rep.length];exact hz,λa ha=>k _ _ W1 (.lst ds) ρ1 (a::F) ⟨p.sr.same (same_upd ha),p.fr.trans (FrW.same W1 (same_upd ha)),λh=>⟨(p.calm h).1.trans (same_upd ha),(p.calm h).2⟩,.lst upd_same (p.rep.same (same_upd ha)),λh=>?_⟩ q⟩
 obtain ⟨n1,k1⟩:=p.own h
 refine ⟨List.nodup_cons.mpr ⟨λm=>?_,n1⟩,λb mb=>?_⟩
 ·obtain ⟨ob,e,_⟩:=p.rep.dom a m
  rw [ha] at e;cases e
 ·rcases List.mem_cons.mp mb with rfl | mb
  ·exact ⟨p.fr.dom _ ha,p.sr.nw ha⟩
  ·exact k1 b mb
theorem ev_dnewK:EV X T false true (.Dict [] [] pos) (wC (.dik [])) :=
 ⟨_,pe_dnewK,λz R σ H W ρ Q Q' s hw k a ha=>k _ _ W (.dik []) ρ [a] (Post.fin s (FrW.refl H W) (λ_=>⟨Same.refl H,rfl,rfl⟩) (same_upd ha) (.dik upd_same .nil) (by simp) (λb m=>by rw [List.mem_singleton.mp m];exact ha)) hw⟩
theorem ev_dnewT:EV X T false true (.Dict [] [] pos) (wC (.dit [])) :=
 ⟨_,pe_dnewT,λz R σ H W ρ Q Q' s hw k a ha=>k _ _ W (.dit []) ρ [a] (Post.fin s (FrW.refl H W) (λ_=>⟨Same.refl H,rfl,rfl⟩) (same_upd ha) (.dit upd_same .nil) (by simp) (λb m=>by rw [List.mem_singleton.mp m];exact ha)) hw⟩
noncomputable abbrev GA:=List D->(D->Prop)->Prop
noncomputable def CallD (X:Cx) (f:Value) (g:GA):Prop :=
 ∃r,CallR X f r/\∀(H:Hp) (ds:List D) (xs:List V) (F:List Addr) (k:D->Prop) (Q:VK),Reps X.K H ds xs F->g ds k->(∀v H' d F',Fin X.K H H' d v F'->k d->Q v H')->r xs H Q
noncomputable def wCall (g:GA) (wr:WA):WE:=λρ Q=>wr ρ λds ρ'=>g ds λd=>Q d ρ'
variable {x:Str} {id T':String} {p:Pos}
theorem call_fin {g:GA} {r:List V->Hp->VK->Prop} (gr:∀(H:Hp) (ds:List D) (xs:List V) (F:List Addr) (k:D->Prop) (Q:VK),Reps X.K H ds xs F->g ds k->(∀v H' d F',Fin X.K H H' d v F'->k d->Q v H')->r xs H Q)
  {ta:TA} (ga:∀(z:Nat->V) (R:Addr->Prop) (σ:St) (H:Hp) (W:Addr->Prop) (ρ:Env) (Q:List D->Env->Prop) (Q':List V->Hp->Prop),SR X.K T z R H W σ ρ->wr ρ Q ->
   (∀vs H' W' ds ρ' F,PostA X.K T z R m o H W σ ρ H' W' ρ' ds vs F->Q ds ρ'->Q' vs H')->ta σ H Q')
  {z:Nat->V} {R:Addr->Prop} {σ:St} {H:Hp} {W:Addr->Prop} {ρ:Env} {Q:D->Env->Prop} {Q':VK} (s:SR X.K T z R H W σ ρ) (hw:wCall g wr ρ Q)
  (k:∀v H' W' d ρ' F,Post X.K T z R m true H W σ ρ H' W' ρ' d v F->Q d ρ'->Q' v H'):ta σ H λvs H1=>r vs H1 Q':=by
 refine ga z R σ H W ρ _ _ s hw λvs H1 W1 ds ρ1 F p q=>?_
 exact gr H1 ds vs F _ Q' p.rep q λv H' d F' fi hk=>k v H' W1 d ρ1 F' (Post.fin p.sr p.fr p.calm fi.same fi.rep fi.nd fi.new) hk
theorem ev_callB {g:GA} (hc:CallD X (.builtin id) g) (hm:X.mg x=none) (hv:bootBuiltins x=some (.builtin id)) (ha:AV X T m o (e::es) wr) (hg:Gl X x:=by rfl) (hn:x ≠ "__name__":=by decide) (hdb:(x == ("__debug__" : Str))=false:=by decide)
  (he:starEach (e::es) X.env=(false,eval e X.env)::starEach es X.env:=by rfl) (hpl:(backTo pos (starEach es X.env)).any (·.1)=false:=by rfl):EV X T m true (.Call (.Name x p) (e::es) [] pos) (wCall g wr):=by
 obtain ⟨r,rc,gr⟩:=hc
 obtain ⟨ta,pa,ga⟩:=ha
 exact ⟨_,pe_callB rc hg hm hv pa hn hdb he hpl,λz R σ H W ρ Q Q' s hw k=>call_fin gr ga s hw k⟩
theorem ev_callTy {g:GA} (hc:CallD X (.type T') g) (hm:X.mg x=none) (hv:bootBuiltins x=some (.type T')) (ha:AV X T m o (e::es) wr) (hg:Gl X x:=by rfl) (hn:x ≠ "__name__":=by decide) (hdb:(x == ("__debug__" : Str))=false:=by decide)
  (he:starEach (e::es) X.env=(false,eval e X.env)::starEach es X.env:=by rfl) (hpl:(backTo pos (starEach es X.env)).any (·.1)=false:=by rfl):EV X T m true (.Call (.Name x p) (e::es) [] pos) (wCall g wr):=by
 obtain ⟨r,rc,gr⟩:=hc
 obtain ⟨ta,pa,ga⟩:=ha
 exact ⟨_,pe_callTy rc hg hm hv pa hn hdb he hpl,λz R σ H W ρ Q Q' s hw k=>call_fin gr ga s hw k⟩
theorem ev_ty (t:Ty) (hm:X.mg x=none) (hv:bootBuiltins x=some (.type t.nm)) (hg:Gl X x:=by rfl) (hn:x ≠ "__name__":=by decide) (hdb:(x == ("__debug__" : Str))=false:=by decide):EV X T false true (.Name x pos) (wC (.ty t)) :=
 ev_const (pe_bltn hg hm hv (v:=.ty t.nm) rfl hn hdb) λ_=>.ty t
theorem Reps.at1 {K:PySem.W.Frag} {H:Hp} {d:D} {xs:List V} {F:List Addr} (r:Reps K H [d] xs F):∃v,xs=[v]/\Rep K H d v F:=by
 cases r with
 | cons h r=>cases r;rw [List.append_nil];exact ⟨_,rfl,h⟩
theorem Reps.at2 {K:PySem.W.Frag} {H:Hp} {d e:D} {xs:List V} {F:List Addr} (r:Reps K H [d,e] xs F):∃v u F1 F2,xs=[v,u]/\Rep K H d v F1/\Rep K H e u F2:=by
 cases r with
 | cons h r =>
  obtain ⟨u,rfl,h2⟩:=r.at1
  exact ⟨_,_,_,_,rfl,h,h2⟩
noncomputable def dLen:GA
 | [.lst xs],k=>k (.int xs.length)
 | [.tup xs],k=>k (.int xs.length)
 | [.kls xs],k=>k (.int xs.length)
 | [.dik xs],k=>k (.int xs.length)
 | [.str z],k=>z.length<=sizeLine/\k (.int z.length)
 | _,_=>False
theorem cd_len:CallD X (.builtin "len") dLen:=by
 refine ⟨_,CallR.or call_len call_lenD,λH ds xs F k Q r g q=>?_⟩
 cases ds with
 | nil=>exact (show False from g).elim
 | cons d ds =>
  cases ds with
  | cons _ _=>cases d <;> exact (show False from g).elim
  | nil =>
   cases d with
   | lst es =>
    obtain ⟨v,rfl,rd⟩:=r.at1
    clear r
    cases rd with
    | lst e r9=>exact .inl ⟨_,_,rfl,.inl ⟨_,.of e,rfl⟩,by rw [r9.length];exact q _ _ _ _ (.flat (.int _)) g⟩
   | tup es =>
    obtain ⟨v,rfl,rd⟩:=r.at1
    clear r
    cases rd with
    | tup e r9=>exact .inl ⟨_,_,rfl,.inr ⟨_,.of e,rfl⟩,by rw [r9.length];exact q _ _ _ _ (.flat (.int _)) g⟩
   | kls es =>
    obtain ⟨v,rfl,rd⟩:=r.at1
    clear r
    cases rd with
    | kls e r9=>exact .inl ⟨_,_,rfl,.inl ⟨_,e.sq,rfl⟩,by rw [r9.length];exact q _ _ _ _ (.flat (.int _)) g⟩
   | dik es =>
    obtain ⟨v,rfl,rd⟩:=r.at1
    clear r
    cases rd with
    | dik e r9=>exact .inr ⟨_,_,rfl,e,by rw [r9.length];exact q _ _ _ _ (.flat (.int _)) g⟩
   | str es =>
    obtain ⟨v,rfl,rd⟩:=r.at1
    clear r
    cases rd
    exact .inl ⟨_,_,rfl,⟨g.1,rfl⟩,q _ _ _ _ (.flat (.int _)) g.2⟩
   | _=>exact (show False from g).elim
noncomputable def dInt:GA
 | [.int i],k=>k (.int i)
 | [.bl b],k=>k (.int (if b then 1 else 0))
 | _,_=>False
theorem cd_int:CallD X (.type "int") dInt:=by
 refine ⟨_,call_int1,λH ds xs F k Q r g q=>?_⟩
 cases ds with
 | nil=>exact (show False from g).elim
 | cons d ds =>
  cases ds with
  | cons _ _=>cases d <;> exact (show False from g).elim
  | nil =>
   cases d with
   | int i =>
    obtain ⟨v,rfl,rd⟩:=r.at1
    cases rd
    exact .inl ⟨_,rfl,q _ _ _ _ (.flat (.int _)) g⟩
   | bl i =>
    obtain ⟨v,rfl,rd⟩:=r.at1
    cases rd
    exact .inr ⟨_,rfl,q _ _ _ _ (.flat (.int _)) g⟩
   | _=>exact (show False from g).elim
noncomputable def dMin2:GA
 | [.int i,.int j],k=>k (.int (if j<i then j else i))
 | _,_=>False
theorem cd_min2 (hc:X.calm=true):CallD X (.builtin "min") dMin2:=by
 refine ⟨_,call_min2 hc,λH ds xs F k Q r g q=>?_⟩
 cases ds with
 | nil=>exact (show False from g).elim
 | cons d ds =>
  cases ds with
  | nil=>cases d <;> exact (show False from g).elim
  | cons d2 ds =>
   cases d with
   | int i =>
    cases d2 with
    | int j =>
     cases ds with
     | nil =>
      obtain ⟨v,u,F1,F2,rfl,r1,r2⟩:=r.at2
      cases r1;cases r2
      exact ⟨_,_,rfl,q _ _ _ _ (.flat (.int _)) g⟩
     | cons _ _=>exact (show False from g).elim
    | _=>exact (show False from g).elim
   | _=>exact (show False from g).elim
noncomputable def dList:GA
 | [.lst xs],k=>pureL xs=true/\k (.lst xs)
 | [.tup xs],k=>pureL xs=true/\k (.lst xs)
 | [.kls xs],k=>pureL xs=true/\k (.lst xs)
 | _,_=>False
noncomputable def dTuple:GA
 | [.lst xs],k=>pureL xs=true/\k (.tup xs)
 | [.tup xs],k=>pureL xs=true/\k (.tup xs)
 | [.kls xs],k=>pureL xs=true/\k (.tup xs)
 | _,_=>False
theorem cd_tuple:CallD X (.type "tuple") dTuple:=by
 refine ⟨_,call_tuple_of,λH ds xs F k Q r g q=>?_⟩
 cases ds with
 | nil=>exact (show False from g).elim
 | cons d ds =>
  cases ds with
  | cons _ _=>cases d <;> exact (show False from g).elim
  | nil =>
   cases d with
   | lst es =>
    obtain ⟨v,rfl,rd⟩:=r.at1
    clear r
    cases rd with
    | lst e r9=>exact ⟨_,_,rfl,.inl ⟨.of e,λl hl=>q _ _ _ [] ⟨same_upd hl,.tup upd_same ((r9.pure g.1).2.same (same_upd hl)),by simp,λb m=>nomatch m⟩ g.2⟩⟩
   | tup es =>
    obtain ⟨v,rfl,rd⟩:=r.at1
    clear r
    cases rd with
    | tup e r9=>exact ⟨_,_,rfl,.inr ⟨.of e,q _ _ _ _ (.flat (.tup e (r9.pure g.1).2)) g.2⟩⟩
   | kls es =>
    obtain ⟨v,rfl,rd⟩:=r.at1
    clear r
    cases rd with
    | kls e r9=>exact ⟨_,_,rfl,.inl ⟨e.sq,λl hl=>q _ _ _ [] ⟨same_upd hl,.tup upd_same ((r9.pure g.1).2.same (same_upd hl)),by simp,λb m=>nomatch m⟩ g.2⟩⟩
   | _=>exact (show False from g).elim
end
end PV
namespace PV
open PySem PySem.Spec L2
section
variable {X:Cx} {T:Tg} {m o m1 m2 m3 o1 o2:Bool} {e a b:Expr} {w wa wb:WE} {pos p2 p:Pos} {es:List Expr} {wr:WA} {x:Str}
noncomputable def isiD:D->Ty->Option Bool
 | .non,_=>some false
 | .bl _,t=>some (t == .bool || t == .int)
 | .int _,t=>some (t == .int)
 | .str _,t=>some (t == .str)
 | .tup _,t=>some (t == .tuple)
 | .lst _,t=>some (t == .list)
 | .dik _,t=>some (t == .dict)
 | .dit _,t=>some (t == .dict)
 | .kls _,_=>none
 | .ty _,_=>none
 | .fdk _,_=>none
 | .ftp _,_=>none
 | .fls _,t=>some (t == .list)
 | .fdt _,_=>none
 | .obj _ _,_=>none
 | .clo _ _,_=>none
noncomputable def dIsi:GA
 | [d,.ty t],k=>oget (isiD d t) λb=>k (.bl b)
 | _,_=>False
theorem kit_nn {K:PySem.W.Frag} (t:Ty):PySem.W.kitOne K (.type "NoneType") (.type t.nm)=some false:=by
 cases t <;> (unfold PySem.W.kitOne;rw [if_neg (by decide)];rfl)
theorem kit_bb {K:PySem.W.Frag} (t:Ty):PySem.W.kitOne K (.type "bool") (.type t.nm)=some (t == .bool || t == .int):=by
 cases t <;> first | (unfold PySem.W.kitOne;rw [if_pos (by decide)];rfl) | (unfold PySem.W.kitOne;rw [if_neg (by decide)];rfl)
theorem kit_ii {K:PySem.W.Frag} (t:Ty):PySem.W.kitOne K (.type "int") (.type t.nm)=some (t == .int):=by
 cases t <;> first | (unfold PySem.W.kitOne;rw [if_pos (by decide)];rfl) | (unfold PySem.W.kitOne;rw [if_neg (by decide)];rfl)
theorem kit_ss {K:PySem.W.Frag} (t:Ty):PySem.W.kitOne K (.type "str") (.type t.nm)=some (t == .str):=by
 cases t <;> first | (unfold PySem.W.kitOne;rw [if_pos (by decide)];rfl) | (unfold PySem.W.kitOne;rw [if_neg (by decide)];rfl)
theorem kit_tt {K:PySem.W.Frag} (t:Ty):PySem.W.kitOne K (.type "tuple") (.type t.nm)=some (t == .tuple):=by
 cases t <;> first | (unfold PySem.W.kitOne;rw [if_pos (by decide)];rfl) | (unfold PySem.W.kitOne;rw [if_neg (by decide)];rfl)
theorem kit_ll {K:PySem.W.Frag} (t:Ty):PySem.W.kitOne K (.type "list") (.type t.nm)=some (t == .list):=by
 cases t <;> first | (unfold PySem.W.kitOne;rw [if_pos (by decide)];rfl) | (unfold PySem.W.kitOne;rw [if_neg (by decide)];rfl)
theorem kit_dd {K:PySem.W.Frag} (t:Ty):PySem.W.kitOne K (.type "dict") (.type t.nm)=some (t == .dict):=by
 cases t <;> first | (unfold PySem.W.kitOne;rw [if_pos (by decide)];rfl) | (unfold PySem.W.kitOne;rw [if_neg (by decide)];rfl)
theorem cd_isi:CallD X (.builtin "isinstance") dIsi:=by
 refine ⟨_,call_isinst,λH ds xs F k Q r g q=>?_⟩
 match ds,r,g with
 | [d,.ty t],r,g =>
  obtain ⟨v,u,F1,F2,rfl,r1,r2⟩:=r.at2
  obtain ⟨b,hb,g⟩:=oget_some g
  cases r2
  have fin:=q _ _ _ _ (.flat (.bl b)) g
  cases r1 with
  | non=>exact ⟨_,_,_,_,rfl,.non,kit_nn t,by cases hb;exact fin⟩
  | bl c=>exact ⟨_,_,_,_,rfl,.bl c,kit_bb t,by cases hb;exact fin⟩
  | int c=>exact ⟨_,_,_,_,rfl,.int c,kit_ii t,by cases hb;exact fin⟩
  | str c=>exact ⟨_,_,_,_,rfl,.str c,kit_ss t,by cases hb;exact fin⟩
  | tup e _=>exact ⟨_,_,_,_,rfl,.tup e,kit_tt t,by cases hb;exact fin⟩
  | lst e _=>exact ⟨_,_,_,_,rfl,.lst e,kit_ll t,by cases hb;exact fin⟩
  | dik e _=>exact ⟨_,_,_,_,rfl,.dK e,kit_dd t,by cases hb;exact fin⟩
  | dit e _=>exact ⟨_,_,_,_,rfl,.dT e,kit_dd t,by cases hb;exact fin⟩
  | kls _ _=>cases hb
  | ty _=>cases hb
  | fdk _ _=>cases hb
  | ftp _ _ _=>cases hb
  | fls e _=>exact ⟨_,_,_,_,rfl,.frz e,kit_ll t,by cases hb;exact fin⟩
  | fdt _ _=>cases hb
  | obj _ _ _=>cases hb
  | clo _ _=>cases hb
theorem SR0.write {K:PySem.W.Frag} {z:Nat->V} {R:Addr->Prop} {H H':Hp} {W:Addr->Prop} {σ:St} {ρ:Env} {fp:Nat->List Addr} {i:Nat} {d d':D} {v:V} {l:Addr} {F':List Addr} (s:SR0 K T z R H W σ ρ fp)
  (hl:look ρ i=some d) (ht:T.own i=true) (hv:σ[i]? = some (some v)) (hm:l∈fp i) (hk:∀b u,H b=some u->b≠l->H' b=some u) (hnew:∃ob,H' l=some ob/\imm ob=false) (r:Rep K H' d' v F') (nd:F'.Nodup)
  (sub:∀a∈F',a∈fp i\/(¬W a/\¬R a)):SR K T z R H' (λa=>W a\/a∈F') σ (ρ.set i (some d')):=by
 have hW:W l:=(s.own i d hl ht).2 l hm
 have hi:ImmK H H':=λb ob' e im=>by
  obtain ⟨ol,e1,e2⟩:=s.wd l hW
  have:b≠l:=λz=>by rw [z,e1] at e;cases e;rw [e2] at im;cases im
  exact hk b _ e this
 refine ⟨λj=>if j=i then F' else fp j,?_,?_,?_,?_,?_,?_,?_,?_,s.fix⟩
 ·rw [List.length_set];exact s.len
 ·intro a ha
  by_cases e:a=l
  ·subst e;exact hnew
  ·rcases ha with ha | ha
   ·exact (s.wd a ha).imp λob q=>⟨hk a ob q.1 e,q.2⟩
   ·exact r.dom a ha
 ·intro j e hj
  by_cases hji:j=i
  ·subst hji
   rw [look_set_same (look_lt hl)] at hj
   cases hj
   exact ⟨v,hv,by rw [if_pos rfl];exact r⟩
  ·rw [look_set_ne hji] at hj
   obtain ⟨u,h1,h2⟩:=s.at_ j e hj
   refine ⟨u,h1,?_⟩
   rw [if_neg hji]
   refine h2.frame hi λa ha=>?_
   obtain ⟨oa,e1,_⟩:=h2.dom a ha
   rw [e1]
   refine hk a _ e1 λz=>?_
   subst z
   cases hto:T.own j with
   | true=>exact s.dis i j d e hl hj ht hto (λz=>hji z.symm) _ hm ha
   | false=>exact s.wr _ hW (s.ro j e hj hto _ ha)
 ·intro j e hj hto
  by_cases hji:j=i
  ·subst hji;simp only [if_pos];exact ⟨nd,λa h=>.inr h⟩
  ·rw [look_set_ne hji] at hj
   simp only [if_neg hji]
   exact ⟨(s.own j e hj hto).1,λa h=>.inl ((s.own j e hj hto).2 a h)⟩
 ·intro j e hj hto
  have hji:j≠i:=λz=>by subst z;rw [ht] at hto;cases hto
  rw [look_set_ne hji] at hj
  simp only [if_neg hji]
  exact s.ro j e hj hto
 ·intro a ha hr
  rcases ha with ha | ha
  ·exact s.wr a ha hr
  ·rcases sub a ha with h | h
   ·exact s.wr a ((s.own i d hl ht).2 a h) hr
   ·exact h.2 hr
 ·intro a hr
  have:a≠l:=λz=>by subst z;exact s.wr _ hW hr
  exact (s.rd a hr).imp λob q=>⟨hk a ob q.1 this,q.2⟩
 ·intro j k e e' hj hk tj tk hne a ha ha'
  by_cases hji:j=i
  ·subst hji
   have hkj:k≠j:=λz=>hne z.symm
   rw [look_set_ne hkj] at hk
   simp only [if_pos,if_neg hkj] at ha ha'
   rcases sub a ha with h | h
   ·exact s.dis j k d e' hl hk ht tk hne a h ha'
   ·exact h.1 ((s.own k e' hk tk).2 a ha')
  ·rw [look_set_ne hji] at hj
   simp only [if_neg hji] at ha
   by_cases hki:k=i
   ·subst hki
    simp only [if_pos] at ha'
    rcases sub a ha' with h | h
    ·exact s.dis j k e d hj hl tj ht hne a ha h
    ·exact h.1 ((s.own j e hj tj).2 a ha)
   ·rw [look_set_ne hki] at hk
    simp only [if_neg hki] at ha'
    exact s.dis j k e e' hj hk tj tk hne a ha ha'
theorem FrW.write {H0 H H':Hp} {W0 W:Addr->Prop} {l:Addr} {F':List Addr} (f:FrW H0 W0 H W) (hl:W l) (hm:∃ol,H l=some ol/\PV.imm ol=false) (hk:∀b u,H b=some u->b≠l->H' b=some u) (hnew:∃ob,H' l=some ob/\PV.imm ob=false)
  (sub:∀a∈F',W a\/H0 a=none):FrW H0 W0 H' (λa=>W a\/a∈F') where
 keep:=λb ob' e n=>by
  have:b≠l:=λz=>by
   subst z
   rcases f.new _ hl with h | h
   ·exact n h
   ·rw [h] at e;cases e
  exact hk b _ (f.keep b ob' e n) this
 dom:=λb e=>by
  by_cases h:b=l
  ·subst h
   obtain ⟨ob,e1,_⟩:=hnew
   rw [e1] at e;cases e
  ·refine f.dom b ?_
   cases q:H b with
   | none=>rfl
   | some u=>rw [hk b u q h] at e;cases e
 imm:=λb ob' e im=>by
  have e':=f.imm b ob' e im
  obtain ⟨ol,e1,e2⟩:=hm
  have:b≠l:=λz=>by rw [z,e1] at e';cases e';rw [e2] at im;cases im
  exact hk b _ e' this
 new:=λb h=>by
  rcases h with h | h
  ·exact f.new b h
  ·rcases sub b h with h | h
   ·exact f.new b h
   ·exact .inr h
theorem upd_keep {H:Hp} {l:Addr} {ob:HO}:∀b u,H b=some u->b≠l->upd H l ob b=some u:=λb u e n=>by rw [upd_ne n];exact e
noncomputable abbrev GM:=D->List D->(D->D->Prop)->Prop
noncomputable def MtD (X:Cx) (id:String) (g:GM):Prop :=
 ∃r,MtR X id r/\∀(H:Hp) (d:D) (ds:List D) (v:V) (xs:List V) (F G:List Addr) (k:D->D->Prop) (Q:VK),Rep X.K H d v F->F.Nodup->Reps X.K H ds xs G->G.Nodup->(∀a∈G,a∉F)->g d ds k ->
  (∀u l ob e d' F',l∈F->imm ob=false->Rep X.K (upd H l ob) d' v F'->F'.Nodup->(∀a∈F',a∈F\/a∈G)->Rep X.K (upd H l ob) e u []->k e d'->Q u (upd H l ob))->r v xs H Q
noncomputable def tyD:Option D->String->Bool
 | some (.lst _),t=>t == "list"
 | some (.dik _),t=>t == "dict"
 | some (.dit _),t=>t == "dict"
 | _,_=>false
theorem tyV_of {K:PySem.W.Frag} {H:Hp} {d:D} {v:V} {F:List Addr} {t:String} (r:Rep K H d v F) (h:tyD (some d) t=true):tyV K t v H:=by
 cases r <;> try (simp [tyD] at h)
 ·subst h;exact .inl ⟨rfl,_,.of ‹_›⟩
 ·subst h;exact .inr (.inr (.inl ⟨rfl,.inl ⟨_,‹_›⟩⟩))
 ·subst h;exact .inr (.inr (.inl ⟨rfl,.inr ⟨_,‹_›⟩⟩))
noncomputable def wMt (i:Nat) (t:String) (g:GM) (wr:WA):WE:=λρ Q=>tyD (look ρ i) t=true/\wr ρ λds ρ1=>oget (look ρ1 i) λd=>g d ds λe d'=>Q e (ρ1.set i (some d'))
theorem mt_fin {i:Nat} {t:String} {g:GM} {r:V->List V->Hp->VK->Prop} (ht:T.own i=true)
  (gr:∀(H:Hp) (d:D) (ds:List D) (v:V) (xs:List V) (F G:List Addr) (k:D->D->Prop) (Q:VK),Rep X.K H d v F->F.Nodup->Reps X.K H ds xs G->G.Nodup->(∀a∈G,a∉F)->g d ds k ->
   (∀u l ob e d' F',l∈F->imm ob=false->Rep X.K (upd H l ob) d' v F'->F'.Nodup->(∀a∈F',a∈F\/a∈G)->Rep X.K (upd H l ob) e u []->k e d'->Q u (upd H l ob))->r v xs H Q)
  {ta:TA} (ga:∀(z:Nat->V) (R:Addr->Prop) (σ:St) (H:Hp) (W:Addr->Prop) (ρ:Env) (Q:List D->Env->Prop) (Q':List V->Hp->Prop),SR X.K T z R H W σ ρ->wr ρ Q ->
   (∀vs H' W' ds ρ' F,PostA X.K T z R m true H W σ ρ H' W' ρ' ds vs F->Q ds ρ'->Q' vs H')->ta σ H Q')
  {z:Nat->V} {R:Addr->Prop} {σ:St} {H:Hp} {W:Addr->Prop} {ρ:Env} {Q:D->Env->Prop} {Q':VK} (s:SR X.K T z R H W σ ρ) (hw:wMt i t g wr ρ Q)
  (k:∀v H' W' d ρ' F,Post X.K T z R true true H W σ ρ H' W' ρ' d v F->Q d ρ'->Q' v H'):tVar i σ H λx H1=>tyV X.K t x H1/\ta σ H1 λxs H2=>r x xs H2 Q':=by
 obtain ⟨hty,hw⟩:=hw
 obtain ⟨fp0,s0⟩:=id s
 cases hl:look ρ i with
 | none=>rw [hl] at hty;cases hty
 | some d0 =>
  obtain ⟨v,hv,r0⟩:=s0.at_ i d0 hl
  refine ⟨v,hv,tyV_of r0 (by rw [hl] at hty;exact hty),?_⟩
  refine ga z R σ H W ρ _ _ s hw λvs H1 W1 ds ρ1 G p q=>?_
  obtain ⟨d,hd,q⟩:=oget_some q
  obtain ⟨fp,s1⟩:=id p.sr
  obtain ⟨v',hv',r1⟩:=s1.at_ i d hd
  have:v'=v:=by rw [hv] at hv';cases hv';rfl
  subst this
  obtain ⟨nd1,sw⟩:=s1.own i d hd ht
  obtain ⟨ndG,kG⟩:=p.own rfl
  refine gr H1 d ds v' vs (fp i) G _ Q' r1 nd1 p.rep ndG (λa ha hf=>(kG a ha).2 (sw a hf)) q λu l ob e d' F' hlF him rd' ndF sub re hk=>?_
  have hWl:=sw l hlF
  refine k u _ (λa=>W1 a\/a∈F') e _ [] ⟨s1.write hd ht hv' hlF upd_keep ⟨ob,upd_same,him⟩ rd' ndF (λa ha=>?_),p.fr.write hWl (s1.wd l hWl) upd_keep ⟨ob,upd_same,him⟩ (λa ha=>?_),(λh=>nomatch h),re,λ_=>⟨List.nodup_nil,λa m=>nomatch m⟩⟩ hk
  ·rcases sub a ha with h | h
   ·exact .inl h
   ·exact .inr ⟨(kG a h).2,s.nr (kG a h).1⟩
  ·rcases sub a ha with h | h
   ·exact .inl (sw a h)
   ·exact .inr (kG a h).1
variable {name:Str} {apos cpos:Pos} {T' id:String}
theorem ev_mt {i:Nat} {g:GM} (hm:MtD X id g) (pa:PlainAttrs T') (slot:Slot T' name id) (hty:typeOf (.builtin id)=pure (.type "method_descriptor")) (ha:AV X T m true (e::es) wr)
  (ht:T.own i=true:=by rfl) (hN:X.N[i]? = some x:=by rfl) (hv:Vis X.env.scope x:=by first | exact Or.inl rfl | exact Or.inr (Or.inl rfl) | exact Or.inr (Or.inr rfl)) (hd:(x == ("__debug__" : Str))=false:=by decide)
  (hcd:(x == ("__classdict__" : Str))=false:=by decide)
  (hbase:attributeBase (.Name x p) name X.env (eval (.Name x p) X.env)=eval (.Name x p) X.env:=by rfl)
  (hfew:((backTo cpos (starEach (e::es) X.env)).all (λx=>!x.1) && (backToKw cpos (keywordEach [] X.env)).all (λx=>x.1.isSome)
   && decide ((e::es).length+([]:List Keyword).length+(if ([]:List Keyword).isEmpty then 0 else 1)<30))=true:=by rfl)
  (hline:(apos.endLine == cpos.line)=true:=by rfl) (hs:starEach (e::es) X.env=(false,eval e X.env)::starEach es X.env:=by rfl) (hplain:(backTo cpos (starEach es X.env)).any (·.1)=false:=by rfl) :
  EV X T true true (.Call (.Attribute (.Name x p) name apos) (e::es) [] cpos) (wMt i T' g wr):=by
 obtain ⟨r,mr,gr⟩:=hm
 obtain ⟨ta,pa',ga⟩:=ha
 exact ⟨_,pe_bm pa slot hty mr (pe_var hN hv hd hcd) pa' hbase hfew hline hs hplain,λz R σ H W ρ Q Q' s hw k=>mt_fin ht gr ga s hw k⟩
noncomputable def gAppend:GM
 | .lst xs,[d],k=>xs.length<sizeLine/\k .non (.lst (xs++[d]))
 | _,_,_=>False
theorem nodup_ins {α:Type} {F G:List α} (h:F.Nodup) (h':G.Nodup) (d:∀a∈G,a∉F):(F++G).Nodup :=
 List.nodup_append.mpr ⟨h,h',λa ha b hb e=>d b hb (e ▸ ha)⟩
theorem imm_upd {H:Hp} {l:Addr} {ob ob':HO} (h:H l=some ob) (hi:imm ob=false):ImmK H (upd H l ob'):=λb u e im=>by
 have:b≠l:=λz=>by rw [z,h] at e;cases e;rw [hi] at im;cases im
 rw [upd_ne this];exact e
theorem Reps.upd {K:PySem.W.Frag} {H:Hp} {ds:List D} {xs:List V} {F:List Addr} {l:Addr} {ob ob':HO} (r:Reps K H ds xs F) (h:H l=some ob) (hi:imm ob=false) (hn:l∉F):Reps K (L2.upd H l ob') ds xs F :=
 r.frame (imm_upd h hi) λa ha=>upd_ne λz=>hn (z ▸ ha)
theorem Rep.upd {K:PySem.W.Frag} {H:Hp} {d:D} {x:V} {F:List Addr} {l:Addr} {ob ob':HO} (r:Rep K H d x F) (h:H l=some ob) (hi:imm ob=false) (hn:l∉F):Rep K (L2.upd H l ob') d x F :=
 r.frame (imm_upd h hi) λa ha=>upd_ne λz=>hn (z ▸ ha)
theorem RepK.upd {K:PySem.W.Frag} {H:Hp} {ds:List (Key × D)} {xs:List (Key × V)} {F:List Addr} {l:Addr} {ob ob':HO} (r:RepK K H ds xs F) (h:H l=some ob) (hi:imm ob=false) (hn:l∉F):RepK K (L2.upd H l ob') ds xs F :=
 r.frame (imm_upd h hi) λa ha=>upd_ne λz=>hn (z ▸ ha)
theorem RepT.upd {K:PySem.W.Frag} {H:Hp} {ds:List (List Key × D)} {xs:List (List Key × V)} {F:List Addr} {l:Addr} {ob ob':HO} (r:RepT K H ds xs F) (h:H l=some ob) (hi:imm ob=false) (hn:l∉F):RepT K (L2.upd H l ob') ds xs F :=
 r.frame (imm_upd h hi) λa ha=>upd_ne λz=>hn (z ▸ ha)
theorem md_append:MtD X "list.append" gAppend:=by
 refine ⟨_,mt_append,λH d ds v xs F G k Q r nd rs ndG dis g q=>?_⟩
 cases d with
 | lst es =>
  cases ds with
  | nil=>exact (show False from g).elim
  | cons d ds =>
   cases ds with
   | cons _ _=>exact (show False from g).elim
   | nil =>
    obtain ⟨u,rfl,rd⟩:=rs.at1
    cases r with
    | @lst l ys _ F e r9 =>
     obtain ⟨hz,g⟩:=g
     obtain ⟨nl,nd⟩:=List.nodup_cons.mp nd
     have hG:l∉G:=λh=>dis l h List.mem_cons_self
     refine ⟨l,ys,u,rfl,rfl,e,by rw [r9.length];exact hz,?_⟩
     refine q .non l _ .non _ (l::(F++G)) List.mem_cons_self rfl (.lst upd_same ((r9.upd e rfl nl).snoc (rd.upd e rfl hG))) (List.nodup_cons.mpr ⟨λh=>(List.mem_append.mp h).elim nl hG,nodup_ins nd ndG λa ha hf=>dis a ha (List.mem_cons_of_mem _ hf)⟩) (λa ha=>?_) .non g
     rcases List.mem_cons.mp ha with rfl | ha
     ·exact .inl List.mem_cons_self
     ·rcases List.mem_append.mp ha with ha | ha
      ·exact .inl (List.mem_cons_of_mem _ ha)
      ·exact .inr ha
 | _=>exact (show False from g).elim
noncomputable def gPopAt:GM
 | .lst xs,[.int i],k=>-(2 ^ 63)<=i/\i<2 ^ 63/\oget (seqIndex? i xs.length) λj=>oget xs[j]? λd=>d.pure=true/\k d (.lst (xs.eraseIdx j))
 | _,_,_=>False
theorem sub3 {α:Type} {F A B C:List α} (h:F=A++B++C):(A++C).Sublist F:=by
 rw [h,List.append_assoc]
 exact List.Sublist.append (List.Sublist.refl _) (List.sublist_append_right _ _)
theorem md_popAt:MtD X "list.pop" gPopAt:=by
 refine ⟨_,mt_popAt,λH d ds v xs F G k Q r nd rs ndG dis g q=>?_⟩
 cases d with
 | lst es =>
  cases ds with
  | nil=>exact (show False from g).elim
  | cons d ds =>
   cases ds with
   | cons _ _=>cases d <;> exact (show False from g).elim
   | nil =>
    cases d with
    | int i =>
     obtain ⟨u,rfl,rd⟩:=rs.at1
     cases rd
     cases r with
     | @lst l ys _ F e r9 =>
      obtain ⟨h1,h2,g⟩:=g
      obtain ⟨j,hj,g⟩:=oget_some g
      obtain ⟨d,hd,hp,g⟩:=oget_some g
      obtain ⟨nl,nd⟩:=List.nodup_cons.mp nd
      obtain ⟨y,A,B,C,hy,hF,rB,rA,rC⟩:=r9.split hd
      obtain ⟨hB,rB⟩:=rB.pure hp
      have sub:=sub3 hF
      have nAC:l∉A++C:=λh=>nl (sub.subset h)
      refine ⟨l,ys,i,j,y,rfl,rfl,e,h1,h2,by rw [r9.length];exact hj,hy,?_⟩
      refine q y l _ d _ (l::(A++C)) List.mem_cons_self rfl (.lst upd_same ?_) (List.nodup_cons.mpr ⟨nAC,nd.sublist sub⟩) (λa ha=>?_) (rB.upd e rfl (λh=>nomatch h)) g
      ·rw [erase_td,erase_td]
       exact (rA.append rC).upd e rfl nAC
      ·rcases List.mem_cons.mp ha with rfl | ha
       ·exact .inl List.mem_cons_self
       ·exact .inl (List.mem_cons_of_mem _ (sub.subset ha))
    | _=>exact (show False from g).elim
 | _=>exact (show False from g).elim
end
end PV
namespace PV
open PySem PySem.Spec L2
noncomputable def spR (K:PySem.W.Frag) (g:GA):Sp:=λvs H Q _=>∃(ds:List D) (F:List Addr) (k:D->Prop),Reps K H ds vs F/\g ds k/\∀v H' d F',Fin K H H' d v F'->k d->Q v H'
noncomputable abbrev GI:=List D->(D->D->Prop)->Prop
noncomputable def spI (K:PySem.W.Frag) (p:Nat) (g:GI):Sp:=λvs H Q _=>∃(ds:List D) (a:Addr) (k:D->D->Prop),Reps K H ds vs [a]/\vs[p]? = some (.ref a)/\g ds k /\
 ∀v H' d d' F',Rep K H' d' (.ref a) [a]->Rep K H' d v F'->F'.Nodup->(∀b∈F',H b=none)->(∀b o,H b=some o->b≠a->H' b=some o)->k d d'->Q v H'
noncomputable def flatD:D->Bool
 | .lst xs=>pureL xs
 | .dik kvs=>kvs.all λkv=>kv.2.pure
 | .dit kvs=>kvs.all λkv=>kv.2.pure
 | _=>false
theorem RepK.pure {K:PySem.W.Frag} {H:Hp}:∀{ds:List (Key × D)} {xs:List (Key × V)} {F:List Addr},RepK K H ds xs F->(ds.all λkv=>kv.2.pure)=true->F=[]
 | [],_,_,r,_=>by cases r;rfl
 | d::ds,_,_,r,h=>by
  rw [List.all_cons,Bool.and_eq_true] at h
  cases r with
  | cons p r=>rw [(p.pure h.1).1,RepK.pure r h.2];rfl
theorem RepT.pure {K:PySem.W.Frag} {H:Hp}:∀{ds:List (List Key × D)} {xs:List (List Key × V)} {F:List Addr},RepT K H ds xs F->(ds.all λkv=>kv.2.pure)=true->F=[]
 | [],_,_,r,_=>by cases r;rfl
 | d::ds,_,_,r,h=>by
  rw [List.all_cons,Bool.and_eq_true] at h
  cases r with
  | cons p r=>rw [(p.pure h.1).1,RepT.pure r h.2];rfl
theorem Rep.flat1 {K:PySem.W.Frag} {H:Hp} {d:D} {v:V} {F:List Addr} (r:Rep K H d v F) (h:flatD d=true):∃a,v=.ref a/\F=[a]:=by
 cases r with
 | lst e r=>exact ⟨_,rfl,by rw [(r.pure (by simpa [flatD] using h)).1]⟩
 | dik e r=>exact ⟨_,rfl,by rw [r.pure (by simpa [flatD] using h)]⟩
 | dit e r=>exact ⟨_,rfl,by rw [r.pure (by simpa [flatD] using h)]⟩
 | _=>simp [flatD] at h
section
variable {X:Cx} {T:Tg} {m o m0 m1 m2 m3 o1 o2:Bool} {e a b:Expr} {w wa wb:WE} {pos p2 p:Pos} {es:List Expr} {wr:WA} {x:Str} {k:Nat} {f:Addr} {fd:FuncData} {ps:List Str}
theorem ev_call {g:GA} (F:FnOk X.prog X.w X.K X.mg X.base CX0 k f fd ps (spR X.K g)) (hr:Room k X.A) (hm:X.mg x=some (.ref f)) (hk:PySem.W.keepIn X.K (.ref f)=true) (hb:Binds X.K fd ps []) (ha:AV X T m o (e::es) wr) (hg:Gl X x:=by rfl)
  (hdb:(x == ("__debug__" : Str))=false:=by decide) (he:starEach (e::es) X.env=(false,eval e X.env)::starEach es X.env:=by rfl) (hpl:(backTo pos (starEach es X.env)).any (·.1)=false:=by rfl) :
  EV X T m true (.Call (.Name x p) (e::es) [] pos) (wCall g wr):=by
 obtain ⟨ta,pa,ga⟩:=ha
 refine ⟨_,pe_call F hr hg hm hk hb .nil pass0 pa hdb he hpl,λz R σ H W ρ Q Q' s hw k=>?_⟩
 refine ga z R σ H W ρ _ _ s hw λvs H1 W1 ds ρ1 F p q=>?_
 refine ⟨ds,F,_,by rw [List.append_nil];exact p.rep,q,λv H' d F' fi hk=>k v H' W1 d ρ1 F' (Post.fin p.sr p.fr p.calm fi.same fi.rep fi.nd fi.new) hk⟩
noncomputable abbrev WI:=Env->(List D->List D->Env->Prop)->Prop
noncomputable def AI (X:Cx) (T:Tg) (m:Bool) (i p:Nat) (es:List Expr) (w:WI):Prop :=
 ∃ta,PA X es ta/\∀(z:Nat->V) (R:Addr->Prop) (σ:St) (H:Hp) (W:Addr->Prop) (ρ:Env) (Q:List D->List D->Env->Prop) (Q':List V->Hp->Prop),SR X.K T z R H W σ ρ->w ρ Q ->
  (∀v xs ys H' W' pre post ρ',PostT X.K T z R m H W σ ρ H' W' ρ'->σ[i]? = some (some v)->Reps X.K H' pre xs []->Reps X.K H' post ys []->pre.length=p->Q pre post ρ'->Q' (xs++v::ys) H')->ta σ H Q'
noncomputable def wHere (i:Nat) (wr:WA):WI:=λρ Q=>(look ρ i).isSome=true/\wr ρ λds ρ'=>pureL ds=true/\Q [] ds ρ'
theorem ai_here {i:Nat} (hr:AV X T m o es wr) (hN:X.N[i]? = some x:=by rfl) (hv:Vis X.env.scope x:=by first | exact Or.inl rfl | exact Or.inr (Or.inl rfl) | exact Or.inr (Or.inr rfl)) (hd:(x == ("__debug__" : Str))=false:=by decide)
  (hcd:(x == ("__classdict__" : Str))=false:=by decide) (hs:starEach (.Name x p::es) X.env=(false,eval (.Name x p) X.env)::starEach es X.env:=by rfl):AI X T m i 0 (.Name x p::es) (wHere i wr):=by
 obtain ⟨ta,pa,ga⟩:=hr
 refine ⟨_,pa_cons (pe_var hN hv hd hcd) pa hs,λz R σ H W ρ Q Q' s hw k=>?_⟩
 obtain ⟨h1,hw⟩:=hw
 obtain ⟨d,hl⟩:=Option.isSome_iff_exists.mp h1
 obtain ⟨fp,s0⟩:=id s
 obtain ⟨v,hv',_⟩:=s0.at_ i d hl
 refine ⟨v,hv',ga z R σ H W ρ _ _ s hw λvs H1 W1 ds ρ1 F p q=>?_⟩
 exact k v [] vs H1 W1 [] ds ρ1 ⟨p.sr,p.fr,p.calm⟩ hv' .nil (p.rep.pure q.1).2 rfl q.2
noncomputable def wSkip (w:WE) (wi:WI):WI:=λρ Q=>w ρ λd ρ1=>d.pure=true/\wi ρ1 λpre post ρ2=>Q (d::pre) post ρ2
theorem ai_skip {i q:Nat} {wi:WI} (he:EV X T m1 o e w) (hr:AI X T m2 i q es wi) (hs:starEach (e::es) X.env=(false,eval e X.env)::starEach es X.env:=by rfl):AI X T (m1 || m2) i (q+1) (e::es) (wSkip w wi):=by
 obtain ⟨te,pe,ge⟩:=he
 obtain ⟨ta,pa,ga⟩:=hr
 refine ⟨_,pa_cons pe pa hs,λz R σ H W ρ Q Q' s hw k=>?_⟩
 refine ge z R σ H W ρ _ _ s hw λv1 H1 W1 d1 ρ1 F1 p ⟨hp,q1⟩=>?_
 obtain ⟨_,r1⟩:=p.rep.pure hp
 refine ga z R σ H1 W1 ρ1 _ _ p.sr q1 λv xs ys H2 W2 pre post ρ2 q hv rp rq hl q2=>?_
 exact k v (v1::xs) ys H2 W2 (d1::pre) post ρ2 (PostT.seq ⟨p.sr,p.fr,p.calm⟩ q) hv (.cons (F:=[]) (G:=[]) (r1.keep q.fr λa m=>nomatch m) rp) rq (by rw [List.length_cons,hl]) q2
noncomputable def wCallI (i:Nat) (g:GI) (wi:WI):WE:=λρ Q=>wi ρ λpre post ρ1=>oget (look ρ1 i) λd0=>flatD d0=true/\g (pre++d0::post) λd d'=>Q d (ρ1.set i (some d'))
theorem ev_callI {i q:Nat} {g:GI} {wi:WI} (F:FnOk X.prog X.w X.K X.mg X.base CX0 k f fd ps (spI X.K q g)) (hr:Room k X.A) (hm:X.mg x=some (.ref f)) (hk:PySem.W.keepIn X.K (.ref f)=true) (hb:Binds X.K fd ps []) (ha:AI X T m i q (e::es) wi)
  (ht:T.own i=true:=by rfl) (hg:Gl X x:=by rfl)
  (hdb:(x == ("__debug__" : Str))=false:=by decide) (he:starEach (e::es) X.env=(false,eval e X.env)::starEach es X.env:=by rfl) (hpl:(backTo pos (starEach es X.env)).any (·.1)=false:=by rfl) :
  EV X T true true (.Call (.Name x p) (e::es) [] pos) (wCallI i g wi):=by
 obtain ⟨ta,pa,ga⟩:=ha
 refine ⟨_,pe_call F hr hg hm hk hb .nil pass0 pa hdb he hpl,λz R σ H W ρ Q Q' s hw k=>?_⟩
 refine ga z R σ H W ρ _ _ s hw λv xs ys H1 W1 pre post ρ1 p hv rp rq hl q=>?_
 obtain ⟨d0,hd,hf,q⟩:=oget_some q
 obtain ⟨fp,s1⟩:=id p.sr
 obtain ⟨v',hv',r0⟩:=s1.at_ i d0 hd
 have:v'=v:=by rw [hv] at hv';cases hv';rfl
 subst this
 obtain ⟨a,rfl,hF⟩:=r0.flat1 hf
 rw [hF] at r0
 have sw:=(s1.own i d0 hd ht).2
 have hWa:W1 a:=sw a (by rw [hF];exact List.mem_singleton.mpr rfl)
 refine ⟨pre++d0::post,a,_,?_,?_,q,λv H' d d' F' rd' rd nd new kp hk=>?_⟩
 ·rw [List.append_nil]
  have:=rp.append (.cons r0 rq)
  simpa using this
 ·rw [List.append_nil]
  have hx:=rp.length
  rw [List.getElem?_append_right (by omega),show _-xs.length=0 by omega]
  rfl
 ·obtain ⟨oa,ea,ia⟩:=s1.wd a hWa
  have hnew:∃ob,H' a=some ob/\imm ob=false:=rd'.dom a (List.mem_singleton.mpr rfl)
  have nd1:([a]:List Addr).Nodup:=by simp
  have sN:=s1.write (H':=H') (d':=d') (F':=[a]) hd ht hv' (by rw [hF];exact List.mem_singleton.mpr rfl) (λb u e n=>kp b u e n) hnew rd' nd1 (λb hb=>.inl (by rw [hF];exact hb))
  have fN:=p.fr.write (H':=H') (F':=[a]) hWa ⟨oa,ea,ia⟩ (λb u e n=>kp b u e n) hnew (λb hb=>.inl (by rw [List.mem_singleton.mp hb];exact hWa))
  refine k v H' _ d _ F' ⟨sN,fN,(λh=>nomatch h),rd,λ_=>⟨nd,λb hb=>⟨p.fr.dom b (new b hb),λhw=>?_⟩⟩⟩ hk
  rcases hw with hw | hw
  ·exact p.sr.nw (new b hb) hw
  ·rw [List.mem_singleton.mp hw] at hb
   rw [new a hb] at ea;cases ea
noncomputable abbrev WL:=Env->(List D->Env->Prop)->Prop
noncomputable def JD (K:PySem.W.Frag) (J:It) (H:Hp) (W:Addr->Prop) (ds:List D):Prop :=
 ∀(i:Nat) (H1:Hp) (W1:Addr->Prop),FrW H W H1 W1->(ds.length<=i->J.stop i H1)/\∀d,ds[i]? = some d->J.go i H1/\∀v H2,J.yld i H1 v H2->Same H1 H2/\∃F,Rep K H2 d v F/\∀a∈F,¬W1 a
noncomputable def wz (pr:Bool) (W:Addr->Prop):Addr->Prop:=λa=>pr=true/\W a
noncomputable def IV (X:Cx) (T:Tg) (m pr:Bool) (tg iter:Expr) (w:WL):Prop :=
 ∃wi,PI X tg iter wi/\∀(z:Nat->V) (R:Addr->Prop) (σ:St) (H:Hp) (W:Addr->Prop) (ρ:Env) (Q:List D->Env->Prop) (RR:It->Hp->Prop),SR X.K T z R H W σ ρ->w ρ Q ->
  (∀J H' W' ds ρ',PostT X.K T z R m H W σ ρ H' W' ρ'->JD X.K J H' (wz pr W') ds->Q ds ρ'->RR J H')->wi σ H RR
variable {tg iter:Expr}
theorem pi_seq {l:Expr} {tl:TE} (hl:PE X l tl):PI X tg l (λσ H R=>tl σ H λx H1=>∃a,x=.ref a/\(((∃xs,SqL X.K H1 a xs)/\R (Itl X.K a) H1)\/((∃xs,SqT X.K H1 a xs)/\R (Itt X.K a) H1))):=by
 intro pins s σ H R I h
 refine thn (hl pins s σ H _ I h) λv s1 ⟨x,H1,I1,r1,q1⟩=>?_
 obtain ⟨a,e,q⟩:=q1
 subst e
 cases r1
 rcases q with ⟨⟨xs,hq⟩,q⟩ | ⟨⟨xs,hq⟩,q⟩
 ·obtain ⟨its,rv,p,hz⟩:=I1.list hq
  refine wpAny_pyIter_list p.isList ?_
  refine ⟨s1.heap.objs.size,[s1.heap.objs.size],_,_,H1,rfl,I1.kept (t':=s1.toks) λb o e=>Heap.get?_push_of_some _ e,turn_list a _,⟨_,Heap.get?_push_size _ rfl,rfl,rfl⟩,λb hb=>?_,q⟩
  have e:b=s1.heap.objs.size:=by simpa using hb
  subst e
  exact I1.fpOk (Nat.le_refl _) (I1.hok.fresh (Nat.le_refl _))
 ·obtain ⟨its,rv,p,hz⟩:=I1.tuple hq
  refine wpAny_pyIter_tuple (show s1.heap.IsTuple a its.toArray from p) ?_
  refine ⟨s1.heap.objs.size,[s1.heap.objs.size],_,_,H1,rfl,I1.kept (t':=s1.toks) λb o e=>Heap.get?_push_of_some _ e,turn_tuple a _,⟨_,Heap.get?_push_size _ rfl,rfl,rfl⟩,λb hb=>?_,q⟩
  have e:b=s1.heap.objs.size:=by simpa using hb
  subst e
  exact I1.fpOk (Nat.le_refl _) (I1.hok.fresh (Nat.le_refl _))
noncomputable def seqD (pr:Bool):D->Option (List D)
 | .tup ds=>if pureL ds then some ds else none
 | .lst ds=>some ds
 | _=>none
noncomputable def wSeqD (w:WE):WL:=λρ Q=>w ρ λd ρ'=>match d with
 | .tup ds=>pureL ds=true/\Q ds ρ'
 | .lst ds=>Q ds ρ'
 | _=>False
theorem iv_seq (h:EV X T m o e w):IV X T m o tg e (wSeqD w):=by
 obtain ⟨te,pe,ge⟩:=h
 refine ⟨_,pi_seq pe,λz R σ H W ρ Q RR s hw k=>?_⟩
 refine ge z R σ H W ρ _ _ s hw λv H1 W1 d ρ1 F p q=>?_
 cases d with
 | tup ds =>
  obtain ⟨hp,q⟩:=q
  obtain ⟨hF,rp⟩:=p.rep.pure (by simpa [D.pure] using hp)
  cases rp with
  | @tup a xs _ _ e1 r =>
   refine ⟨a,rfl,.inr ⟨⟨xs,.of e1⟩,k _ H1 W1 ds ρ1 ⟨p.sr,p.fr,p.calm⟩ (λi H2 W2 f=>?_) q⟩⟩
   have e2:H2 a=some (.tup xs):=f.imm _ _ e1 rfl
   refine ⟨λhi=>⟨xs,.of e2,by rw [r.length];exact hi⟩,λd hd=>?_⟩
   obtain ⟨x,B,hx,rx,sx⟩:=r.get hd
   refine ⟨⟨xs,x,.of e2,hx⟩,λv H3 y=>?_⟩
   obtain ⟨rfl,y⟩:=y
   have:=y xs (.of e2)
   rw [hx] at this
   cases this
   exact ⟨Same.refl _,B,rx.keep f (λa ha=>(nomatch sx.subset ha)),(λa ha=>(nomatch sx.subset ha))⟩
 | lst ds =>
  obtain ⟨p1,p2,p3,p4,p5⟩:=p
  cases p4 with
  | @lst a xs _ F e1 r =>
   refine ⟨a,rfl,.inl ⟨⟨xs,.of e1⟩,k _ H1 W1 ds ρ1 ⟨p1,p2,p3⟩ (λi H2 W2 f=>?_) q⟩⟩
   have nW:∀b∈a::F,¬wz o W1 b:=λb hb hw=>by
    obtain ⟨h1,h2⟩:=hw
    exact ((p5 h1).2 b hb).2 h2
   have e2:H2 a=some (.lst xs):=f.keep _ _ e1 (nW a List.mem_cons_self)
   refine ⟨λhi=>⟨xs,.of e2,by rw [r.length];exact hi⟩,λd hd=>?_⟩
   obtain ⟨x,B,hx,rx,sx⟩:=r.get hd
   refine ⟨⟨xs,x,.of e2,hx⟩,λv H3 y=>?_⟩
   obtain ⟨rfl,y⟩:=y
   have:=y xs (.of e2)
   rw [hx] at this
   cases this
   refine ⟨Same.refl _,B,rx.keep f λb hb=>nW b (List.mem_cons_of_mem _ (sx.subset hb)),λb hb hw=>?_⟩
   have hb':b∈a::F:=List.mem_cons_of_mem _ (sx.subset hb)
   rcases f.new b hw with h | h
   ·exact nW b hb' h
   ·obtain ⟨ob,e3,_⟩:=rx.dom b hb
    rw [h] at e3;cases e3
 | _=>exact q.elim
noncomputable def rngD (lo:Int) (n:Nat):List D:=(List.range n).map λ(i:Nat)=>.int (lo+(i:Int))
theorem jd_range {K:PySem.W.Frag} {H:Hp} {W:Addr->Prop} {lo:Int} {n:Nat}:JD K (Itr lo n) H W (rngD lo n):=by
 intro i H1 W1 f
 have hl:(rngD lo n).length=n:=by simp [rngD]
 refine ⟨λh=>by rw [hl] at h;exact h,λd hd=>?_⟩
 have hi:i<n:=by have:=(List.getElem?_eq_some_iff.mp hd).1;rwa [hl] at this
 have hd':d=.int (lo+(i:Int)):=by
  simp only [rngD,List.getElem?_map,List.getElem?_range hi,Option.map_some,Option.some.injEq] at hd
  exact hd.symm
 refine ⟨hi,λv H2 y=>?_⟩
 obtain ⟨rfl,rfl⟩:=y
 exact ⟨Same.refl _,[],by rw [hd'];exact .int _,λa m=>nomatch m⟩
noncomputable def wRng1 (wr:WA):WL:=λρ Q=>wr ρ λds ρ'=>match ds with
 | [.int j]=>-(2 ^ 62)<=j/\j<2 ^ 62/\Q (rngD 0 j.toNat) ρ'
 | _=>False
theorem iv_range1 (hm:X.mg "range" = none) (ha:AV X T m o [a] wr) (hg:Gl X "range":=by rfl) (hs:starEach [a] X.env=[(false,eval a X.env)]:=by rfl):IV X T m true tg (.Call (.Name "range" p) [a] [] pos) (wRng1 wr):=by
 obtain ⟨ta,pa,ga⟩:=ha
 refine ⟨_,pi_range1 hg hm pa hs,λz R σ H W ρ Q RR s hw k=>?_⟩
 refine ga z R σ H W ρ _ _ s hw λvs H1 W1 ds ρ1 F p q=>?_
 obtain ⟨j,rfl⟩:∃j,ds=[D.int j]:=by
  clear p
  cases ds with
  | nil=>exact (show False from q).elim
  | cons d0 r0 =>
   cases r0 with
   | nil =>
    cases d0 with
    | int j=>exact ⟨j,rfl⟩
    | _=>exact (show False from q).elim
   | cons _ _=>cases d0 <;> exact (show False from q).elim
 obtain ⟨v,rfl,rd⟩:=p.rep.at1
 cases rd
 exact ⟨j,rfl,q.1,q.2.1,k _ H1 W1 _ ρ1 ⟨p.sr,p.fr,p.calm⟩ jd_range q.2.2⟩
noncomputable def enumD:Nat->List D->List D
 | _,[]=>[]
 | n,d::r=>.tup [.int (n:Int),d]::enumD (n+1) r
theorem enumD_get:∀{ds:List D} {n i:Nat},(enumD n ds)[i]? = ds[i]?.map λd=>.tup [.int ((n+i:Nat):Int),d]
 | [],_,_=>by simp [enumD]
 | d::r,n,0=>by simp [enumD]
 | d::r,n,i+1=>by
  simp only [enumD,List.getElem?_cons_succ]
  rw [enumD_get (ds:=r) (n:=n+1) (i:=i),show n+1+i=n+(i+1) by omega]
theorem enumD_length:∀{ds:List D} {n:Nat},(enumD n ds).length=ds.length
 | [],_=>rfl
 | d::r,n=>by simp [enumD,enumD_length]
noncomputable def wEnum (wr:WA):WL:=λρ Q=>wr ρ λds ρ'=>match ds with
 | [.tup es]=>pureL es=true/\Q (enumD 0 es) ρ'
 | _=>False
theorem iv_enum {ts:List Expr} {kt:Nat} {pt:Pos} (hm:X.mg "enumerate" = none) (ha:AV X T m o [a] wr) (hg:Gl X "enumerate":=by rfl) (hs:starEach [a] X.env=[(false,eval a X.env)]:=by rfl):IV X T m true (.Tuple ts kt pt) (.Call (.Name "enumerate" p) [a] [] pos) (wEnum wr):=by
 obtain ⟨ta,pa,ga⟩:=ha
 refine ⟨_,pi_enum hg hm pa hs,λz R σ H W ρ Q RR s hw k=>?_⟩
 refine ga z R σ H W ρ _ _ s hw λvs H1 W1 ds ρ1 F p q=>?_
 obtain ⟨es,rfl⟩:∃es,ds=[D.tup es]:=by
  clear p
  cases ds with
  | nil=>exact (show False from q).elim
  | cons d0 r0 =>
   cases r0 with
   | nil =>
    cases d0 with
    | tup es=>exact ⟨es,rfl⟩
    | _=>exact (show False from q).elim
   | cons _ _=>cases d0 <;> exact (show False from q).elim
 obtain ⟨hp,q⟩:=q
 obtain ⟨v,rfl,rd⟩:=p.rep.at1
 obtain ⟨hF,rd⟩:=rd.pure (by simpa [D.pure] using hp)
 cases rd with
 | @tup a xs _ _ e1 r =>
  refine ⟨a,rfl,⟨xs,.of e1⟩,k _ H1 W1 _ ρ1 ⟨p.sr,p.fr,p.calm⟩ (λi H2 W2 f=>?_) q⟩
  have e2:H2 a=some (.tup xs):=f.imm _ _ e1 rfl
  refine ⟨λhi=>⟨xs,.of e2,by rw [r.length];rwa [enumD_length] at hi⟩,λd hd=>?_⟩
  rw [enumD_get] at hd
  cases hd':es[i]? with
  | none=>rw [hd'] at hd;cases hd
  | some d' =>
   rw [hd'] at hd
   obtain ⟨x,B,hx,rx,sx⟩:=r.get hd'
   refine ⟨⟨xs,x,.of e2,hx⟩,λv H3 y=>?_⟩
   obtain ⟨x',t,h1,rfl,h3,rfl⟩:=y xs (.of e2)
   rw [hx] at h1
   cases h1
   have hB:B=[]:=List.sublist_nil.mp sx
   subst hB
   refine ⟨same_upd h3,[],?_,λa m=>nomatch m⟩
   cases hd
   rw [Nat.zero_add]
   exact .tup upd_same (.cons (F:=[]) (G:=[]) (.int _) (Reps.one ((rx.keep f λa m=>nomatch m).same (same_upd h3))))
end
end PV
namespace PV
open PySem PySem.Spec L2
structure EndsP where
 nx:Env->Prop
 rt:D->Env->Prop
 bk:Env->Prop:=λ_=>False
 ct:Env->Prop:=λ_=>False
 xc:D->Env->Prop:=λ_ _=>False
noncomputable abbrev WS:=EndsP->Env->Prop
structure Lk (K:PySem.W.Frag) (T:Tg) (z:Nat->V) (H:Hp) (W:Addr->Prop) (P:EndsP) (E:Ends):Prop where
 nx:∀R σ' H' W' ρ',SR K T z R H' W' σ' ρ'->FrW H W H' W'->P.nx ρ'->E.nx σ' H'
 bk:∀R σ' H' W' ρ',SR K T z R H' W' σ' ρ'->FrW H W H' W'->P.bk ρ'->E.bk σ' H'
 ct:∀R σ' H' W' ρ',SR K T z R H' W' σ' ρ'->FrW H W H' W'->P.ct ρ'->E.ct σ' H'
 rt:∀R v σ' H' W' ρ' d F,SR K T z R H' W' σ' ρ'->FrW H W H' W'->Rep K H' d v F->F.Nodup->(∀a∈F,¬W' a/\(W a\/H a=none))->P.rt d ρ'->E.rt v H'
 xc:∀R σ' H' W' ρ' d,SR K T z R H' W' σ' ρ'->FrW H W H' W'->P.xc d ρ'->T.xe d σ' H'
theorem Lk.step {K:PySem.W.Frag} {T:Tg} {z:Nat->V} {H H1:Hp} {W W1:Addr->Prop} {P:EndsP} {E:Ends} (l:Lk K T z H W P E) (f:FrW H W H1 W1):Lk K T z H1 W1 P E where
 nx:=λR σ' H' W' ρ' s g q=>l.nx R σ' H' W' ρ' s (f.trans g) q
 bk:=λR σ' H' W' ρ' s g q=>l.bk R σ' H' W' ρ' s (f.trans g) q
 ct:=λR σ' H' W' ρ' s g q=>l.ct R σ' H' W' ρ' s (f.trans g) q
 rt:=λR v σ' H' W' ρ' d F s g r nd k q=>l.rt R v σ' H' W' ρ' d F s (f.trans g) r nd (λa ha=>⟨(k a ha).1,by
  rcases (k a ha).2 with h | h
  ·exact f.new a h
  ·exact .inr (f.dom a h)⟩) q
 xc:=λR σ' H' W' ρ' d s g q=>l.xc R σ' H' W' ρ' d s (f.trans g) q
noncomputable def SV (X:Cx) (T:Tg) (st:Stmt) (w:WS):Prop :=
 ∃ts,PS X st ts/\∀(z:Nat->V) (R:Addr->Prop) (σ:St) (H:Hp) (W:Addr->Prop) (ρ:Env) (P:EndsP) (E:Ends),SR X.K T z R H W σ ρ->w P ρ->Lk X.K T z H W P E->ts E σ H
noncomputable def SVs (X:Cx) (T:Tg) (st:List Stmt) (w:WS):Prop :=
 ∃ts,PSs X st ts/\∀(z:Nat->V) (R:Addr->Prop) (σ:St) (H:Hp) (W:Addr->Prop) (ρ:Env) (P:EndsP) (E:Ends),SR X.K T z R H W σ ρ->w P ρ->Lk X.K T z H W P E->ts E σ H
section
variable {X:Cx} {T:Tg} {m o m0 m1 m2 m3 o1 o2:Bool} {e a b:Expr} {w wa wb:WE} {pos p2 p:Pos} {es:List Expr} {wr:WA} {x:Str} {st:Stmt} {rest:List Stmt} {ws wu:WS} {wt:WT}
noncomputable def wNext:WS:=λP ρ=>P.nx ρ
noncomputable def wSeq (w u:WS):WS:=λP ρ=>w { P with nx:=u P } ρ
theorem svs_nil:SVs X T [] wNext:=⟨_,pss_nil,λz R σ H W ρ P E s hw l=>l.nx R σ H W ρ s (FrW.refl H W) hw⟩
theorem svs_one (h:SV X T st ws):SVs X T [st] ws:=by
 obtain ⟨t,pt,g⟩:=h
 exact ⟨_,pss_one pt,g⟩
theorem svs_cons (h:SV X T st ws) (hr:SVs X T rest wu):SVs X T (st::rest) (wSeq ws wu):=by
 obtain ⟨t,pt,g⟩:=h
 obtain ⟨u,pu,gu⟩:=hr
 refine ⟨_,pss_cons pt pu,λz R σ H W ρ P E s hw l=>g z R σ H W ρ _ _ s hw ⟨λR' σ' H' W' ρ' s' f q=>gu z R' σ' H' W' ρ' P E s' q (l.step f),l.bk,l.ct,l.rt,l.xc⟩⟩
noncomputable def wDrop (w:WE):WS:=λP ρ=>w ρ λ_ ρ'=>P.nx ρ'
theorem sv_expr (he:EV X T m o e w) (hs:swapsWith e none pos.line X.env=pure false:=by rfl):SV X T (.Expr e pos) (wDrop w):=by
 obtain ⟨te,pe,ge⟩:=he
 exact ⟨_,ps_expr pe hs,λz R σ H W ρ P E s hw l=>ge z R σ H W ρ _ _ s hw λv H1 W1 d ρ1 F p q=>l.nx R σ H1 W1 ρ1 p.sr p.fr q⟩
noncomputable def wRet (w:WE):WS:=λP ρ=>w ρ λd ρ'=>P.rt d ρ'
theorem sv_ret (he:EV X T m true e w):SV X T (.Return (some e) pos) (wRet w):=by
 obtain ⟨te,pe,ge⟩:=he
 exact ⟨_,ps_ret pe,λz R σ H W ρ P E s hw l=>ge z R σ H W ρ _ _ s hw λv H1 W1 d ρ1 F p q=>l.rt R v σ H1 W1 ρ1 d F p.sr p.fr p.rep (p.own rfl).1 (λa ha=>⟨((p.own rfl).2 a ha).2,.inr ((p.own rfl).2 a ha).1⟩) q⟩
theorem sv_retN:SV X T (.Return none pos) (λP ρ=>P.rt .non ρ) :=
 ⟨_,ps_retN,λz R σ H W ρ P E s hw l=>l.rt R .non σ H W ρ .non [] s (FrW.refl H W) .non List.nodup_nil (λa m=>nomatch m) hw⟩
noncomputable def wRetS (i:Nat):WS:=λP ρ=>oget (look ρ i) λd=>P.rt d (ρ.set i none)
theorem sv_retS {i:Nat} (ht:T.own i=true:=by rfl) (hN:X.N[i]? = some x:=by rfl) (hv:Vis X.env.scope x:=by first | exact Or.inl rfl | exact Or.inr (Or.inl rfl) | exact Or.inr (Or.inr rfl)) (hd:(x == ("__debug__" : Str))=false:=by decide)
  (hcd:(x == ("__classdict__" : Str))=false:=by decide):SV X T (.Return (some (.Name x p)) pos) (wRetS i):=by
 refine ⟨_,ps_ret (pe_var hN hv hd hcd),λz R σ H W ρ P E s hw l=>?_⟩
 obtain ⟨d,hl,q⟩:=oget_some hw
 obtain ⟨fp,s0⟩:=s
 obtain ⟨v,h1,h2⟩:=s0.at_ i d hl
 have key:∀j e,look (ρ.set i none) j=some e->j≠i/\look ρ j=some e:=λj e h=>by
  rw [look_set] at h
  split at h
  ·cases h
  ·refine ⟨λz=>?_,h⟩
   subst z
   rename_i hn
   exact hn ⟨rfl,look_lt hl⟩
 refine ⟨v,h1,l.rt R v σ H (λa=>W a/\a∉fp i) (ρ.set i none) d (fp i) ⟨fp,?_⟩ ?_ h2 (s0.own i d hl ht).1 (λa ha=>⟨λh=>h.2 ha,.inl ((s0.own i d hl ht).2 a ha)⟩) q⟩
 ·refine ⟨by rw [List.length_set];exact s0.len,λa h=>s0.wd a h.1,λj e h=>s0.at_ j e (key j e h).2,λj e h t=>⟨(s0.own j e (key j e h).2 t).1,λa ha=>⟨(s0.own j e (key j e h).2 t).2 a ha,λha'=>s0.dis j i e d (key j e h).2 hl t ht (key j e h).1 a ha ha'⟩⟩,
   λj e h t=>s0.ro j e (key j e h).2 t,λa h=>s0.wr a h.1,s0.rd,λj k e e' h h' t t'=>s0.dis j k e e' (key j e h).2 (key k e' h').2 t t',s0.fix⟩
 ·exact ⟨λb ob e _=>e,λb e=>e,λb ob e _=>e,λb h=>.inl h.1⟩
theorem SR0.bind {K:PySem.W.Frag} {z:Nat->V} {R:Addr->Prop} {H:Hp} {W:Addr->Prop} {σ:St} {ρ:Env} {fp:Nat->List Addr} {i:Nat} {d:D} {v:V} {F:List Addr} (s:SR0 K T z R H W σ ρ fp) (hio:i∉T.io) (r:Rep K H d v F) (nd:F.Nodup) (nw:∀a∈F,¬W a/\¬R a) :
  ∃R',SR K T z R' H (λa=>W a\/(T.own i=true/\a∈F)) (σ.set i (some v)) (ρ.set i (some d)):=by
 refine ⟨λa=>R a\/(T.own i=false/\a∈F),λj=>if j=i then F else fp j,?_,?_,?_,?_,?_,?_,?_,?_,?_⟩
 ·rw [List.length_set,List.length_set];exact s.len
 ·intro a ha
  rcases ha with ha | ⟨_,ha⟩
  ·exact s.wd a ha
  ·exact r.dom a ha
 ·intro j e hj
  rw [look_set] at hj
  split at hj
  ·rename_i h
   obtain ⟨rfl,hlt⟩:=h
   cases hj
   exact ⟨v,by rw [List.getElem?_set_self (by rw [← s.len];exact hlt)],by rw [if_pos rfl];exact r⟩
  ·rename_i h
   obtain ⟨u,h1,h2⟩:=s.at_ j e hj
   have hji:j≠i:=λz=>h ⟨z,by rw [← z];exact look_lt hj⟩
   exact ⟨u,by rw [List.getElem?_set_ne (Ne.symm hji)];exact h1,by rw [if_neg hji];exact h2⟩
 ·intro j e hj hto
  by_cases hji:j=i
  ·subst hji;simp only [if_pos];exact ⟨nd,λa h=>.inr ⟨hto,h⟩⟩
  ·rw [look_set_ne hji] at hj
   simp only [if_neg hji]
   exact ⟨(s.own j e hj hto).1,λa h=>.inl ((s.own j e hj hto).2 a h)⟩
 ·intro j e hj hto
  by_cases hji:j=i
  ·subst hji;simp only [if_pos];exact λa h=>.inr ⟨hto,h⟩
  ·rw [look_set_ne hji] at hj
   simp only [if_neg hji]
   exact λa h=>.inl (s.ro j e hj hto a h)
 ·intro a ha hr
  rcases ha with ha | ⟨t,ha⟩
  ·rcases hr with hr | ⟨_,hr⟩
   ·exact s.wr a ha hr
   ·exact (nw a hr).1 ha
  ·rcases hr with hr | ⟨t',hr⟩
   ·exact (nw a ha).2 hr
   ·rw [t] at t';cases t'
 ·intro a hr
  rcases hr with hr | ⟨_,hr⟩
  ·exact s.rd a hr
  ·exact r.dom a hr
 ·intro j k e e' hj hk tj tk hne a ha ha'
  by_cases hji:j=i
  ·subst hji
   have hkj:k≠j:=λz=>hne z.symm
   rw [look_set_ne hkj] at hk
   simp only [if_pos,if_neg hkj] at ha ha'
   exact (nw a ha).1 ((s.own k e' hk tk).2 a ha')
  ·rw [look_set_ne hji] at hj
   simp only [if_neg hji] at ha
   by_cases hki:k=i
   ·subst hki
    simp only [if_pos] at ha'
    exact (nw a ha').1 ((s.own j e hj tj).2 a ha)
   ·rw [look_set_ne hki] at hk
    simp only [if_neg hki] at ha'
    exact s.dis j k e e' hj hk tj tk hne a ha ha'
 ·intro j hj
  have hji:j≠i:=λz=>hio (z ▸ hj)
  rw [List.getElem?_set_ne (Ne.symm hji)]
  exact s.fix j hj
noncomputable def wSet (i:Nat) (w:WE):WS:=λP ρ=>w ρ λd ρ'=>P.nx (ρ'.set i (some d))
theorem frw_more {H H':Hp} {W W':Addr->Prop} {G:Addr->Prop} (f:FrW H W H' W') (n:∀a,G a->H a=none):FrW H W H' (λa=>W' a\/G a) :=
 ⟨f.keep,f.dom,f.imm,λb h=>h.elim (f.new b) λh=>.inr (n b h)⟩
theorem sv_set {i:Nat} {pos':Pos} (he:EV X T m true e w) (hN:X.N.Nodup) (hi:X.N[i]? = some x:=by rfl) (hio:i∉T.io:=by decide) (hx:Loc X.env.scope x:=by first | exact Or.inl rfl | exact Or.inr rfl) (hs:swapsWith e (some (.Name x pos')) pos.line X.env=pure false:=by rfl)
  (hf:X.fn x=true\/X.env.scope.names.lookup x=some .local:=by first | exact .inl rfl | exact .inr rfl | assumption):SV X T (.Assign [.Name x pos'] e pos) (wSet i w):=by
 obtain ⟨te,pe,ge⟩:=he
 refine ⟨_,ps_set hN hi hx pe hs hf,λz R σ H W ρ P E s hw l=>ge z R σ H W ρ _ _ s hw λv H1 W1 d ρ1 F p q=>?_⟩
 obtain ⟨fp,s1⟩:=p.sr
 obtain ⟨nd,nw⟩:=p.own rfl
 obtain ⟨R',s2⟩:=s1.bind (i:=i) hio p.rep nd (λa ha=>⟨(nw a ha).2,s.nr (nw a ha).1⟩)
 exact l.nx R' _ H1 _ _ s2 (frw_more p.fr λa h=>(nw a h.2).1) q
theorem sv_setC {i:Nat} {pos':Pos} (he:∃te,PS X (.Assign [.Name x pos'] e pos) (tAsg te (gName i))/\∀(z:Nat->V) (R:Addr->Prop) (σ:St) (H:Hp) (W:Addr->Prop) (ρ:Env) (Q:D->Env->Prop) (Q':VK),SR X.K T z R H W σ ρ->w ρ Q ->
  (∀v H' W' d ρ' F,Post X.K T z R m true H W σ ρ H' W' ρ' d v F->Q d ρ'->Q' v H')->te σ H Q') (hio:i∉T.io:=by decide):SV X T (.Assign [.Name x pos'] e pos) (wSet i w):=by
 obtain ⟨te,pe,ge⟩:=he
 refine ⟨_,pe,λz R σ H W ρ P E s hw l=>ge z R σ H W ρ _ _ s hw λv H1 W1 d ρ1 F p q=>?_⟩
 obtain ⟨fp,s1⟩:=p.sr
 obtain ⟨nd,nw⟩:=p.own rfl
 obtain ⟨R',s2⟩:=s1.bind (i:=i) hio p.rep nd (λa ha=>⟨(nw a ha).2,s.nr (nw a ha).1⟩)
 exact l.nx R' _ H1 _ _ s2 (frw_more p.fr λa h=>(nw a h.2).1) q
noncomputable abbrev WG:=D->Env->(Env->Prop)->Prop
noncomputable def GV (X:Cx) (T:Tg) (tg:Expr) (wg:WG):Prop :=
 ∃t,PG X tg t/\∀(z:Nat->V) (R:Addr->Prop) (σ:St) (H:Hp) (W:Addr->Prop) (ρ:Env) (d:D) (v:V) (Q:Env->Prop) (Q':St->Hp->Prop),SR X.K T z R H W σ ρ->Rep X.K H d v []->d.pure=true->wg d ρ Q ->
  (∀R' W' σ' ρ',SR X.K T z R' H W' σ' ρ'->FrW H W H W'->Q ρ'->Q' σ' H)->t v σ H Q'
noncomputable def GVs (X:Cx) (T:Tg) (tgs:List Expr) (wg:List D->Env->(Env->Prop)->Prop):Prop :=
 ∃t,PGs X tgs t/\∀(z:Nat->V) (R:Addr->Prop) (σ:St) (H:Hp) (W:Addr->Prop) (ρ:Env) (ds:List D) (vs:List V) (Q:Env->Prop) (Q':St->Hp->Prop),SR X.K T z R H W σ ρ->Reps X.K H ds vs []->pureL ds=true->wg ds ρ Q ->
  (∀R' W' σ' ρ',SR X.K T z R' H W' σ' ρ'->FrW H W H W'->Q ρ'->Q' σ' H)->t vs σ H Q'
noncomputable def gN (i:Nat):WG:=λd ρ Q=>Q (ρ.set i (some d))
theorem gv_name {i:Nat} (hN:X.N.Nodup) (hi:X.N[i]? = some x:=by rfl) (hio:i∉T.io:=by decide) (hx:Loc X.env.scope x:=by first | exact Or.inl rfl | exact Or.inr rfl) (hf:X.fn x=true\/X.env.scope.names.lookup x=some .local:=by first | exact .inl rfl | exact .inr rfl | assumption):GV X T (.Name x pos) (gN i):=by
 refine ⟨_,pg_name hN hi hx hf,λz R σ H W ρ d v Q Q' s r hp hw k=>?_⟩
 obtain ⟨fp,s1⟩:=s
 obtain ⟨R',s2⟩:=s1.bind (i:=i) hio r List.nodup_nil (λa ha=>nomatch ha)
 exact k R' _ _ _ s2 (frw_more (FrW.refl H W) λa h=>nomatch h.2) hw
noncomputable def gNilD:List D->Env->(Env->Prop)->Prop
 | [],ρ,Q=>Q ρ
 | _,_,_=>False
noncomputable def gConsD (wg:WG) (wgs:List D->Env->(Env->Prop)->Prop):List D->Env->(Env->Prop)->Prop
 | d::r,ρ,Q=>wg d ρ λρ'=>wgs r ρ' Q
 | _,_,_=>False
theorem Reps.inv {K:PySem.W.Frag} {H:Hp} {d:D} {ds:List D} {vs:List V} {F:List Addr} (r:Reps K H (d::ds) vs F):∃v us F1 F2,vs=v::us/\Rep K H d v F1/\Reps K H ds us F2:=by
 cases r with
 | cons h r=>exact ⟨_,_,_,_,rfl,h,r⟩
theorem gvs_nil:GVs X T [] gNilD:=by
 refine ⟨_,pgs_nil,λz R σ H W ρ ds vs Q Q' s r hp hw k=>?_⟩
 cases ds with
 | nil=>cases r;exact ⟨rfl,k R W σ ρ s (FrW.refl H W) hw⟩
 | cons=>exact hw.elim
theorem gvs_cons {wg:WG} {wgs:List D->Env->(Env->Prop)->Prop} (h:GV X T e wg) (hr:GVs X T es wgs) (hs:(assignEach (e::es) X.env).map (·.2)=assign e X.env::(assignEach es X.env).map (·.2):=by rfl):GVs X T (e::es) (gConsD wg wgs):=by
 obtain ⟨t,pt,g⟩:=h
 obtain ⟨u,pu,gu⟩:=hr
 refine ⟨_,pgs_cons pt pu hs,λz R σ H W ρ ds vs Q Q' s r hp hw k=>?_⟩
 cases ds with
 | nil=>exact hw.elim
 | cons d ds =>
  obtain ⟨v,vs,F,G,rfl,r1,r2⟩:=r.inv
  simp only [pureL,Bool.and_eq_true] at hp
  obtain ⟨e1,r1⟩:=r1.pure hp.1
  obtain ⟨e2,r2⟩:=r2.pure hp.2
  refine ⟨v,vs,rfl,g z R σ H W ρ d v _ _ s r1 hp.1 hw λR' W' σ' ρ' s' f q=>?_⟩
  exact gu z R' σ' H W' ρ' ds vs Q Q' s' r2 hp.2 q λR2 W2 σ2 ρ2 s2 f2 q2=>k R2 W2 σ2 ρ2 s2 (f.trans f2) q2
noncomputable def gTupD (n:Nat) (wgs:List D->Env->(Env->Prop)->Prop):WG:=λd ρ Q=>match d with
 | .tup ds=>ds.length=n/\wgs ds ρ Q
 | _=>False
theorem gv_tup {kt:Nat} {n:Nat} {wgs:List D->Env->(Env->Prop)->Prop} (h:GVs X T es wgs) (hc:X.calm=true:=by rfl) (hn:(assignEach es X.env).length=n:=by rfl) (hst:(assignEach es X.env).findIdx? (·.1)=none:=by rfl):GV X T (.Tuple es kt pos) (gTupD n wgs):=by
 obtain ⟨t,pt,g⟩:=h
 refine ⟨_,pg_tup hc pt hn hst,λz R σ H W ρ d v Q Q' s r hp hw k=>?_⟩
 cases d with
 | tup ds =>
  cases r with
  | @tup a xs _ _ e1 r=>exact ⟨a,xs,rfl,.of e1,by rw [r.length];exact hw.1,g z R σ H W ρ ds xs Q Q' s r (by simpa [D.pure] using hp) hw.2 k⟩
 | _=>exact hw.elim
noncomputable def dSet (s c d:D) (k:D->Prop):Prop:=match s with
 | .lst xs=>onI c λj=>oget (ixN xs.length j) λn=>k (.lst (xs.set n d))
 | .dik kvs=>onK c λkey=>kvs.length<sizeLine/\k (.dik (putD kvs key d))
 | .dit kvs=>onT c λl=>kvs.length<sizeLine/\oget (keysOf l) λks=>k (.dit (putD kvs ks d))
 | _=>False
theorem set_dict (hu:X.A.units+1<cLine):PSet X (λo i v H Q=>∃a H',o=.ref a/\DPut H a i v H'/\Q H'):=by
 intro pins s σ H o i v ov iv u Q I ro ri rv h
 obtain ⟨a,H',rfl,g,q⟩:=h
 cases ro
 exact d_setItem hu I g ri rv λs' I'=>⟨H',I',q⟩
theorem PSet.or {t u:TSet} (h:PSet X t) (h':PSet X u):PSet X (λo i v H Q=>t o i v H Q\/u o i v H Q):=by
 intro pins s σ H o i v ov iv u Q I ro ri rv q
 rcases q with q | q
 ·exact h pins s σ H o i v ov iv u Q I ro ri rv q
 ·exact h' pins s σ H o i v ov iv u Q I ro ri rv q
noncomputable def wSetIx (i:Nat) (wv wi:WE):WS:=λP ρ=>wv ρ λd ρ1=>d.pure=true/\(look ρ1 i).isSome=true/\wi ρ1 λc ρ2=>oget (look ρ2 i) λs=>dSet s c d λs'=>P.nx (ρ2.set i (some s'))
theorem sv_setIx {i:Nat} {v ix:Expr} {wv wi:WE} {px ps':Pos} (hu:X.A.units+1<cLine) (hv:EV X T m1 o1 v wv) (hi:EV X T m2 o2 ix wi) (ht:T.own i=true:=by rfl) (hN:X.N[i]? = some x:=by rfl)
  (hvis:Vis X.env.scope x:=by first | exact Or.inl rfl | exact Or.inr (Or.inl rfl) | exact Or.inr (Or.inr rfl)) (hd:(x == ("__debug__" : Str))=false:=by decide) (hcd:(x == ("__classdict__" : Str))=false:=by decide)
  (ha:∀v,assign (.Subscript (.Name x px) ix ps') X.env v=(do
   let ov ← holding [v] (eval (.Name x px) X.env)
   let iv ← holding [v,ov] (eval ix X.env)
   standAt ps'
   holding [v,ov,iv] (setItem ov iv v)
   release [v,ov,iv] []):=by intro _;rfl) (hs:swapsWithSole [.Subscript (.Name x px) ix ps'] v pos.line X.env=pure false:=by rfl) (hw:swappedStores [.Subscript (.Name x px) ix ps'] v X.env=pure none:=by rfl)
  (h1:(assignEach [.Subscript (.Name x px) ix ps'] X.env).map (·.2)=[assign (.Subscript (.Name x px) ix ps') X.env]:=by rfl):SV X T (.Assign [.Subscript (.Name x px) ix ps'] v pos) (wSetIx i wv wi):=by
 obtain ⟨tv,pv,gv⟩:=hv
 obtain ⟨ti,pi,gi⟩:=hi
 refine ⟨_,ps_asg pv (pg_sub (pe_var hN hvis hd hcd) pi (PSet.or set_list (set_dict hu)) ha) hs hw h1,λz R σ H W ρ P E s hw l=>?_⟩
 refine gv z R σ H W ρ _ _ s hw λv1 H1 W1 d ρ1 F1 p ⟨hp,hso,q⟩=>?_
 obtain ⟨-,rv⟩:=p.rep.pure hp
 obtain ⟨d0,hl0⟩:=Option.isSome_iff_exists.mp hso
 obtain ⟨fp0,s0⟩:=id p.sr
 obtain ⟨u,hu',_⟩:=s0.at_ i d0 hl0
 refine ⟨u,hu',gi z R σ H1 W1 ρ1 _ _ p.sr q λv2 H2 W2 c ρ2 F2 p2 q2=>?_⟩
 obtain ⟨d1,hl,q2⟩:=oget_some q2
 obtain ⟨fp,s2⟩:=id p2.sr
 obtain ⟨u',hu2,ru⟩:=s2.at_ i d1 hl
 have:u'=u:=by rw [hu'] at hu2;cases hu2;rfl
 subst this
 have rv2:Rep X.K H2 d v1 []:=rv.keep p2.fr λa m=>nomatch m
 obtain ⟨nd,sw⟩:=s2.own i d1 hl ht
 have fin:∀(lad:Addr) (ob:HO) (d':D) (F':List Addr),lad∈fp i->imm ob=false->Rep X.K (upd H2 lad ob) d' u' F'->F'.Nodup->(∀a∈F',a∈fp i)->P.nx (ρ2.set i (some d'))->E.nx σ (upd H2 lad ob):=λlad ob d' F' hm him r' nd' sub hq=>by
  have hW:=sw lad hm
  exact l.nx R σ _ _ _ (s2.write hl ht hu2 hm upd_keep ⟨ob,upd_same,him⟩ r' nd' λa ha=>.inl (sub a ha)) ((p.fr.trans p2.fr).write hW (s2.wd lad hW) upd_keep ⟨ob,upd_same,him⟩ λa ha=>.inl (sw a (sub a ha))) hq
 have nilnot:∀a:Addr,a∉([]:List Addr):=λa h=>nomatch h
 generalize hF:fp i=F at *
 cases d1 with
 | lst ds =>
  obtain ⟨j,rfl,q2⟩:=onI_inv q2
  obtain ⟨a,xs,G,rfl,rfl,e,r⟩:=ru.iLst
  obtain ⟨n,hn,hq⟩:=oget_some q2
  have rc:=p2.rep.iInt
  subst rc
  have hlt:=(ixN_seq hn).2.1
  obtain ⟨dn,hdn⟩:∃dn,ds[n]? = some dn:=⟨ds[n],List.getElem?_eq_getElem hlt⟩
  obtain ⟨y,A,B,C,hy,hG,rB,rA,rC⟩:=r.split hdn
  obtain ⟨na,ndG⟩:=List.nodup_cons.mp nd
  have sub:=sub3 hG
  have nAC:a∉A++C:=λh=>na (sub.subset h)
  have hxl:n<xs.length:=by rw [r.length];exact hlt
  refine .inl ⟨a,xs,j,n,rfl,rfl,e,by rw [r.length];exact hn,?_⟩
  refine fin a _ _ (a::(A++C)) List.mem_cons_self rfl (.lst upd_same ?_) (List.nodup_cons.mpr ⟨nAC,ndG.sublist sub⟩) (λb hb=>?_) hq
  ·rw [take_set_drop hlt,take_set_drop hxl]
   have:=(rA.upd (ob':=.lst (xs.take n++v1::xs.drop (n+1))) e rfl (λh=>nAC (List.mem_append.mpr (.inl h)))).append (.cons (rv2.upd e rfl (nilnot a)) (rC.upd e rfl λh=>nAC (List.mem_append.mpr (.inr h))))
   simpa using this
  ·rcases List.mem_cons.mp hb with rfl | hb
   ·exact List.mem_cons_self
   ·exact List.mem_cons_of_mem _ (sub.subset hb)
 | dik ds =>
  obtain ⟨key,⟨hz,hq⟩,hy⟩:=onK_inv (show onK c (λkey=>ds.length<sizeLine/\P.nx (ρ2.set i (some (.dik (putD ds key d))))) from q2)
  obtain ⟨a,kvs,G,rfl,rfl,e,r⟩:=ru.iDik
  obtain rfl:=hy p2.rep
  obtain ⟨na,ndG⟩:=List.nodup_cons.mp nd
  obtain ⟨G',rp,sub⟩:=(r.upd (ob':=.dK (putK kvs key v1)) e rfl na).put (k:=key) (rv2.upd e rfl (nilnot a))
  refine .inr ⟨a,_,rfl,DPut.k (k:=key) e (by rw [r.length];exact hz),?_⟩
  refine fin a _ _ (a::G') List.mem_cons_self rfl (.dik upd_same rp) (List.nodup_cons.mpr ⟨λh=>na (sub.subset h),ndG.sublist sub⟩) (λb hb=>?_) hq
  rcases List.mem_cons.mp hb with rfl | hb
  ·exact List.mem_cons_self
  ·exact List.mem_cons_of_mem _ (sub.subset hb)
 | dit ds =>
  obtain ⟨l',rfl,hz,q2⟩:=onT_inv q2
  obtain ⟨a,kvs,G,rfl,rfl,e,r⟩:=ru.iDit
  obtain ⟨na,ndG⟩:=List.nodup_cons.mp nd
  obtain ⟨ks,hk,hq⟩:=oget_some q2
  obtain ⟨b,ys,rfl,e2,r2⟩:=p2.rep.iTup
  have hx:=r2.keys hk
  subst hx
  obtain ⟨G',rp,sub⟩:=(r.upd (ob':=.dT (putK kvs ks v1)) e rfl na).put (k:=ks) (rv2.upd e rfl (nilnot a))
  refine .inr ⟨a,_,rfl,DPut.t (k:=ks) e e2 (by rw [r.length];exact hz),?_⟩
  refine fin a _ _ (a::G') List.mem_cons_self rfl (.dit upd_same rp) (List.nodup_cons.mpr ⟨λh=>na (sub.subset h),ndG.sublist sub⟩) (λb hb=>?_) hq
  rcases List.mem_cons.mp hb with rfl | hb
  ·exact List.mem_cons_self
  ·exact List.mem_cons_of_mem _ (sub.subset hb)
 | _=>exact (show False from q2).elim
noncomputable def wIf (wt:WT) (w u:WS):WS:=λP ρ=>wt ρ λb ρ'=>if b=true then w P ρ' else u P ρ'
theorem sv_if {c:Expr} {sa sb:List Stmt} (hc:TV X T m c wt) (ha:SVs X T sa ws) (hb:SVs X T sb wu):SV X T (.If c sa sb pos) (wIf wt ws wu):=by
 obtain ⟨tc,pc,gc⟩:=hc
 obtain ⟨ta,pa,ga⟩:=ha
 obtain ⟨tb,pb,gb⟩:=hb
 refine ⟨_,ps_if pc pa pb,λz R σ H W ρ P E s hw l=>gc z R σ H W ρ _ _ s hw λb H1 W1 ρ1 p q=>?_⟩
 cases b with
 | true=>exact ga z R σ H1 W1 ρ1 P E p.sr q (l.step p.fr)
 | false=>exact gb z R σ H1 W1 ρ1 P E p.sr q (l.step p.fr)
noncomputable def wWhile (wt:WT) (wb:WS):WS:=λP ρ=>∃I:Nat->Env->Prop,(∃n,I n ρ)/\∀n ρ,I n ρ->wt ρ λb ρ1=>if b=true then wb { P with nx:=λρ'=>∃n',n' < n/\I n' ρ',ct:=λρ'=>∃n',n' < n/\I n' ρ',bk:=P.nx } ρ1 else P.nx ρ1
theorem sv_while {c:Expr} {body:List Stmt} (hp:PassesOwn (model X.prog X.w) X.A X.env X.xe) (hc:TV X T m c wt) (hb:SVs X T body ws):SV X T (.While c body [] pos) (wWhile wt ws):=by
 obtain ⟨tc,pc,gc⟩:=hc
 obtain ⟨tb,pb,gb⟩:=hb
 refine ⟨_,ps_while hp pc pb,λz R σ H W ρ P E s hw l=>?_⟩
 obtain ⟨I,⟨n,h0⟩,hI⟩:=hw
 refine ⟨λn σ' H'=>∃R' W' ρ',SR X.K T z R' H' W' σ' ρ'/\FrW H W H' W'/\I n ρ',⟨n,R,W,ρ,s,FrW.refl H W,h0⟩,?_⟩
 rintro n σ1 H1 ⟨R1,W1,ρ1,s1,f1,i1⟩
 refine gc z R1 σ1 H1 W1 ρ1 _ _ s1 (hI n ρ1 i1) λb H2 W2 ρ2 p q=>?_
 cases b with
 | true =>
  refine ⟨λσ' H'=>∃n',n' < n/\∃R' W' ρ',SR X.K T z R' H' W' σ' ρ'/\FrW H W H' W'/\I n' ρ',λσ' H' ⟨n',h,r⟩=>⟨n',h,r⟩,?_⟩
  refine gb z R1 σ1 H2 W2 ρ2 _ _ p.sr q ⟨?_,?_,?_,?_,?_⟩
  ·exact λR' σ' H' W' ρ' s' f' ⟨n',h,i'⟩=>⟨n',h,R',W',ρ',s',(f1.trans p.fr).trans f',i'⟩
  ·exact λR' σ' H' W' ρ' s' f' h=>l.nx R' σ' H' W' ρ' s' ((f1.trans p.fr).trans f') h
  ·exact λR' σ' H' W' ρ' s' f' ⟨n',h,i'⟩=>⟨n',h,R',W',ρ',s',(f1.trans p.fr).trans f',i'⟩
  ·exact ((l.step f1).step p.fr).rt
  ·exact ((l.step f1).step p.fr).xc
 | false=>exact l.nx R1 σ1 H2 W2 ρ2 p.sr (f1.trans p.fr) q
noncomputable def wFor (wl:WL) (wg:WG) (wb:WS):WS:=λP ρ=>wl ρ λds ρ1=>pureL ds=true/\∃I:Nat->Env->Prop,I 0 ρ1 /\
 (∀i d ρ,ds[i]? = some d->I i ρ->wg d ρ λρ'=>wb { P with nx:=I (i+1),ct:=I (i+1),bk:=P.nx } ρ')/\∀ρ,I ds.length ρ->P.nx ρ
theorem wz_true (W:Addr->Prop):wz true W=W:=by funext a;simp [wz]
theorem sv_for {tg iter:Expr} {body:List Stmt} {wl:WL} {wg:WG} (hp:PassesOwn (model X.prog X.w) X.A X.env X.xe) (hi:IV X T m true tg iter wl) (hg:GV X T tg wg) (hb:SVs X T body ws) (hc:X.calm=true:=by rfl)
  (hs:∀x,foldedSetIterable iter X.env x=pure x:=by intro _;rfl):SV X T (.For tg iter body [] pos) (wFor wl wg ws):=by
 obtain ⟨ti,pi,gi⟩:=hi
 obtain ⟨tt,pt,gt⟩:=hg
 obtain ⟨tb,pb,gb⟩:=hb
 refine ⟨_,ps_for hp hc pi pt pb hs,λz R σ H W ρ P E s hw l=>gi z R σ H W ρ _ _ s hw λJ H1 W1 ds ρ1 p jd q=>?_⟩
 rw [wz_true] at jd
 obtain ⟨hpu,I,h0,hI,hd⟩:=q
 refine ⟨λi n σ' H'=>n=ds.length-i/\i<=ds.length/\∃R' W' ρ',SR X.K T z R' H' W' σ' ρ'/\FrW H1 W1 H' W'/\I i ρ',⟨ds.length,by simp,Nat.zero_le _,R,W1,ρ1,p.sr,FrW.refl _ _,h0⟩,?_⟩
 rintro i n σ2 H2 ⟨rfl,hi,R2,W2,ρ2,s2,f2,i2⟩
 obtain ⟨j1,j2⟩:=jd i H2 W2 f2
 by_cases hlt:i<ds.length
 ·have hdi:ds[i]? = some ds[i]:=List.getElem?_eq_getElem hlt
  obtain ⟨hgo,hy⟩:=j2 _ hdi
  have hpd:(ds[i]).pure=true:=pureL_iff.mp hpu _ (List.getElem_mem hlt)
  refine .inr ⟨hgo,λσ' H'=>i+1<=ds.length/\∃R' W' ρ',SR X.K T z R' H' W' σ' ρ'/\FrW H1 W1 H' W'/\I (i+1) ρ',λσ' H' ⟨h1,h2⟩=>⟨ds.length-(i+1),by omega,rfl,h1,h2⟩,λv H3 yl=>?_⟩
  obtain ⟨sm,F,rv,_⟩:=hy v H3 yl
  obtain ⟨-,rv⟩:=rv.pure hpd
  have f3:FrW H1 W1 H3 W2:=f2.trans (FrW.same W2 sm)
  refine gt z R2 σ2 H3 W2 ρ2 _ v _ _ (s2.same sm) rv hpd (hI i _ ρ2 hdi i2) λR4 W4 σ4 ρ4 s4 f4 q4=>?_
  refine gb z R4 σ4 H3 W4 ρ4 _ _ s4 q4 ⟨?_,?_,?_,?_,?_⟩
  ·exact λR' σ' H' W' ρ' s' f' h=>⟨hlt,R',W',ρ',s',(f3.trans f4).trans f',h⟩
  ·exact λR' σ' H' W' ρ' s' f' h=>l.nx R' σ' H' W' ρ' s' (((p.fr.trans f3).trans f4).trans f') h
  ·exact λR' σ' H' W' ρ' s' f' h=>⟨hlt,R',W',ρ',s',(f3.trans f4).trans f',h⟩
  ·exact (((l.step p.fr).step f3).step f4).rt
  ·exact (((l.step p.fr).step f3).step f4).xc
 ·have e:i=ds.length:=by omega
  subst e
  exact .inl ⟨j1 (Nat.le_refl _),l.nx R2 σ2 H2 W2 ρ2 s2 (p.fr.trans f2) (hd ρ2 i2)⟩
end
end PV
namespace PV
open PySem PySem.Spec L2
open PyProof.Rows (envOfC)
noncomputable def TR:Tg:={ own:=λ_=>false,io:=[] }
noncomputable def Any (H:Hp):Addr->Prop:=λa=>∃ob,H a=some ob/\imm ob=false
theorem SR.readonly {K:PySem.W.Frag} {T:Tg} {z:Nat->V} {H:Hp} {σ:St} {ρ:Env} (hio:T.io=[]) (hlen:ρ.length=σ.length) (h:∀i d,look ρ i=some d->T.own i=false/\∃v F,σ[i]? = some (some v)/\Rep K H d v F) :
  SR K T z (Any H) H (λ_=>False) σ ρ:=by
 have ch:∀i,∃F,∀d,look ρ i=some d->∃v,σ[i]? = some (some v)/\Rep K H d v F:=λi=>by
  cases hl:look ρ i with
  | none=>exact ⟨[],λd e=>nomatch e⟩
  | some d =>
   obtain ⟨_,v,F,h1,h2⟩:=h i d hl
   exact ⟨F,λd' e=>by cases e;exact ⟨v,h1,h2⟩⟩
 refine ⟨λi=>Classical.choose (ch i),hlen,λa h=>h.elim,λi d hl=>Classical.choose_spec (ch i) d hl,λi d hl ht=>?_,λi d hl ht a ha=>?_,λa h=>h.elim,λa h=>h,λi j d e hl hl' ht=>?_,λi hi=>?_⟩
 ·rw [(h i d hl).1] at ht;cases ht
 ·obtain ⟨v,_,r⟩:=Classical.choose_spec (ch i) d hl
  exact r.dom a ha
 ·rw [(h i d hl).1] at ht;cases ht
 ·rw [hio] at hi;cases hi
theorem look_start:∀{ds:List D} {n i:Nat},look (ds.map some++List.replicate n none) i=ds[i]?
 | [],0,i=>by simp [look]
 | [],n+1,0=>by simp [look,List.replicate_succ]
 | [],n+1,i+1=>by
  have:=look_start (ds:=[]) (n:=n) (i:=i)
  simpa [look,List.replicate_succ] using this
 | d::ds,n,0=>by simp [look]
 | d::ds,n,i+1=>by
  have:=look_start (ds:=ds) (n:=n) (i:=i)
  simpa [look] using this
theorem start_get {N:List Str} {vs:List V} {i:Nat} {v:V} (h:vs[i]? = some v):(L2.start N vs)[i]? = some (some v):=by
 have hi:=(List.getElem?_eq_some_iff.mp h).1
 unfold L2.start
 rw [List.getElem?_append_left (by simpa using hi),List.getElem?_map,h]
 rfl
section
variable {P:Program} {w:World} {K:PySem.W.Frag} {mg:Str->Option Value} {base:Heap} {x qual:Str} {st:Stmt} {f:Addr} {fd:FuncData} {N ps:List Str} {k:Nat} {T:Tg} {ww:WS}
noncomputable def env0 (N:List Str) (ds:List D):Env:=ds.map some++List.replicate (N.length-ds.length) none
theorem fn_ro {g:GA} (F:Fun K x qual st f fd) (S:FnScope N ps (defScope st)) (hio:T.io=[]) (hown:∀i,i<ps.length->T.own i=false) (hg:∀ds kk,g ds kk->ds.length=ps.length)
  (hb:∀(cdv:Value) (A:Around) (outer:List PySem.Env) (s:Shared) (H:Hp) (E:XK),Room k (A.deeper (envOfC qual (defScope st) s.heap.objs.size f cdv))->SVs (cxOf CX0 P w K mg base N qual (defScope st) f cdv A outer s H E).nox T (defBody st) ww)
  (hr:∀ds kk,g ds kk->ww { nx:=λ_=>kk .non,rt:=λd _=>kk d } (env0 N ds)):FnOk P w K mg base CX0 (k+1) f fd ps (spR K g):=by
 refine F.ok S (λvs H Q E h=>?_) (λcdv A outer s H vs Q E hroom h=>?_)
 ·obtain ⟨ds,Fp,kk,rep,hgk,_⟩:=h
  rw [rep.length];exact hg ds kk hgk
 ·obtain ⟨ds,Fp,kk,rep,hgk,q⟩:=h
  obtain ⟨ts,pts,gts⟩:=hb cdv A outer s H E hroom
  have hl:=rep.length
  have hds:=hg ds kk hgk
  refine ⟨ts,pts,gts (λ_=>.non) (Any H) (L2.start N vs) H (λ_=>False) (env0 N ds) _ _ (SR.readonly hio ?_ λi d hli=>?_) (hr ds kk hgk) ⟨?_,?_,?_,?_,λ_ _ _ _ _ _ _ _ hk=>hk.elim⟩⟩
  ·unfold env0 L2.start;simp [hl]
  ·unfold env0 at hli
   rw [look_start] at hli
   obtain ⟨v,B,h1,h2,_⟩:=rep.get hli
   exact ⟨hown i (by rw [← hds];exact (List.getElem?_eq_some_iff.mp hli).1),v,B,start_get h1,h2⟩
  ·intro R' σ' H' W' ρ' s' fr hk
   have sm:Same H H':=λb o e=>fr.keep b o e (λz=>z)
   exact q .non H' .non [] ⟨sm,.non,List.nodup_nil,λ_ m=>nomatch m⟩ hk
  ·exact λR' σ' H' W' ρ' s' fr hk=>hk.elim
  ·exact λR' σ' H' W' ρ' s' fr hk=>hk.elim
  ·intro R' v σ' H' W' ρ' d F' s' fr r nd nw hk
   have sm:Same H H':=λb o e=>fr.keep b o e (λz=>z)
   exact q v H' d F' ⟨sm,r,nd,λa ha=>(nw a ha).2.resolve_left id⟩ hk
theorem fn_io {p:Nat} {g:GI} (F:Fun K x qual st f fd) (S:FnScope N ps (defScope st)) (hio:T.io=[p]) (hown:T.own p=true) (hg:∀ds kk,g ds kk->ds.length=ps.length/\∃d0,ds[p]? = some d0/\flatD d0=true)
  (hb:∀(cdv:Value) (A:Around) (outer:List PySem.Env) (s:Shared) (H:Hp) (E:XK),Room k (A.deeper (envOfC qual (defScope st) s.heap.objs.size f cdv))->SVs (cxOf CX0 P w K mg base N qual (defScope st) f cdv A outer s H E).nox T (defBody st) ww)
  (hr:∀ds kk,g ds kk->ww { nx:=λρ=>oget (look ρ p) λd'=>flatD d'=true/\kk .non d',rt:=λd ρ=>oget (look ρ p) λd'=>flatD d'=true/\kk d d' } (env0 N ds)):FnOk P w K mg base CX0 (k+1) f fd ps (spI K p g):=by
 refine F.ok S (λvs H Q E h=>?_) (λcdv A outer s H vs Q E hroom h=>?_)
 ·obtain ⟨ds,a,kk,rep,hp,hgk,_⟩:=h
  rw [rep.length];exact (hg ds kk hgk).1
 ·obtain ⟨ds,a,kk,rep,hp,hgk,q⟩:=h
  obtain ⟨ts,pts,gts⟩:=hb cdv A outer s H E hroom
  have hl:=rep.length
  obtain ⟨hds,d0,hd0,hf0⟩:=hg ds kk hgk
  obtain ⟨v0,A',B,C,h1,h2,r0,rA,rC⟩:=rep.split hd0
  rw [hp] at h1;cases h1
  obtain ⟨a',e1,e2⟩:=r0.flat1 hf0
  cases e1
  subst e2
  have hA:A'=[]:=by
   cases A' with
   | nil=>rfl
   | cons y A'=>simp at h2
  subst hA
  have hC:C=[]:=by
   cases C with
   | nil=>rfl
   | cons y C=>simp at h2
  subst hC
  have oth:∀i d,i≠p->ds[i]? = some d->∃v,vs[i]? = some v/\Rep K H d v []:=λi d hne hd=>by
   rcases Nat.lt_or_gt_of_ne hne with h | h
   ·obtain ⟨v,B,h1,h2,h3⟩:=rA.get (i:=i) (by rw [List.getElem?_take_of_lt h];exact hd)
    rw [List.getElem?_take_of_lt h] at h1
    have:=List.sublist_nil.mp h3
    subst this
    exact ⟨v,h1,h2⟩
   ·obtain ⟨v,B,h1,h2,h3⟩:=rC.get (i:=i-(p+1)) (by rw [List.getElem?_drop,show p+1+(i-(p+1))=i by omega];exact hd)
    rw [List.getElem?_drop,show p+1+(i-(p+1))=i by omega] at h1
    have:=List.sublist_nil.mp h3
    subst this
    exact ⟨v,h1,h2⟩
  obtain ⟨oa,ea,ia⟩:=r0.dom a (List.mem_singleton.mpr rfl)
  have fin:∀R' v σ' H' W' ρ' d F',SR K T (λ_=>.ref a) R' H' W' σ' ρ'->FrW H (λb=>b=a) H' W'->Rep K H' d v F'->F'.Nodup->(∀b∈F',¬W' b/\(b=a\/H b=none))->(oget (look ρ' p) λd'=>flatD d'=true/\kk d d')->Q v H':=λR' v σ' H' W' ρ' d F' s' fr r nd nw hk=>by
   obtain ⟨d',hl',hf',hk⟩:=oget_some hk
   obtain ⟨fp,s0⟩:=s'
   obtain ⟨u,hu,ru⟩:=s0.at_ p d' hl'
   have hfx:=s0.fix p (by rw [hio];exact List.mem_singleton.mpr rfl)
   rw [hu] at hfx
   cases hfx
   obtain ⟨a'',e1,e2⟩:=ru.flat1 hf'
   cases e1
   rw [e2] at ru
   have hWa:W' a:=(s0.own p d' hl' hown).2 a (by rw [e2];exact List.mem_singleton.mpr rfl)
   refine q v H' d d' F' ru r nd (λb hb=>?_) (λb o e hne=>fr.keep b o e hne) hk
   rcases (nw b hb).2 with h | h
   ·exact absurd hWa (by rw [← h];exact (nw b hb).1)
   ·exact h
  refine ⟨ts,pts,gts (λ_=>.ref a) (λb=>b≠a/\Any H b) (L2.start N vs) H (λb=>b=a) (env0 N ds) _ _ ⟨λi=>if i=p then [a] else [],?_,?_,?_,?_,?_,?_,?_,?_,?_⟩ (hr ds kk hgk) ⟨?_,?_,?_,?_,λ_ _ _ _ _ _ _ _ hk=>hk.elim⟩⟩
  ·unfold env0 L2.start;simp [hl]
  ·rintro b rfl;exact ⟨oa,ea,ia⟩
  ·intro i d hli
   unfold env0 at hli
   rw [look_start] at hli
   by_cases hip:i=p
   ·subst hip
    rw [hd0] at hli;cases hli
    exact ⟨.ref a,start_get hp,by rw [if_pos rfl];exact r0⟩
   ·obtain ⟨v,h1,h2⟩:=oth i d hip hli
    exact ⟨v,start_get h1,by rw [if_neg hip];exact h2⟩
  ·intro i d _ _
   by_cases hip:i=p
   ·rw [if_pos hip];exact ⟨by simp,λb hb=>List.mem_singleton.mp hb⟩
   ·rw [if_neg hip];exact ⟨by simp,λb hb=>nomatch hb⟩
  ·intro i d _ ht b hb
   have hip:i≠p:=λz=>by subst z;rw [hown] at ht;cases ht
   rw [if_neg hip] at hb;cases hb
  ·rintro b rfl ⟨h,_⟩;exact h rfl
  ·exact λb h=>h.2
  ·intro i j d e _ _ _ _ hne b hb hb'
   by_cases hip:i=p
   ·have hjp:j≠p:=λz=>hne (hip.trans z.symm)
    rw [if_neg hjp] at hb';cases hb'
   ·rw [if_neg hip] at hb;cases hb
  ·intro i hi
   rw [hio] at hi
   rw [List.mem_singleton.mp hi]
   exact start_get hp
  ·exact λR' σ' H' W' ρ' s' fr hk=>fin R' .non σ' H' W' ρ' .non [] s' fr .non List.nodup_nil (λb hb=>nomatch hb) hk
  ·exact λR' σ' H' W' ρ' s' fr hk=>hk.elim
  ·exact λR' σ' H' W' ρ' s' fr hk=>hk.elim
  ·exact λR' v σ' H' W' ρ' d F' s' fr r nd nw hk=>fin R' v σ' H' W' ρ' d F' s' fr r nd nw hk
end
section
variable {X:Cx} {T:Tg} {m o m0 m1 m2 m3 o1 o2:Bool} {e a b:Expr} {w wa wb we:WE} {pos p2 p:Pos} {es:List Expr} {wr:WA} {x:Str} {wt:WT}
noncomputable def CV (X:Cx) (ifs:List Expr) (w:WT):Prop :=
 ∃tt,PIfs X ifs tt/\∀(z:Nat->V) (R:Addr->Prop) (σ:St) (H:Hp) (W:Addr->Prop) (ρ:Env) (Q:Bool->Env->Prop) (Q':Bool->Hp->Prop),SR X.K TR z R H W σ ρ->w ρ Q ->
  (∀b H' W' ρ',PostT X.K TR z R false H W σ ρ H' W' ρ'->Q b ρ'->Q' b H')->tt σ H Q'
noncomputable def wAll:WT:=λρ Q=>Q true ρ
theorem cv_nil:CV X [] wAll:=⟨_,pifs_nil,λz R σ H W ρ Q Q' s hw k=>k true H W ρ ⟨s,FrW.refl H W,λ_=>⟨Same.refl H,rfl,rfl⟩⟩ hw⟩
theorem cv_one {c:Expr} (h:TV X TR false c wt):CV X [c] wt:=by
 obtain ⟨tt,pt,g⟩:=h
 exact ⟨_,pifs_one pt,g⟩
noncomputable def blkE (ρ:Env) (d:D) (ix:List Nat):Env:=some d::ix.map (look ρ)
theorem look_map {f:Nat->Option D}:∀{ix:List Nat} {j:Nat},look (ix.map f) j=ix[j]?.bind f
 | [],_=>by simp [look]
 | i::r,0=>by simp [look]
 | i::r,j+1=>by simpa [look] using look_map (f:=f) (ix:=r) (j:=j)
noncomputable def wComp (wl:WL) (wt:WT) (we:WE) (ix:List Nat):WE:=λρ Q=>wl ρ λds ρ1=>∃I:Nat->List D->Prop,I 0 [] /\
 (∀i d ys,ds[i]? = some d->I i ys->ys.length<sizeLine/\wt (blkE ρ1 d ix) λb _=>if b=true then we (blkE ρ1 d ix) (λy _=>I (i+1) (ys++[y])) else I (i+1) ys) /\
 ∀ys,I ds.length ys->ys.length<=sizeLine/\Q (.lst ys) ρ1
noncomputable def CompOk (X:Cx) (T:Tg) (m:Bool) (elt iter:Expr) (x:Str) (px:Pos) (scope:Scope) (ifs:List Expr) (ix:List Nat) (w:WE):Prop :=
 ∃(wi:TI) (tt:TT) (te:TE),PI X (.Name x px) iter wi/\(∀cl C s₀ H₀ fp,PIfs (cxBlk X scope cl C (bN X.N x ix) s₀ H₀ fp) ifs tt)/\(∀cl C s₀ H₀ fp,PE (cxBlk X scope cl C (bN X.N x ix) s₀ H₀ fp) elt te) /\
  ∀(z:Nat->V) (R:Addr->Prop) (σ:St) (H:Hp) (W:Addr->Prop) (ρ:Env) (Q:D->Env->Prop) (Q':VK),SR X.K T z R H W σ ρ->w ρ Q ->
   (∀v H' W' d ρ' F,Post X.K T z R m true H W σ ρ H' W' ρ' d v F->Q d ρ'->Q' v H')->tComp wi tt te ix σ H Q'
theorem comp_ok {elt iter:Expr} {px:Pos} {scope:Scope} {ifs:List Expr} {wl:WL} {pr:Bool} (ix:List Nat) (hi:IV X T m pr (.Name x px) iter wl)
  (ht:∀cl C s₀ H₀ fp,CV (cxBlk X scope cl C (bN X.N x ix) s₀ H₀ fp) ifs wt) (he:∀cl C s₀ H₀ fp,EV (cxBlk X scope cl C (bN X.N x ix) s₀ H₀ fp) TR false true elt we) :
  CompOk X T m elt iter x px scope ifs ix (wComp wl wt we ix):=by
 obtain ⟨wi,pi,gi⟩:=hi
 refine ⟨wi,λσ H Q=>∀cl C s₀ H₀ fp,Classical.choose (ht cl C s₀ H₀ fp) σ H Q,λσ H Q=>∀cl C s₀ H₀ fp,Classical.choose (he cl C s₀ H₀ fp) σ H Q,pi,
  λcl C s₀ H₀ fp pins s σ H Q I h=>(Classical.choose_spec (ht cl C s₀ H₀ fp)).1 pins s σ H Q I (h cl C s₀ H₀ fp),λcl C s₀ H₀ fp pins s σ H Q I h=>(Classical.choose_spec (he cl C s₀ H₀ fp)).1 pins s σ H Q I (h cl C s₀ H₀ fp),?_⟩
 intro z R σ H W ρ Q Q' s hw k
 refine gi z R σ H W ρ _ _ s hw λJ H1 W1 ds ρ1 p jd q=>?_
 obtain ⟨I,h0,hI,hd⟩:=q
 refine ⟨λi n ys H2=>n=ds.length-i/\i<=ds.length/\Same H1 H2/\∃es F,Reps X.K H2 es ys F/\F.Nodup/\(∀a∈F,H1 a=none)/\I i es,ds.length,⟨by simp,Nat.zero_le _,Same.refl _,[],[],.nil,List.nodup_nil,(λa m=>(nomatch m)),h0⟩,?_⟩
 rintro i n ys H2 ⟨rfl,hi,sm,es,F,re,nd,nw,i2⟩
 obtain ⟨j1,j2⟩:=jd i H2 (wz pr W1) (FrW.same _ sm)
 by_cases hlt:i<ds.length
 ·have hdi:ds[i]? = some ds[i]:=List.getElem?_eq_getElem hlt
  obtain ⟨hgo,hy⟩:=j2 _ hdi
  obtain ⟨hz,q1⟩:=hI i _ es hdi i2
  refine .inr ⟨hgo,by rw [re.length];exact hz,λv H3 yl=>?_⟩
  obtain ⟨sm3,Fv,rv,_⟩:=hy v H3 yl
  have srB:∀z',SR X.K TR z' (Any H3) H3 (λ_=>False) (bS σ (some v) ix) (blkE ρ1 ds[i] ix):=λz'=>by
   refine SR.readonly rfl (by simp [bS,blkE]) λj d hj=>⟨rfl,?_⟩
   cases j with
   | zero =>
    simp only [blkE,look,Option.some.injEq] at hj
    subst hj
    exact ⟨v,Fv,rfl,rv⟩
   | succ j =>
    have hj':look (ix.map (look ρ1)) j=some d:=hj
    rw [look_map] at hj'
    cases hx:ix[j]? with
    | none=>rw [hx] at hj';cases hj'
    | some q =>
     rw [hx] at hj'
     obtain ⟨fp,s1⟩:=(p.sr.same sm).same sm3
     obtain ⟨u,hu,ru⟩:=s1.at_ q d hj'
     refine ⟨u,fp q,?_,ru⟩
     show (ix.map λi=>(σ[i]?).getD none)[j]? = some (some u)
     rw [List.getElem?_map,hx]
     simp [hu]
  intro cl C s₀ H₀ fp
  refine (Classical.choose_spec (ht cl C s₀ H₀ fp)).2 (λ_=>.non) (Any H3) (bS σ (some v) ix) H3 (λ_=>False) (blkE ρ1 ds[i] ix) _ _ (srB _) q1 λbb H4 W4 ρ4 p4 q4=>?_
  obtain ⟨sm4,hW4,hρ4⟩:=p4.calm rfl
  have re4:=((re.same sm3).same sm4)
  cases bb with
  | false=>exact ⟨ds.length-(i+1),by omega,rfl,hlt,(sm.trans sm3).trans sm4,es,F,re4,nd,nw,q4⟩
  | true =>
   show if true=true then _ else _
   rw [if_pos rfl]
   intro cl C s₀ H₀ fp
   refine (Classical.choose_spec (he cl C s₀ H₀ fp)).2 (λ_=>.non) (Any H3) (bS σ (some v) ix) H4 W4 (blkE ρ1 ds[i] ix) _ _ (hρ4 ▸ p4.sr) (by simpa using q4) λu H5 W5 y ρ5 Fy p5 q5=>?_
   obtain ⟨sm5,_,_⟩:=p5.calm rfl
   obtain ⟨ny,ky⟩:=p5.own rfl
   have sm15:Same H1 H5:=((sm.trans sm3).trans sm4).trans sm5
   refine ⟨ds.length-(i+1),by omega,rfl,hlt,sm15,es++[y],F++Fy,(re4.same sm5).snoc p5.rep,nodup_ins nd ny λa ha hf=>?_,λa ha=>?_,q5⟩
   ·obtain ⟨ob,e1,_⟩:=re4.dom a hf
    rw [(ky a ha).1] at e1;cases e1
   ·rcases List.mem_append.mp ha with ha | ha
    ·exact nw a ha
    ·exact ((sm.trans sm3).trans sm4).free (ky a ha).1
 ·have e:i=ds.length:=by omega
  subst e
  obtain ⟨hz,q1⟩:=hd es i2
  refine .inl ⟨j1 (Nat.le_refl _),by rw [re.length];exact hz,λl hl=>?_⟩
  have hl1:H1 l=none:=sm.free hl
  refine k _ _ W1 (.lst es) ρ1 (l::F) ⟨(p.sr.same sm).same (same_upd hl),(p.fr.trans (FrW.same W1 sm)).trans (FrW.same W1 (same_upd hl)),λh=>⟨((p.calm h).1.trans sm).trans (same_upd hl),(p.calm h).2⟩,.lst upd_same (re.same (same_upd hl)),λ_=>⟨List.nodup_cons.mpr ⟨λh=>?_,nd⟩,λb hb=>?_⟩⟩ q1
  ·obtain ⟨ob,e1,_⟩:=re.dom l h
   rw [hl] at e1;cases e1
  ·rcases List.mem_cons.mp hb with rfl | hb
   ·exact ⟨p.fr.dom _ hl1,p.sr.nw hl1⟩
   ·exact ⟨p.fr.dom _ (nw b hb),p.sr.nw (nw b hb)⟩
theorem ev_comp {elt iter:Expr} {px:Pos} {scope:Scope} {ifs:List Expr} {ix:List Nat} (h:CompOk X T m elt iter x px scope ifs ix w) (B:BlkScope X.env scope x)
  (hix:∀i∈ix,∃y,X.N[i]? = some y/\scope.names.lookup y=some .free) (hN:(bN X.N x ix).Nodup) (hc:X.calm=true:=by rfl)
  (hs:∀x,foldedSetIterable iter X.env x=pure x:=by intro _;rfl):EV X T m true (.ListComp elt [⟨.Name x px,iter,ifs,0⟩] scope pos) w:=by
 obtain ⟨wi,tt,te,h1,h2,h3,h4⟩:=h
 exact ⟨_,pe_comp ix hc B hix hN h1 h2 h3 hs,h4⟩
theorem sv_comp {elt iter:Expr} {y:Str} {px py spos:Pos} {scope:Scope} {ifs:List Expr} {ix:List Nat} {j:Nat} (h:CompOk X T m elt iter x px scope ifs ix w) (B:BlkScope X.env scope x) (hNd:X.N.Nodup)
  (hix:∀i∈ix,∃y,X.N[i]? = some y/\scope.names.lookup y=some .free) (hN:(bN X.N x ix).Nodup) (hj:X.N[j]? = some y:=by rfl) (hy:Loc X.env.scope y:=by first | exact Or.inl rfl | exact Or.inr rfl) (hio:j∉T.io:=by decide)
  (hsw:swapsWith (.ListComp elt [⟨.Name x px,iter,ifs,0⟩] scope pos) (some (.Name y py)) spos.line X.env=pure true:=by rfl)
  (hf:X.fn y=true\/X.env.scope.names.lookup y=some .local:=by first | exact .inl rfl | exact .inr rfl | assumption) (hc:X.calm=true:=by rfl)
  (hs:∀x,foldedSetIterable iter X.env x=pure x:=by intro _;rfl):SV X T (.Assign [.Name y py] (.ListComp elt [⟨.Name x px,iter,ifs,0⟩] scope pos) spos) (wSet j w):=by
 obtain ⟨wi,tt,te,h1,h2,h3,h4⟩:=h
 exact sv_setC ⟨_,ps_comp ix hc B hNd hj hy hsw hix hN h1 h2 h3 hf hs,h4⟩ hio
end
end PV
namespace PV
open PySem PySem.Spec L2
section
variable {X:Cx} {T:Tg} {m o m0 m1 m2 m3 o1 o2:Bool} {e a b:Expr} {w wa wb we:WE} {pos p2 p:Pos} {es:List Expr} {wr:WA} {x:Str} {wt:WT}
noncomputable abbrev WO:=Env->(Option Int->Env->Prop)->Prop
noncomputable def OV (X:Cx) (T:Tg) (m:Bool) (e:Option Expr) (w:WO):Prop :=
 ∃t,PO X e t/\∀(z:Nat->V) (R:Addr->Prop) (σ:St) (H:Hp) (W:Addr->Prop) (ρ:Env) (Q:Option Int->Env->Prop) (Q':Option Int->Hp->Prop),SR X.K T z R H W σ ρ->w ρ Q ->
  (∀b H' W' ρ',PostT X.K T z R m H W σ ρ H' W' ρ'->Q b ρ'->Q' b H')->t σ H Q'
noncomputable def wNone:WO:=λρ Q=>Q none ρ
noncomputable def wSome (w:WE):WO:=λρ Q=>w ρ λd ρ'=>match d with
 | .int i=>Q (some i) ρ'
 | _=>False
theorem ov_none:OV X T false none wNone:=⟨_,po_none,λz R σ H W ρ Q Q' s hw k=>k none H W ρ ⟨s,FrW.refl H W,λ_=>⟨Same.refl H,rfl,rfl⟩⟩ hw⟩
theorem ov_some (h:EV X T m o e w):OV X T m (some e) (wSome w):=by
 obtain ⟨t,pt,g⟩:=h
 refine ⟨_,po_some pt,λz R σ H W ρ Q Q' s hw k=>g z R σ H W ρ _ _ s hw λv H1 W1 d ρ1 F p q=>?_⟩
 cases d with
 | int i=>exact ⟨i,rep_int p.rep,k (some i) H1 W1 ρ1 ⟨p.sr,p.fr,p.calm⟩ q⟩
 | _=>exact q.elim
noncomputable def cutD (xs:List D) (lo hi:Option Int):List D:=(xs.drop (HT.sIx xs.length 0 lo)).take (HT.sIx xs.length xs.length hi-HT.sIx xs.length 0 lo)
noncomputable def dSl:D->Option Int->Option Int->(D->Prop)->Prop
 | .lst xs,lo,hi,k=>pureL xs=true/\k (.lst (cutD xs lo hi))
 | .kls xs,lo,hi,k=>pureL xs=true/\k (.lst (cutD xs lo hi))
 | .tup xs,lo,hi,k=>pureL xs=true/\¬(HT.sIx xs.length 0 lo=0/\HT.sIx xs.length xs.length hi=xs.length)/\k (.tup (cutD xs lo hi))
 | _,_,_,_=>False
theorem Reps.cut {K:PySem.W.Frag} {H:Hp} {ds:List D} {xs:List V} {lo hi:Option Int} (r:Reps K H ds xs []):Reps K H (cutD ds lo hi) (cutV xs lo hi) []:=by
 unfold cutD cutV
 rw [r.length]
 obtain ⟨G,r1,s1⟩:=r.drop (HT.sIx ds.length 0 lo)
 obtain ⟨G',r2,s2⟩:=r1.take (HT.sIx ds.length ds.length hi-HT.sIx ds.length 0 lo)
 have:=List.sublist_nil.mp s1
 subst this
 have:=List.sublist_nil.mp s2
 subst this
 exact r2
theorem sl_any:SlR X (λx lo hi H Q=>rSlL X.K x lo hi H Q\/rSlT X.K x lo hi H Q):=SlR.or sl_list sl_tup
noncomputable def wSl (w:WE) (wl wh:WO):WE:=λρ Q=>w ρ λd ρ1=>wl ρ1 λlo ρ2=>wh ρ2 λhi ρ3=>dSl d lo hi λd'=>Q d' ρ3
theorem ev_sl {lo hi:Option Expr} {wl wh:WO} (he:EV X T m1 o1 e w) (hl:OV X T m2 lo wl) (hh:OV X T m3 hi wh) (hc:o1=true\/(m2 || m3)=false:=by first | exact .inl rfl | exact .inr rfl) :
  EV X T (m1 || (m2 || m3)) true (.Subscript e (.Slice lo hi none p2) pos) (wSl w wl wh):=by
 obtain ⟨te,pe,ge⟩:=he
 obtain ⟨tl,pl,gl⟩:=hl
 obtain ⟨th,ph,gh⟩:=hh
 refine ⟨_,pe_slice sl_any pe pl ph,λz R σ H W ρ Q Q' s hw k=>?_⟩
 refine ge z R σ H W ρ _ _ s hw λv H1 W1 d ρ1 F p q=>?_
 refine gl z R σ H1 W1 ρ1 _ _ p.sr q λlo H2 W2 ρ2 p2 q2=>?_
 refine gh z R σ H2 W2 ρ2 _ _ p2.sr q2 λhi H3 W3 ρ3 p3 q3=>?_
 have pp:=p2.seq p3
 have r3:Rep X.K H3 d v F:=by
  rcases hc with hc | hc
  ·exact p.rep.keep pp.fr λa h=>((p.own hc).2 a h).2
  ·exact p.rep.same (pp.calm hc).1
 have fin:∀ad d' v' Fn,Fin X.K H3 ad d' v' Fn->Q d' ρ3->Q' v' ad:=λH' d' v' F' fi hq=>by
  refine k v' H' W3 d' ρ3 F' (Post.fin p3.sr (p.fr.trans pp.fr) (λh=>?_) fi.same fi.rep fi.nd fi.new) hq
  rw [Bool.or_eq_false_iff] at h
  obtain ⟨a1,a2,a3⟩:=p.calm h.1
  obtain ⟨b1,b2,b3⟩:=pp.calm h.2
  exact ⟨a1.trans b1,b2.trans a2,b3.trans a3⟩
 match d,r3,q3 with
 | .lst ds,r3,q3 =>
  cases r3 with
  | @lst a xs _ F e1 r9 =>
   obtain ⟨hp,hq⟩:=q3
   obtain ⟨_,r9⟩:=r9.pure hp
   exact .inl ⟨a,xs,rfl,.of e1,λl hl=>fin _ _ _ [l] ⟨same_upd hl,.lst upd_same (r9.cut.same (same_upd hl)),by simp,λb m=>by rw [List.mem_singleton.mp m];exact hl⟩ hq⟩
 | .kls ds,r3,q3 =>
  cases r3 with
  | @kls a xs _ e1 r9 =>
   obtain ⟨hp,hq⟩:=q3
   exact .inl ⟨a,xs,rfl,e1.sq,λl hl=>fin _ _ _ [l] ⟨same_upd hl,.lst upd_same (r9.cut.same (same_upd hl)),by simp,λb m=>by rw [List.mem_singleton.mp m];exact hl⟩ hq⟩
 | .tup ds,r3,q3 =>
  cases r3 with
  | @tup a xs _ F e1 r9 =>
   obtain ⟨hp,hn,hq⟩:=q3
   obtain ⟨_,r9⟩:=r9.pure hp
   refine .inr ⟨a,xs,rfl,.of e1,by rw [r9.length];exact hn,λl hl=>fin _ _ _ [] ⟨same_upd hl,.tup upd_same (r9.cut.same (same_upd hl)),by simp,λb m=>nomatch m⟩ hq⟩
noncomputable def dRange:GA
 | [.int j],k=>0<=j/\j<=1000/\k (.lst (rngD 0 j.toNat))
 | _,_=>False
theorem ev_listRange {p3 p4 pos2:Pos} (hm:X.mg "range" = none) (hm2:X.mg "list" = none) (ha:AV X T m o [a] wr) (hg:Gl X "range":=by rfl) (hg2:Gl X "list":=by rfl) (hc:X.calm=true:=by rfl) (hs:starEach [a] X.env=[(false,eval a X.env)]:=by rfl)
  (hs2:starEach [.Call (.Name "range" p4) [a] [] pos2] X.env=(false,eval (.Call (.Name "range" p4) [a] [] pos2) X.env)::starEach [] X.env:=by rfl) :
  EV X T m true (.Call (.Name "list" p3) [.Call (.Name "range" p4) [a] [] pos2] [] pos) (wCall dRange wr):=by
 obtain ⟨ta,pa,ga⟩:=ha
 refine ⟨_,pe_callTy (call_list_rng hc) hg2 hm2 (by rfl) (pa_cons (pe_range1 hg hm pa hs) pa_nil hs2),λz R σ H W ρ Q Q' s hw k=>?_⟩
 refine ga z R σ H W ρ _ _ s hw λvs H1 W1 ds ρ1 F p q=>?_
 obtain ⟨j,rfl⟩:∃j,ds=[D.int j]:=by
  clear p
  cases ds with
  | nil=>exact (show False from q).elim
  | cons d0 r0 =>
   cases r0 with
   | nil =>
    cases d0 with
    | int j=>exact ⟨j,rfl⟩
    | _=>exact (show False from q).elim
   | cons _ _=>cases d0 <;> exact (show False from q).elim
 obtain ⟨v,rfl,rd⟩:=p.rep.at1
 cases rd
 refine ⟨j,rfl,λr hr=>⟨r,j,rfl,upd_same,q.1,q.2.1,λl hl=>?_⟩⟩
 have s12:Same H1 (upd (upd H1 r (.rng 0 j)) l (.lst ((List.range j.toNat).map λi=>.int (i:Nat)))):=(same_upd hr).trans (same_upd hl)
 refine k _ _ W1 (.lst (rngD 0 j.toNat)) ρ1 [l] (Post.fin p.sr p.fr p.calm s12 (.lst upd_same ?_) (by simp) λb mb=>by rw [List.mem_singleton.mp mb];exact (same_upd hr).free hl) q.2.2
 have e1:rngD 0 j.toNat=((List.range j.toNat).map λ(i:Nat)=>(i:Int)).map D.int:=by simp [rngD]
 have e2:((List.range j.toNat).map λ(i:Nat)=>V.int (i:Nat))=((List.range j.toNat).map λ(i:Nat)=>(i:Int)).map V.int:=by simp
 rw [e1,e2]
 exact Reps.ints _
noncomputable def wVals (w:WE):WL:=λρ Q=>w ρ λd ρ'=>match d with
 | .dik kvs=>Q (kvs.map (·.2)) ρ'
 | _=>False
theorem RepK.get {K:PySem.W.Frag} {H:Hp}:∀{ds:List (Key × D)} {xs:List (Key × V)} {F:List Addr} {i:Nat} {k:Key} {v:V},RepK K H ds xs F->xs[i]? = some (k,v)->∃d B,ds[i]? = some (k,d)/\Rep K H d v B/\B.Sublist F
 | [],_,_,_,_,_,r,h=>by cases r;simp at h
 | d::ds,_,_,i,_,_,r,h=>by
  cases r with
  | @cons j d v _ vs F G p r =>
   cases i with
   | zero =>
    simp at h
    obtain ⟨rfl,rfl⟩:=h
    exact ⟨d,F,rfl,p,List.sublist_append_left _ _⟩
   | succ i =>
    obtain ⟨d',B,h1,h2,h3⟩:=RepK.get r (i:=i) (by simpa using h)
    exact ⟨d',B,by simpa using h1,h2,h3.trans (List.sublist_append_right _ _)⟩
theorem iv_vals {tg oe:Expr} {apos cpos:Pos} (h:EV X T m true oe w) (hbase:attributeBase oe "values" X.env (eval oe X.env)=eval oe X.env:=by rfl) (hline:(apos.endLine == cpos.line)=true:=by rfl):IV X T m true tg (.Call (.Attribute oe "values" apos) [] [] cpos) (wVals w):=by
 obtain ⟨te,pe,ge⟩:=h
 refine ⟨_,pi_vals pe hbase hline,λz R σ H W ρ Q RR s hw k=>?_⟩
 refine ge z R σ H W ρ _ _ s hw λv H1 W1 d ρ1 F p q=>?_
 obtain ⟨es,rfl⟩:∃es,d=D.dik es:=by
  clear p
  cases d with
  | dik es=>exact ⟨es,rfl⟩
  | _=>exact (show False from q).elim
 obtain ⟨p1,p2,p3,p4,p5⟩:=p
 obtain ⟨nd,kF⟩:=p5 rfl
 cases p4 with
 | @dik dd kvs _ F e1 r =>
  have hd0:=kF dd List.mem_cons_self
  obtain ⟨nF,ndF⟩:=List.nodup_cons.mp nd
  refine ⟨dd,kvs,rfl,e1,λob=>k _ _ W1 (es.map (·.2)) ρ1 ⟨?_,?_,λh=>?_⟩ ?_ q⟩
  ·-- the state: nobody's address
   obtain ⟨fp,s1⟩:=p1
   have hi:ImmK H1 (upd H1 dd (.frz ob (.dK kvs))):=imm_upd e1 rfl
   refine ⟨fp,s1.len,λa ha=>?_,λi d hl=>?_,s1.own,s1.ro,s1.wr,λa ha=>?_,s1.dis,s1.fix⟩
   ·have:a≠dd:=λz=>hd0.2 (z ▸ ha)
    rw [upd_ne this];exact s1.wd a ha
   ·obtain ⟨u,h1,h2⟩:=s1.at_ i d hl
    refine ⟨u,h1,h2.frame hi λa ha=>upd_ne λz=>?_⟩
    subst z
    cases hto:T.own i with
    | true=>exact hd0.2 ((s1.own i d hl hto).2 _ ha)
    | false=>exact s.nr hd0.1 (s1.ro i d hl hto _ ha)
   ·have:a≠dd:=λz=>s.nr hd0.1 (z ▸ ha)
    rw [upd_ne this];exact s1.rd a ha
  ·refine ⟨λb u e n=>?_,λb e=>?_,λb u e im=>?_,p2.new⟩
   ·have:b≠dd:=λz=>by rw [z,hd0.1] at e;cases e
    rw [upd_ne this];exact p2.keep b u e n
   ·by_cases hb:b=dd
    ·rw [hb,upd_same] at e;cases e
    ·rw [upd_ne hb] at e;exact p2.dom b e
   ·have:b≠dd:=λz=>by rw [z,hd0.1] at e;cases e
    rw [upd_ne this];exact p2.imm b u e im
  ·obtain ⟨a1,a2,a3⟩:=p3 h
   refine ⟨λb u e=>?_,a2,a3⟩
   have:b≠dd:=λz=>by rw [z,hd0.1] at e;cases e
   rw [upd_ne this];exact a1 b u e
  ·rw [wz_true]
   intro i H2 W2 f
   have e2:H2 dd=some (.frz ob (.dK kvs)):=f.imm _ _ upd_same rfl
   have hlen:kvs.length=es.length:=r.length
   refine ⟨λhi=>⟨e2,by rw [List.length_map] at hi;omega⟩,λd hd=>?_⟩
   have hi:i<es.length:=by have:=(List.getElem?_eq_some_iff.mp hd).1;rwa [List.length_map] at this
   refine ⟨⟨e2,by omega⟩,λv H3 y=>?_⟩
   obtain ⟨rfl,kk,hk⟩:=y
   obtain ⟨d',B,h1,h2,h3⟩:=r.get hk
   rw [List.getElem?_map,h1] at hd
   cases hd
   have hB:∀a∈B,¬W1 a:=λa ha=>(kF a (List.mem_cons_of_mem _ (h3.subset ha))).2
   have hBd:dd∉B:=λhb=>nF (h3.subset hb)
   have h2':=(h2.upd (ob':=.frz ob (.dK kvs)) e1 rfl hBd)
   refine ⟨Same.refl _,B,h2'.keep f hB,λa ha hw=>?_⟩
   rcases f.new a hw with h | h
   ·exact hB a ha h
   ·obtain ⟨ob,e3,_⟩:=h2'.dom a ha
    rw [h] at e3;cases e3
theorem SR0.see {K:PySem.W.Frag} {z:Nat->V} {R:Addr->Prop} {H:Hp} {W:Addr->Prop} {σ:St} {ρ:Env} {fp:Nat->List Addr} {i:Nat} {d:D} {v:V} {F:List Addr} (s:SR0 K T z R H W σ ρ fp) (hio:i∉T.io) (ht:T.own i=false) (r:Rep K H d v F) (nw:∀a∈F,¬W a) :
  SR K T z (λa=>R a\/a∈F) H W (σ.set i (some v)) (ρ.set i (some d)):=by
 refine ⟨λj=>if j=i then F else fp j,?_,s.wd,?_,?_,?_,?_,?_,?_,?_⟩
 ·rw [List.length_set,List.length_set];exact s.len
 ·intro j e hj
  rw [look_set] at hj
  split at hj
  ·rename_i h
   obtain ⟨rfl,hlt⟩:=h
   cases hj
   exact ⟨v,by rw [List.getElem?_set_self (by rw [← s.len];exact hlt)],by rw [if_pos rfl];exact r⟩
  ·rename_i h
   obtain ⟨u,h1,h2⟩:=s.at_ j e hj
   have hji:j≠i:=λz=>h ⟨z,by rw [← z];exact look_lt hj⟩
   exact ⟨u,by rw [List.getElem?_set_ne (Ne.symm hji)];exact h1,by rw [if_neg hji];exact h2⟩
 ·intro j e hj hto
  have hji:j≠i:=λz=>by subst z;rw [ht] at hto;cases hto
  rw [look_set_ne hji] at hj
  simp only [if_neg hji]
  exact s.own j e hj hto
 ·intro j e hj hto
  by_cases hji:j=i
  ·subst hji;simp only [if_pos];exact λa h=>.inr h
  ·rw [look_set_ne hji] at hj
   simp only [if_neg hji]
   exact λa h=>.inl (s.ro j e hj hto a h)
 ·intro a ha hr
  rcases hr with hr | hr
  ·exact s.wr a ha hr
  ·exact nw a hr ha
 ·intro a hr
  rcases hr with hr | hr
  ·exact s.rd a hr
  ·exact r.dom a hr
 ·intro j k e e' hj hk tj tk hne a ha ha'
  have hji:j≠i:=λz=>by subst z;rw [ht] at tj;cases tj
  have hki:k≠i:=λz=>by subst z;rw [ht] at tk;cases tk
  rw [look_set_ne hji] at hj
  rw [look_set_ne hki] at hk
  simp only [if_neg hji] at ha
  simp only [if_neg hki] at ha'
  exact s.dis j k e e' hj hk tj tk hne a ha ha'
 ·intro j hj
  have hji:j≠i:=λz=>hio (z ▸ hj)
  rw [List.getElem?_set_ne (Ne.symm hji)]
  exact s.fix j hj
noncomputable def wForR (wl:WL) (i₀:Nat) (wb:WS):WS:=λP ρ=>wl ρ λds ρ1=>∃I:Nat->Env->Prop,I 0 ρ1 /\
 (∀i d ρ,ds[i]? = some d->I i ρ->wb { P with nx:=I (i+1),ct:=I (i+1),bk:=P.nx } (ρ.set i₀ (some d)))/\∀ρ,I ds.length ρ->P.nx ρ
theorem sv_forR {iter:Expr} {body:List Stmt} {wl:WL} {ws:WS} {i₀:Nat} (hp:PassesOwn (model X.prog X.w) X.A X.env X.xe) (hi:IV X T m true (.Name x p) iter wl) (hb:SVs X T body ws) (hN:X.N.Nodup) (hi₀:X.N[i₀]? = some x:=by rfl) (ht:T.own i₀=false:=by rfl) (hio:i₀∉T.io:=by decide)
  (hx:Loc X.env.scope x:=by first | exact Or.inl rfl | exact Or.inr rfl) (hf:X.fn x=true\/X.env.scope.names.lookup x=some .local:=by first | exact .inl rfl | exact .inr rfl | assumption) (hc:X.calm=true:=by rfl)
  (hs:∀x,foldedSetIterable iter X.env x=pure x:=by intro _;rfl):SV X T (.For (.Name x p) iter body [] pos) (wForR wl i₀ ws):=by
 obtain ⟨ti,pi,gi⟩:=hi
 obtain ⟨tb,pb,gb⟩:=hb
 refine ⟨_,ps_for hp hc pi (pg_name hN hi₀ hx hf) pb hs,λz R σ H W ρ P E s hw l=>gi z R σ H W ρ _ _ s hw λJ H1 W1 ds ρ1 p jd q=>?_⟩
 rw [wz_true] at jd
 obtain ⟨I,h0,hI,hd⟩:=q
 refine ⟨λi n σ' H'=>n=ds.length-i/\i<=ds.length/\∃R' W' ρ',SR X.K T z R' H' W' σ' ρ'/\FrW H1 W1 H' W'/\I i ρ',⟨ds.length,by simp,Nat.zero_le _,R,W1,ρ1,p.sr,FrW.refl _ _,h0⟩,?_⟩
 rintro i n σ2 H2 ⟨rfl,hi,R2,W2,ρ2,s2,f2,i2⟩
 obtain ⟨j1,j2⟩:=jd i H2 W2 f2
 by_cases hlt:i<ds.length
 ·have hdi:ds[i]? = some ds[i]:=List.getElem?_eq_getElem hlt
  obtain ⟨hgo,hy⟩:=j2 _ hdi
  refine .inr ⟨hgo,λσ' H'=>i+1<=ds.length/\∃R' W' ρ',SR X.K T z R' H' W' σ' ρ'/\FrW H1 W1 H' W'/\I (i+1) ρ',λσ' H' ⟨h1,h2⟩=>⟨ds.length-(i+1),by omega,rfl,h1,h2⟩,λv H3 yl=>?_⟩
  obtain ⟨sm,F,rv,nw⟩:=hy v H3 yl
  have f3:FrW H1 W1 H3 W2:=f2.trans (FrW.same W2 sm)
  obtain ⟨fp,s3⟩:=s2.same sm
  refine gb z _ _ H3 W2 _ _ _ (s3.see hio ht rv nw) (hI i _ ρ2 hdi i2) ⟨?_,?_,?_,?_,?_⟩
  ·exact λR' σ' H' W' ρ' s' f' h=>⟨hlt,R',W',ρ',s',f3.trans f',h⟩
  ·exact λR' σ' H' W' ρ' s' f' h=>l.nx R' σ' H' W' ρ' s' ((p.fr.trans f3).trans f') h
  ·exact λR' σ' H' W' ρ' s' f' h=>⟨hlt,R',W',ρ',s',f3.trans f',h⟩
  ·exact ((l.step p.fr).step f3).rt
  ·exact ((l.step p.fr).step f3).xc
 ·have e:i=ds.length:=by omega
  subst e
  exact .inl ⟨j1 (Nat.le_refl _),l.nx R2 σ2 H2 W2 ρ2 s2 (p.fr.trans f2) (hd ρ2 i2)⟩
end
end PV
namespace PV
open PySem PySem.Spec L2
section
variable {κ:Type} [DecidableEq κ]
theorem putD_ne {j k:κ} {d y:D} {r:List (κ × D)} (h:¬j=k):putD ((j,d)::r) k y=(j,d)::putD r k y:=by
 unfold putD
 by_cases q:(r.any λkv=>decide (kv.1=k))=true
 ·rw [if_pos (by rw [List.any_cons,q];simp),if_pos q,List.map_cons,if_neg h]
 ·rw [if_neg (by rw [List.any_cons];simp only [h,decide_false,Bool.false_or];exact q),if_neg q];rfl
theorem map_none {k:κ} {y:D}:∀{r:List (κ × D)},k∉r.map (·.1)->(r.map λkv=>if kv.1=k then (kv.1,y) else kv)=r
 | [],_=>rfl
 | p::r,h=>by
  simp only [List.map_cons,List.mem_cons,not_or] at h
  rw [List.map_cons,if_neg (λz=>h.1 z.symm),map_none h.2]
theorem putD_hd {k:κ} {d y:D} {r:List (κ × D)} (h:k∉r.map (·.1)):putD ((k,d)::r) k y=(k,y)::r:=by
 unfold putD
 rw [if_pos (by rw [List.any_cons];simp),List.map_cons,if_pos rfl,map_none h]
end
section
variable {K:PySem.W.Frag} {H:Hp}
theorem RepK.app {k:Key} {xs:List D}:∀{ds:List (Key × D)} {kvs:List (Key × V)} {F:List Addr},RepK K H ds kvs F->F.Nodup->(ds.map (·.1)).Nodup->valD ds k=some (.lst xs) ->
  ∃l ys,valV kvs k=some (.ref l)/\H l=some (.lst ys)/\l∈F/\ys.length=xs.length/\∀v x,Rep K H x v []->RepK K (L2.upd H l (.lst (ys++[v]))) (putD ds k (.lst (xs++[x]))) kvs F
 | [],_,_,r,_,_,h=>by cases h
 | (j,d)::ds,_,_,r,nd,hk,h=>by
  cases r with
  | @cons _ _ v _ vs F G p r =>
   obtain ⟨n1,n2,n3⟩:=List.nodup_append.mp nd
   obtain ⟨k1,k2⟩:=List.nodup_cons.mp (show (j::ds.map (·.1)).Nodup from hk)
   rw [valD_cons] at h
   by_cases e:j=k
   ·subst e
    rw [if_pos rfl] at h
    cases h
    cases p with
    | @lst l ys _ F0 e1 r1 =>
     obtain ⟨nl,n0⟩:=List.nodup_cons.mp n1
     refine ⟨l,ys,valV_pos rfl,e1,List.mem_append.mpr (.inl List.mem_cons_self),r1.length,λv x rx=>?_⟩
     rw [putD_hd k1]
     refine .cons (.lst upd_same ?_) (r.upd e1 rfl λh=>n3 l List.mem_cons_self l h rfl)
     have:=(r1.upd (ob':=.lst (ys++[v])) e1 rfl nl).snoc (rx.upd e1 rfl (λh=>nomatch h))
     simpa using this
   ·rw [if_neg e] at h
    obtain ⟨l,ys,h1,h2,h3,h4,h5⟩:=RepK.app r n2 k2 h
    refine ⟨l,ys,by rw [valV_neg e];exact h1,h2,List.mem_append.mpr (.inr h3),h4,λv x rx=>?_⟩
    rw [putD_ne e]
    exact .cons (p.upd h2 rfl λh=>n3 l h l h3 rfl) (h5 v x rx)
end
section
variable {X:Cx} {T:Tg} {m o m0 m1 m2 m3 o1 o2:Bool} {e a b:Expr} {w wa wb we:WE} {pos p2 p:Pos} {es:List Expr} {wr:WA} {x:Str} {wt:WT}
noncomputable def keyOf:D->Option Key
 | .int i=>some (.inl i)
 | .str i=>some (.inr i)
 | _=>none
theorem Rep.key {K:PySem.W.Frag} {H:Hp} {d:D} {v:V} {F:List Addr} {k:Key} (r:Rep K H d v F) (h:keyOf d=some k):v=kV k:=by
 cases r <;> simp [keyOf] at h <;> subst h <;> rfl
noncomputable def sdNew (kvs:List (Key × D)) (k:Key):List (Key × D):=if (valD kvs k).isNone then kvs++[(k,.lst [])] else kvs
noncomputable def wSda (i:Nat) (wk wv:WE):WS:=λP ρ=>oget (look ρ i) λs=>match s with
 | .dik kvs=>kvs.length<sizeLine/\(kvs.map (·.1)).Nodup/\wk ρ λkd _=>oget (keyOf kd) λk=>oget (valD (sdNew kvs k) k) λl=>match l with
  | .lst xs=>xs.length<sizeLine/\wv (ρ.set i (some (.dik (sdNew kvs k)))) λd _=>d.pure=true/\P.nx (ρ.set i (some (.dik (putD (sdNew kvs k) k (.lst (xs++[d]))))))
  | _=>False
 | _=>False
theorem set_self:∀{ρ:Env} {i:Nat} {d:D},look ρ i=some d->ρ.set i (some d)=ρ
 | [],_,_,h=>by simp [look] at h
 | a::r,0,d,h=>by simp only [look] at h;rw [h];rfl
 | a::r,i+1,d,h=>by simp only [List.set_cons_succ];rw [set_self (ρ:=r) (i:=i) h]
theorem nd_key {κ:Type} [DecidableEq κ] {kvs:List (κ × D)} {k:κ} {d:D} (h:(kvs.map (·.1)).Nodup) (hn:valD kvs k=none):((kvs++[(k,d)]).map (·.1)).Nodup:=by
 rw [List.map_append]
 refine List.nodup_append.mpr ⟨h,by simp,λa ha b hb e=>?_⟩
 have hb':b=k:=by simpa using hb
 subst e hb'
 obtain ⟨q,hq,e⟩:=List.mem_map.mp ha
 have:(kvs.any λkv=>decide (kv.1=a))=true:=List.any_eq_true.mpr ⟨q,hq,decide_eq_true e⟩
 rw [anyD_iff,hn] at this
 cases this
theorem sv_sda {i:Nat} {ek ev:Expr} {wk wv:WE} {ap1 ap2 cp1 cp2 pl:Pos} (hk:EV X T false o1 ek wk) (hv:EV X T false o2 ev wv) (ht:T.own i=true:=by rfl) (hN:X.N[i]? = some x:=by rfl)
  (hvis:Vis X.env.scope x:=by first | exact Or.inl rfl | exact Or.inr (Or.inl rfl) | exact Or.inr (Or.inr rfl)) (hd:(x == ("__debug__" : Str))=false:=by decide) (hcd:(x == ("__classdict__" : Str))=false:=by decide)
  (b1:attributeBase (.Name x p) "setdefault" X.env (eval (.Name x p) X.env)=eval (.Name x p) X.env:=by rfl)
  (f1:((backTo cp1 (starEach [ek,.List [] pl] X.env)).all (λx=>!x.1) && (backToKw cp1 (keywordEach [] X.env)).all (λx=>x.1.isSome)
   && decide (([ek,.List [] pl]:List Expr).length+([]:List Keyword).length+(if ([]:List Keyword).isEmpty then 0 else 1)<30))=true:=by rfl)
  (l1:(ap1.endLine == cp1.line)=true:=by rfl) (s1:starEach [ek,.List [] pl] X.env=(false,eval ek X.env)::starEach [.List [] pl] X.env:=by rfl) (s1':starEach [.List [] pl] X.env=(false,eval (.List [] pl) X.env)::starEach [] X.env:=by rfl) (q1:(backTo cp1 (starEach [.List [] pl] X.env)).any (·.1)=false:=by rfl)
  (b2:attributeBase (.Call (.Attribute (.Name x p) "setdefault" ap1) [ek,.List [] pl] [] cp1) "append" X.env (eval (.Call (.Attribute (.Name x p) "setdefault" ap1) [ek,.List [] pl] [] cp1) X.env)=eval (.Call (.Attribute (.Name x p) "setdefault" ap1) [ek,.List [] pl] [] cp1) X.env:=by rfl)
  (f2:((backTo cp2 (starEach [ev] X.env)).all (λx=>!x.1) && (backToKw cp2 (keywordEach [] X.env)).all (λx=>x.1.isSome)
   && decide (([ev]:List Expr).length+([]:List Keyword).length+(if ([]:List Keyword).isEmpty then 0 else 1)<30))=true:=by rfl)
  (l2:(ap2.endLine == cp2.line)=true:=by rfl) (s2:starEach [ev] X.env=(false,eval ev X.env)::starEach [] X.env:=by rfl) (q2:(backTo cp2 (starEach [] X.env)).any (·.1)=false:=by rfl)
  (hs:swapsWith (.Call (.Attribute (.Call (.Attribute (.Name x p) "setdefault" ap1) [ek,.List [] pl] [] cp1) "append" ap2) [ev] [] cp2) none pos.line X.env=pure false:=by rfl) :
  SV X T (.Expr (.Call (.Attribute (.Call (.Attribute (.Name x p) "setdefault" ap1) [ek,.List [] pl] [] cp1) "append" ap2) [ev] [] cp2) pos) (wSda i wk wv):=by
 obtain ⟨tk,pk,gk⟩:=hk
 obtain ⟨tv,pv,gv⟩:=hv
 refine ⟨_,ps_expr (pe_bm PySem.F.plainAttrs_list PySem.F.slot_list_append PySem.F.type_list_append mt_append (pe_bm PySem.F.plainAttrs_dict PySem.F.slot_dict_setdefault PySem.F.type_dict_setdefault mt_setdefault (pe_var hN hvis hd hcd) (pa_cons pk (pa_cons (pe_lst pa_nil) pa_nil s1') s1) b1 f1 l1 s1 q1) (pa_cons pv pa_nil s2) b2 f2 l2 s2 q2) hs,λz R σ H W ρ P E s hw l=>?_⟩
 obtain ⟨sd,hl0,hw⟩:=oget_some hw
 obtain ⟨kvs,rfl⟩:∃kvs,sd=D.dik kvs:=by
  clear hl0
  cases sd with
  | dik kvs=>exact ⟨kvs,rfl⟩
  | _=>exact (show False from hw).elim
 obtain ⟨hz,hnd,hw⟩:=hw
 obtain ⟨fp,s0⟩:=id s
 obtain ⟨v0,hv0,r0⟩:=s0.at_ i _ hl0
 refine ⟨v0,hv0,tyV_of r0 (t:="dict") rfl,?_⟩
 refine gk z R σ H W ρ _ _ s hw λvk H1 W1 kd ρ1 Fk p q=>?_
 obtain ⟨sm1,hW1,hρ1⟩:=p.calm rfl
 subst hW1 hρ1
 obtain ⟨k,hkey,q⟩:=oget_some q
 have ek:=p.rep.key hkey
 subst ek
 obtain ⟨ld,hval,q⟩:=oget_some q
 obtain ⟨xs,rfl⟩:∃xs,ld=D.lst xs:=by
  clear hval
  cases ld with
  | lst xs=>exact ⟨xs,rfl⟩
  | _=>exact (show False from q).elim
 obtain ⟨hxz,q⟩:=q
 -- what is to be done with the list that comes
 have fin:∀(Hs:Hp) (Ws:Addr->Prop) (y:V),SR X.K T z R Hs Ws σ (ρ1.set i (some (.dik (sdNew kvs k))))->FrW H W1 Hs Ws->((sdNew kvs k).map (·.1)).Nodup->(∀a kv,v0=.ref a->Hs a=some (.dK kv)->valV kv k=some y) ->
   tyV X.K "list" y Hs/\tCons tv tNil σ Hs λxs H2=>rAppend y xs H2 λ_ H1=>E.nx σ H1:=λHs Ws y ss fs hns hy=>by
  obtain ⟨fpS,sS⟩:=id ss
  have hlS:look (ρ1.set i (some (.dik (sdNew kvs k)))) i=some (.dik (sdNew kvs k)):=look_set_same (look_lt hl0)
  obtain ⟨vS,hvS,rS⟩:=sS.at_ i _ hlS
  have:vS=v0:=by rw [hv0] at hvS;cases hvS;rfl
  subst this
  obtain ⟨ndS,swS⟩:=sS.own i _ hlS ht
  have app:∃(l:Addr) (ys:List V) (a:Addr) (kvS:List (Key × V)),y=.ref l/\Hs l=some (.lst ys)/\vS=.ref a/\Hs a=some (.dK kvS):=by
   generalize fpS i=Fi at rS ndS
   cases rS with
   | @dik a kv _ F e1 r =>
    obtain ⟨na,nF⟩:=List.nodup_cons.mp ndS
    obtain ⟨l,ys,h1,h2,_⟩:=r.app nF hns hval
    have:=hy a kv rfl e1
    rw [h1] at this
    cases this
    exact ⟨l,ys,a,kv,rfl,h2,rfl,e1⟩
  obtain ⟨l0,ys0,aS,kvS,rfl,hl0',rfl,eS⟩:=app
  refine ⟨.inl ⟨rfl,_,.of hl0'⟩,?_⟩
  refine gv z R σ Hs Ws _ _ _ ss q λvd H2 W2 d ρ2 Fd pd ⟨hp,qn⟩=>?_
  obtain ⟨sm2,hW2,hρ2⟩:=pd.calm rfl
  subst hW2 hρ2
  obtain ⟨_,rd⟩:=pd.rep.pure hp
  obtain ⟨fp2,s2⟩:=id pd.sr
  obtain ⟨v2,hv2,r2⟩:=s2.at_ i _ hlS
  have:v2=.ref aS:=by rw [hvS] at hv2;cases hv2;rfl
  subst this
  obtain ⟨nd2,sw2⟩:=s2.own i _ hlS ht
  have h2l:H2 l0=some (.lst ys0):=sm2 _ _ hl0'
  have fin2:∃(ys:List V) (F':List Addr),H2 l0=some (.lst ys)/\ys.length=xs.length/\l0∈fp2 i/\Rep X.K (upd H2 l0 (.lst (ys++[vd]))) (.dik (putD (sdNew kvs k) k (.lst (xs++[d])))) (.ref aS) F'/\F'=fp2 i:=by
   generalize fp2 i=Fi at r2 nd2
   cases r2 with
   | @dik a kv _ F e1 r =>
    obtain ⟨na,nF⟩:=List.nodup_cons.mp nd2
    obtain ⟨l,ys,h1,h2,h3,h4,h5⟩:=r.app nF hns hval
    have hkv:kv=kvS:=by
     have:=sm2 _ _ eS
     rw [e1] at this
     cases this
     rfl
    subst hkv
    have:=hy aS kv rfl eS
    rw [h1] at this
    cases this
    have hne:aS≠l0:=λz=>na (z ▸ h3)
    exact ⟨ys,_,h2,h4,List.mem_cons_of_mem _ h3,.dik (by rw [upd_ne hne];exact e1) (h5 vd d rd),rfl⟩
  obtain ⟨ys,F',h1,h2,h3,h4,rfl⟩:=fin2
  refine ⟨l0,ys,vd,rfl,rfl,h1,by rw [h2];exact hxz,?_⟩
  have hWl:=sw2 l0 h3
  have sF:=s2.write hlS ht hv2 h3 upd_keep ⟨_,upd_same,rfl⟩ h4 nd2 (λa ha=>.inl ha)
  have fF:=(fs.trans pd.fr).write hWl (s2.wd l0 hWl) (H':=upd H2 l0 (.lst (ys++[vd]))) upd_keep ⟨_,upd_same,rfl⟩ (F':=fp2 i) (λa ha=>.inl (sw2 a ha))
  rw [List.set_set] at sF
  exact l.nx R σ _ _ _ sF fF qn
 refine ⟨Nat.zero_le _,λpn hpn=>?_⟩
 have smn:Same H1 (upd H1 pn (.lst [])):=same_upd hpn
 have sn:=p.sr.same smn
 have fn1:FrW H W1 (upd H1 pn (.lst [])) W1:=p.fr.trans (FrW.same W1 smn)
 obtain ⟨fp1,s1⟩:=id sn
 obtain ⟨v1,hv1,r1⟩:=s1.at_ i _ hl0
 have:v1=v0:=by rw [hv0] at hv1;cases hv1;rfl
 subst this
 obtain ⟨nd1,sw1⟩:=s1.own i _ hl0 ht
 have hpnW:¬W1 pn:=p.sr.nw hpn
 have hpnR:¬R pn:=p.sr.nr hpn
 have hpn0:H pn=none:=sm1.free hpn
 have rep1:∃(a:Addr) (kv:List (Key × V)) (F:List Addr),v1=.ref a/\upd H1 pn (.lst []) a=some (.dK kv)/\RepK X.K (upd H1 pn (.lst [])) kvs kv F/\fp1 i=a::F:=by
  generalize fp1 i=Fi at r1
  cases r1 with
  | @dik a kv _ F e1 r=>exact ⟨a,kv,F,rfl,e1,r,rfl⟩
 obtain ⟨a,kv,F,rfl,e1,r,hfp⟩:=rep1
 rw [hfp] at nd1 sw1
 obtain ⟨na,nF⟩:=List.nodup_cons.mp nd1
 refine ⟨a,kv,k,.ref pn,rfl,rfl,e1,by rw [r.length];exact hz,λy hy=>?_,λhn=>?_⟩
 ·have hs:(valD kvs k).isNone=false:=by
   rcases r.val k with ⟨_,h2⟩ | ⟨d,v,B,h1,_⟩
   ·rw [hy] at h2;cases h2
   ·rw [h1];rfl
  have e2:sdNew kvs k=kvs:=by unfold sdNew;rw [hs];rfl
  refine fin _ W1 y ?_ fn1 (by rw [e2];exact hnd) λa' kv' ea ha=>?_
  ·rw [e2,set_self hl0];exact sn
  ·cases ea
   rw [e1] at ha
   cases ha
   exact hy
 ·have hs:valD kvs k=none:=by
   rcases r.val k with ⟨h1,_⟩ | ⟨d,v,B,_,h2,_⟩
   ·exact h1
   ·rw [hn] at h2;cases h2
  have e2:sdNew kvs k=kvs++[(k,.lst [])]:=by unfold sdNew;rw [hs];rfl
  have hapn:a≠pn:=λz=>hpnW (z ▸ sw1 a List.mem_cons_self)
  have hput:=putK_new (V.ref pn) hn
  have rN:Rep X.K (upd (upd H1 pn (.lst [])) a (.dK (putK kv k (.ref pn)))) (.dik (sdNew kvs k)) (.ref a) (a::(F++[pn])):=by
   rw [e2,hput]
   refine .dik upd_same ((r.upd e1 rfl na).append ?_)
   have:Rep X.K (upd (upd H1 pn (.lst [])) a (.dK (kv++[(k,.ref pn)]))) (.lst []) (.ref pn) [pn]:=.lst (by rw [upd_ne (Ne.symm hapn),upd_same]) .nil
   have:=RepK.cons (k:=k) this .nil
   simpa using this
  have ndN:(a::(F++[pn])).Nodup:=by
   refine List.nodup_cons.mpr ⟨λh=>?_,nodup_ins nF (by simp) λb hb hf=>?_⟩
   ·rcases List.mem_append.mp h with h | h
    ·exact na h
    ·exact hapn (List.mem_singleton.mp h)
   ·rw [List.mem_singleton.mp hb] at hf
    exact hpnW (sw1 pn (List.mem_cons_of_mem _ hf))
  have hWa:=sw1 a List.mem_cons_self
  have sN:=s1.write hl0 ht hv1 (by rw [hfp];exact List.mem_cons_self) upd_keep ⟨_,upd_same,rfl⟩ rN ndN (λb hb=>by
   rcases List.mem_cons.mp hb with rfl | hb
   ·exact .inl (by rw [hfp];exact List.mem_cons_self)
   ·rcases List.mem_append.mp hb with hb | hb
    ·exact .inl (by rw [hfp];exact List.mem_cons_of_mem _ hb)
    ·rw [List.mem_singleton.mp hb];exact .inr ⟨hpnW,hpnR⟩)
  have fN:=fn1.write (H':=upd (upd H1 pn (.lst [])) a (.dK (putK kv k (.ref pn)))) (F':=a::(F++[pn])) hWa (s1.wd a hWa) upd_keep ⟨_,upd_same,rfl⟩ (λb hb=>by
   rcases List.mem_cons.mp hb with rfl | hb
   ·exact .inl hWa
   ·rcases List.mem_append.mp hb with hb | hb
    ·exact .inl (sw1 b (List.mem_cons_of_mem _ hb))
    ·rw [List.mem_singleton.mp hb];exact .inr hpn0)
  refine fin _ _ (.ref pn) sN fN (by rw [e2];exact nd_key hnd hs) λa' kv' ea ha=>?_
  cases ea
  rw [upd_same] at ha
  cases ha
  rw [valV_put,if_pos rfl]
end
end PV
namespace PV
open PySem PySem.Spec L2
section
variable {X:Cx} {T:Tg} {m o m0 m1 m2 m3 o1 o2:Bool} {e a b:Expr} {w wa wb we:WE} {pos p2 p:Pos} {es:List Expr} {wr:WA} {x:Str} {wt:WT}
noncomputable abbrev tupI (k:List Int):D:=.tup (k.map .int)
theorem Reps.tups {K:PySem.W.Frag} {H:Hp}:∀{keys:List (List Int)} {ys:List V} {F:List Addr},Reps K H (keys.map tupI) ys F->F=[]/\∃as:List Addr,ys=as.map V.ref/\as.length=keys.length/\∀(i:Nat) k,keys[i]? = some k->∃a,as[i]? = some a/\H a=some (.tup (k.map V.int))
 | [],_,_,r=>by cases r;exact ⟨rfl,[],rfl,rfl,λi k h=>by simp at h⟩
 | k::keys,_,_,r=>by
  cases r with
  | cons p r =>
   obtain ⟨hF,as,h1,h2,h3⟩:=Reps.tups r
   cases p with
   | @tup a xs _ F e q =>
    obtain ⟨h4,h5⟩:=q.of_ints
    subst h4 h5 h1
    refine ⟨by rw [hF];rfl,a::as,rfl,by simp [h2],λi k' hk=>?_⟩
    cases i with
    | zero=>simp at hk;subst hk;exact ⟨a,rfl,e⟩
    | succ i=>simpa using h3 i k' (by simpa using hk)
theorem Reps.of_tups {K:PySem.W.Frag} {H:Hp}:∀{keys:List (List Int)} {as:List Addr},as.length=keys.length->(∀(i:Nat) k a,keys[i]? = some k->as[i]? = some a->H a=some (.tup (k.map V.int)))->Reps K H (keys.map tupI) (as.map V.ref) []
 | [],[],_,_=>.nil
 | k::keys,a::as,hl,h=>.cons (F:=[]) (G:=[]) (.tup (h 0 k a rfl rfl) (Reps.ints k)) (Reps.of_tups (by simpa using hl) λi k' a' h1 h2=>h (i+1) k' a' (by simpa using h1) (by simpa using h2))
variable {rest:List Expr}
theorem Post.after {K:PySem.W.Frag} {z:Nat->V} {R:Addr->Prop} {H H1 H2:Hp} {W W1 W2:Addr->Prop} {σ:St} {ρ ρ1 ρ2:Env} {d1 d2:D} {v1 v2:V} {F1 F2:List Addr} (p:Post K T z R m1 o1 H W σ ρ H1 W1 ρ1 d1 v1 F1) (q:Post K T z R m2 o2 H1 W1 σ ρ1 H2 W2 ρ2 d2 v2 F2) :
  Post K T z R (m1 || m2) o2 H W σ ρ H2 W2 ρ2 d2 v2 F2:=⟨q.sr,p.fr.trans q.fr,p.calm2 q,q.rep,p.lastOwn q⟩
end
end PV
namespace PV
open PySem PySem.Spec L2
theorem bt_sorted:bootBuiltins "sorted" = some (.builtin "sorted"):=by decide +kernel
theorem bt_isinstance:bootBuiltins "isinstance" = some (.builtin "isinstance"):=by decide +kernel
theorem bt_min:bootBuiltins "min" = some (.builtin "min"):=by decide +kernel
theorem bt_len:bootBuiltins "len" = some (.builtin "len"):=by decide +kernel
theorem bt_int:bootBuiltins "int" = some (.type "int"):=by decide +kernel
theorem bt_bool:bootBuiltins "bool" = some (.type "bool"):=by decide +kernel
theorem bt_list:bootBuiltins "list" = some (.type "list"):=by decide +kernel
theorem bt_tuple:bootBuiltins "tuple" = some (.type "tuple"):=by decide +kernel
noncomputable def wLift (w:WE):WE:=λρ Q=>w ρ λd ρ'=>d.pure=true/\Q d ρ'
noncomputable def Cal (P:Program) (w:World) (K:PySem.W.Frag) (mg:Str->Option Value) (base:Heap) (x:Str) (k:Nat) (ps:List Str) (sp:Sp):Prop :=
 ∃f fd,FnOk P w K mg base CX0 k f fd ps sp/\mg x=some (.ref f)/\PySem.W.keepIn K (.ref f)=true/\Binds K fd ps []
section
variable {X:Cx} {T:Tg} {m o m0 m1 m2 m3 o1 o2:Bool} {e a b:Expr} {w wa wb we:WE} {pos p2 p:Pos} {es:List Expr} {wr:WA} {x:Str} {wt:WT} {k j:Nat} {ps:List Str}
theorem ev_lift (h:EV X T m o e w):EV X T m true e (wLift w):=h.lift
theorem ev_callC {g:GA} (C:Cal X.prog X.w X.K X.mg X.base x k ps (spR X.K g)) (hr:Room k X.A) (ha:AV X T m o (e::es) wr) (hg:Gl X x:=by rfl)
  (hdb:(x == ("__debug__" : Str))=false:=by decide) (he:starEach (e::es) X.env=(false,eval e X.env)::starEach es X.env:=by rfl) (hpl:(backTo pos (starEach es X.env)).any (·.1)=false:=by rfl) :
  EV X T m true (.Call (.Name x p) (e::es) [] pos) (wCall g wr):=by
 obtain ⟨f,fd,F,h1,h2,h3⟩:=C
 exact ev_call F hr h1 h2 h3 ha hg hdb he hpl
theorem ev_callIC {i q:Nat} {g:GI} {wi:WI} (C:Cal X.prog X.w X.K X.mg X.base x k ps (spI X.K q g)) (hr:Room k X.A) (ha:AI X T m i q (e::es) wi) (ht:T.own i=true:=by rfl) (hg:Gl X x:=by rfl)
  (hdb:(x == ("__debug__" : Str))=false:=by decide) (he:starEach (e::es) X.env=(false,eval e X.env)::starEach es X.env:=by rfl) (hpl:(backTo pos (starEach es X.env)).any (·.1)=false:=by rfl) :
  EV X T true true (.Call (.Name x p) (e::es) [] pos) (wCallI i g wi):=by
 obtain ⟨f,fd,F,h1,h2,h3⟩:=C
 exact ev_callI F hr h1 h2 h3 ha ht hg hdb he hpl
noncomputable def compB (sc scope:Scope) (N:List Str) (x:Str) (ix:List Nat):Bool :=
 (scope.kind == .function) && scope.names.all (λy=>y.2 != .cell) && scope.names.all (λy=>y.2 != .local || scope.names.lookup y.1 == some .local) && (scope.names.lookup x == some .local) &&
  scope.names.all (λy=>y.2 != .free || (sc.names.lookup y.1 == some .cell || sc.names.lookup y.1 == some .free)) &&
  ix.all (λi=>match N[i]? with | some y=>scope.names.lookup y == some .free | none=>false) && decide (bN N x ix).Nodup
structure CompB (X:Cx) (scope:Scope) (x:Str) (ix:List Nat):Prop where
 B:BlkScope X.env scope x
 hix:∀i∈ix,∃y,X.N[i]? = some y/\scope.names.lookup y=some .free
 hN:(bN X.N x ix).Nodup
theorem compB_mk {scope:Scope} {ix:List Nat} (sc:Scope) (N:List Str) (h:compB sc scope N x ix=true) (h1:X.env.scope=sc:=by rfl) (h2:X.N=N:=by rfl):CompB X scope x ix:=by
 subst h1 h2
 simp only [compB,Bool.and_eq_true,List.all_eq_true,Bool.or_eq_true,decide_eq_true_eq,beq_iff_eq,bne_iff_ne] at h
 obtain ⟨⟨⟨⟨⟨⟨a1,a2⟩,a3⟩,a4⟩,a5⟩,a6⟩,a7⟩:=h
 refine ⟨⟨a1,a2,λy hy e=>(a3 y hy).resolve_left (λz=>z e),a4,λy hy e=>(a5 y hy).resolve_left (λz=>z e)⟩,λi hi=>?_,a7⟩
 have:=a6 i hi
 cases q:X.N[i]? with
 | none=>rw [q] at this;cases this
 | some y =>
  rw [q] at this
  exact ⟨y,rfl,by simpa using this⟩
theorem ev_compB {elt iter:Expr} {px:Pos} {scope:Scope} {ifs:List Expr} {ix:List Nat} (h:CompOk X T m elt iter x px scope ifs ix w) (B:CompB X scope x ix) (hc:X.calm=true:=by rfl)
  (hs:∀x,foldedSetIterable iter X.env x=pure x:=by intro _;rfl):EV X T m true (.ListComp elt [⟨.Name x px,iter,ifs,0⟩] scope pos) w:=ev_comp h B.B B.hix B.hN hc hs
theorem sv_compB {elt iter:Expr} {y:Str} {px py spos:Pos} {scope:Scope} {ifs:List Expr} {ix:List Nat} {j:Nat} (h:CompOk X T m elt iter x px scope ifs ix w) (B:CompB X scope x ix) (hNd:X.N.Nodup)
  (hj:X.N[j]? = some y:=by rfl) (hy:Loc X.env.scope y:=by first | exact Or.inl rfl | exact Or.inr rfl) (hio:j∉T.io:=by decide)
  (hsw:swapsWith (.ListComp elt [⟨.Name x px,iter,ifs,0⟩] scope pos) (some (.Name y py)) spos.line X.env=pure true:=by rfl)
  (hf:X.fn y=true\/X.env.scope.names.lookup y=some .local:=by first | exact .inl rfl | exact .inr rfl | assumption) (hc:X.calm=true:=by rfl)
  (hs:∀x,foldedSetIterable iter X.env x=pure x:=by intro _;rfl):SV X T (.Assign [.Name y py] (.ListComp elt [⟨.Name x px,iter,ifs,0⟩] scope pos) spos) (wSet j w):=sv_comp h B.B hNd B.hix B.hN hj hy hio hsw hf hc hs
end
end PV
namespace PV
open PySem PySem.Spec L2
section
variable {X:Cx} {T:Tg} {m o m0 m1 m2 m3 o1 o2:Bool} {e a b:Expr} {w wa wb we:WE} {pos p2 p:Pos} {es:List Expr} {wr:WA} {x y:Str} {wt:WT} {ws:WS}
end
end PV
namespace PV
open PySem PySem.Spec L2
section
variable {X:Cx} {T:Tg} {m o m0 m1 m2 m3 o1 o2:Bool} {e a b:Expr} {w wa wb we:WE} {pos p2 p:Pos} {es:List Expr} {wr:WA} {x y:Str} {wt:WT} {ws:WS}
end
end PV
namespace PV
open PySem PySem.Spec L2
open PySem.W (Dat kqdP kqdPs kqdOk)
section
variable {X:Cx}
end
end PV
namespace PV
open PySem PySem.Spec L2
section
variable {X:Cx} {T:Tg} {m o m0 m1 m2 m3 o1 o2:Bool} {e a b:Expr} {w wa wb we:WE} {pos p2 p:Pos} {es:List Expr} {wr:WA} {x y:Str} {wt:WT} {ws:WS}
end
end PV
namespace PV
open PySem PySem.Spec L2
section
variable {κ:Type} [DecidableEq κ]
end
section
variable {K:PySem.W.Frag} {H:Hp}
end
section
variable {X:Cx} {T:Tg} {m o m0 m1 m2 m3 o1 o2:Bool} {e a b:Expr} {w wa wb we:WE} {pos p2 p:Pos} {es:List Expr} {wr:WA} {x y:Str} {wt:WT} {ws:WS}
end
end PV
namespace PV
open PySem PySem.Spec L2
section
variable {X:Cx} {T:Tg} {m o m0 m1 m2 m3 o1 o2:Bool} {e a b:Expr} {w wa wb we:WE} {pos p2 p:Pos} {es:List Expr} {wr:WA} {x y:Str} {wt:WT} {ws:WS}
end
end PV
namespace PV
open PySem PySem.Spec L2
section
variable {X:Cx} {T:Tg} {m o m0 m1 m2 m3 o1 o2:Bool} {e a b:Expr} {w wa wb we:WE} {pos p2 p:Pos} {es:List Expr} {wr:WA} {x y:Str} {wt:WT} {ws:WS}
end
end PV
namespace PV
open PySem PySem.Spec L2
section
variable {X:Cx} {T:Tg} {m o m0 m1 m2 m3 o1 o2:Bool} {e a b:Expr} {w wa wb we:WE} {pos p2 p:Pos} {es:List Expr} {wr:WA} {x y:Str} {wt:WT} {ws:WS}
end
end PV
namespace PV
open PySem PySem.Spec L2
section
variable {X:Cx} {T:Tg} {m o:Bool}
end
end PV
namespace PV
open PySem PySem.Spec L2
section
variable {X:Cx} {T:Tg} {m o m0 m1 m2 m3 o1 o2:Bool} {e a b:Expr} {w wa wb we:WE} {pos p2 p:Pos} {es:List Expr} {wr:WA} {x y:Str} {wt:WT} {ws:WS}
end
end PV
namespace PV
open PySem PySem.Spec L2
section
variable {X:Cx} {T:Tg} {m o m0 m1 m2 m3 me o1 o2:Bool} {e a b:Expr} {w wa wb we:WE} {pos p2 p:Pos} {es:List Expr} {wr:WA} {x y:Str} {wt:WT} {ws:WS}
noncomputable def TB (q:Nat):Tg:={ own:=λi=>i == q,io:=[q] }
end
end PV
namespace PV
open PySem PySem.Spec L2
open PyProof.Rows (envOfC)
section
variable {X:Cx} {T:Tg} {m o m0 m1 m2 m3 o1 o2:Bool} {e a b:Expr} {w wa wb we:WE} {pos p2 p:Pos} {es:List Expr} {wr:WA} {x y:Str} {wt:WT} {ws:WS} {k:Nat} {ps:List Str}
noncomputable def NotAt (σ:St) (i:Nat) (C:List Addr):Prop:=∀a,σ[i]? = some (some (.ref a))->a∉C
theorem NotAt.app {σ:St} {i:Nat} {A C:List Addr} (h:NotAt σ i A) (h':NotAt σ i C):NotAt σ i (A++C):=λa e m=>(List.mem_append.mp m).elim (h a e) (h' a e)
end
section
variable {K:PySem.W.Frag} {x:Str} {qual:Str} {st:Stmt} {f:Addr} {fd:FuncData} {N ps:List Str} {T:Tg} {P:Program} {w:World} {mg:Str->Option Value} {base:Heap} {k:Nat} {ww:WS}
end
end PV
namespace L2
open PySem PySem.Spec PyProof.Rows
section
variable {X:Cx} {es:List Expr} {t:TA} {pos:Pos}
end
end L2
namespace PV
open PySem PySem.Spec L2
section
variable {X:Cx} {T:Tg} {m o m0 m1 m2 m3 me o1 o2:Bool} {e a b:Expr} {w wa wb we:WE} {pos p2 p:Pos} {es:List Expr} {wr:WA} {x y:Str} {wt:WT} {ws:WS}
noncomputable def g2 (K:PySem.W.Frag):TG:=gTup K 2 (gCons (gName 0) (gCons (gName 1) gNil))
end
end PV
namespace PV
open PySem PySem.Spec L2
open Builtin.Str (glued tooLong)
section
variable {X:Cx} {T:Tg} {m o m0 m1 m2 m3 me o1 o2:Bool} {e a b:Expr} {w wa wb we:WE} {pos p2 p:Pos} {es:List Expr} {wr:WA} {x y:Str} {wt:WT} {ws:WS}
end
end PV
namespace PV
open PySem PySem.Spec L2
open Builtin.Str (glued tooLong subAt)
section
variable {X:Cx} {T:Tg} {m o m0 m1 m2 m3 m4 me o1 o2:Bool} {e a b:Expr} {w wa wb we:WE} {pos p2 p:Pos} {es:List Expr} {wr:WA} {x y:Str} {wt:WT} {ws:WS}
end
end PV
namespace PV
open PySem PySem.Spec L2
section
variable {X:Cx} {T:Tg} {m o m0 m1 m2 m3 o1 o2:Bool} {e a b:Expr} {w wa wb we:WE} {pos p2 p:Pos} {es:List Expr} {wr:WA} {x y:Str}
end
end PV
namespace PV
open PySem PySem.Spec L2 PyProof.Rows
section
variable {X:Cx} {T:Tg} {m o m0 m1 m2 m3 me o1 o2:Bool} {e a b c:Expr} {w wa wb we:WE} {pos p2 p:Pos} {es:List Expr} {wr:WA} {x y:Str} {wt:WT} {ws:WS} {k:Nat} {ps:List Str} {tg:Expr}
noncomputable def rPopT:V->List V->Hp->VK->Prop:=λx vs H Q=>∃a b kvs k v,x=.ref a/\vs=[.ref b]/\H a=some (.dT kvs)/\H b=some (.tup (k.map kV))/\valV kvs k=some v/\Q v (upd H a (.dT (dropK kvs k)))
theorem mt_popT (hu:X.A.units+1<cLine):MtM X "dict.pop" rPopT:=by
 intro pins s σ H x vs v us Q I rx rv h
 obtain ⟨a,b,kvs,k,y,rfl,rfl,hH,hb,hv,q⟩:=h
 cases rx
 obtain ⟨u,rfl,ru⟩:=Vals.one rv
 cases ru
 exact d_popT hu I hH hb hv λw' s' I' rw'=>⟨y,_,I',rw',q⟩
noncomputable def gPopT:GM
 | .dit kvs,[.tup xs],k=>oget (keysOf xs) λks=>oget (valD kvs ks) λd=>d.pure=true/\k d (.dit (dropD kvs ks))
 | _,_,_=>False
theorem md_popT (hu:X.A.units+1<cLine):MtD X "dict.pop" gPopT:=by
 refine ⟨_,mt_popT hu,λH d ds v xs F G k Q r nd rs ndG dis g q=>?_⟩
 cases d with
 | dit es =>
  cases ds with
  | nil=>exact (show False from g).elim
  | cons d ds =>
   cases ds with
   | cons _ _=>cases d <;> exact (show False from g).elim
   | nil =>
    cases d with
    | tup ys =>
     obtain ⟨u,rfl,rd⟩:=rs.at1
     obtain ⟨ks,hks,g⟩:=oget_some g
     obtain ⟨d,hd,hp,g⟩:=oget_some g
     cases r with
     | @dit l kvs _ F e r9 =>
      cases rd with
      | @tup b us _ _ eb rb =>
       have hkv:=rb.keys hks
       rcases r9.val ks with ⟨q1,_⟩ | ⟨d',v',B,q1,q2,q3,q4⟩
       ·rw [q1] at hd;cases hd
       ·rw [q1] at hd
        cases hd
        obtain ⟨hB,q3⟩:=q3.pure hp
        obtain ⟨nl,nd⟩:=List.nodup_cons.mp nd
        obtain ⟨G',rG,sG⟩:=r9.drop (k:=ks)
        have nG:l∉G':=λh=>nl (sG.subset h)
        refine ⟨l,b,kvs,ks,v',rfl,rfl,e,by rw [← hkv];exact eb,q2,?_⟩
        refine q v' l _ d _ (l::G') List.mem_cons_self rfl (.dit upd_same (rG.upd e rfl nG)) (List.nodup_cons.mpr ⟨nG,nd.sublist sG⟩) (λa ha=>?_) (q3.upd e rfl (λh=>nomatch h)) g
        rcases List.mem_cons.mp ha with rfl | ha
        ·exact .inl List.mem_cons_self
        ·exact .inl (List.mem_cons_of_mem _ (sG.subset ha))
    | _=>exact (show False from g).elim
 | _=>exact (show False from g).elim
theorem iv_par {i:Nat} (ht:T.own i=false:=by rfl) (hN:X.N[i]? = some x:=by rfl) (hv:Vis X.env.scope x:=by first | exact Or.inl rfl | exact Or.inr (Or.inl rfl) | exact Or.inr (Or.inr rfl)) (hd:(x == ("__debug__" : Str))=false:=by decide)
  (hcd:(x == ("__classdict__" : Str))=false:=by decide):IV X T false true tg (.Name x p) (wSeqD (wVar i)):=by
 refine ⟨_,pi_seq (pe_var hN hv hd hcd),λz R σ H W ρ Q RR s hw k=>?_⟩
 unfold wSeqD wVar at hw
 cases hl:look ρ i with
 | none=>rw [hl] at hw;exact hw.elim
 | some d =>
 rw [hl] at hw
 have q:=hw
 obtain ⟨fp,s0⟩:=id s
 obtain ⟨v,h1,r0⟩:=s0.at_ i d hl
 have nW:∀b∈fp i,¬W b:=λb hb hw=>s0.wr b hw (s0.ro i d hl ht b hb)
 refine ⟨v,h1,?_⟩
 cases d with
 | tup ds =>
  obtain ⟨hp,q⟩:=q
  obtain ⟨hF,rp⟩:=r0.pure (by simpa [D.pure] using hp)
  cases rp with
  | @tup a xs _ _ e1 r =>
   refine ⟨a,rfl,.inr ⟨⟨xs,.of e1⟩,k _ H W ds ρ ⟨s,FrW.refl H W,λ_=>⟨Same.refl H,rfl,rfl⟩⟩ (λi H2 W2 f=>?_) q⟩⟩
   have e2:H2 a=some (.tup xs):=f.imm _ _ e1 rfl
   refine ⟨λhi=>⟨xs,.of e2,by rw [r.length];exact hi⟩,λd hd=>?_⟩
   obtain ⟨x,B,hx,rx,sx⟩:=r.get hd
   refine ⟨⟨xs,x,.of e2,hx⟩,λv H3 y=>?_⟩
   obtain ⟨rfl,y⟩:=y
   have:=y xs (.of e2)
   rw [hx] at this
   cases this
   exact ⟨Same.refl _,B,rx.keep f (λa ha=>(nomatch sx.subset ha)),(λa ha=>(nomatch sx.subset ha))⟩
 | lst ds =>
  generalize hfp:fp i=G at r0 nW
  cases r0 with
  | @lst a xs _ F e1 r =>
   refine ⟨a,rfl,.inl ⟨⟨xs,.of e1⟩,k _ H W ds ρ ⟨s,FrW.refl H W,λ_=>⟨Same.refl H,rfl,rfl⟩⟩ (λi H2 W2 f=>?_) q⟩⟩
   rw [wz_true] at f
   have e2:H2 a=some (.lst xs):=f.keep _ _ e1 (nW a List.mem_cons_self)
   refine ⟨λhi=>⟨xs,.of e2,by rw [r.length];exact hi⟩,λd hd=>?_⟩
   obtain ⟨x,B,hx,rx,sx⟩:=r.get hd
   refine ⟨⟨xs,x,.of e2,hx⟩,λv H3 y=>?_⟩
   obtain ⟨rfl,y⟩:=y
   have:=y xs (.of e2)
   rw [hx] at this
   cases this
   refine ⟨Same.refl _,B,rx.keep f λb hb=>nW b (List.mem_cons_of_mem _ (sx.subset hb)),λb hb hw=>?_⟩
   have hb':b∈a::F:=List.mem_cons_of_mem _ (sx.subset hb)
   rcases f.new b hw with h | h
   ·exact nW b hb' h
   ·obtain ⟨ob,e3,_⟩:=rx.dom b hb
    rw [h] at e3;cases e3
 | _=>exact (show False from q).elim
end
section
variable {i j:Int} {k:D->Prop} {kk:D->D->Prop} {kvs:List (List Key × D)} {xs:List D}
end
end PV
namespace L2
open PySem PySem.Spec PyProof.Rows
section
variable {X:Cx} {e:Expr} {te:TE}
end
end L2
namespace PV
open PySem PySem.Spec L2 PyProof.Rows
section
variable {X:Cx} {T:Tg} {m o:Bool} {e:Expr} {w:WE} {tg:Expr}
end
end PV
namespace PV
open PySem PySem.Spec L2
open PyProof.Rows (envOfC)
section
variable {X:Cx} {T:Tg} {m:Bool} {w:WE} {pos:Pos} {x:Str}
end
end PV
namespace PV
open PySem PySem.Spec L2
section
variable {X:Cx} {T:Tg} {m o m0 m1 m2 m3 o1 o2:Bool} {e a b:Expr} {w wa wb we:WE} {pos p2 p:Pos} {es:List Expr} {wr:WA} {x y:Str} {wt:WT} {ws:WS}
theorem RepT.get {K:PySem.W.Frag} {H:Hp}:∀{ds:List (List Key × D)} {xs:List (List Key × V)} {F:List Addr} {i:Nat} {k:List Key} {v:V},RepT K H ds xs F->xs[i]? = some (k,v)->∃d B,ds[i]? = some (k,d)/\Rep K H d v B/\B.Sublist F
 | [],_,_,_,_,_,r,h=>by cases r;simp at h
 | d::ds,_,_,i,_,_,r,h=>by
  cases r with
  | @cons j d v _ vs F G p r =>
   cases i with
   | zero =>
    simp at h
    obtain ⟨rfl,rfl⟩:=h
    exact ⟨d,F,rfl,p,List.sublist_append_left _ _⟩
   | succ i =>
    obtain ⟨d',B,h1,h2,h3⟩:=RepT.get r (i:=i) (by simpa using h)
    exact ⟨d',B,by simpa using h1,h2,h3.trans (List.sublist_append_right _ _)⟩
end
end PV
namespace PV
open PySem PySem.Spec L2
section
variable {X:Cx} {T:Tg} {m o:Bool} {a:Expr} {pos p2 p:Pos} {wr:WA} {x:Str}
theorem Reps.back0 {K:PySem.W.Frag} {H:Hp} {ds:List D} {xs:List V} {F:List Addr} (r:Reps K H ds xs F):F=[]->Reps K H ds.reverse xs.reverse []:=by
 induction r using Reps.rec (motive_1:=λ_ _ _ _=>True) (motive_3:=λ_ _ _ _=>True) (motive_4:=λ_ _ _ _=>True) with
 | nil=>exact λ_=>.nil
 | cons h r ih1 ih2 =>
  intro e
  obtain ⟨rfl,rfl⟩:=List.append_eq_nil_iff.mp e
  rw [List.reverse_cons,List.reverse_cons]
  exact Reps.append (F:=[]) (G:=[]) (ih2 rfl) (Reps.one h)
 | _=>trivial
theorem Reps.back {K:PySem.W.Frag} {H:Hp} {ds:List D} {xs:List V} (r:Reps K H ds xs []):Reps K H ds.reverse xs.reverse []:=r.back0 rfl
end
end PV
namespace PV
open PySem PySem.Spec L2
theorem atI_ofNat {α:Type} (xs:List α) (j:Nat):L2.atI xs (j:Int)=xs[j]?:=by
 unfold L2.atI ixN
 rw [if_pos (by omega)]
 by_cases h:j<xs.length
 ·rw [if_pos (by omega)];simp
 ·rw [if_neg (by omega)];simp;omega
theorem atI_0 {α:Type} (xs:List α):L2.atI xs 0=xs[0]?:=atI_ofNat xs 0
theorem atI_1 {α:Type} (xs:List α):L2.atI xs 1=xs[1]?:=atI_ofNat xs 1
theorem ixN_ofNat {n j:Nat} (h:j<n):ixN n (j:Int)=some j:=by
 unfold ixN
 rw [if_pos (by omega),if_pos (by omega)];simp
theorem ixN_0 {n:Nat} (h:0<n):ixN n 0=some 0:=ixN_ofNat h
theorem ixN_1 {n:Nat} (h:1<n):ixN n 1=some 1:=ixN_ofNat h
theorem seqIx_ofNat {n j:Nat} (h:j<n):seqIndex? (j:Int) n=some j:=(ixN_seq (ixN_ofNat h)).1
theorem seqIx_0 {n:Nat} (h:0<n):seqIndex? 0 n=some 0:=seqIx_ofNat h
theorem oget_s {α:Type} {d:α} {k:α->Prop}:oget (some d) k=k d:=rfl
theorem r_var {i:Nat} {ρ:Env} {Q:D->Env->Prop}:wVar i ρ Q=oget (look ρ i) λd=>Q d ρ:=by
 unfold wVar oget
 cases look ρ i <;> rfl
section
variable {i j:Int} {x y:Str} {xs ys:List D} {k:D->Prop} {b c:Bool} {d e:D} {kvs:List (Key × D)} {kts:List (List Key × D)}
theorem r_add:dAdd (.int i) (.int j) k=k (.int (i+j)):=rfl
theorem r_addL:dAdd (.lst xs) (.lst ys) k=(pureL xs=true/\pureL ys=true/\xs.length+ys.length<=sizeLine/\k (.lst (xs++ys))):=rfl
theorem r_sub:dSub (.int i) (.int j) k=k (.int (i-j)):=rfl
theorem r_mul:dMul (.int i) (.int j) k=(CMul i j/\k (.int (i*j))):=rfl
theorem r_mulL:dMul (.lst xs) (.int j) k=(pureL xs=true /\ -(2 ^ 63)<=j/\j<2 ^ 63/\xs.length*j.toNat<=sizeLine/\k (.lst (List.replicate j.toNat xs).flatten)):=rfl
theorem r_div:dDiv (.int i) (.int j) k=((0<j/\j<1073741824/\k (.int (i / j)))\/(j<0/\j.natAbs<1073741824/\k (.int (i.fdiv j)))):=rfl
theorem r_mod:dMod (.int i) (.int j) k=((0<j/\k (.int (i % j)))\/(j<0/\k (.int (i.fmod j)))):=rfl
theorem r_pow:dPow (.int i) (.int j) k=(CPow i j/\k (.int (i ^ j.toNat))):=rfl
theorem r_neg:dNeg (.int i) k=k (.int (-i)):=rfl
theorem r_eqI:dEq (.int i) (.int j) k=k (.bl (decide (i=j))):=rfl
theorem r_neI:dNe (.int i) (.int j) k=k (.bl (!decide (i=j))):=rfl
theorem r_neT:dNe (.tup xs) d k=(eqOk 9 (.tup xs)=true/\eqOk 9 d=true/\(.tup xs=d->k (.bl false))/\(.tup xs≠d->k (.bl true))):=by cases d <;> rfl
theorem r_neL:dNe (.lst xs) d k=(eqOk 9 (.lst xs)=true/\eqOk 9 d=true/\(.lst xs=d->k (.bl false))/\(.lst xs≠d->k (.bl true))):=by cases d <;> rfl
theorem r_cmp {f:Int->Int->Bool}:dCmp f (.int i) (.int j) k=k (.bl (f i j)):=rfl
theorem r_ixL:dIx (.lst xs) (.int i) k=oget (L2.atI xs i) k:=rfl
theorem r_ixT:dIx (.tup xs) (.int i) k=oget (L2.atI xs i) k:=rfl
theorem r_ixK:dIx (.kls xs) (.int i) k=oget (L2.atI xs i) k:=rfl
theorem r_ixDi:dIx (.dik kvs) (.int i) k=oget (valD kvs (.inl i)) k:=rfl
theorem r_ixDt:dIx (.dit kts) (.tup xs) k=oget (keysOf xs) λks=>oget (valD kts ks) k:=rfl
theorem r_lenL:dLen [.lst xs] k=k (.int xs.length):=rfl
theorem r_lenT:dLen [.tup xs] k=k (.int xs.length):=rfl
theorem r_lenK:dLen [.kls xs] k=k (.int xs.length):=rfl
theorem r_intB:dInt [.bl b] k=k (.int (if b then 1 else 0)):=rfl
theorem r_min:dMin2 [.int i,.int j] k=k (.int (if j<i then j else i)):=rfl
theorem r_tupL:dTuple [.lst xs] k=(pureL xs=true/\k (.tup xs)):=rfl
theorem r_range:dRange [.int i] k=(0<=i/\i<=1000/\k (.lst (rngD 0 i.toNat))):=rfl
theorem r_isi {t:Ty}:dIsi [d,.ty t] k=oget (isiD d t) λb=>k (.bl b):=rfl
theorem r_slL {lo hi:Option Int}:dSl (.lst xs) lo hi k=(pureL xs=true/\k (.lst (cutD xs lo hi))):=rfl
theorem r_slK {lo hi:Option Int}:dSl (.kls xs) lo hi k=(pureL xs=true/\k (.lst (cutD xs lo hi))):=rfl
theorem r_setL:dSet (.lst xs) (.int i) d k=oget (ixN xs.length i) λn=>k (.lst (xs.set n d)):=rfl
theorem r_setDi:dSet (.dik kvs) (.int i) d k=(kvs.length<sizeLine/\k (.dik (putD kvs (.inl i) d))):=rfl
theorem r_setDt:dSet (.dit kts) (.tup xs) d k=(kts.length<sizeLine/\oget (keysOf xs) λks=>k (.dit (putD kts ks d))):=rfl
theorem r_inDi {n:Bool}:dIn n (.int i) (.dik kvs) k=k (.bl (xor n (valD kvs (.inl i)).isSome)):=rfl
variable {kk:D->D->Prop}
theorem r_app:gAppend (.lst xs) [d] kk=(xs.length<sizeLine/\kk .non (.lst (xs++[d]))):=rfl
theorem r_popAt:gPopAt (.lst xs) [.int i] kk=(-(2 ^ 63)<=i/\i<2 ^ 63/\oget (seqIndex? i xs.length) λj=>oget xs[j]? λd=>d.pure=true/\kk d (.lst (xs.eraseIdx j))):=rfl
variable {ρ:Env} {w:WE} {QE:D->Env->Prop} {QL:List D->Env->Prop} {QB:Bool->Env->Prop}
end
section
variable {i j:Int} {k:D->Prop}
theorem r_divP (h:0<j) (h2:j<1073741824):dDiv (.int i) (.int j) k=k (.int (i / j)):=by
 rw [r_div]
 apply propext
 exact ⟨λq=>q.elim (λz=>z.2.2) (λz=>absurd z.1 (by omega)),λq=>.inl ⟨h,h2,q⟩⟩
theorem r_modP (h:0<j):dMod (.int i) (.int j) k=k (.int (i % j)):=by
 rw [r_mod]
 apply propext
 exact ⟨λq=>q.elim (λz=>z.2) (λz=>absurd z.1 (by omega)),λq=>.inl ⟨h,q⟩⟩
theorem r_mulA (h:-18446744073709551616<i) (h2:i<18446744073709551616):dMul (.int i) (.int j) k=k (.int (i*j)):=by
 rw [r_mul]
 exact propext ⟨λq=>q.2,λq=>⟨.inl ⟨by omega,by omega⟩,q⟩⟩
theorem r_mulB (h:-18446744073709551616<j) (h2:j<18446744073709551616):dMul (.int i) (.int j) k=k (.int (i*j)):=by
 rw [r_mul]
 exact propext ⟨λq=>q.2,λq=>⟨.inr ⟨by omega,by omega⟩,q⟩⟩
theorem r_powP (h:0<=j) (h2:j<=1000000) (h3:-18446744073709551616<i) (h4:i<18446744073709551616):dPow (.int i) (.int j) k=k (.int (i ^ j.toNat)):=by
 rw [r_pow]
 exact propext ⟨λq=>q.2,λq=>⟨⟨h,h2,by omega⟩,q⟩⟩
end
noncomputable def blOf (d:D) (k:Bool->Prop):Prop:=match d with
 | .bl b=>k b
 | _=>False
theorem r_bl {w:WE} {ρ:Env} {Q:Bool->Env->Prop}:wBl w ρ Q=w ρ λd ρ'=>blOf d λb=>Q b ρ':=by
 show (w ρ λd ρ'=>match d with | .bl b=>Q b ρ' | _=>False)=_
 rfl
theorem r_blOf {b:Bool} {k:Bool->Prop}:blOf (.bl b) k=k b:=rfl
noncomputable def truOf (d:D) (k:Bool->Prop):Prop:=oget (truD d) k
theorem r_tru {w:WE} {ρ:Env} {Q:Bool->Env->Prop}:wTru w ρ Q=w ρ λd ρ'=>truOf d λb=>Q b ρ':=by
 unfold wTru
 congr 1
 funext d ρ'
 unfold truOf oget
 cases truD d <;> rfl
theorem r_truB {b:Bool} {k:Bool->Prop}:truOf (.bl b) k=k b:=rfl
noncomputable def seqOf (d:D) (k:List D->Prop):Prop:=match d with
 | .tup ds=>pureL ds=true/\k ds
 | .lst ds=>k ds
 | _=>False
theorem r_seq {w:WE} {ρ:Env} {Q:List D->Env->Prop}:wSeqD w ρ Q=w ρ λd ρ'=>seqOf d λds=>Q ds ρ':=by
 show (w ρ λd ρ'=>match d with | .tup ds=>pureL ds=true/\Q ds ρ' | .lst ds=>Q ds ρ' | _=>False)=_
 rfl
theorem r_seqL {xs:List D} {k:List D->Prop}:seqOf (.lst xs) k=k xs:=rfl
noncomputable def valsOf (d:D) (k:List D->Prop):Prop:=match d with
 | .dik kvs=>k (kvs.map (·.2))
 | _=>False
theorem r_vals {w:WE} {ρ:Env} {Q:List D->Env->Prop}:wVals w ρ Q=w ρ λd ρ'=>valsOf d λds=>Q ds ρ':=by
 show (w ρ λd ρ'=>match d with | .dik kvs=>Q (kvs.map (·.2)) ρ' | _=>False)=_
 rfl
theorem r_valsK {kvs:List (Key × D)} {k:List D->Prop}:valsOf (.dik kvs) k=k (kvs.map (·.2)):=rfl
noncomputable def intOf (d:D) (k:Option Int->Prop):Prop:=match d with
 | .int i=>k (some i)
 | _=>False
theorem r_some {w:WE} {ρ:Env} {Q:Option Int->Env->Prop}:wSome w ρ Q=w ρ λd ρ'=>intOf d λi=>Q i ρ':=by
 show (w ρ λd ρ'=>match d with | .int i=>Q (some i) ρ' | _=>False)=_
 rfl
theorem r_intOf {i:Int} {k:Option Int->Prop}:intOf (.int i) k=k (some i):=rfl
noncomputable def rng1Of (ds:List D) (k:List D->Prop):Prop:=match ds with
 | [.int j]=>-(2 ^ 62)<=j/\j<2 ^ 62/\k (rngD 0 j.toNat)
 | _=>False
theorem r_rng1 {wr:WA} {ρ:Env} {Q:List D->Env->Prop}:wRng1 wr ρ Q=wr ρ λds ρ'=>rng1Of ds λl=>Q l ρ':=by
 show (wr ρ λds ρ'=>match ds with | [.int j]=>-(2 ^ 62)<=j/\j<2 ^ 62/\Q (rngD 0 j.toNat) ρ' | _=>False)=_
 rfl
theorem r_rng1I {j:Int} {k:List D->Prop}:rng1Of [.int j] k=(-(2 ^ 62)<=j/\j<2 ^ 62/\k (rngD 0 j.toNat)):=rfl
noncomputable def enumOf (ds:List D) (k:List D->Prop):Prop:=match ds with
 | [.tup es]=>pureL es=true/\k (enumD 0 es)
 | _=>False
theorem r_enum {wr:WA} {ρ:Env} {Q:List D->Env->Prop}:wEnum wr ρ Q=wr ρ λds ρ'=>enumOf ds λl=>Q l ρ':=by
 show (wr ρ λds ρ'=>match ds with | [.tup es]=>pureL es=true/\Q (enumD 0 es) ρ' | _=>False)=_
 rfl
theorem r_enumT {xs:List D} {k:List D->Prop}:enumOf [.tup xs] k=(pureL xs=true/\k (enumD 0 xs)):=rfl
theorem r_gTup {n:Nat} {wgs:List D->Env->(Env->Prop)->Prop} {xs:List D} {ρ:Env} {Q:Env->Prop}:gTupD n wgs (.tup xs) ρ Q=(xs.length=n/\wgs xs ρ Q):=rfl
theorem r_gCons {wg:WG} {wgs:List D->Env->(Env->Prop)->Prop} {d:D} {r:List D} {ρ:Env} {Q:Env->Prop}:gConsD wg wgs (d::r) ρ Q=wg d ρ λρ'=>wgs r ρ' Q:=rfl
theorem r_gNil {ρ:Env} {Q:Env->Prop}:gNilD [] ρ Q=Q ρ:=rfl
theorem r_tyL {xs:List D} {t:String}:tyD (some (.lst xs)) t=(t == "list"):=rfl
theorem r_flL {xs:List D}:flatD (.lst xs)=pureL xs:=rfl
theorem r_flT {xs:List (List Key × D)}:flatD (.dit xs)=xs.all λkv=>kv.2.pure:=rfl
theorem pureL_map {α:Type} {f:α->D} {l:List α} (h:∀a∈l,(f a).pure=true):pureL (l.map f)=true:=by
 rw [pureL_iff]
 intro x hx
 obtain ⟨a,ha,rfl⟩:=List.mem_map.mp hx
 exact h a ha
theorem eqOks_map {α:Type} {f:α->D} {n:Nat} {l:List α} (h:∀a∈l,eqOk n (f a)=true):eqOks n (l.map f)=true:=by
 rw [eqOks_iff]
 intro x hx
 obtain ⟨a,ha,rfl⟩:=List.mem_map.mp hx
 exact h a ha
theorem comp_map {wl:WL} {we:WE} {ix:List Nat} {ρ:Env} {Q:D->Env->Prop} {f:D->D} (ds:List D) (ρ1:Env) (h:wl ρ=λq=>q ds ρ1) (hz:ds.length<sizeLine) (he:∀d∈ds,∀Q',Q' (f d) (blkE ρ1 d ix)->we (blkE ρ1 d ix) Q') (hQ:Q (.lst (ds.map f)) ρ1) :
  wComp wl wAll we ix ρ Q:=by
 unfold wComp
 rw [h]
 refine ⟨λi ys=>ys=(ds.take i).map f/\i<=ds.length,⟨by simp,Nat.zero_le _⟩,λi d ys hd ⟨hy,hi⟩=>?_,λys ⟨hy,_⟩=>?_⟩
 ·have hlt:=(List.getElem?_eq_some_iff.mp hd).1
  refine ⟨by rw [hy];simp;omega,?_⟩
  simp only [wAll,reduceIte]
  refine he d (List.mem_of_getElem? hd) _ ⟨?_,hlt⟩
  rw [hy,List.take_add_one,hd]
  simp
 ·rw [hy,List.take_length]
  exact ⟨by simp;omega,hQ⟩
noncomputable def compI (ds:List D) (wt:WT) (we:WE) (ρ1:Env) (ix:List Nat) (Q:D->Env->Prop):Prop:=∃I:Nat->List D->Prop,I 0 [] /\
 (∀i d ys,ds[i]? = some d->I i ys->ys.length<sizeLine/\wt (blkE ρ1 d ix) λb _=>if b=true then we (blkE ρ1 d ix) (λy _=>I (i+1) (ys++[y])) else I (i+1) ys) /\
 ∀ys,I ds.length ys->ys.length<=sizeLine/\Q (.lst ys) ρ1
theorem r_comp {wl:WL} {wt:WT} {we:WE} {ix:List Nat} {ρ:Env} {Q:D->Env->Prop}:wComp wl wt we ix ρ Q=wl ρ λds ρ1=>compI ds wt we ρ1 ix Q:=rfl
theorem compI_map {ds:List D} {we:WE} {ρ1:Env} {ix:List Nat} {Q:D->Env->Prop} (f:D->D) (hz:ds.length<sizeLine) (he:∀d∈ds,∀Q':D->Env->Prop,Q' (f d) (blkE ρ1 d ix)->we (blkE ρ1 d ix) Q') (hQ:Q (.lst (ds.map f)) ρ1):compI ds wAll we ρ1 ix Q:=by
 refine ⟨λi ys=>ys=(ds.take i).map f/\i<=ds.length,⟨by simp,Nat.zero_le _⟩,λi d ys hd ⟨hy,hi⟩=>?_,λys ⟨hy,_⟩=>?_⟩
 ·have hlt:=(List.getElem?_eq_some_iff.mp hd).1
  refine ⟨by rw [hy];simp;omega,?_⟩
  simp only [wAll,reduceIte]
  refine he d (List.mem_of_getElem? hd) _ ⟨?_,hlt⟩
  rw [hy,List.take_add_one,hd]
  simp
 ·rw [hy,List.take_length]
  exact ⟨by simp;omega,hQ⟩
noncomputable def forI (ds:List D) (wg:WG) (wb:WS) (P:EndsP) (ρ1:Env):Prop:=∃I:Nat->Env->Prop,I 0 ρ1 /\
 (∀i d ρ,ds[i]? = some d->I i ρ->wg d ρ λρ'=>wb { P with nx:=I (i+1),ct:=I (i+1),bk:=P.nx } ρ')/\∀ρ,I ds.length ρ->P.nx ρ
theorem r_for {wl:WL} {wg:WG} {wb:WS} {P:EndsP} {ρ:Env}:wFor wl wg wb P ρ=wl ρ λds ρ1=>pureL ds=true/\forI ds wg wb P ρ1:=rfl
noncomputable def forR (ds:List D) (i₀:Nat) (wb:WS) (P:EndsP) (ρ1:Env):Prop:=∃I:Nat->Env->Prop,I 0 ρ1 /\
 (∀i d ρ,ds[i]? = some d->I i ρ->wb { P with nx:=I (i+1),ct:=I (i+1),bk:=P.nx } (ρ.set i₀ (some d)))/\∀ρ,I ds.length ρ->P.nx ρ
theorem r_forR {wl:WL} {i₀:Nat} {wb:WS} {P:EndsP} {ρ:Env}:wForR wl i₀ wb P ρ=wl ρ λds ρ1=>forR ds i₀ wb P ρ1:=rfl
end PV
namespace PV
open PySem PySem.Spec L2
section
variable {X:Cx} {T:Tg} {m o o1 o2 o3:Bool} {a b c:Expr} {wa wb wc:WE} {pos p2 p:Pos} {wr:WA} {x:Str}
end
end PV
namespace PV
open PySem PySem.Spec L2
open PyProof.Rows (envOfC)
mutual
noncomputable def D.bare:D->Bool
 | .non=>true
 | .bl _=>true
 | .int _=>true
 | .str _=>true
 | .ty _=>true
 | .tup xs=>bareL xs
 | .lst xs=>bareL xs
 | .dik kvs=>bareK kvs
 | .dit kvs=>bareT kvs
 | .kls _=>false
 | .fdk _=>false
 | .ftp _=>false
 | .fls _=>false
 | .fdt _=>false
 | .obj _ _=>false
 | .clo _ _=>false
noncomputable def bareL:List D->Bool
 | []=>true
 | d::r=>d.bare && bareL r
noncomputable def bareK:List (Key × D)->Bool
 | []=>true
 | (_,d)::r=>d.bare && bareK r
noncomputable def bareT:List (List Key × D)->Bool
 | []=>true
 | (_,d)::r=>d.bare && bareT r
end
theorem bareL_iff {xs:List D}:bareL xs=true↔∀x∈xs,x.bare=true:=by
 induction xs with
 | nil=>simp [bareL]
 | cons d r ih=>simp only [bareL,Bool.and_eq_true,ih,List.mem_cons,forall_eq_or_imp]
theorem bareT_iff {xs:List (List Key × D)}:bareT xs=true↔∀x∈xs,x.2.bare=true:=by
 induction xs with
 | nil=>simp [bareT]
 | cons d r ih=>simp only [bareT,Bool.and_eq_true,ih,List.mem_cons,forall_eq_or_imp]
noncomputable def Thaw (H H':Hp):Prop:=∀b ob,H b=some ob->(∀o u,ob ≠ .frz o u)->H' b=some ob
theorem Rep.bare {K:PySem.W.Frag} {H H':Hp} (hi:Thaw H H') {d:D} {v:V} {F:List Addr} (r:Rep K H d v F):d.bare=true->Rep K H' d v F:=by
 have no:∀{P:Prop} {b:Bool},b=false->b=true->P:=λh h'=>absurd (h.symm.trans h') (by simp)
 refine Rep.rec (motive_1:=λd v F _=>d.bare=true->Rep K H' d v F) (motive_2:=λd v F _=>bareL d=true->Reps K H' d v F) (motive_3:=λd v F _=>bareK d=true->RepK K H' d v F) (motive_4:=λd v F _=>bareT d=true->RepT K H' d v F) ?_ ?_ ?_ ?_ ?_ ?_ ?_ ?_ ?_ ?_ ?_ ?_ ?_ ?_ ?_ ?_ ?_ ?_ ?_ ?_ ?_ ?_ r
 ·exact λ_=>.non
 ·exact λb _=>.bl b
 ·exact λb _=>.int b
 ·exact λb _=>.str b
 ·exact λe _ ih k=>.tup (hi _ _ e λ_ _ z=>by cases z) (ih (by rw [D.bare] at k;exact k))
 ·exact λe _ ih k=>.lst (hi _ _ e λ_ _ z=>by cases z) (ih (by rw [D.bare] at k;exact k))
 ·exact λe _ ih k=>.dik (hi _ _ e λ_ _ z=>by cases z) (ih (by rw [D.bare] at k;exact k))
 ·exact λe _ ih k=>.dit (hi _ _ e λ_ _ z=>by cases z) (ih (by rw [D.bare] at k;exact k))
 ·exact λ_ _ _=>no (by rw [D.bare])
 ·exact λt _=>.ty t
 ·exact λ_ _ _=>no (by rw [D.bare])
 ·exact λ_ _ _ _=>no (by rw [D.bare])
 ·exact λ_ _ _=>no (by rw [D.bare])
 ·exact λ_ _ _=>no (by rw [D.bare])
 ·exact λ_ _ _=>no (by rw [D.bare])
 ·exact λ_ _ _=>no (by rw [D.bare])
 ·exact λ_=>.nil
 ·exact λ_ _ ih1 ih2 k=>by rw [bareL,Bool.and_eq_true] at k;exact .cons (ih1 k.1) (ih2 k.2)
 ·exact λ_=>.nil
 ·exact λ_ _ ih1 ih2 k=>by rw [bareK,Bool.and_eq_true] at k;exact .cons (ih1 k.1) (ih2 k.2)
 ·exact λ_=>.nil
 ·exact λ_ _ ih1 ih2 k=>by rw [bareT,Bool.and_eq_true] at k;exact .cons (ih1 k.1) (ih2 k.2)
theorem Reps.bare {K:PySem.W.Frag} {H H':Hp} (hi:Thaw H H') {d:List D} {v:List V} {F:List Addr} (r:Reps K H d v F) (k:bareL d=true):Reps K H' d v F:=by
 induction d generalizing v F with
 | nil=>cases r;exact .nil
 | cons d ds ih =>
  cases r with
  | cons h r=>rw [bareL,Bool.and_eq_true] at k;exact .cons (h.bare hi k.1) (ih r k.2)
section
variable {X:Cx} {T:Tg} {m o:Bool} {e:Expr} {w:WE} {pos p:Pos} {x:Str} {k:Nat} {ps:List Str} {L:Lam} {g:GA}
noncomputable def wCallC (i:Nat) (L:Lam) (g:GA) (w:WE):WE:=λρ Q=>oget (look ρ i) λc=>match c with
 | .clo L' cs=>L'=L/\w ρ λd ρ1=>g (d::cs) λr=>Q r ρ1
 | _=>False
theorem ev_callClo {i:Nat} (F:LamOk X.prog X.w X.K X.mg X.base k L (spR X.K g)) (hr:Room k X.A) (he:EV X T false o e w) (hN:X.N[i]? = some x:=by rfl)
  (hv:Vis X.env.scope x:=by first | exact Or.inl rfl | exact Or.inr (Or.inl rfl) | exact Or.inr (Or.inr rfl)) (hd:(x == ("__debug__" : Str))=false:=by decide) (hcd:(x == ("__classdict__" : Str))=false:=by decide)
  (hs:starEach [e] X.env=(false,eval e X.env)::starEach [] X.env:=by rfl) (hpl:(backTo pos (starEach [] X.env)).any (·.1)=false:=by rfl) :
  EV X T false true (.Call (.Name x p) [e] [] pos) (wCallC i L g w):=by
 obtain ⟨te,pe,ge⟩:=he
 refine ⟨_,pe_callClo F hr pe hN hv hd hcd hs hpl,λz R σ H W ρ Q Q' s hw k=>?_⟩
 obtain ⟨c,hl,hw⟩:=oget_some hw
 obtain ⟨fp,s0⟩:=id s
 obtain ⟨v,h1,h2⟩:=s0.at_ i c hl
 generalize fp i=Fi at h2
 match c,h2,hw with
 | .clo L' cs,h2,hw =>
  obtain ⟨e0,hw2⟩:L'=L/\w ρ λd ρ1=>g (d::cs) λr=>Q r ρ1:=hw
  subst e0
  cases h2 with
  | @clo a _ xs _ _ ec rc =>
   refine ⟨a,xs,h1,ec,ge z R σ H W ρ _ _ s hw2 λy H1 W1 d ρ1 F1 pp q=>?_⟩
   obtain ⟨sm,hW,hρ⟩:=pp.calm rfl
   exact ⟨ec.keeps λb o u q=>sm b _ q,d::cs,_,_,.cons pp.rep (rc.same sm),q,λv H' dd F' fi hk=>k v H' W1 dd ρ1 F' (Post.fin pp.sr pp.fr pp.calm fi.same fi.rep fi.nd fi.new) hk⟩
noncomputable def capsD (ρ:Env):List Nat->Option (List D)
 | []=>some []
 | i::ix=>match look ρ i,capsD ρ ix with
  | some d,some ds=>some (d::ds)
  | _,_=>none
theorem capsD_reps {K:PySem.W.Frag} {z:Nat->V} {R:Addr->Prop} {H:Hp} {W:Addr->Prop} {σ:L2.St} {ρ:Env} (s:SR K T z R H W σ ρ):∀{ix:List Nat} {ds:List D},capsD ρ ix=some ds->∃xs F,capd σ ix xs/\Reps K H ds xs F
 | [],ds,h=>by cases h;exact ⟨[],[],trivial,.nil⟩
 | i::ix,ds,h=>by
  unfold capsD at h
  cases h1:look ρ i with
  | none=>rw [h1] at h;cases h
  | some d =>
   cases h2:capsD ρ ix with
   | none=>rw [h1,h2] at h;cases h
   | some es =>
    rw [h1,h2] at h
    cases h
    obtain ⟨xs,F,c,r⟩:=capsD_reps s h2
    obtain ⟨fp,s0⟩:=s
    obtain ⟨v,e1,e2⟩:=s0.at_ i d h1
    exact ⟨v::xs,_,⟨e1,c⟩,.cons e2 r⟩
noncomputable def wCallL (g:GA) (L:Lam) (ix:List Nat) (w:WE):WE:=λρ Q=>w ρ λd ρ1=>oget (capsD ρ1 ix) λcs=>g [d,.clo L cs] λr=>r.bare=true/\Q r ρ1
theorem ev_callLam {lam:Expr} {ix:List Nat} {clos:List (Str × Addr)} (C:Cal X.prog X.w X.K X.mg X.base x k ps (spR X.K g)) (hr:Room k X.A) (he:EV X T m o e w)
  (hlam:PE X lam (λσ H Q=>∀f H',H f=none->Same H H'->CloPre H' L f clos->Q (.ref f) H')) (hc:CapOk X ix clos) (hn:clos.map (·.1)=L.names) (hnd:(clos.map (·.2)).Nodup) (hg:Gl X x:=by rfl) (hdb:(x == ("__debug__" : Str))=false:=by decide)
  (hs:starEach [e,lam] X.env=(false,eval e X.env)::starEach [lam] X.env:=by rfl) (hs2:starEach [lam] X.env=(false,eval lam X.env)::starEach [] X.env:=by rfl) (hpl:(backTo pos (starEach [lam] X.env)).any (·.1)=false:=by rfl) :
  EV X T m true (.Call (.Name x p) [e,lam] [] pos) (wCallL g L ix w):=by
 obtain ⟨f,fd,F,h1,h2,h3⟩:=C
 obtain ⟨te,pe,ge⟩:=he
 refine ⟨_,pe_callLam F hr hg h1 h2 h3 pe hlam hc hn hnd hdb hs hs2 hpl,λz R σ H W ρ Q Q' s hw k=>?_⟩
 refine ge z R σ H W ρ _ _ s hw λy H1 W1 d ρ1 F1 pp q=>?_
 obtain ⟨cs,hcs,q⟩:=oget_some q
 obtain ⟨xs,Fc,cx,rc⟩:=capsD_reps pp.sr hcs
 refine ⟨xs,cx,λf H2 n sm cA=>⟨[d,.clo L cs],_,_,.cons (pp.rep.same sm) (.cons (.clo cA (rc.same sm)) .nil),q,λv H3 dd F' fi hk H4 h4 h5=>?_⟩⟩
 exact k v H4 W1 dd ρ1 F' (Post.fin pp.sr pp.fr pp.calm (λb ob e=>h5 b ob e (fi.same b ob (sm b ob e))) (fi.rep.bare h4 hk.1) fi.nd λa ha=>sm.free (fi.new a ha)) hk.2
noncomputable def spT (TB:List (Addr × Array Value)) (sp:Sp):Sp:=λvs H Q E=>Tabs TB H/\sp vs H Q E
theorem ev_callT {es:List Expr} {wr:WA} {TB:List (Addr × Array Value)} (C:Cal X.prog X.w X.K X.mg X.base x k ps (spT TB (spR X.K g))) (hr:Room k X.A) (hT:Tabs TB X.H₀) (ha:AV X T m o (e::es) wr) (hg:Gl X x:=by rfl)
  (hdb:(x == ("__debug__" : Str))=false:=by decide) (he:starEach (e::es) X.env=(false,eval e X.env)::starEach es X.env:=by rfl) (hpl:(backTo pos (starEach es X.env)).any (·.1)=false:=by rfl) :
  EV X T m true (.Call (.Name x p) (e::es) [] pos) (wCall g wr):=by
 obtain ⟨f,fd,F,h1,h2,h3⟩:=C
 obtain ⟨ta,pa,ga⟩:=ha
 have pe:PE X (.Call (.Name x p) (e::es) [] pos) (λσ H Q=>ta σ H λvs H1=>spR X.K g vs H1 Q E0):=by
  intro pins s σ H Q I h
  refine wpAny_Call_Name_kw (ld_glob I hg h1 ?_ hdb)
  refine PySem.W.callWith_K (h₀:=X.base) I.ok.mod.kin h2 (thn (pa pos pins s σ H _ I h) λus s1 ⟨vs,H1,I1,r,q⟩=>⟨I1.kIn,?_⟩) he hpl
  exact run_fn (E:=E0) F hr h3 .nil (λ_ _ _ _ _ _ _ z=>z.elim) I1 r (by rw [List.append_nil];exact ⟨hT.un I1.base,q⟩)
 refine ⟨_,pe,λz R σ H W ρ Q Q' s hw k=>?_⟩
 refine ga z R σ H W ρ _ _ s hw λvs H1 W1 ds ρ1 Fp pp q=>?_
 exact ⟨ds,Fp,_,pp.rep,q,λv H' d F' fi hk=>k v H' W1 d ρ1 F' (Post.fin pp.sr pp.fr pp.calm fi.same fi.rep fi.nd fi.new) hk⟩
end
section
variable {P:Program} {w:World} {K:PySem.W.Frag} {mg:Str->Option Value} {base:Heap} {x qual:Str} {st:Stmt} {f:Addr} {fd:FuncData} {N ps:List Str} {k:Nat} {T:Tg} {ww:WS} {TB:List (Addr × Array Value)}
theorem fn_roT {g:GA} (F:Fun K x qual st f fd) (S:FnScope N ps (defScope st)) (hio:T.io=[]) (hown:∀i,i<ps.length->T.own i=false) (hg:∀ds kk,g ds kk->ds.length=ps.length)
  (hb:∀(cdv:Value) (A:Around) (outer:List PySem.Env) (s:Shared) (H:Hp) (E:XK),Room k (A.deeper (envOfC qual (defScope st) s.heap.objs.size f cdv))->Tabs TB H->fd.code=cdv->SVs (cxOf CX0 P w K mg base N qual (defScope st) f cdv A outer s H E).nox T (defBody st) ww)
  (hr:∀ds kk,g ds kk->ww { nx:=λ_=>kk .non,rt:=λd _=>kk d } (env0 N ds)):FnOk P w K mg base CX0 (k+1) f fd ps (spT TB (spR K g)):=by
 obtain ⟨oc,od,kV,doc,pm,an,cdv,ct,osl,rfl,lk,hcd⟩:=F.ex
 refine fn_of lk hcd S (λvs H Q E h=>?_) λA outer s H vs Q E hroom h=>?_
 ·obtain ⟨_,ds,Fp,kk,rep,hgk,_⟩:=h
  rw [rep.length];exact hg ds kk hgk
 ·obtain ⟨hT,ds,Fp,kk,rep,hgk,q⟩:=h
  obtain ⟨ts,pts,gts⟩:=hb cdv A outer s H E hroom hT rfl
  have hl:=rep.length
  have hds:=hg ds kk hgk
  refine ⟨ts,pts.nox,gts (λ_=>.non) (Any H) (L2.start N vs) H (λ_=>False) (env0 N ds) _ _ (SR.readonly hio ?_ λi d hli=>?_) (hr ds kk hgk) ⟨?_,?_,?_,?_,λ_ _ _ _ _ _ _ _ hk=>hk.elim⟩⟩
  ·unfold env0 L2.start;simp [hl]
  ·unfold env0 at hli
   rw [look_start] at hli
   obtain ⟨v,B,h1,h2,_⟩:=rep.get hli
   exact ⟨hown i (by rw [← hds];exact (List.getElem?_eq_some_iff.mp hli).1),v,B,start_get h1,h2⟩
  ·intro R' σ' H' W' ρ' s' fr hk
   have sm:Same H H':=λb o e=>fr.keep b o e (λz=>z)
   exact q .non H' .non [] ⟨sm,.non,List.nodup_nil,λ_ m=>nomatch m⟩ hk
  ·exact λR' σ' H' W' ρ' s' fr hk=>hk.elim
  ·exact λR' σ' H' W' ρ' s' fr hk=>hk.elim
  ·intro R' v σ' H' W' ρ' d F' s' fr r nd nw hk
   have sm:Same H H':=λb o e=>fr.keep b o e (λz=>z)
   exact q v H' d F' ⟨sm,r,nd,λa ha=>(nw a ha).2.resolve_left id⟩ hk
theorem lam_d {L:Lam} {p:Str} {g:GA} {m:Bool} {wb:WE} (S:LamScope L p) (hbind:∀(cl:List (Str × Addr)) (pm cdv ct u:Value),bindArgs (PySem.W.kla_fn "<lambda>" L.qual L.args L.body L.scope cl pm cdv ct) ⟨[u],[]⟩=pure [(p,u)])
  (hg:∀ds kk,g ds kk->bareL ds=true/\ds.length=L.names.length+1)
  (hb:∀(A:Around) (outer:List PySem.Env) (s:Shared) (H:Hp) (f:Addr) (cd:Value) (cl:List (Str × Addr)),Room k (A.deeper (PySem.W.envX L.qual L.scope s.heap.objs.size f cd cl))->EV (cxLam P w K mg base L p f cd cl A outer s H) TR m true L.body wb)
  (hr:∀ds kk,g ds kk->wb (ds.map some) λd _=>kk d):LamOk P w K mg base (k+1) L (spR K g):=by
 refine lam_of S hbind λA outer s H f cd cl y xs Q hroom isC hsp=>?_
 obtain ⟨ds,Fp,kk,rep,hgk,q⟩:=hsp
 obtain ⟨hbr,hlen⟩:=hg ds kk hgk
 obtain ⟨t,pt,gt⟩:=hb A outer s (rmC H (cl.map (·.2))) f cd cl hroom
 have repR:Reps K (rmC H (cl.map (·.2))) ds (y::xs) Fp:=rep.bare (λb ob e nf=>by rw [rmC_out (isC.out e λo _ z _=>nf _ _ z)];exact e) hbr
 refine ⟨t,pt,gt (λ_=>.non) (Any _) _ _ (λ_=>False) (ds.map some) (λd _=>kk d) _ (SR.readonly rfl ?_ λi d hli=>?_) (hr ds kk hgk) λv H2 W2 d ρ2 F2 pp hk hn=>?_⟩
 ·have:=repR.length
  simp at this ⊢
  omega
 ·have hli':ds[i]? = some d:=by
   have:=look_get hli
   rw [List.getElem?_map] at this
   cases e:ds[i]? with
   | none=>rw [e] at this;cases this
   | some d'=>rw [e] at this;simp at this;rw [this]
  obtain ⟨v,B,h1,h2,_⟩:=repR.get hli'
  refine ⟨rfl,v,B,?_,h2⟩
  rw [show some y::xs.map some=(y::xs).map some from rfl,List.getElem?_map,h1];rfl
 ·refine q v (putC H2 H (cl.map (·.2))) d F2 ⟨λb ob e=>?_,?_,(pp.own rfl).1,λa ha=>?_⟩ hk
  ·by_cases hb':b∈cl.map (·.2)
   ·rw [putC_in hb'];exact e
   ·rw [putC_out hb'];exact pp.fr.keep b ob (by rw [rmC_out hb'];exact e) λz=>z
  ·exact pp.rep.same λb ob e=>by rw [putC_out λhb'=>by rw [hn b hb'] at e;cases e];exact e
  ·obtain ⟨ob,e1,_⟩:=pp.rep.dom a ha
   have:a∉cl.map (·.2):=λhb'=>by rw [hn a hb'] at e1;cases e1
   have:=((pp.own rfl).2 a ha).1
   rwa [rmC_out ‹_›] at this
end
end PV
namespace PV
open PySem PySem.Spec L2
section
variable {X:Cx} {T:Tg} {m o:Bool} {e:Expr} {w:WE} {pos p q:Pos} {x y:Str} {k:Nat}
noncomputable def dSortTL:GA
 | [.dit kvs],k=>∃(ks:List (List Int)) (num:List Int->Int),kvs.map (·.1)=ks.map (λk=>k.map Sum.inl)/\(∀k∈ks,k≠[])/\kvs.length≠1/\kvs.length<=100000/\(∀x∈ks,∀y∈ks,HT.lexLt x y=decide (num x<num y)) /\
   ∀out:List (List Int),out.Perm ks->out.Pairwise (λx y=>num x<=num y)->k (.lst (out.map tupI))
 | _,_=>False
theorem cd_sortTL (hc:X.calm=true):CallD X (.builtin "sorted") dSortTL:=by
 refine ⟨_,call_sortTL hc,λH ds xs F k Q r g q=>?_⟩
 cases ds with
 | nil=>exact (show False from g).elim
 | cons d ds =>
  cases ds with
  | cons _ _=>cases d <;> exact (show False from g).elim
  | nil =>
   cases d with
   | dit kvs =>
    obtain ⟨v,rfl,rd⟩:=r.at1
    obtain ⟨ks,num,h1,h2,h3,h4,h5,g⟩:=g
    cases rd with
    | @dit a vs _ F e r9 =>
    refine ⟨a,vs,ks,num,rfl,.of e,by rw [r9.keys];exact h1,h2,by rw [r9.length];exact h3,by rw [r9.length];exact h4,h5,λout as D p1 p2 hl hb hD=>?_⟩
    have sm:Same H (upd H D (.lst (as.map V.ref))):=same_upd hD
    exact q (.ref D) _ (.lst (out.map tupI)) [D] ⟨sm,.lst upd_same (Reps.of_tups hl λi k b h6 h7=>sm _ _ (hb i b k h7 h6)),by simp,λb hb'=>by rw [List.mem_singleton.mp hb'];exact hD⟩ (g out p1 p2)
   | _=>exact (show False from g).elim
noncomputable def lsOf (d:D) (k:List D->Prop):Prop:=match d with
 | .lst xs=>k xs
 | _=>False
noncomputable def wAppMv (i j:Nat):WS:=λP ρ=>oget (look ρ i) λc=>lsOf c λxs=>xs.length<sizeLine/\oget (look ρ j) λd=>P.nx ((ρ.set j none).set i (some (.lst (xs++[d]))))
theorem sv_appMv {i j:Nat} {ap cp:Pos} (hij:i≠j:=by decide) (ti:T.own i=true:=by rfl) (tj:T.own j=true:=by rfl) (hi:X.N[i]? = some x:=by rfl) (hj:X.N[j]? = some y:=by rfl)
  (hv:Vis X.env.scope x:=by first | exact Or.inl rfl | exact Or.inr (Or.inl rfl) | exact Or.inr (Or.inr rfl)) (hd:(x == ("__debug__" : Str))=false:=by decide) (hcd:(x == ("__classdict__" : Str))=false:=by decide)
  (hv2:Vis X.env.scope y:=by first | exact Or.inl rfl | exact Or.inr (Or.inl rfl) | exact Or.inr (Or.inr rfl)) (hd2:(y == ("__debug__" : Str))=false:=by decide) (hcd2:(y == ("__classdict__" : Str))=false:=by decide)
  (b2:attributeBase (.Name x p) "append" X.env (eval (.Name x p) X.env)=eval (.Name x p) X.env:=by rfl)
  (f2:((backTo cp (starEach [.Name y q] X.env)).all (λx=>!x.1) && (backToKw cp (keywordEach [] X.env)).all (λx=>x.1.isSome)
   && decide (([.Name y q]:List Expr).length+([]:List Keyword).length+(if ([]:List Keyword).isEmpty then 0 else 1)<30))=true:=by rfl)
  (l2:(ap.endLine == cp.line)=true:=by rfl) (s2:starEach [.Name y q] X.env=(false,eval (.Name y q) X.env)::starEach [] X.env:=by rfl) (q2:(backTo cp (starEach [] X.env)).any (·.1)=false:=by rfl)
  (hs:swapsWith (.Call (.Attribute (.Name x p) "append" ap) [.Name y q] [] cp) none pos.line X.env=pure false:=by rfl) :
  SV X T (.Expr (.Call (.Attribute (.Name x p) "append" ap) [.Name y q] [] cp) pos) (wAppMv i j):=by
 refine ⟨_,ps_expr (pe_bm PySem.F.plainAttrs_list PySem.F.slot_list_append PySem.F.type_list_append mt_append (pe_var hi hv hd hcd) (pa_cons (pe_var hj hv2 hd2 hcd2) pa_nil s2) b2 f2 l2 s2 q2) hs,λz R σ H W ρ P E s hw l=>?_⟩
 obtain ⟨c,hl0,hw⟩:=oget_some hw
 obtain ⟨xs,rfl⟩:∃xs,c=D.lst xs:=by
  clear hl0
  cases c with
  | lst xs=>exact ⟨xs,rfl⟩
  | _=>exact (show False from hw).elim
 obtain ⟨hz,hw⟩:=hw
 obtain ⟨d,hlj,qn⟩:=oget_some hw
 obtain ⟨fp,s0⟩:=s
 obtain ⟨v0,hv0,r0⟩:=s0.at_ i _ hl0
 obtain ⟨vj,hvj,rj⟩:=s0.at_ j d hlj
 obtain ⟨nd0,sw0⟩:=s0.own i _ hl0 ti
 obtain ⟨ndj,swj⟩:=s0.own j d hlj tj
 have dij:=s0.dis i j _ d hl0 hlj ti tj hij
 obtain ⟨l0,ys,G,rfl,e0,hF,rG⟩:∃(l0:Addr) (ys:List V) (G:List Addr),v0=.ref l0/\H l0=some (.lst ys)/\fp i=l0::G/\Reps X.K H xs ys G:=by
  generalize fp i=Fi at r0
  cases r0 with
  | @lst l0 ys _ G e r=>exact ⟨l0,ys,G,rfl,e,rfl,r⟩
 refine ⟨_,hv0,.inl ⟨rfl,_,.of e0⟩,vj,hvj,l0,ys,vj,rfl,rfl,e0,by rw [rG.length];exact hz,?_⟩
 have hm0:l0∈fp i:=by rw [hF];exact List.mem_cons_self
 have hWl:=sw0 l0 hm0
 have nl:l0∉fp j:=dij l0 hm0
 have nG:l0∉G:=by rw [hF] at nd0;exact (List.nodup_cons.mp nd0).1
 have key:∀k e,look (ρ.set j none) k=some e->k≠j/\look ρ k=some e:=λk e h=>by
  rw [look_set] at h
  split at h
  ·cases h
  ·refine ⟨λz=>?_,h⟩
   subst z
   rename_i hn
   exact hn ⟨rfl,look_lt hlj⟩
 have s1:SR0 X.K T z R H (λa=>W a/\a∉fp j) σ (ρ.set j none) fp :=
  ⟨by rw [List.length_set];exact s0.len,λa h=>s0.wd a h.1,λk e h=>s0.at_ k e (key k e h).2,λk e h t=>⟨(s0.own k e (key k e h).2 t).1,λa ha=>⟨(s0.own k e (key k e h).2 t).2 a ha,λha'=>s0.dis k j e d (key k e h).2 hlj t tj (key k e h).1 a ha ha'⟩⟩,
   λk e h t=>s0.ro k e (key k e h).2 t,λa h=>s0.wr a h.1,s0.rd,λk n e e' h h' t t'=>s0.dis k n e e' (key k e h).2 (key n e' h').2 t t',s0.fix⟩
 have hli:look (ρ.set j none) i=some (.lst xs):=by rw [look_set_ne hij];exact hl0
 have rep:Rep X.K (upd H l0 (.lst (ys++[vj]))) (.lst (xs++[d])) (.ref l0) (l0::(G++fp j)):=.lst upd_same ((rG.upd e0 rfl nG).snoc (rj.upd e0 rfl nl))
 have nd':(l0::(G++fp j)).Nodup:=by
  have:=nodup_ins nd0 ndj λa ha ha'=>dij a ha' ha
  rwa [hF] at this
 have sF:=s1.write hli ti hv0 hm0 (H':=upd H l0 (.lst (ys++[vj]))) upd_keep ⟨_,upd_same,rfl⟩ rep nd' (λa ha=>by
  rcases List.mem_cons.mp ha with rfl | ha
  ·exact .inl hm0
  ·rcases List.mem_append.mp ha with ha | ha
   ·exact .inl (by rw [hF];exact List.mem_cons_of_mem _ ha)
   ·exact .inr ⟨λh=>h.2 ha,s0.wr a (swj a ha)⟩)
 refine l.nx R σ _ _ _ sF ⟨λb ob e nb=>upd_keep b ob e λz=>nb (by rw [z];exact hWl),λb e=>?_,imm_upd e0 rfl,λb hb=>.inl ?_⟩ qn
 ·by_cases hb:b=l0
  ·rw [hb,upd_same] at e;cases e
  ·rw [upd_ne hb] at e;exact e
 ·rcases hb with hb | hb
  ·exact hb.1
  ·rcases List.mem_cons.mp hb with rfl | hb
   ·exact hWl
   ·rcases List.mem_append.mp hb with hb | hb
    ·exact sw0 b (by rw [hF];exact List.mem_cons_of_mem _ hb)
    ·exact swj b hb
noncomputable def mk1:D->D->Option D
 | .dik kvs,.int j=>some (.dik (putD kvs (.inl j) (.bl true)))
 | .dit kvs,.tup l=>(keysOf l).map λks=>.dit (putD kvs ks (.bl true))
 | _,_=>none
noncomputable def markD:D->List D->Option D
 | d,[]=>some d
 | d,e::r=>(mk1 d e).bind λd'=>markD d' r
noncomputable def szD:D->Nat
 | .dik kvs=>kvs.length
 | .dit kvs=>kvs.length
 | _=>0
theorem put_all {κ:Type} [DecidableEq κ] {kvs:List (κ × D)} {k:κ} {v:D} (h:(kvs.all λkv=>kv.2.pure)=true) (hv:v.pure=true):((putD kvs k v).all λkv=>kv.2.pure)=true:=by
 rw [List.all_eq_true] at h ⊢
 intro p hp
 unfold putD at hp
 split at hp
 ·obtain ⟨r,hr,rfl⟩:=List.mem_map.mp hp
  split
  ·exact hv
  ·exact h r hr
 ·rcases List.mem_append.mp hp with hp | hp
  ·exact h p hp
  ·rw [List.mem_singleton.mp hp];exact hv
theorem mk1_inv {sd ed sd':D} (h:mk1 sd ed=some sd'):(∃kvs j,sd=.dik kvs/\ed=.int j)\/∃kvs l,sd=.dit kvs/\ed=.tup l:=by
 cases sd with
 | dik kvs=>cases ed with
  | int j=>exact .inl ⟨kvs,j,rfl,rfl⟩
  | _=>cases h
 | dit kvs=>cases ed with
  | tup l=>exact .inr ⟨kvs,l,rfl,rfl⟩
  | _=>cases h
 | _=>cases h
theorem mk1_ok {K:PySem.W.Frag} {H:Hp} {sd sd' ed:D} {a:Addr} {v:V} {F:List Addr} (r:Rep K H sd (.ref a) F) (hf:flatD sd=true) (hm:mk1 sd ed=some sd') (re:Rep K H ed v []) (hz:szD sd<sizeLine) :
  ∃ob,imm ob=false/\H a≠none/\(∃o0,H a=some o0/\imm o0=false)/\DPut H a v (.bl true) (upd H a ob)/\Rep K (upd H a ob) sd' (.ref a) [a]/\flatD sd'=true/\szD sd'<=szD sd+1:=by
 rcases mk1_inv hm with ⟨kvs,j,rfl,rfl⟩ | ⟨kvs,l,rfl,rfl⟩
 ·cases hm
  obtain rfl:=re.iInt
  obtain ⟨a',vs,G,e0,_,e,r9⟩:=r.iDik
  cases e0
  have hG:=r9.pure hf
  subst hG
  obtain ⟨G',rp,sub⟩:=(r9.upd (ob':=.dK (putK vs (.inl j) (.bl true))) e rfl (by simp)).put (k:=.inl j) (.bl true)
  have:G'=[]:=List.sublist_nil.mp sub
  subst this
  exact ⟨_,rfl,by rw [e];simp,⟨_,e,rfl⟩,DPut.k (k:=.inl j) e (by rw [r9.length];exact hz),.dik upd_same rp,put_all hf rfl,length_putD _ _ _⟩
 ·obtain ⟨ks,hk,rfl⟩:=Option.map_eq_some_iff.mp hm
  obtain ⟨b,ys,rfl,e2,r2⟩:=re.iTup
  have hx:=r2.keys hk
  subst hx
  obtain ⟨a',vs,G,e0,_,e,r9⟩:=r.iDit
  cases e0
  have hG:=r9.pure hf
  subst hG
  obtain ⟨G',rp,sub⟩:=(r9.upd (ob':=.dT (putK vs ks (.bl true))) e rfl (by simp)).put (k:=ks) (.bl true)
  have:G'=[]:=List.sublist_nil.mp sub
  subst this
  exact ⟨_,rfl,by rw [e];simp,⟨_,e,rfl⟩,DPut.t (k:=ks) e e2 (by rw [r9.length];exact hz),.dit upd_same rp,put_all hf rfl,length_putD _ _ _⟩
theorem markD_snoc:∀{ds:List D} {sd:D} {e:D},markD sd (ds++[e])=(markD sd ds).bind λd=>mk1 d e
 | [],sd,e=>by simp [markD]
 | d::ds,sd,e=>by
  rw [List.cons_append]
  show (mk1 sd d).bind (λd'=>markD d' (ds++[e]))=((mk1 sd d).bind λd'=>markD d' ds).bind λd=>mk1 d e
  cases mk1 sd d with
  | none=>rfl
  | some d'=>exact markD_snoc
theorem markD_take {ds:List D} {sd sd':D} (h:markD sd ds=some sd') (i:Nat):∃d,markD sd (ds.take i)=some d:=by
 induction ds generalizing sd i with
 | nil=>exact ⟨sd,by simp [markD]⟩
 | cons e ds ih =>
  cases i with
  | zero=>exact ⟨sd,rfl⟩
  | succ i =>
   have h:(mk1 sd e).bind (λd'=>markD d' ds)=some sd':=h
   obtain ⟨d',h1,h2⟩:=Option.bind_eq_some_iff.mp h
   obtain ⟨d,h3⟩:=ih h2 i
   exact ⟨d,by show (mk1 sd e).bind (λd'=>markD d' (ds.take i))=some d;rw [h1];exact h3⟩
noncomputable def wMark (s j t:Nat):WS:=λP ρ=>oget (look ρ s) λsd=>oget (look ρ j) λg=>lsOf g λds=>t<ρ.length/\pureL ds=true/\flatD sd=true/\szD sd+ds.length<sizeLine/\oget (markD sd ds) λsd'=>oget ds.getLast? λe=>P.nx ((ρ.set s (some sd')).set t (some e))
theorem sv_mark {s j t:Nat} {n:Str} {tp gp sp tp2 ps' apos bp:Pos} {bj} (hu:X.A.units+1<cLine) (hp:PassesOwn (model X.prog X.w) X.A X.env X.xe) (hN:X.N.Nodup) (hsj:s≠j:=by decide) (hst:s≠t:=by decide) (hjt:j≠t:=by decide)
  (ts:T.own s=true:=by rfl) (tj:T.own j=true:=by rfl) (hs:X.N[s]? = some x:=by rfl) (hj:X.N[j]? = some y:=by rfl) (ht:X.N[t]? = some n:=by rfl) (hto:t∉T.io:=by decide)
  (vs:Vis X.env.scope x:=by first | exact Or.inl rfl | exact Or.inr (Or.inl rfl) | exact Or.inr (Or.inr rfl)) (vj:Vis X.env.scope y:=by first | exact Or.inl rfl | exact Or.inr (Or.inl rfl) | exact Or.inr (Or.inr rfl)) (vt:Vis X.env.scope n:=by first | exact Or.inl rfl | exact Or.inr (Or.inl rfl) | exact Or.inr (Or.inr rfl))
  (lt:Loc X.env.scope n:=by first | exact Or.inl rfl | exact Or.inr rfl) (hf:X.fn n=true\/X.env.scope.names.lookup n=some .local:=by first | exact .inl rfl | exact .inr rfl | assumption)
  (d1:(x == ("__debug__" : Str))=false:=by decide) (d2:(y == ("__debug__" : Str))=false:=by decide) (d3:(n == ("__debug__" : Str))=false:=by decide) (k1:(x == ("__classdict__" : Str))=false:=by decide) (k2:(y == ("__classdict__" : Str))=false:=by decide) (k3:(n == ("__classdict__" : Str))=false:=by decide)
  (ha:∀v,assign (.Subscript (.Name x sp) (.Name n tp2) ps') X.env v=(do
   let ov ← holding [v] (eval (.Name x sp) X.env)
   let iv ← holding [v,ov] (eval (.Name n tp2) X.env)
   standAt ps'
   holding [v,ov,iv] (setItem ov iv v)
   release [v,ov,iv] []):=by intro _;rfl) (a1:swapsWithSole [.Subscript (.Name x sp) (.Name n tp2) ps'] (.Constant (.bool true) bj bp) apos.line X.env=pure false:=by rfl) (a2:swappedStores [.Subscript (.Name x sp) (.Name n tp2) ps'] (.Constant (.bool true) bj bp) X.env=pure none:=by rfl)
  (a3:(assignEach [.Subscript (.Name x sp) (.Name n tp2) ps'] X.env).map (·.2)=[assign (.Subscript (.Name x sp) (.Name n tp2) ps') X.env]:=by rfl) (hc:X.calm=true:=by rfl) (hfs:∀x,foldedSetIterable (.Name y gp) X.env x=pure x:=by intro _;rfl) :
  SV X T (.For (.Name n tp) (.Name y gp) [.Assign [.Subscript (.Name x sp) (.Name n tp2) ps'] (.Constant (.bool true) bj bp) apos] [] pos) (wMark s j t):=by
 refine ⟨_,ps_for hp hc (pi_seq (pe_var hj vj d2 k2)) (pg_name (i:=t) hN ht lt hf) (pss_one (ps_asg pe_bl (pg_sub (pe_var hs vs d1 k1) (pe_var ht vt d3 k3) (PSet.or set_list (set_dict hu)) ha) a1 a2 a3)) hfs,λz R σ H W ρ P E sr hw l=>?_⟩
 obtain ⟨sd,hls,hw⟩:=oget_some hw
 obtain ⟨g,hlj,hw⟩:=oget_some hw
 obtain ⟨ds,rfl⟩:∃ds,g=D.lst ds:=by
  clear hlj
  cases g with
  | lst ds=>exact ⟨ds,rfl⟩
  | _=>exact (show False from hw).elim
 obtain ⟨htl,hpu,hfl,hz,hw⟩:=hw
 obtain ⟨sd',hmk,hw⟩:=oget_some hw
 obtain ⟨le,hle,qn⟩:=oget_some hw
 obtain ⟨fp,s0⟩:=sr
 obtain ⟨vs0,hvs,rs⟩:=s0.at_ s _ hls
 obtain ⟨vj0,hvj,rj⟩:=s0.at_ j _ hlj
 obtain ⟨nds,sws⟩:=s0.own s _ hls ts
 obtain ⟨ndj,swj⟩:=s0.own j _ hlj tj
 have dsj:=s0.dis s j _ _ hls hlj ts tj hsj
 obtain ⟨a,rfl,hFs⟩:=rs.flat1 hfl
 obtain ⟨b,xs,rfl,eb,rx,hFj⟩:∃(b:Addr) (xs:List V),vj0=.ref b/\H b=some (.lst xs)/\Reps X.K H ds xs []/\fp j=[b]:=by
  generalize fp j=Fj at rj
  cases rj with
  | @lst b xs _ G e r =>
   obtain ⟨hG,r⟩:=r.pure hpu
   exact ⟨b,xs,rfl,e,r,by rw [hG]⟩
 have hab:b≠a:=λz=>dsj a (by rw [hFs];simp) (by rw [hFj,z];simp)
 have hxl:xs.length=ds.length:=rx.length
 have tlen:t<σ.length:=by rw [← s0.len];exact htl
 refine ⟨.ref b,hvj,b,rfl,.inl ⟨⟨xs,.of eb⟩,λi mm σ' H'=>mm=ds.length-i/\i<=ds.length/\∃sdi,markD sd (ds.take i)=some sdi/\σ'=(if i=0 then σ else σ.set t (xs[i-1]?))/\(∀c,c≠a->H' c=H c)/\Rep X.K H' sdi (.ref a) [a]/\flatD sdi=true/\szD sdi<=szD sd+i/\(∃o0,H' a=some o0/\imm o0=false),⟨ds.length,by simp,Nat.zero_le _,sd,rfl,by simp,λ_ _=>rfl,by rw [hFs] at rs;exact rs,hfl,Nat.le_refl _,?_⟩,?_⟩⟩
 ·exact s0.wd a (sws a (by rw [hFs];simp))
 rintro i mm σ2 H2 ⟨rfl,hi,sdi,m1,m2,m3,m4,m5,m6,m7⟩
 have e2:H2 b=some (.lst xs):=by rw [m3 b hab];exact eb
 by_cases hlt:i<ds.length
 ·refine .inr ⟨⟨xs,xs[i]'(by omega),.of e2,List.getElem?_eq_getElem (by omega)⟩,λσ' H'=>i+1<=ds.length/\∃sdi,markD sd (ds.take (i+1))=some sdi/\σ'=σ.set t (xs[i]?)/\(∀c,c≠a->H' c=H c)/\Rep X.K H' sdi (.ref a) [a]/\flatD sdi=true/\szD sdi<=szD sd+(i+1)/\(∃o0,H' a=some o0/\imm o0=false),λσ' H' ⟨h1,h2⟩=>⟨ds.length-(i+1),by omega,rfl,h1,by simpa using h2⟩,λv H3 yl=>?_⟩
  obtain ⟨rfl,yl⟩:=yl
  have hv:=yl xs (.of e2)
  obtain ⟨dn,hdn⟩:=markD_take hmk (i+1)
  rw [List.take_add_one,List.getElem?_eq_getElem hlt] at hdn
  have hdn':markD sd (ds.take i++[ds[i]])=some dn:=hdn
  rw [markD_snoc,m1] at hdn'
  have hdn':mk1 sdi ds[i]=some dn:=hdn'
  obtain ⟨x1,B,hx1,rx1,sx1⟩:=rx.get (List.getElem?_eq_getElem hlt)
  rw [hv] at hx1
  cases hx1
  have hB:B=[]:=List.sublist_nil.mp sx1
  subst hB
  have rv2:Rep X.K H3 ds[i] v []:=rx1.frame (λc ob e him=>by
   by_cases hc':c=a
   ·obtain ⟨o1,g1,g2⟩:=s0.wd a (sws a (by rw [hFs];simp))
    rw [hc',g1] at e;cases e;rw [g2] at him;cases him
   ·rw [m3 c hc'];exact e) (λc hc'=>nomatch hc')
  obtain ⟨ob,i1,_,i3,i4,i5,i6,i7⟩:=mk1_ok m4 m5 hdn' rv2 (by omega)
  have hts:((σ2.set t (some v)):L2.St)[s]? = some (some (.ref a)):=by
   rw [List.getElem?_set_ne (Ne.symm hst),m2]
   split
   ·exact hvs
   ·rw [List.getElem?_set_ne (Ne.symm hst)];exact hvs
  have l2t:t<σ2.length:=by
   rw [m2]
   split
   ·exact tlen
   ·rw [List.length_set];exact tlen
  refine ⟨.ref a,hts,v,by rw [List.getElem?_set_self l2t],.inr ⟨a,_,rfl,i4,by omega,dn,?_,?_,λc hc'=>?_,i5,i6,by omega,⟨ob,upd_same,i1⟩⟩⟩
  ·rw [List.take_add_one,List.getElem?_eq_getElem hlt];exact hdn
  ·rw [hv,m2]
   split
   ·rfl
   ·rw [List.set_set]
  ·rw [upd_ne hc'];exact m3 c hc'
 ·have ei:i=ds.length:=by omega
  subst ei
  rw [List.take_length] at m1
  rw [hmk] at m1
  cases m1
  have hne:ds≠[]:=λz=>by rw [z] at hle;cases hle
  have hpos:0<ds.length:=List.length_pos_iff.mpr hne
  have hlast:ds[ds.length-1]? = some le:=by rw [← hle,List.getLast?_eq_getElem?]
  obtain ⟨xl,B,hxl1,rxl,sxl⟩:=rx.get hlast
  have hB:B=[]:=List.sublist_nil.mp sxl
  subst hB
  rw [if_neg (by omega),hxl1] at m2
  refine .inl ⟨⟨xs,.of e2,by omega⟩,?_⟩
  have hWa:=sws a (by rw [hFs];simp)
  have kp:∀c u,H c=some u->c≠a->H2 c=some u:=λc u e hc'=>by rw [m3 c hc'];exact e
  have sF:=s0.write hls ts hvs (by rw [hFs];simp) kp m7 m4 (by simp) (λc hc'=>.inl (by rw [hFs];exact hc'))
  have fF:=(FrW.refl H W).write hWa (s0.wd a hWa) (H':=H2) kp m7 (F':=[a]) (λc hc'=>.inl (by rw [List.mem_singleton.mp hc'];exact hWa))
  have hpl:le.pure=true:=pureL_iff.mp hpu le (List.mem_of_getElem? hlast)
  have rl2:Rep X.K H2 le xl []:=rxl.frame (λc ob e him=>by
   by_cases hc':c=a
   ·obtain ⟨o1,g1,g2⟩:=s0.wd a hWa
    rw [hc',g1] at e;cases e;rw [g2] at him;cases him
   ·exact kp c ob e hc') (λc hc'=>nomatch hc')
  obtain ⟨fp2,sF0⟩:=sF
  obtain ⟨R',sB⟩:=sF0.bind (i:=t) hto rl2 (by simp) (λc hc'=>nomatch hc')
  rw [m2]
  exact l.nx R' _ H2 _ _ sB (frw_more fF λc hc'=>nomatch hc'.2) qn
end
end PV
namespace PV
open PySem PySem.Spec L2
theorem hu66 {k:Nat} {A:Around} (r:Room k A):A.units+66<cLine:=by have:=r.un;omega
theorem toDats_get:∀{ds:List D} {i:Nat},(toDats ds)[i]? = ds[i]?.map toDat
 | [],_=>by simp [toDats]
 | d::r,0=>by simp [toDats]
 | d::r,i+1=>by simpa [toDats] using toDats_get (ds:=r) (i:=i)
section
variable {X:Cx} {T:Tg} {m o:Bool} {e:Expr} {w:WE} {pos p q:Pos} {x y:Str} {k:Nat}
noncomputable def gRemove:GM
 | .lst xs,[d],k=>eqOks 9 xs=true/\eqOk 9 d=true/\d.pure=true/\∃i:Nat,xs[i]? = some d/\(∀j e,j<i->xs[j]? = some e->e≠d)/\k .non (.lst (xs.eraseIdx i))
 | _,_,_=>False
theorem md_remove (hu:X.A.units+66<cLine):MtD X "list.remove" gRemove:=by
 refine ⟨_,mt_remove hu,λH d ds v xs F G k Q r nd rs ndG dis g q=>?_⟩
 cases d with
 | lst es =>
  cases ds with
  | nil=>exact (show False from g).elim
  | cons d ds =>
   cases ds with
   | cons _ _=>exact (show False from g).elim
   | nil =>
    obtain ⟨u,rfl,rd⟩:=rs.at1
    cases r with
    | @lst l ys _ F e r9 =>
     obtain ⟨h1,h2,hp,i,hi,hno,g⟩:=g
     obtain ⟨nl,nd⟩:=List.nodup_cons.mp nd
     obtain ⟨y,A,B,C,hy,hF,rB,rA,rC⟩:=r9.split hi
     have sub:=sub3 hF
     have nAC:l∉A++C:=λh=>nl (sub.subset h)
     refine ⟨l,ys,u,toDats es,toDat d,9,i,rfl,rfl,e,r9.dv 9 h1,rd.dv 9 h2,λe' he'=>?_,eqOk_kqd 9 d h2,Nat.le_refl _,by rw [toDats_get,hi];rfl,λj e' hj he' z=>?_,?_⟩
     ·exact List.all_eq_true.mp (eqOks_kqd 9 es h1) e' he'
     ·rw [toDats_get] at he'
      obtain ⟨e2,he2,rfl⟩:=Option.map_eq_some_iff.mp he'
      exact hno j e2 hj he2 (toDat_inj 9 9 e2 d (eqOks_iff.mp h1 e2 (List.mem_of_getElem? he2)) h2 z)
     ·refine q .non l _ .non _ (l::(A++C)) List.mem_cons_self rfl (.lst upd_same ?_) (List.nodup_cons.mpr ⟨nAC,nd.sublist sub⟩) (λa ha=>?_) .non g
      ·rw [erase_td,erase_td]
       exact (rA.append rC).upd e rfl nAC
      ·rcases List.mem_cons.mp ha with rfl | ha
       ·exact .inl List.mem_cons_self
       ·exact .inl (List.mem_cons_of_mem _ (sub.subset ha))
 | _=>exact (show False from g).elim
theorem r15_remove {xs:List D} {d:D} {k:D->D->Prop}:gRemove (.lst xs) [d] k=(eqOks 9 xs=true/\eqOk 9 d=true/\d.pure=true/\∃i:Nat,xs[i]? = some d/\(∀j e,j<i->xs[j]? = some e->e≠d)/\k .non (.lst (xs.eraseIdx i))):=rfl
end
end PV
namespace PV
open PySem PySem.Spec L2
section
variable {X:Cx} {T:Tg} {K:PySem.W.Frag} {z:Nat->V} {R:Addr->Prop} {H:Hp} {W:Addr->Prop} {σ:L2.St} {ρ ρ':Env}
theorem SR.weaker (s:SR K T z R H W σ ρ) (hl:ρ'.length=ρ.length) (h:∀i d,look ρ' i=some d->look ρ i=some d):SR K T z R H W σ ρ':=by
 obtain ⟨fp,s⟩:=s
 exact ⟨fp,hl.trans s.len,s.wd,λi d e=>s.at_ i d (h i d e),λi d e=>s.own i d (h i d e),λi d e=>s.ro i d (h i d e),s.wr,s.rd,λi j d d' e e'=>s.dis i j d d' (h i d e) (h j d' e'),s.fix⟩
theorem SR.stored (s:SR K T z R H W σ ρ) {t:Nat} {v:V} (ht:look ρ t=none) (hio:t∉T.io):SR K T z R H W (σ.set t (some v)) ρ:=by
 obtain ⟨fp,s⟩:=s
 refine ⟨fp,by rw [List.length_set];exact s.len,s.wd,λi d e=>?_,s.own,s.ro,s.wr,s.rd,s.dis,λi hi=>?_⟩
 ·obtain ⟨u,h1,h2⟩:=s.at_ i d e
  refine ⟨u,?_,h2⟩
  rw [List.getElem?_set_ne (λq=>by rw [q,e] at ht;cases ht)]
  exact h1
 ·rw [List.getElem?_set_ne (show t≠i from λq=>hio (by rw [q];exact hi))]
  exact s.fix i hi
end
noncomputable def appL (d:D):D->D
 | .lst xs=>.lst (xs++[d])
 | g=>g
noncomputable def mixL (d:D) (ds:List D) (i:Nat):List D:=(ds.take i).map (appL d)++ds.drop i
theorem mixL_at {d:D} {ds:List D} {i:Nat} (h:i<ds.length):(mixL d ds i)[i]? = some ds[i]/\(mixL d ds i).take i=(ds.take i).map (appL d)/\(mixL d ds i).drop (i+1)=ds.drop (i+1)/\mixL d ds (i+1)=(ds.take i).map (appL d)++appL d ds[i]::ds.drop (i+1):=by
 have hl:((ds.take i).map (appL d)).length=i:=by rw [List.length_map,List.length_take];omega
 unfold mixL
 refine ⟨?_,?_,?_,?_⟩
 ·rw [List.getElem?_append_right (by omega),hl,Nat.sub_self,List.drop_eq_getElem_cons h];rfl
 ·rw [List.take_append_of_le_length (by omega),List.take_of_length_le (by omega)]
 ·rw [List.drop_append,List.drop_of_length_le (by omega),hl,List.nil_append,List.drop_drop]
  congr 1
  omega
 ·rw [List.take_add_one,List.getElem?_eq_getElem h,List.map_append,List.append_assoc]
  rfl
section
variable {X:Cx} {T:Tg} {o:Bool} {e:Expr} {w:WE} {pos p q:Pos} {x y n:Str} {k:Nat}
noncomputable def wForApp (j t:Nat) (w:WE):WS:=λP ρ=>oget (look ρ j) λc=>lsOf c λds=>t<ρ.length/\∃d:D,d.pure=true/\(∀g∈ds,∃xs,g=.lst xs/\xs.length<sizeLine)/\(∀(ρ':Env) (Q:D->Env->Prop),Q d ρ'->w ρ' Q)/\P.nx ((ρ.set j (some (.lst (ds.map (appL d))))).set t none)
theorem sv_forApp {j t:Nat} {tp gp tp2 ap cp ep:Pos} (hp:PassesOwn (model X.prog X.w) X.A X.env X.xe) (he:EV X T false true e w) (hN:X.N.Nodup) (hjt:j≠t:=by decide)
  (tj:T.own j=true:=by rfl) (hj:X.N[j]? = some y:=by rfl) (ht:X.N[t]? = some n:=by rfl) (hto:t∉T.io:=by decide)
  (vj:Vis X.env.scope y:=by first | exact Or.inl rfl | exact Or.inr (Or.inl rfl) | exact Or.inr (Or.inr rfl)) (vt:Vis X.env.scope n:=by first | exact Or.inl rfl | exact Or.inr (Or.inl rfl) | exact Or.inr (Or.inr rfl))
  (lt:Loc X.env.scope n:=by first | exact Or.inl rfl | exact Or.inr rfl) (hf:X.fn n=true\/X.env.scope.names.lookup n=some .local:=by first | exact .inl rfl | exact .inr rfl | assumption)
  (d2:(y == ("__debug__" : Str))=false:=by decide) (d3:(n == ("__debug__" : Str))=false:=by decide) (k2:(y == ("__classdict__" : Str))=false:=by decide) (k3:(n == ("__classdict__" : Str))=false:=by decide)
  (b2:attributeBase (.Name n tp2) "append" X.env (eval (.Name n tp2) X.env)=eval (.Name n tp2) X.env:=by rfl)
  (f2:((backTo cp (starEach [e] X.env)).all (λx=>!x.1) && (backToKw cp (keywordEach [] X.env)).all (λx=>x.1.isSome)
   && decide (([e]:List Expr).length+([]:List Keyword).length+(if ([]:List Keyword).isEmpty then 0 else 1)<30))=true:=by rfl)
  (l2:(ap.endLine == cp.line)=true:=by rfl) (s2:starEach [e] X.env=(false,eval e X.env)::starEach [] X.env:=by rfl) (q2:(backTo cp (starEach [] X.env)).any (·.1)=false:=by rfl)
  (hs:swapsWith (.Call (.Attribute (.Name n tp2) "append" ap) [e] [] cp) none ep.line X.env=pure false:=by rfl) (hc:X.calm=true:=by rfl) (hfs:∀x,foldedSetIterable (.Name y gp) X.env x=pure x:=by intro _;rfl) :
  SV X T (.For (.Name n tp) (.Name y gp) [.Expr (.Call (.Attribute (.Name n tp2) "append" ap) [e] [] cp) ep] [] pos) (wForApp j t w):=by
 obtain ⟨te,pe,ge⟩:=he
 refine ⟨_,ps_for hp hc (pi_seq (pe_var hj vj d2 k2)) (pg_name (i:=t) hN ht lt hf) (pss_one (ps_expr (pe_bm PySem.F.plainAttrs_list PySem.F.slot_list_append PySem.F.type_list_append mt_append (pe_var ht vt d3 k3) (pa_cons pe pa_nil s2) b2 f2 l2 s2 q2) hs)) hfs,λz R σ H W ρ P E sr hw l=>?_⟩
 obtain ⟨g,hlj,hw⟩:=oget_some hw
 obtain ⟨ds,rfl⟩:∃ds,g=D.lst ds:=by
  clear hlj
  cases g with
  | lst ds=>exact ⟨ds,rfl⟩
  | _=>exact (show False from hw).elim
 obtain ⟨htl,d,hpd,hall,hcst,qn⟩:=hw
 have jl:=look_lt hlj
 obtain ⟨fp,s0⟩:=id sr
 obtain ⟨vj0,hvj,rj⟩:=s0.at_ j _ hlj
 obtain ⟨b,vs,F0,rfl,eb,r0⟩:∃(b:Addr) (vs:List V) (F0:List Addr),vj0=.ref b/\H b=some (.lst vs)/\Reps X.K H ds vs F0:=by
  generalize fp j=Fj at rj
  cases rj with
  | @lst b vs _ G e r=>exact ⟨b,vs,G,rfl,e,r⟩
 have hvl:vs.length=ds.length:=r0.length
 have tlen:t<σ.length:=by rw [← s0.len];exact htl
 refine ⟨.ref b,hvj,b,rfl,.inl ⟨⟨vs,.of eb⟩,λi mm σ' H'=>mm=ds.length-i/\i<=ds.length/\∃R' W',SR X.K T z R' H' W' σ' ((ρ.set j (some (.lst (mixL d ds i)))).set t none)/\FrW H W H' W'/\H' b=some (.lst vs)/\σ'[j]? = some (some (.ref b)),⟨ds.length,by simp,Nat.zero_le _,R,W,?_,FrW.refl _ _,eb,hvj⟩,?_⟩⟩
 ·refine sr.weaker (by rw [List.length_set,List.length_set]) λi d' hi=>?_
  rw [look_set] at hi
  split at hi
  ·cases hi
  ·rw [look_set] at hi
   split at hi
   ·rename_i h9
    rw [h9.1,hlj,← hi]
    simp [mixL]
   ·exact hi
 rintro i mm σ2 H2 ⟨rfl,hi,R2,W2,sr2,f2',e2,hj2⟩
 have hlm:look ((ρ.set j (some (.lst (mixL d ds i)))).set t none) j=some (.lst (mixL d ds i)):=by
  rw [look_set_ne hjt,look_set_same jl]
 have hlt0:look ((ρ.set j (some (.lst (mixL d ds i)))).set t none) t=none:=by
  rw [look_set_same (by rw [List.length_set];exact htl)]
 by_cases hlt:i<ds.length
 ·refine .inr ⟨⟨vs,vs[i]'(by omega),.of e2,List.getElem?_eq_getElem (by omega)⟩,λσ' H'=>i+1<=ds.length/\∃R' W',SR X.K T z R' H' W' σ' ((ρ.set j (some (.lst (mixL d ds (i+1))))).set t none)/\FrW H W H' W'/\H' b=some (.lst vs)/\σ'[j]? = some (some (.ref b)),λσ' H' ⟨h1,h2⟩=>⟨ds.length-(i+1),by omega,rfl,h1,h2⟩,λv H3 yl=>?_⟩
  obtain ⟨rfl,yl⟩:=yl
  have hv:=yl vs (.of e2)
  have sr3:=sr2.stored (v:=v) hlt0 hto
  have hσt:(σ2.set t (some v))[t]? = some (some v):=by
   have h9:t<σ2.length:=by
    obtain ⟨fp9,s9⟩:=id sr2
    rw [← s9.len,List.length_set,List.length_set];exact htl
   rw [List.getElem?_set_self h9]
  obtain ⟨m1,m2,m3,m4⟩:=mixL_at (d:=d) hlt
  obtain ⟨xs,hxs,hxz⟩:=hall ds[i] (List.getElem_mem hlt)
  -- what is known of the list ahead of the step
  obtain ⟨fp3,s3⟩:=id sr3
  have hσj:(σ2.set t (some v))[j]? = some (some (.ref b)):=by rw [List.getElem?_set_ne (Ne.symm hjt)];exact hj2
  have parts:∀(H4:Hp) (fp4:Nat->List Addr),H4 b=some (.lst vs)->Rep X.K H4 (.lst (mixL d ds i)) (.ref b) (fp4 j)->∃(l0:Addr) (ys:List V) (A G C:List Addr),v=.ref l0/\H4 l0=some (.lst ys)/\Reps X.K H4 xs ys G/\Reps X.K H4 ((ds.take i).map (appL d)) (vs.take i) A/\Reps X.K H4 (ds.drop (i+1)) (vs.drop (i+1)) C/\fp4 j=b::(A++(l0::G)++C):=λH4 fp4 e4 r4=>by
   generalize fp4 j=F4 at r4
   cases r4 with
   | @lst _ vs' _ G4 e5 r5 =>
    rw [e4] at e5
    cases e5
    obtain ⟨x1,A,B,C,hx1,hF,rB,rA,rC⟩:=r5.split m1
    rw [m2] at rA
    rw [m3] at rC
    rw [hv] at hx1
    cases hx1
    rw [hxs] at rB
    cases rB with
    | @lst l0 ys _ G el rl=>exact ⟨l0,ys,A,G,C,rfl,el,rl,rA,rC,by rw [hF]⟩
  obtain ⟨v3,hv3,rj3⟩:=s3.at_ j _ hlm
  rw [hσj] at hv3
  cases hv3
  obtain ⟨l0,ys,A,G,C,rfl,el,_,_,_,_⟩:=parts H3 fp3 e2 rj3
  refine ⟨.ref l0,hσt,.inl ⟨rfl,_,.of el⟩,?_⟩
  refine ge z R2 _ H3 W2 _ _ _ sr3 (hcst _ (λd' ρ9=>d'=d) rfl) λu H5 W5 d5 ρ5 F5 pp hq=>?_
  subst hq
  obtain ⟨sm,hW5,hρ5⟩:=pp.calm rfl
  subst hW5 hρ5
  obtain ⟨hF5,ru⟩:=pp.rep.pure hpd
  subst hF5
  obtain ⟨fp5,s5⟩:=id pp.sr
  obtain ⟨v5,hv5,rj5⟩:=s5.at_ j _ hlm
  rw [hσj] at hv5
  cases hv5
  obtain ⟨l5,ys5,A,G,C,e9,el5,rl,rA,rC,hF⟩:=parts H5 fp5 (sm _ _ e2) rj5
  cases e9
  have hylen:ys5.length=xs.length:=rl.length
  refine ⟨l0,ys5,u,rfl,rfl,el5,by rw [hylen];exact hxz,by omega,R2,λa=>W5 a\/a∈b::(A++(l0::G)++C),?_,?_,?_,hσj⟩
  all_goals (
   obtain ⟨nd5,sw5⟩:=s5.own j _ hlm tj
   rw [hF] at nd5 sw5
   have hbl:b≠l0:=λz9=>(List.nodup_cons.mp nd5).1 (by rw [z9];simp)
   have hm0:l0∈fp5 j:=by rw [hF];simp)
  ·have ndF:=(List.nodup_cons.mp nd5).2
   have nA:l0∉A:=λh9=>(List.nodup_append.mp (List.nodup_append.mp ndF).1).2.2 l0 h9 l0 (by simp) rfl
   have nG:l0∉G:=(List.nodup_cons.mp (List.nodup_append.mp (List.nodup_append.mp ndF).1).2.1).1
   have nC:l0∉C:=λh9=>(List.nodup_append.mp ndF).2.2 l0 (by simp) l0 h9 rfl
   have rep:Rep X.K (upd H5 l0 (.lst (ys5++[u]))) (.lst (mixL d5 ds (i+1))) (.ref b) (b::(A++(l0::G)++C)):=by
    refine .lst (by rw [upd_ne hbl];exact sm _ _ e2) ?_
    rw [m4,hxs]
    have hvs:vs=vs.take i ++ .ref l0::vs.drop (i+1):=by
     conv=>lhs;rw [← List.take_append_drop i vs]
     congr 1
     rw [List.drop_eq_getElem_cons (by omega)]
     congr 1
     rw [List.getElem?_eq_getElem (by omega)] at hv
     exact Option.some.inj hv
    rw [hvs,List.append_assoc]
    refine (rA.upd el5 rfl nA).append ?_
    have r9:Rep X.K (upd H5 l0 (.lst (ys5++[u]))) (.lst (xs++[d5])) (.ref l0) (l0::(G++[])):=.lst upd_same ((rl.upd el5 rfl nG).snoc (ru.upd el5 rfl (λh9=>nomatch h9)))
    rw [List.append_nil] at r9
    exact .cons r9 (rC.upd el5 rfl nC)
   have sF:=s5.write hlm tj hσj hm0 (H':=upd H5 l0 (.lst (ys5++[u]))) upd_keep ⟨_,upd_same,rfl⟩ rep nd5 (λa ha=>.inl (by rw [hF];exact ha))
   refine sF.weaker (by simp) λk9 d9 h9=>?_
   rw [look_set] at h9
   split at h9
   ·cases h9
   ·rename_i hnt
    have h9':=h9
    rw [look_set] at h9'
    rw [look_set]
    by_cases hk:k9=j
    ·subst hk
     rw [if_pos ⟨rfl,by simpa using jl⟩]
     rw [if_pos ⟨rfl,jl⟩] at h9'
     exact h9'
    ·rw [if_neg (λz9=>hk z9.1),look_set,if_neg (λz9=>hnt ⟨z9.1,by simpa using z9.2⟩),look_set,if_neg (λz9=>hk z9.1)]
     rw [if_neg (λz9=>hk z9.1)] at h9'
     exact h9'
  ·have hWl:=sw5 l0 (by simp)
   exact (f2'.trans pp.fr).write hWl (s5.wd l0 hWl) (H':=upd H5 l0 (.lst (ys5++[u]))) upd_keep ⟨_,upd_same,rfl⟩ (F':=b::(A++(l0::G)++C)) (λa ha=>.inl (sw5 a ha))
  ·rw [upd_ne hbl];exact sm _ _ e2
 ·have ei:i=ds.length:=by omega
  subst ei
  refine .inl ⟨⟨vs,.of e2,by omega⟩,l.nx R2 σ2 H2 W2 _ sr2 f2' ?_⟩
  have:mixL d ds ds.length=ds.map (appL d):=by simp [mixL]
  rw [this];exact qn
end
end PV
namespace L2
open PySem PySem.Spec PyProof.Rows
noncomputable def OnlyT (H:Hp):Prop:=∀b,H b=none\/(∃o xs,H b=some (.frz o (.lst xs)))\/∃ps,H b=some (.tbl ps)
noncomputable def tabH (TB:List (Addr × Array Value)) (H:Hp):Hp:=λb=>match TB.lookup b with
 | some ps=>some (.tbl ps)
 | none=>H b
theorem lookup_memT:∀{TB:List (Addr × Array Value)} {a:Addr} {ps:Array Value},TB.lookup a=some ps->(a,ps)∈TB
 | [],_,_,e=>by cases e
 | (b,x)::r,a,o,e=>by
  rw [List.lookup_cons] at e
  cases hb:a == b with
  | true=>rw [hb] at e;cases e;rw [eq_of_beq hb];exact .head _
  | false=>rw [hb] at e;exact .tail _ (lookup_memT e)
theorem law_callT {P:Program} {w:World} {K:PySem.W.Frag} {mg mb:Str->Option Value} {CX:CXT} {k:Nat} {fa a:Addr} {fd:FuncData} {x:Str} {sp:Sp} {s₁:Shared} {vs:List Value} {ns:List Int} {TB:List (Addr × Array Value)}
  (KX:K.In s₁.heap) (hnt:PySem.W.noTabs K=true) (hTB:∀p∈TB,s₁.heap.get? p.1=some (PySem.W.tabObj #[])) (hTC:∀p∈TB,isCodeTable s₁.heap p.1) (hTl:∀p∈TB,TB.lookup p.1=some p.2) (hbm:BltAt mg s₁.heap)
  (hns:s₁.heap.Ns mainGlobals mg) (hb:s₁.heap.Ns builtinsNs mb) (hbb:∀x:Str,x ≠ "__name__" -> mb x=bootBuiltins x) (hlim:s₁.heap.NoLimit) (hg:s₁.gens = #[])
  (ha:s₁.heap.get? a=some { cls:=.type "list",data:=.seq vs.toArray }) (hi:IntsAre vs ns) (hl:ns.length<=sizeLine) (hr:Room k callerA)
  (F:∀base:Heap,K.In base->base.Ns mainGlobals mg->BltAt mg base->FnOk P w K mg base CX k fa fd [x] sp) (hbind:∀(s:Shared) (u:Value),BindsTo s fd ⟨[u],[]⟩ [(x,u)])
  (hsp:∀H:Hp,OnlyT H->Tabs TB H->SqL K H a (ns.map V.int)->sp [.ref a] H (λv _=>v=.bl true) λ_ _ _=>False)
  (hCX:∀H e s',CX [] H s₁ (λ_ _ _=>False) e s'->False) :
  codeAny (model P w) callerA (.call (.ref fa) ⟨[.ref a],[]⟩) (λr s'=>r=.ok (.ret (.bool true))/\OldK s₁.heap s'.heap/\s'.os=s₁.os/\AllBare s'.gens) s₁:=by
 have rv:=vals_ints hi
 have lenV:=hi.length
 have tabNo:∀{b:Addr} {o:Obj},s₁.heap.get? b=some o->o.cls ≠ .none\/(∃es ep,o.data=.dict es ep)->TB.lookup b=none:=λ{b o} e d=>by
  cases q:TB.lookup b with
  | none=>rfl
  | some ps =>
   have:=hTB _ (lookup_memT q)
   rw [e] at this
   cases this
   rcases d with d | ⟨es,ep,d⟩
   ·exact absurd rfl d
   ·cases d
 have tabK:∀{b:Addr} {o:Obj},K.lookup b=some o->TB.lookup b=none:=λ{b o} e=>by
  cases q:TB.lookup b with
  | none=>rfl
  | some ps =>
   have h1:=hTB _ (lookup_memT q)
   rw [KX b o e] at h1
   cases h1
   have h2:=List.all_eq_true.mp hnt (b,_) (PySem.W.mem_of_lookupK e)
   exact absurd (show false=true from h2) Bool.false_ne_true
 have core:∀H:Hp,Only H->SqL K H a (ns.map V.int)->HOk P w H s₁.heap->(∀b,H b≠none->b=a)->(H a≠none->K.lookup a=none) ->
   codeAny (model P w) callerA (.call (.ref fa) ⟨[.ref a],[]⟩) (λr s'=>r=.ok (.ret (.bool true))/\OldK s₁.heap s'.heap/\s'.os=s₁.os/\AllBare s'.gens) s₁:=by
  intro H0 hO0 hS0 hok0 hA0 hK0
  have tb0:∀{b:Addr},TB.lookup b=none->tabH TB H0 b=H0 b:=λ{b} e=>by unfold tabH;rw [e]
  have tb1:∀{b:Addr} {ps:Array Value},TB.lookup b=some ps->tabH TB H0 b=some (.tbl ps):=λ{b ps} e=>by unfold tabH;rw [e]
  have taN:TB.lookup a=none:=tabNo ha (.inl (by simp))
  have hOT:OnlyT (tabH TB H0):=λb=>by
   cases q:TB.lookup b with
   | none=>rw [tb0 q];exact (hO0 b).imp id .inl
   | some ps=>exact .inr (.inr ⟨ps,tb1 q⟩)
  have hTT:Tabs TB (tabH TB H0):=λp hp=>⟨#[],by rw [tb1 (hTl p hp)];simp⟩
  have hST:SqL K (tabH TB H0) a (ns.map V.int):=by
   rcases hS0 with (h | ⟨o,h⟩) | h
   ·exact .inl (.inl (by rw [tb0 taN];exact h))
   ·exact .inl (.inr ⟨o,by rw [tb0 taN];exact h⟩)
   ·exact .inr h
  have hok:HOk P w (tabH TB H0) s₁.heap:=λb o e=>by
   cases q:TB.lookup b with
   | some ps =>
    rw [tb1 q] at e
    cases e
    exact ⟨#[],hTB _ (lookup_memT q),.inl rfl⟩
   | none =>
    rw [tb0 q] at e
    have hb':b=a:=hA0 b (by rw [e];simp)
    rcases hO0 b with z | ⟨ob,xs,z⟩
    ·rw [z] at e;cases e
    ·rw [z] at e
     cases e
     exact hok0 b _ z
  have hne:∀{b:Addr},tabH TB H0 b≠none->b=a\/∃ps,TB.lookup b=some ps:=λ{b} h=>by
   cases q:TB.lookup b with
   | some ps=>exact .inr ⟨ps,rfl⟩
   | none=>rw [tb0 q] at h;exact .inl (hA0 b h)
  generalize hH:tabH TB H0=H at hOT hTT hST hok hne
  have base_of:∀{b:Addr} {o:Obj},s₁.heap.get? b=some o->H b=none->(hidT s₁.heap H).get? b=some o:=λe n=>hidT_get e n
  have noB:∀{b:Addr} {o:Obj},s₁.heap.get? b=some o->TB.lookup b=none->(b=a->False)->H b=none:=λ{b o} e q n=>by
   cases z:H b with
   | none=>rfl
   | some u =>
    rcases hne (b:=b) (by rw [z];simp) with e' | ⟨ps,e'⟩
    ·exact (n e').elim
    ·rw [q] at e';cases e'
  have noA:∀{b:Addr} {o:Obj} {es:Array DictEntry} {ep:Nat},s₁.heap.get? b=some o->o.data=.dict es ep->H b=none:=λ{b o es ep} e d =>
   noB e (tabNo e (.inr ⟨_,_,d⟩)) λe'=>by
    subst e'
    rw [ha] at e;cases e
    have d':Data.seq vs.toArray _=Data.dict es ep:=d
    cases d'
  have nsK:∀{b:Addr} {m:Str->Option Value},s₁.heap.Ns b m->(hidT s₁.heap H).Ns b m:=λ{b m} ⟨o,es,ep,e,d,r⟩=>⟨o,es,ep,base_of e (noA e d),d,r⟩
  have hKb:K.In (hidT s₁.heap H):=λb o e=>base_of (KX b o e) (by
   cases z:H b with
   | none=>rfl
   | some u =>
    rcases hne (b:=b) (by rw [z];simp) with e' | ⟨ps,e'⟩
    ·subst e'
     have:H0 b≠none:=by rw [← tb0 taN,hH,z];simp
     rw [hK0 this] at e;cases e
    ·rw [tabK e] at e';cases e')
  have hBb:BltAt mg (hidT s₁.heap H):=by
   obtain ⟨bm,ob,b1,b2,b3,b4,b5,b6⟩:=hbm
   exact ⟨bm,ob,b1,b2,base_of b3 (noB b3 (tabNo b3 (.inl (by rw [b4];simp))) λe'=>by subst e';rw [ha] at b3;cases b3;cases b6),b4,b5,b6⟩
  have hM:Mod K mg (hidT s₁.heap H):=⟨hKb,nsK hns,⟨mb,nsK hb,hbb⟩,let ⟨mc,h1,h2⟩:=hlim;⟨mc,nsK h1,h2⟩⟩
  have e0:Env0 P w K mg (hidT s₁.heap H) callerA [] s₁ H:=⟨rfl,hM,λb o e=>of_hidT e,Nat.le_of_eq (hidT_size _ _),trivial,λb hb=>absurd (show b∈([]:List Addr) from hb) (by simp),hok,.of_eq hg⟩
  refine codeAny_mono ((F _ hKb (nsK hns) hBb).run callerA [] s₁ H ⟨[.ref a],[]⟩ [.ref a] [.ref a] _ _ hr e0 (hbind s₁ (.ref a)) (.cons rfl .nil) (hsp H hOT hTT hST)) λr s' h=>?_
  cases r with
  | error e=>exact (hCX H e s' h).elim
  | ok fl =>
   cases fl with
   | next=>exact False.elim h
   | brk=>exact False.elim h
   | cont=>exact False.elim h
   | ret u =>
    obtain ⟨v,H',os,bare,un,hok',r',q⟩:=h
    have q':v=.bl true:=q
    subst q'
    obtain rfl:u=Value.bool true:=r'
    have grown:∀{b:Addr} {ps:Array Value},H b=some (.tbl ps)->∃ts,s'.heap.get? b=some (PySem.W.tabObj ts):=λ{b ps} z=>by
     obtain ⟨more,z2⟩:=un.tbls b ps z
     obtain ⟨ts,e2,_⟩:=hok' b _ z2
     exact ⟨ts,e2⟩
    have tabIs:∀{b:Addr} {ps:Array Value},H b=some (.tbl ps)->(b,ps)∈TB:=λ{b ps} z=>by
     cases q:TB.lookup b with
     | some ps' =>
      have:=tb1 q
      rw [hH,z] at this
      cases this
      exact lookup_memT q
     | none =>
      have:=tb0 q
      rw [hH,z] at this
      rcases hO0 b with z' | ⟨ob,xs,z'⟩
      ·rw [z'] at this;cases this
      ·rw [z'] at this;cases this
    have keep:∀b o,s₁.heap.get? b=some o->(∀ps,H b≠some (.tbl ps))->s'.heap.get? b=some o:=λb o e nt=>by
     rcases hOT b with z | ⟨ob,xs,z⟩ | ⟨ps,z⟩
     ·exact un.keep b o e z (by intro z;exact absurd (show b∈([]:List Addr) from z) (by simp)) (by simp)
     ·have z2:=un.frzs b ob _ z
      obtain ⟨e1,_⟩:=hok b _ z
      obtain ⟨e2,_⟩:=hok' b _ z2
      rw [e] at e1;cases e1
      exact e2
     ·exact absurd z (nt ps)
    have alt:∀b,(∃ps,H b=some (.tbl ps))\/∀ps,H b≠some (.tbl ps):=λb=>by
     rcases hOT b with z | ⟨ob,xs,z⟩ | ⟨ps,z⟩
     ·exact .inr λps e=>by rw [z] at e;cases e
     ·exact .inr λps e=>by rw [z] at e;cases e
     ·exact .inl ⟨ps,z⟩
    refine ⟨rfl,⟨λb o e=>?_,λb o e=>?_⟩,os,bare⟩
    ·rcases alt b with ⟨ps,z⟩ | z
     ·obtain ⟨ts,e2⟩:=grown z
      have m:=tabIs z
      have e3:=hTB _ m
      rw [show ((b,ps):Addr × Array Value).1=b from rfl,e] at e3
      cases e3
      exact .inr (.inl ⟨hTC _ m,rfl,#[],ts,rfl,by rw [Array.empty_append];exact e2⟩)
     ·exact .inl (keep b o e z)
    ·rcases alt b with ⟨ps,z⟩ | z
     ·obtain ⟨ts,e2⟩:=grown z
      exact ⟨_,e2⟩
     ·exact ⟨o,keep b o e z⟩
 cases hk:K.lookup a with
 | some o =>
  have e:=KX a o hk
  rw [ha] at e
  cases e
  refine core (λ_=>none) (λ_=>.inl rfl) (.inr ⟨_,vs.toArray,_,hk,rfl,rfl,rfl,by rw [List.size_toArray,lenV];exact hl,by simpa using rv⟩) (λb u z=>by have z':(none:Option HO)=some u:=z;cases z') (λb z=>absurd rfl z) λz=>absurd rfl z
 | none =>
  refine core (λb=>if b=a then some (.frz { cls:=.type "list",data:=.seq vs.toArray } (.lst (ns.map V.int))) else none) (λb=>?_) (.inl (.inr ⟨{ cls:=.type "list",data:=.seq vs.toArray },if_pos rfl⟩)) (λb u z=>?_) (λb z=>?_) λ_=>hk
  ·by_cases hb:b=a
   ·exact .inr ⟨_,_,if_pos hb⟩
   ·exact .inl (if_neg hb)
  ·by_cases hb:b=a
   ·have z':=(if_pos hb).symm.trans z
    cases z'
    subst hb
    exact ⟨ha,by rw [List.length_map];exact hl,vs,_,rv,ha⟩
   ·have z':=(if_neg hb).symm.trans z
    cases z'
  ·by_cases hb:b=a
   ·exact hb
   ·exact absurd (if_neg hb) z
theorem walk_ofT {l:PySem.W.OpenLaw} {n k:Nat} {q:Program} {loose:List Str} {XP:(Str->Option Value)->Heap->Prop} {YP:World->Heap->Prop} {d:DefRec} {K:Params->PySem.W.Frag} {CX:World->CXT} {sp:World->Sp} {x:Str} {TB:List (Addr × Array Value)}
  (hn:l.most=some n) (hn2:n<=sizeLine) (hdf:d.params.defaults=[]) (hr:Room k callerA)
  (hY:∀(w:World) (h:Heap),YP w h->(K w.params).In h) (hT:∀(w:World) (h:Heap),YP w h->∀p∈TB,h.get? p.1=some (PySem.W.tabObj #[]))
  (hnt:∀w:World,PySem.W.noTabs (K w.params)=true) (hTl:∀p∈TB,TB.lookup p.1=some p.2)
  (F:∀(w:World) (mg:Str->Option Value) (fa:Addr) (h:Heap),(K w.params).In h->h.Ns mainGlobals mg->mg d.name=some (.ref fa) ->
   ∃fd:FuncData,(∀(s:Shared) (u:Value),BindsTo s fd ⟨[u],[]⟩ [(x,u)])/\(∀p∈TB,∃c,PySem.W.codeHdIn (K w.params) c p.1=true) /\
    ∀base:Heap,(K w.params).In base->base.Ns mainGlobals mg->BltAt mg base->FnOk l.prog w (K w.params) mg base (CX w) k fa fd [x] (sp w))
  (hsp:∀(w:World) (H:Hp) (a:Addr) (ns:List Int),ns.length<=n->OnlyT H->Tabs TB H->SqL (K w.params) H a (ns.map V.int)->sp w [.ref a] H (λv _=>v=.bl true) λ_ _ _=>False)
  (hCX:∀(w:World) (H:Hp) (s:Shared) (e:Value) (s':Shared),CX w [] H s (λ_ _ _=>False) e s'->False) :
  PySem.W.WalkO q loose XP YP l.row.toRowW d [] (λf vs=>PySem.call f vs):=by
 refine Att.attach_call hn hdf λw s₀ s₁ mg mb fa o pm cd doc a vs ns G Y ho hd hcd hmg hobj hints hlen hg=>?_
 have KX:=hY w _ Y
 obtain ⟨fd,hb,hTC,hF⟩:=F w mg fa _ KX G.T.g hmg
 refine law_callT KX (hnt w) (hT w _ Y) (λp hp=>?_) hTl G.T.bmain G.T.g G.T.b G.T.builtins G.T.nolimit hg hobj hints (Nat.le_trans hlen hn2) hr hF hb (λH hO ht hS=>hsp w H a ns hlen hO ht hS) λH e s'=>hCX w H s₁ e s'
 obtain ⟨c,hc⟩:=hTC p hp
 exact ((PySem.W.codeHd_of_K KX hc).tab (hT w _ Y p hp)).isCodeTable
theorem cap_nil {X:Cx}:CapOk X [] []:=trivial
theorem cap_cons {X:Cx} {i:Nat} {ix:List Nat} {p:Str × Addr} {cl:List (Str × Addr)} (h1:X.N[i]? = some p.1) (h2:X.env.scope.names.lookup p.1=some .cell) (h3:X.env.cells.lookup p.1=some p.2) (h4:X.fn p.1=true) (h5:CapOk X ix cl):CapOk X (i::ix) (p::cl):=⟨h1,h2,h3,h4,h5⟩
noncomputable def isLam:Expr->Bool
 | .Lambda _ _ _ _=>true
 | _=>false
noncomputable def lamIn:List Stmt->Expr
 | .Return (some (.Call _ as _ p)) _::r=>(as.find? isLam).getD (.Name "" p)
 | _::r=>lamIn r
 | []=>.Name "" ⟨0,0,0,0⟩
noncomputable def lamOf (q:Str) (ns:List Str):Expr->Lam
 | .Lambda a b s _=>⟨q,a,b,s,ns⟩
 | e=>⟨q,⟨[],[],none,[],[],none,[]⟩,e,⟨.function,[],false,false,[]⟩,ns⟩
noncomputable def lamPos:Expr->Pos
 | .Lambda _ _ _ p=>p
 | _=>⟨0,0,0,0⟩
theorem lookup_const {ts:List Addr} {tg:Array Value}:∀p∈ts.map (λP=>(P,tg)),(ts.map λP=>(P,tg)).lookup p.1=some p.2:=by
 intro p hp
 obtain ⟨P,hP,rfl⟩:=List.mem_map.mp hp
 clear hp
 induction ts with
 | nil=>cases hP
 | cons a ts ih =>
  rw [List.map_cons,List.lookup_cons]
  cases hb:P == a with
  | true=>rfl
  | false =>
   rcases List.mem_cons.mp hP with z | z
   ·subst z;simp at hb
   ·exact ih z
end L2
namespace PV
open PySem PySem.Spec L2
section
variable {i j:Int} {x y:Str} {xs ys:List D} {k:D->Prop} {b c:Bool} {d e:D} {kvs kus:List (Key × D)}
end
end PV
namespace PV
open PySem PySem.Spec L2
section
variable {ns:List Int} {n:Int} {k:D->Prop} {xs:List D} {kvs:List (Key × D)}
end
end PV
namespace PV
open PySem PySem.Spec L2
section
variable {i j:Int} {k:D->Prop} {xs ys:List D} {bs:List Bool} {d e:D}
end
end PV
namespace PV
open PySem PySem.Spec L2
theorem pick3 {a b c:D} {r:Int} (h0:0<=r) (h1:r<3):L2.atI [a,b,c] r=some a\/L2.atI [a,b,c] r=some b\/L2.atI [a,b,c] r=some c:=by
 have:r=0\/r=1\/r=2:=by omega
 rcases this with rfl | rfl | rfl
 ·exact .inl rfl
 ·exact .inr (.inl rfl)
 ·exact .inr (.inr rfl)
theorem pick4 {a b c d:D} {r:Int} (h0:0<=r) (h1:r<4):L2.atI [a,b,c,d] r=some a\/L2.atI [a,b,c,d] r=some b\/L2.atI [a,b,c,d] r=some c\/L2.atI [a,b,c,d] r=some d:=by
 have:r=0\/r=1\/r=2\/r=3:=by omega
 rcases this with rfl | rfl | rfl | rfl
 ·exact .inl rfl
 ·exact .inr (.inl rfl)
 ·exact .inr (.inr (.inl rfl))
 ·exact .inr (.inr (.inr rfl))
theorem mem_rngD {lo:Int} {n:Nat} {d:D} (h:d∈rngD lo n):∃i:Nat,i<n/\d=.int (lo+(i:Int)):=by
 obtain ⟨i,hi,rfl⟩:=List.mem_map.mp h
 exact ⟨i,List.mem_range.mp hi,rfl⟩
theorem rngD_length {lo:Int} {n:Nat}:(rngD lo n).length=n:=by simp [rngD]
theorem rngD_get {lo:Int} {n i:Nat} {d:D} (h:(rngD lo n)[i]? = some d):i<n/\d=.int (lo+(i:Int)):=by
 have hi:i<n:=by have:=(List.getElem?_eq_some_iff.mp h).1;rwa [rngD_length] at this
 simp only [rngD,List.getElem?_map,List.getElem?_range hi,Option.map_some,Option.some.injEq] at h
 exact ⟨hi,h.symm⟩
theorem pure_rngD {lo:Int} {n:Nat}:pureL (rngD lo n)=true:=pureL_map λ_ _=>rfl
theorem pure_ints {ns:List Int}:pureL (ns.map D.int)=true:=pureL_map λ_ _=>rfl
noncomputable def isP (p:Int):Prop:=p=101\/p=10007\/p=999999937
theorem cop (p:Nat) (hp:p=101\/p=10007\/p=999999937):∀d:Nat,d<101->0<d->Nat.gcd p d=1:=by
 rcases hp with rfl | rfl | rfl <;> decide +kernel
theorem arcs_ne {p leap off:Int} (hp:isP p) (h1:0<leap) (h2:leap<p) {i j:Nat} (hi:i<101) (hij:j<i) (h:(off+(i:Int)*leap) % p=(off+(j:Int)*leap) % p):False:=by
 obtain ⟨q,rfl⟩:=Int.eq_ofNat_of_zero_le (show 0<=leap by omega)
 obtain ⟨P,rfl⟩:∃P:Nat,p=(P:Int):=Int.eq_ofNat_of_zero_le (by rcases hp with z | z | z <;> omega)
 have hP:P=101\/P=10007\/P=999999937:=by
  rcases hp with z | z | z
  ·exact .inl (by omega)
  ·exact .inr (.inl (by omega))
  ·exact .inr (.inr (by omega))
 have e:=Int.emod_eq_emod_iff_emod_sub_eq_zero.mp h
 have e2:off+(i:Int)*(q:Int)-(off+(j:Int)*(q:Int))=(((i-j)*q:Nat):Int):=by
  rw [Int.natCast_mul,Int.ofNat_sub (by omega),Int.sub_mul]
  omega
 rw [e2] at e
 have e3:((i-j)*q) % P=0:=by exact_mod_cast e
 have d1:P ∣ (i-j)*q:=Nat.dvd_of_mod_eq_zero e3
 have c1:Nat.gcd P (i-j)=1:=cop P hP _ (by omega) (by omega)
 have d2:P ∣ q:=Nat.Coprime.dvd_of_dvd_mul_left c1 d1
 have:=Nat.le_of_dvd (by omega) d2
 omega
theorem arcs_nodup {p leap off:Int} (hp:isP p) (h1:0<leap) (h2:leap<p) {q:Nat} (hq:q<=101):((List.range q).map λ(i:Nat)=>(off+(i:Int)*leap) % p).Nodup:=by
 rw [List.nodup_iff_pairwise_ne,List.pairwise_map]
 refine List.Pairwise.imp_of_mem ?_ (List.pairwise_lt_range)
 intro i j hi hj hlt h
 exact arcs_ne hp h1 h2 (by have:=List.mem_range.mp hj;omega) hlt h.symm
theorem cut_mid {ds:List D} {a b:Nat} (h:a<=b) (hb:b<=ds.length):cutD ds (some (a:Int)) (some (b:Int))=(ds.drop a).take (b-a):=by
 unfold cutD
 rw [HT.sIx_nat,HT.sIx_nat,Nat.min_eq_left hb,Nat.min_eq_left (Nat.le_trans h hb)]
theorem cut_from {ds:List D} {a:Nat} (h:a<=ds.length):cutD ds (some (a:Int)) none=ds.drop a:=by
 unfold cutD
 rw [HT.sIx_nat,HT.sIx_none,Nat.min_eq_left h,List.take_of_length_le (by simp)]
theorem cut_to {ds:List D} {b:Nat}:cutD ds none (some (b:Int))=ds.take b:=by
 unfold cutD
 rw [HT.sIx_nat,HT.sIx_none,List.drop_zero,Nat.sub_zero]
 by_cases h:b<=ds.length
 ·rw [Nat.min_eq_left h]
 ·rw [Nat.min_eq_right (by omega),List.take_of_length_le (by omega),List.take_of_length_le (by omega)]
noncomputable def rowD (c n:Int):D:=.lst [.int c,.int n]
noncomputable def webD (m e:Nat) (A:Nat->Int) (r:Int):D:=.tup [.tup ((List.range m).map λk=>.tup ((List.range 4).map λj=>.int (A (4*k+j)))),.tup ((List.range e).map λj=>.int (A (4*m+j))),.int r]
structure Pr (N:Nat) (xs:List Int) (t:Nat) (L:List Nat) (Bs:List Int) (ps:List (Nat × Nat)):Prop where
 bl:Bs.length=N
 pl:ps.length=t
 perm:(ps.flatMap (λp=>[p.1,p.2])++L).Perm (List.range N)
 val:∀(s:Nat) p,ps[s]? = some p->∃x,xs[s]? = some x/\Bs[p.1]? = some x/\Bs[p.2]? = some x
theorem Pr.lt {N:Nat} {xs:List Int} {t:Nat} {L:List Nat} {Bs:List Int} {ps:List (Nat × Nat)} (h:Pr N xs t L Bs ps) {i:Nat} (hi:i∈L):i<N:=by
 have:=h.perm.mem_iff.mp (List.mem_append.mpr (.inr hi))
 exact List.mem_range.mp this
theorem Pr.nd {N:Nat} {xs:List Int} {t:Nat} {L:List Nat} {Bs:List Int} {ps:List (Nat × Nat)} (h:Pr N xs t L Bs ps):(ps.flatMap (λp=>[p.1,p.2])++L).Nodup:=h.perm.nodup_iff.mpr List.nodup_range
theorem Pr.start (N:Nat) (xs:List Int):Pr N xs 0 (List.range N) (List.replicate N 0) []:=⟨by simp,rfl,by simp,λs p h=>by simp at h⟩
theorem perm_erase {α:Type}:∀{l:List α} {i:Nat} (h:i<l.length),(l[i]::l.eraseIdx i).Perm l
 | a::l,0,_=>List.Perm.refl _
 | a::l,i+1,h=>by
  have:=perm_erase (l:=l) (i:=i) (by simpa using h)
  simp only [List.getElem_cons_succ,List.eraseIdx_cons_succ]
  exact (List.Perm.swap _ _ _).trans (this.cons a)
theorem map_erase {α β:Type} {f:α->β}:∀{l:List α} {i:Nat},(l.map f).eraseIdx i=(l.eraseIdx i).map f
 | [],_=>rfl
 | a::l,0=>rfl
 | a::l,i+1=>by simp only [List.map_cons,List.eraseIdx_cons_succ,map_erase]
theorem Pr.step {N:Nat} {xs:List Int} {t i s:Nat} {L:List Nat} {Bs:List Int} {ps:List (Nat × Nat)} {x:Int} (h:Pr N xs t (i::L) Bs ps) (hx:xs[t]? = some x) (hs:s<L.length) :
  Pr N xs (t+1) (L.eraseIdx s) ((Bs.set i x).set L[s] x) (ps++[(i,L[s])]):=by
 have nd:=h.nd
 obtain ⟨n1,n2,n3⟩:=List.nodup_append.mp nd
 have hjm:L[s]∈L:=List.getElem_mem hs
 have hij:i≠L[s]:=λz=>(List.nodup_cons.mp n2).1 (z ▸ hjm)
 have hi:=h.lt (List.mem_cons_self (a:=i))
 have hj:=h.lt (List.mem_cons_of_mem i hjm)
 refine ⟨by simp [h.bl],by simp [h.pl],?_,λs' p hp=>?_⟩
 ·rw [List.flatMap_append]
  refine List.Perm.trans ?_ h.perm
  rw [List.append_assoc]
  refine List.Perm.append_left _ ?_
  show (i::L[s]::L.eraseIdx s).Perm (i::L)
  exact List.Perm.cons _ (perm_erase hs)
 ·by_cases hs':s' < ps.length
  ·rw [List.getElem?_append_left hs'] at hp
   obtain ⟨y,h1,h2,h3⟩:=h.val s' p hp
   have mem:∀a,a=p.1\/a=p.2->a∈ps.flatMap (λp=>[p.1,p.2]):=λa ha=>List.mem_flatMap.mpr ⟨p,List.mem_of_getElem? hp,by simpa using ha⟩
   have ne:∀a,a=p.1\/a=p.2->i≠a/\L[s]≠a:=λa ha=>⟨λz=>n3 a (mem a ha) i List.mem_cons_self z.symm,λz=>n3 a (mem a ha) L[s] (List.mem_cons_of_mem _ hjm) z.symm⟩
   refine ⟨y,h1,?_,?_⟩
   ·rw [List.getElem?_set_ne (ne _ (.inl rfl)).2,List.getElem?_set_ne (ne _ (.inl rfl)).1];exact h2
   ·rw [List.getElem?_set_ne (ne _ (.inr rfl)).2,List.getElem?_set_ne (ne _ (.inr rfl)).1];exact h3
  ·have e:s'=t:=by
    have:=(List.getElem?_eq_some_iff.mp hp).1
    have:=h.pl
    simp at *
    omega
   subst e
   rw [List.getElem?_append_right (by omega),h.pl,Nat.sub_self] at hp
   simp at hp
   subst hp
   refine ⟨x,hx,?_,?_⟩
   ·rw [List.getElem?_set_ne (Ne.symm hij),List.getElem?_set_self (by rw [h.bl];exact hi)]
   ·rw [List.getElem?_set_self (by rw [List.length_set,h.bl];exact hj)]
theorem Pr.tw {N:Nat} {xs:List Int} {t:Nat} {Bs:List Int} {ps:List (Nat × Nat)} (h:Pr N xs t [] Bs ps) (nd:xs.Nodup):∃g,M.Tw N (λi=>Bs.getD i 0) g:=by
 have nf:=h.nd
 rw [List.append_nil] at nf
 have val:∀i,i<N->∃(s:Nat) (p:Nat × Nat) (x:Int),ps[s]? = some p/\(i=p.1\/i=p.2)/\xs[s]? = some x/\Bs.getD i 0=x:=λi hi=>by
  have:=h.perm.mem_iff.mpr (List.mem_range.mpr hi)
  rw [List.append_nil] at this
  obtain ⟨p,hp,hip⟩:=List.mem_flatMap.mp this
  obtain ⟨s,hs⟩:=List.mem_iff_getElem?.mp hp
  obtain ⟨x,h1,h2,h3⟩:=h.val s p hs
  have hip':i=p.1\/i=p.2:=by simpa using hip
  refine ⟨s,p,x,hs,hip',h1,?_⟩
  rcases hip' with z | z
  ·rw [List.getD_eq_getElem?_getD,z,h2];rfl
  ·rw [List.getD_eq_getElem?_getD,z,h3];rfl
 have ne:∀p∈ps,p.1≠p.2:=λp hp z=>by
  have:[p.1,p.2].Nodup:=by
   have hsub:[p.1,p.2].Sublist (ps.flatMap λp=>[p.1,p.2]):=by
    obtain ⟨a,b,rfl⟩:=List.append_of_mem hp
    rw [List.flatMap_append,List.flatMap_cons]
    exact (List.sublist_append_left _ _).trans (List.sublist_append_right _ _)
   exact nf.sublist hsub
  simp [z] at this
 have ltp:∀p∈ps,p.1<N/\p.2<N:=λp hp=>by
  have m1:=h.perm.mem_iff.mp (List.mem_append.mpr (.inl (List.mem_flatMap.mpr ⟨p,hp,List.mem_cons_self⟩)))
  have m2:=h.perm.mem_iff.mp (List.mem_append.mpr (.inl (List.mem_flatMap.mpr ⟨p,hp,List.mem_cons_of_mem _ List.mem_cons_self⟩)))
  exact ⟨List.mem_range.mp m1,List.mem_range.mp m2⟩
 have ex:∀i,∃j,i<N->j<N/\j≠i/\Bs.getD j 0=Bs.getD i 0/\∀k,k<N->Bs.getD k 0=Bs.getD i 0->k=i\/k=j:=λi=>by
  by_cases hi:i<N
  ·obtain ⟨s,p,x,hs,hip,hx,hv⟩:=val i hi
   have hp:=List.mem_of_getElem? hs
   obtain ⟨x',h1,h2,h3⟩:=h.val s p hs
   rw [hx] at h1;cases h1
   have only:∀k,k<N->Bs.getD k 0=Bs.getD i 0->k=p.1\/k=p.2:=λk hk e=>by
    obtain ⟨s',p',y,hs',hkp,hy,hw⟩:=val k hk
    rw [hw,hv] at e
    subst e
    have:s'=s:=by
     have l1:=(List.getElem?_eq_some_iff.mp hx)
     have l2:=(List.getElem?_eq_some_iff.mp hy)
     obtain ⟨a1,a2⟩:=l1
     obtain ⟨b1,b2⟩:=l2
     exact (List.getElem_inj nd).mp (b2.trans a2.symm)
    subst this
    rw [hs] at hs';cases hs'
    exact hkp
   rcases hip with z | z
   ·refine ⟨p.2,λ_=>⟨(ltp p hp).2,λq=>ne p hp (by rw [← z,q]),?_,λk hk e=>(only k hk e).imp (λq=>q.trans z.symm) id⟩⟩
    rw [hv,List.getD_eq_getElem?_getD,h3];rfl
   ·refine ⟨p.1,λ_=>⟨(ltp p hp).1,λq=>ne p hp (by rw [q,z]),?_,λk hk e=>(only k hk e).elim .inr (λq=>.inl (q.trans z.symm))⟩⟩
    rw [hv,List.getD_eq_getElem?_getD,h2];rfl
  ·exact ⟨0,λz=>absurd z hi⟩
 refine ⟨λi=>Classical.choose (ex i),λi hi=>(Classical.choose_spec (ex i) hi).1,λi hi=>(Classical.choose_spec (ex i) hi).2.1,λi hi=>(Classical.choose_spec (ex i) hi).2.2.1,λi k hi hk e=>(Classical.choose_spec (ex i) hi).2.2.2 k hk e⟩
theorem drop_take_range {Bs:List Int} {a b:Nat} (h:a+b<=Bs.length):((Bs.map D.int).drop a).take b=(List.range b).map λj=>D.int (Bs.getD (a+j) 0):=by
 apply List.ext_getElem?
 intro j
 rw [List.getElem?_take,List.getElem?_map]
 by_cases hj:j<b
 ·rw [if_pos hj,List.getElem?_drop,List.getElem?_map,List.getElem?_range hj,List.getElem?_eq_getElem (by omega)]
  simp [List.getD_eq_getElem?_getD,List.getElem?_eq_getElem (show a+j<Bs.length by omega)]
 ·rw [if_neg hj,List.getElem?_eq_none (by simpa using hj)];rfl
noncomputable def crossF (Bs:List Int):D->D
 | .int k=>.tup ((List.range 4).map λj=>.int (Bs.getD (4*k.toNat+j) 0))
 | d=>d
theorem crossF_nat {Bs:List Int} {i:Nat}:crossF Bs (.int (0+(i:Int)))=.tup ((List.range 4).map λj=>.int (Bs.getD (4*i+j) 0)):=by
 show D.tup ((List.range 4).map λj=>.int (Bs.getD (4*(0+(i:Int)).toNat+j) 0))=_
 rw [show (0+(i:Int)).toNat=i by omega]
theorem crossF_map {Bs:List Int} {m:Nat}:(rngD 0 m).map (crossF Bs)=(List.range m).map λk=>.tup ((List.range 4).map λj=>.int (Bs.getD (4*k+j) 0)):=by
 unfold rngD
 rw [List.map_map]
 apply List.map_congr_left
 intro i _
 exact crossF_nat
theorem getD_all {Bs:List Int} {P:Int->Prop} (h0:P 0) (h:∀b∈Bs,P b) (i:Nat):P (Bs.getD i 0):=by
 rw [List.getD_eq_getElem?_getD]
 cases q:Bs[i]? with
 | none=>exact h0
 | some b=>exact h b (List.mem_of_getElem? q)
theorem len1 {α:Type}:∀{us:List α},us.length=1->∃a,us=[a]
 | [a],_=>⟨a,rfl⟩
theorem len2 {α:Type} {us:List α} (h:us.length=2):∃a b,us=[a,b]:=by
 cases us with
 | nil=>cases h
 | cons a us=>obtain ⟨b,rfl⟩:=len1 (Nat.succ.inj h);exact ⟨a,b,rfl⟩
theorem len3 {α:Type} {us:List α} (h:us.length=3):∃a b c,us=[a,b,c]:=by
 cases us with
 | nil=>cases h
 | cons a us=>obtain ⟨b,c,rfl⟩:=len2 (Nat.succ.inj h);exact ⟨a,b,c,rfl⟩
end PV
namespace PV
open PySem PySem.Spec L2
noncomputable def spD (m i:Nat):D:=.tup [.int (M.sp m i).1,.int (M.sp m i).2]
noncomputable def ksP (m i:Nat):List Key:=[.inl (M.sp m i).1,.inl (M.sp m i).2]
theorem ksP_inj {m i j:Nat} (h:ksP m i=ksP m j):i=j:=by
 unfold ksP at h
 injection h with h1 h2
 injection h2 with h2 _
 injection h1 with h1
 injection h2 with h2
 exact M.sp_inj (Prod.ext h1 h2)
theorem spD_inj {m i j:Nat} (h:spD m i=spD m j):i=j:=by
 unfold spD at h
 injection h with h
 injection h with h1 h2
 injection h2 with h2 _
 injection h1 with h1
 injection h2 with h2
 exact M.sp_inj (Prod.ext h1 h2)
theorem keysOf_sp {m i:Nat}:keysOf [D.int (M.sp m i).1,D.int (M.sp m i).2]=some (ksP m i):=rfl
noncomputable def encP (s:Nat->D) (P:List (Int × List Nat)):List (Key × D):=P.map λe=>((.inl e.1:Key),D.lst (e.2.map s))
theorem encP_keys {s:Nat->D} {P:List (Int × List Nat)} (nd:(P.map (·.1)).Nodup):((encP s P).map (·.1)).Nodup:=by
 unfold encP
 rw [List.map_map]
 have:(P.map ((λ(x:Key × D)=>x.1) ∘ λe=>((.inl e.1:Key),D.lst (e.2.map s))))=(P.map (·.1)).map (λa=>(.inl a:Key)):=by rw [List.map_map];rfl
 rw [this,List.nodup_iff_pairwise_ne,List.pairwise_map]
 exact List.Pairwise.imp (λh z=>h (by injection z)) (List.nodup_iff_pairwise_ne.mp nd)
theorem encP_val {s:Nat->D} {a:Int}:∀{P:List (Int × List Nat)},valD (encP s P) (.inl a)=(P.find? λe=>decide (e.1=a)).map λe=>D.lst (e.2.map s)
 | []=>rfl
 | e::P=>by
  show valD (((.inl e.1:Key),D.lst (e.2.map s))::encP s P) (.inl a)=_
  rw [valD_cons]
  by_cases h:e.1=a
  ·rw [if_pos (by rw [h]),List.find?_cons_of_pos (by simp [h])];rfl
  ·rw [if_neg (λz=>h (by injection z)),encP_val,List.find?_cons_of_neg (by simp [h])]
theorem key_uniq {α β:Type} {f:α->β}:∀{l:List α} {a b:α},(l.map f).Nodup->a∈l->b∈l->f a=f b->a=b
 | [],_,_,_,h,_,_=>by cases h
 | x::l,a,b,nd,ha,hb,e=>by
  obtain ⟨n1,n2⟩:=List.nodup_cons.mp (show (f x::l.map f).Nodup from nd)
  rcases List.mem_cons.mp ha with za | ha
  ·rcases List.mem_cons.mp hb with zb | hb
   ·rw [za,zb]
   ·exact absurd (by rw [← za,e];exact List.mem_map.mpr ⟨b,hb,rfl⟩) n1
  ·rcases List.mem_cons.mp hb with zb | hb
   ·exact absurd (by rw [← zb,← e];exact List.mem_map.mpr ⟨a,ha,rfl⟩) n1
   ·exact key_uniq n2 ha hb e
theorem sda_enc {s:Nat->D} {P:List (Int × List Nat)} {a:Int} {i:Nat} (nd:(P.map (·.1)).Nodup):∃l:List Nat,(l=[]\/∃e∈P,l=e.2)/\valD (sdNew (encP s P) (.inl a)) (.inl a)=some (.lst (l.map s)) /\
  putD (sdNew (encP s P) (.inl a)) (.inl a) (.lst (l.map s++[s i]))=encP s (M.addP P a i):=by
 have hv:=encP_val (s:=s) (a:=a) (P:=P)
 cases hf:P.find? λe=>decide (e.1=a) with
 | none =>
  rw [hf] at hv
  have hv:valD (encP s P) (.inl a)=none:=hv
  have e1:sdNew (encP s P) (.inl a)=encP s P++[((.inl a:Key),.lst [])]:=by unfold sdNew;rw [hv];rfl
  have hany:¬(P.any λe=>decide (e.1=a))=true:=λz=>by
   obtain ⟨e,he,h⟩:=List.any_eq_true.mp z
   exact List.find?_eq_none.mp hf e he h
  refine ⟨[],.inl rfl,?_,?_⟩
  ·rw [e1,valD_snoc,hv];simp
  ·have hadd:M.addP P a i=P++[(a,[i])]:=by unfold M.addP;rw [if_neg hany]
   have hno:∀kv∈encP s P,kv.1≠(.inl a:Key):=λkv hkv z=>by
    obtain ⟨e,he,rfl⟩:=List.mem_map.mp hkv
    exact hany (List.any_eq_true.mpr ⟨e,he,by simpa using z⟩)
   rw [hadd,e1]
   unfold putD
   rw [if_pos (by simp),List.map_append]
   have:(encP s P).map (λkv=>if kv.1=(.inl a:Key) then (kv.1,D.lst (([]:List Nat).map s++[s i])) else kv)=encP s P:=by
    conv=>rhs;rw [← List.map_id (encP s P)]
    apply List.map_congr_left
    intro kv hkv
    rw [if_neg (hno kv hkv)];rfl
   rw [this]
   simp [encP]
 | some e =>
  rw [hf] at hv
  have hv:valD (encP s P) (.inl a)=some (.lst (e.2.map s)):=hv
  have he:=List.mem_of_find?_eq_some hf
  have hk:e.1=a:=by have:=List.find?_some hf;simpa using this
  have e1:sdNew (encP s P) (.inl a)=encP s P:=by unfold sdNew;rw [hv];rfl
  have hany:(P.any λe=>decide (e.1=a))=true:=List.any_eq_true.mpr ⟨e,he,by simpa using hk⟩
  refine ⟨e.2,.inr ⟨e,he,rfl⟩,by rw [e1];exact hv,?_⟩
  have hadd:M.addP P a i=P.map (λx=>if x.1=a then (x.1,x.2++[i]) else x):=by unfold M.addP;rw [if_pos hany]
  rw [e1,hadd]
  unfold putD
  rw [if_pos (by rw [anyD_iff,hv];rfl)]
  unfold encP
  rw [List.map_map,List.map_map]
  apply List.map_congr_left
  intro x hx
  show (if (.inl x.1:Key)=.inl a then ((.inl x.1:Key),D.lst (e.2.map s++[s i])) else ((.inl x.1:Key),D.lst (x.2.map s)))=((.inl (if x.1=a then (x.1,x.2++[i]) else x).1:Key),D.lst ((if x.1=a then (x.1,x.2++[i]) else x).2.map s))
  by_cases q:x.1=a
  ·have:x=e:=key_uniq nd hx he (q.trans hk.symm)
   subst this
   rw [if_pos (by rw [q]),if_pos q]
   simp
  ·rw [if_neg (λz=>q (by injection z)),if_neg q]
theorem plc_len (A:Nat->Int):∀t,(M.plc A t).length<=t
 | 0=>Nat.le_refl _
 | t+1=>by
  rw [M.plc_succ]
  have:=plc_len A t
  unfold M.addP
  split <;> simp <;> omega
theorem plc_lens (A:Nat->Int) (t:Nat):∀e∈M.plc A t,e.2.length<=t:=λe he=>by
 obtain ⟨_,h2,_⟩:=M.plc_ok A t
 rw [(h2 e he).1]
 have:=List.length_filter_le (λi=>decide (A i=e.1)) (List.range t)
 simpa using this
theorem pure_enum:∀{ds:List D} {n:Nat},pureL ds=true->pureL (enumD n ds)=true
 | [],_,_=>rfl
 | d::r,n,h=>by
  simp only [pureL,Bool.and_eq_true] at h
  simp only [enumD,pureL,D.pure,Bool.and_eq_true]
  exact ⟨⟨trivial,h.1,trivial⟩,pure_enum h.2⟩
theorem pure_sp {m i:Nat}:(spD m i).pure=true:=rfl
theorem pure_spL {m:Nat} {l:List Nat}:pureL (l.map (spD m))=true:=pureL_map λ_ _=>rfl
end PV
namespace Orb
noncomputable def it (f:Nat->Nat):Nat->Nat->Nat
 | 0,i=>i
 | t+1,i=>f (it f t i)
structure Inj (n:Nat) (f:Nat->Nat):Prop where
 lt:∀i,i<n->f i<n
 inj:∀i j,i<n->j<n->f i=f j->i=j
variable {n:Nat} {f:Nat->Nat}
theorem Inj.itlt (h:Inj n f):∀(t:Nat) {i:Nat},i<n->it f t i<n
 | 0,i,hi=>hi
 | t+1,i,hi=>h.lt _ (h.itlt t hi)
theorem Inj.down (h:Inj n f) {i:Nat} (hi:i<n):∀(s t:Nat),it f s i=it f (s+t) i->it f t i=i
 | 0,t,e=>by rw [Nat.zero_add] at e;exact e.symm
 | s+1,t,e=>by
  rw [Nat.succ_add] at e
  exact h.down hi s t (h.inj _ _ (h.itlt s hi) (h.itlt _ hi) e)
theorem pig:∀(n:Nat) (l:List Nat),l.Nodup->(∀x∈l,x<n)->l.length<=n
 | 0,l,_,h=>by
  cases l with
  | nil=>exact Nat.le_refl _
  | cons a l=>exact absurd (h a List.mem_cons_self) (Nat.not_lt_zero _)
 | n+1,l,nd,h=>by
  have:=pig n (l.erase n) (nd.erase n) λx hx=>by
   have h1:=h x (List.mem_of_mem_erase hx)
   have h2:x≠n:=λz=>by subst z;exact (nd.not_mem_erase) hx
   omega
  have h3:=List.length_erase (a:=n) (l:=l)
  split at h3 <;> omega
theorem Inj.back (h:Inj n f) {i:Nat} (hi:i<n):∃p,0<p/\p<=n/\it f p i=i:=by
 by_cases hd:∃p,0<p/\p<=n/\it f p i=i
 ·exact hd
 ·exfalso
  have nd:((List.range (n+1)).map λt=>it f t i).Nodup:=by
   unfold List.Nodup
   rw [List.pairwise_map]
   refine List.Pairwise.imp_of_mem (R:=λa b=>a<b) (λ{a b} ha hb hab e=>?_) List.pairwise_lt_range
   have hb:=List.mem_range.mp hb
   have e:it f a i=it f b i:=e
   refine hd ⟨b-a,by omega,by omega,h.down hi a (b-a) ?_⟩
   rw [Nat.add_sub_cancel' (Nat.le_of_lt hab)];exact e
  have:=pig n _ nd λx hx=>by
   obtain ⟨t,_,rfl⟩:=List.mem_map.mp hx
   exact h.itlt t hi
  simp at this
  omega
noncomputable def lst (f:Nat->Nat) (i:Nat):Nat->Nat->Nat
 | 0,p=>p
 | k+1,p=>if it f p i=i then p else lst f i k (p+1)
noncomputable def per (n:Nat) (f:Nat->Nat) (i:Nat):Nat:=lst f i n 1
theorem lst_spec (f:Nat->Nat) (i:Nat):∀k p,(∃q,p<=q/\q<p+k/\it f q i=i)->p<=lst f i k p/\it f (lst f i k p) i=i/\(∀q,p<=q->q<lst f i k p->it f q i≠i)/\lst f i k p<p+k
 | 0,p,⟨q,h1,h2,_⟩=>by omega
 | k+1,p,⟨q,h1,h2,h3⟩=>by
  unfold lst
  by_cases hp:it f p i=i
  ·rw [if_pos hp]
   exact ⟨Nat.le_refl _,hp,λq a b=>by omega,by omega⟩
  ·rw [if_neg hp]
   have hq:p≠q:=λz=>hp (by rw [z];exact h3)
   obtain ⟨a1,a2,a3,a4⟩:=lst_spec f i k (p+1) ⟨q,by omega,by omega,h3⟩
   refine ⟨by omega,a2,λr b1 b2=>?_,by omega⟩
   by_cases hr:r=p
   ·rw [hr];exact hp
   ·exact a3 r (by omega) b2
theorem Inj.per (h:Inj n f) {i:Nat} (hi:i<n):0<per n f i/\per n f i<=n/\it f (per n f i) i=i/\∀q,0<q->q<per n f i->it f q i≠i:=by
 obtain ⟨p,h1,h2,h3⟩:=h.back hi
 obtain ⟨a1,a2,a3,a4⟩:=lst_spec f i n 1 ⟨p,h1,by omega,h3⟩
 exact ⟨a1,by unfold Orb.per;omega,a2,a3⟩
noncomputable def arc (f:Nat->Nat) (i t:Nat):List Nat:=(List.range t).map λs=>it f s i
theorem arc_succ (f:Nat->Nat) (i t:Nat):arc f i (t+1)=arc f i t++[it f t i]:=by
 unfold arc;rw [List.range_succ,List.map_append];rfl
theorem arc_cons (f:Nat->Nat) (i t:Nat):arc f i (t+1)=i::(List.range t).map λs=>it f (s+1) i:=by
 unfold arc;rw [List.range_succ_eq_map,List.map_cons,List.map_map];rfl
theorem arc_length (f:Nat->Nat) (i t:Nat):(arc f i t).length=t:=by unfold arc;simp
noncomputable def orb (n:Nat) (f:Nat->Nat) (i:Nat):List Nat:=arc f i (per n f i)
theorem Inj.new (h:Inj n f) {i:Nat} (hi:i<n) {t:Nat} (h1:t<Orb.per n f i):it f t i∉arc f i t:=λhm=>by
 obtain ⟨s,hs,e⟩:=List.mem_map.mp hm
 have hs:=List.mem_range.mp hs
 have e:it f s i=it f t i:=e
 refine (h.per hi).2.2.2 (t-s) (by omega) (by omega) (h.down hi s (t-s) ?_)
 rw [Nat.add_sub_cancel' (Nat.le_of_lt hs)];exact e
theorem Inj.orb_self (h:Inj n f) {i:Nat} (hi:i<n):i∈orb n f i:=List.mem_map.mpr ⟨0,List.mem_range.mpr (h.per hi).1,rfl⟩
theorem Inj.orb_back (h:Inj n f) {i x:Nat} (hi:i<n) (hx:x<n) (hf:f x∈orb n f i):x∈orb n f i:=by
 obtain ⟨s,hs,e⟩:=List.mem_map.mp hf
 have hs:=List.mem_range.mp hs
 have e:it f s i=f x:=e
 cases s with
 | zero =>
  have hp:=(h.per hi)
  obtain ⟨p,hpe⟩:∃p,Orb.per n f i=p+1:=⟨Orb.per n f i-1,by omega⟩
  have e2:f (it f p i)=i:=by have:=hp.2.2.1;rw [hpe] at this;exact this
  have:x=it f p i:=h.inj _ _ hx (h.itlt p hi) (by rw [← e,e2];rfl)
  rw [this]
  exact List.mem_map.mpr ⟨p,List.mem_range.mpr (by omega),rfl⟩
 | succ s =>
  have:x=it f s i:=h.inj _ _ hx (h.itlt s hi) e.symm
  rw [this]
  exact List.mem_map.mpr ⟨s,List.mem_range.mpr (by omega),rfl⟩
noncomputable def fcs (n:Nat) (f:Nat->Nat):Nat->List Nat->List (List Nat)
 | 0,_=>[]
 | _+1,[]=>[]
 | k+1,i::r=>orb n f i::fcs n f k (r.filter λx=>!(orb n f i).contains x)
theorem fcs_more (n:Nat) (f:Nat->Nat):∀(k:Nat) (l:List Nat) (k':Nat),l.length<=k->l.length<=k'->fcs n f k l=fcs n f k' l
 | 0,l,k',h,h'=>by
  have:l=[]:=List.length_eq_zero_iff.mp (by omega)
  subst this
  cases k' <;> rfl
 | k+1,[],k',h,h'=>by cases k' <;> rfl
 | k+1,i::r,k',h,h'=>by
  simp only [List.length_cons] at h h'
  obtain ⟨q,rfl⟩:∃q,k'=q+1:=⟨k' - 1,by omega⟩
  have:=List.length_filter_le (λx=>!(orb n f i).contains x) r
  show _::fcs n f k _=_::fcs n f q _
  rw [fcs_more n f k _ q (by omega) (by omega)]
noncomputable def faces (n:Nat) (f:Nat->Nat) (l:List Nat):List (List Nat):=fcs n f l.length l
theorem faces_nil (n:Nat) (f:Nat->Nat):faces n f []=[]:=rfl
theorem faces_cons (n:Nat) (f:Nat->Nat) (i:Nat) (r:List Nat):faces n f (i::r)=orb n f i::faces n f (r.filter λx=>!(orb n f i).contains x):=by
 have:=List.length_filter_le (λx=>!(orb n f i).contains x) r
 show _::fcs n f r.length _=_::fcs n f _ _
 rw [fcs_more n f r.length _ _ this (Nat.le_refl _)]
noncomputable def Closed (f:Nat->Nat) (l:List Nat):Prop:=∀x∈l,f x∈l
theorem Closed.it {l:List Nat} (c:Closed f l):∀(t:Nat) {i:Nat},i∈l->it f t i∈l
 | 0,i,h=>h
 | t+1,i,h=>c _ (c.it t h)
theorem Inj.closed_rest (h:Inj n f) {i:Nat} {r:List Nat} (hn:∀x∈i::r,x<n) (c:Closed f (i::r)):Closed f (r.filter λx=>!(orb n f i).contains x):=λx hx=>by
 obtain ⟨h1,h2⟩:=List.mem_filter.mp hx
 have hi:=hn i List.mem_cons_self
 have hxn:=hn x (List.mem_cons_of_mem _ h1)
 have h2:x∉orb n f i:=by simpa using h2
 have h3:f x∉orb n f i:=λz=>h2 (h.orb_back hi hxn z)
 have h4:=c x (List.mem_cons_of_mem _ h1)
 rcases List.mem_cons.mp h4 with z | z
 ·exact absurd (by rw [z];exact h.orb_self hi) h3
 ·exact List.mem_filter.mpr ⟨z,by simpa using h3⟩
theorem faces_len (n:Nat) (f:Nat->Nat):∀(k:Nat) (l:List Nat),(fcs n f k l).length<=l.length
 | 0,l=>Nat.zero_le _
 | k+1,[]=>Nat.zero_le _
 | k+1,i::r=>by
  have:=faces_len n f k (r.filter λx=>!(orb n f i).contains x)
  have:=List.length_filter_le (λx=>!(orb n f i).contains x) r
  show (fcs n f k _).length+1<=r.length+1
  omega
theorem mem_faces (n:Nat) (f:Nat->Nat):∀(k:Nat) (l:List Nat),∀x∈fcs n f k l,∃i∈l,x=orb n f i
 | 0,l,x,h=>by cases h
 | k+1,[],x,h=>by cases h
 | k+1,i::r,x,h=>by
  rcases List.mem_cons.mp h with z | z
  ·exact ⟨i,List.mem_cons_self,z⟩
  ·obtain ⟨j,h1,h2⟩:=mem_faces n f k _ x z
   exact ⟨j,List.mem_cons_of_mem _ (List.mem_filter.mp h1).1,h2⟩
end Orb
namespace M
noncomputable def ksI (m i:Nat):List Int:=[(sp m i).1,(sp m i).2]
noncomputable def numK:List Int->Int
 | [a,b]=>a*1000+b
 | _=>0
theorem sp_bounds {m e i:Nat} (he:e<=900) (hi:i<4*m+e):-1<=(sp m i).1/\0<=(sp m i).2/\(sp m i).2<1000:=by
 unfold sp
 split
 ·dsimp only;omega
 ·dsimp only;omega
theorem lex_num {m e i j:Nat} (he:e<=900) (hi:i<4*m+e) (hj:j<4*m+e):HT.lexLt (ksI m i) (ksI m j)=decide (numK (ksI m i)<numK (ksI m j)):=by
 obtain ⟨a1,a2,a3⟩:=sp_bounds he hi
 obtain ⟨b1,b2,b3⟩:=sp_bounds he hj
 unfold ksI numK
 generalize sp m i=p at a1 a2 a3
 generalize sp m j=q at b1 b2 b3
 rw [HT.lexLt_cons,HT.lexLt_cons,HT.lexLt_nil_nil]
 dsimp only
 by_cases h1:p.1=q.1
 ·rw [if_pos h1]
  by_cases h2:p.2=q.2
  ·rw [if_pos h2]
   exact (decide_eq_false (by omega)).symm
  ·rw [if_neg h2]
   exact decide_eq_decide.mpr (by omega)
 ·rw [if_neg h1]
  exact decide_eq_decide.mpr (by omega)
noncomputable def L0 (m e:Nat):List Nat:=(List.range e).map (λj=>4*m+j)++List.range (4*m)
theorem L0_perm (m e:Nat):(L0 m e).Perm (List.range (4*m+e)):=by
 rw [List.range_add]
 exact List.perm_append_comm
theorem L0_mem {m e i:Nat}:i∈L0 m e↔i<4*m+e:=by rw [(L0_perm m e).mem_iff,List.mem_range]
theorem L0_nd (m e:Nat):(L0 m e).Nodup:=(L0_perm m e).nodup_iff.mpr List.nodup_range
theorem L0_len (m e:Nat):(L0 m e).length=4*m+e:=by rw [(L0_perm m e).length_eq,List.length_range]
theorem L0_up {m e:Nat} (he:e<=900):((L0 m e).map (ksI m)).Pairwise (λa b=>HT.lexLt b a=false):=by
 have key:∀{i j:Nat},i<4*m+e->j<4*m+e->numK (ksI m i)<=numK (ksI m j)->HT.lexLt (ksI m j) (ksI m i)=false:=λhi hj h=>by
  rw [lex_num he hj hi]
  exact decide_eq_false (by omega)
 have n1:∀j,numK (ksI m (4*m+j)) = -1000+(j:Int):=λj=>by unfold ksI;rw [sp_out];show (-1:Int)*1000+j=_;omega
 have n2:∀i,i<4*m->numK (ksI m i)=((i / 4:Nat):Int)*1000+((i % 4:Nat):Int):=λi hi=>by unfold ksI sp;rw [if_pos hi];rfl
 rw [List.pairwise_map]
 unfold L0
 refine List.pairwise_append.mpr ⟨?_,?_,λa ha b hb=>?_⟩
 ·rw [List.pairwise_map]
  refine List.Pairwise.imp_of_mem (R:=λa b=>a<b) (λ{a b} ha hb hab=>?_) List.pairwise_lt_range
  have ha:=List.mem_range.mp ha
  have hb:=List.mem_range.mp hb
  exact key (by omega) (by omega) (by rw [n1,n1];omega)
 ·refine List.Pairwise.imp_of_mem (R:=λa b=>a<b) (λ{a b} ha hb hab=>?_) List.pairwise_lt_range
  have ha:=List.mem_range.mp ha
  have hb:=List.mem_range.mp hb
  exact key (by omega) (by omega) (by rw [n2 a ha,n2 b hb];omega)
 ·obtain ⟨j,hj,rfl⟩:=List.mem_map.mp ha
  have hj:=List.mem_range.mp hj
  have hb:=List.mem_range.mp hb
  exact key (by omega) (by omega) (by rw [n1,n2 b hb];omega)
theorem sort_is {m e:Nat} (he:e<=900) {out:List (List Int)} (hp:out.Perm ((List.range (4*m+e)).map (ksI m))) (hs:out.Pairwise (λx y=>numK x<=numK y)):out=(L0 m e).map (ksI m):=by
 refine sorted_same (hp.trans ((L0_perm m e).map (ksI m)).symm) ?_ (L0_up he)
 refine List.Pairwise.imp_of_mem (λ{a b} ha hb hab=>?_) hs
 obtain ⟨i,hi,rfl⟩:=List.mem_map.mp (hp.mem_iff.mp ha)
 obtain ⟨j,hj,rfl⟩:=List.mem_map.mp (hp.mem_iff.mp hb)
 rw [lex_num he (List.mem_range.mp hj) (List.mem_range.mp hi)]
 exact decide_eq_false (by omega)
noncomputable def fx (m e:Nat) (g:Nat->Nat) (i:Nat):Nat:=nx m e (g i)
theorem fx_inj {m e:Nat} {A:Nat->Int} {g:Nat->Nat} (T:Tw (4*m+e) A g):Orb.Inj (4*m+e) (fx m e g) :=
 ⟨λi hi=>nx_lt (T.lt i hi),λi j hi hj h=>by rw [← T.inv hi,← T.inv hj,nx_inj (T.lt i hi) (T.lt j hj) h]⟩
end M
namespace PV
open PySem PySem.Spec L2
section
variable {κ:Type} [DecidableEq κ]
theorem mem_keys {kvs:List (κ × D)} {k:κ}:k∈kvs.map (·.1)↔(valD kvs k).isSome=true:=by
 rw [← anyD_iff,List.any_eq_true]
 constructor
 ·intro h
  obtain ⟨p,hp,e⟩:=List.mem_map.mp h
  exact ⟨p,hp,by simpa using e⟩
 ·rintro ⟨p,hp,e⟩
  exact List.mem_map.mpr ⟨p,hp,by simpa using e⟩
theorem keys_put (kvs:List (κ × D)) (k:κ) (v:D):(putD kvs k v).map (·.1)=if (valD kvs k).isSome=true then kvs.map (·.1) else kvs.map (·.1)++[k]:=by
 unfold putD
 rw [anyD_iff]
 by_cases h:(valD kvs k).isSome=true
 ·rw [if_pos h,if_pos h,List.map_map]
  apply List.map_congr_left
  intro p _
  show (if p.1=k then (p.1,v) else p).1=p.1
  split <;> rfl
 ·rw [if_neg h,if_neg h,List.map_append];rfl
structure KeysIn (m n:Nat) (T:List (List Key × D)):Prop where
 nd:(T.map (·.1)).Nodup
 sub:∀k∈T.map (·.1),∃i,i<n/\k=ksP m i
theorem KeysIn.nil {m n:Nat}:KeysIn m n []:=⟨List.nodup_nil,λ_ h=>nomatch h⟩
theorem KeysIn.put {m n i:Nat} {T:List (List Key × D)} (h:KeysIn m n T) (hi:i<n) (v:D):KeysIn m n (putD T (ksP m i) v):=by
 by_cases hs:(valD T (ksP m i)).isSome=true
 ·exact ⟨by rw [keys_put,if_pos hs];exact h.nd,by rw [keys_put,if_pos hs];exact h.sub⟩
 ·refine ⟨?_,?_⟩
  ·rw [keys_put,if_neg hs]
   refine List.nodup_append.mpr ⟨h.nd,by simp,λa ha b hb=>?_⟩
   rw [List.mem_singleton.mp hb]
   exact λz=>hs (mem_keys.mp (z ▸ ha))
  ·rw [keys_put,if_neg hs]
   intro k hk
   rcases List.mem_append.mp hk with hk | hk
   ·exact h.sub k hk
   ·exact ⟨i,hi,List.mem_singleton.mp hk⟩
theorem KeysIn.perm {m n:Nat} {T:List (List Key × D)} (h:KeysIn m n T) (hv:∀i,i<n->(valD T (ksP m i)).isSome=true):(T.map (·.1)).Perm ((List.range n).map (ksP m)):=by
 have nd2:((List.range n).map (ksP m)).Nodup:=by
  unfold List.Nodup
  rw [List.pairwise_map]
  exact List.Pairwise.imp (R:=λa b=>a<b) (λhab e=>by have:=ksP_inj e;omega) List.pairwise_lt_range
 refine (List.perm_ext_iff_of_nodup h.nd nd2).mpr λk=>⟨λhk=>?_,λhk=>?_⟩
 ·obtain ⟨i,hi,rfl⟩:=h.sub k hk
  exact List.mem_map.mpr ⟨i,List.mem_range.mpr hi,rfl⟩
 ·obtain ⟨i,hi,rfl⟩:=List.mem_map.mp hk
  exact mem_keys.mpr (hv i (List.mem_range.mp hi))
end
theorem sort_places {m e:Nat} {T:List (List Key × D)} {k:D->Prop} (hm:m<=200) (he:e<=200) (he1:e % 2=0) (hp:(T.map (·.1)).Perm ((List.range (4*m+e)).map (ksP m))) (h:k (.lst ((M.L0 m e).map (spD m)))):dSortTL [.dit T] k:=by
 obtain ⟨is,hi1,hi2⟩:∃is:List Nat,T.map (·.1)=is.map (ksP m)/\is.Perm (List.range (4*m+e)):=by
  have:∀{l:List (List Key)} {r:List Nat},l.Perm (r.map (ksP m))->∃is:List Nat,l=is.map (ksP m)/\is.Perm r:=by
   intro l
   induction l with
   | nil =>
    intro r h
    have:=h.length_eq
    simp at this
    have:r=[]:=List.length_eq_zero_iff.mp this.symm
    subst this
    exact ⟨[],rfl,.refl _⟩
   | cons a l ih =>
    intro r h
    obtain ⟨i,hi,e⟩:=List.mem_map.mp (h.mem_iff.mp (List.mem_cons_self (a:=a)))
    have p:=List.perm_cons_erase hi
    have h2:(a::l).Perm (a::(r.erase i).map (ksP m)):=by
     rw [← e]
     exact (e ▸ h).trans (p.map (ksP m))
    obtain ⟨is,e1,p1⟩:=ih h2.cons_inv
    exact ⟨i::is,by rw [e1,← e];rfl,(p1.cons i).trans p.symm⟩
  exact this hp
 have hl:T.length=4*m+e:=by have:=hp.length_eq;simpa using this
 refine ⟨is.map (M.ksI m),M.numK,?_,?_,by omega,by omega,?_,λout p1 p2=>?_⟩
 ·rw [hi1,List.map_map];rfl
 ·intro k hk
  obtain ⟨i,_,rfl⟩:=List.mem_map.mp hk
  simp [M.ksI]
 ·intro x hx y hy
  obtain ⟨i,hi,rfl⟩:=List.mem_map.mp hx
  obtain ⟨j,hj,rfl⟩:=List.mem_map.mp hy
  exact M.lex_num (by omega) (List.mem_range.mp (hi2.mem_iff.mp hi)) (List.mem_range.mp (hi2.mem_iff.mp hj))
 ·rw [M.sort_is (by omega) (p1.trans (hi2.map (M.ksI m))) p2,List.map_map]
  exact h
end PV
namespace M
open PySem PySem.Spec L2 PV
noncomputable def ix (a:Int):List Int->Nat
 | []=>0
 | x::l=>if x=a then 0 else ix a l+1
noncomputable def keys (A:Nat->Int) (t:Nat):List Int:=(plc A t).map (·.1)
end M
namespace PV
open PySem PySem.Spec L2
noncomputable def num:Nat->List Int->List (Key × D)
 | _,[]=>[]
 | n,a::l=>(.inl a,.int (n:Nat))::num (n+1) l
end PV
namespace M32
noncomputable def bin:Nat->Nat->Nat
 | _,0=>1
 | 0,_+1=>0
 | n+1,k+1=>bin n k+bin n (k+1)
noncomputable def sg (r:Nat):Int:=if r % 2=0 then 1 else -1
noncomputable def num (r k:Nat):Int:=sg r*(bin r k:Int)
open PV L2
noncomputable def ent (c:Int) (f:Nat->D) (j:Nat):Key × D:=(.inl (c-4*(j:Int)),f j)
noncomputable def row (c:Int) (f:Nat->D) (n:Nat):List (Key × D):=(List.range n).map (ent c f)
section
variable {c:Int} {f:Nat->D} {n i:Nat}
noncomputable def nm (r:Nat) (j:Nat):D:=.int (num r j)
noncomputable def mid (c:Int) (r:Nat):Nat->List (Key × D)
 | 0=>[]
 | i+1=>row c (nm (r+1)) (i+1)++[(.inl (c-4*((i+1:Nat):Int)),.int (-num r i))]
end
noncomputable def wt (p:Int) (r:Nat) (n:Nat):List D:=(List.range n).map λ(k:Nat)=>.tup [.int (p+4*(k:Int)),.int (num r k)]
end M32
namespace PV
open PySem PySem.Spec L2
section
variable {X:Cx} {T:Tg} {m o m1 m2 m3 o1 o2:Bool} {e a b:Expr} {w wa wb:WE} {pos p2 p:Pos} {es:List Expr} {wr:WA} {x:Str}
variable {name:Str} {apos cpos:Pos} {T' id:String}
end
end PV
namespace S03
open PySem PySem.Spec L2 PV
open PySem.Builtin.Str (glued)
noncomputable def jl (c:Nat):List (List Nat)->List Nat
 | []=>[]
 | [w]=>w
 | w::v::r=>w++c::jl c (v::r)
noncomputable def nw (n:Int):Str:=Str.ofString (toString n)
noncomputable def wx:Str:=Str.ofString "x"
noncomputable def we:Str:=Str.ofString "e"
noncomputable def wo:Str:=Str.ofString "o"
noncomputable def Wx (A:Nat->Int):Nat->List Str
 | 0=>[]
 | k+1=>Wx A k++(wx::(List.range 4).map λj=>nw (A (4*k+j)))
noncomputable def We (m e:Nat) (A:Nat->Int):List Str:=if e=0 then [] else we::(List.range e).map λj=>nw (A (4*m+j))
noncomputable def Wo (r:Int):List Str:=if 0<r then [wo,nw r] else []
noncomputable def Ws (m e:Nat) (A:Nat->Int) (r:Int):List Str:=Wx A m++(We m e A++Wo r)
noncomputable def eo (m e:Nat):Nat:=if e=0 then 5*m else 5*m+1+e
noncomputable def tx (m e:Nat) (A:Nat->Int) (r:Int):Str:=glued (Str.ofString " ") (Ws m e A r)
variable {k:D->Prop} {kk:D->D->Prop} {i:Int} {x y:Str} {xs ys:List D} {kvs:List (Key × D)}
theorem small {n:Nat} (h:n<=100000):n<sizeLine:=Nat.lt_of_le_of_lt h (by decide)
end S03
namespace S24
open PySem PySem.Spec L2 PV S03
open PySem.Builtin.Str (glued occurrences strSub subAt)
noncomputable def big:Int:=1000000000000000000000000000000000000000000000000000000000000
noncomputable def av (n:Int):Int:=if n<0 then -n else n
noncomputable def pw (p:Int):Str:=if p=0 then Str.ofString "" else if p=1 then Str.ofString "x" else Str.ofString "x^" ++ nw p
noncomputable def fore (t:Int × Int):Str:=if av t.2=1 then Str.ofString "" else nw (av t.2)
noncomputable def hind (p:Int):Str:=if p=1 then Str.ofString "" else Str.ofString "^" ++ nw p
noncomputable def tm (t:Int × Int):Str:=if t.1=0 then nw (av t.2) else fore t++Str.ofString "x" ++ hind t.1
noncomputable def sg (n:Int):Str:=if n<0 then Str.ofString "-" else Str.ofString "+"
noncomputable def ws (ts:List (Int × Int)):List Str:=ts.flatMap λt=>[sg t.2,tm t]
noncomputable def fst (n:Int):Str:=if n<0 then Str.ofString "-" else Str.ofString ""
noncomputable def tx:List (Int × Int)->Str
 | []=>Str.ofString "0"
 | t::r=>fst t.2++glued (Str.ofString " ") (tm t::ws r)
theorem ws_len (ts:List (Int × Int)):(ws ts).length=2*ts.length:=by
 unfold ws
 induction ts with
 | nil=>rfl
 | cons t ts ih=>rw [List.flatMap_cons,List.length_append,ih,List.length_cons,List.length_cons,List.length_cons,List.length_nil];omega
theorem ws_at1 {ts:List (Int × Int)} {k:Nat}:(ws ts)[2*k+1]? = (ts[k]?).map tm:=by
 induction ts generalizing k with
 | nil=>rfl
 | cons t ts ih =>
  cases k with
  | zero=>rfl
  | succ k=>show (sg t.2::tm t::ws ts)[2*(k+1)+1]? = _;rw [show 2*(k+1)+1=(2*k+1)+1+1 by omega,List.getElem?_cons_succ,List.getElem?_cons_succ,ih,List.getElem?_cons_succ]
theorem pick_map {α β:Type} {xs:List α} {ts:List β} {f:β->α} {g:Nat->Nat} (h:∀k,xs[g k]? = (ts[k]?).map f):(List.range ts.length).filterMap (λk=>xs[g k]?)=ts.map f:=by
 have e:(λk=>xs[g k]?)=λk=>(ts[k]?).map f:=funext h
 rw [e]
 apply List.ext_getElem?
 have:∀n,n<=ts.length->(List.range n).filterMap (λk=>(ts[k]?).map f)=(ts.take n).map f:=by
  intro n
  induction n with
  | zero=>intro _;rfl
  | succ n ih =>
   intro hn
   rw [List.range_succ,List.filterMap_append,ih (by omega),List.take_add_one,List.map_append,List.getElem?_eq_getElem (by omega)]
   simp [List.getElem?_eq_getElem (show n<ts.length by omega)]
 intro i
 rw [this _ (Nat.le_refl _),List.take_length]
theorem step1 {α:Type} (f:Str->α) (ts:List (Int × Int)):stepV ((ws ts).map f) (some 1) none (some 2)=ts.map λt=>f (tm t):=by
 unfold stepV
 by_cases h0:ts.length=0
 ·have:ts=[]:=List.length_eq_zero_iff.mp h0
  subst this
  rfl
 have hb:sliceBounds (some 1) none (some 2) ((ws ts).map f).length=(1,((2*ts.length:Nat):Int),2):=by
  rw [List.length_map,ws_len]
  unfold sliceBounds
  simp
  omega
 rw [hb]
 unfold sliceRange
 simp only [show (2:Int) > 0 by decide,if_true]
 have hc:(if (1:Int)<((2*ts.length:Nat):Int) then (((2*ts.length:Nat):Int)-1+2-1) / 2 else 0).toNat=ts.length:=by split <;> omega
 rw [hc,List.filterMap_map]
 refine pick_map (g:=λk=>(1+2*(k:Int)).toNat) λk=>?_
 rw [show (1+2*(k:Int)).toNat=2*k+1 by omega,List.getElem?_map,ws_at1,Option.map_map];rfl
section
variable {k:D->Prop} {i:Int} {x y:Str} {xs zs:List D}
end
end S24
namespace K12
open PySem PySem.Spec L2 PV
open PyProof.Rows (envOfC)
noncomputable def top (i:Nat):Stmt:=PySem.Challenge.pw_tanglehouse_k12_faces_walked.main.body.getD i (.Pass ⟨0,0,0,0⟩)
noncomputable def x_faces:Expr:=lamIn (defBody (top 8))
noncomputable def L_faces:Lam:=lamOf "faces.<locals>.<lambda>" ["web","others"] x_faces
noncomputable def lp_faces:Pos:=lamPos x_faces
noncomputable abbrev TBof (ts:List Addr):List (Addr × Array Value):=ts.map λP=>(P,tgOf lp_faces L_faces.qual)
structure Bn (mg:Str->Option Value):Prop where
 nb_bool:mg "bool" = none
 nb_enumerate:mg "enumerate" = none
 nb_int:mg "int" = none
 nb_isinstance:mg "isinstance" = none
 nb_len:mg "len" = none
 nb_list:mg "list" = none
 nb_min:mg "min" = none
 nb_range:mg "range" = none
 nb_sorted:mg "sorted" = none
 nb_tuple:mg "tuple" = none
 c_RIM:∃t:Tok,mg "RIM" = some (.int (-1) t)
noncomputable def g_law_take:GI:=λds k=>∃c n b,ds=[rowD c n,.int b]/\0<b/\b<1073741824/\0<=n/\n<=1000000/\∀c' r,0<=r->r<b->k (.int r) (rowD c' (n+1))
noncomputable abbrev s__law_take:Stmt:=top 11
theorem sc__law_take:FnScope ["_law_row","_law_base","_law_rest","_law_number"] ["_law_row","_law_base"] (defScope s__law_take):=⟨rfl,rfl,rfl,by decide +kernel,rfl,by decide +kernel,by decide +kernel⟩
noncomputable def t__law_take:Tg:={ own:=λi=>i == 0 || i == 2 || i == 3,io:=[0] }
noncomputable def w__law_take:WS:=(wSeq (wSetIx 0 (wBin dAdd (wBin dIx (wVar 0) (wC (.int 1))) (wC (.int 1))) (wC (.int 1)))
 (wSeq (wIf (wBl (wBin (dCmp λi j=>decide (j<i)) (wBin dIx (wVar 0) (wC (.int 0))) (wBin dPow (wC (.int 10)) (wC (.int 18))))) (wSeq (wSet 2 (wBin dSub (wBin dIx (wVar 0) (wC (.int 0))) (wBin dPow (wC (.int 10)) (wC (.int 18)))))
 (wSeq (wSetIx 0 (wBin dAdd (wBin dPow (wC (.int 10)) (wC (.int 18))) (wBin dDiv (wVar 2) (wVar 1))) (wC (.int 0)))
 (wRet (wBin dMod (wVar 2) (wVar 1))))) wNext)
 (wSeq (wSet 3 (wBin dMod (wBin dAdd (wBin dAdd (wBin dMul (wBin dIx (wVar 0) (wC (.int 0))) (wC (.int 48271))) (wBin dMul (wBin dMul (wC (.int 7919)) (wBin dIx (wVar 0) (wC (.int 1)))) (wBin dIx (wVar 0) (wC (.int 1))))) (wC (.int 11))) (wC (.int 2147483629))))
 (wSeq (wSet 3 (wBin dMod (wBin dAdd (wBin dAdd (wBin dMul (wVar 3) (wVar 3)) (wBin dMul (wC (.int 69621)) (wBin dIx (wVar 0) (wC (.int 1))))) (wC (.int 7))) (wC (.int 2147483587))))
 (wRet (wBin dMod (wBin dDiv (wVar 3) (wC (.int 5))) (wVar 1)))))))
theorem b__law_take {P:Program} {w:World} {K:PySem.W.Frag} {mg:Str->Option Value} {base:Heap} {f:Addr} (B:Bn mg):∀(cdv:Value) (A:Around) (outer:List PySem.Env) (s:Shared) (H:Hp) (E:XK),Room 0 (A.deeper (envOfC "_law_take" (defScope s__law_take) s.heap.objs.size f cdv))->SVs (cxOf CX0 P w K mg base ["_law_row","_law_base","_law_rest","_law_number"] "_law_take" (defScope s__law_take) f cdv A outer s H E).nox t__law_take (defBody s__law_take) w__law_take:=λcdv A outer s H E hr =>
  (svs_cons (sv_setIx (i:=0) (hu_of hr) (ev_op od_add (ev_ix (xd_ix (hu_of hr)) (ev_var 0) ev_int) ev_int) ev_int)
  (svs_cons (sv_if (tv_cmp od_gt (ev_ix (xd_ix (hu_of hr)) (ev_var 0) ev_int) (ev_op od_pow ev_int ev_int)) (svs_cons (sv_set (i:=2) (ev_op od_sub (ev_ix (xd_ix (hu_of hr)) (ev_var 0) ev_int) (ev_op od_pow ev_int ev_int)) sc__law_take.nd)
  (svs_cons (sv_setIx (i:=0) (hu_of hr) (ev_op od_add (ev_op od_pow ev_int ev_int) (ev_op od_div (ev_var 2) (ev_var 1))) ev_int)
  (svs_one (sv_ret (ev_op od_mod (ev_var 2) (ev_var 1)))))) svs_nil)
  (svs_cons (sv_set (i:=3) (ev_op od_mod (ev_op od_add (ev_op od_add (ev_op od_mul (ev_ix (xd_ix (hu_of hr)) (ev_var 0) ev_int) ev_int) (ev_op od_mul (ev_op od_mul ev_int (ev_ix (xd_ix (hu_of hr)) (ev_var 0) ev_int)) (ev_ix (xd_ix (hu_of hr)) (ev_var 0) ev_int))) ev_int) ev_int) sc__law_take.nd)
  (svs_cons (sv_set (i:=3) (ev_op od_mod (ev_op od_add (ev_op od_add (ev_op od_mul (ev_var 3) (ev_var 3)) (ev_op od_mul ev_int (ev_ix (xd_ix (hu_of hr)) (ev_var 0) ev_int))) ev_int) ev_int) sc__law_take.nd)
  (svs_one (sv_ret (ev_op od_mod (ev_op od_div (ev_var 3) ev_int) (ev_var 1))))))))
theorem ok__law_take {P:Program} {w:World} {K:PySem.W.Frag} {mg:Str->Option Value} {base:Heap} {f:Addr} {fd:FuncData} (F:Fun K "_law_take" "_law_take" s__law_take f fd) (B:Bn mg):FnOk P w K mg base CX0 1 f fd ["_law_row","_law_base"] (spI K 0 g_law_take):=by
 refine fn_io (T:=t__law_take) F sc__law_take rfl rfl (λds kk h=>?_) (b__law_take B) (λds kk h=>?_)
 ·obtain ⟨c,n,b,rfl,_⟩:=h
  exact ⟨rfl,_,rfl,rfl⟩
 ·obtain ⟨c,n,b,rfl,hb,hb2,hn,hn2,k⟩:=h
  have hn1:-18446744073709551616<n+1:=by omega
  have hn2':n+1<18446744073709551616:=by omega
  simp only [w__law_take,wSeq,wSetIx,wBin,env0,rowD,List.map_cons,List.map_nil,List.length_cons,List.length_nil,Nat.zero_add,Nat.reduceAdd,List.replicate,List.cons_append,List.nil_append,wC,wIf,wSet,wRet,r_var,Int.reduceLE,Int.reduceNeg,Int.reduceLT,r_powP,Int.reduceToNat,Int.reducePow,wNext,r_bl,look,Option.isSome_some,List.set_cons_zero,List.set_cons_succ,oget_s,true_and,r_setL,Nat.lt_add_one,ixN_1,List.length_set,Nat.zero_lt_succ,ixN_0,r_flL,r_ixL,atI_0,atI_1,List.getElem?_cons_zero,pureL,Bool.and_true,r_sub,hb,r_modP,hb2,r_divP,r_add,D.pure,Bool.true_and,List.getElem?_cons_succ,r_mulB,r_cmp,r_blOf,r_mulA,hn1,hn2']
  split
  ·exact k _ _ (Int.emod_nonneg _ (by omega)) (Int.emod_lt_of_pos _ hb)
  ·have hx:-18446744073709551616<(c*48271+7919*(n+1)*(n+1)+11) % 2147483629/\(c*48271+7919*(n+1)*(n+1)+11) % 2147483629<18446744073709551616:=by omega
   generalize (c*48271+7919*(n+1)*(n+1)+11) % 2147483629=x at hx
   simp only [Int.reduceNeg,hx.1,hx.2,r_mulA,r_add,Int.reduceLT,r_modP,r_divP,hb]
   exact k _ _ (Int.emod_nonneg _ (by omega)) (Int.emod_lt_of_pos _ hb)
noncomputable def arcF (r l p:Int):D->D
 | .int i=>.int ((r+i*l) % p)
 | d=>d
noncomputable def g_law_arcs:GI:=λds k=>∃(c n:Int) (q:Nat),ds=[rowD c n,.int q]/\q<=100/\0<=n/\n<=999990/\∀(c':Int) (xs:List Int),xs.length=q->xs.Nodup->(∀x∈xs,0<=x/\x<1000000000)->k (.lst (xs.map .int)) (rowD c' (n+3))
noncomputable abbrev s__law_arcs:Stmt:=top 12
theorem sc__law_arcs:FnScope ["_law_row","_law_many","_law_prime","_law_leap","_law_offset"] ["_law_row","_law_many"] (defScope s__law_arcs):=⟨rfl,rfl,rfl,by decide +kernel,rfl,by decide +kernel,by decide +kernel⟩
noncomputable def t__law_arcs:Tg:={ own:=λi=>i == 0 || i == 2 || i == 3 || i == 4,io:=[0] }
noncomputable def w__law_arcs:WS:=(wSeq (wSet 2 (wBin dIx (wLst (wCons (wC (.int 101)) (wCons (wC (.int 10007)) (wCons (wC (.int 999999937)) wNil)))) (wCallI 0 g_law_take (wHere 0 (wCons (wC (.int 3)) wNil)))))
 (wSeq (wSet 3 (wBin dAdd (wC (.int 1)) (wCallI 0 g_law_take (wHere 0 (wCons (wBin dSub (wVar 2) (wC (.int 1))) wNil)))))
 (wSeq (wSet 4 (wCallI 0 g_law_take (wHere 0 (wCons (wVar 2) wNil))))
 (wRet (wComp (wRng1 (wCons (wVar 1) wNil)) wAll (wBin dMod (wBin dAdd (wVar 2) (wBin dMul (wVar 0) (wVar 1))) (wVar 3)) [3,4,2])))))
theorem b__law_arcs {P:Program} {w:World} {K:PySem.W.Frag} {mg:Str->Option Value} {base:Heap} {f:Addr} (B:Bn mg) (C__law_take:Cal P w K mg base "_law_take" 1 ["_law_row","_law_base"] (spI K 0 g_law_take)):∀(cdv:Value) (A:Around) (outer:List PySem.Env) (s:Shared) (H:Hp) (E:XK),Room 1 (A.deeper (envOfC "_law_arcs" (defScope s__law_arcs) s.heap.objs.size f cdv))->SVs (cxOf CX0 P w K mg base ["_law_row","_law_many","_law_prime","_law_leap","_law_offset"] "_law_arcs" (defScope s__law_arcs) f cdv A outer s H E).nox t__law_arcs (defBody s__law_arcs) w__law_arcs:=λcdv A outer s H E hr =>
  (svs_cons (sv_set (i:=2) (ev_ix (xd_ix (hu_of hr)) (ev_lst (av_cons ev_int (av_cons ev_int (av_cons ev_int av_nil)))) (ev_callIC C__law_take (hr.mono (by decide)) (ai_here (i:=0) (av_cons ev_int av_nil)))) sc__law_arcs.nd)
  (svs_cons (sv_set (i:=3) (ev_op od_add ev_int (ev_callIC C__law_take (hr.mono (by decide)) (ai_here (i:=0) (av_cons (ev_op od_sub (ev_var 2) ev_int) av_nil)))) sc__law_arcs.nd)
  (svs_cons (sv_set (i:=4) (ev_callIC C__law_take (hr.mono (by decide)) (ai_here (i:=0) (av_cons (ev_var 2) av_nil))) sc__law_arcs.nd)
  (svs_one (sv_ret (ev_compB (comp_ok [3,4,2] (iv_range1 B.nb_range (av_cons (ev_var 1) av_nil)) (λ_ _ _ _ _=>cv_nil) (λ_ _ _ _ _=>(ev_op od_mod (ev_op od_add (ev_var 2) (ev_op od_mul (ev_var 0) (ev_var 1))) (ev_var 3)))) (compB_mk (defScope s__law_arcs) ["_law_row","_law_many","_law_prime","_law_leap","_law_offset"] (by decide +kernel))))))))
theorem ok__law_arcs {P:Program} {w:World} {K:PySem.W.Frag} {mg:Str->Option Value} {base:Heap} {f:Addr} {fd:FuncData} (F:Fun K "_law_arcs" "_law_arcs" s__law_arcs f fd) (B:Bn mg) (C1:Cal P w K mg base "_law_take" 1 ["_law_row","_law_base"] (spI K 0 g_law_take)):FnOk P w K mg base CX0 2 f fd ["_law_row","_law_many"] (spI K 0 g_law_arcs):=by
 refine fn_io (T:=t__law_arcs) F sc__law_arcs rfl rfl (λds kk h=>?_) (b__law_arcs B C1) (λds kk h=>?_)
 ·obtain ⟨c,n,q,rfl,_⟩:=h
  exact ⟨rfl,_,rfl,rfl⟩
 ·obtain ⟨c,n,q,rfl,hq,hn,hn2,k⟩:=h
  simp only [w__law_arcs,wSeq,wSet,wBin,wLst,wCons,wC,wNil,List.length_cons,List.length_nil,Nat.zero_add,Nat.reduceAdd,wCallI,wHere,env0,rowD,List.map_cons,List.map_nil,List.replicate,List.cons_append,List.nil_append,look,Option.isSome_some,pureL,D.pure,Bool.and_self,List.set_cons_zero,List.set_cons_succ,Bool.and_true,wRet,r_comp,r_rng1,r_var,oget_s,r_rng1I,Int.reducePow,Int.reduceNeg,Int.toNat_natCast,true_and,r_flL]
  refine ⟨by decide,c,n,3,rfl,by decide,by decide,hn,by omega,λc1 r1 h1 h2=>?_⟩
  obtain ⟨p,hat,hp⟩:∃p,L2.atI [D.int 101,D.int 10007,D.int 999999937] r1=some (.int p)/\isP p:=by
   rcases pick3 (a:=D.int 101) (b:=.int 10007) (c:=.int 999999937) h1 h2 with e | e | e
   ·exact ⟨_,e,.inl rfl⟩
   ·exact ⟨_,e,.inr (.inl rfl)⟩
   ·exact ⟨_,e,.inr (.inr rfl)⟩
  have hpb:100<p/\p<1073741824:=by rcases hp with z | z | z <;> omega
  simp only [rowD,r_flL,pureL,D.pure,Bool.and_self,Int.reduceNeg,true_and,r_ixL,hat,oget_s,r_sub]
  refine ⟨c1,n+1,p-1,rfl,by omega,by omega,by omega,by omega,λc2 r2 h3 h4=>?_⟩
  simp only [rowD,r_flL,pureL,D.pure,Bool.and_self,Int.reduceNeg,true_and,r_add]
  refine ⟨c2,n+1+1,p,rfl,by omega,by omega,by omega,by omega,λc3 r3 h5 h6=>?_⟩
  simp only [Int.reduceNeg,rowD]
  refine ⟨by omega,by omega,compI_map (arcF r3 (1+r2) p) (by rw [rngD_length];exact Nat.lt_of_le_of_lt (show _<=1000 by omega) (by decide)) (λd hd Q' hQ=>?_) ?_⟩
  ·obtain ⟨i,hi,rfl⟩:=mem_rngD hd
   have hi1:-18446744073709551616<0+(i:Int):=by omega
   have hi2:0+(i:Int)<18446744073709551616:=by omega
   have hp0:0<p:=by omega
   simp only [wBin,blkE,List.map_cons,look,List.map_nil,r_var,oget_s,Int.reduceNeg,hi1,hi2,r_mulA,r_add,hp0,r_modP]
   exact hQ
  ·simp only [look,oget_s,r_flL,pureL,D.pure,Bool.and_self,true_and]
   have e:(rngD 0 q).map (arcF r3 (1+r2) p)=((List.range q).map λ(i:Nat)=>(r3+(i:Int)*(1+r2)) % p).map D.int:=by
    simp [rngD,arcF]
   rw [e]
   have:=k c3 ((List.range q).map λ(i:Nat)=>(r3+(i:Int)*(1+r2)) % p) (by simp) (arcs_nodup hp (by omega) (by omega) (by omega)) (λx hx=>by
    obtain ⟨i,_,rfl⟩:=List.mem_map.mp hx
    refine ⟨Int.emod_nonneg _ (by omega),Int.lt_of_lt_of_le (Int.emod_lt_of_pos _ (by omega)) (by rcases hp with z | z | z <;> omega)⟩)
   simpa [rowD,Int.add_assoc] using this
noncomputable def g_law_web:GI:=λds k=>∃(c n:Int) (m e:Nat),ds=[rowD c n,.int m,.int e]/\m<=40/\e<=12/\e % 2=0/\0<=n/\n<=900000 /\
 ∀(c' n':Int) (A:Nat->Int) (g:Nat->Nat) (r:Int),M.Tw (4*m+e) A g->(∀i,0<=A i/\A i<1000000000)->(r=0\/r=1\/r=2\/r=20)->n<=n'->n'<=n+1000->k (webD m e A r) (rowD c' n')
noncomputable abbrev s__law_web:Stmt:=top 13
theorem sc__law_web:FnScope ["_law_row","_law_many","_law_ends","_law_arcs_here","_law_left","_law_near","_law_arc_here","_law_crossings"] ["_law_row","_law_many","_law_ends"] (defScope s__law_web):=⟨rfl,rfl,rfl,by decide +kernel,rfl,by decide +kernel,by decide +kernel⟩
noncomputable def t__law_web:Tg:={ own:=λi=>i == 0 || i == 3 || i == 4 || i == 5 || i == 6 || i == 7,io:=[0] }
noncomputable def w__law_web:WS:=(wSeq (wSet 3 (wBin dMul (wLst (wCons (wC (.int 0)) wNil)) (wBin dAdd (wBin dMul (wC (.int 4)) (wVar 1)) (wVar 2))))
 (wSeq (wSet 4 (wCall dRange (wCons (wBin dAdd (wBin dMul (wC (.int 4)) (wVar 1)) (wVar 2)) wNil)))
 (wSeq (wSet 5 (wBin dIx (wLst (wCons (wC (.int 999)) (wCons (wC (.int 1)) (wCons (wC (.int 3)) (wCons (wC (.int 9)) wNil))))) (wCallI 0 g_law_take (wHere 0 (wCons (wC (.int 4)) wNil)))))
 (wSeq (wFor (wSeqD (wCallI 0 g_law_arcs (wHere 0 (wCons (wBin dAdd (wBin dMul (wC (.int 2)) (wVar 1)) (wBin dDiv (wVar 2) (wC (.int 2)))) wNil)))) (gN 6) (wSeq (wSetIx 3 (wVar 6) (wMt 4 "list" gPopAt (wCons (wC (.int 0)) wNil)))
 (wSetIx 3 (wVar 6) (wMt 4 "list" gPopAt (wCons (wCallI 0 g_law_take (wHere 0 (wCons (wCall dMin2 (wCons (wVar 5) (wCons (wCall dLen (wCons (wVar 4) wNil)) wNil))) wNil))) wNil)))))
 (wSeq (wSet 7 (wComp (wRng1 (wCons (wVar 1) wNil)) wAll (wCall dTuple (wCons (wSl (wVar 1) (wSome (wBin dMul (wC (.int 4)) (wVar 0))) (wSome (wBin dAdd (wBin dMul (wC (.int 4)) (wVar 0)) (wC (.int 4))))) wNil)) [3]))
 (wRet (wTup (wCons (wCall dTuple (wCons (wVar 7) wNil)) (wCons (wCall dTuple (wCons (wSl (wVar 3) (wSome (wBin dMul (wC (.int 4)) (wVar 1))) wNone) wNil)) (wCons (wBin dIx (wLst (wCons (wC (.int 0)) (wCons (wC (.int 1)) (wCons (wC (.int 2)) (wCons (wC (.int 20)) wNil))))) (wCallI 0 g_law_take (wHere 0 (wCons (wC (.int 4)) wNil)))) wNil))))))))))
theorem b__law_web {P:Program} {w:World} {K:PySem.W.Frag} {mg:Str->Option Value} {base:Heap} {f:Addr} (B:Bn mg) (C__law_take:Cal P w K mg base "_law_take" 1 ["_law_row","_law_base"] (spI K 0 g_law_take)) (C__law_arcs:Cal P w K mg base "_law_arcs" 2 ["_law_row","_law_many"] (spI K 0 g_law_arcs)):∀(cdv:Value) (A:Around) (outer:List PySem.Env) (s:Shared) (H:Hp) (E:XK),Room 2 (A.deeper (envOfC "_law_web" (defScope s__law_web) s.heap.objs.size f cdv))->SVs (cxOf CX0 P w K mg base ["_law_row","_law_many","_law_ends","_law_arcs_here","_law_left","_law_near","_law_arc_here","_law_crossings"] "_law_web" (defScope s__law_web) f cdv A outer s H E).nox t__law_web (defBody s__law_web) w__law_web:=λcdv A outer s H E hr =>
  (svs_cons (sv_set (i:=3) (ev_op od_mul (ev_lst (av_cons ev_int av_nil)) (ev_op od_add (ev_op od_mul ev_int (ev_var 1)) (ev_var 2))) sc__law_web.nd)
  (svs_cons (sv_set (i:=4) (ev_listRange B.nb_range B.nb_list (av_cons (ev_op od_add (ev_op od_mul ev_int (ev_var 1)) (ev_var 2)) av_nil)) sc__law_web.nd)
  (svs_cons (sv_set (i:=5) (ev_ix (xd_ix (hu_of hr)) (ev_lst (av_cons ev_int (av_cons ev_int (av_cons ev_int (av_cons ev_int av_nil))))) (ev_callIC C__law_take (hr.mono (by decide)) (ai_here (i:=0) (av_cons ev_int av_nil)))) sc__law_web.nd)
  (svs_cons (sv_for PassesOwn.never (iv_seq (ev_callIC C__law_arcs (hr.mono (by decide)) (ai_here (i:=0) (av_cons (ev_op od_add (ev_op od_mul ev_int (ev_var 1)) (ev_op od_div (ev_var 2) ev_int)) av_nil)))) (gv_name (i:=6) sc__law_web.nd) (svs_cons (sv_setIx (i:=3) (hu_of hr) (ev_var 6) (ev_mt (i:=4) md_popAt PySem.F.plainAttrs_list PySem.F.slot_list_pop PySem.F.type_list_pop (av_cons ev_int av_nil)))
  (svs_one (sv_setIx (i:=3) (hu_of hr) (ev_var 6) (ev_mt (i:=4) md_popAt PySem.F.plainAttrs_list PySem.F.slot_list_pop PySem.F.type_list_pop (av_cons (ev_callIC C__law_take (hr.mono (by decide)) (ai_here (i:=0) (av_cons (ev_callB (cd_min2 rfl) B.nb_min bt_min (av_cons (ev_var 5) (av_cons (ev_callB cd_len B.nb_len bt_len (av_cons (ev_var 4) av_nil)) av_nil))) av_nil))) av_nil))))))
  (svs_cons (sv_compB (j:=7) (comp_ok [3] (iv_range1 B.nb_range (av_cons (ev_var 1) av_nil)) (λ_ _ _ _ _=>cv_nil) (λ_ _ _ _ _=>(ev_callTy cd_tuple B.nb_tuple bt_tuple (av_cons (ev_sl (ev_var 1) (ov_some (ev_op od_mul ev_int (ev_var 0))) (ov_some (ev_op od_add (ev_op od_mul ev_int (ev_var 0)) ev_int))) av_nil)))) (compB_mk (defScope s__law_web) ["_law_row","_law_many","_law_ends","_law_arcs_here","_law_left","_law_near","_law_arc_here","_law_crossings"] (by decide +kernel)) sc__law_web.nd)
  (svs_one (sv_ret (ev_tup (av_cons (ev_callTy cd_tuple B.nb_tuple bt_tuple (av_cons (ev_var 7) av_nil)) (av_cons (ev_callTy cd_tuple B.nb_tuple bt_tuple (av_cons (ev_sl (ev_var 3) (ov_some (ev_op od_mul ev_int (ev_var 1))) ov_none) av_nil)) (av_cons (ev_ix (xd_ix (hu_of hr)) (ev_lst (av_cons ev_int (av_cons ev_int (av_cons ev_int (av_cons ev_int av_nil))))) (ev_callIC C__law_take (hr.mono (by decide)) (ai_here (i:=0) (av_cons ev_int av_nil)))) av_nil)))))))))))
theorem ok__law_web {P:Program} {w:World} {K:PySem.W.Frag} {mg:Str->Option Value} {base:Heap} {f:Addr} {fd:FuncData} (F:Fun K "_law_web" "_law_web" s__law_web f fd) (B:Bn mg) (C1:Cal P w K mg base "_law_take" 1 ["_law_row","_law_base"] (spI K 0 g_law_take)) (C2:Cal P w K mg base "_law_arcs" 2 ["_law_row","_law_many"] (spI K 0 g_law_arcs)) :
  FnOk P w K mg base CX0 3 f fd ["_law_row","_law_many","_law_ends"] (spI K 0 g_law_web):=by
 refine fn_io (T:=t__law_web) F sc__law_web rfl rfl (λds kk h=>?_) (b__law_web B C1 C2) (λds kk h=>?_)
 ·obtain ⟨c,n,m,e,rfl,_⟩:=h
  exact ⟨rfl,_,rfl,rfl⟩
 ·obtain ⟨c,n,m,e,rfl,hm,he,he2,hn,hn2,k⟩:=h
  simp only [w__law_web,wSeq,wSet,wBin,wLst,wCons,wC,wNil,List.length_cons,List.length_nil,Nat.zero_add,env0,rowD,List.map_cons,List.map_nil,Nat.reduceAdd,List.replicate,List.cons_append,List.nil_append,wCall,wCallI,wHere,pureL,D.pure,Bool.and_self,r_for,r_seq,Bool.and_true,r_var,true_and,look,List.set_cons_succ,List.set_cons_zero,Option.isSome_some,oget_s,Int.reduceLT,r_divP,Int.reduceNeg,r_mulA,r_add,r_flL,r_range,r_mulL,Int.reducePow]
  have hN:(4*(m:Int)+(e:Int)).toNat=4*m+e:=by omega
  have e1:(List.replicate (4*(m:Int)+(e:Int)).toNat [D.int 0]).flatten=(List.replicate (4*m+e) (0:Int)).map D.int:=by rw [hN];simp
  have e2:rngD 0 (4*(m:Int)+(e:Int)).toNat=(List.range (4*m+e)).map λ(i:Nat)=>D.int (i:Int):=by rw [hN];simp [rngD]
  have big:∀n:Nat,n<=1000->n<sizeLine:=λn h=>Nat.lt_of_le_of_lt h (by decide)
  rw [e1,e2]
  refine ⟨by decide,by omega,by omega,by rw [hN];exact Nat.le_of_lt (big _ (by omega)),by omega,by omega,by decide,c,n,4,rfl,by decide,by decide,hn,by omega,λc0 r0 h0a h0b=>?_⟩
  obtain ⟨nr,hat0,hnr⟩:∃nr:Int,L2.atI [D.int 999,D.int 1,D.int 3,D.int 9] r0=some (.int nr)/\0<nr:=by
   rcases pick4 (a:=D.int 999) (b:=.int 1) (c:=.int 3) (d:=.int 9) h0a h0b with q | q | q | q
   ·exact ⟨_,q,by decide⟩
   ·exact ⟨_,q,by decide⟩
   ·exact ⟨_,q,by decide⟩
   ·exact ⟨_,q,by decide⟩
  simp only [rowD,r_flL,pureL,D.pure,Bool.and_self,true_and,r_ixL,hat0,oget_s]
  refine ⟨c0,n+1,2*m+e / 2,by simp [rowD],by omega,by omega,by omega,λc1 xs hl nd hxs=>?_⟩
  simp only [rowD,r_seqL]
  refine ⟨pure_ints,λt ρ=>∃(c' n':Int) (L:List Nat) (Bs:List Int) (ps:List (Nat × Nat)) (o:Option D),ρ=[some (rowD c' n'),some (.int m),some (.int e),some (.lst (Bs.map D.int)),some (.lst (L.map λ(i:Nat)=>D.int (i:Int))),some (.int nr),o,none]/\Pr (4*m+e) xs t L Bs ps/\L.length=4*m+e-2*t/\n'=n+1+3+t/\t<=xs.length/\∀b∈Bs,0<=b/\b<1000000000,
   ⟨c1,n+1+3,List.range (4*m+e),List.replicate (4*m+e) 0,[],none,rfl,Pr.start _ _,by simp,by simp,Nat.zero_le _,λb hb=>by rw [(List.mem_replicate.mp hb).2];decide⟩,?_,?_⟩
  ·rintro t d ρ hd ⟨c',n',L,Bs,ps,o,rfl,hp,hL,hn',ht,hB⟩
   obtain ⟨x,hx,rfl⟩:∃x,xs[t]? = some x/\d=.int x:=by
    rw [List.getElem?_map] at hd
    cases q:xs[t]? with
    | none=>rw [q] at hd;cases hd
    | some x=>rw [q] at hd;exact ⟨x,rfl,(Option.some.inj hd).symm⟩
   have htl:=(List.getElem?_eq_some_iff.mp hx).1
   cases L with
   | nil=>simp at hL;omega
   | cons i L =>
    simp only [List.length_cons] at hL
    have hi:=hp.lt (List.mem_cons_self (a:=i))
    have hbl:=hp.bl
    have hix:ixN Bs.length (i:Int)=some i:=ixN_ofNat (by omega)
    simp only [gN,wSeq,wSetIx,rowD,List.map_cons,List.set_cons_succ,List.set_cons_zero,wMt,wCons,wC,wNil,wCallI,wHere,wCall,pureL,Bool.and_true,List.nil_append,r_var,look,Option.isSome_some,r_tyL,BEq.rfl,oget_s,r_flL,D.pure,Bool.and_self,true_and,r_popAt,Int.reducePow,Int.reduceNeg,Int.reduceLE,Int.reduceLT,List.length_cons,List.length_map,Nat.zero_lt_succ,seqIx_0,r_lenL,r_min,List.getElem?_cons_zero,List.eraseIdx_cons_zero,r_setL,hix]
    have hLp:0<L.length:=by omega
    refine ⟨c',n',(if (L.length:Int)<nr then (L.length:Int) else nr),rfl,by split <;> omega,by split <;> omega,by omega,by omega,λc2 r h1 h2=>?_⟩
    have h2:r<(L.length:Int):=by split at h2 <;> omega
    obtain ⟨s,rfl⟩:=Int.eq_ofNat_of_zero_le h1
    have hs:s<L.length:=by omega
    have hj:=hp.lt (List.mem_cons_of_mem i (List.getElem_mem hs))
    have hsx:seqIndex? (s:Int) L.length=some s:=seqIx_ofNat hs
    have hjx:ixN Bs.length ((L[s]:Nat):Int)=some L[s]:=ixN_ofNat (by omega)
    simp only [rowD,r_popAt,Int.reducePow,Int.reduceNeg,List.length_map,hsx,List.getElem?_map,oget_s,List.getElem?_eq_getElem hs,Option.map_some,D.pure,r_setL,List.length_set,hjx,true_and]
    refine ⟨by omega,by omega,c2,n'+1,L.eraseIdx s,(Bs.set i x).set L[s] x,ps++[(i,L[s])],some (.int x),?_,hp.step hx hs,?_,by omega,by omega,λb hb=>?_⟩
    ·simp [rowD,List.map_set,map_erase]
    ·rw [List.length_eraseIdx_of_lt hs];omega
    ·rcases List.mem_or_eq_of_mem_set hb with hb | rfl
     ·rcases List.mem_or_eq_of_mem_set hb with hb | rfl
      ·exact hB b hb
      ·exact hxs _ (List.mem_of_getElem? hx)
     ·exact hxs _ (List.mem_of_getElem? hx)
  ·rintro ρ ⟨c',n',L,Bs,ps,o,rfl,hp,hL,hn',ht,hB⟩
   simp only [List.length_map] at hp hL hn' ht
   have hL0:L=[]:=List.length_eq_zero_iff.mp (by omega)
   subst hL0
   obtain ⟨g,tw⟩:=hp.tw nd
   have hbl:=hp.bl
   simp only [wSeq,wSet,rowD,wRet,wTup,wCons,wCall,wNil,wSl,wNone,wBin,wLst,wC,List.length_cons,List.length_nil,Nat.zero_add,Nat.reduceAdd,wCallI,wHere,pureL,D.pure,Bool.and_self,List.nil_append,true_and,r_some,r_var,r_comp,r_rng1,look,oget_s,r_rng1I,Int.reducePow,Int.reduceNeg,Int.toNat_natCast]
   refine ⟨by omega,by omega,compI_map (crossF Bs) (by rw [rngD_length];exact big _ (by omega)) (λd hd Q' hQ=>?_) ?_⟩
   ·obtain ⟨i,hi,rfl⟩:=mem_rngD hd
    have hb1:-18446744073709551616<0+(i:Int):=by omega
    have hb2:0+(i:Int)<18446744073709551616:=by omega
    have q1:4*(0+(i:Int))=((4*i:Nat):Int):=by omega
    have q2:((4*i:Nat):Int)+4=((4*i+4:Nat):Int):=by omega
    simp only [wCall,wCons,wSl,blkE,List.map_nil,List.map_cons,look,wNil,r_some,wBin,wC,r_var,oget_s,Int.reduceNeg,Int.reduceLT,r_mulA,r_add,r_intOf,r_slL,r_tupL]
    rw [q1,q2,cut_mid (by omega) (by rw [List.length_map];omega),show 4*i+4-4*i=4 by omega,drop_take_range (by omega)]
    refine ⟨pure_ints,pureL_map λ_ _=>rfl,?_⟩
    rw [crossF_nat] at hQ
    exact hQ
   ·simp only [List.set_cons_succ,List.set_cons_zero,look,Option.isSome_some,oget_s,r_flL,pureL,D.pure,Bool.and_self,true_and,Int.reduceNeg,Int.reduceLT,r_mulA,r_intOf,r_slL,r_tupL]
    rw [crossF_map,show (4*(m:Int))=((4*m:Nat):Int) by omega,cut_from (by rw [List.length_map];omega)]
    have e3:(Bs.map D.int).drop (4*m)=(List.range e).map λj=>.int (Bs.getD (4*m+j) 0):=by
     rw [← drop_take_range (by omega),List.take_of_length_le (by simp;omega)]
    rw [e3]
    refine ⟨pureL_map λ_ _=>by simp only [D.pure];exact pureL_map λ_ _=>rfl,pure_ints,pureL_map λ_ _=>rfl,by decide,c',n',4,rfl,by decide,by decide,by omega,by omega,λc4 r4 h1 h2=>?_⟩
    obtain ⟨p,hat,hp4⟩:∃p,L2.atI [D.int 0,D.int 1,D.int 2,D.int 20] r4=some (.int p)/\(p=0\/p=1\/p=2\/p=20):=by
     rcases pick4 (a:=D.int 0) (b:=.int 1) (c:=.int 2) (d:=.int 20) h1 h2 with q | q | q | q
     ·exact ⟨_,q,.inl rfl⟩
     ·exact ⟨_,q,.inr (.inl rfl)⟩
     ·exact ⟨_,q,.inr (.inr (.inl rfl))⟩
     ·exact ⟨_,q,.inr (.inr (.inr rfl))⟩
    simp only [rowD,r_flL,pureL,D.pure,Bool.and_self,true_and,r_ixL,hat,oget_s]
    exact ⟨by decide,k c4 (n'+1) (λi=>Bs.getD i 0) g p tw (λi=>getD_all (by decide) hB i) hp4 (by omega) (by omega)⟩
end K12
namespace K12
open PySem PySem.Spec L2 PV
open PyProof.Rows (envOfC)
theorem big {n:Nat} (h:n<=1000):n<sizeLine:=Nat.lt_of_le_of_lt h (by decide)
noncomputable def crD (A:Nat->Int) (k:Nat):D:=.tup ((List.range 4).map λj=>.int (A (4*k+j)))
noncomputable def g_places:GA:=λds k=>∃(m e:Nat) (A:Nat->Int) (r:Int),ds=[webD m e A r]/\m<=100/\e<=100/\k (.dik (encP (spD m) (M.plc A (4*m+e))))
noncomputable abbrev s_places:Stmt:=top 2
theorem sc_places:FnScope ["web","told","k","crossing","j","arc"] ["web"] (defScope s_places):=⟨rfl,rfl,rfl,by decide +kernel,rfl,by decide +kernel,by decide +kernel⟩
noncomputable def t_places:Tg:={ own:=λi=>i == 1 || i == 2 || i == 3 || i == 4 || i == 5,io:=[] }
noncomputable def w_places:WS:=(wSeq (wSet 1 (wC (.dik [])))
 (wSeq (wFor (wEnum (wCons (wBin dIx (wVar 0) (wC (.int 0))) wNil)) (gTupD 2 (gConsD (gN 2) (gConsD (gN 3) gNilD))) (wFor (wEnum (wCons (wVar 3) wNil)) (gTupD 2 (gConsD (gN 4) (gConsD (gN 5) gNilD))) (wSda 1 (wVar 5) (wTup (wCons (wVar 2) (wCons (wVar 4) wNil))))))
 (wSeq (wFor (wEnum (wCons (wBin dIx (wVar 0) (wC (.int 1))) wNil)) (gTupD 2 (gConsD (gN 4) (gConsD (gN 5) gNilD))) (wSda 1 (wVar 5) (wTup (wCons (wC (.int (-1))) (wCons (wVar 4) wNil)))))
 (wRetS 1))))
theorem b_places {P:Program} {w:World} {K:PySem.W.Frag} {mg:Str->Option Value} {base:Heap} {f:Addr} (B:Bn mg):∀(cdv:Value) (A:Around) (outer:List PySem.Env) (s:Shared) (H:Hp) (E:XK),Room 0 (A.deeper (envOfC "places" (defScope s_places) s.heap.objs.size f cdv))->SVs (cxOf CX0 P w K mg base ["web","told","k","crossing","j","arc"] "places" (defScope s_places) f cdv A outer s H E).nox t_places (defBody s_places) w_places:=λcdv A outer s H E hr =>
  (svs_cons (sv_set (i:=1) ev_dnewK sc_places.nd)
  (svs_cons (sv_for PassesOwn.never (iv_enum B.nb_enumerate (av_cons (ev_ix (xd_ix (hu_of hr)) (ev_var 0) ev_int) av_nil)) (gv_tup (gvs_cons (gv_name (i:=2) sc_places.nd) (gvs_cons (gv_name (i:=3) sc_places.nd) gvs_nil))) (svs_one (sv_for PassesOwn.never (iv_enum B.nb_enumerate (av_cons (ev_var 3) av_nil)) (gv_tup (gvs_cons (gv_name (i:=4) sc_places.nd) (gvs_cons (gv_name (i:=5) sc_places.nd) gvs_nil))) (svs_one (sv_sda (i:=1) (ev_var 5) (ev_tup (av_cons (ev_var 2) (av_cons (ev_var 4) av_nil))))))))
  (svs_cons (sv_for PassesOwn.never (iv_enum B.nb_enumerate (av_cons (ev_ix (xd_ix (hu_of hr)) (ev_var 0) ev_int) av_nil)) (gv_tup (gvs_cons (gv_name (i:=4) sc_places.nd) (gvs_cons (gv_name (i:=5) sc_places.nd) gvs_nil))) (svs_one (sv_sda (i:=1) (ev_var 5) (ev_tup (av_cons (ev_gint B.c_RIM.choose_spec) (av_cons (ev_var 4) av_nil))))))
  (svs_one (sv_retS (i:=1))))))
theorem pl_step {m t:Nat} {A:Nat->Int} (ht:t<900) {P:EndsP} {ρ:PV.Env} {wk wv:WE} {a:Int} (ha:a=A t)
  (h1:look ρ 1=some (.dik (encP (spD m) (M.plc A t)))) (hk:∀Q,Q (.int a) ρ->wk ρ Q) (hv:∀d Q,Q (spD m t) (ρ.set 1 d)->wv (ρ.set 1 d) Q) (hn:P.nx (ρ.set 1 (some (.dik (encP (spD m) (M.plc A (t+1))))))):wSda 1 wk wv P ρ:=by
 obtain ⟨k1,k2,_⟩:=M.plc_ok A t
 unfold wSda
 rw [h1]
 obtain ⟨l,hl,v1,v2⟩:=sda_enc (s:=spD m) (P:=M.plc A t) (a:=a) (i:=t) k1
 have hlen:l.length<=t:=by
  rcases hl with rfl | ⟨e,he,rfl⟩
  ·exact Nat.zero_le _
  ·exact plc_lens A t e he
 refine ⟨?_,encP_keys k1,hk _ ?_⟩
 ·have:=plc_len A t
  unfold encP
  rw [List.length_map]
  exact big (by omega)
 ·show oget (valD (sdNew (encP (spD m) (M.plc A t)) (.inl a)) (.inl a)) _
  rw [v1]
  refine ⟨by rw [List.length_map];exact big (by omega),hv _ _ ⟨pure_sp,?_⟩⟩
  rw [v2,ha,← M.plc_succ]
  exact hn
theorem ok_places {P:Program} {w:World} {K:PySem.W.Frag} {mg:Str->Option Value} {base:Heap} {f:Addr} {fd:FuncData} (F:Fun K "places" "places" s_places f fd) (B:Bn mg):FnOk P w K mg base CX0 1 f fd ["web"] (spR K g_places):=by
 refine fn_ro (T:=t_places) F sc_places rfl (by decide) (λds kk h=>?_) (b_places B) (λds kk h=>?_)
 ·obtain ⟨m,e,A,r,rfl,_⟩:=h
  rfl
 ·obtain ⟨m,e,A,r,rfl,hm,he,k⟩:=h
  simp only [w_places,wSeq,wSet,wC,Int.reduceNeg,env0,webD,List.map_cons,List.map_nil,List.length_cons,List.length_nil,Nat.zero_add,Nat.reduceAdd,List.replicate,List.cons_append,List.nil_append,List.set_cons_succ,List.set_cons_zero,r_for,r_enum,wCons,wBin,wNil,r_var,look,oget_s,r_ixT,atI_0,List.getElem?_cons_zero,r_enumT]
  have pc:pureL ((List.range m).map λk=>D.tup ((List.range 4).map λj=>.int (A (4*k+j))))=true:=pureL_map λ_ _=>by simp only [D.pure];exact pureL_map λ_ _=>rfl
  have pe:pureL ((List.range e).map λj=>D.int (A (4*m+j)))=true:=pureL_map λ_ _=>rfl
  refine ⟨pc,pure_enum pc,λk ρ=>∃o2 o3 o4 o5:Option D,ρ=[some (webD m e A r),some (.dik (encP (spD m) (M.plc A (4*k)))),o2,o3,o4,o5],⟨none,none,none,none,rfl⟩,?_,?_⟩
  ·rintro i d ρ hd ⟨o2,o3,o4,o5,rfl⟩
   rw [enumD_get] at hd
   have hi:i<m:=by
    cases q:((List.range m).map λk=>D.tup ((List.range 4).map λj=>.int (A (4*k+j))))[i]? with
    | none=>rw [q] at hd;cases hd
    | some z=>simpa using (List.getElem?_eq_some_iff.mp q).1
   rw [List.getElem?_map,List.getElem?_range hi] at hd
   have hd:=(Option.some.inj hd).symm
   subst hd
   have pi:pureL ((List.range 4).map λj=>D.int (A (4*i+j)))=true:=pureL_map λ_ _=>rfl
   simp only [Nat.zero_add,Int.reduceNeg,r_for,r_enum,wCons,wNil,r_var,r_gTup,List.length_cons,List.length_nil,Nat.reduceAdd,r_gCons,gN,List.set_cons_succ,List.set_cons_zero,r_gNil,look,oget_s,r_enumT,true_and]
   refine ⟨pi,pure_enum pi,λj ρ=>∃o4 o5:Option D,ρ=[some (webD m e A r),some (.dik (encP (spD m) (M.plc A (4*i+j)))),some (.int (i:Int)),some (crD A i),o4,o5],⟨o4,o5,by simp [crD]⟩,?_,?_⟩
   ·rintro j d ρ hd ⟨o4,o5,rfl⟩
    rw [enumD_get] at hd
    have hj:j<4:=by
     cases q:((List.range 4).map λj=>D.int (A (4*i+j)))[j]? with
     | none=>rw [q] at hd;cases hd
     | some z=>simpa using (List.getElem?_eq_some_iff.mp q).1
    rw [List.getElem?_map,List.getElem?_range hj] at hd
    have hd:=(Option.some.inj hd).symm
    subst hd
    simp only [Nat.zero_add,r_gTup,List.length_cons,List.length_nil,Nat.reduceAdd,r_gCons,gN,List.set_cons_succ,List.set_cons_zero,r_gNil,true_and]
    refine pl_step (m:=m) (t:=4*i+j) (A:=A) (a:=A (4*i+j)) (by omega) rfl rfl (λQ hQ=>?_) (λd Q hQ=>?_) ?_
    ·simp only [r_var,look,oget_s];exact hQ
    ·simp only [wTup,wCons,List.set_cons_succ,List.set_cons_zero,wNil,List.length_cons,List.length_nil,Nat.zero_add,Nat.reduceAdd,r_var,look,oget_s]
     refine ⟨by decide,?_⟩
     simpa [spD,M.sp_in hi hj] using hQ
    ·exact ⟨some (.int (j:Int)),some (.int (A (4*i+j))),by simp [Nat.add_assoc]⟩
   ·rintro ρ ⟨o4,o5,rfl⟩
    have hl:(enumD 0 ((List.range 4).map λj=>D.int (A (4*i+j)))).length=4:=by rw [enumD_length];simp
    exact ⟨some (.int (i:Int)),some (crD A i),o4,o5,by rw [hl,Nat.mul_add]⟩
  ·rintro ρ ⟨o2,o3,o4,o5,rfl⟩
   have hl:(enumD 0 ((List.range m).map λk=>D.tup ((List.range 4).map λj=>.int (A (4*k+j))))).length=m:=by rw [enumD_length];simp
   rw [hl]
   simp only [wSeq,Int.reduceNeg,webD,r_for,r_enum,wCons,wBin,wC,wNil,r_var,look,oget_s,r_ixT,atI_1,List.getElem?_cons_succ,List.getElem?_cons_zero,r_enumT]
   refine ⟨pe,pure_enum pe,λj ρ=>∃o4 o5:Option D,ρ=[some (webD m e A r),some (.dik (encP (spD m) (M.plc A (4*m+j)))),o2,o3,o4,o5],⟨o4,o5,by simp [webD]⟩,?_,?_⟩
   ·rintro j d ρ hd ⟨o4,o5,rfl⟩
    rw [enumD_get] at hd
    have hj:j<e:=by
     cases q:((List.range e).map λj=>D.int (A (4*m+j)))[j]? with
     | none=>rw [q] at hd;cases hd
     | some z=>simpa using (List.getElem?_eq_some_iff.mp q).1
    rw [List.getElem?_map,List.getElem?_range hj] at hd
    have hd:=(Option.some.inj hd).symm
    subst hd
    simp only [Nat.zero_add,Int.reduceNeg,r_gTup,List.length_cons,List.length_nil,Nat.reduceAdd,r_gCons,gN,List.set_cons_succ,List.set_cons_zero,r_gNil,true_and]
    refine pl_step (m:=m) (t:=4*m+j) (A:=A) (a:=A (4*m+j)) (by omega) rfl rfl (λQ hQ=>?_) (λd Q hQ=>?_) ?_
    ·simp only [r_var,look,oget_s];exact hQ
    ·simp only [wTup,wCons,wC,List.set_cons_succ,List.set_cons_zero,wNil,Int.reduceNeg,List.length_cons,List.length_nil,Nat.zero_add,Nat.reduceAdd,r_var,look,oget_s]
     refine ⟨by decide,?_⟩
     simpa [spD,M.sp_out] using hQ
    ·exact ⟨some (.int (j:Int)),some (.int (A (4*m+j))),by simp [Nat.add_assoc]⟩
   ·rintro ρ ⟨o4,o5,rfl⟩
    have hl:(enumD 0 ((List.range e).map λj=>D.int (A (4*m+j)))).length=e:=by rw [enumD_length];simp
    rw [hl]
    simp only [wRetS,look,oget_s]
    exact k
structure TOk (m n:Nat) (g:Nat->Nat) (T:List (List Key × D)):Prop where
 val:∀i,i<n->valD T (ksP m i)=some (spD m (g i))
 perm:(T.map (·.1)).Perm ((List.range n).map (ksP m))
 bare:bareT T=true
theorem TOk.mk' {m n:Nat} {g:Nat->Nat} {T:List (List Key × D)} (h1:KeysIn m n T) (h2:∀p∈T,p.2.bare=true) (h3:∀i,i<n->valD T (ksP m i)=some (spD m (g i))):TOk m n g T :=
 ⟨h3,h1.perm λi hi=>by rw [h3 i hi];rfl,bareT_iff.mpr h2⟩
theorem bare_put {κ:Type} [DecidableEq κ] {T:List (κ × D)} {k:κ} {v:D} (h:∀p∈T,p.2.bare=true) (hv:v.bare=true):∀p∈putD T k v,p.2.bare=true:=λp hp=>by
 unfold putD at hp
 split at hp
 ·obtain ⟨q,hq,rfl⟩:=List.mem_map.mp hp
  split
  ·exact hv
  ·exact h q hq
 ·rcases List.mem_append.mp hp with hp | hp
  ·exact h p hp
  ·rw [List.mem_singleton.mp hp];exact hv
noncomputable def g_twins:GA:=λds k=>∃(m e:Nat) (A:Nat->Int) (r:Int) (g:Nat->Nat),ds=[webD m e A r]/\m<=100/\e<=100/\M.Tw (4*m+e) A g/\∀T:List (List Key × D),TOk m (4*m+e) g T->k (.dit T)
noncomputable abbrev s_twins:Stmt:=top 4
theorem sc_twins:FnScope ["web","told","pair"] ["web"] (defScope s_twins):=⟨rfl,rfl,rfl,by decide +kernel,rfl,by decide +kernel,by decide +kernel⟩
noncomputable def t_twins:Tg:={ own:=λi=>i == 1,io:=[] }
noncomputable def w_twins:WS:=(wSeq (wSet 1 (wC (.dit [])))
 (wSeq (wForR (wVals (wCall g_places (wCons (wVar 0) wNil))) 2 (wSeq (wSetIx 1 (wBin dIx (wVar 2) (wC (.int 1))) (wBin dIx (wVar 2) (wC (.int 0))))
 (wSetIx 1 (wBin dIx (wVar 2) (wC (.int 0))) (wBin dIx (wVar 2) (wC (.int 1))))))
 (wRetS 1)))
theorem b_twins {P:Program} {w:World} {K:PySem.W.Frag} {mg:Str->Option Value} {base:Heap} {f:Addr} (B:Bn mg) (C_places:Cal P w K mg base "places" 1 ["web"] (spR K g_places)):∀(cdv:Value) (A:Around) (outer:List PySem.Env) (s:Shared) (H:Hp) (E:XK),Room 1 (A.deeper (envOfC "twins" (defScope s_twins) s.heap.objs.size f cdv))->SVs (cxOf CX0 P w K mg base ["web","told","pair"] "twins" (defScope s_twins) f cdv A outer s H E).nox t_twins (defBody s_twins) w_twins:=λcdv A outer s H E hr =>
  (svs_cons (sv_set (i:=1) ev_dnewT sc_twins.nd)
  (svs_cons (sv_forR (i₀:=2) PassesOwn.never (iv_vals (ev_callC C_places (hr.mono (by decide)) (av_cons (ev_var 0) av_nil))) (svs_cons (sv_setIx (i:=1) (hu_of hr) (ev_ix (xd_ix (hu_of hr)) (ev_var 2) ev_int) (ev_ix (xd_ix (hu_of hr)) (ev_var 2) ev_int))
  (svs_one (sv_setIx (i:=1) (hu_of hr) (ev_ix (xd_ix (hu_of hr)) (ev_var 2) ev_int) (ev_ix (xd_ix (hu_of hr)) (ev_var 2) ev_int)))) sc_twins.nd)
  (svs_one (sv_retS (i:=1)))))
theorem ok_twins {P:Program} {w:World} {K:PySem.W.Frag} {mg:Str->Option Value} {base:Heap} {f:Addr} {fd:FuncData} (F:Fun K "twins" "twins" s_twins f fd) (B:Bn mg) (C1:Cal P w K mg base "places" 1 ["web"] (spR K g_places)):FnOk P w K mg base CX0 2 f fd ["web"] (spR K g_twins):=by
 refine fn_ro (T:=t_twins) F sc_twins rfl (by decide) (λds kk h=>?_) (b_twins B C1) (λds kk h=>?_)
 ·obtain ⟨m,e,A,r,g,rfl,_⟩:=h
  rfl
 ·obtain ⟨m,e,A,r,g,rfl,hm,he,tw,k⟩:=h
  simp only [w_twins,wSeq,wSet,wC,env0,List.map_cons,List.map_nil,List.length_cons,List.length_nil,Nat.zero_add,Nat.reduceAdd,List.replicate,List.cons_append,List.nil_append,List.set_cons_succ,List.set_cons_zero,r_forR,r_vals,wCall,wCons,wNil,r_var,look,oget_s]
  refine ⟨m,e,A,r,rfl,hm,he,?_⟩
  simp only [r_valsK]
  obtain ⟨p1,p2⟩:=M.plc_two tw
  refine ⟨λt ρ=>∃(T:List (List Key × D)) (o:Option D),ρ=[some (webD m e A r),some (.dit T),o]/\T.length<=2*t/\t<=(M.plc A (4*m+e)).length/\KeysIn m (4*m+e) T/\(∀p∈T,p.2.bare=true)/\∀q∈(M.plc A (4*m+e)).take t,∀i∈q.2,valD T (ksP m i)=some (spD m (g i)),⟨[],none,rfl,Nat.zero_le _,Nat.zero_le _,.nil,(λ_ h=>nomatch h),λq hq=>by simp at hq⟩,?_,?_⟩
  ·rintro t d ρ hd ⟨T,o,rfl,hl,ht,hK,hBr,hT⟩
   unfold encP at hd
   rw [List.map_map,List.getElem?_map] at hd
   cases hq:(M.plc A (4*m+e))[t]? with
   | none=>rw [hq] at hd;cases hd
   | some q =>
    rw [hq] at hd
    have hd:=(Option.some.inj hd).symm
    subst hd
    obtain ⟨i,hi,hqi⟩:=p1 q (List.mem_of_getElem? hq)
    have hlen:=plc_len A (4*m+e)
    have htl:=(List.getElem?_eq_some_iff.mp hq).1
    have hs:∀n:Nat,n<=2*t+1->n<sizeLine:=λn h=>big (by omega)
    simp only [wSeq,wSetIx,wBin,Function.comp,hqi,List.map_cons,spD,List.map_nil,List.set_cons_succ,List.set_cons_zero,wC,r_var,look,Option.isSome_some,oget_s,r_ixL,atI_1,List.getElem?_cons_succ,List.getElem?_cons_zero,true_and,atI_0,D.pure,pureL,Bool.and_self,r_setDt,keysOf,Option.map_some]
    refine ⟨hs _ (by omega),hs _ (Nat.le_trans (length_putD _ _ _) (by omega)),putD (putD T (ksP m i) (spD m (g i))) (ksP m (g i)) (spD m i),_,rfl,?_,by omega,(hK.put hi _).put (tw.lt i hi) _,bare_put (bare_put hBr rfl) rfl,λq' hq' j hj=>?_⟩
    ·have a1:=length_putD T (ksP m i) (spD m (g i))
     have a2:=length_putD (putD T (ksP m i) (spD m (g i))) (ksP m (g i)) (spD m i)
     omega
    ·rw [valD_put,valD_put]
     by_cases z1:ksP m j=ksP m (g i)
     ·rw [if_pos z1,ksP_inj z1,tw.inv hi];rfl
     ·rw [if_neg z1]
      by_cases z2:ksP m j=ksP m i
      ·rw [if_pos z2,ksP_inj z2];rfl
      ·rw [if_neg z2]
       rw [List.take_add_one,hq] at hq'
       rcases List.mem_append.mp hq' with h | h
       ·exact hT q' h j hj
       ·have:q'=q:=by simpa using h
        subst this
        rw [hqi] at hj
        rcases List.mem_cons.mp hj with z | hj
        ·exact absurd (by rw [z]) z2
        ·exact absurd (by rw [List.mem_singleton.mp hj]) z1
  ·rintro ρ ⟨T,o,rfl,hl,ht,hK,hBr,hT⟩
   simp only [wRetS,look,oget_s]
   refine k T (TOk.mk' hK hBr λi hi=>?_)
   obtain ⟨q,hq,hiq⟩:=p2 i hi
   exact hT q (by rw [List.take_of_length_le (by unfold encP;simp)];exact hq) i hiq
noncomputable def nxD (e m i:Nat):D:=.tup [.int (M.nxt e (M.sp m i)).1,.int (M.nxt e (M.sp m i)).2]
noncomputable def g_dart_next_to:GA:=λds k=>∃(m e i:Nat) (A:Nat->Int) (r:Int),ds=[webD m e A r,spD m i]/\i<4*m+e/\e<=100/\k (nxD e m i)
noncomputable abbrev s_dart_next_to:Stmt:=top 5
theorem sc_dart_next_to:FnScope ["web","place"] ["web","place"] (defScope s_dart_next_to):=⟨rfl,rfl,rfl,by decide +kernel,rfl,by decide +kernel,by decide +kernel⟩
noncomputable def t_dart_next_to:Tg:={ own:=λi=>false,io:=[] }
noncomputable def w_dart_next_to:WS:=(wSeq (wIf (wBl (wBin dEq (wBin dIx (wVar 1) (wC (.int 0))) (wC (.int (-1))))) (wRet (wTup (wCons (wC (.int (-1))) (wCons (wBin dMod (wBin dAdd (wBin dIx (wVar 1) (wC (.int 1))) (wC (.int 1))) (wCall dLen (wCons (wBin dIx (wVar 0) (wC (.int 1))) wNil))) wNil)))) wNext)
 (wRet (wLift (wTup (wCons (wBin dIx (wVar 1) (wC (.int 0))) (wCons (wBin dMod (wBin dSub (wBin dIx (wVar 1) (wC (.int 1))) (wC (.int 1))) (wC (.int 4))) wNil))))))
theorem b_dart_next_to {P:Program} {w:World} {K:PySem.W.Frag} {mg:Str->Option Value} {base:Heap} {f:Addr} (B:Bn mg):∀(cdv:Value) (A:Around) (outer:List PySem.Env) (s:Shared) (H:Hp) (E:XK),Room 0 (A.deeper (envOfC "dart_next_to" (defScope s_dart_next_to) s.heap.objs.size f cdv))->SVs (cxOf CX0 P w K mg base ["web","place"] "dart_next_to" (defScope s_dart_next_to) f cdv A outer s H E).nox t_dart_next_to (defBody s_dart_next_to) w_dart_next_to:=λcdv A outer s H E hr =>
  (svs_cons (sv_if (tv_cmp (od_eq hr.units) (ev_ix (xd_ix (hu_of hr)) (ev_var 1) ev_int) (ev_gint B.c_RIM.choose_spec)) (svs_one (sv_ret (ev_tup (av_cons (ev_gint B.c_RIM.choose_spec) (av_cons (ev_op od_mod (ev_op od_add (ev_ix (xd_ix (hu_of hr)) (ev_var 1) ev_int) ev_int) (ev_callB cd_len B.nb_len bt_len (av_cons (ev_ix (xd_ix (hu_of hr)) (ev_var 0) ev_int) av_nil))) av_nil))))) svs_nil)
  (svs_one (sv_ret (ev_lift (ev_tup (av_cons (ev_ix (xd_ix (hu_of hr)) (ev_var 1) ev_int) (av_cons (ev_op od_mod (ev_op od_sub (ev_ix (xd_ix (hu_of hr)) (ev_var 1) ev_int) ev_int) ev_int) av_nil)))))))
theorem ok_dart_next_to {P:Program} {w:World} {K:PySem.W.Frag} {mg:Str->Option Value} {base:Heap} {f:Addr} {fd:FuncData} (F:Fun K "dart_next_to" "dart_next_to" s_dart_next_to f fd) (B:Bn mg):FnOk P w K mg base CX0 1 f fd ["web","place"] (spR K g_dart_next_to):=by
 refine fn_ro (T:=t_dart_next_to) F sc_dart_next_to rfl (by decide) (λds kk h=>?_) (b_dart_next_to B) (λds kk h=>?_)
 ·obtain ⟨m,e,i,A,r,rfl,_⟩:=h
  rfl
 ·obtain ⟨m,e,i,A,r,rfl,hi,he,k⟩:=h
  simp only [w_dart_next_to,wSeq,wIf,Int.reduceNeg,env0,webD,spD,List.map_cons,List.map_nil,List.length_cons,List.length_nil,Nat.zero_add,Nat.reduceAdd,List.cons_append,List.nil_append,wRet,wTup,wCons,wC,wBin,wCall,wNil,r_var,wNext,wLift,D.pure,pureL,Bool.and_true,r_bl,look,oget_s,r_ixT,atI_1,List.getElem?_cons_succ,List.getElem?_cons_zero,r_lenT,r_add,r_sub,Int.reduceLT,r_modP,atI_0,true_and,r_eqI,r_blOf]
  split
  ·rename_i h
   have h:(M.sp m i).1 = -1:=by simpa using h
   have he0:0<e:=by
    unfold M.sp at h
    split at h
    ·simp at h;omega
    ·omega
   have he1:(0:Int)<((List.range e).map λj=>D.int (A (4*m+j))).length:=by simp;omega
   simp only [Int.reduceNeg,he1,r_modP]
   refine ⟨by decide,?_⟩
   simpa [nxD,M.nxt,h] using k
  ·rename_i h
   have h:¬(M.sp m i).1 = -1:=by simpa using h
   refine ⟨by decide,?_⟩
   simpa [nxD,M.nxt,h] using k
theorem TOk.ix {m n i:Nat} {g:Nat->Nat} {T:List (List Key × D)} (h:TOk m n g T) (hi:i<n) {k:D->Prop} (hk:k (spD m (g i))):dIx (.dit T) (spD m i) k:=by
 unfold spD
 simp only [r_ixDt,keysOf_sp,oget_s]
 exact oget_of (h.val i hi) hk
theorem nxD_fx {m e i:Nat} {g:Nat->Nat} (h:g i<4*m+e):nxD e m (g i)=spD m (M.fx m e g i):=by
 unfold nxD spD M.fx
 rw [M.sp_nx h]
theorem eqOk_sp {m i n:Nat}:eqOk (n+2) (spD m i)=true:=by simp only [spD,eqOk,eqOks,Bool.and_self]
theorem ne_sp {m a b:Nat} {k:D->Prop} (h1:a=b->k (.bl false)) (h2:a≠b->k (.bl true)):dNe (spD m a) (spD m b) k:=by
 show dNe (.tup _) _ k
 rw [r_neT]
 exact ⟨eqOk_sp (n:=7),eqOk_sp (n:=7),λh=>h1 (spD_inj h),λh=>h2 λz=>h (by rw [z];rfl)⟩
noncomputable def g_face_from:GA:=λds k=>∃(m e i:Nat) (A:Nat->Int) (r:Int) (g:Nat->Nat) (T:List (List Key × D)),ds=[webD m e A r,.dit T,spD m i]/\i<4*m+e/\m<=40/\e<=12/\M.Tw (4*m+e) A g/\TOk m (4*m+e) g T/\k (.lst ((Orb.orb (4*m+e) (M.fx m e g) i).map (spD m)))
noncomputable abbrev s_face_from:Stmt:=top 7
theorem sc_face_from:FnScope ["web","others","dart","face","after"] ["web","others","dart"] (defScope s_face_from):=⟨rfl,rfl,rfl,by decide +kernel,rfl,by decide +kernel,by decide +kernel⟩
noncomputable def t_face_from:Tg:={ own:=λi=>i == 3 || i == 4,io:=[] }
noncomputable def w_face_from:WS:=(wSeq (wSet 3 (wLst (wCons (wLift (wVar 2)) wNil)))
 (wSeq (wSet 4 (wCall g_dart_next_to (wCons (wVar 0) (wCons (wBin dIx (wVar 1) (wVar 2)) wNil))))
 (wSeq (wWhile (wBl (wBin dNe (wVar 4) (wVar 2))) (wSeq (wDrop (wMt 3 "list" gAppend (wCons (wLift (wVar 4)) wNil)))
 (wSet 4 (wCall g_dart_next_to (wCons (wVar 0) (wCons (wBin dIx (wVar 1) (wVar 4)) wNil))))))
 (wRetS 3))))
theorem b_face_from {P:Program} {w:World} {K:PySem.W.Frag} {mg:Str->Option Value} {base:Heap} {f:Addr} (B:Bn mg) (C_dart_next_to:Cal P w K mg base "dart_next_to" 1 ["web","place"] (spR K g_dart_next_to)):∀(cdv:Value) (A:Around) (outer:List PySem.Env) (s:Shared) (H:Hp) (E:XK),Room 1 (A.deeper (envOfC "face_from" (defScope s_face_from) s.heap.objs.size f cdv))->SVs (cxOf CX0 P w K mg base ["web","others","dart","face","after"] "face_from" (defScope s_face_from) f cdv A outer s H E).nox t_face_from (defBody s_face_from) w_face_from:=λcdv A outer s H E hr =>
  (svs_cons (sv_set (i:=3) (ev_lst (av_cons (ev_lift (ev_var 2)) av_nil)) sc_face_from.nd)
  (svs_cons (sv_set (i:=4) (ev_callC C_dart_next_to (hr.mono (by decide)) (av_cons (ev_var 0) (av_cons (ev_ix (xd_ix (hu_of hr)) (ev_var 1) (ev_var 2)) av_nil))) sc_face_from.nd)
  (svs_cons (sv_while PassesOwn.never (tv_cmp (od_ne hr.units) (ev_var 4) (ev_var 2)) (svs_cons (sv_expr (ev_mt (i:=3) md_append PySem.F.plainAttrs_list PySem.F.slot_list_append PySem.F.type_list_append (av_cons (ev_lift (ev_var 4)) av_nil)))
  (svs_one (sv_set (i:=4) (ev_callC C_dart_next_to (hr.mono (by decide)) (av_cons (ev_var 0) (av_cons (ev_ix (xd_ix (hu_of hr)) (ev_var 1) (ev_var 4)) av_nil))) sc_face_from.nd))))
  (svs_one (sv_retS (i:=3))))))
theorem ok_face_from {P:Program} {w:World} {K:PySem.W.Frag} {mg:Str->Option Value} {base:Heap} {f:Addr} {fd:FuncData} (F:Fun K "face_from" "face_from" s_face_from f fd) (B:Bn mg) (C_dart_next_to:Cal P w K mg base "dart_next_to" 1 ["web","place"] (spR K g_dart_next_to)):FnOk P w K mg base CX0 2 f fd ["web","others","dart"] (spR K g_face_from):=by
 refine fn_ro (T:=t_face_from) F sc_face_from rfl (by decide) (λds kk h=>?_) (b_face_from B C_dart_next_to) (λds kk h=>?_)
 ·obtain ⟨m,e,i,A,r,g,T,rfl,_⟩:=h
  rfl
 ·obtain ⟨m,e,i,A,r,g,T,rfl,hi,hm,he,tw,hT,k⟩:=h
  have hj:=M.fx_inj tw
  obtain ⟨p1,p2,p3,p4⟩:=hj.per hi
  simp only [w_face_from,wSeq,wSet,wLst,wCons,wLift,env0,List.map_cons,List.map_nil,List.length_cons,List.length_nil,Nat.zero_add,Nat.reduceAdd,List.replicate,List.cons_append,List.nil_append,wNil,wCall,wBin,r_var,look,List.set_cons_succ,List.set_cons_zero,oget_s]
  refine ⟨rfl,by decide,hT.ix hi ?_⟩
  refine ⟨m,e,g i,A,r,rfl,tw.lt i hi,by omega,?_⟩
  rw [nxD_fx (tw.lt i hi)]
  simp only []
  refine ⟨λn ρ=>∃t,1<=t/\t<=Orb.per (4*m+e) (M.fx m e g) i/\n=Orb.per (4*m+e) (M.fx m e g) i-t/\ρ=[some (webD m e A r),some (.dit T),some (spD m i),some (.lst ((Orb.arc (M.fx m e g) i t).map (spD m))),some (spD m (Orb.it (M.fx m e g) t i))],⟨_,1,Nat.le_refl _,p1,rfl,rfl⟩,?_⟩
  rintro n ρ ⟨t,t1,t2,rfl,rfl⟩
  simp only [wSeq,wDrop,wMt,wCons,wLift,wNil,wSet,wCall,wBin,r_var,wRetS,r_bl,look,r_tyL,BEq.rfl,List.set_cons_succ,List.set_cons_zero,oget_s,r_app,true_and]
  refine ne_sp (λh=>?_) (λh=>?_)
  ·-- it has come back
   have:t=Orb.per (4*m+e) (M.fx m e g) i:=by
    by_cases ht:t<Orb.per (4*m+e) (M.fx m e g) i
    ·exact absurd h (p4 t t1 ht)
    ·omega
   subst this
   simp only [r_blOf,Bool.false_eq_true,reduceIte]
   exact k
  ·have ht:t<Orb.per (4*m+e) (M.fx m e g) i:=by
    by_cases ht:t<Orb.per (4*m+e) (M.fx m e g) i
    ·exact ht
    ·exact absurd (by rw [show t=Orb.per (4*m+e) (M.fx m e g) i by omega];exact p3) h
   have hlt:=hj.itlt t hi
   simp only [r_blOf,reduceIte]
   refine ⟨rfl,by rw [List.length_map,Orb.arc_length];exact big (by omega),hT.ix hlt ?_⟩
   refine ⟨m,e,_,A,r,rfl,tw.lt _ hlt,by omega,_,?_,t+1,by omega,ht,rfl,?_⟩
   ·omega
   ·rw [nxD_fx (tw.lt _ hlt),Orb.arc_succ,List.map_append]
    rfl
end K12
namespace K12
open PySem PySem.Spec L2 PV
open PyProof.Rows (envOfC)
noncomputable abbrev faceD (m:Nat) (l:List Nat):D:=.lst (l.map (spD m))
theorem bare_web {m e:Nat} {A:Nat->Int} {r:Int}:(webD m e A r).bare=true:=by
 simp only [webD,D.bare,bareL,Bool.and_true,Bool.and_eq_true]
 refine ⟨bareL_iff.mpr λx hx=>?_,bareL_iff.mpr λx hx=>?_⟩
 ·obtain ⟨k,_,rfl⟩:=List.mem_map.mp hx
  simp only [D.bare]
  refine bareL_iff.mpr λx hx=>?_
  obtain ⟨j,_,rfl⟩:=List.mem_map.mp hx
  rfl
 ·obtain ⟨j,_,rfl⟩:=List.mem_map.mp hx
  rfl
noncomputable def gL_faces:GA:=λds k=>∃(m e i:Nat) (A:Nat->Int) (r:Int) (g:Nat->Nat) (T:List (List Key × D)),ds=[spD m i,webD m e A r,.dit T]/\i<4*m+e/\m<=40/\e<=12/\M.Tw (4*m+e) A g/\TOk m (4*m+e) g T/\k (faceD m (Orb.orb (4*m+e) (M.fx m e g) i))
theorem lam_faces {P:Program} {w:World} {K:PySem.W.Frag} {mg:Str->Option Value} {base:Heap} (B:Bn mg) (C_face_from:Cal P w K mg base "face_from" 2 ["web","others","dart"] (spR K g_face_from)):LamOk P w K mg base 3 L_faces (spR K gL_faces):=by
 refine lam_d (p:="dart") (m:=false) (wb:=wCall g_face_from (wCons (wVar 1) (wCons (wVar 2) (wCons (wVar 0) wNil)))) ⟨rfl,rfl,rfl,by decide +kernel,rfl,by decide +kernel,by decide +kernel,by decide +kernel⟩ (λcl pm cdv ct u=>rfl) (λds kk h=>?_) (λA outer s H f cd cl hr=>?_) (λds kk h=>?_)
 ·obtain ⟨m,e,i,A,r,g,T,rfl,_,_,_,_,hT,_⟩:=h
  exact ⟨by simp only [bareL,D.bare,spD,hT.bare,bare_web,Bool.and_self],rfl⟩
 ·exact (ev_callC C_face_from (hr.mono (by decide)) (av_cons (ev_var 1) (av_cons (ev_var 2) (av_cons (ev_var 0) av_nil))))
 ·obtain ⟨m,e,i,A,r,g,T,rfl,hi,hm,he,tw,hT,k⟩:=h
  simp only [wCall,wCons,List.map_cons,List.map_nil,wNil,r_var,look,oget_s]
  exact ⟨m,e,i,A,r,g,T,rfl,hi,hm,he,tw,hT,k⟩
theorem mark_ok {m:Nat}:∀(l:List Nat) (S:List (List Key × D)),(S.all λkv=>kv.2.pure)=true->∃S',markD (.dit S) (l.map (spD m))=some (.dit S')/\S'.length<=S.length+l.length/\(S'.all λkv=>kv.2.pure)=true/\∀j,(valD S' (ksP m j)).isSome=((valD S (ksP m j)).isSome || l.contains j)
 | [],S,h=>⟨S,rfl,Nat.le_refl _,h,λj=>by simp⟩
 | i::l,S,h=>by
  obtain ⟨S',h1,h2,h3,h4⟩:=mark_ok l (putD S (ksP m i) (.bl true)) (put_all h rfl)
  refine ⟨S',?_,?_,h3,λj=>?_⟩
  ·show (mk1 (.dit S) (spD m i)).bind (λd'=>markD d' (l.map (spD m)))=_
   exact h1
  ·have:=length_putD S (ksP m i) (.bl true)
   simp only [List.length_cons]
   omega
  ·rw [h4 j,valD_put]
   by_cases hj:ksP m j=ksP m i
   ·have:=ksP_inj hj
    subst this
    rw [if_pos rfl];simp
   ·rw [if_neg hj]
    have:¬j=i:=λz=>hj (by rw [z])
    simp [this]
theorem in_sp {m i:Nat} {b:Bool} {S:List (List Key × D)} {k:D->Prop}:dIn b (spD m i) (.dit S) k=k (.bl (xor b (valD S (ksP m i)).isSome)):=rfl
noncomputable def g_parted:GA:=λds k=>∃(m e:Nat) (A:Nat->Int) (r:Int) (g:Nat->Nat) (T:List (List Key × D)),ds=[.dit T,.clo L_faces [webD m e A r,.dit T]]/\m<=40/\e<=12/\e % 2=0/\M.Tw (4*m+e) A g/\TOk m (4*m+e) g T/\k (.lst ((Orb.faces (4*m+e) (M.fx m e g) (M.L0 m e)).map (faceD m)))
noncomputable abbrev s_parted:Stmt:=top 6
theorem sc_parted:FnScope ["members","group_from","seen","groups","member","group","reached"] ["members","group_from"] (defScope s_parted):=⟨rfl,rfl,rfl,by decide +kernel,rfl,by decide +kernel,by decide +kernel⟩
noncomputable def t_parted:Tg:={ own:=λi=>i == 2 || i == 3 || i == 4 || i == 5 || i == 6,io:=[] }
noncomputable def w_parted:WS:=(wSeq (wSet 2 (wC (.dit [])))
 (wSeq (wSet 3 (wLst wNil))
 (wSeq (wFor (wSeqD (wCall dSortTL (wCons (wVar 0) wNil))) (gN 4) (wIf (wBl (wBin (dIn true) (wVar 4) (wVar 2))) (wSeq (wSet 5 (wCallC 1 L_faces gL_faces (wLift (wVar 4))))
 (wSeq (wMark 2 5 6)
 (wAppMv 3 5))) wNext))
 (wRetS 3))))
theorem b_parted {P:Program} {w:World} {K:PySem.W.Frag} {mg:Str->Option Value} {base:Heap} {f:Addr} (B:Bn mg) (Lm_faces:LamOk P w K mg base 3 L_faces (spR K gL_faces)):∀(cdv:Value) (A:Around) (outer:List PySem.Env) (s:Shared) (H:Hp) (E:XK),Room 3 (A.deeper (envOfC "parted" (defScope s_parted) s.heap.objs.size f cdv))->SVs (cxOf CX0 P w K mg base ["members","group_from","seen","groups","member","group","reached"] "parted" (defScope s_parted) f cdv A outer s H E).nox t_parted (defBody s_parted) w_parted:=λcdv A outer s H E hr =>
  (svs_cons (sv_set (i:=2) ev_dnewT sc_parted.nd)
  (svs_cons (sv_set (i:=3) (ev_lst av_nil) sc_parted.nd)
  (svs_cons (sv_for PassesOwn.never (iv_seq (ev_callB (cd_sortTL rfl) B.nb_sorted bt_sorted (av_cons (ev_var 0) av_nil))) (gv_name (i:=4) sc_parted.nd) (svs_one (sv_if (tv_cmp (od_nin (hu_of hr)) (ev_var 4) (ev_var 2)) (svs_cons (sv_set (i:=5) (ev_callClo (i:=1) (L:=L_faces) Lm_faces (hr.mono (by decide)) (ev_lift (ev_var 4))) sc_parted.nd)
  (svs_cons (sv_mark (s:=2) (j:=5) (t:=6) (hu_of hr) PassesOwn.never sc_parted.nd)
  (svs_one (sv_appMv (i:=3) (j:=5))))) svs_nil)))
  (svs_one (sv_retS (i:=3))))))
theorem ok_parted {P:Program} {w:World} {K:PySem.W.Frag} {mg:Str->Option Value} {base:Heap} {f:Addr} {fd:FuncData} (F:Fun K "parted" "parted" s_parted f fd) (B:Bn mg) (Lm_faces:LamOk P w K mg base 3 L_faces (spR K gL_faces)):FnOk P w K mg base CX0 4 f fd ["members","group_from"] (spR K g_parted):=by
 refine fn_ro (T:=t_parted) F sc_parted rfl (by decide) (λds kk h=>?_) (b_parted B Lm_faces) (λds kk h=>?_)
 ·obtain ⟨m,e,A,r,g,T,rfl,_⟩:=h
  rfl
 ·obtain ⟨m,e,A,r,g,T,rfl,hm,he,he2,tw,hT,k⟩:=h
  have hj:=M.fx_inj tw
  simp only [w_parted,wSeq,wSet,wC,wLst,wNil,List.length_nil,env0,List.map_cons,List.map_nil,List.length_cons,Nat.zero_add,Nat.reduceAdd,List.replicate,List.cons_append,List.nil_append,List.set_cons_succ,List.set_cons_zero,r_for,r_seq,wCall,wCons,r_var,look,oget_s]
  refine ⟨Nat.zero_le _,sort_places (m:=m) (e:=e) (by omega) (by omega) he2 hT.perm ?_⟩
  simp only [r_seqL]
  refine ⟨pure_spL,λt ρ=>∃(S:List (List Key × D)) (sn:List Nat) (G:List (List Nat)) (o4 o6:Option D),ρ=[some (.dit T),some (.clo L_faces [webD m e A r,.dit T]),some (.dit S),some (.lst (G.map (faceD m))),o4,none,o6]/\t<=4*m+e/\G.length<=t/\S.length<=t*(4*m+e)/\(S.all λkv=>kv.2.pure)=true/\(∀j,(valD S (ksP m j)).isSome=sn.contains j) /\
   G++Orb.faces (4*m+e) (M.fx m e g) (((M.L0 m e).drop t).filter λx=>!sn.contains x)=Orb.faces (4*m+e) (M.fx m e g) (M.L0 m e),⟨[],[],[],none,none,rfl,Nat.zero_le _,Nat.zero_le _,Nat.zero_le _,rfl,λj=>rfl,by rw [List.drop_zero,List.nil_append,show ((M.L0 m e).filter λx=>!([]:List Nat).contains x)=M.L0 m e from List.filter_eq_self.mpr λx _=>rfl]⟩,?_,?_⟩
  ·rintro t d ρ hd ⟨S,sn,G,o4,o6,rfl,ht,hG,hS,hpu,hsn,hf⟩
   have htl:t<4*m+e:=by have:=(List.getElem?_eq_some_iff.mp hd).1;rw [List.length_map,M.L0_len] at this;exact this
   have htL:t<(M.L0 m e).length:=by rw [M.L0_len];exact htl
   rw [List.getElem?_map,List.getElem?_eq_getElem htL] at hd
   have hd:=(Option.some.inj hd).symm
   subst hd
   have hi:(M.L0 m e)[t] < 4*m+e:=M.L0_mem.mp (List.getElem_mem htL)
   rw [List.drop_eq_getElem_cons htL] at hf
   generalize (M.L0 m e)[t]=i at hi hf
   simp only [gN,wIf,List.set_cons_succ,List.set_cons_zero,wSeq,wSet,wCallC,wLift,wMark,lsOf,List.length_set,wAppMv,r_var,wNext,r_bl,wBin,look,List.length_cons,List.length_nil,Nat.zero_add,Nat.reduceAdd,Nat.lt_add_one,oget_s,true_and,r_flT]
   rw [in_sp,hsn i]
   obtain ⟨p1,p2,_,_⟩:=hj.per hi
   have hol:(Orb.orb (4*m+e) (M.fx m e g) i).length<=4*m+e:=by unfold Orb.orb;rw [Orb.arc_length];exact p2
   have hmul:(t+1)*(4*m+e)=t*(4*m+e)+(4*m+e):=Nat.succ_mul _ _
   have hsz:t*(4*m+e)<=172*172:=Nat.mul_le_mul (by omega) (by omega)
   cases hc:sn.contains i with
   | true =>
    simp only [Bool.xor_true,Bool.not_true,r_blOf,Bool.false_eq_true,reduceIte]
    refine ⟨S,sn,G,_,_,rfl,htl,by omega,by omega,hpu,hsn,?_⟩
    rw [← hf,List.filter_cons_of_neg (by simpa using hc)]
   | false =>
    simp only [Bool.xor_false,r_blOf,reduceIte]
    refine ⟨rfl,m,e,i,A,r,g,T,rfl,hi,hm,he,tw,hT,?_⟩
    obtain ⟨S',h1,h2,h3,h4⟩:=mark_ok (m:=m) (Orb.orb (4*m+e) (M.fx m e g) i) S hpu
    have hne:(Orb.orb (4*m+e) (M.fx m e g) i).map (spD m)≠[]:=λz=>by
     have z2:=congrArg List.length z
     unfold Orb.orb at z2
     rw [List.length_map,Orb.arc_length] at z2
     simp at z2
     omega
    show pureL _=true/\_
    refine ⟨pure_spL,hpu,?_,?_⟩
    ·show S.length+_<sizeLine
     rw [List.length_map]
     exact Nat.lt_of_le_of_lt (show _<=172*172+172 by omega) (by decide)
    ·rw [h1,List.getLast?_eq_some_getLast hne]
     simp only [oget_s]
     refine ⟨by rw [List.length_map];exact big (by omega),S',sn++Orb.orb (4*m+e) (M.fx m e g) i,G++[Orb.orb (4*m+e) (M.fx m e g) i],_,_,by rw [List.map_append];rfl,htl,by rw [List.length_append];simp;omega,by omega,h3,λj=>by rw [h4 j,hsn j];simp [List.contains_eq_any_beq,List.any_append],?_⟩
     rw [← hf,List.filter_cons_of_pos (by simpa using hc),Orb.faces_cons,List.filter_filter,List.append_assoc]
     have hfil:(λx=>!(sn++Orb.orb (4*m+e) (M.fx m e g) i).contains x)=λa=>!(Orb.orb (4*m+e) (M.fx m e g) i).contains a && !sn.contains a:=by
      funext x
      simp [List.contains_eq_any_beq,List.any_append,Bool.and_comm]
     rw [hfil]
     rfl
  ·rintro ρ ⟨S,sn,G,o4,o6,rfl,ht,hG,hS,hpu,hsn,hf⟩
   have hl:((M.L0 m e).map (spD m)).length=4*m+e:=by rw [List.length_map,M.L0_len]
   rw [hl,List.drop_of_length_le (by rw [M.L0_len];exact Nat.le_refl _),List.filter_nil,Orb.faces_nil,List.append_nil] at hf
   simp only [wRetS,look,oget_s]
   rw [hf]
   exact k
noncomputable def g_faces:GA:=λds k=>∃(m e:Nat) (A:Nat->Int) (r:Int) (g:Nat->Nat),ds=[webD m e A r]/\m<=40/\e<=12/\e % 2=0/\M.Tw (4*m+e) A g/\k (.lst ((Orb.faces (4*m+e) (M.fx m e g) (M.L0 m e)).map (faceD m)))
noncomputable abbrev s_faces:Stmt:=top 8
theorem sc_faces:FnScope ["web","others"] ["web"] (defScope s_faces):=⟨rfl,rfl,rfl,by decide +kernel,rfl,by decide +kernel,by decide +kernel⟩
noncomputable def t_faces:Tg:={ own:=λi=>i == 1,io:=[] }
noncomputable def w_faces:WS:=(wSeq (wSet 1 (wCall g_twins (wCons (wVar 0) wNil)))
 (wRet (wCallL g_parted L_faces [0,1] (wVar 1))))
theorem b_faces {P:Program} {w:World} {K:PySem.W.Frag} {mg:Str->Option Value} {base:Heap} {f:Addr} {TB:List (Addr × Array Value)} (B:Bn mg) (hB:BltAt mg base) (C_twins:Cal P w K mg base "twins" 2 ["web"] (spR K g_twins)) (C_parted:Cal P w K mg base "parted" 4 ["members","group_from"] (spR K g_parted)) {c_faces P_faces:Addr} {fd:FuncData} (hcode_faces:fd.code=.ref c_faces) (hd_faces:PySem.W.codeHdIn K c_faces P_faces=true) (hP_faces:(P_faces,tgOf lp_faces L_faces.qual)∈TB):∀(cdv:Value) (A:Around) (outer:List PySem.Env) (s:Shared) (H:Hp) (E:XK),Room 4 (A.deeper (envOfC "faces" (defScope s_faces) s.heap.objs.size f cdv))->Tabs TB H->fd.code=cdv->SVs (cxOf CX0 P w K mg base ["web","others"] "faces" (defScope s_faces) f cdv A outer s H E).nox t_faces (defBody s_faces) w_faces:=λcdv A outer s H E hr hT hcv =>
  (svs_cons (sv_set (i:=1) (ev_callC C_twins (hr.mono (by decide)) (av_cons (ev_var 0) av_nil)) sc_faces.nd)
  (svs_one (sv_ret (ev_callLam (ix:=[0,1]) (L:=L_faces) (clos:=[("web",s.heap.objs.size+1),("others",s.heap.objs.size+1+1)]) C_parted (hr.mono (by decide)) (ev_var 1) (pe_lam (L:=L_faces) (P:=P_faces) (c:=c_faces) (hcv.symm.trans hcode_faces) hd_faces (hT _ hP_faces) hB) (cap_cons rfl rfl rfl rfl (cap_cons rfl rfl rfl rfl cap_nil)) rfl (by simp)))))
theorem ok_faces {P:Program} {w:World} {K:PySem.W.Frag} {mg:Str->Option Value} {base:Heap} {f:Addr} {fd:FuncData} {TB:List (Addr × Array Value)} (F:Fun K "faces" "faces" s_faces f fd) (B:Bn mg) (hB:BltAt mg base) (C_twins:Cal P w K mg base "twins" 2 ["web"] (spR K g_twins)) (C_parted:Cal P w K mg base "parted" 4 ["members","group_from"] (spR K g_parted)) {c_faces P_faces:Addr} (hcode_faces:fd.code=.ref c_faces) (hd_faces:PySem.W.codeHdIn K c_faces P_faces=true) (hP_faces:(P_faces,tgOf lp_faces L_faces.qual)∈TB):FnOk P w K mg base CX0 5 f fd ["web"] (spT TB (spR K g_faces)):=by
 refine fn_roT (T:=t_faces) F sc_faces rfl (by decide) (λds kk h=>?_) (b_faces B hB C_twins C_parted hcode_faces hd_faces hP_faces) (λds kk h=>?_)
 ·obtain ⟨m,e,A,r,g,rfl,_⟩:=h
  rfl
 ·obtain ⟨m,e,A,r,g,rfl,hm,he,he2,tw,k⟩:=h
  simp only [w_faces,wSeq,wSet,wCall,wCons,env0,List.map_cons,List.map_nil,List.length_cons,List.length_nil,Nat.zero_add,Nat.reduceAdd,List.replicate,List.cons_append,List.nil_append,wNil,wRet,wCallL,capsD,r_var,look,List.set_cons_succ,List.set_cons_zero,oget_s]
  refine ⟨m,e,A,r,g,rfl,by omega,by omega,tw,λT hT=>?_⟩
  simp only []
  refine ⟨m,e,A,r,g,T,rfl,hm,he,he2,tw,hT,?_,k⟩
  simp only [D.bare]
  refine bareL_iff.mpr λx hx=>?_
  obtain ⟨l,_,rfl⟩:=List.mem_map.mp hx
  simp only [D.bare]
  refine bareL_iff.mpr λx hx=>?_
  obtain ⟨j,_,rfl⟩:=List.mem_map.mp hx
  rfl
end K12
namespace K12
open PySem PySem.Spec L2 PV
open PyProof.Rows (envOfC)
noncomputable def g_law_cell_at:GA:=λds k=>∃(ns:List Int) (i:Nat),ds=[.kls (ns.map .int),.int i]/\∀c:Int,k (.int c)
noncomputable abbrev s__law_cell_at:Stmt:=top 10
theorem sc__law_cell_at:FnScope ["_law_script","_law_k"] ["_law_script","_law_k"] (defScope s__law_cell_at):=⟨rfl,rfl,rfl,by decide +kernel,rfl,by decide +kernel,by decide +kernel⟩
noncomputable def t__law_cell_at:Tg:={ own:=λi=>false,io:=[] }
noncomputable def w__law_cell_at:WS:=(wSeq (wIf (wBl (wBin (dCmp λi j=>decide (i<j)) (wVar 1) (wCall dLen (wCons (wVar 0) wNil)))) (wRet (wLift (wBin dIx (wVar 0) (wVar 1)))) wNext)
 (wRet (wC (.int 0))))
theorem b__law_cell_at {P:Program} {w:World} {K:PySem.W.Frag} {mg:Str->Option Value} {base:Heap} {f:Addr} (B:Bn mg):∀(cdv:Value) (A:Around) (outer:List PySem.Env) (s:Shared) (H:Hp) (E:XK),Room 0 (A.deeper (envOfC "_law_cell_at" (defScope s__law_cell_at) s.heap.objs.size f cdv))->SVs (cxOf CX0 P w K mg base ["_law_script","_law_k"] "_law_cell_at" (defScope s__law_cell_at) f cdv A outer s H E).nox t__law_cell_at (defBody s__law_cell_at) w__law_cell_at:=λcdv A outer s H E hr =>
  (svs_cons (sv_if (tv_cmp od_lt (ev_var 1) (ev_callB cd_len B.nb_len bt_len (av_cons (ev_var 0) av_nil))) (svs_one (sv_ret (ev_lift (ev_ix (xd_ix (hu_of hr)) (ev_var 0) (ev_var 1))))) svs_nil)
  (svs_one (sv_ret ev_int)))
theorem ok__law_cell_at {P:Program} {w:World} {K:PySem.W.Frag} {mg:Str->Option Value} {base:Heap} {f:Addr} {fd:FuncData} (F:Fun K "_law_cell_at" "_law_cell_at" s__law_cell_at f fd) (B:Bn mg):FnOk P w K mg base CX0 1 f fd ["_law_script","_law_k"] (spR K g_law_cell_at):=by
 refine fn_ro (T:=t__law_cell_at) F sc__law_cell_at rfl (by decide) (λds kk h=>?_) (b__law_cell_at B) (λds kk h=>?_)
 ·obtain ⟨ns,i,rfl,_⟩:=h
  rfl
 ·obtain ⟨ns,i,rfl,k⟩:=h
  simp only [w__law_cell_at,wSeq,wIf,env0,List.map_cons,List.map_nil,List.length_cons,List.length_nil,Nat.zero_add,Nat.reduceAdd,List.cons_append,List.nil_append,wRet,wLift,wBin,r_var,wNext,wC,r_bl,wCall,wCons,wNil,look,oget_s,r_ixK,r_lenK,r_cmp,r_blOf]
  split
  ·rename_i h
   have h:(i:Int)<((ns.map D.int).length:Int):=by simpa using h
   have hi:i<ns.length:=by rw [List.length_map] at h;omega
   rw [atI_ofNat,List.getElem?_map,List.getElem?_eq_getElem hi]
   exact ⟨rfl,k _⟩
  ·exact k 0
noncomputable def g_law_spots:GA:=λds k=>∃(m e:Nat) (A:Nat->Int) (r:Int),ds=[webD m e A r]/\m<=100/\e<=100/\k (.lst ((List.range (4*m+e)).map (spD m)))
noncomputable abbrev s__law_spots:Stmt:=top 14
theorem sc__law_spots:FnScope ["_law_web_here","_law_found","_law_k"] ["_law_web_here"] (defScope s__law_spots):=⟨rfl,rfl,rfl,by decide +kernel,rfl,by decide +kernel,by decide +kernel⟩
noncomputable def t__law_spots:Tg:={ own:=λi=>i == 1 || i == 2,io:=[] }
noncomputable def w__law_spots:WS:=(wSeq (wSet 1 (wLst wNil))
 (wSeq (wFor (wRng1 (wCons (wCall dLen (wCons (wBin dIx (wVar 0) (wC (.int 0))) wNil)) wNil)) (gN 2) (wSet 1 (wBin dAdd (wVar 1) (wComp (wRng1 (wCons (wC (.int 4)) wNil)) wAll (wLift (wTup (wCons (wVar 1) (wCons (wVar 0) wNil)))) [2]))))
 (wRet (wBin dAdd (wVar 1) (wComp (wRng1 (wCons (wCall dLen (wCons (wBin dIx (wVar 0) (wC (.int 1))) wNil)) wNil)) wAll (wLift (wTup (wCons (wUn dNeg (wC (.int 1))) (wCons (wVar 0) wNil)))) [])))))
theorem b__law_spots {P:Program} {w:World} {K:PySem.W.Frag} {mg:Str->Option Value} {base:Heap} {f:Addr} (B:Bn mg):∀(cdv:Value) (A:Around) (outer:List PySem.Env) (s:Shared) (H:Hp) (E:XK),Room 0 (A.deeper (envOfC "_law_spots" (defScope s__law_spots) s.heap.objs.size f cdv))->SVs (cxOf CX0 P w K mg base ["_law_web_here","_law_found","_law_k"] "_law_spots" (defScope s__law_spots) f cdv A outer s H E).nox t__law_spots (defBody s__law_spots) w__law_spots:=λcdv A outer s H E hr =>
  (svs_cons (sv_set (i:=1) (ev_lst av_nil) sc__law_spots.nd)
  (svs_cons (sv_for PassesOwn.never (iv_range1 B.nb_range (av_cons (ev_callB cd_len B.nb_len bt_len (av_cons (ev_ix (xd_ix (hu_of hr)) (ev_var 0) ev_int) av_nil)) av_nil)) (gv_name (i:=2) sc__law_spots.nd) (svs_one (sv_set (i:=1) (ev_op od_add (ev_var 1) (ev_compB (comp_ok [2] (iv_range1 B.nb_range (av_cons ev_int av_nil)) (λ_ _ _ _ _=>cv_nil) (λ_ _ _ _ _=>(ev_lift (ev_tup (av_cons (ev_var 1) (av_cons (ev_var 0) av_nil)))))) (compB_mk (defScope s__law_spots) ["_law_web_here","_law_found","_law_k"] (by decide +kernel)))) sc__law_spots.nd)))
  (svs_one (sv_ret (ev_op od_add (ev_var 1) (ev_compB (comp_ok [] (iv_range1 B.nb_range (av_cons (ev_callB cd_len B.nb_len bt_len (av_cons (ev_ix (xd_ix (hu_of hr)) (ev_var 0) ev_int) av_nil)) av_nil)) (λ_ _ _ _ _=>cv_nil) (λ_ _ _ _ _=>(ev_lift (ev_tup (av_cons (ev_un ud_neg ev_int) (av_cons (ev_var 0) av_nil)))))) (compB_mk (defScope s__law_spots) ["_law_web_here","_law_found","_law_k"] (by decide +kernel))))))))
theorem range_add {α:Type} {f:Nat->α} {a b:Nat}:(List.range (a+b)).map f=(List.range a).map f++(List.range b).map λj=>f (a+j):=by
 rw [List.range_add,List.map_append,List.map_map];rfl
theorem ok__law_spots {P:Program} {w:World} {K:PySem.W.Frag} {mg:Str->Option Value} {base:Heap} {f:Addr} {fd:FuncData} (F:Fun K "_law_spots" "_law_spots" s__law_spots f fd) (B:Bn mg):FnOk P w K mg base CX0 1 f fd ["_law_web_here"] (spR K g_law_spots):=by
 refine fn_ro (T:=t__law_spots) F sc__law_spots rfl (by decide) (λds kk h=>?_) (b__law_spots B) (λds kk h=>?_)
 ·obtain ⟨m,e,A,r,rfl,_⟩:=h
  rfl
 ·obtain ⟨m,e,A,r,rfl,hm,he,k⟩:=h
  simp only [w__law_spots,wSeq,wSet,wLst,wNil,List.length_nil,env0,webD,List.map_cons,List.map_nil,List.length_cons,Nat.zero_add,Nat.reduceAdd,List.replicate,List.cons_append,List.nil_append,List.set_cons_succ,List.set_cons_zero,r_for,r_rng1,wCons,wCall,wBin,wC,r_var,look,oget_s,r_ixT,atI_0,List.getElem?_cons_zero,r_lenT,r_rng1I,Int.reducePow,Int.reduceNeg,Int.toNat_natCast]
  refine ⟨by decide,by simp <;> omega,by simp <;> omega,pure_rngD,λt ρ=>∃o:Option D,ρ=[some (webD m e A r),some (.lst ((List.range (4*t)).map (spD m))),o],⟨none,rfl⟩,?_,?_⟩
  ·rintro t d ρ hd ⟨o,rfl⟩
   obtain ⟨ht,rfl⟩:=rngD_get hd
   simp only [List.length_map,List.length_range] at ht
   simp only [gN,wSet,wBin,List.set_cons_succ,List.set_cons_zero,r_comp,r_rng1,wCons,wC,wNil,r_rng1I,Int.reducePow,Int.reduceNeg,Int.reduceLE,Int.reduceLT,Int.reduceToNat,true_and,r_var,look,oget_s]
   refine compI_map (λd=>.tup [.int (0+(t:Int)),d]) (by rw [rngD_length];decide) (λd hd Q' hQ=>?_) ?_
   ·obtain ⟨j,hj,rfl⟩:=mem_rngD hd
    simp only [wLift,wTup,wCons,blkE,List.map_cons,look,List.map_nil,wNil,List.length_cons,List.length_nil,Nat.zero_add,Nat.reduceAdd,D.pure,pureL,Bool.and_true,r_var,oget_s,true_and]
    exact ⟨by decide,hQ⟩
   ·have e1:(rngD 0 4).map (λd=>D.tup [.int (0+(t:Int)),d])=(List.range 4).map λj=>spD m (4*t+j):=by
     unfold rngD
     rw [List.map_map]
     apply List.map_congr_left
     intro j hj
     unfold spD
     rw [M.sp_in ht (List.mem_range.mp hj)]
     simp
    simp only [List.set_cons_succ,List.set_cons_zero,r_addL]
    rw [e1]
    refine ⟨pure_spL,pureL_map λ_ _=>rfl,by simp <;> exact Nat.le_of_lt (big (by omega)),some (.int (0+(t:Int))),?_⟩
    rw [show 4*(t+1)=4*t+4 by omega,range_add]
  ·rintro ρ ⟨o,rfl⟩
   have hl:(rngD 0 ((List.range m).map λk=>D.tup ((List.range 4).map λj=>.int (A (4*k+j)))).length).length=m:=by rw [rngD_length];simp
   rw [hl]
   simp only [wRet,wBin,webD,r_comp,r_rng1,wCons,wCall,wC,wNil,r_var,look,oget_s,r_ixT,atI_1,List.getElem?_cons_succ,List.getElem?_cons_zero,r_lenT,r_rng1I,Int.reducePow,Int.reduceNeg,Int.toNat_natCast]
   refine ⟨by simp <;> omega,by simp <;> omega,compI_map (λd=>.tup [.int (-1),d]) (by rw [rngD_length];simp;exact big (by omega)) (λd hd Q' hQ=>?_) ?_⟩
   ·obtain ⟨j,hj,rfl⟩:=mem_rngD hd
    simp only [wLift,wTup,wCons,wUn,wC,blkE,List.map_nil,wNil,List.length_cons,List.length_nil,Nat.zero_add,Nat.reduceAdd,D.pure,pureL,Bool.and_true,r_var,look,oget_s,r_neg,Int.reduceNeg,true_and]
    exact ⟨by decide,hQ⟩
   ·have e1:(rngD 0 ((List.range e).map λj=>D.int (A (4*m+j))).length).map (λd=>D.tup [.int (-1),d])=(List.range e).map λj=>spD m (4*m+j):=by
     unfold rngD
     rw [List.map_map,List.length_map,List.length_range]
     apply List.map_congr_left
     intro j hj
     unfold spD
     rw [M.sp_out]
     simp
    simp only [Int.reduceNeg,r_addL]
    rw [e1]
    refine ⟨pure_spL,pureL_map λ_ _=>rfl,by simp <;> exact Nat.le_of_lt (big (by omega)),?_⟩
    rw [← range_add]
    exact k
noncomputable def g_law_arc:GA:=λds k=>∃(m e i:Nat) (A:Nat->Int) (r:Int),ds=[webD m e A r,spD m i]/\i<4*m+e/\k (.int (A i))
noncomputable abbrev s__law_arc:Stmt:=top 15
theorem sc__law_arc:FnScope ["_law_web_here","_law_spot"] ["_law_web_here","_law_spot"] (defScope s__law_arc):=⟨rfl,rfl,rfl,by decide +kernel,rfl,by decide +kernel,by decide +kernel⟩
noncomputable def t__law_arc:Tg:={ own:=λi=>false,io:=[] }
noncomputable def w__law_arc:WS:=(wSeq (wIf (wBl (wBin (dCmp λi j=>decide (i<j)) (wBin dIx (wVar 1) (wC (.int 0))) (wC (.int 0)))) (wRet (wLift (wBin dIx (wBin dIx (wVar 0) (wC (.int 1))) (wBin dIx (wVar 1) (wC (.int 1)))))) wNext)
 (wRet (wLift (wBin dIx (wBin dIx (wBin dIx (wVar 0) (wC (.int 0))) (wBin dIx (wVar 1) (wC (.int 0)))) (wBin dIx (wVar 1) (wC (.int 1)))))))
theorem b__law_arc {P:Program} {w:World} {K:PySem.W.Frag} {mg:Str->Option Value} {base:Heap} {f:Addr} (B:Bn mg):∀(cdv:Value) (A:Around) (outer:List PySem.Env) (s:Shared) (H:Hp) (E:XK),Room 0 (A.deeper (envOfC "_law_arc" (defScope s__law_arc) s.heap.objs.size f cdv))->SVs (cxOf CX0 P w K mg base ["_law_web_here","_law_spot"] "_law_arc" (defScope s__law_arc) f cdv A outer s H E).nox t__law_arc (defBody s__law_arc) w__law_arc:=λcdv A outer s H E hr =>
  (svs_cons (sv_if (tv_cmp od_lt (ev_ix (xd_ix (hu_of hr)) (ev_var 1) ev_int) ev_int) (svs_one (sv_ret (ev_lift (ev_ix (xd_ix (hu_of hr)) (ev_ix (xd_ix (hu_of hr)) (ev_var 0) ev_int) (ev_ix (xd_ix (hu_of hr)) (ev_var 1) ev_int))))) svs_nil)
  (svs_one (sv_ret (ev_lift (ev_ix (xd_ix (hu_of hr)) (ev_ix (xd_ix (hu_of hr)) (ev_ix (xd_ix (hu_of hr)) (ev_var 0) ev_int) (ev_ix (xd_ix (hu_of hr)) (ev_var 1) ev_int)) (ev_ix (xd_ix (hu_of hr)) (ev_var 1) ev_int))))))
theorem ok__law_arc {P:Program} {w:World} {K:PySem.W.Frag} {mg:Str->Option Value} {base:Heap} {f:Addr} {fd:FuncData} (F:Fun K "_law_arc" "_law_arc" s__law_arc f fd) (B:Bn mg):FnOk P w K mg base CX0 1 f fd ["_law_web_here","_law_spot"] (spR K g_law_arc):=by
 refine fn_ro (T:=t__law_arc) F sc__law_arc rfl (by decide) (λds kk h=>?_) (b__law_arc B) (λds kk h=>?_)
 ·obtain ⟨m,e,i,A,r,rfl,_⟩:=h
  rfl
 ·obtain ⟨m,e,i,A,r,rfl,hi,k⟩:=h
  by_cases h4:i<4*m
  ·obtain ⟨q,j,rfl,hj⟩:∃q j,i=4*q+j/\j<4:=⟨i / 4,i % 4,by omega,by omega⟩
   have hq:q<m:=by omega
   simp only [w__law_arc,wSeq,wIf,env0,webD,spD,M.sp_in hq hj,List.map_cons,List.map_nil,List.length_cons,List.length_nil,Nat.zero_add,Nat.reduceAdd,List.cons_append,List.nil_append,wRet,wLift,wBin,wC,r_var,wNext,r_bl,look,oget_s,r_ixT,atI_1,List.getElem?_cons_succ,List.getElem?_cons_zero,atI_0,r_cmp,r_blOf]
   have:¬((q:Int)<0):=by omega
   simp only [this,decide_false,Bool.false_eq_true,atI_ofNat,List.getElem?_map,List.getElem?_range hq,Option.map_some,oget_s,r_ixT,List.getElem?_range hj,D.pure,true_and,reduceIte]
   exact k
  ·obtain ⟨j,rfl⟩:∃j,i=4*m+j:=⟨i-4*m,by omega⟩
   have hj:j<e:=by omega
   simp only [w__law_arc,wSeq,wIf,env0,webD,spD,M.sp_out,Int.reduceNeg,List.map_cons,List.map_nil,List.length_cons,List.length_nil,Nat.zero_add,Nat.reduceAdd,List.cons_append,List.nil_append,wRet,wLift,wBin,wC,r_var,wNext,r_bl,look,oget_s,r_ixT,atI_1,List.getElem?_cons_succ,List.getElem?_cons_zero,atI_0,r_cmp,Int.reduceLT,r_blOf]
   simp only [decide_true,atI_ofNat,List.getElem?_map,List.getElem?_range hj,Option.map_some,oget_s,D.pure,true_and,Int.reduceNeg,reduceIte]
   exact k
noncomputable def g_law_ties:GA:=λds k=>∃(m e:Nat) (A:Nat->Int) (r:Int) (g:Nat->Nat),ds=[webD m e A r]/\m<=100/\e<=100/\M.Tw (4*m+e) A g/\∀T:List (List Key × D),TOk m (4*m+e) g T->k (.dit T)
noncomputable abbrev s__law_ties:Stmt:=top 16
theorem sc__law_ties:FnScope ["_law_web_here","_law_first","_law_found","_law_spot","_law_arc_here"] ["_law_web_here"] (defScope s__law_ties):=⟨rfl,rfl,rfl,by decide +kernel,rfl,by decide +kernel,by decide +kernel⟩
noncomputable def t__law_ties:Tg:={ own:=λi=>i == 1 || i == 2 || i == 3 || i == 4,io:=[] }
noncomputable def w__law_ties:WS:=(wSeq (wSet 1 (wC (.dik [])))
 (wSeq (wSet 2 (wC (.dit [])))
 (wSeq (wFor (wSeqD (wCall g_law_spots (wCons (wVar 0) wNil))) (gN 3) (wSeq (wSet 4 (wCall g_law_arc (wCons (wVar 0) (wCons (wVar 3) wNil))))
 (wIf (wBl (wBin (dIn false) (wVar 4) (wVar 1))) (wSeq (wSetIx 2 (wBin dIx (wVar 1) (wVar 4)) (wVar 3))
 (wSetIx 2 (wVar 3) (wBin dIx (wVar 1) (wVar 4)))) (wSetIx 1 (wVar 3) (wVar 4)))))
 (wRetS 2))))
theorem b__law_ties {P:Program} {w:World} {K:PySem.W.Frag} {mg:Str->Option Value} {base:Heap} {f:Addr} (B:Bn mg) (C__law_spots:Cal P w K mg base "_law_spots" 1 ["_law_web_here"] (spR K g_law_spots)) (C__law_arc:Cal P w K mg base "_law_arc" 1 ["_law_web_here","_law_spot"] (spR K g_law_arc)):∀(cdv:Value) (A:Around) (outer:List PySem.Env) (s:Shared) (H:Hp) (E:XK),Room 1 (A.deeper (envOfC "_law_ties" (defScope s__law_ties) s.heap.objs.size f cdv))->SVs (cxOf CX0 P w K mg base ["_law_web_here","_law_first","_law_found","_law_spot","_law_arc_here"] "_law_ties" (defScope s__law_ties) f cdv A outer s H E).nox t__law_ties (defBody s__law_ties) w__law_ties:=λcdv A outer s H E hr =>
  (svs_cons (sv_set (i:=1) ev_dnewK sc__law_ties.nd)
  (svs_cons (sv_set (i:=2) ev_dnewT sc__law_ties.nd)
  (svs_cons (sv_for PassesOwn.never (iv_seq (ev_callC C__law_spots (hr.mono (by decide)) (av_cons (ev_var 0) av_nil))) (gv_name (i:=3) sc__law_ties.nd) (svs_cons (sv_set (i:=4) (ev_callC C__law_arc (hr.mono (by decide)) (av_cons (ev_var 0) (av_cons (ev_var 3) av_nil))) sc__law_ties.nd)
  (svs_one (sv_if (tv_cmp (od_in (hu_of hr)) (ev_var 4) (ev_var 1)) (svs_cons (sv_setIx (i:=2) (hu_of hr) (ev_ix (xd_ix (hu_of hr)) (ev_var 1) (ev_var 4)) (ev_var 3))
  (svs_one (sv_setIx (i:=2) (hu_of hr) (ev_var 3) (ev_ix (xd_ix (hu_of hr)) (ev_var 1) (ev_var 4))))) (svs_one (sv_setIx (i:=1) (hu_of hr) (ev_var 3) (ev_var 4)))))))
  (svs_one (sv_retS (i:=2))))))
theorem ok__law_ties {P:Program} {w:World} {K:PySem.W.Frag} {mg:Str->Option Value} {base:Heap} {f:Addr} {fd:FuncData} (F:Fun K "_law_ties" "_law_ties" s__law_ties f fd) (B:Bn mg) (C1:Cal P w K mg base "_law_spots" 1 ["_law_web_here"] (spR K g_law_spots)) (C2:Cal P w K mg base "_law_arc" 1 ["_law_web_here","_law_spot"] (spR K g_law_arc)):FnOk P w K mg base CX0 2 f fd ["_law_web_here"] (spR K g_law_ties):=by
 refine fn_ro (T:=t__law_ties) F sc__law_ties rfl (by decide) (λds kk h=>?_) (b__law_ties B C1 C2) (λds kk h=>?_)
 ·obtain ⟨m,e,A,r,g,rfl,_⟩:=h
  rfl
 ·obtain ⟨m,e,A,r,g,rfl,hm,he,tw,k⟩:=h
  simp only [w__law_ties,wSeq,wSet,wC,env0,List.map_cons,List.map_nil,List.length_cons,List.length_nil,Nat.zero_add,Nat.reduceAdd,List.replicate,List.cons_append,List.nil_append,List.set_cons_succ,List.set_cons_zero,r_for,r_seq,wCall,wCons,wNil,r_var,look,oget_s]
  refine ⟨m,e,A,r,rfl,hm,he,?_⟩
  simp only [r_seqL]
  refine ⟨pure_spL,λt ρ=>∃(U:List (Key × D)) (T:List (List Key × D)) (o3 o4:Option D),ρ=[some (webD m e A r),some (.dik U),some (.dit T),o3,o4]/\t<=4*m+e/\U.length<=t/\T.length<=2*t/\KeysIn m (4*m+e) T/\(∀p∈T,p.2.bare=true) /\
   (∀a,valD U (.inl a)=none\/∃i,i<t/\A i=a/\valD U (.inl a)=some (spD m i))/\(∀i,i<t->(valD U (.inl (A i))).isSome=true)/\∀i,i<t->g i<t->valD T (ksP m i)=some (spD m (g i)),⟨[],[],none,none,rfl,Nat.zero_le _,Nat.zero_le _,Nat.zero_le _,.nil,(λ_ h=>nomatch h),λa=>.inl rfl,λi h=>by omega,λi h=>by omega⟩,?_,?_⟩
  ·rintro t d ρ hd ⟨U,T,o3,o4,rfl,ht,hU,hT,hK,hBr,u1,u2,u3⟩
   have htl:t<4*m+e:=by have:=(List.getElem?_eq_some_iff.mp hd).1;simpa using this
   rw [List.getElem?_map,List.getElem?_range htl] at hd
   have hd:=(Option.some.inj hd).symm
   subst hd
   simp only [gN,wSeq,wSet,wCall,wCons,List.set_cons_succ,List.set_cons_zero,wNil,wIf,wSetIx,wBin,r_var,r_bl,look,Option.isSome_some,oget_s,true_and]
   refine ⟨m,e,t,A,r,rfl,htl,?_⟩
   simp only [spD,D.pure,pureL,Bool.and_self,r_ixDi,true_and,r_setDt,keysOf,Option.map_some,oget_s,r_setDi,r_inDi,r_blOf]
   rcases u1 (A t) with hv | ⟨i,hi,hA,hv⟩
   ·-- the arc comes for the first time
    simp only [hv,Option.isSome_none,Bool.xor_false,Bool.false_eq_true,reduceIte]
    refine ⟨big (by omega),_,T,_,_,rfl,htl,Nat.le_trans (length_putD _ _ _) (by omega),by omega,hK,hBr,λa=>?_,λi hi=>?_,λi hi hg=>?_⟩
    ·rw [valD_put]
     by_cases z:(.inl a:Key)=.inl (A t)
     ·rw [if_pos z]
      exact .inr ⟨t,by omega,by injection z with z;exact z.symm,rfl⟩
     ·rw [if_neg z]
      rcases u1 a with h | ⟨i,h1,h2,h3⟩
      ·exact .inl h
      ·exact .inr ⟨i,by omega,h2,h3⟩
    ·rw [valD_put]
     split
     ·rfl
     ·rename_i z
      have:i≠t:=λq=>z (by rw [q])
      exact u2 i (by omega)
    ·have ht0:∀j,j<t->A j≠A t:=λj hj q=>by
      have:=u2 j hj
      rw [q,hv] at this
      cases this
     by_cases hit:i=t
     ·subst hit
      exact absurd (tw.eq i htl) (ht0 (g i) (by have:=tw.ne i htl;omega))
     ·by_cases hgt:g i=t
      ·exact absurd (by rw [← hgt];exact (tw.eq i (by omega)).symm) (ht0 i (by omega))
      ·exact u3 i (by omega) (by omega)
   ·-- its second place
    have hgi:g i=t:=by
     rcases tw.only i t (by omega) htl hA.symm with z | z
     ·omega
     ·exact z.symm
    have hgt:g t=i:=by rw [← hgi];exact tw.inv (by omega)
    simp only [hv,spD,Option.isSome_some,Bool.xor_true,Bool.not_false,oget_s,r_setDt,keysOf,Option.map_some,D.pure,pureL,Bool.and_self,true_and,reduceIte]
    refine ⟨big (by omega),big (Nat.le_trans (length_putD _ _ _) (by omega)),U,_,_,_,rfl,htl,by omega,?_,(hK.put htl _).put (show i<4*m+e by omega) _,bare_put (bare_put hBr rfl) rfl,λa=>?_,λj hj=>?_,λj hj hg=>?_⟩
    ·have a1:=length_putD T (ksP m t) (spD m i)
     have a2:=length_putD (putD T (ksP m t) (spD m i)) (ksP m i) (spD m t)
     exact Nat.le_trans a2 (by omega)
    ·rcases u1 a with h | ⟨i,h1,h2,h3⟩
     ·exact .inl h
     ·exact .inr ⟨i,by omega,h2,h3⟩
    ·by_cases z:j=t
     ·rw [z,← hA,hA,hv];rfl
     ·exact u2 j (by omega)
    ·show valD (putD (putD T (ksP m t) (spD m i)) (ksP m i) (spD m t)) (ksP m j)=_
     rw [valD_put,valD_put]
     by_cases z1:ksP m j=ksP m i
     ·rw [if_pos z1,ksP_inj z1,hgi];rfl
     ·rw [if_neg z1]
      by_cases z2:ksP m j=ksP m t
      ·rw [if_pos z2,ksP_inj z2,hgt];rfl
      ·rw [if_neg z2]
       have hjt:j≠t:=λq=>z2 (by rw [q])
       have hji:j≠i:=λq=>z1 (by rw [q])
       have hgj:g j≠t:=λq=>hji (by rw [← tw.inv (show j<4*m+e by omega),q,hgt])
       exact u3 j (by omega) (by omega)
  ·rintro ρ ⟨U,T,o3,o4,rfl,ht,hU,hT,hK,hBr,u1,u2,u3⟩
   simp only [List.length_map,List.length_range] at u3
   simp only [wRetS,look,oget_s]
   exact k T (TOk.mk' hK hBr λi hi=>u3 i hi (tw.lt i hi))
noncomputable def g_law_later:GA:=λds k=>∃(m e i:Nat) (A:Nat->Int) (r:Int),ds=[webD m e A r,spD m i]/\i<4*m+e/\e<=100/\k (nxD e m i)
noncomputable abbrev s__law_later:Stmt:=top 17
theorem sc__law_later:FnScope ["_law_web_here","_law_spot"] ["_law_web_here","_law_spot"] (defScope s__law_later):=⟨rfl,rfl,rfl,by decide +kernel,rfl,by decide +kernel,by decide +kernel⟩
noncomputable def t__law_later:Tg:={ own:=λi=>false,io:=[] }
noncomputable def w__law_later:WS:=(wSeq (wIf (wBl (wBin (dCmp λi j=>decide (i<j)) (wBin dIx (wVar 1) (wC (.int 0))) (wC (.int 0)))) (wRet (wTup (wCons (wUn dNeg (wC (.int 1))) (wCons (wBin dIx (wLst (wCons (wBin dAdd (wBin dIx (wVar 1) (wC (.int 1))) (wC (.int 1))) (wCons (wC (.int 0)) wNil))) (wCall dInt (wCons (wBin dEq (wBin dAdd (wBin dIx (wVar 1) (wC (.int 1))) (wC (.int 1))) (wCall dLen (wCons (wBin dIx (wVar 0) (wC (.int 1))) wNil))) wNil))) wNil)))) wNext)
 (wRet (wLift (wTup (wCons (wBin dIx (wVar 1) (wC (.int 0))) (wCons (wBin dIx (wLst (wCons (wC (.int 3)) (wCons (wC (.int 0)) (wCons (wC (.int 1)) (wCons (wC (.int 2)) wNil))))) (wBin dIx (wVar 1) (wC (.int 1)))) wNil))))))
theorem b__law_later {P:Program} {w:World} {K:PySem.W.Frag} {mg:Str->Option Value} {base:Heap} {f:Addr} (B:Bn mg):∀(cdv:Value) (A:Around) (outer:List PySem.Env) (s:Shared) (H:Hp) (E:XK),Room 0 (A.deeper (envOfC "_law_later" (defScope s__law_later) s.heap.objs.size f cdv))->SVs (cxOf CX0 P w K mg base ["_law_web_here","_law_spot"] "_law_later" (defScope s__law_later) f cdv A outer s H E).nox t__law_later (defBody s__law_later) w__law_later:=λcdv A outer s H E hr =>
  (svs_cons (sv_if (tv_cmp od_lt (ev_ix (xd_ix (hu_of hr)) (ev_var 1) ev_int) ev_int) (svs_one (sv_ret (ev_tup (av_cons (ev_un ud_neg ev_int) (av_cons (ev_ix (xd_ix (hu_of hr)) (ev_lst (av_cons (ev_op od_add (ev_ix (xd_ix (hu_of hr)) (ev_var 1) ev_int) ev_int) (av_cons ev_int av_nil))) (ev_callTy cd_int B.nb_int bt_int (av_cons (ev_cmp (od_eq hr.units) (ev_op od_add (ev_ix (xd_ix (hu_of hr)) (ev_var 1) ev_int) ev_int) (ev_callB cd_len B.nb_len bt_len (av_cons (ev_ix (xd_ix (hu_of hr)) (ev_var 0) ev_int) av_nil))) av_nil))) av_nil))))) svs_nil)
  (svs_one (sv_ret (ev_lift (ev_tup (av_cons (ev_ix (xd_ix (hu_of hr)) (ev_var 1) ev_int) (av_cons (ev_ix (xd_ix (hu_of hr)) (ev_lst (av_cons ev_int (av_cons ev_int (av_cons ev_int (av_cons ev_int av_nil))))) (ev_ix (xd_ix (hu_of hr)) (ev_var 1) ev_int)) av_nil)))))))
theorem ok__law_later {P:Program} {w:World} {K:PySem.W.Frag} {mg:Str->Option Value} {base:Heap} {f:Addr} {fd:FuncData} (F:Fun K "_law_later" "_law_later" s__law_later f fd) (B:Bn mg):FnOk P w K mg base CX0 1 f fd ["_law_web_here","_law_spot"] (spR K g_law_later):=by
 refine fn_ro (T:=t__law_later) F sc__law_later rfl (by decide) (λds kk h=>?_) (b__law_later B) (λds kk h=>?_)
 ·obtain ⟨m,e,i,A,r,rfl,_⟩:=h
  rfl
 ·obtain ⟨m,e,i,A,r,rfl,hi,he,k⟩:=h
  by_cases h4:i<4*m
  ·obtain ⟨q,j,rfl,hj⟩:∃q j,i=4*q+j/\j<4:=⟨i / 4,i % 4,by omega,by omega⟩
   have hq:q<m:=by omega
   have k':kk (.tup [.int (q:Int),.int (((j:Int)-1) % 4)]):=by
    have h1:¬((q:Int) = -1):=by omega
    simpa [nxD,M.nxt,M.sp_in hq hj,h1] using k
   simp only [w__law_later,wSeq,wIf,env0,webD,spD,M.sp_in hq hj,List.map_cons,List.map_nil,List.length_cons,List.length_nil,Nat.zero_add,Nat.reduceAdd,List.cons_append,List.nil_append,wRet,wTup,wCons,wUn,wC,wBin,wLst,wNil,wCall,r_var,r_neg,Int.reduceNeg,wNext,wLift,D.pure,pureL,Bool.and_true,r_bl,look,oget_s,r_ixT,atI_1,List.getElem?_cons_succ,List.getElem?_cons_zero,r_lenT,r_add,r_eqI,r_intB,r_ixL,atI_0,Bool.true_and,r_cmp,r_blOf]
   have:¬((q:Int)<0):=by omega
   simp only [this,decide_false,Bool.false_eq_true,Int.reduceNeg,atI_ofNat,reduceIte]
   refine ⟨by decide,?_⟩
   have hj4:j=0\/j=1\/j=2\/j=3:=by omega
   rcases hj4 with rfl | rfl | rfl | rfl <;> exact ⟨by decide,by decide,k'⟩
  ·obtain ⟨j,rfl⟩:∃j,i=4*m+j:=⟨i-4*m,by omega⟩
   have hj:j<e:=by omega
   have k':kk (.tup [.int (-1),.int (((j:Int)+1) % (e:Int))]):=by simpa [nxD,M.nxt,M.sp_out] using k
   simp only [w__law_later,wSeq,wIf,env0,webD,spD,M.sp_out,Int.reduceNeg,List.map_cons,List.map_nil,List.length_cons,List.length_nil,Nat.zero_add,Nat.reduceAdd,List.cons_append,List.nil_append,wRet,wTup,wCons,wUn,wC,wBin,wLst,wNil,wCall,r_var,r_neg,wNext,wLift,D.pure,pureL,Bool.and_true,r_bl,look,oget_s,r_ixT,atI_1,List.getElem?_cons_succ,List.getElem?_cons_zero,r_lenT,r_add,r_eqI,r_intB,r_ixL,atI_0,Bool.true_and,r_cmp,Int.reduceLT,r_blOf]
   simp only [decide_true,Int.reduceNeg,reduceIte]
   by_cases hje:j+1=e
   ·have h1:((j:Int)+1) % (e:Int)=0:=by rw [show (j:Int)+1=(e:Int) by omega];exact Int.emod_self
    have h2:(j:Int)+1=(((List.range e).map λj=>D.int (A (4*m+j))).length:Int):=by simp;omega
    simp only [h2,decide_true,reduceIte,atI_1,List.getElem?_cons_succ,List.getElem?_cons_zero,Int.reduceNeg,oget_s]
    rw [h1] at k'
    exact ⟨by decide,by decide,k'⟩
   ·have h1:((j:Int)+1) % (e:Int)=(j:Int)+1:=Int.emod_eq_of_lt (by omega) (by omega)
    have h2:¬(j:Int)+1=(((List.range e).map λj=>D.int (A (4*m+j))).length:Int):=by simp;omega
    simp only [h2,decide_false,Bool.false_eq_true,reduceIte,atI_0,List.getElem?_cons_zero,Int.reduceNeg,oget_s]
    rw [h1] at k'
    exact ⟨by decide,by decide,k'⟩
theorem rm_at {m:Nat}:∀{l:List Nat} {x:Nat},l.Nodup->x∈l->∃i:Nat,(l.map (spD m))[i]? = some (spD m x)/\(∀(j:Nat) (d:D),j<i->(l.map (spD m))[j]? = some d->d≠spD m x)/\(l.map (spD m)).eraseIdx i=(l.filter λy=>y != x).map (spD m)
 | a::l,x,nd,h=>by
  obtain ⟨n1,n2⟩:=List.nodup_cons.mp nd
  by_cases hx:x=a
  ·subst hx
   refine ⟨0,rfl,λj d hj=>absurd hj (Nat.not_lt_zero _),?_⟩
   have:(x::l).filter (λy=>y != x)=l:=by
    rw [List.filter_cons_of_neg (by simp)]
    exact List.filter_eq_self.mpr λy hy=>by simp;exact λz=>n1 (z ▸ hy)
   rw [this];rfl
  ·obtain ⟨i,h1,h2,h3⟩:=rm_at (m:=m) n2 ((List.mem_cons.mp h).resolve_left hx)
   refine ⟨i+1,by simpa using h1,λj d hj hd=>?_,?_⟩
   ·cases j with
    | zero =>
     have:d=spD m a:=by simpa using hd.symm
     rw [this]
     exact λz=>hx (spD_inj z).symm
    | succ j=>exact h2 j d (by omega) (by simpa using hd)
   ·rw [List.filter_cons_of_pos (by simpa using λz=>hx z.symm),List.map_cons,List.map_cons,List.eraseIdx_cons_succ,h3]
theorem eqOks_sp {m n:Nat} {l:List Nat}:eqOks (n+2) (l.map (spD m))=true:=eqOks_map λ_ _=>eqOk_sp
noncomputable def g_law_due:GA:=λds k=>∃(m e:Nat) (A:Nat->Int) (r:Int) (g:Nat->Nat),ds=[webD m e A r]/\m<=40/\e<=12/\e % 2=0/\M.Tw (4*m+e) A g/\k (.lst ((Orb.faces (4*m+e) (M.fx m e g) (M.L0 m e)).map (faceD m)))
noncomputable abbrev s__law_due:Stmt:=top 18
theorem sc__law_due:FnScope ["_law_web_here","_law_ties_here","_law_left","_law_found","_law_face","_law_spot"] ["_law_web_here"] (defScope s__law_due):=⟨rfl,rfl,rfl,by decide +kernel,rfl,by decide +kernel,by decide +kernel⟩
noncomputable def t__law_due:Tg:={ own:=λi=>i == 1 || i == 2 || i == 3 || i == 4 || i == 5,io:=[] }
noncomputable def w__law_due:WS:=(wSeq (wSet 1 (wCall g_law_ties (wCons (wVar 0) wNil)))
 (wSeq (wSet 2 (wCall dSortTL (wCons (wVar 1) wNil)))
 (wSeq (wSet 3 (wLst wNil))
 (wSeq (wWhile (wBl (wBin (dCmp λi j=>decide (j<i)) (wCall dLen (wCons (wVar 2) wNil)) (wC (.int 0)))) (wSeq (wSet 4 (wLst (wCons (wMt 2 "list" gPopAt (wCons (wC (.int 0)) wNil)) wNil)))
 (wSeq (wSet 5 (wCall g_law_later (wCons (wVar 0) (wCons (wBin dIx (wVar 1) (wBin dIx (wVar 4) (wC (.int 0)))) wNil))))
 (wSeq (wWhile (wBl (wBin dNe (wVar 5) (wBin dIx (wVar 4) (wC (.int 0))))) (wSeq (wDrop (wMt 2 "list" gRemove (wCons (wLift (wVar 5)) wNil)))
 (wSeq (wDrop (wMt 4 "list" gAppend (wCons (wLift (wVar 5)) wNil)))
 (wSet 5 (wCall g_law_later (wCons (wVar 0) (wCons (wBin dIx (wVar 1) (wVar 5)) wNil)))))))
 (wAppMv 3 4)))))
 (wRetS 3)))))
theorem b__law_due {P:Program} {w:World} {K:PySem.W.Frag} {mg:Str->Option Value} {base:Heap} {f:Addr} (B:Bn mg) (C__law_ties:Cal P w K mg base "_law_ties" 2 ["_law_web_here"] (spR K g_law_ties)) (C__law_later:Cal P w K mg base "_law_later" 1 ["_law_web_here","_law_spot"] (spR K g_law_later)):∀(cdv:Value) (A:Around) (outer:List PySem.Env) (s:Shared) (H:Hp) (E:XK),Room 2 (A.deeper (envOfC "_law_due" (defScope s__law_due) s.heap.objs.size f cdv))->SVs (cxOf CX0 P w K mg base ["_law_web_here","_law_ties_here","_law_left","_law_found","_law_face","_law_spot"] "_law_due" (defScope s__law_due) f cdv A outer s H E).nox t__law_due (defBody s__law_due) w__law_due:=λcdv A outer s H E hr =>
  (svs_cons (sv_set (i:=1) (ev_callC C__law_ties (hr.mono (by decide)) (av_cons (ev_var 0) av_nil)) sc__law_due.nd)
  (svs_cons (sv_set (i:=2) (ev_callB (cd_sortTL rfl) B.nb_sorted bt_sorted (av_cons (ev_var 1) av_nil)) sc__law_due.nd)
  (svs_cons (sv_set (i:=3) (ev_lst av_nil) sc__law_due.nd)
  (svs_cons (sv_while PassesOwn.never (tv_cmp od_gt (ev_callB cd_len B.nb_len bt_len (av_cons (ev_var 2) av_nil)) ev_int) (svs_cons (sv_set (i:=4) (ev_lst (av_cons (ev_mt (i:=2) md_popAt PySem.F.plainAttrs_list PySem.F.slot_list_pop PySem.F.type_list_pop (av_cons ev_int av_nil)) av_nil)) sc__law_due.nd)
  (svs_cons (sv_set (i:=5) (ev_callC C__law_later (hr.mono (by decide)) (av_cons (ev_var 0) (av_cons (ev_ix (xd_ix (hu_of hr)) (ev_var 1) (ev_ix (xd_ix (hu_of hr)) (ev_var 4) ev_int)) av_nil))) sc__law_due.nd)
  (svs_cons (sv_while PassesOwn.never (tv_cmp (od_ne hr.units) (ev_var 5) (ev_ix (xd_ix (hu_of hr)) (ev_var 4) ev_int)) (svs_cons (sv_expr (ev_mt (i:=2) (md_remove (hu66 hr)) PySem.F.plainAttrs_list PySem.F.slot_list_remove PySem.F.type_list_remove (av_cons (ev_lift (ev_var 5)) av_nil)))
  (svs_cons (sv_expr (ev_mt (i:=4) md_append PySem.F.plainAttrs_list PySem.F.slot_list_append PySem.F.type_list_append (av_cons (ev_lift (ev_var 5)) av_nil)))
  (svs_one (sv_set (i:=5) (ev_callC C__law_later (hr.mono (by decide)) (av_cons (ev_var 0) (av_cons (ev_ix (xd_ix (hu_of hr)) (ev_var 1) (ev_var 5)) av_nil))) sc__law_due.nd)))))
  (svs_one (sv_appMv (i:=3) (j:=4)))))))
  (svs_one (sv_retS (i:=3)))))))
theorem ok__law_due {P:Program} {w:World} {K:PySem.W.Frag} {mg:Str->Option Value} {base:Heap} {f:Addr} {fd:FuncData} (F:Fun K "_law_due" "_law_due" s__law_due f fd) (B:Bn mg) (C__law_ties:Cal P w K mg base "_law_ties" 2 ["_law_web_here"] (spR K g_law_ties)) (C__law_later:Cal P w K mg base "_law_later" 1 ["_law_web_here","_law_spot"] (spR K g_law_later)):FnOk P w K mg base CX0 3 f fd ["_law_web_here"] (spR K g_law_due):=by
 refine fn_ro (T:=t__law_due) F sc__law_due rfl (by decide) (λds kk h=>?_) (b__law_due B C__law_ties C__law_later) (λds kk h=>?_)
 ·obtain ⟨m,e,A,r,g,rfl,_⟩:=h
  rfl
 ·obtain ⟨m,e,A,r0,g,rfl,hm,he,he2,tw,k⟩:=h
  have hj:=M.fx_inj tw
  simp only [w__law_due,wSeq,wSet,wCall,wCons,env0,List.map_cons,List.map_nil,List.length_cons,List.length_nil,Nat.zero_add,Nat.reduceAdd,List.replicate,List.cons_append,List.nil_append,wNil,wLst,r_var,look,List.set_cons_succ,List.set_cons_zero,oget_s]
  refine ⟨m,e,A,r0,g,rfl,by omega,by omega,tw,λT hT=>?_⟩
  refine sort_places (m:=m) (e:=e) (by omega) (by omega) he2 hT.perm ⟨Nat.zero_le _,?_⟩
  refine ⟨λn ρ=>∃(R:List Nat) (G:List (List Nat)) (o5:Option D),ρ=[some (webD m e A r0),some (.dit T),some (.lst (R.map (spD m))),some (.lst (G.map (faceD m))),none,o5]/\n=R.length/\R.Nodup/\(∀x∈R,x<4*m+e)/\Orb.Closed (M.fx m e g) R/\G.length+R.length<=4*m+e/\G++Orb.faces (4*m+e) (M.fx m e g) R=Orb.faces (4*m+e) (M.fx m e g) (M.L0 m e),
   ⟨_,M.L0 m e,[],none,rfl,rfl,M.L0_nd m e,λx hx=>M.L0_mem.mp hx,λx hx=>M.L0_mem.mpr (hj.lt x (M.L0_mem.mp hx)),by rw [M.L0_len];simp,by simp⟩,?_⟩
  rintro n ρ ⟨R,G,o5,rfl,rfl,nd,hlt,hcl,hGR,hf⟩
  simp only [wSeq,wSet,wLst,wCons,wMt,wC,wNil,List.length_cons,List.length_nil,Nat.zero_add,wCall,wBin,r_var,wRetS,r_bl,look,r_tyL,BEq.rfl,List.set_cons_succ,List.set_cons_zero,oget_s,r_ixL,atI_0,List.getElem?_cons_zero,r_popAt,Int.reducePow,Int.reduceNeg,Int.reduceLE,Int.reduceLT,true_and,r_lenL,r_cmp,r_blOf]
  cases R with
  | nil =>
   simp only [List.map_nil,List.length_nil]
   refine (if_neg (by simp)).mpr ?_
   rw [Orb.faces_nil,List.append_nil] at hf
   rw [hf]
   exact k
  | cons i r =>
   have hi:=hlt i List.mem_cons_self
   obtain ⟨nir,ndr⟩:=List.nodup_cons.mp nd
   obtain ⟨p1,p2,p3,p4⟩:=hj.per hi
   simp only [List.map_cons,List.length_cons]
   refine (if_pos (by simp)).mpr ?_
   simp only [Nat.zero_lt_succ,seqIx_0,oget_s,List.getElem?_cons_zero,List.eraseIdx_cons_zero]
   refine ⟨rfl,by decide,hT.ix hi ⟨m,e,g i,A,r0,rfl,tw.lt i hi,by omega,?_⟩⟩
   rw [nxD_fx (tw.lt i hi)]
   refine ⟨λn ρ=>∃t,1<=t/\t<=Orb.per (4*m+e) (M.fx m e g) i/\n=Orb.per (4*m+e) (M.fx m e g) i-t/\ρ=[some (webD m e A r0),some (.dit T),some (.lst ((r.filter λx=>!(Orb.arc (M.fx m e g) i t).contains x).map (spD m))),some (.lst (G.map (faceD m))),some (.lst ((Orb.arc (M.fx m e g) i t).map (spD m))),some (spD m (Orb.it (M.fx m e g) t i))],⟨_,1,Nat.le_refl _,p1,rfl,?_⟩,?_⟩
   ·rw [show (r.filter λx=>!(Orb.arc (M.fx m e g) i 1).contains x)=r from List.filter_eq_self.mpr λx hx=>by
     show (!([i]:List Nat).contains x)=true
     simp
     exact λz=>nir (z ▸ hx)]
    rfl
   ·rintro n ρ ⟨t,t1,t2,rfl,rfl⟩
    have hat:L2.atI ((Orb.arc (M.fx m e g) i t).map (spD m)) 0=some (spD m i):=by
     obtain ⟨t',rfl⟩:∃t',t=t'+1:=⟨t-1,by omega⟩
     rw [Orb.arc_cons,List.map_cons]
     rw [atI_0]
     rfl
    simp only [wSeq,wDrop,wMt,wCons,wLift,wNil,wSet,wCall,wBin,r_var,wAppMv,lsOf,r_bl,wC,look,r_tyL,BEq.rfl,List.set_cons_succ,List.set_cons_zero,oget_s,r_app,true_and,r15_remove,r_ixL,hat]
    refine ne_sp (λh=>?_) (λh=>?_)
    ·have:t=Orb.per (4*m+e) (M.fx m e g) i:=by
      by_cases ht:t<Orb.per (4*m+e) (M.fx m e g) i
      ·exact absurd h (p4 t t1 ht)
      ·omega
     subst this
     have hfl:=List.length_filter_le (λx=>!(Orb.orb (4*m+e) (M.fx m e g) i).contains x) r
     simp only [List.length_cons] at hGR
     simp only [r_blOf,Bool.false_eq_true,reduceIte]
     refine ⟨by rw [List.length_map];exact big (by omega),_,?_,r.filter (λx=>!(Orb.orb (4*m+e) (M.fx m e g) i).contains x),G++[Orb.orb (4*m+e) (M.fx m e g) i],_,by rw [List.map_append];rfl,rfl,ndr.sublist List.filter_sublist,λx hx=>hlt x (List.mem_cons_of_mem _ (List.mem_filter.mp hx).1),hj.closed_rest hlt hcl,?_,?_⟩
     ·omega
     ·rw [List.length_append,List.length_singleton];omega
     ·rw [← hf,Orb.faces_cons,List.append_assoc]
      rfl
    ·have ht:t<Orb.per (4*m+e) (M.fx m e g) i:=by
      by_cases ht:t<Orb.per (4*m+e) (M.fx m e g) i
      ·exact ht
      ·exact absurd (by rw [show t=Orb.per (4*m+e) (M.fx m e g) i by omega];exact p3) h
     have hxl:=hj.itlt t hi
     have hin:Orb.it (M.fx m e g) t i∈r.filter λx=>!(Orb.arc (M.fx m e g) i t).contains x:=by
      refine List.mem_filter.mpr ⟨(List.mem_cons.mp (hcl.it t List.mem_cons_self)).resolve_left h,?_⟩
      have:=hj.new hi ht
      simpa using this
     obtain ⟨ix,r1,r2,r3⟩:=rm_at (m:=m) (ndr.sublist List.filter_sublist) hin
     simp only [r_blOf,reduceIte]
     refine ⟨rfl,eqOks_sp (n:=7),eqOk_sp (n:=7),rfl,ix,r1,r2,?_⟩
     rw [r3]
     refine ⟨rfl,by rw [List.length_map,Orb.arc_length];exact big (by omega),hT.ix hxl ⟨m,e,_,A,r0,rfl,tw.lt _ hxl,by omega,_,?_,t+1,by omega,ht,rfl,?_⟩⟩
     ·omega
     ·rw [nxD_fx (tw.lt _ hxl),Orb.arc_succ,List.map_append,List.filter_filter]
      have hfil:(λx=>!(Orb.arc (M.fx m e g) i t++[Orb.it (M.fx m e g) t i]).contains x)=λa=>a != Orb.it (M.fx m e g) t i && !(Orb.arc (M.fx m e g) i t).contains a:=by
       funext x
       simp [List.contains_eq_any_beq,List.any_append,Bool.and_comm,bne]
       rfl
      rw [hfil]
      rfl
noncomputable def g_law_made:GA:=λds k=>∃(m:Nat) (fs:List (List Nat)),ds=[.lst (fs.map (faceD m))]/\k (.bl true)
noncomputable abbrev s__law_made:Stmt:=top 19
theorem sc__law_made:FnScope ["_law_found","_law_face","_law_spot"] ["_law_found"] (defScope s__law_made):=⟨rfl,rfl,rfl,by decide +kernel,rfl,by decide +kernel,by decide +kernel⟩
noncomputable def t__law_made:Tg:={ own:=λi=>i == 2,io:=[] }
noncomputable def w__law_made:WS:=(wSeq (wIf (wOr (wNot (wTru (wCall dIsi (wCons (wVar 0) (wCons (wC (.ty .list)) wNil))))) (wBl (wBin dNe (wComp (wSeqD (wVar 0)) (wNot (wTru (wCall dIsi (wCons (wVar 0) (wCons (wC (.ty .list)) wNil))))) (wLift (wVar 0)) []) (wLst wNil)))) (wRet (wC (.bl false))) wNext)
 (wSeq (wForR (wSeqD (wVar 0)) 1 (wFor (wSeqD (wVar 1)) (gN 2) (wIf (wOr (wNot (wTru (wCall dIsi (wCons (wVar 2) (wCons (wC (.ty .tuple)) wNil))))) (wOr (wBl (wBin dNe (wCall dLen (wCons (wVar 2) wNil)) (wC (.int 2)))) (wOr (wTru (wCall dIsi (wCons (wBin dIx (wVar 2) (wC (.int 0))) (wCons (wC (.ty .bool)) wNil)))) (wTru (wCall dIsi (wCons (wBin dIx (wVar 2) (wC (.int 1))) (wCons (wC (.ty .bool)) wNil))))))) (wRet (wC (.bl false))) wNext)))
 (wRet (wC (.bl true)))))
theorem b__law_made {P:Program} {w:World} {K:PySem.W.Frag} {mg:Str->Option Value} {base:Heap} {f:Addr} (B:Bn mg):∀(cdv:Value) (A:Around) (outer:List PySem.Env) (s:Shared) (H:Hp) (E:XK),Room 0 (A.deeper (envOfC "_law_made" (defScope s__law_made) s.heap.objs.size f cdv))->SVs (cxOf CX0 P w K mg base ["_law_found","_law_face","_law_spot"] "_law_made" (defScope s__law_made) f cdv A outer s H E).nox t__law_made (defBody s__law_made) w__law_made:=λcdv A outer s H E hr =>
  (svs_cons (sv_if (tv_bool (bv_or (tv_not (tv_tru (ev_callB cd_isi B.nb_isinstance bt_isinstance (av_cons (ev_var 0) (av_cons (ev_ty .list B.nb_list bt_list) av_nil))))) (bv_or1 (tv_cmp (od_ne hr.units) (ev_compB (comp_ok [] (iv_seq (ev_var 0)) (λ_ _ _ _ _=>cv_one (tv_not (tv_tru (ev_callB cd_isi B.nb_isinstance bt_isinstance (av_cons (ev_var 0) (av_cons (ev_ty .list B.nb_list bt_list) av_nil)))))) (λ_ _ _ _ _=>(ev_lift (ev_var 0)))) (compB_mk (defScope s__law_made) ["_law_found","_law_face","_law_spot"] (by decide +kernel))) (ev_lst av_nil))))) (svs_one (sv_ret ev_bl)) svs_nil)
  (svs_cons (sv_forR (i₀:=1) PassesOwn.never (iv_par (i:=0)) (svs_one (sv_for PassesOwn.never (iv_par (i:=1)) (gv_name (i:=2) sc__law_made.nd) (svs_one (sv_if (tv_bool (bv_or (tv_not (tv_tru (ev_callB cd_isi B.nb_isinstance bt_isinstance (av_cons (ev_var 2) (av_cons (ev_ty .tuple B.nb_tuple bt_tuple) av_nil))))) (bv_or (tv_cmp (od_ne hr.units) (ev_callB cd_len B.nb_len bt_len (av_cons (ev_var 2) av_nil)) ev_int) (bv_or (tv_tru (ev_callB cd_isi B.nb_isinstance bt_isinstance (av_cons (ev_ix (xd_ix (hu_of hr)) (ev_var 2) ev_int) (av_cons (ev_ty .bool B.nb_bool bt_bool) av_nil)))) (bv_or1 (tv_tru (ev_callB cd_isi B.nb_isinstance bt_isinstance (av_cons (ev_ix (xd_ix (hu_of hr)) (ev_var 2) ev_int) (av_cons (ev_ty .bool B.nb_bool bt_bool) av_nil))))))))) (svs_one (sv_ret ev_bl)) svs_nil)))) sc__law_made.nd)
  (svs_one (sv_ret ev_bl))))
theorem ok__law_made {P:Program} {w:World} {K:PySem.W.Frag} {mg:Str->Option Value} {base:Heap} {f:Addr} {fd:FuncData} (F:Fun K "_law_made" "_law_made" s__law_made f fd) (B:Bn mg):FnOk P w K mg base CX0 1 f fd ["_law_found"] (spR K g_law_made):=by
 refine fn_ro (T:=t__law_made) F sc__law_made rfl (by decide) (λds kk h=>?_) (b__law_made B) (λds kk h=>?_)
 ·obtain ⟨m,fs,rfl,_⟩:=h
  rfl
 ·obtain ⟨m,fs,rfl,k⟩:=h
  simp only [w__law_made,wSeq,wIf,wOr,wNot,env0,List.map_cons,List.map_nil,List.length_cons,List.length_nil,Nat.zero_add,Nat.reduceAdd,List.replicate,List.cons_append,List.nil_append,wRet,wC,wNext,r_forR,r_seq,r_var,reduceIte,r_bl,wBin,wLst,wNil,r_comp,r_tru,wCall,wCons,r_isi,isiD,r_truB,look,oget_s,r_seqL,BEq.rfl,Bool.not_true,Bool.false_eq_true]
  refine ⟨λ_ ys=>ys=[],rfl,λi d ys hd hy=>?_,λys hy=>?_⟩
  ·subst hy
   obtain ⟨l,_,rfl⟩:=List.mem_map.mp (List.mem_of_getElem? hd)
   simp only [List.length_nil,wNot,blkE,faceD,List.map_nil,wLift,List.nil_append,r_var,look,oget_s,D.pure,Bool.false_eq_true,r_tru,wCall,wCons,wC,wNil,r_isi,isiD,r_truB,BEq.rfl,Bool.not_true,reduceIte,and_true]
   decide
  ·subst hy
   refine ⟨Nat.zero_le _,Nat.zero_le _,?_⟩
   simp only [look,oget_s,r_seqL,r_neL,r_blOf,Bool.false_eq_true,reduceIte]
   refine ⟨rfl,rfl,λ_=>?_,λz=>absurd rfl z⟩
   refine ⟨λt ρ=>∃o1 o2:Option D,ρ=[some (.lst (fs.map (faceD m))),o1,o2],⟨none,none,rfl⟩,?_,?_⟩
   ·rintro t d ρ hd ⟨o1,o2,rfl⟩
    obtain ⟨l,_,rfl⟩:=List.mem_map.mp (List.mem_of_getElem? hd)
    simp only [faceD,List.set_cons_succ,List.set_cons_zero,r_for,r_seq,r_var,look,oget_s,r_seqL]
    refine ⟨pure_spL,λt ρ=>∃o2:Option D,ρ=[some (.lst (fs.map (faceD m))),some (.lst (l.map (spD m))),o2],⟨o2,rfl⟩,?_,?_⟩
    ·rintro t d ρ hd ⟨o2,rfl⟩
     obtain ⟨j,_,rfl⟩:=List.mem_map.mp (List.mem_of_getElem? hd)
     simp only [gN,wIf,wOr,wNot,spD,List.set_cons_succ,List.set_cons_zero,wRet,wC,wNext,reduceIte,r_tru,wCall,wCons,wBin,wNil,r_isi,isiD,r_truB,r_var,r_bl,look,oget_s,r_ixT,atI_1,List.getElem?_cons_succ,List.getElem?_cons_zero,atI_0,r_lenT,List.length_cons,List.length_nil,Nat.zero_add,Nat.reduceAdd,r_neI,r_blOf,BEq.rfl,Bool.not_true,Bool.false_eq_true]
     exact (if_neg (by decide)).mpr ((if_neg (by decide)).mpr ((if_neg (by decide)).mpr ⟨_,rfl⟩))
    ·rintro ρ ⟨o2,rfl⟩
     exact ⟨_,_,rfl⟩
   ·rintro ρ ⟨o1,o2,rfl⟩
    simp only [wRet,wC]
    exact k
end K12
namespace K12
open PySem PySem.Spec L2 PV
open PyProof.Rows (envOfC)
theorem eqOk_faces (m:Nat) (fs:List (List Nat)):eqOk 9 (.lst (fs.map (faceD m)))=true:=by
 simp only [eqOk]
 exact eqOks_map λl _=>by simp only [faceD,eqOk];exact eqOks_sp (n:=5)
theorem face_len {m e:Nat} {A:Nat->Int} {g:Nat->Nat} (tw:M.Tw (4*m+e) A g):(Orb.faces (4*m+e) (M.fx m e g) (M.L0 m e)).length<=4*m+e/\∀l∈Orb.faces (4*m+e) (M.fx m e g) (M.L0 m e),l.length<=4*m+e:=by
 refine ⟨?_,λl hl=>?_⟩
 ·have:=Orb.faces_len (4*m+e) (M.fx m e g) (M.L0 m e).length (M.L0 m e)
  rw [M.L0_len] at this
  unfold Orb.faces
  rw [M.L0_len]
  exact this
 ·obtain ⟨i,hi,rfl⟩:=Orb.mem_faces _ _ _ _ l hl
  unfold Orb.orb
  rw [Orb.arc_length]
  exact ((M.fx_inj tw).per (M.L0_mem.mp hi)).2.1
noncomputable def g_law:GA:=λds k=>∃ns:List Int,ds=[.kls (ns.map .int)]/\ns.length<=63/\k (.bl true)
noncomputable abbrev s_law:Stmt:=top 20
theorem sc_law:FnScope ["_law_script","_law_cell","_law_row","_law_many","_law_web_here","_law_due_here","_law_found","_law_face"] ["_law_script"] (defScope s_law):=⟨rfl,rfl,rfl,by decide +kernel,rfl,by decide +kernel,by decide +kernel⟩
noncomputable def t_law:Tg:={ own:=λi=>i == 1 || i == 2 || i == 3 || i == 4 || i == 5 || i == 6 || i == 7,io:=[] }
noncomputable def w_law:WS:=(wSeq (wFor (wSeqD (wBin dAdd (wLst (wCons (wC (.int 0)) wNil)) (wSl (wVar 0) wNone (wSome (wC (.int 8)))))) (gN 1) (wSeq (wSet 2 (wLst (wCons (wLift (wVar 1)) (wCons (wC (.int 0)) wNil))))
 (wSeq (wSet 3 (wBin dIx (wLst (wCons (wCallI 2 g_law_take (wHere 2 (wCons (wC (.int 4)) wNil))) (wCons (wCallI 2 g_law_take (wHere 2 (wCons (wC (.int 9)) wNil))) wNil))) (wCall dInt (wCons (wBin dEq (wCallI 2 g_law_take (wHere 2 (wCons (wC (.int 4)) wNil))) (wC (.int 1))) wNil))))
 (wSeq (wIf (wBl (wBin dEq (wCallI 2 g_law_take (wHere 2 (wCons (wC (.int 8)) wNil))) (wC (.int 1)))) (wSet 3 (wBin dAdd (wC (.int 9)) (wCallI 2 g_law_take (wHere 2 (wCons (wC (.int 32)) wNil))))) wNext)
 (wSeq (wSet 4 (wCallI 2 g_law_web (wHere 2 (wCons (wLift (wVar 3)) (wCons (wBin dMul (wC (.int 2)) (wCallI 2 g_law_take (wHere 2 (wCons (wC (.int 5)) wNil)))) wNil)))))
 (wSeq (wSet 5 (wCall g_law_due (wCons (wVar 4) wNil)))
 (wSeq (wSet 6 (wCall g_faces (wCons (wVar 4) wNil)))
 (wSeq (wIf (wOr (wNot (wTru (wCall g_law_made (wCons (wVar 6) wNil)))) (wBl (wBin dNe (wVar 6) (wVar 5)))) (wRet (wC (.bl false))) wNext)
 (wSeq (wForApp 6 7 (wTup (wCons (wC (.int 99)) (wCons (wC (.int 0)) wNil))))
 (wSeq (wDrop (wMt 6 "list" gAppend (wCons (wLst wNil) wNil)))
 (wIf (wBl (wBin dNe (wCall g_faces (wCons (wVar 4) wNil)) (wVar 5))) (wRet (wC (.bl false))) wNext)))))))))))
 (wRet (wC (.bl true))))
theorem b_law {P:Program} {w:World} {K:PySem.W.Frag} {mg:Str->Option Value} {base:Heap} {f:Addr} {TB:List (Addr × Array Value)} (B:Bn mg) (hB:BltAt mg base) (C_faces:Cal P w K mg base "faces" 5 ["web"] (spT TB (spR K g_faces))) (C__law_take:Cal P w K mg base "_law_take" 1 ["_law_row","_law_base"] (spI K 0 g_law_take)) (C__law_web:Cal P w K mg base "_law_web" 3 ["_law_row","_law_many","_law_ends"] (spI K 0 g_law_web)) (C__law_due:Cal P w K mg base "_law_due" 3 ["_law_web_here"] (spR K g_law_due)) (C__law_made:Cal P w K mg base "_law_made" 1 ["_law_found"] (spR K g_law_made)) {fd:FuncData}:∀(cdv:Value) (A:Around) (outer:List PySem.Env) (s:Shared) (H:Hp) (E:XK),Room 5 (A.deeper (envOfC "law" (defScope s_law) s.heap.objs.size f cdv))->Tabs TB H->fd.code=cdv->SVs (cxOf CX0 P w K mg base ["_law_script","_law_cell","_law_row","_law_many","_law_web_here","_law_due_here","_law_found","_law_face"] "law" (defScope s_law) f cdv A outer s H E).nox t_law (defBody s_law) w_law:=λcdv A outer s H E hr hT hcv =>
  (svs_cons (sv_for PassesOwn.never (iv_seq (ev_op od_add (ev_lst (av_cons ev_int av_nil)) (ev_sl (ev_var 0) ov_none (ov_some ev_int)))) (gv_name (i:=1) sc_law.nd) (svs_cons (sv_set (i:=2) (ev_lst (av_cons (ev_lift (ev_var 1)) (av_cons ev_int av_nil))) sc_law.nd)
  (svs_cons (sv_set (i:=3) (ev_ix (xd_ix (hu_of hr)) (ev_lst (av_cons (ev_callIC C__law_take (hr.mono (by decide)) (ai_here (i:=2) (av_cons ev_int av_nil))) (av_cons (ev_callIC C__law_take (hr.mono (by decide)) (ai_here (i:=2) (av_cons ev_int av_nil))) av_nil))) (ev_callTy cd_int B.nb_int bt_int (av_cons (ev_cmp (od_eq hr.units) (ev_callIC C__law_take (hr.mono (by decide)) (ai_here (i:=2) (av_cons ev_int av_nil))) ev_int) av_nil))) sc_law.nd)
  (svs_cons (sv_if (tv_cmp (od_eq hr.units) (ev_callIC C__law_take (hr.mono (by decide)) (ai_here (i:=2) (av_cons ev_int av_nil))) ev_int) (svs_one (sv_set (i:=3) (ev_op od_add ev_int (ev_callIC C__law_take (hr.mono (by decide)) (ai_here (i:=2) (av_cons ev_int av_nil)))) sc_law.nd)) svs_nil)
  (svs_cons (sv_set (i:=4) (ev_callIC C__law_web (hr.mono (by decide)) (ai_here (i:=2) (av_cons (ev_lift (ev_var 3)) (av_cons (ev_op od_mul ev_int (ev_callIC C__law_take (hr.mono (by decide)) (ai_here (i:=2) (av_cons ev_int av_nil)))) av_nil)))) sc_law.nd)
  (svs_cons (sv_set (i:=5) (ev_callC C__law_due (hr.mono (by decide)) (av_cons (ev_var 4) av_nil)) sc_law.nd)
  (svs_cons (sv_set (i:=6) (ev_callT C_faces (hr.mono (by decide)) hT (av_cons (ev_var 4) av_nil)) sc_law.nd)
  (svs_cons (sv_if (tv_bool (bv_or (tv_not (tv_tru (ev_callC C__law_made (hr.mono (by decide)) (av_cons (ev_var 6) av_nil)))) (bv_or1 (tv_cmp (od_ne hr.units) (ev_var 6) (ev_var 5))))) (svs_one (sv_ret ev_bl)) svs_nil)
  (svs_cons (sv_forApp (j:=6) (t:=7) PassesOwn.never (ev_tup (av_cons ev_int (av_cons ev_int av_nil))) sc_law.nd)
  (svs_cons (sv_expr (ev_mt (i:=6) md_append PySem.F.plainAttrs_list PySem.F.slot_list_append PySem.F.type_list_append (av_cons (ev_lst av_nil) av_nil)))
  (svs_one (sv_if (tv_cmp (od_ne hr.units) (ev_callT C_faces (hr.mono (by decide)) hT (av_cons (ev_var 4) av_nil)) (ev_var 5)) (svs_one (sv_ret ev_bl)) svs_nil))))))))))))
  (svs_one (sv_ret ev_bl)))
theorem ok_law {P:Program} {w:World} {K:PySem.W.Frag} {mg:Str->Option Value} {base:Heap} {f:Addr} {fd:FuncData} {TB:List (Addr × Array Value)} (F:Fun K "law" "law" s_law f fd) (B:Bn mg) (hB:BltAt mg base) (C_faces:Cal P w K mg base "faces" 5 ["web"] (spT TB (spR K g_faces))) (C__law_take:Cal P w K mg base "_law_take" 1 ["_law_row","_law_base"] (spI K 0 g_law_take)) (C__law_web:Cal P w K mg base "_law_web" 3 ["_law_row","_law_many","_law_ends"] (spI K 0 g_law_web)) (C__law_due:Cal P w K mg base "_law_due" 3 ["_law_web_here"] (spR K g_law_due)) (C__law_made:Cal P w K mg base "_law_made" 1 ["_law_found"] (spR K g_law_made)):FnOk P w K mg base CX0 6 f fd ["_law_script"] (spT TB (spR K g_law)):=by
 refine fn_roT (T:=t_law) F sc_law rfl (by decide) (λds kk h=>?_) (b_law B hB C_faces C__law_take C__law_web C__law_due C__law_made) (λds kk h=>?_)
 ·obtain ⟨ns,rfl,_⟩:=h
  rfl
 ·obtain ⟨ns,rfl,hns,k⟩:=h
  simp only [w_law,wSeq,env0,List.map_cons,List.map_nil,List.length_cons,List.length_nil,Nat.zero_add,Nat.reduceAdd,List.replicate,List.cons_append,List.nil_append,r_for,r_seq,wBin,wLst,wCons,wC,wNil,wSl,wNone,r_some,r_intOf,r_var,look,oget_s,r_slK,r_addL,pureL,D.pure,Bool.and_self,r_seqL,Bool.true_and,true_and]
  have ec:cutD (ns.map D.int) none (some 8)=(ns.take 8).map D.int:=by
   rw [show (some (8:Int))=some ((8:Nat):Int) from rfl,cut_to,List.map_take]
  rw [ec]
  refine ⟨by decide,pure_ints,pure_ints,by rw [List.length_map,List.length_take];exact Nat.le_of_lt (big (by omega)),pure_ints,λt ρ=>∃o1 o2 o3 o4 o5 o6 o7:Option D,ρ=[some (.kls (ns.map .int)),o1,o2,o3,o4,o5,o6,o7],⟨none,none,none,none,none,none,none,rfl⟩,?_,?_⟩
  ·rintro i d ρ hd ⟨o1,o2,o3,o4,o5,o6,o7,rfl⟩
   obtain ⟨c,rfl⟩:∃c,d=.int c:=by
    rcases List.mem_cons.mp (List.mem_of_getElem? hd) with z | z
    ·exact ⟨0,z⟩
    ·obtain ⟨c,_,rfl⟩:=List.mem_map.mp z
     exact ⟨c,rfl⟩
   simp only [gN,wSeq,wSet,wLst,wCons,wLift,List.set_cons_succ,List.set_cons_zero,wC,wNil,List.length_cons,List.length_nil,Nat.zero_add,Nat.reduceAdd,wBin,wCallI,wHere,pureL,D.pure,Bool.and_self,List.nil_append,wCall,wIf,Bool.and_true,wOr,wNot,wRet,wNext,wForApp,lsOf,wTup,wDrop,wMt,r_bl,r_var,reduceIte,r_tru,List.length_set,true_and,look,Option.isSome_some,Nat.lt_add_one,r_tyL,BEq.rfl,oget_s,r_app,r_flL]
   refine ⟨by decide,c,0,4,rfl,by decide,by decide,by decide,by decide,λc1 r1 a1 b1=>?_⟩
   simp only [rowD,Int.reduceAdd,r_flL,pureL,D.pure,Bool.and_self,true_and]
   refine ⟨c1,0+1,9,rfl,by decide,by decide,by decide,by decide,λc2 r2 a2 b2=>?_⟩
   simp only [rowD,Int.reduceAdd,r_flL,pureL,D.pure,Bool.and_self,true_and]
   refine ⟨by decide,c2,0+1+1,4,rfl,by decide,by decide,by decide,by decide,λc3 r3 a3 b3=>?_⟩
   simp only [rowD,Int.reduceAdd,r_flL,pureL,D.pure,Bool.and_self,true_and,r_eqI,r_intB,r_ixL]
   obtain ⟨m0,hm0,hat⟩:∃m:Nat,m<=8/\L2.atI [D.int r1,D.int r2] (if decide (r3=1)=true then 1 else 0)=some (.int (m:Int)):=by
    split
    ·exact ⟨r2.toNat,by omega,by rw [atI_1,show ((r2.toNat:Nat):Int)=r2 by omega];rfl⟩
    ·exact ⟨r1.toNat,by omega,by rw [atI_0,show ((r1.toNat:Nat):Int)=r1 by omega];rfl⟩
   rw [hat]
   simp only [oget_s,D.pure,Bool.true_and,true_and]
   refine ⟨c3,0+1+1+1,8,rfl,by decide,by decide,by decide,by decide,λc4 r4 a4 b4=>?_⟩
   simp only [rowD,Int.reduceAdd,r_flL,pureL,D.pure,Bool.and_self,true_and,r_eqI,r_blOf]
   split
   ·refine ⟨c4,4,32,rfl,by decide,by decide,by decide,by decide,λc5 r5 a5 b5=>?_⟩
    obtain ⟨m1,rfl⟩:=Int.eq_ofNat_of_zero_le a5
    simp only [rowD,Int.reduceAdd,r_flL,pureL,D.pure,Bool.and_self,true_and,r_add,Bool.true_and]
    refine ⟨c5,4+1,5,rfl,by decide,by decide,by decide,by decide,λc6 r6 a6 b6=>?_⟩
    obtain ⟨h,rfl⟩:=Int.eq_ofNat_of_zero_le a6
    simp only [rowD,Int.reduceAdd,r_flL,pureL,D.pure,Bool.and_self,true_and,Int.reduceNeg,Int.reduceLT,r_mulA]
    refine ⟨c6,6,(9+m1),2*h,by simp [rowD],by omega,by omega,by omega,by omega,by omega,λc7 n7 A g r tw hA hr _ _=>?_⟩
    have hfl:=face_len (m:=(9+m1)) (e:=2*h) tw
    have ok:=eqOk_faces (9+m1) (Orb.faces (4*(9+m1)+2*h) (M.fx (9+m1) (2*h) g) (M.L0 (9+m1) (2*h)))
    refine ⟨(9+m1),2*h,A,r,g,rfl,by omega,by omega,by omega,tw,?_⟩
    refine ⟨(9+m1),2*h,A,r,g,rfl,by omega,by omega,by omega,tw,?_⟩
    refine ⟨(9+m1),_,rfl,?_⟩
    simp only [r_neL,r_blOf,Bool.false_eq_true,reduceIte,r_truB,Bool.not_true]
    refine ⟨ok,ok,λ_=>?_,λz=>absurd rfl z⟩
    refine ⟨.tup [.int 99,.int 0],rfl,λq hq=>?_,λρ' Q hQ=>⟨by decide,hQ⟩,Nat.zero_le _,?_,(9+m1),2*h,A,r,g,rfl,by omega,by omega,by omega,tw,?_⟩
    ·obtain ⟨l,hl,rfl⟩:=List.mem_map.mp hq
     exact ⟨_,rfl,by rw [List.length_map];exact big (by have:=hfl.2 l hl;omega)⟩
    ·rw [List.length_map,List.length_map]
     exact big (by have:=hfl.1;omega)
    ·simp only [r_neL,r_blOf,Bool.false_eq_true,reduceIte]
     exact ⟨ok,ok,λ_=>⟨_,_,_,_,_,_,_,rfl⟩,λz=>absurd rfl z⟩
   ·refine ⟨c4,4,5,rfl,by decide,by decide,by decide,by decide,λc6 r6 a6 b6=>?_⟩
    obtain ⟨h,rfl⟩:=Int.eq_ofNat_of_zero_le a6
    simp only [rowD,Int.reduceAdd,r_flL,pureL,D.pure,Bool.and_self,true_and,Int.reduceNeg,Int.reduceLT,r_mulA]
    refine ⟨c6,5,m0,2*h,by simp [rowD],by omega,by omega,by omega,by omega,by omega,λc7 n7 A g r tw hA hr _ _=>?_⟩
    have hfl:=face_len (m:=m0) (e:=2*h) tw
    have ok:=eqOk_faces m0 (Orb.faces (4*m0+2*h) (M.fx m0 (2*h) g) (M.L0 m0 (2*h)))
    refine ⟨m0,2*h,A,r,g,rfl,by omega,by omega,by omega,tw,?_⟩
    refine ⟨m0,2*h,A,r,g,rfl,by omega,by omega,by omega,tw,?_⟩
    refine ⟨m0,_,rfl,?_⟩
    simp only [r_neL,r_blOf,Bool.false_eq_true,reduceIte,r_truB,Bool.not_true]
    refine ⟨ok,ok,λ_=>?_,λz=>absurd rfl z⟩
    refine ⟨.tup [.int 99,.int 0],rfl,λq hq=>?_,λρ' Q hQ=>⟨by decide,hQ⟩,Nat.zero_le _,?_,m0,2*h,A,r,g,rfl,by omega,by omega,by omega,tw,?_⟩
    ·obtain ⟨l,hl,rfl⟩:=List.mem_map.mp hq
     exact ⟨_,rfl,by rw [List.length_map];exact big (by have:=hfl.2 l hl;omega)⟩
    ·rw [List.length_map,List.length_map]
     exact big (by have:=hfl.1;omega)
    ·simp only [r_neL,r_blOf,Bool.false_eq_true,reduceIte]
     exact ⟨ok,ok,λ_=>⟨_,_,_,_,_,_,_,rfl⟩,λz=>absurd rfl z⟩
  ·rintro ρ ⟨o1,o2,o3,o4,o5,o6,o7,rfl⟩
   simp only [wRet,wC]
   exact k
end K12
namespace K12
open PySem PySem.Spec L2 PV
open PyProof.Rows (envOfC)
theorem all_mk {l:PySem.W.OpenLaw} {w:World} {K:PySem.W.Frag} {h:Heap} {mg:Str->Option Value} {fa:Addr} (X:K.In h) (G:h.Ns mainGlobals mg) (hfa:mg "law" = some (.ref fa))
  {f1:Addr} {od1 an1:Option Addr} {sl1:Array (Option Value)} {oc1 kV1 dc1 pm1 cd1 ct1:Value}
  (a1:PySem.W.nsIn K mainGlobals "places" = some (some (.ref f1))) (l1:K.lookup f1=some ⟨oc1,od1,.func (PySem.W.fnOf "places" "places" (defArgs s_places) (defBody s_places) (defScope s_places) .none kV1 dc1 pm1 an1 cd1 ct1),sl1⟩) (c1:PySem.W.codeIn K cd1 "places" = true) (k1:PySem.W.keepIn K (.ref f1)=true)
  {f2:Addr} {od2 an2:Option Addr} {sl2:Array (Option Value)} {oc2 kV2 dc2 pm2 cd2 ct2:Value}
  (a2:PySem.W.nsIn K mainGlobals "twins" = some (some (.ref f2))) (l2:K.lookup f2=some ⟨oc2,od2,.func (PySem.W.fnOf "twins" "twins" (defArgs s_twins) (defBody s_twins) (defScope s_twins) .none kV2 dc2 pm2 an2 cd2 ct2),sl2⟩) (c2:PySem.W.codeIn K cd2 "twins" = true) (k2:PySem.W.keepIn K (.ref f2)=true)
  {f3:Addr} {od3 an3:Option Addr} {sl3:Array (Option Value)} {oc3 kV3 dc3 pm3 cd3 ct3:Value}
  (a3:PySem.W.nsIn K mainGlobals "dart_next_to" = some (some (.ref f3))) (l3:K.lookup f3=some ⟨oc3,od3,.func (PySem.W.fnOf "dart_next_to" "dart_next_to" (defArgs s_dart_next_to) (defBody s_dart_next_to) (defScope s_dart_next_to) .none kV3 dc3 pm3 an3 cd3 ct3),sl3⟩) (c3:PySem.W.codeIn K cd3 "dart_next_to" = true) (k3:PySem.W.keepIn K (.ref f3)=true)
  {f4:Addr} {od4 an4:Option Addr} {sl4:Array (Option Value)} {oc4 kV4 dc4 pm4 cd4 ct4:Value}
  (a4:PySem.W.nsIn K mainGlobals "face_from" = some (some (.ref f4))) (l4:K.lookup f4=some ⟨oc4,od4,.func (PySem.W.fnOf "face_from" "face_from" (defArgs s_face_from) (defBody s_face_from) (defScope s_face_from) .none kV4 dc4 pm4 an4 cd4 ct4),sl4⟩) (c4:PySem.W.codeIn K cd4 "face_from" = true) (k4:PySem.W.keepIn K (.ref f4)=true)
  {f5:Addr} {od5 an5:Option Addr} {sl5:Array (Option Value)} {oc5 kV5 dc5 pm5 cd5 ct5:Value}
  (a5:PySem.W.nsIn K mainGlobals "parted" = some (some (.ref f5))) (l5:K.lookup f5=some ⟨oc5,od5,.func (PySem.W.fnOf "parted" "parted" (defArgs s_parted) (defBody s_parted) (defScope s_parted) .none kV5 dc5 pm5 an5 cd5 ct5),sl5⟩) (c5:PySem.W.codeIn K cd5 "parted" = true) (k5:PySem.W.keepIn K (.ref f5)=true)
  {f6:Addr} {od6 an6:Option Addr} {sl6:Array (Option Value)} {oc6 kV6 dc6 pm6 cd6 ct6:Value}
  (a6:PySem.W.nsIn K mainGlobals "faces" = some (some (.ref f6))) (l6:K.lookup f6=some ⟨oc6,od6,.func (PySem.W.fnOf "faces" "faces" (defArgs s_faces) (defBody s_faces) (defScope s_faces) .none kV6 dc6 pm6 an6 cd6 ct6),sl6⟩) (c6:PySem.W.codeIn K cd6 "faces" = true) (k6:PySem.W.keepIn K (.ref f6)=true)
  {f7:Addr} {od7 an7:Option Addr} {sl7:Array (Option Value)} {oc7 kV7 dc7 pm7 cd7 ct7:Value}
  (a7:PySem.W.nsIn K mainGlobals "_law_cell_at" = some (some (.ref f7))) (l7:K.lookup f7=some ⟨oc7,od7,.func (PySem.W.fnOf "_law_cell_at" "_law_cell_at" (defArgs s__law_cell_at) (defBody s__law_cell_at) (defScope s__law_cell_at) .none kV7 dc7 pm7 an7 cd7 ct7),sl7⟩) (c7:PySem.W.codeIn K cd7 "_law_cell_at" = true) (k7:PySem.W.keepIn K (.ref f7)=true)
  {f8:Addr} {od8 an8:Option Addr} {sl8:Array (Option Value)} {oc8 kV8 dc8 pm8 cd8 ct8:Value}
  (a8:PySem.W.nsIn K mainGlobals "_law_take" = some (some (.ref f8))) (l8:K.lookup f8=some ⟨oc8,od8,.func (PySem.W.fnOf "_law_take" "_law_take" (defArgs s__law_take) (defBody s__law_take) (defScope s__law_take) .none kV8 dc8 pm8 an8 cd8 ct8),sl8⟩) (c8:PySem.W.codeIn K cd8 "_law_take" = true) (k8:PySem.W.keepIn K (.ref f8)=true)
  {f9:Addr} {od9 an9:Option Addr} {sl9:Array (Option Value)} {oc9 kV9 dc9 pm9 cd9 ct9:Value}
  (a9:PySem.W.nsIn K mainGlobals "_law_arcs" = some (some (.ref f9))) (l9:K.lookup f9=some ⟨oc9,od9,.func (PySem.W.fnOf "_law_arcs" "_law_arcs" (defArgs s__law_arcs) (defBody s__law_arcs) (defScope s__law_arcs) .none kV9 dc9 pm9 an9 cd9 ct9),sl9⟩) (c9:PySem.W.codeIn K cd9 "_law_arcs" = true) (k9:PySem.W.keepIn K (.ref f9)=true)
  {f10:Addr} {od10 an10:Option Addr} {sl10:Array (Option Value)} {oc10 kV10 dc10 pm10 cd10 ct10:Value}
  (a10:PySem.W.nsIn K mainGlobals "_law_web" = some (some (.ref f10))) (l10:K.lookup f10=some ⟨oc10,od10,.func (PySem.W.fnOf "_law_web" "_law_web" (defArgs s__law_web) (defBody s__law_web) (defScope s__law_web) .none kV10 dc10 pm10 an10 cd10 ct10),sl10⟩) (c10:PySem.W.codeIn K cd10 "_law_web" = true) (k10:PySem.W.keepIn K (.ref f10)=true)
  {f11:Addr} {od11 an11:Option Addr} {sl11:Array (Option Value)} {oc11 kV11 dc11 pm11 cd11 ct11:Value}
  (a11:PySem.W.nsIn K mainGlobals "_law_spots" = some (some (.ref f11))) (l11:K.lookup f11=some ⟨oc11,od11,.func (PySem.W.fnOf "_law_spots" "_law_spots" (defArgs s__law_spots) (defBody s__law_spots) (defScope s__law_spots) .none kV11 dc11 pm11 an11 cd11 ct11),sl11⟩) (c11:PySem.W.codeIn K cd11 "_law_spots" = true) (k11:PySem.W.keepIn K (.ref f11)=true)
  {f12:Addr} {od12 an12:Option Addr} {sl12:Array (Option Value)} {oc12 kV12 dc12 pm12 cd12 ct12:Value}
  (a12:PySem.W.nsIn K mainGlobals "_law_arc" = some (some (.ref f12))) (l12:K.lookup f12=some ⟨oc12,od12,.func (PySem.W.fnOf "_law_arc" "_law_arc" (defArgs s__law_arc) (defBody s__law_arc) (defScope s__law_arc) .none kV12 dc12 pm12 an12 cd12 ct12),sl12⟩) (c12:PySem.W.codeIn K cd12 "_law_arc" = true) (k12:PySem.W.keepIn K (.ref f12)=true)
  {f13:Addr} {od13 an13:Option Addr} {sl13:Array (Option Value)} {oc13 kV13 dc13 pm13 cd13 ct13:Value}
  (a13:PySem.W.nsIn K mainGlobals "_law_ties" = some (some (.ref f13))) (l13:K.lookup f13=some ⟨oc13,od13,.func (PySem.W.fnOf "_law_ties" "_law_ties" (defArgs s__law_ties) (defBody s__law_ties) (defScope s__law_ties) .none kV13 dc13 pm13 an13 cd13 ct13),sl13⟩) (c13:PySem.W.codeIn K cd13 "_law_ties" = true) (k13:PySem.W.keepIn K (.ref f13)=true)
  {f14:Addr} {od14 an14:Option Addr} {sl14:Array (Option Value)} {oc14 kV14 dc14 pm14 cd14 ct14:Value}
  (a14:PySem.W.nsIn K mainGlobals "_law_later" = some (some (.ref f14))) (l14:K.lookup f14=some ⟨oc14,od14,.func (PySem.W.fnOf "_law_later" "_law_later" (defArgs s__law_later) (defBody s__law_later) (defScope s__law_later) .none kV14 dc14 pm14 an14 cd14 ct14),sl14⟩) (c14:PySem.W.codeIn K cd14 "_law_later" = true) (k14:PySem.W.keepIn K (.ref f14)=true)
  {f15:Addr} {od15 an15:Option Addr} {sl15:Array (Option Value)} {oc15 kV15 dc15 pm15 cd15 ct15:Value}
  (a15:PySem.W.nsIn K mainGlobals "_law_due" = some (some (.ref f15))) (l15:K.lookup f15=some ⟨oc15,od15,.func (PySem.W.fnOf "_law_due" "_law_due" (defArgs s__law_due) (defBody s__law_due) (defScope s__law_due) .none kV15 dc15 pm15 an15 cd15 ct15),sl15⟩) (c15:PySem.W.codeIn K cd15 "_law_due" = true) (k15:PySem.W.keepIn K (.ref f15)=true)
  {f16:Addr} {od16 an16:Option Addr} {sl16:Array (Option Value)} {oc16 kV16 dc16 pm16 cd16 ct16:Value}
  (a16:PySem.W.nsIn K mainGlobals "_law_made" = some (some (.ref f16))) (l16:K.lookup f16=some ⟨oc16,od16,.func (PySem.W.fnOf "_law_made" "_law_made" (defArgs s__law_made) (defBody s__law_made) (defScope s__law_made) .none kV16 dc16 pm16 an16 cd16 ct16),sl16⟩) (c16:PySem.W.codeIn K cd16 "_law_made" = true) (k16:PySem.W.keepIn K (.ref f16)=true)
  {f17:Addr} {od17 an17:Option Addr} {sl17:Array (Option Value)} {oc17 kV17 dc17 pm17 cd17 ct17:Value}
  (a17:PySem.W.nsIn K mainGlobals "law" = some (some (.ref f17))) (l17:K.lookup f17=some ⟨oc17,od17,.func (PySem.W.fnOf "law" "law" (defArgs s_law) (defBody s_law) (defScope s_law) .none kV17 dc17 pm17 an17 cd17 ct17),sl17⟩) (c17:PySem.W.codeIn K cd17 "law" = true) (k17:PySem.W.keepIn K (.ref f17)=true)
  (z_bool:PySem.W.nsIn K mainGlobals "bool" = some none)
  (z_enumerate:PySem.W.nsIn K mainGlobals "enumerate" = some none)
  (z_int:PySem.W.nsIn K mainGlobals "int" = some none)
  (z_isinstance:PySem.W.nsIn K mainGlobals "isinstance" = some none)
  (z_len:PySem.W.nsIn K mainGlobals "len" = some none)
  (z_list:PySem.W.nsIn K mainGlobals "list" = some none)
  (z_min:PySem.W.nsIn K mainGlobals "min" = some none)
  (z_range:PySem.W.nsIn K mainGlobals "range" = some none)
  (z_sorted:PySem.W.nsIn K mainGlobals "sorted" = some none)
  (z_tuple:PySem.W.nsIn K mainGlobals "tuple" = some none)
  {tk_RIM:Tok} (z_RIM:PySem.W.nsIn K mainGlobals "RIM" = some (some (.int (-1) tk_RIM)))
  {ts:List Addr} {c_faces P_faces:Addr} (z_faces:cd6=.ref c_faces) (x_tab:ts=[P_faces]) (xh_faces:PySem.W.codeHdIn K c_faces P_faces=true)
  : ∃fd:FuncData,(∀(s:Shared) (v:Value),BindsTo s fd ⟨[v],[]⟩ [("_law_script",v)])/\(∀p∈TBof ts,∃c,PySem.W.codeHdIn K c p.1=true)/\∀base:Heap,K.In base->base.Ns mainGlobals mg->BltAt mg base->FnOk l.prog w K mg base CX0 6 fa fd ["_law_script"] (spT (TBof ts) (spR K g_law)):=by
 have e:=hfa.symm.trans (PySem.W.mg_of X G a17)
 cases e
 have B:Bn mg:=⟨PySem.W.mg_none_of X G z_bool,PySem.W.mg_none_of X G z_enumerate,PySem.W.mg_none_of X G z_int,PySem.W.mg_none_of X G z_isinstance,PySem.W.mg_none_of X G z_len,PySem.W.mg_none_of X G z_list,PySem.W.mg_none_of X G z_min,PySem.W.mg_none_of X G z_range,PySem.W.mg_none_of X G z_sorted,PySem.W.mg_none_of X G z_tuple,⟨tk_RIM,PySem.W.mg_of X G z_RIM⟩⟩
 have F1:=fun_mk (st:=s_places) l1 c1 k1
 have F2:=fun_mk (st:=s_twins) l2 c2 k2
 have F3:=fun_mk (st:=s_dart_next_to) l3 c3 k3
 have F4:=fun_mk (st:=s_face_from) l4 c4 k4
 have F5:=fun_mk (st:=s_parted) l5 c5 k5
 have F6:=fun_mk (st:=s_faces) l6 c6 k6
 have F7:=fun_mk (st:=s__law_cell_at) l7 c7 k7
 have F8:=fun_mk (st:=s__law_take) l8 c8 k8
 have F9:=fun_mk (st:=s__law_arcs) l9 c9 k9
 have F10:=fun_mk (st:=s__law_web) l10 c10 k10
 have F11:=fun_mk (st:=s__law_spots) l11 c11 k11
 have F12:=fun_mk (st:=s__law_arc) l12 c12 k12
 have F13:=fun_mk (st:=s__law_ties) l13 c13 k13
 have F14:=fun_mk (st:=s__law_later) l14 c14 k14
 have F15:=fun_mk (st:=s__law_due) l15 c15 k15
 have F16:=fun_mk (st:=s__law_made) l16 c16 k16
 have F17:=fun_mk (st:=s_law) l17 c17 k17
 refine ⟨PySem.W.fnOf "law" "law" (defArgs s_law) (defBody s_law) (defScope s_law) .none kV17 dc17 pm17 an17 cd17 ct17,λs v=>.of_eq rfl,(λp hp=>by obtain ⟨P,hP,rfl⟩:=List.mem_map.mp hp;rw [x_tab] at hP;rw [List.mem_singleton.mp hP];exact ⟨_,xh_faces⟩),λbase _ _ hB=>?_⟩
 have hP_faces:(P_faces,tgOf lp_faces L_faces.qual)∈TBof ts:=List.mem_map.mpr ⟨P_faces,by rw [x_tab];simp,rfl⟩
 have C_places:Cal l.prog w K mg base "places" 1 ["web"] (spR K g_places):=⟨f1,_,ok_places F1 B,PySem.W.mg_of X G a1,k1,F1.binds λ_ _ _ _ _ _ us hl=>by obtain ⟨_,rfl⟩:=len1 hl;rfl⟩
 have C_twins:Cal l.prog w K mg base "twins" 2 ["web"] (spR K g_twins):=⟨f2,_,ok_twins F2 B C_places,PySem.W.mg_of X G a2,k2,F2.binds λ_ _ _ _ _ _ us hl=>by obtain ⟨_,rfl⟩:=len1 hl;rfl⟩
 have C_dart_next_to:Cal l.prog w K mg base "dart_next_to" 1 ["web","place"] (spR K g_dart_next_to):=⟨f3,_,ok_dart_next_to F3 B,PySem.W.mg_of X G a3,k3,F3.binds λ_ _ _ _ _ _ us hl=>by obtain ⟨_,_,rfl⟩:=len2 hl;rfl⟩
 have C_face_from:Cal l.prog w K mg base "face_from" 2 ["web","others","dart"] (spR K g_face_from):=⟨f4,_,ok_face_from F4 B C_dart_next_to,PySem.W.mg_of X G a4,k4,F4.binds λ_ _ _ _ _ _ us hl=>by obtain ⟨_,_,_,rfl⟩:=len3 hl;rfl⟩
 have Lm_faces:LamOk l.prog w K mg base 3 L_faces (spR K gL_faces):=lam_faces B C_face_from
 have C_parted:Cal l.prog w K mg base "parted" 4 ["members","group_from"] (spR K g_parted):=⟨f5,_,ok_parted F5 B Lm_faces,PySem.W.mg_of X G a5,k5,F5.binds λ_ _ _ _ _ _ us hl=>by obtain ⟨_,_,rfl⟩:=len2 hl;rfl⟩
 have C_faces:Cal l.prog w K mg base "faces" 5 ["web"] (spT (TBof ts) (spR K g_faces)):=⟨f6,_,ok_faces F6 B hB C_twins C_parted (c_faces:=c_faces) z_faces xh_faces hP_faces,PySem.W.mg_of X G a6,k6,F6.binds λ_ _ _ _ _ _ us hl=>by obtain ⟨_,rfl⟩:=len1 hl;rfl⟩
 have C__law_cell_at:Cal l.prog w K mg base "_law_cell_at" 1 ["_law_script","_law_k"] (spR K g_law_cell_at):=⟨f7,_,ok__law_cell_at F7 B,PySem.W.mg_of X G a7,k7,F7.binds λ_ _ _ _ _ _ us hl=>by obtain ⟨_,_,rfl⟩:=len2 hl;rfl⟩
 have C__law_take:Cal l.prog w K mg base "_law_take" 1 ["_law_row","_law_base"] (spI K 0 g_law_take):=⟨f8,_,ok__law_take F8 B,PySem.W.mg_of X G a8,k8,F8.binds λ_ _ _ _ _ _ us hl=>by obtain ⟨_,_,rfl⟩:=len2 hl;rfl⟩
 have C__law_arcs:Cal l.prog w K mg base "_law_arcs" 2 ["_law_row","_law_many"] (spI K 0 g_law_arcs):=⟨f9,_,ok__law_arcs F9 B C__law_take,PySem.W.mg_of X G a9,k9,F9.binds λ_ _ _ _ _ _ us hl=>by obtain ⟨_,_,rfl⟩:=len2 hl;rfl⟩
 have C__law_web:Cal l.prog w K mg base "_law_web" 3 ["_law_row","_law_many","_law_ends"] (spI K 0 g_law_web):=⟨f10,_,ok__law_web F10 B C__law_take C__law_arcs,PySem.W.mg_of X G a10,k10,F10.binds λ_ _ _ _ _ _ us hl=>by obtain ⟨_,_,_,rfl⟩:=len3 hl;rfl⟩
 have C__law_spots:Cal l.prog w K mg base "_law_spots" 1 ["_law_web_here"] (spR K g_law_spots):=⟨f11,_,ok__law_spots F11 B,PySem.W.mg_of X G a11,k11,F11.binds λ_ _ _ _ _ _ us hl=>by obtain ⟨_,rfl⟩:=len1 hl;rfl⟩
 have C__law_arc:Cal l.prog w K mg base "_law_arc" 1 ["_law_web_here","_law_spot"] (spR K g_law_arc):=⟨f12,_,ok__law_arc F12 B,PySem.W.mg_of X G a12,k12,F12.binds λ_ _ _ _ _ _ us hl=>by obtain ⟨_,_,rfl⟩:=len2 hl;rfl⟩
 have C__law_ties:Cal l.prog w K mg base "_law_ties" 2 ["_law_web_here"] (spR K g_law_ties):=⟨f13,_,ok__law_ties F13 B C__law_spots C__law_arc,PySem.W.mg_of X G a13,k13,F13.binds λ_ _ _ _ _ _ us hl=>by obtain ⟨_,rfl⟩:=len1 hl;rfl⟩
 have C__law_later:Cal l.prog w K mg base "_law_later" 1 ["_law_web_here","_law_spot"] (spR K g_law_later):=⟨f14,_,ok__law_later F14 B,PySem.W.mg_of X G a14,k14,F14.binds λ_ _ _ _ _ _ us hl=>by obtain ⟨_,_,rfl⟩:=len2 hl;rfl⟩
 have C__law_due:Cal l.prog w K mg base "_law_due" 3 ["_law_web_here"] (spR K g_law_due):=⟨f15,_,ok__law_due F15 B C__law_ties C__law_later,PySem.W.mg_of X G a15,k15,F15.binds λ_ _ _ _ _ _ us hl=>by obtain ⟨_,rfl⟩:=len1 hl;rfl⟩
 have C__law_made:Cal l.prog w K mg base "_law_made" 1 ["_law_found"] (spR K g_law_made):=⟨f16,_,ok__law_made F16 B,PySem.W.mg_of X G a16,k16,F16.binds λ_ _ _ _ _ _ us hl=>by obtain ⟨_,rfl⟩:=len1 hl;rfl⟩
 exact ok_law F17 B hB C_faces C__law_take C__law_web C__law_due C__law_made
theorem law_sp {K:PySem.W.Frag} {H:Hp} {a:Addr} {ns:List Int} {ts:List Addr} (hl:ns.length<=63) (ho:OnlyT H) (hT:Tabs (TBof ts) H) (hS:SqL K H a (ns.map V.int)):spT (TBof ts) (spR K g_law) [.ref a] H (λv _=>v=.bl true) λ_ _ _=>False:=by
 have fz:FzL K H a (ns.map V.int):=by
  rcases hS with (h | h) | h
  ·rcases ho a with z | ⟨o,xs,z⟩ | ⟨ps,z⟩
   ·rw [z] at h;cases h
   ·rw [z] at h;cases h
   ·rw [z] at h;cases h
  ·exact .inl h
  ·exact .inr h
 refine ⟨hT,[.kls (ns.map .int)],[],λd=>d=.bl true,?_,⟨ns,rfl,hl,rfl⟩,λv H' d F' fi hd=>?_⟩
 ·exact .cons (F:=[]) (G:=[]) (.kls fz (Reps.ints ns)) .nil
 ·subst hd
  exact rep_bl fi.rep
theorem walk {l:PySem.W.OpenLaw} {q:Program} {loose:List Str} {XP:(Str->Option Value)->Heap->Prop} {d:DefRec} {K:Params->PySem.W.Frag} {as:List Addr} {e:∀P,as=(K P).map (·.1)} {ts:List Addr} (hn:l.most=some 63) (hdf:d.params.defaults=[])
  (hnt:∀w:World,PySem.W.noTabs (K w.params)=true)
  (F:∀(w:World) (mg:Str->Option Value) (fa:Addr) (h:Heap),(K w.params).In h->h.Ns mainGlobals mg->mg d.name=some (.ref fa) ->
   ∃fd:FuncData,(∀(s:Shared) (u:Value),BindsTo s fd ⟨[u],[]⟩ [("_law_script",u)])/\(∀p∈TBof ts,∃c,PySem.W.codeHdIn (K w.params) c p.1=true)/\∀base:Heap,(K w.params).In base->base.Ns mainGlobals mg->BltAt mg base->FnOk l.prog w (K w.params) mg base CX0 6 fa fd ["_law_script"] (spT (TBof ts) (spR (K w.params) g_law))) :
  PySem.W.WalkO q loose XP (PySem.W.kmHook K as e ts).says l.row.toRowW d [] (λf vs=>PySem.call f vs) :=
 L2.walk_ofT (n:=63) (k:=6) (x:="_law_script") (CX:=λ_=>CX0) (TB:=TBof ts) (sp:=λw=>spT (TBof ts) (spR (K w.params) g_law)) hn (by decide) hdf ⟨rfl,by decide,by decide⟩ (λw h Y=>PySem.W.km_in_of Y)
  (λw h Y p hp=>by obtain ⟨P,hP,rfl⟩:=List.mem_map.mp hp;exact PySem.W.km_tabs_of Y P hP) hnt lookup_const F (λ_ _ a ns hl ho ht hS=>law_sp hl ho ht hS) λ_ _ _ _ _ z=>z
end K12
open PySem PySem.W PyProof.Rows
set_option maxRecDepth 100000 in
set_option maxHeartbeats 0 in
theorem PySem.Challenge.cw_tanglehouse_k12_faces_walked_holds : PySem.Challenge.rw_tanglehouse_k12_faces_walked.Holds := by
 w_on;o_law;k_head;(case hw=>w_witness2)
 k_fill
 refine K12.walk (l:=PySem.Challenge.rw_tanglehouse_k12_faces_walked) rfl rfl ?nt9 ?F
 case nt9=>exact λw=>by kernel_rfl
 case F =>
  intro w mg fa h KX G hmg
  refine' K12.all_mk KX G hmg ?a1 ?l1 ?c1 ?k1 ?a2 ?l2 ?c2 ?k2 ?a3 ?l3 ?c3 ?k3 ?a4 ?l4 ?c4 ?k4 ?a5 ?l5 ?c5 ?k5 ?a6 ?l6 ?c6 ?k6 ?a7 ?l7 ?c7 ?k7 ?a8 ?l8 ?c8 ?k8 ?a9 ?l9 ?c9 ?k9 ?a10 ?l10 ?c10 ?k10 ?a11 ?l11 ?c11 ?k11 ?a12 ?l12 ?c12 ?k12 ?a13 ?l13 ?c13 ?k13 ?a14 ?l14 ?c14 ?k14 ?a15 ?l15 ?c15 ?k15 ?a16 ?l16 ?c16 ?k16 ?a17 ?l17 ?c17 ?k17 ?z_bool ?z_enumerate ?z_int ?z_isinstance ?z_len ?z_list ?z_min ?z_range ?z_sorted ?z_tuple ?z_RIM ?z_faces ?x_tab ?xh_faces
  (case a1=>k_is)
  (case l1=>k_is)
  (case c1=>k_is)
  (case k1=>k_is)
  (case a2=>k_is)
  (case l2=>k_is)
  (case c2=>k_is)
  (case k2=>k_is)
  (case a3=>k_is)
  (case l3=>k_is)
  (case c3=>k_is)
  (case k3=>k_is)
  (case a4=>k_is)
  (case l4=>k_is)
  (case c4=>k_is)
  (case k4=>k_is)
  (case a5=>k_is)
  (case l5=>k_is)
  (case c5=>k_is)
  (case k5=>k_is)
  (case a6=>k_is)
  (case l6=>k_is)
  (case c6=>k_is)
  (case k6=>k_is)
  (case a7=>k_is)
  (case l7=>k_is)
  (case c7=>k_is)
  (case k7=>k_is)
  (case a8=>k_is)
  (case l8=>k_is)
  (case c8=>k_is)
  (case k8=>k_is)
  (case a9=>k_is)
  (case l9=>k_is)
  (case c9=>k_is)
  (case k9=>k_is)
  (case a10=>k_is)
  (case l10=>k_is)
  (case c10=>k_is)
  (case k10=>k_is)
  (case a11=>k_is)
  (case l11=>k_is)
  (case c11=>k_is)
  (case k11=>k_is)
  (case a12=>k_is)
  (case l12=>k_is)
  (case c12=>k_is)
  (case k12=>k_is)
  (case a13=>k_is)
  (case l13=>k_is)
  (case c13=>k_is)
  (case k13=>k_is)
  (case a14=>k_is)
  (case l14=>k_is)
  (case c14=>k_is)
  (case k14=>k_is)
  (case a15=>k_is)
  (case l15=>k_is)
  (case c15=>k_is)
  (case k15=>k_is)
  (case a16=>k_is)
  (case l16=>k_is)
  (case c16=>k_is)
  (case k16=>k_is)
  (case a17=>k_is)
  (case l17=>k_is)
  (case c17=>k_is)
  (case k17=>k_is)
  (case z_bool=>first | k_is | rfl | decide +kernel)
  (case z_enumerate=>first | k_is | rfl | decide +kernel)
  (case z_int=>first | k_is | rfl | decide +kernel)
  (case z_isinstance=>first | k_is | rfl | decide +kernel)
  (case z_len=>first | k_is | rfl | decide +kernel)
  (case z_list=>first | k_is | rfl | decide +kernel)
  (case z_min=>first | k_is | rfl | decide +kernel)
  (case z_range=>first | k_is | rfl | decide +kernel)
  (case z_sorted=>first | k_is | rfl | decide +kernel)
  (case z_tuple=>first | k_is | rfl | decide +kernel)
  (case z_RIM=>first | k_is | rfl | decide +kernel)
  (case z_faces=>first | k_is | rfl | decide +kernel)
  (case x_tab=>first | k_is | rfl | decide +kernel)
  (case xh_faces=>kernel_rfl)
