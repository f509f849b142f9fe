import PyProof.Rows.All
import Wide.All
import OpenK.AllK
import Wide.FinOn
import Lean
import PyProof.EqAt
import PyProof.EqKinds
import PyProof.TupleCall
import PyProof.EnumMake
import PyProof.EnumFor
import PyProof.Draws
import PyProof.DictWalks
import PyProof.ListRange
import PyProof.ZipIter
import PyProof.Rows.SortWalk
import PyProof.Rows.SumAny
import PyProof.TupleIter
import PyProof.MeetsStr2
import PyProof.StrWalks
import Wide.Txt
import PyProof.Rows.SortRuns
import PyProof.Rows.MinMaxN
import PyProof.ExcClass2
import PyProof.NsDelKeeps
import PyProof.ExcArgsOwn
import PyProof.ExcAttrAll.ValueError
import PyProof.ExcBaseAll.ValueError
import PySem.Challenge.RW_tanglehouse_k69_whole_rows_of_steps
set_option Elab.async false
set_option linter.all false
set_option maxRecDepth 100000
namespace L2
open PySem PySem.Spec PyProof.Rows
abbrev Key:=Sum Int Str
def keyIs:Key->Value->Bool
 | .inl k,v=>Value.isInt k v
 | .inr x,v=>Value.isStrOf x v
def keyH (w:World):Key->Int
 | .inl k=>hashInt k
 | .inr x=>hashStr w x
theorem keyIs_shape:∀{k:Key} {v:Value},keyIs k v=true->(∃i t,k=Sum.inl i/\v=Value.int i t)\/(∃x t,k=Sum.inr x/\v=Value.str x t)
 | .inl i,v,h=>by
  obtain ⟨t,e⟩:=Value.isInt_shape (k:=i) (v:=v) h
  exact .inl ⟨i,t,rfl,e⟩
 | .inr x,v,h=>by
  obtain ⟨t,e⟩:=Value.isStrOf_shape (x:=x) (v:=v) h
  exact .inr ⟨x,t,rfl,e⟩
theorem keyIs_int (i:Int) (t:Tok):keyIs (.inl i) (.int i t)=true:=by simp [keyIs,Value.isInt]
theorem keyIs_str (x:Str) (t:Tok):keyIs (.inr x) (.str x t)=true:=by simp [keyIs,Value.isStrOf]
theorem key_ll (a b:Int):decide ((Sum.inl a:Key)=Sum.inl b)=(a == b):=by
 by_cases e:a=b
 ·subst e;simp
 ·have h:¬(Sum.inl a:Key)=Sum.inl b:=λq=>e (Sum.inl.inj q)
  rw [decide_eq_false h]
  exact (beq_eq_false_iff_ne.mpr e).symm
theorem key_rr (a b:Str):decide ((Sum.inr a:Key)=Sum.inr b)=decide (a=b):=by
 by_cases e:a=b
 ·subst e;simp
 ·have h:¬(Sum.inr a:Key)=Sum.inr b:=λq=>e (Sum.inr.inj q)
  rw [decide_eq_false h,decide_eq_false e]
theorem key_lr (a:Int) (b:Str):decide ((Sum.inl a:Key)=Sum.inr b)=false:=decide_eq_false (λq=>nomatch q)
theorem key_rl (a:Str) (b:Int):decide ((Sum.inr a:Key)=Sum.inl b)=false:=decide_eq_false (λq=>nomatch q)
def mixKind (prog:Program) (w:World):PySem.KeyKind prog w Key where
 is:=keyIs
 hash:=keyH w
 inj:=λv a b ha hb=>by
  rcases keyIs_shape ha with ⟨i,t,rfl,rfl⟩ | ⟨x,t,rfl,rfl⟩
  ·rcases keyIs_shape hb with ⟨j,u,rfl,e⟩ | ⟨y,u,rfl,e⟩
   ·injection e with e1 _;rw [e1]
   ·exact nomatch e
  ·rcases keyIs_shape hb with ⟨j,u,rfl,e⟩ | ⟨y,u,rfl,e⟩
   ·exact nomatch e
   ·injection e with e1 _;rw [e1]
 byValue:=λk v h=>by
  rcases keyIs_shape h with ⟨i,t,rfl,rfl⟩ | ⟨x,t,rfl,rfl⟩ <;> rfl
 pyHash:=λhv h=>by
  rcases keyIs_shape hv with ⟨i,t,rfl,rfl⟩ | ⟨x,t,rfl,rfl⟩
  ·exact wpAny_pyHash_int h
  ·exact wpAny_pyHash_str h
 eqBool:=λhu hv h=>by
  rcases keyIs_shape hu with ⟨i,t,rfl,rfl⟩ | ⟨x,t,rfl,rfl⟩
  ·rcases keyIs_shape hv with ⟨j,u,rfl,rfl⟩ | ⟨y,u,rfl,rfl⟩
   ·rw [key_ll] at h;exact wpAny_eqBool_int h
   ·rw [key_lr] at h;exact SeqAt.EqAt.int_str i t y u _ _ _ _ h
  ·rcases keyIs_shape hv with ⟨j,u,rfl,rfl⟩ | ⟨y,u,rfl,rfl⟩
   ·rw [key_rl] at h;exact SeqAt.EqAt.str_int x t j u _ _ _ _ h
   ·rw [key_rr] at h;exact wpAny_eqBool_str h
 «strs»:=λk x t v h=>by
  rcases keyIs_shape h with ⟨i,u,rfl,e⟩ | ⟨y,u,rfl,e⟩
  ·exact nomatch e
  ·injection e with e1 _
   subst e1
   cases v <;> rfl
theorem mixKind_is (prog:Program) (w:World) (k:Key) (v:Value):(mixKind prog w).is k v=keyIs k v:=rfl
theorem mixKind_int (prog:Program) (w:World) (i:Int) (t:Tok):(mixKind prog w).is (.inl i) (.int i t)=true:=keyIs_int i t
theorem mixKind_str (prog:Program) (w:World) (x:Str) (t:Tok):(mixKind prog w).is (.inr x) (.str x t)=true:=keyIs_str x t
end L2
namespace L2
open PySem PySem.Spec PyProof.Rows
inductive V where
 | non | bl (b:Bool) | int (i:Int) | str (x:Str) | byt (b:Array UInt8) | flt (b:UInt64) | ref (a:Addr) | ty (n:String)
 deriving DecidableEq
def RelV:V->Value->Prop
 | .non,u=>u=Value.none
 | .bl b,u=>u=Value.bool b
 | .int i,u=>∃t,u=Value.int i t
 | .str x,u=>∃t,u=Value.str x t
 | .byt b,u=>∃t,u=Value.bytes b t
 | .flt b,u=>∃t,u=Value.float b t
 | .ref a,u=>u=Value.ref a
 | .ty n,u=>u=Value.type n
abbrev Vals:List V->List Value->Prop:=Paired RelV
theorem Vals.length {xs:List V} {us:List Value} (r:Vals xs us):xs.length=us.length:=Paired.length r
theorem Vals.get:∀{xs:List V} {us:List Value} {i:Nat} {x:V},Vals xs us->xs[i]? = some x->∃u,us[i]? = some u/\RelV x u
 | _,_,_,_,.nil,e=>by simp at e
 | _,_,0,_,.cons r _,e=>by simp at e;subst e;exact ⟨_,rfl,r⟩
 | _,_,i+1,x,.cons _ t,e=>by
  obtain ⟨u,h1,h2⟩:=Vals.get (i:=i) (x:=x) t (by simpa using e)
  exact ⟨u,by simpa using h1,h2⟩
theorem Vals.set {x:V} {u:Value} (r:RelV x u):∀{xs:List V} {us:List Value} (i:Nat),Vals xs us->Vals (xs.set i x) (us.set i u)
 | _,_,_,.nil=>.nil
 | _,_,0,.cons _ t=>.cons r t
 | _,_,i+1,.cons q t=>.cons q (Vals.set r i t)
theorem Vals.append:∀{xs ys:List V} {us ws:List Value},Vals xs us->Vals ys ws->Vals (xs++ys) (us++ws)
 | _,_,_,_,.nil,s=>s
 | _,_,_,_,.cons r t,s=>.cons r (Vals.append t s)
theorem Vals.take:∀{xs:List V} {us:List Value} (n:Nat),Vals xs us->Vals (xs.take n) (us.take n)
 | _,_,0,_=>.nil
 | _,_,_+1,.nil=>.nil
 | _,_,n+1,.cons r t=>.cons r (Vals.take n t)
theorem Vals.drop:∀{xs:List V} {us:List Value} (n:Nat),Vals xs us->Vals (xs.drop n) (us.drop n)
 | _,_,0,r=>r
 | _,_,_+1,.nil=>.nil
 | _,_,n+1,.cons _ t=>Vals.drop n t
theorem Vals.none_of:∀{xs:List V} {us:List Value} {i:Nat},Vals xs us->xs[i]? = none->us[i]? = none:=λ{xs us i} r e=>by
 have h1:=r.length
 have h2:xs.length<=i:=List.getElem?_eq_none_iff.mp e
 exact List.getElem?_eq_none_iff.mpr (by omega)
def RelO:Option V->Option Value->Prop
 | some v,some u=>RelV v u
 | none,none=>True
 | _,_=>False
def KV {κ:Type}:List (κ × V)->List (κ × Value)->Prop:=Paired λ(p:κ × V) (q:κ × Value)=>p.1=q.1/\RelV p.2 q.2
def kV:Key->V
 | .inl i=>.int i
 | .inr x=>.str x
inductive HO where
 | lst (xs:List V)
 | tup (xs:List V)
 | dK (kvs:List (Key × V)) | dT (kvs:List (List Key × V))
 | set (S:Int->Bool) (n:Nat)
 | ins (C dx:Addr) (fs:List (Str × V))
 | own (x:Addr)
 | xd (fs:List (Str × V))
 | met (f x:Addr)
 | rng (lo hi:Int)
 | frz (o:Obj) (u:HO)
 | tbl (ps:Array Value)
 | ext (φ:Heap->Prop)
abbrev Hp:=Addr->Option HO
def upd (H:Hp) (a:Addr) (o:HO):Hp:=λb=>if b=a then some o else H b
theorem upd_same {H:Hp} {a:Addr} {o:HO}:upd H a o a=some o:=by unfold upd;rw [if_pos rfl]
theorem upd_ne {H:Hp} {a b:Addr} {o:HO} (h:b≠a):upd H a o b=H b:=by unfold upd;rw [if_neg h]
theorem ne_of {H:Hp} {a b:Addr} {o u:HO} (h:H a=some o) (h':H b=some u) (d:o≠u):a≠b:=by
 intro e;subst e;rw [h] at h';exact d (Option.some.inj h')
theorem ne_of_none {H:Hp} {a b:Addr} {o:HO} (h:H a=some o) (h':H b=none):a≠b:=by
 intro e;subst e;rw [h] at h';cases h'
section
variable (P:Program) (w:World)
def ObjOk (H:Hp) (h:Heap) (a:Addr):HO->Prop
 | .lst xs=>xs.length<=sizeLine/\∃(its:List Value) (n:Nat),Vals xs its/\h.get? a=some { cls:=.type "list",data:=.seq its.toArray n }
 | .tup xs=>xs.length<=sizeLine/\∃its:List Value,Vals xs its/\IsTup h a its.toArray
 | .dK kvs=>kvs.length<=sizeLine/\(a == sysModules)=false/\∃vs,KV kvs vs/\h.DictOf (mixKind P w) a vs
 | .dT kvs=>kvs.length<=sizeLine/\(a == sysModules)=false/\∃xs:List (List Key × Addr × Value),
   Paired (λ(p:List Key × V) (q:List Key × Addr × Value)=>p.1=q.1/\H q.2.1=some (.tup (p.1.map kV))/\RelV p.2 q.2.2) kvs xs /\
   ∃o es ep,h.get? a=some o/\o.ExactDict/\o.data=.dict es ep/\es.toList=xs.map (entryOfKey (tupleKind (mixKind P w)))/\(xs.map (·.1)).Nodup
 | .set S n=>h.SetOf (intKind P w) a S n
 | .ins C dx fs=>H dx=some (.own a)/\fs.length<=1000/\dx≠a/\h.get? a=some (PySem.W.instObj C dx) /\
   ∃mA,h.Ns1 dx mA/\(∀f,RelO (fs.lookup f) (mA f))/\PySem.Within mA (fs.map (·.1))
 | .own _=>∃o,h.get? a=some o
 | .xd fs=>∃mA,h.Ns1 a mA/\∀f,RelO (fs.lookup f) (mA f)
 | .rng lo hi=>∃t u v,h.get? a=some { cls:=.type "range",data:=.fields #[.int lo t,.int hi u,.int 1 v] }
 | .frz o u=>h.get? a=some o/\ObjOk H h a u
 | .tbl ps=>∃ts:Array Value,h.get? a=some { cls:=.none,data:=.fields ts }/\(ts = #[]\/∃(b:Addr) (oc:Obj) (u:HO) (vs:Array Value) (t:Tok) (q:Str) (t':Tok),ts = #[ps.getD 0 .none,ps.getD 1 .none,.ref b]/\H b=some (.frz oc u)/\oc.data=.fields vs/\ps.getD 2 .none=.str q t'/\vs[1]? = some (.str q t))
 | .met f x=>h.get? a=some (PySem.W.methodObj (.ref f) (.ref x))
 | .ext φ=>φ h/\(∃o,h.get? a=some o)/\∀h1 h2:Heap,φ h1->(∀o,h1.get? a=some o->h2.get? a=some o)->φ h2
def HOk (H:Hp) (h:Heap):Prop:=∀a o,H a=some o->ObjOk P w H h a o
end
section
variable {P:Program} {w:World} {H H':Hp} {h h':Heap} {a:Addr} {o:HO}
theorem ObjOk.lt (x:ObjOk P w H h a o):a<h.objs.size:=by
 cases o with
 | lst xs=>obtain ⟨_,_,_,_,e⟩:=x;exact Heap.lt_size e
 | tup xs=>obtain ⟨_,_,_,p⟩:=x;exact p.lt
 | dK kvs=>obtain ⟨_,_,_,_,o,_,_,e,_⟩:=x;exact Heap.lt_size e
 | dT kvs=>obtain ⟨_,_,_,_,o,_,_,e,_⟩:=x;exact Heap.lt_size e
 | set S n=>obtain ⟨o,_,_,_,e,_⟩:=x;exact Heap.lt_size e
 | ins C dx fs=>obtain ⟨_,_,_,e,_⟩:=x;exact Heap.lt_size e
 | own y=>obtain ⟨_,e⟩:=x;exact Heap.lt_size e
 | xd fs=>obtain ⟨_,⟨_,_,_,e,_⟩,_⟩:=x;exact Heap.lt_size e
 | rng lo hi=>obtain ⟨_,_,_,e⟩:=x;exact Heap.lt_size e
 | frz ob u=>obtain ⟨e,_⟩:=x;exact Heap.lt_size e
 | tbl ps=>obtain ⟨_,e,_⟩:=x;exact Heap.lt_size e
 | met f y=>exact Heap.lt_size (show h.get? a=some _ from x)
 | ext φ=>obtain ⟨_,⟨_,e⟩,_⟩:=x;exact Heap.lt_size e
theorem Paired.mapP {α β:Type} {F G:α->β->Prop}:∀{l₁:List α} {l₂:List β},Paired F l₁ l₂->(∀a b,F a b->G a b)->Paired G l₁ l₂
 | _,_,.nil,_=>.nil
 | _,_,.cons r t,f=>.cons (f _ _ r) (Paired.mapP t f)
theorem ObjOk.stay (x:ObjOk P w H h a o) (k:∀b u,(b=a\/H b=some (.own a))->h.get? b=some u->h'.get? b=some u)
  (ho:∀b,H b=some (.own a)->H' b=some (.own a)) (ht:∀b xs,H b=some (.tup xs)->H' b=some (.tup xs)) (hf:∀b u v vs,H b=some (.frz u v)->u.data=.fields vs->H' b=some (.frz u v):=by exact λ_ _ _ _ q _=>q):ObjOk P w H' h' a o:=by
 induction o with
 | lst xs=>obtain ⟨z,its,n,r,e⟩:=x;exact ⟨z,its,n,r,k _ _ (.inl rfl) e⟩
 | tup xs=>obtain ⟨z,its,r,ob,e,c⟩:=x;exact ⟨z,its,r,ob,k _ _ (.inl rfl) e,c⟩
 | dK kvs=>obtain ⟨z,y,vs,r,ob,es,ep,e,c⟩:=x;exact ⟨z,y,vs,r,ob,es,ep,k _ _ (.inl rfl) e,c⟩
 | dT kvs =>
  obtain ⟨z,y,xs,r,ob,es,ep,e,c⟩:=x
  exact ⟨z,y,xs,Paired.mapP r λp q z=>⟨z.1,ht _ _ z.2.1,z.2.2⟩,ob,es,ep,k _ _ (.inl rfl) e,c⟩
 | set S n=>obtain ⟨ob,es,ep,t,e,c⟩:=x;exact ⟨ob,es,ep,t,k _ _ (.inl rfl) e,c⟩
 | ins C dx fs =>
  obtain ⟨d,z,ne,e,mA,⟨od,es,ep,e2,c⟩,r⟩:=x
  exact ⟨ho _ d,z,ne,k _ _ (.inl rfl) e,mA,⟨od,es,ep,k _ _ (.inr d) e2,c⟩,r⟩
 | own y=>obtain ⟨ob,e⟩:=x;exact ⟨ob,k _ _ (.inl rfl) e⟩
 | xd fs=>obtain ⟨mA,⟨od,es,ep,e,c⟩,r⟩:=x;exact ⟨mA,⟨od,es,ep,k _ _ (.inl rfl) e,c⟩,r⟩
 | rng lo hi=>obtain ⟨t,u,v,e⟩:=x;exact ⟨t,u,v,k _ _ (.inl rfl) e⟩
 | frz ob u ih=>obtain ⟨e,q⟩:=x;exact ⟨k _ _ (.inl rfl) e,ih q⟩
 | tbl ps =>
  obtain ⟨ts,e,r⟩:=x
  exact ⟨ts,k _ _ (.inl rfl) e,r.imp id λ⟨b,oc,u,vs,t,q,t',z1,z2,z3⟩=>⟨b,oc,u,vs,t,q,t',z1,hf _ _ _ _ z2 z3.1,z3⟩⟩
 | met f y =>
  have e:h.get? a=some (PySem.W.methodObj (.ref f) (.ref y)):=x
  show h'.get? a=some (PySem.W.methodObj (.ref f) (.ref y))
  exact k a _ (.inl rfl) e
 | ext φ=>obtain ⟨p,⟨o,e⟩,st⟩:=x;exact ⟨st _ _ p λo q=>k _ _ (.inl rfl) q,⟨o,k _ _ (.inl rfl) e⟩,st⟩
theorem HOk.lt (x:HOk P w H h) (e:H a=some o):a<h.objs.size:=(x a o e).lt
theorem HOk.fresh (x:HOk P w H h) (e:h.objs.size<=a):H a=none:=by
 cases q:H a with
 | none=>rfl
 | some u=>exact absurd (Nat.lt_of_lt_of_le (x.lt q) e) (Nat.lt_irrefl _)
theorem HOk.kept (x:HOk P w H h) (k:∀b u,h.get? b=some u->h'.get? b=some u):HOk P w H h':=λa o e =>
 (x a o e).stay (λb u _ q=>k b u q) (λ_ q=>q) λ_ _ q=>q
theorem HOk.laid (x:HOk P w H h) (k:∀b u,h.get? b=some u->h'.get? b=some u) (hp:h.objs.size<=a) (new:ObjOk P w (upd H a o) h' a o):HOk P w (upd H a o) h':=λb u e=>by
 have hn:=x.fresh hp
 by_cases hb:b=a
 ·subst hb;rw [upd_same] at e;cases e;exact new
 ·rw [upd_ne hb] at e
  exact (x b u e).stay (λc v _ q=>k c v q) (λc q=>by rw [upd_ne (ne_of_none q hn)];exact q) (λc xs q=>by rw [upd_ne (ne_of_none q hn)];exact q) λc _ _ _ q _=>by rw [upd_ne (ne_of_none q hn)];exact q
end
def Rd (H:Hp) (a:Addr) (u:HO):Prop:=H a=some u\/∃o,H a=some (.frz o u)
theorem Rd.of {H:Hp} {a:Addr} {u:HO} (h:H a=some u):Rd H a u:=.inl h
theorem Rd.ok {P:Program} {w:World} {H:Hp} {h:Heap} {a:Addr} {u:HO} (r:Rd H a u) (x:HOk P w H h):ObjOk P w H h a u:=by
 rcases r with r | ⟨o,r⟩
 ·exact x a u r
 ·obtain ⟨_,q⟩:=x a _ r
  exact q
def Mut:Option HO->Prop
 | some (.lst _)=>True
 | some (.dK _)=>True
 | some (.dT _)=>True
 | some (.set _ _)=>True
 | some (.ins _ _ _)=>True
 | some (.ext _)=>True
 | _=>False
section
variable {P:Program} {w:World} {H:Hp} {h h':Heap} {x e:Addr} {o':HO}
theorem HOk.write (ok:HOk P w H h) (mu:Mut (H x)) (he:e=x\/H e=some (.own x)) (k:∀b u,b≠e->h.get? b=some u->h'.get? b=some u) (heo:∃u,h'.get? e=some u)
  (new:ObjOk P w (upd H x o') h' x o'):HOk P w (upd H x o') h':=λb u q=>by
 have nown:∀c y,H c=some (.own y)->c≠x:=λc y r z=>by subst z;rw [r] at mu;exact mu
 have ntup:∀c xs,H c=some (.tup xs)->c≠x:=λc xs r z=>by subst z;rw [r] at mu;exact mu
 have nfrz:∀c o v,H c=some (.frz o v)->c≠x:=λc o v r z=>by subst z;rw [r] at mu;exact mu
 by_cases hb:b=x
 ·subst hb;rw [upd_same] at q;cases q;exact new
 ·rw [upd_ne hb] at q
  by_cases hbe:b=e
  ·have q':H b=some (.own x):=by
    rcases he with z | z
    ·exact absurd (hbe.trans z) hb
    ·rw [hbe];exact z
   rw [q] at q';cases q'
   obtain ⟨v,hv⟩:=heo
   exact ⟨v,by rw [hbe];exact hv⟩
  ·refine (ok b u q).stay (λc v hc r=>k c v ?_ r) (λc r=>by rw [upd_ne (nown c b r)];exact r) (λc xs r=>by rw [upd_ne (ntup c xs r)];exact r) λc o v _ r _=>by rw [upd_ne (nfrz c o v r)];exact r
   rcases hc with rfl | hc
   ·exact hbe
   ·rintro rfl
    rcases he with z | z
    ·exact nown c b hc z
    ·rw [hc] at z;cases z;exact hb rfl
end
structure Un (fs ex:List Addr) (H H':Hp) (h h':Heap):Prop where
 keep:∀b o,h.get? b=some o->H b=none->b∉fs->b∉ex->h'.get? b=some o
 slot:∀b o,h.get? b=some o->H b=none->b∈fs->b∉ex->∃sl,h'.get? b=some { o with slots:=sl }
 free:∀b o,h.get? b=some o->H b=none->b∉ex->H' b=none
 there:∀b o,h.get? b=some o->b∉ex->∃o',h'.get? b=some o'
 tups:∀b xs,H b=some (.tup xs)->H' b=some (.tup xs)
 frzs:∀b o u,H b=some (.frz o u)->H' b=some (.frz o u)
 tbls:∀b ps,H b=some (.tbl ps)->∃more,H' b=some (.tbl (ps++more))
section
variable {fs fs' ex ex':List Addr} {H H1 H2:Hp} {h h1 h2 h':Heap} {a x e:Addr} {o:HO}
theorem Un.any (u:Un fs ex H H1 h h1) {b:Addr} {ob:Obj} (q:h.get? b=some ob) (n:H b=none) (hx:b∉ex):∃sl,h1.get? b=some { ob with slots:=sl }:=by
 by_cases hb:b∈fs
 ·exact u.slot b ob q n hb hx
 ·exact ⟨ob.slots,u.keep b ob q n hb hx⟩
theorem Un.trans (a:Un fs ex H H1 h h1) (b:Un fs ex H1 H2 h1 h2):Un fs ex H H2 h h2 where
 keep:=λc ob q n hc hx=>b.keep c ob (a.keep c ob q n hc hx) (a.free c ob q n hx) hc hx
 slot:=λc ob q n hc hx=>by
  obtain ⟨sl,e1⟩:=a.slot c ob q n hc hx
  obtain ⟨sl',e2⟩:=b.slot c _ e1 (a.free c ob q n hx) hc hx
  exact ⟨sl',e2⟩
 free:=λc ob q n hx=>by
  obtain ⟨o',e1⟩:=a.there c ob q hx
  exact b.free c o' e1 (a.free c ob q n hx) hx
 there:=λc ob q hx=>by
  obtain ⟨o',e1⟩:=a.there c ob q hx
  exact b.there c o' e1 hx
 tups:=λc xs q=>b.tups c xs (a.tups c xs q)
 frzs:=λc ob xs q=>b.frzs c ob xs (a.frzs c ob xs q)
 tbls:=λc ps q=>by
  obtain ⟨m1,e1⟩:=a.tbls c ps q
  obtain ⟨m2,e2⟩:=b.tbls c _ e1
  exact ⟨m1++m2,by rw [e2,Array.append_assoc]⟩
theorem Un.kept (k:∀b u,h.get? b=some u->h'.get? b=some u):Un fs ex H H h h' :=
 ⟨λb ob q _ _ _=>k b ob q,λb ob q _ _ _=>⟨ob.slots,k b ob q⟩,λ_ _ _ n _=>n,λb ob q _=>⟨ob,k b ob q⟩,λ_ _ q=>q,λ_ _ _ q=>q,λ_ ps q=>⟨#[],by rw [q];simp⟩⟩
theorem Un.refl:Un fs ex H H h h:=Un.kept λ_ _ q=>q
theorem Un.laid (k:∀b u,h.get? b=some u->h'.get? b=some u) (hp:h.objs.size<=a) (hn:H a=none):Un fs ex H (upd H a o) h h' where
 keep:=λb u q _ _ _=>k b u q
 slot:=λb u q _ _ _=>⟨u.slots,k b u q⟩
 free:=λb u q n _=>by rw [upd_ne (Nat.ne_of_lt (Nat.lt_of_lt_of_le (Heap.lt_size q) hp))];exact n
 there:=λb u q _=>⟨u,k b u q⟩
 tups:=λb xs q=>by rw [upd_ne (ne_of_none q hn)];exact q
 frzs:=λb u xs q=>by rw [upd_ne (ne_of_none q hn)];exact q
 tbls:=λb ps q=>⟨#[],by rw [upd_ne (ne_of_none q hn),q];simp⟩
theorem Un.write (mu:Mut (H x)) (he:e=x\/H e=some (.own x)) (k:∀b u,b≠e->h.get? b=some u->h'.get? b=some u) (heo:∃u,h'.get? e=some u):Un fs ex H (upd H x o) h h':=by
 have hx:∀b,H b=none->b≠x:=λb n z=>by subst z;rw [n] at mu;exact mu
 have hb:∀b,H b=none->b≠e:=λb n z=>by
  subst z
  rcases he with r | r
  ·exact hx b n r
  ·rw [n] at r;cases r
 have hm:∀b u,H b=some u->¬Mut (some u)->b≠x:=λb u q nm z=>by subst z;rw [q] at mu;exact nm mu
 refine ⟨λb u q n _ _=>k b u (hb b n) q,λb u q n _ _=>⟨u.slots,k b u (hb b n) q⟩,λb u q n _=>by rw [upd_ne (hx b n)];exact n,λb u q _=>?_,
  λb xs q=>by rw [upd_ne (hm b _ q λz=>z)];exact q,λb u xs q=>by rw [upd_ne (hm b _ q λz=>z)];exact q,λb ps q=>⟨#[],by rw [upd_ne (hm b _ q λz=>z),q];simp⟩⟩
 by_cases hbe:b=e
 ·subst hbe;exact heo
 ·exact ⟨u,k b u hbe q⟩
theorem Un.mono (u:Un fs ex H H1 h h1) (hs:∀b∈fs,b∈fs') (hx:∀b∈ex,b∈ex'):Un fs' ex' H H1 h h1 :=
 ⟨λb ob q n hb he=>u.keep b ob q n (λz=>hb (hs b z)) λz=>he (hx b z),λ_ _ q n _ he=>u.any q n λz=>he (hx _ z),λb ob q n he=>u.free b ob q n λz=>he (hx b z),λb ob q he=>u.there b ob q λz=>he (hx b z),u.tups,u.frzs,u.tbls⟩
end
def trk (h:Heap) (H:Hp):List Addr:=(List.range h.objs.size).filter λa=>(H a).isSome
def hidT (h:Heap) (H:Hp):Heap:=PySem.W.hideAll h (trk h H)
theorem hidT_size (h:Heap) (H:Hp):(hidT h H).objs.size=h.objs.size:=PySem.W.hideAll_size _ _
theorem hidT_get {h:Heap} {H:Hp} {b:Addr} {o:Obj} (e:h.get? b=some o) (n:H b=none):(hidT h H).get? b=some o :=
 PySem.W.hideAll_get _ e λhm=>by
  have q:(H b).isSome=true:=(List.mem_filter.mp hm).2
  rw [n] at q;simp at q
theorem of_hidT {h:Heap} {H:Hp} {b:Addr} {o:Obj} (e:(hidT h H).get? b=some o):h.get? b=some o/\H b=none:=by
 have e':h.get? b=some o:=PySem.W.of_hideAll (trk h H) e
 refine ⟨e',?_⟩
 cases q:H b with
 | none=>rfl
 | some x =>
  have hm:b∈trk h H:=List.mem_filter.mpr ⟨List.mem_range.mpr (Heap.lt_size e'),by simp [q]⟩
  have z:(hidT h H).get? b=none:=PySem.W.hideAll_none (trk h H) hm
  rw [z] at e;cases e
def allNews (g h:Heap) (L:Addr):List (Addr × Obj):=(List.range h.objs.size).filterMap λa=>if a=L\/(g.get? a).isSome=true then none else (h.get? a).map λo=>(a,o)
def rest (g h:Heap) (L d:Addr):List (Addr × Obj):=(allNews g h L).filter λp=>decide (p.1≠d)
end L2
namespace L2
open PySem PySem.Spec PyProof.Rows
structure Mod (K:PySem.W.Frag) (mg:Str->Option Value) (base:Heap):Prop where
 kin:K.In base
 glob:base.Ns mainGlobals mg
 blt:∃mb,base.Ns builtinsNs mb/\∀x:Str,x ≠ "__name__" -> mb x=bootBuiltins x
 nolimit:base.NoLimit
structure Cx where
 prog:Program
 w:World
 K:PySem.W.Frag
 mg:Str->Option Value
 base:Heap
 A:Around
 N:List Str
 s₀:Shared
 H₀:Hp
 env:Env
 outer:List Env
 stack:List Env
 ex:List Addr
 fn:Str->Bool
 calm:Bool
 pn:List (Addr × Obj)
 xe:Value->Shared->Prop
def frs (l:List Env):List Addr:=l.filterMap (·.frame)
abbrev Cx.fs (X:Cx):List Addr:=frs X.outer
def Vis (sc:Scope) (x:Str):Prop:=sc.names.lookup x=some .local\/sc.names.lookup x=some .cell\/sc.names.lookup x=some .free
def Loc (sc:Scope) (x:Str):Prop:=sc.names.lookup x=some .local\/sc.names.lookup x=some .cell
def Look (env:Env) (h:Heap) (m:Str->Option Value) (x:Str) (u:Value):Prop :=
 (env.kindOf x=some .local/\m x=some u)\/((env.kindOf x=some .cell\/env.kindOf x=some .free)/\∃c,env.cells.lookup x=some c/\h.IsCell c (some u))
structure Cx.Ok (X:Cx):Prop where
 mod:Mod X.K X.mg X.base
 kind:X.env.scope.kind=.function
 glob:X.env.globals=mainGlobals
 blt:X.env.builtins=builtinsNs
 above:X.s₀.heap.objs.size<=X.env.locals
 inj:∀x y c,X.env.cells.lookup x=some c->X.env.cells.lookup y=some c->x=y
 has:∀x,(X.env.kindOf x=some .cell\/X.env.kindOf x=some .free)->∃c,X.env.cells.lookup x=some c
 cab:∀x c,X.fn x=true->X.env.cells.lookup x=some c->X.s₀.heap.objs.size<=c
 hd:X.calm=true->X.A.handled=none
 frames:X.A.frames=some X.stack
 stk:X.stack=X.outer\/(X.stack=X.env::X.outer/\X.env.frame=some X.env.locals)
 exf:∀b∈X.ex,b≠X.env.locals/\∀x c,X.env.cells.lookup x=some c->c≠b
 bs:∀b o,X.base.get? b=some o->X.s₀.heap.get? b=some o/\X.H₀ b=none
 bsz:X.base.objs.size<=X.s₀.heap.objs.size
 noex:∀b o,X.base.get? b=some o->b∉X.ex
 exfs:∀b∈X.ex,b∉X.fs
 funs:X.s₀.heap.FunFrames X.base X.outer
 frf:∀b∈X.fs,X.H₀ b=none
structure Inv (X:Cx) (pins:List (Addr × Obj)) (σ:List (Option V)) (H:Hp) (s:Shared):Prop where
 ok:X.Ok
 os:s.os=X.s₀.os
 bare:AllBare s.gens
 base:Un X.fs X.ex X.H₀ H X.s₀.heap s.heap
 loc:∃m,s.heap.Ns X.env.locals m/\∀(i:Nat) (x:Str) (v:V),X.N[i]? = some x->σ[i]? = some (some v)->Vis X.env.scope x->∃u,RelV v u/\Look X.env s.heap m x u
 cell:∀x c,X.env.cells.lookup x=some c->∃v,s.heap.IsCell c v
 free:H X.env.locals=none
 freeC:∀x c,X.env.cells.lookup x=some c->H c=none
 pin:∀p∈X.pn++pins,s.heap.get? p.1=some p.2/\H p.1=none/\p.1≠X.env.locals/\p.1∉X.fs/\∀v,p.2.data ≠ .cell v
 hok:HOk X.prog X.w H s.heap
 len:σ.length=X.N.length
section
variable {X:Cx} {pins:List (Addr × Obj)} {σ:List (Option V)} {H H':Hp} {s:Shared} {h':Heap}
theorem Cx.Ok.nofr (ok:X.Ok) {b:Addr} {o:Obj} (e:X.base.get? b=some o):b∉X.fs:=λhb=>by
 have:=(ok.funs.mem hb).1
 rw [e] at this;cases this
theorem Inv.bs (I:Inv X pins σ H s):∀b o,X.base.get? b=some o->s.heap.get? b=some o/\H b=none:=λb o e =>
 ⟨I.base.keep b o (I.ok.bs b o e).1 (I.ok.bs b o e).2 (I.ok.nofr e) (I.ok.noex b o e),I.base.free b o (I.ok.bs b o e).1 (I.ok.bs b o e).2 (I.ok.noex b o e)⟩
theorem Inv.bk (I:Inv X pins σ H s):∀b o,X.base.get? b=some o->s.heap.get? b=some o:=λb o e=>(I.bs b o e).1
theorem Inv.mod (I:Inv X pins σ H s):Mod X.K X.mg X.base:=I.ok.mod
theorem Inv.kIn (I:Inv X pins σ H s):X.K.In s.heap:=I.ok.mod.kin.keeps I.bk
theorem Inv.nolimit (I:Inv X pins σ H s):s.heap.NoLimit:=I.ok.mod.nolimit.keeps I.bk
theorem Inv.fr (I:Inv X pins σ H s):∃m,Fr X.base X.env.locals s.heap m :=
 let ⟨m,hn,_⟩:=I.loc
 ⟨m,hn,I.bk,Nat.le_trans I.ok.bsz I.ok.above⟩
theorem Inv.lt (I:Inv X pins σ H s):X.env.locals<s.heap.objs.size:=let ⟨_,hn,_⟩:=I.loc;hn.lt
theorem Inv.sz (I:Inv X pins σ H s):X.s₀.heap.objs.size<=s.heap.objs.size:=Nat.le_trans I.ok.above (Nat.le_of_lt I.lt)
theorem Inv.nofs (I:Inv X pins σ H s) {a:Addr} (h:s.heap.objs.size<=a):a∉X.fs:=λhb=>by
 obtain ⟨_,o,ho,_⟩:=I.ok.funs.mem hb
 exact absurd (Nat.lt_of_lt_of_le (Heap.lt_size ho) (Nat.le_trans I.sz h)) (Nat.lt_irrefl _)
theorem Inv.cne (I:Inv X pins σ H s):∀x c,X.env.cells.lookup x=some c->c≠X.env.locals:=λx c e z=>by
 obtain ⟨v,o,ho,hd⟩:=I.cell x c e
 obtain ⟨m,⟨o',es,ep,ho',hd',_⟩,_⟩:=I.loc
 rw [z,ho'] at ho;cases ho;rw [hd'] at hd;cases hd
theorem Inv.funs (I:Inv X pins σ H s):s.heap.FunFrames X.base X.outer:=by
 have all:∀(l:List Env),(∀b∈frs l,b∈X.fs)->X.s₀.heap.FunFrames X.base l->s.heap.FunFrames X.base l:=by
  intro l
  induction l with
  | nil=>intro _ _;trivial
  | cons env r ih =>
   intro hs hl
   obtain ⟨hk,⟨L,o,hf,hn,ho,hd⟩,hr⟩:=hl
   have hL:L∈X.fs:=hs L (by unfold frs;rw [List.filterMap_cons,hf];exact List.mem_cons_self)
   obtain ⟨sl,e⟩:=I.base.slot L o ho (I.ok.frf L hL) hL λz=>I.ok.exfs L z hL
   exact ⟨hk,⟨L,_,hf,hn,e,hd⟩,ih (λb hb=>hs b (by unfold frs;rw [List.filterMap_cons,hf];exact List.mem_cons_of_mem _ hb)) hr⟩
 exact all X.outer (λ_ hb=>hb) I.ok.funs
theorem Inv.stack (I:Inv X pins σ H s):s.heap.FunFrames X.base X.stack:=by
 rcases I.ok.stk with e | ⟨e,hf⟩
 ·rw [e];exact I.funs
 ·rw [e]
  obtain ⟨m,hn,_⟩:=I.loc
  refine .cons (by rw [I.ok.kind];decide) hf hn ?_ I.funs
  exact Heap.get?_none_of_le (Nat.le_trans I.ok.bsz I.ok.above)
theorem Inv.stkSub (I:Inv X pins σ H s):∀b∈frs X.stack,b∈X.env.locals::X.fs:=λb hb=>by
 rcases I.ok.stk with e | ⟨e,hf⟩
 ·rw [e] at hb;exact List.mem_cons_of_mem _ hb
 ·rw [e] at hb
  unfold frs at hb
  rw [List.filterMap_cons,hf] at hb
  exact hb
theorem Inv.stkFree (I:Inv X pins σ H s):∀b∈frs X.stack,H b=none:=λb hb=>by
 rcases List.mem_cons.mp (I.stkSub b hb) with e | hb
 ·rw [e];exact I.free
 ·obtain ⟨_,o,ho,_⟩:=I.ok.funs.mem hb
  exact I.base.free b o ho (I.ok.frf b hb) λz=>I.ok.exfs b z hb
theorem Inv.step {g':Array GenState} {t':Nat} {d':Drawn} {ch:List Addr} (I:Inv X pins σ H s)
  (hch:∀b∈ch,(b∈X.ex\/X.s₀.heap.objs.size<=b)/\b≠X.env.locals/\(∀x c,X.env.cells.lookup x=some c->c≠b)/\∀p∈X.pn++pins,p.1≠b)
  (keep:∀b o,b≠X.env.locals->b∉X.fs->b∉ch->s.heap.get? b=some o->H b=none->h'.get? b=some o)
  (slot:∀b o,b≠X.env.locals->b∈X.fs->b∉ch->s.heap.get? b=some o->H b=none->∃sl,h'.get? b=some { o with slots:=sl }) (free:∀b o,b∉ch->s.heap.get? b=some o->H b=none->H' b=none)
  (there:∀b o,b∉ch->s.heap.get? b=some o->∃o',h'.get? b=some o')
  (tups:∀b xs,H b=some (.tup xs)->H' b=some (.tup xs)) (frzs:∀b o u,H b=some (.frz o u)->H' b=some (.frz o u)) (tbls:∀b ps,H b=some (.tbl ps)->∃more,H' b=some (.tbl (ps++more)))
  (ns:∀m,s.heap.Ns X.env.locals m->h'.Ns X.env.locals m) (hok:HOk X.prog X.w H' h') (hg:AllBare g') :
  Inv X pins σ H' { s with heap:=h',gens:=g',drawn:=d',toks:=t' }:=by
 have neL:∀b o,X.s₀.heap.get? b=some o->b≠X.env.locals:=λb o e=>Nat.ne_of_lt (Nat.lt_of_lt_of_le (Heap.lt_size e) I.ok.above)
 have neC:∀b o,X.s₀.heap.get? b=some o->b∉X.ex->b∉ch:=λb o e hx hb=>by
  rcases (hch b hb).1 with z | z
  ·exact hx z
  ·exact absurd (Nat.lt_of_lt_of_le (Heap.lt_size e) z) (Nat.lt_irrefl _)
 have cellK:∀x c,X.env.cells.lookup x=some c->∀v,s.heap.IsCell c v->h'.IsCell c v:=λx c e v ⟨o,ho,hd⟩=>by
  have nch:c∉ch:=λz=>(hch c z).2.2.1 x c e rfl
  by_cases hc:c∈X.fs
  ·obtain ⟨sl,q⟩:=slot c o (I.cne x c e) hc nch ho (I.freeC x c e)
   exact ⟨_,q,hd⟩
  ·exact ⟨o,keep c o (I.cne x c e) hc nch ho (I.freeC x c e),hd⟩
 refine ⟨I.ok,I.os,hg,⟨λb o e n hb hx=>?_,λb o e n hb hx=>?_,λb o e n hx=>?_,λb o e hx=>?_,λb xs e=>tups b xs (I.base.tups b xs e),λb o xs e=>frzs b o xs (I.base.frzs b o xs e),λb ps e=>?_⟩,?_,λx c e=>?_,?_,λx c e=>?_,λp hp=>?_,hok,I.len⟩
 ·exact keep b o (neL b o e) hb (neC b o e hx) (I.base.keep b o e n hb hx) (I.base.free b o e n hx)
 ·obtain ⟨sl,e1⟩:=I.base.slot b o e n hb hx
  obtain ⟨sl',e2⟩:=slot b _ (neL b o e) hb (neC b o e hx) e1 (I.base.free b o e n hx)
  exact ⟨sl',e2⟩
 ·obtain ⟨o',e1⟩:=I.base.there b o e hx
  exact free b o' (neC b o e hx) e1 (I.base.free b o e n hx)
 ·obtain ⟨o',e1⟩:=I.base.there b o e hx
  exact there b o' (neC b o e hx) e1
 ·obtain ⟨m1,e1⟩:=I.base.tbls b ps e
  obtain ⟨m2,e2⟩:=tbls b _ e1
  exact ⟨m1++m2,by rw [e2,Array.append_assoc]⟩
 ·obtain ⟨m,hn,hl⟩:=I.loc
  refine ⟨m,ns m hn,λi x v e1 e2 e3=>?_⟩
  obtain ⟨u,r,l⟩:=hl i x v e1 e2 e3
  refine ⟨u,r,?_⟩
  rcases l with l | ⟨k,c,e,z⟩
  ·exact .inl l
  ·exact .inr ⟨k,c,e,cellK x c e _ z⟩
 ·obtain ⟨v,z⟩:=I.cell x c e
  exact ⟨v,cellK x c e v z⟩
 ·obtain ⟨m,⟨o,_,_,ho,_⟩,_⟩:=I.loc
  exact free _ o (λz=>(hch _ z).2.1 rfl) ho I.free
 ·obtain ⟨v,o,ho,hd⟩:=I.cell x c e
  exact free c o (λz=>(hch c z).2.2.1 x c e rfl) ho (I.freeC x c e)
 ·obtain ⟨e,n,ne,nf,d⟩:=I.pin p hp
  have nch:p.1∉ch:=λz=>(hch p.1 z).2.2.2 p hp rfl
  exact ⟨keep p.1 p.2 ne nf nch e n,free p.1 p.2 nch e n,ne,nf,d⟩
theorem Inv.un {t':Nat} (I:Inv X pins σ H s) (u:Un X.fs [] H H' s.heap h') (hok:HOk X.prog X.w H' h'):Inv X pins σ H' { s with heap:=h',toks:=t' }:=by
 obtain ⟨m,⟨o,es,ep,ho,r⟩,_⟩:=id I.loc
 obtain ⟨sl,hL⟩:=u.any ho I.free (by simp)
 exact I.step (g':=s.gens) (d':=s.drawn) (ch:=[]) (λ_ z=>nomatch z) (λb o _ hb _ e n=>u.keep b o e n hb (by simp)) (λb o _ hb _ e n=>u.slot b o e n hb (by simp)) (λb o _ e n=>u.free b o e n (by simp)) (λb o _ e=>u.there b o e (by simp)) u.tups u.frzs u.tbls (λm' hm=>by
  obtain ⟨o',es',ep',ho',r'⟩:=hm
  rw [ho] at ho';cases ho'
  exact ⟨_,es',ep',hL,r'⟩) hok I.bare
theorem Inv.call {g':Array GenState} {t':Nat} {d':Drawn} {ch:List Addr} (I:Inv X pins σ H s) (u:Un (frs X.stack) ch H H' s.heap h') (hok:HOk X.prog X.w H' h') (hg:AllBare g')
  (hch:∀b∈ch,(b∈X.ex\/X.s₀.heap.objs.size<=b)/\b≠X.env.locals/\(∀x c,X.env.cells.lookup x=some c->c≠b)/\∀p∈X.pn++pins,p.1≠b) :
  Inv X pins σ H' { s with heap:=h',gens:=g',drawn:=d',toks:=t' }:=by
 obtain ⟨m,⟨o,es,ep,ho,r⟩,_⟩:=id I.loc
 obtain ⟨sl,hL⟩:=u.any ho I.free λz=>(hch _ z).2.1 rfl
 exact I.step (ch:=ch) hch (λb o hL hb hc e n=>u.keep b o e n (λz=>(List.mem_cons.mp (I.stkSub b z)).elim hL hb) hc) (λb o _ _ hc e n=>u.any e n hc) (λb o hc e n=>u.free b o e n hc) (λb o hc e=>u.there b o e hc) u.tups u.frzs u.tbls (λm' hm=>by
  obtain ⟨o',es',ep',ho',r'⟩:=hm
  rw [ho] at ho';cases ho'
  exact ⟨_,es',ep',hL,r'⟩) hok hg
theorem Inv.turned {t':Nat} {it:Addr} (I:Inv X pins σ H s) (k:∀b o,b≠it->s.heap.get? b=some o->h'.get? b=some o) (hn:H it=none) (hL:it≠X.env.locals)
  (h1:it∈X.ex\/X.s₀.heap.objs.size<=it) (h2:∀x c,X.env.cells.lookup x=some c->c≠it) (h3:∀p∈X.pn++pins,p.1≠it):Inv X pins σ H { s with heap:=h',toks:=t' }:=by
 have nit:∀b u,H b=some u->b≠it:=λb u e z=>by rw [z,hn] at e;cases e
 refine I.step (g':=s.gens) (d':=s.drawn) (ch:=[it]) (λb hb=>?_) (λb o _ _ hc e _=>k b o (λz=>hc (by simp [z])) e) (λb o _ _ hc e _=>⟨o.slots,k b o (λz=>hc (by simp [z])) e⟩) (λ_ _ _ _ n=>n)
  (λb o hc e=>⟨o,k b o (λz=>hc (by simp [z])) e⟩) (λ_ _ e=>e) (λ_ _ _ e=>e) (λb ps e=>⟨#[],by rw [e];simp⟩) (λm hm=>?_) (λb u e=>?_) I.bare
 ·have e:b=it:=by simpa using hb
  subst e
  exact ⟨h1,hL,h2,h3⟩
 ·obtain ⟨o,es,ep,ho,r⟩:=hm
  exact ⟨o,es,ep,k _ o (Ne.symm hL) ho,r⟩
 ·refine (I.hok b u e).stay (λc v hc q=>k c v ?_ q) (λ_ q=>q) λ_ _ q=>q
  rcases hc with z | z
  ·rw [z];exact nit b u e
  ·exact nit c _ z
theorem Inv.tok (I:Inv X pins σ H s) (t:Nat):Inv X pins σ H { s with toks:=t }:=I.un (h':=s.heap) (t':=t) Un.refl I.hok
theorem Inv.kept {t':Nat} (I:Inv X pins σ H s) (k:∀b u,s.heap.get? b=some u->h'.get? b=some u):Inv X pins σ H { s with heap:=h',toks:=t' }:=I.un (Un.kept k) (I.hok.kept k)
theorem Inv.laid {a:Addr} {o:HO} {t':Nat} (I:Inv X pins σ H s) (k:∀b u,s.heap.get? b=some u->h'.get? b=some u) (hp:s.heap.objs.size<=a) (new:ObjOk X.prog X.w (upd H a o) h' a o) :
  Inv X pins σ (upd H a o) { s with heap:=h',toks:=t' }:=I.un (Un.laid k hp (I.hok.fresh hp)) (I.hok.laid k hp new)
theorem Inv.write {x e:Addr} {o:HO} {t':Nat} (I:Inv X pins σ H s) (mu:Mut (H x)) (he:e=x\/H e=some (.own x)) (k:∀b u,b≠e->s.heap.get? b=some u->h'.get? b=some u) (heo:∃u,h'.get? e=some u)
  (new:ObjOk X.prog X.w (upd H x o) h' x o):Inv X pins σ (upd H x o) { s with heap:=h',toks:=t' }:=I.un (Un.write mu he k heo) (I.hok.write mu he k heo new)
theorem Inv.pins_of {pins':List (Addr × Obj)} (I:Inv X pins σ H s) (h:∀p∈pins',s.heap.get? p.1=some p.2/\H p.1=none/\p.1≠X.env.locals/\p.1∉X.fs/\∀v,p.2.data ≠ .cell v):Inv X pins' σ H s :=
 ⟨I.ok,I.os,I.bare,I.base,I.loc,I.cell,I.free,I.freeC,λp hp=>(List.mem_append.mp hp).elim (λz=>I.pin p (List.mem_append_left _ z)) (h p),I.hok,I.len⟩
theorem nodup_ix {N:List Str} (hN:N.Nodup) {i j:Nat} {x:Str} (a:N[i]? = some x) (b:N[j]? = some x):i=j:=by
 obtain ⟨h1,e1⟩:=List.getElem?_eq_some_iff.mp a
 obtain ⟨h2,e2⟩:=List.getElem?_eq_some_iff.mp b
 exact (List.getElem_inj hN).mp (e1.trans e2.symm)
theorem store_ok2 {M:Model} {A:Around} {E:Value->Shared->Prop} {i:Nat} {x:Str} {v:V} {u:Value} {Q:Unit->Shared->Prop} (I:Inv X pins σ H s) (hN:X.N.Nodup) (hi:X.N[i]? = some x) (hx:Loc X.env.scope x) (r:RelV v u)
  (h:∀s',Inv X pins (σ.set i (some v)) H s'->(∃a,Heap.SameBut a s.heap s'.heap/\(a=X.env.locals\/X.env.cells.lookup x=some a))->Q () s') (hf:X.fn x=true\/X.env.scope.names.lookup x=some .local:=by first | exact .inl rfl | exact .inr rfl | assumption):wpAny M A (storeName X.env x u) Q E s:=by
 obtain ⟨m,hn,hl⟩:=id I.loc
 have hcls:(X.env.scope.kind == .class || (X.env.scope.kind == .module && X.env.locals != X.env.globals))=false:=by rw [I.ok.kind];rfl
 have hiσ:i<σ.length:=by rw [I.len];exact (List.getElem?_eq_some_iff.mp hi).1
 have cne:=I.cne
 have tracked:∀{a:Addr} {h':Heap},(∃o,s.heap.get? a=some o/\H a=none)->Heap.SameBut a s.heap h'->HOk X.prog X.w H h':=λ{a h'} ha hs b ob e=>by
  obtain ⟨_,_,hfree⟩:=ha
  refine (I.hok b ob e).stay (λc w' hc q=>(hs.2 c ?_).trans q) (λ_ q=>q) λ_ _ q=>q
  rintro rfl
  rcases hc with rfl | hc
  ·rw [hfree] at e;cases e
  ·rw [hfree] at hc;cases hc
 rcases hx with hk | hk
 ·refine wpAny_storeName_local hk hn (λh' hn' hs=>?_) hcls
  obtain ⟨oL,_,_,hoL,_⟩:=id hn
  refine h _ ⟨I.ok,I.os,I.bare,⟨λb o e n hb hx=>?_,λb o e n hb hx=>?_,I.base.free,λb o e hx=>?_,I.base.tups,I.base.frzs,I.base.tbls⟩,⟨_,hn',λj y v' e1 e2 e3=>?_⟩,λy c e=>?_,I.free,I.freeC,λp hp=>?_,tracked ⟨oL,hoL,I.free⟩ hs,by simpa using I.len⟩ ⟨_,hs,.inl rfl⟩
  ·exact (hs.2 b (Nat.ne_of_lt (Nat.lt_of_lt_of_le (Heap.lt_size e) I.ok.above))).trans (I.base.keep b o e n hb hx)
  ·obtain ⟨sl,e1⟩:=I.base.slot b o e n hb hx
   exact ⟨sl,(hs.2 b (Nat.ne_of_lt (Nat.lt_of_lt_of_le (Heap.lt_size e) I.ok.above))).trans e1⟩
  ·obtain ⟨o',e1⟩:=I.base.there b o e hx
   exact ⟨o',(hs.2 b (Nat.ne_of_lt (Nat.lt_of_lt_of_le (Heap.lt_size e) I.ok.above))).trans e1⟩
  ·by_cases hj:j=i
   ·subst hj
    rw [hi] at e1;cases e1
    rw [List.getElem?_set_self hiσ] at e2
    cases e2
    exact ⟨u,r,.inl ⟨hk,by simp⟩⟩
   ·rw [List.getElem?_set_ne (Ne.symm hj)] at e2
    obtain ⟨u',r',q⟩:=hl j y v' e1 e2 e3
    refine ⟨u',r',?_⟩
    rcases q with ⟨k,e⟩ | ⟨k,c,e,z⟩
    ·refine .inl ⟨k,?_⟩
     have:y≠x:=λe=>hj (nodup_ix hN e1 (e ▸ hi))
     simp [this,e]
    ·exact .inr ⟨k,c,e,z.sameBut hs (cne y c e)⟩
  ·obtain ⟨w',z⟩:=I.cell y c e
   exact ⟨w',z.sameBut hs (cne y c e)⟩
  ·obtain ⟨e,n,ne,nf,d⟩:=I.pin p hp
   exact ⟨(hs.2 p.1 ne).trans e,n,ne,nf,d⟩
 ·have hfn:X.fn x=true:=by
   rcases hf with z | z
   ·exact z
   ·rw [z] at hk;cases hk
  obtain ⟨c,hc⟩:=I.ok.has x (.inl hk)
  obtain ⟨w',z⟩:=I.cell x c hc
  refine wpAny_storeName_cell I.ok.kind hk hc z (λh' hc' hs=>?_)
  obtain ⟨oc,hoc,hocd⟩:=id z
  refine h { s with heap:=h' } ⟨I.ok,I.os,I.bare,⟨λb o e n hb hx=>?_,λb o e n hb hx=>?_,I.base.free,λb o e hx=>?_,I.base.tups,I.base.frzs,I.base.tbls⟩,⟨m,hn.sameBut hs (Ne.symm (cne x c hc)),λj y v' e1 e2 e3=>?_⟩,λy c' e=>?_,I.free,I.freeC,λp hp=>?_,tracked ⟨oc,hoc,I.freeC x c hc⟩ hs,by simpa using I.len⟩ ⟨c,hs,.inr hc⟩
  ·exact (hs.2 b (Nat.ne_of_lt (Nat.lt_of_lt_of_le (Heap.lt_size e) (I.ok.cab x c hfn hc)))).trans (I.base.keep b o e n hb hx)
  ·obtain ⟨sl,e1⟩:=I.base.slot b o e n hb hx
   exact ⟨sl,(hs.2 b (Nat.ne_of_lt (Nat.lt_of_lt_of_le (Heap.lt_size e) (I.ok.cab x c hfn hc)))).trans e1⟩
  ·obtain ⟨o',e1⟩:=I.base.there b o e hx
   exact ⟨o',(hs.2 b (Nat.ne_of_lt (Nat.lt_of_lt_of_le (Heap.lt_size e) (I.ok.cab x c hfn hc)))).trans e1⟩
  ·by_cases hj:j=i
   ·subst hj
    rw [hi] at e1;cases e1
    rw [List.getElem?_set_self hiσ] at e2
    cases e2
    exact ⟨u,r,.inr ⟨.inl hk,c,hc,hc'⟩⟩
   ·rw [List.getElem?_set_ne (Ne.symm hj)] at e2
    obtain ⟨u',r',q⟩:=hl j y v' e1 e2 e3
    refine ⟨u',r',?_⟩
    rcases q with q | ⟨k,c',e,z'⟩
    ·exact .inl q
    ·refine .inr ⟨k,c',e,z'.sameBut hs ?_⟩
     rintro rfl
     exact hj (nodup_ix hN e1 (I.ok.inj _ _ _ e hc ▸ hi))
  ·by_cases hcc:c'=c
   ·subst hcc;exact ⟨_,hc'⟩
   ·obtain ⟨w2,z2⟩:=I.cell y c' e
    exact ⟨w2,z2.sameBut hs hcc⟩
  ·obtain ⟨e,n,ne,nf,d⟩:=I.pin p hp
   refine ⟨(hs.2 p.1 ?_).trans e,n,ne,nf,d⟩
   intro q
   rw [q,hoc] at e
   have q':oc=p.2:=Option.some.inj e
   exact d w' (by rw [← q'];exact hocd)
theorem store_ok {M:Model} {A:Around} {E:Value->Shared->Prop} {i:Nat} {x:Str} {v:V} {u:Value} {Q:Unit->Shared->Prop} (I:Inv X pins σ H s) (hN:X.N.Nodup) (hi:X.N[i]? = some x) (hx:Loc X.env.scope x) (r:RelV v u)
  (h:∀s',Inv X pins (σ.set i (some v)) H s'->Q () s') (hf:X.fn x=true\/X.env.scope.names.lookup x=some .local:=by first | exact .inl rfl | exact .inr rfl | assumption):wpAny M A (storeName X.env x u) Q E s :=
 store_ok2 I hN hi hx r (λs' I' _=>h s' I') hf
theorem Inv.call' {s':Shared} {ch:List Addr} (I:Inv X pins σ H s) (ho:s'.os=s.os) (u:Un (frs X.stack) ch H H' s.heap s'.heap) (hok:HOk X.prog X.w H' s'.heap) (hg:AllBare s'.gens)
  (hch:∀b∈ch,(b∈X.ex\/X.s₀.heap.objs.size<=b)/\b≠X.env.locals/\(∀x c,X.env.cells.lookup x=some c->c≠b)/\∀p∈X.pn++pins,p.1≠b):Inv X pins σ H' s':=by
 obtain ⟨h',g',d',t',o'⟩:=s'
 have e:o'=s.os:=ho
 subst e
 exact I.call (g':=g') (t':=t') (d':=d') u hok hg hch
end
abbrev XK:=Value->Option Addr->Hp->Prop
abbrev St:=List (Option V)
abbrev VK:=V->Hp->Prop
abbrev TE:=St->Hp->VK->Prop
abbrev TT:=St->Hp->(Bool->Hp->Prop)->Prop
abbrev TA:=St->Hp->(List V->Hp->Prop)->Prop
structure Ends where
 nx:St->Hp->Prop
 rt:VK
 bk:St->Hp->Prop:=λ_ _=>False
 ct:St->Hp->Prop:=λ_ _=>False
abbrev TS:=Ends->St->Hp->Prop
def EP (X:Cx) (pins:List (Addr × Obj)) (σ:St) (Q:VK) (u:Value) (s':Shared):Prop:=∃v H',Inv X pins σ H' s'/\RelV v u/\Q v H'
def TP (X:Cx) (pins:List (Addr × Obj)) (σ:St) (Q:Bool->Hp->Prop) (b:Bool) (s':Shared):Prop:=∃H',Inv X pins σ H' s'/\Q b H'
def AP (X:Cx) (pins:List (Addr × Obj)) (σ:St) (Q:List V->Hp->Prop) (us:List Value) (s':Shared):Prop:=∃vs H',Inv X pins σ H' s'/\Vals vs us/\Q vs H'
def SP (X:Cx) (pins:List (Addr × Obj)) (D:Ends) (f:Flow) (s':Shared):Prop :=
 match f with
 | .next=>∃σ' H',Inv X pins σ' H' s'/\D.nx σ' H'
 | .brk=>∃σ' H',Inv X pins σ' H' s'/\D.bk σ' H'
 | .cont=>∃σ' H',Inv X pins σ' H' s'/\D.ct σ' H'
 | .ret u=>∃v σ' H',Inv X pins σ' H' s'/\RelV v u/\D.rt v H'
def PE (X:Cx) (e:Expr) (t:TE):Prop :=
 ∀(pins:List (Addr × Obj)) (s:Shared) (σ:St) (H:Hp) (Q:VK),Inv X pins σ H s->t σ H Q->wpAny (model X.prog X.w) X.A (eval e X.env) (EP X pins σ Q) X.xe s
def PT (X:Cx) (e:Expr) (t:TT):Prop :=
 ∀(pins:List (Addr × Obj)) (s:Shared) (σ:St) (H:Hp) (Q:Bool->Hp->Prop),Inv X pins σ H s->t σ H Q->wpAny (model X.prog X.w) X.A (isTrue e X.env (eval e X.env)) (TP X pins σ Q) X.xe s
def PW (X:Cx) (e:Expr) (t:TT):Prop :=
 ∀(whole:Sem Value) (pins:List (Addr × Obj)) (s:Shared) (σ:St) (H:Hp) (Q:Bool->Hp->Prop),Inv X pins σ H s->t σ H Q->wpAny (model X.prog X.w) X.A (isTrue e X.env whole) (TP X pins σ Q) X.xe s
theorem PW.pt {X:Cx} {e:Expr} {t:TT} (h:PW X e t):PT X e t:=h _
def PA (X:Cx) (es:List Expr) (t:TA):Prop :=
 ∀(pos:Pos) (pins:List (Addr × Obj)) (s:Shared) (σ:St) (H:Hp) (Q:List V->Hp->Prop),Inv X pins σ H s->t σ H Q->wpAny (model X.prog X.w) X.A (spliced (backTo pos (starEach es X.env))) (AP X pins σ Q) X.xe s
def PS (X:Cx) (st:Stmt) (t:TS):Prop :=
 ∀(pins:List (Addr × Obj)) (s:Shared) (σ:St) (H:Hp) (D:Ends),Inv X pins σ H s->t D σ H->wpAny (model X.prog X.w) X.A (exec st X.env) (SP X pins D) X.xe s
def PSs (X:Cx) (st:List Stmt) (t:TS):Prop :=
 ∀(pins:List (Addr × Obj)) (s:Shared) (σ:St) (H:Hp) (D:Ends),Inv X pins σ H s->t D σ H->wpAny (model X.prog X.w) X.A (execs st X.env) (SP X pins D) X.xe s
theorem thn {α:Type} {t:Sem α} {Q Q':α->Shared->Prop} {M:Model} {A:Around} {E:Value->Shared->Prop} {s:Shared} (h:wpAny M A t Q E s) (hQ:∀a s,Q a s->Q' a s):wpAny M A t Q' E s:=wpAny_mono h hQ λ_ _ x=>x
end L2
namespace L2
open PySem PySem.Spec PyProof.Rows
section
variable {X:Cx}
theorem bin {a b:Expr} {ta tb:TE} (ha:PE X a ta) (hb:PE X b tb) {pins:List (Addr × Obj)} {s:Shared} {σ:St} {H:Hp} {R:V->V->Hp->Prop} (I:Inv X pins σ H s) (h:ta σ H λx H1=>tb σ H1 λy H2=>R x y H2)
  {α:Type} {Q:α->Shared->Prop} {f:Value->Value->Sem α}
  (hf:∀v u s2 x y H2,Inv X pins σ H2 s2->RelV x v->RelV y u->R x y H2->wpAny (model X.prog X.w) X.A (f v u) Q X.xe s2) :
  wpAny (model X.prog X.w) X.A (eval a X.env) (λv s₁=>wpAny (model X.prog X.w) X.A (eval b X.env) (λu s₂=>wpAny (model X.prog X.w) X.A (f v u) Q X.xe s₂) X.xe s₁) X.xe s:=by
 refine thn (ha pins s σ H _ I h) λv s1 ⟨x,H1,I1,r1,q1⟩=>?_
 refine thn (hb pins s1 σ H1 _ I1 q1) λu s2 ⟨y,H2,I2,r2,q2⟩=>?_
 exact hf v u s2 x y H2 I2 r1 r2 q2
def tVar (i:Nat):TE:=λσ H Q=>∃v,σ[i]? = some (some v)/\Q v H
def tC (v:V):TE:=λ_ H Q=>Q v H
theorem pe_var {i:Nat} {x:Str} {pos:Pos} (hN:X.N[i]? = some x) (hv:Vis X.env.scope x) (hd:(x == ("__debug__" : Str))=false:=by decide) (hcd:(x == ("__classdict__" : Str))=false:=by decide):PE X (.Name x pos) (tVar i):=by
 intro pins s σ H Q I h
 obtain ⟨v,e,h⟩:=h
 obtain ⟨m,hn,hl⟩:=I.loc
 obtain ⟨u,r,l⟩:=hl i x v hN e hv
 have fin:EP X pins σ Q u s:=⟨v,H,I,r,h⟩
 rcases l with ⟨hk,hm⟩ | ⟨hk,c,hc,hcell⟩
 ·exact wpAny_Name (wpAny_loadName_local I.ok.kind hk hn hm fin) hd
 ·rcases hk with hk | hk
  ·exact wpAny_Name (wpAny_loadName_cell I.ok.kind hk hc hcell fin) hd
  ·exact wpAny_Name (wpAny_loadName_free I.ok.kind hk hc hcell fin hcd) hd
theorem pe_int {i j pos}:PE X (.Constant (.int i) j pos) (tC (.int i)):=λ_ _ _ H _ I h=>wpAny_Constant_int ⟨.int i,H,I.tok _,⟨_,rfl⟩,h⟩
theorem pe_bl {b j pos}:PE X (.Constant (.bool b) j pos) (tC (.bl b)):=λ_ _ _ H _ I h=>Constant_bool ⟨.bl b,H,I,rfl,h⟩
theorem pe_non {j pos}:PE X (.Constant .none j pos) (tC .non):=λ_ _ _ H _ I h=>Constant_none ⟨.non,H,I,rfl,h⟩
theorem pe_str {x j pos}:PE X (.Constant (.str x) j pos) (tC (.str x)):=λ_ _ _ H _ I h=>Calls.Constant_str ⟨.str x,H,I.tok _,⟨_,rfl⟩,h⟩
def Gl (X:Cx) (x:Str):Prop:=X.env.kindOf x=some .globalImplicit
theorem ld_glob {E:Value->Shared->Prop} {pins:List (Addr × Obj)} {s:Shared} {σ:St} {H:Hp} {x:Str} {u:Value} {pos:Pos} {Q:Value->Shared->Prop} (I:Inv X pins σ H s) (hg:Gl X x) (hm:X.mg x=some u) (h:Q u s)
  (hd:(x == ("__debug__" : Str))=false:=by decide):wpAny (model X.prog X.w) X.A (eval (.Name x pos) X.env) Q E s :=
 Calls.Name_function_global I.ok.kind hg (Calls.loadGlobal_global (by rw [I.ok.glob];exact I.mod.glob.keeps I.bk) hm h) hd
theorem ld_blt {E:Value->Shared->Prop} {pins:List (Addr × Obj)} {s:Shared} {σ:St} {H:Hp} {x:Str} {u:Value} {pos:Pos} {Q:Value->Shared->Prop} (I:Inv X pins σ H s) (hg:Gl X x) (hm:X.mg x=none) (hv:bootBuiltins x=some u) (h:Q u s)
  (hn:x ≠ "__name__":=by decide) (hd:(x == ("__debug__" : Str))=false:=by decide):wpAny (model X.prog X.w) X.A (eval (.Name x pos) X.env) Q E s:=by
 obtain ⟨mb,h1,h2⟩:=I.mod.blt
 exact Calls.Name_function_global I.ok.kind hg (Calls.loadGlobal_builtin (by rw [I.ok.glob];exact I.mod.glob.keeps I.bk) hm (by rw [I.ok.blt];exact h1.keeps I.bk) ((h2 x hn).trans hv) h) hd
theorem pe_glob {x:Str} {v:V} {u:Value} {pos:Pos} (hg:Gl X x) (hm:X.mg x=some u) (r:RelV v u) (hd:(x == ("__debug__" : Str))=false:=by decide):PE X (.Name x pos) (tC v) :=
 λ_ _ _ H _ I h=>ld_glob I hg hm ⟨v,H,I,r,h⟩ hd
theorem pe_bltn {x:Str} {v:V} {u:Value} {pos:Pos} (hg:Gl X x) (hm:X.mg x=none) (hv:bootBuiltins x=some u) (r:RelV v u) (hn:x ≠ "__name__":=by decide) (hd:(x == ("__debug__" : Str))=false:=by decide):PE X (.Name x pos) (tC v) :=
 λ_ _ _ H _ I h=>ld_blt I hg hm hv ⟨v,H,I,r,h⟩ hn hd
variable {a b:Expr} {ta tb:TE} {pos:Pos}
variable {tA tB':TT} {rest:List Expr}
def tAnd (t u:TT):TT:=λσ H Q=>t σ H λc H1=>if c=true then u σ H1 Q else Q false H1
def tOr (t u:TT):TT:=λσ H Q=>t σ H λc H1=>if c=true then Q true H1 else u σ H1 Q
def tNot (t:TT):TT:=λσ H Q=>t σ H λc H1=>Q (!c) H1
theorem pw_and1 (ha:PT X a tA):PW X (.BoolOp .And [a] pos) tA:=by
 intro wh pins s σ H Q I h
 refine isTrue_and (thn (ha pins s σ H Q I h) λc s1 e=>?_)
 cases c with
 | true=>exact isTrue_and_nil e
 | false=>exact e
theorem pw_or1 (ha:PT X a tA):PW X (.BoolOp .Or [a] pos) tA:=by
 intro wh pins s σ H Q I h
 refine isTrue_or (thn (ha pins s σ H Q I h) λc s1 e=>?_)
 cases c with
 | false=>exact isTrue_or_nil e
 | true=>exact e
theorem pw_and (ha:PT X a tA) (hb:PW X (.BoolOp .And (b::rest) pos) tB'):PW X (.BoolOp .And (a::b::rest) pos) (tAnd tA tB'):=by
 intro wh pins s σ H Q I h
 refine isTrue_and (thn (ha pins s σ H _ I h) λc s1 ⟨H1,I1,q1⟩=>?_)
 cases c with
 | true=>exact hb wh pins s1 σ H1 Q I1 q1
 | false=>exact ⟨H1,I1,q1⟩
theorem pw_or (ha:PT X a tA) (hb:PW X (.BoolOp .Or (b::rest) pos) tB'):PW X (.BoolOp .Or (a::b::rest) pos) (tOr tA tB'):=by
 intro wh pins s σ H Q I h
 refine isTrue_or (thn (ha pins s σ H _ I h) λc s1 ⟨H1,I1,q1⟩=>?_)
 cases c with
 | true=>exact ⟨H1,I1,q1⟩
 | false=>exact hb wh pins s1 σ H1 Q I1 q1
theorem pt_not (ha:PT X a tA):PT X (.UnaryOp .Not a pos) (tNot tA):=by
 intro pins s σ H Q I h
 exact isTrue_not (ha pins s σ H (λc H1=>Q (!c) H1) I h)
def tAndV (ta tb:TE):TE:=λσ H Q=>ta σ H λx H1=>∃c,x=.bl c/\if c=true then tb σ H1 Q else Q (.bl false) H1
def tOrV (ta tb:TE):TE:=λσ H Q=>ta σ H λx H1=>∃c,x=.bl c/\if c=true then Q (.bl true) H1 else tb σ H1 Q
def tNotV (ta:TE):TE:=λσ H Q=>ta σ H λx H1=>∃c,x=.bl c/\Q (.bl (!c)) H1
theorem pe_one {op} {t:TE} (h:PE X a t):PE X (.BoolOp op [a] pos) t:=λpins s σ H Q I hw=>BoolOp_one (h pins s σ H Q I hw)
theorem pe_and (ha:PE X a ta) (hb:PE X (.BoolOp .And (b::rest) pos) tb):PE X (.BoolOp .And (a::b::rest) pos) (tAndV ta tb):=by
 intro pins s σ H Q I h
 refine BoolOp_and (thn (ha pins s σ H _ I h) λv s1 ⟨x,H1,I1,r1,q1⟩=>?_)
 obtain ⟨c,rfl,q1⟩:=q1
 cases r1
 refine wpAny_truthy_bool ?_
 cases c with
 | true=>exact hb pins s1 σ H1 Q I1 q1
 | false=>exact ⟨.bl false,H1,I1,rfl,q1⟩
theorem pe_or (ha:PE X a ta) (hb:PE X (.BoolOp .Or (b::rest) pos) tb):PE X (.BoolOp .Or (a::b::rest) pos) (tOrV ta tb):=by
 intro pins s σ H Q I h
 refine BoolOp_or (thn (ha pins s σ H _ I h) λv s1 ⟨x,H1,I1,r1,q1⟩=>?_)
 obtain ⟨c,rfl,q1⟩:=q1
 cases r1
 refine wpAny_truthy_bool ?_
 cases c with
 | false=>exact hb pins s1 σ H1 Q I1 q1
 | true=>exact ⟨.bl true,H1,I1,rfl,q1⟩
theorem pe_not (ha:PE X a ta):PE X (.UnaryOp .Not a pos) (tNotV ta):=by
 intro pins s σ H Q I h
 refine UnaryOp_ (thn (ha pins s σ H _ I h) λv s1 ⟨x,H1,I1,r1,q1⟩=>?_)
 obtain ⟨c,rfl,q1⟩:=q1
 cases r1
 exact not_of (wpAny_truthy_bool ⟨.bl (!c),H1,I1,rfl,q1⟩)
def tIf (t:TT) (ta tb:TE):TE:=λσ H Q=>t σ H λc H1=>if c=true then ta σ H1 Q else tb σ H1 Q
theorem pe_ifExp {c:Expr} (hc:PT X c tA) (ha:PE X a ta) (hb:PE X b tb):PE X (.IfExp c a b pos) (tIf tA ta tb):=by
 intro pins s σ H Q I h
 refine wpAny_IfExp (thn (hc pins s σ H _ I h) λd s1 ⟨H1,I1,q1⟩=>?_)
 cases d with
 | true=>exact ha pins s1 σ H1 Q I1 q1
 | false=>exact hb pins s1 σ H1 Q I1 q1
end
end L2
namespace L2
open PySem PySem.Spec PyProof.Rows
def SqL (K:PySem.W.Frag) (H:Hp) (a:Addr) (xs:List V):Prop :=
 Rd H a (.lst xs) \/
  ∃(o:Obj) (its:Array Value) (n:Nat),K.lookup a=some o/\o.cls=.type "list" /\ o.dict=none/\o.data=.seq its n/\its.size<=sizeLine/\Vals xs its.toList
def SqT (K:PySem.W.Frag) (H:Hp) (a:Addr) (xs:List V):Prop :=
 Rd H a (.tup xs) \/
  ∃(o:Obj) (its:Array Value) (n:Nat),K.lookup a=some o/\o.cls=.type "tuple" /\ o.data=.seq its n/\its.size<=sizeLine/\Vals xs its.toList
def absV:Value->Option V
 | .none=>some .non
 | .bool b=>some (.bl b)
 | .int i _=>some (.int i)
 | .str x _=>some (.str x)
 | .bytes b _=>some (.byt b)
 | .float b _=>some (.flt b)
 | .ref a=>some (.ref a)
 | .type n=>some (.ty n)
 | _=>none
theorem RelV.abs {x:V} {u:Value} (r:RelV x u):absV u=some x:=by
 cases x with
 | non=>cases r;rfl
 | bl _=>cases r;rfl
 | int _=>obtain ⟨t,rfl⟩:=r;rfl
 | str _=>obtain ⟨t,rfl⟩:=r;rfl
 | byt _=>obtain ⟨t,rfl⟩:=r;rfl
 | flt _=>obtain ⟨t,rfl⟩:=r;rfl
 | ref _=>cases r;rfl
 | ty _=>cases r;rfl
theorem RelV.inj {x y:V} {u:Value} (r:RelV x u) (q:RelV y u):x=y:=Option.some.inj (r.abs.symm.trans q.abs)
theorem Vals.inj:∀{xs ys:List V} {us:List Value},Vals xs us->Vals ys us->xs=ys
 | _,_,_,.nil,.nil=>rfl
 | _,_,_,.cons r t,.cons r' t'=>by rw [r.inj r',Vals.inj t t']
section
variable {X:Cx} {pins:List (Addr × Obj)} {σ:St} {H:Hp} {s:Shared} {a:Addr} {xs ys:List V}
theorem SqL.of {K:PySem.W.Frag} (h:H a=some (.lst xs)):SqL K H a xs:=.inl (.inl h)
theorem SqT.of {K:PySem.W.Frag} (h:H a=some (.tup xs)):SqT K H a xs:=.inl (.inl h)
theorem Inv.list (I:Inv X pins σ H s) (h:SqL X.K H a xs):∃its:List Value,Vals xs its/\PlainL s.heap a its.toArray/\xs.length<=sizeLine:=by
 rcases h with h | ⟨o,its,n,hk,hc,hd,hs,hz,r⟩
 ·obtain ⟨z,its,n,r,e⟩:=h.ok I.hok
  exact ⟨its,r,⟨_,n,e,rfl,rfl,rfl⟩,z⟩
 ·refine ⟨its.toList,r,⟨o,n,I.kIn a o hk,hc,hd,by simpa using hs⟩,?_⟩
  have e:=r.length
  simp only [Array.length_toList] at e
  omega
theorem Inv.tuple (I:Inv X pins σ H s) (h:SqT X.K H a xs):∃its:List Value,Vals xs its/\IsTup s.heap a its.toArray/\xs.length<=sizeLine:=by
 rcases h with h | ⟨o,its,n,hk,hc,hs,hz,r⟩
 ·obtain ⟨z,its,r,p⟩:=h.ok I.hok
  exact ⟨its,r,p,z⟩
 ·refine ⟨its.toList,r,⟨o,I.kIn a o hk,hc,n,by simpa using hs⟩,?_⟩
  have e:=r.length
  simp only [Array.length_toList] at e
  omega
theorem Inv.list_inj (I:Inv X pins σ H s) (h:SqL X.K H a xs) (h':SqL X.K H a ys):xs=ys:=by
 obtain ⟨its,r,⟨o,n,e,_,_,d⟩,_⟩:=I.list h
 obtain ⟨its',r',⟨o',n',e',_,_,d'⟩,_⟩:=I.list h'
 rw [e] at e';cases e'
 rw [d] at d'
 injection d' with d1 _
 have:its=its':=by simpa using congrArg Array.toList d1
 subst this
 exact r.inj r'
theorem Inv.tuple_inj (I:Inv X pins σ H s) (h:SqT X.K H a xs) (h':SqT X.K H a ys):xs=ys:=by
 obtain ⟨its,r,⟨o,e,_,n,d⟩,_⟩:=I.tuple h
 obtain ⟨its',r',⟨o',e',_,n',d'⟩,_⟩:=I.tuple h'
 rw [e] at e';cases e'
 rw [d] at d'
 injection d' with d1 _
 have:its=its':=by simpa using congrArg Array.toList d1
 subst this
 exact r.inj r'
end
abbrev Cx.wish (X:Cx) (E:Value->Shared->Prop):Cx:={ X with xe:=E }
abbrev Cx.nox (X:Cx):Cx:=X.wish λ_ _=>False
theorem Cx.Ok.wish {X:Cx} (ok:X.Ok) (E:Value->Shared->Prop):(X.wish E).Ok :=
 ⟨ok.mod,ok.kind,ok.glob,ok.blt,ok.above,ok.inj,ok.has,ok.cab,ok.hd,ok.frames,ok.stk,ok.exf,ok.bs,ok.bsz,ok.noex,ok.exfs,ok.funs,ok.frf⟩
theorem Cx.Ok.unwish {X:Cx} {E:Value->Shared->Prop} (ok:(X.wish E).Ok):X.Ok :=
 ⟨ok.mod,ok.kind,ok.glob,ok.blt,ok.above,ok.inj,ok.has,ok.cab,ok.hd,ok.frames,ok.stk,ok.exf,ok.bs,ok.bsz,ok.noex,ok.exfs,ok.funs,ok.frf⟩
section
variable {X:Cx} {pins:List (Addr × Obj)} {σ:St} {H:Hp} {s:Shared} {E:Value->Shared->Prop}
theorem Inv.wish (I:Inv X pins σ H s) (E:Value->Shared->Prop):Inv (X.wish E) pins σ H s:=⟨I.ok.wish E,I.os,I.bare,I.base,I.loc,I.cell,I.free,I.freeC,I.pin,I.hok,I.len⟩
theorem Inv.unwish (I:Inv (X.wish E) pins σ H s):Inv X pins σ H s:=⟨I.ok.unwish,I.os,I.bare,I.base,I.loc,I.cell,I.free,I.freeC,I.pin,I.hok,I.len⟩
theorem SP.unwish {D:Ends} {f:Flow} {s':Shared} (h:SP (X.wish E) pins D f s'):SP X pins D f s':=by
 cases f with
 | next=>obtain ⟨σ',H',I,q⟩:=h;exact ⟨σ',H',I.unwish,q⟩
 | brk=>obtain ⟨σ',H',I,q⟩:=h;exact ⟨σ',H',I.unwish,q⟩
 | cont=>obtain ⟨σ',H',I,q⟩:=h;exact ⟨σ',H',I.unwish,q⟩
 | ret u=>obtain ⟨v,σ',H',I,r,q⟩:=h;exact ⟨v,σ',H',I.unwish,r,q⟩
theorem PE.nox {e:Expr} {t:TE} (h:PE X.nox e t):PE X e t:=λpins s σ H Q I hw =>
 wpAny_mono (h pins s σ H Q (I.wish _) hw) (λ_ _ ⟨v,H',I',r,q⟩=>⟨v,H',I'.unwish,r,q⟩) λ_ _ z=>False.elim z
theorem PT.nox {e:Expr} {t:TT} (h:PT X.nox e t):PT X e t:=λpins s σ H Q I hw =>
 wpAny_mono (h pins s σ H Q (I.wish _) hw) (λ_ _ ⟨H',I',q⟩=>⟨H',I'.unwish,q⟩) λ_ _ z=>False.elim z
theorem PSs.nox {st:List Stmt} {t:TS} (h:PSs X.nox st t):PSs X st t:=λpins s σ H D I hw =>
 wpAny_mono (h pins s σ H D (I.wish _) hw) (λ_ _ q=>q.unwish) λ_ _ z=>False.elim z
end
section
variable {X:Cx} {st:Stmt} {rest:List Stmt} {t u:TS} {e:Expr} {te:TE} {pos:Pos}
def tNext:TS:=λD σ H=>D.nx σ H
def tSeq (t u:TS):TS:=λD σ H=>t { D with nx:=u D } σ H
theorem pss_nil:PSs X [] tNext:=λ_ _ σ H _ I h=>wpAny_execs_nil ⟨σ,H,I,h⟩
theorem pss_cons (h1:PS X st t) (h2:PSs X rest u):PSs X (st::rest) (tSeq t u):=by
 intro pins s σ H D I h
 refine wpAny_execs_cons (thn (h1 pins s σ H { D with nx:=u D } I h) λf s1 q=>?_)
 cases f with
 | next =>
  obtain ⟨σ',H',I',q⟩:=q
  exact h2 pins s1 σ' H' D I' q
 | ret v=>exact q
 | brk=>exact q
 | cont=>exact q
theorem pss_one (h1:PS X st t):PSs X [st] t:=by
 intro pins s σ H D I h
 refine wpAny_execs_cons (thn (h1 pins s σ H D I h) λf s1 q=>?_)
 cases f with
 | next=>exact wpAny_execs_nil q
 | ret v=>exact q
 | brk=>exact q
 | cont=>exact q
theorem Inv.quiet {pins:List (Addr × Obj)} {σ:St} {H:Hp} {s:Shared} (I:Inv X pins σ H s):interactive X.env=false:=by simp [interactive,I.ok.kind]
def tDrop (te:TE):TS:=λD σ H=>te σ H λ_ H1=>D.nx σ H1
theorem ps_expr (he:PE X e te) (hs:swapsWith e none pos.line X.env=pure false:=by rfl):PS X (.Expr e pos) (tDrop te):=by
 intro pins s σ H D I h
 exact wpAny_Expr_any (thn (he pins s σ H _ I h) λv s1 ⟨x,H1,I1,r1,q1⟩=>⟨σ,H1,I1,q1⟩) I.quiet hs
def tRet (te:TE):TS:=λD σ H=>te σ H D.rt
theorem ps_ret (he:PE X e te):PS X (.Return (some e) pos) (tRet te):=by
 intro pins s σ H D I h
 exact wpAny_Return_some (thn (he pins s σ H _ I h) λv s1 ⟨x,H1,I1,r1,q1⟩=>⟨x,σ,H1,I1,r1,q1⟩)
def tRetN:TS:=λD _ H=>D.rt .non H
theorem ps_retN:PS X (.Return none pos) tRetN:=λ_ _ σ H _ I h=>wpAny_Return_none ⟨.non,σ,H,I,rfl,h⟩
def tIfS (c:TT) (t u:TS):TS:=λD σ H=>c σ H λb H1=>if b=true then t D σ H1 else u D σ H1
theorem ps_if {c:Expr} {a b:List Stmt} {tc:TT} (hc:PT X c tc) (ha:PSs X a t) (hb:PSs X b u):PS X (.If c a b pos) (tIfS tc t u):=by
 intro pins s σ H D I h
 refine wpAny_If (thn (hc pins s σ H _ I h) λd s1 ⟨H1,I1,q1⟩=>?_)
 cases d with
 | true=>exact ha pins s1 σ H1 D I1 q1
 | false=>exact hb pins s1 σ H1 D I1 q1
end
abbrev TG:=V->St->Hp->(St->Hp->Prop)->Prop
abbrev TGs:=List V->St->Hp->(St->Hp->Prop)->Prop
def PG (X:Cx) (target:Expr) (t:TG):Prop :=
 ∀(pins:List (Addr × Obj)) (s:Shared) (σ:St) (H:Hp) (v:V) (u:Value) (Q:St->Hp->Prop),Inv X pins σ H s->RelV v u->t v σ H Q ->
  wpAny (model X.prog X.w) X.A (assign target X.env u) (λ_ s'=>∃σ' H',Inv X pins σ' H' s'/\Q σ' H') X.xe s
def PGs (X:Cx) (ts:List Expr) (t:TGs):Prop :=
 ∀(pins:List (Addr × Obj)) (s:Shared) (σ:St) (H:Hp) (vs:List V) (us:List Value) (Q:St->Hp->Prop),Inv X pins σ H s->Vals vs us->t vs σ H Q ->
  wpAny (model X.prog X.w) X.A (assignInOrder ((assignEach ts X.env).map (·.2)) us) (λ_ s'=>∃σ' H',Inv X pins σ' H' s'/\Q σ' H') X.xe s
abbrev TSet:=V->V->V->Hp->(Hp->Prop)->Prop
def PSet (X:Cx) (t:TSet):Prop :=
 ∀(pins:List (Addr × Obj)) (s:Shared) (σ:St) (H:Hp) (o i v:V) (ov iv u:Value) (Q:Hp->Prop),Inv X pins σ H s->RelV o ov->RelV i iv->RelV v u->t o i v H Q ->
  wpAny (model X.prog X.w) X.A (setItem ov iv u) (λ_ s'=>∃H',Inv X pins σ H' s'/\Q H') X.xe s
section
variable {X:Cx} {pos:Pos}
def gName (i:Nat):TG:=λv σ H Q=>Q (σ.set i (some v)) H
theorem pg_name {i:Nat} {x:Str} (hN:X.N.Nodup) (hi:X.N[i]? = some x) (hx:Loc X.env.scope x) (hf:X.fn x=true\/X.env.scope.names.lookup x=some .local:=by first | exact .inl rfl | exact .inr rfl | assumption):PG X (.Name x pos) (gName i):=by
 intro pins s σ H v u Q I r h
 exact wpAny_assign_Name (store_ok I hN hi hx r (λs' I'=>⟨_,H,I',h⟩) hf)
def gNil:TGs:=λvs σ H Q=>vs=[]/\Q σ H
def gCons (t:TG) (u:TGs):TGs:=λvs σ H Q=>∃v r,vs=v::r/\t v σ H λσ' H'=>u r σ' H' Q
theorem pgs_nil:PGs X [] gNil:=by
 intro pins s σ H vs us Q I r h
 obtain ⟨e,h⟩:=h
 subst e
 cases r
 exact assignInOrder_nil ⟨σ,H,I,h⟩
theorem pgs_cons {e:Expr} {es:List Expr} {t:TG} {u:TGs} (h1:PG X e t) (h2:PGs X es u)
  (hs:(assignEach (e::es) X.env).map (·.2)=assign e X.env::(assignEach es X.env).map (·.2):=by rfl):PGs X (e::es) (gCons t u):=by
 intro pins s σ H vs us Q I r h
 obtain ⟨v,vr,e1,h⟩:=h
 subst e1
 cases r with
 | cons r rr =>
  rw [hs]
  refine assignInOrder_cons (thn (h1 pins s σ H _ _ _ I r h) λ_ s1 ⟨σ1,H1,I1,q1⟩=>?_)
  exact h2 pins s1 σ1 H1 _ _ Q I1 rr q1
def gTup (K:PySem.W.Frag) (n:Nat) (t:TGs):TG:=λv σ H Q=>∃a xs,v=.ref a/\SqT K H a xs/\xs.length=n/\t xs σ H Q
theorem pg_tup {es:List Expr} {k:Nat} {t:TGs} {n:Nat} (hc:X.calm=true) (h:PGs X es t)
  (hn:(assignEach es X.env).length=n:=by rfl) (hst:(assignEach es X.env).findIdx? (·.1)=none:=by rfl):PG X (.Tuple es k pos) (gTup X.K n t):=by
 intro pins s σ H v u Q I r hw
 obtain ⟨a,xs,e1,hq,hl,hw⟩:=hw
 subst e1
 cases r
 obtain ⟨its,rv,ht,hz⟩:=I.tuple hq
 refine assign_Tuple_tuple (I.ok.hd hc) ht (by simp [hn,← hl,rv.length]) hst λh' hx=>?_
 have I1:Inv X pins σ H { s with heap:=h' }:=I.kept (t':=s.toks) λb o e=>hx b o (Nat.ne_of_lt (Heap.lt_size e)) e
 exact h pins _ σ H xs _ Q I1 (by simpa using rv) hw
def gSub (to ti:TE) (t:TSet):TG:=λv σ H Q=>to σ H λo H1=>ti σ H1 λi H2=>t o i v H2 λH3=>Q σ H3
theorem pg_sub {o i:Expr} {to ti:TE} {t:TSet} (ho:PE X o to) (hi:PE X i ti) (hs:PSet X t)
  (ha:∀v,assign (.Subscript o i pos) X.env v=(do
   let ov ← holding [v] (eval o X.env)
   let iv ← holding [v,ov] (eval i X.env)
   standAt pos
   holding [v,ov,iv] (setItem ov iv v)
   release [v,ov,iv] []):=by intro _;rfl):PG X (.Subscript o i pos) (gSub to ti t):=by
 intro pins s σ H v u Q I r h
 rw [ha]
 refine wpAny_bind (wpAny_holding (thn (ho pins s σ H _ I h) λov s1 ⟨x,H1,I1,r1,q1⟩=>?_))
 refine wpAny_bind (wpAny_holding (thn (hi pins s1 σ H1 _ I1 q1) λiv s2 ⟨y,H2,I2,r2,q2⟩=>?_))
 refine wpAny_bind (wpAny_standAt (wpAny_bind (wpAny_holding (thn (hs pins s2 σ H2 x y v ov iv u _ I2 r1 r2 r q2) λ_ s3 ⟨H3,I3,q3⟩=>?_))))
 exact wpAny_release ⟨σ,H3,I3,q3⟩
def tAsg (te:TE) (g:TG):TS:=λD σ H=>te σ H λx H1=>g x σ H1 D.nx
theorem ps_asg {tg e:Expr} {te:TE} {g:TG} (he:PE X e te) (hg:PG X tg g) (hs:swapsWithSole [tg] e pos.line X.env=pure false:=by rfl) (hw:swappedStores [tg] e X.env=pure none:=by rfl)
  (h1:(assignEach [tg] X.env).map (·.2)=[assign tg X.env]:=by rfl):PS X (.Assign [tg] e pos) (tAsg te g):=by
 intro pins s σ H D I h
 refine wpAny_Assign_stores (thn (he pins s σ H _ I h) λv s1 ⟨x,H1,I1,r1,q1⟩=>?_) hs hw
 rw [h1]
 exact thn (hg pins s1 σ H1 x v _ I1 r1 q1) λ_ s2 q=>q
theorem ps_set {i:Nat} {x:Str} {e:Expr} {te:TE} {pos':Pos} (hN:X.N.Nodup) (hi:X.N[i]? = some x) (hx:Loc X.env.scope x) (he:PE X e te) (hs:swapsWith e (some (.Name x pos')) pos.line X.env=pure false:=by rfl) (hf:X.fn x=true\/X.env.scope.names.lookup x=some .local:=by first | exact .inl rfl | exact .inr rfl | assumption) :
  PS X (.Assign [.Name x pos'] e pos) (tAsg te (gName i)):=by
 intro pins s σ H D I h
 refine wpAny_Assign_Name (thn (he pins s σ H _ I h) λv s1 ⟨y,H1,I1,r1,q1⟩=>?_) hs
 exact store_ok I1 hN hi hx r1 (λs2 I2=>⟨_,H1,I2,q1⟩) hf
end
section
variable {X:Cx} {pos:Pos}
end
structure It where
 go:Nat->Hp->Prop
 yld:Nat->Hp->V->Hp->Prop
 stop:Nat->Hp->Prop
def FpOk (X:Cx) (pins:List (Addr × Obj)) (H:Hp) (b:Addr):Prop :=
 H b=none/\b≠X.env.locals/\b∉X.fs/\(b∈X.ex\/X.s₀.heap.objs.size<=b)/\(∀x c,X.env.cells.lookup x=some c->c≠b)/\∀p∈X.pn++pins,p.1≠b
theorem Inv.fpOk {X:Cx} {pins:List (Addr × Obj)} {σ:St} {H H':Hp} {s:Shared} {b:Addr} (I:Inv X pins σ H s) (hb:s.heap.objs.size<=b) (hn:H' b=none):FpOk X pins H' b:=by
 refine ⟨hn,Nat.ne_of_gt (Nat.lt_of_lt_of_le I.lt hb),I.nofs hb,.inr (Nat.le_trans I.sz hb),λx c e z=>?_,λp hp z=>?_⟩
 ·obtain ⟨v,q⟩:=I.cell x c e
  exact absurd (Nat.lt_of_lt_of_le q.lt (by rw [z];exact hb)) (Nat.lt_irrefl _)
 ·exact absurd (Nat.lt_of_lt_of_le (Heap.lt_size (I.pin p hp).1) (by rw [z];exact hb)) (Nat.lt_irrefl _)
structure Turn (P:Program) (w:World) (K:PySem.W.Frag) (tg:Expr) (J:It) (fp:List Addr) (it:Addr) (tn:Nat->Heap->Prop):Prop where
 mem:it∈fp
 obj:∀i h,tn i h->∀b∈fp,∃o,h.get? b=some o/\∀v,o.data ≠ .cell v
 keep:∀i h h',tn i h->(∀b∈fp,∀o,h.get? b=some o->h'.get? b=some o)->tn i h'
 item:∀(X:Cx),X.prog=P->X.w=w->X.K=K->X.calm=true->∀(i:Nat) (pins:List (Addr × Obj)) (s:Shared) (σ:St) (H:Hp) (E:Value->Shared->Prop),Inv X pins σ H s->(∀b∈fp,FpOk X pins H b)->tn i s.heap->J.go i H ->
  wpAny (model P w) X.A (pyNext (.ref it)) (λr s1=>∃u,r=some u /\
   wpAny (model P w) X.A (letOwnedTupleGo tg (.ref it) u) (λ_ s2=>∃x H',Inv X pins σ H' s2/\RelV x u/\J.yld i H x H'/\tn (i+1) s2.heap/\∀b∈fp,H' b=none) E s1) E s
 done:∀(X:Cx),X.prog=P->X.w=w->X.K=K->X.calm=true->∀(i:Nat) (pins:List (Addr × Obj)) (s:Shared) (σ:St) (H:Hp) (E:Value->Shared->Prop),Inv X pins σ H s->(∀b∈fp,FpOk X pins H b)->tn i s.heap->J.stop i H ->
  wpAny (model P w) X.A (pyNext (.ref it)) (λr s1=>r=none/\Inv X pins σ H s1) E s
 self:∀(A:Around) (i:Nat) (s:Shared) (Q:Value->Shared->Prop) (E:Value->Shared->Prop),tn i s.heap->Q (.ref it) s->wpAny (model P w) A (pyIter (.ref it)) Q E s
abbrev TI:=St->Hp->(It->Hp->Prop)->Prop
def PIE (X:Cx) (pins:List (Addr × Obj)) (σ:St) (tg:Expr) (R:It->Hp->Prop) (itv:Value) (s2:Shared):Prop :=
 ∃(it:Addr) (fp:List Addr) (tn:Nat->Heap->Prop) (J:It) (H':Hp),itv=.ref it/\Inv X pins σ H' s2/\Turn X.prog X.w X.K tg J fp it tn/\tn 0 s2.heap/\(∀b∈fp,FpOk X pins H' b)/\R J H'
def PI (X:Cx) (tg iter:Expr) (wi:TI):Prop :=
 ∀(pins:List (Addr × Obj)) (s:Shared) (σ:St) (H:Hp) (R:It->Hp->Prop),Inv X pins σ H s->wi σ H R ->
  wpAny (model X.prog X.w) X.A (eval iter X.env) (λv s1=>wpAny (model X.prog X.w) X.A (pyIter v) (PIE X pins σ tg R) X.xe s1) X.xe s
theorem go_of {M:Model} {A:Around} {E:Value->Shared->Prop} {s:Shared} {tg:Expr} {it:Addr} {u:Value} {o:Obj} {n:String} {vs:Array Value} {Q:Unit->Shared->Prop} (ho:s.heap.get? it=some o) (hc:o.cls=.type n) (hd:o.data=.fields vs)
    (hn:["enumerate","zip","dict_itemiterator","dict_reverseitemiterator","odict_iterator","itertools.zip_longest","itertools.pairwise"].contains n=false) (hQ:Q () s):wpAny M A (letOwnedTupleGo tg (.ref it) u) Q E s:=by
  unfold letOwnedTupleGo
  cases tg <;> first
    | exact wpAny_pure hQ
    | (cases u <;> first
        | exact wpAny_pure hQ
        | (refine wpAny_bind (wpAny_load ho ?_)
           rw [hc,hd]
           show wpAny M A (if (["enumerate","zip","dict_itemiterator","dict_reverseitemiterator","odict_iterator","itertools.zip_longest","itertools.pairwise"].contains n && vs[0]? == some (rawInt _))=true then _ else _) Q E s
           rw [if_neg (by intro h;rw [hn,Bool.false_and] at h;cases h)]
           exact wpAny_pure hQ))
def Itl (K:PySem.W.Frag) (a:Addr):It :=
 ⟨λi H=>∃xs x,SqL K H a xs/\xs[i]? = some x,λi H x H'=>H'=H/\∀xs,SqL K H a xs->xs[i]? = some x,λi H=>∃xs,SqL K H a xs/\xs.length<=i⟩
def Itt (K:PySem.W.Frag) (a:Addr):It :=
 ⟨λi H=>∃xs x,SqT K H a xs/\xs[i]? = some x,λi H x H'=>H'=H/\∀xs,SqT K H a xs->xs[i]? = some x,λi H=>∃xs,SqT K H a xs/\xs.length<=i⟩
def Itr (lo:Int) (n:Nat):It:=⟨λi _=>i<n,λi H x H'=>H'=H/\x=.int (lo+i),λi _=>n<=i⟩
theorem turn_list {P:Program} {w:World} {K:PySem.W.Frag} {tg:Expr} (a it:Addr):Turn P w K tg (Itl K a) [it] it (λi h=>h.IsListIter it a i) where
 mem:=by simp
 obj:=λi h st b hb=>by
  have e:b=it:=by simpa using hb
  subst e
  obtain ⟨o,e,c,d⟩:=st
  exact ⟨o,e,λv z=>by rw [d] at z;cases z⟩
 keep:=λi h h' st k=>st.at λo e=>k it (by simp) o e
 item:=by
  intro X hP hw hK hc i pins s σ H E I hf st hg
  subst hP hw hK
  obtain ⟨xs,x,hq,hx⟩:=hg
  obtain ⟨its,rv,p,hz⟩:=I.list hq
  obtain ⟨u,hu,ru⟩:=rv.get hx
  obtain ⟨f0,f1,f2,f3,f4,f5⟩:=hf it (by simp)
  refine wpAny_pyNext_list_item st p.isList (x:=u) (by simpa using hu) λh' st' sb=>?_
  have I1:Inv X pins σ H { s with heap:=h' }:=I.turned (t':=s.toks) (λb o hb e=>(sb.2 b hb).trans e) f0 f1 f3 f4 f5
  obtain ⟨o,e,c,d⟩:=id st'
  exact ⟨u,rfl,go_of (s:={ s with heap:=h' }) e c d (by decide) ⟨x,H,I1,ru,⟨rfl,λys hy=>by rw [I.list_inj hy hq];exact hx⟩,st',λb hb=>(hf b hb).1⟩⟩
 done:=by
  intro X hP hw hK hc i pins s σ H E I hf st hg
  subst hP hw hK
  obtain ⟨xs,hq,hx⟩:=hg
  obtain ⟨its,rv,p,hz⟩:=I.list hq
  obtain ⟨f0,f1,f2,f3,f4,f5⟩:=hf it (by simp)
  have hl:=rv.length
  exact wpAny_pyNext_list_end (I.ok.hd hc) st p.isList (by simp;omega) λh' eb=>⟨rfl,I.turned (t':=s.toks) (λb o hb e=>eb b o hb e) f0 f1 f3 f4 f5⟩
 self:=λ_ _ _ _ _ st h=>wpAny_pyIter_listiter st h
theorem turn_tuple {P:Program} {w:World} {K:PySem.W.Frag} {tg:Expr} (a it:Addr):Turn P w K tg (Itt K a) [it] it (λi h=>h.IsTupleIter it a i) where
 mem:=by simp
 obj:=λi h st b hb=>by
  have e:b=it:=by simpa using hb
  subst e
  obtain ⟨o,e,c,d⟩:=st
  exact ⟨o,e,λv z=>by rw [d] at z;cases z⟩
 keep:=λi h h' st k=>st.at λo e=>k it (by simp) o e
 item:=by
  intro X hP hw hK hc i pins s σ H E I hf st hg
  subst hP hw hK
  obtain ⟨xs,x,hq,hx⟩:=hg
  obtain ⟨its,rv,p,hz⟩:=I.tuple hq
  obtain ⟨u,hu,ru⟩:=rv.get hx
  obtain ⟨f0,f1,f2,f3,f4,f5⟩:=hf it (by simp)
  refine wpAny_pyNext_tuple_item st (show s.heap.IsTuple a its.toArray from p) (x:=u) (by simpa using hu) λh' st' sb=>?_
  have I1:Inv X pins σ H { s with heap:=h' }:=I.turned (t':=s.toks) (λb o hb e=>(sb.2 b hb).trans e) f0 f1 f3 f4 f5
  obtain ⟨o,e,c,d⟩:=id st'
  exact ⟨u,rfl,go_of (s:={ s with heap:=h' }) e c d (by decide) ⟨x,H,I1,ru,⟨rfl,λys hy=>by rw [I.tuple_inj hy hq];exact hx⟩,st',λb hb=>(hf b hb).1⟩⟩
 done:=by
  intro X hP hw hK hc i pins s σ H E I hf st hg
  subst hP hw hK
  obtain ⟨xs,hq,hx⟩:=hg
  obtain ⟨its,rv,p,hz⟩:=I.tuple hq
  obtain ⟨f0,f1,f2,f3,f4,f5⟩:=hf it (by simp)
  have hl:=rv.length
  exact wpAny_pyNext_tuple_end (I.ok.hd hc) st (show s.heap.IsTuple a its.toArray from p) (by simp;omega) λh' eb=>⟨rfl,I.turned (t':=s.toks) (λb o hb e=>eb b o hb e) f0 f1 f3 f4 f5⟩
 self:=λ_ _ _ _ _ st h=>wpAny_pyIter_tupleiter st h
theorem turn_range {P:Program} {w:World} {K:PySem.W.Frag} {tg:Expr} (it:Addr) (lo:Int) (n:Nat):Turn P w K tg (Itr lo n) [it] it (λi h=>IsRangeIter h it (lo+(i:Nat)*1) ((n:Int)-(i:Nat)) 1) where
 mem:=by simp
 obj:=λi h st b hb=>by
  have e:b=it:=by simpa using hb
  subst e
  exact ⟨_,st,λv z=>by
   have z':Data.fields _=Data.cell v:=z
   cases z'⟩
 keep:=λi h h' st k=>k it (by simp) _ st
 item:=by
  intro X hP hw hK hc i pins s σ H E I hf st hg
  subst hP hw hK
  obtain ⟨f0,f1,f2,f3,f4,f5⟩:=hf it (by simp)
  have W:=Walks.range (prog:=X.prog) (w:=X.w) (I.ok.hd hc) it lo 1 n
  refine W.item i s _ _ hg st λv h' tk hv st' kk=>?_
  obtain ⟨t,rfl⟩:=hv
  have I1:Inv X pins σ H { s with heap:=h',toks:=tk }:=I.turned (λb o hb e=>kk b o (by simpa using hb) e) f0 f1 f3 f4 f5
  refine ⟨_,rfl,go_of (s:={ s with heap:=h',toks:=tk }) (n:="range_iterator") st' rfl rfl (by decide) ⟨.int (lo+i),H,I1,⟨t,?_⟩,⟨rfl,rfl⟩,st',λb hb=>(hf b hb).1⟩⟩
  rw [Int.mul_one]
 done:=by
  intro X hP hw hK hc i pins s σ H E I hf st hg
  subst hP hw hK
  obtain ⟨f0,f1,f2,f3,f4,f5⟩:=hf it (by simp)
  exact wpAny_pyNext_range_end (I.ok.hd hc) st (by have:n<=i:=hg;omega) λh' eb=>⟨rfl,I.turned (t':=s.toks) (λb o hb e=>eb b o hb e) f0 f1 f3 f4 f5⟩
 self:=λ_ _ _ _ _ st h=>wpAny_pyIter_rangeiter st h
end L2
namespace L2
open PySem PySem.Spec PyProof.Rows
section
variable {X:Cx} {tg:Expr}
def iTup (K:PySem.W.Frag) (tl:TE):TI:=λσ H R=>tl σ H λx H1=>∃a,x=.ref a/\(∃xs,SqT K H1 a xs)/\R (Itt K a) H1
theorem range_it {pins:List (Addr × Obj)} {σ:St} {H:Hp} {s:Shared} {R:It->Hp->Prop} {E:Value->Shared->Prop} {lo hi:Int} {t u v:Tok} {tk:Nat} (I:Inv X pins σ H s) (h1:-(2 ^ 62)<=lo) (h2:lo<2 ^ 62) (h3:-(2 ^ 62)<=hi) (h4:hi<2 ^ 62)
  (q:R (Itr lo (hi-lo).toNat) H):wpAny (model X.prog X.w) X.A (pyIter (.ref s.heap.objs.size)) (PIE X pins σ tg R) E { s with heap:=s.heap.push { cls:=.type "range",data:=.fields #[.int lo t,.int hi u,.int 1 v] },toks:=tk }:=by
 refine wpAny_pyIter_range (IsRange.new ..) (small_one h1 h2 h3 h4) ?_
 have I1:Inv X pins σ H { s with heap:=s.heap.push { cls:=.type "range",data:=.fields #[.int lo t,.int hi u,.int 1 v] },toks:=tk }:=I.kept λb o e=>Heap.get?_push_of_some _ e
 refine ⟨(s.heap.push { cls:=.type "range",data:=.fields #[.int lo t,.int hi u,.int 1 v] }).objs.size,[(s.heap.push { cls:=.type "range",data:=.fields #[.int lo t,.int hi u,.int 1 v] }).objs.size],_,_,H,rfl,
  I1.kept (t':=tk) λb o e=>Heap.get?_push_of_some _ e,turn_range _ lo (hi-lo).toNat,?_,λb hb=>?_,q⟩
 ·have e1:lo+((0:Nat):Int)*1=lo:=by simp
  have e2:(((hi-lo).toNat:Nat):Int)-((0:Nat):Int)=Builtin.Range.rangeSize lo hi 1:=by rw [rangeSize_one];split <;> omega
  show IsRangeIter _ _ (lo+((0:Nat):Int)*1) ((((hi-lo).toNat:Nat):Int)-((0:Nat):Int)) 1
  rw [e1,e2]
  exact Heap.get?_push_size _ rfl
 ·have e:b=(s.heap.push { cls:=.type "range",data:=.fields #[.int lo t,.int hi u,.int 1 v] }).objs.size:=by simpa using hb
  subst e
  exact I1.fpOk (Nat.le_refl _) (I1.hok.fresh (Nat.le_refl _))
def iRng1 (ta:TA):TI:=λσ H R=>ta σ H λvs H1=>∃j:Int,vs=[.int j] /\ -(2 ^ 62)<=j/\j<2 ^ 62/\R (Itr 0 j.toNat) H1
theorem pi_range1 {a:Expr} {ta:TA} {p pos:Pos} (hg:Gl X "range") (hm:X.mg "range" = none) (ha:PA X [a] ta) (hs:starEach [a] X.env=[(false,eval a X.env)]:=by rfl):PI X tg (.Call (.Name "range" p) [a] [] pos) (iRng1 ta):=by
 intro pins s σ H R I h
 refine Call_ (ld_blt I hg hm boot_range (PyProof.Rows.callWith_type1 (thn (ha pos pins s σ H _ I h) λus s1 ⟨vs,H1,I1,r1,q1⟩=>?_) hs rfl))
 obtain ⟨j,e,q1,q2,q⟩:=q1
 subst e
 cases r1 with
 | cons r rr =>
  cases rr
  obtain ⟨t,rfl⟩:=r
  exact call_range_1 (range_it I1 (by omega) (by omega) q1 q2 (by simpa using q))
def tFor (wi:TI) (g:TG) (tb:TS):TS:=λD σ H=>wi σ H λJ H1=>∃W:Nat->Nat->St->Hp->Prop,(∃m,W 0 m σ H1)/\∀i m σ H,W i m σ H ->
 (J.stop i H/\D.nx σ H)\/(J.go i H/\∃N:St->Hp->Prop,(∀σ' H',N σ' H'->∃m',m' < m/\W (i+1) m' σ' H')/\∀x H',J.yld i H x H'->g x σ H' λσ2 H2=>tb { D with nx:=N,ct:=N,bk:=D.nx } σ2 H2)
def pinsAt (fp:List Addr) (h:Heap):List (Addr × Obj):=fp.filterMap λb=>(h.get? b).map λo=>(b,o)
theorem mem_pinsAt {fp:List Addr} {h:Heap} {b:Addr} {o:Obj} (hb:b∈fp) (e:h.get? b=some o):(b,o)∈pinsAt fp h:=List.mem_filterMap.mpr ⟨b,hb,by rw [e];rfl⟩
theorem of_pinsAt {fp:List Addr} {h:Heap} {p:Addr × Obj} (hp:p∈pinsAt fp h):p.1∈fp/\h.get? p.1=some p.2:=by
 obtain ⟨b,hb,e⟩:=List.mem_filterMap.mp hp
 cases q:h.get? b with
 | none=>rw [q] at e;cases e
 | some o =>
  rw [q] at e
  have e':(b,o)=p:=Option.some.inj e
  subst e'
  exact ⟨hb,q⟩
theorem Inv.pinned {pins:List (Addr × Obj)} {σ:St} {H:Hp} {s:Shared} {fp:List Addr} (I:Inv X pins σ H s) (hf:∀b∈fp,FpOk X pins H b) (ho:∀b∈fp,∃o,s.heap.get? b=some o/\∀v,o.data ≠ .cell v):Inv X (pins++pinsAt fp s.heap) σ H s :=
 I.pins_of λp hp=>(List.mem_append.mp hp).elim (λz=>I.pin p (List.mem_append_right _ z)) λz=>by
  obtain ⟨hb,e⟩:=of_pinsAt z
  obtain ⟨f0,f1,f2,_⟩:=hf p.1 hb
  obtain ⟨o,e',d⟩:=ho p.1 hb
  rw [e] at e';cases e'
  exact ⟨e,f0,f1,f2,d⟩
theorem Inv.unpinned {pins pl:List (Addr × Obj)} {σ:St} {H:Hp} {s:Shared} (I:Inv X (pins++pl) σ H s):Inv X pins σ H s:=I.pins_of λp hp=>I.pin p (List.mem_append_right _ (List.mem_append_left _ hp))
theorem ps_for {iter:Expr} {body:List Stmt} {wi:TI} {g:TG} {tb:TS} {pos:Pos} (hp:PassesOwn (model X.prog X.w) X.A X.env X.xe) (hc:X.calm=true) (hi:PI X tg iter wi) (hg:PG X tg g) (hb:PSs X body tb)
  (hs:∀x,foldedSetIterable iter X.env x=pure x:=by intro _;rfl):PS X (.For tg iter body [] pos) (tFor wi g tb):=by
 intro pins s σ H D I h
 refine wpAny_For (thn (hi pins s σ H _ I h) λv s1 h1=>thn h1 λitv s2 h2=>?_) hs
 obtain ⟨it,fp,tn,J,H2,e,I2,T,st2,f2,W,⟨m0,w0⟩,turn⟩:=h2
 subst e
 -- what stays true of the iterator's objects through the loop
 have stat:∀{H':Hp},(∀b∈fp,H' b=none)->∀b∈fp,FpOk X pins H' b:=λhn b hb=>⟨hn b hb,(f2 b hb).2⟩
 refine codeAny_forLoop_any (λn s'=>∃i σ' H',Inv X pins σ' H' s'/\tn i s'.heap/\(∀b∈fp,H' b=none)/\W i n σ' H') ?_ m0 ⟨0,σ,H2,I2,st2,λb hb=>(f2 b hb).1,w0⟩
 rintro n s3 ⟨i,σ3,H3,I3,st3,fr3,w3⟩
 rcases turn i n σ3 H3 w3 with ⟨stop,qn⟩ | ⟨go,N,hN,step⟩
 ·refine wpAny_passesOwn hp (thn (T.done X rfl rfl rfl hc i pins s3 σ3 H3 X.xe I3 (stat fr3) st3 stop) λr s4 ⟨hr,I4⟩=>?_)
  subst hr
  exact wpAny_execs_nil ⟨σ3,H3,I4,qn⟩
 ·refine wpAny_passesOwn hp (thn (T.item X rfl rfl rfl hc i pins s3 σ3 H3 X.xe I3 (stat fr3) st3 go) λr s4 ⟨u,hr,h4⟩=>?_)
  subst hr
  refine wpAny_passesOwn hp (thn h4 λ_ s5 ⟨x,H5,I5,r5,y5,st5,fr5⟩=>?_)
  have I5':=I5.pinned (stat fr5) (T.obj _ _ st5)
  refine wpAny_passesOwn hp (thn (hg _ s5 σ3 H5 x u _ I5' r5 (step x H5 y5)) λ_ s6 ⟨σ6,H6,I6,q6⟩=>?_)
  refine wpAny_passesOwn hp (thn (hb _ s6 σ6 H6 _ I6 q6) λf s7 q7=>?_)
  have again:∀{σ7:St} {H7:Hp},Inv X (pins++pinsAt fp s5.heap) σ7 H7 s7->N σ7 H7->∃m,m<n/\∃i σ' H',Inv X pins σ' H' s7/\tn i s7.heap/\(∀b∈fp,H' b=none)/\W i m σ' H':=λ{σ7 H7} I7 n7=>by
   obtain ⟨m',hm,w7⟩:=hN σ7 H7 n7
   refine ⟨m',hm,i+1,σ7,H7,I7.unpinned,T.keep _ _ _ st5 λb hb o e=>(I7.pin (b,o) (List.mem_append_right _ (List.mem_append_right _ (mem_pinsAt hb e)))).1,λb hb=>?_,w7⟩
   obtain ⟨o,e,d⟩:=T.obj _ _ st5 b hb
   exact (I7.pin (b,o) (List.mem_append_right _ (List.mem_append_right _ (mem_pinsAt hb e)))).2.1
  cases f with
  | next=>obtain ⟨σ7,H7,I7,n7⟩:=q7;exact again I7 n7
  | cont=>obtain ⟨σ7,H7,I7,n7⟩:=q7;exact again I7 n7
  | brk=>obtain ⟨σ7,H7,I7,q7⟩:=q7;exact ⟨σ7,H7,I7.unpinned,q7⟩
  | ret v=>obtain ⟨x7,σ7,H7,I7,r7,q7⟩:=q7;exact ⟨x7,σ7,H7,I7.unpinned,r7,q7⟩
end
end L2
namespace L2
open PySem PySem.Spec PyProof.Rows
abbrev R2:=V->V->Hp->VK->Prop
def OpR (X:Cx) (f:Value->Value->Sem Value) (r:R2):Prop :=
 ∀(pins:List (Addr × Obj)) (s:Shared) (σ:St) (H:Hp) (x y:V) (v u:Value) (Q:VK),Inv X pins σ H s->RelV x v->RelV y u->r x y H Q ->
  wpAny (model X.prog X.w) X.A (f v u) (EP X pins σ Q) X.xe s
def UnR (X:Cx) (f:Value->Sem Value) (r:V->Hp->VK->Prop):Prop :=
 ∀(pins:List (Addr × Obj)) (s:Shared) (σ:St) (H:Hp) (x:V) (v:Value) (Q:VK),Inv X pins σ H s->RelV x v->r x H Q ->
  wpAny (model X.prog X.w) X.A (f v) (EP X pins σ Q) X.xe s
def CallR (X:Cx) (f:Value) (r:List V->Hp->VK->Prop):Prop :=
 ∀(pins:List (Addr × Obj)) (s:Shared) (σ:St) (H:Hp) (xs:List V) (us:List Value) (Q:VK),Inv X pins σ H s->Vals xs us->r xs H Q ->
  wpAny (model X.prog X.w) X.A (call f us) (EP X pins σ Q) X.xe s
def TruR (X:Cx) (r:V->Hp->(Bool->Hp->Prop)->Prop):Prop :=
 ∀(pins:List (Addr × Obj)) (s:Shared) (σ:St) (H:Hp) (x:V) (v:Value) (Q:Bool->Hp->Prop),Inv X pins σ H s->RelV x v->r x H Q ->
  wpAny (model X.prog X.w) X.A (truthy v) (TP X pins σ Q) X.xe s
def tOp (r:R2) (ta tb:TE):TE:=λσ H Q=>ta σ H λx H1=>tb σ H1 λy H2=>r x y H2 Q
def tUn (r:V->Hp->VK->Prop) (ta:TE):TE:=λσ H Q=>ta σ H λx H1=>r x H1 Q
def rI (C:Int->Int->Prop) (g:Int->Int->V):R2:=λx y H Q=>∃i j,x=.int i/\y=.int j/\C i j/\Q (g i j) H
def rI0 (g:Int->Int->V):R2:=λx y H Q=>∃i j,x=.int i/\y=.int j/\Q (g i j) H
def rU (g:Int->V):V->Hp->VK->Prop:=λx H Q=>∃i,x=.int i/\Q (g i) H
section
variable {X:Cx} {a b c:Expr} {ta tb tc:TE} {pos:Pos}
theorem binT (ha:PE X a ta) (hb:PE X b tb) {pins:List (Addr × Obj)} {s:Shared} {σ:St} {H:Hp} {R:V->V->Hp->Prop} (I:Inv X pins σ H s)
  (h:ta σ H λx H1=>tb σ H1 λy H2=>R x y H2) {Q:Value->Shared->Prop} {f:Value->Value->Sem Value}
  (hf:∀v u s2 x y H2,Inv X pins σ H2 s2->RelV x v->RelV y u->R x y H2->wpAny (model X.prog X.w) X.A (f v u) Q X.xe s2) :
  wpAny (model X.prog X.w) X.A (eval a X.env) (λv s₁=>wpAny (model X.prog X.w) X.A (eval b X.env) (λu s₂=>wpAny (model X.prog X.w) X.A (f v u) Q X.xe s₂) X.xe s₁) X.xe s:=by
 refine thn (ha pins s σ H _ I h) λv s1 ⟨x,H1,I1,r1,q1⟩=>?_
 refine thn (hb pins s1 σ H1 _ I1 q1) λu s2 ⟨y,H2,I2,r2,q2⟩=>?_
 exact hf v u s2 x y H2 I2 r1 r2 q2
theorem pe_op {op:Operator} {r:R2} (ho:OpR X (binaryOp op) r) (ha:PE X a ta) (hb:PE X b tb):PE X (.BinOp a op b pos) (tOp r ta tb):=by
 intro pins s σ H Q I h
 exact wpAny_BinOp (binT ha hb I h λv u s2 x y H2 I2 rx ry q=>ho pins s2 σ H2 x y v u Q I2 rx ry q)
theorem pe_un {op:UnaryOp} {r:V->Hp->VK->Prop} (ho:UnR X (unaryOp op) r) (ha:PE X a ta):PE X (.UnaryOp op a pos) (tUn r ta):=by
 intro pins s σ H Q I h
 exact UnaryOp_ (thn (ha pins s σ H _ I h) λv s1 ⟨x,H1,I1,r1,q1⟩=>ho pins s1 σ H1 x v Q I1 r1 q1)
theorem opI {f:Value->Value->Sem Value} {C:Int->Int->Prop} {g:Int->Int->Int}
  (rule:∀(i j:Int) (t u:Tok) (s:Shared) (Q:Value->Shared->Prop) (E:Value->Shared->Prop),C i j->Q (.int (g i j) s.toks) { s with toks:=s.toks+1 }->wpAny (model X.prog X.w) X.A (f (.int i t) (.int j u)) Q E s) :
  OpR X f (rI C λi j=>.int (g i j)):=by
 intro pins s σ H x y v u Q I rx ry h
 obtain ⟨i,j,rfl,rfl,hc,q⟩:=h
 obtain ⟨t,rfl⟩:=rx
 obtain ⟨t',rfl⟩:=ry
 exact rule i j t t' s _ _ hc ⟨.int (g i j),H,I.tok _,⟨_,rfl⟩,q⟩
theorem opI0 {f:Value->Value->Sem Value} {g:Int->Int->Int}
  (rule:∀(i j:Int) (t u:Tok) (s:Shared) (Q:Value->Shared->Prop) (E:Value->Shared->Prop),Q (.int (g i j) s.toks) { s with toks:=s.toks+1 }->wpAny (model X.prog X.w) X.A (f (.int i t) (.int j u)) Q E s) :
  OpR X f (rI0 λi j=>.int (g i j)):=by
 intro pins s σ H x y v u Q I rx ry h
 obtain ⟨i,j,rfl,rfl,q⟩:=h
 obtain ⟨t,rfl⟩:=rx
 obtain ⟨t',rfl⟩:=ry
 exact rule i j t t' s _ _ ⟨.int (g i j),H,I.tok _,⟨_,rfl⟩,q⟩
theorem opB0 {f:Value->Value->Sem Value} {g:Int->Int->Bool}
  (rule:∀(i j:Int) (t u:Tok) (s:Shared) (Q:Value->Shared->Prop) (E:Value->Shared->Prop),Q (.bool (g i j)) s->wpAny (model X.prog X.w) X.A (f (.int i t) (.int j u)) Q E s) :
  OpR X f (rI0 λi j=>.bl (g i j)):=by
 intro pins s σ H x y v u Q I rx ry h
 obtain ⟨i,j,rfl,rfl,q⟩:=h
 obtain ⟨t,rfl⟩:=rx
 obtain ⟨t',rfl⟩:=ry
 exact rule i j t t' s _ _ ⟨.bl (g i j),H,I,rfl,q⟩
def CDiv (i j:Int):Prop:=0<j/\j<1073741824
def CDivN (i j:Int):Prop:=j≠0/\j.natAbs<1073741824
def CMul (i j:Int):Prop:=(-(2 ^ 64)<i/\i<2 ^ 64)\/(-(2 ^ 64)<j/\j<2 ^ 64)
theorem CMul.ok {i j:Int} (h:CMul i j):IntMulOk i j:=by
 rcases h with ⟨h1,h2⟩ | ⟨h1,h2⟩
 ·exact .of_left (intBits_le_64 h1 h2)
 ·exact .of_right (intBits_le_64 h1 h2)
theorem op_add:OpR X (binaryOp .Add) (rI0 λi j=>.int (i+j)):=opI0 λ_ _ _ _ _ _ _ q=>add_int q
theorem op_sub:OpR X (binaryOp .Sub) (rI0 λi j=>.int (i-j)):=opI0 λ_ _ _ _ _ _ _ q=>sub_int q
theorem op_mul:OpR X (binaryOp .Mult) (rI CMul λi j=>.int (i*j)):=opI λ_ _ _ _ _ _ _ hc q=>mul_int q hc.ok
theorem op_fdiv:OpR X (binaryOp .FloorDiv) (rI CDiv λi j=>.int (i / j)):=opI λi j _ _ _ _ _ hc q=>by
 have h1:(0:Int)<j:=hc.1
 have h2:j<1073741824:=hc.2
 exact floordiv_int (by omega) (by rw [Int.fdiv_eq_ediv_of_nonneg i (by omega)];exact q) (.inl (PyProof.noPylong_small (by omega)))
theorem op_fdivN:OpR X (binaryOp .FloorDiv) (rI CDivN λi j=>.int (i.fdiv j)):=opI λ_ _ _ _ _ _ _ hc q=>floordiv_int hc.1 q (.inl (PyProof.noPylong_small hc.2))
theorem op_mod:OpR X (binaryOp .Mod) (rI (λ_ j=>0<j) λi j=>.int (i % j)):=opI λi j _ _ _ _ _ hc q=>by
 have h1:(0:Int)<j:=hc
 exact mod_int' (by omega) (by rw [Int.fmod_eq_emod_of_nonneg i (by omega)];exact q)
theorem op_modN:OpR X (binaryOp .Mod) (rI (λ_ j=>j≠0) λi j=>.int (i.fmod j)):=opI λ_ _ _ _ _ _ _ hc q=>mod_int' hc q
theorem unI {f:Value->Sem Value} {g:Int->Int}
  (rule:∀(i:Int) (t:Tok) (s:Shared) (Q:Value->Shared->Prop) (E:Value->Shared->Prop),Q (.int (g i) s.toks) { s with toks:=s.toks+1 }->wpAny (model X.prog X.w) X.A (f (.int i t)) Q E s) :
  UnR X f (rU λi=>.int (g i)):=by
 intro pins s σ H x v Q I rx h
 obtain ⟨i,rfl,q⟩:=h
 obtain ⟨t,rfl⟩:=rx
 exact rule i t s _ _ ⟨.int (g i),H,I.tok _,⟨_,rfl⟩,q⟩
theorem un_neg:UnR X (unaryOp .USub) (rU λi=>.int (-i)):=unI λ_ _ _ _ _ q=>neg_int q
end
def scal:V->V->Bool
 | .non,.non=>true | .non,.int _=>true | .int _,.non=>true | .non,.bl _=>true | .bl _,.non=>true | .non,.str _=>true | .str _,.non=>true
 | .int _,.int _=>true | .bl _,.bl _=>true | .str _,.str _=>true | .byt _,.byt _=>true
 | .int _,.str _=>true | .str _,.int _=>true | .bl _,.str _=>true | .str _,.bl _=>true
 | _,_=>false
def rEq:R2:=λx y H Q=>scal x y=true/\Q (.bl (decide (x=y))) H
def rNe:R2:=λx y H Q=>scal x y=true/\Q (.bl (!decide (x=y))) H
theorem dec_int {i j:Int}:decide (V.int i=V.int j)=(i == j):=by
 rw [Bool.eq_iff_iff]
 simp
theorem dec_bl {i j:Bool}:decide (V.bl i=V.bl j)=(i == j):=by
 rw [Bool.eq_iff_iff]
 simp
theorem dec_str {i j:Str}:decide (V.str i=V.str j)=(i == j):=by
 rw [Bool.eq_iff_iff]
 simp
theorem dec_byt {i j:Array UInt8}:decide (V.byt i=V.byt j)=(i.toList == j.toList):=by
 rw [Bool.eq_iff_iff]
 cases i
 cases j
 simp
section
variable {X:Cx} {a b c:Expr} {ta tb tc:TE} {pos:Pos}
theorem fin_bl {pins:List (Addr × Obj)} {σ:St} {H:Hp} {s:Shared} {Q:VK} {k k':Bool} (I:Inv X pins σ H s) (q:Q (.bl k) H) (e:k=k'):EP X pins σ Q (.bool k') s:=by
 subst e
 exact ⟨.bl k,H,I,rfl,q⟩
theorem op_eq:OpR X (compareOp .Eq) rEq:=by
 intro pins s σ H x y v u Q I rx ry h
 obtain ⟨hs,q⟩:=h
 cases x with
 | non =>
  cases rx
  cases y with
  | non=>cases ry;exact PySem.EqNone.eq_none_none (fin_bl I q (by simp))
  | bl j=>cases ry;exact PySem.EqNone.eq_none_bool (fin_bl I q (by simp))
  | int j=>obtain ⟨t',rfl⟩:=ry;exact PySem.EqNone.eq_none_int (fin_bl I q (by simp))
  | str j=>obtain ⟨t',rfl⟩:=ry;exact PySem.EqNone.eq_none_str (fin_bl I q (by simp))
  | _=>exact absurd (show false=true from hs) Bool.false_ne_true
 | bl i =>
  cases rx
  cases y with
  | non=>cases ry;exact PySem.EqNone.eq_bool_none (fin_bl I q (by simp))
  | bl j=>cases ry;exact eq_bool (fin_bl I q dec_bl)
  | str j=>obtain ⟨t',rfl⟩:=ry;exact PySem.EqMixed.eq_bool_str (fin_bl I q (by simp))
  | _=>exact absurd (show false=true from hs) Bool.false_ne_true
 | int i =>
  obtain ⟨t,rfl⟩:=rx
  cases y with
  | non=>cases ry;exact PySem.EqNone.eq_int_none (fin_bl I q (by simp))
  | int j=>obtain ⟨t',rfl⟩:=ry;exact eq_int (fin_bl I q dec_int)
  | str j=>obtain ⟨t',rfl⟩:=ry;exact PySem.EqMixed.eq_int_str (fin_bl I q (by simp))
  | _=>exact absurd (show false=true from hs) Bool.false_ne_true
 | str i =>
  obtain ⟨t,rfl⟩:=rx
  cases y with
  | non=>cases ry;exact PySem.EqNone.eq_str_none (fin_bl I q (by simp))
  | bl j=>cases ry;exact PySem.EqMixed.eq_str_bool (fin_bl I q (by simp))
  | int j=>obtain ⟨t',rfl⟩:=ry;exact PySem.EqMixed.eq_str_int (fin_bl I q (by simp))
  | str j=>obtain ⟨t',rfl⟩:=ry;exact eq_str (fin_bl I q dec_str)
  | _=>exact absurd (show false=true from hs) Bool.false_ne_true
 | byt i =>
  obtain ⟨t,rfl⟩:=rx
  cases y with
  | byt j=>obtain ⟨t',rfl⟩:=ry;exact PySem.W.eq_bytes (fin_bl I q dec_byt)
  | _=>exact absurd (show false=true from hs) Bool.false_ne_true
 | _=>cases y <;> exact absurd (show false=true from hs) Bool.false_ne_true
theorem op_ne:OpR X (compareOp .NotEq) rNe:=by
 intro pins s σ H x y v u Q I rx ry h
 obtain ⟨hs,q⟩:=h
 cases x with
 | non =>
  cases rx
  cases y with
  | non=>cases ry;exact PySem.EqNone.ne_none_none (fin_bl I q (by simp))
  | bl j=>cases ry;exact PySem.EqNone.ne_none_bool (fin_bl I q (by simp))
  | int j=>obtain ⟨t',rfl⟩:=ry;exact PySem.EqNone.ne_none_int (fin_bl I q (by simp))
  | str j=>obtain ⟨t',rfl⟩:=ry;exact PySem.EqNone.ne_none_str (fin_bl I q (by simp))
  | _=>exact absurd (show false=true from hs) Bool.false_ne_true
 | bl i =>
  cases rx
  cases y with
  | non=>cases ry;exact PySem.EqNone.ne_bool_none (fin_bl I q (by simp))
  | bl j=>cases ry;exact ne_bool (fin_bl I q (congrArg not dec_bl))
  | str j=>obtain ⟨t',rfl⟩:=ry;exact PySem.EqMixed.ne_bool_str (fin_bl I q (by simp))
  | _=>exact absurd (show false=true from hs) Bool.false_ne_true
 | int i =>
  obtain ⟨t,rfl⟩:=rx
  cases y with
  | non=>cases ry;exact PySem.EqNone.ne_int_none (fin_bl I q (by simp))
  | int j=>obtain ⟨t',rfl⟩:=ry;exact ne_int (fin_bl I q (congrArg not dec_int))
  | str j=>obtain ⟨t',rfl⟩:=ry;exact PySem.EqMixed.ne_int_str (fin_bl I q (by simp))
  | _=>exact absurd (show false=true from hs) Bool.false_ne_true
 | str i =>
  obtain ⟨t,rfl⟩:=rx
  cases y with
  | non=>cases ry;exact PySem.EqNone.ne_str_none (fin_bl I q (by simp))
  | bl j=>cases ry;exact PySem.EqMixed.ne_str_bool (fin_bl I q (by simp))
  | int j=>obtain ⟨t',rfl⟩:=ry;exact PySem.EqMixed.ne_str_int (fin_bl I q (by simp))
  | str j=>obtain ⟨t',rfl⟩:=ry;exact ne_str (fin_bl I q (congrArg not dec_str))
  | _=>exact absurd (show false=true from hs) Bool.false_ne_true
 | byt i =>
  obtain ⟨t,rfl⟩:=rx
  cases y with
  | byt j=>obtain ⟨t',rfl⟩:=ry;exact PySem.W.ne_bytes (fin_bl I q (congrArg not dec_byt))
  | _=>exact absurd (show false=true from hs) Bool.false_ne_true
 | _=>cases y <;> exact absurd (show false=true from hs) Bool.false_ne_true
theorem op_lt:OpR X (compareOp .Lt) (rI0 λi j=>.bl (decide (i<j))):=opB0 λ_ _ _ _ _ _ _ q=>lt_int q
theorem op_le:OpR X (compareOp .LtE) (rI0 λi j=>.bl (decide (i<=j))):=opB0 λ_ _ _ _ _ _ _ q=>le_int q
theorem op_gt:OpR X (compareOp .Gt) (rI0 λi j=>.bl (decide (j<i))):=opB0 λ_ _ _ _ _ _ _ q=>gt_int q
theorem op_ge:OpR X (compareOp .GtE) (rI0 λi j=>.bl (decide (j<=i))):=opB0 λ_ _ _ _ _ _ _ q=>ge_int q
theorem op_in_str:OpR X (compareOp .In) (λx y H Q=>∃i j,x=.str i/\y=.str j/\Q (.bl (!(Builtin.Str.occurrences j i 0 j.length 1).isEmpty)) H):=by
 intro pins s σ H x y v u Q I rx ry h
 obtain ⟨i,j,rfl,rfl,q⟩:=h
 obtain ⟨t,rfl⟩:=rx
 obtain ⟨t',rfl⟩:=ry
 exact in_str (fin_bl I q rfl)
theorem op_notN:OpR X (compareOp .IsNot) (λx y H Q=>y=.non/\Q (.bl (!decide (x=.non))) H):=by
 intro pins s σ H x y v u Q I rx ry h
 obtain ⟨rfl,q⟩:=h
 cases ry
 refine isnot_none_gen (fin_bl I q ?_)
 cases x <;> first
  | (cases rx;rfl)
  | (obtain ⟨t,rfl⟩:=rx;rfl)
theorem OpR.or {f:Value->Value->Sem Value} {r r':R2} (h:OpR X f r) (h':OpR X f r'):OpR X f (λx y H Q=>r x y H Q\/r' x y H Q):=by
 intro pins s σ H x y v u Q I rx ry q
 rcases q with q | q
 ·exact h pins s σ H x y v u Q I rx ry q
 ·exact h' pins s σ H x y v u Q I rx ry q
theorem nomark (b:Expr) {op:CmpOp} (h:op ≠ .In:=by decide) (h2:op ≠ .NotIn:=by decide):behindInMarks op b=false:=by
 have e1:(op == CmpOp.In)=false:=by cases op <;> first | rfl | exact absurd rfl h
 have e2:(op == CmpOp.NotIn)=false:=by cases op <;> first | rfl | exact absurd rfl h2
 cases b <;> simp [behindInMarks,e1,e2]
theorem pe_cmpR {op:CmpOp} {r:R2} (ho:OpR X (compareOp op) r) (ha:PE X a ta) (hb:PE X b tb) (hm:behindInMarks op b=false):PE X (.Compare a [op] [b] pos) (tOp r ta tb):=by
 intro pins s σ H Q I h
 exact wpAny_Compare1 (binT ha hb I h λv u s2 x y H2 I2 rx ry q=>ho pins s2 σ H2 x y v u Q I2 rx ry q) hm
def tTest (t:TE):TT:=λσ H Q=>t σ H λx H'=>∃k,x=.bl k/\Q k H'
theorem pt_cmpR {op:CmpOp} {r:R2} (ho:OpR X (compareOp op) r) (ha:PE X a ta) (hb:PE X b tb) (hm:behindInMarks op b=false):PT X (.Compare a [op] [b] pos) (tTest (tOp r ta tb)):=by
 intro pins s σ H Q I h
 refine wpAny_isTrue_Compare1 (thn (ha pins s σ H _ I h) λv s1 ⟨x,H1,I1,r1,q1⟩=>thn (hb pins s1 σ H1 _ I1 q1) λu s2 ⟨y,H2,I2,r2,q2⟩ =>
  thn (ho pins s2 σ H2 x y v u _ I2 r1 r2 q2) λc s3 ⟨z,H3,I3,r3,k,e,q3⟩=>?_) hm
 subst e
 cases r3
 exact wpAny_truthy_bool ⟨H3,I3,q3⟩
def tChain (r r':R2) (ta tb tc:TE):TE:=λσ H Q=>ta σ H λx H1=>tb σ H1 λy H2=>r x y H2 λz H3=>∃k,z=.bl k /\
 (if k=true then tc σ H3 λw' H4=>r' y w' H4 Q else Q (.bl false) H3)
theorem pe_chain {op op':CmpOp} {r r':R2} (ho:OpR X (compareOp op) r) (ho':OpR X (compareOp op') r') (ha:PE X a ta) (hb:PE X b tb) (hc:PE X c tc)
  (hm:lastMarks [op,op'] [b,c]=false:=by with_unfolding_all rfl):PE X (.Compare a [op,op'] [b,c] pos) (tChain r r' ta tb tc):=by
 intro pins s σ H Q I h
 refine Compare_chain (thn (ha pins s σ H _ I h) λv s1 ⟨x,H1,I1,r1,q1⟩=>chain_link (thn (hb pins s1 σ H1 _ I1 q1) λu s2 ⟨y,H2,I2,r2,q2⟩ =>
  thn (ho pins s2 σ H2 x y v u _ I2 r1 r2 q2) λd s3 ⟨z,H3,I3,r3,k,e,q3⟩=>?_)) hm
 subst e
 cases r3
 refine wpAny_truthy_bool ?_
 cases k with
 | false=>exact ite_ff ⟨.bl false,H3,I3,rfl,q3⟩
 | true=>exact ite_tt (chain_last (thn (hc pins s3 σ H3 _ I3 q3) λw' s4 ⟨z',H4,I4,r4,q4⟩=>ho' pins s4 σ H4 y z' u w' Q I4 r2 r4 q4))
def TruV (K:PySem.W.Frag) (x:V) (H:Hp) (k:Bool):Prop :=
 match x with
 | .non=>k=false
 | .bl b=>k=b
 | .int i=>k=(i != 0)
 | .str y=>y.length<=sizeLine/\k=((y.length:Int) != 0)
 | .byt y=>y.size<=sizeLine/\k=((y.size:Int) != 0)
 | .ref p=>(∃xs,SqL K H p xs/\k = !xs.isEmpty)\/(∃xs,SqT K H p xs/\k = !xs.isEmpty)\/∃kvs,H p=some (.dK kvs)/\k = !kvs.isEmpty
 | _=>False
theorem isEmpty_kv {κ:Type} {kvs:List (κ × V)} {vs:List (κ × Value)} (r:KV kvs vs):(!vs.isEmpty) = !kvs.isEmpty:=by
 cases r <;> rfl
theorem isEmpty_of {xs:List V} {its:List Value} (r:Vals xs its):(!its.toArray.isEmpty) = !xs.isEmpty:=by
 cases r <;> simp
theorem line63:(sizeLine:Nat)<2 ^ 63:=by rw [sizeLine_eq];decide
theorem tru_ok:TruR X (λx H Q=>∃k,TruV X.K x H k/\Q k H):=by
 intro pins s σ H x v Q I rx h
 obtain ⟨k,e,q⟩:=h
 have hl:=line63
 have hs:sizeLine=16777216:=sizeLine_eq
 cases x with
 | non =>
  cases rx
  have e':k=false:=e
  subst e'
  exact truthy_none ⟨H,I,q⟩
 | bl b =>
  cases rx
  have e':k=b:=e
  subst e'
  exact wpAny_truthy_bool ⟨H,I,q⟩
 | int i =>
  obtain ⟨t,rfl⟩:=rx
  have e':k=(i != 0):=e
  subst e'
  exact PySem.P.truthy_int ⟨H,I,q⟩
 | str y =>
  obtain ⟨t,rfl⟩:=rx
  obtain ⟨hy,e'⟩:y.length<=sizeLine/\k=((y.length:Int) != 0):=e
  subst e'
  exact PySem.P.truthy_str (by omega) ⟨H,I.tok _,q⟩
 | byt y =>
  obtain ⟨t,rfl⟩:=rx
  obtain ⟨hy,e'⟩:y.size<=sizeLine/\k=((y.size:Int) != 0):=e
  subst e'
  exact PySem.W.truthy_bytes (by omega) ⟨H,I.tok _,q⟩
 | ref p =>
  cases rx
  have e':(∃xs,SqL X.K H p xs/\k = !xs.isEmpty)\/(∃xs,SqT X.K H p xs/\k = !xs.isEmpty)\/∃kvs,H p=some (.dK kvs)/\k = !kvs.isEmpty:=e
  rcases e' with ⟨xs,hx,e'⟩ | ⟨xs,hx,e'⟩ | ⟨kvs,hx,e'⟩
  ·subst e'
   obtain ⟨its,r,pl,hz⟩:=I.list hx
   have hlen:=r.length
   exact wpAny_truthy_list pl.isList (by simp only [List.size_toArray];omega) ⟨H,I.tok _,by rw [isEmpty_of r];exact q⟩
  ·subst e'
   obtain ⟨its,r,pl,hz⟩:=I.tuple hx
   have hlen:=r.length
   exact truthy_tuple pl (by simp only [List.size_toArray];omega) ⟨H,I.tok _,by rw [isEmpty_of r];exact q⟩
  ·subst e'
   obtain ⟨hz,hS,vs,r,m⟩:kvs.length<=sizeLine/\(p == sysModules)=false/\∃vs,KV kvs vs/\s.heap.DictOf (mixKind X.prog X.w) p vs:=I.hok p _ hx
   have hlen:kvs.length=vs.length:=Paired.length r
   exact wpAny_truthy_dict hS m (by omega) ⟨H,I.tok _,by rw [isEmpty_kv r];exact q⟩
 | _=>exact (show False from e).elim
theorem pt_truth (ha:PE X a ta) (he:∀whole,isTrue a X.env whole=(do let v ← whole;standAt a.pos;holding [v] (truthy v))) :
  PT X a (λσ H Q=>ta σ H λx H'=>∃k,TruV X.K x H' k/\Q k H'):=by
 intro pins s σ H Q I h
 exact isTrue_plain (thn (ha pins s σ H _ I h) λv s1 ⟨x,H1,I1,r1,q1⟩=>tru_ok pins s1 σ H1 x v Q I1 r1 q1) (he _)
theorem op_add_str:OpR X (binaryOp .Add) (λx y H Q=>∃i j,x=.str i/\y=.str j/\i.length+j.length<=sizeLine/\Q (.str (i++j)) H):=by
 intro pins s σ H x y v u Q I rx ry h
 obtain ⟨i,j,rfl,rfl,hz,q⟩:=h
 obtain ⟨t,rfl⟩:=rx
 obtain ⟨t',rfl⟩:=ry
 exact add_str (λt' tk=>⟨.str (i++j),H,I.tok _,⟨_,rfl⟩,q⟩) hz
theorem vals1 {x:V} {us:List Value} (r:Vals [x] us):∃u,us=[u]/\RelV x u:=by
 cases r with
 | cons r1 r2=>cases r2;exact ⟨_,rfl,r1⟩
theorem vals2 {x y:V} {us:List Value} (r:Vals [x,y] us):∃u w',us=[u,w']/\RelV x u/\RelV y w':=by
 cases r with
 | cons r1 r2 =>
  cases r2 with
  | cons r3 r4=>cases r4;exact ⟨_,_,rfl,r1,r3⟩
theorem call_abs:CallR X (.builtin "abs") (λxs H Q=>∃i,xs=[.int i]/\Q (.int (if i<0 then -i else i)) H):=by
 intro pins s σ H xs us Q I r h
 obtain ⟨i,rfl,q⟩:=h
 obtain ⟨u,rfl,t,rfl⟩:=vals1 r
 exact call_abs_int λu tk=>⟨.int (if i<0 then -i else i),H,I.tok _,⟨_,rfl⟩,q⟩
theorem call_int1:CallR X (.type "int") (λxs H Q=>(∃i,xs=[.int i]/\Q (.int i) H)\/∃k,xs=[.bl k]/\Q (.int (if k then 1 else 0)) H):=by
 intro pins s σ H xs us Q I r h
 rcases h with ⟨i,rfl,q⟩ | ⟨k,rfl,q⟩
 ·obtain ⟨u,rfl,t,rfl⟩:=vals1 r
  exact call_int_int ⟨.int i,H,I,⟨_,rfl⟩,q⟩
 ·obtain ⟨u,rfl,r1⟩:=vals1 r
  cases r1
  exact call_int_bool ⟨.int (if k then 1 else 0),H,I.tok _,⟨_,rfl⟩,q⟩
def LenV (K:PySem.W.Frag) (x:V) (H:Hp) (n:Nat):Prop :=
 match x with
 | .str y=>y.length<=sizeLine/\n=y.length
 | .byt y=>y.size<=sizeLine/\n=y.size
 | .ref p=>(∃xs,SqL K H p xs/\n=xs.length)\/∃xs,SqT K H p xs/\n=xs.length
 | _=>False
theorem call_len:CallR X (.builtin "len") (λxs H Q=>∃x n,xs=[x]/\LenV X.K x H n/\Q (.int n) H):=by
 intro pins s σ H xs us Q I r h
 obtain ⟨x,n,rfl,e,q⟩:=h
 obtain ⟨u,rfl,rx⟩:=vals1 r
 have hl:=line63
 have hs:sizeLine=16777216:=sizeLine_eq
 cases x with
 | str y =>
  obtain ⟨t,rfl⟩:=rx
  obtain ⟨hy,e'⟩:y.length<=sizeLine/\n=y.length:=e
  subst e'
  exact len_str (by omega) ⟨.int _,H,I.tok _,⟨_,rfl⟩,q⟩
 | byt y =>
  obtain ⟨t,rfl⟩:=rx
  obtain ⟨hy,e'⟩:y.size<=sizeLine/\n=y.size:=e
  subst e'
  exact PySem.W.len_bytes (by omega) ⟨.int _,H,I.tok _,⟨_,rfl⟩,q⟩
 | ref p =>
  cases rx
  have e':(∃xs,SqL X.K H p xs/\n=xs.length)\/∃xs,SqT X.K H p xs/\n=xs.length:=e
  rcases e' with ⟨xs,hx,e'⟩ | ⟨xs,hx,e'⟩
  ·subst e'
   obtain ⟨its,r',pl,hz⟩:=I.list hx
   have hlen:=r'.length
   exact Calls.call_len_list pl.isList (by simp only [List.size_toArray];omega) ⟨.int xs.length,H,I.tok _,⟨_,by simp only [List.size_toArray];rw [hlen]⟩,q⟩
  ·subst e'
   obtain ⟨its,r',pl,hz⟩:=I.tuple hx
   have hlen:=r'.length
   exact len_tuple pl (by simp only [List.size_toArray];omega) ⟨.int xs.length,H,I.tok _,⟨_,by simp only [List.size_toArray];rw [hlen]⟩,q⟩
 | _=>exact (show False from e).elim
end
end L2
namespace L2
open PySem PySem.Spec PyProof.Rows
structure ObjM (h:Heap) (x dx C:Addr) (mA:Str->Option Value):Prop where
 obj:h.get? x=some (PySem.W.instObj C dx)
 ns:h.Ns1 dx mA
 ne:dx≠x
theorem lookIn_ns {h:Heap} {dx:Addr} {mA:Str->Option Value} (n:h.Ns1 dx mA):∃od,h.get? dx=some od/\∀name,PySem.W.lookIn name od=some (mA name):=by
 obtain ⟨o,es,ep,ho,hd,hk,_,hm⟩:=n
 refine ⟨o,ho,λname=>?_⟩
 have e:=hm name
 unfold nsFind findBy at e
 rw [← Array.find?_toList] at e
 unfold PySem.W.lookIn
 rw [hd]
 dsimp only
 split
 ·rename_i y q
  rw [q] at e
  exact congrArg some e
 ·rename_i q
  rw [q] at e
  have a:es.toList.any (·.refKey)=false:=by
   rw [List.any_eq_false]
   intro y hy
   obtain ⟨z,t,hkey⟩:=hk y (Array.mem_toList_iff.mp hy)
   simp [DictEntry.refKey,hkey]
  have a':¬es.toList.any (·.refKey)=true:=by rw [a];exact Bool.false_ne_true
  rw [if_neg a']
  exact congrArg some e
theorem ObjM.look {h:Heap} {x dx C:Addr} {mA:Str->Option Value} (I:ObjM h x dx C mA):∃od,PySem.W.InstAt h x (PySem.W.instObj C dx) C (some od)/\∀name,PySem.W.lookIn name od=some (mA name) :=
 let ⟨od,ho,hl⟩:=lookIn_ns I.ns
 ⟨od,⟨I.obj,rfl,rfl,ho⟩,hl⟩
section
variable {prog:Program} {w:World} {A:Around} {E:Value->Shared->Prop} {s:Shared} {K:PySem.W.Frag} {x dx C f:Addr} {mA:Str->Option Value} {name:Str} {v:Value}
end
theorem RelO.some_of {v:V} {o:Option Value} (r:RelO (some v) o):∃u,o=some u/\RelV v u:=by
 cases o with
 | none=>exact (show False from r).elim
 | some u=>exact ⟨u,rfl,r⟩
theorem RelO.none_of {o:Option Value} (r:RelO none o):o=none:=by
 cases o with
 | none=>rfl
 | some u=>exact (show False from r).elim
section
variable {P:Program} {w:World} {H H':Hp} {h h':Heap} {a C dx:Addr} {fs fs':List (Str × V)}
theorem ins_get (hok:HOk P w H h) (e:H a=some (.ins C dx fs)):∃mA,ObjM h a dx C mA/\(∀f,RelO (fs.lookup f) (mA f))/\PySem.Within mA (fs.map (·.1))/\fs.length<=1000/\H dx=some (.own a):=by
 obtain ⟨d,z,ne,ob,mA,n,r,q⟩:=(show ObjOk P w H h a (.ins C dx fs) from hok a _ e)
 exact ⟨mA,⟨ob,n,ne⟩,r,q,z,d⟩
end
structure Cls (K:PySem.W.Frag) (C:Addr):Prop where
 pg:PySem.W.plainGet K C Str.empty=true
 hd:PySem.W.hasDictIn K C=true
 po:PySem.W.plainOver K C=true
 sa:PySem.W.findIn K (.ref C) "__setattr__" = some (some (.builtin "object.__setattr__"))
theorem Cls.get {K:PySem.W.Frag} {C:Addr} (c:Cls K C) (f:Str):PySem.W.plainGet K C f=true:=c.pg
section
variable {X:Cx} {pins:List (Addr × Obj)} {σ:St} {H:Hp} {s:Shared} {a C dx:Addr} {fs:List (Str × V)} {f:Str} {v:V} {A:Around} {E:Value->Shared->Prop}
theorem Inv.made (I:Inv X pins σ H s):Inv X pins σ (upd (upd H s.heap.objs.size (.own (s.heap.objs.size+1))) (s.heap.objs.size+1) (.ins C s.heap.objs.size []))
  { s with heap:=(s.heap.push PySem.W.emptyDict).push (PySem.W.instObj C s.heap.objs.size) }:=by
 have e1:(s.heap.push PySem.W.emptyDict).get? s.heap.objs.size=some PySem.W.emptyDict:=Heap.get?_push_size s.heap rfl
 have e2:((s.heap.push PySem.W.emptyDict).push (PySem.W.instObj C s.heap.objs.size)).get? (s.heap.objs.size+1)=some (PySem.W.instObj C s.heap.objs.size):=by
  have:=Heap.get?_push_size (s.heap.push PySem.W.emptyDict) (o:=PySem.W.instObj C s.heap.objs.size) rfl
  rwa [Heap.size_push] at this
 have e3:(s.heap.push PySem.W.emptyDict).Ns s.heap.objs.size (λ_=>none):=⟨PySem.W.emptyDict,#[],_,e1,rfl,(λe he=>absurd he (by simp)),λ_=>rfl⟩
 have I1:=I.laid (a:=s.heap.objs.size) (o:=.own (s.heap.objs.size+1)) (h':=s.heap.push PySem.W.emptyDict) (t':=s.toks) (λb u q=>Heap.get?_push_of_some _ q) (Nat.le_refl _) ⟨_,e1⟩
 refine I1.laid (a:=s.heap.objs.size+1) (o:=.ins C s.heap.objs.size []) (t':=s.toks) (λb u q=>Heap.get?_push_of_some _ q) (Nat.le_of_eq (Heap.size_push _ _)) ?_
 have ne:s.heap.objs.size≠s.heap.objs.size+1:=Nat.ne_of_lt (Nat.lt_succ_self _)
 refine ⟨by rw [upd_ne ne,upd_same],Nat.zero_le _,ne,e2,λ_=>none,(Heap.Ns1.of_empty e3).at λo q=>Heap.get?_push_of_some _ q,λ_=>True.intro,λy hy=>absurd rfl hy⟩
end
section
variable {X:Cx} {o e value:Expr} {f:Str} {pos pos' tpos:Pos} {ta tv:TE}
end
section
variable {X:Cx} {pins:List (Addr × Obj)} {σ:St} {H:Hp} {s:Shared} {A:Around} {E:Value->Shared->Prop} {Q:Value->Shared->Prop} {c:Value} {b:Bool}
inductive TyOf (K:PySem.W.Frag) (H:Hp):V->Value->Prop where
 | non:TyOf K H .non (.type "NoneType")
 | bl (x:Bool):TyOf K H (.bl x) (.type "bool")
 | int (i:Int):TyOf K H (.int i) (.type "int")
 | str (x:Str):TyOf K H (.str x) (.type "str")
 | flt (x:UInt64):TyOf K H (.flt x) (.type "float")
 | lst {a:Addr} {xs:List V} (e:H a=some (.lst xs)):TyOf K H (.ref a) (.type "list")
 | frz {a:Addr} {o:Obj} {xs:List V} (e:H a=some (.frz o (.lst xs))):TyOf K H (.ref a) (.type "list")
 | tup {a:Addr} {xs:List V} (e:H a=some (.tup xs)):TyOf K H (.ref a) (.type "tuple")
 | dK {a:Addr} {kvs:List (Key × V)} (e:H a=some (.dK kvs)):TyOf K H (.ref a) (.type "dict")
 | dT {a:Addr} {kvs:List (List Key × V)} (e:H a=some (.dT kvs)):TyOf K H (.ref a) (.type "dict")
 | ins {a C dx:Addr} {fs:List (Str × V)} (e:H a=some (.ins C dx fs)) (cl:Cls K C) (ha:PySem.W.findIn K (.ref C) "__class__" = some (some (.builtin "object.__class__")))
   (hn:PySem.W.specialIn K (.builtin "object.__class__") "__get__" = some (some (.builtin "getset_descriptor.__get__"))) (htk:PySem.W.takesIn K (.builtin "object.__class__")=some true)
   (hm:PySem.W.mroIn K C (.type "object")=some true):TyOf K H (.ref a) (.ref C)
theorem isinst_ok {x:V} {u t:Value} (I:Inv X pins σ H s) (rx:RelV x u) (ty:TyOf X.K H x t) (e:PySem.W.kitOne X.K t c=some b) (h:∀tk,Q (.bool b) { s with toks:=tk }) :
  wpAny (model X.prog X.w) A (call (.builtin "isinstance") [u,c]) Q E s:=by
 cases ty with
 | non=>cases (show u=Value.none from rx);exact PySem.W.kia_one PySem.W.kitx_none I.kIn True.intro e (λz=>nomatch z) h
 | bl y=>cases (show u=Value.bool y from rx);exact PySem.W.kia_one PySem.W.kitx_bool I.kIn True.intro e (λz=>nomatch z) h
 | int i=>obtain ⟨t,q⟩:=(show ∃t,u=Value.int i t from rx);cases q;exact PySem.W.kia_one PySem.W.kitx_int I.kIn True.intro e (λz=>nomatch z) h
 | str y=>obtain ⟨t,q⟩:=(show ∃t,u=Value.str y t from rx);cases q;exact PySem.W.kia_one PySem.W.kitx_str I.kIn True.intro e (λz=>nomatch z) h
 | flt y=>obtain ⟨t,q⟩:=(show ∃t,u=Value.float y t from rx);cases q;exact PySem.W.kia_one PySem.W.kitx_float I.kIn True.intro e (λz=>nomatch z) h
 | @lst a xs ea =>
  cases (show u=Value.ref a from rx)
  obtain ⟨_,_,n,_,h1⟩:=(show ObjOk X.prog X.w H s.heap a (.lst xs) from I.hok a _ ea)
  exact PySem.W.kia_one PySem.W.kitx_list I.kIn ⟨_,h1,rfl⟩ e (λz=>nomatch z) h
 | @frz a ob xs ea =>
  cases (show u=Value.ref a from rx)
  obtain ⟨_,_,_,n,_,h1⟩:=(show ObjOk X.prog X.w H s.heap a (.frz ob (.lst xs)) from I.hok a _ ea)
  exact PySem.W.kia_one PySem.W.kitx_list I.kIn ⟨_,h1,rfl⟩ e (λz=>nomatch z) h
 | @tup a xs ea =>
  cases (show u=Value.ref a from rx)
  obtain ⟨_,_,_,p⟩:=(show ObjOk X.prog X.w H s.heap a (.tup xs) from I.hok a _ ea)
  obtain ⟨o,h1,h2,_⟩:=p
  exact PySem.W.kia_one PySem.W.kitx_tuple I.kIn ⟨o,h1,h2⟩ e (λz=>nomatch z) h
 | @dK a kvs ea =>
  cases (show u=Value.ref a from rx)
  obtain ⟨_,_,vs,_,p⟩:=(show ObjOk X.prog X.w H s.heap a (.dK kvs) from I.hok a _ ea)
  obtain ⟨o,es,ep,h1,h2,_⟩:=p
  exact PySem.W.kia_one PySem.W.kitx_dict I.kIn ⟨o,h1,h2.1⟩ e (λz=>nomatch z) h
 | @dT a kvs ea =>
  cases (show u=Value.ref a from rx)
  obtain ⟨_,_,xs,_,o,es,ep,h1,h2,_⟩:=(show ObjOk X.prog X.w H s.heap a (.dT kvs) from I.hok a _ ea)
  exact PySem.W.kia_one PySem.W.kitx_dict I.kIn ⟨o,h1,h2.1⟩ e (λz=>nomatch z) h
 | @ins a C dx fs ea cl ha hn htk hm =>
  cases (show u=Value.ref a from rx)
  obtain ⟨mA,O,_⟩:=ins_get I.hok ea
  obtain ⟨od,J,_⟩:=O.look
  exact PySem.W.kia_one (PySem.W.kitx_own (cl.get _) cl.hd ha hn htk hm) I.kIn J e (λz=>nomatch z) h
end
end L2
namespace L2
open PySem PySem.Spec PyProof.Rows
structure Room (k:Nat) (A:Around):Prop where
 hd:A.handled=none
 dp:A.depth+3*k+5<recursionLimit
 un:A.units+16*k+200<cLine
theorem Room.mono {j k:Nat} {A:Around} (r:Room k A) (h:j<=k):Room j A:=⟨r.hd,by have:=r.dp;omega,by have:=r.un;omega⟩
theorem Room.deeper {k:Nat} {A:Around} (r:Room (k+1) A) (env:Env):Room k (A.deeper env) :=
 ⟨r.hd,by have:=r.dp;show A.depth+1+3*k+5<_;omega,by have:=r.un;show A.units+3+16*k+200<_;omega⟩
theorem Room.in1 {k:Nat} {A:Around} (r:Room (k+1) A):Room k A.in1 :=
 ⟨r.hd,by have:=r.dp;show A.depth+3*k+5<_;omega,by have:=r.un;show A.units+1+16*k+200<_;omega⟩
theorem Room.depth {k:Nat} {A:Around} (r:Room k A):A.depth<recursionLimit:=by have:=r.dp;omega
theorem Room.units {k:Nat} {A:Around} (r:Room k A):A.units+64<cLine:=by have:=r.un;omega
def tNil:TA:=λ_ H Q=>Q [] H
def tCons (ta:TE) (tr:TA):TA:=λσ H Q=>ta σ H λx H1=>tr σ H1 λxs H2=>Q (x::xs) H2
section
variable {X:Cx} {e:Expr} {es:List Expr} {te:TE} {t:TA} {pos:Pos}
theorem pa_nil:PA X [] tNil:=λ_ _ _ _ H Q I h=>Calls.spliced_nil ⟨[],H,I,.nil,h⟩
theorem pa_cons (ha:PE X e te) (hr:PA X es t) (hs:starEach (e::es) X.env=(false,eval e X.env)::starEach es X.env:=by rfl):PA X (e::es) (tCons te t):=by
 intro pos pins s σ H Q I h
 rw [hs]
 show wpAny _ _ (spliced ((false,eval e X.env)::backTo pos (starEach es X.env))) _ _ s
 refine Calls.spliced_cons (thn (ha pins s σ H _ I h) λu s1 ⟨x,H1,I1,r1,q1⟩=>?_)
 exact thn (hr pos pins s1 σ H1 _ I1 q1) λus s2 ⟨xs,H2,I2,r2,q2⟩=>⟨x::xs,H2,I2,.cons r1 r2,q2⟩
def tTup (t:TA):TE:=λσ H Q=>t σ H λxs H1=>xs.length<=sizeLine/\∀p,H1 p=none->Q (.ref p) (upd H1 p (.tup xs))
def tLst (t:TA):TE:=λσ H Q=>t σ H λxs H1=>xs.length<=sizeLine/\∀p,H1 p=none->Q (.ref p) (upd H1 p (.lst xs))
theorem pe_tup {x1} (h:PA X es t):PE X (.Tuple es x1 pos) (tTup t):=by
 intro pins s σ H Q I hq
 refine wpAny_Tuple_spliced (thn (h pos pins s σ H _ I hq) λus s1 ⟨xs,H1,I1,r,z,q⟩=>⟨by rw [← r.length];exact z,?_⟩)
 have hf:H1 s1.heap.objs.size=none:=I1.hok.fresh (Nat.le_refl _)
 refine ⟨.ref s1.heap.objs.size,upd H1 s1.heap.objs.size (.tup xs),I1.laid (t':=s1.toks) (λb u e=>Heap.get?_push_of_some _ e) (Nat.le_refl _) ?_,rfl,q _ hf⟩
 exact ⟨z,us,r,⟨_,Heap.get?_push_size _ rfl,rfl,_,rfl⟩⟩
theorem pe_lst (h:PA X es t):PE X (.List es pos) (tLst t):=by
 intro pins s σ H Q I hq
 refine wpAny_List_spliced (thn (h pos pins s σ H _ I hq) λus s1 ⟨xs,H1,I1,r,z,q⟩=>⟨by rw [← r.length];exact z,?_⟩)
 have hf:H1 s1.heap.objs.size=none:=I1.hok.fresh (Nat.le_refl _)
 refine ⟨.ref s1.heap.objs.size,upd H1 s1.heap.objs.size (.lst xs),I1.laid (t':=s1.toks) (λb u e=>Heap.get?_push_of_some _ e) (Nat.le_refl _) ?_,rfl,q _ hf⟩
 exact ⟨z,us,0,r,Heap.get?_push_size _ rfl⟩
end
abbrev Sp:=List V->Hp->VK->XK->Prop
abbrev CXT:=List Env->Hp->Shared->XK->Value->Shared->Prop
structure Env0 (P:Program) (w:World) (K:PySem.W.Frag) (mg:Str->Option Value) (base:Heap) (A:Around) (outer:List Env) (s:Shared) (H:Hp):Prop where
 frames:A.frames=some outer
 mod:Mod K mg base
 bs:∀b o,base.get? b=some o->s.heap.get? b=some o/\H b=none
 bsz:base.objs.size<=s.heap.objs.size
 funs:s.heap.FunFrames base outer
 frf:∀b∈frs outer,H b=none
 hok:HOk P w H s.heap
 bare:AllBare s.gens
def CE (outer:List Env) (P:Program) (w:World) (H:Hp) (s:Shared) (Q:VK) (u:Value) (s':Shared):Prop :=
 ∃v H',s'.os=s.os/\AllBare s'.gens/\Un (frs outer) [] H H' s.heap s'.heap/\HOk P w H' s'.heap/\RelV v u/\Q v H'
def CR (CX:CXT) (outer:List Env) (P:Program) (w:World) (H:Hp) (s:Shared) (Q:VK) (E:XK) (r:Result) (s':Shared):Prop :=
 match r with
 | .ok (.ret u)=>CE outer P w H s Q u s'
 | .ok _=>False
 | .error e=>CX outer H s E e s'
structure FnOk (P:Program) (w:World) (K:PySem.W.Frag) (mg:Str->Option Value) (base:Heap) (CX:CXT) (k:Nat) (f:Addr) (fd:FuncData) (ps:List Str) (sp:Sp):Prop where
 len:∀vs H Q E,sp vs H Q E->vs.length=ps.length
 run:∀(A:Around) (outer:List Env) (s:Shared) (H:Hp) (args:Args) (us:List Value) (vs:List V) (Q:VK) (E:XK),Room k A->Env0 P w K mg base A outer s H->BindsTo s fd args (ps.zip us)->Vals vs us->sp vs H Q E ->
  codeAny (model P w) A (.call (.ref f) args) (CR CX outer P w H s Q E) s
theorem FnOk.mono {P:Program} {w:World} {K:PySem.W.Frag} {mg:Str->Option Value} {base:Heap} {CX:CXT} {j k:Nat} {f:Addr} {fd:FuncData} {ps:List Str} {sp:Sp} (F:FnOk P w K mg base CX j f fd ps sp) (h:j<=k) :
  FnOk P w K mg base CX k f fd ps sp:=⟨F.len,λA outer s H args us vs Q E hr=>F.run A outer s H args us vs Q E (hr.mono h)⟩
theorem FnOk.imp {P:Program} {w:World} {K:PySem.W.Frag} {mg:Str->Option Value} {base:Heap} {CX:CXT} {k:Nat} {f:Addr} {fd:FuncData} {ps:List Str} {sp sp':Sp} (F:FnOk P w K mg base CX k f fd ps sp)
  (h:∀vs H Q E,sp' vs H Q E->sp vs H Q E):FnOk P w K mg base CX k f fd ps sp' :=
 ⟨λvs H Q E q=>F.len vs H Q E (h _ _ _ _ q),λA outer s H args us vs Q E hr he hb hv hs=>F.run A outer s H args us vs Q E hr he hb hv (h _ _ _ _ hs)⟩
theorem Env0.in1 {P:Program} {w:World} {K:PySem.W.Frag} {mg:Str->Option Value} {base:Heap} {A:Around} {outer:List Env} {s:Shared} {H:Hp} (e:Env0 P w K mg base A outer s H) :
  Env0 P w K mg base A.in1 outer s H:=⟨e.frames,e.mod,e.bs,e.bsz,e.funs,e.frf,e.hok,e.bare⟩
section
variable {X:Cx} {pins:List (Addr × Obj)} {σ:St} {H:Hp} {s s':Shared}
theorem Inv.env0 (I:Inv X pins σ H s):Env0 X.prog X.w X.K X.mg X.base X.A X.stack s H :=
 ⟨I.ok.frames,I.ok.mod,I.bs,Nat.le_trans I.ok.bsz I.sz,I.stack,I.stkFree,I.hok,I.bare⟩
theorem Inv.after {Q:VK} {u:Value} (I:Inv X pins σ H s) (h:CE X.stack X.prog X.w H s Q u s'):EP X pins σ Q u s':=by
 obtain ⟨v,H',os,bare,un,hok,r,q⟩:=h
 obtain ⟨hh,g,d,t,os'⟩:=s'
 obtain rfl:os'=s.os:=os
 exact ⟨v,H',I.call (h':=hh) (g':=g) (d':=d) (t':=t) (ch:=[]) un hok bare (λb z=>absurd z (by simp)),r,q⟩
end
def tCall (sp:Sp) (dvs:List V) (E:XK) (t:TA):TE:=λσ H Q=>t σ H λvs H1=>sp (vs++dvs) H1 Q E
def Binds (K:PySem.W.Frag) (fd:FuncData) (ps:List Str) (ds:List Value):Prop :=
 ∀(s:Shared) (us:List Value),K.In s.heap->(us++ds).length=ps.length->BindsTo s fd ⟨us,[]⟩ (ps.zip (us++ds))
theorem Binds.all {K:PySem.W.Frag} {fd:FuncData} {ps:List Str} (h:∀us:List Value,us.length=ps.length->bindArgs fd ⟨us,[]⟩=pure (ps.zip us)):Binds K fd ps []:=λs us _ hl=>by
 rw [List.append_nil] at hl ⊢
 exact .of_eq (h us hl)
def Passes (CX:CXT) (X:Cx) (E:XK):Prop:=∀(pins:List (Addr × Obj)) (σ:St) (H:Hp) (s:Shared) (e:Value) (s':Shared),Inv X pins σ H s->CX X.stack H s E e s'->X.xe e s'
section
variable {X:Cx} {CX:CXT} {k:Nat} {f C:Addr} {fd:FuncData} {ps:List Str} {sp:Sp} {dvs:List V} {ds:List Value} {E:XK} {x m:Str} {p pos apos:Pos} {e o:Expr} {es:List Expr} {ta:TE} {t:TA}
theorem run_fn {pins:List (Addr × Obj)} {σ:St} {H:Hp} {s:Shared} {Q:VK} {us:List Value} {vs:List V} (F:FnOk X.prog X.w X.K X.mg X.base CX k f fd ps sp) (hr:Room k X.A) (hb:Binds X.K fd ps ds) (hd:Vals dvs ds) (hx:Passes CX X E)
  (I:Inv X pins σ H s) (r:Vals vs us) (h:sp (vs++dvs) H Q E):wpAny (model X.prog X.w) X.A (call (.ref f) us) (EP X pins σ Q) X.xe s:=by
 have r2:Vals (vs++dvs) (us++ds):=r.append hd
 have hl:(us++ds).length=ps.length:=by rw [← r2.length];exact F.len _ _ _ _ h
 refine wpAny_call (codeAny_mono (F.run X.A X.stack s H ⟨us,[]⟩ (us++ds) (vs++dvs) Q E hr I.env0 (hb s us I.kIn hl) r2 h) λr s' hq=>?_)
 cases r with
 | error e=>exact hx pins σ H s e s' I hq
 | ok fl =>
  cases fl with
  | ret u=>exact I.after hq
  | next=>exact False.elim hq
  | brk=>exact False.elim hq
  | cont=>exact False.elim hq
theorem pe_call (F:FnOk X.prog X.w X.K X.mg X.base CX k f fd ps sp) (hr:Room k X.A) (hg:Gl X x) (hm:X.mg x=some (.ref f)) (hk:PySem.W.keepIn X.K (.ref f)=true) (hb:Binds X.K fd ps ds) (hd:Vals dvs ds) (hx:Passes CX X E)
  (ha:PA X (e::es) t) (hdb:(x == ("__debug__" : Str))=false:=by decide) (he:starEach (e::es) X.env=(false,eval e X.env)::starEach es X.env:=by rfl) (hpl:(backTo pos (starEach es X.env)).any (·.1)=false:=by rfl) :
  PE X (.Call (.Name x p) (e::es) [] pos) (tCall sp dvs E t):=by
 intro pins s σ H Q I h
 refine wpAny_Call_Name_kw (ld_glob I hg hm ?_ hdb)
 refine PySem.W.callWith_K (h₀:=X.base) I.ok.mod.kin hk (thn (ha pos pins s σ H _ I h) λus s1 ⟨vs,H1,I1,r,q⟩=>⟨I1.kIn,?_⟩) he hpl
 exact run_fn F hr hb hd hx I1 r q
end
section
variable {X:Cx} {CX:CXT} {k:Nat} {f C:Addr} {fd:FuncData} {ps ks:List Str} {sp:Sp} {E:XK} {x m:Str} {p pos apos kpos:Pos} {e o:Expr} {es:List Expr} {kws:List Keyword} {te ta:TE} {t tk:TA} {nm:Option Str}
variable {g:List Value->List Value->List Value} {gV:List V->List V->List V}
end
structure FnScope (N P:List Str) (sc:Scope):Prop where
 kind:sc.kind=.function
 co:sc.isCoroutine=false
 gen:sc.isGenerator=false
 nd:N.Nodup
 pre:N.take P.length=P
 par:∀x∈P,sc.names.lookup x=some .local\/sc.names.lookup x=some .cell
 nofree:∀y∈sc.names,y.2 ≠ .free
theorem bindL_out {kindOf:Str->Option NameKind} {x:Str}:∀{binds:List (Str × Value)} {m:Str->Option Value},(∀v,(x,v)∉binds)->bindL kindOf binds m x=m x
 | [],_,_=>rfl
 | (n,v)::r,m,h=>by
  unfold bindL
  rw [bindL_out λw hw=>h w (List.mem_cons_of_mem _ hw)]
  split
  ·have:x≠n:=by rintro rfl;exact h v List.mem_cons_self
   simp [this]
  ·rfl
theorem bindC_out {kindOf:Str->Option NameKind} {x:Str}:∀{binds:List (Str × Value)} {m:Str->Option Value},(∀v,(x,v)∉binds)->bindC kindOf binds m x=m x
 | [],_,_=>rfl
 | (n,v)::r,m,h=>by
  unfold bindC
  rw [bindC_out λw hw=>h w (List.mem_cons_of_mem _ hw)]
  split
  ·rfl
  ·have:x≠n:=by rintro rfl;exact h v List.mem_cons_self
   simp [this]
theorem bindL_get {kindOf:Str->Option NameKind} {x:Str} {v:Value}:∀{P:List Str} {vs:List Value} {i:Nat} {m:Str->Option Value},P.Nodup->P[i]? = some x->vs[i]? = some v->kindOf x=some .local ->
  bindL kindOf (P.zip vs) m x=some v
 | [],_,_,_,_,h,_,_=>by simp at h
 | _::_,[],_,_,_,_,h,_=>by simp at h
 | p::P,w::vs,0,m,nd,h1,h2,hk=>by
  simp at h1 h2;subst h1;subst h2
  show bindL kindOf ((p,w)::P.zip vs) m p=_
  unfold bindL
  rw [bindL_out λv hv=>(List.nodup_cons.mp nd).1 (List.of_mem_zip hv).1,if_pos hk]
  simp
 | p::P,w::vs,i+1,m,nd,h1,h2,hk=>by
  show bindL kindOf ((p,w)::P.zip vs) m x=_
  unfold bindL
  exact bindL_get (i:=i) (List.nodup_cons.mp nd).2 (by simpa using h1) (by simpa using h2) hk
theorem bindC_get {kindOf:Str->Option NameKind} {x:Str} {v:Value}:∀{P:List Str} {vs:List Value} {i:Nat} {m:Str->Option Value},P.Nodup->P[i]? = some x->vs[i]? = some v->kindOf x≠some .local ->
  bindC kindOf (P.zip vs) m x=some v
 | [],_,_,_,_,h,_,_=>by simp at h
 | _::_,[],_,_,_,_,h,_=>by simp at h
 | p::P,w::vs,0,m,nd,h1,h2,hk=>by
  simp at h1 h2;subst h1;subst h2
  show bindC kindOf ((p,w)::P.zip vs) m p=_
  unfold bindC
  rw [bindC_out λv hv=>(List.nodup_cons.mp nd).1 (List.of_mem_zip hv).1,if_neg hk]
  simp
 | p::P,w::vs,i+1,m,nd,h1,h2,hk=>by
  show bindC kindOf ((p,w)::P.zip vs) m x=_
  unfold bindC
  exact bindC_get (i:=i) (List.nodup_cons.mp nd).2 (by simpa using h1) (by simpa using h2) hk
def start (N:List Str) (vs:List V):St:=vs.map some++List.replicate (N.length-vs.length) none
def cxOf (CX:CXT) (P:Program) (w:World) (K:PySem.W.Frag) (mg:Str->Option Value) (base:Heap) (N:List Str) (qual:Str) (scope:Scope) (f:Addr) (cd:Value) (A:Around) (outer:List Env) (s:Shared) (H:Hp) (E:XK):Cx where
 prog:=P
 w:=w
 K:=K
 mg:=mg
 base:=base
 A:=A.deeper (envOfC qual scope s.heap.objs.size f cd)
 N:=N
 s₀:=s
 H₀:=H
 env:=envOfC qual scope s.heap.objs.size f cd
 outer:=outer
 stack:=envOfC qual scope s.heap.objs.size f cd::outer
 ex:=[]
 calm:=true
 fn:=λ_=>true
 pn:=[]
 xe:=λe s'=>wpAny (model P w) (A.deeper (envOfC qual scope s.heap.objs.size f cd)) (leaving (envOfC qual scope s.heap.objs.size f cd) e) (λ_ s''=>CX outer H s E e s'') (λe' s''=>CX outer H s E e' s'') s'
theorem cell_has {sc:Scope} {n:Nat} {x:Str} (h:sc.names.lookup x=some .cell):∃c,(cellsFrom n sc.names []).lookup x=some c:=by
 have q:=PySem.W.cellsFrom_some sc.names n [] (.inl h)
 exact Option.isSome_iff_exists.mp q
theorem inv_start {CX:CXT} {P:Program} {w:World} {K:PySem.W.Frag} {mg:Str->Option Value} {base:Heap} {N ps:List Str} {qual:Str} {scope:Scope} {f:Addr} {cd:Value} {A:Around} {outer:List Env} {s s1:Shared} {H:Hp} {E:XK} {us:List Value} {vs:List V}
  (S:FnScope N ps scope) (hd:A.handled=none) (e0:Env0 P w K mg base A outer s H) (hl:vs.length=ps.length) (r:Vals vs us)
  (x:InCallC s s.heap.objs.size (bindL (envOfC qual scope s.heap.objs.size f cd).kindOf (ps.zip us) λ_=>none) (cellsFrom (s.heap.objs.size+1) scope.names []) (bindC (envOfC qual scope s.heap.objs.size f cd).kindOf (ps.zip us) λ_=>none) s1) :
  Inv (cxOf CX P w K mg base N qual scope f cd A outer s H E) [] (start N vs) H s1:=by
 have hpl:ps.length<=N.length:=by have:=congrArg List.length S.pre;rw [List.length_take] at this;omega
 obtain ⟨h1,tk,rfl,hk⟩:=x.done
 have noA:∀b:Addr,b∉(cxOf CX P w K mg base N qual scope f cd A outer s H E).ex:=λb z=>absurd (show b∈([]:List Addr) from z) (by simp)
 refine ⟨⟨e0.mod,S.kind,rfl,rfl,Nat.le_refl _,λy z c h1 h2=>?_,λy hy=>?_,λy c _ h=>?_,λ_=>hd,Around.frames_deeper e0.frames,.inr ⟨rfl,rfl⟩,λb z=>absurd z (noA b),e0.bs,e0.bsz,λb _ _=>noA b,λb z=>absurd z (noA b),e0.funs,e0.frf⟩,
  rfl,e0.bare,Un.kept hk,⟨_,x.toInCall.ns,λi y v h1 h2 h3=>?_⟩,λy c h=>⟨_,x.cell y c h⟩,e0.hok.fresh (Nat.le_refl _),λy c h=>?_,λp hp=>absurd (show p∈([]:List (Addr × Obj)) from hp) (by simp),e0.hok.kept hk,?_⟩
 ·exact name_of_addr x.apart (PySem.mem_of_lookup h1) (PySem.mem_of_lookup h2)
 ·have hy:scope.names.lookup y=some .cell\/scope.names.lookup y=some .free:=hy
  rcases hy with hy | hy
  ·exact cell_has hy
  ·exact absurd rfl (S.nofree _ (PySem.mem_of_lookup hy))
 ·exact Nat.le_of_lt (x.above y c (PySem.mem_of_lookup h))
 ·have hi:i<vs.length:=by
   unfold start at h2
   by_cases hi:i<vs.length
   ·exact hi
   ·rw [List.getElem?_append_right (by simpa using hi)] at h2
    rw [List.getElem?_replicate] at h2
    split at h2 <;> cases h2
  have ha:vs[i]? = some v:=by
   unfold start at h2
   rw [List.getElem?_append_left (by simpa using hi),List.getElem?_map] at h2
   cases e:vs[i]? with
   | none=>rw [e] at h2;cases h2
   | some a=>rw [e] at h2;cases h2;rfl
  obtain ⟨u,hu,rv⟩:=r.get ha
  have hp:ps[i]? = some y:=by
   rw [← S.pre,List.getElem?_take_of_lt (by omega)];exact h1
  have ndP:ps.Nodup:=by rw [← S.pre];exact S.nd.sublist (List.take_sublist _ _)
  refine ⟨u,rv,?_⟩
  rcases S.par y (List.mem_of_getElem? hp) with k | k
  ·exact .inl ⟨k,bindL_get ndP hp hu k⟩
  ·obtain ⟨c,e⟩:=cell_has (n:=s.heap.objs.size+1) k
   refine .inr ⟨.inl k,c,e,?_⟩
   have q:=x.cell y c e
   rw [bindC_get ndP hp hu (by show scope.names.lookup y≠_;rw [k];decide)] at q
   exact q
 ·exact e0.hok.fresh (Nat.le_of_lt (x.above y c (PySem.mem_of_lookup h)))
 ·unfold start
  show _=N.length
  rw [List.length_append,List.length_map,List.length_replicate]
  omega
theorem fn_of {CX:CXT} {P:Program} {w:World} {K:PySem.W.Frag} {mg:Str->Option Value} {base:Heap} {k:Nat} {f:Addr} {name qual:Str} {params:Arguments} {body:List Stmt} {scope:Scope} {dV kV doc pm cdv ct oc:Value} {an od:Option Addr}
  {osl:Array (Option Value)} {N ps:List Str} {sp:Sp} (lk:K.lookup f=some ⟨oc,od,.func (PySem.W.fnOf name qual params body scope dV kV doc pm an cdv ct),osl⟩) (hcd:PySem.W.codeIn K cdv qual=true) (S:FnScope N ps scope)
  (len:∀vs H Q E,sp vs H Q E->vs.length=ps.length)
  (hbody:∀(A:Around) (outer:List Env) (s:Shared) (H:Hp) (vs:List V) (Q:VK) (E:XK),Room k (A.deeper (envOfC qual scope s.heap.objs.size f cdv))->sp vs H Q E ->
   ∃t,PSs (cxOf CX P w K mg base N qual scope f cdv A outer s H E) body t/\t { nx:=λ_ H'=>Q .non H',rt:=Q } (start N vs) H) :
  FnOk P w K mg base CX (k+1) f (PySem.W.fnOf name qual params body scope dV kV doc pm an cdv ct) ps sp:=by
 refine ⟨len,λA outer s H args us vs Q E hr e0 hb r hsp=>?_⟩
 have hl:=len _ _ _ _ hsp
 have KX:K.In s.heap:=e0.mod.kin.keeps λb o e=>(e0.bs b o e).1
 have lim:s.heap.NoLimit:=e0.mod.nolimit.keeps λb o e=>(e0.bs b o e).1
 have hkind:∀y∈ps.zip us,scope.names.lookup y.1=some .local\/(scope.names.lookup y.1=some .cell/\((cellsFrom (s.heap.objs.size+1) scope.names []).lookup y.1).isSome=true):=λ⟨n,v⟩ hy=>by
  rcases S.par n (List.of_mem_zip hy).1 with q | q
  ·exact .inl q
  ·exact .inr ⟨q,PySem.W.cellsFrom_some _ _ _ (.inl q)⟩
 refine codeAny_call_function hr.depth (KX _ _ lk) rfl S.co S.gen rfl (PySem.W.codeRec_of KX hcd) (hb _ _ _ _ ?_)
 refine wpAny_newFunctionEnv_cells S.kind hkind λenv he s1 x=>?_
 subst he
 refine ⟨lim.keeps x.toInCall.keep,codeAny_func ?_⟩
 obtain ⟨t,ht,hq⟩:=hbody A outer s H vs Q E (hr.deeper _) hsp
 have I:Inv (cxOf CX P w K mg base N qual scope f cdv A outer s H E) [] (start N vs) H s1:=inv_start S hr.hd e0 hl r x
 refine wpAny_mono (ht [] s1 (start N vs) H _ I hq) (λfl s' hs=>?_) λe s' hs=>hs
 have fin:∀{σ':St} {H':Hp} {v:V} {u:Value},Inv (cxOf CX P w K mg base N qual scope f cdv A outer s H E) [] σ' H' s'->RelV v u->Q v H'->CE outer P w H s Q u s' :=
  λ{σ' H' v u} J rv q=>⟨v,H',J.os,J.bare,J.base,J.hok,rv,q⟩
 cases fl with
 | ret u =>
  obtain ⟨v,σ',H',J,rv,q⟩:=hs
  exact fin J rv q
 | next =>
  obtain ⟨σ',H',J,q⟩:=hs
  exact fin (v:=V.non) (u:=Value.none) J rfl q
 | brk =>
  obtain ⟨_,_,_,q⟩:=hs
  exact False.elim q
 | cont =>
  obtain ⟨_,_,_,q⟩:=hs
  exact False.elim q
end L2
namespace L2
open PySem PySem.Spec PyProof.Rows
section
variable {X:Cx} {x:Str} {p pos:Pos} {e:Expr} {es:List Expr} {t:TA} {id T:String} {r:List V->Hp->VK->Prop}
def tCB (r:List V->Hp->VK->Prop) (t:TA):TE:=λσ H Q=>t σ H λvs H1=>r vs H1 Q
theorem pe_callB (hc:CallR X (.builtin id) r) (hg:Gl X x) (hm:X.mg x=none) (hv:bootBuiltins x=some (.builtin id)) (ha:PA X (e::es) t) (hn:x ≠ "__name__":=by decide) (hdb:(x == ("__debug__" : Str))=false:=by decide)
  (he:starEach (e::es) X.env=(false,eval e X.env)::starEach es X.env:=by rfl) (hpl:(backTo pos (starEach es X.env)).any (·.1)=false:=by rfl):PE X (.Call (.Name x p) (e::es) [] pos) (tCB r t):=by
 intro pins s σ H Q I h
 refine wpAny_Call_Name_kw (ld_blt I hg hm hv ?_ hn hdb)
 exact PyProof.Rows.callWith_builtin1 (thn (ha pos pins s σ H _ I h) λus s1 ⟨vs,H1,I1,r1,q1⟩=>hc pins s1 σ H1 vs us Q I1 r1 q1) he hpl
theorem pe_callTy (hc:CallR X (.type T) r) (hg:Gl X x) (hm:X.mg x=none) (hv:bootBuiltins x=some (.type T)) (ha:PA X (e::es) t) (hn:x ≠ "__name__":=by decide) (hdb:(x == ("__debug__" : Str))=false:=by decide)
  (he:starEach (e::es) X.env=(false,eval e X.env)::starEach es X.env:=by rfl) (hpl:(backTo pos (starEach es X.env)).any (·.1)=false:=by rfl):PE X (.Call (.Name x p) (e::es) [] pos) (tCB r t):=by
 intro pins s σ H Q I h
 refine wpAny_Call_Name_kw (ld_blt I hg hm hv ?_ hn hdb)
 exact PyProof.Rows.callWith_type1 (thn (ha pos pins s σ H _ I h) λus s1 ⟨vs,H1,I1,r1,q1⟩=>hc pins s1 σ H1 vs us Q I1 r1 q1) he hpl
end
end L2
namespace HT
open PySem PyProof.Rows
section
open PySem.SeqAt
open PySem.AutoSeq1 (wpAny_loadPart')
open PySem.MeetsSeq PySem.MeetsSeq2 PySem.MeetsSeq3
end
section
variable {prog:Program} {w:World} {A:Around} {E:Value->Shared->Prop} {s:Shared}
theorem cat_tup {t b:Addr} {vs ws:List Value} {Q:Value->Shared->Prop} (ht:IsTup s.heap t vs.toArray) (hb:IsTup s.heap b ws.toArray) (hv:vs≠[])
  (h1:ws=[]->Q (.ref t) s) (h2:ws≠[]->Q (.ref s.heap.objs.size) { s with heap:=s.heap.push { cls:=.type "tuple",data:=.seq (vs++ws).toArray } })
  (hsz:vs.length+ws.length<=sizeLine):wpAny (model prog w) A (binaryOp .Add (.ref t) (.ref b)) Q E s:=by
 obtain ⟨⟨cls,dd,data,sl⟩,ho,hc,n,hd⟩:=id ht
 obtain ⟨⟨cls2,dd2,data2,sl2⟩,ho2,hc2,n2,hd2⟩:=id hb
 simp only at hc hd hc2 hd2
 subst hc hd hc2 hd2
 have e:vs.toArray++ws.toArray=(vs++ws).toArray:=by simp
 by_cases hw:ws=[]
 ·exact concat_meets ⟨_,ho,rfl⟩ ⟨_,ho2,rfl⟩ noFill_tuple_add seq_tuple_add PySem.F.slot_tuple_add PySem.F.entry_tuple_add (PySem.F.args_tuple_add_2 _ _)
   (tuple_addW1 t b vs.toArray ws.toArray n n2 dd dd2 sl sl2 (by simpa using hv) (by simp [hw])) ⟨ho,ho2,h1 hw⟩
 ·refine concat_meets ⟨_,ho,rfl⟩ ⟨_,ho2,rfl⟩ noFill_tuple_add seq_tuple_add PySem.F.slot_tuple_add PySem.F.entry_tuple_add (PySem.F.args_tuple_add_2 _ _)
   (tuple_addW2 t b vs.toArray ws.toArray n n2 dd dd2 sl sl2 (by simpa using hv) (by simpa using hw) (by rw [List.size_toArray,List.size_toArray];exact hsz)) ⟨ho,ho2,?_⟩
  rw [e]
  exact h2 hw
def sIx (n d:Nat):Option Int->Nat
 | none=>d
 | some v=>if v<0 then (v+(n:Int)).toNat else min v.toNat n
theorem sIx_none (n d:Nat):sIx n d none=d:=rfl
theorem sIx_nat (n d k:Nat):sIx n d (some (k:Int))=min k n:=by
 show (if (k:Int)<0 then ((k:Int)+(n:Int)).toNat else min (k:Int).toNat n)=min k n
 rw [if_neg (by omega),Int.toNat_natCast]
theorem sIx_le (n d:Nat) (hd:d<=n) (o:Option Int):sIx n d o<=n:=by
 cases o with
 | none=>exact hd
 | some v =>
  show (if v<0 then (v+(n:Int)).toNat else min v.toNat n)<=n
  by_cases hv:v<0
  ·rw [if_pos hv];omega
  ·rw [if_neg hv];exact Nat.min_le_right _ _
theorem clip_eq (v:Int) (n d:Nat):(if v<0 then max (v+(n:Int)) 0 else min v (n:Int))=((sIx n d (some v):Nat):Int):=by
 show (if v<0 then max (v+(n:Int)) 0 else min v (n:Int))=(((if v<0 then (v+(n:Int)).toNat else min v.toNat n):Nat):Int)
 by_cases hv:v<0
 ·simp only [if_pos hv];omega
 ·simp only [if_neg hv];omega
theorem adjust_gen (lo hi:Option Int) (n:Nat):Builtin.Slice.sliceAdjust lo hi 1 (n:Int)=(((sIx n 0 lo:Nat):Int),((sIx n n hi:Nat):Int)):=by
 have h1:¬((1:Int)<0):=by omega
 unfold Builtin.Slice.sliceAdjust
 simp only [h1,if_false]
 refine Prod.ext ?_ ?_
 ·cases lo with
  | none=>rfl
  | some v=>exact clip_eq v n 0
 ·cases hi with
  | none=>rfl
  | some v=>exact clip_eq v n n
theorem places_gen (i j:Nat):Builtin.Slice.slicePlaces (i:Int) (j:Int) 1=j-i:=by
 unfold Builtin.Slice.slicePlaces
 have h1:(1:Int) > 0:=by omega
 simp only [h1,if_true,Int.ediv_one]
 split <;> omega
theorem slicePart_ {v:Value} {o:Option Int} {Q:Option Int->Shared->Prop} (p:IsPart v o) (h:Q o s):wpAny (model prog w) A (Builtin.Slice.slicePartIndex v) Q E s:=by
 cases p with
 | none=>exact slicePart_none h
 | int i t=>exact slicePart_int h
theorem sliceApplied_gen {sl:Addr} {vl vu:Value} {lo hi:Option Int} {n:Nat} {Q:Int × Int × Nat->Shared->Prop} (hs:s.heap.IsSliceOf sl vl vu .none) (pl:IsPart vl lo) (pu:IsPart vu hi)
  (h:Q (((sIx n 0 lo:Nat):Int),1,sIx n n hi-sIx n 0 lo) s):wpAny (model prog w) A (Builtin.Slice.sliceApplied (.ref sl) (pure (n:Int))) Q E s:=by
 obtain ⟨os,hos,hcs,hds⟩:=id hs
 unfold Builtin.Slice.sliceApplied Builtin.Slice.sliceFields
 refine wpAny_bind (wpAny_bind (wpAny_field hos hds (x:=vl) rfl (wpAny_bind (wpAny_field hos hds (x:=vu) rfl (wpAny_bind (wpAny_field hos hds (x:=.none) rfl (wpAny_pure ?_)))))))
 refine wpAny_bind (slicePart_none ?_)
 show wpAny _ _ (if ((1:Int) == 0)=true then _ else _) _ _ s
 rw [if_neg (by decide)]
 refine wpAny_bind (slicePart_ pl (wpAny_bind (slicePart_ pu (wpAny_bind (wpAny_pure ?_)))))
 show wpAny _ _ (match Builtin.Slice.sliceAdjust lo hi 1 (n:Int) with | (lo,hi)=>pure (lo,(1:Int),Builtin.Slice.slicePlaces lo hi 1)) _ _ s
 rw [adjust_gen lo hi n]
 show wpAny _ _ (pure (((sIx n 0 lo:Nat):Int),(1:Int),Builtin.Slice.slicePlaces ((sIx n 0 lo:Nat):Int) ((sIx n n hi:Nat):Int) 1)) _ _ s
 rw [places_gen]
 exact wpAny_pure h
theorem pick_gen (xs:Array Value) (i k:Nat):((List.range k).filterMap λ(m:Nat)=>xs[((i:Int)+(m:Int)*1).toNat]?).toArray=((xs.toList.drop i).take k).toArray:=by
 have e:(λ(m:Nat)=>xs[((i:Int)+(m:Int)*1).toNat]?)=λm=>xs[i+m]?:=by
  funext m
  have:((i:Int)+(m:Int)*1).toNat=i+m:=by omega
  rw [this]
 rw [e]
 have:=pick_run xs i k
 rw [List.filterMap_map] at this
 have e2:((λx=>xs[x]?) ∘ λx=>i+x)=λm=>xs[i+m]?:=rfl
 rw [e2] at this
 rw [this]
theorem getItem_tuple_cut {t sl:Addr} {items:Array Value} {vl vu:Value} {lo hi:Option Int} {Q:Value->Shared->Prop} (ht:IsTup s.heap t items) (hs:s.heap.IsSliceOf sl vl vu .none) (pl:IsPart vl lo) (pu:IsPart vu hi)
  (hw:¬(sIx items.size 0 lo=0/\sIx items.size items.size hi=items.size))
  (h:Q (.ref s.heap.objs.size) { s with heap:=s.heap.push { cls:=.type "tuple",data:=.seq ((items.toList.drop (sIx items.size 0 lo)).take (sIx items.size items.size hi-sIx items.size 0 lo)).toArray } })
  (hsz:items.size<=sizeLine):wpAny (model prog w) A (getItem (.ref t) (.ref sl)) Q E s:=by
 have htake:sizeOk (.seq ((items.toList.drop (sIx items.size 0 lo)).take (sIx items.size items.size hi-sIx items.size 0 lo)).toArray):=by
  show ((items.toList.drop (sIx items.size 0 lo)).take (sIx items.size items.size hi-sIx items.size 0 lo)).toArray.size<=sizeLine
  rw [List.size_toArray,List.length_take,List.length_drop,Array.length_toList]
  omega
 have hj:sIx items.size items.size hi<=items.size:=sIx_le _ _ (Nat.le_refl _) hi
 obtain ⟨os,hos,hcs,hds⟩:=id hs
 have hTs:s.TypeIs (.ref sl) "slice":=⟨os,hos,hcs⟩
 unfold getItem
 try with_reducible refine wpAny_holding ?_
 first | refine wpAny_bind (wpAny_pure ?_) | skip
 refine wpAny_bind (wpAny_sequenceKey ht.typeIs (by decide) ?_)
 refine wpAny_bind (wpAny_callSpecial?_slot (name:=Str.ofString "__getitem__") ht.typeIs PyProof.Rows.slot_tuple_getitem
  (wpAny_call_entry PyProof.Rows.slot_tuple_getitem ht.typeIs entry_tuple_getitem ?_ (args_tuple_getitem _ _)))
 show wpAny _ _ (Builtin.Tuple.tupleItemsOf (.ref t) >>= _) _ _ s
 refine wpAny_bind (tupleItemsOf_ ht ?_)
 refine wpAny_bind (wpAny_typeOf hTs ?_)
 rw [if_pos (by decide)]
 refine wpAny_bind (sliceApplied_gen hs pl pu ?_)
 have hno:¬((((sIx items.size 0 lo:Nat):Int) == 0 && (1:Int) == 1 && (sIx items.size items.size hi-sIx items.size 0 lo) == items.size)=true):=by
  intro q
  rw [Bool.and_eq_true,Bool.and_eq_true] at q
  have q1:((sIx items.size 0 lo:Nat):Int)=0:=eq_of_beq q.1.1
  have q2:sIx items.size items.size hi-sIx items.size 0 lo=items.size:=eq_of_beq q.2
  exact hw ⟨by omega,by omega⟩
 show wpAny _ _ (if (((sIx items.size 0 lo:Nat):Int) == 0 && (1:Int) == 1 && (sIx items.size items.size hi-sIx items.size 0 lo) == items.size)=true then _ else _) _ _ s
 rw [if_neg hno,pick_gen]
 first
  | exact wpAny_bind (m:=Builtin.Tuple.tupleExact _) (wpAny_newObj_type (wpAny_pure ⟨_,rfl,wpAny_pure h⟩) htake)
  | exact wpAny_bind (m:=Builtin.Tuple.tupleExact _) (wpAny_newObj_type (wpAny_bind (wpAny_pure (wpAny_pure ⟨_,rfl,wpAny_pure h⟩))) htake)
  | exact wpAny_bind (wpAny_bind (m:=Builtin.Tuple.tupleExact _) (wpAny_newObj_type (wpAny_pure (wpAny_pure ⟨_,rfl,wpAny_pure h⟩)) htake))
  | exact wpAny_bind (wpAny_bind (m:=Builtin.Tuple.tupleExact _) (wpAny_newObj_type (wpAny_pure ⟨_,rfl,wpAny_pure h⟩) htake))
end
end HT
namespace L2
open PySem PySem.Spec PyProof.Rows
abbrev TO:=St->Hp->(Option Int->Hp->Prop)->Prop
def PO (X:Cx) (e:Option Expr) (t:TO):Prop :=
 ∀(pins:List (Addr × Obj)) (s:Shared) (σ:St) (H:Hp) (Q:Option Int->Hp->Prop),Inv X pins σ H s->t σ H Q ->
  wpAny (model X.prog X.w) X.A (evalPart e X.env) (λu s'=>∃o H',Inv X pins σ H' s'/\IsPart u o/\Q o H') X.xe s
def tNoPart:TO:=λ_ H Q=>Q none H
def tPart (t:TE):TO:=λσ H Q=>t σ H λx H1=>∃i,x=.int i/\Q (some i) H1
section
variable {X:Cx} {e:Expr} {te:TE} {lo hi:Option Expr} {tl th:TO} {pos p2:Pos}
theorem po_none:PO X none tNoPart:=by
 intro pins s σ H Q I h
 rw [evalPart_none]
 exact wpAny_pure ⟨none,H,I,.none,h⟩
theorem po_some (h:PE X e te):PO X (some e) (tPart te):=by
 intro pins s σ H Q I hw
 rw [evalPart_some]
 refine thn (h pins s σ H _ I hw) λu s1 ⟨x,H1,I1,r1,q1⟩=>?_
 obtain ⟨i,rfl,q⟩:=q1
 obtain ⟨t,rfl⟩:=r1
 exact ⟨some i,H1,I1,.int i t,q⟩
def SlR (X:Cx) (r:V->Option Int->Option Int->Hp->VK->Prop):Prop :=
 ∀(pins:List (Addr × Obj)) (s:Shared) (σ:St) (H:Hp) (x:V) (v vl vu:Value) (lo hi:Option Int) (sl:Addr) (Q:VK),Inv X pins σ H s->RelV x v->s.heap.IsSliceOf sl vl vu .none->IsPart vl lo->IsPart vu hi->r x lo hi H Q ->
  ∃T id,typeLookup (.type T) "__getitem__" = pure (some (.builtin id))/\s.TypeIs v T/\wpAny (model X.prog X.w) X.A (getItem v (.ref sl)) (EP X pins σ Q) X.xe s
theorem SlR.or {r r':V->Option Int->Option Int->Hp->VK->Prop} (h:SlR X r) (h':SlR X r'):SlR X (λx lo hi H Q=>r x lo hi H Q\/r' x lo hi H Q):=by
 intro pins s σ H x v vl vu lo hi sl Q I rx hs pl pu q
 rcases q with q | q
 ·exact h pins s σ H x v vl vu lo hi sl Q I rx hs pl pu q
 ·exact h' pins s σ H x v vl vu lo hi sl Q I rx hs pl pu q
def tSl (r:V->Option Int->Option Int->Hp->VK->Prop) (te:TE) (tl th:TO):TE:=λσ H Q=>te σ H λx H1=>tl σ H1 λl H2=>th σ H2 λu H3=>r x l u H3 Q
theorem pe_slice {r:V->Option Int->Option Int->Hp->VK->Prop} (hr:SlR X r) (he:PE X e te) (hl:PO X lo tl) (hu:PO X hi th):PE X (.Subscript e (.Slice lo hi none p2) pos) (tSl r te tl th):=by
 intro pins s σ H Q I h
 refine Subscript_ (thn (he pins s σ H _ I h) λv s1 ⟨x,H1,I1,r1,q1⟩=>?_)
 refine wpAny_Slice (thn (hl pins s1 σ H1 _ I1 q1) λvl s2 ⟨l,H2,I2,pl,q2⟩=>thn (hu pins s2 σ H2 _ I2 q2) λvu s3 ⟨u,H3,I3,pu,q3⟩=>?_)
 rw [evalPart_none]
 refine wpAny_pure ?_
 have I4:Inv X pins σ H3 { s3 with heap:=s3.heap.push { cls:=.type "slice",data:=.fields #[vl,vu,.none] } }:=I3.kept (t':=s3.toks) λb ob q=>Heap.get?_push_of_some _ q
 obtain ⟨T,id,hT,ht,hg⟩:=hr pins { s3 with heap:=s3.heap.push { cls:=.type "slice",data:=.fields #[vl,vu,.none] } } σ H3 x v vl vu l u s3.heap.objs.size Q I4 r1 (Heap.IsSliceOf.new ..) pl pu q3
 show wpAny (model X.prog X.w) X.A (subscriptTail e (.Slice lo hi none p2) v (.ref s3.heap.objs.size)) (EP X pins σ Q) X.xe { s3 with heap:=s3.heap.push { cls:=.type "slice",data:=.fields #[vl,vu,.none] } }
 exact tail_any (ops:=[.ref s3.heap.objs.size,v]) ht hT hg (by with_unfolding_all rfl)
def cutV (xs:List V) (lo hi:Option Int):List V:=(xs.drop (HT.sIx xs.length 0 lo)).take (HT.sIx xs.length xs.length hi-HT.sIx xs.length 0 lo)
theorem cutV_length (xs:List V) (lo hi:Option Int):(cutV xs lo hi).length<=xs.length:=by
 unfold cutV
 rw [List.length_take,List.length_drop]
 omega
def rSlT (K:PySem.W.Frag):V->Option Int->Option Int->Hp->VK->Prop:=λx lo hi H Q=>∃a xs,x=.ref a/\SqT K H a xs /\
 ¬(HT.sIx xs.length 0 lo=0/\HT.sIx xs.length xs.length hi=xs.length)/\∀p,H p=none->Q (.ref p) (upd H p (.tup (cutV xs lo hi)))
theorem sl_tup:SlR X (rSlT X.K):=by
 intro pins s σ H x v vl vu lo hi sl Q I rx hs pl pu h
 obtain ⟨a,xs,rfl,hx,hw,q⟩:=h
 cases rx
 obtain ⟨its,r,ht,hz⟩:=I.tuple hx
 have hlen:its.toArray.size=xs.length:=by rw [List.size_toArray];exact r.length.symm
 refine ⟨"tuple",_,PyProof.Rows.slot_tuple_getitem.lookup,ht.typeIs,?_⟩
 refine HT.getItem_tuple_cut ht hs pl pu (by rw [hlen];exact hw) ?_ (by rw [hlen];exact hz)
 rw [hlen]
 refine ⟨.ref s.heap.objs.size,_,I.laid (t':=s.toks) (o:=.tup (cutV xs lo hi)) (λb ob q=>Heap.get?_push_of_some _ q) (Nat.le_refl _) ?_,rfl,q _ (I.hok.fresh (Nat.le_refl _))⟩
 exact ⟨Nat.le_trans (cutV_length xs lo hi) hz,_,(r.drop (HT.sIx xs.length 0 lo)).take (HT.sIx xs.length xs.length hi-HT.sIx xs.length 0 lo),IsTup.new _ _⟩
def rCatT (K:PySem.W.Frag):R2:=λx y H Q=>∃a b xs ys,x=.ref a/\y=.ref b/\SqT K H a xs/\SqT K H b ys/\xs≠[]/\xs.length+ys.length<=sizeLine /\
 (ys=[]->Q (.ref a) H)/\(ys≠[]->∀p,H p=none->Q (.ref p) (upd H p (.tup (xs++ys))))
theorem Vals.nil_iff {xs:List V} {us:List Value} (r:Vals xs us):us=[]↔xs=[]:=by
 cases r with
 | nil=>simp
 | cons _ _=>simp
theorem op_catT:OpR X (binaryOp .Add) (rCatT X.K):=by
 intro pins s σ H x y v u Q I rx ry h
 obtain ⟨a,b,xs,ys,rfl,rfl,ha,hb,hx,hz,q1,q2⟩:=h
 cases rx
 cases ry
 obtain ⟨its,r1,p1,_⟩:=I.tuple ha
 obtain ⟨its2,r2,p2,_⟩:=I.tuple hb
 refine HT.cat_tup p1 p2 (λz=>hx (r1.nil_iff.mp z)) (λz=>⟨.ref a,H,I,rfl,q1 (r2.nil_iff.mp z)⟩) (λz=>?_) (by rw [← r1.length,← r2.length];exact hz)
 refine ⟨.ref s.heap.objs.size,_,I.laid (t':=s.toks) (o:=.tup (xs++ys)) (λb ob q=>Heap.get?_push_of_some _ q) (Nat.le_refl _) ?_,rfl,q2 (λw=>z (r2.nil_iff.mpr w)) _ (I.hok.fresh (Nat.le_refl _))⟩
 exact ⟨by rw [List.length_append];exact hz,_,r1.append r2,IsTup.new _ _⟩
end
end L2
namespace L2
open PySem PySem.Spec PyProof.Rows
def ixN (n:Nat) (i:Int):Option Nat:=if 0<=i then (if i<n then some i.toNat else none) else if -(n:Int)<=i then some (i+n).toNat else none
def atI {α:Type} (xs:List α) (i:Int):Option α:=(ixN xs.length i).bind λj=>xs[j]?
theorem ixN_seq {n:Nat} {i:Int} {j:Nat} (h:ixN n i=some j):seqIndex? i n=some j/\j<n /\ -(n:Int)<=i/\i<n:=by
 unfold ixN at h
 by_cases h0:0<=i
 ·rw [if_pos h0] at h
  by_cases h1:i<n
  ·rw [if_pos h1] at h
   have e:i.toNat=j:=Option.some.inj h
   exact ⟨by rw [seqIndex_of h0 h1,e],by omega,by omega,h1⟩
  ·rw [if_neg h1] at h;cases h
 ·rw [if_neg h0] at h
  by_cases h1:-(n:Int)<=i
  ·rw [if_pos h1] at h
   have e:(i+n).toNat=j:=Option.some.inj h
   exact ⟨by rw [seqIndex_neg (by omega) h1,e],by omega,h1,by omega⟩
  ·rw [if_neg h1] at h;cases h
theorem atI_get {α:Type} {xs:List α} {i:Int} {v:α} (h:atI xs i=some v):∃j,seqIndex? i xs.length=some j/\xs[j]? = some v/\j<xs.length /\ -(xs.length:Int)<=i/\i<xs.length:=by
 unfold atI at h
 cases e:ixN xs.length i with
 | none=>rw [e] at h;cases h
 | some j =>
  rw [e] at h
  obtain ⟨h1,h2,h3,h4⟩:=ixN_seq e
  exact ⟨j,h1,h,h2,h3,h4⟩
theorem atI_nat {α:Type} {xs:List α} {j:Nat} {v:α} (h:xs[j]? = some v):atI xs (j:Int)=some v:=by
 have hj:j<xs.length:=(List.getElem?_eq_some_iff.mp h).1
 have e:ixN xs.length (j:Int)=some j:=by
  unfold ixN
  rw [if_pos (by omega),if_pos (by omega)];simp
 unfold atI;rw [e];exact h
def PlainIx (b:Expr):Prop:=∀o i,subscripted b false o i=operate [o,i] (getItem o i)
def IxR (X:Cx) (r:R2):Prop :=
 ∀(value slice:Expr) (pins:List (Addr × Obj)) (s:Shared) (σ:St) (H:Hp) (x y:V) (v u:Value) (Q:VK),Inv X pins σ H s->RelV x v->RelV y u->r x y H Q ->
  subscripted slice false v u=operate [v,u] (getItem v u)->wpAny (model X.prog X.w) X.A (subscriptTail value slice v u) (EP X pins σ Q) X.xe s
def MtR (X:Cx) (id:String) (r:V->List V->Hp->VK->Prop):Prop :=
 ∀(pins:List (Addr × Obj)) (s:Shared) (σ:St) (H:Hp) (x:V) (xs:List V) (v:Value) (us:List Value) (Q:VK),Inv X pins σ H s->RelV x v->Vals xs us->r x xs H Q ->
  wpAny (model X.prog X.w) X.A (call (.builtin id) (v::us)) (EP X pins σ Q) X.xe s
section
variable {X:Cx} {a b:Expr} {ta tb:TE} {pos:Pos}
theorem IxR.or {r r':R2} (h:IxR X r) (h':IxR X r'):IxR X (λx y H Q=>r x y H Q\/r' x y H Q):=by
 intro value slice pins s σ H x y v u Q I rx ry q hs
 rcases q with q | q
 ·exact h value slice pins s σ H x y v u Q I rx ry q hs
 ·exact h' value slice pins s σ H x y v u Q I rx ry q hs
theorem MtR.or {id:String} {r r':V->List V->Hp->VK->Prop} (h:MtR X id r) (h':MtR X id r'):MtR X id (λx xs H Q=>r x xs H Q\/r' x xs H Q):=by
 intro pins s σ H x xs v us Q I rx rs q
 rcases q with q | q
 ·exact h pins s σ H x xs v us Q I rx rs q
 ·exact h' pins s σ H x xs v us Q I rx rs q
theorem pe_ix {r:R2} (hr:IxR X r) (ha:PE X a ta) (hb:PE X b tb) (hs:PlainIx b):PE X (.Subscript a b pos) (tOp r ta tb):=by
 intro pins s σ H Q I h
 exact Subscript_ (binT ha hb I h λv u s2 x y H2 I2 rx ry q=>hr a b pins s2 σ H2 x y v u Q I2 rx ry q (hs _ _))
def rIxL (K:PySem.W.Frag):R2:=λx y H Q=>∃p xs i v,x=.ref p/\y=.int i/\SqL K H p xs/\atI xs i=some v/\Q v H
def rIxT (K:PySem.W.Frag):R2:=λx y H Q=>∃p xs i v,x=.ref p/\y=.int i/\SqT K H p xs/\atI xs i=some v/\Q v H
def rIxS:R2:=λx y H Q=>∃z i c,x=.str z/\y=.int i/\z.length<=sizeLine/\atI z.cps.toList i=some c/\Q (.str ⟨#[c]⟩) H
theorem ix_list:IxR X (rIxL X.K):=by
 intro value slice pins s σ H x y v u Q I rx ry h hs
 obtain ⟨p,xs,i,z,rfl,rfl,hq,he,q⟩:=h
 cases rx
 obtain ⟨t,rfl⟩:=ry
 obtain ⟨its,r,pl,hz⟩:=I.list hq
 obtain ⟨j,h1,h2,h3,h4,h5⟩:=atI_get he
 obtain ⟨w,ew,rw'⟩:=r.get h2
 have hl:=r.length
 have hn:=line63
 have fin:EP X pins σ Q w s:=⟨z,H,I,rw',q⟩
 by_cases h0:0<=i
 ·have hj:i.toNat=j:=by
   rw [seqIndex_of h0 h5] at h1
   exact Option.some.inj h1
  exact item_listR pl.isList h0 (by omega) (by rw [hj];simpa using ew) fin hs
 ·have hj:(i+(its.toArray.size:Int)).toNat=j:=by
   rw [seqIndex_neg (by omega) h4] at h1
   rw [List.size_toArray,← hl]
   exact Option.some.inj h1
  exact subscriptTail_builtinR (x:=w) pl.isList.typeIs slot_list_getitem.lookup
   (wpAny_getItem_list_neg (Q:=λr s'=>r=w/\EP X pins σ Q r s') pl.isList (by omega) (by rw [List.size_toArray] <;> omega) (by omega) (by rw [hj];simpa using ew) ⟨rfl,fin⟩) hs
theorem ix_tup:IxR X (rIxT X.K):=by
 intro value slice pins s σ H x y v u Q I rx ry h hs
 obtain ⟨p,xs,i,z,rfl,rfl,hq,he,q⟩:=h
 cases rx
 obtain ⟨t,rfl⟩:=ry
 obtain ⟨its,r,pl,hz⟩:=I.tuple hq
 obtain ⟨j,h1,h2,h3,h4,h5⟩:=atI_get he
 obtain ⟨w,ew,rw'⟩:=r.get h2
 have hl:=r.length
 have hn:=line63
 have fin:EP X pins σ Q w s:=⟨z,H,I,rw',q⟩
 exact subscriptTail_builtinR (x:=w) pl.typeIs slot_tuple_getitem.lookup
  (getItem_tuple (j:=j) (Q:=λr s'=>r=w/\EP X pins σ Q r s') pl (by omega) (by omega) (by rw [List.size_toArray,← hl];exact h1) (by simpa using ew) ⟨rfl,fin⟩) hs
theorem ix_str:IxR X rIxS:=by
 intro value slice pins s σ H x y v u Q I rx ry h hs
 obtain ⟨z,i,c,rfl,rfl,hz,he,q⟩:=h
 obtain ⟨t,rfl⟩:=rx
 obtain ⟨t',rfl⟩:=ry
 obtain ⟨j,h1,h2,h3,h4,h5⟩:=atI_get he
 have hl:z.cps.toList.length=z.length:=by simp [Str.length]
 rw [hl] at h1 h4 h5
 have hn:=line63
 exact tail_any (typeIs_str s z t) slot_str_getitem.lookup (getItem_str (c:=c) (by
  have e1:decide (i < -(2 ^ 63:Int))=false:=decide_eq_false (by omega)
  have e2:decide (i ≥ 2 ^ 63)=false:=decide_eq_false (by omega)
  rw [e1,e2,Bool.or_false]) (by rw [h1];simpa using h2) ⟨.str ⟨#[c]⟩,H,I.tok _,⟨_,rfl⟩,q⟩) hs
def rIx (K:PySem.W.Frag):R2:=λx y H Q=>rIxL K x y H Q\/rIxT K x y H Q\/rIxS x y H Q
theorem ix_seq:IxR X (rIx X.K):=ix_list.or (ix_tup.or ix_str)
theorem mapSeq_set (its:List Value) (n j:Nat) (u:Value):Obj.mapSeq (·.setIfInBounds j u) { cls:=.type "list",data:=.seq its.toArray n }={ cls:=.type "list",data:=.seq (its.set j u).toArray n }:=by
 simp [Obj.mapSeq]
theorem Inv.lst {pins:List (Addr × Obj)} {σ:St} {H:Hp} {s:Shared} {p:Addr} {xs:List V} (I:Inv X pins σ H s) (h:H p=some (.lst xs)) :
  ∃(its:List Value) (n:Nat),Vals xs its/\s.heap.get? p=some { cls:=.type "list",data:=.seq its.toArray n }/\xs.length<=sizeLine:=by
 obtain ⟨z,its,n,r,e⟩:=I.hok p _ h
 exact ⟨its,n,r,e,z⟩
theorem Inv.lstUpd {pins:List (Addr × Obj)} {σ:St} {H:Hp} {s:Shared} {p:Addr} {xs ys:List V} {its its':List Value} {n n':Nat} {f:Obj->Obj} (I:Inv X pins σ H s) (h:H p=some (.lst xs))
  (ho:s.heap.get? p=some { cls:=.type "list",data:=.seq its.toArray n }) (hf:f { cls:=.type "list",data:=.seq its.toArray n }={ cls:=.type "list",data:=.seq its'.toArray n' }) (r:Vals ys its') (hz:ys.length<=sizeLine) (t:Nat) :
  Inv X pins σ (upd H p (.lst ys)) { s with heap:=s.heap.update p f,toks:=t }:=by
 have e:(s.heap.update p f).get? p=some { cls:=.type "list",data:=.seq its'.toArray n' }:=by
  rw [Heap.get?_update_self f ho (by rw [hf] <;> rfl),hf]
 refine I.write (x:=p) (e:=p) (by rw [h];trivial) (.inl rfl) (λb u hb q=>(Heap.get?_update_other _ _ (Ne.symm hb)).trans q) ⟨_,e⟩ ?_
 exact ⟨hz,its',n',r,e⟩
def rSetL:V->V->V->Hp->(Hp->Prop)->Prop:=λo i v H Q=>∃p xs k j,o=.ref p/\i=.int k/\H p=some (.lst xs)/\ixN xs.length k=some j/\Q (upd H p (.lst (xs.set j v)))
theorem set_list:PSet X rSetL:=by
 intro pins s σ H o i v ov iv u Q I ro ri rv h
 obtain ⟨p,xs,k,j,rfl,rfl,hp,hj,q⟩:=h
 cases ro
 obtain ⟨t,rfl⟩:=ri
 obtain ⟨its,n,r,ho,hz⟩:=I.lst hp
 obtain ⟨h1,h2,h3,h4⟩:=ixN_seq hj
 have hl:=r.length
 have hn:=line63
 have I':Inv X pins σ (upd H p (.lst (xs.set j v))) { s with heap:=s.heap.update p (Obj.mapSeq (·.setIfInBounds j u)) } :=
  I.lstUpd hp ho (mapSeq_set its n j u) (r.set rv j) (by rw [List.length_set];exact hz) s.toks
 by_cases h0:0<=k
 ·have hk:k.toNat=j:=by
   rw [seqIndex_of h0 h4] at h1
   exact Option.some.inj h1
  exact PySem.W.ki_setAt ho h0 (by omega) (by rw [List.size_toArray,← hl];exact h4) (by rw [hk];exact ⟨_,I',q⟩)
 ·have hk:(k+(its.toArray.size:Int)).toNat=j:=by
   rw [seqIndex_neg (by omega) h3] at h1
   rw [List.size_toArray,← hl]
   exact Option.some.inj h1
  exact PySem.W.ki_setBack ho (by omega) (by rw [List.size_toArray,← hl];exact h3) (by omega) (by rw [hk];exact ⟨_,I',q⟩)
theorem slice_bounds (lo hi:Option Int) (n:Nat):(sliceBounds lo hi none n).1=((HT.sIx n 0 lo:Nat):Int)/\(sliceBounds lo hi none n).2.1=((HT.sIx n n hi:Nat):Int)/\(sliceBounds lo hi none n).2.2=1:=by
 refine ⟨?_,?_,rfl⟩
 ·cases lo with
  | none=>simp [sliceBounds,HT.sIx]
  | some i =>
   simp only [sliceBounds,HT.sIx,Option.getD_none,show (1:Int) > 0 by decide,if_true]
   by_cases h:i<0
   ·simp only [h,if_true] <;> omega
   ·simp only [h,if_false] <;> omega
 ·cases hi with
  | none=>simp [sliceBounds,HT.sIx]
  | some i =>
   simp only [sliceBounds,HT.sIx,Option.getD_none,show (1:Int) > 0 by decide,if_true]
   by_cases h:i<0
   ·simp only [h,if_true] <;> omega
   ·simp only [h,if_false] <;> omega
theorem slicePick_cut (its:List Value) (lo hi:Option Int):slicePick its.toArray lo hi none=((its.drop (HT.sIx its.length 0 lo)).take (HT.sIx its.length its.length hi-HT.sIx its.length 0 lo)).toArray:=by
 obtain ⟨h1,h2,h3⟩:=slice_bounds lo hi its.toArray.size
 unfold slicePick
 rw [h1,h2,h3]
 simp only [sliceRange_one,pick_run,List.size_toArray] <;> rfl
def rSlL (K:PySem.W.Frag):V->Option Int->Option Int->Hp->VK->Prop:=λx lo hi H Q=>∃a xs,x=.ref a/\SqL K H a xs/\∀p,H p=none->Q (.ref p) (upd H p (.lst (cutV xs lo hi)))
theorem sl_list:SlR X (rSlL X.K):=by
 intro pins s σ H x v vl vu lo hi sl Q I rx hs pl pu h
 obtain ⟨a,xs,rfl,hx,q⟩:=h
 cases rx
 obtain ⟨its,r,ht,hz⟩:=I.list hx
 have hlen:=r.length
 refine ⟨"list",_,slot_list_getitem.lookup,ht.isList.typeIs,?_⟩
 refine wpAny_getItem_list_slice ht.isList hs pl pu .none (by simp) ?_ (by rw [List.size_toArray] <;> omega)
 rw [slicePick_cut,← hlen]
 refine ⟨.ref s.heap.objs.size,_,I.laid (t':=s.toks) (o:=.lst (cutV xs lo hi)) (λb ob q=>Heap.get?_push_of_some _ q) (Nat.le_refl _) ?_,rfl,q _ (I.hok.fresh (Nat.le_refl _))⟩
 exact ⟨Nat.le_trans (cutV_length xs lo hi) hz,_,0,(r.drop (HT.sIx xs.length 0 lo)).take (HT.sIx xs.length xs.length hi-HT.sIx xs.length 0 lo),Heap.get?_push_size _ rfl⟩
def flatV:V->Bool
 | .non=>true
 | .bl _=>true
 | .int _=>true
 | .str _=>true
 | _=>false
def eqV:V->V->Bool
 | .non,.non=>true
 | .bl a,.bl b=>a == b
 | .bl a,.int b=>(if a then 1 else 0) == b
 | .int a,.bl b=>a == (if b then 1 else 0)
 | .int a,.int b=>a == b
 | .str a,.str b=>a == b
 | _,_=>false
theorem eqAt_V {A:Around} {s:Shared} {y x:V} {u v:Value} (ry:RelV y u) (rx:RelV x v) (fy:flatV y=true) (fx:flatV x=true):SeqAt.EqAt A s u v (eqV y x):=by
 cases y with
 | non =>
  cases ry
  cases x with
  | non=>cases rx;exact SeqAt.EqAt.same _
  | bl b=>cases rx;exact SeqAt.EqAt.none_bool b
  | int b=>obtain ⟨t,rfl⟩:=rx;exact SeqAt.EqAt.none_int b t
  | str b=>obtain ⟨t,rfl⟩:=rx;exact SeqAt.EqAt.none_str b t
  | _=>exact absurd (show false=true from fx) Bool.false_ne_true
 | bl a =>
  cases ry
  cases x with
  | non=>cases rx;exact SeqAt.EqAt.bool_none a
  | bl b=>cases rx;exact SeqAt.EqAt.bool_bool a b
  | int b=>obtain ⟨t,rfl⟩:=rx;exact SeqAt.EqAt.bool_int a b t
  | str b=>obtain ⟨t,rfl⟩:=rx;exact SeqAt.EqAt.bool_str a b t
  | _=>exact absurd (show false=true from fx) Bool.false_ne_true
 | int a =>
  obtain ⟨t',rfl⟩:=ry
  cases x with
  | non=>cases rx;exact SeqAt.EqAt.int_none a t'
  | bl b=>cases rx;exact SeqAt.EqAt.int_bool a t' b
  | int b=>obtain ⟨t,rfl⟩:=rx;exact SeqAt.EqAt.int_int a t' b t
  | str b=>obtain ⟨t,rfl⟩:=rx;exact SeqAt.EqAt.int_str a t' b t
  | _=>exact absurd (show false=true from fx) Bool.false_ne_true
 | str a =>
  obtain ⟨t',rfl⟩:=ry
  cases x with
  | non=>cases rx;exact SeqAt.EqAt.str_none a t'
  | bl b=>cases rx;exact SeqAt.EqAt.str_bool a t' b
  | int b=>obtain ⟨t,rfl⟩:=rx;exact SeqAt.EqAt.str_int a t' b t
  | str b=>obtain ⟨t,rfl⟩:=rx;exact SeqAt.EqAt.str_str a t' b t
  | _=>exact absurd (show false=true from fx) Bool.false_ne_true
 | _=>exact absurd (show false=true from fy) Bool.false_ne_true
def eqU (x:V) (u:Value):Bool:=match u with
 | .none=>eqV .non x
 | .bool b=>eqV (.bl b) x
 | .int i _=>eqV (.int i) x
 | .str z _=>eqV (.str z) x
 | _=>false
theorem eqU_of {x y:V} {u:Value} (r:RelV y u) (f:flatV y=true):eqU x u=eqV y x:=by
 cases y with
 | non=>cases r;rfl
 | bl b=>cases r;rfl
 | int i=>obtain ⟨t,rfl⟩:=r;rfl
 | str z=>obtain ⟨t,rfl⟩:=r;rfl
 | _=>exact absurd (show false=true from f) Bool.false_ne_true
theorem any_eqU {x:V}:∀{xs:List V} {us:List Value},Vals xs us->xs.all flatV=true->us.any (eqU x)=xs.any λy=>eqV y x
 | _,_,.nil,_=>rfl
 | y::xs,u::us,.cons r t,f=>by
  rw [List.all_cons,Bool.and_eq_true] at f
  rw [List.any_cons,List.any_cons,eqU_of r f.1,any_eqU t f.2]
theorem mem_eqAt {A:Around} {s:Shared} {x:V} {v:Value} (rx:RelV x v) (fx:flatV x=true):∀{xs:List V} {us:List Value},Vals xs us->xs.all flatV=true->∀u∈us,SeqAt.EqAt A s u v (eqU x u)
 | _,_,.nil,_=>λu hu=>by cases hu
 | y::xs,u::us,.cons r t,f=>λu' hu=>by
  rw [List.all_cons,Bool.and_eq_true] at f
  rcases List.mem_cons.mp hu with rfl | hu
  ·rw [eqU_of r f.1];exact eqAt_V r rx f.1 fx
  ·exact mem_eqAt rx fx t f.2 u' hu
def inV (x:V) (xs:List V):Bool:=xs.any λy=>eqV y x
def rIn (K:PySem.W.Frag) (neg:Bool):R2:=λx y H Q=>∃p xs,y=.ref p/\(SqL K H p xs\/SqT K H p xs)/\flatV x=true/\xs.all flatV=true/\Q (.bl (if neg then !inV x xs else inV x xs)) H
theorem op_in_seq:OpR X (compareOp .In) (rIn X.K false):=by
 intro pins s σ H x y v u Q I rx ry h
 obtain ⟨p,xs,rfl,hq,fx,fs,q⟩:=h
 cases ry
 rcases hq with hq | hq
 ·obtain ⟨its,r,pl,hz⟩:=I.list hq
  refine SeqAt.in_listAt (eqU x) pl.isList (λw hw=>mem_eqAt rx fx r fs w (by simpa using hw)) ⟨.bl _,H,I,rfl,?_⟩
  rw [show its.toArray.any (eqU x)=its.any (eqU x) by simp,any_eqU r fs]
  exact q
 ·obtain ⟨its,r,pl,hz⟩:=I.tuple hq
  refine SeqAt.in_tupleAt (eqU x) pl (λw hw=>mem_eqAt rx fx r fs w (by simpa using hw)) ⟨.bl _,H,I,rfl,?_⟩
  rw [show its.toArray.any (eqU x)=its.any (eqU x) by simp,any_eqU r fs]
  exact q
theorem op_notIn_seq:OpR X (compareOp .NotIn) (rIn X.K true):=by
 intro pins s σ H x y v u Q I rx ry h
 obtain ⟨p,xs,rfl,hq,fx,fs,q⟩:=h
 cases ry
 rcases hq with hq | hq
 ·obtain ⟨its,r,pl,hz⟩:=I.list hq
  refine SeqAt.notIn_listAt (eqU x) pl.isList (λw hw=>mem_eqAt rx fx r fs w (by simpa using hw)) ⟨.bl _,H,I,rfl,?_⟩
  rw [show its.toArray.any (eqU x)=its.any (eqU x) by simp,any_eqU r fs]
  exact q
 ·obtain ⟨its,r,pl,hz⟩:=I.tuple hq
  refine SeqAt.notIn_tupleAt (eqU x) pl (λw hw=>mem_eqAt rx fx r fs w (by simpa using hw)) ⟨.bl _,H,I,rfl,?_⟩
  rw [show its.toArray.any (eqU x)=its.any (eqU x) by simp,any_eqU r fs]
  exact q
theorem op_notIn_str:OpR X (compareOp .NotIn) (λx y H Q=>∃i j,x=.str i/\y=.str j/\Q (.bl (!(!(Builtin.Str.occurrences j i 0 j.length 1).isEmpty))) H):=by
 intro pins s σ H x y v u Q I rx ry h
 obtain ⟨i,j,rfl,rfl,q⟩:=h
 obtain ⟨t,rfl⟩:=rx
 obtain ⟨t',rfl⟩:=ry
 exact notIn_str ⟨.bl _,H,I,rfl,q⟩
theorem CallR.or {f:Value} {r r':List V->Hp->VK->Prop} (h:CallR X f r) (h':CallR X f r'):CallR X f (λxs H Q=>r xs H Q\/r' xs H Q):=by
 intro pins s σ H xs us Q I rs q
 rcases q with q | q
 ·exact h pins s σ H xs us Q I rs q
 ·exact h' pins s σ H xs us Q I rs q
theorem call_list_of:CallR X (.type "list") (λxs H Q=>∃p ys,xs=[.ref p]/\(SqL X.K H p ys\/SqT X.K H p ys)/\∀l,H l=none->Q (.ref l) (upd H l (.lst ys))):=by
 intro pins s σ H xs us Q I r h
 obtain ⟨p,ys,rfl,hq,q⟩:=h
 obtain ⟨u,rfl,rx⟩:=vals1 r
 cases rx
 have fin:∀(its:List Value),Vals ys its->ys.length<=sizeLine->∀(h':Heap) (c':Nat),(∀b o',s.heap.get? b=some o'->h'.get? b=some o') ->
   h'.get? s.heap.objs.size=some { cls:=.type "list",dict:=none,data:=.seq its.toArray c',slots:=#[] }->EP X pins σ Q (.ref s.heap.objs.size) { s with heap:=h' }:=λits r' hz h' c' kp e =>
  ⟨.ref s.heap.objs.size,_,I.laid (t':=s.toks) kp (Nat.le_refl _) (show ObjOk X.prog X.w _ h' _ (.lst ys) from ⟨hz,its,c',r',e⟩),rfl,q _ (I.hok.fresh (Nat.le_refl _))⟩
 rcases hq with hq | hq
 ·obtain ⟨its,r',pl,hz⟩:=I.list hq
  have hlen:=r'.length
  obtain ⟨o,ho,hc,n,hd⟩:=pl.isList
  exact call_list_seq p (.inl rfl) ho hc hd (λh' c' kp e=>fin its r' hz h' c' kp e) (by simp only [List.size_toArray] <;> omega)
 ·obtain ⟨its,r',pl,hz⟩:=I.tuple hq
  have hlen:=r'.length
  obtain ⟨o,ho,hc,n,hd⟩:=pl
  exact call_list_seq p (.inr rfl) ho hc hd (λh' c' kp e=>fin its r' hz h' c' kp e) (by simp only [List.size_toArray] <;> omega)
theorem call_tuple_of:CallR X (.type "tuple") (λxs H Q=>∃p ys,xs=[.ref p]/\((SqL X.K H p ys/\∀l,H l=none->Q (.ref l) (upd H l (.tup ys)))\/(SqT X.K H p ys/\Q (.ref p) H))):=by
 intro pins s σ H xs us Q I r h
 obtain ⟨p,ys,rfl,h⟩:=h
 obtain ⟨u,rfl,rx⟩:=vals1 r
 cases rx
 rcases h with ⟨hq,q⟩ | ⟨hq,q⟩
 ·obtain ⟨its,r',pl,hz⟩:=I.list hq
  have hlen:=r'.length
  refine call_tuple_list pl.isList (λh' kp=>?_) (by simp only [List.size_toArray] <;> omega)
  have I1:Inv X pins σ H { s with heap:=h' }:=I.kept (t':=s.toks) kp
  have I2:Inv X pins σ (upd H h'.objs.size (.tup ys)) { s with heap:=h'.push { cls:=.type "tuple",data:=.seq its.toArray } } :=
   I1.laid (t':=s.toks) (λb o e=>Heap.get?_push_of_some _ e) (Nat.le_refl _) (show ObjOk X.prog X.w _ _ _ (.tup ys) from ⟨hz,its,r',IsTup.new _ _⟩)
  exact ⟨.ref h'.objs.size,_,I2,rfl,q _ (I1.hok.fresh (Nat.le_refl _))⟩
 ·obtain ⟨its,r',pl,hz⟩:=I.tuple hq
  exact call_tuple_same pl ⟨.ref p,H,I,rfl,q⟩
def tyV (K:PySem.W.Frag) (T:String) (x:V) (H:Hp):Prop:=match x with
 | .str _=>T = "str"
 | .int _=>T = "int"
 | .ref p=>(T = "list" /\ ∃xs,SqL K H p xs)\/(T = "tuple" /\ ∃o,K.lookup p=some o/\o.cls=.type "tuple" /\ o.dict=none) \/
   (T = "dict" /\ ((∃kvs,H p=some (.dK kvs))\/∃kvs,H p=some (.dT kvs)))\/(T = "set" /\ ∃S n,H p=some (.set S n))
 | _=>False
theorem tyV_is {pins:List (Addr × Obj)} {σ:St} {H:Hp} {s:Shared} {T:String} {x:V} {v:Value} (I:Inv X pins σ H s) (r:RelV x v) (ty:tyV X.K T x H) :
  s.TypeIs v T/\∀a,v=.ref a->∃ob,s.heap.get? a=some ob/\ob.dict=none:=by
 cases x with
 | str z =>
  obtain ⟨t,rfl⟩:=r
  cases (show T = "str" from ty)
  exact ⟨typeIs_str s z t,λ_ e=>nomatch e⟩
 | int i =>
  obtain ⟨t,rfl⟩:=r
  cases (show T = "int" from ty)
  exact ⟨typeIs_int s i t,λ_ e=>nomatch e⟩
 | ref p =>
  cases r
  rcases ty with ⟨rfl,xs,hq⟩ | ⟨rfl,o,hk,hc,hd⟩ | ⟨rfl,hk⟩ | ⟨rfl,S,n,hk⟩
  ·obtain ⟨its,_,pl,_⟩:=I.list hq
   refine ⟨pl.isList.typeIs,λa e=>?_⟩
   cases e
   obtain ⟨o,n,e,c,hd,_⟩:=pl
   exact ⟨o,e,hd⟩
  ·refine ⟨⟨o,I.kIn p o hk,hc⟩,λa e=>?_⟩
   cases e
   exact ⟨o,I.kIn _ o hk,hd⟩
  ·have z:∃o,s.heap.get? p=some o/\o.ExactDict:=by
    rcases hk with ⟨kvs,hk⟩ | ⟨kvs,hk⟩
    ·obtain ⟨_,_,_,_,o,_,_,e,ex,_⟩:=I.hok p _ hk
     exact ⟨o,e,ex⟩
    ·obtain ⟨_,_,_,_,o,_,_,e,ex,_⟩:=I.hok p _ hk
     exact ⟨o,e,ex⟩
   obtain ⟨o,e,ex⟩:=z
   refine ⟨⟨o,e,ex.1⟩,λa e2=>?_⟩
   cases e2
   exact ⟨o,e,ex.2.1⟩
  ·obtain ⟨o,_,_,_,e,ex,_⟩:=I.hok p _ hk
   refine ⟨⟨o,e,ex.1⟩,λa e2=>?_⟩
   cases e2
   exact ⟨o,e,ex.2.1⟩
 | _=>exact False.elim ty
def tBM (K:PySem.W.Frag) (T:String) (r:V->List V->Hp->VK->Prop) (to:TE) (t:TA):TE:=λσ H Q=>to σ H λx H1=>tyV K T x H1/\t σ H1 λxs H2=>r x xs H2 Q
variable {o e:Expr} {es:List Expr} {to:TE} {t:TA} {name:Str} {apos cpos:Pos} {T id:String} {r:V->List V->Hp->VK->Prop}
theorem pe_bm (pa:PlainAttrs T) (slot:Slot T name id) (hty:typeOf (.builtin id)=pure (.type "method_descriptor")) (hm:MtR X id r) (ho:PE X o to) (ha:PA X (e::es) t)
  (hbase:attributeBase o name X.env (eval o X.env)=eval o X.env:=by rfl)
  (hfew:((backTo cpos (starEach (e::es) X.env)).all (λx=>!x.1) && (backToKw cpos (keywordEach [] X.env)).all (λx=>x.1.isSome)
   && decide ((e::es).length+([]:List Keyword).length+(if ([]:List Keyword).isEmpty then 0 else 1)<30))=true:=by rfl)
  (hline:(apos.endLine == cpos.line)=true:=by rfl) (hs:starEach (e::es) X.env=(false,eval e X.env)::starEach es X.env:=by rfl) (hplain:(backTo cpos (starEach es X.env)).any (·.1)=false:=by rfl) :
  PE X (.Call (.Attribute o name apos) (e::es) [] cpos) (tBM X.K T r to t):=by
 intro pins s σ H Q I h
 refine wpAny_Call_method_late hbase hfew hline rfl (thn (ho pins s σ H _ I h) λv s1 ⟨x,H1,I1,r1,ty,q1⟩=>?_)
 obtain ⟨h1,h2⟩:=tyV_is I1 r1 ty
 refine ⟨T,id,pa,slot,hty,h1,h2,?_⟩
 have hA:=ha cpos pins s1 σ H1 _ I1 q1
 rw [hs] at hA ⊢
 refine Calls.callWith_builtin (by show (false || (backTo cpos (starEach es X.env)).any (·.1))=false;rw [hplain] <;> rfl) (Calls.evalArgs_plain ?_)
 exact thn hA λus s2 ⟨vs,H2,I2,r2,q2⟩=>hm pins s2 σ H2 x vs v us Q I2 r1 r2 q2
end
end L2
namespace L2
open PySem PySem.Spec PyProof.Rows
def MtM (X:Cx) (id:String) (r:V->List V->Hp->VK->Prop):Prop :=
 ∀(pins:List (Addr × Obj)) (s:Shared) (σ:St) (H:Hp) (x:V) (xs:List V) (v:Value) (us:List Value) (Q:VK),Inv X pins σ H s->RelV x v->Vals xs us->r x xs H Q ->
  wpAny (model X.prog X.w) X.A (call (.builtin id) (v::us)) (EP X pins σ Q) X.xe s
theorem Vals.one:∀{x:V} {us:List Value},Vals [x] us->∃u,us=[u]/\RelV x u
 | _,_,.cons r .nil=>⟨_,rfl,r⟩
theorem Vals.two:∀{x y:V} {us:List Value},Vals [x,y] us->∃u v,us=[u,v]/\RelV x u/\RelV y v
 | _,_,_,.cons r (.cons q .nil)=>⟨_,_,rfl,r,q⟩
theorem Vals.zero:∀{us:List Value},Vals [] us->us=[]
 | _,.nil=>rfl
theorem Vals.dropLast {xs:List V} {us:List Value} (h:Vals xs us):Vals xs.dropLast us.dropLast:=by
 induction h with
 | nil=>exact .nil
 | cons r t ih =>
  cases t with
  | nil=>exact .nil
  | cons q t'=>exact .cons r ih
theorem Vals.eraseIdx:∀{xs:List V} {us:List Value} (i:Nat),Vals xs us->Vals (xs.eraseIdx i) (us.eraseIdx i)
 | _,_,_,.nil=>.nil
 | _,_,0,.cons _ t=>t
 | _,_,i+1,.cons r t=>.cons r (Vals.eraseIdx i t)
theorem Vals.reverse {xs:List V} {us:List Value} (h:Vals xs us):Vals xs.reverse us.reverse:=by
 induction h with
 | nil=>exact .nil
 | cons r t ih=>rw [List.reverse_cons,List.reverse_cons];exact Vals.append ih (.cons r .nil)
theorem Vals.rep {xs:List V} {us:List Value} (h:Vals xs us):∀k:Nat,Vals (List.replicate k xs).flatten (List.replicate k us).flatten
 | 0=>.nil
 | k+1=>by
  rw [List.replicate_succ,List.replicate_succ,List.flatten_cons,List.flatten_cons]
  exact Vals.append h (Vals.rep h k)
theorem len_erase {α:Type}:∀(l:List α) (i:Nat),(l.eraseIdx i).length<=l.length
 | [],_=>Nat.le_refl _
 | _::_,0=>Nat.le_succ _
 | _::r,i+1=>Nat.succ_le_succ (len_erase r i)
theorem foldl_rep (its:List Value):∀(k:Nat) (acc:List Value),
  List.foldl (λx1 x2=>x1++x2) acc.toArray (List.replicate k its.toArray)=(acc++(List.replicate k its).flatten).toArray
 | 0,acc=>by simp
 | k+1,acc=>by
  have e:acc.toArray++its.toArray=(acc++its).toArray:=by simp
  have e2:(acc++its)++(List.replicate k its).flatten=acc++(List.replicate (k+1) its).flatten:=by
   rw [List.replicate_succ,List.flatten_cons,List.append_assoc]
  rw [← e2,← foldl_rep its k (acc++its),← e,List.replicate_succ,List.foldl_cons]
section
variable {X:Cx} {pins:List (Addr × Obj)} {σ:St} {H:Hp} {s:Shared} {l b:Addr} {xs ys zs:List V}
theorem Inv.lset {its its':List Value} {n:Nat} {f:Array Value->Array Value} {t':Nat} (I:Inv X pins σ H s) (hH:H l=some (.lst xs))
  (e:s.heap.get? l=some { cls:=.type "list",data:=.seq its.toArray n }) (hf:f its.toArray=its'.toArray) (hv:Vals ys its') (hz:ys.length<=sizeLine) :
  Inv X pins σ (upd H l (.lst ys)) { s with heap:=s.heap.update l (Obj.mapSeq f),toks:=t' }:=by
 have q:=PySem.IsL.update e f
 rw [hf] at q
 refine I.write (x:=l) (e:=l) (by rw [hH];exact trivial) (.inl rfl) (λb' u hb hu=>(Heap.get?_update_other s.heap (Obj.mapSeq f) (Ne.symm hb)).trans hu) ⟨_,q⟩ ?_
 exact ⟨hz,its',_,hv,q⟩
theorem Inv.lnew {its:List Value} {t':Nat} (I:Inv X pins σ H s) (hv:Vals ys its) (hz:ys.length<=sizeLine) :
  Inv X pins σ (upd H s.heap.objs.size (.lst ys)) { s with heap:=s.heap.push { cls:=.type "list",data:=.seq its.toArray },toks:=t' } :=
 I.laid (λ_ _ q=>Heap.get?_push_of_some _ q) (Nat.le_refl _) ⟨hz,its,0,hv,Heap.get?_push_size _ rfl⟩
theorem Inv.fresh (I:Inv X pins σ H s):H s.heap.objs.size=none:=I.hok.fresh (Nat.le_refl _)
theorem Inv.lstM (I:Inv X pins σ H s) (hH:H l=some (.lst xs)):xs.length<=sizeLine/\∃(its:List Value) (n:Nat),Vals xs its/\xs.length=its.length/\s.heap.get? l=some { cls:=.type "list",data:=.seq its.toArray n }:=by
 obtain ⟨z,its,n,r,e⟩:=I.hok l _ hH
 exact ⟨z,its,n,r,r.length,e⟩
theorem notLongL {n:Nat} (h:n<=sizeLine):Builtin.List.listTooLong n=false:=by
 unfold Builtin.List.listTooLong
 exact decide_eq_false (by omega)
end
section
variable {X:Cx}
def rAppend:V->List V->Hp->VK->Prop:=λx vs H Q=>∃l xs y,x=.ref l/\vs=[y]/\H l=some (.lst xs)/\xs.length<sizeLine/\Q .non (upd H l (.lst (xs++[y])))
theorem mt_append:MtM X "list.append" rAppend:=by
 intro pins s σ H x vs v us Q I rx rv h
 obtain ⟨l,xs,y,rfl,rfl,hH,hz,q⟩:=h
 cases rx
 obtain ⟨u,rfl,ru⟩:=rv.one
 obtain ⟨z,its,n,r,hl,e⟩:=I.lstM hH
 refine call_meets F.slot_list_append ⟨_,e,rfl⟩ F.entry_list_append (F.args_list_append_2 _ _) (PySem.list_append l its.toArray n u (by rw [List.size_toArray];omega)) ⟨e,?_⟩
 refine ⟨.non,_,I.lset (its':=its++[u]) hH e (by simp) (r.append (.cons ru .nil)) ?_,rfl,q⟩
 rw [List.length_append,List.length_singleton]
 omega
def rExtend:V->List V->Hp->VK->Prop:=λx vs H Q=>∃l b xs zs,x=.ref l/\vs=[.ref b]/\H l=some (.lst xs)/\H b=some (.lst zs)/\xs.length+zs.length<=sizeLine/\Q .non (upd H l (.lst (xs++zs)))
theorem mt_extend:MtM X "list.extend" rExtend:=by
 intro pins s σ H x vs v us Q I rx rv h
 obtain ⟨l,b,xs,zs,rfl,rfl,hH,hB,hz,q⟩:=h
 cases rx
 obtain ⟨u,rfl,ru⟩:=rv.one
 cases ru
 obtain ⟨z,its,n,r,hl,e⟩:=I.lstM hH
 obtain ⟨z2,its2,n2,r2,hl2,e2⟩:=I.lstM hB
 have hsz:its.toArray.size+its2.toArray.size<=sizeLine:=by rw [List.size_toArray,List.size_toArray];omega
 have hlong:¬(!its.toArray.isEmpty && Builtin.List.listTooLong (its.toArray.size+its2.toArray.size))=true:=by
  rw [notLongL hsz,Bool.and_false]
  exact Bool.false_ne_true
 refine call_meets F.slot_list_extend ⟨_,e,rfl⟩ F.entry_list_extend (F.args_list_extend_2 _ _)
  (AutoSeq1.list_extend_list_list_0 l its.toArray n b its2.toArray n2 hlong (by rw [List.size_toArray];omega) (by omega)) ⟨e,e2,?_⟩
 refine ⟨.non,_,I.lset (its':=its++its2) hH e (by simp) (r.append r2) ?_,rfl,q⟩
 rw [List.length_append]
 omega
def rPopAt:V->List V->Hp->VK->Prop:=λx vs H Q=>∃l xs i k y,x=.ref l/\vs=[.int i]/\H l=some (.lst xs) /\ -(2 ^ 63)<=i/\i<2 ^ 63/\seqIndex? i xs.length=some k/\xs[k]? = some y/\Q y (upd H l (.lst (xs.eraseIdx k)))
theorem mt_popAt:MtM X "list.pop" rPopAt:=by
 intro pins s σ H x vs v us Q I rx rv h
 obtain ⟨l,xs,i,k,y,rfl,rfl,hH,h1,h2,hk,hy,q⟩:=h
 cases rx
 obtain ⟨u,rfl,ru⟩:=rv.one
 obtain ⟨t,rfl⟩:=ru
 obtain ⟨z,its,n,r,hl,e⟩:=I.lstM hH
 obtain ⟨w,hw,rw'⟩:=r.get hy
 refine call_meets F.slot_list_pop ⟨_,e,rfl⟩ F.entry_list_pop (F.args_list_pop_2 _ _)
  (MeetsSeq.list_pop_at l its.toArray n i t k w (fitsIndex_both h1 h2) (by rw [List.size_toArray,← hl];exact hk) (by rw [← Array.getElem?_toList];exact hw) (by rw [List.size_toArray];omega)) ⟨e,?_⟩
 refine ⟨y,_,I.lset (its':=its.eraseIdx k) hH e ?_ (r.eraseIdx k) ?_,rw',q⟩
 ·show its.toArray.eraseIdxIfInBounds k=(its.eraseIdx k).toArray
  rw [List.eraseIdxIfInBounds_toArray]
 ·have:=len_erase xs k
  omega
def rCat:R2:=λx y H Q=>∃l b xs zs,x=.ref l/\y=.ref b/\H l=some (.lst xs)/\H b=some (.lst zs)/\xs.length+zs.length<=sizeLine/\∀p,H p=none->Q (.ref p) (upd H p (.lst (xs++zs)))
theorem op_cat:OpR X (binaryOp .Add) rCat:=by
 intro pins s σ H x y v u Q I rx ry h
 obtain ⟨l,b,xs,zs,rfl,rfl,hH,hB,hz,q⟩:=h
 cases rx
 cases ry
 obtain ⟨z,its,n,r,hl,e⟩:=I.lstM hH
 obtain ⟨z2,its2,n2,r2,hl2,e2⟩:=I.lstM hB
 refine PySem.P.add_list e e2 ?_ (by rw [List.size_toArray,List.size_toArray];omega)
 have ea:its.toArray++its2.toArray=(its++its2).toArray:=by simp
 rw [ea]
 exact ⟨.ref _,_,I.lnew (t':=s.toks) (r.append r2) (by rw [List.length_append];omega),rfl,q _ I.fresh⟩
def rRep:R2:=λx y H Q=>∃l k xs,x=.ref l/\y=.int k/\H l=some (.lst xs) /\ -(2 ^ 63)<=k/\k<2 ^ 63/\xs.length*k.toNat<=sizeLine /\
 ∀p,H p=none->Q (.ref p) (upd H p (.lst (List.replicate k.toNat xs).flatten))
theorem len_rep {α:Type} (xs:List α) (k:Nat):(List.replicate k xs).flatten.length=k*xs.length:=by
 induction k with
 | zero=>simp
 | succ k ih=>rw [List.replicate_succ,List.flatten_cons,List.length_append,ih,Nat.succ_mul,Nat.add_comm]
theorem op_rep:OpR X (binaryOp .Mult) rRep:=by
 intro pins s σ H x y v u Q I rx ry h
 obtain ⟨l,k,xs,rfl,rfl,hH,h1,h2,hz,q⟩:=h
 cases rx
 obtain ⟨t,rfl⟩:=ry
 obtain ⟨z,its,n,r,hl,e⟩:=I.lstM hH
 have hlen:its.toArray.size*k.toNat<=sizeLine:=by rw [List.size_toArray,← hl];exact hz
 have hcap:¬its.toArray.size*k.toNat > (2 ^ 63-1) / 8:=by
  have:(sizeLine:Nat)<=(2 ^ 63-1) / 8:=by decide
  omega
 have hfit:¬(!Builtin.List.listFitsIndex k)=true:=by
  rw [fitsIndex_both h1 h2]
  exact Bool.false_ne_true
 have hlong:¬Builtin.List.listTooLong (its.toArray.size*k.toNat)=true:=by
  rw [notLongL hlen]
  exact Bool.false_ne_true
 have hnew:List.foldl (λx1 x2=>x1++x2) #[] (List.replicate (if its.toArray.isEmpty=true then 0 else k.toNat) its.toArray)=(List.replicate k.toNat its).flatten.toArray:=by
  have f0:∀m:Nat,List.foldl (λx1 x2=>x1++x2) #[] (List.replicate m its.toArray)=(List.replicate m its).flatten.toArray:=λm=>by
   have:=foldl_rep its m []
   rw [List.nil_append] at this
   exact this
  rw [f0]
  cases its with
  | nil=>simp
  | cons a r'=>rw [if_neg (by simp)]
 refine wpAny_binaryOp_repeat_ref (T:="list") (U:="int") (by decide) ⟨_,e,rfl⟩ (λs'=>typeIs_int s' k t) noFill_list_mul F.fills_int_mul F.slot_int_rmul repeat_list F.slot_int_index.lookup
  (call_meets F.slot_int_rmul (typeIs_int s k t) F.entry_int_rmul (F.args_int_rmul_2 _ _) (int___rmul___int_list k t l its.toArray n)
   ⟨e,rfl,⟨_,e,rfl⟩,call_meets F.slot_list_mul ⟨_,e,rfl⟩ F.entry_list_mul (F.args_list_mul_2 _ _) (AutoListH.list___mul___list_int_3 l its.toArray n k t hfit hcap hlong) ⟨e,?_⟩⟩)
 rw [hnew]
 exact ⟨.ref _,_,I.lnew (t':=s.toks) (r.rep k.toNat) (by rw [len_rep,Nat.mul_comm];exact hz),rfl,q _ I.fresh⟩
end
section
variable {prog:Program} {w:World} {A:Around} {E:Value->Shared->Prop} {s:Shared}
end
section
variable {X:Cx}
end
end L2
namespace L2
open PySem PySem.Spec PyProof.Rows
section
variable {κ:Type} [DecidableEq κ]
def valV (kvs:List (κ × V)) (k:κ):Option V:=(kvs.find? λkv=>decide (kv.1=k)).map (·.2)
def putK (kvs:List (κ × V)) (k:κ) (v:V):List (κ × V) :=
 if (kvs.any λkv=>decide (kv.1=k))=true then kvs.map (λkv=>if kv.1=k then (kv.1,v) else kv) else kvs++[(k,v)]
def dropK (kvs:List (κ × V)) (k:κ):List (κ × V):=kvs.filter λkv=>decide (kv.1≠k)
theorem valV_pos {p:κ × V} {r:List (κ × V)} {k:κ} (e:p.1=k):valV (p::r) k=some p.2:=by simp [valV,List.find?_cons,e]
theorem valV_neg {p:κ × V} {r:List (κ × V)} {k:κ} (e:¬p.1=k):valV (p::r) k=valV r k:=by simp [valV,List.find?_cons,e]
theorem valV_any (k:κ):∀kvs:List (κ × V),(kvs.any λkv=>decide (kv.1=k))=(valV kvs k).isSome
 | []=>rfl
 | p::r=>by
  rw [List.any_cons]
  by_cases e:p.1=k
  ·simp only [valV_pos e,decide_eq_true e,Bool.true_or,Option.isSome_some]
  ·rw [valV_neg e,decide_eq_false e,Bool.false_or];exact valV_any k r
theorem length_putK (kvs:List (κ × V)) (k:κ) (v:V):(putK kvs k v).length<=kvs.length+1:=by
 unfold putK
 split
 ·rw [List.length_map];omega
 ·rw [List.length_append,List.length_cons,List.length_nil];omega
theorem RelO.isSome_eq {o:Option V} {u:Option Value} (r:RelO o u):o.isSome=u.isSome:=by
 cases o with
 | none=>cases u with
  | none=>rfl
  | some _=>exact (show False from r).elim
 | some _=>cases u with
  | none=>exact (show False from r).elim
  | some _=>rfl
theorem RelO.getD {o:Option V} {u:Option Value} {d:V} {d':Value} (r:RelO o u) (rd:RelV d d'):RelV (o.getD d) (u.getD d'):=by
 cases o with
 | none=>cases u with
  | none=>exact rd
  | some _=>exact (show False from r).elim
 | some _=>cases u with
  | none=>exact (show False from r).elim
  | some _=>exact r
theorem KV.val {kvs:List (κ × V)} {vs:List (κ × Value)} (r:KV kvs vs) (k:κ):RelO (valV kvs k) (valueAt vs k):=by
 unfold KV at r
 induction r with
 | nil=>exact True.intro
 | @cons p q ps qs h t ih =>
  obtain ⟨h1,h2⟩:=h
  by_cases e:p.1=k
  ·have e':q.1=k:=h1.symm.trans e
   have b:valueAt (q::qs) k=some q.2:=by simp [valueAt,List.find?_cons,e']
   rw [valV_pos e,b];exact h2
  ·have e':¬q.1=k:=λz=>e (h1.trans z)
   have b:valueAt (q::qs) k=valueAt qs k:=by simp [valueAt,List.find?_cons,e']
   rw [valV_neg e,b];exact ih
theorem KV.any {kvs:List (κ × V)} {vs:List (κ × Value)} (r:KV kvs vs) (k:κ):(kvs.any λkv=>decide (kv.1=k))=vs.any λkv=>decide (kv.1=k):=by
 unfold KV at r
 induction r with
 | nil=>rfl
 | cons h t ih=>rw [List.any_cons,List.any_cons,ih,h.1]
theorem KV.repl {kvs:List (κ × V)} {vs:List (κ × Value)} (r:KV kvs vs) (k:κ) {y:V} {u:Value} (ry:RelV y u) :
  KV (kvs.map λkv=>if kv.1=k then (kv.1,y) else kv) (vs.map λkv=>if kv.1=k then (kv.1,u) else kv):=by
 unfold KV at r ⊢
 induction r with
 | nil=>exact .nil
 | @cons p q ps qs h t ih =>
  rw [List.map_cons,List.map_cons]
  refine .cons ?_ ih
  obtain ⟨h1,h2⟩:=h
  by_cases e:p.1=k
  ·rw [if_pos e,if_pos (h1.symm.trans e)];exact ⟨h1,ry⟩
  ·rw [if_neg e,if_neg (λz=>e (h1.trans z))];exact ⟨h1,h2⟩
theorem KV.put {kvs:List (κ × V)} {vs:List (κ × Value)} (r:KV kvs vs) (k:κ) {y:V} {u:Value} (ry:RelV y u):KV (putK kvs k y) (stored vs k u):=by
 unfold putK stored
 rw [r.any k]
 by_cases e:(vs.any λkv=>decide (kv.1=k))=true
 ·rw [if_pos e,if_pos e];exact r.repl k ry
 ·rw [if_neg e,if_neg e];exact Paired.snoc r ⟨rfl,ry⟩
theorem KV.drop {kvs:List (κ × V)} {vs:List (κ × Value)} (r:KV kvs vs) (k:κ):KV (dropK kvs k) (without vs k):=by
 unfold KV at r ⊢
 unfold dropK without
 induction r with
 | nil=>exact .nil
 | @cons p q ps qs h t ih =>
  obtain ⟨h1,h2⟩:=h
  rw [List.filter_cons,List.filter_cons]
  by_cases e:p.1=k
  ·have a:¬decide (p.1≠k)=true:=by simp [e]
   have b:¬decide (q.1≠k)=true:=by simp [h1.symm.trans e]
   rw [if_neg a,if_neg b];exact ih
  ·have e':¬q.1=k:=λz=>e (h1.trans z)
   have a:decide (p.1≠k)=true:=by simp [e]
   have b:decide (q.1≠k)=true:=by simp [e']
   rw [if_pos a,if_pos b];exact .cons ⟨h1,h2⟩ ih
theorem KV.keys {kvs:List (κ × V)} {vs:List (κ × Value)} (r:KV kvs vs):kvs.map (·.1)=vs.map (·.1):=by
 unfold KV at r
 induction r with
 | nil=>rfl
 | cons h t ih=>rw [List.map_cons,List.map_cons,ih,h.1]
theorem KV.length {kvs:List (κ × V)} {vs:List (κ × Value)} (r:KV kvs vs):kvs.length=vs.length:=Paired.length r
theorem dropK_le (kvs:List (κ × V)) (k:κ):(dropK kvs k).length<=kvs.length:=List.length_filter_le _ _
end
theorem kV_is {P:Program} {w:World} {k:Key} {u:Value} (r:RelV (kV k) u):(mixKind P w).is k u=true:=by
 cases k with
 | inl i=>obtain ⟨t,e⟩:=(show ∃t,u=Value.int i t from r);subst e;exact mixKind_int P w i t
 | inr x=>obtain ⟨t,e⟩:=(show ∃t,u=Value.str x t from r);subst e;exact mixKind_str P w x t
theorem items_are {P:Program} {w:World}:∀{ks:List Key} {us:List Value},Vals (ks.map kV) us->ItemsAre (mixKind P w) ks us
 | [],_,r=>by rw [List.map_nil] at r;cases r;exact .nil
 | k::ks,_,r=>by
  rw [List.map_cons] at r
  cases r with
  | cons h t=>exact .cons (kV_is h) (items_are t)
abbrev KT (H:Hp):List (List Key × V)->List (List Key × Addr × Value)->Prop:=Paired λp q=>p.1=q.1/\H q.2.1=some (.tup (p.1.map kV))/\RelV p.2 q.2.2
theorem KT.val {H:Hp} {kvs:List (List Key × V)} {xs:List (List Key × Addr × Value)} (r:KT H kvs xs) (k:List Key):RelO (valV kvs k) ((atKey xs k).map (·.2)):=by
 induction r with
 | nil=>exact True.intro
 | @cons p q ps qs h t ih =>
  obtain ⟨h1,_,h2⟩:=h
  by_cases e:p.1=k
  ·have e':q.1=k:=h1.symm.trans e
   have b:atKey (q::qs) k=some q.2:=by simp [atKey,List.find?_cons,e']
   rw [valV_pos e,b];exact h2
  ·have e':¬q.1=k:=λz=>e (h1.trans z)
   have b:atKey (q::qs) k=atKey qs k:=by simp [atKey,List.find?_cons,e']
   rw [valV_neg e,b];exact ih
theorem KT.repl {H:Hp} {kvs:List (List Key × V)} {xs:List (List Key × Addr × Value)} (r:KT H kvs xs) (k:List Key) {y:V} {u:Value} (ry:RelV y u) :
  KT H (kvs.map λkv=>if kv.1=k then (kv.1,y) else kv) (xs.map (putAt k u)):=by
 induction r with
 | nil=>exact .nil
 | @cons p q ps qs h t ih =>
  rw [List.map_cons,List.map_cons]
  refine .cons ?_ ih
  obtain ⟨h1,h2,h3⟩:=h
  unfold putAt
  by_cases e:p.1=k
  ·rw [if_pos e,if_pos (h1.symm.trans e)];exact ⟨h1,h2,ry⟩
  ·rw [if_neg e,if_neg (λz=>e (h1.trans z))];exact ⟨h1,h2,h3⟩
theorem KT.put {H:Hp} {kvs:List (List Key × V)} {xs:List (List Key × Addr × Value)} (r:KT H kvs xs) (k:List Key) {b:Addr} {y:V} {u:Value} (hb:H b=some (.tup (k.map kV))) (ry:RelV y u) :
  KT H (putK kvs k y) (storedH xs k b u):=by
 have e:(kvs.any λkv=>decide (kv.1=k))=(atKey xs k).isSome:=by
  rw [valV_any,(r.val k).isSome_eq,Option.isSome_map]
 unfold putK storedH
 rw [e]
 by_cases q:(atKey xs k).isSome=true
 ·rw [if_pos q,if_pos q];exact r.repl k ry
 ·rw [if_neg q,if_neg q];exact Paired.snoc r ⟨rfl,hb,ry⟩
theorem KT.keeps {H H':Hp} {kvs:List (List Key × V)} {xs:List (List Key × Addr × Value)} (r:KT H kvs xs) (ht:∀b ys,H b=some (.tup ys)->H' b=some (.tup ys)):KT H' kvs xs :=
 Paired.mapP r λ_ _ z=>⟨z.1,ht _ _ z.2.1,z.2.2⟩
section
variable {P:Program} {w:World} {H:Hp} {h:Heap} {a:Addr}
theorem rd_of {u:HO} (ok:HOk P w H h) (e:Rd H a u):ObjOk P w H h a u:=e.ok ok
theorem dk_rd {kvs:List (Key × V)} (ok:HOk P w H h) (e:Rd H a (.dK kvs)):kvs.length<=sizeLine/\(a == sysModules)=false/\∃vs,KV kvs vs/\h.DictOf (mixKind P w) a vs :=
 show ObjOk P w H h a (.dK kvs) from rd_of ok e
theorem dk_of {kvs:List (Key × V)} (ok:HOk P w H h) (e:H a=some (.dK kvs)):kvs.length<=sizeLine/\(a == sysModules)=false/\∃vs,KV kvs vs/\h.DictOf (mixKind P w) a vs:=dk_rd ok (.inl e)
theorem key_of {ks:List Key} (ok:HOk P w H h) (e:H a=some (.tup (ks.map kV))):(tupleKind (mixKind P w)).is h ks a:=by
 obtain ⟨_,its,r,o,h1,h2,n,h3⟩:=(show ObjOk P w H h a (.tup (ks.map kV)) from ok a _ e)
 exact ⟨o,its.toArray,n,h1,h2,h3,by simpa using items_are r⟩
theorem dt_rd {kvs:List (List Key × V)} (ok:HOk P w H h) (e:Rd H a (.dT kvs)):kvs.length<=sizeLine/\(a == sysModules)=false /\
  ∃xs,KT H kvs xs/\h.DictOfH (tupleKind (mixKind P w)) a xs:=by
 obtain ⟨z,y,xs,r,o,es,ep,h1,h2,h3,h4,h5⟩:=(show ObjOk P w H h a (.dT kvs) from rd_of ok e)
 refine ⟨z,y,xs,r,o,es,ep,h1,h2,h3,h4,λx hx=>?_,h5⟩
 have all:∀{l:List (List Key × V)} {m:List (List Key × Addr × Value)},KT H l m->∀x∈m,(tupleKind (mixKind P w)).is h x.1 x.2.1:=by
  intro l m q
  induction q with
  | nil=>intro x hx;exact nomatch hx
  | @cons p q ps qs hq t ih =>
   intro x hx
   rcases List.mem_cons.mp hx with e | hx
   ·subst e
    exact key_of ok (by rw [← hq.1];exact hq.2.1)
   ·exact ih x hx
 exact all r x hx
theorem dt_of {kvs:List (List Key × V)} (ok:HOk P w H h) (e:H a=some (.dT kvs)):kvs.length<=sizeLine/\(a == sysModules)=false /\
  ∃xs,KT H kvs xs/\h.DictOfH (tupleKind (mixKind P w)) a xs:=dt_rd ok (.inl e)
end
def DGet (H:Hp) (a:Addr) (y:V) (r:Option V):Prop :=
 (∃kvs k,Rd H a (.dK kvs)/\y=kV k/\r=valV kvs k)\/∃kvs k b,Rd H a (.dT kvs)/\y=.ref b/\H b=some (.tup (k.map kV))/\r=valV kvs k
def DPut (H:Hp) (a:Addr) (y v:V) (H':Hp):Prop :=
 (∃kvs k,H a=some (.dK kvs)/\y=kV k/\kvs.length<sizeLine/\H'=upd H a (.dK (putK kvs k v))) \/
 ∃kvs k b,H a=some (.dT kvs)/\y=.ref b/\H b=some (.tup (k.map kV))/\kvs.length<sizeLine/\H'=upd H a (.dT (putK kvs k v))
theorem DGet.k {H:Hp} {a:Addr} {kvs:List (Key × V)} {k:Key} (e:H a=some (.dK kvs)):DGet H a (kV k) (valV kvs k):=.inl ⟨kvs,k,.inl e,rfl,rfl⟩
theorem DGet.t {H:Hp} {a b:Addr} {kvs:List (List Key × V)} {k:List Key} (e:H a=some (.dT kvs)) (eb:H b=some (.tup (k.map kV))):DGet H a (.ref b) (valV kvs k):=.inr ⟨kvs,k,b,.inl e,rfl,eb,rfl⟩
theorem DPut.k {H:Hp} {a:Addr} {kvs:List (Key × V)} {k:Key} {v:V} (e:H a=some (.dK kvs)) (hl:kvs.length<sizeLine):DPut H a (kV k) v (upd H a (.dK (putK kvs k v))):=.inl ⟨kvs,k,e,rfl,hl,rfl⟩
theorem DPut.t {H:Hp} {a b:Addr} {kvs:List (List Key × V)} {k:List Key} {v:V} (e:H a=some (.dT kvs)) (eb:H b=some (.tup (k.map kV))) (hl:kvs.length<sizeLine) :
  DPut H a (.ref b) v (upd H a (.dT (putK kvs k v))):=.inr ⟨kvs,k,b,e,rfl,eb,hl,rfl⟩
section
variable {X:Cx} {pins:List (Addr × Obj)} {σ:St} {H:Hp} {s:Shared} {a:Addr} {y v:V} {u r:Value} {o:Option V} {A:Around} {E:Value->Shared->Prop}
theorem Inv.big (I:Inv X pins σ H s):sysModules<s.heap.objs.size:=by
 have h:mainGlobals<s.heap.objs.size:=(I.mod.glob.keeps I.bk).lt
 exact Nat.lt_trans (by decide) h
theorem d_getItem {Q:Value->Shared->Prop} (hu:A.units+1<cLine) (I:Inv X pins σ H s) (g:DGet H a y (some v)) (ry:RelV y u) (h:∀w' s',Inv X pins σ H s'->RelV v w'->Q w' s') :
  wpAny (model X.prog X.w) A (getItem (.ref a) u) Q E s:=by
 rcases g with ⟨kvs,k,e,ey,l⟩ | ⟨kvs,k,b,e,ey,eb,l⟩
 ·subst ey
  obtain ⟨z,hd,vs,rel,dd⟩:=dk_rd I.hok e
  obtain ⟨w',hw,rw'⟩:=RelO.some_of (v:=v) (o:=valueAt vs k) (by rw [l];exact rel.val k)
  exact wpAny_getItem_of (kV_is ry) dd.mapOf hw (h w' _ (I.tok _) rw')
 ·subst ey
  cases (show u=Value.ref b from ry)
  obtain ⟨z,hd,xs,rel,dd⟩:=dt_rd I.hok e
  obtain ⟨w',hw,rw'⟩:=RelO.some_of (v:=v) (o:=(atKey xs k).map (·.2)) (by rw [l];exact rel.val k)
  obtain ⟨p,hp,hp2⟩:=Option.map_eq_some_iff.mp hw
  refine wpAny_getItem_heap (tupleKind_room_in1 hu) (key_of I.hok eb) dd hp ?_
  rw [hp2]
  exact h w' _ (I.tok _) rw'
theorem d_in {Q:Value->Shared->Prop} (hu:A.units+1<cLine) (I:Inv X pins σ H s) (g:DGet H a y o) (ry:RelV y u) (h:∀s',Inv X pins σ H s'->Q (.bool o.isSome) s') :
  wpAny (model X.prog X.w) A (compareOp .In u (.ref a)) Q E s:=by
 rcases g with ⟨kvs,k,e,ey,l⟩ | ⟨kvs,k,b,e,ey,eb,l⟩
 ·subst ey
  obtain ⟨z,hd,vs,rel,dd⟩:=dk_rd I.hok e
  refine wpAny_in_of (kV_is ry) hd dd.mapOf ?_
  rw [← (rel.val k).isSome_eq,← l]
  exact h _ (I.tok _)
 ·subst ey
  cases (show u=Value.ref b from ry)
  obtain ⟨z,hd,xs,rel,dd⟩:=dt_rd I.hok e
  refine wpAny_in_heap (tupleKind_room_in1 hu) (key_of I.hok eb) hd dd ?_
  have q:=(rel.val k).isSome_eq
  rw [Option.isSome_map] at q
  rw [← q,← l]
  exact h _ (I.tok _)
theorem d_notIn {Q:Value->Shared->Prop} (hu:A.units+1<cLine) (I:Inv X pins σ H s) (g:DGet H a y o) (ry:RelV y u) (h:∀s',Inv X pins σ H s'->Q (.bool (!o.isSome)) s') :
  wpAny (model X.prog X.w) A (compareOp .NotIn u (.ref a)) Q E s:=by
 rcases g with ⟨kvs,k,e,ey,l⟩ | ⟨kvs,k,b,e,ey,eb,l⟩
 ·subst ey
  obtain ⟨z,hd,vs,rel,dd⟩:=dk_rd I.hok e
  refine wpAny_notIn_of (kV_is ry) hd dd.mapOf ?_
  rw [← (rel.val k).isSome_eq,← l]
  exact h _ (I.tok _)
 ·subst ey
  cases (show u=Value.ref b from ry)
  obtain ⟨z,hd,xs,rel,dd⟩:=dt_rd I.hok e
  refine wpAny_notIn_heap (tupleKind_room_in1 hu) (key_of I.hok eb) hd dd ?_
  have q:=(rel.val k).isSome_eq
  rw [Option.isSome_map] at q
  rw [← q,← l]
  exact h _ (I.tok _)
theorem d_write {h':Heap} {t':Nat} {ob:HO} (I:Inv X pins σ H s) (mu:Mut (H a)) (hs:Heap.SameBut a s.heap h') (he:∃q,h'.get? a=some q) (new:ObjOk X.prog X.w (upd H a ob) h' a ob) :
  Inv X pins σ (upd H a ob) { s with heap:=h',toks:=t' } :=
 I.write (x:=a) (e:=a) mu (.inl rfl) (λb q hb z=>(hs.2 b hb).trans z) he new
theorem dk_new {P:Program} {w:World} {H':Hp} {h':Heap} {kvs:List (Key × V)} {vs:List (Key × Value)} (z:kvs.length<=sizeLine) (hd:(a == sysModules)=false) (rel:KV kvs vs) (dd:h'.DictOf (mixKind P w) a vs) :
  ObjOk P w H' h' a (.dK kvs):=⟨z,hd,vs,rel,dd⟩
theorem d_setItem {H':Hp} {Q:Unit->Shared->Prop} (hu:A.units+1<cLine) (I:Inv X pins σ H s) (g:DPut H a y v H') (ry:RelV y u) (rv:RelV v r) (h:∀s',Inv X pins σ H' s'->Q () s') :
  wpAny (model X.prog X.w) A (setItem (.ref a) u r) Q E s:=by
 rcases g with ⟨kvs,k,e,ey,l,eH⟩ | ⟨kvs,k,b,e,ey,eb,l,eH⟩
 ·subst ey eH
  obtain ⟨z,hd,vs,rel,dd⟩:=dk_of I.hok e
  have hz:vs.length<=sizeLine:=by rw [← rel.length];exact z
  have hl:(putK kvs k v).length<=sizeLine:=by have:=length_putK kvs k v;omega
  refine wpAny_setItem_pairs (hsz:=hz) (kV_is ry) dd λh' dd' hs=>h _ ?_
  have he:∃q,h'.get? a=some q:=let ⟨q,_,_,hq,_⟩:=dd';⟨q,hq⟩
  exact d_write I (by rw [e];exact True.intro) hs he (dk_new hl hd (rel.put k rv) dd')
 ·subst ey eH
  cases (show u=Value.ref b from ry)
  obtain ⟨z,hd,xs,rel,dd⟩:=dt_of I.hok e
  have hz:xs.length<=sizeLine:=by rw [← Paired.length rel];exact z
  have hl:(putK kvs k v).length<=sizeLine:=by have:=length_putK kvs k v;omega
  refine wpAny_setItem_heap (hsz:=hz) (tupleKind_room_in1 hu) (key_of I.hok eb) dd λh' dd' hs=>h _ ?_
  obtain ⟨q,es,ep,hq,h2,h3,h4,_,h5⟩:=dd'
  refine d_write I (by rw [e];exact True.intro) hs ⟨q,hq⟩ ⟨hl,hd,_,(rel.put k eb rv).keeps λc ys ec=>?_,q,es,ep,hq,h2,h3,h4,h5⟩
  rw [upd_ne (ne_of ec e (λz=>nomatch z))]
  exact ec
end
section
variable {X:Cx} {pins:List (Addr × Obj)} {σ:St} {H:Hp} {s:Shared} {a:Addr} {kvs:List (Key × V)} {k:Key} {u:Value} {A:Around} {E:Value->Shared->Prop}
theorem d_len {Q:Value->Shared->Prop} (I:Inv X pins σ H s) (e:Rd H a (.dK kvs)) (h:∀t s',Inv X pins σ H s'->Q (.int kvs.length t) s'):wpAny (model X.prog X.w) A (call (.builtin "len") [.ref a]) Q E s:=by
 obtain ⟨z,hd,vs,rel,dd⟩:=dk_rd I.hok e
 refine call_len_dict hd dd (by rw [← rel.length];rw [sizeLine_eq] at z;omega) ?_
 rw [← rel.length]
 exact h _ _ (I.tok _)
end
theorem dict_typeIs {X:Cx} {pins:List (Addr × Obj)} {σ:St} {H:Hp} {s:Shared} {a:Addr} {y:V} {o:Option V} (I:Inv X pins σ H s) (g:DGet H a y o):s.TypeIs (.ref a) "dict":=by
 rcases g with ⟨kvs,k,e,_,_⟩ | ⟨kvs,k,b,e,_,_,_⟩
 ·obtain ⟨_,_,vs,_,dd⟩:=dk_rd I.hok e
  exact dd.typeIs
 ·obtain ⟨_,_,xs,_,dd⟩:=dt_rd I.hok e
  exact dd.typeIs
section
variable {X:Cx} {o i e value:Expr} {pos pos' tpos:Pos} {td ty tv:TE}
end
theorem dk_empty {P:Program} {w:World} {H:Hp} (h:Heap) (hb:sysModules<h.objs.size):ObjOk P w H (h.push { cls:=.type "dict",data:=.dict #[] }) h.objs.size (.dK []) :=
 ⟨Nat.zero_le _,beq_eq_false_iff_ne.mpr (Ne.symm (Nat.ne_of_lt hb)),[],.nil,Heap.DictOf.new h⟩
def tDNewK:TE:=λ_ H Q=>∀p,H p=none->Q (.ref p) (upd H p (.dK []))
section
variable {X:Cx} {pos:Pos}
theorem pe_dnewK:PE X (.Dict [] [] pos) tDNewK:=λpins s σ H Q I h =>
 wpAny_Dict_empty ⟨.ref s.heap.objs.size,_,I.laid (a:=s.heap.objs.size) (o:=.dK []) (t':=s.toks) (λ_ _ q=>Heap.get?_push_of_some _ q) (Nat.le_refl _) (dk_empty s.heap I.big),rfl,h _ (I.hok.fresh (Nat.le_refl _))⟩
end
def mergeK (kvs more:List (Key × V)):List (Key × V):=more.foldl (λacc kv=>putK acc kv.1 kv.2) kvs
theorem KV.merge:∀{more:List (Key × V)} {rs:List (Key × Value)} {kvs:List (Key × V)} {vs:List (Key × Value)},KV more rs->KV kvs vs->KV (mergeK kvs more) (merged vs rs):=by
 intro more rs kvs vs r
 unfold KV at r
 induction r generalizing kvs vs with
 | nil=>intro q;exact q
 | @cons p q ps qs h t ih =>
  intro r0
  have e:KV (putK kvs p.1 p.2) (stored vs q.1 q.2):=by
   have:=r0.put p.1 h.2
   rw [← h.1];exact this
  exact ih e
structure M1 (X:Cx) (o:Expr) (m:Str) (apos:Pos) (e:Expr) (cpos:Pos):Prop where
 base:attributeBase o m X.env (eval o X.env)=eval o X.env
 few:((backTo cpos (starEach [e] X.env)).all (λx=>!x.1) && (backToKw cpos (keywordEach [] X.env)).all (λx=>x.1.isSome)
  && decide (([e]:List Expr).length+([]:List Keyword).length+(if ([]:List Keyword).isEmpty then 0 else 1)<30))=true
 line:(apos.endLine == cpos.line)=true
 trees:backTo cpos (starEach [e] X.env)=[(false,eval e X.env)]
structure M2 (X:Cx) (o:Expr) (m:Str) (apos:Pos) (e f:Expr) (cpos:Pos):Prop where
 base:attributeBase o m X.env (eval o X.env)=eval o X.env
 few:((backTo cpos (starEach [e,f] X.env)).all (λx=>!x.1) && (backToKw cpos (keywordEach [] X.env)).all (λx=>x.1.isSome)
  && decide (([e,f]:List Expr).length+([]:List Keyword).length+(if ([]:List Keyword).isEmpty then 0 else 1)<30))=true
 line:(apos.endLine == cpos.line)=true
 trees:backTo cpos (starEach [e,f] X.env)=[(false,eval e X.env),(false,eval f X.env)]
def IsD (H:Hp) (a:Addr):Prop:=(∃kvs,Rd H a (.dK kvs))\/∃kvs,Rd H a (.dT kvs)
theorem isD_at {X:Cx} {pins:List (Addr × Obj)} {σ:St} {H:Hp} {s:Shared} {a:Addr} (I:Inv X pins σ H s) (d:IsD H a) :
  s.TypeIs (.ref a) "dict" /\ (∀b,Value.ref a=.ref b->∃ob,s.heap.get? b=some ob/\ob.dict=none)/\(a == sysModules)=false:=by
 rcases d with ⟨kvs,e⟩ | ⟨kvs,e⟩
 ·obtain ⟨_,hd,vs,_,dd⟩:=dk_rd I.hok e
  refine ⟨dd.typeIs,λb q=>?_,hd⟩
  cases q
  obtain ⟨ob,_,_,h1,h2,_⟩:=dd
  exact ⟨ob,h1,h2.2.1⟩
 ·obtain ⟨_,hd,xs,_,dd⟩:=dt_rd I.hok e
  refine ⟨dd.typeIs,λb q=>?_,hd⟩
  cases q
  obtain ⟨ob,_,_,h1,h2,_⟩:=dd
  exact ⟨ob,h1,h2.2.1⟩
section
variable {X:Cx} {pins:List (Addr × Obj)} {σ:St} {H:Hp} {s:Shared} {a:Addr} {y d:V} {u r:Value} {o:Option V} {A:Around} {E:Value->Shared->Prop}
theorem d_get2 {Q:Value->Shared->Prop} (hu:A.units+1<cLine) (I:Inv X pins σ H s) (g:DGet H a y o) (ry:RelV y u) (rd:RelV d r) (h:∀w' s',Inv X pins σ H s'->RelV (o.getD d) w'->Q w' s') :
  wpAny (model X.prog X.w) A (call (.builtin "dict.get") [.ref a,u,r]) Q E s:=by
 rcases g with ⟨kvs,k,e,ey,l⟩ | ⟨kvs,k,b,e,ey,eb,l⟩
 ·subst ey
  obtain ⟨z,hd,vs,rel,dd⟩:=dk_rd I.hok e
  refine call_meetsIn PySem.F.slot_dict_get dd.typeIs PySem.F.entry_dict_get (PySem.F.args_dict_get_3 _ _ _) (meets_dict_get_default (mixKind X.prog X.w) a (kV_is ry) hd r) ⟨_,dd.mapOf,h _ _ (I.tok _) ?_⟩
  rw [l]
  exact (rel.val k).getD rd
 ·subst ey
  cases (show u=Value.ref b from ry)
  obtain ⟨z,hd,xs,rel,dd⟩:=dt_rd I.hok e
  refine call_meetsIn PySem.F.slot_dict_get dd.typeIs PySem.F.entry_dict_get (PySem.F.args_dict_get_3 _ _ _) (meetsH_dict_get_default (tupleKind (mixKind X.prog X.w)) a b hd r) ⟨tupleKind_room_in1 hu,k,xs,key_of I.hok eb,dd,h _ _ (I.tok _) ?_⟩
  rw [l]
  exact (rel.val k).getD rd
end
def tDGet2 (td ty tx:TE):TE:=λσ H Q=>td σ H λx H1=>∃a,x=.ref a/\IsD H1 a/\ty σ H1 λy H2=>tx σ H2 λz H3=>∃o,DGet H3 a y o/\Q (o.getD z) H3
section
variable {X:Cx} {o e f:Expr} {apos cpos:Pos} {td ty tx:TE}
theorem pe_dget2 (hu:X.A.units+1<cLine) (ho:PE X o td) (he:PE X e ty) (hf:PE X f tx) (m:M2 X o "get" apos e f cpos):PE X (.Call (.Attribute o "get" apos) [e,f] [] cpos) (tDGet2 td ty tx):=by
 intro pins s σ H Q I h
 refine wpAny_Call_method m.base m.few m.line PySem.F.plainAttrs_dict PySem.F.slot_dict_get PySem.F.type_dict_get (thn (ho pins s σ H _ I h) λu s1 ⟨x,H1,I1,rx,a,ex,d,q1⟩=>?_)
 subst ex
 obtain rfl:u=Value.ref a:=rx
 obtain ⟨t1,t2,_⟩:=isD_at I1 d
 refine ⟨t1,t2,?_⟩
 rw [m.trees]
 refine Calls.callWith_builtin rfl (Calls.evalArgs_plain (Calls.spliced_cons (thn (he pins s1 σ H1 _ I1 q1) λiv s2 ⟨y,H2,I2,ry,q2⟩ =>
  Calls.spliced_cons (thn (hf pins s2 σ H2 _ I2 q2) λfv s3 ⟨z,H3,I3,rz,ov,g,q3⟩=>Calls.spliced_nil ?_))))
 exact d_get2 hu I3 g ry rz λw' s4 I4 rw'=>⟨_,H3,I4,rw',q3⟩
end
section
variable {X:Cx} {pins:List (Addr × Obj)} {σ:St} {H:Hp} {s:Shared} {a:Addr} {kvs:List (Key × V)} {A:Around} {E:Value->Shared->Prop}
end
section
variable {X:Cx} {pins:List (Addr × Obj)} {σ:St} {H:Hp} {s:Shared} {a:Addr} {y:V} {u:Value} {A:Around} {E:Value->Shared->Prop}
end
end L2
namespace Att
open PySem PySem.W PySem.Calls PyProof.Rows
theorem ints_of_wellAll {P:Params} {h:Heap}:∀(ns:List Int) (vs:List Value),WellAll P h vs (ns.map WData.int)->IntsAre vs ns:=by
 intro ns
 induction ns with
 | nil =>
  intro vs w
  rw [List.map_nil] at w
  cases w
  exact .nil
 | cons n ns ih =>
  intro vs w
  rw [List.map_cons] at w
  cases w with
  | cons a b =>
   cases a
   exact .cons _ _ (ih _ b)
theorem script_of {l:OpenLaw} {n:Nat} (hn:l.most=some n) {P:Params} {h:Heap} {args:List WData} {vals:List Value}
  (hpre:l.row.toRowW.claim.pre args=true) (hwl:WellAll P h vals args) :
  ∃a vs ns,vals=[Value.ref a]/\args=[WData.list (ns.map WData.int)]/\h.get? a=some { cls:=.type "list",data:=.seq vs.toArray }/\IntsAre vs ns/\ns.length<=n:=by
 have hsh:WShape.hasAll [] args [.list .int]=true:=(pre_splitW hpre).1
 have hc:l.pre.holds [] { args:=args }=true:=(pre_splitW hpre).2
 obtain ⟨d,r,rfl,h1,h2⟩:=hasAllW_cons hsh
 obtain rfl:=hasAllW_nil h2
 obtain ⟨xs,rfl,h3⟩:=hasW_list h1
 obtain ⟨ns,rfl⟩:=items_int h3
 have hlen:ns.length<=n:=by
  unfold OpenLaw.pre at hc
  have h4:(WTm.not (.lt (.lit (.int (n:Int))) (.len (.arg 0)))).holds [] { args:=[.list (ns.map .int)] }=true:=by
   have h4:=(holds_andW hc).1
   rw [hn] at h4
   exact h4
  have h5:=condW_of h4 (w_not (w_lt w_lit (w_len_list (w_arg rfl))))
  rw [List.length_map] at h5
  refine Nat.le_of_not_lt λq=>?_
  have q':(n:Int)<((ns.length:Nat):Int):=by omega
  first
   | (rw [decide_eq_true q'] at h5;exact absurd h5 (by decide))
   | (simp at h5;omega)
 cases hwl with
 | cons w1 w2 =>
  cases w2
  cases w1 with
  | list ho hall=>exact ⟨_,_,ns,rfl,rfl,ho,ints_of_wellAll ns _ hall,hlen⟩
theorem post_true (l:OpenLaw) (args:List WData):l.row.toRowW.claim.post args (.bool true) args=true :=
 postW_of (r:=l.row.toRowW) (X:=(true == true))
  (show WShape.has [] (.bool true) .bool=true by first | rfl | decide | simp [WShape.has,WShape.arms,WShape.armsAll])
  (show (WTm.eq .res (.lit (.bool true))).value [] { args:=args,res:=some (.bool true),after:=args }=some (.bool (true == true)) from w_eq_bool (w_res rfl) w_lit) rfl
theorem attach_call {l:OpenLaw} {n:Nat} {q:Program} {loose:List Str} {XP:(Str->Option Value)->Heap->Prop} {YP:World->Heap->Prop} {d:DefRec}
  (hn:l.most=some n) (hdf:d.params.defaults=[])
  (call:∀(w:World) (s₀ s₁:Shared) (mg mb:Str->Option Value) (fa:Addr) (o:Obj) (pm cd doc:Value) (a:Addr) (vs:List Value) (ns:List Int),
   Ground q loose [] XP w s₀ mg mb s₁.heap->YP w s₁.heap ->
   s₁.heap.get? fa=some o->o.data=.func (docDef d.name d.params d.body d.scope pm cd doc)->s₁.heap.CodeRec cd d.name->mg d.name=some (.ref fa) ->
   s₁.heap.get? a=some { cls:=.type "list",data:=.seq vs.toArray }->IntsAre vs ns->ns.length<=n->s₁.gens = #[] ->
   codeAny (model l.prog w) callerA (.call (.ref fa) ⟨[.ref a],[]⟩) (λr s'=>r=.ok (.ret (.bool true))/\OldK s₁.heap s'.heap/\s'.os=s₁.os/\AllBare s'.gens) s₁) :
  WalkO q loose XP YP l.row.toRowW d [] (λf vs=>PySem.call f vs):=by
 intro w s₀ s₁ mg mb G Y fa o pm cd doc dV kV ho hd hcd hD hmg hg args vals as hpre hlay hrd hwl hlo
 obtain rfl:dV=.none:=Dflts.none hD hdf
 obtain rfl:kV=.none:=Dflts.noKw hD
 obtain ⟨a,vs,ns,rfl,rfl,hobj,hints,hlen⟩:=script_of hn hpre hwl
 refine enter_call (codeAny_mono (call w s₀ s₁ mg mb fa o pm cd doc a vs ns G Y ho (fd_plain hd) hcd hmg hobj hints hlen hg) λr s' hq=>?_)
 obtain ⟨rfl,h2,h3,h4⟩:=hq
 exact ⟨.inl ⟨.bool true,.bool true,[],rfl,λ_=>rfl,.bool true,post_true l _,λ_=>⟨List.Pairwise.nil,λ_ hm=>(nomatch hm)⟩⟩,h2,h3,h4⟩
section
variable {prog:Program} {w:World} {A:Around} {E:Value->Shared->Prop} {s:Shared} {K:Frag}
end
end Att
namespace L2
open PySem PySem.Spec PyProof.Rows
theorem vals_ints:∀{vs:List Value} {ns:List Int},IntsAre vs ns->Vals (ns.map V.int) vs
 | _,_,.nil=>.nil
 | _,_,.cons n t h=>.cons ⟨t,rfl⟩ (vals_ints h)
def Only (H:Hp):Prop:=∀b,H b=none\/∃o xs,H b=some (.frz o (.lst xs))
theorem law_call {P:Program} {w:World} {K:PySem.W.Frag} {mg mb:Str->Option Value} {CX:CXT} {k:Nat} {fa a:Addr} {fd:FuncData} {x:Str} {sp:Sp} {s₁:Shared} {vs:List Value} {ns:List Int}
  (KX:K.In s₁.heap) (hns:s₁.heap.Ns mainGlobals mg) (hb:s₁.heap.Ns builtinsNs mb) (hbb:∀x:Str,x ≠ "__name__" -> mb x=bootBuiltins x) (hlim:s₁.heap.NoLimit) (hg:s₁.gens = #[])
  (ha:s₁.heap.get? a=some { cls:=.type "list",data:=.seq vs.toArray }) (hi:IntsAre vs ns) (hl:ns.length<=sizeLine) (hr:Room k callerA)
  (F:∀base:Heap,K.In base->base.Ns mainGlobals mg->FnOk P w K mg base CX k fa fd [x] sp) (hbind:∀(s:Shared) (u:Value),BindsTo s fd ⟨[u],[]⟩ [(x,u)])
  (hsp:∀H:Hp,Only H->SqL K H a (ns.map V.int)->sp [.ref a] H (λv _=>v=.bl true) λ_ _ _=>False)
  (hCX:∀H e s',CX [] H s₁ (λ_ _ _=>False) e s'->False) :
  codeAny (model P w) callerA (.call (.ref fa) ⟨[.ref a],[]⟩) (λr s'=>r=.ok (.ret (.bool true))/\OldK s₁.heap s'.heap/\s'.os=s₁.os/\AllBare s'.gens) s₁:=by
 have rv:=vals_ints hi
 have lenV:=hi.length
 -- from an abstract heap in which nothing but the script may be tracked
 have core:∀H:Hp,Only H->SqL K H a (ns.map V.int)->HOk P w H s₁.heap->(∀b,H b≠none->b=a)->(H a≠none->K.lookup a=none) ->
   codeAny (model P w) callerA (.call (.ref fa) ⟨[.ref a],[]⟩) (λr s'=>r=.ok (.ret (.bool true))/\OldK s₁.heap s'.heap/\s'.os=s₁.os/\AllBare s'.gens) s₁:=by
  intro H hO hS hok hA hK
  have base_of:∀{b:Addr} {o:Obj},s₁.heap.get? b=some o->H b=none->(hidT s₁.heap H).get? b=some o:=λe n=>hidT_get e n
  have noA:∀{b:Addr} {o:Obj} {es:Array DictEntry} {ep:Nat},s₁.heap.get? b=some o->o.data=.dict es ep->H b=none:=λ{b o es ep} e d=>by
   cases q:H b with
   | none=>rfl
   | some u =>
    have e':b=a:=hA b (by rw [q];simp)
    subst e'
    rw [ha] at e;cases e
    have d':Data.seq vs.toArray _=Data.dict es ep:=d
    cases d'
  have nsK:∀{b:Addr} {m:Str->Option Value},s₁.heap.Ns b m->(hidT s₁.heap H).Ns b m:=λ{b m} ⟨o,es,ep,e,d,r⟩=>⟨o,es,ep,base_of e (noA e d),d,r⟩
  have hKb:K.In (hidT s₁.heap H):=λb o e=>base_of (KX b o e) (by
   cases q:H b with
   | none=>rfl
   | some u =>
    have e':b=a:=hA b (by rw [q];simp)
    subst e'
    rw [hK (by rw [q];simp)] at e;cases e)
  have hM:Mod K mg (hidT s₁.heap H):=⟨hKb,nsK hns,⟨mb,nsK hb,hbb⟩,let ⟨mc,h1,h2⟩:=hlim;⟨mc,nsK h1,h2⟩⟩
  have e0:Env0 P w K mg (hidT s₁.heap H) callerA [] s₁ H:=⟨rfl,hM,λb o e=>of_hidT e,Nat.le_of_eq (hidT_size _ _),trivial,λb hb=>absurd (show b∈([]:List Addr) from hb) (by simp),hok,.of_eq hg⟩
  refine codeAny_mono ((F _ hKb (nsK hns)).run callerA [] s₁ H ⟨[.ref a],[]⟩ [.ref a] [.ref a] _ _ hr e0 (hbind s₁ (.ref a)) (.cons rfl .nil) (hsp H hO hS)) λr s' h=>?_
  cases r with
  | error e=>exact (hCX H e s' h).elim
  | ok fl =>
   cases fl with
   | next=>exact False.elim h
   | brk=>exact False.elim h
   | cont=>exact False.elim h
   | ret u =>
    obtain ⟨v,H',os,bare,un,hok',r',q⟩:=h
    have q':v=.bl true:=q
    subst q'
    obtain rfl:u=Value.bool true:=r'
    refine ⟨rfl,OldK.of_keep λb o e=>?_,os,bare⟩
    cases q:H b with
    | none=>exact un.keep b o e q (by intro z;exact absurd (show b∈([]:List Addr) from z) (by simp)) (by simp)
    | some u =>
     rcases hO b with z | ⟨ob,xs,z⟩
     ·rw [q] at z;cases z
     ·have z2:=un.frzs b ob _ z
      obtain ⟨e1,_⟩:=hok b _ z
      obtain ⟨e2,_⟩:=hok' b _ z2
      rw [e] at e1;cases e1
      exact e2
 cases hk:K.lookup a with
 | some o =>
  -- the script is one of the module's own objects
  have e:=KX a o hk
  rw [ha] at e
  cases e
  refine core (λ_=>none) (λ_=>.inl rfl) (.inr ⟨_,vs.toArray,_,hk,rfl,rfl,rfl,by rw [List.size_toArray,lenV];exact hl,by simpa using rv⟩) (λb u z=>by have z':(none:Option HO)=some u:=z;cases z') (λb z=>absurd rfl z) λz=>absurd rfl z
 | none =>
  refine core (λb=>if b=a then some (.frz { cls:=.type "list",data:=.seq vs.toArray } (.lst (ns.map V.int))) else none) (λb=>?_) (.inl (.inr ⟨{ cls:=.type "list",data:=.seq vs.toArray },if_pos rfl⟩)) (λb u z=>?_) (λb z=>?_) λ_=>hk
  ·by_cases hb:b=a
   ·exact .inr ⟨_,_,if_pos hb⟩
   ·exact .inl (if_neg hb)
  ·by_cases hb:b=a
   ·have z':=(if_pos hb).symm.trans z
    cases z'
    subst hb
    exact ⟨ha,by rw [List.length_map];exact hl,vs,_,rv,ha⟩
   ·have z':=(if_neg hb).symm.trans z
    cases z'
  ·by_cases hb:b=a
   ·exact hb
   ·exact absurd (if_neg hb) z
end L2
namespace L2
open PySem PySem.Spec PyProof.Rows
theorem walk_of {l:PySem.W.OpenLaw} {n k:Nat} {q:Program} {loose:List Str} {XP:(Str->Option Value)->Heap->Prop} {YP:World->Heap->Prop} {d:DefRec} {K:Params->PySem.W.Frag} {CX:World->CXT} {sp:World->Sp} {x:Str}
  (hn:l.most=some n) (hn2:n<=sizeLine) (hdf:d.params.defaults=[]) (hr:Room k callerA)
  (hY:∀(w:World) (h:Heap),YP w h->(K w.params).In h)
  (F:∀(w:World) (mg:Str->Option Value) (fa:Addr) (h:Heap),(K w.params).In h->h.Ns mainGlobals mg->mg d.name=some (.ref fa) ->
   ∃fd:FuncData,(∀(s:Shared) (u:Value),BindsTo s fd ⟨[u],[]⟩ [(x,u)]) /\
    ∀base:Heap,(K w.params).In base->base.Ns mainGlobals mg->FnOk l.prog w (K w.params) mg base (CX w) k fa fd [x] (sp w))
  (hsp:∀(w:World) (H:Hp) (a:Addr) (ns:List Int),ns.length<=n->Only H->SqL (K w.params) H a (ns.map V.int)->sp w [.ref a] H (λv _=>v=.bl true) λ_ _ _=>False)
  (hCX:∀(w:World) (H:Hp) (s:Shared) (e:Value) (s':Shared),CX w [] H s (λ_ _ _=>False) e s'->False) :
  PySem.W.WalkO q loose XP YP l.row.toRowW d [] (λf vs=>PySem.call f vs):=by
 refine Att.attach_call hn hdf λw s₀ s₁ mg mb fa o pm cd doc a vs ns G Y ho hd hcd hmg hobj hints hlen hg=>?_
 have KX:=hY w _ Y
 obtain ⟨fd,hb,hF⟩:=F w mg fa _ KX G.T.g hmg
 exact law_call KX G.T.g G.T.b G.T.builtins G.T.nolimit hg hobj hints (Nat.le_trans hlen hn2) hr hF hb (λH hO hS=>hsp w H a ns hlen hO hS) λH e s'=>hCX w H s₁ e s'
end L2
namespace L2
open PySem PySem.Spec PyProof.Rows
def defArgs (s:Stmt):Arguments:=match s with
 | .FunctionDef _ a _ _ _ _ _ _ _ _=>a
 | _=>{ posonlyargs:=[],args:=[],vararg:=none,kwonlyargs:=[],kw_defaults:=[],kwarg:=none,defaults:=[] }
def defBody (s:Stmt):List Stmt:=match s with
 | .FunctionDef _ _ b _ _ _ _ _ _ _=>b
 | _=>[]
def defScope (s:Stmt):Scope:=match s with
 | .FunctionDef _ _ _ _ _ _ sc _ _ _=>sc
 | _=>{ kind:=.function,names:=[],isGenerator:=false,isCoroutine:=false }
abbrev CX0:CXT:=λ_ _ _ _ _ _=>False
abbrev E0:XK:=λ_ _ _=>False
theorem pass0 {X:Cx}:Passes CX0 X E0:=λ_ _ _ _ _ _ _ h=>h.elim
structure Fun (K:PySem.W.Frag) (x qual:Str) (st:Stmt) (f:Addr) (fd:FuncData):Prop where
 ex:∃(oc:Value) (od:Option Addr) (kV doc pm:Value) (an:Option Addr) (cdv ct:Value) (osl:Array (Option Value)),
  fd=PySem.W.fnOf x qual (defArgs st) (defBody st) (defScope st) .none kV doc pm an cdv ct/\K.lookup f=some ⟨oc,od,.func fd,osl⟩/\PySem.W.codeIn K cdv qual=true
 kp:PySem.W.keepIn K (.ref f)=true
section
variable {P:Program} {w:World} {K:PySem.W.Frag} {mg:Str->Option Value} {base:Heap}
theorem Fun.ok {x qual:Str} {st:Stmt} {f:Addr} {fd:FuncData} {N ps:List Str} {k:Nat} {sp:Sp} (F:Fun K x qual st f fd) (S:FnScope N ps (defScope st)) (len:∀vs H Q E,sp vs H Q E->vs.length=ps.length)
  (hbody:∀(cdv:Value) (A:Around) (outer:List Env) (s:Shared) (H:Hp) (vs:List V) (Q:VK) (E:XK),Room k (A.deeper (envOfC qual (defScope st) s.heap.objs.size f cdv))->sp vs H Q E ->
   ∃t,PSs (cxOf CX0 P w K mg base N qual (defScope st) f cdv A outer s H E).nox (defBody st) t/\t { nx:=λ_ H'=>Q .non H',rt:=Q } (start N vs) H):FnOk P w K mg base CX0 (k+1) f fd ps sp:=by
 obtain ⟨oc,od,kV,doc,pm,an,cdv,ct,osl,rfl,lk,hcd⟩:=F.ex
 refine fn_of lk hcd S len λA outer s H vs Q E hr hsp=>?_
 obtain ⟨t,h,q⟩:=hbody cdv A outer s H vs Q E hr hsp
 exact ⟨t,h.nox,q⟩
theorem Fun.binds {x qual:Str} {st:Stmt} {f:Addr} {fd:FuncData} {ps:List Str} (F:Fun K x qual st f fd)
  (h:∀(kV doc pm:Value) (an:Option Addr) (cdv ct:Value) (us:List Value),us.length=ps.length->bindArgs (PySem.W.fnOf x qual (defArgs st) (defBody st) (defScope st) .none kV doc pm an cdv ct) ⟨us,[]⟩=pure (ps.zip us)):Binds K fd ps []:=by
 obtain ⟨oc,od,kV,doc,pm,an,cdv,ct,osl,rfl,lk,hcd⟩:=F.ex
 exact .all (h kV doc pm an cdv ct)
theorem fun_mk {x qual:Str} {st:Stmt} {f:Addr} {oc:Value} {od an:Option Addr} {osl:Array (Option Value)} {kV doc pm cdv ct:Value} (l:K.lookup f=some ⟨oc,od,.func (PySem.W.fnOf x qual (defArgs st) (defBody st) (defScope st) .none kV doc pm an cdv ct),osl⟩)
  (c:PySem.W.codeIn K cdv qual=true) (k:PySem.W.keepIn K (.ref f)=true):Fun K x qual st f (PySem.W.fnOf x qual (defArgs st) (defBody st) (defScope st) .none kV doc pm an cdv ct):=⟨⟨oc,od,kV,doc,pm,an,cdv,ct,osl,rfl,l,c⟩,k⟩
end
theorem hu_of {A:Around} {k:Nat} (hr:Room k A):A.units+1<cLine:=Nat.lt_of_le_of_lt (Nat.add_le_add_left (by decide:1<=64) _) hr.units
section
variable {X:Cx}
theorem pv (i:Nat) {x:Str} {pos:Pos} (hN:X.N[i]? = some x:=by rfl) (hv:Vis X.env.scope x:=by first | exact Or.inl rfl | exact Or.inr (Or.inl rfl) | exact Or.inr (Or.inr rfl)) (hd:(x == ("__debug__" : Str))=false:=by decide)
  (hcd:(x == ("__classdict__" : Str))=false:=by decide):PE X (.Name x pos) (tVar i):=pe_var hN hv hd hcd
theorem call_lenD:CallR X (.builtin "len") (λxs H Q=>∃a kvs,xs=[V.ref a]/\H a=some (.dK kvs)/\Q (.int kvs.length) H):=by
 intro pins s σ H xs us Q I r h
 obtain ⟨a,kvs,rfl,ha,q⟩:=h
 obtain ⟨u,rfl,ru⟩:=vals1 r
 cases ru
 exact d_len I (.inl ha) λt s' I'=>⟨.int kvs.length,H,I',⟨t,rfl⟩,q⟩
end
def Same (H H':Hp):Prop:=∀b o,H b=some o->H' b=some o
theorem Same.refl (H:Hp):Same H H:=λ_ _ h=>h
theorem Same.trans {H H1 H2:Hp} (a:Same H H1) (b:Same H1 H2):Same H H2:=λc o h=>b c o (a c o h)
theorem Same.free {H H':Hp} (e:Same H H') {l:Addr} (h:H' l=Option.none):H l=Option.none:=by
 cases q:H l with
 | none=>rfl
 | some o =>
  rw [e l o q] at h
  cases h
theorem Same.seq {K:PySem.W.Frag} {H H':Hp} {a:Addr} {xs:List V} (e:Same H H') (h:SqL K H a xs):SqL K H' a xs:=by
 rcases h with (h | ⟨o,h⟩) | h
 ·exact .inl (.inl (e _ _ h))
 ·exact .inl (.inr ⟨o,e _ _ h⟩)
 ·exact .inr h
section
variable {κ:Type} [DecidableEq κ]
end
end L2
set_option maxHeartbeats 4000000
namespace L2
open PySem PySem.Spec PyProof.Rows
theorem closure_run {env:Env}:∀(names:List (Str × NameKind)) (acc:List (Str × Addr)),
  (∀x∈names,x.2=.free->∃c,env.cells.lookup x.1=some c)->(∀y c,acc.lookup y=some c->env.cells.lookup y=some c) ->
  ∃cl:List (Str × Addr),(forIn names acc (λ(x:Str × NameKind) (cs:List (Str × Addr)) =>
    if (x.2 == NameKind.free)=true then do
     let c ← cellOf env x.1
     pure (ForInStep.yield ((x.1,c)::cs))
    else pure (ForInStep.yield cs)):Sem (List (Str × Addr)))=pure cl /\
   (∀y c,cl.lookup y=some c->env.cells.lookup y=some c)/\(∀y,(acc.lookup y).isSome=true->(cl.lookup y).isSome=true) /\
   ∀x∈names,x.2=.free->(cl.lookup x.1).isSome=true
 | [],acc,_,ha=>⟨acc,by rw [List.forIn_nil],ha,λ_ h=>h,λ_ h=>nomatch h⟩
 | (n,k)::r,acc,hn,ha=>by
  rw [List.forIn_cons]
  by_cases hk:k=.free
  ·subst hk
   obtain ⟨c,hc⟩:=hn (n,.free) List.mem_cons_self rfl
   have hc':env.cells.lookup n=some c:=hc
   obtain ⟨cl,e,h1,h2,h3⟩:=closure_run r ((n,c)::acc) (λx hx=>hn x (List.mem_cons_of_mem _ hx)) (λy c' h=>by
    rw [List.lookup_cons] at h
    cases q:y == n with
    | true=>rw [q] at h;cases h;rw [beq_iff_eq.mp q];exact hc'
    | false=>rw [q] at h;exact ha y c' h)
   refine ⟨cl,?_,h1,λy hy=>h2 y ?_,λx hx hf=>?_⟩
   ·have e0:cellOf env n=pure c:=by unfold cellOf;rw [hc']
    show ((if ((NameKind.free == NameKind.free)=true) then (cellOf env n >>= λc=>pure (ForInStep.yield ((n,c)::acc))) else pure (ForInStep.yield acc)) >>= _)=_
    rw [if_pos (by decide),e0]
    exact e
   ·rw [List.lookup_cons]
    cases q:y == n with
    | true=>rfl
    | false=>exact hy
   ·rcases List.mem_cons.mp hx with rfl | hx
    ·exact h2 n (by simp [List.lookup_cons])
    ·exact h3 x hx hf
  ·obtain ⟨cl,e,h1,h2,h3⟩:=closure_run r acc (λx hx=>hn x (List.mem_cons_of_mem _ hx)) ha
   refine ⟨cl,?_,h1,h2,λx hx hf=>?_⟩
   ·show ((if ((k == NameKind.free)=true) then (cellOf env n >>= λc=>pure (ForInStep.yield ((n,c)::acc))) else pure (ForInStep.yield acc)) >>= _)=_
    rw [if_neg (by simpa using hk)]
    exact e
   ·rcases List.mem_cons.mp hx with rfl | hx
    ·exact absurd hf hk
    ·exact h3 x hx hf
theorem closure_for {env:Env} {scope:Scope} (h:∀x∈scope.names,x.2=.free->∃c,env.cells.lookup x.1=some c) :
  ∃cl,closureFor scope env=pure cl/\(∀y c,cl.lookup y=some c->env.cells.lookup y=some c)/\∀x∈scope.names,x.2=.free->∃c,cl.lookup x.1=some c:=by
 obtain ⟨cl,e,h1,_,h3⟩:=closure_run scope.names [] h (λy c q=>by simp at q)
 refine ⟨cl,?_,h1,λx hx hf=>Option.isSome_iff_exists.mp (h3 x hx hf)⟩
 simp only [closureFor]
 show (forIn scope.names [] _ >>= λr=>pure r)=_
 rw [e]
 rfl
theorem lookup_relabel_free {env:Env} {x:Str}:∀{names:List (Str × NameKind)},names.lookup x=some .free ->
  (names.map λ(n,k)=>if (k == NameKind.free && env.scope.kind == .function && env.kindOf n == some .cell) then (n,NameKind.cell) else (n,k)).lookup x=some .cell \/
  (names.map λ(n,k)=>if (k == NameKind.free && env.scope.kind == .function && env.kindOf n == some .cell) then (n,NameKind.cell) else (n,k)).lookup x=some .free
 | [],h=>by simp at h
 | (n,k)::r,h=>by
  have ih:=@lookup_relabel_free env x r
  show List.lookup x ((if (k == NameKind.free && env.scope.kind == .function && env.kindOf n == some .cell)=true then (n,NameKind.cell) else (n,k))::_)=_\/List.lookup x ((if (k == NameKind.free && env.scope.kind == .function && env.kindOf n == some .cell)=true then (n,NameKind.cell) else (n,k))::_)=_
  cases hx:x == n with
  | true =>
   simp only [List.lookup_cons,hx] at h
   cases h
   by_cases hc:(NameKind.free == NameKind.free && env.scope.kind == .function && env.kindOf n == some .cell)=true
   ·rw [if_pos hc];left;simp only [List.lookup_cons,hx]
   ·rw [if_neg hc];right;simp only [List.lookup_cons,hx]
  | false =>
   simp only [List.lookup_cons,hx] at h
   by_cases hc:(k == NameKind.free && env.scope.kind == .function && env.kindOf n == some .cell)=true
   ·rw [if_pos hc];simp only [List.lookup_cons,hx];exact ih h
   ·rw [if_neg hc];simp only [List.lookup_cons,hx];exact ih h
theorem relabel_back {env:Env} {x:Str} {q:NameKind}:∀{names:List (Str × NameKind)},(∀y∈names,y.2 ≠ .cell)->q=.cell\/q=.free ->
  (names.map λ(n,k)=>if (k == NameKind.free && env.scope.kind == .function && env.kindOf n == some .cell) then (n,NameKind.cell) else (n,k)).lookup x=some q->(x,NameKind.free)∈names
 | [],_,_,h=>by simp at h
 | (n,k)::r,hn,hq,h=>by
  have h:List.lookup x ((if (k == NameKind.free && env.scope.kind == .function && env.kindOf n == some .cell)=true then (n,NameKind.cell) else (n,k))::(r.map λ(n,k)=>if (k == NameKind.free && env.scope.kind == .function && env.kindOf n == some .cell) then (n,NameKind.cell) else (n,k)))=some q:=h
  by_cases hc:(k == NameKind.free && env.scope.kind == .function && env.kindOf n == some .cell)=true
  ·rw [if_pos hc] at h
   cases hx:x == n with
   | true =>
    have hk:k=.free:=by
     cases k <;> first | rfl | (simp at hc)
    rw [beq_iff_eq.mp hx,hk]
    exact List.mem_cons_self
   | false =>
    simp only [List.lookup_cons,hx] at h
    exact List.mem_cons_of_mem _ (relabel_back (λy hy=>hn y (List.mem_cons_of_mem _ hy)) hq h)
  ·rw [if_neg hc] at h
   cases hx:x == n with
   | true =>
    simp only [List.lookup_cons,hx] at h
    have hk:k=q:=Option.some.inj h
    have hk2:k=.free:=by
     rcases hq with rfl | rfl
     ·exact absurd hk (hn (n,k) List.mem_cons_self)
     ·exact hk
    rw [beq_iff_eq.mp hx,hk2]
    exact List.mem_cons_self
   | false =>
    simp only [List.lookup_cons,hx] at h
    exact List.mem_cons_of_mem _ (relabel_back (λy hy=>hn y (List.mem_cons_of_mem _ hy)) hq h)
def cxBlk (X:Cx) (scope:Scope) (cl:List (Str × Addr)) (C:Addr) (N:List Str) (s₀:Shared) (H₀:Hp) (fp:List Addr):Cx :=
 { X with N:=N,s₀:=s₀,H₀:=H₀,env:=compEnvC scope cl C X.env,outer:=X.stack,stack:=X.stack,ex:=fp,fn:=λ_=>false,pn:=[],xe:=λ_ _=>False }
structure BlkScope (env:Env) (scope:Scope) (x:Str):Prop where
 kind:scope.kind=.function
 cells:∀y∈scope.names,y.2 ≠ .cell
 names:∀y∈scope.names,y.2=.local->scope.names.lookup y.1=some .local
 lx:scope.names.lookup x=some .local
 free:∀y∈scope.names,y.2=.free->env.kindOf y.1=some .cell\/env.kindOf y.1=some .free
def bN (N:List Str) (x:Str) (ix:List Nat):List Str:=x::ix.map λi=>N.getD i Str.empty
def bS (σ:St) (o:Option V) (ix:List Nat):St:=o::ix.map λi=>(σ[i]?).getD none
def PIfs (X:Cx) (ifs:List Expr) (tt:TT):Prop :=
 ∀(pins:List (Addr × Obj)) (s:Shared) (σ:St) (H:Hp) (Q:Bool->Hp->Prop),Inv X pins σ H s->tt σ H Q ->
  wpAny (model X.prog X.w) X.A (forIn ifs true λc r=>if r=true then do let ok ← isTrue c X.env (eval c X.env);pure (ForInStep.yield ok) else pure (ForInStep.yield r)) (TP X pins σ Q) X.xe s
def tAll:TT:=λ_ H Q=>Q true H
theorem pifs_nil {X:Cx}:PIfs X [] tAll:=by
 intro pins s σ H Q I h
 rw [List.forIn_nil]
 exact wpAny_pure ⟨H,I,h⟩
theorem pifs_one {X:Cx} {c:Expr} {tt:TT} (h:PT X c tt):PIfs X [c] tt:=by
 intro pins s σ H Q I hw
 rw [List.forIn_cons]
 refine wpAny_bind ?_
 rw [if_pos rfl]
 refine wpAny_bind (thn (h pins s σ H _ I hw) λok s1 q=>wpAny_pure ?_)
 show wpAny _ _ (forIn [] ok _) _ _ s1
 rw [List.forIn_nil]
 exact wpAny_pure q
section
variable {X:Cx}
theorem blk_ok {pins:List (Addr × Obj)} {σ:St} {H:Hp} {s:Shared} {scope:Scope} {cl:List (Str × Addr)} {C:Addr} {N:List Str} {fp:List Addr} {x:Str} (I:Inv X pins σ H s) (B:BlkScope X.env scope x)
  (h1:∀y c,cl.lookup y=some c->X.env.cells.lookup y=some c) (h3:∀y∈scope.names,y.2=.free->∃c,cl.lookup y.1=some c) (hC:s.heap.objs.size<=C) (hf:∀b∈fp,FpOk X pins H b) (hl:∀b∈fp,b<s.heap.objs.size) :
  (cxBlk X scope cl C N s H fp).Ok where
 mod:=I.ok.mod
 kind:=by show (relabel scope X.env).kind=_;exact B.kind
 glob:=I.ok.glob
 blt:=I.ok.blt
 above:=hC
 inj:=λy z c q r=>I.ok.inj y z c (h1 y c q) (h1 z c r)
 has:=λy hy=>by
  have hy:(relabel scope X.env).names.lookup y=some .cell\/(relabel scope X.env).names.lookup y=some .free:=hy
  have m:(y,NameKind.free)∈scope.names:=by
   rcases hy with q | q
   ·exact relabel_back B.cells (.inl rfl) q
   ·exact relabel_back B.cells (.inr rfl) q
  exact h3 _ m rfl
 cab:=λy c q=>by cases (show false=true from q)
 hd:=I.ok.hd
 frames:=I.ok.frames
 stk:=.inl rfl
 exf:=λb hb=>⟨Nat.ne_of_lt (Nat.lt_of_lt_of_le (hl b hb) hC),λy c q=>(hf b hb).2.2.2.2.1 y c (h1 y c q)⟩
 bs:=I.bs
 bsz:=Nat.le_trans I.ok.bsz I.sz
 noex:=λb o e hb=>by
  rcases (hf b hb).2.2.2.1 with z | z
  ·exact I.ok.noex b o e z
  ·exact absurd (Nat.lt_of_lt_of_le (Heap.lt_size e) (Nat.le_trans I.ok.bsz z)) (Nat.lt_irrefl _)
 exfs:=λb hb z=>by
  have z':=I.stkSub b z
  rcases List.mem_cons.mp z' with q | q
  ·exact (hf b hb).2.1 q
  ·exact (hf b hb).2.2.1 q
 funs:=I.stack
 frf:=I.stkFree
theorem HOk.add {P:Program} {w:World} {H:Hp} {h:Heap} {a:Addr} {o:HO} (x:HOk P w H h) (hn:H a=none) (new:ObjOk P w (upd H a o) h a o):HOk P w (upd H a o) h:=λb u e=>by
 by_cases hb:b=a
 ·subst hb;rw [upd_same] at e;cases e;exact new
 ·rw [upd_ne hb] at e
  exact (x b u e).stay (λc v _ q=>q) (λc q=>by rw [upd_ne (ne_of_none q hn)];exact q) (λc xs q=>by rw [upd_ne (ne_of_none q hn)];exact q) λc _ _ _ q _=>by rw [upd_ne (ne_of_none q hn)];exact q
theorem Un.add {fs ex:List Addr} {H H':Hp} {h h':Heap} {a:Addr} {o:HO} (u:Un fs ex H H' h h') (hn:h.get? a=none) (hH:H a=none):Un fs ex H (upd H' a o) h h' where
 keep:=u.keep
 slot:=u.slot
 free:=λb ob e n hx=>by
  have:b≠a:=λz=>by rw [z,hn] at e;cases e
  rw [upd_ne this];exact u.free b ob e n hx
 there:=u.there
 tups:=λb xs e=>by rw [upd_ne (ne_of_none e hH)];exact u.tups b xs e
 frzs:=λb ob w e=>by rw [upd_ne (ne_of_none e hH)];exact u.frzs b ob w e
 tbls:=λb ps e=>by rw [upd_ne (ne_of_none e hH)];exact u.tbls b ps e
end
end L2
namespace L2
open PySem PySem.Spec PyProof.Rows
section
variable {X:Cx}
theorem comp_blk {elt iter:Expr} {x:Str} {px pos:Pos} {scope:Scope} {te:TE} {tt:TT} {ifs:List Expr} {ix:List Nat} {pins:List (Addr × Obj)} {s:Shared} {σ:St} {H:Hp} {cl:List (Str × Addr)}
  {J:It} {fp:List Addr} {it:Addr} {tn:Nat->Heap->Prop} {E:Value->Shared->Prop} {RR:Value->Addr->Result->Shared->Prop} {G:List V->Hp->Prop}
  (I:Inv X pins σ H s) (hc:X.calm=true) (B:BlkScope X.env scope x) (h1:∀y c,cl.lookup y=some c->X.env.cells.lookup y=some c) (h3:∀y∈scope.names,y.2=.free->∃c,cl.lookup y.1=some c)
  (hix:∀i∈ix,∃y,X.N[i]? = some y/\scope.names.lookup y=some .free) (hN:(bN X.N x ix).Nodup)
  (T:Turn X.prog X.w X.K (.Name x px) J fp it tn) (st:tn 0 s.heap) (hf:∀b∈fp,FpOk X pins H b)
  (he:∀cl C s₀ H₀ fp,PE (cxBlk X scope cl C (bN X.N x ix) s₀ H₀ fp) elt te)
  (hi:∀cl C s₀ H₀ fp,PIfs (cxBlk X scope cl C (bN X.N x ix) s₀ H₀ fp) ifs tt)
  (W:Nat->Nat->List V->Hp->Prop) (m₀:Nat) (w0:W 0 m₀ [] H)
  (turn:∀i m ys H,W i m ys H->(J.stop i H/\ys.length<=sizeLine/\G ys H)\/(J.go i H/\ys.length<sizeLine/\∀v H',J.yld i H v H' ->
    tt (bS σ (some v) ix) H' λb H1=>if b=true then te (bS σ (some v) ix) H1 λy H2=>∃m',m' < m/\W (i+1) m' (ys++[y]) H2 else ∃m',m' < m/\W (i+1) m' ys H1))
  (hRR:∀D C s' ys H',Inv X pins σ (upd H' D (.lst ys)) s'->H' D=none->H' C=none->(∃m,s'.heap.Ns C m)->s.heap.objs.size<=C->D≠C->G ys H'->RR (.ref D) C (.ok .next) s') :
  wpAny (model X.prog X.w) X.A (newList []) (λacc s₃=>wpAny (model X.prog X.w) X.A (newFunctionEnv scope X.env.globals cl [] X.env.qual none .none (some X.env)) (λcenv s₄ =>
   codeAny (model X.prog X.w) X.A (.compStart (.ListComp elt [⟨.Name x px,iter,ifs,0⟩] scope pos) 0 (.ref it) acc { cenv with scope:=relabel scope X.env }) (RR acc cenv.locals) s₄) E s₃) E s:=by
 have hl:∀b∈fp,b<s.heap.objs.size:=λb hb=>by obtain ⟨o,e,_⟩:=T.obj 0 _ st b hb;exact Heap.lt_size e
 refine wpAny_newObj_type (wpAny_newFunctionEnv B.cells (by intro y hy;simp at hy) (λh₁ hns₁ hsb₁=>?_) B.kind)
 dsimp only at hns₁ hsb₁ ⊢
 generalize hH2:s.heap.push { cls:=.type "list",dict:=none,data:=.seq ([]:List Value).toArray }=H2 at hns₁ hsb₁ ⊢
 have hC:H2.objs.size=s.heap.objs.size+1:=by rw [← hH2,Heap.size_push]
 generalize hD:s.heap.objs.size=D at hC hl hRR ⊢
 generalize hCC:H2.objs.size=C at hC hns₁ hsb₁ ⊢
 have hDC:D≠C:=by omega
 have old:∀b o,s.heap.get? b=some o->h₁.get? b=some o:=λb o e=>hsb₁.extBut b o (Nat.ne_of_lt (by have z:=Heap.lt_size e;rw [hD] at z;exact Nat.lt_of_lt_of_le z (by rw [hC];exact Nat.le_succ _))) (Heap.get?_push_of_some _ (hH2 ▸ Heap.get?_push_of_some _ e))
 have hacc:h₁.get? D=some { cls:=.type "list",data:=.seq ([]:List Value).toArray 0 }:=hsb₁.extBut _ _ hDC (Heap.get?_push_of_some _ (hH2 ▸ (by rw [← hD];exact Heap.get?_push_size _ rfl)))
 have hfr:∀a,D<=a->s.heap.get? a=none:=λa ha=>by
  cases e:s.heap.get? a with
  | none=>rfl
  | some o=>exact absurd (Heap.lt_size e) (by rw [hD];exact Nat.not_lt.mpr ha)
 have hHn:∀a,D<=a->H a=none:=λa ha=>I.hok.fresh (by omega)
 have ok:(cxBlk X scope cl C (bN X.N x ix) s H fp).Ok:=blk_ok I B h1 h3 (by omega) hf (by rw [hD];exact hl)
 generalize hK:cxBlk X scope cl C (bN X.N x ix) s H fp=K at ok
 have kp:K.prog=X.prog:=by rw [← hK];rfl
 have kw:K.w=X.w:=by rw [← hK];rfl
 have kK:K.K=X.K:=by rw [← hK];rfl
 have kA:K.A=X.A:=by rw [← hK];rfl
 have kc:K.calm=true:=by rw [← hK];exact hc
 have kN:K.N=bN X.N x ix:=by rw [← hK];rfl
 have kenv:K.env=compEnvC scope cl C X.env:=by rw [← hK];rfl
 have kloc:K.env.locals=C:=by rw [← hK];rfl
 have kfs:K.fs=frs X.stack:=by rw [← hK];rfl
 have kex:K.ex=fp:=by rw [← hK];rfl
 have kpn:K.pn=[]:=by rw [← hK];rfl
 have ks:K.s₀=s:=by rw [← hK];rfl
 have kH:K.H₀=H:=by rw [← hK];rfl
 have kx:K.xe=λ_ _=>False:=by rw [← hK];rfl
 have kcl:K.env.cells=cl:=by rw [← hK];rfl
 have cellLt:∀y c,cl.lookup y=some c->c<D:=λy c q=>by obtain ⟨v,z⟩:=I.cell y c (h1 y c q);rw [← hD];exact z.lt
 have stkLt:∀b∈frs X.stack,b<D:=λb hb=>by
  rcases List.mem_cons.mp (I.stkSub b hb) with q | q
  ·rw [q,← hD];exact I.lt
  ·rcases Nat.lt_or_ge b D with z | z
   ·exact z
   ·exact absurd q (I.nofs (by omega))
 -- the state at the block's begin
 have I0:∀tk,Inv K [(D,{ cls:=.type "list",data:=.seq ([]:List Value).toArray 0 })] (bS σ none ix) H { s with heap:=h₁,toks:=tk }:=λtk=>by
  refine ⟨ok,by rw [ks],I.bare,by rw [ks,kH];exact Un.kept old,?_,?_,?_,?_,?_,by rw [kp,kw];exact I.hok.kept old,?_⟩
  ·refine ⟨_,by rw [kloc];exact hns₁,λi y v e1 e2 e3=>?_⟩
   rw [kN] at e1
   cases i with
   | zero =>
    have:(none:Option V)=some v:=by simpa [bS] using e2
    cases this
   | succ i =>
    have e1':(ix.map λi=>X.N.getD i Str.empty)[i]? = some y:=by simpa [bN] using e1
    have e2':(ix.map λi=>(σ[i]?).getD none)[i]? = some (some v):=by simpa [bS] using e2
    rw [List.getElem?_map] at e1' e2'
    cases q:ix[i]? with
    | none=>rw [q] at e1';cases e1'
    | some j =>
     rw [q] at e1' e2'
     obtain ⟨y',a1,a2⟩:=hix j (List.mem_of_getElem? q)
     have a3:X.N.getD j Str.empty=y':=by simp [List.getD,a1]
     have ey:y'=y:=by rw [← a3];exact Option.some.inj e1'
     subst ey
     have es:σ[j]? = some (some v):=by
      have z:(σ[j]?).getD none=some v:=Option.some.inj e2'
      cases w:σ[j]? with
      | none=>rw [w] at z;cases z
      | some o=>rw [w] at z;have z':o=some v:=z;rw [z']
     obtain ⟨m,hn,hlk⟩:=I.loc
     have hk:=B.free (y',.free) (PySem.mem_of_lookup a2) rfl
     have hk:X.env.kindOf y'=some .cell\/X.env.kindOf y'=some .free:=hk
     have vis:Vis X.env.scope y':=hk.elim (λz=>.inr (.inl z)) λz=>.inr (.inr z)
     obtain ⟨u,ru,lk⟩:=hlk j y' v a1 es vis
     refine ⟨u,ru,?_⟩
     rcases lk with ⟨k,_⟩ | ⟨_,c,ec,ce⟩
     ·rcases hk with z | z <;> (rw [k] at z;cases z)
     ·obtain ⟨c',ec'⟩:=h3 (y',.free) (PySem.mem_of_lookup a2) rfl
      have ec':cl.lookup y'=some c':=ec'
      have:c'=c:=Option.some.inj ((h1 y' c' ec').symm.trans ec)
      subst this
      refine .inr ⟨?_,c',by rw [kcl];exact ec',?_⟩
      ·show K.env.scope.names.lookup y'=_\/K.env.scope.names.lookup y'=_
       rw [kenv]
       exact lookup_relabel_free a2
      ·obtain ⟨oc,hoc,r⟩:=ce
       exact ⟨oc,old _ _ hoc,r⟩
  ·intro y c q
   rw [kcl] at q
   obtain ⟨v,oc,hoc,r⟩:=I.cell y c (h1 y c q)
   exact ⟨v,oc,old _ _ hoc,r⟩
  ·rw [kloc];exact hHn _ (by omega)
  ·intro y c q
   rw [kcl] at q
   exact I.freeC y c (h1 y c q)
  ·intro p hp
   rw [kpn] at hp
   have e:p=(D,{ cls:=.type "list",data:=.seq ([]:List Value).toArray 0 }):=by simpa using hp
   subst e
   refine ⟨hacc,hHn _ (Nat.le_refl _),by rw [kloc];exact hDC,?_,λv z=>?_⟩
   ·rw [kfs];intro z;exact absurd (stkLt D z) (Nat.lt_irrefl _)
   ·have z':Data.seq _ _=Data.cell v:=z
    cases z'
  ·rw [kN];simp [bS,bN]
 have stat:∀{H':Hp} {ob:Obj},(∀b∈fp,H' b=none)->∀b∈fp,FpOk K [(D,ob)] H' b:=λ{H' ob} hn b hb=>by
  refine ⟨hn b hb,?_,?_,.inl (by rw [kex];exact hb),?_,?_⟩
  ·rw [kloc];exact Nat.ne_of_lt (Nat.lt_of_lt_of_le (hl b hb) (by rw [hC];exact Nat.le_succ _))
  ·rw [kfs];intro z
   rcases List.mem_cons.mp (I.stkSub b z) with q | q
   ·exact (hf b hb).2.1 q
   ·exact (hf b hb).2.2.1 q
  ·intro y c q;rw [kcl] at q;exact (hf b hb).2.2.2.2.1 y c (h1 y c q)
  ·intro p hp;rw [kpn] at hp
   have e:p=(D,ob):=by simpa using hp
   subst e
   exact Nat.ne_of_gt (hl b hb)
 have st₁:tn 0 h₁:=T.keep _ _ _ st λb hb o e=>old b o e
 have loop:∀tk,codeAny (model X.prog X.w) X.A (.compLoop (.ListComp elt [⟨.Name x px,iter,ifs,0⟩] scope pos) 0 (.ref it) (.ref D) (compEnvC scope cl C X.env)) (RR (.ref D) C) { s with heap:=h₁,toks:=tk }:=by
  intro tk
  refine codeAny_compLoop_tests (λn s'=>∃i o H' ys its c,Inv K [(D,{ cls:=.type "list",data:=.seq (its:List Value).toArray c })] (bS σ o ix) H' s'/\Vals ys its/\tn i s'.heap/\(∀b∈fp,H' b=none)/\W i n ys H') ?_ m₀
   ⟨0,none,H,[],[],0,I0 tk,.nil,st₁,λb hb=>(hf b hb).1,w0⟩
  rintro n s1 ⟨i,o,H1,ys,its,c,I1,rv,t1,f1,w1⟩
  rcases turn i n ys H1 w1 with ⟨stop,hz,g⟩ | ⟨go,hz,step⟩
  ·have dn:=T.done K kp kw kK kc i _ s1 _ H1 (notedBy (model X.prog X.w) X.A (compEnvC scope cl C X.env) λe s'=>RR (.ref D) C (.error e) s') I1 (stat f1) t1 stop
   rw [kA] at dn
   refine thn dn λr s2 ⟨hr,I2⟩=>?_
   subst hr
   obtain ⟨p1,p2,p3,p4,p5⟩:=I2.pin (D,{ cls:=.type "list",data:=.seq its.toArray c }) (List.mem_append_right _ (List.mem_singleton.mpr rfl))
   have u2:=I2.base
   rw [kfs,kex,kH,ks] at u2
   refine hRR D C s2 ys H1 ?_ p2 (by rw [← kloc];exact I2.free) (by obtain ⟨m,hm,_⟩:=I2.loc;rw [kloc] at hm;exact ⟨m,hm⟩) (by omega) hDC g
   have hk2:HOk X.prog X.w H1 s2.heap:=by have:=I2.hok;rw [kp,kw] at this;exact this
   refine I.call' (ch:=fp) (by have:=I2.os;rw [ks] at this;exact this) (u2.add (hfr D (Nat.le_refl _)) (hHn D (Nat.le_refl _))) (hk2.add p2 ⟨hz,its,c,rv,p1⟩) I2.bare λb hb=>?_
   exact ⟨(hf b hb).2.2.2.1,(hf b hb).2.1,(hf b hb).2.2.2.2.1,(hf b hb).2.2.2.2.2⟩
  ·have im:=T.item K kp kw kK kc i _ s1 _ H1 (notedBy (model X.prog X.w) X.A (compEnvC scope cl C X.env) λe s'=>RR (.ref D) C (.error e) s') I1 (stat f1) t1 go
   rw [kA] at im
   refine thn im λr s2 ⟨u,hr,h2⟩=>?_
   subst hr
   show wpAny _ _ (assign (.Name x px) (compEnvC scope cl C X.env) u) _ _ s2
   have h2':wpAny (model X.prog X.w) X.A (pure ():Sem Unit) _ _ s2:=h2
   suffices q:wpAny (model X.prog X.w) X.A ((pure ():Sem Unit) >>= λ_=>assign (.Name x px) (compEnvC scope cl C X.env) u) _ _ s2 from q
   refine wpAny_bind (thn h2' λ_ s3 ⟨v,H3,I3,r3,y3,t3,f3⟩=>?_)
   have q3:=step v H3 y3
   have I3':=I3.pinned (stat f3) (T.obj _ _ t3)
   rw [← kenv]
   refine wpAny_assign_Name (store_ok I3' (i:=0) (x:=x) (by rw [kN];exact hN) (by rw [kN];rfl) (.inl (by rw [kenv];exact lookup_relabel_local B.lx)) r3 (λs4 I4=>?_) (.inr (by rw [kenv];exact lookup_relabel_local B.lx)))
   have I4:Inv K ([(D,{ cls:=.type "list",data:=.seq its.toArray c })]++pinsAt fp s3.heap) (bS σ (some v) ix) H3 s4:=I4
   have hi':=hi cl C s H fp
   rw [hK] at hi'
   have hiv:=hi' _ s4 _ H3 _ I4 q3
   rw [kx,kp,kw,kA] at hiv
   refine wpAny_mono hiv (λok s5 ⟨H5,I5,q5⟩=>?_) λ_ _ z=>z.elim
   have back:∀{H7:Hp} {s7:Shared} {o7:Option V},Inv K ([(D,{ cls:=.type "list",data:=.seq its.toArray c })]++pinsAt fp s3.heap) (bS σ o7 ix) H7 s7->tn (i+1) s7.heap/\∀b∈fp,H7 b=none:=λ{H7 s7 o7} I7=>by
    refine ⟨T.keep _ _ _ t3 λb hb o e=>(I7.pin (b,o) (List.mem_append_right _ (List.mem_append_right _ (mem_pinsAt hb e)))).1,λb hb=>?_⟩
    obtain ⟨ob,e,d⟩:=T.obj _ _ t3 b hb
    exact (I7.pin (b,ob) (List.mem_append_right _ (List.mem_append_right _ (mem_pinsAt hb e)))).2.1
   cases ok with
   | false =>
    rw [if_neg Bool.false_ne_true]
    have q5:∃m',m' < n/\W (i+1) m' ys H5:=q5
    obtain ⟨m',hm,w5⟩:=q5
    obtain ⟨b1,b2⟩:=back I5
    exact ⟨m',hm,i+1,some v,H5,ys,its,c,I5.unpinned,rv,b1,b2,w5⟩
   | true =>
    rw [if_pos rfl]
    have q5:te (bS σ (some v) ix) H5 λy H2=>∃m',m' < n/\W (i+1) m' (ys++[y]) H2:=q5
    have he':=he cl C s H fp
    rw [hK] at he'
    have hev:=he' _ s5 _ H5 _ I5 q5
    rw [kx,kp,kw,kA] at hev
    refine wpAny_mono hev (λy s6 ⟨yv,H6,I6,r6,m',hm,w6⟩=>?_) λ_ _ z=>z.elim
    obtain ⟨b1,b2⟩:=back I6
    have I6':=I6.unpinned
    obtain ⟨p1,p2,p3,p4,p5⟩:=I6'.pin (D,{ cls:=.type "list",data:=.seq its.toArray c }) (List.mem_append_right _ (List.mem_singleton.mpr rfl))
    have hlen:=rv.length
    refine call_meets F.slot_list_append ⟨_,p1,rfl⟩ F.entry_list_append (F.args_list_append_2 _ _) (PySem.list_append D its.toArray c y (by rw [List.size_toArray];omega)) ⟨p1,?_⟩
    have ea:its.toArray.push y=(its++[y]).toArray:=by simp
    obtain ⟨c',q⟩:∃c',(s6.heap.update D (Obj.mapSeq (·.push y))).get? D=some { cls:=.type "list",data:=.seq (its++[y]).toArray c' }:=⟨_,by rw [← ea];exact PySem.IsL.update p1 (·.push y)⟩
    refine ⟨m',hm,i+1,some v,H6,ys++[yv],its++[y],c',?_,rv.append (.cons r6 .nil),T.keep _ _ _ b1 λb hb o e=>?_,b2,w6⟩
    ·have Id:Inv K [] (bS σ (some v) ix) H6 s6:=I6'.pins_of λp hp=>by simp at hp
     have It:Inv K [] (bS σ (some v) ix) H6 { s6 with heap:=s6.heap.update D (Obj.mapSeq (·.push y)) }:=Id.turned (t':=s6.toks) (it:=D) (λb o hb e=>(Heap.get?_update_other _ _ (Ne.symm hb)).trans e) p2 p3
      (.inr (by rw [ks];omega)) (λy' c' e=>by rw [kcl] at e;exact Nat.ne_of_lt (cellLt y' c' e)) (λp hp=>by rw [kpn] at hp;simp at hp)
     refine It.pins_of λp hp=>?_
     obtain rfl:p=(D,{ cls:=.type "list",data:=.seq (its++[y]).toArray c' }):=by simpa using hp
     refine ⟨q,p2,p3,p4,λv z=>?_⟩
     have z':Data.seq _ _=Data.cell v:=z
     cases z'
    ·exact (Heap.get?_update_other _ _ (Nat.ne_of_gt (hl b hb))).trans e
 have selfs:wpAny (model X.prog X.w) X.A (pyIter (.ref it)) (λit' s'=>codeAny (model X.prog X.w) X.A (.compLoop (.ListComp elt [⟨.Name x px,iter,ifs,0⟩] scope pos) 0 it' (.ref D) (compEnvC scope cl C X.env)) (RR (.ref D) C) s')
   (notedBy (model X.prog X.w) X.A (compEnvC scope cl C X.env) λe s'=>RR (.ref D) C (.error e) s') { s with heap:=h₁,toks:=s.toks+([]:List (Str × Value)).length }:=T.self X.A 0 _ _ _ st₁ (loop _)
 exact codeAny_compStart_list (loop _) selfs
def tComp (wi:TI) (tt:TT) (te:TE) (ix:List Nat):TE:=λσ H Q=>wi σ H λJ H1=>∃(W:Nat->Nat->List V->Hp->Prop) (m₀:Nat),W 0 m₀ [] H1 /\
 ∀i m ys H,W i m ys H->(J.stop i H/\ys.length<=sizeLine/\∀l,H l=none->Q (.ref l) (upd H l (.lst ys)))\/(J.go i H/\ys.length<sizeLine/\∀v H',J.yld i H v H' ->
  tt (bS σ (some v) ix) H' λb H1=>if b=true then te (bS σ (some v) ix) H1 λy H2=>∃m',m' < m/\W (i+1) m' (ys++[y]) H2 else ∃m',m' < m/\W (i+1) m' ys H1)
theorem blk_free {scope:Scope} {x:Str} {pins:List (Addr × Obj)} {σ:St} {H:Hp} {s:Shared} (I:Inv X pins σ H s) (B:BlkScope X.env scope x):∀y∈scope.names,y.2=.free->∃c,X.env.cells.lookup y.1=some c :=
 λy hy hf=>I.ok.has y.1 (B.free y hy hf)
theorem Inv.blkGone {pins:List (Addr × Obj)} {σ:St} {H:Hp} {s s₀:Shared} {H₀:Hp} {C:Addr} {h':Heap} {σ₀:St} (I₀:Inv X pins σ₀ H₀ s₀) (I:Inv X pins σ H s) (hC:s₀.heap.objs.size<=C) (hn:H C=none) (hs:Heap.SameBut C s.heap h'):Inv X pins σ H { s with heap:=h' } :=
 I.turned (t':=s.toks) (it:=C) (λb o hb e=>(hs.2 b hb).trans e) hn (Nat.ne_of_gt (Nat.lt_of_lt_of_le I₀.lt hC)) (.inr (Nat.le_trans I₀.sz hC))
  (λx c e=>by obtain ⟨v,z⟩:=I₀.cell x c e;exact Nat.ne_of_lt (Nat.lt_of_lt_of_le z.lt hC)) (λp hp=>Nat.ne_of_lt (Nat.lt_of_lt_of_le (Heap.lt_size (I₀.pin p hp).1) hC))
theorem pe_comp {elt iter:Expr} {x:Str} {px pos:Pos} {scope:Scope} {te:TE} {tt:TT} {wi:TI} {ifs:List Expr} (ix:List Nat) (hc:X.calm=true) (B:BlkScope X.env scope x)
  (hix:∀i∈ix,∃y,X.N[i]? = some y/\scope.names.lookup y=some .free) (hN:(bN X.N x ix).Nodup) (hi:PI X (.Name x px) iter wi)
  (ht:∀cl C s₀ H₀ fp,PIfs (cxBlk X scope cl C (bN X.N x ix) s₀ H₀ fp) ifs tt)
  (he:∀cl C s₀ H₀ fp,PE (cxBlk X scope cl C (bN X.N x ix) s₀ H₀ fp) elt te)
  (hs:∀x,foldedSetIterable iter X.env x=pure x:=by intro _;rfl) :
  PE X (.ListComp elt [⟨.Name x px,iter,ifs,0⟩] scope pos) (tComp wi tt te ix):=by
 intro pins s σ H Q I h
 obtain ⟨cl,hcl,h1,h3⟩:=closure_for (blk_free I B)
 rw [eval_ListComp]
 refine wpAny_comprehension_free (use:=none) rfl hs hcl B.kind B.names (thn (hi pins s σ H _ I h) λv s1 h1'=>thn h1' λitv s2 h2=>?_)
 obtain ⟨it,fp,tn,J,H2,e,I2,T,st2,f2,W,m0,w0,turn⟩:=h2
 subst e
 refine comp_blk (G:=λys H'=>∀l,H' l=none->Q (.ref l) (upd H' l (.lst ys))) I2 hc B h1 h3 hix hN T st2 f2 he ht W m0 w0 turn λD C s' ys H' I' hD hC hm hCs hDC g=>?_
 obtain ⟨m,hm⟩:=hm
 refine ⟨m,hm,λh' hsb=>⟨.ref D,upd H' D (.lst ys),I2.blkGone I' hCs (by rw [upd_ne (Ne.symm hDC)];exact hC) hsb,rfl,g D hD⟩⟩
end
end L2
namespace L2
open PySem PySem.Spec PyProof.Rows
section
variable {X:Cx}
theorem Inv.turnNew {pins:List (Addr × Obj)} {σ:St} {H:Hp} {s:Shared} {ch:List Addr} {T:Addr} {o:HO} {h':Heap} {t':Nat} (I:Inv X pins σ H s) (hT:s.heap.objs.size<=T)
  (k:∀b u,b∉ch->s.heap.get? b=some u->h'.get? b=some u) (hch:∀b∈ch,FpOk X pins H b) (new:ObjOk X.prog X.w (upd H T o) h' T o):Inv X pins σ (upd H T o) { s with heap:=h',toks:=t' }:=by
 have hn:H T=none:=I.hok.fresh hT
 have hg:s.heap.get? T=none:=by
  cases e:s.heap.get? T with
  | none=>rfl
  | some u=>exact absurd (Heap.lt_size e) (Nat.not_lt.mpr hT)
 have u:Un (frs X.stack) ch H H s.heap h':=⟨λb q e _ _ hx=>k b q hx e,λb q e _ _ hx=>⟨q.slots,k b q hx e⟩,λb q e n _=>n,λb q e hx=>⟨q,k b q hx e⟩,λ_ _ e=>e,λ_ _ _ e=>e,λb ps e=>⟨#[],by rw [Array.append_empty];exact e⟩⟩
 have hok:HOk X.prog X.w H h':=λb q e=>(I.hok b q e).stay (λc v hc z=>k c v (λm=>by
  have q1:=(hch c m).1
  rcases hc with rfl | hc
  ·rw [q1] at e;cases e
  ·rw [q1] at hc;cases hc) z) (λ_ z=>z) λ_ _ z=>z
 exact I.call' (s':={ s with heap:=h',toks:=t' }) rfl (u.add hg hn) (hok.add hn new) I.bare λb hb=>⟨(hch b hb).2.2.2.1,(hch b hb).2.1,(hch b hb).2.2.2.2.1,(hch b hb).2.2.2.2.2⟩
theorem Inv.turnAll {pins:List (Addr × Obj)} {σ:St} {H:Hp} {s:Shared} {ch:List Addr} {h':Heap} {t':Nat} (I:Inv X pins σ H s)
  (k:∀b u,b∉ch->s.heap.get? b=some u->h'.get? b=some u) (hch:∀b∈ch,FpOk X pins H b):Inv X pins σ H { s with heap:=h',toks:=t' }:=by
 have u:Un (frs X.stack) ch H H s.heap h':=⟨λb q e _ _ hx=>k b q hx e,λb q e _ _ hx=>⟨q.slots,k b q hx e⟩,λb q e n _=>n,λb q e hx=>⟨q,k b q hx e⟩,λ_ _ e=>e,λ_ _ _ e=>e,λb ps e=>⟨#[],by rw [Array.append_empty];exact e⟩⟩
 have hok:HOk X.prog X.w H h':=λb q e=>(I.hok b q e).stay (λc v hc z=>k c v (λm=>by
  have q1:=(hch c m).1
  rcases hc with rfl | hc
  ·rw [q1] at e;cases e
  ·rw [q1] at hc;cases hc) z) (λ_ z=>z) λ_ _ z=>z
 exact I.call' (s':={ s with heap:=h',toks:=t' }) rfl u hok I.bare λb hb=>⟨(hch b hb).2.2.2.1,(hch b hb).2.1,(hch b hb).2.2.2.2.1,(hch b hb).2.2.2.2.2⟩
end
section
variable {prog:Program} {w:World} {A:Around} {E:Value->Shared->Prop} {s:Shared}
end
section
variable {X:Cx}
end
end L2
namespace L2
open PySem PySem.Spec PyProof.Rows
section
variable {X:Cx}
end
section
variable {X:Cx}
end
end L2
namespace L2
open PySem PySem.Spec PyProof.Rows
open PySem.W (Dat kqdP kqdPs kqdOk)
mutual
inductive DV (H:Hp):V->Dat->Prop
 | non:DV H .non .none
 | int (i:Int):DV H (.int i) (.int i)
 | str (x:Str):DV H (.str x) (.str x)
 | tup {a:Addr} {xs:List V} {ds:List Dat} (e:H a=some (.tup xs)) (r:DVs H xs ds):DV H (.ref a) (.tuple ds)
 | lst {a:Addr} {xs:List V} {ds:List Dat} (e:H a=some (.lst xs)) (r:DVs H xs ds):DV H (.ref a) (.list ds)
inductive DVs (H:Hp):List V->List Dat->Prop
 | nil:DVs H [] []
 | cons {x:V} {d:Dat} {xs:List V} {ds:List Dat} (h:DV H x d) (r:DVs H xs ds):DVs H (x::xs) (d::ds)
end
mutual
theorem DV.reads {P:Program} {w:World} {H:Hp} {h:Heap} (ok:HOk P w H h):∀{x:V} {d:Dat} {u:Value},DV H x d->RelV x u->∃as,Reads h u (kqdP d) as
 | _,_,_,.non,r=>by cases r;exact ⟨_,by rw [kqdP];exact Reads.none⟩
 | _,_,_,.int i,r=>by obtain ⟨t,rfl⟩:=r;exact ⟨_,by rw [kqdP];exact Reads.int i t⟩
 | _,_,_,.str x,r=>by obtain ⟨t,rfl⟩:=r;exact ⟨_,by rw [kqdP];exact Reads.str x t⟩
 | _,_,_,.tup (a:=a) e q,r=>by
  cases r
  obtain ⟨_,its,rv,o,h1,h2,n,h3⟩:=ok a _ e
  obtain ⟨as,z⟩:=DVs.reads ok q rv
  rw [kqdP]
  exact ⟨as,reads_tuple_at h1 h2 h3 (by simpa using z)⟩
 | _,_,_,.lst (a:=a) e q,r=>by
  cases r
  obtain ⟨_,its,n,rv,h1⟩:=ok a _ e
  obtain ⟨as,z⟩:=DVs.reads ok q rv
  rw [kqdP]
  exact ⟨_,reads_list_at h1 rfl rfl (by simpa using z)⟩
theorem DVs.reads {P:Program} {w:World} {H:Hp} {h:Heap} (ok:HOk P w H h):∀{xs:List V} {ds:List Dat} {us:List Value},DVs H xs ds->Vals xs us->∃as,ReadsAll h us (kqdPs ds) as
 | _,_,_,.nil,r=>by cases r;exact ⟨_,by rw [kqdPs];exact ReadsAll.nil⟩
 | _,_,_,.cons p q,r=>by
  cases r with
  | cons r1 r2 =>
   obtain ⟨as,z⟩:=DV.reads ok p r1
   obtain ⟨bs,y⟩:=DVs.reads ok q r2
   rw [kqdPs]
   exact ⟨_,ReadsAll.cons z y⟩
end
mutual
theorem DV.mono {H H':Hp} (s:∀b o,H b=some o->H' b=some o):∀{x:V} {d:Dat},DV H x d->DV H' x d
 | _,_,.non=>.non
 | _,_,.int i=>.int i
 | _,_,.str x=>.str x
 | _,_,.tup e q=>.tup (s _ _ e) (DVs.mono s q)
 | _,_,.lst e q=>.lst (s _ _ e) (DVs.mono s q)
theorem DVs.mono {H H':Hp} (s:∀b o,H b=some o->H' b=some o):∀{xs:List V} {ds:List Dat},DVs H xs ds->DVs H' xs ds
 | _,_,.nil=>.nil
 | _,_,.cons p q=>.cons (DV.mono s p) (DVs.mono s q)
end
theorem DVs.ints {H:Hp}:∀ns:List Int,DVs H (ns.map V.int) (ns.map Dat.int)
 | []=>.nil
 | n::r=>.cons (.int n) (DVs.ints r)
theorem dat_shaped {n:Nat} {d:Dat} (h:kqdOk n d=true) (hn:n<=9):SeqAt.shaped (kqdP d)=true:=by
 have l:=PySem.W.kqd_lay n d h
 unfold SeqAt.shaped
 rw [l.1,Bool.true_and]
 exact decide_eq_true (Nat.le_trans l.2 (Nat.le_trans hn (by decide)))
open Classical in
theorem dat_eqv {n k:Nat} {d e:Dat} (h:kqdOk n d=true) (h':kqdOk k e=true):PyData.eqv (kqdP d) (kqdP e)=decide (d=e):=by
 have q:=PySem.W.kqd_eqv n d e k h h'
 by_cases hq:d=e
 ·rw [decide_eq_true hq];exact q.mpr hq
 ·rw [decide_eq_false hq];exact Bool.eq_false_iff.mpr λx=>hq (q.mp x)
section
variable {X:Cx}
def rDat (neg:Bool):R2:=λx y H Q=>∃d e n,DV H x d/\DV H y e/\kqdOk n d=true/\kqdOk n e=true/\n<=9/\((d=e->Q (.bl (!neg)) H)/\(d≠e->Q (.bl neg) H))
theorem op_eqD (hu:X.A.units+64<cLine):OpR X (compareOp .Eq) (rDat false):=by
 classical
 intro pins s σ H x y v u Q I rx ry h
 obtain ⟨d,e,n,dx,dy,hd,he,hn,q1,q2⟩:=h
 obtain ⟨as,ra⟩:=dx.reads I.hok rx
 obtain ⟨bs,rb⟩:=dy.reads I.hok ry
 refine eq_dataH ra rb (dat_shaped hd hn) (dat_shaped he hn) hu ?_
 rw [dat_eqv hd he]
 by_cases hq:d=e
 ·rw [decide_eq_true hq];exact ⟨.bl true,H,I,rfl,q1 hq⟩
 ·rw [decide_eq_false hq];exact ⟨.bl false,H,I,rfl,q2 hq⟩
theorem op_neD (hu:X.A.units+64<cLine):OpR X (compareOp .NotEq) (rDat true):=by
 classical
 intro pins s σ H x y v u Q I rx ry h
 obtain ⟨d,e,n,dx,dy,hd,he,hn,q1,q2⟩:=h
 obtain ⟨as,ra⟩:=dx.reads I.hok rx
 obtain ⟨bs,rb⟩:=dy.reads I.hok ry
 refine ne_dataH ra rb (dat_shaped hd hn) (dat_shaped he hn) hu ?_
 rw [dat_eqv hd he]
 by_cases hq:d=e
 ·rw [decide_eq_true hq];exact ⟨.bl false,H,I,rfl,q1 hq⟩
 ·rw [decide_eq_false hq];exact ⟨.bl true,H,I,rfl,q2 hq⟩
theorem call_isinst:CallR X (.builtin "isinstance") (λxs H Q=>∃x T t b,xs=[x,.ty T]/\TyOf X.K H x (.type t)/\PySem.W.kitOne X.K (.type t) (.type T)=some b/\Q (.bl b) H):=by
 intro pins s σ H xs us Q I r h
 obtain ⟨x,T,t,b,rfl,ty,e,q⟩:=h
 obtain ⟨u,c,rfl,ru,rc⟩:=vals2 r
 cases (show c=Value.type T from rc)
 exact isinst_ok I ru ty e λtk=>⟨.bl b,H,I.tok _,rfl,q⟩
end
end L2
namespace SortT
open PySem PySem.W PyProof.Rows
structure Ord (f:Nat->Nat->Bool):Prop where
 asym:∀i j,f i j=true->f j i=false
 tr:∀i j k,f j i=false->f k j=false->f k i=false
section
variable {f:Nat->Nat->Bool} (O:Ord f)
def Le (f:Nat->Nat->Bool) (i j:Nat):Prop:=f j i=false
include O in
theorem le_refl (i:Nat):Le f i i:=by
 unfold Le
 cases h:f i i with
 | false=>rfl
 | true=>have:=O.asym i i h;rw [h] at this;cases this
theorem Le.trans {i j k:Nat} (O:Ord f) (h:Le f i j) (h':Le f j k):Le f i k:=O.tr i j k h h'
theorem Le.of {i j:Nat} (O:Ord f) (h:f i j=true):Le f i j:=O.asym i j h
abbrev at_ (p:Array Nat) (i:Nat):Nat:=p.getD i 0
end
end SortT
namespace SortT
open PySem PySem.W PyProof.Rows
def AllT {α:Type} (P:Nat->Nat->Prop) (R:α->Prop):KasT α->Prop
 | .ret a=>R a
 | .ask i j k=>P i j/\∀b,AllT P R (k b)
theorem AllT.bind {α β:Type} {P:Nat->Nat->Prop} {R:α->Prop} {S:β->Prop} {g:α->KasT β}:∀{t:KasT α},AllT P R t->(∀a,R a->AllT P S (g a))->AllT P S (t.bind g)
 | .ret a,h,hg=>hg a h
 | .ask i j k,h,hg=>⟨h.1,λb=>AllT.bind (h.2 b) hg⟩
section
variable {N:Nat}
def Bd (N:Nat) (p:Array Nat):Prop:=0<N/\∀x∈p.toList,x<N
theorem Bd.at {p:Array Nat} (h:Bd N p) (i:Nat):p.getD i 0<N:=by
 rw [Array.getD_eq_getD_getElem?]
 cases e:p[i]? with
 | none=>exact h.1
 | some x=>exact h.2 x (by rw [← Array.getElem?_toList] at e;exact List.mem_of_getElem? e)
theorem Bd.perm {p q:Array Nat} (h:Bd N p) (hp:q.Perm p):Bd N q:=⟨h.1,λx hx=>h.2 x ((Array.perm_iff_toList_perm.mp hp).mem_iff.mp hx)⟩
end
section
variable {prog:Program} {w:World} {A:Around} {E:Value->Shared->Prop} {s:Shared}
end
end SortT
namespace L2
open PySem PySem.Spec PyProof.Rows
theorem ObjOk.there {P:Program} {w:World} {H:Hp} {h:Heap} {a:Addr} {o:HO} (x:ObjOk P w H h a o):∃ob,h.get? a=some ob:=by
 cases o with
 | lst xs=>obtain ⟨_,_,_,_,e⟩:=x;exact ⟨_,e⟩
 | tup xs=>obtain ⟨_,_,_,o,e,_⟩:=x;exact ⟨_,e⟩
 | dK kvs=>obtain ⟨_,_,_,_,o,_,_,e,_⟩:=x;exact ⟨_,e⟩
 | dT kvs=>obtain ⟨_,_,_,_,o,_,_,e,_⟩:=x;exact ⟨_,e⟩
 | set S n=>obtain ⟨o,_,_,_,e,_⟩:=x;exact ⟨_,e⟩
 | ins C dx fs=>obtain ⟨_,_,_,e,_⟩:=x;exact ⟨_,e⟩
 | own y=>exact x
 | xd fs=>obtain ⟨_,⟨_,_,_,e,_⟩,_⟩:=x;exact ⟨_,e⟩
 | rng lo hi=>obtain ⟨_,_,_,e⟩:=x;exact ⟨_,e⟩
 | frz ob u=>obtain ⟨e,_⟩:=x;exact ⟨_,e⟩
 | tbl ps=>obtain ⟨_,e,_⟩:=x;exact ⟨_,e⟩
 | met f y=>exact ⟨_,(show h.get? a=some _ from x)⟩
 | ext φ=>obtain ⟨_,e,_⟩:=x;exact e
section
variable {X:Cx}
end
end L2
namespace L2
open PySem PySem.Spec PyProof.Rows
theorem Same.put {H H':Hp} {a:Addr} {o:HO} (s:Same H H') (h:H a=none):Same H (upd H' a o):=λb u e=>by rw [upd_ne (ne_of_none e h)];exact s b u e
theorem Same.new {H H':Hp} {a:Addr} {o:HO} (s:Same H H') (h:H' a=none):Same H (upd H' a o):=s.put (s.free h)
end L2
namespace L2
open PySem PySem.Spec PyProof.Rows
theorem kV_back {P:Program} {w:World} {k:Key} {u:Value} (h:(mixKind P w).is k u=true):RelV (kV k) u:=by
 rw [mixKind_is] at h
 rcases keyIs_shape h with ⟨i,t,rfl,rfl⟩ | ⟨x,t,rfl,rfl⟩
 ·exact ⟨t,rfl⟩
 ·exact ⟨t,rfl⟩
section
variable {X:Cx}
end
end L2
namespace HT
open PySem PySem.Spec PyProof.Rows L2
section
variable {prog:Program} {w:World} {A:Around} {E:Value->Shared->Prop} {s:Shared}
theorem cat_tup0 {t b:Addr} {ws:List Value} {Q:Value->Shared->Prop} (ht:IsTup s.heap t ([]:List Value).toArray) (hb:IsTup s.heap b ws.toArray) (h1:Q (.ref b) s):wpAny (model prog w) A (binaryOp .Add (.ref t) (.ref b)) Q E s:=by
 obtain ⟨⟨cls,dd,data,sl⟩,ho,hc,n,hd⟩:=id ht
 obtain ⟨⟨cls2,dd2,data2,sl2⟩,ho2,hc2,n2,hd2⟩:=id hb
 simp only at hc hd hc2 hd2
 subst hc hd hc2 hd2
 exact concat_meets ⟨_,ho,rfl⟩ ⟨_,ho2,rfl⟩ noFill_tuple_add seq_tuple_add PySem.F.slot_tuple_add PySem.F.entry_tuple_add (PySem.F.args_tuple_add_2 _ _)
   (tuple_addW0 t b ([]:List Value).toArray ws.toArray n n2 dd dd2 sl sl2 rfl) ⟨ho,ho2,h1⟩
theorem getItem_tuple_whole {t sl:Addr} {items:Array Value} {vl vu:Value} {lo hi:Option Int} {Q:Value->Shared->Prop} (ht:IsTup s.heap t items) (hs:s.heap.IsSliceOf sl vl vu .none) (pl:IsPart vl lo) (pu:IsPart vu hi)
  (hw:sIx items.size 0 lo=0/\sIx items.size items.size hi=items.size)
  (h:Q (.ref t) s):wpAny (model prog w) A (getItem (.ref t) (.ref sl)) Q E s:=by
 obtain ⟨os,hos,hcs,hds⟩:=id hs
 have hTs:s.TypeIs (.ref sl) "slice":=⟨os,hos,hcs⟩
 unfold getItem
 try with_reducible refine wpAny_holding ?_
 first | refine wpAny_bind (wpAny_pure ?_) | skip
 refine wpAny_bind (wpAny_sequenceKey ht.typeIs (by decide) ?_)
 refine wpAny_bind (wpAny_callSpecial?_slot (name:=Str.ofString "__getitem__") ht.typeIs PyProof.Rows.slot_tuple_getitem
  (wpAny_call_entry PyProof.Rows.slot_tuple_getitem ht.typeIs entry_tuple_getitem ?_ (args_tuple_getitem _ _)))
 show wpAny _ _ (Builtin.Tuple.tupleItemsOf (.ref t) >>= _) _ _ s
 refine wpAny_bind (tupleItemsOf_ ht ?_)
 refine wpAny_bind (wpAny_typeOf hTs ?_)
 rw [if_pos (by decide)]
 refine wpAny_bind (sliceApplied_gen hs pl pu ?_)
 have hyes:(((sIx items.size 0 lo:Nat):Int) == 0 && (1:Int) == 1 && (sIx items.size items.size hi-sIx items.size 0 lo) == items.size)=true:=by
  rw [hw.1,hw.2];simp
 show wpAny _ _ (if (((sIx items.size 0 lo:Nat):Int) == 0 && (1:Int) == 1 && (sIx items.size items.size hi-sIx items.size 0 lo) == items.size)=true then _ else _) _ _ s
 rw [if_pos hyes]
 refine wpAny_bind (wpAny_bind (wpAny_typeOf ht.typeIs (wpAny_pure ?_)))
 rw [if_pos (by decide)]
 refine wpAny_bind (wpAny_rule ?_)
 first
  | exact wpAny_bind (wpAny_pure (wpAny_pure ⟨_,rfl,wpAny_pure h⟩))
  | exact wpAny_pure ⟨_,rfl,wpAny_pure h⟩
  | exact wpAny_bind (wpAny_pure ⟨_,rfl,wpAny_pure h⟩)
end
end HT
namespace L2
open PySem PySem.Spec PyProof.Rows
section
variable {X:Cx}
def rCat0 (K:PySem.W.Frag):R2:=λx y H Q=>∃a b ys,x=.ref a/\y=.ref b/\SqT K H a []/\SqT K H b ys/\Q (.ref b) H
theorem op_cat0:OpR X (binaryOp .Add) (rCat0 X.K):=by
 intro pins s σ H x y v u Q I rx ry h
 obtain ⟨a,b,ys,rfl,rfl,ha,hb,q⟩:=h
 cases rx
 cases ry
 obtain ⟨its,r1,p1,_⟩:=I.tuple ha
 obtain ⟨its2,r2,p2,_⟩:=I.tuple hb
 have:its=[]:=by cases r1;rfl
 subst this
 exact HT.cat_tup0 p1 p2 ⟨.ref b,H,I,rfl,q⟩
def rSlW (K:PySem.W.Frag):V->Option Int->Option Int->Hp->VK->Prop:=λx lo hi H Q=>∃a xs,x=.ref a/\SqT K H a xs /\
 (HT.sIx xs.length 0 lo=0/\HT.sIx xs.length xs.length hi=xs.length)/\Q (.ref a) H
theorem sl_tupW:SlR X (rSlW X.K):=by
 intro pins s σ H x v vl vu lo hi sl Q I rx hs pl pu h
 obtain ⟨a,xs,rfl,hx,hw,q⟩:=h
 cases rx
 obtain ⟨its,r,ht,hz⟩:=I.tuple hx
 have hlen:its.toArray.size=xs.length:=by rw [List.size_toArray];exact r.length.symm
 refine ⟨"tuple",_,PyProof.Rows.slot_tuple_getitem.lookup,ht.typeIs,?_⟩
 exact HT.getItem_tuple_whole ht hs pl pu (by rw [hlen];exact hw) ⟨.ref a,H,I,rfl,q⟩
theorem vals_keys {P:Program} {w:World}:∀{kvs:List (Key × V)} {vs:List (Key × Value)} {us:List Value},KV kvs vs->us.length=vs.length ->
  (∀(j:Nat) v,us[j]? = some v->∃k x,vs[j]? = some (k,x)/\(mixKind P w).is k v=true)->Vals (kvs.map λkv=>kV kv.1) us
 | [],_,us,.nil,hl,_=>by
  cases us with
  | nil=>exact .nil
  | cons _ _=>simp at hl
 | p::r,q::t,us,.cons h rel,hl,hv=>by
  cases us with
  | nil=>simp at hl
  | cons u us =>
   obtain ⟨k,x,e,hk⟩:=hv 0 u rfl
   simp only [List.getElem?_cons_zero,Option.some.injEq] at e
   refine .cons ?_ (vals_keys (P:=P) (w:=w) rel (by simpa using hl) λj v e=>?_)
   ·show RelV (kV p.1) u
    rw [h.1,e];exact kV_back hk
   ·obtain ⟨k,x,e',hk⟩:=hv (j+1) v (by simpa using e)
    exact ⟨k,x,by simpa using e',hk⟩
end
end L2
namespace HT
open PySem PySem.Spec PyProof.Rows L2
section
variable {prog:Program} {w:World} {K:Type} [DecidableEq K] {knd:KeyKind prog w K} {A:Around} {E:Value->Shared->Prop} {s:Shared}
end
section
variable {prog:Program} {w:World} {A:Around} {E:Value->Shared->Prop} {s:Shared}
end
section
variable {prog:Program} {w:World} {K:Type} [DecidableEq K] {knd:KeyKind prog w K} {A:Around} {E:Value->Shared->Prop} {s:Shared}
end
end HT
namespace L2
open PySem PySem.Spec PyProof.Rows
section
variable {X:Cx}
end
end L2
namespace L2
open PySem PySem.Spec PyProof.Rows
section
variable {X:Cx}
theorem ints_are:∀{ns:List Int} {its:List Value},Vals (ns.map V.int) its->IntsAre its ns
 | [],_,r=>by rw [List.map_nil] at r;cases r;exact .nil
 | n::ns,_,r=>by
  rw [List.map_cons] at r
  cases r with
  | cons h t=>obtain ⟨tk,rfl⟩:=h;exact .cons n tk (ints_are t)
theorem ints_vals:∀{ns:List Int} {its:List Value},IntsAre its ns->Vals (ns.map V.int) its
 | _,_,.nil=>.nil
 | _,_,.cons n t h=>.cons ⟨t,rfl⟩ (ints_vals h)
def FT (x:V) (H:Hp):Prop:=∃p o xs,x=.ref p/\H p=some (.frz o (.tup xs))/\o.dict=none
theorem FT.is {pins:List (Addr × Obj)} {σ:St} {H:Hp} {s:Shared} {x:V} {v:Value} (I:Inv X pins σ H s) (r:RelV x v) (h:FT x H) :
  s.TypeIs v "tuple" /\ ∀a,v=.ref a->∃ob,s.heap.get? a=some ob/\ob.dict=none:=by
 obtain ⟨p,o,xs,rfl,h1,h2⟩:=h
 cases r
 obtain ⟨e,_,its,_,o',e',c,n,d⟩:=I.hok p _ h1
 rw [e] at e'
 cases e'
 exact ⟨⟨o,e,c⟩,λa ea=>by cases ea;exact ⟨o,e,h2⟩⟩
variable {o e:Expr} {es:List Expr} {to:TE} {t:TA} {name:Str} {apos cpos:Pos} {T id:String} {r:V->List V->Hp->VK->Prop}
def isN (n:Int):Value->Bool
 | .int m _=>m == n
 | _=>false
theorem collect_dict {P:Program} {w:World} {A:Around} {E:Value->Shared->Prop} {s:Shared} {T:String} {r d:Addr} {n:Nat} {Pv:Nat->Value->Prop} {OK:Heap->Prop} {Q:List Value->Shared->Prop} (K:PySem.W.KdlSrc P w T r d n Pv OK) (hh:A.handled=none) (hok:OK s.heap) (hn:n<=sizeLine)
  (h:∀h' tk (vs:List Value),(∀b o,s.heap.get? b=some o->h'.get? b=some o)->vs.length=n->(∀j v,vs[j]? = some v->Pv j v)->Q vs { s with heap:=h',toks:=tk }) :
  wpAny (model P w) A (collect (.ref r)) Q E s:=by
 unfold collect
 refine wpAny_bind (wpAny_runValue (codeAny_builtin entry_proto_collect' ?_))
 show wpAny _ _ (do again (.builtin "list.__iadd__" ⟨[← newList [],.ref r],[]⟩)) _ _ s
 refine wpAny_bind (wpAny_newList (wpAny_pure ⟨Code.quiet_builtin _ (by decide +kernel),codeAny_builtin entry_list_iadd' ?_⟩))
 show wpAny _ _ (Builtin.List.listExtendWith (.ref s.heap.objs.size) (.ref r) (.ref s.heap.objs.size)) _ _ { s with heap:=s.heap.push (seqObj "list" #[] 0) }
 have hlt:=K.there _ hok
 rw [Around.under_plainId (by decide +kernel) _]
 refine PySem.W.kdl_extend (R:=λr s'=>match r with
  | .ok (.ret v)=>wpAny (model P w) A (match v with
   | .ref a=>do
    let o ← load a
    match o.data with
    | .seq xs _=>pure xs.toList
    | _=>unsupported "internal:collect"
   | _=>unsupported "internal:collect") Q E s'
  | .ok _=>False
  | .error e=>E e s') (s:={ s with heap:=s.heap.push (seqObj "list" #[] 0) }) K hh (K.keep _ _ hok λb _ o e=>Heap.get?_push_of_some _ e) s.heap.objs.size (Nat.ne_of_gt hlt.1) (Nat.ne_of_gt hlt.2) (.ref s.heap.objs.size) 0 (Heap.get?_push_size _ rfl) (λh' tk acc' c' hk hS' hacc=>?_) hn
 show wpAny (model P w) A (do
   let o ← load s.heap.objs.size
   match o.data with
   | .seq xs _=>pure xs.toList
   | _=>unsupported "internal:collect") Q E { s with heap:=h',toks:=tk }
 refine wpAny_bind (wpAny_load hS' ?_)
 show wpAny _ _ (pure acc'.toList) Q E _
 exact wpAny_pure (h h' tk acc'.toList (λb o e=>hk b o (Nat.ne_of_lt (Heap.lt_size e)) (Heap.get?_push_of_some _ e)) (by rw [Array.length_toList];exact hacc.1) λj v e=>hacc.2 j v (by rw [← Array.getElem?_toList];exact e))
end
end L2
namespace L2
open PySem PySem.Spec PyProof.Rows
section
variable {prog:Program} {w:World} {A:Around} {R:Result->Shared->Prop} {s:Shared}
theorem compLoop_tests {elt target iter:Expr} {ifs:List Expr} {scope:Scope} {pos:Pos} {it acc:Value} {env:Env} (I:Nat->Shared->Prop)
  (turn:∀n s,I n s->wpAny (model prog w) A (pyNext it) (λr s₁=>match r with
   | none=>R (.ok .next) s₁
   | some v=>wpAny (model prog w) A (letOwnedTupleGo target it v) (λ_ s₀=>wpAny (model prog w) A (assign target env v) (λ_ s₂ =>
     wpAny (model prog w) A (forIn ifs true λc r=>if r=true then do let ok ← isTrue c env (eval c env);pure (ForInStep.yield ok) else pure (ForInStep.yield r)) (λok s₃ =>
      if ok=true then wpAny (model prog w) A (eval elt env) (λx s₄ =>
       wpAny (model prog w) A (call (.builtin "list.append") [acc,x]) (λ_ s₅=>∃m,m<n/\I m s₅) (notedBy (model prog w) A env λe s'=>R (.error e) s') s₄) (notedBy (model prog w) A env λe s'=>R (.error e) s') s₃
      else ∃m,m<n/\I m s₃) (notedBy (model prog w) A env λe s'=>R (.error e) s') s₂) (notedBy (model prog w) A env λe s'=>R (.error e) s') s₀) (notedBy (model prog w) A env λe s'=>R (.error e) s') s₁) (notedBy (model prog w) A env λe s'=>R (.error e) s') s)
  (n:Nat) (h:I n s):codeAny (model prog w) A (.compLoop (.ListComp elt [⟨target,iter,ifs,0⟩] scope pos) 0 it acc env) R s:=by
 refine codeAny_loop rfl I (λn s hI=>?_) n h
 show wpAny _ A ((compTurn (.ListComp elt [⟨target,iter,ifs,0⟩] scope pos) 0 it acc env).onRaise (λx=>do noteFrame x env;theTreesLotGoes x)) _ _ s
 refine wpAny_noted ?_
 rw [compTurn_list]
 refine wpAny_bind (wpAny_standAt (wpAny_bind (wpAny_mono (turn n s hI) (λr s₁ h₁=>?_) λ_ _ h'=>h')))
 cases r with
 | none=>exact wpAny_pure h₁
 | some v =>
  refine wpAny_bind (wpAny_mono h₁ (λ_ s₀ h₀=>?_) λ_ _ h'=>h')
  refine wpAny_bind (wpAny_mono h₀ (λ_ s₂ h₂=>wpAny_bind (wpAny_mono h₂ (λok s₃ h₃=>?_) λ_ _ h'=>h')) λ_ _ h'=>h')
  cases ok with
  | false=>exact wpAny_pure ⟨rfl,h₃⟩
  | true =>
   exact wpAny_bind (wpAny_bind (wpAny_mono h₃ (λx s₄ h₄=>wpAny_bind (wpAny_mono h₄ (λ_ s₅ h₅=>wpAny_pure (wpAny_pure ⟨rfl,h₅⟩)) λ_ _ h'=>h')) λ_ _ h'=>h'))
end
def bN2 (N:List Str) (ts:List Str) (ix:List Nat):List Str:=ts++ix.map λi=>N.getD i Str.empty
def bS2 (σ:St) (o:List (Option V)) (ix:List Nat):St:=o++ix.map λi=>(σ[i]?).getD none
section
variable {X:Cx}
theorem comp_blk2 {elt iter:Expr} {x:Str} {ts:List Str} {tg:Expr} {gt:TG} {pos:Pos} {scope:Scope} {te:TE} {tt:TT} {ifs:List Expr} {ix:List Nat} {pins:List (Addr × Obj)} {s:Shared} {σ:St} {H:Hp} {cl:List (Str × Addr)}
  {J:It} {fp:List Addr} {it:Addr} {tn:Nat->Heap->Prop} {E:Value->Shared->Prop} {RR:Value->Addr->Result->Shared->Prop} {G:List V->Hp->Prop}
  (I:Inv X pins σ H s) (hc:X.calm=true) (B:BlkScope X.env scope x) (h1:∀y c,cl.lookup y=some c->X.env.cells.lookup y=some c) (h3:∀y∈scope.names,y.2=.free->∃c,cl.lookup y.1=some c)
  (hix:∀i∈ix,∃y,X.N[i]? = some y/\scope.names.lookup y=some .free) (hN:(bN2 X.N ts ix).Nodup)
  (T:Turn X.prog X.w X.K tg J fp it tn) (st:tn 0 s.heap) (hf:∀b∈fp,FpOk X pins H b)
  (hg:∀cl C s₀ H₀ fp,PG (cxBlk X scope cl C (bN2 X.N ts ix) s₀ H₀ fp) tg gt)
  (he:∀cl C s₀ H₀ fp,PE (cxBlk X scope cl C (bN2 X.N ts ix) s₀ H₀ fp) elt te)
  (hi:∀cl C s₀ H₀ fp,PIfs (cxBlk X scope cl C (bN2 X.N ts ix) s₀ H₀ fp) ifs tt)
  (W:Nat->Nat->List V->Hp->Prop) (m₀:Nat) (w0:W 0 m₀ [] H)
  (turn:∀i m ys H,W i m ys H->(J.stop i H/\ys.length<=sizeLine/\G ys H)\/(J.go i H/\ys.length<sizeLine/\∀v H',J.yld i H v H'->∀o:List (Option V),o.length=ts.length->gt v (bS2 σ o ix) H' λσ2 H2=>∃o2:List (Option V),σ2=bS2 σ o2 ix/\o2.length=ts.length /\
    tt σ2 H2 λb H1=>if b=true then te σ2 H1 λy H2=>∃m',m' < m/\W (i+1) m' (ys++[y]) H2 else ∃m',m' < m/\W (i+1) m' ys H1))
  (hRR:∀D C s' ys H',Inv X pins σ (upd H' D (.lst ys)) s'->H' D=none->H' C=none->(∃m,s'.heap.Ns C m)->s.heap.objs.size<=C->D≠C->G ys H'->RR (.ref D) C (.ok .next) s') :
  wpAny (model X.prog X.w) X.A (newList []) (λacc s₃=>wpAny (model X.prog X.w) X.A (newFunctionEnv scope X.env.globals cl [] X.env.qual none .none (some X.env)) (λcenv s₄ =>
   codeAny (model X.prog X.w) X.A (.compStart (.ListComp elt [⟨tg,iter,ifs,0⟩] scope pos) 0 (.ref it) acc { cenv with scope:=relabel scope X.env }) (RR acc cenv.locals) s₄) E s₃) E s:=by
 have hl:∀b∈fp,b<s.heap.objs.size:=λb hb=>by obtain ⟨o,e,_⟩:=T.obj 0 _ st b hb;exact Heap.lt_size e
 refine wpAny_newObj_type (wpAny_newFunctionEnv B.cells (by intro y hy;simp at hy) (λh₁ hns₁ hsb₁=>?_) B.kind)
 dsimp only at hns₁ hsb₁ ⊢
 generalize hH2:s.heap.push { cls:=.type "list",dict:=none,data:=.seq ([]:List Value).toArray }=H2 at hns₁ hsb₁ ⊢
 have hC:H2.objs.size=s.heap.objs.size+1:=by rw [← hH2,Heap.size_push]
 generalize hD:s.heap.objs.size=D at hC hl hRR ⊢
 generalize hCC:H2.objs.size=C at hC hns₁ hsb₁ ⊢
 have hDC:D≠C:=by omega
 have old:∀b o,s.heap.get? b=some o->h₁.get? b=some o:=λb o e=>hsb₁.extBut b o (Nat.ne_of_lt (by have z:=Heap.lt_size e;rw [hD] at z;exact Nat.lt_of_lt_of_le z (by rw [hC];exact Nat.le_succ _))) (Heap.get?_push_of_some _ (hH2 ▸ Heap.get?_push_of_some _ e))
 have hacc:h₁.get? D=some { cls:=.type "list",data:=.seq ([]:List Value).toArray 0 }:=hsb₁.extBut _ _ hDC (Heap.get?_push_of_some _ (hH2 ▸ (by rw [← hD];exact Heap.get?_push_size _ rfl)))
 have hfr:∀a,D<=a->s.heap.get? a=none:=λa ha=>by
  cases e:s.heap.get? a with
  | none=>rfl
  | some o=>exact absurd (Heap.lt_size e) (by rw [hD];exact Nat.not_lt.mpr ha)
 have hHn:∀a,D<=a->H a=none:=λa ha=>I.hok.fresh (by omega)
 have ok:(cxBlk X scope cl C (bN2 X.N ts ix) s H fp).Ok:=blk_ok I B h1 h3 (by omega) hf (by rw [hD];exact hl)
 generalize hK:cxBlk X scope cl C (bN2 X.N ts ix) s H fp=K at ok
 have kp:K.prog=X.prog:=by rw [← hK];rfl
 have kw:K.w=X.w:=by rw [← hK];rfl
 have kK:K.K=X.K:=by rw [← hK];rfl
 have kA:K.A=X.A:=by rw [← hK];rfl
 have kc:K.calm=true:=by rw [← hK];exact hc
 have kN:K.N=bN2 X.N ts ix:=by rw [← hK];rfl
 have kenv:K.env=compEnvC scope cl C X.env:=by rw [← hK];rfl
 have kloc:K.env.locals=C:=by rw [← hK];rfl
 have kfs:K.fs=frs X.stack:=by rw [← hK];rfl
 have kex:K.ex=fp:=by rw [← hK];rfl
 have kpn:K.pn=[]:=by rw [← hK];rfl
 have ks:K.s₀=s:=by rw [← hK];rfl
 have kH:K.H₀=H:=by rw [← hK];rfl
 have kx:K.xe=λ_ _=>False:=by rw [← hK];rfl
 have kcl:K.env.cells=cl:=by rw [← hK];rfl
 have cellLt:∀y c,cl.lookup y=some c->c<D:=λy c q=>by obtain ⟨v,z⟩:=I.cell y c (h1 y c q);rw [← hD];exact z.lt
 have stkLt:∀b∈frs X.stack,b<D:=λb hb=>by
  rcases List.mem_cons.mp (I.stkSub b hb) with q | q
  ·rw [q,← hD];exact I.lt
  ·rcases Nat.lt_or_ge b D with z | z
   ·exact z
   ·exact absurd q (I.nofs (by omega))
 -- the state at the block's begin
 have I0:∀tk,Inv K [(D,{ cls:=.type "list",data:=.seq ([]:List Value).toArray 0 })] (bS2 σ (ts.map λ_=>none) ix) H { s with heap:=h₁,toks:=tk }:=λtk=>by
  refine ⟨ok,by rw [ks],I.bare,by rw [ks,kH];exact Un.kept old,?_,?_,?_,?_,?_,by rw [kp,kw];exact I.hok.kept old,?_⟩
  ·refine ⟨_,by rw [kloc];exact hns₁,λi y v e1 e2 e3=>?_⟩
   rw [kN] at e1
   by_cases hlt:i<ts.length
   ·unfold bS2 at e2
    rw [List.getElem?_append_left (by simpa using hlt),List.getElem?_map] at e2
    cases hts:ts[i]? with
    | none=>rw [hts] at e2;cases e2
    | some y'=>rw [hts] at e2;have e2:(some (none:Option V))=some (some v):=e2;cases e2
   ·obtain ⟨i,rfl⟩:∃i',i=ts.length+i':=⟨i-ts.length,by omega⟩
    have e1':(ix.map λi=>X.N.getD i Str.empty)[i]? = some y:=by
     unfold bN2 at e1
     rw [List.getElem?_append_right (by omega),show ts.length+i-ts.length=i by omega] at e1
     exact e1
    have e2':(ix.map λi=>(σ[i]?).getD none)[i]? = some (some v):=by
     unfold bS2 at e2
     rw [List.getElem?_append_right (by rw [List.length_map];omega),List.length_map,show ts.length+i-ts.length=i by omega] at e2
     exact e2
    rw [List.getElem?_map] at e1' e2'
    cases q:ix[i]? with
    | none=>rw [q] at e1';cases e1'
    | some j =>
     rw [q] at e1' e2'
     obtain ⟨y',a1,a2⟩:=hix j (List.mem_of_getElem? q)
     have a3:X.N.getD j Str.empty=y':=by simp [List.getD,a1]
     have ey:y'=y:=by rw [← a3];exact Option.some.inj e1'
     subst ey
     have es:σ[j]? = some (some v):=by
      have z:(σ[j]?).getD none=some v:=Option.some.inj e2'
      cases w:σ[j]? with
      | none=>rw [w] at z;cases z
      | some o=>rw [w] at z;have z':o=some v:=z;rw [z']
     obtain ⟨m,hn,hlk⟩:=I.loc
     have hk:=B.free (y',.free) (PySem.mem_of_lookup a2) rfl
     have hk:X.env.kindOf y'=some .cell\/X.env.kindOf y'=some .free:=hk
     have vis:Vis X.env.scope y':=hk.elim (λz=>.inr (.inl z)) λz=>.inr (.inr z)
     obtain ⟨u,ru,lk⟩:=hlk j y' v a1 es vis
     refine ⟨u,ru,?_⟩
     rcases lk with ⟨k,_⟩ | ⟨_,c,ec,ce⟩
     ·rcases hk with z | z <;> (rw [k] at z;cases z)
     ·obtain ⟨c',ec'⟩:=h3 (y',.free) (PySem.mem_of_lookup a2) rfl
      have ec':cl.lookup y'=some c':=ec'
      have:c'=c:=Option.some.inj ((h1 y' c' ec').symm.trans ec)
      subst this
      refine .inr ⟨?_,c',by rw [kcl];exact ec',?_⟩
      ·show K.env.scope.names.lookup y'=_\/K.env.scope.names.lookup y'=_
       rw [kenv]
       exact lookup_relabel_free a2
      ·obtain ⟨oc,hoc,r⟩:=ce
       exact ⟨oc,old _ _ hoc,r⟩
  ·intro y c q
   rw [kcl] at q
   obtain ⟨v,oc,hoc,r⟩:=I.cell y c (h1 y c q)
   exact ⟨v,oc,old _ _ hoc,r⟩
  ·rw [kloc];exact hHn _ (by omega)
  ·intro y c q
   rw [kcl] at q
   exact I.freeC y c (h1 y c q)
  ·intro p hp
   rw [kpn] at hp
   have e:p=(D,{ cls:=.type "list",data:=.seq ([]:List Value).toArray 0 }):=by simpa using hp
   subst e
   refine ⟨hacc,hHn _ (Nat.le_refl _),by rw [kloc];exact hDC,?_,λv z=>?_⟩
   ·rw [kfs];intro z;exact absurd (stkLt D z) (Nat.lt_irrefl _)
   ·have z':Data.seq _ _=Data.cell v:=z
    cases z'
  ·rw [kN];simp [bS2,bN2]
 have stat:∀{H':Hp} {ob:Obj},(∀b∈fp,H' b=none)->∀b∈fp,FpOk K [(D,ob)] H' b:=λ{H' ob} hn b hb=>by
  refine ⟨hn b hb,?_,?_,.inl (by rw [kex];exact hb),?_,?_⟩
  ·rw [kloc];exact Nat.ne_of_lt (Nat.lt_of_lt_of_le (hl b hb) (by rw [hC];exact Nat.le_succ _))
  ·rw [kfs];intro z
   rcases List.mem_cons.mp (I.stkSub b z) with q | q
   ·exact (hf b hb).2.1 q
   ·exact (hf b hb).2.2.1 q
  ·intro y c q;rw [kcl] at q;exact (hf b hb).2.2.2.2.1 y c (h1 y c q)
  ·intro p hp;rw [kpn] at hp
   have e:p=(D,ob):=by simpa using hp
   subst e
   exact Nat.ne_of_gt (hl b hb)
 have st₁:tn 0 h₁:=T.keep _ _ _ st λb hb o e=>old b o e
 have loop:∀tk,codeAny (model X.prog X.w) X.A (.compLoop (.ListComp elt [⟨tg,iter,ifs,0⟩] scope pos) 0 (.ref it) (.ref D) (compEnvC scope cl C X.env)) (RR (.ref D) C) { s with heap:=h₁,toks:=tk }:=by
  intro tk
  refine compLoop_tests (λn s'=>∃i o H' ys its c,o.length=ts.length/\Inv K [(D,{ cls:=.type "list",data:=.seq (its:List Value).toArray c })] (bS2 σ o ix) H' s'/\Vals ys its/\tn i s'.heap/\(∀b∈fp,H' b=none)/\W i n ys H') ?_ m₀
   ⟨0,ts.map (λ_=>none),H,[],[],0,by simp,I0 tk,.nil,st₁,λb hb=>(hf b hb).1,w0⟩
  rintro n s1 ⟨i,o,H1,ys,its,c,ol,I1,rv,t1,f1,w1⟩
  rcases turn i n ys H1 w1 with ⟨stop,hz,g⟩ | ⟨go,hz,step⟩
  ·have dn:=T.done K kp kw kK kc i _ s1 _ H1 (notedBy (model X.prog X.w) X.A (compEnvC scope cl C X.env) λe s'=>RR (.ref D) C (.error e) s') I1 (stat f1) t1 stop
   rw [kA] at dn
   refine thn dn λr s2 ⟨hr,I2⟩=>?_
   subst hr
   obtain ⟨p1,p2,p3,p4,p5⟩:=I2.pin (D,{ cls:=.type "list",data:=.seq its.toArray c }) (List.mem_append_right _ (List.mem_singleton.mpr rfl))
   have u2:=I2.base
   rw [kfs,kex,kH,ks] at u2
   refine hRR D C s2 ys H1 ?_ p2 (by rw [← kloc];exact I2.free) (by obtain ⟨m,hm,_⟩:=I2.loc;rw [kloc] at hm;exact ⟨m,hm⟩) (by omega) hDC g
   have hk2:HOk X.prog X.w H1 s2.heap:=by have:=I2.hok;rw [kp,kw] at this;exact this
   refine I.call' (ch:=fp) (by have:=I2.os;rw [ks] at this;exact this) (u2.add (hfr D (Nat.le_refl _)) (hHn D (Nat.le_refl _))) (hk2.add p2 ⟨hz,its,c,rv,p1⟩) I2.bare λb hb=>?_
   exact ⟨(hf b hb).2.2.2.1,(hf b hb).2.1,(hf b hb).2.2.2.2.1,(hf b hb).2.2.2.2.2⟩
  ·have im:=T.item K kp kw kK kc i _ s1 _ H1 (notedBy (model X.prog X.w) X.A (compEnvC scope cl C X.env) λe s'=>RR (.ref D) C (.error e) s') I1 (stat f1) t1 go
   rw [kA] at im
   refine thn im λr s2 ⟨u,hr,h2⟩=>?_
   subst hr
   refine thn h2 λ_ s3 ⟨v,H3,I3,r3,y3,t3,f3⟩=>?_
   have q3:=step v H3 y3 o ol
   have I3':=I3.pinned (stat f3) (T.obj _ _ t3)
   have hg':=hg cl C s H fp
   rw [hK] at hg'
   have hgv:=hg' _ s3 _ H3 v u _ I3' r3 q3
   rw [kx,kp,kw,kA,kenv] at hgv
   refine wpAny_mono hgv (λ_ s4 ⟨σ4,H4,I4,o4,e4,l4,q4⟩=>?_) λ_ _ z=>z.elim
   subst e4
   have hi':=hi cl C s H fp
   rw [hK] at hi'
   have hiv:=hi' _ s4 _ H4 _ I4 q4
   rw [kx,kp,kw,kA,kenv] at hiv
   refine wpAny_mono hiv (λok s5 ⟨H5,I5,q5⟩=>?_) λ_ _ z=>z.elim
   have back:∀{H7:Hp} {s7:Shared} {o7:List (Option V)},Inv K ([(D,{ cls:=.type "list",data:=.seq its.toArray c })]++pinsAt fp s3.heap) (bS2 σ o7 ix) H7 s7->tn (i+1) s7.heap/\∀b∈fp,H7 b=none:=λ{H7 s7 o7} I7=>by
    refine ⟨T.keep _ _ _ t3 λb hb o e=>(I7.pin (b,o) (List.mem_append_right _ (List.mem_append_right _ (mem_pinsAt hb e)))).1,λb hb=>?_⟩
    obtain ⟨ob,e,d⟩:=T.obj _ _ t3 b hb
    exact (I7.pin (b,ob) (List.mem_append_right _ (List.mem_append_right _ (mem_pinsAt hb e)))).2.1
   cases ok with
   | false =>
    rw [if_neg Bool.false_ne_true]
    have q5:∃m',m' < n/\W (i+1) m' ys H5:=q5
    obtain ⟨m',hm,w5⟩:=q5
    obtain ⟨b1,b2⟩:=back I5
    exact ⟨m',hm,i+1,o4,H5,ys,its,c,l4,I5.unpinned,rv,b1,b2,w5⟩
   | true =>
    rw [if_pos rfl]
    have q5:te (bS2 σ o4 ix) H5 λy H2=>∃m',m' < n/\W (i+1) m' (ys++[y]) H2:=q5
    have he':=he cl C s H fp
    rw [hK] at he'
    have hev:=he' _ s5 _ H5 _ I5 q5
    rw [kx,kp,kw,kA,kenv] at hev
    refine wpAny_mono hev (λy s6 ⟨yv,H6,I6,r6,m',hm,w6⟩=>?_) λ_ _ z=>z.elim
    obtain ⟨b1,b2⟩:=back I6
    have I6':=I6.unpinned
    obtain ⟨p1,p2,p3,p4,p5⟩:=I6'.pin (D,{ cls:=.type "list",data:=.seq its.toArray c }) (List.mem_append_right _ (List.mem_singleton.mpr rfl))
    have hlen:=rv.length
    refine call_meets F.slot_list_append ⟨_,p1,rfl⟩ F.entry_list_append (F.args_list_append_2 _ _) (PySem.list_append D its.toArray c y (by rw [List.size_toArray];omega)) ⟨p1,?_⟩
    have ea:its.toArray.push y=(its++[y]).toArray:=by simp
    obtain ⟨c',q⟩:∃c',(s6.heap.update D (Obj.mapSeq (·.push y))).get? D=some { cls:=.type "list",data:=.seq (its++[y]).toArray c' }:=⟨_,by rw [← ea];exact PySem.IsL.update p1 (·.push y)⟩
    refine ⟨m',hm,i+1,o4,H6,ys++[yv],its++[y],c',l4,?_,rv.append (.cons r6 .nil),T.keep _ _ _ b1 λb hb o e=>?_,b2,w6⟩
    ·have Id:Inv K [] (bS2 σ o4 ix) H6 s6:=I6'.pins_of λp hp=>by simp at hp
     have It:Inv K [] (bS2 σ o4 ix) H6 { s6 with heap:=s6.heap.update D (Obj.mapSeq (·.push y)) }:=Id.turned (t':=s6.toks) (it:=D) (λb o hb e=>(Heap.get?_update_other _ _ (Ne.symm hb)).trans e) p2 p3
      (.inr (by rw [ks];omega)) (λy' c' e=>by rw [kcl] at e;exact Nat.ne_of_lt (cellLt y' c' e)) (λp hp=>by rw [kpn] at hp;simp at hp)
     refine It.pins_of λp hp=>?_
     obtain rfl:p=(D,{ cls:=.type "list",data:=.seq (its++[y]).toArray c' }):=by simpa using hp
     refine ⟨q,p2,p3,p4,λv z=>?_⟩
     have z':Data.seq _ _=Data.cell v:=z
     cases z'
    ·exact (Heap.get?_update_other _ _ (Nat.ne_of_gt (hl b hb))).trans e
 have selfs:wpAny (model X.prog X.w) X.A (pyIter (.ref it)) (λit' s'=>codeAny (model X.prog X.w) X.A (.compLoop (.ListComp elt [⟨tg,iter,ifs,0⟩] scope pos) 0 it' (.ref D) (compEnvC scope cl C X.env)) (RR (.ref D) C) s')
   (notedBy (model X.prog X.w) X.A (compEnvC scope cl C X.env) λe s'=>RR (.ref D) C (.error e) s') { s with heap:=h₁,toks:=s.toks+([]:List (Str × Value)).length }:=T.self X.A 0 _ _ _ st₁ (loop _)
 exact codeAny_compStart_list (loop _) selfs
def tComp2 (ts:List Str) (wi:TI) (gt:TG) (tt:TT) (te:TE) (ix:List Nat):TE:=λσ H Q=>wi σ H λJ H1=>∃(W:Nat->Nat->List V->Hp->Prop) (m₀:Nat),W 0 m₀ [] H1 /\
 ∀i m ys H,W i m ys H->(J.stop i H/\ys.length<=sizeLine/\∀l,H l=none->Q (.ref l) (upd H l (.lst ys)))\/(J.go i H/\ys.length<sizeLine/\∀v H',J.yld i H v H'->∀o:List (Option V),o.length=ts.length->gt v (bS2 σ o ix) H' λσ2 H2=>∃o2:List (Option V),σ2=bS2 σ o2 ix/\o2.length=ts.length /\
  tt σ2 H2 λb H1=>if b=true then te σ2 H1 λy H2=>∃m',m' < m/\W (i+1) m' (ys++[y]) H2 else ∃m',m' < m/\W (i+1) m' ys H1)
theorem pe_comp2 {elt iter:Expr} {x:Str} {ts:List Str} {tg:Expr} {gt:TG} {pos:Pos} {scope:Scope} {te:TE} {tt:TT} {wi:TI} {ifs:List Expr} (ix:List Nat) (hc:X.calm=true) (B:BlkScope X.env scope x)
  (hix:∀i∈ix,∃y,X.N[i]? = some y/\scope.names.lookup y=some .free) (hN:(bN2 X.N ts ix).Nodup) (hi:PI X tg iter wi)
  (hg:∀cl C s₀ H₀ fp,PG (cxBlk X scope cl C (bN2 X.N ts ix) s₀ H₀ fp) tg gt)
  (ht:∀cl C s₀ H₀ fp,PIfs (cxBlk X scope cl C (bN2 X.N ts ix) s₀ H₀ fp) ifs tt)
  (he:∀cl C s₀ H₀ fp,PE (cxBlk X scope cl C (bN2 X.N ts ix) s₀ H₀ fp) elt te)
  (hs:∀x,foldedSetIterable iter X.env x=pure x:=by intro _;rfl) :
  PE X (.ListComp elt [⟨tg,iter,ifs,0⟩] scope pos) (tComp2 ts wi gt tt te ix):=by
 intro pins s σ H Q I h
 obtain ⟨cl,hcl,h1,h3⟩:=closure_for (blk_free I B)
 rw [eval_ListComp]
 refine wpAny_comprehension_free (use:=none) rfl hs hcl B.kind B.names (thn (hi pins s σ H _ I h) λv s1 h1'=>thn h1' λitv s2 h2=>?_)
 obtain ⟨it,fp,tn,J,H2,e,I2,T,st2,f2,W,m0,w0,turn⟩:=h2
 subst e
 refine comp_blk2 (G:=λys H'=>∀l,H' l=none->Q (.ref l) (upd H' l (.lst ys))) I2 hc B h1 h3 hix hN T st2 f2 hg he ht W m0 w0 turn λD C s' ys H' I' hD hC hm hCs hDC g=>?_
 obtain ⟨m,hm⟩:=hm
 refine ⟨m,hm,λh' hsb=>⟨.ref D,upd H' D (.lst ys),I2.blkGone I' hCs (by rw [upd_ne (Ne.symm hDC)];exact hC) hsb,rfl,g D hD⟩⟩
end
end L2
namespace HT
open PySem PySem.Spec PyProof.Rows L2
section
variable {prog:Program} {w:World} {A:Around} {E:Value->Shared->Prop} {s:Shared}
end
section
variable {prog:Program} {w:World} {A:Around} {E:Value->Shared->Prop} {s:Shared}
end
end HT
namespace L2
open PySem PySem.Spec PyProof.Rows
section
variable {X:Cx}
end
end L2
namespace L2
open PySem PySem.Spec PyProof.Rows
open Builtin.Str (glued partsBetween occurrences tooLong strSub)
section
variable {X:Cx}
end
end L2
namespace L2
open PySem PySem.Spec PyProof.Rows
section
variable {X:Cx}
end
end L2
namespace HT
open PySem PySem.Spec PyProof.Rows L2
section
variable {prog:Program} {w:World} {A:Around} {E:Value->Shared->Prop} {s:Shared}
end
section
variable {prog:Program} {w:World} {A:Around} {E:Value->Shared->Prop} {s:Shared}
end
end HT
namespace L2
open PySem PySem.Spec PyProof.Rows
section
variable {X:Cx}
end
end L2
namespace L2
open PySem PySem.Spec PyProof.Rows
open Builtin.Str (occurrences strSub subAt)
section
variable {X:Cx} {e:Expr} {te:TE} {lo hi st:Option Expr} {tl th ts:TO} {p2 pos:Pos}
def stepV {α:Type} (xs:List α) (lo hi st:Option Int):List α:=(sliceRange (sliceBounds lo hi st xs.length).1 (sliceBounds lo hi st xs.length).2.1 (sliceBounds lo hi st xs.length).2.2).filterMap (xs[·]?)
end
end L2
namespace Srt
open PySem PyProof.Rows
class KN where
 nk:Keyed->Int
 isN:Keyed->Prop
 kind:SortKind
open KN (nk isN kind)
class KL [KN] (prog:Program) (w:World) (A:Around) (E:Value->Shared->Prop) (s:Shared):Prop where
 lt:∀{st:SortSt} {x y:Keyed} {Q:Option Bool->SortSt->Prop},kindOf st=kind->isN x->isN y->Q (some (decide (nk x<nk y))) st->wpS (model prog w) A E s (lt' x y) Q st
variable [KN]
def K (xs:Array Keyed) (i:Nat):Int:=match xs[i]? with
 | some p=>nk p
 | none=>0
def SortedTo (xs:Array Keyed) (k:Nat):Prop:=∀i j,i<=j->j<k->K xs i<=K xs j
theorem K_eqv {xs ys:Array Keyed} {i j:Nat} (h:xs[i]? = ys[j]?):K xs i=K ys j:=by unfold K;rw [h]
theorem K_bub {x:Array Keyed} {r d:Nat} (hr:r<x.size) (hd:d<=r) (n:Nat):K (bubble x r d) n=if n=r-d then K x r else if r-d<n/\n<=r then K x (n-1) else K x n:=by
 have q:=getElem?_bubble hr d hd n
 split
 ·rename_i z;rw [if_pos z] at q;exact K_eqv q
 ·rename_i z;rw [if_neg z] at q
  split
  ·rename_i y;rw [if_pos y] at q;exact K_eqv q
  ·rename_i y;rw [if_neg y] at q;exact K_eqv q
theorem K_mir {x:Array Keyed} {a b:Nat} (hb:b<=x.size) (n:Nat):K (mirror x a b ((b-a) / 2)) n=if a<=n/\n<b then K x (a+b-1-n) else K x n:=by
 have q:=getElem?_mirror_all (i:=a) hb n
 split
 ·rename_i z;rw [if_pos z] at q;exact K_eqv q
 ·rename_i z;rw [if_neg z] at q;exact K_eqv q
theorem K_mir_same {x:Array Keyed} {a b:Nat} (hb:b<=x.size) (h:∀n,a<=n->n<b->K x n=K x (b-1)) (n:Nat):K (mirror x a b ((b-a) / 2)) n=K x n:=by
 rw [K_mir hb]
 split
 ·rw [h _ (by omega) (by omega),h n (by omega) (by omega)]
 ·rfl
section
variable {prog:Program} {w:World} {A:Around} {E:Value->Shared->Prop} {s:Shared} [KL prog w A E s]
theorem wpS_lt2 {st:SortSt} {x y:Keyed} {Q:Option Bool->SortSt->Prop} (hk:kindOf st=kind) (hx:isN x) (hy:isN y) (h:Q (some (decide (nk x<nk y))) st):wpS (model prog w) A E s (lt' x y) Q st:=KL.lt hk hx hy h
theorem wpS_elem {st:SortSt} {xs:Array Keyed} {i:Nat} {p:Keyed} {Q:Keyed->SortSt->Prop} (hi:xs[i]? = some p) (h:Q p st):wpS (model prog w) A E s (elem' xs i) Q st:=by
 rw [elem'_eq,hi]
 exact wpS_pure h
def leap:Bool->Keyed->Array Keyed->Nat->Nat->Nat->StateT SortSt Sem (Option Nat):=sortPriv% PySem.Builtin.gallop
def past (left:Bool) (key:Keyed) (xs:Array Keyed) (b i:Nat):StateT SortSt Sem (Option Bool):=do
 let p ← elem' xs (b+i)
 if left then lt' p key else return (← lt' key p).map (!·)
def pv (left:Bool) (key:Keyed) (xs:Array Keyed) (b i:Nat):Bool:=if left then decide (K xs (b+i)<nk key) else !decide (nk key<K xs (b+i))
theorem wpS_past {st:SortSt} {left:Bool} {key:Keyed} {xs:Array Keyed} {b i:Nat} {Q:Option Bool->SortSt->Prop} (hk:kindOf st=kind) (hx:∀p∈xs.toList,isN p) (hy:isN key) (hi:b+i<xs.size) (h:Q (some (pv left key xs b i)) st):wpS (model prog w) A E s (past left key xs b i) Q st:=by
 have e:xs[b+i]? = some (xs[b+i]'hi):=Array.getElem?_eq_getElem hi
 have hp:isN xs[b+i]:=hx _ (by simp)
 have ek:K xs (b+i)=nk xs[b+i]:=by unfold K;rw [e]
 unfold past
 refine wpS_bind (wpS_elem e ?_)
 unfold pv at h
 rw [ek] at h
 cases left with
 | true =>
  simp only [if_true] at h ⊢
  exact wpS_lt2 hk hp hy h
 | false =>
  simp only [Bool.false_eq_true,if_false] at h ⊢
  exact wpS_bind (wpS_lt2 hk hy hp (wpS_pure h))
theorem leap_do (left:Bool) (key:Keyed) (xs:Array Keyed) (b n hint:Nat):leap left key xs b n hint=(do
 let mut la:=0
 let mut of:=1
 let mut l:=0
 let mut h:=0
 let some r ← past left key xs b hint | return none
 if r then
  let mx:=n-hint
  for _ in [0:n] do
   if of ≥ mx then break
   let some m ← past left key xs b (hint+of) | return none
   if !m then break
   la:=of
   of:=2*of+1
  l:=hint+la+1
  h:=hint+min of mx
 else
  let mx:=hint+1
  for _ in [0:n] do
   if of ≥ mx then break
   let some m ← past left key xs b (hint-of) | return none
   if m then break
   la:=of
   of:=2*of+1
  l:=hint+1-min of mx
  h:=hint-la
 for _ in [0:n] do
  if l ≥ h then break
  let mid:=l+(h-l) / 2
  let some m ← past left key xs b mid | return none
  if m then l:=mid+1 else h:=mid
 return some h):=rfl
def half (left:Bool) (key:Keyed) (xs:Array Keyed) (b n l0 h0:Nat):StateT SortSt Sem (Option Nat):=do
 let mut l:=l0
 let mut h:=h0
 for _ in [0:n] do
  if l ≥ h then break
  let mid:=l+(h-l) / 2
  let some m ← past left key xs b mid | return none
  if m then l:=mid+1 else h:=mid
 return some h
structure Ask (st:SortSt) (key:Keyed) (xs:Array Keyed) (b n:Nat):Prop where
 k:kindOf st=kind
 x:∀p∈xs.toList,isN p
 y:isN key
 s:∀i j,i<=j->j<n->K xs (b+i)<=K xs (b+j)
 z:b+n<=xs.size
variable {st:SortSt} {left:Bool} {key:Keyed} {xs:Array Keyed} {b n hint:Nat}
theorem Ask.down (h:Ask st key xs b n) {i j:Nat} (hij:i<=j) (hj:j<n) (hp:pv left key xs b j=true):pv left key xs b i=true:=by
 have:=h.s i j hij hj
 unfold pv at hp ⊢
 cases left with
 | true=>simp only [if_true,decide_eq_true_eq] at hp ⊢;omega
 | false=>simp only [Bool.false_eq_true,if_false,Bool.not_eq_true',decide_eq_false_iff_not] at hp ⊢;omega
theorem Ask.up (h:Ask st key xs b n) {i j:Nat} (hij:i<=j) (hj:j<n) (hp:pv left key xs b i=false):pv left key xs b j=false:=by
 cases hq:pv left key xs b j with
 | false=>rfl
 | true=>rw [h.down hij hj hq] at hp;cases hp
def Cut (left:Bool) (key:Keyed) (xs:Array Keyed) (b n k:Nat):Prop:=k<=n/\(∀i,i<k->pv left key xs b i=true)/\∀i,k<=i->i<n->pv left key xs b i=false
theorem wpS_half {l h:Nat} {Q:Option Nat->SortSt->Prop} (a:Ask st key xs b n) (h1:l<=h) (h2:h<=n) (h3:∀i,i<l->pv left key xs b i=true) (h4:∀i,h<=i->i<n->pv left key xs b i=false)
  (hQ:∀k,Cut left key xs b n k->Q (some k) st):wpS (model prog w) A E s (half left key xs b n l h) Q st:=by
 unfold half
 refine wpS_bind (wpS_mono (wpS_forRange (I:=λx c st'=>st'=st/\∃l h,c=(none,l,h)/\l<=h/\h<=n/\h-l<=n-x/\(∀i,i<l->pv left key xs b i=true)/\∀i,h<=i->i<n->pv left key xs b i=false)
  (Q:=λc st'=>st'=st/\∃k,c=(none,k,k)/\Cut left key xs b n k) ?step ?fin ⟨rfl,l,h,rfl,h1,h2,by omega,h3,h4⟩) ?post)
 case fin =>
  rintro c st' ⟨rfl,l,h,rfl,a1,a2,a3,a4,a5⟩
  have:l=h:=by omega
  subst this
  exact ⟨rfl,l,rfl,a2,a4,a5⟩
 case step =>
  rintro x c st' _ hx ⟨rfl,l,h,rfl,a1,a2,a3,a4,a5⟩
  dsimp only
  by_cases hge:l ≥ h
  ·rw [if_pos hge]
   have:l=h:=by omega
   subst this
   exact wpS_pure ⟨rfl,l,rfl,a2,a4,a5⟩
  ·rw [if_neg hge]
   refine wpS_bind (wpS_past a.k a.x a.y (by have:=a.z;omega) ?_)
   dsimp only
   cases hp:pv left key xs b (l+(h-l) / 2) with
   | true =>
    simp only [if_true]
    exact wpS_pure ⟨rfl,_,_,rfl,by omega,by omega,by omega,λi hi=>a.down (by omega) (by omega) hp,a5⟩
   | false =>
    simp only [Bool.false_eq_true,if_false]
    exact wpS_pure ⟨rfl,_,_,rfl,by omega,by omega,by omega,a4,λi hi hn=>a.up hi hn hp⟩
 case post =>
  rintro c st' ⟨rfl,k,rfl,hc⟩
  exact wpS_pure (hQ k hc)
theorem wpS_leap {Q:Option Nat->SortSt->Prop} (a:Ask st key xs b n) (hh:hint<n) (hQ:∀k,Cut left key xs b n k->Q (some k) st):wpS (model prog w) A E s (leap left key xs b n hint) Q st:=by
 have hz:=a.z
 rw [leap_do]
 dsimp only
 refine wpS_bind (wpS_past a.k a.x a.y (by omega) ?_)
 dsimp only
 cases hr:pv left key xs b hint with
 | true =>
  simp only [if_true]
  refine wpS_bind (wpS_mono (wpS_forRange (I:=λx c st'=>st'=st/\∃la of,c=(none,la,of)/\la<of/\x+1<=of/\hint+la<n/\pv left key xs b (hint+la)=true)
   (Q:=λc st'=>st'=st/\∃la of,c=(none,la,of)/\la<of/\hint+la<n/\pv left key xs b (hint+la)=true/\(n-hint<=of\/pv left key xs b (hint+of)=false)) ?step ?fin ⟨rfl,0,1,rfl,by omega,by omega,by omega,hr⟩) ?post)
  case fin =>
   rintro c st' ⟨rfl,la,of,rfl,a1,a2,a3,a4⟩
   exact ⟨rfl,la,of,rfl,a1,a3,a4,.inl (by omega)⟩
  case step =>
   rintro x c st' _ hx ⟨rfl,la,of,rfl,a1,a2,a3,a4⟩
   dsimp only
   by_cases hge:of ≥ n-hint
   ·rw [if_pos hge]
    exact wpS_pure ⟨rfl,la,of,rfl,a1,a3,a4,.inl hge⟩
   ·rw [if_neg hge]
    refine wpS_bind (wpS_past a.k a.x a.y (by omega) ?_)
    dsimp only
    cases hp:pv left key xs b (hint+of) with
    | true =>
     simp only [Bool.not_true,Bool.false_eq_true,if_false]
     exact wpS_pure ⟨rfl,_,_,rfl,by omega,by omega,by omega,hp⟩
    | false =>
     simp only [Bool.not_false,if_true]
     exact wpS_pure ⟨rfl,la,of,rfl,a1,a3,a4,.inr hp⟩
  case post =>
   rintro c st' ⟨rfl,la,of,rfl,a1,a3,a4,a5⟩
   refine wpS_half (h:=hint+min of (n-hint)) (l:=hint+la+1) a (by omega) (by omega) (λi hi=>a.down (by omega) a3 a4) (λi hi hn=>?_) hQ
   rcases a5 with q | q
   ·omega
   ·exact a.up (by omega) hn q
 | false =>
  simp only [Bool.false_eq_true,if_false]
  refine wpS_bind (wpS_mono (wpS_forRange (I:=λx c st'=>st'=st/\∃la of,c=(none,la,of)/\la<of/\x+1<=of/\la<=hint/\pv left key xs b (hint-la)=false)
   (Q:=λc st'=>st'=st/\∃la of,c=(none,la,of)/\la<of/\la<=hint/\pv left key xs b (hint-la)=false/\(hint+1<=of\/(of<=hint/\pv left key xs b (hint-of)=true))) ?step ?fin ⟨rfl,0,1,rfl,by omega,by omega,by omega,hr⟩) ?post)
  case fin =>
   rintro c st' ⟨rfl,la,of,rfl,a1,a2,a3,a4⟩
   exact ⟨rfl,la,of,rfl,a1,a3,a4,.inl (by omega)⟩
  case step =>
   rintro x c st' _ hx ⟨rfl,la,of,rfl,a1,a2,a3,a4⟩
   dsimp only
   by_cases hge:of ≥ hint+1
   ·rw [if_pos hge]
    exact wpS_pure ⟨rfl,la,of,rfl,a1,a3,a4,.inl hge⟩
   ·rw [if_neg hge]
    refine wpS_bind (wpS_past a.k a.x a.y (by omega) ?_)
    dsimp only
    cases hp:pv left key xs b (hint-of) with
    | true =>
     simp only [if_true]
     exact wpS_pure ⟨rfl,la,of,rfl,a1,a3,a4,.inr ⟨by omega,hp⟩⟩
    | false =>
     simp only [Bool.false_eq_true,if_false]
     exact wpS_pure ⟨rfl,_,_,rfl,by omega,by omega,by omega,hp⟩
  case post =>
   rintro c st' ⟨rfl,la,of,rfl,a1,a3,a4,a5⟩
   refine wpS_half (h:=hint-la) (l:=hint+1-min of (hint+1)) a (by omega) (by omega) (λi hi=>?_) (λi hi hn=>a.up hi hn a4) hQ
   rcases a5 with q | ⟨q1,q2⟩
   ·omega
   ·exact a.down (by omega) (by omega) q2
end
end Srt
namespace Srt
open PySem PyProof.Rows
open KN (nk isN kind)
variable [KN]
def mLo:Array Keyed->Array Keyed->StateT SortSt Sem (Array Keyed):=sortPriv% PySem.Builtin.mergeLo
def setG:Nat->StateT SortSt Sem Unit:=sortPriv% PySem.Builtin.setMinGallop
theorem setG_eq (g:Nat):setG g=modify λs=>SortSt.mk' (kindOf s) (arrOf s) (pendingOf s) g (failedOf s):=rfl
theorem mLo_do (x y:Array Keyed):∃u:StateT SortSt Sem (Array Keyed),mLo x y=(do
 rule "list.sort.merge-lo"
 let tot:=x.size+y.size
 let fin (o:Array Keyed) (i j:Nat):=o++x.extract i x.size++y.extract j y.size
 let las (o:Array Keyed) (i j:Nat):=o++y.extract j y.size++x.extract i x.size
 let mut o:Array Keyed:=#[← elem' y 0]
 let mut i:=0
 let mut j:=1
 if j == y.size then return fin o i j
 if i+1 == x.size then return las o i j
 let mut g:=gallopOf (← get)
 for _ in [0:tot] do
  let mut ca:=0
  let mut cb:=0
  for _ in [0:tot] do
   let some bw ← lt' (← elem' y j) (← elem' x i) | return fin o i j
   if bw then
    o:=o.push (← elem' y j);j:=j+1;cb:=cb+1;ca:=0
    if j == y.size then return fin o i j
    if cb ≥ g then break
   else
    o:=o.push (← elem' x i);i:=i+1;ca:=ca+1;cb:=0
    if i+1 == x.size then return las o i j
    if ca ≥ g then break
  rule "list.sort.gallop"
  g:=g+1
  for _ in [0:tot] do
   if g > 1 then g:=g-1
   setG g
   let some k ← leap false (← elem' y j) x i (x.size-i) 0 | return fin o i j
   ca:=k
   if k > 0 then
    o:=o++x.extract i (i+k);i:=i+k
    if i+1 == x.size then return las o i j
    if i == x.size then return fin o i j
   o:=o.push (← elem' y j);j:=j+1
   if j == y.size then return fin o i j
   let some k ← leap true (← elem' x i) y j (y.size-j) 0 | return fin o i j
   cb:=k
   if k > 0 then
    o:=o++y.extract j (j+k);j:=j+k
    if j == y.size then return fin o i j
   o:=o.push (← elem' x i);i:=i+1
   if i+1 == x.size then return las o i j
   if ca<7 && cb<7 then break
  g:=g+1
  setG g
 u):=⟨_,rfl⟩
def Inc (l:List Keyed):Prop:=l.Pairwise λp q=>nk p<=nk q
structure Mg (X Y:List Keyed) (i j:Nat) (O:List Keyed):Prop where
 perm:O.Perm (X.take i++Y.take j)
 inc:Inc O
 le:∀p∈O,∀q,(q∈X.drop i\/q∈Y.drop j)->nk p<=nk q
theorem Inc.drop {l:List Keyed} (h:Inc l) (k:Nat):Inc (l.drop k):=List.Pairwise.sublist (List.drop_sublist _ _) h
theorem Inc.take {l:List Keyed} (h:Inc l) (k:Nat):Inc (l.take k):=List.Pairwise.sublist (List.take_sublist _ _) h
theorem Inc.split {l:List Keyed} (h:Inc l) (k:Nat):∀p∈l.take k,∀q∈l.drop k,nk p<=nk q:=by
 have:Inc (l.take k++l.drop k):=by rw [List.take_append_drop];exact h
 exact (List.pairwise_append.mp this).2.2
theorem drop_mem {l:List Keyed} {i k:Nat} {q:Keyed} (h:q∈l.drop (i+k)):q∈l.drop i:=by
 rw [← List.drop_drop] at h
 exact List.mem_of_mem_drop h
theorem Mg.stepX {X Y O:List Keyed} {i j k:Nat} (h:Mg X Y i j O) (hX:Inc X) (hc:∀p∈(X.drop i).take k,∀q∈Y.drop j,nk p<=nk q):Mg X Y (i+k) j (O++(X.drop i).take k):=by
 refine ⟨?_,?_,λp hp q hq=>?_⟩
 ·rw [List.take_add]
  refine (h.perm.append_right _).trans ?_
  rw [List.append_assoc,List.append_assoc]
  exact List.Perm.append_left _ List.perm_append_comm
 ·refine List.pairwise_append.mpr ⟨h.inc,(hX.drop i).take k,λp hp q hq=>h.le p hp q (.inl (List.mem_of_mem_take hq))⟩
 ·rcases List.mem_append.mp hp with hp | hp
  ·rcases hq with hq | hq
   ·exact h.le p hp q (.inl (drop_mem hq))
   ·exact h.le p hp q (.inr hq)
  ·rcases hq with hq | hq
   ·rw [← List.drop_drop] at hq
    exact (hX.drop i).split k p hp q hq
   ·exact hc p hp q hq
theorem Mg.stepY {X Y O:List Keyed} {i j k:Nat} (h:Mg X Y i j O) (hY:Inc Y) (hc:∀p∈(Y.drop j).take k,∀q∈X.drop i,nk p<=nk q):Mg X Y i (j+k) (O++(Y.drop j).take k):=by
 refine ⟨?_,?_,λp hp q hq=>?_⟩
 ·rw [List.take_add,← List.append_assoc]
  exact h.perm.append_right _
 ·refine List.pairwise_append.mpr ⟨h.inc,(hY.drop j).take k,λp hp q hq=>h.le p hp q (.inr (List.mem_of_mem_take hq))⟩
 ·rcases List.mem_append.mp hp with hp | hp
  ·rcases hq with hq | hq
   ·exact h.le p hp q (.inl hq)
   ·exact h.le p hp q (.inr (drop_mem hq))
  ·rcases hq with hq | hq
   ·exact hc p hp q hq
   ·rw [← List.drop_drop] at hq
    exact (hY.drop j).split k p hp q hq
def Out (X Y O:List Keyed):Prop:=O.Perm (X++Y)/\Inc O
theorem Mg.endX {X Y O:List Keyed} {i j:Nat} (h:Mg X Y i j O) (hX:Inc X) (hj:Y.length<=j):Out X Y (O++X.drop i):=by
 have ht:Y.take j=Y:=List.take_of_length_le hj
 refine ⟨?_,List.pairwise_append.mpr ⟨h.inc,hX.drop i,λp hp q hq=>h.le p hp q (.inl hq)⟩⟩
 have:=h.perm
 rw [ht] at this
 refine (this.append_right _).trans ?_
 have e:X++Y=X.take i++(X.drop i++Y):=by rw [← List.append_assoc,List.take_append_drop]
 rw [List.append_assoc,e]
 exact List.Perm.append_left _ List.perm_append_comm
theorem Mg.endY {X Y O:List Keyed} {i j:Nat} (h:Mg X Y i j O) (hY:Inc Y) (hi:X.length<=i):Out X Y (O++Y.drop j):=by
 have ht:X.take i=X:=List.take_of_length_le hi
 refine ⟨?_,List.pairwise_append.mpr ⟨h.inc,hY.drop j,λp hp q hq=>h.le p hp q (.inr hq)⟩⟩
 have:=h.perm
 rw [ht] at this
 refine (this.append_right _).trans ?_
 rw [List.append_assoc,List.take_append_drop]
theorem Mg.endL {X Y O:List Keyed} {i j:Nat} (h:Mg X Y i j O) (hX:Inc X) (hY:Inc Y) (hi:i+1=X.length) (hl:∀p∈X.drop i,∀q∈Y,nk q<=nk p):Out X Y (O++Y.drop j++X.drop i):=by
 refine ⟨?_,?_⟩
 ·refine ((h.perm.append_right _).append_right _).trans ?_
  rw [List.append_assoc (X.take i),List.take_append_drop]
  have e:X++Y=X.take i++(X.drop i++Y):=by rw [← List.append_assoc,List.take_append_drop]
  rw [List.append_assoc,e]
  exact List.Perm.append_left _ List.perm_append_comm
 ·refine List.pairwise_append.mpr ⟨List.pairwise_append.mpr ⟨h.inc,hY.drop j,λp hp q hq=>h.le p hp q (.inr hq)⟩,hX.drop i,λp hp q hq=>?_⟩
  rcases List.mem_append.mp hp with hp | hp
  ·exact h.le p hp q (.inl hq)
  ·exact hl q hq p (List.mem_of_mem_drop hp)
theorem Mg.start {X Y:List Keyed}:Mg X Y 0 0 []:=⟨by simp,List.Pairwise.nil,λp hp=>nomatch hp⟩
theorem one_drop {x:Array Keyed} {i:Nat} (h:i<x.size):(x.toList.drop i).take 1=[x[i]]:=by
 have h':i<x.toList.length:=by simpa using h
 rw [List.drop_eq_getElem_cons h'];simp
theorem ext_list (x:Array Keyed) (i k:Nat):(x.extract i (i+k)).toList=(x.toList.drop i).take k:=by
 simp
theorem ext_end (x:Array Keyed) (i:Nat):(x.extract i x.size).toList=x.toList.drop i:=by
 rw [Array.toList_extract,List.extract_eq_take_drop,List.take_of_length_le]
 simp
theorem K_nk {x:Array Keyed} {i:Nat} (h:i<x.size):K x i=nk x[i]:=by
 unfold K
 rw [Array.getElem?_eq_getElem h]
theorem inc_K {x:Array Keyed} (h:Inc x.toList) {i j:Nat} (hij:i<=j) (hj:j<x.size):K x i<=K x j:=by
 rw [K_nk (by omega),K_nk hj]
 by_cases e:i=j
 ·subst e;exact Int.le_refl _
 ·have:=List.pairwise_iff_getElem.mp h i j (by simp;omega) (by simpa using hj) (by omega)
  simpa using this
structure Keep (st st':SortSt):Prop where
 k:kindOf st'=kindOf st
 a:arrOf st'=arrOf st
 p:pendingOf st'=pendingOf st
 f:failedOf st'=failedOf st
theorem Keep.refl (st:SortSt):Keep st st:=⟨rfl,rfl,rfl,rfl⟩
structure Mr (x y:Array Keyed):Prop where
 nx:∀p∈x.toList,isN p
 ny:∀p∈y.toList,isN p
 ix:Inc x.toList
 iy:Inc y.toList
 x0:0<x.size
 y0:0<y.size
 fst:∀p∈y.toList.take 1,∀q∈x.toList,nk p<=nk q
 lst:∀p∈x.toList.drop (x.size-1),∀q∈y.toList,nk q<=nk p
section
variable {prog:Program} {w:World} {A:Around} {E:Value->Shared->Prop} {s:Shared} [KL prog w A E s] {st:SortSt} {x y:Array Keyed}
theorem Mr.askX (h:Mr x y) (hk:kindOf st=kind) {key:Keyed} (hy:isN key) {i:Nat} (hi:i<=x.size):Ask st key x i (x.size-i) :=
 ⟨hk,h.nx,hy,λa b hab hb=>inc_K h.ix (by omega) (by omega),by omega⟩
theorem Mr.askY (h:Mr x y) (hk:kindOf st=kind) {key:Keyed} (hy:isN key) {i:Nat} (hi:i<=y.size):Ask st key y i (y.size-i) :=
 ⟨hk,h.ny,hy,λa b hab hb=>inc_K h.iy (by omega) (by omega),by omega⟩
theorem wpS_setG {g:Nat} {Q:Unit->SortSt->Prop} (h:∀st',Keep st st'->Q () st'):wpS (model prog w) A E s (setG g) Q st:=by
 rw [setG_eq]
 exact wpS_modify (h _ ⟨rfl,rfl,rfl,rfl⟩)
theorem Keep.trans {a b c:SortSt} (h:Keep a b) (k:Keep b c):Keep a c:=⟨k.k.trans h.k,k.a.trans h.a,k.p.trans h.p,k.f.trans h.f⟩
theorem mem_drop {x:Array Keyed} {i:Nat} {q:Keyed} (h:q∈x.toList.drop i):∃t,∃(h:i+t<x.size),q=x[i+t]:=by
 obtain ⟨t,ht,e⟩:=List.getElem_of_mem h
 rw [List.length_drop,Array.length_toList] at ht
 exact ⟨t,by omega,by rw [← e,List.getElem_drop];simp⟩
theorem mem_take {x:Array Keyed} {i k:Nat} {q:Keyed} (h:q∈(x.toList.drop i).take k):∃t,t<k/\∃(h:i+t<x.size),q=x[i+t]:=by
 obtain ⟨t,ht,e⟩:=List.getElem_of_mem h
 rw [List.length_take,List.length_drop,Array.length_toList] at ht
 exact ⟨t,by omega,by omega,by rw [← e,List.getElem_take,List.getElem_drop];simp⟩
abbrev LoS:=ForInStep (Option (Array Keyed) × Array Keyed × Nat × Nat × Nat × Nat × Nat)
abbrev LoS1:=ForInStep (Option (Array Keyed) × Array Keyed × Nat × Nat × Nat × Nat)
abbrev LoS2:=ForInStep (Option (Array Keyed) × Array Keyed × Nat × Nat × Nat)
def loC (x y o:Array Keyed) (i j g ca cb:Nat):StateT SortSt Sem LoS:=do
 let a ← elem' x i
 if i+1+1 == x.size then pure (.done (some (o.push a++y.extract j y.size++x.extract (i+1) x.size),o.push a,i+1,j,g,ca,cb))
 else if ca<7 && cb<7 then pure (.done (none,o.push a,i+1,j,g,ca,cb))
 else pure (.yield (none,o.push a,i+1,j,g,ca,cb))
def loB (x y o:Array Keyed) (i j g ca cb:Nat):StateT SortSt Sem LoS:=do
 let a ← elem' y j
 if j+1 == y.size then pure (.done (some (o.push a++x.extract i x.size++y.extract (j+1) y.size),o.push a,i,j+1,g,ca,cb))
 else do
  let b ← elem' x i
  let z ← leap true b y (j+1) (y.size-(j+1)) 0
  match z with
  | some k =>
   if k > 0 then
    if j+1+k == y.size then pure (.done (some (o.push a++y.extract (j+1) (j+1+k)++x.extract i x.size++y.extract (j+1+k) y.size),o.push a++y.extract (j+1) (j+1+k),i,j+1+k,g,ca,k))
    else loC x y (o.push a++y.extract (j+1) (j+1+k)) i (j+1+k) g ca k
   else loC x y (o.push a) i (j+1) g ca k
  | _=>pure (.done (some (o.push a++x.extract i x.size++y.extract (j+1) y.size),o.push a,i,j+1,g,ca,cb))
def loA (x y o:Array Keyed) (i j g ca cb:Nat):StateT SortSt Sem LoS:=do
 let a ← elem' y j
 let z ← leap false a x i (x.size-i) 0
 match z with
 | some k =>
  if k > 0 then
   if i+k+1 == x.size then pure (.done (some (o++x.extract i (i+k)++y.extract j y.size++x.extract (i+k) x.size),o++x.extract i (i+k),i+k,j,g,k,cb))
   else if i+k == x.size then pure (.done (some (o++x.extract i (i+k)++x.extract (i+k) x.size++y.extract j y.size),o++x.extract i (i+k),i+k,j,g,k,cb))
   else loB x y (o++x.extract i (i+k)) (i+k) j g k cb
  else loB x y o i j g k cb
 | _=>pure (.done (some (o++x.extract i x.size++y.extract j y.size),o,i,j,g,ca,cb))
def lo1 (x y:Array Keyed) (g:Nat) (o:Array Keyed) (i j ca cb:Nat):StateT SortSt Sem LoS1:=do
 let a ← elem' y j
 let b ← elem' x i
 let z ← lt' a b
 match z with
 | some bw =>
  if bw then do
   let c ← elem' y j
   if j+1 == y.size then pure (.done (some (o.push c++x.extract i x.size++y.extract (j+1) y.size),o.push c,i,j+1,0,cb+1))
   else if cb+1 ≥ g then pure (.done (none,o.push c,i,j+1,0,cb+1))
   else pure (.yield (none,o.push c,i,j+1,0,cb+1))
  else do
   let c ← elem' x i
   if i+1+1 == x.size then pure (.done (some (o.push c++y.extract j y.size++x.extract (i+1) x.size),o.push c,i+1,j,ca+1,0))
   else if ca+1 ≥ g then pure (.done (none,o.push c,i+1,j,ca+1,0))
   else pure (.yield (none,o.push c,i+1,j,ca+1,0))
 | _=>pure (.done (some (o++x.extract i x.size++y.extract j y.size),o,i,j,ca,cb))
def lo3 (x y o:Array Keyed) (i j g ca cb:Nat):StateT SortSt Sem LoS :=
 if g > 1 then (do setG (g-1);loA x y o i j (g-1) ca cb) else (do setG g;loA x y o i j g ca cb)
def lo2b (x y:Array Keyed) (tot:Nat) (o:Array Keyed) (i j g ca cb:Nat):StateT SortSt Sem LoS2:=do
 rule "list.sort.gallop"
 let c ← forIn [:tot] ((none,o,i,j,g+1,ca,cb):Option (Array Keyed) × Array Keyed × Nat × Nat × Nat × Nat × Nat) λ_ c=>lo3 x y c.2.1 c.2.2.1 c.2.2.2.1 c.2.2.2.2.1 c.2.2.2.2.2.1 c.2.2.2.2.2.2
 match c.1 with
 | some r=>pure (.done (some r,c.2.1,c.2.2.1,c.2.2.2.1,c.2.2.2.2.1))
 | none=>do
  setG (c.2.2.2.2.1+1)
  pure (.yield (none,c.2.1,c.2.2.1,c.2.2.2.1,c.2.2.2.2.1+1))
def lo2 (x y:Array Keyed) (tot:Nat) (o:Array Keyed) (i j g:Nat):StateT SortSt Sem LoS2:=do
 let c ← forIn [:tot] ((none,o,i,j,0,0):Option (Array Keyed) × Array Keyed × Nat × Nat × Nat × Nat) λ_ c=>lo1 x y g c.2.1 c.2.2.1 c.2.2.2.1 c.2.2.2.2.1 c.2.2.2.2.2
 match c.1 with
 | some r=>pure (.done (some r,c.2.1,c.2.2.1,c.2.2.2.1,g))
 | none=>lo2b x y tot c.2.1 c.2.2.1 c.2.2.2.1 g c.2.2.2.2.1 c.2.2.2.2.2
theorem mLo_eq (x y:Array Keyed):∃u:StateT SortSt Sem (Array Keyed),mLo x y=(do
 rule "list.sort.merge-lo"
 let a ← elem' y 0
 if 1 == y.size then pure ((#[a]:Array Keyed)++x.extract 0 x.size++y.extract 1 y.size)
 else if 0+1 == x.size then pure ((#[a]:Array Keyed)++y.extract 1 y.size++x.extract 0 x.size)
 else do
  let st ← get
  let c ← forIn [:x.size+y.size] ((none,#[a],0,1,gallopOf st):Option (Array Keyed) × Array Keyed × Nat × Nat × Nat) λ_ c=>lo2 x y (x.size+y.size) c.2.1 c.2.2.1 c.2.2.2.1 c.2.2.2.2
  match c.1 with
  | some r=>pure r
  | none=>u):=by
 obtain ⟨u,e⟩:=mLo_do x y
 refine ⟨u,e.trans ?_⟩
 clear e
 dsimp only [lo2,lo2b,lo3,loA,loB,loC,lo1]
 refine congrArg (bind _) (funext λ_=>?_)
 refine congrArg (bind _) (funext λa=>?_)
 refine congrArg (ite _ _) (congrArg (ite _ _) ?_)
 refine congrArg (bind _) (funext λb=>?_)
 refine congr (congrArg _ ?_) (funext λz=>?_)
 ·refine congrArg _ (funext λ_=>funext λc=>?_)
  refine congr (congrArg _ ?_) (funext λd=>?_)
  ·rfl
  ·match d.1 with
   | some r=>rfl
   | none =>
    refine congrArg (bind _) (funext λ_=>?_)
    refine congr (congrArg _ ?_) (funext λz=>?_)
    ·refine congrArg _ (funext λ_=>funext λc=>?_)
     rfl
    ·match z.1 with
     | some r=>rfl
     | none=>rfl
 ·match z.1 with
  | some r=>rfl
  | none=>rfl
structure LoQ (x y:Array Keyed) (n:Nat) (Q:LoS->Prop):Prop where
 out:∀r c,Out x.toList y.toList r.toList->Q (.done (some r,c))
 brk:∀o i j g ca cb,Mg x.toList y.toList i j o.toList->i+1<x.size->j<y.size->n<=i+j->Q (.done (none,o,i,j,g,ca,cb))
 go:∀o i j g ca cb,Mg x.toList y.toList i j o.toList->i+1<x.size->j<y.size->n<=i+j->Q (.yield (none,o,i,j,g,ca,cb))
theorem Mr.eX (h:Mr x y) {o:Array Keyed} {i j:Nat} (m:Mg x.toList y.toList i j o.toList) (hj:j=y.size):Out x.toList y.toList (o++x.extract i x.size++y.extract j y.size).toList:=by
 have:=m.endX h.ix (by simp;omega)
 rw [Array.toList_append,Array.toList_append,ext_end,ext_end,hj,List.drop_of_length_le (l:=y.toList) (by simp),List.append_nil]
 exact this
theorem Mr.eY (h:Mr x y) {o:Array Keyed} {i j:Nat} (m:Mg x.toList y.toList i j o.toList) (hi:i=x.size):Out x.toList y.toList (o++x.extract i x.size++y.extract j y.size).toList:=by
 have:=m.endY h.iy (by simp;omega)
 rw [Array.toList_append,Array.toList_append,ext_end,ext_end,hi,List.drop_of_length_le (l:=x.toList) (by simp),List.append_nil]
 exact this
theorem Mr.eL (h:Mr x y) {o:Array Keyed} {i j:Nat} (m:Mg x.toList y.toList i j o.toList) (hi:i+1=x.size):Out x.toList y.toList (o++y.extract j y.size++x.extract i x.size).toList:=by
 have:=m.endL h.ix h.iy (by simpa using hi) (by rw [show i=x.size-1 by omega];exact h.lst)
 rw [Array.toList_append,Array.toList_append,ext_end,ext_end]
 exact this
theorem wpS_loC {Q:LoS->SortSt->Prop} {i j n g ca cb:Nat} {o:Array Keyed} (h:Mr x y) (q:LoQ x y n (Q · st)) (n2:i+1<x.size) (n4:j<y.size) (p4:n<=i+j) (m:Mg x.toList y.toList i j o.toList) (cx:∀p∈(x.toList.drop i).take 1,∀q∈y.toList.drop j,nk p<=nk q) :
  wpS (model prog w) A E s (loC x y o i j g ca cb) Q st:=by
 have hi2:i<x.size:=by omega
 refine wpS_bind (wpS_elem (Array.getElem?_eq_getElem hi2) ?_)
 have m5:=m.stepX (k:=1) h.ix cx
 rw [one_drop hi2,← Array.toList_push] at m5
 by_cases q5:i+1+1=x.size
 ·rw [if_pos (by simpa using q5)]
  exact wpS_pure (q.out _ _ (h.eL m5 q5))
 rw [if_neg (by simpa using q5)]
 split
 ·exact wpS_pure (q.brk _ _ _ _ _ _ m5 (by omega) n4 (by omega))
 ·exact wpS_pure (q.go _ _ _ _ _ _ m5 (by omega) n4 (by omega))
theorem wpS_loB {Q:LoS->SortSt->Prop} {i j n g ca cb:Nat} {o:Array Keyed} (hk:kindOf st=kind) (h:Mr x y) (q:LoQ x y n (Q · st)) (n2:i+1<x.size) (b2:j<y.size) (p2:n<=i+j) (mk:Mg x.toList y.toList i j o.toList) (cy:∀p∈(y.toList.drop j).take 1,∀q∈x.toList.drop i,nk p<=nk q) :
  wpS (model prog w) A E s (loB x y o i j g ca cb) Q st:=by
 refine wpS_bind (wpS_elem (Array.getElem?_eq_getElem b2) ?_)
 have m3:=mk.stepY (k:=1) h.iy cy
 rw [one_drop b2,← Array.toList_push] at m3
 by_cases q3:j+1=y.size
 ·rw [if_pos (by simpa using q3)]
  exact wpS_pure (q.out _ _ (h.eX m3 q3))
 rw [if_neg (by simpa using q3)]
 have hi2:i<x.size:=by omega
 refine wpS_bind (wpS_elem (Array.getElem?_eq_getElem hi2) ?_)
 refine wpS_bind (wpS_leap (h.askY hk (h.nx _ (by simp)) (by omega)) (by omega) λk2 hc2=>?_)
 dsimp only
 obtain ⟨d1,d2,d3⟩:=hc2
 have m4:Mg x.toList y.toList i (j+1+k2) (o.push y[j]++y.extract (j+1) (j+1+k2)).toList:=by
  have:=m3.stepY (k:=k2) h.iy (λp hp q hq=>by
   obtain ⟨t,ht,hts,rfl⟩:=mem_take hp
   obtain ⟨v,hv,rfl⟩:=mem_drop hq
   have h1:=d2 t ht
   have h2:=inc_K h.ix (show i<=i+v by omega) hv
   rw [K_nk hi2,K_nk hv] at h2
   unfold pv at h1
   simp only [if_true,decide_eq_true_eq] at h1
   rw [K_nk hts] at h1
   omega)
  rw [Array.toList_append,ext_list];exact this
 have cx:∀p∈(x.toList.drop i).take 1,∀q∈y.toList.drop (j+1+k2),nk p<=nk q:=λp hp q hq=>by
  rw [one_drop hi2] at hp
  rw [List.mem_singleton.mp hp]
  obtain ⟨v,hv,rfl⟩:=mem_drop hq
  have h1:=d3 (k2+v) (by omega) (by omega)
  unfold pv at h1
  simp only [if_true,decide_eq_false_iff_not] at h1
  rw [← Nat.add_assoc,K_nk hv] at h1
  omega
 by_cases k20:k2 > 0
 ·rw [if_pos k20]
  by_cases q4:j+1+k2=y.size
  ·rw [if_pos (by simpa using q4)]
   exact wpS_pure (q.out _ _ (h.eX m4 q4))
  rw [if_neg (by simpa using q4)]
  exact wpS_loC h q n2 (by omega) (by omega) m4 cx
 ·rw [if_neg k20]
  have k00:k2=0:=by omega
  subst k00
  rw [Nat.add_zero] at cx
  exact wpS_loC h q n2 (by omega) (by omega) m3 cx
theorem wpS_loA {Q:LoS->SortSt->Prop} {i j n g ca cb:Nat} {o:Array Keyed} (hk:kindOf st=kind) (h:Mr x y) (q:LoQ x y n (Q · st)) (b1:i+1<x.size) (b2:j<y.size) (b3:n<=i+j) (m:Mg x.toList y.toList i j o.toList) :
  wpS (model prog w) A E s (loA x y o i j g ca cb) Q st:=by
 refine wpS_bind (wpS_elem (Array.getElem?_eq_getElem b2) ?_)
 refine wpS_bind (wpS_leap (h.askX hk (h.ny _ (by simp)) (by omega)) (by omega) λk hc=>?_)
 dsimp only
 obtain ⟨c1,c2,c3⟩:=hc
 have mk:Mg x.toList y.toList (i+k) j (o++x.extract i (i+k)).toList:=by
  have:=m.stepX (k:=k) h.ix (λp hp q hq=>by
   obtain ⟨t,ht,hts,rfl⟩:=mem_take hp
   obtain ⟨v,hv,rfl⟩:=mem_drop hq
   have h1:=c2 t ht
   have h2:=inc_K h.iy (show j<=j+v by omega) hv
   rw [K_nk b2,K_nk hv] at h2
   unfold pv at h1
   simp only [Bool.false_eq_true,if_false,Bool.not_eq_true',decide_eq_false_iff_not] at h1
   rw [K_nk hts] at h1
   omega)
  rw [Array.toList_append,ext_list];exact this
 have cy:∀p∈(y.toList.drop j).take 1,∀q∈x.toList.drop (i+k),nk p<=nk q:=λp hp q hq=>by
  rw [one_drop b2] at hp
  rw [List.mem_singleton.mp hp]
  obtain ⟨v,hv,rfl⟩:=mem_drop hq
  have h1:=c3 (k+v) (by omega) (by omega)
  unfold pv at h1
  simp only [Bool.false_eq_true,if_false,Bool.not_eq_false',decide_eq_true_eq] at h1
  rw [← Nat.add_assoc,K_nk hv] at h1
  omega
 by_cases k0:k > 0
 ·rw [if_pos k0]
  by_cases q1:i+k+1=x.size
  ·rw [if_pos (by simpa using q1)]
   exact wpS_pure (q.out _ _ (h.eL mk q1))
  rw [if_neg (by simpa using q1)]
  by_cases q2:i+k=x.size
  ·rw [if_pos (by simpa using q2)]
   exact wpS_pure (q.out _ _ (h.eY mk q2))
  rw [if_neg (by simpa using q2)]
  exact wpS_loB hk h q (by omega) b2 (by omega) mk cy
 ·rw [if_neg k0]
  have k00:k=0:=by omega
  subst k00
  rw [Nat.add_zero] at cy
  exact wpS_loB hk h q b1 b2 b3 m cy
theorem wpS_lo1 {Q:LoS1->SortSt->Prop} {i j g ca cb:Nat} {o:Array Keyed} (hk:kindOf st=kind) (h:Mr x y) (m:Mg x.toList y.toList i j o.toList) (b1:i+1<x.size) (b2:j<y.size) (qo:∀r c,Out x.toList y.toList r.toList->Q (.done (some r,c)) st)
  (qn:∀o' i' j' ca cb,Mg x.toList y.toList i' j' o'.toList->i'+1<x.size->j' < y.size->i+j+1<=i'+j'->Q (.done (none,o',i',j',ca,cb)) st/\Q (.yield (none,o',i',j',ca,cb)) st):wpS (model prog w) A E s (lo1 x y g o i j ca cb) Q st:=by
 have hi:i<x.size:=by omega
 refine wpS_bind (wpS_elem (Array.getElem?_eq_getElem b2) (wpS_bind (wpS_elem (Array.getElem?_eq_getElem hi) (wpS_bind (wpS_lt2 hk (h.ny _ (by simp)) (h.nx _ (by simp)) ?_)))))
 dsimp only
 by_cases hw:nk y[j] < nk x[i]
 ·simp only [hw,decide_true,if_true]
  refine wpS_bind (wpS_elem (Array.getElem?_eq_getElem b2) ?_)
  have m2:Mg x.toList y.toList i (j+1) (o.push y[j]).toList:=by
   have:=m.stepY (k:=1) h.iy (λp hp q hq=>by
    rw [one_drop b2] at hp
    rw [List.mem_singleton.mp hp]
    obtain ⟨t,ht,rfl⟩:=mem_drop hq
    have:=inc_K h.ix (show i<=i+t by omega) ht
    rw [K_nk (by omega),K_nk ht] at this
    omega)
   rw [one_drop b2] at this
   rw [Array.toList_push];exact this
  by_cases q1:j+1=y.size
  ·rw [if_pos (by simpa using q1)]
   exact wpS_pure (qo _ _ (h.eX m2 q1))
  ·rw [if_neg (by simpa using q1)]
   have z:=λca cb=>qn _ _ _ ca cb m2 b1 (by omega) (by omega)
   split
   ·exact wpS_pure (z _ _).1
   ·exact wpS_pure (z _ _).2
 ·simp only [hw,decide_false,Bool.false_eq_true,if_false]
  refine wpS_bind (wpS_elem (Array.getElem?_eq_getElem hi) ?_)
  have m2:Mg x.toList y.toList (i+1) j (o.push x[i]).toList:=by
   have:=m.stepX (k:=1) h.ix (λp hp q hq=>by
    rw [one_drop hi] at hp
    rw [List.mem_singleton.mp hp]
    obtain ⟨t,ht,rfl⟩:=mem_drop hq
    have:=inc_K h.iy (show j<=j+t by omega) ht
    rw [K_nk (by omega),K_nk ht] at this
    omega)
   rw [one_drop hi] at this
   rw [Array.toList_push];exact this
  by_cases q1:i+1+1=x.size
  ·rw [if_pos (by simpa using q1)]
   exact wpS_pure (qo _ _ (h.eL m2 q1))
  ·rw [if_neg (by simpa using q1)]
   have z:=λca cb=>qn _ _ _ ca cb m2 (by omega) b2 (by omega)
   split
   ·exact wpS_pure (z _ _).1
   ·exact wpS_pure (z _ _).2
theorem wpS_lo2b {Q:LoS2->SortSt->Prop} {tot i j g ca cb n:Nat} {o:Array Keyed} (hk:kindOf st=kind) (h:Mr x y) (m:Mg x.toList y.toList i j o.toList) (b1:i+1<x.size) (b2:j<y.size) (b3:n<=i+j) (qo:∀r c st',Keep st st'->Out x.toList y.toList r.toList->Q (.done (some r,c)) st')
  (qn:∀o' i' j' g' st',Keep st st'->Mg x.toList y.toList i' j' o'.toList->i'+1<x.size->j' < y.size->n<=i'+j'->Q (.yield (none,o',i',j',g')) st'):wpS (model prog w) A E s (lo2b x y tot o i j g ca cb) Q st:=by
 refine wpS_bind (wpS_lift (wpAny_rule ⟨rfl,?_⟩))
 refine wpS_bind (wpS_mono (wpS_forRange (I:=λt3 c st3=>Keep st st3/\∃o i' j' g ca cb,c=(none,o,i',j',g,ca,cb)/\Mg x.toList y.toList i' j' o.toList/\i'+1<x.size/\j' < y.size/\n<=i'+j')
  (Q:=λc st3=>Keep st st3/\((∃r c2,c=(some r,c2)/\Out x.toList y.toList r.toList)\/∃o i' j' g ca cb,c=(none,o,i',j',g,ca,cb)/\Mg x.toList y.toList i' j' o.toList/\i'+1<x.size/\j' < y.size/\n<=i'+j')) ?step2 ?fin2 ⟨Keep.refl st,_,_,_,_,_,_,rfl,m,b1,b2,b3⟩) ?post2)
 case fin2 =>
  rintro c st3 ⟨kp3,o,i',j',g,ca,cb,rfl,m,b⟩
  exact ⟨kp3,.inr ⟨o,i',j',g,ca,cb,rfl,m,b⟩⟩
 case post2 =>
  rintro c st3 ⟨kp3,⟨r,c2,rfl,ho⟩ | ⟨o,i',j',g,ca,cb,rfl,m,b1,b2,b3⟩⟩
  ·exact wpS_pure (qo _ _ _ kp3 ho)
  ·exact wpS_bind (wpS_setG λst4 kp4=>wpS_pure (qn _ _ _ _ _ (kp3.trans kp4) m b1 b2 b3))
 case step2 =>
  rintro t3 c st3 _ ht3 ⟨kp3,o,i',j',g,ca,cb,rfl,m,b1,b2,b3⟩
  show wpS (model prog w) A E s (lo3 x y o i' j' g ca cb) _ st3
  unfold lo3
  by_cases hg:g > 1
  ·rw [if_pos hg]
   exact wpS_bind (wpS_setG λst4 kp4=>wpS_loA (n:=n) ((kp3.trans kp4).k.trans hk) h ⟨λr c ho=>⟨kp3.trans kp4,.inl ⟨_,_,rfl,ho⟩⟩,λo i j g ca cb m h1 h2 h3=>⟨kp3.trans kp4,.inr ⟨_,_,_,_,_,_,rfl,m,h1,h2,h3⟩⟩,λo i j g ca cb m h1 h2 h3=>⟨kp3.trans kp4,_,_,_,_,_,_,rfl,m,h1,h2,h3⟩⟩ b1 b2 b3 m)
  ·rw [if_neg hg]
   exact wpS_bind (wpS_setG λst4 kp4=>wpS_loA (n:=n) ((kp3.trans kp4).k.trans hk) h ⟨λr c ho=>⟨kp3.trans kp4,.inl ⟨_,_,rfl,ho⟩⟩,λo i j g ca cb m h1 h2 h3=>⟨kp3.trans kp4,.inr ⟨_,_,_,_,_,_,rfl,m,h1,h2,h3⟩⟩,λo i j g ca cb m h1 h2 h3=>⟨kp3.trans kp4,_,_,_,_,_,_,rfl,m,h1,h2,h3⟩⟩ b1 b2 b3 m)
theorem wpS_lo2 {Q:LoS2->SortSt->Prop} {tot i j g:Nat} {o:Array Keyed} (htot:1<=tot) (hk:kindOf st=kind) (h:Mr x y) (m:Mg x.toList y.toList i j o.toList) (a1:i+1<x.size) (a2:j<y.size) (qo:∀r c st',Keep st st'->Out x.toList y.toList r.toList->Q (.done (some r,c)) st')
  (qn:∀o' i' j' g' st',Keep st st'->Mg x.toList y.toList i' j' o'.toList->i'+1<x.size->j' < y.size->i+j+1<=i'+j'->Q (.yield (none,o',i',j',g')) st'):wpS (model prog w) A E s (lo2 x y tot o i j g) Q st:=by
 refine wpS_bind (wpS_mono (wpS_forRange (I:=λt2 c st2=>st2=st/\∃o i' j' ca cb,c=(none,o,i',j',ca,cb)/\Mg x.toList y.toList i' j' o.toList/\i'+1<x.size/\j' < y.size/\i+j+t2<=i'+j')
  (Q:=λc st2=>st2=st/\((∃r c2,c=(some r,c2)/\Out x.toList y.toList r.toList)\/∃o i' j' ca cb,c=(none,o,i',j',ca,cb)/\Mg x.toList y.toList i' j' o.toList/\i'+1<x.size/\j' < y.size/\i+j+1<=i'+j')) ?step1 ?fin1 ⟨rfl,_,_,_,_,_,rfl,m,a1,a2,by omega⟩) ?post1)
 case fin1 =>
  rintro c st2 ⟨rfl,o,i',j',ca,cb,rfl,m,b1,b2,b3⟩
  exact ⟨rfl,.inr ⟨o,i',j',ca,cb,rfl,m,b1,b2,by omega⟩⟩
 case step1 =>
  rintro t2 c st2 _ ht2 ⟨rfl,o,i',j',ca,cb,rfl,m,b1,b2,b3⟩
  show wpS (model prog w) A E s (lo1 x y g o i' j' ca cb) _ _
  refine wpS_lo1 hk h m b1 b2 (λr c ho=>⟨rfl,.inl ⟨_,_,rfl,ho⟩⟩) λo2 i2 j2 ca cb m2 c1 c2 c3=>⟨⟨rfl,.inr ⟨_,_,_,_,_,rfl,m2,c1,c2,by omega⟩⟩,rfl,_,_,_,_,_,rfl,m2,c1,c2,by omega⟩
 case post1 =>
  rintro c st2 ⟨rfl,⟨r,c2,rfl,ho⟩ | ⟨o,i',j',ca,cb,rfl,m,b1,b2,b3⟩⟩
  ·exact wpS_pure (qo _ _ _ (Keep.refl _) ho)
  ·exact wpS_lo2b hk h m b1 b2 b3 qo qn
theorem wpS_mLo {Q:Array Keyed->SortSt->Prop} (hk:kindOf st=kind) (h:Mr x y) (hQ:∀o st',Keep st st'->Out x.toList y.toList o.toList->Q o st'):wpS (model prog w) A E s (mLo x y) Q st:=by
 obtain ⟨u,e⟩:=mLo_eq x y
 rw [e]
 refine wpS_bind (wpS_lift (wpAny_rule ⟨rfl,?_⟩))
 have hx0:=h.x0
 have hy0:=h.y0
 refine wpS_bind (wpS_elem (Array.getElem?_eq_getElem hy0) ?_)
 have M1:Mg x.toList y.toList 0 1 [y[0]]:=by
  have:=Mg.start.stepY (X:=x.toList) (k:=1) h.iy (λp hp q hq=>h.fst p hp q hq)
  rw [one_drop hy0] at this
  exact this
 by_cases h1:1=y.size
 ·rw [if_pos (by simpa using h1)]
  exact wpS_pure (hQ _ _ (Keep.refl st) (h.eX M1 h1))
 rw [if_neg (by simpa using h1)]
 by_cases h2:0+1=x.size
 ·rw [if_pos (by simpa using h2)]
  exact wpS_pure (hQ _ _ (Keep.refl st) (h.eL M1 h2))
 rw [if_neg (by simpa using h2)]
 refine wpS_bind (wpS_get ?_)
 refine wpS_bind (wpS_mono (wpS_forRange (I:=λt c st'=>Keep st st'/\∃o i j g,c=(none,o,i,j,g)/\Mg x.toList y.toList i j o.toList/\i+1<x.size/\j<y.size/\t+1<=i+j)
  (Q:=λc st'=>Keep st st'/\∃r,c.1=some r/\Out x.toList y.toList r.toList) ?step ?fin ⟨Keep.refl st,_,_,_,_,rfl,M1,by omega,by omega,by omega⟩) ?post)
 case fin =>
  rintro c st' ⟨_,o,i,j,g,rfl,_,a1,a2,a3⟩
  omega
 case post =>
  rintro ⟨c1,c2⟩ st' ⟨kp,r,e,ho⟩
  cases e
  exact wpS_pure (hQ r st' kp ho)
 case step =>
  rintro t c st' _ ht ⟨kp,o,i,j,g,rfl,m,a1,a2,a3⟩
  show wpS (model prog w) A E s (lo2 x y (x.size+y.size) o i j g) _ _
  exact wpS_lo2 (by omega) (kp.k.trans hk) h m a1 a2 (λr c st2 kp2 ho=>⟨kp.trans kp2,_,rfl,ho⟩) λo2 i2 j2 g2 st2 kp2 m2 c1 c2 c3=>⟨kp.trans kp2,_,_,_,_,rfl,m2,c1,c2,by omega⟩
end
end Srt
namespace Srt
open PySem PyProof.Rows
open KN (nk isN kind)
variable [KN]
def mHi:Array Keyed->Array Keyed->StateT SortSt Sem (Array Keyed):=sortPriv% PySem.Builtin.mergeHi
theorem mHi_do (x y:Array Keyed):∃u:StateT SortSt Sem (Array Keyed),mHi x y=(do
 rule "list.sort.merge-hi"
 let tot:=x.size+y.size
 let fin (o:Array Keyed) (i j:Nat):=x.extract 0 i++y.extract 0 j++o.reverse
 let frs (o:Array Keyed) (i j:Nat):=y.extract 0 j++x.extract 0 i++o.reverse
 let mut i:=x.size-1
 let mut j:=y.size
 let mut o:Array Keyed:=#[← elem' x i]
 if i == 0 then return fin o i j
 if j == 1 then return frs o i j
 let mut g:=gallopOf (← get)
 for _ in [0:tot] do
  let mut ca:=0
  let mut cb:=0
  for _ in [0:tot] do
   let some aw ← lt' (← elem' y (j-1)) (← elem' x (i-1)) | return fin o i j
   if aw then
    i:=i-1;o:=o.push (← elem' x i);ca:=ca+1;cb:=0
    if i == 0 then return fin o i j
    if ca ≥ g then break
   else
    j:=j-1;o:=o.push (← elem' y j);cb:=cb+1;ca:=0
    if j == 1 then return frs o i j
    if cb ≥ g then break
  rule "list.sort.gallop"
  g:=g+1
  for _ in [0:tot] do
   if g > 1 then g:=g-1
   setG g
   let some v ← leap false (← elem' y (j-1)) x 0 i (i-1) | return fin o i j
   let k:=i-v
   ca:=k
   if k > 0 then
    o:=o++(x.extract v i).reverse;i:=v
    if i == 0 then return fin o i j
   j:=j-1;o:=o.push (← elem' y j)
   if j == 1 then return frs o i j
   let some v ← leap true (← elem' x (i-1)) y 0 j (j-1) | return fin o i j
   let k:=j-v
   cb:=k
   if k > 0 then
    o:=o++(y.extract v j).reverse;j:=v
    if j == 1 then return frs o i j
    if j == 0 then return fin o i j
   i:=i-1;o:=o.push (← elem' x i)
   if i == 0 then return fin o i j
   if ca<7 && cb<7 then break
  g:=g+1
  setG g
 u):=⟨_,rfl⟩
structure Mh (X Y:List Keyed) (i j:Nat) (R:List Keyed):Prop where
 perm:R.Perm (X.drop i++Y.drop j)
 inc:Inc R
 le:∀p,(p∈X.take i\/p∈Y.take j)->∀q∈R,nk p<=nk q
theorem drop_cut {X:List Keyed} {i v:Nat} (h:v<=i):X.drop v=(X.take i).drop v++X.drop i:=by
 rw [List.drop_take]
 have:X.drop i=(X.drop v).drop (i-v):=by rw [List.drop_drop];congr 1;omega
 rw [this,List.take_append_drop]
theorem take_mem {X:List Keyed} {i v:Nat} (h:v<=i) {p:Keyed} (hp:p∈X.take v):p∈X.take i:=by
 have:X.take v=(X.take i).take v:=by rw [List.take_take];congr 1;omega
 rw [this] at hp
 exact List.mem_of_mem_take hp
theorem take_cut {X:List Keyed} (hX:Inc X) {i v:Nat} (h:v<=i):∀p∈X.take v,∀q∈(X.take i).drop v,nk p<=nk q:=λp hp q hq=>by
 have e:X.take v=(X.take i).take v:=by rw [List.take_take];congr 1;omega
 rw [e] at hp
 exact (hX.take i).split v p hp q hq
theorem Mh.stepX {X Y R:List Keyed} {i j v:Nat} (h:Mh X Y i j R) (hX:Inc X) (hv:v<=i) (hc:∀p∈Y.take j,∀q∈(X.take i).drop v,nk p<=nk q):Mh X Y v j ((X.take i).drop v++R):=by
 refine ⟨?_,?_,λp hp q hq=>?_⟩
 ·rw [drop_cut (X:=X) hv,List.append_assoc]
  exact List.Perm.append_left _ h.perm
 ·exact List.pairwise_append.mpr ⟨(hX.take i).drop v,h.inc,λp hp q hq=>h.le p (.inl (List.mem_of_mem_drop hp)) q hq⟩
 ·rcases List.mem_append.mp hq with hq | hq
  ·rcases hp with hp | hp
   ·exact take_cut hX hv p hp q hq
   ·exact hc p hp q hq
  ·rcases hp with hp | hp
   ·exact h.le p (.inl (take_mem hv hp)) q hq
   ·exact h.le p (.inr hp) q hq
theorem Mh.stepY {X Y R:List Keyed} {i j v:Nat} (h:Mh X Y i j R) (hY:Inc Y) (hv:v<=j) (hc:∀p∈X.take i,∀q∈(Y.take j).drop v,nk p<=nk q):Mh X Y i v ((Y.take j).drop v++R):=by
 refine ⟨?_,?_,λp hp q hq=>?_⟩
 ·rw [drop_cut (X:=Y) hv]
  refine (List.Perm.append_left _ h.perm).trans ?_
  rw [← List.append_assoc,← List.append_assoc]
  exact List.Perm.append_right _ List.perm_append_comm
 ·exact List.pairwise_append.mpr ⟨(hY.take j).drop v,h.inc,λp hp q hq=>h.le p (.inr (List.mem_of_mem_drop hp)) q hq⟩
 ·rcases List.mem_append.mp hq with hq | hq
  ·rcases hp with hp | hp
   ·exact hc p hp q hq
   ·exact take_cut hY hv p hp q hq
  ·rcases hp with hp | hp
   ·exact h.le p (.inl hp) q hq
   ·exact h.le p (.inr (take_mem hv hp)) q hq
theorem Mh.end0 {X Y R:List Keyed} {i j:Nat} (h:Mh X Y i j R) (hX:Inc X) (hY:Inc Y) (hc:∀p∈X.take i,∀q∈Y.take j,nk p<=nk q):Out X Y (X.take i++Y.take j++R):=by
 refine ⟨?_,List.pairwise_append.mpr ⟨List.pairwise_append.mpr ⟨hX.take i,hY.take j,hc⟩,h.inc,λp hp q hq=>h.le p (List.mem_append.mp hp) q hq⟩⟩
 refine (List.Perm.append_left _ h.perm).trans ?_
 have e:X++Y=X.take i++X.drop i++(Y.take j++Y.drop j):=by rw [List.take_append_drop,List.take_append_drop]
 rw [e,List.append_assoc,List.append_assoc]
 refine List.Perm.append_left _ ?_
 rw [← List.append_assoc,← List.append_assoc]
 exact List.Perm.append_right _ List.perm_append_comm
theorem Mh.end1 {X Y R:List Keyed} {i j:Nat} (h:Mh X Y i j R) (hX:Inc X) (hY:Inc Y) (hc:∀p∈Y.take j,∀q∈X.take i,nk p<=nk q):Out X Y (Y.take j++X.take i++R):=by
 refine ⟨?_,List.pairwise_append.mpr ⟨List.pairwise_append.mpr ⟨hY.take j,hX.take i,hc⟩,h.inc,λp hp q hq=>h.le p ((List.mem_append.mp hp).symm) q hq⟩⟩
 refine (List.Perm.append_left _ h.perm).trans ?_
 have e:X++Y=X.take i++X.drop i++(Y.take j++Y.drop j):=by rw [List.take_append_drop,List.take_append_drop]
 rw [e]
 have e2:Y.take j++X.take i++(X.drop i++Y.drop j)=Y.take j++(X.take i++X.drop i)++Y.drop j:=by simp only [List.append_assoc]
 rw [e2,← List.append_assoc (X.take i++X.drop i)]
 exact List.Perm.append_right _ List.perm_append_comm
theorem one_last {x:Array Keyed} {i:Nat} (h0:0<i) (h:i<=x.size):(x.toList.take i).drop (i-1)=[x[i-1]'(by omega)]:=by
 rw [List.drop_take,show i-(i-1)=1 by omega]
 exact one_drop (by omega)
theorem ext_0 (x:Array Keyed) (i:Nat):(x.extract 0 i).toList=x.toList.take i:=by simp
theorem ext_vi (x:Array Keyed) (v i:Nat):(x.extract v i).toList=(x.toList.take i).drop v:=by
 rw [Array.toList_extract,List.extract_eq_take_drop,List.drop_take]
theorem mem_tk {x:Array Keyed} {i:Nat} {q:Keyed} (h:q∈x.toList.take i):∃t,t<i/\∃(h:t<x.size),q=x[t]:=by
 obtain ⟨t,ht,e⟩:=List.getElem_of_mem h
 rw [List.length_take,Array.length_toList] at ht
 exact ⟨t,by omega,by omega,by rw [← e,List.getElem_take];simp⟩
theorem mem_td {x:Array Keyed} {v i:Nat} {q:Keyed} (h:q∈(x.toList.take i).drop v):∃t,v<=t/\t<i/\∃(h:t<x.size),q=x[t]:=by
 obtain ⟨t,ht,e⟩:=List.getElem_of_mem h
 rw [List.length_drop,List.length_take,Array.length_toList] at ht
 exact ⟨v+t,by omega,by omega,by omega,by rw [← e,List.getElem_drop,List.getElem_take];simp⟩
section
variable {prog:Program} {w:World} {A:Around} {E:Value->Shared->Prop} {s:Shared} [KL prog w A E s] {st:SortSt} {x y:Array Keyed}
theorem Mr.ask0X (h:Mr x y) (hk:kindOf st=kind) {key:Keyed} (hy:isN key) {i:Nat} (hi:i<=x.size):Ask st key x 0 i :=
 ⟨hk,h.nx,hy,λa b hab hb=>inc_K h.ix (by omega) (by omega),by omega⟩
theorem Mr.ask0Y (h:Mr x y) (hk:kindOf st=kind) {key:Keyed} (hy:isN key) {i:Nat} (hi:i<=y.size):Ask st key y 0 i :=
 ⟨hk,h.ny,hy,λa b hab hb=>inc_K h.iy (by omega) (by omega),by omega⟩
abbrev HiS:=ForInStep (Option (Array Keyed) × Nat × Nat × Array Keyed × Nat × Nat × Nat)
def hiC (x y:Array Keyed) (i j:Nat) (o:Array Keyed) (g ca cb:Nat):StateT SortSt Sem HiS:=do
 let a ← elem' x (i-1)
 if i-1 == 0 then pure (.done (some (x.extract 0 (i-1)++y.extract 0 j++(o.push a).reverse),i-1,j,o.push a,g,ca,cb))
 else if ca<7 && cb<7 then pure (.done (none,i-1,j,o.push a,g,ca,cb))
 else pure (.yield (none,i-1,j,o.push a,g,ca,cb))
def hiB (x y:Array Keyed) (i j:Nat) (o:Array Keyed) (g ca cb:Nat):StateT SortSt Sem HiS:=do
 let a ← elem' y (j-1)
 if j-1 == 1 then pure (.done (some (y.extract 0 (j-1)++x.extract 0 i++(o.push a).reverse),i,j-1,o.push a,g,ca,cb))
 else do
  let b ← elem' x (i-1)
  let z ← leap true b y 0 (j-1) (j-1-1)
  match z with
  | some v =>
   if j-1-v > 0 then
    if v == 1 then pure (.done (some (y.extract 0 v++x.extract 0 i++(o.push a++(y.extract v (j-1)).reverse).reverse),i,v,o.push a++(y.extract v (j-1)).reverse,g,ca,j-1-v))
    else if v == 0 then pure (.done (some (x.extract 0 i++y.extract 0 v++(o.push a++(y.extract v (j-1)).reverse).reverse),i,v,o.push a++(y.extract v (j-1)).reverse,g,ca,j-1-v))
    else hiC x y i v (o.push a++(y.extract v (j-1)).reverse) g ca (j-1-v)
   else hiC x y i (j-1) (o.push a) g ca (j-1-v)
  | _=>pure (.done (some (x.extract 0 i++y.extract 0 (j-1)++(o.push a).reverse),i,j-1,o.push a,g,ca,cb))
def hiA (x y:Array Keyed) (i j:Nat) (o:Array Keyed) (g ca cb:Nat):StateT SortSt Sem HiS:=do
 let a ← elem' y (j-1)
 let z ← leap false a x 0 i (i-1)
 match z with
 | some v =>
  if i-v > 0 then
   if v == 0 then pure (.done (some (x.extract 0 v++y.extract 0 j++(o++(x.extract v i).reverse).reverse),v,j,o++(x.extract v i).reverse,g,i-v,cb))
   else hiB x y v j (o++(x.extract v i).reverse) g (i-v) cb
  else hiB x y i j o g (i-v) cb
 | _=>pure (.done (some (x.extract 0 i++y.extract 0 j++o.reverse),i,j,o,g,ca,cb))
structure HiQ (x y:Array Keyed) (n:Nat) (Q:HiS->Prop):Prop where
 out:∀r c,Out x.toList y.toList r.toList->Q (.done (some r,c))
 brk:∀i j o g ca cb,Mh x.toList y.toList i j o.toList.reverse->0<i->1<j->i<=x.size->j<=y.size->i+j+1<=n->Q (.done (none,i,j,o,g,ca,cb))
 go:∀i j o g ca cb,Mh x.toList y.toList i j o.toList.reverse->0<i->1<j->i<=x.size->j<=y.size->i+j+1<=n->Q (.yield (none,i,j,o,g,ca,cb))
theorem Mr.e0 (h:Mr x y) {o:Array Keyed} {i j:Nat} (m:Mh x.toList y.toList i j o.toList.reverse) (hi:i=0\/j=0):Out x.toList y.toList (x.extract 0 i++y.extract 0 j++o.reverse).toList:=by
 have:=m.end0 h.ix h.iy (λp hp q hq=>by
  rcases hi with rfl | rfl
  ·cases hp
  ·cases hq)
 rw [Array.toList_append,Array.toList_append,ext_0,ext_0,Array.toList_reverse]
 exact this
theorem Mr.e1 (h:Mr x y) {o:Array Keyed} {i j:Nat} (m:Mh x.toList y.toList i j o.toList.reverse) (hj:j=1):Out x.toList y.toList (y.extract 0 j++x.extract 0 i++o.reverse).toList:=by
 have:=m.end1 h.ix h.iy (λp hp q hq=>by
  subst hj
  exact h.fst p hp q (List.mem_of_mem_take hq))
 rw [Array.toList_append,Array.toList_append,ext_0,ext_0,Array.toList_reverse]
 exact this
theorem Mr.pushX (h:Mr x y) {o:Array Keyed} {i j:Nat} (hi:0<i) (hi2:i<=x.size) (m:Mh x.toList y.toList i j o.toList.reverse) (hc:∀p∈y.toList.take j,nk p<=nk (x[i-1]'(by omega))):Mh x.toList y.toList (i-1) j (o.push (x[i-1]'(by omega))).toList.reverse:=by
 have:=m.stepX h.ix (v:=i-1) (by omega) (λp hp q hq=>by
  rw [one_last hi hi2] at hq
  rw [List.mem_singleton.mp hq];exact hc p hp)
 rw [one_last hi hi2] at this
 rw [Array.toList_push,List.reverse_append];exact this
theorem Mr.pushY (h:Mr x y) {o:Array Keyed} {i j:Nat} (hi:0<j) (hi2:j<=y.size) (m:Mh x.toList y.toList i j o.toList.reverse) (hc:∀p∈x.toList.take i,nk p<=nk (y[j-1]'(by omega))):Mh x.toList y.toList i (j-1) (o.push (y[j-1]'(by omega))).toList.reverse:=by
 have:=m.stepY h.iy (v:=j-1) (by omega) (λp hp q hq=>by
  rw [one_last hi hi2] at hq
  rw [List.mem_singleton.mp hq];exact hc p hp)
 rw [one_last hi hi2] at this
 rw [Array.toList_push,List.reverse_append];exact this
theorem topA {x:Array Keyed} (h:Inc x.toList) {i:Nat} (hi:0<i) (hi2:i<=x.size):∀p∈x.toList.take i,nk p<=nk (x[i-1]'(by omega)):=λp hp=>by
 obtain ⟨t,ht,hts,rfl⟩:=mem_tk hp
 have:=inc_K h (show t<=i-1 by omega) (by omega)
 rw [K_nk hts,K_nk (by omega)] at this
 exact this
theorem wpS_hiC {Q:HiS->SortSt->Prop} {i j n g ca cb:Nat} {o:Array Keyed} (h:Mr x y) (q:HiQ x y n (Q · st)) (n2:0<i) (n3:i<=x.size) (n4:1<j) (n5:j<=y.size) (p4:i+j+1<=n) (m:Mh x.toList y.toList i j o.toList.reverse) (cx:∀p∈y.toList.take j,nk p<=nk (x[i-1]'(by omega))) :
  wpS (model prog w) A E s (hiC x y i j o g ca cb) Q st:=by
 refine wpS_bind (wpS_elem (Array.getElem?_eq_getElem (show i-1<x.size by omega)) ?_)
 have m5:=h.pushX n2 n3 m cx
 by_cases q5:i-1=0
 ·rw [if_pos (by simpa using q5)]
  exact wpS_pure (q.out _ _ (h.e0 m5 (.inl q5)))
 rw [if_neg (by simpa using q5)]
 split
 ·exact wpS_pure (q.brk _ _ _ _ _ _ m5 (by omega) n4 (by omega) n5 (by omega))
 ·exact wpS_pure (q.go _ _ _ _ _ _ m5 (by omega) n4 (by omega) n5 (by omega))
theorem wpS_hiB {Q:HiS->SortSt->Prop} {i j n g ca cb:Nat} {o:Array Keyed} (hk:kindOf st=kind) (h:Mr x y) (q:HiQ x y n (Q · st)) (n2:0<i) (n3:i<=x.size) (b2:1<j) (b4:j<=y.size) (p2:i+j+1<=n) (mk:Mh x.toList y.toList i j o.toList.reverse) (cy:∀p∈x.toList.take i,nk p<=nk (y[j-1]'(by omega))) :
  wpS (model prog w) A E s (hiB x y i j o g ca cb) Q st:=by
 refine wpS_bind (wpS_elem (Array.getElem?_eq_getElem (show j-1<y.size by omega)) ?_)
 have m3:=h.pushY (by omega) b4 mk cy
 by_cases q3:j-1=1
 ·rw [if_pos (by simpa using q3)]
  exact wpS_pure (q.out _ _ (h.e1 m3 q3))
 rw [if_neg (by simpa using q3)]
 have hi1:i-1<x.size:=by omega
 refine wpS_bind (wpS_elem (Array.getElem?_eq_getElem hi1) ?_)
 refine wpS_bind (wpS_leap (h.ask0Y hk (h.nx _ (by simp)) (show j-1<=y.size by omega)) (by omega) λv2 hc2=>?_)
 dsimp only
 obtain ⟨d1,d2,d3⟩:=hc2
 have m4:Mh x.toList y.toList i v2 (o.push y[j-1]++(y.extract v2 (j-1)).reverse).toList.reverse:=by
  have:=m3.stepY h.iy (v:=v2) d1 (λp hp q hq=>by
   obtain ⟨t,ht1,ht2,hts,rfl⟩:=mem_td hq
   have h1:=d3 t ht1 ht2
   have h2:=topA h.ix n2 n3 p hp
   unfold pv at h1
   simp only [if_true,decide_eq_false_iff_not,Nat.zero_add] at h1
   rw [K_nk hts] at h1
   omega)
  rw [Array.toList_append,List.reverse_append,Array.toList_reverse,List.reverse_reverse,ext_vi];exact this
 have cx:∀p∈y.toList.take v2,nk p<=nk (x[i-1]):=λp hp=>by
  obtain ⟨t,ht,hts,rfl⟩:=mem_tk hp
  have h1:=d2 t ht
  unfold pv at h1
  simp only [if_true,decide_eq_true_eq,Nat.zero_add] at h1
  rw [K_nk hts] at h1
  omega
 by_cases k20:j-1-v2 > 0
 ·rw [if_pos k20]
  by_cases q4:v2=1
  ·rw [if_pos (by simpa using q4)]
   exact wpS_pure (q.out _ _ (h.e1 m4 q4))
  rw [if_neg (by simpa using q4)]
  by_cases q6:v2=0
  ·rw [if_pos (by simpa using q6)]
   exact wpS_pure (q.out _ _ (h.e0 m4 (.inr q6)))
  rw [if_neg (by simpa using q6)]
  exact wpS_hiC h q n2 n3 (by omega) (by omega) (by omega) m4 cx
 ·rw [if_neg k20]
  have k00:v2=j-1:=by omega
  subst k00
  exact wpS_hiC h q n2 n3 (by omega) (by omega) (by omega) m3 cx
theorem wpS_hiA {Q:HiS->SortSt->Prop} {i j n g ca cb:Nat} {o:Array Keyed} (hk:kindOf st=kind) (h:Mr x y) (q:HiQ x y n (Q · st)) (b1:0<i) (b2:1<j) (b3:i<=x.size) (b4:j<=y.size) (b5:i+j+1<=n) (m:Mh x.toList y.toList i j o.toList.reverse) :
  wpS (model prog w) A E s (hiA x y i j o g ca cb) Q st:=by
 refine wpS_bind (wpS_elem (Array.getElem?_eq_getElem (show j-1<y.size by omega)) ?_)
 refine wpS_bind (wpS_leap (h.ask0X hk (h.ny _ (by simp)) b3) (by omega) λv hc=>?_)
 dsimp only
 obtain ⟨c1,c2,c3⟩:=hc
 have mk:Mh x.toList y.toList v j (o++(x.extract v i).reverse).toList.reverse:=by
  have:=m.stepX h.ix (v:=v) c1 (λp hp q hq=>by
   obtain ⟨t,ht1,ht2,hts,rfl⟩:=mem_td hq
   have h1:=c3 t ht1 ht2
   have h2:=topA h.iy (by omega) b4 p hp
   unfold pv at h1
   simp only [Bool.false_eq_true,if_false,Bool.not_eq_false',decide_eq_true_eq,Nat.zero_add] at h1
   rw [K_nk hts] at h1
   omega)
  rw [Array.toList_append,List.reverse_append,Array.toList_reverse,List.reverse_reverse,ext_vi];exact this
 have cy:∀p∈x.toList.take v,nk p<=nk (y[j-1]):=λp hp=>by
  obtain ⟨t,ht,hts,rfl⟩:=mem_tk hp
  have h1:=c2 t ht
  unfold pv at h1
  simp only [Bool.false_eq_true,if_false,Bool.not_eq_true',decide_eq_false_iff_not,Nat.zero_add] at h1
  rw [K_nk hts] at h1
  omega
 by_cases k0:i-v > 0
 ·rw [if_pos k0]
  by_cases q1:v=0
  ·rw [if_pos (by simpa using q1)]
   exact wpS_pure (q.out _ _ (h.e0 mk (.inl q1)))
  rw [if_neg (by simpa using q1)]
  exact wpS_hiB hk h q (by omega) (by omega) b2 b4 (by omega) mk cy
 ·rw [if_neg k0]
  have k00:v=i:=by omega
  subst k00
  exact wpS_hiB hk h q b1 b3 b2 b4 b5 m cy
abbrev HiS1:=ForInStep (Option (Array Keyed) × Nat × Nat × Array Keyed × Nat × Nat)
abbrev HiS2:=ForInStep (Option (Array Keyed) × Nat × Nat × Array Keyed × Nat)
def hi1 (x y:Array Keyed) (g i j:Nat) (o:Array Keyed) (ca cb:Nat):StateT SortSt Sem HiS1:=do
 let a ← elem' y (j-1)
 let b ← elem' x (i-1)
 let z ← lt' a b
 match z with
 | some aw =>
  if aw then do
   let c ← elem' x (i-1)
   if i-1 == 0 then pure (.done (some (x.extract 0 (i-1)++y.extract 0 j++(o.push c).reverse),i-1,j,o.push c,ca+1,0))
   else if ca+1 ≥ g then pure (.done (none,i-1,j,o.push c,ca+1,0))
   else pure (.yield (none,i-1,j,o.push c,ca+1,0))
  else do
   let c ← elem' y (j-1)
   if j-1 == 1 then pure (.done (some (y.extract 0 (j-1)++x.extract 0 i++(o.push c).reverse),i,j-1,o.push c,0,cb+1))
   else if cb+1 ≥ g then pure (.done (none,i,j-1,o.push c,0,cb+1))
   else pure (.yield (none,i,j-1,o.push c,0,cb+1))
 | _=>pure (.done (some (x.extract 0 i++y.extract 0 j++o.reverse),i,j,o,ca,cb))
def hi3 (x y:Array Keyed) (i j:Nat) (o:Array Keyed) (g ca cb:Nat):StateT SortSt Sem HiS :=
 if g > 1 then (do setG (g-1);hiA x y i j o (g-1) ca cb) else (do setG g;hiA x y i j o g ca cb)
def hi2b (x y:Array Keyed) (tot i j:Nat) (o:Array Keyed) (g ca cb:Nat):StateT SortSt Sem HiS2:=do
 rule "list.sort.gallop"
 let c ← forIn [:tot] ((none,i,j,o,g+1,ca,cb):Option (Array Keyed) × Nat × Nat × Array Keyed × Nat × Nat × Nat) λ_ c=>hi3 x y c.2.1 c.2.2.1 c.2.2.2.1 c.2.2.2.2.1 c.2.2.2.2.2.1 c.2.2.2.2.2.2
 match c.1 with
 | some r=>pure (.done (some r,c.2.1,c.2.2.1,c.2.2.2.1,c.2.2.2.2.1))
 | none=>do
  setG (c.2.2.2.2.1+1)
  pure (.yield (none,c.2.1,c.2.2.1,c.2.2.2.1,c.2.2.2.2.1+1))
def hi2 (x y:Array Keyed) (tot i j:Nat) (o:Array Keyed) (g:Nat):StateT SortSt Sem HiS2:=do
 let c ← forIn [:tot] ((none,i,j,o,0,0):Option (Array Keyed) × Nat × Nat × Array Keyed × Nat × Nat) λ_ c=>hi1 x y g c.2.1 c.2.2.1 c.2.2.2.1 c.2.2.2.2.1 c.2.2.2.2.2
 match c.1 with
 | some r=>pure (.done (some r,c.2.1,c.2.2.1,c.2.2.2.1,g))
 | none=>hi2b x y tot c.2.1 c.2.2.1 c.2.2.2.1 g c.2.2.2.2.1 c.2.2.2.2.2
theorem mHi_eq (x y:Array Keyed):∃u:StateT SortSt Sem (Array Keyed),mHi x y=(do
 rule "list.sort.merge-hi"
 let a ← elem' x (x.size-1)
 if x.size-1 == 0 then pure (x.extract 0 (x.size-1)++y.extract 0 y.size++(#[a]:Array Keyed).reverse)
 else if y.size == 1 then pure (y.extract 0 y.size++x.extract 0 (x.size-1)++(#[a]:Array Keyed).reverse)
 else do
  let st ← get
  let c ← forIn [:x.size+y.size] ((none,x.size-1,y.size,#[a],gallopOf st):Option (Array Keyed) × Nat × Nat × Array Keyed × Nat) λ_ c=>hi2 x y (x.size+y.size) c.2.1 c.2.2.1 c.2.2.2.1 c.2.2.2.2
  match c.1 with
  | some r=>pure r
  | none=>u):=by
 obtain ⟨u,e⟩:=mHi_do x y
 refine ⟨u,e.trans ?_⟩
 clear e
 dsimp only [hi2,hi2b,hi3,hiA,hiB,hiC,hi1]
 refine congrArg (bind _) (funext λ_=>?_)
 refine congrArg (bind _) (funext λa=>?_)
 refine congrArg (ite _ _) (congrArg (ite _ _) ?_)
 refine congrArg (bind _) (funext λb=>?_)
 refine congr (congrArg _ ?_) (funext λz=>?_)
 ·refine congrArg _ (funext λ_=>funext λc=>?_)
  refine congr (congrArg _ ?_) (funext λd=>?_)
  ·rfl
  ·match d.1 with
   | some r=>rfl
   | none =>
    refine congrArg (bind _) (funext λ_=>?_)
    refine congr (congrArg _ ?_) (funext λz=>?_)
    ·refine congrArg _ (funext λ_=>funext λc=>?_)
     rfl
    ·match z.1 with
     | some r=>rfl
     | none=>rfl
 ·match z.1 with
  | some r=>rfl
  | none=>rfl
theorem wpS_hi1 {Q:HiS1->SortSt->Prop} {i j g ca cb:Nat} {o:Array Keyed} (hk:kindOf st=kind) (h:Mr x y) (m:Mh x.toList y.toList i j o.toList.reverse) (b1:0<i) (b2:1<j) (b3:i<=x.size) (b4:j<=y.size) (qo:∀r c,Out x.toList y.toList r.toList->Q (.done (some r,c)) st)
  (qn:∀i' j' o' ca cb,Mh x.toList y.toList i' j' o'.toList.reverse->0<i'->1<j'->i'<=x.size->j'<=y.size->i'+j'+1<=i+j->Q (.done (none,i',j',o',ca,cb)) st/\Q (.yield (none,i',j',o',ca,cb)) st):wpS (model prog w) A E s (hi1 x y g i j o ca cb) Q st:=by
 have hj1:j-1<y.size:=by omega
 have hi1:i-1<x.size:=by omega
 refine wpS_bind (wpS_elem (Array.getElem?_eq_getElem hj1) (wpS_bind (wpS_elem (Array.getElem?_eq_getElem hi1) (wpS_bind (wpS_lt2 hk (h.ny _ (by simp)) (h.nx _ (by simp)) ?_)))))
 dsimp only
 by_cases hw:nk y[j-1] < nk x[i-1]
 ·simp only [hw,decide_true,if_true]
  refine wpS_bind (wpS_elem (Array.getElem?_eq_getElem hi1) ?_)
  have m2:=h.pushX b1 b3 m (λp hp=>by have:=topA h.iy (by omega) b4 p hp;omega)
  by_cases q1:i-1=0
  ·rw [if_pos (by simpa using q1)]
   exact wpS_pure (qo _ _ (h.e0 m2 (.inl q1)))
  ·rw [if_neg (by simpa using q1)]
   have z:=λca cb=>qn _ _ _ ca cb m2 (by omega) b2 (by omega) b4 (by omega)
   split
   ·exact wpS_pure (z _ _).1
   ·exact wpS_pure (z _ _).2
 ·simp only [hw,decide_false,Bool.false_eq_true,if_false]
  refine wpS_bind (wpS_elem (Array.getElem?_eq_getElem hj1) ?_)
  have m2:=h.pushY (by omega) b4 m (λp hp=>by have:=topA h.ix b1 b3 p hp;omega)
  by_cases q1:j-1=1
  ·rw [if_pos (by simpa using q1)]
   exact wpS_pure (qo _ _ (h.e1 m2 q1))
  ·rw [if_neg (by simpa using q1)]
   have z:=λca cb=>qn _ _ _ ca cb m2 b1 (by omega) b3 (by omega) (by omega)
   split
   ·exact wpS_pure (z _ _).1
   ·exact wpS_pure (z _ _).2
theorem wpS_hi2b {Q:HiS2->SortSt->Prop} {tot i j g ca cb n:Nat} {o:Array Keyed} (hk:kindOf st=kind) (h:Mr x y) (m:Mh x.toList y.toList i j o.toList.reverse) (b1:0<i) (b2:1<j) (b3:i<=x.size) (b4:j<=y.size) (b5:i+j+1<=n) (qo:∀r c st',Keep st st'->Out x.toList y.toList r.toList->Q (.done (some r,c)) st')
  (qn:∀i' j' o' g' st',Keep st st'->Mh x.toList y.toList i' j' o'.toList.reverse->0<i'->1<j'->i'<=x.size->j'<=y.size->i'+j'+1<=n->Q (.yield (none,i',j',o',g')) st'):wpS (model prog w) A E s (hi2b x y tot i j o g ca cb) Q st:=by
 refine wpS_bind (wpS_lift (wpAny_rule ⟨rfl,?_⟩))
 refine wpS_bind (wpS_mono (wpS_forRange (I:=λt3 c st3=>Keep st st3/\∃i' j' o g ca cb,c=(none,i',j',o,g,ca,cb)/\Mh x.toList y.toList i' j' o.toList.reverse/\0<i'/\1<j'/\i'<=x.size/\j'<=y.size/\i'+j'+1<=n)
  (Q:=λc st3=>Keep st st3/\((∃r c2,c=(some r,c2)/\Out x.toList y.toList r.toList)\/∃i' j' o g ca cb,c=(none,i',j',o,g,ca,cb)/\Mh x.toList y.toList i' j' o.toList.reverse/\0<i'/\1<j'/\i'<=x.size/\j'<=y.size/\i'+j'+1<=n)) ?step2 ?fin2 ⟨Keep.refl st,_,_,_,_,_,_,rfl,m,b1,b2,b3,b4,b5⟩) ?post2)
 case fin2 =>
  rintro c st3 ⟨kp3,i',j',o,g,ca,cb,rfl,m,b⟩
  exact ⟨kp3,.inr ⟨i',j',o,g,ca,cb,rfl,m,b⟩⟩
 case post2 =>
  rintro c st3 ⟨kp3,⟨r,c2,rfl,ho⟩ | ⟨i',j',o,g,ca,cb,rfl,m,b1,b2,b3,b4,b5⟩⟩
  ·exact wpS_pure (qo _ _ _ kp3 ho)
  ·exact wpS_bind (wpS_setG λst4 kp4=>wpS_pure (qn _ _ _ _ _ (kp3.trans kp4) m b1 b2 b3 b4 b5))
 case step2 =>
  rintro t3 c st3 _ ht3 ⟨kp3,i',j',o,g,ca,cb,rfl,m,b1,b2,b3,b4,b5⟩
  show wpS (model prog w) A E s (hi3 x y i' j' o g ca cb) _ st3
  unfold hi3
  by_cases hg:g > 1
  ·rw [if_pos hg]
   exact wpS_bind (wpS_setG λst4 kp4=>wpS_hiA (n:=n) ((kp3.trans kp4).k.trans hk) h ⟨λr c ho=>⟨kp3.trans kp4,.inl ⟨_,_,rfl,ho⟩⟩,λi j o g ca cb m h1 h2 h3 h4 h5=>⟨kp3.trans kp4,.inr ⟨_,_,_,_,_,_,rfl,m,h1,h2,h3,h4,h5⟩⟩,λi j o g ca cb m h1 h2 h3 h4 h5=>⟨kp3.trans kp4,_,_,_,_,_,_,rfl,m,h1,h2,h3,h4,h5⟩⟩ b1 b2 b3 b4 b5 m)
  ·rw [if_neg hg]
   exact wpS_bind (wpS_setG λst4 kp4=>wpS_hiA (n:=n) ((kp3.trans kp4).k.trans hk) h ⟨λr c ho=>⟨kp3.trans kp4,.inl ⟨_,_,rfl,ho⟩⟩,λi j o g ca cb m h1 h2 h3 h4 h5=>⟨kp3.trans kp4,.inr ⟨_,_,_,_,_,_,rfl,m,h1,h2,h3,h4,h5⟩⟩,λi j o g ca cb m h1 h2 h3 h4 h5=>⟨kp3.trans kp4,_,_,_,_,_,_,rfl,m,h1,h2,h3,h4,h5⟩⟩ b1 b2 b3 b4 b5 m)
theorem wpS_hi2 {Q:HiS2->SortSt->Prop} {tot i j g:Nat} {o:Array Keyed} (htot:1<=tot) (hk:kindOf st=kind) (h:Mr x y) (m:Mh x.toList y.toList i j o.toList.reverse) (a1:0<i) (a2:1<j) (a3:i<=x.size) (a4:j<=y.size) (qo:∀r c st',Keep st st'->Out x.toList y.toList r.toList->Q (.done (some r,c)) st')
  (qn:∀i' j' o' g' st',Keep st st'->Mh x.toList y.toList i' j' o'.toList.reverse->0<i'->1<j'->i'<=x.size->j'<=y.size->i'+j'+1<=i+j->Q (.yield (none,i',j',o',g')) st'):wpS (model prog w) A E s (hi2 x y tot i j o g) Q st:=by
 refine wpS_bind (wpS_mono (wpS_forRange (I:=λt2 c st2=>st2=st/\∃i' j' o ca cb,c=(none,i',j',o,ca,cb)/\Mh x.toList y.toList i' j' o.toList.reverse/\0<i'/\1<j'/\i'<=x.size/\j'<=y.size/\i'+j'+t2<=i+j)
  (Q:=λc st2=>st2=st/\((∃r c2,c=(some r,c2)/\Out x.toList y.toList r.toList)\/∃i' j' o ca cb,c=(none,i',j',o,ca,cb)/\Mh x.toList y.toList i' j' o.toList.reverse/\0<i'/\1<j'/\i'<=x.size/\j'<=y.size/\i'+j'+1<=i+j)) ?step1 ?fin1 ⟨rfl,_,_,_,_,_,rfl,m,a1,a2,a3,a4,by omega⟩) ?post1)
 case fin1 =>
  rintro c st2 ⟨rfl,i',j',o,ca,cb,rfl,m,b1,b2,b3,b4,b5⟩
  exact ⟨rfl,.inr ⟨i',j',o,ca,cb,rfl,m,b1,b2,b3,b4,by omega⟩⟩
 case step1 =>
  rintro t2 c st2 _ ht2 ⟨rfl,i',j',o,ca,cb,rfl,m,b1,b2,b3,b4,b5⟩
  show wpS (model prog w) A E s (hi1 x y g i' j' o ca cb) _ _
  refine wpS_hi1 hk h m b1 b2 b3 b4 (λr c ho=>⟨rfl,.inl ⟨_,_,rfl,ho⟩⟩) λi2 j2 o2 ca cb m2 c1 c2 c3 c4 c5=>⟨⟨rfl,.inr ⟨_,_,_,_,_,rfl,m2,c1,c2,c3,c4,by omega⟩⟩,rfl,_,_,_,_,_,rfl,m2,c1,c2,c3,c4,by omega⟩
 case post1 =>
  rintro c st2 ⟨rfl,⟨r,c2,rfl,ho⟩ | ⟨i',j',o,ca,cb,rfl,m,b1,b2,b3,b4,b5⟩⟩
  ·exact wpS_pure (qo _ _ _ (Keep.refl _) ho)
  ·exact wpS_hi2b hk h m b1 b2 b3 b4 b5 qo qn
theorem wpS_mHi {Q:Array Keyed->SortSt->Prop} (hk:kindOf st=kind) (h:Mr x y) (hQ:∀o st',Keep st st'->Out x.toList y.toList o.toList->Q o st'):wpS (model prog w) A E s (mHi x y) Q st:=by
 obtain ⟨u,e⟩:=mHi_eq x y
 rw [e]
 refine wpS_bind (wpS_lift (wpAny_rule ⟨rfl,?_⟩))
 have hx0:=h.x0
 have hy0:=h.y0
 refine wpS_bind (wpS_elem (Array.getElem?_eq_getElem (show x.size-1<x.size by omega)) ?_)
 have M1:Mh x.toList y.toList (x.size-1) y.size (#[x[x.size-1]]:Array Keyed).toList.reverse:=by
  have m0:Mh x.toList y.toList x.size y.size []:=⟨by simp,List.Pairwise.nil,λ_ _ _ hq=>nomatch hq⟩
  have:=m0.stepX h.ix (v:=x.size-1) (by omega) (λp hp q hq=>h.lst q (by
   have e:x.toList.take x.size=x.toList:=List.take_of_length_le (by simp)
   rw [e] at hq;exact hq) p (List.mem_of_mem_take hp))
  rw [one_last hx0 (Nat.le_refl _)] at this
  exact this
 by_cases h1:x.size-1=0
 ·rw [if_pos (by simpa using h1)]
  exact wpS_pure (hQ _ _ (Keep.refl st) (h.e0 M1 (.inl h1)))
 rw [if_neg (by simpa using h1)]
 by_cases h2:y.size=1
 ·rw [if_pos (by simpa using h2)]
  exact wpS_pure (hQ _ _ (Keep.refl st) (h.e1 M1 h2))
 rw [if_neg (by simpa using h2)]
 refine wpS_bind (wpS_get ?_)
 refine wpS_bind (wpS_mono (wpS_forRange (I:=λt c st'=>Keep st st'/\∃i j o g,c=(none,i,j,o,g)/\Mh x.toList y.toList i j o.toList.reverse/\0<i/\1<j/\i<=x.size/\j<=y.size/\i+j+t+1<=x.size+y.size)
  (Q:=λc st'=>Keep st st'/\∃r,c.1=some r/\Out x.toList y.toList r.toList) ?step ?fin ⟨Keep.refl st,_,_,_,_,rfl,M1,by omega,by omega,by omega,by omega,by omega⟩) ?post)
 case fin =>
  rintro c st' ⟨_,i,j,o,g,rfl,_,a1,a2,a3,a4,a5⟩
  omega
 case post =>
  rintro ⟨c1,c2⟩ st' ⟨kp,r,e,ho⟩
  cases e
  exact wpS_pure (hQ r st' kp ho)
 case step =>
  rintro t c st' _ ht ⟨kp,i,j,o,g,rfl,m,a1,a2,a3,a4,a5⟩
  show wpS (model prog w) A E s (hi2 x y (x.size+y.size) i j o g) _ _
  exact wpS_hi2 (by omega) (kp.k.trans hk) h m a1 a2 a3 a4 (λr c st2 kp2 ho=>⟨kp.trans kp2,_,rfl,ho⟩) λi2 j2 o2 g2 st2 kp2 m2 c1 c2 c3 c4 c5=>⟨kp.trans kp2,_,_,_,_,rfl,m2,c1,c2,c3,c4,by omega⟩
end
end Srt
namespace Srt
open PySem PyProof.Rows
open KN (nk isN kind)
variable [KN]
theorem mAt_do (i:Nat):∃u:StateT SortSt Sem Bool,mergeAt' i=(do
 let s ← get
 let (some (sa,na,pw),some (sb,nb,_)):=((pendingOf s)[i]?,(pendingOf s)[i+1]?) | u
 set (setPending s (((pendingOf s).setIfInBounds i (sa,na+nb,pw)).eraseIdxIfInBounds (i+1)))
 let some k ← leap false (← elem' (arrOf s) sb) (arrOf s) sa na 0 | return false
 let (sa,na):=(sa+k,na-k)
 if na == 0 then return true
 let some nb ← leap true (← elem' (arrOf s) (sa+na-1)) (arrOf s) sb nb (nb-1) | return false
 if nb == 0 then return true
 let x:=(arrOf s).extract sa sb
 let y:=(arrOf s).extract sb (sb+nb)
 let o ← if na<=nb then mLo x y else mHi x y
 modify λs=>setArr s (o.toList.zipIdx.foldl (λa (p,j)=>a.setIfInBounds (sa+j) p) (arrOf s))
 return (failedOf (← get)).isNone):=⟨_,rfl⟩
theorem lay_list:∀(o:List Keyed) (a:Array Keyed) (sa c:Nat),sa+c+o.length<=a.size->((o.zipIdx c).foldl (λa (p,j)=>a.setIfInBounds (sa+j) p) a).toList=a.toList.take (sa+c)++o++a.toList.drop (sa+c+o.length)
 | [],a,sa,c,h=>by simp
 | p::o,a,sa,c,h=>by
  rw [List.zipIdx_cons,List.foldl_cons]
  simp only [List.length_cons] at h
  have ih:=lay_list o (a.setIfInBounds (sa+c) p) sa (c+1) (by rw [Array.size_setIfInBounds];omega)
  rw [ih,Array.toList_setIfInBounds,← Nat.add_assoc]
  have h1:sa+c<a.toList.length:=by simp;(clear ih;omega)
  have e1:(a.toList.set (sa+c) p).take (sa+c+1)=a.toList.take (sa+c)++[p]:=by
   rw [List.take_add_one,List.take_set_of_le (Nat.le_refl _),List.getElem?_set_self h1];rfl
  have e2:(a.toList.set (sa+c) p).drop (sa+c+1+o.length)=a.toList.drop (sa+c+(o.length+1)):=by
   rw [List.drop_set_of_lt (by (clear e1 h1 ih h;omega))];congr 1;(clear e1 h1 ih h;omega)
  rw [e1,e2,List.length_cons];simp
section
variable {prog:Program} {w:World} {A:Around} {E:Value->Shared->Prop} {s:Shared} [KL prog w A E s] {st:SortSt}
structure Ok (st:SortSt):Prop where
 k:kindOf st=kind
 n:∀p∈(arrOf st).toList,isN p
 f:failedOf st=none
theorem wpS_set {st1:SortSt} {Q:PUnit->SortSt->Prop} (h:Q ⟨⟩ st1):wpS (model prog w) A E s (set st1:StateT SortSt Sem PUnit) Q st:=by
 unfold wpS;rw [StateT.run_set];exact wpAny_pure ⟨rfl,h⟩
theorem seg {a:Array Keyed} {P C T:List Keyed} (hl:a.toList=P++C++T) {t:Nat} (ht:t<C.length):a[P.length+t]? = some C[t]:=by
 rw [← Array.getElem?_toList,hl,List.append_assoc,List.getElem?_append_right (by (clear ht hl;omega)),List.getElem?_append_left (by (clear hl;omega))]
 rw [show P.length+t-P.length=t by (clear ht hl;omega),List.getElem?_eq_getElem ht]
theorem seg_K {a:Array Keyed} {P C T:List Keyed} (hl:a.toList=P++C++T) {t:Nat} (ht:t<C.length):K a (P.length+t)=nk C[t]:=by
 unfold K;rw [seg hl ht]
theorem inc_get {C:List Keyed} (h:Inc C) {i j:Nat} (hij:i<=j) (hj:j<C.length):nk (C[i]'(by (clear h;omega)))<=nk C[j]:=by
 by_cases e:i=j
 ·subst e;exact Int.le_refl _
 ·exact List.pairwise_iff_getElem.mp h i j (by (clear e h;omega)) hj (by (clear hj h;omega))
theorem wpS_mAt {i pw pw':Nat} {P C B S:List Keyed} {Q:Bool->SortSt->Prop} (ok:Ok st) (hp:(pendingOf st)[i]? = some (P.length,C.length,pw)) (hq:(pendingOf st)[i+1]? = some (P.length+C.length,B.length,pw'))
  (hl:(arrOf st).toList=P++C++B++S) (c0:0<C.length) (b0:0<B.length) (iC:Inc C) (iB:Inc B)
  (hQ:∀st' R,Ok st'->pendingOf st'=((pendingOf st).setIfInBounds i (P.length,C.length+B.length,pw)).eraseIdxIfInBounds (i+1)->(arrOf st').toList=P++R++S->R.Perm (C++B)->Inc R->Q true st'):wpS (model prog w) A E s (mergeAt' i) Q st:=by
 obtain ⟨u,e⟩:=mAt_do i
 rw [e]
 refine wpS_bind (wpS_get ?_)
 rw [hp,hq]
 dsimp only
 refine wpS_bind (wpS_set ?_)
 have hlC:(arrOf st).toList=P++C++(B++S):=by rw [hl];simp
 have hlB:(arrOf st).toList=(P++C)++B++S:=hl
 have lPC:(P++C).length=P.length+C.length:=List.length_append
 have hsz:(arrOf st).size=P.length+C.length+B.length+S.length:=by
  rw [← Array.length_toList,hl];simp;(clear lPC hlB hlC e hQ iB iC b0 c0 hl hq hp ok;omega)
 have kC:∀{t:Nat} (h:t<C.length),K (arrOf st) (P.length+t)=nk C[t]:=λh=>seg_K hlC h
 have kB:∀{t:Nat} (h:t<B.length),K (arrOf st) (P.length+C.length+t)=nk B[t]:=λ{t} h=>by rw [← lPC];exact seg_K hlB h
 have eB:(arrOf st)[P.length+C.length]? = some B[0]:=by
  have:=seg hlB b0
  rw [lPC,Nat.add_zero] at this;exact this
 have nC:∀p∈C,isN p:=λp hp=>ok.n p (by rw [hl];simp [hp])
 have nB:∀p∈B,isN p:=λp hp=>ok.n p (by rw [hl];simp [hp])
 have ok1:Ok (setPending st (((pendingOf st).setIfInBounds i (P.length,C.length+B.length,pw)).eraseIdxIfInBounds (i+1))):=⟨ok.k,ok.n,ok.f⟩
 refine wpS_bind (wpS_elem eB ?_)
 refine wpS_bind (wpS_leap (⟨ok1.k,ok.n,nB _ (List.getElem_mem _),λa b hab hb=>by rw [kC (by (clear ok1 nB nC eB kB kC hsz lPC hlB hlC e hQ iB iC c0 hl hq hp ok;omega)),kC hb];exact inc_get iC hab hb,by (clear ok1 nB nC eB kB kC lPC hlB hlC e hQ iB iC c0 hl hq hp ok;omega)⟩:Ask _ B[0] (arrOf st) P.length C.length) c0 λk hc=>?_)
 obtain ⟨k1,k2,k3⟩:=hc
 dsimp only
 have lowC:∀p∈C.take k,∀q∈B,nk p<=nk q:=λp hp q hq=>by
  obtain ⟨t,ht,e⟩:=List.getElem_of_mem hp
  rw [List.length_take] at ht
  rw [List.getElem_take] at e
  obtain ⟨v,hv,e2⟩:=List.getElem_of_mem hq
  have h1:=k2 t (by (clear e2 e hq hp k3 k2 k1 ok1 nB nC eB kB kC hsz lPC hlB hlC hQ iB iC c0 hl ok;omega))
  have h2:=inc_get iB (Nat.zero_le v) hv
  unfold pv at h1
  simp only [Bool.false_eq_true,if_false,Bool.not_eq_true',decide_eq_false_iff_not] at h1
  rw [kC (by (clear h1 h2 e2 e hq hp k3 k2 k1 ok1 nB nC eB kB kC hsz lPC hlB hlC hQ iB iC c0 hl ok;omega)),e] at h1
  rw [e2] at h2
  (clear e2 e ht hq hp k3 k2 k1 ok1 nB nC eB kB kC hsz lPC hlB hlC hQ iB iC c0 hl ok;omega)
 have hiC:∀p∈C.drop k,nk B[0]<=nk p:=λp hp=>by
  obtain ⟨t,ht,e⟩:=List.getElem_of_mem hp
  rw [List.length_drop] at ht
  rw [List.getElem_drop] at e
  have h1:=k3 (k+t) (by (clear e ht hp lowC k3 k2 k1 ok1 nB nC eB kB kC hsz lPC hlB hlC hQ iB iC c0 hl hq ok;omega)) (by (clear e hp lowC k3 k2 k1 ok1 nB nC eB kB kC hsz lPC hlB hlC hQ iB iC c0 hl hq ok;omega))
  unfold pv at h1
  simp only [Bool.false_eq_true,if_false,Bool.not_eq_false',decide_eq_true_eq] at h1
  rw [kC (by (clear h1 e hp lowC k3 k2 k1 ok1 nB nC eB kB kC hsz lPC hlB hlC hQ iB iC c0 hl hq ok;omega)),e] at h1
  (clear e ht hp lowC k3 k2 k1 ok1 nB nC eB kB kC hsz lPC hlB hlC hQ iB iC c0 hl hq ok;omega)
 have whole:(∀p∈C,∀q∈B,nk p<=nk q)->∀st',Ok st'->pendingOf st'=((pendingOf st).setIfInBounds i (P.length,C.length+B.length,pw)).eraseIdxIfInBounds (i+1)->arrOf st'=arrOf st->Q true st':=λhc st' o1 o2 o3 =>
  hQ st' (C++B) o1 o2 (by rw [o3,hl];simp) (List.Perm.refl _) (List.pairwise_append.mpr ⟨iC,iB,hc⟩)
 by_cases q1:C.length-k=0
 ·rw [if_pos (by simpa using q1)]
  refine wpS_pure (whole ?_ _ ok1 rfl rfl)
  have:C.take k=C:=List.take_of_length_le (by (clear whole hiC lowC k3 k2 k1 ok1 nB nC eB kB kC hsz lPC hlB hlC e hQ iB iC c0 hl hq hp ok;omega))
  rw [this] at lowC
  exact lowC
 rw [if_neg (by simpa using q1)]
 have hlast:P.length+k+(C.length-k)-1=P.length+(C.length-1):=by (clear q1 whole hiC lowC k3 k2 ok1 nB nC eB kB kC hsz lPC hlB hlC e hQ iB iC hl hq hp ok;omega)
 have eL:(arrOf st)[P.length+k+(C.length-k)-1]? = some (C[C.length-1]'(by (clear hlast q1 whole hiC lowC k3 k2 k1 ok1 nB nC eB kB kC hsz lPC hlB hlC e hQ iB iC hl hq hp ok;omega))):=by rw [hlast];exact seg hlC (by (clear hlast q1 whole hiC lowC k3 k2 k1 ok1 nB nC eB kB kC hsz lPC hlB hlC e hQ iB iC hl hq hp ok;omega))
 refine wpS_bind (wpS_elem eL ?_)
 refine wpS_bind (wpS_leap (⟨ok1.k,ok.n,nC _ (List.getElem_mem _),λa b hab hb=>by rw [kB (by (clear eL q1 whole hiC lowC k3 k2 k1 ok1 nB nC eB kB kC hsz hlB hlC e hQ iB iC hl hq hp ok;omega)),kB hb];exact inc_get iB hab hb,by (clear eL q1 whole hiC lowC k3 k2 k1 ok1 nB nC eB kB kC hlB hlC e hQ iB iC hl hq hp ok;omega)⟩:Ask _ (C[C.length-1]'(by (clear eL q1 whole hiC lowC k3 k2 k1 ok1 nB nC eB kB kC hsz hlB hlC e hQ iB iC hl hq hp ok;omega))) (arrOf st) (P.length+C.length) B.length) (by (clear eL q1 whole hiC lowC k3 k2 k1 ok1 nB nC eB kB kC hsz hlB hlC e hQ iB iC hl hq hp ok;omega)) λv hc=>?_)
 obtain ⟨v1,v2,v3⟩:=hc
 dsimp only
 have topC:∀p∈C,nk p<=nk (C[C.length-1]'(by (clear v3 v2 v1 eL q1 whole hiC lowC k3 k2 k1 ok1 nB nC eB kB kC hsz hlB hlC e hQ iB iC hl hq hp ok;omega))):=λp hp=>by
  obtain ⟨t,ht,e⟩:=List.getElem_of_mem hp
  have:=inc_get iC (show t<=C.length-1 by (clear e hp v3 v2 v1 eL q1 whole hiC lowC k3 k2 k1 ok1 nB nC eB kB kC hsz hlB hlC hQ iB iC hl hq ok;omega)) (by (clear e hp v3 v2 v1 eL q1 whole hiC lowC k3 k2 k1 ok1 nB nC eB kB kC hsz hlB hlC hQ iB iC hl hq ok;omega))
  rw [e] at this;exact this
 have hiB:∀q∈B.drop v,nk (C[C.length-1]'(by (clear topC v3 v2 v1 eL q1 whole hiC lowC k3 k2 k1 ok1 nB nC eB kB kC hsz hlB hlC e hQ iB iC hl hq hp ok;omega)))<=nk q:=λq hq=>by
  obtain ⟨t,ht,e⟩:=List.getElem_of_mem hq
  rw [List.length_drop] at ht
  rw [List.getElem_drop] at e
  have h1:=v3 (v+t) (by (clear e ht hq topC v3 v2 v1 eL q1 whole hiC lowC k3 k2 k1 ok1 nB nC eB kB kC hsz hlB hlC hQ iB iC hl hp ok;omega)) (by (clear e hq topC v3 v2 v1 eL q1 whole hiC lowC k3 k2 k1 ok1 nB nC eB kB kC hsz hlB hlC hQ iB iC hl hp ok;omega))
  unfold pv at h1
  simp only [if_true,decide_eq_false_iff_not] at h1
  rw [kB (by (clear h1 e hq topC v3 v2 v1 eL q1 whole hiC lowC k3 k2 k1 ok1 nB nC eB kB kC hsz hlB hlC hQ iB iC hl hp ok;omega)),e] at h1
  (clear e ht hq topC v3 v2 v1 eL q1 whole hiC lowC k3 k2 k1 ok1 nB nC eB kB kC hsz hlB hlC hQ iB iC hl hp ok;omega)
 have loB:∀q∈B.take v,nk q<=nk (C[C.length-1]'(by (clear hiB topC v3 v2 v1 eL q1 whole hiC lowC k3 k2 k1 ok1 nB nC eB kB kC hsz hlB hlC e hQ iB iC hl hq hp ok;omega))):=λq hq=>by
  obtain ⟨t,ht,e⟩:=List.getElem_of_mem hq
  rw [List.length_take] at ht
  rw [List.getElem_take] at e
  have h1:=v2 t (by (clear e hq hiB topC v3 v2 v1 eL q1 whole hiC lowC k3 k2 k1 ok1 nB nC eB kB kC hsz hlB hlC hQ iB iC hl hp ok;omega))
  unfold pv at h1
  simp only [if_true,decide_eq_true_eq] at h1
  rw [kB (by (clear h1 e hq hiB topC v3 v2 v1 eL q1 whole hiC lowC k3 k2 k1 ok1 nB nC eB kB kC hsz hlB hlC hQ iB iC hl hp ok;omega)),e] at h1
  (clear e ht hq hiB topC v3 v2 v1 eL q1 whole hiC lowC k3 k2 k1 ok1 nB nC eB kB kC hsz hlB hlC hQ iB iC hl hp ok;omega)
 by_cases q2:v=0
 ·rw [if_pos (by simpa using q2)]
  refine wpS_pure (whole (λp hp q hq=>?_) _ ok1 rfl rfl)
  have h1:=topC p hp
  have h2:=hiB q (by rw [q2];exact hq)
  (clear hq hp q2 loB hiB topC v3 v2 v1 eL q1 whole hiC lowC k3 k2 k1 ok1 nB nC eB kB kC hsz hlB hlC e hQ iB iC hl ok;omega)
 rw [if_neg (by simpa using q2)]
 have ex:((arrOf st).extract (P.length+k) (P.length+C.length)).toList=C.drop k:=by
  rw [ext_vi,List.drop_take,hlC,List.append_assoc,← List.drop_drop,List.drop_left,List.drop_append_of_le_length k1,show P.length+C.length-(P.length+k)=(C.drop k).length by rw [List.length_drop];(clear q2 loB hiB topC v3 v2 v1 eL q1 whole hiC lowC k3 k2 k1 ok1 nB nC eB kB kC hsz hlB hlC e hQ iB iC hl hq hp ok;omega),List.take_left]
 have ey:((arrOf st).extract (P.length+C.length) (P.length+C.length+v)).toList=B.take v:=by
  rw [ext_vi,List.drop_take,hlB,← lPC,List.append_assoc,List.drop_left,show (P++C).length+v-(P++C).length=v by (clear ex q2 loB hiB topC v3 v2 v1 eL q1 whole hiC lowC k3 k2 k1 ok1 nB nC eB kB kC hsz hlB hlC e hQ iB iC hl hq hp ok;omega),List.take_append_of_le_length v1]
 generalize hx:(arrOf st).extract (P.length+k) (P.length+C.length)=x at ex ⊢
 generalize hy:(arrOf st).extract (P.length+C.length) (P.length+C.length+v)=y at ey ⊢
 have zx:x.size=C.length-k:=by rw [← Array.length_toList,ex,List.length_drop]
 have zy:y.size=v:=by rw [← Array.length_toList,ey,List.length_take];(clear zx ey hy ex hx q2 loB hiB topC v3 v2 eL q1 whole hiC lowC k3 k2 k1 ok1 nB nC eB kB kC hsz hlB hlC e hQ iB iC hl hq hp ok;omega)
 have mr:Mr x y:=by
  refine ⟨λp hp=>nC p (by rw [ex] at hp;exact List.mem_of_mem_drop hp),λp hp=>nB p (by rw [ey] at hp;exact List.mem_of_mem_take hp),by rw [ex];exact iC.drop k,by rw [ey];exact iB.take v,by (clear zy ey hy ex hx q2 loB hiB topC v3 v2 v1 eL whole hiC lowC k3 k2 k1 ok1 nB nC eB kB kC hsz hlB hlC e hQ iB iC hl hq hp ok;omega),by (clear zx ey hy ex hx loB hiB topC v3 v2 v1 eL q1 whole hiC lowC k3 k2 k1 ok1 nB nC eB kB kC hsz hlB hlC e hQ iB iC hl hq hp ok;omega),λp hp q hq=>?_,λp hp q hq=>?_⟩
  ·rw [ey,List.take_take] at hp
   rw [ex] at hq
   have h1:=hiC q hq
   obtain ⟨t,ht,e⟩:=List.getElem_of_mem hp
   rw [List.length_take] at ht
   rw [List.getElem_take] at e
   have:t=0:=by (clear e h1 hq hp zy zx ey hy ex hx q2 loB hiB topC v3 v2 v1 eL q1 whole hiC lowC k3 k2 k1 ok1 nB nC eB kB kC hsz hlB hlC hQ iB iC hl ok;omega)
   subst this
   rw [← e];exact h1
  ·rw [ex] at hp
   rw [ey] at hq
   have h1:=loB q hq
   rw [List.drop_drop] at hp
   obtain ⟨t,ht,e⟩:=List.getElem_of_mem hp
   rw [List.length_drop] at ht
   rw [List.getElem_drop] at e
   have e3:k+(x.size-1)+t=C.length-1:=by (clear e h1 hq hp zy ey hy ex hx q2 loB hiB topC v3 v2 v1 eL q1 whole hiC lowC k3 k2 k1 ok1 nB nC eB kB kC hsz hlB hlC hQ iB iC hl ok;omega)
   have e4:nk p=nk (C[C.length-1]'(by (clear e3 e ht h1 hq hp zy zx ey hy ex hx q2 loB hiB topC v3 v2 v1 eL q1 whole hiC lowC k3 k2 k1 ok1 nB nC eB kB kC hsz hlB hlC hQ iB iC hl ok;omega))):=by rw [← e];congr 2
   (clear e hq hp zy zx ey hy ex hx q2 loB hiB topC v3 v2 v1 eL q1 whole hiC lowC k3 k2 ok1 nB nC eB kB kC hsz hlB hlC hQ iB iC hl ok;omega)
 have done:∀(o:Array Keyed) (st':SortSt),Keep (setPending st (((pendingOf st).setIfInBounds i (P.length,C.length+B.length,pw)).eraseIdxIfInBounds (i+1))) st'->Out x.toList y.toList o.toList ->
   wpS (model prog w) A E s (do
    modify λs=>setArr s (o.toList.zipIdx.foldl (λa (p,j)=>a.setIfInBounds (P.length+k+j) p) (arrOf s))
    return (failedOf (← get)).isNone:StateT SortSt Sem Bool) Q st':=λo st' kp ho=>by
  obtain ⟨hp,hi⟩:=ho
  rw [ex,ey] at hp
  have lo:o.toList.length=C.length-k+v:=by rw [hp.length_eq,List.length_append,List.length_drop,List.length_take];(clear hi hp kp mr zy zx ey hy ex hx q2 loB hiB topC v3 v2 eL q1 whole hiC lowC k3 k2 k1 ok1 nB nC eB kB kC hsz hlB hlC e hQ iB iC hl hq ok;omega)
  refine wpS_bind (wpS_modify ?_)
  refine wpS_bind (wpS_get ?_)
  have ea:arrOf st'=arrOf st:=kp.a
  have ef:failedOf st'=none:=kp.f.trans ok.f
  have el:(o.toList.zipIdx.foldl (λa (p,j)=>a.setIfInBounds (P.length+k+j) p) (arrOf st')).toList=P++(C.take k++o.toList++B.drop v)++S:=by
   rw [ea]
   have:=lay_list o.toList (arrOf st) (P.length+k) 0 (by rw [hsz,lo];(clear ef ea lo hi hp kp mr zy zx ey hy ex hx q2 loB hiB topC v3 v2 eL q1 whole hiC lowC k3 k2 k1 ok1 nB nC eB kB kC hsz hlB hlC e hQ iB iC hl hq ok;omega))
   rw [Nat.add_zero] at this
   rw [this,lo]
   have t1:(arrOf st).toList.take (P.length+k)=P++C.take k:=by
    rw [hlC,List.append_assoc,List.take_append,show P.length+k-P.length=k by (clear this ef ea lo hi hp kp mr zy zx ey hy ex hx q2 loB hiB topC v3 v2 v1 eL q1 whole hiC lowC k3 k2 k1 ok1 nB nC eB kB kC hsz hlB hlC e hQ iB iC hl hq ok;omega),List.take_of_length_le (by (clear this ef ea lo hi hp kp mr zy zx ey hy ex hx q2 loB hiB topC v3 v2 v1 eL q1 whole hiC lowC k3 k2 k1 ok1 nB nC eB kB kC hsz hlB hlC e hQ iB iC hl hq ok;omega)),List.take_append_of_le_length k1]
   have t2:(arrOf st).toList.drop (P.length+k+(C.length-k+v))=B.drop v++S:=by
    rw [hlB,show P.length+k+(C.length-k+v)=(P++C).length+v by rw [lPC];(clear t1 this ef ea lo hi hp kp mr zy zx ey hy ex hx q2 loB hiB topC v3 v2 v1 eL q1 whole hiC lowC k3 k2 k1 ok1 nB nC eB kB kC hsz hlB hlC e hQ iB iC hl hq ok;omega),List.append_assoc,← List.drop_drop,List.drop_left,List.drop_append_of_le_length v1]
   rw [t1,t2];simp
  show wpS _ _ _ _ (pure ((failedOf st').isNone)) _ _
  rw [ef]
  refine wpS_pure (hQ _ (C.take k++o.toList++B.drop v) ⟨kp.k.trans ok1.k,λp hp'=>?_,ef⟩ kp.p el ?_ ?_)
  ·have hp':p∈P++(C.take k++o.toList++B.drop v)++S:=by rw [← el];exact hp'
   refine ok.n p ?_
   rw [hl]
   simp only [List.mem_append] at hp' ⊢
   rcases hp' with (h | (h | h) | h) | h
   ·exact .inl (.inl (.inl h))
   ·exact .inl (.inl (.inr (List.mem_of_mem_take h)))
   ·rcases List.mem_append.mp (hp.mem_iff.mp h) with h | h
    ·exact .inl (.inl (.inr (List.mem_of_mem_drop h)))
    ·exact .inl (.inr (List.mem_of_mem_take h))
   ·exact .inl (.inr (List.mem_of_mem_drop h))
   ·exact .inr h
  ·refine ((hp.append_left _).append_right _).trans ?_
   rw [← List.append_assoc,List.take_append_drop,List.append_assoc,List.take_append_drop]
  ·refine List.pairwise_append.mpr ⟨List.pairwise_append.mpr ⟨iC.take k,hi,λp hp' q hq=>?_⟩,iB.drop v,λp hp' q hq=>?_⟩
   ·rcases List.mem_append.mp (hp.mem_iff.mp hq) with h | h
    ·exact iC.split k p hp' q h
    ·exact lowC p hp' q (List.mem_of_mem_take h)
   ·rcases List.mem_append.mp hp' with h | h
    ·exact lowC p h q (List.mem_of_mem_drop hq)
    ·rcases List.mem_append.mp (hp.mem_iff.mp h) with h | h
     ·have h1:=topC p (List.mem_of_mem_drop h)
      have h2:=hiB q hq
      (clear h hq hp' el ef ea lo hi hp kp mr zy zx ey hy ex hx q2 loB hiB topC v3 v2 v1 eL q1 whole hiC lowC k3 k2 k1 ok1 nB nC eB kB kC hsz hlB hlC e hQ iB iC hl ok;omega)
     ·exact iB.split v p h q hq
 by_cases hle:C.length-k<=v
 ·rw [if_pos hle]
  exact wpS_bind (wpS_mLo ok1.k mr λo st' kp ho=>done o st' kp ho)
 ·rw [if_neg hle]
  exact wpS_bind (wpS_mHi ok1.k mr λo st' kp ho=>done o st' kp ho)
end
end Srt
namespace Srt
open PySem PyProof.Rows
open KN (nk isN kind)
variable [KN]
structure SB (lo:Nat) (st0 st:SortSt):Prop where
 ok:Ok st
 perm:(arrOf st).Perm (arrOf st0)
 pend:pendingOf st=pendingOf st0
 pre:∀k,k<lo->(arrOf st)[k]? = (arrOf st0)[k]?
theorem SB.size {lo:Nat} {st0 st:SortSt} (h:SB lo st0 st):(arrOf st).size=(arrOf st0).size:=h.perm.size_eq
theorem SB.arr {lo:Nat} {st0 st:SortSt} (h:SB lo st0 st) {xs:Array Keyed} (hp:xs.Perm (arrOf st)) (hk:∀k,k<lo->xs[k]? = (arrOf st)[k]?):SB lo st0 (setArr st xs) :=
 ⟨⟨h.ok.k,λp hp'=>h.ok.n p ((Array.perm_iff_toList_perm.mp hp).mem_iff.mp hp'),h.ok.f⟩,hp.trans h.perm,h.pend,λk hk'=>(hk k hk').trans (h.pre k hk')⟩
def SF (a:Array Keyed) (lo k:Nat):Prop:=∀i j,i<=j->j<k->K a (lo+i)<=K a (lo+j)
section
variable {prog:Program} {w:World} {A:Around} {E:Value->Shared->Prop} {s:Shared} [KL prog w A E s] {st st0:SortSt} {lo:Nat}
theorem wpS_at {i j:Nat} {Q:Option Bool->SortSt->Prop} (ok:Ok st) (hi:i<(arrOf st).size) (hj:j<(arrOf st).size) (h:Q (some (decide (K (arrOf st) i<K (arrOf st) j))) st):wpS (model prog w) A E s (ltAt' i j) Q st:=by
 rw [ltAt'_eq]
 refine wpS_bind (wpS_get ?_)
 refine wpS_bind (wpS_elem (Array.getElem?_eq_getElem hi) (wpS_bind (wpS_elem (Array.getElem?_eq_getElem hj) (wpS_lt2 ok.k (ok.n _ (by simp)) (ok.n _ (by simp)) ?_))))
 rw [K_nk hi,K_nk hj] at h
 exact h
theorem wpS_bin {n o:Nat} {Q:Bool->SortSt->Prop} (hB:SB lo st0 st) (hn:lo+n<=(arrOf st0).size) (ho:o<=n) (hs:SF (arrOf st) lo o) (h:∀st',SB lo st0 st'->SF (arrOf st') lo n->Q true st'):wpS (model prog w) A E s (binarySort' lo n o) Q st:=by
 rw [binarySort'_eq]
 refine wpS_bind (wpS_mono (wpS_forRange (I:=λk c st'=>c=(none,())/\SB lo st0 st'/\SF (arrOf st') lo (min k n)) (Q:=λc st'=>c=(none,())/\SB lo st0 st'/\SF (arrOf st') lo n) ?step ?fin ⟨rfl,hB,?init⟩) ?post)
 case post =>
  rintro c st' ⟨rfl,hB',hs'⟩
  exact wpS_pure (h st' hB' hs')
 case fin =>
  rintro c st' ⟨hc,hB',hs'⟩
  rw [show min (max (max o 1) n) n=n by (clear hs' hB' hc h hs ho hn hB;omega)] at hs'
  exact ⟨hc,hB',hs'⟩
 case init =>
  intro i j hij hj
  by_cases h1:o=0
  ·have:i=j:=by (clear h hs ho hn hB;omega)
   subst this;exact Int.le_refl _
  ·exact hs i j hij (by (clear hij h hs ho hn hB;omega))
 case step =>
  rintro k c st' hak hkn ⟨rfl,hB',hs'⟩
  have hsz:=hB'.size
  rw [show min k n=k by (clear hsz hs' hB' hak h hs ho hn hB;omega)] at hs'
  refine wpS_bind (wpS_mono (wpS_forRange (I:=λt c st2=>st2=st'/\∃l r,c=(none,l,r)/\l<=r/\r<=k/\r-l<=k-t/\(∀i,i<l->K (arrOf st') (lo+i)<=K (arrOf st') (lo+k))/\∀i,r<=i->i<k->K (arrOf st') (lo+k)<K (arrOf st') (lo+i))
   (Q:=λc st2=>st2=st'/\∃l,c=(none,l,l)/\l<=k/\(∀i,i<l->K (arrOf st') (lo+i)<=K (arrOf st') (lo+k))/\∀i,l<=i->i<k->K (arrOf st') (lo+k)<K (arrOf st') (lo+i)) ?js ?jf ⟨rfl,0,k,rfl,by (clear hsz hs' hB' hkn hak h hs ho hn hB;omega),by (clear hsz hs' hB' hkn hak h hs ho hn hB;omega),by (clear hsz hs' hB' hkn hak h hs ho hn hB;omega),λi hi=>by (clear hsz hs' hB' hkn hak h hs ho hn hB;omega),λi h1 h2=>by (clear hsz hs' hB' hkn hak h hs ho hn hB;omega)⟩) ?jp)
  case jf =>
   rintro c st2 ⟨rfl,l,r,rfl,b1,b2,b3,b4,b5⟩
   have:l=r:=by (clear b5 b4 b2 hsz hs' hB' hkn hak h hs ho hn hB;omega)
   subst this
   exact ⟨rfl,l,rfl,b2,b4,b5⟩
  case js =>
   rintro t c st2 _ ht ⟨rfl,l,r,rfl,b1,b2,b3,b4,b5⟩
   dsimp only
   by_cases hge:l ≥ r
   ·rw [if_pos hge]
    have:l=r:=by (clear b5 b4 b3 b2 hsz hs' hB' ht hkn hak h hs ho hn hB;omega)
    subst this
    exact wpS_pure ⟨rfl,l,rfl,b2,b4,b5⟩
   ·rw [if_neg hge]
    refine wpS_bind (wpS_at hB'.ok (by (clear hge b5 b4 b3 b2 b1 hs' hB' ht hak h hs ho hB;omega)) (by (clear hge b5 b4 b3 hs' hB' ht hak h hs ho hB;omega)) ?_)
    dsimp only
    by_cases hl:K (arrOf st2) (lo+k)<K (arrOf st2) (lo+(l+r) / 2)
    ·simp only [hl,decide_true,if_true]
     exact wpS_pure ⟨rfl,_,_,rfl,by (clear hl hge b5 b4 b3 b2 hsz hs' hB' ht hkn hak h hs ho hn hB;omega),by (clear hl hge b5 b4 b3 hsz hs' hB' ht hkn hak h hs ho hn hB;omega),by (clear hl hge b5 b4 b2 b1 hsz hs' hB' ht hkn hak h hs ho hn hB;omega),b4,λi h1 h2=>Int.lt_of_lt_of_le hl (hs' _ _ h1 h2)⟩
    ·simp only [hl,decide_false,Bool.false_eq_true,if_false]
     exact wpS_pure ⟨rfl,_,_,rfl,by (clear hl b5 b4 b3 b2 b1 hsz hs' hB' ht hkn hak h hs ho hn hB;omega),by (clear hl hge b5 b4 b3 b1 hsz hs' hB' ht hkn hak h hs ho hn hB;omega),by (clear hl hge b5 b4 b2 b1 hsz hs' hB' ht hkn hak h hs ho hn hB;omega),λi h1=>Int.le_trans (hs' i ((l+r) / 2) (by (clear hl hge b5 b4 b3 b2 b1 hsz hs' hB' ht hkn hak h hs ho hn hB;omega)) (by (clear h1 hl b5 b4 b3 b1 hsz hs' hB' ht hkn hak h hs ho hn hB;omega))) (Int.not_lt.mp hl),b5⟩
  case jp =>
   rintro c st2 ⟨rfl,l,rfl,b1,b2,b3⟩
   dsimp only
   rw [moveDown'_eq]
   have hks:lo+k<(arrOf st2).size:=by (clear b3 b2 b1 hs' hB' hak h hs ho hB;omega)
   refine wpS_bind (wpS_modify (wpS_pure ⟨rfl,hB'.arr (bubble_perm _ _ _) (λq hq=>?_),?_⟩))
   ·rw [getElem?_bubble hks _ (by (clear hq hks b3 b2 b1 hsz hs' hB' hkn hak h hs ho hn hB;omega)),if_neg (by (clear hks b3 b2 b1 hsz hs' hB' hkn hak h hs ho hn hB;omega)),if_neg (by (clear hks b3 b2 b1 hsz hs' hB' hkn hak h hs ho hn hB;omega))]
   ·rw [show min (k+1) n=k+1 by (clear hks b3 b2 b1 hsz hs' hB' hak h hs ho hn hB;omega)]
    intro i j hij hj
    show K (bubble (arrOf st2) (lo+k) (lo+k-(lo+l))) (lo+i)<=K (bubble (arrOf st2) (lo+k) (lo+k-(lo+l))) (lo+j)
    rw [K_bub hks (by (clear hj hij hks b3 b2 b1 hsz hs' hB' hkn hak h hs ho hn hB;omega)),K_bub hks (by (clear hj hij hks b3 b2 b1 hsz hs' hB' hkn hak h hs ho hn hB;omega)),show lo+k-(lo+k-(lo+l))=lo+l by (clear hj hij hks b3 b2 hsz hs' hB' hkn hak h hs ho hn hB;omega)]
    by_cases i1:i<l
    ·rw [if_neg (by (clear hj hij hks b3 b2 b1 hsz hs' hB' hkn hak h hs ho hn hB;omega)),if_neg (by (clear hj hij hks b3 b2 b1 hsz hs' hB' hkn hak h hs ho hn hB;omega))]
     by_cases j1:j<l
     ·rw [if_neg (by (clear i1 hj hij hks b3 b2 b1 hsz hs' hB' hkn hak h hs ho hn hB;omega)),if_neg (by (clear i1 hj hij hks b3 b2 b1 hsz hs' hB' hkn hak h hs ho hn hB;omega))];exact hs' i j hij (by (clear i1 hj hij hks b3 b2 hsz hs' hB' hkn hak h hs ho hn hB;omega))
     ·by_cases j2:j=l
      ·rw [if_pos (by (clear j1 i1 hj hij hks b3 b2 b1 hsz hs' hB' hkn hak h hs ho hn hB;omega))];exact b2 i i1
      ·rw [if_neg (by (clear j1 i1 hj hij hks b3 b2 b1 hsz hs' hB' hkn hak h hs ho hn hB;omega)),if_pos (by (clear i1 hij hks b3 b2 b1 hsz hs' hB' hkn hak h hs ho hn hB;omega)),show lo+j-1=lo+(j-1) by (clear j2 hj hij hks b3 b2 b1 hsz hs' hB' hkn hak h hs ho hn hB;omega)]
       exact hs' i (j-1) (by (clear j2 hj hij hks b3 b2 b1 hsz hs' hB' hkn hak h hs ho hn hB;omega)) (by (clear j2 j1 i1 hij hks b3 b2 b1 hsz hs' hB' hkn h hs ho hn hB;omega))
    ·by_cases i2:i=l
     ·rw [if_pos (by (clear i1 hj hij hks b3 b2 b1 hsz hs' hB' hkn hak h hs ho hn hB;omega))]
      by_cases j2:j=l
      ·rw [if_pos (by (clear i2 i1 hj hij hks b3 b2 b1 hsz hs' hB' hkn hak h hs ho hn hB;omega))];exact Int.le_refl _
      ·rw [if_neg (by (clear i2 i1 hj hij hks b3 b2 b1 hsz hs' hB' hkn hak h hs ho hn hB;omega)),if_pos (by (clear i2 hks b3 b2 b1 hsz hs' hB' hkn hak h hs ho hn hB;omega)),show lo+j-1=lo+(j-1) by (clear i2 hj hks b3 b2 b1 hsz hs' hB' hkn hak h hs ho hn hB;omega)]
       exact Int.le_of_lt (b3 _ (by (clear i2 hj hks b3 b2 b1 hsz hs' hB' hkn hak h hs ho hn hB;omega)) (by (clear j2 i2 i1 hij hks b3 b2 b1 hsz hs' hB' hkn h hs ho hn hB;omega)))
     ·rw [if_neg (by (clear i1 hj hij hks b3 b2 b1 hsz hs' hB' hkn hak h hs ho hn hB;omega)),if_pos (by (clear hks b3 b2 b1 hsz hs' hB' hkn hak h hs ho hn hB;omega)),if_neg (by (clear hj hks b3 b2 b1 hsz hs' hB' hkn hak h hs ho hn hB;omega)),if_pos (by (clear hks b3 b2 b1 hsz hs' hB' hkn hak h hs ho hn hB;omega)),show lo+j-1=lo+(j-1) by (clear hj hks b3 b2 b1 hsz hs' hB' hkn hak h hs ho hn hB;omega),show lo+i-1=lo+(i-1) by (clear hj hij hks b3 b2 b1 hsz hs' hB' hkn hak h hs ho hn hB;omega)]
      exact hs' _ _ (by (clear i2 i1 hj hks b3 b2 b1 hsz hs' hB' hkn hak h hs ho hn hB;omega)) (by (clear i2 i1 hij hks b3 b2 b1 hsz hs' hB' hkn h hs ho hn hB;omega))
end
end Srt
namespace Srt
open PySem PyProof.Rows
open KN (nk isN kind)
variable [KN]
section
variable {prog:Program} {w:World} {A:Around} {E:Value->Shared->Prop} {s:Shared} [KL prog w A E s] {st st0:SortSt} {lo:Nat}
def NI (a:Array Keyed) (lo k:Nat):Prop:=∀i j,i<=j->j<k->K a (lo+j)<=K a (lo+i)
theorem SF.one {a:Array Keyed} {lo:Nat}:SF a lo 1:=λi j hij hj=>by
 have:i=j:=by omega
 subst this;exact Int.le_refl _
theorem SF.more {a:Array Keyed} {lo n:Nat} (h:SF a lo n) (h1:1<=n) (hn:¬K a (lo+n)<K a (lo+n-1)):SF a lo (n+1):=λi j hij hj=>by
 by_cases hjn:j<n
 ·exact h i j hij hjn
 ·have:j=n:=by (clear hij hn h1 h;omega)
  subst this
  by_cases hi:i=j
  ·subst hi;exact Int.le_refl _
  ·have:=h i (j-1) (by (clear hjn hj hn h1 h;omega)) (by (clear hi hjn hj hn h hij;omega))
   rw [show lo+(j-1)=lo+j-1 by (clear this hi hjn hj hn h hij;omega)] at this
   (clear hi hjn hj h1 h hij;omega)
theorem NI.more {a:Array Keyed} {lo n:Nat} (h:NI a lo n) (h1:1<=n) (hn:K a (lo+n)<=K a (lo+n-1)):NI a lo (n+1):=λi j hij hj=>by
 by_cases hjn:j<n
 ·exact h i j hij hjn
 ·have:j=n:=by (clear hij hn h1 h;omega)
  subst this
  by_cases hi:i=j
  ·subst hi;exact Int.le_refl _
  ·have:=h i (j-1) (by (clear hjn hj hn h1 h;omega)) (by (clear hi hjn hj hn h hij;omega))
   rw [show lo+(j-1)=lo+j-1 by (clear this hi hjn hj hn h hij;omega)] at this
   (clear hi hjn hj h1 h hij;omega)
theorem SB.mir {i j:Nat} (h:SB lo st0 st) (hi:lo<=i) (hj:j<=(arrOf st).size):SB lo st0 (setArr st (mirror (arrOf st) i j ((j-i) / 2))) :=
 h.arr (mirror_perm _ _ _ _) λk hk=>by rw [getElem?_mirror_all hj,if_neg (by (clear hj h;omega))]
theorem wpS_rev {i j:Nat} {Q:Unit->SortSt->Prop} (h:Q () (setArr st (mirror (arrOf st) i j ((j-i) / 2)))):wpS (model prog w) A E s (reverseSlice' i j) Q st:=by
 rw [reverseSlice'_eq];exact wpS_modify h
theorem wpS_asc {a nrem:Nat} {Q:Option (Option Nat) × Nat->SortSt->Prop} (hB:SB lo st0 st) (hn:lo+nrem<=(arrOf st0).size) (ha:1<=a) (han:a<=nrem) (hs:SF (arrOf st) lo a)
  (h:∀n,a<=n->n<=nrem->SF (arrOf st) lo n->(n=nrem\/K (arrOf st) (lo+n)<K (arrOf st) (lo+n-1))->Q (none,n) st) :
  wpS (model prog w) A E s (forIn [a:nrem] ((none,a):Option (Option Nat) × Nat) λ_ c=>do
   let x ← ltAt' (lo+c.2) (lo+c.2-1)
   match x with
   | some m=>if m=true then pure (ForInStep.done (none,c.2)) else pure (ForInStep.yield (none,c.2+1))
   | _=>pure (ForInStep.done (some none,c.2))) Q st:=by
 have hsz:=hB.size
 refine wpS_forRange (I:=λx c st'=>st'=st/\c=(none,x)/\SF (arrOf st) lo x) ?step ?fin ⟨rfl,rfl,hs⟩
 case fin =>
  rintro c st' ⟨rfl,rfl,hs'⟩
  rw [show max a nrem=nrem by omega] at hs' ⊢
  exact h nrem han (Nat.le_refl _) hs' (.inl rfl)
 case step =>
  rintro x c st' hax hxn ⟨rfl,rfl,hs'⟩
  dsimp only
  refine wpS_bind (wpS_at hB.ok (by (clear hs' h hs hB hax han ha;omega)) (by (clear hs' h hs hB hax han ha;omega)) ?_)
  by_cases hl:K (arrOf st') (lo+x)<K (arrOf st') (lo+x-1)
  ·simp only [hl,decide_true,if_true]
   exact wpS_pure (h x hax (by (clear hl hs' hsz h hs hB hax han ha hn;omega)) hs' (.inr hl))
  ·simp only [hl,decide_false,Bool.false_eq_true,if_false]
   exact wpS_pure ⟨rfl,rfl,hs'.more (by (clear hl hs' hsz h hs hB hxn han hn;omega)) hl⟩
theorem mir_K {xs:Array Keyed} {i j:Nat} (hj:j<=xs.size) (k:Nat):K (mirror xs i j ((j-i) / 2)) k=if i<=k/\k<j then K xs (i+j-1-k) else K xs k:=K_mir hj k
theorem mir_same {xs:Array Keyed} {i j:Nat} (hj:j<=xs.size) (he:∀k,i<=k->k<j->K xs k=K xs (j-1)) (k:Nat):K (mirror xs i j ((j-i) / 2)) k=K xs k:=K_mir_same hj he k
theorem wpS_run {nrem:Nat} {Q:Option Nat->SortSt->Prop} (hB:SB lo st0 st) (hn:lo+nrem<=(arrOf st0).size) (h1:1<=nrem)
  (h:∀m st',SB lo st0 st'->1<=m->m<=nrem->SF (arrOf st') lo m->Q (some m) st'):wpS (model prog w) A E s (countRun' lo nrem) Q st:=by
 rw [countRun'_eq]
 dsimp only
 have hsz:=hB.size
 refine wpS_bind (wpS_asc hB hn (Nat.le_refl 1) h1 SF.one λn n1 n2 n3 n4=>?_)
 dsimp only
 by_cases q1:n=nrem
 ·rw [if_pos (by simpa using q1)]
  exact wpS_pure (h n st hB n1 n2 n3)
 rw [if_neg (by simpa using q1)]
 have hlt:=n4.resolve_left q1
 refine' (λ(fin:∀st1,SB lo st0 st1->NI (arrOf st1) lo (n+1)->wpS (model prog w) A E s _ Q st1)=>?main) ?later
 case main =>
  by_cases q2:n > 1
  ·rw [if_pos q2]
   refine wpS_bind (wpS_at hB.ok (by (clear fin q2 hlt q1 n4 n3 n2 n1 h hB;omega)) (by (clear fin q2 hlt q1 n4 n3 n1 h hB;omega)) ?_)
   dsimp only
   by_cases q3:K (arrOf st) lo<K (arrOf st) (lo+n-1)
   ·simp only [q3,decide_true,if_true]
    exact wpS_pure (h n st hB n1 n2 n3)
   simp only [q3,decide_false,Bool.false_eq_true,if_false]
   have hall:∀k,lo<=k->k<lo+n->K (arrOf st) k=K (arrOf st) (lo+n-1):=λk a b=>by
    have a1:=n3 0 (k-lo) (by (clear fin b a q3 q2 hlt q1 n4 n3 n2 n1 hsz h h1 hn hB;omega)) (by (clear fin a q3 q2 hlt q1 n4 n3 n2 hsz h h1 hn hB;omega))
    have a2:=n3 (k-lo) (n-1) (by (clear fin a1 a q3 q2 hlt q1 n4 n3 n2 n1 hsz h h1 hn hB;omega)) (by (clear fin a1 b a q3 q2 hlt q1 n4 n3 n2 hsz h h1 hn hB;omega))
    rw [Nat.add_zero,show lo+(k-lo)=k by (clear fin a2 a1 b q3 q2 hlt q1 n4 n3 n2 n1 hsz h h1 hn hB;omega)] at a1
    rw [show lo+(k-lo)=k by (clear fin a2 a1 b q3 q2 hlt q1 n4 n3 n2 n1 hsz h h1 hn hB;omega),show lo+(n-1)=lo+n-1 by (clear fin a2 a1 b a q3 q2 hlt q1 n4 n3 n2 hsz h h1 hn hB;omega)] at a2
    (clear fin b a q2 hlt q1 n4 n3 n2 n1 hsz h h1 hn hB;omega)
   refine wpS_bind (wpS_rev ?_)
   have hB1:=hB.mir (i:=lo) (j:=lo+n) (Nat.le_refl _) (by (clear fin hall q3 q2 hlt q1 n4 n3 n1 h h1 hB;omega))
   have hN1:NI (arrOf (setArr st (mirror (arrOf st) lo (lo+n) ((lo+n-lo) / 2)))) lo (n+1):=by
    intro i j hij hj
    show K (mirror (arrOf st) lo (lo+n) ((lo+n-lo) / 2)) (lo+j)<=K (mirror (arrOf st) lo (lo+n) ((lo+n-lo) / 2)) (lo+i)
    rw [mir_same (by (clear fin hj hij hB1 hall q3 q2 hlt q1 n4 n3 n1 h h1 hB;omega)) hall,mir_same (by (clear fin hj hij hB1 hall q3 q2 hlt q1 n4 n3 n1 h h1 hB;omega)) hall]
    by_cases hjn:j<n
    ·rw [hall _ (by (clear fin hjn hj hij hB1 hall q3 q2 hlt q1 n4 n3 n2 n1 hsz h h1 hn hB;omega)) (by (clear fin hj hij hB1 hall q3 q2 hlt q1 n4 n3 n2 n1 hsz h h1 hn hB;omega)),hall (lo+i) (by (clear fin hjn hj hij hB1 hall q3 q2 hlt q1 n4 n3 n2 n1 hsz h h1 hn hB;omega)) (by (clear fin hj hB1 hall q3 q2 hlt q1 n4 n3 n2 n1 hsz h h1 hn hB;omega))];exact Int.le_refl _
    ·have:j=n:=by (clear fin hij hB1 hall q3 q2 hlt q1 n4 n3 n2 n1 hsz h h1 hn hB;omega)
     subst this
     by_cases hi:i=j
     ·subst hi;exact Int.le_refl _
     ·rw [hall (lo+i) (by (clear fin hi hjn hj hB1 hall q3 q2 hlt q1 n4 n3 n2 n1 hij hsz h h1 hn hB;omega)) (by (clear fin hjn hj hB1 hall q3 q2 hlt q1 n4 n3 n2 n1 hsz h h1 hn hB;omega))];exact Int.le_of_lt hlt
   exact fin _ hB1 hN1
  ·rw [if_neg q2]
   have hn1:n=1:=by (clear fin hlt q1 n4 n3 n2 hsz h h1 hn hB;omega)
   have hB1:=hB
   have hN1:NI (arrOf st) lo (n+1):=NI.more (λi j hij hj=>by
    have:i=j:=by (clear fin hB1 hn1 hlt q1 n4 n3 n2 n1 hsz h h1 hn hB;omega)
    subst this;exact Int.le_refl _) (by (clear fin hB1 hn1 q2 hlt q1 n4 n3 n2 hsz h h1 hn hB;omega)) (Int.le_of_lt hlt)
   exact fin _ hB1 hN1
 case later =>
  intro st1 hB1 hN1
  clear hB n3 n4 hlt hsz
  have hsz1:=hB1.size
  refine wpS_bind (wpS_lift (wpAny_rule ⟨rfl,?_⟩))
  refine wpS_bind (wpS_mono (wpS_forRange (I:=λx c st'=>∃q,c=(none,x,q)/\SB lo st0 st'/\NI (arrOf st') lo x/\q+1<=x/\∀i,lo+x-(q+1)<=i->i<lo+x->K (arrOf st') i=K (arrOf st') (lo+x-1))
   (Q:=λc st'=>∃x q,c=(none,x,q)/\n+1<=x/\x<=nrem/\SB lo st0 st'/\NI (arrOf st') lo x/\q+1<=x/\∀i,lo+x-(q+1)<=i->i<lo+x->K (arrOf st') i=K (arrOf st') (lo+x-1)) ?step ?fin ⟨0,rfl,hB1,hN1,by omega,λi a b=>by congr 1;omega⟩) ?post)
  case fin =>
   rintro c st' ⟨q,rfl,b1,b2,b3,b4⟩
   rw [show max (n+1) nrem=nrem by omega] at *
   exact ⟨nrem,q,rfl,by omega,by omega,b1,b2,b3,b4⟩
  case step =>
   rintro x c st' hx1 hx2 ⟨q,rfl,b1,b2,b3,b4⟩
   dsimp only
   have hz:=b1.size
   refine wpS_bind (wpS_at b1.ok (by omega) (by omega) ?_)
   dsimp only
   by_cases hl:K (arrOf st') (lo+x)<K (arrOf st') (lo+x-1)
   ·simp only [hl,decide_true,if_true]
    by_cases hq:q > 0
    ·rw [if_pos hq]
     refine wpS_bind (wpS_rev (wpS_pure ⟨0,rfl,b1.mir (by omega) (by omega),λi j hij hj=>?_,by omega,λi a b=>by congr 1;omega⟩))
     show K (mirror (arrOf st') _ _ _) _<=K (mirror (arrOf st') _ _ _) _
     rw [mir_same (by omega) (λk a b=>b4 k (by omega) b),mir_same (by omega) (λk a b=>b4 k (by omega) b)]
     exact b2.more (by omega) (Int.le_of_lt hl) i j hij hj
    ·rw [if_neg hq]
     exact wpS_pure ⟨0,rfl,b1,b2.more (by omega) (Int.le_of_lt hl),by omega,λi a b=>by congr 1;omega⟩
   ·simp only [hl,decide_false,Bool.false_eq_true,if_false]
    refine wpS_bind (wpS_at b1.ok (by omega) (by omega) ?_)
    dsimp only
    by_cases hl2:K (arrOf st') (lo+x-1)<K (arrOf st') (lo+x)
    ·simp only [hl2,decide_true,if_true]
     exact wpS_pure ⟨x,q,rfl,by omega,by omega,b1,b2,b3,b4⟩
    ·simp only [hl2,decide_false,Bool.false_eq_true,if_false]
     have he:K (arrOf st') (lo+x)=K (arrOf st') (lo+x-1):=by omega
     refine wpS_pure ⟨q+1,rfl,b1,b2.more (by omega) (by omega),by omega,λi a b=>?_⟩
     rw [show lo+(x+1)-1=lo+x by omega]
     by_cases hi:i=lo+x
     ·rw [hi]
     ·rw [he];exact b4 i (by omega) (by omega)
  case post =>
   rintro c st' ⟨x,q,rfl,c1,c2,b1,b2,b3,b4⟩
   dsimp only
   have hz:=b1.size
   by_cases hq:q > 0
   rw [if_pos hq]
   refine wpS_bind (wpS_rev ?_)
   have b1':=b1.mir (i:=lo+x-(q+1)) (j:=lo+x) (by omega) (by omega)
   have b2':NI (arrOf (setArr st' (mirror (arrOf st') (lo+x-(q+1)) (lo+x) ((lo+x-(lo+x-(q+1))) / 2)))) lo x:=λi j hij hj=>by
    show K (mirror (arrOf st') _ _ _) _<=K (mirror (arrOf st') _ _ _) _
    rw [mir_same (by omega) b4,mir_same (by omega) b4]
    exact b2 i j hij hj
   generalize setArr st' (mirror (arrOf st') (lo+x-(q+1)) (lo+x) ((lo+x-(lo+x-(q+1))) / 2))=st2 at b1' b2' ⊢
   rotate_left
   rw [if_neg hq]
   have b1':=b1
   have b2':=b2
   clear b1 b2 b4 hz
   generalize st'=st2 at b1' b2' ⊢
   all_goals
    have hz2:=b1'.size
    refine wpS_bind (wpS_rev ?_)
    have b3':=b1'.mir (i:=lo) (j:=lo+x) (Nat.le_refl _) (by omega)
    refine wpS_bind (wpS_asc b3' hn (by omega) c2 (λi j hij hj=>?_) λm m1 m2 m3 _=>?_)
    ·show K (mirror (arrOf st2) lo (lo+x) _) _<=K (mirror (arrOf st2) lo (lo+x) _) _
     rw [mir_K (by omega),mir_K (by omega),if_pos (by omega),if_pos (by omega),show lo+(lo+x)-1-(lo+i)=lo+(x-1-i) by omega,show lo+(lo+x)-1-(lo+j)=lo+(x-1-j) by omega]
     exact b2' _ _ (by omega) (by omega)
    ·exact wpS_pure (h m _ b3' (by omega) m2 m3)
end
end Srt
namespace Srt
open PySem PyProof.Rows
open KN (nk isN kind)
variable [KN]
def Pd:Nat->List (List Keyed)->List (Nat × Nat × Nat)->Prop
 | _,[],[]=>True
 | o,R::rs,(a,n,_)::ps=>a=o/\n=R.length/\Pd (o+R.length) rs ps
 | _,_,_=>False
theorem Pd.len:∀{o:Nat} {rs:List (List Keyed)} {ps:List (Nat × Nat × Nat)},Pd o rs ps->ps.length=rs.length
 | _,[],[],_=>rfl
 | _,R::rs,(a,n,w)::ps,h=>by rw [List.length_cons,List.length_cons,Pd.len h.2.2]
 | _,[],_::_,h=>h.elim
 | _,_::_,[],h=>h.elim
theorem Pd.merge:∀{o:Nat} {rs1:List (List Keyed)} {C B:List Keyed} {rs2:List (List Keyed)} {ps:List (Nat × Nat × Nat)},Pd o (rs1++C::B::rs2) ps ->
  ∃pw pw',ps[rs1.length]? = some (o+rs1.flatten.length,C.length,pw)/\ps[rs1.length+1]? = some (o+rs1.flatten.length+C.length,B.length,pw')/\∀R:List Keyed,R.length=C.length+B.length->Pd o (rs1++R::rs2) ((ps.set rs1.length (o+rs1.flatten.length,C.length+B.length,pw)).eraseIdx (rs1.length+1))
 | o,[],C,B,rs2,(a,n,w)::(a',n',w')::ps,h=>by
  obtain ⟨rfl,rfl,rfl,rfl,h⟩:=h
  refine ⟨w,w',by simp,by simp,λR hR=>?_⟩
  exact ⟨by simp,by rw [hR],by rw [hR,← Nat.add_assoc];exact h⟩
 | o,D::rs1,C,B,rs2,(a,n,w)::ps,h=>by
  obtain ⟨rfl,rfl,h⟩:=h
  obtain ⟨pw,pw',h1,h2,h3⟩:=Pd.merge h
  have e:a+(D::rs1).flatten.length=a+D.length+rs1.flatten.length:=by simp;(clear h3 h2 h1 h;omega)
  refine ⟨pw,pw',?_,?_,λR hR=>⟨rfl,rfl,?_⟩⟩
  ·rw [e];exact h1
  ·rw [e];exact h2
  ·rw [e];exact h3 R hR
 | _,[],_,_,_,[],h=>h.elim
 | _,[],_,_,_,[_],h=>by obtain ⟨_,_,h⟩:=h;exact h.elim
 | _,_::_,_,_,_,[],h=>h.elim
theorem Pd.snoc:∀{o:Nat} {rs:List (List Keyed)} {R:List Keyed} {ps:List (Nat × Nat × Nat)},Pd o rs ps->Pd o (rs++[R]) (ps++[(o+rs.flatten.length,R.length,0)])
 | o,[],R,[],_=>⟨by simp,rfl,trivial⟩
 | o,D::rs,R,(a,n,w)::ps,h=>by
  obtain ⟨rfl,rfl,h⟩:=h
  refine ⟨rfl,rfl,?_⟩
  have:=Pd.snoc (R:=R) h
  rw [show a+(D::rs).flatten.length=a+D.length+rs.flatten.length by simp;(clear this h;omega)]
  exact this
 | _,[],_,_::_,h=>h.elim
 | _,_::_,_,[],h=>h.elim
theorem Pd.modify {o:Nat} {rs:List (List Keyed)} {pw:Nat}:∀{o:Nat} {rs:List (List Keyed)} {ps:List (Nat × Nat × Nat)} (i:Nat),Pd o rs ps->Pd o rs (ps.modify i λ(a,n,_)=>(a,n,pw))
 | o,[],[],i,_=>by simp;trivial
 | o,R::rs,(a,n,w)::ps,0,h=>h
 | o,R::rs,(a,n,w)::ps,i+1,h=>⟨h.1,h.2.1,Pd.modify (o:=o) (rs:=rs) i h.2.2⟩
 | _,[],_::_,_,h=>h.elim
 | _,_::_,[],_,h=>h.elim
structure RI (a₀:Array Keyed) (st:SortSt) (runs:List (List Keyed)) (T:List Keyed):Prop where
 ok:Ok st
 perm:(arrOf st).Perm a₀
 lst:(arrOf st).toList=runs.flatten++T
 pd:Pd 0 runs (pendingOf st).toList
 inc:∀R∈runs,Inc R/\0<R.length
section
variable {prog:Program} {w:World} {A:Around} {E:Value->Shared->Prop} {s:Shared} [KL prog w A E s] {st:SortSt} {a₀:Array Keyed} {runs:List (List Keyed)} {T:List Keyed}
theorem RI.psize (h:RI a₀ st runs T):(pendingOf st).size=runs.length:=by rw [← Array.length_toList];exact h.pd.len
theorem RI.alen (h:RI a₀ st runs T):runs.flatten.length+T.length=a₀.size:=by
 have:=congrArg List.length h.lst
 rw [List.length_append,Array.length_toList,h.perm.size_eq] at this
 (clear h;omega)
theorem wpS_mAtR {i:Nat} {Q:Bool->SortSt->Prop} (h:RI a₀ st runs T) (hi:i+1<runs.length) (hQ:∀st' runs',RI a₀ st' runs' T->runs'.length+1=runs.length->Q true st'):wpS (model prog w) A E s (mergeAt' i) Q st:=by
 obtain ⟨rs1,C,B,rs2,rfl,rfl⟩:∃rs1 C B rs2,runs=rs1++C::B::rs2/\rs1.length=i:=by
  refine ⟨runs.take i,runs[i],runs[i+1],runs.drop (i+2),?_,by rw [List.length_take];(clear hQ h;omega)⟩
  rw [← List.drop_eq_getElem_cons,← List.drop_eq_getElem_cons,List.take_append_drop]
 obtain ⟨pw,pw',h1,h2,h3⟩:=Pd.merge h.pd
 rw [Nat.zero_add] at h1 h2 h3
 have iC:=h.inc C (by simp)
 have iB:=h.inc B (by simp)
 refine wpS_mAt (P:=rs1.flatten) (C:=C) (B:=B) (S:=rs2.flatten++T) (pw:=pw) (pw':=pw') h.ok (by rw [← Array.getElem?_toList];exact h1) (by rw [← Array.getElem?_toList];exact h2) (by rw [h.lst];simp) iC.2 iB.2 iC.1 iB.1 λst' R o1 o2 o3 o4 o5=>?_
 have lR:R.length=C.length+B.length:=by rw [o4.length_eq,List.length_append]
 refine hQ st' (rs1++R::rs2) ⟨o1,?_,by rw [o3];simp,?_,λD hD=>?_⟩ (by simp;(clear lR o5 o4 o3 o2 o1 iB iC h3 h2 h1 hi hQ h;omega))
 ·refine Array.perm_iff_toList_perm.mpr ?_
  refine List.Perm.trans ?_ (Array.perm_iff_toList_perm.mp h.perm)
  rw [o3,h.lst]
  simp only [List.flatten_append,List.flatten_cons,List.append_assoc]
  refine List.Perm.append_left _ ?_
  rw [← List.append_assoc C]
  exact List.Perm.append_right _ o4
 ·rw [o2]
  have:=h3 R lR
  rw [Array.toList_eraseIdxIfInBounds,Array.toList_setIfInBounds]
  exact this
 ·simp only [List.mem_append,List.mem_cons] at hD
  rcases hD with hD | rfl | hD
  ·exact h.inc D (by simp [hD])
  ·exact ⟨o5,by (clear o5 o4 o3 o2 o1 iB h3 h2 h1 hi hQ h;omega)⟩
  ·exact h.inc D (by simp [hD])
theorem RI.cut {st2:SortSt} {n:Nat} (h:RI a₀ st runs T) (b:SB runs.flatten.length st st2) (hs:SF (arrOf st2) runs.flatten.length n) (hn:runs.flatten.length+n<=a₀.size) (h0:0<n) :
  ∃R T',R.length=n/\Inc R/\RI a₀ st2 runs (R++T'):=by
 have hsz:(arrOf st2).size=a₀.size:=b.size.trans h.perm.size_eq
 have hz2:(arrOf st2).toList.length=a₀.size:=by rw [Array.length_toList];exact hsz
 refine ⟨((arrOf st2).toList.drop runs.flatten.length).take n,(arrOf st2).toList.drop (runs.flatten.length+n),?_,?_,b.ok,b.perm.trans h.perm,?_,by rw [b.pend];exact h.pd,h.inc⟩
 ·rw [List.length_take,List.length_drop];(clear hsz h0 hs b h;omega)
 ·refine List.pairwise_iff_getElem.mpr λi j hi hj hij=>?_
  rw [List.length_take,List.length_drop] at hi hj
  have:=hs i j (by (clear hj hi hz2 hsz h0 hn hs b h;omega)) (by (clear hij hi hz2 hsz h0 hn hs b h;omega))
  rw [K_nk (by (clear this hij hj hz2 h0 hs b h;omega)),K_nk (by (clear this hij h0 hs b h;omega))] at this
  simpa [List.getElem_take,List.getElem_drop] using this
 ·have e1:(arrOf st2).toList.take runs.flatten.length=runs.flatten:=by
   have:(arrOf st2).toList.take runs.flatten.length=(arrOf st).toList.take runs.flatten.length:=by
    apply List.ext_getElem?
    intro k
    by_cases hk:k<runs.flatten.length
    ·rw [List.getElem?_take_of_lt hk,List.getElem?_take_of_lt hk,Array.getElem?_toList,Array.getElem?_toList]
     exact b.pre k hk
    ·rw [List.getElem?_eq_none (by rw [List.length_take];(clear hz2 hsz h0 hn hs b h;omega)),List.getElem?_eq_none (by rw [List.length_take];(clear hz2 hsz h0 hn hs b h;omega))]
   rw [this,h.lst,List.take_left]
  have e2:((arrOf st2).toList.drop runs.flatten.length).take n++(arrOf st2).toList.drop (runs.flatten.length+n)=(arrOf st2).toList.drop runs.flatten.length:=by
   rw [← List.drop_drop,List.take_append_drop]
  rw [e2]
  have:=List.take_append_drop runs.flatten.length (arrOf st2).toList
  rw [e1] at this
  exact this.symm
theorem RI.push {R:List Keyed} {T':List Keyed} (h:RI a₀ st runs (R++T')) (iR:Inc R) (l0:0<R.length) {lo:Nat} (hlo:runs.flatten.length=lo):RI a₀ (setPending st ((pendingOf st).push (lo,R.length,0))) (runs++[R]) T':=by
 refine ⟨⟨h.ok.k,h.ok.n,h.ok.f⟩,h.perm,by show (arrOf st).toList=_;rw [h.lst];simp,?_,λD hD=>?_⟩
 ·show Pd 0 (runs++[R]) ((pendingOf st).push (lo,R.length,0)).toList
  rw [Array.toList_push]
  have:=h.pd.snoc (R:=R)
  rw [Nat.zero_add,hlo] at this
  exact this
 ·rcases List.mem_append.mp hD with hD | hD
  ·exact h.inc D hD
  ·rw [List.mem_singleton.mp hD];exact ⟨iR,l0⟩
theorem RI.mod {pw i:Nat} (h:RI a₀ st runs T):RI a₀ (setPending st ((pendingOf st).modify i λ(a,n,_)=>(a,n,pw))) runs T:=by
 refine ⟨⟨h.ok.k,h.ok.n,h.ok.f⟩,h.perm,h.lst,?_,h.inc⟩
 show Pd 0 runs ((pendingOf st).modify i λ(a,n,_)=>(a,n,pw)).toList
 rw [Array.toList_modify]
 exact Pd.modify (o:=0) (rs:=runs) i h.pd
theorem wpS_all {Q:Unit->SortSt->Prop} (ok:Ok st) (hp:pendingOf st = #[]) (h2:2<=(arrOf st).size)
  (h:∀st',(arrOf st').Perm (arrOf st)->failedOf st'=none->SortedTo (arrOf st') (arrOf st).size->Q () st'):wpS (model prog w) A E s sortRuns' Q st:=by
 rw [sortRuns'_eq]
 refine wpS_bind (wpS_get ?_)
 dsimp only
 generalize ha:arrOf st=a₀ at *
 have hR0:RI a₀ st [] a₀.toList:=⟨ok,by rw [ha],by rw [ha];rfl,by rw [hp];trivial,λR hR=>nomatch hR⟩
 generalize minRun' a₀.size a₀.size 0=mr
 refine wpS_bind (wpS_mono (wpS_forRange (I:=λx c st'=>∃lo runs T,c=(none,lo)/\RI a₀ st' runs T/\runs.flatten.length=lo/\x<=lo)
  (Q:=λc st'=>∃runs,c=(none,a₀.size)/\RI a₀ st' runs []) ?step ?fin ⟨0,[],_,rfl,hR0,rfl,Nat.le_refl _⟩) ?post)
 case fin =>
  rintro c st' ⟨lo,runs,T,rfl,ri,hl,hx⟩
  have:=ri.alen
  have hT:T=[]:=List.length_eq_zero_iff.mp (by (clear ri hR0 h h2 ha hp ok;omega))
  subst hT
  rw [List.length_nil,Nat.add_zero] at this
  exact ⟨runs,by rw [← this,hl],ri⟩
 case step =>
  rintro x c st' _ hx ⟨lo,runs,T,rfl,ri,hl,hxl⟩
  have hal:=ri.alen
  dsimp only
  by_cases hge:lo ≥ a₀.size
  ·rw [if_pos hge]
   have hT:T=[]:=List.length_eq_zero_iff.mp (by (clear hxl ri hx hR0 h h2 ha hp ok;omega))
   subst hT
   rw [List.length_nil,Nat.add_zero] at hal
   exact wpS_pure ⟨runs,by rw [← hal,hl],ri⟩
  rw [if_neg hge]
  have hz:(arrOf st').size=a₀.size:=ri.perm.size_eq
  subst hl
  have hB:SB runs.flatten.length st' st':=⟨ri.ok,Array.Perm.refl _,rfl,λ_ _=>rfl⟩
  refine wpS_bind (wpS_run hB (by (clear hB hge hxl ri hx hR0 h h2 ha hp ok;omega)) (by (clear hB hxl hz hal ri hx hR0 h h2 ha hp ok;omega)) λm st2 b m1 m2 m3=>?_)
  dsimp only
  by_cases hmr:m<mr
  rw [if_pos hmr]
  refine wpS_bind (wpS_lift (wpAny_rule ⟨rfl,?_⟩))
  refine wpS_bind (wpS_bin b (show runs.flatten.length+min (a₀.size-runs.flatten.length) mr<=(arrOf st').size by (clear hmr m3 m2 m1 b hB hge hxl ri hx hR0 h h2 ha hp ok;omega)) (by (clear m3 m1 b hB hge hxl hz hal ri hx hR0 h h2 ha hp ok;omega)) m3 λst3 b3 hs3=>?_)
  simp only [Bool.not_true,Bool.false_eq_true,if_false]
  have hn0:0<min (a₀.size-runs.flatten.length) mr:=by (clear hs3 b3 m3 m2 m1 b hB hxl hz hal ri hx hR0 h h2 ha hp ok;omega)
  have hn1:runs.flatten.length+min (a₀.size-runs.flatten.length) mr<=a₀.size:=by (clear hn0 hs3 b3 hmr m3 m2 m1 b hB hge hxl hz ri hx hR0 h h2 ha hp ok;omega)
  generalize min (a₀.size-runs.flatten.length) mr=n at hs3 hn0 hn1 ⊢
  rotate_left
  rw [if_neg hmr]
  have b3:=b
  have hs3:=m3
  have hn0:0<m:=by (clear hs3 b3 hmr m3 m2 b hB hge hxl hz hal ri hx hR0 h h2 ha hp ok;omega)
  have hn1:runs.flatten.length+m<=a₀.size:=by (clear hn0 hs3 b3 hmr m3 m1 b hB hge hxl hz ri hx hR0 h h2 ha hp ok;omega)
  clear b m3 m1 m2 hmr
  generalize m=n at hs3 hn0 hn1 ⊢
  generalize st2=st3 at b3 hs3 ⊢
  all_goals
   obtain ⟨R,T',lR,iR,ri2⟩:=ri.cut b3 hs3 hn1 hn0
   refine wpS_bind (wpS_get ?_)
   cases hb:(pendingOf st3).back? with
   | none =>
    dsimp only
    refine wpS_bind (wpS_modify (wpS_pure ⟨_,runs++[R],T',rfl,?_,by simp;omega,by omega⟩))
    rw [← lR]
    exact ri2.push iR (by omega) rfl
   | some t =>
    obtain ⟨s1,n1,w1⟩:=t
    dsimp only
    generalize power' a₀.size (2*s1+n1) (2*s1+n1+n1+n) a₀.size=pw
    refine wpS_bind (wpS_mono (wpS_forRange (I:=λx c st4=>c=(none,())/\∃runs',RI a₀ st4 runs' (R++T')) (Q:=λc st4=>c=(none,())/\∃runs',RI a₀ st4 runs' (R++T')) ?_ (λc st4 q=>q) ⟨rfl,runs,ri2⟩) ?_)
    ·rintro x c st4 _ _ ⟨rfl,runs',ri4⟩
     refine wpS_bind (wpS_get ?_)
     have hps:=ri4.psize
     by_cases hp1:(pendingOf st4).size > 1
     ·have e:(pendingOf st4)[(pendingOf st4).size-2]? = some ((pendingOf st4)[(pendingOf st4).size-2]'(by omega)):=Array.getElem?_eq_getElem _
      rw [if_pos hp1,e]
      dsimp only
      split
      ·exact wpS_pure ⟨rfl,runs',ri4⟩
      ·refine wpS_bind (wpS_mAtR ri4 (by omega) λst5 runs5 ri5 _=>?_)
       simp only [Bool.not_true,Bool.false_eq_true,if_false]
       exact wpS_pure ⟨rfl,runs5,ri5⟩
     ·rw [if_neg hp1]
      exact wpS_pure ⟨rfl,runs',ri4⟩
    ·rintro c st4 ⟨rfl,runs',ri4⟩
     dsimp only
     have hal2:=ri2.alen
     have hal4:=ri4.alen
     have hfl:runs'.flatten.length=runs.flatten.length:=by omega
     refine wpS_bind (wpS_modify (wpS_bind (wpS_modify (wpS_pure ⟨_,runs'++[R],T',rfl,?_,by rw [List.flatten_append,List.length_append,hfl];simp;omega,by omega⟩))))
     rw [← lR]
     exact (ri4.mod (pw:=pw)).push iR (by omega) hfl
 case post =>
  rintro c st' ⟨runs,rfl,ri⟩
  dsimp only
  have hal:=ri.alen
  have hrl:runs.length<=a₀.size:=by
   rw [List.length_nil,Nat.add_zero] at hal
   rw [← hal]
   have:∀l:List (List Keyed),(∀R∈l,Inc R/\0<R.length)->l.length<=l.flatten.length:=by
    intro l
    induction l with
    | nil=>intro _;exact Nat.le_refl _
    | cons D l ih =>
     intro hl
     have a1:=(hl D List.mem_cons_self).2
     have a2:=ih λR hR=>hl R (List.mem_cons_of_mem _ hR)
     rw [List.flatten_cons,List.length_append,List.length_cons];(clear hl ih hal ri hR0 h h2 ha hp ok;omega)
   exact this runs ri.inc
  refine wpS_bind (wpS_mono (wpS_forRange (I:=λx c st4=>c=(none,())/\∃runs',RI a₀ st4 runs' []/\(runs'.length<=1\/runs'.length+x<=a₀.size)) (Q:=λc st4=>c=(none,())/\∃runs',RI a₀ st4 runs' []/\runs'.length<=1) ?_ ?_ ⟨rfl,runs,ri,.inr (by (clear hal ri hR0 h h2 ha hp ok;omega))⟩) ?_)
  ·rintro x c st4 _ hx ⟨rfl,runs',ri4,hr⟩
   refine wpS_bind (wpS_get ?_)
   have hps:=ri4.psize
   by_cases hp1:(pendingOf st4).size<=1
   ·rw [if_pos hp1]
    exact wpS_pure ⟨rfl,runs',ri4,by (clear hr ri4 hx hrl hal ri hR0 h h2 ha hp ok;omega)⟩
   ·rw [if_neg hp1]
    refine wpS_bind (wpS_mAtR ri4 ?_ λst5 runs5 ri5 h5=>?_)
    ·split <;> split <;> omega
    ·simp only [Bool.not_true,Bool.false_eq_true,if_false]
     exact wpS_pure ⟨rfl,runs5,ri5,.inr (by (clear ri5 hp1 hps ri4 hrl hal ri hR0 h h2 ha hp ok;omega))⟩
  ·rintro c st4 ⟨rfl,runs',ri4,hr⟩
   refine ⟨rfl,runs',ri4,?_⟩
   (clear ri4 hrl hal ri hR0 h h2 ha hp ok;omega)
  ·rintro c st4 ⟨rfl,runs',ri4,hr⟩
   refine wpS_pure (h st4 ri4.perm ri4.ok.f ?_)
   have hl:=ri4.lst
   rw [List.append_nil] at hl
   intro i j hij hj
   have hz:(arrOf st4).size=a₀.size:=ri4.perm.size_eq
   refine inc_K ?_ hij (by (clear hij hl hr ri4 hrl hal ri hR0 h h2 ha hp ok;omega))
   rw [hl]
   match runs',hr,ri4 with
   | [],_,_=>exact List.Pairwise.nil
   | [R],_,ri4=>simpa using (ri4.inc R (by simp)).1
end
end Srt
namespace Srt
open PySem PyProof.Rows
def intKN:KN:=⟨λp=>numOf p.1,λp=>∃n t,p.1=.int n t,oneType'⟩
theorem intKL {prog:Program} {w:World} {A:Around} {E:Value->Shared->Prop} {s:Shared}:@KL intKN prog w A E s:=@KL.mk intKN prog w A E s λ{st x y Q} hk hx hy h=>by
 obtain ⟨n,t,ex⟩:=hx
 obtain ⟨m,u,ey⟩:=hy
 have hk:kindOf st=oneType':=hk
 have h:Q (some (decide (numOf x.1<numOf y.1))) st:=h
 rw [ex,ey] at h
 rw [lt'_eq]
 refine wpS_bind (wpS_get ?_)
 rw [hk,keyLt'_oneType,ex,ey]
 exact wpS_bind (wpS_lift (wpAny_attempt (oneLt_int ⟨rfl,wpS_pure h⟩)))
section
variable {prog:Program} {w:World} {A:Around} {E:Value->Shared->Prop} {s:Shared}
theorem sort_long {a:Addr} {vs:List Value} {ns:List Int} {n:Nat} {P:Fin->Shared->Prop} (ho:s.heap.get? a=some (seqObj "list" vs.toArray n)) (hI:IntsAre vs ns) (hv:vs.length<=100000)
  (h:∀(out:Array Value) (ns':List Int),IntsAre out.toList ns'->ns'.Perm ns->ns'.Pairwise (· <= ·)->P (.done (.ret .none)) { s with heap:=sortedHeap s.heap a vs out }) :
  wpAny (model prog w) A (Builtin.«list.sort» ⟨[.ref a],[]⟩) P E s:=by
 by_cases h64:vs.length<64
 ·exact list_sort_tree ho hI h64 h
 letI:KN:=intKN
 haveI:∀s1:Shared,KL prog w A E s1:=λ_=>intKL
 rw [list_sort_plain]
 have hbig:100000<=sizeLine:=by decide
 have ha:a<s.heap.objs.size:=Heap.lt_size ho
 refine wpAny_bind (listItems_at ho rfl ?_)
 refine wpAny_bind (listUpdate_at ho rfl ?_)
 obtain ⟨e1,ho1⟩:∃e1,(s.heap.update a (Obj.mapSeq λ_=>#[])).get? a=some (seqObj "list" #[] e1):=⟨_,get?_update_seq ho (λ_=>#[])⟩
 refine wpAny_bind (seqEpoch_at ho1 rfl ?_)
 refine wpAny_bind (wpAny_newTuple ?_ (by simp;omega))
 refine wpAny_bind (wpAny_newList ?_)
 refine wpAny_holding ?_
 have ho6:(((s.heap.update a (Obj.mapSeq λ_=>#[])).push (seqObj "tuple" vs.toArray 0)).push (seqObj "list" #[] 0)).get? a=some (seqObj "list" #[] e1):=by
  rw [Heap.get?_push_ne _ _ _ (by rw [size_push',Heap.size_update];exact Nat.ne_of_lt (Nat.lt_succ_of_lt ha)),Heap.get?_push_ne _ _ _ (by rw [Heap.size_update];exact Nat.ne_of_lt ha)]
  exact ho1
 show wpAny (model prog w) A _ P E { s with heap:=((s.heap.update a (Obj.mapSeq λ_=>#[])).push (seqObj "tuple" vs.toArray 0)).push (seqObj "list" #[] 0) }
 dsimp only
 have hsz:vs.toArray.size=vs.length:=by simp
 rw [if_neg (by omega),if_neg (by omega)]
 obtain ⟨v₁,v₂,rest,rfl⟩:∃v₁ v₂ rest,vs=v₁::v₂::rest:=by
  match vs,h64 with
  | [],h=>simp at h
  | [_],h=>simp at h
  | a::b::r,_=>exact ⟨a,b,r,rfl⟩
 rw [keyKind_ints hI]
 refine wpAny_bind (wpAny_pure ?_)
 refine wpAny_bind (wpAny_mono (wpS_all (st:=SortSt.mk' oneType' (pairsOf (v₁::v₂::rest)) #[] 7 none)
  (Q:=λ_ st'=>(arrOf st').Perm (pairsOf (v₁::v₂::rest))/\failedOf st'=none/\SortedTo (arrOf st') (pairsOf (v₁::v₂::rest)).size)
  ⟨rfl,λp hp=>hI.intKeys p hp,rfl⟩ rfl (by show 2<=(pairsOf (v₁::v₂::rest)).size;rw [pairsOf_size];simp) λst' a1 a2 a3=>⟨a1,a2,a3⟩) ?_ λ_ _ e=>e)
 rintro ⟨⟨⟩,st'⟩ s' ⟨rfl,hp,hf,hs⟩
 dsimp only
 obtain ⟨ns',q1,q2,q3⟩:=sorted_out hI hp hs
 refine wpAny_bind (seqEpoch_at ho6 rfl ?_)
 refine wpAny_bind (listUpdate_at ho6 rfl ?_ (hsz2:=by
  have e:((arrOf st').map (·.2)).size=(v₁::v₂::rest).length:=by rw [Array.size_map,hp.size_eq,pairsOf_size]
  show ((arrOf st').map (·.2)).size<=_
  omega))
 rw [hf]
 simp only [bne_self_eq_false,Bool.false_eq_true,if_false]
 exact wpAny_pure (h _ ns' q1 q2 q3)
end
end Srt
namespace L2
open PySem PySem.Spec PyProof.Rows
section
variable {X:Cx}
def rSortDL:List V->Hp->VK->Prop:=λxs H Q=>∃(a:Addr) (kvs:List (Key × V)) (ns:List Int),xs=[.ref a]/\Rd H a (.dK kvs)/\kvs.map (·.1)=ns.map Sum.inl/\kvs.length<=100000 /\
 ∀(out:List Int) D,out.Perm ns->out.Pairwise (· <= ·)->H D=none->Q (.ref D) (upd H D (.lst (out.map V.int)))
theorem call_sortDL (hc:X.calm=true):CallR X (.builtin "sorted") rSortDL:=by
 intro pins s σ H xs us Q I r h
 obtain ⟨a,kvs,ns,rfl,ha,hks,h64,q⟩:=h
 obtain ⟨u,rfl,ru⟩:=vals1 r
 cases ru
 obtain ⟨z,hs,vs,rel,dd⟩:=dk_rd I.hok ha
 obtain ⟨ep,da⟩:=dd.dictAt
 have hlen:kvs.length=vs.length:=Paired.length rel
 refine Calls.call_function_entry kind_sorted plain_sorted entry_sorted (args_sorted1 _) ?_
 unfold Builtin.«sorted»
 refine wpAny_bind (m:=checkCount "sorted" 1 1 _) (wpAny_pure ?_)
 refine wpAny_bind (collect_dict (PySem.W.kdl_dict (knd:=mixKind X.prog X.w) (kvs:=vs) (ep:=ep) hs) (I.ok.hd hc) da (by omega) λh1 tk us hk hul hit=>?_)
 have rv:Vals (kvs.map λkv=>kV kv.1) us:=vals_keys (P:=X.prog) (w:=X.w) rel hul λj v e=>hit j v e
 have rv':Vals (ns.map V.int) us:=by
  have:(kvs.map λkv=>kV kv.1)=ns.map V.int:=by
   have h0:(kvs.map λkv=>kV kv.1)=(kvs.map (·.1)).map kV:=by rw [List.map_map];rfl
   rw [h0,hks,List.map_map];rfl
  rw [← this];exact rv
 have hI:=ints_are rv'
 have hus:us.length<=100000:=by omega
 refine wpAny_bind (wpAny_newList ?_ (Nat.le_trans hus (by decide)))
 have hoL:(h1.push (seqObj "list" us.toArray 0)).get? h1.objs.size=some (seqObj "list" us.toArray 0):=Heap.get?_push_size _ rfl
 refine wpAny_bind (wpAny_holding (wpAny_call_entry slot_list_sort ⟨_,hoL,rfl⟩ entry_list_sort (Srt.sort_long hoL hI hus λout ns' a1 a2 a3=>⟨_,rfl,?_⟩) (args_list_sort _)))
 refine wpAny_pure ⟨_,rfl,?_⟩
 obtain ⟨e,he⟩:=sortedHeap_at (out:=out) hoL
 have I1:Inv X pins σ H { s with heap:=h1,toks:=tk }:=I.kept (t':=tk) hk
 have I2:Inv X pins σ (upd H h1.objs.size (.lst (ns'.map V.int))) { s with heap:=sortedHeap (h1.push (seqObj "list" us.toArray 0)) h1.objs.size us out,toks:=tk }:=by
  refine I1.laid (t':=tk) (λb o eb=>?_) (Nat.le_refl _) ⟨?_,out.toList,e,ints_vals a1,?_⟩
  ·have hb:=Heap.lt_size eb
   rw [sortedHeap_old (Nat.ne_of_lt hb) (by rw [size_push'];exact Nat.lt_succ_of_lt hb)]
   exact Heap.get?_push_of_some _ eb
  ·have:=a2.length_eq
   have h2:=rv'.length
   rw [List.length_map] at h2 ⊢
   rw [this,h2,sizeLine_eq];omega
  ·rw [Array.toArray_toList];exact he
 exact ⟨.ref h1.objs.size,_,I2,rfl,q ns' _ a2 a3 (I1.hok.fresh (Nat.le_refl _))⟩
end
end L2
namespace RV
open PySem PySem.Spec
def IsRev (h:Heap) (a t:Addr) (i:Int):Prop:=∃o,h.get? a=some o/\o.cls=.type "reversed" /\ o.data=.fields #[.ref t,rawInt i]
section
variable {prog:Program} {w:World} {A:Around} {E:Value->Shared->Prop} {s:Shared}
theorem IsRev.ty {a t:Addr} {i:Int} (x:IsRev s.heap a t i):s.TypeIs (.ref a) "reversed":=let ⟨o,ho,hc,_⟩:=x;⟨o,ho,hc⟩
theorem IsRev.at {h h':Heap} {a t:Addr} {i:Int} (x:IsRev h a t i) (e:∀o,h.get? a=some o->h'.get? a=some o):IsRev h' a t i:=let ⟨o,ho,r⟩:=x;⟨o,e _ ho,r⟩
end
end RV
namespace L2
open PySem PySem.Spec PyProof.Rows
section
variable {X:Cx} {tg:Expr}
end
end L2
namespace PT
open PySem PySem.Spec
section
variable {prog:Program} {w:World} {K:Type} [DecidableEq K] {knd:HeapKind prog w K} {A:Around} {E:Value->Shared->Prop} {s:Shared}
def wo (xs:List (K × Addr × Value)) (k:K):List (K × Addr × Value):=xs.filter λx=>decide (x.1≠k)
theorem wo_at {k:K}:∀{xs:List (K × Addr × Value)} {j:Nat} {p:Addr × Value},(xs.map (·.1)).Nodup->xs[j]? = some (k,p)->xs.eraseIdx j=wo xs k
 | x::xs,0,p,hn,h=>by
  cases h
  obtain ⟨h1,_⟩:=List.nodup_cons.mp hn
  unfold wo
  rw [List.eraseIdx_cons_zero,List.filter_cons_of_neg (by simp)]
  symm
  rw [List.filter_eq_self]
  intro y hy
  have:y.1≠k:=λe=>h1 (by rw [← e];exact List.mem_map.mpr ⟨y,hy,rfl⟩)
  simpa using this
 | x::xs,j+1,p,hn,h=>by
  obtain ⟨h1,h2⟩:=List.nodup_cons.mp hn
  have h':xs[j]? = some (k,p):=by simpa using h
  have hm:k∈xs.map (·.1):=List.mem_map.mpr ⟨_,List.mem_of_getElem? h',rfl⟩
  have hx:x.1≠k:=λe=>h1 (by show x.1∈_;rw [e];exact hm)
  rw [List.eraseIdx_cons_succ,wo_at h2 h']
  unfold wo
  rw [List.filter_cons_of_pos (by simpa using hx)]
theorem erase_map {α β:Type} {f:α->β}:∀{l:List α} {i:Nat},(l.map f).eraseIdx i=(l.eraseIdx i).map f
 | [],_=>rfl
 | _::_,0=>rfl
 | x::l,i+1=>by rw [List.map_cons,List.eraseIdx_cons_succ,List.eraseIdx_cons_succ,List.map_cons,erase_map]
theorem take_heap {d a:Addr} {xs:List (K × Addr × Value)} {k:K} {p:Addr × Value} {Q:Option DictEntry->Shared->Prop} (hu:knd.room A) (hkey:knd.is s.heap k a) (hm:s.heap.DictOfH knd d xs) (hz:xs.length<=sizeLine) (hp:atKey xs k=some p)
  (hQ:∀e h',e.val=p.2->h'.DictOfH knd d (wo xs k)->Heap.SameBut d s.heap h'->Q (some e) { s with heap:=h',toks:=s.toks+knd.draws k }):wpAny (model prog w) A (Builtin.Dict.takeOut d (.ref a)) Q E s:=by
 obtain ⟨o,es,ep,ho,hc,hd,he,his,hn⟩:=hm
 unfold Builtin.Dict.takeOut
 try with_reducible refine wpAny_holding ?_
 refine wpAny_bind (knd.pyHash hu hkey (wpAny_bind (wpAny_dictFind_heap (s:={ s with toks:=s.toks+knd.draws k }) hu hkey ho hd he his hn ?_ ?_)))
 ·intro hno
  rw [atKey_none_of_get hno] at hp
  cases hp
 ·intro j q hj
  rw [atKey_of_get hn hj] at hp
  cases hp
  refine wpAny_bind (wpAny_dictEntries (s:={ s with toks:=s.toks+knd.draws k }) ho hd ?_)
  rw [entry_at he j,hj]
  refine wpAny_bind (wpAny_updateDictKeys (hz:=by have e:=size_of_entries he;omega) (s:={ s with toks:=s.toks+knd.draws k }) ho hd (wpAny_pure (hQ _ _ rfl ⟨_,_,ep+1,Heap.get?_update_self _ ho (Obj.isFreed_of_dict (Obj.data_mapDictKeys hd _)),
   hc.mapDictKeys _,Obj.data_mapDictKeys hd _,?_,?_,?_⟩ (Heap.SameBut.update ..))))
  ·rw [← wo_at hn hj]
   obtain ⟨l⟩:=es
   have:l=xs.map (entryOfKey knd):=he
   subst this
   simp [erase_map]
  ·intro x hx
   exact knd.keeps (his x (List.mem_filter.mp hx).1) ho hd (Heap.SameBut.update ..)
  ·exact hn.sublist (List.filter_sublist.map _)
theorem pop_meets {d a:Addr}:MeetsIn prog w (Builtin.«dict.pop» ⟨[.ref d,.ref a],[]⟩) (λA R s=>knd.room A.in1/\∃k xs p,knd.is s.heap k a/\s.heap.DictOfH knd d xs/\xs.length<=sizeLine/\atKey xs k=some p /\
   ∀h',h'.DictOfH knd d (wo xs k)->Heap.SameBut d s.heap h'->R (.ok (.ret p.2)) { s with heap:=h',toks:=s.toks+knd.draws k }) :=
 .of_wp λA R s ⟨hu,k,xs,p,hkey,hm,hz,hp,h⟩=>by
  unfold Builtin.«dict.pop»
  refine wpAny_bind ?_
  unfold Builtin.Dict.keyAndDefault
  refine wpAny_bind (wpAny_notOrdered_dict hm.typeIs ?_)
  show wpAny _ _ (pure (d,Value.ref a,none)) _ _ s
  refine wpAny_pure ?_
  obtain ⟨o,es,ep,ho,hc,hd,he,his,hn⟩:=id hm
  have hne:es.isEmpty=false:=by
   cases hx:xs with
   | nil=>subst hx;cases hp
   | cons x r =>
    subst hx
    obtain ⟨l⟩:=es
    have:l=(x::r).map (entryOfKey knd):=he
    subst this
    rfl
  simp only [keyPart,Option.isSome_none,Bool.false_eq_true,if_false]
  refine wpAny_bind (m:=dictEntries d none) (wpAny_dictEntries ho hd ?_)
  refine wpAny_bind (wpAny_pure ?_)
  rw [hne]
  simp only [Bool.false_eq_true,if_false]
  refine wpAny_bind (take_heap hu hkey hm hz hp λe h' hv hm' hs'=>?_)
  simp only [Option.isNone_some,Bool.false_eq_true,if_false]
  exact wpAny_bind (wpAny_letGo (wpAny_pure ⟨e.val,rfl,by rw [hv];exact h h' hm' hs'⟩))
theorem len_meets {d:Addr} (hd:(d == sysModules)=false):MeetsIn prog w (Builtin.«dict.__len__» ⟨[.ref d],[]⟩) (λ_ R s=>∃xs,s.heap.DictOfH knd d xs/\R (.ok (.ret (.int xs.length s.toks))) { s with toks:=s.toks+1 }) :=
 .of_wp λA R s ⟨xs,hm,h⟩=>by
  obtain ⟨o,es,ep,ho,hc,hdat,he,his,hn⟩:=hm
  show wpAny _ _ (dictSize d >>= _) _ _ s
  unfold dictSize
  refine wpAny_bind (wpAny_bind (wpAny_dictEntries ho hdat (wpAny_pure ?_)))
  show wpAny _ _ (Builtin.Dict.pendingCount d >>= _) _ _ s
  refine wpAny_bind (wpAny_pendingCount_other hd ?_)
  refine wpAny_ret_mkInt ?_
  have:es.size=xs.length:=size_of_entries he
  rw [Nat.add_zero,this];exact h
theorem call_len {d:Addr} {xs:List (K × Addr × Value)} {Q:Value->Shared->Prop} (hd:(d == sysModules)=false) (hm:s.heap.DictOfH knd d xs) (hfit:(xs.length:Int)<2 ^ 63)
  (h:Q (.int xs.length (s.toks+1)) { s with toks:=s.toks+1+1 }):wpAny (model prog w) A (call (.builtin "len") [.ref d]) Q E s:=by
 refine Calls.call_function_entry kind_len plain_len entry_len (args_len1 _) ?_
 unfold Builtin.«len»
 refine wpAny_bind (m:=oneArg "len" _) (wpAny_pure ?_)
 refine wpAny_bind (m:=callSpecial? (.ref d) (Str.ofString "__len__")) (wpAny_callSpecial?_slot (name:=Str.ofString "__len__") hm.typeIs F.slot_dict_len
  (call_meetsIn F.slot_dict_len hm.typeIs F.entry_dict_len (F.args_dict_len_1 _) (len_meets (knd:=knd) hd) ⟨xs,hm,?_⟩))
 show wpAny _ _ _ _ _ { s with toks:=s.toks+1 }
 refine wpAny_bind (wpAny_holding (wpAny_pure ?_))
 refine wpAny_bind (wpAny_letGo ?_)
 show wpAny _ _ (if ((xs.length:Nat):Int)<0 then _ else _) _ _ _
 rw [if_neg (by omega)]
 show wpAny _ _ (if ((xs.length:Nat):Int) ≥ 2 ^ 63 then _ else _) _ _ _
 rw [if_neg (by omega)]
 exact wpAny_bind (wpAny_mkInt (wpAny_pure ⟨_,rfl,h⟩))
end
end PT
namespace L2
open PySem PySem.Spec PyProof.Rows
section
variable {X:Cx} {pins:List (Addr × Obj)} {σ:St} {H:Hp} {s:Shared} {a b:Addr} {kvs:List (List Key × V)} {k:List Key} {A:Around} {E:Value->Shared->Prop}
theorem KT.drop {H:Hp} {kvs:List (List Key × V)} {xs:List (List Key × Addr × Value)} (r:KT H kvs xs) (k:List Key):KT H (dropK kvs k) (PT.wo xs k):=by
 induction r with
 | nil=>exact .nil
 | @cons p q ps qs hq t ih =>
  unfold dropK PT.wo at *
  by_cases e:p.1=k
  ·rw [List.filter_cons_of_neg (by simpa using e),List.filter_cons_of_neg (by simpa using (hq.1.symm.trans e))]
   exact ih
  ·rw [List.filter_cons_of_pos (by simpa using e),List.filter_cons_of_pos (by simpa using (λz=>e (hq.1.trans z)))]
   exact .cons hq ih
theorem d_popT {v:V} {Q:Value->Shared->Prop} (hu:A.units+1<cLine) (I:Inv X pins σ H s) (e:H a=some (.dT kvs)) (eb:H b=some (.tup (k.map kV))) (l:valV kvs k=some v)
  (h:∀w' s',Inv X pins σ (upd H a (.dT (dropK kvs k))) s'->RelV v w'->Q w' s'):wpAny (model X.prog X.w) A (call (.builtin "dict.pop") [.ref a,.ref b]) Q E s:=by
 obtain ⟨z,hd,xs,rel,dd⟩:=dt_of I.hok e
 obtain ⟨w',hw,rw'⟩:=RelO.some_of (v:=v) (o:=(atKey xs k).map (·.2)) (by rw [← l];exact rel.val k)
 obtain ⟨p,hp,hp2⟩:=Option.map_eq_some_iff.mp hw
 have hz:xs.length<=sizeLine:=by rw [← Paired.length rel];exact z
 refine call_meetsIn PySem.F.slot_dict_pop dd.typeIs PySem.F.entry_dict_pop (PySem.F.args_dict_pop_2 _ _) (PT.pop_meets (knd:=tupleKind (mixKind X.prog X.w))) ⟨tupleKind_room_in1 hu,k,xs,p,key_of I.hok eb,dd,hz,hp,λh' dd' hs=>?_⟩
 rw [hp2]
 refine h w' _ ?_ rw'
 obtain ⟨q,es,ep,hq,h2,h3,h4,_,h5⟩:=dd'
 refine d_write I (by rw [e];exact True.intro) hs ⟨q,hq⟩ ⟨Nat.le_trans (dropK_le kvs k) z,hd,_,(rel.drop k).keeps λc ys ec=>?_,q,es,ep,hq,h2,h3,h4,h5⟩
 rw [upd_ne (ne_of ec e (λz=>nomatch z))]
 exact ec
end
end L2
namespace L2
open PySem PySem.Spec PyProof.Rows
section
variable {M:Model} {A:Around} {E:Value->Shared->Prop} {s:Shared}
end
section
variable {X:Cx}
end
end L2
namespace L2
open PySem PySem.Spec PyProof.Rows
section
variable {prog:Program} {w:World} {A:Around} {E:Value->Shared->Prop} {s:Shared}
end
section
variable {X:Cx}
end
end L2
namespace LR
open PySem PySem.Spec PyProof.Rows
theorem no_len:typeLookup (.type "list_reverseiterator") "__len__" = pure none:=by rw [typeLookup_type,builtinLookup_eq_fast];kernel_rfl
theorem has_hint:typeLookup (.type "list_reverseiterator") "__length_hint__" = pure (some (.builtin "list_reverseiterator.__length_hint__")):=by rw [typeLookup_type,builtinLookup_eq_fast];kernel_rfl
section
variable {prog:Program} {w:World} {A:Around} {E:Value->Shared->Prop} {s:Shared}
theorem hint {r:Addr} {Q:Bool->Shared->Prop} (ty:s.TypeIs (.ref r) "list_reverseiterator") (q:Q false s):wpAny (model prog w) A (Builtin.List.listLengthHint (.ref r)) Q E s:=by
 unfold Builtin.List.listLengthHint
 refine wpAny_bind (wpAny_specialOf ty no_len ?_)
 refine wpAny_ite_split (λz=>absurd z (by decide)) (λ_=>?_)
 refine wpAny_ite_split (λz=>absurd z (by decide)) (λ_=>?_)
 refine wpAny_bind (wpAny_specialOf ty has_hint ?_)
 generalize hid:("list_reverseiterator.__length_hint__" : String)=id0
 wp_delta
 rw [show splitId id0=some ("list_reverseiterator","__length_hint__") from by subst hid;decide +kernel]
 subst hid
 refine wpAny_bind (wpAny_isInstance (T:="list_reverseiterator") (b:=true) ty (by rw [isSubtype_type];kernel_rfl) ?_)
 refine wpAny_ite_split (λz=>absurd z (by decide)) (λ_=>?_)
 refine wpAny_ite_split (λ_=>?_) (λz=>absurd (by decide +kernel) z)
 refine wpAny_ite_split (λz=>absurd z (by decide +kernel)) (λ_=>?_)
 exact wpAny_pure q
abbrev Back (items:Array Value):Nat->Value->Prop:=λi v=>items[items.size-1-i]? = some v
theorem more {R:Result->Shared->Prop} {r l S:Addr} {items:Array Value} {res:Value} {c₀:Nat} (hh:A.handled=none) (hl:s.heap.IsList l items) (hr:s.heap.IsRevIter r l ((items.size:Int)-1)) (hne:l≠r) (h1:S≠r) (h2:S≠l) (hz:items.size<=sizeLine)
  (hS:s.heap.get? S=some { cls:=.type "list",data:=.seq #[] c₀ })
  (q:∀h' tk acc c,(∀b o,b≠S->b≠r->s.heap.get? b=some o->h'.get? b=some o)->h'.get? S=some { cls:=.type "list",dict:=none,data:=.seq acc c,slots:=#[] }->ItemsOf (Back items) acc items.size->R (.ok (.ret res)) { s with heap:=h',toks:=tk }) :
  wpAny (model prog w) A.in1 (Builtin.List.listExtendWith (.ref S) (.ref r) res)
   (λfin s'=>match fin with | .done f=>R (.ok f) s' | .again c'=>c'.quiet=true/\codeAny (model prog w) A c' R s') (λe s'=>R (.error e) s') s:=by
 have Wk:=Walks.listRev (prog:=prog) (w:=w) (A:=A.in1) hh r l hne items
 have out:S∉[r,l]:=by simp [h1,h2]
 have st0:∀h:Heap,h.IsRevIter r l ((items.size:Int)-1)->h.IsList l items->0<=items.size/\h.IsRevIter r l ((items.size:Int)-1-((0:Nat):Int))/\h.IsList l items:=λh x y=>⟨Nat.zero_le _,by rw [show (items.size:Int)-1-((0:Nat):Int)=(items.size:Int)-1 by omega];exact x,y⟩
 unfold Builtin.List.listExtendWith
 refine wpAny_bind (wpAny_typeOf (T:="list_reverseiterator") hr.typeIs ?_)
 have e1:Builtin.List.listSameRef (.ref S) (.ref r)=false:=by simp [Builtin.List.listSameRef,h1]
 have e2:(Value.type "list_reverseiterator" == Value.type "list")=false:=by decide
 have e3:(Value.type "list_reverseiterator" == Value.type "tuple")=false:=by decide
 simp only [e1,e2,e3,Bool.or_false,Bool.false_eq_true,if_false]
 refine wpAny_bind (wpAny_pyIter_revIter hr ?_)
 refine wpAny_bind (wpAny_holding (hint hr.typeIs ?_))
 have key:∀(h:Heap) (c₁ tk:Nat),h.IsRevIter r l ((items.size:Int)-1)->h.IsList l items->(∀b o,b≠S->s.heap.get? b=some o->h.get? b=some o) ->
   h.get? S=some { cls:=.type "list",data:=.seq #[] c₁ }->codeAny (model prog w) A (.builtin "list.extend.loop" ⟨[.ref S,.ref r,res],[]⟩) R { s with heap:=h,toks:=tk }:=by
  intro h c₁ tk x1 x2 hk x3
  refine codeAny_extend_loopS Wk.toS hz S out res items.size 0 _ #[] c₁ rfl (Nat.zero_le _) (st0 h x1 x2) x3 (ItemsOf.nil _) λs' acc c mv x4 x5=>?_
  rw [Moved.eq_with mv]
  exact q s'.heap s'.toks acc c (λb o b1 b2 e=>mv.heap b o (λz=>by
   rcases List.mem_cons.mp z with z | z
   ·exact b1 z
   ·exact b2 (List.mem_singleton.mp z)) (hk b o b1 e)) x4 x5
 refine wpAny_ite_split (λ_=>?_) (λ_=>wpAny_pure ⟨plainId_quiet PySem.F.plain_extend_loop _,key _ c₀ _ hr hl (λb o _ e=>e) hS⟩)
 refine wpAny_bind (wpAny_rule ?_)
 refine wpAny_bind ?_
 show wpAny _ _ (updateSeq S (·.push .none) >>= λ_=>updateSeq S (·.pop)) _ _ _
 refine wpAny_bind (wpAny_updateSeq hS rfl ?_)
 have y1:=Heap.get?_update_self (Obj.mapSeq (·.push Value.none)) hS rfl
 refine wpAny_updateSeq (hz:=by seq_fits) y1 rfl ?_
 have y2:=Heap.get?_update_self (Obj.mapSeq (·.pop)) y1 rfl
 have oth:∀b o,b≠S->s.heap.get? b=some o->((s.heap.update S (Obj.mapSeq (·.push Value.none))).update S (Obj.mapSeq (·.pop))).get? b=some o:=λb o hb e =>
  (Heap.get?_update_other _ _ (Ne.symm hb)).trans ((Heap.get?_update_other _ _ (Ne.symm hb)).trans e)
 exact wpAny_pure ⟨plainId_quiet PySem.F.plain_extend_loop _,key _ _ _ (hr.at λo e=>oth r o (Ne.symm h1) e) (hl.at λo e=>oth l o (Ne.symm h2) e) oth y2⟩
end
end LR
namespace L2
open PySem PySem.Spec PyProof.Rows
section
variable {X:Cx}
end
end L2
namespace L2
open PySem PySem.Spec PyProof.Rows
section
variable {X:Cx}
end
end L2
namespace L2
open PySem PySem.Spec PyProof.Rows
open PySem.W (hideAll of_hideAll hideAll_get hideAll_none funFrames_hide)
structure Fly (P:Program) (w:World) (base B:Heap) (l:List PySem.Env) (H:Hp) (s:Shared) (C ea t:Addr) (H':Hp) (s':Shared):Prop where
 os:s'.os=s.os
 bare:AllBare s'.gens
 un:Un (frs l) [] H H' s.heap s'.heap
 hok:HOk P w H' s'.heap
 bb:base.StaysIn B
 dom:∀b o,H' b=some o->∃ob,B.get? b=some ob
 kp:∀b ob,s.heap.get? b=some ob->H b=none->b∉frs l->B.get? b=some ob
 th:∀b ob,s.heap.get? b=some ob->b∉frs l->∃o',B.get? b=some o'
 fly:Heap.FlyingW B l ea (.ref C) (.ref t) s'.heap
 new:s.heap.get? ea=none
theorem hok_of {P:Program} {w:World} {H':Hp} {B h h'':Heap} (ok:HOk P w H' h) (dom:∀b o,H' b=some o->∃ob,B.get? b=some ob) (k1:B.StaysIn h) (k2:B.StaysIn h''):HOk P w H' h'':=λa o e =>
 (ok a o e).stay (λb u hb q=>by
  have:∃o',H' b=some o':=by
   rcases hb with rfl | hb
   ·exact ⟨_,e⟩
   ·exact ⟨_,hb⟩
  obtain ⟨o',e'⟩:=this
  obtain ⟨ob,eb⟩:=dom b o' e'
  have:=k1 b ob eb
  rw [q] at this
  cases this
  exact k2 b _ eb) (λ_ q=>q) λ_ _ q=>q
section
variable {P:Program} {w:World} {base B:Heap} {l:List PySem.Env} {H H':Hp} {s s':Shared} {C ea t:Addr} {h'':Heap}
theorem Fly.on (f:Fly P w base B l H s C ea t H' s') (hf:Heap.FlyingW B l ea (.ref C) (.ref t) h'') (hu:s'.heap.UpToSlots h''):Fly P w base B l H s C ea t H' { s' with heap:=h'' } where
 os:=f.os
 bare:=f.bare
 un:=by
  refine ⟨λb o e n nf _=>hf.1 b o (f.kp b o e n nf),λb o e n hb _=>?_,f.un.free,λb o e _=>?_,f.un.tups,f.un.frzs,f.un.tbls⟩
  ·obtain ⟨sl,e1⟩:=f.un.slot b o e n hb (by simp)
   obtain ⟨_,o',e2,nd⟩:=f.fly.2.2.1.mem hb
   have z:some { o with slots:=sl }=some o':=e1.symm.trans e2
   cases z
   obtain ⟨sl',e4⟩:=hu b { o with slots:=sl } e1 nd
   exact ⟨sl',e4⟩
  ·by_cases hb:b∈frs l
   ·obtain ⟨_,o',e2,nd⟩:=f.fly.2.2.1.mem hb
    obtain ⟨sl,e3⟩:=hu b _ e2 nd
    exact ⟨_,e3⟩
   ·obtain ⟨o',e1⟩:=f.th b o e hb
    exact ⟨_,hf.1 b o' e1⟩
 hok:=hok_of f.hok f.dom f.fly.1 hf.1
 bb:=f.bb
 dom:=f.dom
 kp:=f.kp
 th:=f.th
 fly:=hf
 new:=f.new
end
section
variable {X:Cx} {pins:List (Addr × Obj)} {σ:St} {H H':Hp} {s s':Shared} {C ea t:Addr} {h'' B:Heap}
structure Cx.Plain (X:Cx):Prop where
 ex:X.ex=[]
 stk:X.stack=X.env::X.outer
 frame:X.env.frame=some X.env.locals
theorem Cx.Plain.mem (p:X.Plain) {b:Addr}:b∈frs X.stack↔b=X.env.locals\/b∈frs X.outer:=by
 rw [p.stk]
 unfold frs
 rw [List.filterMap_cons,p.frame]
 exact List.mem_cons
theorem Inv.old (I:Inv X pins σ H s) {b:Addr} {o:Obj} (e:X.s₀.heap.get? b=some o):b≠X.env.locals:=Nat.ne_of_lt (Nat.lt_of_lt_of_le (Heap.lt_size e) I.ok.above)
theorem Fly.out (p:X.Plain) (I:Inv X pins σ H s) (f:Fly X.prog X.w X.base B X.stack H s C ea t H' s') (hf:Heap.FlyingW B X.outer ea (.ref C) (.ref t) h'') (hu:s'.heap.UpToSlots h''):Fly X.prog X.w X.base B X.outer X.H₀ X.s₀ C ea t H' { s' with heap:=h'' }:=by
 have hex:∀b,b∉X.ex:=λb=>by rw [p.ex];simp
 have nst:∀b o,X.s₀.heap.get? b=some o->b∉frs X.outer->b∉frs X.stack:=λb o e nf z=>(p.mem.mp z).elim (I.old e) nf
 have kp:∀b ob,X.s₀.heap.get? b=some ob->X.H₀ b=none->b∉frs X.outer->B.get? b=some ob:=λb o e n nf=>f.kp b o (I.base.keep b o e n nf (hex b)) (I.base.free b o e n (hex b)) (nst b o e nf)
 have th:∀b ob,X.s₀.heap.get? b=some ob->b∉frs X.outer->∃o',B.get? b=some o':=λb o e nf=>by
  obtain ⟨o1,e1⟩:=I.base.there b o e (hex b)
  exact f.th b o1 e1 (nst b o e nf)
 refine ⟨f.os.trans I.os,f.bare,⟨λb o e n nf _=>hf.1 b o (kp b o e n nf),λb o e n hb _=>?_,λb o e n _=>?_,λb o e _=>?_,λb xs e=>f.un.tups b xs (I.base.tups b xs e),λb o u e=>f.un.frzs b o u (I.base.frzs b o u e),λb ps e=>?_⟩,hok_of f.hok f.dom f.fly.1 hf.1,f.bb,f.dom,kp,th,hf,?_⟩
 ·obtain ⟨sl,e1⟩:=I.base.slot b o e n hb (hex b)
  obtain ⟨sl2,e2⟩:=f.un.slot b _ e1 (I.base.free b o e n (hex b)) (p.mem.mpr (.inr hb)) (by simp)
  obtain ⟨_,o',e3,nd⟩:=f.fly.2.2.1.mem (p.mem.mpr (.inr hb))
  have z:=e2.symm.trans e3
  cases z
  obtain ⟨sl',e4⟩:=hu b { o with slots:=sl2 } e2 nd
  exact ⟨sl',e4⟩
 ·obtain ⟨sl,e1⟩:=I.base.any e n (hex b)
  exact f.un.free b _ e1 (I.base.free b o e n (hex b)) (by simp)
 ·by_cases hb:b∈frs X.outer
  ·obtain ⟨_,o',e3,nd⟩:=f.fly.2.2.1.mem (p.mem.mpr (.inr hb))
   obtain ⟨sl,e4⟩:=hu b _ e3 nd
   exact ⟨_,e4⟩
  ·obtain ⟨o',e1⟩:=th b o e hb
   exact ⟨_,hf.1 b o' e1⟩
 ·obtain ⟨m1,e1⟩:=I.base.tbls b ps e
  obtain ⟨m2,e2⟩:=f.un.tbls b _ e1
  exact ⟨m1++m2,by rw [e2,Array.append_assoc]⟩
 ·cases q:X.s₀.heap.get? ea with
  | none=>rfl
  | some o =>
   obtain ⟨o1,e1⟩:=I.base.there ea o q (hex ea)
   rw [f.new] at e1
   cases e1
theorem leave_made {M:Model} {E:Value->Shared->Prop} {h1:Heap} {vs:List Value} {Q:Unit->Shared->Prop} (p:X.Plain) (I:Inv X pins σ H s) (hx:Heap.MadeExcOf s.heap h1 ea (.ref C) vs)
  (hQ:∀h' t B,Fly X.prog X.w X.base B X.outer X.H₀ X.s₀ C ea t H { s with heap:=h' }->Q () { s with heap:=h' }):wpAny M X.A (leaving X.env (.ref ea)) Q E { s with heap:=h1 }:=by
 have hex:∀b,b∉X.ex:=λb=>by rw [p.ex];simp
 have hB:(hideAll s.heap (frs X.stack)).StaysIn s.heap:=λb o q=>of_hideAll _ q
 have inB:∀b o,s.heap.get? b=some o->b∉frs X.stack->(hideAll s.heap (frs X.stack)).get? b=some o:=λb o e n=>hideAll_get _ e n
 have hfrm:s.heap.FunFrames (hideAll s.heap (frs X.stack)) X.stack:=funFrames_hide I.stack λenv he a ha=>List.mem_filterMap.mpr ⟨env,he,ha⟩
 refine wpAny_leaves_madeW (base:=hideAll s.heap (frs X.stack)) (h:=s.heap) (s:={ s with heap:=h1 }) (outer:=X.outer) (env:=X.env) (by rw [← p.stk];exact I.ok.frames) p.frame hB (by rw [← p.stk];exact hfrm) hx λh' t x1 x2 x3 x4=>hQ h' t (hideAll s.heap (frs X.stack)) ?_
 have nst:∀b o,X.s₀.heap.get? b=some o->b∉frs X.outer->b∉frs X.stack:=λb o e nf z=>(p.mem.mp z).elim (I.old e) nf
 have kp:∀b ob,X.s₀.heap.get? b=some ob->X.H₀ b=none->b∉frs X.outer->(hideAll s.heap (frs X.stack)).get? b=some ob:=λb o e n nf=>inB b o (I.base.keep b o e n nf (hex b)) (nst b o e nf)
 have th:∀b ob,X.s₀.heap.get? b=some ob->b∉frs X.outer->∃o',(hideAll s.heap (frs X.stack)).get? b=some o':=λb o e nf=>by
  obtain ⟨o1,e1⟩:=I.base.there b o e (hex b)
  exact ⟨o1,inB b o1 e1 (nst b o e nf)⟩
 have dom:∀b o,H b=some o->∃ob,(hideAll s.heap (frs X.stack)).get? b=some ob:=λb o e=>by
  obtain ⟨ob,eb⟩:=(I.hok b o e).there
  exact ⟨ob,inB b ob eb λz=>by rw [I.stkFree b z] at e;cases e⟩
 refine ⟨I.os,I.bare,⟨λb o e n nf _=>x1.1 b o (kp b o e n nf),λb o e n hb _=>?_,λb o e n _=>I.base.free b o e n (hex b),λb o e _=>?_,I.base.tups,I.base.frzs,I.base.tbls⟩,hok_of I.hok dom hB x1.1,λb o e=>inB b o (I.bk b o e) λz=>?_,dom,kp,th,x1,?_⟩
 ·obtain ⟨sl,e1⟩:=I.base.slot b o e n hb (hex b)
  obtain ⟨_,o',e3,nd⟩:=I.stack.mem (p.mem.mpr (.inr hb))
  have z:=e1.symm.trans e3
  cases z
  obtain ⟨sl',e4⟩:=x4 b { o with slots:=sl } (hx.keeps b { o with slots:=sl } e1) nd
  exact ⟨sl',e4⟩
 ·by_cases hb:b∈frs X.outer
  ·obtain ⟨_,o',e3,nd⟩:=I.stack.mem (p.mem.mpr (.inr hb))
   obtain ⟨sl,e4⟩:=x4 b _ (hx.keeps b _ e3) nd
   exact ⟨_,e4⟩
  ·obtain ⟨o',e1⟩:=th b o e hb
   exact ⟨_,x1.1 b o' e1⟩
 ·have:=(I.stack.mem z).1
  rw [e] at this
  cases this
 ·cases q:X.s₀.heap.get? ea with
  | none=>rfl
  | some o =>
   obtain ⟨o1,e1⟩:=I.base.there ea o q (hex ea)
   rw [hx.new] at e1
   cases e1
end
def CXE (P:Program) (w:World) (base:Heap):CXT:=λouter H s E e s'=>∃ea C t B H',e=.ref ea/\Fly P w base B outer H s C ea t H' s'/\E (.ref C) none H'
end L2
namespace L2
open PySem PySem.Spec PyProof.Rows
structure ExcK (K:PySem.W.Frag) (mg:Str->Option Value) (x:Str) (C:Addr):Prop where
 bound:mg x=some (.ref C)
 obj:∃(B newId initId:String) (bmB bm bs:List Value) (nm q:Str) (N:Addr) (hdct:Bool) (sn:List Str) (sub:List Value) (ab:Bool) (col:Option Bool) (dd:Option Addr) (k0 k1 k2 k3 k5:Option Value) (mN:Str->Option Value),
  ExcBaseFacts B newId initId bmB/\bm.contains (.type "BaseException")=true/\mN "__init__" = none/\∀h:Heap,K.In h->h.get? C=some (excClassObj nm q C N bs bm hdct sn sub ab col dd k0 k1 k2 k3 k5 newId)/\h.Ns N mN/\OwnTail h bmB bm
section
variable {X:Cx} {pins:List (Addr × Obj)} {σ:St} {H:Hp} {s:Shared} {x:Str} {np cpos pos p:Pos} {e₀:Expr} {es:List Expr} {ta:TA}
theorem ps_raise {C:Addr} {Ξ:St->Hp->Prop} (k:ExcK X.K X.mg x C) (hg:Gl X x) (hc:X.calm=true) (ha:PA X (e₀::es) ta)
  (hX:∀pins σ H s h1 e vs,Inv X pins σ H s->Heap.MadeExcOf s.heap h1 e (.ref C) vs->Ξ σ H->X.xe (.ref e) { s with heap:=h1 })
  (hdb:(x == ("__debug__" : Str))=false:=by decide) (he:starEach (e₀::es) X.env=(false,eval e₀ X.env)::starEach es X.env:=by rfl) (hpl:(backTo cpos (starEach es X.env)).any (·.1)=false:=by rfl) :
  PS X (.Raise (some (.Call (.Name x np) (e₀::es) [] cpos)) none pos) (λD σ H=>ta σ H λvs H1=>vs.length<=sizeLine/\Ξ σ H1):=by
 intro pins s σ H D I h
 obtain ⟨B,newId,initId,bmB,bm,bs,nm,q,N,hdct,sn,sub,ab,col,dd,k0,k1,k2,k3,k5,mN,FB,hbase,hni,hob⟩:=k.obj
 refine wpAny_Raise_call_subT (C:=C) (N:=N) (nm:=nm) (q:=q) (bs:=bs) (bm:=bm) (hdct:=hdct) (sn:=sn) (sub:=sub) (ab:=ab) (col:=col) (dd:=dd) (k0:=k0) (k1:=k1) (k2:=k2) (k3:=k3) (k5:=k5) (mN:=mN) FB hbase (I.ok.hd hc) (by rw [he];show (false || (backTo cpos (starEach es X.env)).any (·.1))=false;rw [hpl];rfl) hni (ld_glob I hg k.bound ⟨rfl,?_⟩ hdb)
 have h2:=ha cpos pins s σ H _ I h
 rw [he] at h2 ⊢
 refine Calls.evalArgs_plain (wpAny_mono h2 (λus s2 z=>?_) λ_ _ y=>y)
 obtain ⟨vs,H1,I1,r1,hl,hΞ⟩:=z
 obtain ⟨o1,o2,o3⟩:=hob s2.heap I1.kIn
 exact ⟨rfl,by rw [← r1.length];exact hl,o1,o2,o3,λh' e hm=>hX pins σ H1 s2 h' e us I1 hm hΞ⟩
theorem call_two {k:Nat} {f:Addr} {fd:FuncData} {ps:List Str} {sp:Sp} {Q:VK} {E:XK} (F:FnOk X.prog X.w X.K X.mg X.base (CXE X.prog X.w X.base) k f fd ps sp) (hr:Room k X.A) (hg:Gl X x) (hm:X.mg x=some (.ref f)) (hk:PySem.W.keepIn X.K (.ref f)=true) (hb:Binds X.K fd ps [])
  (ha:PA X.nox (e₀::es) ta) (I:Inv X pins σ H s) (h:ta σ H λvs H1=>sp vs H1 Q E) (hdb:(x == ("__debug__" : Str))=false:=by decide)
  (he:starEach (e₀::es) X.env=(false,eval e₀ X.env)::starEach es X.env:=by rfl) (hpl:(backTo pos (starEach es X.env)).any (·.1)=false:=by rfl) :
  wpAny (model X.prog X.w) X.A (eval (.Call (.Name x p) (e₀::es) [] pos) X.env) (EP X pins σ Q) (λe s'=>∃s1 H1,Inv X pins σ H1 s1/\CXE X.prog X.w X.base X.stack H1 s1 E e s') s:=by
 refine wpAny_Call_Name_kw (ld_glob I hg hm ?_ hdb)
 refine PySem.W.callWith_K (K:=X.K) (h₀:=X.base) I.ok.mod.kin hk (wpAny_mono (ha pos pins s σ H _ (I.wish _) h) (λus s1 z=>?_) λ_ _ z=>False.elim z) he hpl
 obtain ⟨vs,H1,I1,r,q⟩:=z
 have I1:=I1.unwish
 have hl:(us++[]).length=ps.length:=by rw [List.append_nil,← r.length];exact F.len _ _ _ _ q
 have hbb:=hb s1 us I1.kIn hl
 rw [List.append_nil] at hbb
 refine ⟨I1.kIn,wpAny_call (codeAny_mono (F.run X.A X.stack s1 H1 ⟨us,[]⟩ us vs Q E hr I1.env0 hbb r q) λr s' hq=>?_)⟩
 cases r with
 | error e=>exact ⟨s1,H1,I1,hq⟩
 | ok fl =>
  cases fl with
  | ret u=>exact I1.after hq
  | next=>exact False.elim hq
  | brk=>exact False.elim hq
  | cont=>exact False.elim hq
end
end L2
namespace L2
open PySem PySem.Spec PyProof.Rows
def Cx.han (X:Cx) (ea:Addr):Cx:={ X with A:=X.A.mark (some (.ref ea)),calm:=false,xe:=λ_ _=>False }
section
variable {X:Cx} {pins:List (Addr × Obj)} {σ:St} {H H':Hp} {s s':Shared} {C ea t:Addr} {B h'':Heap}
theorem Cx.Ok.han (ok:X.Ok) (ea:Addr):(X.han ea).Ok :=
 ⟨ok.mod,ok.kind,ok.glob,ok.blt,ok.above,ok.inj,ok.has,ok.cab,λz=>(Bool.noConfusion z),ok.frames,ok.stk,ok.exf,ok.bs,ok.bsz,ok.noex,ok.exfs,ok.funs,ok.frf⟩
theorem Cx.Ok.unhan (ok:(X.han ea).Ok) (ok0:X.Ok):X.Ok:=ok0
theorem Inv.han (I:Inv X pins σ H s) (ea:Addr):Inv (X.han ea) pins σ H s:=⟨I.ok.han ea,I.os,I.bare,I.base,I.loc,I.cell,I.free,I.freeC,I.pin,I.hok,I.len⟩
theorem Inv.unhan (ok:X.Ok) (I:Inv (X.han ea) pins σ H s):Inv X pins σ H s:=⟨ok,I.os,I.bare,I.base,I.loc,I.cell,I.free,I.freeC,I.pin,I.hok,I.len⟩
theorem Fly.landed (I:Inv X pins σ H s) (f:Fly X.prog X.w X.base B X.stack H s C ea t H' s'):∃(ob:Obj) (φ:Heap->Prop),ob.cls=.ref C/\H' ea=none/\Inv X pins σ (upd H' ea (.frz ob (.ext φ))) s':=by
 obtain ⟨ob,e,hc⟩:=f.fly.there
 have hn:H' ea=none:=by
  cases q:H' ea with
  | none=>rfl
  | some o =>
   obtain ⟨o1,e1⟩:=f.dom ea o q
   rw [f.fly.2.1] at e1
   cases e1
 refine ⟨ob,λh=>h.get? ea=some ob,hc,hn,I.call' (ch:=[]) f.os ?_ ?_ f.bare λb z=>nomatch z⟩
 ·refine ⟨f.un.keep,f.un.slot,λb o e1 n hx=>?_,f.un.there,λb xs e1=>?_,λb o u e1=>?_,λb ps e1=>?_⟩
  ·rw [upd_ne (λz=>by rw [z,f.new] at e1;cases e1)]
   exact f.un.free b o e1 n hx
  ·have:=f.un.tups b xs e1
   rw [upd_ne (λz=>by rw [z,hn] at this;cases this)];exact this
  ·have:=f.un.frzs b o u e1
   rw [upd_ne (λz=>by rw [z,hn] at this;cases this)];exact this
  ·obtain ⟨more,this⟩:=f.un.tbls b ps e1
   exact ⟨more,by rw [upd_ne (λz=>by rw [z,hn] at this;cases this)];exact this⟩
 ·intro a o e1
  by_cases ha:a=ea
  ·subst ha
   rw [upd_same] at e1
   cases e1
   exact ⟨e,e,⟨ob,e⟩,λh1 h2 z k=>k ob z⟩
  ·rw [upd_ne ha] at e1
   refine (f.hok a o e1).stay (λb u _ q=>q) (λb q=>?_) (λb xs q=>?_) λb u v _ q _=>?_
   ·rw [upd_ne (λz=>by rw [z,hn] at q;cases q)];exact q
   ·rw [upd_ne (λz=>by rw [z,hn] at q;cases q)];exact q
   ·rw [upd_ne (λz=>by rw [z,hn] at q;cases q)];exact q
variable {cx n:Str} {np pos hpos:Pos} {b₀:Stmt} {suite body:List Stmt} {j:Nat} {C0:Addr} {th:TS}
def Ends.un (D:Ends) (j:Nat):Ends:={ nx:=λσ' H''=>D.nx (σ'.set j none) H'',rt:=D.rt,bk:=λσ' H''=>D.bk (σ'.set j none) H'',ct:=λσ' H''=>D.ct (σ'.set j none) H'' }
def Tries (X:Cx) (body:List Stmt) (tb:Ends->XK->St->Hp->Prop):Prop:=∀(pins:List (Addr × Obj)) (s:Shared) (σ:St) (H:Hp) (D:Ends) (E:XK),Inv X pins σ H s->tb D E σ H ->
 wpAny (model X.prog X.w) X.A (execs body X.env) (SP X pins D) (λe s'=>∃s1 H1,Inv X pins σ H1 s1/\CXE X.prog X.w X.base X.stack H1 s1 E e s') s
theorem tries_expr {k:Nat} {f:Addr} {fd:FuncData} {ps:List Str} {sp:Sp} {x:Str} {e₀:Expr} {es:List Expr} {ta:TA} {p cpos:Pos} (F:FnOk X.prog X.w X.K X.mg X.base (CXE X.prog X.w X.base) k f fd ps sp) (hr:Room k X.A) (hg:Gl X x) (hm:X.mg x=some (.ref f)) (hk:PySem.W.keepIn X.K (.ref f)=true) (hb:Binds X.K fd ps [])
  (ha:PA X.nox (e₀::es) ta) (hs:swapsWith (.Call (.Name x p) (e₀::es) [] cpos) none pos.line X.env=pure false:=by rfl) (hdb:(x == ("__debug__" : Str))=false:=by decide)
  (he:starEach (e₀::es) X.env=(false,eval e₀ X.env)::starEach es X.env:=by rfl) (hpl:(backTo cpos (starEach es X.env)).any (·.1)=false:=by rfl) :
  Tries X [.Expr (.Call (.Name x p) (e₀::es) [] cpos) pos] (λD E σ H=>ta σ H λvs H1=>sp vs H1 (λ_ H2=>D.nx σ H2) E):=by
 intro pins s σ H D E I h
 refine wpAny_execs_cons (wpAny_Expr_any (wpAny_mono (call_two F hr hg hm hk hb ha I h hdb he hpl) (λv s1 z=>?_) λ_ _ z=>z) I.quiet hs)
 obtain ⟨y1,H1,I1,r1,q1⟩:=z
 exact wpAny_execs_nil ⟨σ,H1,I1,q1⟩
end
end L2
namespace L2
open PySem PySem.Spec PyProof.Rows
open PySem.W (findIn subIn mroIn clsIn Looks looks_findIn looks_subIn InstAt KitX)
structure ExcQ (K:PySem.W.Frag) (C:Addr):Prop where
 ga:findIn K (.ref C) "__getattribute__" = some (some (.builtin "BaseException.__getattribute__"))
 gt:findIn K (.ref C) "__getattr__" = some none
 cl:findIn K (.ref C) "__class__" = some (some (.builtin "object.__class__"))
 so:subIn K (.ref C) (.type "object")=some true
 sb:subIn K (.ref C) (.type "BaseException")=some true
 kc:(clsIn K C).isSome=true
section
variable {prog:Program} {w:World} {A:Around} {E:Value->Shared->Prop} {h:Heap} {g:Array GenState} {d:Drawn} {t:Nat} {os:OsState} {a C:Addr} {o:Obj} {K:PySem.W.Frag} {Bx:String} {bmB:List Value}
end
section
variable {X:Cx}
end
end L2
namespace L2
open PySem PySem.Spec PyProof.Rows
def Itel (K:PySem.W.Frag) (a:Addr):It :=
 ⟨λi H=>∃xs x,SqL K H a xs/\xs[i]? = some x,λi H v H'=>∀xs,SqL K H a xs->∃x p,xs[i]? = some x/\v=.ref p/\H p=none/\H'=upd H p (.tup [.int i,x]),λi H=>∃xs,SqL K H a xs/\xs.length<=i⟩
theorem turn_enumL {P:Program} {w:World} {K:PySem.W.Frag} {es:List Expr} {kt:Nat} {pt:Pos} (a e it:Addr) (hei:e≠it):Turn P w K (.Tuple es kt pt) (Itel K a) [e,it] e (λi h=>(∃old,IsEnum h e it i old)/\h.IsListIter it a i) where
 mem:=by simp
 obj:=λi h st b hb=>by
  obtain ⟨⟨old,h1⟩,o,h2,c,d⟩:=st
  rcases List.mem_cons.mp hb with z | z
  ·subst z;exact ⟨_,h1,λv z=>by have z':Data.fields _=Data.cell v:=z;cases z'⟩
  ·have z':b=it:=by simpa using z
   subst z';exact ⟨o,h2,λv z=>by rw [d] at z;cases z⟩
 keep:=λi h h' st k=>⟨let ⟨old,h1⟩:=st.1;⟨old,k e (by simp) _ h1⟩,st.2.at λo q=>k it (by simp) o q⟩
 item:=by
  intro X hP hw hK hc i pins s σ H E I hf st hg
  subst hP hw hK
  obtain ⟨⟨old,he⟩,hit⟩:=st
  obtain ⟨xs,x,hq,hx⟩:=hg
  obtain ⟨its,rv,⟨ol,nl,g1,g2,g3,g4⟩,hz⟩:=I.list hq
  have p:s.heap.IsList a its.toArray:=⟨ol,g1,g2,nl,g4⟩
  obtain ⟨u',hu',ru⟩:=rv.get hx
  refine wpAny_pyNext_enum_item he hit p (x:=u') (by simpa using hu') hei λh' ho hst' hT hsz hk=>?_
  refine ⟨_,rfl,wpAny_letOwnedTupleGo_enum ho λh2 he2 hs2=>?_⟩
  have hTe:s.heap.objs.size≠e:=Nat.ne_of_gt (Heap.lt_size he)
  have hT2:h2.get? s.heap.objs.size=some { cls:=.type "tuple",data:=.seq #[.int i s.toks,u'] }:=(hs2.2 _ hTe).trans hT
  have hn:H s.heap.objs.size=none:=I.hok.fresh (Nat.le_refl _)
  refine ⟨.ref s.heap.objs.size,upd H s.heap.objs.size (.tup [.int i,x]),I.turnNew (ch:=[e,it]) (t':=s.toks+1) (Nat.le_refl _) (λb o hb q=>?_) hf ?_,rfl,λys hy=>?_,⟨⟨_,he2⟩,hst'.at λo q=>?_⟩,λb hb=>?_⟩
  ·have h1:b≠e:=λz=>hb (by simp [z])
   have h2':b≠it:=λz=>hb (by simp [z])
   exact (hs2.2 b h1).trans (hk b o h1 h2' q)
  ·exact ⟨by show 2<=sizeLine;decide,[.int i s.toks,u'],.cons ⟨_,rfl⟩ (.cons ru .nil),⟨_,hT2,rfl,_,rfl⟩⟩
  ·rw [I.list_inj hy hq]
   exact ⟨x,_,hx,rfl,hn,rfl⟩
  ·exact (hs2.2 it (Ne.symm hei)).trans q
  ·obtain ⟨o,q,_⟩:∃o,s.heap.get? b=some o/\True:=by
    rcases List.mem_cons.mp hb with z | z
    ·exact ⟨_,z ▸ he,trivial⟩
    ·have z':b=it:=by simpa using z
     obtain ⟨o,q,_⟩:=hit
     exact ⟨o,z' ▸ q,trivial⟩
   rw [upd_ne (Nat.ne_of_lt (Heap.lt_size q))]
   exact (hf b hb).1
 done:=by
  intro X hP hw hK hc i pins s σ H E I hf st hg
  subst hP hw hK
  obtain ⟨⟨old,he⟩,hit⟩:=st
  obtain ⟨xs,hq,hx⟩:=hg
  obtain ⟨its,rv,⟨ol,nl,g1,g2,g3,g4⟩,hz⟩:=I.list hq
  have p:s.heap.IsList a its.toArray:=⟨ol,g1,g2,nl,g4⟩
  have hlen:=rv.length
  refine wpAny_pyNext_enum_end (I.ok.hd hc) he hit p (by simp;omega) λh' he'=>?_
  exact ⟨rfl,I.turnAll (ch:=[e,it]) (t':=s.toks) (λb u hb q=>he' b u (λz=>hb (by simp [z])) q) hf⟩
 self:=λ_ _ _ _ _ st h=>by
  obtain ⟨⟨old,q⟩,_⟩:=st
  exact wpAny_pyIter_enum q h
section
variable {X:Cx} {pins:List (Addr × Obj)} {σ:St} {H H':Hp} {s s':Shared} {C ea t:Addr} {B h'':Heap}
def iEnumL (K:PySem.W.Frag) (ta:TA):TI:=λσ H R=>ta σ H λvs H1=>∃a,vs=[.ref a]/\(∃xs,SqL K H1 a xs)/\R (Itel K a) H1
theorem pi_enumL {a:Expr} {ta:TA} {p pos:Pos} {es:List Expr} {kt:Nat} {pt:Pos} (hg:Gl X "enumerate") (hm:X.mg "enumerate" = none) (ha:PA X [a] ta) (hs:starEach [a] X.env=[(false,eval a X.env)]:=by rfl) :
  PI X (.Tuple es kt pt) (.Call (.Name "enumerate" p) [a] [] pos) (iEnumL X.K ta):=by
 intro pins s σ H R I h
 refine Call_ (ld_blt I hg hm boot_enumerate (PyProof.Rows.callWith_type1 (thn (ha pos pins s σ H _ I h) λus s1 ⟨vs,H1,I1,r1,q1⟩=>?_) hs rfl))
 obtain ⟨x,e,⟨xs,hq⟩,q⟩:=q1
 subst e
 obtain ⟨u,rfl,ru⟩:=vals1 r1
 cases ru
 obtain ⟨its,rv,⟨ol,nl,g1,g2,g3,g4⟩,hz⟩:=I1.list hq
 refine call_enumerate_list (show s1.heap.IsList x its.toArray from ⟨ol,g1,g2,nl,g4⟩) λh' he hit hz kp=>?_
 have I2:Inv X pins σ H1 { s1 with heap:=h' }:=I1.kept (t':=s1.toks) kp
 refine wpAny_pyIter_enum he ⟨s1.heap.objs.size+1,[s1.heap.objs.size+1,s1.heap.objs.size],_,_,H1,rfl,I2,turn_enumL x _ _ (Nat.ne_of_gt (Nat.lt_succ_self _)),⟨⟨_,he⟩,hit⟩,λb hb=>?_,q⟩
 have hb':s1.heap.objs.size<=b:=by
  rcases List.mem_cons.mp hb with z | z
  ·rw [z];exact Nat.le_succ _
  ·have z':b=s1.heap.objs.size:=by simpa using z
   rw [z'];exact Nat.le_refl _
 exact I1.fpOk hb' (I1.hok.fresh hb')
theorem pe_callVar {k i:Nat} {f:Addr} {fd:FuncData} {ps:List Str} {sp:Sp} {v:Str} {p pos:Pos} {e:Expr} {es:List Expr} {t:TA} (F:FnOk X.prog X.w X.K X.mg X.base CX0 k f fd ps sp) (hr:Room k X.A) (hk:PySem.W.keepIn X.K (.ref f)=true) (hb:Binds X.K fd ps [])
  (ha:PA X (e::es) t) (hN:X.N[i]? = some v) (hv:Vis X.env.scope v) (hd:(v == ("__debug__" : Str))=false:=by decide) (hcd:(v == ("__classdict__" : Str))=false:=by decide)
  (he:starEach (e::es) X.env=(false,eval e X.env)::starEach es X.env:=by rfl) (hpl:(backTo pos (starEach es X.env)).any (·.1)=false:=by rfl) :
  PE X (.Call (.Name v p) (e::es) [] pos) (λσ H Q=>σ[i]? = some (some (.ref f))/\t σ H λvs H1=>sp vs H1 Q E0):=by
 intro pins s σ H Q I h
 obtain ⟨h1,h2⟩:=h
 refine wpAny_Call_Name_kw (thn (pe_var hN hv hd hcd pins s σ H (λx H'=>x=.ref f/\H'=H) I ⟨_,h1,rfl,rfl⟩) λu s1 z=>?_)
 obtain ⟨x,H0,I0,rx,rfl,rfl⟩:=z
 cases rx
 refine PySem.W.callWith_K (h₀:=X.base) I0.ok.mod.kin hk (thn (ha pos pins s1 σ H0 _ I0 h2) λus s2 ⟨vs,H1,I1,r,q⟩=>⟨I1.kIn,?_⟩) he hpl
 exact run_fn F hr hb .nil pass0 I1 r (by rw [List.append_nil];exact q)
theorem leave_on {M:Model} {E:Value->Shared->Prop} {Q:Unit->Shared->Prop} (p:X.Plain) (I:Inv X pins σ H s) (f:Fly X.prog X.w X.base B X.stack H s C ea t H' s')
  (hQ:∀h',Fly X.prog X.w X.base B X.outer X.H₀ X.s₀ C ea t H' { s' with heap:=h' }->Q () { s' with heap:=h' }):wpAny M X.A (leaving X.env (.ref ea)) Q E s' :=
 wpAny_leaves_onW (by rw [← p.stk];exact I.ok.frames) p.frame (by rw [← p.stk];exact f.fly) λh' x1 x2=>hQ h' (f.out p I x1 x2)
theorem ps_setX {k i:Nat} {f:Addr} {fd:FuncData} {ps:List Str} {sp:Sp} {x y:Str} {e₀:Expr} {es:List Expr} {ta:TA} {px p cpos pos:Pos} {Ξ:Addr->St->Hp->Prop} (F:FnOk X.prog X.w X.K X.mg X.base (CXE X.prog X.w X.base) k f fd ps sp) (hr:Room k X.A) (hg:Gl X x) (hm:X.mg x=some (.ref f)) (hk:PySem.W.keepIn X.K (.ref f)=true) (hb:Binds X.K fd ps [])
  (ha:PA X.nox (e₀::es) ta) (hX:∀pins σ H s e s',Inv X pins σ H s->CXE X.prog X.w X.base X.stack H s (λc _ H'=>∃C,c=.ref C/\Ξ C σ H') e s'->X.xe e s') (hN:X.N.Nodup) (hi:X.N[i]? = some y) (hy:Loc X.env.scope y)
  (hs:swapsWith (.Call (.Name x p) (e₀::es) [] cpos) (some (.Name y px)) pos.line X.env=pure false:=by rfl) (hf:X.fn y=true\/X.env.scope.names.lookup y=some .local:=by first | exact .inl rfl | exact .inr rfl | assumption) (hdb:(x == ("__debug__" : Str))=false:=by decide)
  (he:starEach (e₀::es) X.env=(false,eval e₀ X.env)::starEach es X.env:=by rfl) (hpl:(backTo cpos (starEach es X.env)).any (·.1)=false:=by rfl) :
  PS X (.Assign [.Name y px] (.Call (.Name x p) (e₀::es) [] cpos) pos) (λD σ H=>ta σ H λvs H1=>sp vs H1 (λv H2=>D.nx (σ.set i (some v)) H2) λc _ H'=>∃C,c=.ref C/\Ξ C σ H'):=by
 intro pins s σ H D I h
 refine wpAny_Assign_Name (wpAny_mono (call_two F hr hg hm hk hb ha I h hdb he hpl) (λv s1 z=>?_) λe s' ⟨s1,H1,I1,z⟩=>hX pins σ H1 s1 e s' I1 z) hs
 obtain ⟨y1,H1,I1,r1,q1⟩:=z
 exact store_ok I1 hN hi hy r1 (λs2 I2=>⟨_,H1,I2,q1⟩) hf
variable {cx:Str} {np pos hpos:Pos} {b₀:Stmt} {suite body:List Stmt} {C0:Addr} {th:TS}
theorem catch_itN {D:Ends} (p:X.Plain) (I:Inv X pins σ H s) (f:Fly X.prog X.w X.base B X.stack H s C ea t H' s') (hcx:X.mg cx=some (.ref C0)) (hg:Gl X cx) (hm:PySem.W.exmOne X.K (.ref C) (.ref C0)=some true)
  (hh:PSs (X.han ea) (b₀::suite) th)
  (hw:∀(ob:Obj) (φ:Heap->Prop),ob.cls=.ref C->H' ea=none->th D σ (upd H' ea (.frz ob (.ext φ)))) (hdb:(cx == ("__debug__" : Str))=false:=by decide) :
  wpAny (model X.prog X.w) X.A (noteFrame (.ref ea) X.env) (λ_ s₂=>wpAny (model X.prog X.w) X.A (setFlight (.ref ea) none) (λ_ s₃=>wpAny (model X.prog X.w) X.A (handleBy (.ref ea) X.env [.ExceptHandler (some (.Name cx np)) none (b₀::suite) hpos]) (SP X pins D) X.xe s₃) X.xe s₂) X.xe s':=by
 have hfr:X.A.frames=some (X.env::X.outer):=by rw [← p.stk];exact I.ok.frames
 have fl:=f.fly
 have fl':Heap.FlyingW B (X.env::X.outer) ea (.ref C) (.ref t) s'.heap:=by rw [← p.stk];exact fl
 refine wpAny_looks_onW hfr p.frame fl' λh₄ hheld hsm₄=>?_
 refine wpAny_landsW hheld λh₅ hfl5 hsm5=>?_
 have f5:=f.on (by rw [p.stk];exact hfl5) (hsm₄.trans hsm5)
 refine wpAny_handleBy_cons (codeAny_handlers_test ?_) (by intro q;cases q)
 obtain ⟨ob5,φ5,hc5,hn5,I5⟩:=f5.landed I
 have I5h:=I5.han ea
 refine ld_glob (X:=X.han ea) I5h hg hcx ?_ hdb
 obtain ⟨oe,eoe,hoe⟩:=f5.fly.there
 have LT:PySem.W.Looks (model X.prog X.w) h₅ (typeOf (.ref ea)) (.ref C):=by
  rw [← hoe]
  exact (PySem.W.Looks.ld eoe).andThen .now
 refine (PySem.W.exm_one (M:=model X.prog X.w) I5.kIn LT hm).at ?_
 refine codeAny_handlers_suite ?_
 refine lands_againW hfl5 λh₆ hfl6 hsm6=>?_
 have f6:=f5.on (by rw [p.stk];exact hfl6) hsm6
 obtain ⟨ob,φ,hc,hn,I6⟩:=f6.landed I
 refine wpAny_mono (hh pins _ _ _ D (I6.han ea) (hw ob φ hc hn)) (λfl s8 q=>?_) λ_ _ z=>False.elim z
 cases fl with
 | next =>
  obtain ⟨σ',H'',J,q⟩:=q
  exact ⟨_,_,J.unhan I.ok,q⟩
 | brk =>
  obtain ⟨σ',H'',J,q⟩:=q
  exact ⟨_,_,J.unhan I.ok,q⟩
 | cont =>
  obtain ⟨σ',H'',J,q⟩:=q
  exact ⟨_,_,J.unhan I.ok,q⟩
 | ret u =>
  obtain ⟨v,σ',H'',J,r,q⟩:=q
  exact ⟨v,_,_,J.unhan I.ok,r,q⟩
theorem ps_tryN {tb:Ends->XK->St->Hp->Prop} (p:X.Plain) (hb:Tries X body tb) (hcx:X.mg cx=some (.ref C0)) (hg:Gl X cx) (hh:∀ea,PSs (X.han ea) (b₀::suite) th) (hdb:(cx == ("__debug__" : Str))=false:=by decide) :
  PS X (.Try body [.ExceptHandler (some (.Name cx np)) none (b₀::suite) hpos] [] [] pos) (λD σ H=>tb D (λc _ H'=>∃C,c=.ref C/\PySem.W.exmOne X.K (.ref C) (.ref C0)=some true/\∀(ea:Addr) (ob:Obj) (φ:Heap->Prop),ob.cls=.ref C->H' ea=none->th D σ (upd H' ea (.frz ob (.ext φ)))) σ H):=by
 intro pins s σ H D I h
 refine wpAny_Try_except (wpAny_mono (hb pins s σ H D _ I h) (λfl s1 q=>?_) λe s' z=>?_)
 ·cases fl with
  | next=>exact wpAny_execs_nil q
  | brk=>exact q
  | cont=>exact q
  | ret u=>exact q
 ·obtain ⟨s1,H1,I1,ea,C,t,B,H',rfl,f,C',e,hm,hw⟩:=z
  cases e
  exact catch_itN p I1 f hcx hg hm (hh ea) (λob φ h1 h2=>hw ea ob φ h1 h2) hdb
end
end L2
namespace M
def sp (m i:Nat):Int × Int:=if i<4*m then (((i / 4:Nat):Int),((i % 4:Nat):Int)) else (-1,((i-4*m:Nat):Int))
structure Tw (n:Nat) (A:Nat->Int) (g:Nat->Nat):Prop where
 lt:∀i,i<n->g i<n
 ne:∀i,i<n->g i≠i
 eq:∀i,i<n->A (g i)=A i
 only:∀i k,i<n->k<n->A k=A i->k=i\/k=g i
theorem Tw.inv {n:Nat} {A:Nat->Int} {g:Nat->Nat} (T:Tw n A g) {i:Nat} (h:i<n):g (g i)=i:=by
 rcases T.only (g i) i (T.lt i h) h (T.eq i h).symm with z | z
 ·exact absurd z.symm (T.ne i h)
 ·exact z.symm
def addP (P:List (Int × List Nat)) (a:Int) (i:Nat):List (Int × List Nat) :=
 if (P.any λe=>decide (e.1=a))=true then P.map (λe=>if e.1=a then (e.1,e.2++[i]) else e) else P++[(a,[i])]
def plc (A:Nat->Int) (t:Nat):List (Int × List Nat):=(List.range t).foldl (λP i=>addP P (A i) i) []
def nx (m e i:Nat):Nat:=if i<4*m then 4*(i / 4)+(i % 4+3) % 4 else 4*m+(i-4*m+1) % e
end M
namespace L2
open PySem PySem.Spec PyProof.Rows
structure Lam where
 qual:Str
 args:Arguments
 body:Expr
 scope:Scope
 names:List Str
abbrev anyO:HO:=.ext λ_=>True
abbrev Lam.obj (L:Lam) (cl:List (Str × Addr)) (pm:Value) (c':Addr) (ctv:Value):Obj:=PySem.W.kla_obj "<lambda>" L.qual L.args L.body L.scope cl pm c' ctv
def CloPre (H:Hp) (L:Lam) (a:Addr) (cl:List (Str × Addr)):Prop :=
 ∃(c':Addr) (oc:Obj) (vs:Array Value) (t:Tok) (pm ctv:Value) (u:HO),H a=some (.frz (L.obj cl pm c' ctv) anyO)/\H c'=some (.frz oc u)/\oc.data=.fields vs/\vs[1]? = some (.str L.qual t)
def CellsAt (H:Hp):List (Str × Addr)->List V->Prop
 | [],[]=>True
 | p::cl,x::xs=>(∃oo v,H p.2=some (.frz oo anyO)/\oo.data=.cell (some v)/\RelV x v)/\CellsAt H cl xs
 | _,_=>False
def CloAt (H:Hp) (L:Lam) (a:Addr) (xs:List V):Prop :=
 ∃cl:List (Str × Addr),CloPre H L a cl/\cl.map (·.1)=L.names/\(cl.map (·.2)).Nodup/\CellsAt H cl xs
section
variable {H H':Hp} {L:Lam} {a:Addr} {cl:List (Str × Addr)} {xs:List V}
theorem CloPre.keeps (hi:∀b o u,H b=some (.frz o u)->H' b=some (.frz o u)) (x:CloPre H L a cl):CloPre H' L a cl:=by
 obtain ⟨c',oc,vs,t,pm,ctv,u,h1,h2,r⟩:=x
 exact ⟨c',oc,vs,t,pm,ctv,u,hi _ _ _ h1,hi _ _ _ h2,r⟩
theorem CellsAt.keeps (hi:∀b o u,H b=some (.frz o u)->H' b=some (.frz o u)):∀{cl:List (Str × Addr)} {xs:List V},CellsAt H cl xs->CellsAt H' cl xs
 | [],[],_=>trivial
 | p::cl,x::xs,⟨⟨oo,v,h1,r⟩,q⟩=>⟨⟨oo,v,hi _ _ _ h1,r⟩,CellsAt.keeps hi q⟩
 | [],_::_,h=>h.elim
 | _::_,[],h=>h.elim
theorem CloAt.keeps (hi:∀b o u,H b=some (.frz o u)->H' b=some (.frz o u)) (x:CloAt H L a xs):CloAt H' L a xs:=by
 obtain ⟨cl,h1,h2,h3,h4⟩:=x
 exact ⟨cl,h1.keeps hi,h2,h3,h4.keeps hi⟩
theorem CellsAt.mem:∀{cl:List (Str × Addr)} {xs:List V},CellsAt H cl xs->∀p∈cl,∃oo v,H p.2=some (.frz oo anyO)/\oo.data=.cell (some v)
 | p::cl,x::xs,⟨⟨oo,v,h1,h2,_⟩,q⟩,p',h=>by
  rcases List.mem_cons.mp h with rfl | h
  ·exact ⟨oo,v,h1,h2⟩
  ·exact CellsAt.mem q p' h
 | _::_,[],h,_,_=>h.elim
theorem CellsAt.length:∀{cl:List (Str × Addr)} {xs:List V},CellsAt H cl xs->cl.length=xs.length
 | [],[],_=>rfl
 | p::cl,x::xs,⟨_,q⟩=>by rw [List.length_cons,List.length_cons,CellsAt.length q]
 | [],_::_,h=>h.elim
 | _::_,[],h=>h.elim
theorem CellsAt.get:∀{cl:List (Str × Addr)} {xs:List V} {i:Nat} {x:V},CellsAt H cl xs->xs[i]? = some x->∃p oo v,cl[i]? = some p/\H p.2=some (.frz oo anyO)/\oo.data=.cell (some v)/\RelV x v
 | p::cl,x::xs,0,y,⟨⟨oo,v,h⟩,q⟩,e=>by
  simp at e;subst e
  exact ⟨p,oo,v,by simp,h⟩
 | p::cl,x::xs,i+1,y,⟨_,q⟩,e=>by
  obtain ⟨p',oo,v,h⟩:=CellsAt.get (i:=i) q (by simpa using e)
  exact ⟨p',oo,v,by simpa using h⟩
 | [],[],_,_,_,e=>by simp at e
 | [],_::_,_,_,h,_=>h.elim
 | _::_,[],_,_,h,_=>h.elim
end
def rmC (H:Hp) (cs:List Addr):Hp:=λb=>if b∈cs then none else H b
def putC (H2 H:Hp) (cs:List Addr):Hp:=λb=>if b∈cs then H b else H2 b
theorem rmC_in {H:Hp} {cs:List Addr} {b:Addr} (h:b∈cs):rmC H cs b=none:=if_pos h
theorem rmC_out {H:Hp} {cs:List Addr} {b:Addr} (h:b∉cs):rmC H cs b=H b:=if_neg h
theorem rmC_none {H:Hp} {cs:List Addr} {b:Addr} (h:H b=none):rmC H cs b=none:=by unfold rmC;split <;> first | rfl | exact h
theorem putC_in {H2 H:Hp} {cs:List Addr} {b:Addr} (h:b∈cs):putC H2 H cs b=H b:=if_pos h
theorem putC_out {H2 H:Hp} {cs:List Addr} {b:Addr} (h:b∉cs):putC H2 H cs b=H2 b:=if_neg h
def AreCells (H:Hp) (cs:List Addr):Prop:=∀b∈cs,∃oo v,H b=some (.frz oo anyO)/\oo.data=.cell v
section
variable {P:Program} {w:World} {K:PySem.W.Frag} {mg:Str->Option Value} {base:Heap} {A:Around} {outer:List Env} {s s':Shared} {H H2:Hp} {cs:List Addr} {h:Heap}
theorem AreCells.out (c:AreCells H cs) {b:Addr} {o:HO} (e:H b=some o) (n:∀oo v,o=.frz oo anyO->oo.data=.cell v->False):b∉cs:=λhb=>by
 obtain ⟨oo,v,e1,e2⟩:=c b hb
 rw [e] at e1
 cases e1
 exact n oo v rfl e2
theorem CE.back {Q Q':VK} {u:Value} (e:Env0 P w K mg base A outer s H) (c:AreCells H cs) (x:CE outer P w (rmC H cs) s Q' u s') (hq:∀v H2,(∀b∈cs,H2 b=none)->Q' v H2->Q v (putC H2 H cs)):CE outer P w H s Q u s':=by
 obtain ⟨v,H2,os,bare,un,hok,r,q⟩:=x
 have gone:∀b∈cs,H2 b=none:=λb hb=>by
  obtain ⟨oo,v,e1,_⟩:=c b hb
  obtain ⟨e2,_⟩:=e.hok b _ e1
  exact un.free b _ e2 (rmC_in hb) (by simp)
 have outN:∀b,H b=none->b∉cs:=λb n hb=>by
  obtain ⟨oo,v,e1,_⟩:=c b hb
  rw [n] at e1;cases e1
 have out2:∀b o,H2 b=some o->b∉cs:=λb o q hb=>by rw [gone b hb] at q;cases q
 refine ⟨v,putC H2 H cs,os,bare,⟨λb o q n=>un.keep b o q (rmC_none n),λb o q n=>un.slot b o q (rmC_none n),λb o q n hx=>?_,un.there,λb xs q=>?_,λb o v' q=>?_,λb ps q=>?_⟩,λa o q=>?_,r,hq v H2 gone q⟩
 ·rw [putC_out (outN b n)];exact un.free b o q (rmC_none n) hx
 ·have z:=c.out q λ_ _ z _=>by cases z
  rw [putC_out z];exact un.tups b xs (by rw [rmC_out z];exact q)
 ·by_cases z:b∈cs
  ·rw [putC_in z];exact q
  ·rw [putC_out z];exact un.frzs b o v' (by rw [rmC_out z];exact q)
 ·have z:=c.out q λ_ _ z _=>by cases z
  obtain ⟨more,e1⟩:=un.tbls b ps (by rw [rmC_out z];exact q)
  exact ⟨more,by rw [putC_out z];exact e1⟩
 ·by_cases z:a∈cs
  ·rw [putC_in z] at q
   obtain ⟨oo,v',e1,_⟩:=c a z
   rw [e1] at q
   cases q
   obtain ⟨e2,_⟩:=e.hok a _ e1
   have e3:=un.keep a _ e2 (rmC_in z) (λhb=>by rw [e.frf a hb] at e1;cases e1) (by simp)
   exact ⟨e3,trivial,⟨_,e3⟩,λ_ _ _ _=>trivial⟩
  ·rw [putC_out z] at q
   refine (hok a o q).stay (λb u _ q=>q) (λb q=>?_) (λb xs q=>?_) λb u v vs q _=>?_
   ·rw [putC_out (out2 b _ q)];exact q
   ·rw [putC_out (out2 b _ q)];exact q
   ·rw [putC_out (out2 b _ q)];exact q
end
section
variable {P:Program} {w:World} {K:PySem.W.Frag} {mg:Str->Option Value} {base:Heap} {A:Around} {outer:List Env} {s s':Shared} {H H2:Hp} {cs:List Addr}
end
end L2
namespace PV
open PySem PySem.Spec L2
inductive Ty where
 | int | bool | str | tuple | list | dict
 deriving DecidableEq
def Ty.nm:Ty->String
 | .int=>"int" | .bool=>"bool" | .str=>"str" | .tuple=>"tuple" | .list=>"list" | .dict=>"dict"
inductive KC where
 | any (a:Addr)
 | fn (x:Str)
 | int (i:Int)
 | tup (ks:List KC)
mutual
inductive IsKC (K:PySem.W.Frag):KC->V->Prop
 | any (a:Addr):IsKC K (.any a) (.ref a)
 | fn {x:Str} {f:Addr} (h:PySem.W.nsIn K mainGlobals x=some (some (.ref f))):IsKC K (.fn x) (.ref f)
 | int (i:Int):IsKC K (.int i) (.int i)
 | tup {a:Addr} {xs:List V} {ks:List KC} {o:Obj} {its:Array Value} {n:Nat} (h1:K.lookup a=some o) (h2:o.cls=.type "tuple") (h3:o.data=.seq its n) (h4:its.size<=sizeLine) (h5:Vals xs its.toList) (r:AreKC K ks xs):IsKC K (.tup ks) (.ref a)
inductive AreKC (K:PySem.W.Frag):List KC->List V->Prop
 | nil:AreKC K [] []
 | cons {c:KC} {v:V} {cs:List KC} {vs:List V} (h:IsKC K c v) (r:AreKC K cs vs):AreKC K (c::cs) (v::vs)
end
inductive D where
 | non
 | bl (b:Bool)
 | int (i:Int)
 | str (x:Str)
 | tup (xs:List D)
 | lst (xs:List D)
 | dik (kvs:List (Key × D))
 | dit (kvs:List (List Key × D))
 | kls (xs:List D)
 | ty (t:Ty)
 | fdk (kvs:List (Key × D))
 | ftp (xs:List D)
 | fls (xs:List D)
 | fdt (kvs:List (List Key × D))
 | obj (x:Str) (fs:List (Str × Int))
 | clo (L:Lam) (ds:List D)
 | kc (c:KC)
def imm:HO->Bool
 | .tup _=>true
 | .frz _ _=>true
 | _=>false
def FzL (K:PySem.W.Frag) (H:Hp) (a:Addr) (xs:List V):Prop :=
 (∃o,H a=some (.frz o (.lst xs))) \/
  ∃(o:Obj) (its:Array Value) (n:Nat),K.lookup a=some o/\o.cls=.type "list" /\ o.dict=none/\o.data=.seq its n/\its.size<=sizeLine/\Vals xs its.toList
theorem FzL.sq {K:PySem.W.Frag} {H:Hp} {a:Addr} {xs:List V} (h:FzL K H a xs):SqL K H a xs:=by
 rcases h with h | h
 ·exact .inl (.inr h)
 ·exact .inr h
mutual
inductive Rep (K:PySem.W.Frag) (H:Hp):D->V->List Addr->Prop
 | non:Rep K H .non .non []
 | bl (b:Bool):Rep K H (.bl b) (.bl b) []
 | int (i:Int):Rep K H (.int i) (.int i) []
 | str (x:Str):Rep K H (.str x) (.str x) []
 | tup {a:Addr} {xs:List V} {ds:List D} {F:List Addr} (e:H a=some (.tup xs)) (r:Reps K H ds xs F):Rep K H (.tup ds) (.ref a) F
 | lst {a:Addr} {xs:List V} {ds:List D} {F:List Addr} (e:H a=some (.lst xs)) (r:Reps K H ds xs F):Rep K H (.lst ds) (.ref a) (a::F)
 | dik {a:Addr} {kvs:List (Key × V)} {ds:List (Key × D)} {F:List Addr} (e:H a=some (.dK kvs)) (r:RepK K H ds kvs F):Rep K H (.dik ds) (.ref a) (a::F)
 | dit {a:Addr} {kvs:List (List Key × V)} {ds:List (List Key × D)} {F:List Addr} (e:H a=some (.dT kvs)) (r:RepT K H ds kvs F):Rep K H (.dit ds) (.ref a) (a::F)
 | kls {a:Addr} {xs:List V} {ds:List D} (e:FzL K H a xs) (r:Reps K H ds xs []):Rep K H (.kls ds) (.ref a) []
 | ty (t:Ty):Rep K H (.ty t) (.ty t.nm) []
 | fdk {a:Addr} {o:Obj} {kvs:List (Key × V)} {ds:List (Key × D)} {F:List Addr} (e:H a=some (.frz o (.dK kvs))) (r:RepK K H ds kvs F):Rep K H (.fdk ds) (.ref a) F
 | ftp {a:Addr} {o:Obj} {xs:List V} {ds:List D} (e:H a=some (.frz o (.tup xs))) (hd:o.dict=none) (r:Reps K H ds xs []):Rep K H (.ftp ds) (.ref a) []
 | fls {a:Addr} {o:Obj} {xs:List V} {ds:List D} (e:H a=some (.frz o (.lst xs))) (r:Reps K H ds xs []):Rep K H (.fls ds) (.ref a) []
 | fdt {a:Addr} {o:Obj} {kvs:List (List Key × V)} {ds:List (List Key × D)} {F:List Addr} (e:H a=some (.frz o (.dT kvs))) (r:RepT K H ds kvs F):Rep K H (.fdt ds) (.ref a) F
 | obj {a:Addr} {x:Str} {o:Obj} {φ:Heap->Prop} {fs:List (Str × Int)} (e:H a=some (.frz o (.ext φ))) (hc:∃C,o.cls=.ref C/\PySem.W.nsIn K mainGlobals x=some (some (.ref C))) (hf:fs=[]\/∃dx od,o.dict=some dx/\H dx=some (.frz od (.xd (fs.map λp=>(p.1,V.int p.2))))):Rep K H (.obj x fs) (.ref a) []
 | clo {a:Addr} {L:Lam} {xs:List V} {ds:List D} {F:List Addr} (e:CloAt H L a xs) (r:Reps K H ds xs F):Rep K H (.clo L ds) (.ref a) F
 | kc {c:KC} {v:V} (h:IsKC K c v):Rep K H (.kc c) v []
inductive Reps (K:PySem.W.Frag) (H:Hp):List D->List V->List Addr->Prop
 | nil:Reps K H [] [] []
 | cons {d:D} {v:V} {ds:List D} {vs:List V} {F G:List Addr} (h:Rep K H d v F) (r:Reps K H ds vs G):Reps K H (d::ds) (v::vs) (F++G)
inductive RepK (K:PySem.W.Frag) (H:Hp):List (Key × D)->List (Key × V)->List Addr->Prop
 | nil:RepK K H [] [] []
 | cons {k:Key} {d:D} {v:V} {ds:List (Key × D)} {vs:List (Key × V)} {F G:List Addr} (h:Rep K H d v F) (r:RepK K H ds vs G):RepK K H ((k,d)::ds) ((k,v)::vs) (F++G)
inductive RepT (K:PySem.W.Frag) (H:Hp):List (List Key × D)->List (List Key × V)->List Addr->Prop
 | nil:RepT K H [] [] []
 | cons {k:List Key} {d:D} {v:V} {ds:List (List Key × D)} {vs:List (List Key × V)} {F G:List Addr} (h:Rep K H d v F) (r:RepT K H ds vs G):RepT K H ((k,d)::ds) ((k,v)::vs) (F++G)
end
def ImmK (H H':Hp):Prop:=∀b ob,H b=some ob->imm ob=true->H' b=some ob
theorem ImmK.sqT {K:PySem.W.Frag} {H H':Hp} (hi:ImmK H H') {a:Addr} {xs:List V} (e:SqT K H a xs):SqT K H' a xs:=by
 rcases e with (e | ⟨o,e⟩) | e
 ·exact .inl (.inl (hi _ _ e rfl))
 ·exact .inl (.inr ⟨o,hi _ _ e rfl⟩)
 ·exact .inr e
theorem ImmK.fzL {K:PySem.W.Frag} {H H':Hp} (hi:ImmK H H') {a:Addr} {xs:List V} (e:FzL K H a xs):FzL K H' a xs:=by
 rcases e with ⟨o,e⟩ | e
 ·exact .inl ⟨o,hi _ _ e rfl⟩
 ·exact .inr e
theorem Rep.frame {K:PySem.W.Frag} {H H':Hp} (hi:ImmK H H') {d:D} {v:V} {F:List Addr} (r:Rep K H d v F):(∀a∈F,H' a=H a)->Rep K H' d v F:=by
 refine Rep.rec (motive_1:=λd v F _=>(∀a∈F,H' a=H a)->Rep K H' d v F) (motive_2:=λd v F _=>(∀a∈F,H' a=H a)->Reps K H' d v F) (motive_3:=λd v F _=>(∀a∈F,H' a=H a)->RepK K H' d v F) (motive_4:=λd v F _=>(∀a∈F,H' a=H a)->RepT K H' d v F) ?_ ?_ ?_ ?_ ?_ ?_ ?_ ?_ ?_ ?_ ?_ ?_ ?_ ?_ ?_ ?_ ?_ ?_ ?_ ?_ ?_ ?_ ?_ r
 ·exact λ_=>.non
 ·exact λb _=>.bl b
 ·exact λb _=>.int b
 ·exact λb _=>.str b
 ·exact λe _ ih k=>.tup (hi _ _ e rfl) (ih k)
 ·exact λe _ ih k=>.lst ((k _ (List.mem_cons_self)).trans e) (ih λa h=>k a (List.mem_cons_of_mem _ h))
 ·exact λe _ ih k=>.dik ((k _ (List.mem_cons_self)).trans e) (ih λa h=>k a (List.mem_cons_of_mem _ h))
 ·exact λe _ ih k=>.dit ((k _ (List.mem_cons_self)).trans e) (ih λa h=>k a (List.mem_cons_of_mem _ h))
 ·exact λe _ ih k=>.kls (hi.fzL e) (ih k)
 ·exact λt _=>.ty t
 ·exact λe _ ih k=>.fdk (hi _ _ e rfl) (ih k)
 ·exact λe hd _ ih k=>.ftp (hi _ _ e rfl) hd (ih k)
 ·exact λe _ ih k=>.fls (hi _ _ e rfl) (ih k)
 ·exact λe _ ih k=>.fdt (hi _ _ e rfl) (ih k)
 ·exact λe hc hf _=>.obj (hi _ _ e rfl) hc (hf.imp id λ⟨dx,od,h1,h2⟩=>⟨dx,od,h1,hi _ _ h2 rfl⟩)
 ·exact λe _ ih k=>.clo (e.keeps λ_ _ _ q=>hi _ _ q rfl) (ih k)
 ·exact λh _=>.kc h
 ·exact λ_=>.nil
 ·exact λ_ _ ih1 ih2 k=>.cons (ih1 λa q=>k a (List.mem_append.mpr (.inl q))) (ih2 λa q=>k a (List.mem_append.mpr (.inr q)))
 ·exact λ_=>.nil
 ·exact λ_ _ ih1 ih2 k=>.cons (ih1 λa q=>k a (List.mem_append.mpr (.inl q))) (ih2 λa q=>k a (List.mem_append.mpr (.inr q)))
 ·exact λ_=>.nil
 ·exact λ_ _ ih1 ih2 k=>.cons (ih1 λa q=>k a (List.mem_append.mpr (.inl q))) (ih2 λa q=>k a (List.mem_append.mpr (.inr q)))
theorem Reps.frame {K:PySem.W.Frag} {H H':Hp} (hi:ImmK H H') {d:List D} {v:List V} {F:List Addr} (r:Reps K H d v F) (k:∀a∈F,H' a=H a):Reps K H' d v F:=by
 induction d generalizing v F with
 | nil=>cases r;exact .nil
 | cons d ds ih=>cases r with | cons h r=>exact .cons (Rep.frame hi h λa q=>k a (List.mem_append.mpr (.inl q))) (ih r λa q=>k a (List.mem_append.mpr (.inr q)))
theorem RepK.frame {K:PySem.W.Frag} {H H':Hp} (hi:ImmK H H') {d:List (Key × D)} {v:List (Key × V)} {F:List Addr} (r:RepK K H d v F) (k:∀a∈F,H' a=H a):RepK K H' d v F:=by
 induction d generalizing v F with
 | nil=>cases r;exact .nil
 | cons d ds ih=>cases r with | cons h r=>exact .cons (Rep.frame hi h λa q=>k a (List.mem_append.mpr (.inl q))) (ih r λa q=>k a (List.mem_append.mpr (.inr q)))
theorem RepT.frame {K:PySem.W.Frag} {H H':Hp} (hi:ImmK H H') {d:List (List Key × D)} {v:List (List Key × V)} {F:List Addr} (r:RepT K H d v F) (k:∀a∈F,H' a=H a):RepT K H' d v F:=by
 induction d generalizing v F with
 | nil=>cases r;exact .nil
 | cons d ds ih=>cases r with | cons h r=>exact .cons (Rep.frame hi h λa q=>k a (List.mem_append.mpr (.inl q))) (ih r λa q=>k a (List.mem_append.mpr (.inr q)))
theorem Rep.dom {K:PySem.W.Frag} {H:Hp} {d:D} {v:V} {F:List Addr} (r:Rep K H d v F):∀a∈F,∃ob,H a=some ob/\imm ob=false:=by
 have cn:∀{b:Addr} {F:List Addr} {ob:HO},H b=some ob->imm ob=false->(∀a∈F,∃ob,H a=some ob/\imm ob=false)->∀a∈b::F,∃ob,H a=some ob/\imm ob=false:=λe hb ih a m=>(List.mem_cons.mp m).elim (λz=>z ▸ ⟨_,e,hb⟩) (ih a)
 have ap:∀{F G:List Addr},(∀a∈F,∃ob,H a=some ob/\imm ob=false)->(∀a∈G,∃ob,H a=some ob/\imm ob=false)->∀a∈F++G,∃ob,H a=some ob/\imm ob=false:=λih1 ih2 a m=>(List.mem_append.mp m).elim (ih1 a) (ih2 a)
 have no:∀a∈([]:List Addr),∃ob,H a=some ob/\imm ob=false:=λ_ m=>nomatch m
 refine Rep.rec (motive_1:=λ_ _ F _=>∀a∈F,∃ob,H a=some ob/\imm ob=false) (motive_2:=λ_ _ F _=>∀a∈F,∃ob,H a=some ob/\imm ob=false) (motive_3:=λ_ _ F _=>∀a∈F,∃ob,H a=some ob/\imm ob=false) (motive_4:=λ_ _ F _=>∀a∈F,∃ob,H a=some ob/\imm ob=false) no (λ_=>no) (λ_=>no) (λ_=>no) (λ_ _ ih=>ih) (λe _ ih=>cn e rfl ih) (λe _ ih=>cn e rfl ih) (λe _ ih=>cn e rfl ih) (λ_ _ _=>no) (λ_=>no) (λ_ _ ih=>ih) (λ_ _ _ _=>no) (λ_ _ _=>no) (λ_ _ ih=>ih) (λ_ _ _=>no) (λ_ _ ih=>ih) (λ_=>no) no (λ_ _=>ap) no (λ_ _=>ap) no (λ_ _=>ap) r
theorem Reps.dom {K:PySem.W.Frag} {H:Hp} {d:List D} {v:List V} {F:List Addr} (r:Reps K H d v F):∀a∈F,∃ob,H a=some ob/\imm ob=false:=by
 induction d generalizing v F with
 | nil=>cases r;exact λ_ m=>nomatch m
 | cons d ds ih=>cases r with | cons h r=>exact λa m=>(List.mem_append.mp m).elim (Rep.dom h a) (ih r a)
theorem RepK.dom {K:PySem.W.Frag} {H:Hp} {d:List (Key × D)} {v:List (Key × V)} {F:List Addr} (r:RepK K H d v F):∀a∈F,∃ob,H a=some ob/\imm ob=false:=by
 induction d generalizing v F with
 | nil=>cases r;exact λ_ m=>nomatch m
 | cons d ds ih=>cases r with | cons h r=>exact λa m=>(List.mem_append.mp m).elim (Rep.dom h a) (ih r a)
theorem RepT.dom {K:PySem.W.Frag} {H:Hp} {d:List (List Key × D)} {v:List (List Key × V)} {F:List Addr} (r:RepT K H d v F):∀a∈F,∃ob,H a=some ob/\imm ob=false:=by
 induction d generalizing v F with
 | nil=>cases r;exact λ_ m=>nomatch m
 | cons d ds ih=>cases r with | cons h r=>exact λa m=>(List.mem_append.mp m).elim (Rep.dom h a) (ih r a)
mutual
def D.pure:D->Bool
 | .tup xs=>pureL xs
 | .lst _=>false
 | .dik _=>false
 | .dit _=>false
 | .kls _=>false
 | .non=>true
 | .bl _=>true
 | .int _=>true
 | .str _=>true
 | .ty _=>true
 | .fdk _=>false
 | .ftp _=>true
 | .fls _=>true
 | .fdt _=>false
 | .obj _ _=>true
 | .clo _ _=>false
 | .kc _=>true
def pureL:List D->Bool
 | []=>true
 | d::r=>d.pure && pureL r
end
theorem pureL_iff {xs:List D}:pureL xs=true↔∀x∈xs,x.pure=true:=by
 induction xs with
 | nil=>simp [pureL]
 | cons d r ih=>simp only [pureL,Bool.and_eq_true,ih,List.mem_cons,forall_eq_or_imp]
theorem Rep.pure {K:PySem.W.Frag} {H:Hp} {d:D} {v:V} {F:List Addr} (r:Rep K H d v F):d.pure=true->F=[]/\Rep K H d v []:=by
 have no:∀{P:Prop} {b:Bool},b=false->b=true->P:=λh h'=>absurd (h.symm.trans h') (by simp)
 refine Rep.rec (motive_1:=λd v F _=>d.pure=true->F=[]/\Rep K H d v []) (motive_2:=λd v F _=>pureL d=true->F=[]/\Reps K H d v []) (motive_3:=λ_ _ _ _=>True) (motive_4:=λ_ _ _ _=>True) ?_ ?_ ?_ ?_ ?_ ?_ ?_ ?_ ?_ ?_ ?_ ?_ ?_ ?_ ?_ ?_ ?_ ?_ ?_ trivial (λ_ _ _ _=>trivial) trivial (λ_ _ _ _=>trivial) r
 ·exact λ_=>⟨rfl,.non⟩
 ·exact λb _=>⟨rfl,.bl b⟩
 ·exact λb _=>⟨rfl,.int b⟩
 ·exact λb _=>⟨rfl,.str b⟩
 ·exact λe _ ih p=>⟨(ih (by rw [D.pure] at p;exact p)).1,.tup e (ih (by rw [D.pure] at p;exact p)).2⟩
 ·exact λ_ _ _=>no (by rw [D.pure])
 ·exact λ_ _ _=>no (by rw [D.pure])
 ·exact λ_ _ _=>no (by rw [D.pure])
 ·exact λ_ _ _=>no (by rw [D.pure])
 ·exact λb _=>⟨rfl,.ty b⟩
 ·exact λ_ _ _=>no (by rw [D.pure])
 ·exact λe hd r _ _=>⟨rfl,.ftp e hd r⟩
 ·exact λe r _ _=>⟨rfl,.fls e r⟩
 ·exact λ_ _ _=>no (by rw [D.pure])
 ·exact λe hc hf _=>⟨rfl,.obj e hc hf⟩
 ·exact λ_ _ _=>no (by rw [D.pure])
 ·exact λh _=>⟨rfl,.kc h⟩
 ·exact λ_=>⟨rfl,.nil⟩
 ·intro _ _ _ _ _ _ _ _ ih1 ih2 p
  rw [pureL,Bool.and_eq_true] at p
  obtain ⟨e1,r1⟩:=ih1 p.1
  obtain ⟨e2,r2⟩:=ih2 p.2
  subst e1 e2
  exact ⟨rfl,.cons (F:=[]) (G:=[]) r1 r2⟩
theorem Reps.pure {K:PySem.W.Frag} {H:Hp} {d:List D} {v:List V} {F:List Addr} (r:Reps K H d v F) (p:pureL d=true):F=[]/\Reps K H d v []:=by
 induction d generalizing v F with
 | nil=>cases r;exact ⟨rfl,.nil⟩
 | cons d ds ih =>
  cases r with
  | cons h r =>
   rw [pureL,Bool.and_eq_true] at p
   obtain ⟨e1,r1⟩:=h.pure p.1
   obtain ⟨e2,r2⟩:=ih r p.2
   subst e1 e2
   exact ⟨rfl,.cons (F:=[]) (G:=[]) r1 r2⟩
section
variable {K:PySem.W.Frag} {H:Hp}
theorem Reps.length {ds:List D} {xs:List V} {F:List Addr} (r:Reps K H ds xs F):xs.length=ds.length:=by
 induction ds generalizing xs F with
 | nil=>cases r;rfl
 | cons d ds ih=>cases r with | cons h r=>simp [ih r]
theorem Reps.append {ds es:List D} {xs ys:List V} {F G:List Addr} (r:Reps K H ds xs F) (q:Reps K H es ys G):Reps K H (ds++es) (xs++ys) (F++G):=by
 induction ds generalizing xs F with
 | nil=>cases r;exact q
 | cons d ds ih=>cases r with | cons h r=>rw [List.append_assoc];exact .cons h (ih r)
theorem Reps.one {d:D} {x:V} {F:List Addr} (h:Rep K H d x F):Reps K H [d] [x] F:=by
 have:=Reps.cons h (Reps.nil (K:=K) (H:=H))
 rwa [List.append_nil] at this
theorem Reps.snoc {ds:List D} {xs:List V} {d:D} {x:V} {F G:List Addr} (r:Reps K H ds xs F) (h:Rep K H d x G):Reps K H (ds++[d]) (xs++[x]) (F++G):=r.append (.one h)
theorem Reps.split {ds:List D} {xs:List V} {F:List Addr} {i:Nat} {d:D} (r:Reps K H ds xs F) (h:ds[i]? = some d) :
  ∃x A B C,xs[i]? = some x/\F=A++B++C/\Rep K H d x B/\Reps K H (ds.take i) (xs.take i) A/\Reps K H (ds.drop (i+1)) (xs.drop (i+1)) C:=by
 induction ds generalizing xs F i with
 | nil=>simp at h
 | cons e ds ih =>
  cases r with
  | @cons _ v _ vs F G p r =>
   cases i with
   | zero =>
    simp at h
    subst h
    exact ⟨v,[],F,G,rfl,by simp,p,.nil,by simpa using r⟩
   | succ i =>
    obtain ⟨x,A,B,C,h1,h2,h3,h4,h5⟩:=ih r (i:=i) (by simpa using h)
    exact ⟨x,F++A,B,C,by simpa using h1,by rw [h2];simp,h3,by simpa using Reps.cons p h4,by simpa using h5⟩
theorem Reps.get {ds:List D} {xs:List V} {F:List Addr} {i:Nat} {d:D} (r:Reps K H ds xs F) (h:ds[i]? = some d):∃x B,xs[i]? = some x/\Rep K H d x B/\B.Sublist F:=by
 obtain ⟨x,A,B,C,h1,h2,h3,_⟩:=r.split h
 exact ⟨x,B,h1,h3,h2 ▸ (List.sublist_append_right A B).trans (List.sublist_append_left _ C)⟩
theorem take_set_drop {α:Type} {l:List α} {i:Nat} {a:α} (h:i<l.length):l.set i a=l.take i++a::l.drop (i+1):=by
 rw [List.set_eq_take_append_cons_drop,if_pos h]
theorem erase_td {α:Type} (l:List α) (i:Nat):l.eraseIdx i=l.take i++l.drop (i+1):=List.eraseIdx_eq_take_drop_succ l i
theorem Reps.take {ds:List D} {xs:List V} {F:List Addr} (i:Nat) (r:Reps K H ds xs F):∃G,Reps K H (ds.take i) (xs.take i) G/\G.Sublist F:=by
 induction ds generalizing xs F i with
 | nil=>cases r;exact ⟨[],by simpa using Reps.nil,List.Sublist.slnil⟩
 | cons d ds ih =>
  cases r with
  | @cons _ v _ vs F G p r =>
   cases i with
   | zero=>exact ⟨[],by simpa using Reps.nil,List.nil_sublist _⟩
   | succ i =>
    obtain ⟨G',q,s⟩:=ih i r
    exact ⟨F++G',by simpa using Reps.cons p q,List.Sublist.append (List.Sublist.refl _) s⟩
theorem Reps.drop {ds:List D} {xs:List V} {F:List Addr} (i:Nat) (r:Reps K H ds xs F):∃G,Reps K H (ds.drop i) (xs.drop i) G/\G.Sublist F:=by
 induction ds generalizing xs F i with
 | nil=>cases r;exact ⟨[],by simpa using Reps.nil,List.Sublist.slnil⟩
 | cons d ds ih =>
  cases i with
  | zero=>exact ⟨F,by simpa using r,List.Sublist.refl _⟩
  | succ i =>
   cases r with
   | @cons _ v _ vs F G p r =>
    obtain ⟨G',q,s⟩:=ih i r
    exact ⟨G',by simpa using q,s.trans (List.sublist_append_right _ _)⟩
theorem Reps.flat {ds:List D} (f:D->V) (hf:∀d∈ds,Rep K H d (f d) []):Reps K H ds (ds.map f) []:=by
 induction ds with
 | nil=>exact .nil
 | cons d ds ih=>exact .cons (F:=[]) (G:=[]) (hf d List.mem_cons_self) (ih λe he=>hf e (List.mem_cons_of_mem _ he))
theorem Reps.ints (ns:List Int):Reps K H (ns.map D.int) (ns.map V.int) []:=by
 induction ns with
 | nil=>exact .nil
 | cons n ns ih=>exact .cons (F:=[]) (G:=[]) (.int n) ih
theorem Reps.of_ints {ns:List Int} {xs:List V} {F:List Addr} (r:Reps K H (ns.map D.int) xs F):xs=ns.map V.int/\F=[]:=by
 induction ns generalizing xs F with
 | nil=>cases r;exact ⟨rfl,rfl⟩
 | cons n ns ih =>
  cases r with
  | cons h r =>
   cases h
   obtain ⟨e1,e2⟩:=ih r
   exact ⟨by rw [e1];rfl,by rw [e2];rfl⟩
end
def kcD:KC->D
 | .int i=>.int i
 | .any a=>.kc (.any a)
 | .fn x=>.kc (.fn x)
 | .tup ks=>.kc (.tup ks)
section
variable {K:PySem.W.Frag} {H:Hp}
theorem IsKC.rep {c:KC} {v:V} (h:IsKC K c v):Rep K H (kcD c) v []:=by
 cases h with
 | int i=>exact .int i
 | any a=>exact .kc (.any a)
 | fn h=>exact .kc (.fn h)
 | tup h1 h2 h3 h4 h5 r=>exact .kc (.tup h1 h2 h3 h4 h5 r)
theorem AreKC.reps {cs:List KC} {vs:List V} (h:AreKC K cs vs):Reps K H (cs.map kcD) vs []:=by
 induction cs generalizing vs with
 | nil=>cases h;exact .nil
 | cons c cs ih=>cases h with | cons h r=>exact .cons (F:=[]) (G:=[]) h.rep (ih r)
theorem IsKC.sqT {ks:List KC} {v:V} (h:IsKC K (.tup ks) v):∃a xs,v=.ref a/\(∀H,SqT K H a xs)/\AreKC K ks xs:=by
 cases h with
 | tup h1 h2 h3 h4 h5 r=>exact ⟨_,_,rfl,λH=>.inr ⟨_,_,_,h1,h2,h3,h4,h5⟩,r⟩
end
section
variable {K:PySem.W.Frag} {H:Hp} {v:V} {F:List Addr}
theorem Rep.iInt {i:Int} (r:Rep K H (.int i) v F):v=.int i:=by cases r;rfl
theorem Rep.iStr {i:Str} (r:Rep K H (.str i) v F):v=.str i:=by cases r;rfl
theorem Rep.iBl {i:Bool} (r:Rep K H (.bl i) v F):v=.bl i:=by cases r;rfl
theorem Rep.iTup {ds:List D} (r:Rep K H (.tup ds) v F):∃a xs,v=.ref a/\H a=some (.tup xs)/\Reps K H ds xs F:=by cases r with | tup e r=>exact ⟨_,_,rfl,e,r⟩
theorem Rep.iLst {ds:List D} (r:Rep K H (.lst ds) v F):∃a xs G,v=.ref a/\F=a::G/\H a=some (.lst xs)/\Reps K H ds xs G:=by cases r with | lst e r=>exact ⟨_,_,_,rfl,rfl,e,r⟩
theorem Rep.iDik {ds:List (Key × D)} (r:Rep K H (.dik ds) v F):∃a xs G,v=.ref a/\F=a::G/\H a=some (.dK xs)/\RepK K H ds xs G:=by cases r with | dik e r=>exact ⟨_,_,_,rfl,rfl,e,r⟩
theorem Rep.iDit {ds:List (List Key × D)} (r:Rep K H (.dit ds) v F):∃a xs G,v=.ref a/\F=a::G/\H a=some (.dT xs)/\RepT K H ds xs G:=by cases r with | dit e r=>exact ⟨_,_,_,rfl,rfl,e,r⟩
theorem Rep.iKls {ds:List D} (r:Rep K H (.kls ds) v F):∃a xs,v=.ref a/\F=[]/\FzL K H a xs/\Reps K H ds xs []:=by cases r with | kls e r=>exact ⟨_,_,rfl,rfl,e,r⟩
theorem Rep.iFdk {ds:List (Key × D)} (r:Rep K H (.fdk ds) v F):∃a o xs,v=.ref a/\H a=some (.frz o (.dK xs))/\RepK K H ds xs F:=by cases r with | fdk e r=>exact ⟨_,_,_,rfl,e,r⟩
end
section
variable {κ:Type} [DecidableEq κ]
def valD (kvs:List (κ × D)) (k:κ):Option D:=(kvs.find? λkv=>decide (kv.1=k)).map (·.2)
def putD (kvs:List (κ × D)) (k:κ) (v:D):List (κ × D) :=
 if (kvs.any λkv=>decide (kv.1=k))=true then kvs.map (λkv=>if kv.1=k then (kv.1,v) else kv) else kvs++[(k,v)]
def dropD (kvs:List (κ × D)) (k:κ):List (κ × D):=kvs.filter λkv=>decide (kv.1≠k)
theorem valD_cons {p:κ × D} {r:List (κ × D)} {k:κ}:valD (p::r) k=if p.1=k then some p.2 else valD r k:=by
 unfold valD
 by_cases h:p.1=k
 ·rw [List.find?_cons_of_pos (by simpa using h),if_pos h];rfl
 ·rw [List.find?_cons_of_neg (by simpa using h),if_neg h]
end
section
variable {K:PySem.W.Frag} {H:Hp}
theorem RepK.length {ds:List (Key × D)} {xs:List (Key × V)} {F:List Addr} (r:RepK K H ds xs F):xs.length=ds.length:=by
 induction ds generalizing xs F with
 | nil=>cases r;rfl
 | cons d ds ih=>cases r with | cons h r=>simp [ih r]
theorem RepK.keys {ds:List (Key × D)} {xs:List (Key × V)} {F:List Addr} (r:RepK K H ds xs F):xs.map (·.1)=ds.map (·.1):=by
 induction ds generalizing xs F with
 | nil=>cases r;rfl
 | cons d ds ih=>cases r with | cons h r=>simp [ih r]
theorem RepK.val {ds:List (Key × D)} {xs:List (Key × V)} {F:List Addr} (r:RepK K H ds xs F) (k:Key) :
  (valD ds k=none/\valV xs k=none)\/∃d v B,valD ds k=some d/\valV xs k=some v/\Rep K H d v B/\B.Sublist F:=by
 induction ds generalizing xs F with
 | nil=>cases r;exact .inl ⟨rfl,rfl⟩
 | cons d ds ih =>
  cases r with
  | @cons j d v _ vs F G h r =>
   rw [valD_cons]
   by_cases e:j=k
   ·rw [valV_pos e,if_pos e]
    exact .inr ⟨d,v,F,rfl,rfl,h,List.sublist_append_left _ _⟩
   ·rw [valV_neg e,if_neg e]
    rcases ih r with q | ⟨d',v',B,h1,h2,h3,h4⟩
    ·exact .inl q
    ·exact .inr ⟨d',v',B,h1,h2,h3,h4.trans (List.sublist_append_right _ _)⟩
theorem RepK.append {ds es:List (Key × D)} {xs ys:List (Key × V)} {F G:List Addr} (r:RepK K H ds xs F) (q:RepK K H es ys G):RepK K H (ds++es) (xs++ys) (F++G):=by
 induction ds generalizing xs F with
 | nil=>cases r;exact q
 | cons d ds ih=>cases r with | cons h r=>rw [List.append_assoc];exact .cons h (ih r)
theorem RepK.put {ds:List (Key × D)} {xs:List (Key × V)} {F:List Addr} {k:Key} {d:D} {v:V} (r:RepK K H ds xs F) (h:Rep K H d v []):∃G,RepK K H (putD ds k d) (putK xs k v) G/\G.Sublist F:=by
 have hk:(xs.any λkv=>decide (kv.1=k))=(ds.any λkv=>decide (kv.1=k)):=by
  have e:=r.keys
  rw [show (xs.any λkv=>decide (kv.1=k))=(xs.map (·.1)).any (λj=>decide (j=k)) by rw [List.any_map];rfl,e,List.any_map];rfl
 unfold putD putK
 rw [hk]
 split
 ·clear hk
  rename_i hc
  clear hc
  induction ds generalizing xs F with
  | nil=>cases r;exact ⟨[],.nil,List.Sublist.slnil⟩
  | cons e ds ih =>
   cases r with
   | @cons j e u _ us F G p r =>
    obtain ⟨G',q,s⟩:=ih r
    by_cases ej:j=k
    ·exact ⟨[]++G',by simpa [ej] using RepK.cons (k:=k) h q,s.trans (List.sublist_append_right _ _)⟩
    ·exact ⟨F++G',by simpa [ej] using RepK.cons (k:=j) p q,List.Sublist.append (List.Sublist.refl _) s⟩
 ·refine ⟨F++[],r.append ?_,by simp⟩
  exact RepK.cons (F:=[]) (G:=[]) h .nil
theorem RepK.drop {ds:List (Key × D)} {xs:List (Key × V)} {F:List Addr} {k:Key} (r:RepK K H ds xs F):∃G,RepK K H (dropD ds k) (dropK xs k) G/\G.Sublist F:=by
 induction ds generalizing xs F with
 | nil=>cases r;exact ⟨[],.nil,List.Sublist.slnil⟩
 | cons e ds ih =>
  cases r with
  | @cons j e u _ us F G p r =>
   obtain ⟨G',q,s⟩:=ih r
   unfold dropD dropK at *
   by_cases ej:j=k
   ·exact ⟨G',by simpa [ej] using q,s.trans (List.sublist_append_right _ _)⟩
   ·exact ⟨F++G',by simpa [ej] using RepK.cons (k:=j) p q,List.Sublist.append (List.Sublist.refl _) s⟩
theorem RepT.length {ds:List (List Key × D)} {xs:List (List Key × V)} {F:List Addr} (r:RepT K H ds xs F):xs.length=ds.length:=by
 induction ds generalizing xs F with
 | nil=>cases r;rfl
 | cons d ds ih=>cases r with | cons h r=>simp [ih r]
theorem RepT.keys {ds:List (List Key × D)} {xs:List (List Key × V)} {F:List Addr} (r:RepT K H ds xs F):xs.map (·.1)=ds.map (·.1):=by
 induction ds generalizing xs F with
 | nil=>cases r;rfl
 | cons d ds ih=>cases r with | cons h r=>simp [ih r]
theorem RepT.val {ds:List (List Key × D)} {xs:List (List Key × V)} {F:List Addr} (r:RepT K H ds xs F) (k:List Key) :
  (valD ds k=none/\valV xs k=none)\/∃d v B,valD ds k=some d/\valV xs k=some v/\Rep K H d v B/\B.Sublist F:=by
 induction ds generalizing xs F with
 | nil=>cases r;exact .inl ⟨rfl,rfl⟩
 | cons d ds ih =>
  cases r with
  | @cons j d v _ vs F G h r =>
   rw [valD_cons]
   by_cases e:j=k
   ·rw [valV_pos e,if_pos e]
    exact .inr ⟨d,v,F,rfl,rfl,h,List.sublist_append_left _ _⟩
   ·rw [valV_neg e,if_neg e]
    rcases ih r with q | ⟨d',v',B,h1,h2,h3,h4⟩
    ·exact .inl q
    ·exact .inr ⟨d',v',B,h1,h2,h3,h4.trans (List.sublist_append_right _ _)⟩
theorem RepT.append {ds es:List (List Key × D)} {xs ys:List (List Key × V)} {F G:List Addr} (r:RepT K H ds xs F) (q:RepT K H es ys G):RepT K H (ds++es) (xs++ys) (F++G):=by
 induction ds generalizing xs F with
 | nil=>cases r;exact q
 | cons d ds ih=>cases r with | cons h r=>rw [List.append_assoc];exact .cons h (ih r)
theorem RepT.put {ds:List (List Key × D)} {xs:List (List Key × V)} {F:List Addr} {k:List Key} {d:D} {v:V} (r:RepT K H ds xs F) (h:Rep K H d v []):∃G,RepT K H (putD ds k d) (putK xs k v) G/\G.Sublist F:=by
 have hk:(xs.any λkv=>decide (kv.1=k))=(ds.any λkv=>decide (kv.1=k)):=by
  have e:=r.keys
  rw [show (xs.any λkv=>decide (kv.1=k))=(xs.map (·.1)).any (λj=>decide (j=k)) by rw [List.any_map];rfl,e,List.any_map];rfl
 unfold putD putK
 rw [hk]
 split
 ·clear hk
  rename_i hc
  clear hc
  induction ds generalizing xs F with
  | nil=>cases r;exact ⟨[],.nil,List.Sublist.slnil⟩
  | cons e ds ih =>
   cases r with
   | @cons j e u _ us F G p r =>
    obtain ⟨G',q,s⟩:=ih r
    by_cases ej:j=k
    ·exact ⟨[]++G',by simpa [ej] using RepT.cons (k:=k) h q,s.trans (List.sublist_append_right _ _)⟩
    ·exact ⟨F++G',by simpa [ej] using RepT.cons (k:=j) p q,List.Sublist.append (List.Sublist.refl _) s⟩
 ·refine ⟨F++[],r.append ?_,by simp⟩
  exact RepT.cons (F:=[]) (G:=[]) h .nil
theorem RepT.drop {ds:List (List Key × D)} {xs:List (List Key × V)} {F:List Addr} {k:List Key} (r:RepT K H ds xs F):∃G,RepT K H (dropD ds k) (dropK xs k) G/\G.Sublist F:=by
 induction ds generalizing xs F with
 | nil=>cases r;exact ⟨[],.nil,List.Sublist.slnil⟩
 | cons e ds ih =>
  cases r with
  | @cons j e u _ us F G p r =>
   obtain ⟨G',q,s⟩:=ih r
   unfold dropD dropK at *
   by_cases ej:j=k
   ·exact ⟨G',by simpa [ej] using q,s.trans (List.sublist_append_right _ _)⟩
   ·exact ⟨F++G',by simpa [ej] using RepT.cons (k:=j) p q,List.Sublist.append (List.Sublist.refl _) s⟩
end
end PV
namespace PV
open PySem PySem.Spec L2
abbrev Env:=List (Option D)
def look:Env->Nat->Option D
 | [],_=>none
 | a::_,0=>a
 | _::r,n+1=>look r n
theorem look_get:∀{ρ:Env} {i:Nat} {d:D},look ρ i=some d->ρ[i]? = some (some d)
 | _::_,0,_,h=>by simpa [look] using h
 | _::r,n+1,_,h=>by simpa using look_get (ρ:=r) (i:=n) (by simpa [look] using h)
theorem look_lt {ρ:Env} {i:Nat} {d:D} (h:look ρ i=some d):i<ρ.length:=by
 have:=look_get h
 exact (List.getElem?_eq_some_iff.mp this).1
theorem look_set {o:Option D}:∀{ρ:Env} {i j:Nat},look (ρ.set i o) j=if j=i/\i<ρ.length then o else look ρ j
 | [],i,j=>by simp [look]
 | a::r,0,0=>by simp [look]
 | a::r,0,j+1=>by simp [look]
 | a::r,i+1,0=>by simp [look]
 | a::r,i+1,j+1=>by
  have:=look_set (o:=o) (ρ:=r) (i:=i) (j:=j)
  simp only [List.set_cons_succ,look,this,List.length_cons,Nat.add_right_cancel_iff,Nat.add_lt_add_iff_right]
theorem look_set_same {o:Option D} {ρ:Env} {i:Nat} (h:i<ρ.length):look (ρ.set i o) i=o:=by rw [look_set,if_pos ⟨rfl,h⟩]
theorem look_set_ne {o:Option D} {ρ:Env} {i j:Nat} (h:j≠i):look (ρ.set i o) j=look ρ j:=by rw [look_set,if_neg (λz=>h z.1)]
structure Tg where
 own:Nat->Bool
 io:List Nat
 xe:D->St->Hp->Prop:=λ_ _ _=>False
structure SR0 (K:PySem.W.Frag) (T:Tg) (z:Nat->V) (R:Addr->Prop) (H:Hp) (W:Addr->Prop) (σ:St) (ρ:Env) (fp:Nat->List Addr):Prop where
 len:ρ.length=σ.length
 wd:∀a,W a->∃ob,H a=some ob/\imm ob=false
 at_:∀i d,look ρ i=some d->∃v,σ[i]? = some (some v)/\Rep K H d v (fp i)
 own:∀i d,look ρ i=some d->T.own i=true->(fp i).Nodup/\∀a∈fp i,W a
 ro:∀i d,look ρ i=some d->T.own i=false->∀a∈fp i,R a
 wr:∀a,W a->¬R a
 rd:∀a,R a->∃ob,H a=some ob/\imm ob=false
 dis:∀i j d e,look ρ i=some d->look ρ j=some e->T.own i=true->T.own j=true->i≠j->∀a∈fp i,a∉fp j
 fix:∀i∈T.io,σ[i]? = some (some (z i))
def SR (K:PySem.W.Frag) (T:Tg) (z:Nat->V) (R:Addr->Prop) (H:Hp) (W:Addr->Prop) (σ:St) (ρ:Env):Prop:=∃fp,SR0 K T z R H W σ ρ fp
structure FrW (H:Hp) (W:Addr->Prop) (H':Hp) (W':Addr->Prop):Prop where
 keep:∀b ob,H b=some ob->¬W b->H' b=some ob
 dom:∀b,H' b=none->H b=none
 imm:ImmK H H'
 new:∀b,W' b->W b\/H b=none
theorem FrW.refl (H:Hp) (W:Addr->Prop):FrW H W H W:=⟨λ_ _ h _=>h,λ_ h=>h,λ_ _ h _=>h,λ_ h=>.inl h⟩
theorem FrW.trans {H H1 H2:Hp} {W W1 W2:Addr->Prop} (a:FrW H W H1 W1) (b:FrW H1 W1 H2 W2):FrW H W H2 W2 where
 keep:=λc ob h n=>b.keep c ob (a.keep c ob h n) λw=>by
  rcases a.new c w with w | w
  ·exact n w
  ·rw [w] at h;cases h
 dom:=λc h=>a.dom c (b.dom c h)
 imm:=λc ob h i=>b.imm c ob (a.imm c ob h i) i
 new:=λc h=>by
  rcases b.new c h with w | w
  ·exact a.new c w
  ·exact .inr (a.dom c w)
theorem Same.imm {H H':Hp} (s:Same H H'):ImmK H H':=λb ob h _=>s b ob h
theorem FrW.same {H H':Hp} (W:Addr->Prop) (s:Same H H'):FrW H W H' W:=⟨λb ob h _=>s b ob h,λb h=>s.free h,Same.imm s,λ_ h=>.inl h⟩
theorem Rep.same {K:PySem.W.Frag} {H H':Hp} {d:D} {v:V} {F:List Addr} (r:Rep K H d v F) (s:Same H H'):Rep K H' d v F :=
 r.frame (Same.imm s) λa m=>by
  obtain ⟨ob,h,_⟩:=r.dom a m
  rw [h];exact s _ _ h
theorem Reps.same {K:PySem.W.Frag} {H H':Hp} {d:List D} {v:List V} {F:List Addr} (r:Reps K H d v F) (s:Same H H'):Reps K H' d v F :=
 r.frame (Same.imm s) λa m=>by
  obtain ⟨ob,h,_⟩:=r.dom a m
  rw [h];exact s _ _ h
theorem Rep.keep {K:PySem.W.Frag} {H H':Hp} {W W':Addr->Prop} {d:D} {v:V} {F:List Addr} (r:Rep K H d v F) (f:FrW H W H' W') (n:∀a∈F,¬W a):Rep K H' d v F :=
 r.frame f.imm λa m=>by
  obtain ⟨ob,h,_⟩:=r.dom a m
  rw [h];exact f.keep _ _ h (n a m)
theorem Reps.keep {K:PySem.W.Frag} {H H':Hp} {W W':Addr->Prop} {d:List D} {v:List V} {F:List Addr} (r:Reps K H d v F) (f:FrW H W H' W') (n:∀a∈F,¬W a):Reps K H' d v F :=
 r.frame f.imm λa m=>by
  obtain ⟨ob,h,_⟩:=r.dom a m
  rw [h];exact f.keep _ _ h (n a m)
section
variable {K:PySem.W.Frag} {T:Tg} {z:Nat->V} {R:Addr->Prop} {H H':Hp} {W W':Addr->Prop} {σ:St} {ρ:Env}
theorem SR.same (s:SR K T z R H W σ ρ) (k:Same H H'):SR K T z R H' W σ ρ:=by
 obtain ⟨fp,r⟩:=s
 exact ⟨fp,r.len,λa h=>(r.wd a h).imp λob q=>⟨k _ _ q.1,q.2⟩,λi d h=>(r.at_ i d h).imp λv q=>⟨q.1,q.2.same k⟩,r.own,r.ro,r.wr,λa h=>(r.rd a h).imp λob q=>⟨k _ _ q.1,q.2⟩,r.dis,r.fix⟩
theorem SR.len (s:SR K T z R H W σ ρ):ρ.length=σ.length:=by obtain ⟨fp,r⟩:=s;exact r.len
theorem SR.wd (s:SR K T z R H W σ ρ):∀a,W a->∃ob,H a=some ob/\imm ob=false:=by obtain ⟨fp,r⟩:=s;exact r.wd
theorem SR.rd (s:SR K T z R H W σ ρ):∀a,R a->∃ob,H a=some ob/\imm ob=false:=by obtain ⟨fp,r⟩:=s;exact r.rd
theorem SR.wr (s:SR K T z R H W σ ρ):∀a,W a->¬R a:=by obtain ⟨fp,r⟩:=s;exact r.wr
theorem SR.nr (s:SR K T z R H W σ ρ) {a:Addr} (h:H a=none):¬R a:=λw=>by
 obtain ⟨ob,q,_⟩:=s.rd a w
 rw [h] at q;cases q
theorem SR.nw (s:SR K T z R H W σ ρ) {a:Addr} (h:H a=none):¬W a:=λw=>by
 obtain ⟨ob,q,_⟩:=s.wd a w
 rw [h] at q;cases q
theorem SR.drop (s:SR K T z R H W σ ρ) (i:Nat):SR K T z R H W σ (ρ.set i none):=by
 obtain ⟨fp,r⟩:=s
 have key:∀j d,look (ρ.set i none) j=some d->look ρ j=some d:=λj d h=>by
  rw [look_set] at h
  split at h
  ·cases h
  ·exact h
 exact ⟨fp,by rw [List.length_set];exact r.len,r.wd,λj d h=>r.at_ j d (key j d h),λj d h=>r.own j d (key j d h),λj d h=>r.ro j d (key j d h),r.wr,r.rd,λj k d e h h'=>r.dis j k d e (key j d h) (key k e h'),r.fix⟩
end
abbrev WE:=Env->(D->Env->Prop)->Prop
structure Post (K:PySem.W.Frag) (T:Tg) (z:Nat->V) (R:Addr->Prop) (m o:Bool) (H:Hp) (W:Addr->Prop) (σ:St) (ρ:Env) (H':Hp) (W':Addr->Prop) (ρ':Env) (d:D) (v:V) (F:List Addr):Prop where
 sr:SR K T z R H' W' σ ρ'
 fr:FrW H W H' W'
 calm:m=false->Same H H'/\W'=W/\ρ'=ρ
 rep:Rep K H' d v F
 own:o=true->F.Nodup/\∀a∈F,H a=none/\¬W' a
def EV (X:Cx) (T:Tg) (m o:Bool) (e:Expr) (w:WE):Prop :=
 ∃te,PE X e te/\∀(z:Nat->V) (R:Addr->Prop) (σ:St) (H:Hp) (W:Addr->Prop) (ρ:Env) (Q:D->Env->Prop) (Q':VK),SR X.K T z R H W σ ρ->w ρ Q ->
  (∀v H' W' d ρ' F,Post X.K T z R m o H W σ ρ H' W' ρ' d v F->Q d ρ'->Q' v H')->te σ H Q'
section
variable {K:PySem.W.Frag} {T:Tg} {z:Nat->V} {R:Addr->Prop} {H H1 H2:Hp} {W W1 W2:Addr->Prop} {σ:St} {ρ ρ1 ρ2:Env} {m1 m2 o1 o2:Bool} {d1 d2:D} {v1 v2:V} {F1 F2:List Addr}
theorem Post.first (p:Post K T z R m1 o1 H W σ ρ H1 W1 ρ1 d1 v1 F1) (q:Post K T z R m2 o2 H1 W1 σ ρ1 H2 W2 ρ2 d2 v2 F2) (hc:o1=true\/m2=false):Rep K H2 d1 v1 F1:=by
 rcases hc with hc | hc
 ·exact p.rep.keep q.fr λa h=>((p.own hc).2 a h).2
 ·exact p.rep.same (q.calm hc).1
theorem Post.firstOwn (p:Post K T z R m1 o1 H W σ ρ H1 W1 ρ1 d1 v1 F1) (q:Post K T z R m2 o2 H1 W1 σ ρ1 H2 W2 ρ2 d2 v2 F2) (h:o1=true):F1.Nodup/\∀a∈F1,H a=none/\¬W2 a:=by
 obtain ⟨h1,h2⟩:=p.own h
 refine ⟨h1,λa m=>⟨(h2 a m).1,λw=>?_⟩⟩
 rcases q.fr.new a w with w | w
 ·exact (h2 a m).2 w
 ·obtain ⟨ob,e,_⟩:=p.rep.dom a m
  rw [e] at w;cases w
theorem Post.lastOwn (p:Post K T z R m1 o1 H W σ ρ H1 W1 ρ1 d1 v1 F1) (q:Post K T z R m2 o2 H1 W1 σ ρ1 H2 W2 ρ2 d2 v2 F2) (h:o2=true):F2.Nodup/\∀a∈F2,H a=none/\¬W2 a:=by
 obtain ⟨h1,h2⟩:=q.own h
 exact ⟨h1,λa m=>⟨p.fr.dom a (h2 a m).1,(h2 a m).2⟩⟩
theorem Post.calm2 (p:Post K T z R m1 o1 H W σ ρ H1 W1 ρ1 d1 v1 F1) (q:Post K T z R m2 o2 H1 W1 σ ρ1 H2 W2 ρ2 d2 v2 F2) (h:(m1 || m2)=false):Same H H2/\W2=W/\ρ2=ρ:=by
 rw [Bool.or_eq_false_iff] at h
 obtain ⟨a1,a2,a3⟩:=p.calm h.1
 obtain ⟨b1,b2,b3⟩:=q.calm h.2
 exact ⟨a1.trans b1,b2.trans a2,b3.trans a3⟩
theorem Post.fin {m:Bool} {d:D} {v:V} {F:List Addr} (s:SR K T z R H1 W1 σ ρ1) (f:FrW H W H1 W1) (c:m=false->Same H H1/\W1=W/\ρ1=ρ) (k:Same H1 H2) (r:Rep K H2 d v F) (nd:F.Nodup) (nw:∀a∈F,H1 a=none) :
  Post K T z R m true H W σ ρ H2 W1 ρ1 d v F where
 sr:=s.same k
 fr:=f.trans (FrW.same W1 k)
 calm:=λh=>⟨(c h).1.trans k,(c h).2⟩
 rep:=r
 own:=λ_=>⟨nd,λa m=>⟨f.dom a (nw a m),s.nw (nw a m)⟩⟩
theorem Post.flat {m:Bool} {d:D} {v:V} (s:SR K T z R H1 W1 σ ρ1) (f:FrW H W H1 W1) (c:m=false->Same H H1/\W1=W/\ρ1=ρ) (r:Rep K H1 d v []):Post K T z R m true H W σ ρ H1 W1 ρ1 d v [] where
 sr:=s
 fr:=f
 calm:=c
 rep:=r
 own:=λ_=>⟨List.nodup_nil,λa m=>nomatch m⟩
end
section
variable {X:Cx} {T:Tg} {m o m1 m2 o1 o2:Bool} {e a b:Expr} {w wa wb:WE} {pos:Pos}
theorem EV.lift (h:EV X T m o e w):EV X T m true e (λρ Q=>w ρ λd ρ'=>d.pure=true/\Q d ρ'):=by
 obtain ⟨te,p,g⟩:=h
 refine ⟨te,p,λz R σ H W ρ Q Q' s hw k=>g z R σ H W ρ _ Q' s hw λv H' W' d ρ' F q ⟨hp,hq⟩=>?_⟩
 obtain ⟨e,r⟩:=q.rep.pure hp
 exact k v H' W' d ρ' [] ⟨q.sr,q.fr,q.calm,r,λ_=>⟨List.nodup_nil,λa m=>nomatch m⟩⟩ hq
theorem EV.ro (h:EV X T m o e w):EV X T m false e w:=by
 obtain ⟨te,p,g⟩:=h
 exact ⟨te,p,λz R σ H W ρ Q Q' s hw k=>g z R σ H W ρ _ Q' s hw λv H' W' d ρ' F q hq=>k v H' W' d ρ' F ⟨q.sr,q.fr,q.calm,q.rep,λh=>nomatch h⟩ hq⟩
theorem EV.mut (h:EV X T m o e w):EV X T true o e w:=by
 obtain ⟨te,p,g⟩:=h
 exact ⟨te,p,λz R σ H W ρ Q Q' s hw k=>g z R σ H W ρ _ Q' s hw λv H' W' d ρ' F q hq=>k v H' W' d ρ' F ⟨q.sr,q.fr,(λh=>nomatch h),q.rep,q.own⟩ hq⟩
def wVar (i:Nat):WE:=λρ Q=>match look ρ i with
 | some d=>Q d ρ
 | none=>False
def wC (d:D):WE:=λρ Q=>Q d ρ
theorem ev_pv (i:Nat) (h:PE X e (tVar i)):EV X T false false e (wVar i):=by
 refine ⟨_,h,λz R σ H W ρ Q Q' s hw k=>?_⟩
 unfold wVar at hw
 cases hl:look ρ i with
 | none=>rw [hl] at hw;exact hw.elim
 | some d =>
  rw [hl] at hw
  obtain ⟨fp,r⟩:=s
  obtain ⟨v,h1,h2⟩:=r.at_ i d hl
  exact ⟨v,h1,k v H W d ρ (fp i) ⟨⟨fp,r⟩,FrW.refl H W,λ_=>⟨Same.refl H,rfl,rfl⟩,h2,λh=>nomatch h⟩ hw⟩
theorem ev_var (i:Nat) {x:Str} (hN:X.N[i]? = some x:=by rfl) (hv:Vis X.env.scope x:=by first | exact Or.inl rfl | exact Or.inr (Or.inl rfl) | exact Or.inr (Or.inr rfl)) (hd:(x == ("__debug__" : Str))=false:=by decide)
  (hcd:(x == ("__classdict__" : Str))=false:=by decide):EV X T false false (.Name x pos) (wVar i):=ev_pv i (pe_var hN hv hd hcd)
theorem ev_const {d:D} {v:V} (h:PE X e (tC v)) (r:∀H,Rep X.K H d v []):EV X T false true e (wC d) :=
 ⟨_,h,λz R σ H W ρ Q Q' s hw k=>k v H W d ρ [] (Post.flat s (FrW.refl H W) (λ_=>⟨Same.refl H,rfl,rfl⟩) (r H)) hw⟩
theorem ev_int {i:Int} {j pos}:EV X T false true (.Constant (.int i) j pos) (wC (.int i)):=ev_const pe_int λ_=>.int i
theorem ev_bl {i:Bool} {j pos}:EV X T false true (.Constant (.bool i) j pos) (wC (.bl i)):=ev_const pe_bl λ_=>.bl i
theorem ev_str {i:Str} {j pos}:EV X T false true (.Constant (.str i) j pos) (wC (.str i)):=ev_const pe_str λ_=>.str i
theorem ev_non {j pos}:EV X T false true (.Constant .none j pos) (wC .non):=ev_const pe_non λ_=>.non
abbrev G2:=D->D->(D->Prop)->Prop
structure Fin (K:PySem.W.Frag) (H H':Hp) (d:D) (v:V) (F:List Addr):Prop where
 same:Same H H'
 rep:Rep K H' d v F
 nd:F.Nodup
 new:∀a∈F,H a=none
theorem Fin.flat {K:PySem.W.Frag} {H:Hp} {d:D} {v:V} (r:Rep K H d v []):Fin K H H d v []:=⟨Same.refl H,r,List.nodup_nil,λ_ m=>nomatch m⟩
theorem same_upd {H:Hp} {p:Addr} {ob:HO} (h:H p=none):Same H (upd H p ob):=λb u e=>by rw [upd_ne (ne_of_none e h)];exact e
def OpD (X:Cx) (f:Value->Value->Sem Value) (g:G2):Prop :=
 ∃r,OpR X f r/\∀(H:Hp) (a b:D) (x y:V) (F1 F2:List Addr) (k:D->Prop) (Q:VK),Rep X.K H a x F1->Rep X.K H b y F2->g a b k ->
  (∀v H' d F,Fin X.K H H' d v F->k d->Q v H')->r x y H Q
def wBin (g:G2) (wa wb:WE):WE:=λρ Q=>wa ρ λx ρ1=>wb ρ1 λy ρ2=>g x y λd=>Q d ρ2
theorem two {ta tb:TE} {z:Nat->V} {R:Addr->Prop} {σ:St} {H:Hp} {W:Addr->Prop} {ρ:Env} {RR:V->V->Hp->Prop} {Q2:D->D->Env->Prop}
  (ga:∀(z:Nat->V) (R:Addr->Prop) (σ:St) (H:Hp) (W:Addr->Prop) (ρ:Env) (Q:D->Env->Prop) (Q':VK),SR X.K T z R H W σ ρ->wa ρ Q->(∀v H' W' d ρ' F,Post X.K T z R m1 o1 H W σ ρ H' W' ρ' d v F->Q d ρ'->Q' v H')->ta σ H Q')
  (gb:∀(z:Nat->V) (R:Addr->Prop) (σ:St) (H:Hp) (W:Addr->Prop) (ρ:Env) (Q:D->Env->Prop) (Q':VK),SR X.K T z R H W σ ρ->wb ρ Q->(∀v H' W' d ρ' F,Post X.K T z R m2 o2 H W σ ρ H' W' ρ' d v F->Q d ρ'->Q' v H')->tb σ H Q')
  (hc:o1=true\/m2=false) (s:SR X.K T z R H W σ ρ) (hw:wa ρ λx ρ1=>wb ρ1 λy ρ2=>Q2 x y ρ2)
  (k:∀x y H2 W2 d1 d2 ρ2 F1 F2,SR X.K T z R H2 W2 σ ρ2->FrW H W H2 W2->((m1 || m2)=false->Same H H2/\W2=W/\ρ2=ρ)->Rep X.K H2 d1 x F1->Rep X.K H2 d2 y F2 ->
   (o1=true->F1.Nodup/\∀a∈F1,H a=none/\¬W2 a)->(o2=true->F2.Nodup/\∀a∈F2,H a=none/\¬W2 a)->(o2=true->∀a∈F1,a∉F2)->Q2 d1 d2 ρ2->RR x y H2) :
  ta σ H λx H1=>tb σ H1 λy H2=>RR x y H2:=by
 refine ga z R σ H W ρ _ _ s hw λv1 H1 W1 d1 ρ1 F1 p q1=>?_
 refine gb z R σ H1 W1 ρ1 _ _ p.sr q1 λv2 H2 W2 d2 ρ2 F2 q q2=>?_
 refine k v1 v2 H2 W2 d1 d2 ρ2 F1 F2 q.sr (p.fr.trans q.fr) (p.calm2 q) (p.first q hc) q.rep (p.firstOwn q) (p.lastOwn q) (λh a m1 m2=>?_) q2
 obtain ⟨ob,e,_⟩:=p.rep.dom a m1
 rw [((q.own h).2 a m2).1] at e
 cases e
theorem ev_op {op:Operator} {g:G2} (ho:OpD X (binaryOp op) g) (ha:EV X T m1 o1 a wa) (hb:EV X T m2 o2 b wb) (hc:o1=true\/m2=false:=by first | exact .inl rfl | exact .inr rfl) :
  EV X T (m1 || m2) true (.BinOp a op b pos) (wBin g wa wb):=by
 obtain ⟨r,ro,gr⟩:=ho
 obtain ⟨ta,pa,ga⟩:=ha
 obtain ⟨tb,pb,gb⟩:=hb
 refine ⟨_,pe_op ro pa pb,λz R σ H W ρ Q Q' s hw k=>?_⟩
 refine two ga gb hc s hw λx y H2 W2 d1 d2 ρ2 F1 F2 s2 f2 c2 r1 r2 _ _ _ q2=>?_
 exact gr H2 d1 d2 x y F1 F2 _ Q' r1 r2 q2 λv H' d F fi hk=>k v H' W2 d ρ2 F (Post.fin s2 f2 c2 fi.same fi.rep fi.nd fi.new) hk
theorem ev_cmp {op:CmpOp} {g:G2} (ho:OpD X (compareOp op) g) (ha:EV X T m1 o1 a wa) (hb:EV X T m2 o2 b wb) (hc:o1=true\/m2=false:=by first | exact .inl rfl | exact .inr rfl)
  (hm:behindInMarks op b=false:=by first | exact nomark _ | with_unfolding_all rfl):EV X T (m1 || m2) true (.Compare a [op] [b] pos) (wBin g wa wb):=by
 obtain ⟨r,ro,gr⟩:=ho
 obtain ⟨ta,pa,ga⟩:=ha
 obtain ⟨tb,pb,gb⟩:=hb
 refine ⟨_,pe_cmpR ro pa pb hm,λz R σ H W ρ Q Q' s hw k=>?_⟩
 refine two ga gb hc s hw λx y H2 W2 d1 d2 ρ2 F1 F2 s2 f2 c2 r1 r2 _ _ _ q2=>?_
 exact gr H2 d1 d2 x y F1 F2 _ Q' r1 r2 q2 λv H' d F fi hk=>k v H' W2 d ρ2 F (Post.fin s2 f2 c2 fi.same fi.rep fi.nd fi.new) hk
def UnD (X:Cx) (f:Value->Sem Value) (g:D->(D->Prop)->Prop):Prop :=
 ∃r,UnR X f r/\∀(H:Hp) (a:D) (x:V) (F1:List Addr) (k:D->Prop) (Q:VK),Rep X.K H a x F1->g a k->(∀v H' d F,Fin X.K H H' d v F->k d->Q v H')->r x H Q
def wUn (g:D->(D->Prop)->Prop) (wa:WE):WE:=λρ Q=>wa ρ λx ρ1=>g x λd=>Q d ρ1
theorem ev_un {op:UnaryOp} {g:D->(D->Prop)->Prop} (ho:UnD X (unaryOp op) g) (ha:EV X T m o a wa):EV X T m true (.UnaryOp op a pos) (wUn g wa):=by
 obtain ⟨r,ro,gr⟩:=ho
 obtain ⟨ta,pa,ga⟩:=ha
 refine ⟨_,pe_un ro pa,λz R σ H W ρ Q Q' s hw k=>?_⟩
 refine ga z R σ H W ρ _ _ s hw λv1 H1 W1 d1 ρ1 F1 p q1=>?_
 exact gr H1 d1 v1 F1 _ Q' p.rep q1 λv H' d F fi hk=>k v H' W1 d ρ1 F (Post.fin p.sr p.fr p.calm fi.same fi.rep fi.nd fi.new) hk
abbrev WT:=Env->(Bool->Env->Prop)->Prop
structure PostT (K:PySem.W.Frag) (T:Tg) (z:Nat->V) (R:Addr->Prop) (m:Bool) (H:Hp) (W:Addr->Prop) (σ:St) (ρ:Env) (H':Hp) (W':Addr->Prop) (ρ':Env):Prop where
 sr:SR K T z R H' W' σ ρ'
 fr:FrW H W H' W'
 calm:m=false->Same H H'/\W'=W/\ρ'=ρ
def TV (X:Cx) (T:Tg) (m:Bool) (e:Expr) (w:WT):Prop :=
 ∃tt,PT X e tt/\∀(z:Nat->V) (R:Addr->Prop) (σ:St) (H:Hp) (W:Addr->Prop) (ρ:Env) (Q:Bool->Env->Prop) (Q':Bool->Hp->Prop),SR X.K T z R H W σ ρ->w ρ Q ->
  (∀b H' W' ρ',PostT X.K T z R m H W σ ρ H' W' ρ'->Q b ρ'->Q' b H')->tt σ H Q'
def truD:D->Option Bool
 | .non=>some false
 | .bl b=>some b
 | .int i=>some (i != 0)
 | .str y=>if y.length<=sizeLine then some ((y.length:Int) != 0) else none
 | .lst xs=>some (!xs.isEmpty)
 | .tup xs=>some (!xs.isEmpty)
 | .dik kvs=>some (!kvs.isEmpty)
 | .kls xs=>some (!xs.isEmpty)
 | .dit _=>none
 | .ty _=>none
 | .fdk _=>none
 | .ftp _=>none
 | .fls _=>none
 | .fdt _=>none
 | .obj _ _=>none
 | .clo _ _=>none
 | .kc _=>none
def wTru (wa:WE):WT:=λρ Q=>wa ρ λd ρ'=>match truD d with
 | some b=>Q b ρ'
 | none=>False
theorem Reps.emp {K:PySem.W.Frag} {H:Hp} {ds:List D} {xs:List V} {F:List Addr} (r:Reps K H ds xs F):ds.isEmpty=xs.isEmpty:=by
 have:=r.length
 cases ds <;> cases xs <;> simp at this <;> rfl
theorem RepK.emp {K:PySem.W.Frag} {H:Hp} {ds:List (Key × D)} {xs:List (Key × V)} {F:List Addr} (r:RepK K H ds xs F):ds.isEmpty=xs.isEmpty:=by
 have:=r.length
 cases ds <;> cases xs <;> simp at this <;> rfl
theorem truV_of {K:PySem.W.Frag} {H:Hp} {d:D} {x:V} {F:List Addr} {b:Bool} (r:Rep K H d x F) (h:truD d=some b):TruV K x H b:=by
 cases r with
 | non=>exact (Option.some.inj h).symm
 | bl c=>exact (Option.some.inj h).symm
 | int c=>exact (Option.some.inj h).symm
 | str y =>
  have h:(if y.length<=sizeLine then some ((y.length:Int) != 0) else none)=some b:=h
  split at h
  ·rename_i hl;exact ⟨hl,(Option.some.inj h).symm⟩
  ·cases h
 | tup e r =>
  refine .inr (.inl ⟨_,.of e,?_⟩)
  rw [← Option.some.inj h,r.emp]
 | lst e r =>
  refine .inl ⟨_,.of e,?_⟩
  rw [← Option.some.inj h,r.emp]
 | kls e r =>
  refine .inl ⟨_,e.sq,?_⟩
  rw [← Option.some.inj h,r.emp]
 | dik e r =>
  refine .inr (.inr ⟨_,e,?_⟩)
  rw [← Option.some.inj h,r.emp]
 | dit e r=>cases h
 | ty t=>cases h
 | fdk e r=>cases h
 | ftp e hd r=>cases h
 | fls e r=>cases h
 | fdt e r=>cases h
 | obj e hc hf=>cases h
 | clo e r=>cases h
 | kc a=>cases h
theorem tv_tru (ha:EV X T m o a wa) (he:∀whole,isTrue a X.env whole=(do let v ← whole;standAt a.pos;holding [v] (truthy v)):=by intro _;rfl):TV X T m a (wTru wa):=by
 obtain ⟨ta,pa,ga⟩:=ha
 refine ⟨_,pt_truth pa he,λz R σ H W ρ Q Q' s hw k=>?_⟩
 refine ga z R σ H W ρ _ _ s hw λv1 H1 W1 d1 ρ1 F1 p q1=>?_
 cases ht:truD d1 with
 | none=>rw [ht] at q1;exact q1.elim
 | some b =>
  rw [ht] at q1
  exact ⟨b,truV_of p.rep ht,k b H1 W1 ρ1 ⟨p.sr,p.fr,p.calm⟩ q1⟩
def wBl (wa:WE):WT:=λρ Q=>wa ρ λd ρ'=>match d with
 | .bl b=>Q b ρ'
 | _=>False
theorem rep_bl {K:PySem.W.Frag} {H:Hp} {b:Bool} {x:V} {F:List Addr} (r:Rep K H (.bl b) x F):x=.bl b:=by cases r;rfl
theorem tv_cmp {op:CmpOp} {g:G2} (ho:OpD X (compareOp op) g) (ha:EV X T m1 o1 a wa) (hb:EV X T m2 o2 b wb) (hc:o1=true\/m2=false:=by first | exact .inl rfl | exact .inr rfl)
  (hm:behindInMarks op b=false:=by first | exact nomark _ | with_unfolding_all rfl):TV X T (m1 || m2) (.Compare a [op] [b] pos) (wBl (wBin g wa wb)):=by
 obtain ⟨r,ro,gr⟩:=ho
 obtain ⟨ta,pa,ga⟩:=ha
 obtain ⟨tb,pb,gb⟩:=hb
 refine ⟨_,pt_cmpR ro pa pb hm,λz R σ H W ρ Q Q' s hw k=>?_⟩
 refine two ga gb hc s hw λx y H2 W2 d1 d2 ρ2 F1 F2 s2 f2 c2 r1 r2 _ _ _ q2=>?_
 refine gr H2 d1 d2 x y F1 F2 _ _ r1 r2 q2 λv H' d F fi hk=>?_
 cases d with
 | bl b=>exact ⟨b,rep_bl fi.rep,k b H' W2 ρ2 ⟨s2.same fi.same,f2.trans (FrW.same W2 fi.same),λh=>⟨(c2 h).1.trans fi.same,(c2 h).2⟩⟩ hk⟩
 | _=>exact hk.elim
variable {wt wu:WT} {rest:List Expr}
def wNot (wt:WT):WT:=λρ Q=>wt ρ λb ρ'=>Q (!b) ρ'
def wAnd (wt wu:WT):WT:=λρ Q=>wt ρ λb ρ'=>if b=true then wu ρ' Q else Q false ρ'
def wOr (wt wu:WT):WT:=λρ Q=>wt ρ λb ρ'=>if b=true then Q true ρ' else wu ρ' Q
theorem tv_not (ha:TV X T m a wt):TV X T m (.UnaryOp .Not a pos) (wNot wt):=by
 obtain ⟨ta,pa,ga⟩:=ha
 exact ⟨_,pt_not pa,λz R σ H W ρ Q Q' s hw k=>ga z R σ H W ρ _ _ s hw λb H1 W1 ρ1 p q1=>k (!b) H1 W1 ρ1 p q1⟩
def BV (X:Cx) (T:Tg) (m:Bool) (e:Expr) (w:WT):Prop :=
 ∃tt,PW X e tt/\∀(z:Nat->V) (R:Addr->Prop) (σ:St) (H:Hp) (W:Addr->Prop) (ρ:Env) (Q:Bool->Env->Prop) (Q':Bool->Hp->Prop),SR X.K T z R H W σ ρ->w ρ Q ->
  (∀b H' W' ρ',PostT X.K T z R m H W σ ρ H' W' ρ'->Q b ρ'->Q' b H')->tt σ H Q'
theorem PostT.seq {K:PySem.W.Frag} {z:Nat->V} {R:Addr->Prop} {H H1 H2:Hp} {W W1 W2:Addr->Prop} {σ:St} {ρ ρ1 ρ2:Env} (p:PostT K T z R m1 H W σ ρ H1 W1 ρ1) (q:PostT K T z R m2 H1 W1 σ ρ1 H2 W2 ρ2):PostT K T z R (m1 || m2) H W σ ρ H2 W2 ρ2 where
 sr:=q.sr
 fr:=p.fr.trans q.fr
 calm:=λh=>by
  rw [Bool.or_eq_false_iff] at h
  obtain ⟨a1,a2,a3⟩:=p.calm h.1
  obtain ⟨b1,b2,b3⟩:=q.calm h.2
  exact ⟨a1.trans b1,b2.trans a2,b3.trans a3⟩
theorem PostT.left {K:PySem.W.Frag} {z:Nat->V} {R:Addr->Prop} {H H1:Hp} {W W1:Addr->Prop} {σ:St} {ρ ρ1:Env} (p:PostT K T z R m1 H W σ ρ H1 W1 ρ1):PostT K T z R (m1 || m2) H W σ ρ H1 W1 ρ1 :=
 ⟨p.sr,p.fr,λh=>p.calm (Bool.or_eq_false_iff.mp h).1⟩
theorem bv_and1 (ha:TV X T m a wt):BV X T m (.BoolOp .And [a] pos) wt:=by
 obtain ⟨ta,pa,ga⟩:=ha
 exact ⟨_,pw_and1 pa,ga⟩
theorem bv_or1 (ha:TV X T m a wt):BV X T m (.BoolOp .Or [a] pos) wt:=by
 obtain ⟨ta,pa,ga⟩:=ha
 exact ⟨_,pw_or1 pa,ga⟩
theorem bv_and (ha:TV X T m1 a wt) (hb:BV X T m2 (.BoolOp .And (b::rest) pos) wu):BV X T (m1 || m2) (.BoolOp .And (a::b::rest) pos) (wAnd wt wu):=by
 obtain ⟨ta,pa,ga⟩:=ha
 obtain ⟨tb,pb,gb⟩:=hb
 refine ⟨_,pw_and pa pb,λz R σ H W ρ Q Q' s hw k=>ga z R σ H W ρ _ _ s hw λc H1 W1 ρ1 p q1=>?_⟩
 cases c with
 | true=>exact gb z R σ H1 W1 ρ1 Q Q' p.sr q1 λb H2 W2 ρ2 q q2=>k b H2 W2 ρ2 (p.seq q) q2
 | false=>exact k false H1 W1 ρ1 p.left q1
theorem bv_or (ha:TV X T m1 a wt) (hb:BV X T m2 (.BoolOp .Or (b::rest) pos) wu):BV X T (m1 || m2) (.BoolOp .Or (a::b::rest) pos) (wOr wt wu):=by
 obtain ⟨ta,pa,ga⟩:=ha
 obtain ⟨tb,pb,gb⟩:=hb
 refine ⟨_,pw_or pa pb,λz R σ H W ρ Q Q' s hw k=>ga z R σ H W ρ _ _ s hw λc H1 W1 ρ1 p q1=>?_⟩
 cases c with
 | false=>exact gb z R σ H1 W1 ρ1 Q Q' p.sr q1 λb H2 W2 ρ2 q q2=>k b H2 W2 ρ2 (p.seq q) q2
 | true=>exact k true H1 W1 ρ1 p.left q1
theorem tv_bool (h:BV X T m e wt):TV X T m e wt:=by
 obtain ⟨ta,pa,ga⟩:=h
 exact ⟨_,pa.pt,ga⟩
def wIfE (wt:WT) (wa wb:WE):WE:=λρ Q=>wt ρ λc ρ1=>if c=true then wa ρ1 Q else wb ρ1 Q
theorem ev_if {c:Expr} {m0:Bool} (hc:TV X T m0 c wt) (ha:EV X T m1 o a wa) (hb:EV X T m2 o b wb):EV X T (m0 || (m1 || m2)) o (.IfExp c a b pos) (wIfE wt wa wb):=by
 obtain ⟨tc,pc,gc⟩:=hc
 obtain ⟨ta,pa,ga⟩:=ha
 obtain ⟨tb,pb,gb⟩:=hb
 refine ⟨_,pe_ifExp pc pa pb,λz R σ H W ρ Q Q' s hw k=>gc z R σ H W ρ _ _ s hw λc H1 W1 ρ1 p q1=>?_⟩
 have fin:∀{m':Bool} v H' W' d ρ' F,Post X.K T z R m' o H1 W1 σ ρ1 H' W' ρ' d v F->((m1 || m2)=false->m'=false)->Q d ρ'->Q' v H':=λv H' W' d ρ' F q hm hq=>by
  refine k v H' W' d ρ' F ⟨q.sr,p.fr.trans q.fr,λh=>?_,q.rep,λh=>⟨(q.own h).1,λa ma=>⟨p.fr.dom a ((q.own h).2 a ma).1,((q.own h).2 a ma).2⟩⟩⟩ hq
  rw [Bool.or_eq_false_iff] at h
  obtain ⟨a1,a2,a3⟩:=p.calm h.1
  obtain ⟨b1,b2,b3⟩:=q.calm (hm h.2)
  exact ⟨a1.trans b1,b2.trans a2,b3.trans a3⟩
 cases c with
 | true=>exact ga z R σ H1 W1 ρ1 Q Q' p.sr q1 λv H' W' d ρ' F q hq=>fin v H' W' d ρ' F q (λh=>(Bool.or_eq_false_iff.mp h).1) hq
 | false=>exact gb z R σ H1 W1 ρ1 Q Q' p.sr q1 λv H' W' d ρ' F q hq=>fin v H' W' d ρ' F q (λh=>(Bool.or_eq_false_iff.mp h).2) hq
end
end PV
namespace PV
open PySem PySem.Spec L2
open PySem.W (Dat kqdP kqdPs kqdOk)
mutual
def toDat:D->Dat
 | .non=>.none
 | .bl b=>.bool b
 | .int i=>.int i
 | .str x=>.str x
 | .tup xs=>.tuple (toDats xs)
 | .lst xs=>.list (toDats xs)
 | .dik _=>.none
 | .dit _=>.none
 | .kls _=>.none
 | .ty _=>.none
 | .fdk _=>.none
 | .ftp _=>.none
 | .fls _=>.none
 | .fdt _=>.none
 | .obj _ _=>.none
 | .clo _ _=>.none
 | .kc _=>.none
def toDats:List D->List Dat
 | []=>[]
 | d::r=>toDat d::toDats r
end
mutual
def eqOk:Nat->D->Bool
 | _,.non=>true
 | _,.int _=>true
 | _,.str x=>PyData.strOk x
 | n+1,.tup xs=>eqOks n xs
 | n+1,.lst xs=>eqOks n xs
 | _,_=>false
def eqOks:Nat->List D->Bool
 | _,[]=>true
 | n,d::r=>eqOk n d && eqOks n r
end
theorem eqOks_iff {n:Nat} {xs:List D}:eqOks n xs=true↔∀x∈xs,eqOk n x=true:=by
 induction xs with
 | nil=>simp [eqOks]
 | cons d r ih=>simp only [eqOks,Bool.and_eq_true,ih,List.mem_cons,forall_eq_or_imp]
mutual
theorem eqOk_kqd:∀(n:Nat) (d:D),eqOk n d=true->kqdOk n (toDat d)=true
 | _,.non,_=>by simp [toDat,kqdOk]
 | _,.bl _,h=>by cases ‹Nat› <;> simp [eqOk] at h
 | _,.int _,_=>by simp [toDat,kqdOk]
 | _,.str x,h=>by
  cases ‹Nat› <;> (simp only [eqOk] at h;simpa [toDat,kqdOk] using h)
 | 0,.tup _,h=>by simp [eqOk] at h
 | 0,.lst _,h=>by simp [eqOk] at h
 | n+1,.tup xs,h=>by
  simp only [eqOk] at h
  rw [toDat];simp only [kqdOk]
  exact eqOks_kqd n xs h
 | n+1,.lst xs,h=>by
  simp only [eqOk] at h
  rw [toDat];simp only [kqdOk]
  exact eqOks_kqd n xs h
 | n,.dik _,h=>by cases n <;> simp [eqOk] at h
 | n,.dit _,h=>by cases n <;> simp [eqOk] at h
 | n,.kls _,h=>by cases n <;> simp [eqOk] at h
 | n,.ty _,h=>by cases n <;> simp [eqOk] at h
 | n,.fdk _,h=>by cases n <;> simp [eqOk] at h
 | n,.ftp _,h=>by cases n <;> simp [eqOk] at h
 | n,.fls _,h=>by cases n <;> simp [eqOk] at h
 | n,.fdt _,h=>by cases n <;> simp [eqOk] at h
 | n,.obj _ _,h=>by cases n <;> simp [eqOk] at h
 | n,.clo _ _,h=>by cases n <;> simp [eqOk] at h
 | n,.kc _,h=>by cases n <;> simp [eqOk] at h
theorem eqOks_kqd:∀(n:Nat) (xs:List D),eqOks n xs=true->(toDats xs).all (kqdOk n)=true
 | _,[],_=>by simp [toDats]
 | n,d::r,h=>by
  simp only [eqOks,Bool.and_eq_true] at h
  rw [toDats,List.all_cons,eqOk_kqd n d h.1,eqOks_kqd n r h.2];rfl
end
mutual
theorem toDat_inj:∀(n k:Nat) (a b:D),eqOk n a=true->eqOk k b=true->toDat a=toDat b->a=b
 | n,k,a,b,ha,hb,h=>by
  cases a with
  | non=>cases b <;> first | rfl | (simp [toDat] at h;done) | (cases k <;> simp [eqOk] at hb)
  | bl x=>cases n <;> simp [eqOk] at ha
  | int x=>cases b <;> first | (simp [toDat] at h;rw [h]) | (simp [toDat] at h)
  | str x=>cases b <;> first | (simp [toDat] at h;rw [h]) | (simp [toDat] at h)
  | tup xs =>
   cases b with
   | tup ys =>
    cases n with
    | zero=>simp [eqOk] at ha
    | succ n =>
     cases k with
     | zero=>simp [eqOk] at hb
     | succ k =>
      simp only [eqOk] at ha hb
      simp only [toDat,Dat.tuple.injEq] at h
      rw [toDats_inj n k xs ys ha hb h]
   | _=>simp [toDat] at h
  | lst xs =>
   cases b with
   | lst ys =>
    cases n with
    | zero=>simp [eqOk] at ha
    | succ n =>
     cases k with
     | zero=>simp [eqOk] at hb
     | succ k =>
      simp only [eqOk] at ha hb
      simp only [toDat,Dat.list.injEq] at h
      rw [toDats_inj n k xs ys ha hb h]
   | _=>simp [toDat] at h
  | dik x=>cases n <;> simp [eqOk] at ha
  | dit x=>cases n <;> simp [eqOk] at ha
  | kls x=>cases n <;> simp [eqOk] at ha
  | ty x=>cases n <;> simp [eqOk] at ha
  | fdk x=>cases n <;> simp [eqOk] at ha
  | ftp x=>cases n <;> simp [eqOk] at ha
  | fls x=>cases n <;> simp [eqOk] at ha
  | fdt x=>cases n <;> simp [eqOk] at ha
  | obj x y=>cases n <;> simp [eqOk] at ha
  | clo x y=>cases n <;> simp [eqOk] at ha
  | kc x=>cases n <;> simp [eqOk] at ha
theorem toDats_inj:∀(n k:Nat) (a b:List D),eqOks n a=true->eqOks k b=true->toDats a=toDats b->a=b
 | n,k,[],b,ha,hb,h=>by
  cases b with
  | nil=>rfl
  | cons=>simp [toDats] at h
 | n,k,x::a,b,ha,hb,h=>by
  cases b with
  | nil=>simp [toDats] at h
  | cons y b =>
   simp only [toDats,List.cons.injEq] at h
   simp only [eqOks,Bool.and_eq_true] at ha hb
   rw [toDat_inj n k x y ha.1 hb.1 h.1,toDats_inj n k a b ha.2 hb.2 h.2]
end
theorem Rep.dv {K:PySem.W.Frag} {H:Hp} {d:D} {v:V} {F:List Addr} (n:Nat) (r:Rep K H d v F):eqOk n d=true->DV H v (toDat d):=by
 have no:∀{P:Prop} {n:Nat} {d:D},(∀n,eqOk n d=false)->eqOk n d=true->P:=λh h'=>absurd ((h _).symm.trans h') (by simp)
 refine Rep.rec (motive_1:=λd v _ _=>∀n,eqOk n d=true->DV H v (toDat d)) (motive_2:=λd v _ _=>∀n,eqOks n d=true->DVs H v (toDats d)) (motive_3:=λ_ _ _ _=>True) (motive_4:=λ_ _ _ _=>True) ?_ ?_ ?_ ?_ ?_ ?_ ?_ ?_ ?_ ?_ ?_ ?_ ?_ ?_ ?_ ?_ ?_ ?_ ?_ trivial (λ_ _ _ _=>trivial) trivial (λ_ _ _ _=>trivial) r n
 ·exact λ_ _=>by rw [toDat];exact .non
 ·exact λb n=>no λn=>by cases n <;> rfl
 ·exact λi _ _=>by rw [toDat];exact .int i
 ·exact λi _ _=>by rw [toDat];exact .str i
 ·intro _ _ _ _ e _ ih n h
  cases n with
  | zero=>simp [eqOk] at h
  | succ n=>rw [eqOk] at h;rw [toDat];exact .tup e (ih n h)
 ·intro _ _ _ _ e _ ih n h
  cases n with
  | zero=>simp [eqOk] at h
  | succ n=>rw [eqOk] at h;rw [toDat];exact .lst e (ih n h)
 ·exact λ_ _ _ n=>no λn=>by cases n <;> rfl
 ·exact λ_ _ _ n=>no λn=>by cases n <;> rfl
 ·exact λ_ _ _ n=>no λn=>by cases n <;> rfl
 ·exact λ_ n=>no λn=>by cases n <;> rfl
 ·exact λ_ _ _ n=>no λn=>by cases n <;> rfl
 ·exact λ_ _ _ _ n=>no λn=>by cases n <;> rfl
 ·exact λ_ _ _ n=>no λn=>by cases n <;> rfl
 ·exact λ_ _ _ n=>no λn=>by cases n <;> rfl
 ·exact λ_ _ _ n=>no λn=>by cases n <;> rfl
 ·exact λ_ _ _ n=>no λn=>by cases n <;> rfl
 ·exact λ_ n=>no λn=>by cases n <;> rfl
 ·exact λ_ _=>by rw [toDats];exact .nil
 ·intro _ _ _ _ _ _ _ _ ih1 ih2 n q
  rw [eqOks,Bool.and_eq_true] at q
  rw [toDats];exact .cons (ih1 n q.1) (ih2 n q.2)
theorem Reps.dv {K:PySem.W.Frag} {H:Hp} {d:List D} {v:List V} {F:List Addr} (n:Nat) (r:Reps K H d v F) (q:eqOks n d=true):DVs H v (toDats d):=by
 induction d generalizing v F with
 | nil=>cases r;rw [toDats];exact .nil
 | cons d ds ih =>
  cases r with
  | cons h r =>
   rw [eqOks,Bool.and_eq_true] at q
   rw [toDats];exact .cons (h.dv n q.1) (ih r q.2)
def dAdd:G2
 | .int i,.int j,k=>k (.int (i+j))
 | .str x,.str y,k=>x.length+y.length<=sizeLine/\k (.str (x++y))
 | .tup xs,.tup ys,k=>pureL xs=true/\pureL ys=true/\xs≠[]/\xs.length+ys.length<=sizeLine/\k (.tup (xs++ys))
 | .lst xs,.lst ys,k=>pureL xs=true/\pureL ys=true/\xs.length+ys.length<=sizeLine/\k (.lst (xs++ys))
 | _,_,_=>False
def dSub:G2
 | .int i,.int j,k=>k (.int (i-j))
 | _,_,_=>False
def dMul:G2
 | .int i,.int j,k=>CMul i j/\k (.int (i*j))
 | .lst xs,.int n,k=>pureL xs=true /\ -(2 ^ 63)<=n/\n<2 ^ 63/\xs.length*n.toNat<=sizeLine/\k (.lst (List.replicate n.toNat xs).flatten)
 | _,_,_=>False
def dDiv:G2
 | .int i,.int j,k=>(0<j/\j<1073741824/\k (.int (i / j)))\/(j<0/\j.natAbs<1073741824/\k (.int (i.fdiv j)))
 | _,_,_=>False
def dMod:G2
 | .int i,.int j,k=>(0<j/\k (.int (i % j)))\/(j<0/\k (.int (i.fmod j)))
 | _,_,_=>False
def dEq:G2
 | .int i,.int j,k=>k (.bl (decide (i=j)))
 | .bl i,.bl j,k=>k (.bl (i == j))
 | .str i,.str j,k=>k (.bl (decide (i=j)))
 | a,b,k=>eqOk 9 a=true/\eqOk 9 b=true/\(a=b->k (.bl true))/\(a≠b->k (.bl false))
def dNe:G2
 | .int i,.int j,k=>k (.bl (!decide (i=j)))
 | .bl i,.bl j,k=>k (.bl (!(i == j)))
 | .str i,.str j,k=>k (.bl (!decide (i=j)))
 | a,b,k=>eqOk 9 a=true/\eqOk 9 b=true/\(a=b->k (.bl false))/\(a≠b->k (.bl true))
def dCmp (f:Int->Int->Bool):G2
 | .int i,.int j,k=>k (.bl (f i j))
 | _,_,_=>False
section
variable {X:Cx}
theorem rep_int {K:PySem.W.Frag} {H:Hp} {i:Int} {x:V} {F:List Addr} (r:Rep K H (.int i) x F):x=.int i:=by cases r;rfl
theorem Reps.flatten {K:PySem.W.Frag} {H:Hp} {ds:List D} {xs:List V} (r:Reps K H ds xs []):∀n:Nat,Reps K H (List.replicate n ds).flatten (List.replicate n xs).flatten []
 | 0=>.nil
 | n+1=>by
  have:=r.append (Reps.flatten r n)
  simpa [List.replicate_succ,List.flatten_cons] using this
theorem dAdd_inv {a b:D} {k:D->Prop} (g:dAdd a b k):(∃i j,a=.int i/\b=.int j)\/(∃i j,a=.str i/\b=.str j)\/(∃i j,a=.tup i/\b=.tup j)\/∃i j,a=.lst i/\b=.lst j:=by
 cases a with
 | int i=>cases b with
  | int j=>exact .inl ⟨i,j,rfl,rfl⟩
  | _=>exact (show False from g).elim
 | str i=>cases b with
  | str j=>exact .inr (.inl ⟨i,j,rfl,rfl⟩)
  | _=>exact (show False from g).elim
 | tup i=>cases b with
  | tup j=>exact .inr (.inr (.inl ⟨i,j,rfl,rfl⟩))
  | _=>exact (show False from g).elim
 | lst i=>cases b with
  | lst j=>exact .inr (.inr (.inr ⟨i,j,rfl,rfl⟩))
  | _=>exact (show False from g).elim
 | _=>exact (show False from g).elim
theorem od_add:OpD X (binaryOp .Add) dAdd:=by
 refine ⟨_,OpR.or op_add (OpR.or op_cat (OpR.or op_catT op_add_str)),λH a b x y F1 F2 k Q ra rb g q=>?_⟩
 rcases dAdd_inv g with ⟨i,j,rfl,rfl⟩ | ⟨i,j,rfl,rfl⟩ | ⟨ds,es,rfl,rfl⟩ | ⟨ds,es,rfl,rfl⟩
 ·exact .inl ⟨_,_,ra.iInt,rb.iInt,q _ _ _ _ (.flat (.int _)) g⟩
 ·exact .inr (.inr (.inr ⟨_,_,ra.iStr,rb.iStr,g.1,q _ _ _ _ (.flat (.str _)) g.2⟩))
 ·obtain ⟨a,xs,rfl,e1,r1⟩:=ra.iTup
  obtain ⟨b,ys,rfl,e2,r2⟩:=rb.iTup
  obtain ⟨p1,p2,hne,hz,g⟩:=g
  obtain ⟨-,r1⟩:=r1.pure p1
  obtain ⟨-,r2⟩:=r2.pure p2
  have l1:=r1.length
  have l2:=r2.length
  refine .inr (.inr (.inl ⟨a,b,xs,ys,rfl,rfl,.of e1,.of e2,λz=>hne (List.length_eq_zero_iff.mp (by rw [← l1,z];rfl)),by omega,λz=>?_,λz p hp=>?_⟩))
  ·have:es=[]:=List.length_eq_zero_iff.mp (by rw [← l2,z];rfl)
   subst this
   rw [List.append_nil] at g
   exact q _ _ _ _ (.flat (.tup e1 r1)) g
  ·refine q _ _ _ [] ⟨same_upd hp,.tup upd_same ?_,List.nodup_nil,λ_ m=>nomatch m⟩ g
   exact (r1.append r2).same (same_upd hp)
 ·obtain ⟨a,xs,_,rfl,_,e1,r1⟩:=ra.iLst
  obtain ⟨b,ys,_,rfl,_,e2,r2⟩:=rb.iLst
  obtain ⟨p1,p2,hz,g⟩:=g
  obtain ⟨-,r1⟩:=r1.pure p1
  obtain ⟨-,r2⟩:=r2.pure p2
  have l1:=r1.length
  have l2:=r2.length
  refine .inr (.inl ⟨a,b,xs,ys,rfl,rfl,e1,e2,by omega,λp hp=>?_⟩)
  refine q _ _ _ [p] ⟨same_upd hp,.lst upd_same ((r1.append r2).same (same_upd hp)),by simp,λc m=>by rw [List.mem_singleton.mp m];exact hp⟩ g
theorem od_sub:OpD X (binaryOp .Sub) dSub:=by
 refine ⟨_,op_sub,λH a b x y F1 F2 k Q ra rb g q=>?_⟩
 (cases ra <;> first | exact (show False from g).elim | skip) <;> (cases rb <;> first | exact (show False from g).elim | skip)
 exact ⟨_,_,rfl,rfl,q _ _ _ _ (.flat (.int _)) g⟩
theorem dMul_inv {a b:D} {k:D->Prop} (g:dMul a b k):(∃i j,a=.int i/\b=.int j)\/∃i j,a=.lst i/\b=.int j:=by
 cases a with
 | int i=>cases b with
  | int j=>exact .inl ⟨i,j,rfl,rfl⟩
  | _=>exact (show False from g).elim
 | lst i=>cases b with
  | int j=>exact .inr ⟨i,j,rfl,rfl⟩
  | _=>exact (show False from g).elim
 | _=>exact (show False from g).elim
theorem od_mul:OpD X (binaryOp .Mult) dMul:=by
 refine ⟨_,OpR.or op_mul op_rep,λH a b x y F1 F2 k Q ra rb g q=>?_⟩
 rcases dMul_inv g with ⟨i,j,rfl,rfl⟩ | ⟨ds,n,rfl,rfl⟩
 ·exact .inl ⟨_,_,ra.iInt,rb.iInt,g.1,q _ _ _ _ (.flat (.int _)) g.2⟩
 ·obtain ⟨a,xs,_,rfl,_,e1,r1⟩:=ra.iLst
  obtain rfl:=rb.iInt
  obtain ⟨p1,h1,h2,hz,g⟩:=g
  obtain ⟨-,r1⟩:=r1.pure p1
  have l1:=r1.length
  refine .inr ⟨a,n,xs,rfl,rfl,e1,h1,h2,by rw [l1];exact hz,λp hp=>?_⟩
  refine q _ _ _ [p] ⟨same_upd hp,.lst upd_same ((r1.flatten _).same (same_upd hp)),by simp,λc m=>by rw [List.mem_singleton.mp m];exact hp⟩ g
theorem od_div:OpD X (binaryOp .FloorDiv) dDiv:=by
 refine ⟨_,OpR.or op_fdiv op_fdivN,λH a b x y F1 F2 k Q ra rb g q=>?_⟩
 (cases ra <;> first | exact (show False from g).elim | skip) <;> (cases rb <;> first | exact (show False from g).elim | skip)
 rcases (show _\/_ from g) with ⟨h1,h2,g⟩ | ⟨h1,h2,g⟩
 ·exact .inl ⟨_,_,rfl,rfl,⟨h1,h2⟩,q _ _ _ _ (.flat (.int _)) g⟩
 ·exact .inr ⟨_,_,rfl,rfl,⟨by omega,h2⟩,q _ _ _ _ (.flat (.int _)) g⟩
theorem od_mod:OpD X (binaryOp .Mod) dMod:=by
 refine ⟨_,OpR.or op_mod op_modN,λH a b x y F1 F2 k Q ra rb g q=>?_⟩
 (cases ra <;> first | exact (show False from g).elim | skip) <;> (cases rb <;> first | exact (show False from g).elim | skip)
 rcases (show _\/_ from g) with ⟨h1,g⟩ | ⟨h1,g⟩
 ·exact .inl ⟨_,_,rfl,rfl,h1,q _ _ _ _ (.flat (.int _)) g⟩
 ·exact .inr ⟨_,_,rfl,rfl,by omega,q _ _ _ _ (.flat (.int _)) g⟩
theorem od_cmpI {op:CmpOp} {f:Int->Int->Bool} (h:OpR X (compareOp op) (rI0 λi j=>.bl (f i j))):OpD X (compareOp op) (dCmp f):=by
 refine ⟨_,h,λH a b x y F1 F2 k Q ra rb g q=>?_⟩
 (cases ra <;> first | exact (show False from g).elim | skip) <;> (cases rb <;> first | exact (show False from g).elim | skip)
 exact ⟨_,_,rfl,rfl,q _ _ _ _ (.flat (.bl _)) g⟩
theorem od_lt:OpD X (compareOp .Lt) (dCmp λi j=>decide (i<j)):=od_cmpI op_lt
theorem od_le:OpD X (compareOp .LtE) (dCmp λi j=>decide (i<=j)):=od_cmpI op_le
theorem od_gt:OpD X (compareOp .Gt) (dCmp λi j=>decide (j<i)):=od_cmpI op_gt
theorem od_ge:OpD X (compareOp .GtE) (dCmp λi j=>decide (j<=i)):=od_cmpI op_ge
theorem eq_nest {H:Hp} {a b:D} {x y:V} {F1 F2:List Addr} {k:D->Prop} {Q:VK} {neg:Bool} (ra:Rep X.K H a x F1) (rb:Rep X.K H b y F2)
  (h1:eqOk 9 a=true) (h2:eqOk 9 b=true) (g1:a=b->k (.bl (!neg))) (g2:a≠b->k (.bl neg)) (q:∀v H' d F,Fin X.K H H' d v F->k d->Q v H'):rDat neg x y H Q:=by
 refine ⟨toDat a,toDat b,9,ra.dv 9 h1,rb.dv 9 h2,eqOk_kqd _ _ h1,eqOk_kqd _ _ h2,Nat.le_refl _,λe=>?_,λe=>?_⟩
 ·exact q _ _ _ _ (.flat (.bl _)) (g1 (toDat_inj 9 9 a b h1 h2 e))
 ·exact q _ _ _ _ (.flat (.bl _)) (g2 λz=>e (by rw [z]))
theorem dEq_inv {a b:D} {k:D->Prop} (g:dEq a b k):(∃i j,a=.int i/\b=.int j)\/(∃i j,a=.bl i/\b=.bl j)\/(∃i j,a=.str i/\b=.str j)\/(eqOk 9 a=true/\eqOk 9 b=true/\(a=b->k (.bl true))/\(a≠b->k (.bl false))):=by
 cases a with
 | int i=>cases b with
  | int j=>exact .inl ⟨i,j,rfl,rfl⟩
  | _=>exact .inr (.inr (.inr g))
 | bl i=>cases b with
  | bl j=>exact .inr (.inl ⟨i,j,rfl,rfl⟩)
  | _=>exact .inr (.inr (.inr g))
 | str i=>cases b with
  | str j=>exact .inr (.inr (.inl ⟨i,j,rfl,rfl⟩))
  | _=>exact .inr (.inr (.inr g))
 | _=>exact .inr (.inr (.inr g))
theorem od_eq (hu:X.A.units+64<cLine):OpD X (compareOp .Eq) dEq:=by
 refine ⟨_,OpR.or op_eq (op_eqD hu),λH a b x y F1 F2 k Q ra rb g q=>?_⟩
 rcases dEq_inv g with ⟨i,j,rfl,rfl⟩ | ⟨i,j,rfl,rfl⟩ | ⟨i,j,rfl,rfl⟩ | ⟨h1,h2,g1,g2⟩
 ·obtain rfl:=ra.iInt
  obtain rfl:=rb.iInt
  refine .inl ⟨rfl,?_⟩
  have e:decide (V.int i=V.int j)=decide (i=j):=by simp
  rw [e]
  exact q _ _ _ _ (.flat (.bl _)) g
 ·obtain rfl:=ra.iBl
  obtain rfl:=rb.iBl
  refine .inl ⟨rfl,?_⟩
  rw [dec_bl]
  exact q _ _ _ _ (.flat (.bl _)) g
 ·obtain rfl:=ra.iStr
  obtain rfl:=rb.iStr
  refine .inl ⟨rfl,?_⟩
  have e:decide (V.str i=V.str j)=decide (i=j):=by simp
  rw [e]
  exact q _ _ _ _ (.flat (.bl _)) g
 ·exact .inr (eq_nest ra rb h1 h2 g1 g2 q)
theorem dNe_inv {a b:D} {k:D->Prop} (g:dNe a b k):(∃i j,a=.int i/\b=.int j)\/(∃i j,a=.bl i/\b=.bl j)\/(∃i j,a=.str i/\b=.str j)\/(eqOk 9 a=true/\eqOk 9 b=true/\(a=b->k (.bl false))/\(a≠b->k (.bl true))):=by
 cases a with
 | int i=>cases b with
  | int j=>exact .inl ⟨i,j,rfl,rfl⟩
  | _=>exact .inr (.inr (.inr g))
 | bl i=>cases b with
  | bl j=>exact .inr (.inl ⟨i,j,rfl,rfl⟩)
  | _=>exact .inr (.inr (.inr g))
 | str i=>cases b with
  | str j=>exact .inr (.inr (.inl ⟨i,j,rfl,rfl⟩))
  | _=>exact .inr (.inr (.inr g))
 | _=>exact .inr (.inr (.inr g))
theorem od_ne (hu:X.A.units+64<cLine):OpD X (compareOp .NotEq) dNe:=by
 refine ⟨_,OpR.or op_ne (op_neD hu),λH a b x y F1 F2 k Q ra rb g q=>?_⟩
 rcases dNe_inv g with ⟨i,j,rfl,rfl⟩ | ⟨i,j,rfl,rfl⟩ | ⟨i,j,rfl,rfl⟩ | ⟨h1,h2,g1,g2⟩
 ·obtain rfl:=ra.iInt
  obtain rfl:=rb.iInt
  refine .inl ⟨rfl,?_⟩
  have e:(!decide (V.int i=V.int j)) = !decide (i=j):=by simp
  rw [e]
  exact q _ _ _ _ (.flat (.bl _)) g
 ·obtain rfl:=ra.iBl
  obtain rfl:=rb.iBl
  refine .inl ⟨rfl,?_⟩
  rw [dec_bl]
  exact q _ _ _ _ (.flat (.bl _)) g
 ·obtain rfl:=ra.iStr
  obtain rfl:=rb.iStr
  refine .inl ⟨rfl,?_⟩
  have e:(!decide (V.str i=V.str j)) = !decide (i=j):=by simp
  rw [e]
  exact q _ _ _ _ (.flat (.bl _)) g
 ·exact .inr (eq_nest (neg:=true) ra rb h1 h2 g1 g2 q)
def dNeg:D->(D->Prop)->Prop
 | .int i,k=>k (.int (-i))
 | _,_=>False
theorem ud_neg:UnD X (unaryOp .USub) dNeg:=by
 refine ⟨_,un_neg,λH a x F1 k Q ra g q=>?_⟩
 cases ra <;> try exact (show False from g).elim
 exact ⟨_,rfl,q _ _ _ _ (.flat (.int _)) g⟩
end
end PV
namespace PV
open PySem PySem.Spec L2
open PyProof.Rows (subscriptTail)
def keysOf:List D->Option (List Key)
 | []=>some []
 | .int i::r=>(keysOf r).map λl=>.inl i::l
 | .str x::r=>(keysOf r).map λl=>.inr x::l
 | _::_=>none
theorem Reps.keys {K:PySem.W.Frag} {H:Hp}:∀{ds:List D} {xs:List V} {F:List Addr} {l:List Key},Reps K H ds xs F->keysOf ds=some l->xs=l.map kV
 | [],_,_,_,r,h=>by
  cases r
  simp only [keysOf,Option.some.injEq] at h
  subst h
  rfl
 | d::ds,_,_,_,r,h=>by
  cases r with
  | cons p r =>
   cases d with
   | int i =>
    simp only [keysOf,Option.map_eq_some_iff] at h
    obtain ⟨l',h1,rfl⟩:=h
    cases p
    rw [Reps.keys r h1]
    rfl
   | str i =>
    simp only [keysOf,Option.map_eq_some_iff] at h
    obtain ⟨l',h1,rfl⟩:=h
    cases p
    rw [Reps.keys r h1]
    rfl
   | _=>simp [keysOf] at h
theorem Reps.atI {K:PySem.W.Frag} {H:Hp} {ds:List D} {xs:List V} {F:List Addr} {i:Int} {d:D} (r:Reps K H ds xs F) (h:L2.atI ds i=some d):∃x B,L2.atI xs i=some x/\Rep K H d x B/\B.Sublist F:=by
 unfold L2.atI at h
 cases hj:ixN ds.length i with
 | none=>rw [hj] at h;cases h
 | some j =>
  rw [hj] at h
  obtain ⟨x,B,h1,h2,h3⟩:=r.get (i:=j) h
  refine ⟨x,B,?_,h2,h3⟩
  unfold L2.atI
  rw [r.length,hj]
  exact h1
def oget {α:Type} (o:Option α) (k:α->Prop):Prop:=match o with
 | some d=>k d
 | none=>False
def onI (b:D) (k:Int->Prop):Prop:=match b with
 | .int i=>k i
 | _=>False
def onK (b:D) (k:Key->Prop):Prop:=match b with
 | .int i=>k (.inl i)
 | .str i=>k (.inr i)
 | _=>False
def onT (b:D) (k:List D->Prop):Prop:=match b with
 | .tup l=>k l
 | _=>False
theorem onI_inv {b:D} {k:Int->Prop} (h:onI b k):∃i,b=.int i/\k i:=by
 cases b with
 | int i=>exact ⟨i,rfl,h⟩
 | _=>exact (show False from h).elim
theorem onT_inv {b:D} {k:List D->Prop} (h:onT b k):∃i,b=.tup i/\k i:=by
 cases b with
 | tup i=>exact ⟨i,rfl,h⟩
 | _=>exact (show False from h).elim
theorem onK_inv {b:D} {k:Key->Prop} (h:onK b k):∃key,k key/\∀{K:PySem.W.Frag} {H:Hp} {v:V} {F:List Addr},Rep K H b v F->v=kV key:=by
 cases b with
 | int i=>exact ⟨.inl i,h,λr=>r.iInt⟩
 | str i=>exact ⟨.inr i,h,λr=>r.iStr⟩
 | _=>exact (show False from h).elim
def dIx:G2:=λa b k=>match a with
 | .lst xs=>onI b λi=>oget (L2.atI xs i) k
 | .tup xs=>onI b λi=>oget (L2.atI xs i) k
 | .kls xs=>onI b λi=>oget (L2.atI xs i) k
 | .str z=>onI b λi=>z.length<=sizeLine/\oget (L2.atI z.cps.toList i) λc=>k (.str ⟨#[c]⟩)
 | .dik kvs=>onK b λkey=>oget (valD kvs key) k
 | .dit kvs=>onT b λl=>oget (keysOf l) λks=>oget (valD kvs ks) k
 | .fdk kvs=>onK b λkey=>oget (valD kvs key) k
 | _=>False
theorem oget_some {α:Type} {o:Option α} {k:α->Prop} (h:oget o k):∃d,o=some d/\k d:=by
 cases o with
 | none=>exact h.elim
 | some d=>exact ⟨d,rfl,h⟩
section
variable {X:Cx}
theorem tail_dict {prog:Program} {w:World} {A:Around} {E:Value->Shared->Prop} {s₂:Shared} {value slice:Expr} {o i:Value} {T id:String} {Q:Value->Shared->Prop}
  (hl:typeLookup (.type T) "__getitem__" = pure (some (.builtin id))) (hs:subscripted slice false o i=operate [o,i] (getItem o i)) (hT:s₂.TypeIs o T) (h₂:wpAny (model prog w) A (getItem o i) Q E s₂) :
  wpAny (model prog w) A (subscriptTail value slice o i) Q E s₂:=by
 unfold subscriptTail
 refine wpAny_bind ?_
 rw [getitemInPython_of_ne hT.not_modules]
 refine wpAny_bind (wpAny_specialOf hT hl ?_)
 have fin:wpAny (model prog w) A (subscripted slice false o i) (λr s₃=>wpAny (model prog w) A (letTemporaryGo value o r >>= λ_=>pure r) Q E s₃) E s₂:=by
  rw [hs]
  exact wpAny_operating (wpAny_mono h₂ (λr s₃ h₃=>wpAny_bind (wpAny_letTemporaryGo (wpAny_pure h₃))) λ_ _ x=>x)
 first
  | exact wpAny_pure (wpAny_bind fin)
  | exact wpAny_bind (wpAny_pure (wpAny_bind fin))
  | exact wpAny_bind fin
theorem ix_dict (hu:X.A.units+1<cLine):IxR X (λx y H Q=>∃a v,x=.ref a/\DGet H a y (some v)/\Q v H):=by
 intro value slice pins s σ H x y v u Q I rx ry h hs
 obtain ⟨a,z,rfl,g,q⟩:=h
 cases rx
 exact tail_dict PySem.F.slot_dict_getitem.lookup hs (dict_typeIs I g) (d_getItem hu I g ry λw' s3 I3 rw'=>⟨z,H,I3,rw',q⟩)
def IxD (X:Cx) (g:G2):Prop :=
 ∃r,IxR X r/\∀(H:Hp) (a b:D) (x y:V) (F1 F2:List Addr) (k:D->Prop) (Q:VK),Rep X.K H a x F1->Rep X.K H b y F2->g a b k ->
  (∀v d F,Rep X.K H d v F->F.Sublist F1->k d->Q v H)->r x y H Q
theorem xd_ix (hu:X.A.units+1<cLine):IxD X dIx:=by
 refine ⟨_,IxR.or ix_seq (ix_dict hu),λH a b x y F1 F2 k Q ra rb g q=>?_⟩
 cases a with
 | str z =>
  obtain ⟨i,rfl,hz,g⟩:=onI_inv g
  obtain ⟨c,e,g⟩:=oget_some g
  exact .inl (.inr (.inr ⟨_,_,c,ra.iStr,rb.iInt,hz,e,q _ _ _ (.str _) (List.nil_sublist _) g⟩))
 | tup ds =>
  obtain ⟨i,rfl,g⟩:=onI_inv g
  obtain ⟨a,xs,rfl,e,r⟩:=ra.iTup
  obtain ⟨d,h,g⟩:=oget_some g
  obtain ⟨v,B,h1,h2,h3⟩:=r.atI h
  exact .inl (.inr (.inl ⟨a,xs,i,v,rfl,rb.iInt,.of e,h1,q _ _ _ h2 h3 g⟩))
 | lst ds =>
  obtain ⟨i,rfl,g⟩:=onI_inv g
  obtain ⟨a,xs,G,rfl,rfl,e,r⟩:=ra.iLst
  obtain ⟨d,h,g⟩:=oget_some g
  obtain ⟨v,B,h1,h2,h3⟩:=r.atI h
  exact .inl (.inl ⟨a,xs,i,v,rfl,rb.iInt,.of e,h1,q _ _ _ h2 (h3.trans (List.sublist_cons_self _ _)) g⟩)
 | dik ds =>
  obtain ⟨key,g,hy⟩:=onK_inv (show onK b (λkey=>oget (valD ds key) k) from g)
  obtain ⟨a,kvs,G,rfl,rfl,e,r⟩:=ra.iDik
  obtain rfl:=hy rb
  obtain ⟨d,h,g⟩:=oget_some g
  rcases r.val key with ⟨z,_⟩ | ⟨d',v,B,h1,h2,h3,h4⟩
  ·rw [h] at z;cases z
  ·rw [h] at h1;cases h1
   exact .inr ⟨a,v,rfl,h2 ▸ DGet.k (k:=key) e,q _ _ _ h3 (h4.trans (List.sublist_cons_self _ _)) g⟩
 | dit ds =>
  obtain ⟨l,rfl,g⟩:=onT_inv g
  obtain ⟨a,kvs,G,rfl,rfl,e,r⟩:=ra.iDit
  obtain ⟨b,xs,rfl,e2,r2⟩:=rb.iTup
  obtain ⟨ks,hk,g⟩:=oget_some g
  obtain ⟨d,h,g⟩:=oget_some g
  have hx:=r2.keys hk
  subst hx
  rcases r.val ks with ⟨z,_⟩ | ⟨d',v,B,h1,h2,h3,h4⟩
  ·rw [h] at z;cases z
  ·rw [h] at h1;cases h1
   exact .inr ⟨a,v,rfl,h2 ▸ DGet.t (k:=ks) e e2,q _ _ _ h3 (h4.trans (List.sublist_cons_self _ _)) g⟩
 | kls ds =>
  obtain ⟨i,rfl,g⟩:=onI_inv g
  obtain ⟨a,xs,rfl,rfl,e,r⟩:=ra.iKls
  obtain ⟨d,h,g⟩:=oget_some g
  obtain ⟨v,B,h1,h2,h3⟩:=r.atI h
  exact .inl (.inl ⟨a,xs,i,v,rfl,rb.iInt,e.sq,h1,q _ _ _ h2 h3 g⟩)
 | fdk ds =>
  obtain ⟨key,g,hy⟩:=onK_inv (show onK b (λkey=>oget (valD ds key) k) from g)
  obtain ⟨a,ob,kvs,rfl,e,r⟩:=ra.iFdk
  obtain rfl:=hy rb
  obtain ⟨d,h,g⟩:=oget_some g
  rcases r.val key with ⟨z,_⟩ | ⟨d',v,B,h1,h2,h3,h4⟩
  ·rw [h] at z;cases z
  ·rw [h] at h1;cases h1
   exact .inr ⟨a,v,rfl,.inl ⟨kvs,key,.inr ⟨ob,e⟩,rfl,h2.symm⟩,q _ _ _ h3 h4 g⟩
 | _=>exact (show False from g).elim
variable {T:Tg} {m o m1 m2 m3 o1 o2:Bool} {e a b:Expr} {w wa wb:WE} {pos p2:Pos}
theorem ev_ix {g:G2} (hg:IxD X g) (ha:EV X T m1 o1 a wa) (hb:EV X T m2 o2 b wb) (hc:o1=true\/m2=false:=by first | exact .inl rfl | exact .inr rfl) (hs:PlainIx b:=by intro _ _;rfl) :
  EV X T (m1 || m2) o1 (.Subscript a b pos) (wBin g wa wb):=by
 obtain ⟨r,ro,gr⟩:=hg
 obtain ⟨ta,pa,ga⟩:=ha
 obtain ⟨tb,pb,gb⟩:=hb
 refine ⟨_,pe_ix ro pa pb hs,λz R σ H W ρ Q Q' s hw k=>?_⟩
 refine two ga gb hc s hw λx y H2 W2 d1 d2 ρ2 F1 F2 s2 f2 c2 r1 r2 o1 _ _ q2=>?_
 exact gr H2 d1 d2 x y F1 F2 _ Q' r1 r2 q2 λv d F rd sub hk=>k v H2 W2 d ρ2 F ⟨s2,f2,c2,rd,λh=>⟨(o1 h).1.sublist sub,λa m=>(o1 h).2 a (sub.subset m)⟩⟩ hk
def inD:D->List D->Option Bool
 | .int i,[]=>some false
 | .int i,.int j::r=>(inD (.int i) r).map λb=>(j == i) || b
 | .str i,[]=>some false
 | .str i,.str j::r=>(inD (.str i) r).map λb=>(j == i) || b
 | _,_=>none
def dIn (neg:Bool):G2
 | .int i,.dik kvs,k=>k (.bl (xor neg (valD kvs (.inl i)).isSome))
 | .str i,.dik kvs,k=>k (.bl (xor neg (valD kvs (.inr i)).isSome))
 | .tup l,.dit kvs,k=>oget (keysOf l) λks=>k (.bl (xor neg (valD kvs ks).isSome))
 | .int i,.lst xs,k=>oget (inD (.int i) xs) λb=>k (.bl (xor neg b))
 | .int i,.tup xs,k=>oget (inD (.int i) xs) λb=>k (.bl (xor neg b))
 | .str i,.lst xs,k=>oget (inD (.str i) xs) λb=>k (.bl (xor neg b))
 | .str i,.tup xs,k=>oget (inD (.str i) xs) λb=>k (.bl (xor neg b))
 | .str i,.str j,k=>k (.bl (xor neg (!(Builtin.Str.occurrences j i 0 j.length 1).isEmpty)))
 | _,_,_=>False
theorem inD_int {K:PySem.W.Frag} {H:Hp} {i:Int}:∀{ds:List D} {xs:List V} {F:List Addr} {b:Bool},Reps K H ds xs F->inD (.int i) ds=some b->xs.all flatV=true/\inV (.int i) xs=b
 | [],_,_,_,r,h=>by
  cases r
  simp only [inD,Option.some.injEq] at h
  subst h
  exact ⟨rfl,rfl⟩
 | d::ds,_,_,_,r,h=>by
  cases r with
  | cons p r =>
   cases d with
   | int j =>
    simp only [inD,Option.map_eq_some_iff] at h
    obtain ⟨b',h1,rfl⟩:=h
    cases p
    obtain ⟨e1,e2⟩:=inD_int r h1
    refine ⟨by rw [List.all_cons,e1];rfl,?_⟩
    unfold inV at e2 ⊢
    rw [List.any_cons,e2]
    rfl
   | _=>simp [inD] at h
theorem inD_str {K:PySem.W.Frag} {H:Hp} {i:Str}:∀{ds:List D} {xs:List V} {F:List Addr} {b:Bool},Reps K H ds xs F->inD (.str i) ds=some b->xs.all flatV=true/\inV (.str i) xs=b
 | [],_,_,_,r,h=>by
  cases r
  simp only [inD,Option.some.injEq] at h
  subst h
  exact ⟨rfl,rfl⟩
 | d::ds,_,_,_,r,h=>by
  cases r with
  | cons p r =>
   cases d with
   | str j =>
    simp only [inD,Option.map_eq_some_iff] at h
    obtain ⟨b',h1,rfl⟩:=h
    cases p
    obtain ⟨e1,e2⟩:=inD_str r h1
    refine ⟨by rw [List.all_cons,e1];rfl,?_⟩
    unfold inV at e2 ⊢
    rw [List.any_cons,e2]
    rfl
   | _=>simp [inD] at h
theorem op_dict (neg:Bool) (hu:X.A.units+1<cLine):OpR X (compareOp (if neg then .NotIn else .In)) (λy x H Q=>∃a o,x=.ref a/\DGet H a y o/\Q (.bl (xor neg o.isSome)) H):=by
 intro pins s σ H y x u v Q I ry rx h
 obtain ⟨a,ov,rfl,g,q⟩:=h
 cases rx
 cases neg with
 | false=>exact d_in hu I g ry λs3 I3=>⟨.bl ov.isSome,H,I3,rfl,by simpa using q⟩
 | true=>exact d_notIn hu I g ry λs3 I3=>⟨.bl (!ov.isSome),H,I3,rfl,by simpa using q⟩
theorem op_inseq (neg:Bool):OpR X (compareOp (if neg then .NotIn else .In)) (rIn X.K neg):=by
 cases neg with
 | false=>exact op_in_seq
 | true=>exact op_notIn_seq
theorem op_instr (neg:Bool):OpR X (compareOp (if neg then .NotIn else .In)) (λx y H Q=>∃i j,x=.str i/\y=.str j/\Q (.bl (xor neg (!(Builtin.Str.occurrences j i 0 j.length 1).isEmpty))) H):=by
 cases neg with
 | false=>simpa using op_in_str (X:=X)
 | true=>simpa using op_notIn_str (X:=X)
theorem repk_dget {H:Hp} {a:Addr} {kvs:List (Key × V)} {ds:List (Key × D)} {F:List Addr} {k:Key} (e:H a=some (.dK kvs)) (r:RepK X.K H ds kvs F):∃o,DGet H a (kV k) o/\o.isSome=(valD ds k).isSome:=by
 refine ⟨_,DGet.k (k:=k) e,?_⟩
 rcases r.val k with ⟨h1,h2⟩ | ⟨d,v,B,h1,h2,_⟩ <;> simp [h1,h2]
theorem dIn_inv {neg:Bool} {a b:D} {k:D->Prop} (g:dIn neg a b k):(∃i z,a=.int i/\b=.tup z)\/(∃i z,a=.int i/\b=.lst z)\/(∃i z,a=.int i/\b=.dik z)\/(∃i z,a=.str i/\b=.str z)\/(∃i z,a=.str i/\b=.tup z)\/(∃i z,a=.str i/\b=.lst z)\/(∃i z,a=.str i/\b=.dik z)\/∃i z,a=.tup i/\b=.dit z:=by
 cases a with
 | int i=>cases b with
  | tup z=>exact .inl ⟨i,z,rfl,rfl⟩
  | lst z=>exact .inr (.inl ⟨i,z,rfl,rfl⟩)
  | dik z=>exact .inr (.inr (.inl ⟨i,z,rfl,rfl⟩))
  | _=>exact (show False from g).elim
 | str i=>cases b with
  | str z=>exact .inr (.inr (.inr (.inl ⟨i,z,rfl,rfl⟩)))
  | tup z=>exact .inr (.inr (.inr (.inr (.inl ⟨i,z,rfl,rfl⟩))))
  | lst z=>exact .inr (.inr (.inr (.inr (.inr (.inl ⟨i,z,rfl,rfl⟩)))))
  | dik z=>exact .inr (.inr (.inr (.inr (.inr (.inr (.inl ⟨i,z,rfl,rfl⟩))))))
  | _=>exact (show False from g).elim
 | tup i=>cases b with
  | dit z=>exact .inr (.inr (.inr (.inr (.inr (.inr (.inr ⟨i,z,rfl,rfl⟩))))))
  | _=>exact (show False from g).elim
 | _=>exact (show False from g).elim
theorem od_in' (neg:Bool) (hu:X.A.units+1<cLine):OpD X (compareOp (if neg then .NotIn else .In)) (dIn neg):=by
 refine ⟨_,OpR.or (op_dict neg hu) (OpR.or (op_inseq neg) (op_instr neg)),λH a b x y F1 F2 k Q ra rb g q=>?_⟩
 have seqI:∀{i:Int} {p:Addr} {ds:List D} {xs:List V} {F:List Addr},x=.int i->y=.ref p->Reps X.K H ds xs F->(SqL X.K H p xs\/SqT X.K H p xs)->oget (inD (.int i) ds) (λb=>k (.bl (xor neg b)))->rIn X.K neg x y H Q:=λ{i p ds xs F} ex ey r hs g=>by
  subst ex ey
  obtain ⟨b,h,g⟩:=oget_some g
  obtain ⟨e1,e2⟩:=inD_int r h
  refine ⟨p,xs,rfl,hs,rfl,e1,?_⟩
  rw [e2]
  have:=q _ _ _ _ (.flat (.bl _)) g
  cases neg <;> simpa using this
 have seqS:∀{i:Str} {p:Addr} {ds:List D} {xs:List V} {F:List Addr},x=.str i->y=.ref p->Reps X.K H ds xs F->(SqL X.K H p xs\/SqT X.K H p xs)->oget (inD (.str i) ds) (λb=>k (.bl (xor neg b)))->rIn X.K neg x y H Q:=λ{i p ds xs F} ex ey r hs g=>by
  subst ex ey
  obtain ⟨b,h,g⟩:=oget_some g
  obtain ⟨e1,e2⟩:=inD_str r h
  refine ⟨p,xs,rfl,hs,rfl,e1,?_⟩
  rw [e2]
  have:=q _ _ _ _ (.flat (.bl _)) g
  cases neg <;> simpa using this
 rcases dIn_inv g with ⟨i,z,rfl,rfl⟩ | ⟨i,z,rfl,rfl⟩ | ⟨i,ds,rfl,rfl⟩ | ⟨i,z,rfl,rfl⟩ | ⟨i,z,rfl,rfl⟩ | ⟨i,z,rfl,rfl⟩ | ⟨i,ds,rfl,rfl⟩ | ⟨l,ds,rfl,rfl⟩
 ·obtain ⟨p,xs,ey,e,r⟩:=rb.iTup
  exact .inr (.inl (seqI ra.iInt ey r (.inr (.of e)) g))
 ·obtain ⟨p,xs,G,ey,_,e,r⟩:=rb.iLst
  exact .inr (.inl (seqI ra.iInt ey r (.inl (.of e)) g))
 ·obtain ⟨a,kvs,G,rfl,_,e,r⟩:=rb.iDik
  obtain rfl:=ra.iInt
  obtain ⟨o,h1,h2⟩:=repk_dget (k:=.inl i) e r
  refine .inl ⟨a,o,rfl,h1,?_⟩
  rw [h2]
  exact q _ _ _ _ (.flat (.bl _)) g
 ·exact .inr (.inr ⟨_,_,ra.iStr,rb.iStr,q _ _ _ _ (.flat (.bl _)) g⟩)
 ·obtain ⟨p,xs,ey,e,r⟩:=rb.iTup
  exact .inr (.inl (seqS ra.iStr ey r (.inr (.of e)) g))
 ·obtain ⟨p,xs,G,ey,_,e,r⟩:=rb.iLst
  exact .inr (.inl (seqS ra.iStr ey r (.inl (.of e)) g))
 ·obtain ⟨a,kvs,G,rfl,_,e,r⟩:=rb.iDik
  obtain rfl:=ra.iStr
  obtain ⟨o,h1,h2⟩:=repk_dget (k:=.inr i) e r
  refine .inl ⟨a,o,rfl,h1,?_⟩
  rw [h2]
  exact q _ _ _ _ (.flat (.bl _)) g
 ·obtain ⟨b,xs,rfl,e2,r2⟩:=ra.iTup
  obtain ⟨a,kvs,G,rfl,_,e,r⟩:=rb.iDit
  obtain ⟨ks,hk,g⟩:=oget_some g
  have hx:=r2.keys hk
  subst hx
  refine .inl ⟨a,valV kvs ks,rfl,DGet.t (k:=ks) e e2,?_⟩
  have h2:(valV kvs ks).isSome=(valD ds ks).isSome:=by
   rcases r.val ks with ⟨h1,h2⟩ | ⟨d,v,B,h1,h2,_⟩ <;> simp [h1,h2]
  rw [h2]
  exact q _ _ _ _ (.flat (.bl _)) g
theorem od_in (hu:X.A.units+1<cLine):OpD X (compareOp .In) (dIn false):=od_in' false hu
abbrev WA:=Env->(List D->Env->Prop)->Prop
structure PostA (K:PySem.W.Frag) (T:Tg) (z:Nat->V) (R:Addr->Prop) (m o:Bool) (H:Hp) (W:Addr->Prop) (σ:St) (ρ:Env) (H':Hp) (W':Addr->Prop) (ρ':Env) (ds:List D) (vs:List V) (F:List Addr):Prop where
 sr:SR K T z R H' W' σ ρ'
 fr:FrW H W H' W'
 calm:m=false->Same H H'/\W'=W/\ρ'=ρ
 rep:Reps K H' ds vs F
 own:o=true->F.Nodup/\∀a∈F,H a=none/\¬W' a
def AV (X:Cx) (T:Tg) (m o:Bool) (es:List Expr) (w:WA):Prop :=
 ∃ta,PA X es ta/\∀(z:Nat->V) (R:Addr->Prop) (σ:St) (H:Hp) (W:Addr->Prop) (ρ:Env) (Q:List D->Env->Prop) (Q':List V->Hp->Prop),SR X.K T z R H W σ ρ->w ρ Q ->
  (∀vs H' W' ds ρ' F,PostA X.K T z R m o H W σ ρ H' W' ρ' ds vs F->Q ds ρ'->Q' vs H')->ta σ H Q'
variable {es:List Expr} {wr:WA}
def wNil:WA:=λρ Q=>Q [] ρ
def wCons (w:WE) (wr:WA):WA:=λρ Q=>w ρ λd ρ1=>wr ρ1 λds ρ2=>Q (d::ds) ρ2
theorem av_nil:AV X T false true [] wNil:=⟨_,pa_nil,λz R σ H W ρ Q Q' s hw k=>k [] H W [] ρ [] ⟨s,FrW.refl H W,λ_=>⟨Same.refl H,rfl,rfl⟩,.nil,λ_=>⟨List.nodup_nil,λa m=>nomatch m⟩⟩ hw⟩
theorem av_cons (he:EV X T m1 o1 e w) (hr:AV X T m2 o2 es wr) (hc:o1=true\/m2=false:=by first | exact .inl rfl | exact .inr rfl) (hs:starEach (e::es) X.env=(false,eval e X.env)::starEach es X.env:=by rfl) :
  AV X T (m1 || m2) (o1 && o2) (e::es) (wCons w wr):=by
 obtain ⟨te,pe,ge⟩:=he
 obtain ⟨ta,pa,ga⟩:=hr
 refine ⟨_,pa_cons pe pa hs,λz R σ H W ρ Q Q' s hw k=>?_⟩
 refine ge z R σ H W ρ _ _ s hw λv1 H1 W1 d1 ρ1 F1 p q1=>?_
 refine ga z R σ H1 W1 ρ1 _ _ p.sr q1 λvs H2 W2 ds ρ2 F2 q q2=>?_
 have r1:Rep X.K H2 d1 v1 F1:=by
  rcases hc with hc | hc
  ·exact p.rep.keep q.fr λa h=>((p.own hc).2 a h).2
  ·exact p.rep.same (q.calm hc).1
 refine k (v1::vs) H2 W2 (d1::ds) ρ2 (F1++F2) ⟨q.sr,p.fr.trans q.fr,λh=>?_,.cons r1 q.rep,λh=>?_⟩ q2
 ·rw [Bool.or_eq_false_iff] at h
  obtain ⟨a1,a2,a3⟩:=p.calm h.1
  obtain ⟨b1,b2,b3⟩:=q.calm h.2
  exact ⟨a1.trans b1,b2.trans a2,b3.trans a3⟩
 ·rw [Bool.and_eq_true] at h
  obtain ⟨n1,k1⟩:=p.own h.1
  obtain ⟨n2,k2⟩:=q.own h.2
  refine ⟨List.nodup_append.mpr ⟨n1,n2,λa ma b mb e=>?_⟩,λa ma=>?_⟩
  ·subst e
   obtain ⟨ob,e,_⟩:=p.rep.dom a ma
   rw [(k2 a mb).1] at e;cases e
  ·rcases List.mem_append.mp ma with ma | ma
   ·refine ⟨(k1 a ma).1,λw=>?_⟩
    rcases q.fr.new a w with w | w
    ·exact (k1 a ma).2 w
    ·obtain ⟨ob,e,_⟩:=p.rep.dom a ma
     rw [w] at e;cases e
   ·exact ⟨p.fr.dom a (k2 a ma).1,(k2 a ma).2⟩
def wTup (wr:WA):WE:=λρ Q=>wr ρ λds ρ'=>ds.length<=sizeLine/\Q (.tup ds) ρ'
def wLst (wr:WA):WE:=λρ Q=>wr ρ λds ρ'=>ds.length<=sizeLine/\Q (.lst ds) ρ'
theorem ev_tup {x1} (h:AV X T m o es wr):EV X T m o (.Tuple es x1 pos) (wTup wr):=by
 obtain ⟨ta,pa,ga⟩:=h
 refine ⟨_,pe_tup pa,λz R σ H W ρ Q Q' s hw k=>?_⟩
 refine ga z R σ H W ρ _ _ s hw λvs H1 W1 ds ρ1 F p q=>?_
 obtain ⟨hz,q⟩:=q
 refine ⟨by rw [p.rep.length];exact hz,λa ha=>k _ _ W1 (.tup ds) ρ1 F ⟨p.sr.same (same_upd ha),p.fr.trans (FrW.same W1 (same_upd ha)),λh=>⟨(p.calm h).1.trans (same_upd ha),(p.calm h).2⟩,.tup upd_same (p.rep.same (same_upd ha)),p.own⟩ q⟩
theorem ev_lst (h:AV X T m o es wr):EV X T m o (.List es pos) (wLst wr):=by
 obtain ⟨ta,pa,ga⟩:=h
 refine ⟨_,pe_lst pa,λz R σ H W ρ Q Q' s hw k=>?_⟩
 refine ga z R σ H W ρ _ _ s hw λvs H1 W1 ds ρ1 F p q=>?_
 obtain ⟨hz,q⟩:=q
 refine ⟨by rw [p.rep.length];exact hz,λa ha=>k _ _ W1 (.lst ds) ρ1 (a::F) ⟨p.sr.same (same_upd ha),p.fr.trans (FrW.same W1 (same_upd ha)),λh=>⟨(p.calm h).1.trans (same_upd ha),(p.calm h).2⟩,.lst upd_same (p.rep.same (same_upd ha)),λh=>?_⟩ q⟩
 obtain ⟨n1,k1⟩:=p.own h
 refine ⟨List.nodup_cons.mpr ⟨λm=>?_,n1⟩,λb mb=>?_⟩
 ·obtain ⟨ob,e,_⟩:=p.rep.dom a m
  rw [ha] at e;cases e
 ·rcases List.mem_cons.mp mb with rfl | mb
  ·exact ⟨p.fr.dom _ ha,p.sr.nw ha⟩
  ·exact k1 b mb
theorem ev_dnewK:EV X T false true (.Dict [] [] pos) (wC (.dik [])) :=
 ⟨_,pe_dnewK,λz R σ H W ρ Q Q' s hw k a ha=>k _ _ W (.dik []) ρ [a] (Post.fin s (FrW.refl H W) (λ_=>⟨Same.refl H,rfl,rfl⟩) (same_upd ha) (.dik upd_same .nil) (by simp) (λb m=>by rw [List.mem_singleton.mp m];exact ha)) hw⟩
abbrev GA:=List D->(D->Prop)->Prop
def CallD (X:Cx) (f:Value) (g:GA):Prop :=
 ∃r,CallR X f r/\∀(H:Hp) (ds:List D) (xs:List V) (F:List Addr) (k:D->Prop) (Q:VK),Reps X.K H ds xs F->g ds k->(∀v H' d F',Fin X.K H H' d v F'->k d->Q v H')->r xs H Q
def wCall (g:GA) (wr:WA):WE:=λρ Q=>wr ρ λds ρ'=>g ds λd=>Q d ρ'
variable {x:Str} {id T':String} {p:Pos}
theorem call_fin {g:GA} {r:List V->Hp->VK->Prop} (gr:∀(H:Hp) (ds:List D) (xs:List V) (F:List Addr) (k:D->Prop) (Q:VK),Reps X.K H ds xs F->g ds k->(∀v H' d F',Fin X.K H H' d v F'->k d->Q v H')->r xs H Q)
  {ta:TA} (ga:∀(z:Nat->V) (R:Addr->Prop) (σ:St) (H:Hp) (W:Addr->Prop) (ρ:Env) (Q:List D->Env->Prop) (Q':List V->Hp->Prop),SR X.K T z R H W σ ρ->wr ρ Q ->
   (∀vs H' W' ds ρ' F,PostA X.K T z R m o H W σ ρ H' W' ρ' ds vs F->Q ds ρ'->Q' vs H')->ta σ H Q')
  {z:Nat->V} {R:Addr->Prop} {σ:St} {H:Hp} {W:Addr->Prop} {ρ:Env} {Q:D->Env->Prop} {Q':VK} (s:SR X.K T z R H W σ ρ) (hw:wCall g wr ρ Q)
  (k:∀v H' W' d ρ' F,Post X.K T z R m true H W σ ρ H' W' ρ' d v F->Q d ρ'->Q' v H'):ta σ H λvs H1=>r vs H1 Q':=by
 refine ga z R σ H W ρ _ _ s hw λvs H1 W1 ds ρ1 F p q=>?_
 exact gr H1 ds vs F _ Q' p.rep q λv H' d F' fi hk=>k v H' W1 d ρ1 F' (Post.fin p.sr p.fr p.calm fi.same fi.rep fi.nd fi.new) hk
theorem ev_callB {g:GA} (hc:CallD X (.builtin id) g) (hm:X.mg x=none) (hv:bootBuiltins x=some (.builtin id)) (ha:AV X T m o (e::es) wr) (hg:Gl X x:=by rfl) (hn:x ≠ "__name__":=by decide) (hdb:(x == ("__debug__" : Str))=false:=by decide)
  (he:starEach (e::es) X.env=(false,eval e X.env)::starEach es X.env:=by rfl) (hpl:(backTo pos (starEach es X.env)).any (·.1)=false:=by rfl):EV X T m true (.Call (.Name x p) (e::es) [] pos) (wCall g wr):=by
 obtain ⟨r,rc,gr⟩:=hc
 obtain ⟨ta,pa,ga⟩:=ha
 exact ⟨_,pe_callB rc hg hm hv pa hn hdb he hpl,λz R σ H W ρ Q Q' s hw k=>call_fin gr ga s hw k⟩
theorem ev_callTy {g:GA} (hc:CallD X (.type T') g) (hm:X.mg x=none) (hv:bootBuiltins x=some (.type T')) (ha:AV X T m o (e::es) wr) (hg:Gl X x:=by rfl) (hn:x ≠ "__name__":=by decide) (hdb:(x == ("__debug__" : Str))=false:=by decide)
  (he:starEach (e::es) X.env=(false,eval e X.env)::starEach es X.env:=by rfl) (hpl:(backTo pos (starEach es X.env)).any (·.1)=false:=by rfl):EV X T m true (.Call (.Name x p) (e::es) [] pos) (wCall g wr):=by
 obtain ⟨r,rc,gr⟩:=hc
 obtain ⟨ta,pa,ga⟩:=ha
 exact ⟨_,pe_callTy rc hg hm hv pa hn hdb he hpl,λz R σ H W ρ Q Q' s hw k=>call_fin gr ga s hw k⟩
theorem ev_ty (t:Ty) (hm:X.mg x=none) (hv:bootBuiltins x=some (.type t.nm)) (hg:Gl X x:=by rfl) (hn:x ≠ "__name__":=by decide) (hdb:(x == ("__debug__" : Str))=false:=by decide):EV X T false true (.Name x pos) (wC (.ty t)) :=
 ev_const (pe_bltn hg hm hv (v:=.ty t.nm) rfl hn hdb) λ_=>.ty t
theorem Reps.at1 {K:PySem.W.Frag} {H:Hp} {d:D} {xs:List V} {F:List Addr} (r:Reps K H [d] xs F):∃v,xs=[v]/\Rep K H d v F:=by
 cases r with
 | cons h r=>cases r;rw [List.append_nil];exact ⟨_,rfl,h⟩
theorem Reps.at2 {K:PySem.W.Frag} {H:Hp} {d e:D} {xs:List V} {F:List Addr} (r:Reps K H [d,e] xs F):∃v u F1 F2,xs=[v,u]/\Rep K H d v F1/\Rep K H e u F2:=by
 cases r with
 | cons h r =>
  obtain ⟨u,rfl,h2⟩:=r.at1
  exact ⟨_,_,_,_,rfl,h,h2⟩
def dLen:GA
 | [.lst xs],k=>k (.int xs.length)
 | [.tup xs],k=>k (.int xs.length)
 | [.kls xs],k=>k (.int xs.length)
 | [.dik xs],k=>k (.int xs.length)
 | [.str z],k=>z.length<=sizeLine/\k (.int z.length)
 | _,_=>False
theorem cd_len:CallD X (.builtin "len") dLen:=by
 refine ⟨_,CallR.or call_len call_lenD,λH ds xs F k Q r g q=>?_⟩
 cases ds with
 | nil=>exact (show False from g).elim
 | cons d ds =>
  cases ds with
  | cons _ _=>cases d <;> exact (show False from g).elim
  | nil =>
   cases d with
   | lst es =>
    obtain ⟨v,rfl,rd⟩:=r.at1
    clear r
    cases rd with
    | lst e r9=>exact .inl ⟨_,_,rfl,.inl ⟨_,.of e,rfl⟩,by rw [r9.length];exact q _ _ _ _ (.flat (.int _)) g⟩
   | tup es =>
    obtain ⟨v,rfl,rd⟩:=r.at1
    clear r
    cases rd with
    | tup e r9=>exact .inl ⟨_,_,rfl,.inr ⟨_,.of e,rfl⟩,by rw [r9.length];exact q _ _ _ _ (.flat (.int _)) g⟩
   | kls es =>
    obtain ⟨v,rfl,rd⟩:=r.at1
    clear r
    cases rd with
    | kls e r9=>exact .inl ⟨_,_,rfl,.inl ⟨_,e.sq,rfl⟩,by rw [r9.length];exact q _ _ _ _ (.flat (.int _)) g⟩
   | dik es =>
    obtain ⟨v,rfl,rd⟩:=r.at1
    clear r
    cases rd with
    | dik e r9=>exact .inr ⟨_,_,rfl,e,by rw [r9.length];exact q _ _ _ _ (.flat (.int _)) g⟩
   | str es =>
    obtain ⟨v,rfl,rd⟩:=r.at1
    clear r
    cases rd
    exact .inl ⟨_,_,rfl,⟨g.1,rfl⟩,q _ _ _ _ (.flat (.int _)) g.2⟩
   | _=>exact (show False from g).elim
def dInt:GA
 | [.int i],k=>k (.int i)
 | [.bl b],k=>k (.int (if b then 1 else 0))
 | _,_=>False
theorem cd_int:CallD X (.type "int") dInt:=by
 refine ⟨_,call_int1,λH ds xs F k Q r g q=>?_⟩
 cases ds with
 | nil=>exact (show False from g).elim
 | cons d ds =>
  cases ds with
  | cons _ _=>cases d <;> exact (show False from g).elim
  | nil =>
   cases d with
   | int i =>
    obtain ⟨v,rfl,rd⟩:=r.at1
    cases rd
    exact .inl ⟨_,rfl,q _ _ _ _ (.flat (.int _)) g⟩
   | bl i =>
    obtain ⟨v,rfl,rd⟩:=r.at1
    cases rd
    exact .inr ⟨_,rfl,q _ _ _ _ (.flat (.int _)) g⟩
   | _=>exact (show False from g).elim
def dAbs:GA
 | [.int i],k=>k (.int (if i<0 then -i else i))
 | _,_=>False
theorem cd_abs:CallD X (.builtin "abs") dAbs:=by
 refine ⟨_,call_abs,λH ds xs F k Q r g q=>?_⟩
 cases ds with
 | nil=>exact (show False from g).elim
 | cons d ds =>
  cases ds with
  | cons _ _=>cases d <;> exact (show False from g).elim
  | nil =>
   cases d with
   | int i =>
    obtain ⟨v,rfl,rd⟩:=r.at1
    cases rd
    exact ⟨_,rfl,q _ _ _ _ (.flat (.int _)) g⟩
   | _=>exact (show False from g).elim
def dList:GA
 | [.lst xs],k=>pureL xs=true/\k (.lst xs)
 | [.tup xs],k=>pureL xs=true/\k (.lst xs)
 | [.kls xs],k=>pureL xs=true/\k (.lst xs)
 | _,_=>False
theorem cd_list:CallD X (.type "list") dList:=by
 refine ⟨_,call_list_of,λH ds xs F k Q r g q=>?_⟩
 cases ds with
 | nil=>exact (show False from g).elim
 | cons d ds =>
  cases ds with
  | cons _ _=>cases d <;> exact (show False from g).elim
  | nil =>
   cases d with
   | lst es =>
    obtain ⟨v,rfl,rd⟩:=r.at1
    clear r
    cases rd with
    | lst e r9=>exact ⟨_,_,rfl,.inl (.of e),λl hl=>q _ _ _ [l] ⟨same_upd hl,.lst upd_same ((r9.pure g.1).2.same (same_upd hl)),by simp,λb m=>by rw [List.mem_singleton.mp m];exact hl⟩ g.2⟩
   | tup es =>
    obtain ⟨v,rfl,rd⟩:=r.at1
    clear r
    cases rd with
    | tup e r9=>exact ⟨_,_,rfl,.inr (.of e),λl hl=>q _ _ _ [l] ⟨same_upd hl,.lst upd_same ((r9.pure g.1).2.same (same_upd hl)),by simp,λb m=>by rw [List.mem_singleton.mp m];exact hl⟩ g.2⟩
   | kls es =>
    obtain ⟨v,rfl,rd⟩:=r.at1
    clear r
    cases rd with
    | kls e r9=>exact ⟨_,_,rfl,.inl e.sq,λl hl=>q _ _ _ [l] ⟨same_upd hl,.lst upd_same ((r9.pure g.1).2.same (same_upd hl)),by simp,λb m=>by rw [List.mem_singleton.mp m];exact hl⟩ g.2⟩
   | _=>exact (show False from g).elim
def dTuple:GA
 | [.lst xs],k=>pureL xs=true/\k (.tup xs)
 | [.tup xs],k=>pureL xs=true/\k (.tup xs)
 | [.kls xs],k=>pureL xs=true/\k (.tup xs)
 | _,_=>False
theorem cd_tuple:CallD X (.type "tuple") dTuple:=by
 refine ⟨_,call_tuple_of,λH ds xs F k Q r g q=>?_⟩
 cases ds with
 | nil=>exact (show False from g).elim
 | cons d ds =>
  cases ds with
  | cons _ _=>cases d <;> exact (show False from g).elim
  | nil =>
   cases d with
   | lst es =>
    obtain ⟨v,rfl,rd⟩:=r.at1
    clear r
    cases rd with
    | lst e r9=>exact ⟨_,_,rfl,.inl ⟨.of e,λl hl=>q _ _ _ [] ⟨same_upd hl,.tup upd_same ((r9.pure g.1).2.same (same_upd hl)),by simp,λb m=>nomatch m⟩ g.2⟩⟩
   | tup es =>
    obtain ⟨v,rfl,rd⟩:=r.at1
    clear r
    cases rd with
    | tup e r9=>exact ⟨_,_,rfl,.inr ⟨.of e,q _ _ _ _ (.flat (.tup e (r9.pure g.1).2)) g.2⟩⟩
   | kls es =>
    obtain ⟨v,rfl,rd⟩:=r.at1
    clear r
    cases rd with
    | kls e r9=>exact ⟨_,_,rfl,.inl ⟨e.sq,λl hl=>q _ _ _ [] ⟨same_upd hl,.tup upd_same ((r9.pure g.1).2.same (same_upd hl)),by simp,λb m=>nomatch m⟩ g.2⟩⟩
   | _=>exact (show False from g).elim
end
end PV
namespace PV
open PySem PySem.Spec L2
section
variable {X:Cx} {T:Tg} {m o m1 m2 m3 o1 o2:Bool} {e a b:Expr} {w wa wb:WE} {pos p2 p:Pos} {es:List Expr} {wr:WA} {x:Str}
def isiD:D->Ty->Option Bool
 | .non,_=>some false
 | .bl _,t=>some (t == .bool || t == .int)
 | .int _,t=>some (t == .int)
 | .str _,t=>some (t == .str)
 | .tup _,t=>some (t == .tuple)
 | .lst _,t=>some (t == .list)
 | .dik _,t=>some (t == .dict)
 | .dit _,t=>some (t == .dict)
 | .kls _,_=>none
 | .ty _,_=>none
 | .fdk _,_=>none
 | .ftp _,_=>none
 | .fls _,t=>some (t == .list)
 | .fdt _,_=>none
 | .obj _ _,_=>none
 | .clo _ _,_=>none
 | .kc _,_=>none
def dIsi:GA
 | [d,.ty t],k=>oget (isiD d t) λb=>k (.bl b)
 | _,_=>False
theorem kit_nn {K:PySem.W.Frag} (t:Ty):PySem.W.kitOne K (.type "NoneType") (.type t.nm)=some false:=by
 cases t <;> (unfold PySem.W.kitOne;rw [if_neg (by decide)];rfl)
theorem kit_bb {K:PySem.W.Frag} (t:Ty):PySem.W.kitOne K (.type "bool") (.type t.nm)=some (t == .bool || t == .int):=by
 cases t <;> first | (unfold PySem.W.kitOne;rw [if_pos (by decide)];rfl) | (unfold PySem.W.kitOne;rw [if_neg (by decide)];rfl)
theorem kit_ii {K:PySem.W.Frag} (t:Ty):PySem.W.kitOne K (.type "int") (.type t.nm)=some (t == .int):=by
 cases t <;> first | (unfold PySem.W.kitOne;rw [if_pos (by decide)];rfl) | (unfold PySem.W.kitOne;rw [if_neg (by decide)];rfl)
theorem kit_ss {K:PySem.W.Frag} (t:Ty):PySem.W.kitOne K (.type "str") (.type t.nm)=some (t == .str):=by
 cases t <;> first | (unfold PySem.W.kitOne;rw [if_pos (by decide)];rfl) | (unfold PySem.W.kitOne;rw [if_neg (by decide)];rfl)
theorem kit_tt {K:PySem.W.Frag} (t:Ty):PySem.W.kitOne K (.type "tuple") (.type t.nm)=some (t == .tuple):=by
 cases t <;> first | (unfold PySem.W.kitOne;rw [if_pos (by decide)];rfl) | (unfold PySem.W.kitOne;rw [if_neg (by decide)];rfl)
theorem kit_ll {K:PySem.W.Frag} (t:Ty):PySem.W.kitOne K (.type "list") (.type t.nm)=some (t == .list):=by
 cases t <;> first | (unfold PySem.W.kitOne;rw [if_pos (by decide)];rfl) | (unfold PySem.W.kitOne;rw [if_neg (by decide)];rfl)
theorem kit_dd {K:PySem.W.Frag} (t:Ty):PySem.W.kitOne K (.type "dict") (.type t.nm)=some (t == .dict):=by
 cases t <;> first | (unfold PySem.W.kitOne;rw [if_pos (by decide)];rfl) | (unfold PySem.W.kitOne;rw [if_neg (by decide)];rfl)
theorem cd_isi:CallD X (.builtin "isinstance") dIsi:=by
 refine ⟨_,call_isinst,λH ds xs F k Q r g q=>?_⟩
 match ds,r,g with
 | [d,.ty t],r,g =>
  obtain ⟨v,u,F1,F2,rfl,r1,r2⟩:=r.at2
  obtain ⟨b,hb,g⟩:=oget_some g
  cases r2
  have fin:=q _ _ _ _ (.flat (.bl b)) g
  cases r1 with
  | non=>exact ⟨_,_,_,_,rfl,.non,kit_nn t,by cases hb;exact fin⟩
  | bl c=>exact ⟨_,_,_,_,rfl,.bl c,kit_bb t,by cases hb;exact fin⟩
  | int c=>exact ⟨_,_,_,_,rfl,.int c,kit_ii t,by cases hb;exact fin⟩
  | str c=>exact ⟨_,_,_,_,rfl,.str c,kit_ss t,by cases hb;exact fin⟩
  | tup e _=>exact ⟨_,_,_,_,rfl,.tup e,kit_tt t,by cases hb;exact fin⟩
  | lst e _=>exact ⟨_,_,_,_,rfl,.lst e,kit_ll t,by cases hb;exact fin⟩
  | dik e _=>exact ⟨_,_,_,_,rfl,.dK e,kit_dd t,by cases hb;exact fin⟩
  | dit e _=>exact ⟨_,_,_,_,rfl,.dT e,kit_dd t,by cases hb;exact fin⟩
  | kls _ _=>cases hb
  | ty _=>cases hb
  | fdk _ _=>cases hb
  | ftp _ _ _=>cases hb
  | fls e _=>exact ⟨_,_,_,_,rfl,.frz e,kit_ll t,by cases hb;exact fin⟩
  | fdt _ _=>cases hb
  | obj _ _ _=>cases hb
  | clo _ _=>cases hb
  | kc _=>cases hb
theorem SR0.write {K:PySem.W.Frag} {z:Nat->V} {R:Addr->Prop} {H H':Hp} {W:Addr->Prop} {σ:St} {ρ:Env} {fp:Nat->List Addr} {i:Nat} {d d':D} {v:V} {l:Addr} {F':List Addr} (s:SR0 K T z R H W σ ρ fp)
  (hl:look ρ i=some d) (ht:T.own i=true) (hv:σ[i]? = some (some v)) (hm:l∈fp i) (hk:∀b u,H b=some u->b≠l->H' b=some u) (hnew:∃ob,H' l=some ob/\imm ob=false) (r:Rep K H' d' v F') (nd:F'.Nodup)
  (sub:∀a∈F',a∈fp i\/(¬W a/\¬R a)):SR K T z R H' (λa=>W a\/a∈F') σ (ρ.set i (some d')):=by
 have hW:W l:=(s.own i d hl ht).2 l hm
 have hi:ImmK H H':=λb ob' e im=>by
  obtain ⟨ol,e1,e2⟩:=s.wd l hW
  have:b≠l:=λz=>by rw [z,e1] at e;cases e;rw [e2] at im;cases im
  exact hk b _ e this
 refine ⟨λj=>if j=i then F' else fp j,?_,?_,?_,?_,?_,?_,?_,?_,s.fix⟩
 ·rw [List.length_set];exact s.len
 ·intro a ha
  by_cases e:a=l
  ·subst e;exact hnew
  ·rcases ha with ha | ha
   ·exact (s.wd a ha).imp λob q=>⟨hk a ob q.1 e,q.2⟩
   ·exact r.dom a ha
 ·intro j e hj
  by_cases hji:j=i
  ·subst hji
   rw [look_set_same (look_lt hl)] at hj
   cases hj
   exact ⟨v,hv,by rw [if_pos rfl];exact r⟩
  ·rw [look_set_ne hji] at hj
   obtain ⟨u,h1,h2⟩:=s.at_ j e hj
   refine ⟨u,h1,?_⟩
   rw [if_neg hji]
   refine h2.frame hi λa ha=>?_
   obtain ⟨oa,e1,_⟩:=h2.dom a ha
   rw [e1]
   refine hk a _ e1 λz=>?_
   subst z
   cases hto:T.own j with
   | true=>exact s.dis i j d e hl hj ht hto (λz=>hji z.symm) _ hm ha
   | false=>exact s.wr _ hW (s.ro j e hj hto _ ha)
 ·intro j e hj hto
  by_cases hji:j=i
  ·subst hji;simp only [if_pos];exact ⟨nd,λa h=>.inr h⟩
  ·rw [look_set_ne hji] at hj
   simp only [if_neg hji]
   exact ⟨(s.own j e hj hto).1,λa h=>.inl ((s.own j e hj hto).2 a h)⟩
 ·intro j e hj hto
  have hji:j≠i:=λz=>by subst z;rw [ht] at hto;cases hto
  rw [look_set_ne hji] at hj
  simp only [if_neg hji]
  exact s.ro j e hj hto
 ·intro a ha hr
  rcases ha with ha | ha
  ·exact s.wr a ha hr
  ·rcases sub a ha with h | h
   ·exact s.wr a ((s.own i d hl ht).2 a h) hr
   ·exact h.2 hr
 ·intro a hr
  have:a≠l:=λz=>by subst z;exact s.wr _ hW hr
  exact (s.rd a hr).imp λob q=>⟨hk a ob q.1 this,q.2⟩
 ·intro j k e e' hj hk tj tk hne a ha ha'
  by_cases hji:j=i
  ·subst hji
   have hkj:k≠j:=λz=>hne z.symm
   rw [look_set_ne hkj] at hk
   simp only [if_pos,if_neg hkj] at ha ha'
   rcases sub a ha with h | h
   ·exact s.dis j k d e' hl hk ht tk hne a h ha'
   ·exact h.1 ((s.own k e' hk tk).2 a ha')
  ·rw [look_set_ne hji] at hj
   simp only [if_neg hji] at ha
   by_cases hki:k=i
   ·subst hki
    simp only [if_pos] at ha'
    rcases sub a ha' with h | h
    ·exact s.dis j k e d hj hl tj ht hne a ha h
    ·exact h.1 ((s.own j e hj tj).2 a ha)
   ·rw [look_set_ne hki] at hk
    simp only [if_neg hki] at ha'
    exact s.dis j k e e' hj hk tj tk hne a ha ha'
theorem FrW.write {H0 H H':Hp} {W0 W:Addr->Prop} {l:Addr} {F':List Addr} (f:FrW H0 W0 H W) (hl:W l) (hm:∃ol,H l=some ol/\PV.imm ol=false) (hk:∀b u,H b=some u->b≠l->H' b=some u) (hnew:∃ob,H' l=some ob/\PV.imm ob=false)
  (sub:∀a∈F',W a\/H0 a=none):FrW H0 W0 H' (λa=>W a\/a∈F') where
 keep:=λb ob' e n=>by
  have:b≠l:=λz=>by
   subst z
   rcases f.new _ hl with h | h
   ·exact n h
   ·rw [h] at e;cases e
  exact hk b _ (f.keep b ob' e n) this
 dom:=λb e=>by
  by_cases h:b=l
  ·subst h
   obtain ⟨ob,e1,_⟩:=hnew
   rw [e1] at e;cases e
  ·refine f.dom b ?_
   cases q:H b with
   | none=>rfl
   | some u=>rw [hk b u q h] at e;cases e
 imm:=λb ob' e im=>by
  have e':=f.imm b ob' e im
  obtain ⟨ol,e1,e2⟩:=hm
  have:b≠l:=λz=>by rw [z,e1] at e';cases e';rw [e2] at im;cases im
  exact hk b _ e' this
 new:=λb h=>by
  rcases h with h | h
  ·exact f.new b h
  ·rcases sub b h with h | h
   ·exact f.new b h
   ·exact .inr h
theorem upd_keep {H:Hp} {l:Addr} {ob:HO}:∀b u,H b=some u->b≠l->upd H l ob b=some u:=λb u e n=>by rw [upd_ne n];exact e
abbrev GM:=D->List D->(D->D->Prop)->Prop
def MtD (X:Cx) (id:String) (g:GM):Prop :=
 ∃r,MtR X id r/\∀(H:Hp) (d:D) (ds:List D) (v:V) (xs:List V) (F G:List Addr) (k:D->D->Prop) (Q:VK),Rep X.K H d v F->F.Nodup->Reps X.K H ds xs G->G.Nodup->(∀a∈G,a∉F)->g d ds k ->
  (∀u l ob e d' F',l∈F->imm ob=false->Rep X.K (upd H l ob) d' v F'->F'.Nodup->(∀a∈F',a∈F\/a∈G)->Rep X.K (upd H l ob) e u []->k e d'->Q u (upd H l ob))->r v xs H Q
def tyD:Option D->String->Bool
 | some (.lst _),t=>t == "list"
 | some (.dik _),t=>t == "dict"
 | some (.dit _),t=>t == "dict"
 | _,_=>false
theorem tyV_of {K:PySem.W.Frag} {H:Hp} {d:D} {v:V} {F:List Addr} {t:String} (r:Rep K H d v F) (h:tyD (some d) t=true):tyV K t v H:=by
 cases r <;> try (simp [tyD] at h)
 ·subst h;exact .inl ⟨rfl,_,.of ‹_›⟩
 ·subst h;exact .inr (.inr (.inl ⟨rfl,.inl ⟨_,‹_›⟩⟩))
 ·subst h;exact .inr (.inr (.inl ⟨rfl,.inr ⟨_,‹_›⟩⟩))
def wMt (i:Nat) (t:String) (g:GM) (wr:WA):WE:=λρ Q=>tyD (look ρ i) t=true/\wr ρ λds ρ1=>oget (look ρ1 i) λd=>g d ds λe d'=>Q e (ρ1.set i (some d'))
theorem mt_fin {i:Nat} {t:String} {g:GM} {r:V->List V->Hp->VK->Prop} (ht:T.own i=true)
  (gr:∀(H:Hp) (d:D) (ds:List D) (v:V) (xs:List V) (F G:List Addr) (k:D->D->Prop) (Q:VK),Rep X.K H d v F->F.Nodup->Reps X.K H ds xs G->G.Nodup->(∀a∈G,a∉F)->g d ds k ->
   (∀u l ob e d' F',l∈F->imm ob=false->Rep X.K (upd H l ob) d' v F'->F'.Nodup->(∀a∈F',a∈F\/a∈G)->Rep X.K (upd H l ob) e u []->k e d'->Q u (upd H l ob))->r v xs H Q)
  {ta:TA} (ga:∀(z:Nat->V) (R:Addr->Prop) (σ:St) (H:Hp) (W:Addr->Prop) (ρ:Env) (Q:List D->Env->Prop) (Q':List V->Hp->Prop),SR X.K T z R H W σ ρ->wr ρ Q ->
   (∀vs H' W' ds ρ' F,PostA X.K T z R m true H W σ ρ H' W' ρ' ds vs F->Q ds ρ'->Q' vs H')->ta σ H Q')
  {z:Nat->V} {R:Addr->Prop} {σ:St} {H:Hp} {W:Addr->Prop} {ρ:Env} {Q:D->Env->Prop} {Q':VK} (s:SR X.K T z R H W σ ρ) (hw:wMt i t g wr ρ Q)
  (k:∀v H' W' d ρ' F,Post X.K T z R true true H W σ ρ H' W' ρ' d v F->Q d ρ'->Q' v H'):tVar i σ H λx H1=>tyV X.K t x H1/\ta σ H1 λxs H2=>r x xs H2 Q':=by
 obtain ⟨hty,hw⟩:=hw
 obtain ⟨fp0,s0⟩:=id s
 cases hl:look ρ i with
 | none=>rw [hl] at hty;cases hty
 | some d0 =>
  obtain ⟨v,hv,r0⟩:=s0.at_ i d0 hl
  refine ⟨v,hv,tyV_of r0 (by rw [hl] at hty;exact hty),?_⟩
  refine ga z R σ H W ρ _ _ s hw λvs H1 W1 ds ρ1 G p q=>?_
  obtain ⟨d,hd,q⟩:=oget_some q
  obtain ⟨fp,s1⟩:=id p.sr
  obtain ⟨v',hv',r1⟩:=s1.at_ i d hd
  have:v'=v:=by rw [hv] at hv';cases hv';rfl
  subst this
  obtain ⟨nd1,sw⟩:=s1.own i d hd ht
  obtain ⟨ndG,kG⟩:=p.own rfl
  refine gr H1 d ds v' vs (fp i) G _ Q' r1 nd1 p.rep ndG (λa ha hf=>(kG a ha).2 (sw a hf)) q λu l ob e d' F' hlF him rd' ndF sub re hk=>?_
  have hWl:=sw l hlF
  refine k u _ (λa=>W1 a\/a∈F') e _ [] ⟨s1.write hd ht hv' hlF upd_keep ⟨ob,upd_same,him⟩ rd' ndF (λa ha=>?_),p.fr.write hWl (s1.wd l hWl) upd_keep ⟨ob,upd_same,him⟩ (λa ha=>?_),(λh=>nomatch h),re,λ_=>⟨List.nodup_nil,λa m=>nomatch m⟩⟩ hk
  ·rcases sub a ha with h | h
   ·exact .inl h
   ·exact .inr ⟨(kG a h).2,s.nr (kG a h).1⟩
  ·rcases sub a ha with h | h
   ·exact .inl (sw a h)
   ·exact .inr (kG a h).1
variable {name:Str} {apos cpos:Pos} {T' id:String}
theorem ev_mt {i:Nat} {g:GM} (hm:MtD X id g) (pa:PlainAttrs T') (slot:Slot T' name id) (hty:typeOf (.builtin id)=pure (.type "method_descriptor")) (ha:AV X T m true (e::es) wr)
  (ht:T.own i=true:=by rfl) (hN:X.N[i]? = some x:=by rfl) (hv:Vis X.env.scope x:=by first | exact Or.inl rfl | exact Or.inr (Or.inl rfl) | exact Or.inr (Or.inr rfl)) (hd:(x == ("__debug__" : Str))=false:=by decide)
  (hcd:(x == ("__classdict__" : Str))=false:=by decide)
  (hbase:attributeBase (.Name x p) name X.env (eval (.Name x p) X.env)=eval (.Name x p) X.env:=by rfl)
  (hfew:((backTo cpos (starEach (e::es) X.env)).all (λx=>!x.1) && (backToKw cpos (keywordEach [] X.env)).all (λx=>x.1.isSome)
   && decide ((e::es).length+([]:List Keyword).length+(if ([]:List Keyword).isEmpty then 0 else 1)<30))=true:=by rfl)
  (hline:(apos.endLine == cpos.line)=true:=by rfl) (hs:starEach (e::es) X.env=(false,eval e X.env)::starEach es X.env:=by rfl) (hplain:(backTo cpos (starEach es X.env)).any (·.1)=false:=by rfl) :
  EV X T true true (.Call (.Attribute (.Name x p) name apos) (e::es) [] cpos) (wMt i T' g wr):=by
 obtain ⟨r,mr,gr⟩:=hm
 obtain ⟨ta,pa',ga⟩:=ha
 exact ⟨_,pe_bm pa slot hty mr (pe_var hN hv hd hcd) pa' hbase hfew hline hs hplain,λz R σ H W ρ Q Q' s hw k=>mt_fin ht gr ga s hw k⟩
def gAppend:GM
 | .lst xs,[d],k=>xs.length<sizeLine/\k .non (.lst (xs++[d]))
 | _,_,_=>False
theorem nodup_ins {α:Type} {F G:List α} (h:F.Nodup) (h':G.Nodup) (d:∀a∈G,a∉F):(F++G).Nodup :=
 List.nodup_append.mpr ⟨h,h',λa ha b hb e=>d b hb (e ▸ ha)⟩
theorem imm_upd {H:Hp} {l:Addr} {ob ob':HO} (h:H l=some ob) (hi:imm ob=false):ImmK H (upd H l ob'):=λb u e im=>by
 have:b≠l:=λz=>by rw [z,h] at e;cases e;rw [hi] at im;cases im
 rw [upd_ne this];exact e
theorem Reps.upd {K:PySem.W.Frag} {H:Hp} {ds:List D} {xs:List V} {F:List Addr} {l:Addr} {ob ob':HO} (r:Reps K H ds xs F) (h:H l=some ob) (hi:imm ob=false) (hn:l∉F):Reps K (L2.upd H l ob') ds xs F :=
 r.frame (imm_upd h hi) λa ha=>upd_ne λz=>hn (z ▸ ha)
theorem Rep.upd {K:PySem.W.Frag} {H:Hp} {d:D} {x:V} {F:List Addr} {l:Addr} {ob ob':HO} (r:Rep K H d x F) (h:H l=some ob) (hi:imm ob=false) (hn:l∉F):Rep K (L2.upd H l ob') d x F :=
 r.frame (imm_upd h hi) λa ha=>upd_ne λz=>hn (z ▸ ha)
theorem RepK.upd {K:PySem.W.Frag} {H:Hp} {ds:List (Key × D)} {xs:List (Key × V)} {F:List Addr} {l:Addr} {ob ob':HO} (r:RepK K H ds xs F) (h:H l=some ob) (hi:imm ob=false) (hn:l∉F):RepK K (L2.upd H l ob') ds xs F :=
 r.frame (imm_upd h hi) λa ha=>upd_ne λz=>hn (z ▸ ha)
theorem RepT.upd {K:PySem.W.Frag} {H:Hp} {ds:List (List Key × D)} {xs:List (List Key × V)} {F:List Addr} {l:Addr} {ob ob':HO} (r:RepT K H ds xs F) (h:H l=some ob) (hi:imm ob=false) (hn:l∉F):RepT K (L2.upd H l ob') ds xs F :=
 r.frame (imm_upd h hi) λa ha=>upd_ne λz=>hn (z ▸ ha)
theorem md_append:MtD X "list.append" gAppend:=by
 refine ⟨_,mt_append,λH d ds v xs F G k Q r nd rs ndG dis g q=>?_⟩
 cases d with
 | lst es =>
  cases ds with
  | nil=>exact (show False from g).elim
  | cons d ds =>
   cases ds with
   | cons _ _=>exact (show False from g).elim
   | nil =>
    obtain ⟨u,rfl,rd⟩:=rs.at1
    cases r with
    | @lst l ys _ F e r9 =>
     obtain ⟨hz,g⟩:=g
     obtain ⟨nl,nd⟩:=List.nodup_cons.mp nd
     have hG:l∉G:=λh=>dis l h List.mem_cons_self
     refine ⟨l,ys,u,rfl,rfl,e,by rw [r9.length];exact hz,?_⟩
     refine q .non l _ .non _ (l::(F++G)) List.mem_cons_self rfl (.lst upd_same ((r9.upd e rfl nl).snoc (rd.upd e rfl hG))) (List.nodup_cons.mpr ⟨λh=>(List.mem_append.mp h).elim nl hG,nodup_ins nd ndG λa ha hf=>dis a ha (List.mem_cons_of_mem _ hf)⟩) (λa ha=>?_) .non g
     rcases List.mem_cons.mp ha with rfl | ha
     ·exact .inl List.mem_cons_self
     ·rcases List.mem_append.mp ha with ha | ha
      ·exact .inl (List.mem_cons_of_mem _ ha)
      ·exact .inr ha
 | _=>exact (show False from g).elim
def gPopAt:GM
 | .lst xs,[.int i],k=>-(2 ^ 63)<=i/\i<2 ^ 63/\oget (seqIndex? i xs.length) λj=>oget xs[j]? λd=>d.pure=true/\k d (.lst (xs.eraseIdx j))
 | _,_,_=>False
theorem sub3 {α:Type} {F A B C:List α} (h:F=A++B++C):(A++C).Sublist F:=by
 rw [h,List.append_assoc]
 exact List.Sublist.append (List.Sublist.refl _) (List.sublist_append_right _ _)
theorem md_popAt:MtD X "list.pop" gPopAt:=by
 refine ⟨_,mt_popAt,λH d ds v xs F G k Q r nd rs ndG dis g q=>?_⟩
 cases d with
 | lst es =>
  cases ds with
  | nil=>exact (show False from g).elim
  | cons d ds =>
   cases ds with
   | cons _ _=>cases d <;> exact (show False from g).elim
   | nil =>
    cases d with
    | int i =>
     obtain ⟨u,rfl,rd⟩:=rs.at1
     cases rd
     cases r with
     | @lst l ys _ F e r9 =>
      obtain ⟨h1,h2,g⟩:=g
      obtain ⟨j,hj,g⟩:=oget_some g
      obtain ⟨d,hd,hp,g⟩:=oget_some g
      obtain ⟨nl,nd⟩:=List.nodup_cons.mp nd
      obtain ⟨y,A,B,C,hy,hF,rB,rA,rC⟩:=r9.split hd
      obtain ⟨hB,rB⟩:=rB.pure hp
      have sub:=sub3 hF
      have nAC:l∉A++C:=λh=>nl (sub.subset h)
      refine ⟨l,ys,i,j,y,rfl,rfl,e,h1,h2,by rw [r9.length];exact hj,hy,?_⟩
      refine q y l _ d _ (l::(A++C)) List.mem_cons_self rfl (.lst upd_same ?_) (List.nodup_cons.mpr ⟨nAC,nd.sublist sub⟩) (λa ha=>?_) (rB.upd e rfl (λh=>nomatch h)) g
      ·rw [erase_td,erase_td]
       exact (rA.append rC).upd e rfl nAC
      ·rcases List.mem_cons.mp ha with rfl | ha
       ·exact .inl List.mem_cons_self
       ·exact .inl (List.mem_cons_of_mem _ (sub.subset ha))
    | _=>exact (show False from g).elim
 | _=>exact (show False from g).elim
end
end PV
namespace PV
open PySem PySem.Spec L2
def spR (K:PySem.W.Frag) (g:GA):Sp:=λvs H Q _=>∃(ds:List D) (F:List Addr) (k:D->Prop),Reps K H ds vs F/\g ds k/\∀v H' d F',Fin K H H' d v F'->k d->Q v H'
theorem RepK.pure {K:PySem.W.Frag} {H:Hp}:∀{ds:List (Key × D)} {xs:List (Key × V)} {F:List Addr},RepK K H ds xs F->(ds.all λkv=>kv.2.pure)=true->F=[]
 | [],_,_,r,_=>by cases r;rfl
 | d::ds,_,_,r,h=>by
  rw [List.all_cons,Bool.and_eq_true] at h
  cases r with
  | cons p r=>rw [(p.pure h.1).1,RepK.pure r h.2];rfl
theorem RepT.pure {K:PySem.W.Frag} {H:Hp}:∀{ds:List (List Key × D)} {xs:List (List Key × V)} {F:List Addr},RepT K H ds xs F->(ds.all λkv=>kv.2.pure)=true->F=[]
 | [],_,_,r,_=>by cases r;rfl
 | d::ds,_,_,r,h=>by
  rw [List.all_cons,Bool.and_eq_true] at h
  cases r with
  | cons p r=>rw [(p.pure h.1).1,RepT.pure r h.2];rfl
section
variable {X:Cx} {T:Tg} {m o m0 m1 m2 m3 o1 o2:Bool} {e a b:Expr} {w wa wb:WE} {pos p2 p:Pos} {es:List Expr} {wr:WA} {x:Str} {k:Nat} {f:Addr} {fd:FuncData} {ps:List Str}
theorem ev_call {g:GA} (F:FnOk X.prog X.w X.K X.mg X.base CX0 k f fd ps (spR X.K g)) (hr:Room k X.A) (hm:X.mg x=some (.ref f)) (hk:PySem.W.keepIn X.K (.ref f)=true) (hb:Binds X.K fd ps []) (ha:AV X T m o (e::es) wr) (hg:Gl X x:=by rfl)
  (hdb:(x == ("__debug__" : Str))=false:=by decide) (he:starEach (e::es) X.env=(false,eval e X.env)::starEach es X.env:=by rfl) (hpl:(backTo pos (starEach es X.env)).any (·.1)=false:=by rfl) :
  EV X T m true (.Call (.Name x p) (e::es) [] pos) (wCall g wr):=by
 obtain ⟨ta,pa,ga⟩:=ha
 refine ⟨_,pe_call F hr hg hm hk hb .nil pass0 pa hdb he hpl,λz R σ H W ρ Q Q' s hw k=>?_⟩
 refine ga z R σ H W ρ _ _ s hw λvs H1 W1 ds ρ1 F p q=>?_
 refine ⟨ds,F,_,by rw [List.append_nil];exact p.rep,q,λv H' d F' fi hk=>k v H' W1 d ρ1 F' (Post.fin p.sr p.fr p.calm fi.same fi.rep fi.nd fi.new) hk⟩
abbrev WI:=Env->(List D->List D->Env->Prop)->Prop
def AI (X:Cx) (T:Tg) (m:Bool) (i p:Nat) (es:List Expr) (w:WI):Prop :=
 ∃ta,PA X es ta/\∀(z:Nat->V) (R:Addr->Prop) (σ:St) (H:Hp) (W:Addr->Prop) (ρ:Env) (Q:List D->List D->Env->Prop) (Q':List V->Hp->Prop),SR X.K T z R H W σ ρ->w ρ Q ->
  (∀v xs ys H' W' pre post ρ',PostT X.K T z R m H W σ ρ H' W' ρ'->σ[i]? = some (some v)->Reps X.K H' pre xs []->Reps X.K H' post ys []->pre.length=p->Q pre post ρ'->Q' (xs++v::ys) H')->ta σ H Q'
def wSkip (w:WE) (wi:WI):WI:=λρ Q=>w ρ λd ρ1=>d.pure=true/\wi ρ1 λpre post ρ2=>Q (d::pre) post ρ2
theorem ai_skip {i q:Nat} {wi:WI} (he:EV X T m1 o e w) (hr:AI X T m2 i q es wi) (hs:starEach (e::es) X.env=(false,eval e X.env)::starEach es X.env:=by rfl):AI X T (m1 || m2) i (q+1) (e::es) (wSkip w wi):=by
 obtain ⟨te,pe,ge⟩:=he
 obtain ⟨ta,pa,ga⟩:=hr
 refine ⟨_,pa_cons pe pa hs,λz R σ H W ρ Q Q' s hw k=>?_⟩
 refine ge z R σ H W ρ _ _ s hw λv1 H1 W1 d1 ρ1 F1 p ⟨hp,q1⟩=>?_
 obtain ⟨_,r1⟩:=p.rep.pure hp
 refine ga z R σ H1 W1 ρ1 _ _ p.sr q1 λv xs ys H2 W2 pre post ρ2 q hv rp rq hl q2=>?_
 exact k v (v1::xs) ys H2 W2 (d1::pre) post ρ2 (PostT.seq ⟨p.sr,p.fr,p.calm⟩ q) hv (.cons (F:=[]) (G:=[]) (r1.keep q.fr λa m=>nomatch m) rp) rq (by rw [List.length_cons,hl]) q2
abbrev WL:=Env->(List D->Env->Prop)->Prop
def JD (K:PySem.W.Frag) (J:It) (H:Hp) (W:Addr->Prop) (ds:List D):Prop :=
 ∀(i:Nat) (H1:Hp) (W1:Addr->Prop),FrW H W H1 W1->(ds.length<=i->J.stop i H1)/\∀d,ds[i]? = some d->J.go i H1/\∀v H2,J.yld i H1 v H2->Same H1 H2/\∃F,Rep K H2 d v F/\∀a∈F,¬W1 a
def wz (pr:Bool) (W:Addr->Prop):Addr->Prop:=λa=>pr=true/\W a
def IV (X:Cx) (T:Tg) (m pr:Bool) (tg iter:Expr) (w:WL):Prop :=
 ∃wi,PI X tg iter wi/\∀(z:Nat->V) (R:Addr->Prop) (σ:St) (H:Hp) (W:Addr->Prop) (ρ:Env) (Q:List D->Env->Prop) (RR:It->Hp->Prop),SR X.K T z R H W σ ρ->w ρ Q ->
  (∀J H' W' ds ρ',PostT X.K T z R m H W σ ρ H' W' ρ'->JD X.K J H' (wz pr W') ds->Q ds ρ'->RR J H')->wi σ H RR
variable {tg iter:Expr}
theorem pi_seq {l:Expr} {tl:TE} (hl:PE X l tl):PI X tg l (λσ H R=>tl σ H λx H1=>∃a,x=.ref a/\(((∃xs,SqL X.K H1 a xs)/\R (Itl X.K a) H1)\/((∃xs,SqT X.K H1 a xs)/\R (Itt X.K a) H1))):=by
 intro pins s σ H R I h
 refine thn (hl pins s σ H _ I h) λv s1 ⟨x,H1,I1,r1,q1⟩=>?_
 obtain ⟨a,e,q⟩:=q1
 subst e
 cases r1
 rcases q with ⟨⟨xs,hq⟩,q⟩ | ⟨⟨xs,hq⟩,q⟩
 ·obtain ⟨its,rv,p,hz⟩:=I1.list hq
  refine wpAny_pyIter_list p.isList ?_
  refine ⟨s1.heap.objs.size,[s1.heap.objs.size],_,_,H1,rfl,I1.kept (t':=s1.toks) λb o e=>Heap.get?_push_of_some _ e,turn_list a _,⟨_,Heap.get?_push_size _ rfl,rfl,rfl⟩,λb hb=>?_,q⟩
  have e:b=s1.heap.objs.size:=by simpa using hb
  subst e
  exact I1.fpOk (Nat.le_refl _) (I1.hok.fresh (Nat.le_refl _))
 ·obtain ⟨its,rv,p,hz⟩:=I1.tuple hq
  refine wpAny_pyIter_tuple (show s1.heap.IsTuple a its.toArray from p) ?_
  refine ⟨s1.heap.objs.size,[s1.heap.objs.size],_,_,H1,rfl,I1.kept (t':=s1.toks) λb o e=>Heap.get?_push_of_some _ e,turn_tuple a _,⟨_,Heap.get?_push_size _ rfl,rfl,rfl⟩,λb hb=>?_,q⟩
  have e:b=s1.heap.objs.size:=by simpa using hb
  subst e
  exact I1.fpOk (Nat.le_refl _) (I1.hok.fresh (Nat.le_refl _))
def wSeqD (w:WE):WL:=λρ Q=>w ρ λd ρ'=>match d with
 | .tup ds=>pureL ds=true/\Q ds ρ'
 | .lst ds=>Q ds ρ'
 | .kc (.tup ks)=>Q (ks.map kcD) ρ'
 | _=>False
theorem jd_kc {K:PySem.W.Frag} {H:Hp} {W:Addr->Prop} {a:Addr} {xs:List V} {ks:List KC} (hs:∀H,SqT K H a xs) (ar:AreKC K ks xs):JD K (Itt K a) H W (ks.map kcD):=by
 intro i H2 W2 f
 have r:Reps K H2 (ks.map kcD) xs []:=ar.reps
 refine ⟨λhi=>⟨xs,hs H2,by rw [r.length];exact hi⟩,λd hd=>?_⟩
 obtain ⟨x,B,hx,rx,sx⟩:=r.get hd
 refine ⟨⟨xs,x,hs H2,hx⟩,λv H3 y=>?_⟩
 obtain ⟨rfl,y⟩:=y
 have:=y xs (hs _)
 rw [hx] at this
 cases this
 exact ⟨Same.refl _,B,rx,λa ha=>nomatch sx.subset ha⟩
theorem iv_seq (h:EV X T m o e w):IV X T m o tg e (wSeqD w):=by
 obtain ⟨te,pe,ge⟩:=h
 refine ⟨_,pi_seq pe,λz R σ H W ρ Q RR s hw k=>?_⟩
 refine ge z R σ H W ρ _ _ s hw λv H1 W1 d ρ1 F p q=>?_
 cases d with
 | tup ds =>
  obtain ⟨hp,q⟩:=q
  obtain ⟨hF,rp⟩:=p.rep.pure (by simpa [D.pure] using hp)
  cases rp with
  | @tup a xs _ _ e1 r =>
   refine ⟨a,rfl,.inr ⟨⟨xs,.of e1⟩,k _ H1 W1 ds ρ1 ⟨p.sr,p.fr,p.calm⟩ (λi H2 W2 f=>?_) q⟩⟩
   have e2:H2 a=some (.tup xs):=f.imm _ _ e1 rfl
   refine ⟨λhi=>⟨xs,.of e2,by rw [r.length];exact hi⟩,λd hd=>?_⟩
   obtain ⟨x,B,hx,rx,sx⟩:=r.get hd
   refine ⟨⟨xs,x,.of e2,hx⟩,λv H3 y=>?_⟩
   obtain ⟨rfl,y⟩:=y
   have:=y xs (.of e2)
   rw [hx] at this
   cases this
   exact ⟨Same.refl _,B,rx.keep f (λa ha=>(nomatch sx.subset ha)),(λa ha=>(nomatch sx.subset ha))⟩
 | lst ds =>
  obtain ⟨p1,p2,p3,p4,p5⟩:=p
  cases p4 with
  | @lst a xs _ F e1 r =>
   refine ⟨a,rfl,.inl ⟨⟨xs,.of e1⟩,k _ H1 W1 ds ρ1 ⟨p1,p2,p3⟩ (λi H2 W2 f=>?_) q⟩⟩
   have nW:∀b∈a::F,¬wz o W1 b:=λb hb hw=>by
    obtain ⟨h1,h2⟩:=hw
    exact ((p5 h1).2 b hb).2 h2
   have e2:H2 a=some (.lst xs):=f.keep _ _ e1 (nW a List.mem_cons_self)
   refine ⟨λhi=>⟨xs,.of e2,by rw [r.length];exact hi⟩,λd hd=>?_⟩
   obtain ⟨x,B,hx,rx,sx⟩:=r.get hd
   refine ⟨⟨xs,x,.of e2,hx⟩,λv H3 y=>?_⟩
   obtain ⟨rfl,y⟩:=y
   have:=y xs (.of e2)
   rw [hx] at this
   cases this
   refine ⟨Same.refl _,B,rx.keep f λb hb=>nW b (List.mem_cons_of_mem _ (sx.subset hb)),λb hb hw=>?_⟩
   have hb':b∈a::F:=List.mem_cons_of_mem _ (sx.subset hb)
   rcases f.new b hw with h | h
   ·exact nW b hb' h
   ·obtain ⟨ob,e3,_⟩:=rx.dom b hb
    rw [h] at e3;cases e3
 | kc c =>
  cases c with
  | tup ks =>
   obtain ⟨-,rp⟩:=p.rep.pure (by rw [D.pure])
   cases rp with
   | kc h =>
    obtain ⟨a,xs,rfl,hs,ar⟩:=h.sqT
    exact ⟨a,rfl,.inr ⟨⟨xs,hs H1⟩,k _ H1 W1 (ks.map kcD) ρ1 ⟨p.sr,p.fr,p.calm⟩ (jd_kc hs ar) q⟩⟩
  | _=>exact (show False from q).elim
 | _=>exact q.elim
def rngD (lo:Int) (n:Nat):List D:=(List.range n).map λ(i:Nat)=>.int (lo+(i:Int))
theorem jd_range {K:PySem.W.Frag} {H:Hp} {W:Addr->Prop} {lo:Int} {n:Nat}:JD K (Itr lo n) H W (rngD lo n):=by
 intro i H1 W1 f
 have hl:(rngD lo n).length=n:=by simp [rngD]
 refine ⟨λh=>by rw [hl] at h;exact h,λd hd=>?_⟩
 have hi:i<n:=by have:=(List.getElem?_eq_some_iff.mp hd).1;rwa [hl] at this
 have hd':d=.int (lo+(i:Int)):=by
  simp only [rngD,List.getElem?_map,List.getElem?_range hi,Option.map_some,Option.some.injEq] at hd
  exact hd.symm
 refine ⟨hi,λv H2 y=>?_⟩
 obtain ⟨rfl,rfl⟩:=y
 exact ⟨Same.refl _,[],by rw [hd'];exact .int _,λa m=>nomatch m⟩
def wRng1 (wr:WA):WL:=λρ Q=>wr ρ λds ρ'=>match ds with
 | [.int j]=>-(2 ^ 62)<=j/\j<2 ^ 62/\Q (rngD 0 j.toNat) ρ'
 | _=>False
theorem iv_range1 (hm:X.mg "range" = none) (ha:AV X T m o [a] wr) (hg:Gl X "range":=by rfl) (hs:starEach [a] X.env=[(false,eval a X.env)]:=by rfl):IV X T m true tg (.Call (.Name "range" p) [a] [] pos) (wRng1 wr):=by
 obtain ⟨ta,pa,ga⟩:=ha
 refine ⟨_,pi_range1 hg hm pa hs,λz R σ H W ρ Q RR s hw k=>?_⟩
 refine ga z R σ H W ρ _ _ s hw λvs H1 W1 ds ρ1 F p q=>?_
 obtain ⟨j,rfl⟩:∃j,ds=[D.int j]:=by
  clear p
  cases ds with
  | nil=>exact (show False from q).elim
  | cons d0 r0 =>
   cases r0 with
   | nil =>
    cases d0 with
    | int j=>exact ⟨j,rfl⟩
    | _=>exact (show False from q).elim
   | cons _ _=>cases d0 <;> exact (show False from q).elim
 obtain ⟨v,rfl,rd⟩:=p.rep.at1
 cases rd
 exact ⟨j,rfl,q.1,q.2.1,k _ H1 W1 _ ρ1 ⟨p.sr,p.fr,p.calm⟩ jd_range q.2.2⟩
def enumD:Nat->List D->List D
 | _,[]=>[]
 | n,d::r=>.tup [.int (n:Int),d]::enumD (n+1) r
theorem enumD_get:∀{ds:List D} {n i:Nat},(enumD n ds)[i]? = ds[i]?.map λd=>.tup [.int ((n+i:Nat):Int),d]
 | [],_,_=>by simp [enumD]
 | d::r,n,0=>by simp [enumD]
 | d::r,n,i+1=>by
  simp only [enumD,List.getElem?_cons_succ]
  rw [enumD_get (ds:=r) (n:=n+1) (i:=i),show n+1+i=n+(i+1) by omega]
theorem enumD_length:∀{ds:List D} {n:Nat},(enumD n ds).length=ds.length
 | [],_=>rfl
 | d::r,n=>by simp [enumD,enumD_length]
end
end PV
namespace PV
open PySem PySem.Spec L2
structure EndsP where
 nx:Env->Prop
 rt:D->Env->Prop
 bk:Env->Prop:=λ_=>False
 ct:Env->Prop:=λ_=>False
 xc:D->Env->Prop:=λ_ _=>False
abbrev WS:=EndsP->Env->Prop
structure Lk (K:PySem.W.Frag) (T:Tg) (z:Nat->V) (H:Hp) (W:Addr->Prop) (P:EndsP) (E:Ends):Prop where
 nx:∀R σ' H' W' ρ',SR K T z R H' W' σ' ρ'->FrW H W H' W'->P.nx ρ'->E.nx σ' H'
 bk:∀R σ' H' W' ρ',SR K T z R H' W' σ' ρ'->FrW H W H' W'->P.bk ρ'->E.bk σ' H'
 ct:∀R σ' H' W' ρ',SR K T z R H' W' σ' ρ'->FrW H W H' W'->P.ct ρ'->E.ct σ' H'
 rt:∀R v σ' H' W' ρ' d F,SR K T z R H' W' σ' ρ'->FrW H W H' W'->Rep K H' d v F->F.Nodup->(∀a∈F,¬W' a/\(W a\/H a=none))->P.rt d ρ'->E.rt v H'
 xc:∀R σ' H' W' ρ' d,SR K T z R H' W' σ' ρ'->FrW H W H' W'->P.xc d ρ'->T.xe d σ' H'
theorem Lk.step {K:PySem.W.Frag} {T:Tg} {z:Nat->V} {H H1:Hp} {W W1:Addr->Prop} {P:EndsP} {E:Ends} (l:Lk K T z H W P E) (f:FrW H W H1 W1):Lk K T z H1 W1 P E where
 nx:=λR σ' H' W' ρ' s g q=>l.nx R σ' H' W' ρ' s (f.trans g) q
 bk:=λR σ' H' W' ρ' s g q=>l.bk R σ' H' W' ρ' s (f.trans g) q
 ct:=λR σ' H' W' ρ' s g q=>l.ct R σ' H' W' ρ' s (f.trans g) q
 rt:=λR v σ' H' W' ρ' d F s g r nd k q=>l.rt R v σ' H' W' ρ' d F s (f.trans g) r nd (λa ha=>⟨(k a ha).1,by
  rcases (k a ha).2 with h | h
  ·exact f.new a h
  ·exact .inr (f.dom a h)⟩) q
 xc:=λR σ' H' W' ρ' d s g q=>l.xc R σ' H' W' ρ' d s (f.trans g) q
def SV (X:Cx) (T:Tg) (st:Stmt) (w:WS):Prop :=
 ∃ts,PS X st ts/\∀(z:Nat->V) (R:Addr->Prop) (σ:St) (H:Hp) (W:Addr->Prop) (ρ:Env) (P:EndsP) (E:Ends),SR X.K T z R H W σ ρ->w P ρ->Lk X.K T z H W P E->ts E σ H
def SVs (X:Cx) (T:Tg) (st:List Stmt) (w:WS):Prop :=
 ∃ts,PSs X st ts/\∀(z:Nat->V) (R:Addr->Prop) (σ:St) (H:Hp) (W:Addr->Prop) (ρ:Env) (P:EndsP) (E:Ends),SR X.K T z R H W σ ρ->w P ρ->Lk X.K T z H W P E->ts E σ H
section
variable {X:Cx} {T:Tg} {m o m0 m1 m2 m3 o1 o2:Bool} {e a b:Expr} {w wa wb:WE} {pos p2 p:Pos} {es:List Expr} {wr:WA} {x:Str} {st:Stmt} {rest:List Stmt} {ws wu:WS} {wt:WT}
def wNext:WS:=λP ρ=>P.nx ρ
def wSeq (w u:WS):WS:=λP ρ=>w { P with nx:=u P } ρ
theorem svs_nil:SVs X T [] wNext:=⟨_,pss_nil,λz R σ H W ρ P E s hw l=>l.nx R σ H W ρ s (FrW.refl H W) hw⟩
theorem svs_one (h:SV X T st ws):SVs X T [st] ws:=by
 obtain ⟨t,pt,g⟩:=h
 exact ⟨_,pss_one pt,g⟩
theorem svs_cons (h:SV X T st ws) (hr:SVs X T rest wu):SVs X T (st::rest) (wSeq ws wu):=by
 obtain ⟨t,pt,g⟩:=h
 obtain ⟨u,pu,gu⟩:=hr
 refine ⟨_,pss_cons pt pu,λz R σ H W ρ P E s hw l=>g z R σ H W ρ _ _ s hw ⟨λR' σ' H' W' ρ' s' f q=>gu z R' σ' H' W' ρ' P E s' q (l.step f),l.bk,l.ct,l.rt,l.xc⟩⟩
def wDrop (w:WE):WS:=λP ρ=>w ρ λ_ ρ'=>P.nx ρ'
theorem sv_expr (he:EV X T m o e w) (hs:swapsWith e none pos.line X.env=pure false:=by rfl):SV X T (.Expr e pos) (wDrop w):=by
 obtain ⟨te,pe,ge⟩:=he
 exact ⟨_,ps_expr pe hs,λz R σ H W ρ P E s hw l=>ge z R σ H W ρ _ _ s hw λv H1 W1 d ρ1 F p q=>l.nx R σ H1 W1 ρ1 p.sr p.fr q⟩
def wRet (w:WE):WS:=λP ρ=>w ρ λd ρ'=>P.rt d ρ'
theorem sv_ret (he:EV X T m true e w):SV X T (.Return (some e) pos) (wRet w):=by
 obtain ⟨te,pe,ge⟩:=he
 exact ⟨_,ps_ret pe,λz R σ H W ρ P E s hw l=>ge z R σ H W ρ _ _ s hw λv H1 W1 d ρ1 F p q=>l.rt R v σ H1 W1 ρ1 d F p.sr p.fr p.rep (p.own rfl).1 (λa ha=>⟨((p.own rfl).2 a ha).2,.inr ((p.own rfl).2 a ha).1⟩) q⟩
theorem sv_retN:SV X T (.Return none pos) (λP ρ=>P.rt .non ρ) :=
 ⟨_,ps_retN,λz R σ H W ρ P E s hw l=>l.rt R .non σ H W ρ .non [] s (FrW.refl H W) .non List.nodup_nil (λa m=>nomatch m) hw⟩
def wRetS (i:Nat):WS:=λP ρ=>oget (look ρ i) λd=>P.rt d (ρ.set i none)
theorem sv_retS {i:Nat} (ht:T.own i=true:=by rfl) (hN:X.N[i]? = some x:=by rfl) (hv:Vis X.env.scope x:=by first | exact Or.inl rfl | exact Or.inr (Or.inl rfl) | exact Or.inr (Or.inr rfl)) (hd:(x == ("__debug__" : Str))=false:=by decide)
  (hcd:(x == ("__classdict__" : Str))=false:=by decide):SV X T (.Return (some (.Name x p)) pos) (wRetS i):=by
 refine ⟨_,ps_ret (pe_var hN hv hd hcd),λz R σ H W ρ P E s hw l=>?_⟩
 obtain ⟨d,hl,q⟩:=oget_some hw
 obtain ⟨fp,s0⟩:=s
 obtain ⟨v,h1,h2⟩:=s0.at_ i d hl
 have key:∀j e,look (ρ.set i none) j=some e->j≠i/\look ρ j=some e:=λj e h=>by
  rw [look_set] at h
  split at h
  ·cases h
  ·refine ⟨λz=>?_,h⟩
   subst z
   rename_i hn
   exact hn ⟨rfl,look_lt hl⟩
 refine ⟨v,h1,l.rt R v σ H (λa=>W a/\a∉fp i) (ρ.set i none) d (fp i) ⟨fp,?_⟩ ?_ h2 (s0.own i d hl ht).1 (λa ha=>⟨λh=>h.2 ha,.inl ((s0.own i d hl ht).2 a ha)⟩) q⟩
 ·refine ⟨by rw [List.length_set];exact s0.len,λa h=>s0.wd a h.1,λj e h=>s0.at_ j e (key j e h).2,λj e h t=>⟨(s0.own j e (key j e h).2 t).1,λa ha=>⟨(s0.own j e (key j e h).2 t).2 a ha,λha'=>s0.dis j i e d (key j e h).2 hl t ht (key j e h).1 a ha ha'⟩⟩,
   λj e h t=>s0.ro j e (key j e h).2 t,λa h=>s0.wr a h.1,s0.rd,λj k e e' h h' t t'=>s0.dis j k e e' (key j e h).2 (key k e' h').2 t t',s0.fix⟩
 ·exact ⟨λb ob e _=>e,λb e=>e,λb ob e _=>e,λb h=>.inl h.1⟩
theorem SR0.bindE {K:PySem.W.Frag} {z:Nat->V} {R:Addr->Prop} {H:Hp} {W:Addr->Prop} {σ:St} {ρ:Env} {fp:Nat->List Addr} {i:Nat} {d:D} {v:V} {F:List Addr} (s:SR0 K T z R H W σ ρ fp) (hio:i∉T.io) (r:Rep K H d v F) (nd:F.Nodup) (nw:∀a∈F,¬W a/\¬R a) :
  SR K T z (λa=>R a\/(T.own i=false/\a∈F)) H (λa=>W a\/(T.own i=true/\a∈F)) (σ.set i (some v)) (ρ.set i (some d)):=by
 refine ⟨λj=>if j=i then F else fp j,?_,?_,?_,?_,?_,?_,?_,?_,?_⟩
 ·rw [List.length_set,List.length_set];exact s.len
 ·intro a ha
  rcases ha with ha | ⟨_,ha⟩
  ·exact s.wd a ha
  ·exact r.dom a ha
 ·intro j e hj
  rw [look_set] at hj
  split at hj
  ·rename_i h
   obtain ⟨rfl,hlt⟩:=h
   cases hj
   exact ⟨v,by rw [List.getElem?_set_self (by rw [← s.len];exact hlt)],by rw [if_pos rfl];exact r⟩
  ·rename_i h
   obtain ⟨u,h1,h2⟩:=s.at_ j e hj
   have hji:j≠i:=λz=>h ⟨z,by rw [← z];exact look_lt hj⟩
   exact ⟨u,by rw [List.getElem?_set_ne (Ne.symm hji)];exact h1,by rw [if_neg hji];exact h2⟩
 ·intro j e hj hto
  by_cases hji:j=i
  ·subst hji;simp only [if_pos];exact ⟨nd,λa h=>.inr ⟨hto,h⟩⟩
  ·rw [look_set_ne hji] at hj
   simp only [if_neg hji]
   exact ⟨(s.own j e hj hto).1,λa h=>.inl ((s.own j e hj hto).2 a h)⟩
 ·intro j e hj hto
  by_cases hji:j=i
  ·subst hji;simp only [if_pos];exact λa h=>.inr ⟨hto,h⟩
  ·rw [look_set_ne hji] at hj
   simp only [if_neg hji]
   exact λa h=>.inl (s.ro j e hj hto a h)
 ·intro a ha hr
  rcases ha with ha | ⟨t,ha⟩
  ·rcases hr with hr | ⟨_,hr⟩
   ·exact s.wr a ha hr
   ·exact (nw a hr).1 ha
  ·rcases hr with hr | ⟨t',hr⟩
   ·exact (nw a ha).2 hr
   ·rw [t] at t';cases t'
 ·intro a hr
  rcases hr with hr | ⟨_,hr⟩
  ·exact s.rd a hr
  ·exact r.dom a hr
 ·intro j k e e' hj hk tj tk hne a ha ha'
  by_cases hji:j=i
  ·subst hji
   have hkj:k≠j:=λz=>hne z.symm
   rw [look_set_ne hkj] at hk
   simp only [if_pos,if_neg hkj] at ha ha'
   exact (nw a ha).1 ((s.own k e' hk tk).2 a ha')
  ·rw [look_set_ne hji] at hj
   simp only [if_neg hji] at ha
   by_cases hki:k=i
   ·subst hki
    simp only [if_pos] at ha'
    exact (nw a ha').1 ((s.own j e hj tj).2 a ha)
   ·rw [look_set_ne hki] at hk
    simp only [if_neg hki] at ha'
    exact s.dis j k e e' hj hk tj tk hne a ha ha'
 ·intro j hj
  have hji:j≠i:=λz=>hio (z ▸ hj)
  rw [List.getElem?_set_ne (Ne.symm hji)]
  exact s.fix j hj
theorem SR0.bind {K:PySem.W.Frag} {z:Nat->V} {R:Addr->Prop} {H:Hp} {W:Addr->Prop} {σ:St} {ρ:Env} {fp:Nat->List Addr} {i:Nat} {d:D} {v:V} {F:List Addr} (s:SR0 K T z R H W σ ρ fp) (hio:i∉T.io) (r:Rep K H d v F) (nd:F.Nodup) (nw:∀a∈F,¬W a/\¬R a) :
  ∃R',SR K T z R' H (λa=>W a\/(T.own i=true/\a∈F)) (σ.set i (some v)) (ρ.set i (some d)):=⟨_,s.bindE hio r nd nw⟩
def wSet (i:Nat) (w:WE):WS:=λP ρ=>w ρ λd ρ'=>P.nx (ρ'.set i (some d))
theorem frw_more {H H':Hp} {W W':Addr->Prop} {G:Addr->Prop} (f:FrW H W H' W') (n:∀a,G a->H a=none):FrW H W H' (λa=>W' a\/G a) :=
 ⟨f.keep,f.dom,f.imm,λb h=>h.elim (f.new b) λh=>.inr (n b h)⟩
theorem sv_set {i:Nat} {pos':Pos} (he:EV X T m true e w) (hN:X.N.Nodup) (hi:X.N[i]? = some x:=by rfl) (hio:i∉T.io:=by decide) (hx:Loc X.env.scope x:=by first | exact Or.inl rfl | exact Or.inr rfl) (hs:swapsWith e (some (.Name x pos')) pos.line X.env=pure false:=by rfl)
  (hf:X.fn x=true\/X.env.scope.names.lookup x=some .local:=by first | exact .inl rfl | exact .inr rfl | assumption):SV X T (.Assign [.Name x pos'] e pos) (wSet i w):=by
 obtain ⟨te,pe,ge⟩:=he
 refine ⟨_,ps_set hN hi hx pe hs hf,λz R σ H W ρ P E s hw l=>ge z R σ H W ρ _ _ s hw λv H1 W1 d ρ1 F p q=>?_⟩
 obtain ⟨fp,s1⟩:=p.sr
 obtain ⟨nd,nw⟩:=p.own rfl
 obtain ⟨R',s2⟩:=s1.bind (i:=i) hio p.rep nd (λa ha=>⟨(nw a ha).2,s.nr (nw a ha).1⟩)
 exact l.nx R' _ H1 _ _ s2 (frw_more p.fr λa h=>(nw a h.2).1) q
abbrev WG:=D->Env->(Env->Prop)->Prop
def GV (X:Cx) (T:Tg) (tg:Expr) (wg:WG):Prop :=
 ∃t,PG X tg t/\∀(z:Nat->V) (R:Addr->Prop) (σ:St) (H:Hp) (W:Addr->Prop) (ρ:Env) (d:D) (v:V) (Q:Env->Prop) (Q':St->Hp->Prop),SR X.K T z R H W σ ρ->Rep X.K H d v []->d.pure=true->wg d ρ Q ->
  (∀R' W' σ' ρ',SR X.K T z R' H W' σ' ρ'->FrW H W H W'->Q ρ'->Q' σ' H)->t v σ H Q'
def GVs (X:Cx) (T:Tg) (tgs:List Expr) (wg:List D->Env->(Env->Prop)->Prop):Prop :=
 ∃t,PGs X tgs t/\∀(z:Nat->V) (R:Addr->Prop) (σ:St) (H:Hp) (W:Addr->Prop) (ρ:Env) (ds:List D) (vs:List V) (Q:Env->Prop) (Q':St->Hp->Prop),SR X.K T z R H W σ ρ->Reps X.K H ds vs []->pureL ds=true->wg ds ρ Q ->
  (∀R' W' σ' ρ',SR X.K T z R' H W' σ' ρ'->FrW H W H W'->Q ρ'->Q' σ' H)->t vs σ H Q'
def gN (i:Nat):WG:=λd ρ Q=>Q (ρ.set i (some d))
theorem gv_name {i:Nat} (hN:X.N.Nodup) (hi:X.N[i]? = some x:=by rfl) (hio:i∉T.io:=by decide) (hx:Loc X.env.scope x:=by first | exact Or.inl rfl | exact Or.inr rfl) (hf:X.fn x=true\/X.env.scope.names.lookup x=some .local:=by first | exact .inl rfl | exact .inr rfl | assumption):GV X T (.Name x pos) (gN i):=by
 refine ⟨_,pg_name hN hi hx hf,λz R σ H W ρ d v Q Q' s r hp hw k=>?_⟩
 obtain ⟨fp,s1⟩:=s
 obtain ⟨R',s2⟩:=s1.bind (i:=i) hio r List.nodup_nil (λa ha=>nomatch ha)
 exact k R' _ _ _ s2 (frw_more (FrW.refl H W) λa h=>nomatch h.2) hw
def gNilD:List D->Env->(Env->Prop)->Prop
 | [],ρ,Q=>Q ρ
 | _,_,_=>False
def gConsD (wg:WG) (wgs:List D->Env->(Env->Prop)->Prop):List D->Env->(Env->Prop)->Prop
 | d::r,ρ,Q=>wg d ρ λρ'=>wgs r ρ' Q
 | _,_,_=>False
theorem Reps.inv {K:PySem.W.Frag} {H:Hp} {d:D} {ds:List D} {vs:List V} {F:List Addr} (r:Reps K H (d::ds) vs F):∃v us F1 F2,vs=v::us/\Rep K H d v F1/\Reps K H ds us F2:=by
 cases r with
 | cons h r=>exact ⟨_,_,_,_,rfl,h,r⟩
theorem gvs_nil:GVs X T [] gNilD:=by
 refine ⟨_,pgs_nil,λz R σ H W ρ ds vs Q Q' s r hp hw k=>?_⟩
 cases ds with
 | nil=>cases r;exact ⟨rfl,k R W σ ρ s (FrW.refl H W) hw⟩
 | cons=>exact hw.elim
theorem gvs_cons {wg:WG} {wgs:List D->Env->(Env->Prop)->Prop} (h:GV X T e wg) (hr:GVs X T es wgs) (hs:(assignEach (e::es) X.env).map (·.2)=assign e X.env::(assignEach es X.env).map (·.2):=by rfl):GVs X T (e::es) (gConsD wg wgs):=by
 obtain ⟨t,pt,g⟩:=h
 obtain ⟨u,pu,gu⟩:=hr
 refine ⟨_,pgs_cons pt pu hs,λz R σ H W ρ ds vs Q Q' s r hp hw k=>?_⟩
 cases ds with
 | nil=>exact hw.elim
 | cons d ds =>
  obtain ⟨v,vs,F,G,rfl,r1,r2⟩:=r.inv
  simp only [pureL,Bool.and_eq_true] at hp
  obtain ⟨e1,r1⟩:=r1.pure hp.1
  obtain ⟨e2,r2⟩:=r2.pure hp.2
  refine ⟨v,vs,rfl,g z R σ H W ρ d v _ _ s r1 hp.1 hw λR' W' σ' ρ' s' f q=>?_⟩
  exact gu z R' σ' H W' ρ' ds vs Q Q' s' r2 hp.2 q λR2 W2 σ2 ρ2 s2 f2 q2=>k R2 W2 σ2 ρ2 s2 (f.trans f2) q2
def gTupD (n:Nat) (wgs:List D->Env->(Env->Prop)->Prop):WG:=λd ρ Q=>match d with
 | .tup ds=>ds.length=n/\wgs ds ρ Q
 | _=>False
theorem gv_tup {kt:Nat} {n:Nat} {wgs:List D->Env->(Env->Prop)->Prop} (h:GVs X T es wgs) (hc:X.calm=true:=by rfl) (hn:(assignEach es X.env).length=n:=by rfl) (hst:(assignEach es X.env).findIdx? (·.1)=none:=by rfl):GV X T (.Tuple es kt pos) (gTupD n wgs):=by
 obtain ⟨t,pt,g⟩:=h
 refine ⟨_,pg_tup hc pt hn hst,λz R σ H W ρ d v Q Q' s r hp hw k=>?_⟩
 cases d with
 | tup ds =>
  cases r with
  | @tup a xs _ _ e1 r=>exact ⟨a,xs,rfl,.of e1,by rw [r.length];exact hw.1,g z R σ H W ρ ds xs Q Q' s r (by simpa [D.pure] using hp) hw.2 k⟩
 | _=>exact hw.elim
def dSet (s c d:D) (k:D->Prop):Prop:=match s with
 | .lst xs=>onI c λj=>oget (ixN xs.length j) λn=>k (.lst (xs.set n d))
 | .dik kvs=>onK c λkey=>kvs.length<sizeLine/\k (.dik (putD kvs key d))
 | .dit kvs=>onT c λl=>kvs.length<sizeLine/\oget (keysOf l) λks=>k (.dit (putD kvs ks d))
 | _=>False
theorem set_dict (hu:X.A.units+1<cLine):PSet X (λo i v H Q=>∃a H',o=.ref a/\DPut H a i v H'/\Q H'):=by
 intro pins s σ H o i v ov iv u Q I ro ri rv h
 obtain ⟨a,H',rfl,g,q⟩:=h
 cases ro
 exact d_setItem hu I g ri rv λs' I'=>⟨H',I',q⟩
theorem PSet.or {t u:TSet} (h:PSet X t) (h':PSet X u):PSet X (λo i v H Q=>t o i v H Q\/u o i v H Q):=by
 intro pins s σ H o i v ov iv u Q I ro ri rv q
 rcases q with q | q
 ·exact h pins s σ H o i v ov iv u Q I ro ri rv q
 ·exact h' pins s σ H o i v ov iv u Q I ro ri rv q
def wSetIx (i:Nat) (wv wi:WE):WS:=λP ρ=>wv ρ λd ρ1=>d.pure=true/\(look ρ1 i).isSome=true/\wi ρ1 λc ρ2=>oget (look ρ2 i) λs=>dSet s c d λs'=>P.nx (ρ2.set i (some s'))
theorem sv_setIx {i:Nat} {v ix:Expr} {wv wi:WE} {px ps':Pos} (hu:X.A.units+1<cLine) (hv:EV X T m1 o1 v wv) (hi:EV X T m2 o2 ix wi) (ht:T.own i=true:=by rfl) (hN:X.N[i]? = some x:=by rfl)
  (hvis:Vis X.env.scope x:=by first | exact Or.inl rfl | exact Or.inr (Or.inl rfl) | exact Or.inr (Or.inr rfl)) (hd:(x == ("__debug__" : Str))=false:=by decide) (hcd:(x == ("__classdict__" : Str))=false:=by decide)
  (ha:∀v,assign (.Subscript (.Name x px) ix ps') X.env v=(do
   let ov ← holding [v] (eval (.Name x px) X.env)
   let iv ← holding [v,ov] (eval ix X.env)
   standAt ps'
   holding [v,ov,iv] (setItem ov iv v)
   release [v,ov,iv] []):=by intro _;rfl) (hs:swapsWithSole [.Subscript (.Name x px) ix ps'] v pos.line X.env=pure false:=by rfl) (hw:swappedStores [.Subscript (.Name x px) ix ps'] v X.env=pure none:=by rfl)
  (h1:(assignEach [.Subscript (.Name x px) ix ps'] X.env).map (·.2)=[assign (.Subscript (.Name x px) ix ps') X.env]:=by rfl):SV X T (.Assign [.Subscript (.Name x px) ix ps'] v pos) (wSetIx i wv wi):=by
 obtain ⟨tv,pv,gv⟩:=hv
 obtain ⟨ti,pi,gi⟩:=hi
 refine ⟨_,ps_asg pv (pg_sub (pe_var hN hvis hd hcd) pi (PSet.or set_list (set_dict hu)) ha) hs hw h1,λz R σ H W ρ P E s hw l=>?_⟩
 refine gv z R σ H W ρ _ _ s hw λv1 H1 W1 d ρ1 F1 p ⟨hp,hso,q⟩=>?_
 obtain ⟨-,rv⟩:=p.rep.pure hp
 obtain ⟨d0,hl0⟩:=Option.isSome_iff_exists.mp hso
 obtain ⟨fp0,s0⟩:=id p.sr
 obtain ⟨u,hu',_⟩:=s0.at_ i d0 hl0
 refine ⟨u,hu',gi z R σ H1 W1 ρ1 _ _ p.sr q λv2 H2 W2 c ρ2 F2 p2 q2=>?_⟩
 obtain ⟨d1,hl,q2⟩:=oget_some q2
 obtain ⟨fp,s2⟩:=id p2.sr
 obtain ⟨u',hu2,ru⟩:=s2.at_ i d1 hl
 have:u'=u:=by rw [hu'] at hu2;cases hu2;rfl
 subst this
 have rv2:Rep X.K H2 d v1 []:=rv.keep p2.fr λa m=>nomatch m
 obtain ⟨nd,sw⟩:=s2.own i d1 hl ht
 have fin:∀(lad:Addr) (ob:HO) (d':D) (F':List Addr),lad∈fp i->imm ob=false->Rep X.K (upd H2 lad ob) d' u' F'->F'.Nodup->(∀a∈F',a∈fp i)->P.nx (ρ2.set i (some d'))->E.nx σ (upd H2 lad ob):=λlad ob d' F' hm him r' nd' sub hq=>by
  have hW:=sw lad hm
  exact l.nx R σ _ _ _ (s2.write hl ht hu2 hm upd_keep ⟨ob,upd_same,him⟩ r' nd' λa ha=>.inl (sub a ha)) ((p.fr.trans p2.fr).write hW (s2.wd lad hW) upd_keep ⟨ob,upd_same,him⟩ λa ha=>.inl (sw a (sub a ha))) hq
 have nilnot:∀a:Addr,a∉([]:List Addr):=λa h=>nomatch h
 generalize hF:fp i=F at *
 cases d1 with
 | lst ds =>
  obtain ⟨j,rfl,q2⟩:=onI_inv q2
  obtain ⟨a,xs,G,rfl,rfl,e,r⟩:=ru.iLst
  obtain ⟨n,hn,hq⟩:=oget_some q2
  have rc:=p2.rep.iInt
  subst rc
  have hlt:=(ixN_seq hn).2.1
  obtain ⟨dn,hdn⟩:∃dn,ds[n]? = some dn:=⟨ds[n],List.getElem?_eq_getElem hlt⟩
  obtain ⟨y,A,B,C,hy,hG,rB,rA,rC⟩:=r.split hdn
  obtain ⟨na,ndG⟩:=List.nodup_cons.mp nd
  have sub:=sub3 hG
  have nAC:a∉A++C:=λh=>na (sub.subset h)
  have hxl:n<xs.length:=by rw [r.length];exact hlt
  refine .inl ⟨a,xs,j,n,rfl,rfl,e,by rw [r.length];exact hn,?_⟩
  refine fin a _ _ (a::(A++C)) List.mem_cons_self rfl (.lst upd_same ?_) (List.nodup_cons.mpr ⟨nAC,ndG.sublist sub⟩) (λb hb=>?_) hq
  ·rw [take_set_drop hlt,take_set_drop hxl]
   have:=(rA.upd (ob':=.lst (xs.take n++v1::xs.drop (n+1))) e rfl (λh=>nAC (List.mem_append.mpr (.inl h)))).append (.cons (rv2.upd e rfl (nilnot a)) (rC.upd e rfl λh=>nAC (List.mem_append.mpr (.inr h))))
   simpa using this
  ·rcases List.mem_cons.mp hb with rfl | hb
   ·exact List.mem_cons_self
   ·exact List.mem_cons_of_mem _ (sub.subset hb)
 | dik ds =>
  obtain ⟨key,⟨hz,hq⟩,hy⟩:=onK_inv (show onK c (λkey=>ds.length<sizeLine/\P.nx (ρ2.set i (some (.dik (putD ds key d))))) from q2)
  obtain ⟨a,kvs,G,rfl,rfl,e,r⟩:=ru.iDik
  obtain rfl:=hy p2.rep
  obtain ⟨na,ndG⟩:=List.nodup_cons.mp nd
  obtain ⟨G',rp,sub⟩:=(r.upd (ob':=.dK (putK kvs key v1)) e rfl na).put (k:=key) (rv2.upd e rfl (nilnot a))
  refine .inr ⟨a,_,rfl,DPut.k (k:=key) e (by rw [r.length];exact hz),?_⟩
  refine fin a _ _ (a::G') List.mem_cons_self rfl (.dik upd_same rp) (List.nodup_cons.mpr ⟨λh=>na (sub.subset h),ndG.sublist sub⟩) (λb hb=>?_) hq
  rcases List.mem_cons.mp hb with rfl | hb
  ·exact List.mem_cons_self
  ·exact List.mem_cons_of_mem _ (sub.subset hb)
 | dit ds =>
  obtain ⟨l',rfl,hz,q2⟩:=onT_inv q2
  obtain ⟨a,kvs,G,rfl,rfl,e,r⟩:=ru.iDit
  obtain ⟨na,ndG⟩:=List.nodup_cons.mp nd
  obtain ⟨ks,hk,hq⟩:=oget_some q2
  obtain ⟨b,ys,rfl,e2,r2⟩:=p2.rep.iTup
  have hx:=r2.keys hk
  subst hx
  obtain ⟨G',rp,sub⟩:=(r.upd (ob':=.dT (putK kvs ks v1)) e rfl na).put (k:=ks) (rv2.upd e rfl (nilnot a))
  refine .inr ⟨a,_,rfl,DPut.t (k:=ks) e e2 (by rw [r.length];exact hz),?_⟩
  refine fin a _ _ (a::G') List.mem_cons_self rfl (.dit upd_same rp) (List.nodup_cons.mpr ⟨λh=>na (sub.subset h),ndG.sublist sub⟩) (λb hb=>?_) hq
  rcases List.mem_cons.mp hb with rfl | hb
  ·exact List.mem_cons_self
  ·exact List.mem_cons_of_mem _ (sub.subset hb)
 | _=>exact (show False from q2).elim
def wIf (wt:WT) (w u:WS):WS:=λP ρ=>wt ρ λb ρ'=>if b=true then w P ρ' else u P ρ'
theorem sv_if {c:Expr} {sa sb:List Stmt} (hc:TV X T m c wt) (ha:SVs X T sa ws) (hb:SVs X T sb wu):SV X T (.If c sa sb pos) (wIf wt ws wu):=by
 obtain ⟨tc,pc,gc⟩:=hc
 obtain ⟨ta,pa,ga⟩:=ha
 obtain ⟨tb,pb,gb⟩:=hb
 refine ⟨_,ps_if pc pa pb,λz R σ H W ρ P E s hw l=>gc z R σ H W ρ _ _ s hw λb H1 W1 ρ1 p q=>?_⟩
 cases b with
 | true=>exact ga z R σ H1 W1 ρ1 P E p.sr q (l.step p.fr)
 | false=>exact gb z R σ H1 W1 ρ1 P E p.sr q (l.step p.fr)
def wFor (wl:WL) (wg:WG) (wb:WS):WS:=λP ρ=>wl ρ λds ρ1=>pureL ds=true/\∃I:Nat->Env->Prop,I 0 ρ1 /\
 (∀i d ρ,ds[i]? = some d->I i ρ->wg d ρ λρ'=>wb { P with nx:=I (i+1),ct:=I (i+1),bk:=P.nx } ρ')/\∀ρ,I ds.length ρ->P.nx ρ
theorem wz_true (W:Addr->Prop):wz true W=W:=by funext a;simp [wz]
theorem sv_for {tg iter:Expr} {body:List Stmt} {wl:WL} {wg:WG} (hp:PassesOwn (model X.prog X.w) X.A X.env X.xe) (hi:IV X T m true tg iter wl) (hg:GV X T tg wg) (hb:SVs X T body ws) (hc:X.calm=true:=by rfl)
  (hs:∀x,foldedSetIterable iter X.env x=pure x:=by intro _;rfl):SV X T (.For tg iter body [] pos) (wFor wl wg ws):=by
 obtain ⟨ti,pi,gi⟩:=hi
 obtain ⟨tt,pt,gt⟩:=hg
 obtain ⟨tb,pb,gb⟩:=hb
 refine ⟨_,ps_for hp hc pi pt pb hs,λz R σ H W ρ P E s hw l=>gi z R σ H W ρ _ _ s hw λJ H1 W1 ds ρ1 p jd q=>?_⟩
 rw [wz_true] at jd
 obtain ⟨hpu,I,h0,hI,hd⟩:=q
 refine ⟨λi n σ' H'=>n=ds.length-i/\i<=ds.length/\∃R' W' ρ',SR X.K T z R' H' W' σ' ρ'/\FrW H1 W1 H' W'/\I i ρ',⟨ds.length,by simp,Nat.zero_le _,R,W1,ρ1,p.sr,FrW.refl _ _,h0⟩,?_⟩
 rintro i n σ2 H2 ⟨rfl,hi,R2,W2,ρ2,s2,f2,i2⟩
 obtain ⟨j1,j2⟩:=jd i H2 W2 f2
 by_cases hlt:i<ds.length
 ·have hdi:ds[i]? = some ds[i]:=List.getElem?_eq_getElem hlt
  obtain ⟨hgo,hy⟩:=j2 _ hdi
  have hpd:(ds[i]).pure=true:=pureL_iff.mp hpu _ (List.getElem_mem hlt)
  refine .inr ⟨hgo,λσ' H'=>i+1<=ds.length/\∃R' W' ρ',SR X.K T z R' H' W' σ' ρ'/\FrW H1 W1 H' W'/\I (i+1) ρ',λσ' H' ⟨h1,h2⟩=>⟨ds.length-(i+1),by omega,rfl,h1,h2⟩,λv H3 yl=>?_⟩
  obtain ⟨sm,F,rv,_⟩:=hy v H3 yl
  obtain ⟨-,rv⟩:=rv.pure hpd
  have f3:FrW H1 W1 H3 W2:=f2.trans (FrW.same W2 sm)
  refine gt z R2 σ2 H3 W2 ρ2 _ v _ _ (s2.same sm) rv hpd (hI i _ ρ2 hdi i2) λR4 W4 σ4 ρ4 s4 f4 q4=>?_
  refine gb z R4 σ4 H3 W4 ρ4 _ _ s4 q4 ⟨?_,?_,?_,?_,?_⟩
  ·exact λR' σ' H' W' ρ' s' f' h=>⟨hlt,R',W',ρ',s',(f3.trans f4).trans f',h⟩
  ·exact λR' σ' H' W' ρ' s' f' h=>l.nx R' σ' H' W' ρ' s' (((p.fr.trans f3).trans f4).trans f') h
  ·exact λR' σ' H' W' ρ' s' f' h=>⟨hlt,R',W',ρ',s',(f3.trans f4).trans f',h⟩
  ·exact (((l.step p.fr).step f3).step f4).rt
  ·exact (((l.step p.fr).step f3).step f4).xc
 ·have e:i=ds.length:=by omega
  subst e
  exact .inl ⟨j1 (Nat.le_refl _),l.nx R2 σ2 H2 W2 ρ2 s2 (p.fr.trans f2) (hd ρ2 i2)⟩
end
end PV
namespace PV
open PySem PySem.Spec L2
open PyProof.Rows (envOfC)
def TR:Tg:={ own:=λ_=>false,io:=[] }
def Any (H:Hp):Addr->Prop:=λa=>∃ob,H a=some ob/\imm ob=false
theorem SR.readonly {K:PySem.W.Frag} {T:Tg} {z:Nat->V} {H:Hp} {σ:St} {ρ:Env} (hio:T.io=[]) (hlen:ρ.length=σ.length) (h:∀i d,look ρ i=some d->T.own i=false/\∃v F,σ[i]? = some (some v)/\Rep K H d v F) :
  SR K T z (Any H) H (λ_=>False) σ ρ:=by
 have ch:∀i,∃F,∀d,look ρ i=some d->∃v,σ[i]? = some (some v)/\Rep K H d v F:=λi=>by
  cases hl:look ρ i with
  | none=>exact ⟨[],λd e=>nomatch e⟩
  | some d =>
   obtain ⟨_,v,F,h1,h2⟩:=h i d hl
   exact ⟨F,λd' e=>by cases e;exact ⟨v,h1,h2⟩⟩
 refine ⟨λi=>Classical.choose (ch i),hlen,λa h=>h.elim,λi d hl=>Classical.choose_spec (ch i) d hl,λi d hl ht=>?_,λi d hl ht a ha=>?_,λa h=>h.elim,λa h=>h,λi j d e hl hl' ht=>?_,λi hi=>?_⟩
 ·rw [(h i d hl).1] at ht;cases ht
 ·obtain ⟨v,_,r⟩:=Classical.choose_spec (ch i) d hl
  exact r.dom a ha
 ·rw [(h i d hl).1] at ht;cases ht
 ·rw [hio] at hi;cases hi
theorem look_start:∀{ds:List D} {n i:Nat},look (ds.map some++List.replicate n none) i=ds[i]?
 | [],0,i=>by simp [look]
 | [],n+1,0=>by simp [look,List.replicate_succ]
 | [],n+1,i+1=>by
  have:=look_start (ds:=[]) (n:=n) (i:=i)
  simpa [look,List.replicate_succ] using this
 | d::ds,n,0=>by simp [look]
 | d::ds,n,i+1=>by
  have:=look_start (ds:=ds) (n:=n) (i:=i)
  simpa [look] using this
theorem start_get {N:List Str} {vs:List V} {i:Nat} {v:V} (h:vs[i]? = some v):(L2.start N vs)[i]? = some (some v):=by
 have hi:=(List.getElem?_eq_some_iff.mp h).1
 unfold L2.start
 rw [List.getElem?_append_left (by simpa using hi),List.getElem?_map,h]
 rfl
section
variable {P:Program} {w:World} {K:PySem.W.Frag} {mg:Str->Option Value} {base:Heap} {x qual:Str} {st:Stmt} {f:Addr} {fd:FuncData} {N ps:List Str} {k:Nat} {T:Tg} {ww:WS}
def env0 (N:List Str) (ds:List D):Env:=ds.map some++List.replicate (N.length-ds.length) none
theorem fn_ro {g:GA} (F:Fun K x qual st f fd) (S:FnScope N ps (defScope st)) (hio:T.io=[]) (hown:∀i,i<ps.length->T.own i=false) (hg:∀ds kk,g ds kk->ds.length=ps.length)
  (hb:∀(cdv:Value) (A:Around) (outer:List PySem.Env) (s:Shared) (H:Hp) (E:XK),Room k (A.deeper (envOfC qual (defScope st) s.heap.objs.size f cdv))->SVs (cxOf CX0 P w K mg base N qual (defScope st) f cdv A outer s H E).nox T (defBody st) ww)
  (hr:∀ds kk,g ds kk->ww { nx:=λ_=>kk .non,rt:=λd _=>kk d } (env0 N ds)):FnOk P w K mg base CX0 (k+1) f fd ps (spR K g):=by
 refine F.ok S (λvs H Q E h=>?_) (λcdv A outer s H vs Q E hroom h=>?_)
 ·obtain ⟨ds,Fp,kk,rep,hgk,_⟩:=h
  rw [rep.length];exact hg ds kk hgk
 ·obtain ⟨ds,Fp,kk,rep,hgk,q⟩:=h
  obtain ⟨ts,pts,gts⟩:=hb cdv A outer s H E hroom
  have hl:=rep.length
  have hds:=hg ds kk hgk
  refine ⟨ts,pts,gts (λ_=>.non) (Any H) (L2.start N vs) H (λ_=>False) (env0 N ds) _ _ (SR.readonly hio ?_ λi d hli=>?_) (hr ds kk hgk) ⟨?_,?_,?_,?_,λ_ _ _ _ _ _ _ _ hk=>hk.elim⟩⟩
  ·unfold env0 L2.start;simp [hl]
  ·unfold env0 at hli
   rw [look_start] at hli
   obtain ⟨v,B,h1,h2,_⟩:=rep.get hli
   exact ⟨hown i (by rw [← hds];exact (List.getElem?_eq_some_iff.mp hli).1),v,B,start_get h1,h2⟩
  ·intro R' σ' H' W' ρ' s' fr hk
   have sm:Same H H':=λb o e=>fr.keep b o e (λz=>z)
   exact q .non H' .non [] ⟨sm,.non,List.nodup_nil,λ_ m=>nomatch m⟩ hk
  ·exact λR' σ' H' W' ρ' s' fr hk=>hk.elim
  ·exact λR' σ' H' W' ρ' s' fr hk=>hk.elim
  ·intro R' v σ' H' W' ρ' d F' s' fr r nd nw hk
   have sm:Same H H':=λb o e=>fr.keep b o e (λz=>z)
   exact q v H' d F' ⟨sm,r,nd,λa ha=>(nw a ha).2.resolve_left id⟩ hk
end
section
variable {X:Cx} {T:Tg} {m o m0 m1 m2 m3 o1 o2:Bool} {e a b:Expr} {w wa wb we:WE} {pos p2 p:Pos} {es:List Expr} {wr:WA} {x:Str} {wt:WT}
def CV (X:Cx) (ifs:List Expr) (w:WT):Prop :=
 ∃tt,PIfs X ifs tt/\∀(z:Nat->V) (R:Addr->Prop) (σ:St) (H:Hp) (W:Addr->Prop) (ρ:Env) (Q:Bool->Env->Prop) (Q':Bool->Hp->Prop),SR X.K TR z R H W σ ρ->w ρ Q ->
  (∀b H' W' ρ',PostT X.K TR z R false H W σ ρ H' W' ρ'->Q b ρ'->Q' b H')->tt σ H Q'
def wAll:WT:=λρ Q=>Q true ρ
theorem cv_nil:CV X [] wAll:=⟨_,pifs_nil,λz R σ H W ρ Q Q' s hw k=>k true H W ρ ⟨s,FrW.refl H W,λ_=>⟨Same.refl H,rfl,rfl⟩⟩ hw⟩
theorem cv_one {c:Expr} (h:TV X TR false c wt):CV X [c] wt:=by
 obtain ⟨tt,pt,g⟩:=h
 exact ⟨_,pifs_one pt,g⟩
def blkE (ρ:Env) (d:D) (ix:List Nat):Env:=some d::ix.map (look ρ)
theorem look_map {f:Nat->Option D}:∀{ix:List Nat} {j:Nat},look (ix.map f) j=ix[j]?.bind f
 | [],_=>by simp [look]
 | i::r,0=>by simp [look]
 | i::r,j+1=>by simpa [look] using look_map (f:=f) (ix:=r) (j:=j)
def wComp (wl:WL) (wt:WT) (we:WE) (ix:List Nat):WE:=λρ Q=>wl ρ λds ρ1=>∃I:Nat->List D->Prop,I 0 [] /\
 (∀i d ys,ds[i]? = some d->I i ys->ys.length<sizeLine/\wt (blkE ρ1 d ix) λb _=>if b=true then we (blkE ρ1 d ix) (λy _=>I (i+1) (ys++[y])) else I (i+1) ys) /\
 ∀ys,I ds.length ys->ys.length<=sizeLine/\Q (.lst ys) ρ1
def CompOk (X:Cx) (T:Tg) (m:Bool) (elt iter:Expr) (x:Str) (px:Pos) (scope:Scope) (ifs:List Expr) (ix:List Nat) (w:WE):Prop :=
 ∃(wi:TI) (tt:TT) (te:TE),PI X (.Name x px) iter wi/\(∀cl C s₀ H₀ fp,PIfs (cxBlk X scope cl C (bN X.N x ix) s₀ H₀ fp) ifs tt)/\(∀cl C s₀ H₀ fp,PE (cxBlk X scope cl C (bN X.N x ix) s₀ H₀ fp) elt te) /\
  ∀(z:Nat->V) (R:Addr->Prop) (σ:St) (H:Hp) (W:Addr->Prop) (ρ:Env) (Q:D->Env->Prop) (Q':VK),SR X.K T z R H W σ ρ->w ρ Q ->
   (∀v H' W' d ρ' F,Post X.K T z R m true H W σ ρ H' W' ρ' d v F->Q d ρ'->Q' v H')->tComp wi tt te ix σ H Q'
theorem comp_ok {elt iter:Expr} {px:Pos} {scope:Scope} {ifs:List Expr} {wl:WL} {pr:Bool} (ix:List Nat) (hi:IV X T m pr (.Name x px) iter wl)
  (ht:∀cl C s₀ H₀ fp,CV (cxBlk X scope cl C (bN X.N x ix) s₀ H₀ fp) ifs wt) (he:∀cl C s₀ H₀ fp,EV (cxBlk X scope cl C (bN X.N x ix) s₀ H₀ fp) TR false true elt we) :
  CompOk X T m elt iter x px scope ifs ix (wComp wl wt we ix):=by
 obtain ⟨wi,pi,gi⟩:=hi
 refine ⟨wi,λσ H Q=>∀cl C s₀ H₀ fp,Classical.choose (ht cl C s₀ H₀ fp) σ H Q,λσ H Q=>∀cl C s₀ H₀ fp,Classical.choose (he cl C s₀ H₀ fp) σ H Q,pi,
  λcl C s₀ H₀ fp pins s σ H Q I h=>(Classical.choose_spec (ht cl C s₀ H₀ fp)).1 pins s σ H Q I (h cl C s₀ H₀ fp),λcl C s₀ H₀ fp pins s σ H Q I h=>(Classical.choose_spec (he cl C s₀ H₀ fp)).1 pins s σ H Q I (h cl C s₀ H₀ fp),?_⟩
 intro z R σ H W ρ Q Q' s hw k
 refine gi z R σ H W ρ _ _ s hw λJ H1 W1 ds ρ1 p jd q=>?_
 obtain ⟨I,h0,hI,hd⟩:=q
 refine ⟨λi n ys H2=>n=ds.length-i/\i<=ds.length/\Same H1 H2/\∃es F,Reps X.K H2 es ys F/\F.Nodup/\(∀a∈F,H1 a=none)/\I i es,ds.length,⟨by simp,Nat.zero_le _,Same.refl _,[],[],.nil,List.nodup_nil,(λa m=>(nomatch m)),h0⟩,?_⟩
 rintro i n ys H2 ⟨rfl,hi,sm,es,F,re,nd,nw,i2⟩
 obtain ⟨j1,j2⟩:=jd i H2 (wz pr W1) (FrW.same _ sm)
 by_cases hlt:i<ds.length
 ·have hdi:ds[i]? = some ds[i]:=List.getElem?_eq_getElem hlt
  obtain ⟨hgo,hy⟩:=j2 _ hdi
  obtain ⟨hz,q1⟩:=hI i _ es hdi i2
  refine .inr ⟨hgo,by rw [re.length];exact hz,λv H3 yl=>?_⟩
  obtain ⟨sm3,Fv,rv,_⟩:=hy v H3 yl
  have srB:∀z',SR X.K TR z' (Any H3) H3 (λ_=>False) (bS σ (some v) ix) (blkE ρ1 ds[i] ix):=λz'=>by
   refine SR.readonly rfl (by simp [bS,blkE]) λj d hj=>⟨rfl,?_⟩
   cases j with
   | zero =>
    simp only [blkE,look,Option.some.injEq] at hj
    subst hj
    exact ⟨v,Fv,rfl,rv⟩
   | succ j =>
    have hj':look (ix.map (look ρ1)) j=some d:=hj
    rw [look_map] at hj'
    cases hx:ix[j]? with
    | none=>rw [hx] at hj';cases hj'
    | some q =>
     rw [hx] at hj'
     obtain ⟨fp,s1⟩:=(p.sr.same sm).same sm3
     obtain ⟨u,hu,ru⟩:=s1.at_ q d hj'
     refine ⟨u,fp q,?_,ru⟩
     show (ix.map λi=>(σ[i]?).getD none)[j]? = some (some u)
     rw [List.getElem?_map,hx]
     simp [hu]
  intro cl C s₀ H₀ fp
  refine (Classical.choose_spec (ht cl C s₀ H₀ fp)).2 (λ_=>.non) (Any H3) (bS σ (some v) ix) H3 (λ_=>False) (blkE ρ1 ds[i] ix) _ _ (srB _) q1 λbb H4 W4 ρ4 p4 q4=>?_
  obtain ⟨sm4,hW4,hρ4⟩:=p4.calm rfl
  have re4:=((re.same sm3).same sm4)
  cases bb with
  | false=>exact ⟨ds.length-(i+1),by omega,rfl,hlt,(sm.trans sm3).trans sm4,es,F,re4,nd,nw,q4⟩
  | true =>
   show if true=true then _ else _
   rw [if_pos rfl]
   intro cl C s₀ H₀ fp
   refine (Classical.choose_spec (he cl C s₀ H₀ fp)).2 (λ_=>.non) (Any H3) (bS σ (some v) ix) H4 W4 (blkE ρ1 ds[i] ix) _ _ (hρ4 ▸ p4.sr) (by simpa using q4) λu H5 W5 y ρ5 Fy p5 q5=>?_
   obtain ⟨sm5,_,_⟩:=p5.calm rfl
   obtain ⟨ny,ky⟩:=p5.own rfl
   have sm15:Same H1 H5:=((sm.trans sm3).trans sm4).trans sm5
   refine ⟨ds.length-(i+1),by omega,rfl,hlt,sm15,es++[y],F++Fy,(re4.same sm5).snoc p5.rep,nodup_ins nd ny λa ha hf=>?_,λa ha=>?_,q5⟩
   ·obtain ⟨ob,e1,_⟩:=re4.dom a hf
    rw [(ky a ha).1] at e1;cases e1
   ·rcases List.mem_append.mp ha with ha | ha
    ·exact nw a ha
    ·exact ((sm.trans sm3).trans sm4).free (ky a ha).1
 ·have e:i=ds.length:=by omega
  subst e
  obtain ⟨hz,q1⟩:=hd es i2
  refine .inl ⟨j1 (Nat.le_refl _),by rw [re.length];exact hz,λl hl=>?_⟩
  have hl1:H1 l=none:=sm.free hl
  refine k _ _ W1 (.lst es) ρ1 (l::F) ⟨(p.sr.same sm).same (same_upd hl),(p.fr.trans (FrW.same W1 sm)).trans (FrW.same W1 (same_upd hl)),λh=>⟨((p.calm h).1.trans sm).trans (same_upd hl),(p.calm h).2⟩,.lst upd_same (re.same (same_upd hl)),λ_=>⟨List.nodup_cons.mpr ⟨λh=>?_,nd⟩,λb hb=>?_⟩⟩ q1
  ·obtain ⟨ob,e1,_⟩:=re.dom l h
   rw [hl] at e1;cases e1
  ·rcases List.mem_cons.mp hb with rfl | hb
   ·exact ⟨p.fr.dom _ hl1,p.sr.nw hl1⟩
   ·exact ⟨p.fr.dom _ (nw b hb),p.sr.nw (nw b hb)⟩
theorem ev_comp {elt iter:Expr} {px:Pos} {scope:Scope} {ifs:List Expr} {ix:List Nat} (h:CompOk X T m elt iter x px scope ifs ix w) (B:BlkScope X.env scope x)
  (hix:∀i∈ix,∃y,X.N[i]? = some y/\scope.names.lookup y=some .free) (hN:(bN X.N x ix).Nodup) (hc:X.calm=true:=by rfl)
  (hs:∀x,foldedSetIterable iter X.env x=pure x:=by intro _;rfl):EV X T m true (.ListComp elt [⟨.Name x px,iter,ifs,0⟩] scope pos) w:=by
 obtain ⟨wi,tt,te,h1,h2,h3,h4⟩:=h
 exact ⟨_,pe_comp ix hc B hix hN h1 h2 h3 hs,h4⟩
end
end PV
namespace PV
open PySem PySem.Spec L2
section
variable {X:Cx} {T:Tg} {m o m0 m1 m2 m3 o1 o2:Bool} {e a b:Expr} {w wa wb we:WE} {pos p2 p:Pos} {es:List Expr} {wr:WA} {x:Str} {wt:WT}
abbrev WO:=Env->(Option Int->Env->Prop)->Prop
def OV (X:Cx) (T:Tg) (m:Bool) (e:Option Expr) (w:WO):Prop :=
 ∃t,PO X e t/\∀(z:Nat->V) (R:Addr->Prop) (σ:St) (H:Hp) (W:Addr->Prop) (ρ:Env) (Q:Option Int->Env->Prop) (Q':Option Int->Hp->Prop),SR X.K T z R H W σ ρ->w ρ Q ->
  (∀b H' W' ρ',PostT X.K T z R m H W σ ρ H' W' ρ'->Q b ρ'->Q' b H')->t σ H Q'
def wNone:WO:=λρ Q=>Q none ρ
def wSome (w:WE):WO:=λρ Q=>w ρ λd ρ'=>match d with
 | .int i=>Q (some i) ρ'
 | _=>False
theorem ov_none:OV X T false none wNone:=⟨_,po_none,λz R σ H W ρ Q Q' s hw k=>k none H W ρ ⟨s,FrW.refl H W,λ_=>⟨Same.refl H,rfl,rfl⟩⟩ hw⟩
theorem ov_some (h:EV X T m o e w):OV X T m (some e) (wSome w):=by
 obtain ⟨t,pt,g⟩:=h
 refine ⟨_,po_some pt,λz R σ H W ρ Q Q' s hw k=>g z R σ H W ρ _ _ s hw λv H1 W1 d ρ1 F p q=>?_⟩
 cases d with
 | int i=>exact ⟨i,rep_int p.rep,k (some i) H1 W1 ρ1 ⟨p.sr,p.fr,p.calm⟩ q⟩
 | _=>exact q.elim
def cutD (xs:List D) (lo hi:Option Int):List D:=(xs.drop (HT.sIx xs.length 0 lo)).take (HT.sIx xs.length xs.length hi-HT.sIx xs.length 0 lo)
theorem Reps.cut {K:PySem.W.Frag} {H:Hp} {ds:List D} {xs:List V} {lo hi:Option Int} (r:Reps K H ds xs []):Reps K H (cutD ds lo hi) (cutV xs lo hi) []:=by
 unfold cutD cutV
 rw [r.length]
 obtain ⟨G,r1,s1⟩:=r.drop (HT.sIx ds.length 0 lo)
 obtain ⟨G',r2,s2⟩:=r1.take (HT.sIx ds.length ds.length hi-HT.sIx ds.length 0 lo)
 have:=List.sublist_nil.mp s1
 subst this
 have:=List.sublist_nil.mp s2
 subst this
 exact r2
theorem sl_any:SlR X (λx lo hi H Q=>rSlL X.K x lo hi H Q\/rSlT X.K x lo hi H Q):=SlR.or sl_list sl_tup
def dGet2:D->D->D->(D->Prop)->Prop
 | .dik kvs,.int i,d,k=>k ((valD kvs (.inl i)).getD d)
 | .dik kvs,.str i,d,k=>k ((valD kvs (.inr i)).getD d)
 | .dit kvs,.tup l,d,k=>oget (keysOf l) λks=>k ((valD kvs ks).getD d)
 | _,_,_,_=>False
theorem RepK.get {K:PySem.W.Frag} {H:Hp}:∀{ds:List (Key × D)} {xs:List (Key × V)} {F:List Addr} {i:Nat} {k:Key} {v:V},RepK K H ds xs F->xs[i]? = some (k,v)->∃d B,ds[i]? = some (k,d)/\Rep K H d v B/\B.Sublist F
 | [],_,_,_,_,_,r,h=>by cases r;simp at h
 | d::ds,_,_,i,_,_,r,h=>by
  cases r with
  | @cons j d v _ vs F G p r =>
   cases i with
   | zero =>
    simp at h
    obtain ⟨rfl,rfl⟩:=h
    exact ⟨d,F,rfl,p,List.sublist_append_left _ _⟩
   | succ i =>
    obtain ⟨d',B,h1,h2,h3⟩:=RepK.get r (i:=i) (by simpa using h)
    exact ⟨d',B,by simpa using h1,h2,h3.trans (List.sublist_append_right _ _)⟩
end
end PV
namespace PV
open PySem PySem.Spec L2
section
variable {κ:Type} [DecidableEq κ]
theorem putD_ne {j k:κ} {d y:D} {r:List (κ × D)} (h:¬j=k):putD ((j,d)::r) k y=(j,d)::putD r k y:=by
 unfold putD
 by_cases q:(r.any λkv=>decide (kv.1=k))=true
 ·rw [if_pos (by rw [List.any_cons,q];simp),if_pos q,List.map_cons,if_neg h]
 ·rw [if_neg (by rw [List.any_cons];simp only [h,decide_false,Bool.false_or];exact q),if_neg q];rfl
theorem map_none {k:κ} {y:D}:∀{r:List (κ × D)},k∉r.map (·.1)->(r.map λkv=>if kv.1=k then (kv.1,y) else kv)=r
 | [],_=>rfl
 | p::r,h=>by
  simp only [List.map_cons,List.mem_cons,not_or] at h
  rw [List.map_cons,if_neg (λz=>h.1 z.symm),map_none h.2]
theorem putD_hd {k:κ} {d y:D} {r:List (κ × D)} (h:k∉r.map (·.1)):putD ((k,d)::r) k y=(k,y)::r:=by
 unfold putD
 rw [if_pos (by rw [List.any_cons];simp),List.map_cons,if_pos rfl,map_none h]
end
section
variable {K:PySem.W.Frag} {H:Hp}
end
section
variable {X:Cx} {T:Tg} {m o m0 m1 m2 m3 o1 o2:Bool} {e a b:Expr} {w wa wb we:WE} {pos p2 p:Pos} {es:List Expr} {wr:WA} {x:Str} {wt:WT}
def keyOf:D->Option Key
 | .int i=>some (.inl i)
 | .str i=>some (.inr i)
 | _=>none
theorem Rep.key {K:PySem.W.Frag} {H:Hp} {d:D} {v:V} {F:List Addr} {k:Key} (r:Rep K H d v F) (h:keyOf d=some k):v=kV k:=by
 cases r <;> simp [keyOf] at h <;> subst h <;> rfl
end
end PV
namespace PV
open PySem PySem.Spec L2
section
variable {X:Cx} {T:Tg} {m o m0 m1 m2 m3 o1 o2:Bool} {e a b:Expr} {w wa wb we:WE} {pos p2 p:Pos} {es:List Expr} {wr:WA} {x:Str} {wt:WT}
abbrev tupI (k:List Int):D:=.tup (k.map .int)
theorem Reps.tups {K:PySem.W.Frag} {H:Hp}:∀{keys:List (List Int)} {ys:List V} {F:List Addr},Reps K H (keys.map tupI) ys F->F=[]/\∃as:List Addr,ys=as.map V.ref/\as.length=keys.length/\∀(i:Nat) k,keys[i]? = some k->∃a,as[i]? = some a/\H a=some (.tup (k.map V.int))
 | [],_,_,r=>by cases r;exact ⟨rfl,[],rfl,rfl,λi k h=>by simp at h⟩
 | k::keys,_,_,r=>by
  cases r with
  | cons p r =>
   obtain ⟨hF,as,h1,h2,h3⟩:=Reps.tups r
   cases p with
   | @tup a xs _ F e q =>
    obtain ⟨h4,h5⟩:=q.of_ints
    subst h4 h5 h1
    refine ⟨by rw [hF];rfl,a::as,rfl,by simp [h2],λi k' hk=>?_⟩
    cases i with
    | zero=>simp at hk;subst hk;exact ⟨a,rfl,e⟩
    | succ i=>simpa using h3 i k' (by simpa using hk)
def wAndV (wa wb:WE):WE:=λρ Q=>wa ρ λd ρ1=>match d with
 | .bl c=>if c=true then wb ρ1 Q else Q (.bl false) ρ1
 | _=>False
def wOrV (wa wb:WE):WE:=λρ Q=>wa ρ λd ρ1=>match d with
 | .bl c=>if c=true then Q (.bl true) ρ1 else wb ρ1 Q
 | _=>False
variable {rest:List Expr}
theorem Post.after {K:PySem.W.Frag} {z:Nat->V} {R:Addr->Prop} {H H1 H2:Hp} {W W1 W2:Addr->Prop} {σ:St} {ρ ρ1 ρ2:Env} {d1 d2:D} {v1 v2:V} {F1 F2:List Addr} (p:Post K T z R m1 o1 H W σ ρ H1 W1 ρ1 d1 v1 F1) (q:Post K T z R m2 o2 H1 W1 σ ρ1 H2 W2 ρ2 d2 v2 F2) :
  Post K T z R (m1 || m2) o2 H W σ ρ H2 W2 ρ2 d2 v2 F2:=⟨q.sr,p.fr.trans q.fr,p.calm2 q,q.rep,p.lastOwn q⟩
theorem ev_one {op} (h:EV X T m o a w):EV X T m o (.BoolOp op [a] pos) w:=by
 obtain ⟨t,pt,g⟩:=h
 exact ⟨t,pe_one pt,g⟩
theorem ev_and (ha:EV X T m1 o1 a wa) (hb:EV X T m2 true (.BoolOp .And (b::rest) pos) wb):EV X T (m1 || m2) true (.BoolOp .And (a::b::rest) pos) (wAndV wa wb):=by
 obtain ⟨ta,pa,ga⟩:=ha
 obtain ⟨tb,pb,gb⟩:=hb
 refine ⟨_,pe_and pa pb,λz R σ H W ρ Q Q' s hw k=>ga z R σ H W ρ _ _ s hw λv H1 W1 d ρ1 F p q=>?_⟩
 cases d with
 | bl c =>
  refine ⟨c,rep_bl p.rep,?_⟩
  cases c with
  | true=>exact gb z R σ H1 W1 ρ1 Q Q' p.sr q λv2 H2 W2 d2 ρ2 F2 q2 hq=>k v2 H2 W2 d2 ρ2 F2 (p.after q2) hq
  | false=>exact k _ H1 W1 (.bl false) ρ1 [] ⟨p.sr,p.fr,λh=>p.calm (Bool.or_eq_false_iff.mp h).1,.bl false,λ_=>⟨List.nodup_nil,λa m=>nomatch m⟩⟩ q
 | _=>exact q.elim
theorem ev_or (ha:EV X T m1 o1 a wa) (hb:EV X T m2 true (.BoolOp .Or (b::rest) pos) wb):EV X T (m1 || m2) true (.BoolOp .Or (a::b::rest) pos) (wOrV wa wb):=by
 obtain ⟨ta,pa,ga⟩:=ha
 obtain ⟨tb,pb,gb⟩:=hb
 refine ⟨_,pe_or pa pb,λz R σ H W ρ Q Q' s hw k=>ga z R σ H W ρ _ _ s hw λv H1 W1 d ρ1 F p q=>?_⟩
 cases d with
 | bl c =>
  refine ⟨c,rep_bl p.rep,?_⟩
  cases c with
  | false=>exact gb z R σ H1 W1 ρ1 Q Q' p.sr q λv2 H2 W2 d2 ρ2 F2 q2 hq=>k v2 H2 W2 d2 ρ2 F2 (p.after q2) hq
  | true=>exact k _ H1 W1 (.bl true) ρ1 [] ⟨p.sr,p.fr,λh=>p.calm (Bool.or_eq_false_iff.mp h).1,.bl true,λ_=>⟨List.nodup_nil,λa m=>nomatch m⟩⟩ q
 | _=>exact q.elim
def wNotV (wa:WE):WE:=λρ Q=>wa ρ λd ρ1=>match d with
 | .bl c=>Q (.bl (!c)) ρ1
 | _=>False
theorem ev_not (ha:EV X T m o a wa):EV X T m true (.UnaryOp .Not a pos) (wNotV wa):=by
 obtain ⟨ta,pa,ga⟩:=ha
 refine ⟨_,pe_not pa,λz R σ H W ρ Q Q' s hw k=>ga z R σ H W ρ _ _ s hw λv H1 W1 d ρ1 F p q=>?_⟩
 cases d with
 | bl c=>exact ⟨c,rep_bl p.rep,k _ H1 W1 (.bl (!c)) ρ1 [] (Post.flat p.sr p.fr p.calm (.bl _)) q⟩
 | _=>exact q.elim
end
end PV
namespace PV
open PySem PySem.Spec L2
theorem bt_sorted:bootBuiltins "sorted" = some (.builtin "sorted"):=by decide +kernel
theorem bt_isinstance:bootBuiltins "isinstance" = some (.builtin "isinstance"):=by decide +kernel
theorem bt_abs:bootBuiltins "abs" = some (.builtin "abs"):=by decide +kernel
theorem bt_len:bootBuiltins "len" = some (.builtin "len"):=by decide +kernel
theorem bt_int:bootBuiltins "int" = some (.type "int"):=by decide +kernel
theorem bt_bool:bootBuiltins "bool" = some (.type "bool"):=by decide +kernel
theorem bt_list:bootBuiltins "list" = some (.type "list"):=by decide +kernel
theorem bt_tuple:bootBuiltins "tuple" = some (.type "tuple"):=by decide +kernel
def wLift (w:WE):WE:=λρ Q=>w ρ λd ρ'=>d.pure=true/\Q d ρ'
def Cal (P:Program) (w:World) (K:PySem.W.Frag) (mg:Str->Option Value) (base:Heap) (x:Str) (k:Nat) (ps:List Str) (sp:Sp):Prop :=
 ∃f fd,FnOk P w K mg base CX0 k f fd ps sp/\mg x=some (.ref f)/\PySem.W.keepIn K (.ref f)=true/\Binds K fd ps []
section
variable {X:Cx} {T:Tg} {m o m0 m1 m2 m3 o1 o2:Bool} {e a b:Expr} {w wa wb we:WE} {pos p2 p:Pos} {es:List Expr} {wr:WA} {x:Str} {wt:WT} {k j:Nat} {ps:List Str}
theorem ev_lift (h:EV X T m o e w):EV X T m true e (wLift w):=h.lift
theorem ev_callC {g:GA} (C:Cal X.prog X.w X.K X.mg X.base x k ps (spR X.K g)) (hr:Room k X.A) (ha:AV X T m o (e::es) wr) (hg:Gl X x:=by rfl)
  (hdb:(x == ("__debug__" : Str))=false:=by decide) (he:starEach (e::es) X.env=(false,eval e X.env)::starEach es X.env:=by rfl) (hpl:(backTo pos (starEach es X.env)).any (·.1)=false:=by rfl) :
  EV X T m true (.Call (.Name x p) (e::es) [] pos) (wCall g wr):=by
 obtain ⟨f,fd,F,h1,h2,h3⟩:=C
 exact ev_call F hr h1 h2 h3 ha hg hdb he hpl
def nonD:D->Bool
 | .non=>true
 | _=>false
def nonB (b:D) (k:Prop):Prop:=match b with
 | .non=>k
 | _=>False
def dIs (neg:Bool):G2:=λa b k=>nonB b (k (.bl (xor (nonD a) neg)))
theorem od_isnot:OpD X (compareOp .IsNot) (dIs true):=by
 refine ⟨_,op_notN,λH a b x y F1 F2 k Q ra rb g q=>?_⟩
 cases rb <;> first | (exact (show False from g).elim) | (refine ⟨rfl,?_⟩;cases ra <;> first | exact q _ _ _ _ (.flat (.bl _)) g | (rename_i h;cases h <;> exact q _ _ _ _ (.flat (.bl _)) g))
def compB (sc scope:Scope) (N:List Str) (x:Str) (ix:List Nat):Bool :=
 (scope.kind == .function) && scope.names.all (λy=>y.2 != .cell) && scope.names.all (λy=>y.2 != .local || scope.names.lookup y.1 == some .local) && (scope.names.lookup x == some .local) &&
  scope.names.all (λy=>y.2 != .free || (sc.names.lookup y.1 == some .cell || sc.names.lookup y.1 == some .free)) &&
  ix.all (λi=>match N[i]? with | some y=>scope.names.lookup y == some .free | none=>false) && decide (bN N x ix).Nodup
structure CompB (X:Cx) (scope:Scope) (x:Str) (ix:List Nat):Prop where
 B:BlkScope X.env scope x
 hix:∀i∈ix,∃y,X.N[i]? = some y/\scope.names.lookup y=some .free
 hN:(bN X.N x ix).Nodup
theorem compB_mk {scope:Scope} {ix:List Nat} (sc:Scope) (N:List Str) (h:compB sc scope N x ix=true) (h1:X.env.scope=sc:=by rfl) (h2:X.N=N:=by rfl):CompB X scope x ix:=by
 subst h1 h2
 simp only [compB,Bool.and_eq_true,List.all_eq_true,Bool.or_eq_true,decide_eq_true_eq,beq_iff_eq,bne_iff_ne] at h
 obtain ⟨⟨⟨⟨⟨⟨a1,a2⟩,a3⟩,a4⟩,a5⟩,a6⟩,a7⟩:=h
 refine ⟨⟨a1,a2,λy hy e=>(a3 y hy).resolve_left (λz=>z e),a4,λy hy e=>(a5 y hy).resolve_left (λz=>z e)⟩,λi hi=>?_,a7⟩
 have:=a6 i hi
 cases q:X.N[i]? with
 | none=>rw [q] at this;cases this
 | some y =>
  rw [q] at this
  exact ⟨y,rfl,by simpa using this⟩
theorem ev_compB {elt iter:Expr} {px:Pos} {scope:Scope} {ifs:List Expr} {ix:List Nat} (h:CompOk X T m elt iter x px scope ifs ix w) (B:CompB X scope x ix) (hc:X.calm=true:=by rfl)
  (hs:∀x,foldedSetIterable iter X.env x=pure x:=by intro _;rfl):EV X T m true (.ListComp elt [⟨.Name x px,iter,ifs,0⟩] scope pos) w:=ev_comp h B.B B.hix B.hN hc hs
end
end PV
namespace PV
open PySem PySem.Spec L2
section
variable {X:Cx} {T:Tg} {m o m0 m1 m2 m3 o1 o2:Bool} {e a b:Expr} {w wa wb we:WE} {pos p2 p:Pos} {es:List Expr} {wr:WA} {x y:Str} {wt:WT} {ws:WS}
def wGet2 (wd wk wx:WE):WE:=λρ Q=>wd ρ λd ρ1=>noDct d=false/\wk ρ1 λk ρ2=>wx ρ2 λx ρ3=>x.pure=true/\dGet2 d k x λr=>r.pure=true/\Q r ρ3
where noDct:D->Bool
 | .dik _=>false
 | .dit _=>false
 | _=>true
theorem Rep.isD {K:PySem.W.Frag} {H:Hp} {d:D} {v:V} {F:List Addr} (r:Rep K H d v F) (h:wGet2.noDct d=false):∃a,v=.ref a/\IsD H a:=by
 cases r with
 | dik e _=>exact ⟨_,rfl,.inl ⟨_,.of e⟩⟩
 | dit e _=>exact ⟨_,rfl,.inr ⟨_,.of e⟩⟩
 | _=>cases h
theorem ev_get2 {oe ek ex:Expr} {wd wk wx:WE} {apos cpos:Pos} (hu:X.A.units+1<cLine) (hd:EV X T false o1 oe wd) (hk:EV X T false o2 ek wk) (hx:EV X T false o ex wx)
  (m:M2 X oe "get" apos ek ex cpos:=by exact ⟨rfl,rfl,rfl,rfl⟩):EV X T false true (.Call (.Attribute oe "get" apos) [ek,ex] [] cpos) (wGet2 wd wk wx):=by
 obtain ⟨td,pd,gd⟩:=hd
 obtain ⟨tk,pk,gk⟩:=hk
 obtain ⟨tx,px,gx⟩:=hx
 refine ⟨_,pe_dget2 hu pd pk px m,λz R σ H W ρ Q Q' s hw k=>?_⟩
 refine gd z R σ H W ρ _ _ s hw λv H1 W1 d ρ1 F p ⟨hn,q⟩=>?_
 obtain ⟨sm1,rfl,rfl⟩:=p.calm rfl
 obtain ⟨ad,rfl,isd⟩:=p.rep.isD hn
 refine ⟨ad,rfl,isd,gk z R σ H1 W1 ρ1 _ _ p.sr q λvk H2 W2 kd ρ2 F2 p2 q2=>?_⟩
 obtain ⟨sm2,rfl,rfl⟩:=p2.calm rfl
 refine gx z R σ H2 W2 ρ2 _ _ p2.sr q2 λvx H3 W3 xd ρ3 F3 p3 q3=>?_
 obtain ⟨sm3,rfl,rfl⟩:=p3.calm rfl
 obtain ⟨hxp,q⟩:=q3
 obtain ⟨-,rx⟩:=p3.rep.pure hxp
 have rd:=(p.rep.same sm2).same sm3
 have rk:=p2.rep.same sm3
 have fin:∀(o':Option V) (od:Option D),((od=none/\o'=none)\/∃d v B,od=some d/\o'=some v/\Rep X.K H3 d v B)->((od.getD xd).pure=true/\Q (od.getD xd) ρ3)->Q' (o'.getD vx) H3:=λo' od hh ⟨hp,hq⟩=>by
  have sm:Same H H3:=(sm1.trans sm2).trans sm3
  rcases hh with ⟨rfl,rfl⟩ | ⟨dd,v,B,rfl,rfl,r⟩
  ·exact k _ H3 W3 _ ρ3 [] (Post.flat p3.sr (FrW.same W3 sm) (λ_=>⟨sm,rfl,rfl⟩) rx) hq
  ·obtain ⟨-,r⟩:=r.pure hp
   exact k _ H3 W3 _ ρ3 [] (Post.flat p3.sr (FrW.same W3 sm) (λ_=>⟨sm,rfl,rfl⟩) r) hq
 cases rd with
 | @dik a kvs ds G e r =>
  cases kd with
  | int i =>
   have:=rep_int rk;subst this
   refine ⟨valV kvs (.inl i),DGet.k (k:=.inl i) e,fin _ (valD ds (.inl i)) ?_ q⟩
   rcases r.val (.inl i) with h | ⟨d,v,B,h1,h2,h3,_⟩
   ·exact .inl h
   ·exact .inr ⟨d,v,B,h1,h2,h3⟩
  | str i =>
   have:vk=.str i:=by cases rk;rfl
   subst this
   refine ⟨valV kvs (.inr i),DGet.k (k:=.inr i) e,fin _ (valD ds (.inr i)) ?_ q⟩
   rcases r.val (.inr i) with h | ⟨d,v,B,h1,h2,h3,_⟩
   ·exact .inl h
   ·exact .inr ⟨d,v,B,h1,h2,h3⟩
  | _=>exact (show False from q).elim
 | @dit a kvs ds G e r =>
  cases kd with
  | tup l =>
   obtain ⟨ks,hks,q⟩:=oget_some q
   cases rk with
   | @tup b xs _ _ eb rb =>
    have hx:=rb.keys hks
    subst hx
    refine ⟨valV kvs ks,DGet.t (k:=ks) e eb,fin _ (valD ds ks) ?_ q⟩
    rcases r.val ks with h | ⟨d,v,B,h1,h2,h3,_⟩
    ·exact .inl h
    ·exact .inr ⟨d,v,B,h1,h2,h3⟩
  | _=>exact (show False from q).elim
 | _=>cases hn
end
end PV
namespace PV
open PySem PySem.Spec L2
section
variable {X:Cx} {T:Tg} {m o m0 m1 m2 m3 o1 o2:Bool} {e a b:Expr} {w wa wb we:WE} {pos p2 p:Pos} {es:List Expr} {wr:WA} {x y:Str} {wt:WT} {ws:WS}
end
end PV
namespace PV
open PySem PySem.Spec L2
open PySem.W (Dat kqdP kqdPs kqdOk)
section
variable {X:Cx}
end
end PV
namespace PV
open PySem PySem.Spec L2
section
variable {X:Cx} {T:Tg} {m o m0 m1 m2 m3 o1 o2:Bool} {e a b:Expr} {w wa wb we:WE} {pos p2 p:Pos} {es:List Expr} {wr:WA} {x y:Str} {wt:WT} {ws:WS}
def dAddT:G2
 | .int i,.int j,k=>k (.int (i+j))
 | .str x,.str y,k=>x.length+y.length<=sizeLine/\k (.str (x++y))
 | .tup xs,.tup ys,k=>pureL xs=true/\pureL ys=true/\xs.length+ys.length<=sizeLine/\k (.tup (xs++ys))
 | .lst xs,.lst ys,k=>pureL xs=true/\pureL ys=true/\xs.length+ys.length<=sizeLine/\k (.lst (xs++ys))
 | _,_,_=>False
theorem addT_inv {a b:D} {k:D->Prop} (g:dAddT a b k):(∃i j,a=.int i/\b=.int j)\/(∃i j,a=.str i/\b=.str j)\/(∃i j,a=.lst i/\b=.lst j)\/∃i j,a=.tup i/\b=.tup j:=by
 cases a with
 | int i=>cases b with
  | int j=>exact .inl ⟨i,j,rfl,rfl⟩
  | _=>exact (show False from g).elim
 | str i=>cases b with
  | str j=>exact .inr (.inl ⟨i,j,rfl,rfl⟩)
  | _=>exact (show False from g).elim
 | lst i=>cases b with
  | lst j=>exact .inr (.inr (.inl ⟨i,j,rfl,rfl⟩))
  | _=>exact (show False from g).elim
 | tup i=>cases b with
  | tup j=>exact .inr (.inr (.inr ⟨i,j,rfl,rfl⟩))
  | _=>cases i <;> exact (show False from g).elim
 | _=>exact (show False from g).elim
theorem od_addT:OpD X (binaryOp .Add) dAddT:=by
 obtain ⟨r0,o0,g0⟩:=od_add (X:=X)
 refine ⟨_,OpR.or op_cat0 o0,λH a b x y F1 F2 k Q ra rb g q=>?_⟩
 rcases addT_inv g with ⟨i,j,rfl,rfl⟩ | ⟨i,j,rfl,rfl⟩ | ⟨i,j,rfl,rfl⟩ | ⟨i,ys,rfl,rfl⟩
 ·exact .inr (g0 H _ _ x y F1 F2 k Q ra rb g q)
 ·exact .inr (g0 H _ _ x y F1 F2 k Q ra rb g q)
 ·exact .inr (g0 H _ _ x y F1 F2 k Q ra rb g q)
 ·cases i with
  | nil =>
   cases ra with
   | @tup p _ _ _ e1 r1 =>
    cases r1
    cases rb with
    | @tup p' us _ _ e2 r2=>exact .inl ⟨p,p',us,rfl,rfl,.of e1,.of e2,q _ _ _ _ (.flat (.tup e2 (r2.pure g.2.1).2)) g.2.2.2⟩
  | cons d xs=>exact .inr (g0 H _ _ x y F1 F2 k Q ra rb ⟨g.1,g.2.1,by simp,g.2.2⟩ q)
def dSlT:D->Option Int->Option Int->(D->Prop)->Prop
 | .lst xs,lo,hi,k=>pureL xs=true/\k (.lst (cutD xs lo hi))
 | .kls xs,lo,hi,k=>pureL xs=true/\k (.lst (cutD xs lo hi))
 | .tup xs,lo,hi,k=>pureL xs=true/\k (.tup (cutD xs lo hi))
 | _,_,_,_=>False
theorem slT_inv {d:D} {lo hi:Option Int} {k:D->Prop} (g:dSlT d lo hi k):(∃ds,d=.lst ds)\/(∃ds,d=.kls ds)\/∃ds,d=.tup ds:=by
 cases d with
 | lst ds=>exact .inl ⟨ds,rfl⟩
 | kls ds=>exact .inr (.inl ⟨ds,rfl⟩)
 | tup ds=>exact .inr (.inr ⟨ds,rfl⟩)
 | _=>exact (show False from g).elim
theorem sl_anyT:SlR X (λx lo hi H Q=>(rSlL X.K x lo hi H Q\/rSlT X.K x lo hi H Q)\/rSlW X.K x lo hi H Q):=SlR.or sl_any sl_tupW
def wSlT (w:WE) (wl wh:WO):WE:=λρ Q=>w ρ λd ρ1=>wl ρ1 λlo ρ2=>wh ρ2 λhi ρ3=>dSlT d lo hi λd'=>Q d' ρ3
theorem cut_whole {xs:List D} {lo hi:Option Int} (h:HT.sIx xs.length 0 lo=0/\HT.sIx xs.length xs.length hi=xs.length):cutD xs lo hi=xs:=by
 unfold cutD
 rw [h.1,h.2]
 simp
theorem ev_slT {lo hi:Option Expr} {wl wh:WO} (he:EV X T m1 o1 e w) (hl:OV X T m2 lo wl) (hh:OV X T m3 hi wh) (hc:o1=true\/(m2 || m3)=false:=by first | exact .inl rfl | exact .inr rfl) :
  EV X T (m1 || (m2 || m3)) true (.Subscript e (.Slice lo hi none p2) pos) (wSlT w wl wh):=by
 obtain ⟨te,pe,ge⟩:=he
 obtain ⟨tl,pl,gl⟩:=hl
 obtain ⟨th,ph,gh⟩:=hh
 refine ⟨_,pe_slice sl_anyT pe pl ph,λz R σ H W ρ Q Q' s hw k=>?_⟩
 refine ge z R σ H W ρ _ _ s hw λv H1 W1 d ρ1 F p q=>?_
 refine gl z R σ H1 W1 ρ1 _ _ p.sr q λlo H2 W2 ρ2 p2 q2=>?_
 refine gh z R σ H2 W2 ρ2 _ _ p2.sr q2 λhi H3 W3 ρ3 p3 q3=>?_
 have pp:=p2.seq p3
 have r3:Rep X.K H3 d v F:=by
  rcases hc with hc | hc
  ·exact p.rep.keep pp.fr λa h=>((p.own hc).2 a h).2
  ·exact p.rep.same (pp.calm hc).1
 have fin:∀ad d' v' Fn,Fin X.K H3 ad d' v' Fn->Q d' ρ3->Q' v' ad:=λH' d' v' F' fi hq=>by
  refine k v' H' W3 d' ρ3 F' (Post.fin p3.sr (p.fr.trans pp.fr) (λh=>?_) fi.same fi.rep fi.nd fi.new) hq
  rw [Bool.or_eq_false_iff] at h
  obtain ⟨a1,a2,a3⟩:=p.calm h.1
  obtain ⟨b1,b2,b3⟩:=pp.calm h.2
  exact ⟨a1.trans b1,b2.trans a2,b3.trans a3⟩
 have q4:dSlT d lo hi λd'=>Q d' ρ3:=q3
 clear q3
 rcases slT_inv q4 with ⟨ds,rfl⟩ | ⟨ds,rfl⟩ | ⟨ds,rfl⟩
 ·have q3:=q4
  cases r3 with
  | @lst a xs _ F e1 r9 =>
   obtain ⟨hp,hq⟩:=q3
   obtain ⟨_,r9⟩:=r9.pure hp
   exact .inl (.inl ⟨a,xs,rfl,.of e1,λl hl=>fin _ _ _ [l] ⟨same_upd hl,.lst upd_same (r9.cut.same (same_upd hl)),by simp,λb m=>by rw [List.mem_singleton.mp m];exact hl⟩ hq⟩)
 ·have q3:=q4
  cases r3 with
  | @kls a xs _ e1 r9 =>
   obtain ⟨hp,hq⟩:=q3
   exact .inl (.inl ⟨a,xs,rfl,e1.sq,λl hl=>fin _ _ _ [l] ⟨same_upd hl,.lst upd_same (r9.cut.same (same_upd hl)),by simp,λb m=>by rw [List.mem_singleton.mp m];exact hl⟩ hq⟩)
 ·have q3:=q4
  cases r3 with
  | @tup a xs _ F e1 r9 =>
   obtain ⟨hp,hq⟩:=q3
   obtain ⟨_,r9⟩:=r9.pure hp
   by_cases hn:HT.sIx ds.length 0 lo=0/\HT.sIx ds.length ds.length hi=ds.length
   ·rw [cut_whole hn] at hq
    exact .inr ⟨a,xs,rfl,.of e1,by rw [r9.length];exact hn,fin _ _ _ [] (.flat (.tup e1 r9)) hq⟩
   ·exact .inl (.inr ⟨a,xs,rfl,.of e1,by rw [r9.length];exact hn,λl hl=>fin _ _ _ [] ⟨same_upd hl,.tup upd_same (r9.cut.same (same_upd hl)),by simp,λb m=>nomatch m⟩ hq⟩)
end
end PV
namespace PV
open PySem PySem.Spec L2
section
variable {κ:Type} [DecidableEq κ]
end
section
variable {K:PySem.W.Frag} {H:Hp}
end
section
variable {X:Cx} {T:Tg} {m o m0 m1 m2 m3 o1 o2:Bool} {e a b:Expr} {w wa wb we:WE} {pos p2 p:Pos} {es:List Expr} {wr:WA} {x y:Str} {wt:WT} {ws:WS}
end
end PV
namespace PV
open PySem PySem.Spec L2
section
variable {X:Cx} {T:Tg} {m o m0 m1 m2 m3 o1 o2:Bool} {e a b:Expr} {w wa wb we:WE} {pos p2 p:Pos} {es:List Expr} {wr:WA} {x y:Str} {wt:WT} {ws:WS}
end
end PV
namespace PV
open PySem PySem.Spec L2
section
variable {X:Cx} {T:Tg} {m o m0 m1 m2 m3 o1 o2:Bool} {e a b:Expr} {w wa wb we:WE} {pos p2 p:Pos} {es:List Expr} {wr:WA} {x y:Str} {wt:WT} {ws:WS}
end
end PV
namespace PV
open PySem PySem.Spec L2
section
variable {X:Cx} {T:Tg} {m o m0 m1 m2 m3 o1 o2:Bool} {e a b:Expr} {w wa wb we:WE} {pos p2 p:Pos} {es:List Expr} {wr:WA} {x y:Str} {wt:WT} {ws:WS}
end
end PV
namespace PV
open PySem PySem.Spec L2
section
variable {X:Cx} {T:Tg} {m o:Bool}
end
end PV
namespace PV
open PySem PySem.Spec L2
section
variable {X:Cx} {T:Tg} {m o m0 m1 m2 m3 o1 o2:Bool} {e a b:Expr} {w wa wb we:WE} {pos p2 p:Pos} {es:List Expr} {wr:WA} {x y:Str} {wt:WT} {ws:WS}
end
end PV
namespace PV
open PySem PySem.Spec L2
section
variable {X:Cx} {T:Tg} {m o m0 m1 m2 m3 me o1 o2:Bool} {e a b:Expr} {w wa wb we:WE} {pos p2 p:Pos} {es:List Expr} {wr:WA} {x y:Str} {wt:WT} {ws:WS}
end
end PV
namespace PV
open PySem PySem.Spec L2
open PyProof.Rows (envOfC)
section
variable {X:Cx} {T:Tg} {m o m0 m1 m2 m3 o1 o2:Bool} {e a b:Expr} {w wa wb we:WE} {pos p2 p:Pos} {es:List Expr} {wr:WA} {x y:Str} {wt:WT} {ws:WS} {k:Nat} {ps:List Str}
end
section
variable {K:PySem.W.Frag} {x:Str} {qual:Str} {st:Stmt} {f:Addr} {fd:FuncData} {N ps:List Str} {T:Tg} {P:Program} {w:World} {mg:Str->Option Value} {base:Heap} {k:Nat} {ww:WS}
end
end PV
namespace L2
open PySem PySem.Spec PyProof.Rows
section
variable {X:Cx} {es:List Expr} {t:TA} {pos:Pos}
def tLstF (t:TA):TE:=λσ H Q=>t σ H λxs H1=>xs.length<=sizeLine/\∀p o,H1 p=none->Q (.ref p) (upd H1 p (.frz o (.lst xs)))
theorem pe_lstF (h:PA X es t):PE X (.List es pos) (tLstF t):=by
 intro pins s σ H Q I hq
 refine wpAny_List_spliced (thn (h pos pins s σ H _ I hq) λus s1 ⟨xs,H1,I1,r,z,q⟩=>⟨by rw [← r.length];exact z,?_⟩)
 have hf:H1 s1.heap.objs.size=none:=I1.hok.fresh (Nat.le_refl _)
 refine ⟨.ref s1.heap.objs.size,upd H1 s1.heap.objs.size (.frz { cls:=.type "list",data:=.seq us.toArray } (.lst xs)),I1.laid (t':=s1.toks) (λb u e=>Heap.get?_push_of_some _ e) (Nat.le_refl _) ?_,rfl,q _ _ hf⟩
 exact ⟨Heap.get?_push_size _ rfl,z,us,0,r,Heap.get?_push_size _ rfl⟩
end
end L2
namespace PV
open PySem PySem.Spec L2
section
variable {X:Cx} {T:Tg} {m o m0 m1 m2 m3 me o1 o2:Bool} {e a b:Expr} {w wa wb we:WE} {pos p2 p:Pos} {es:List Expr} {wr:WA} {x y:Str} {wt:WT} {ws:WS}
def dAll:GA
 | [.lst ds],k=>∃bs:List Bool,ds=bs.map D.bl/\k (.bl (bs.all id))
 | _,_=>False
def wLstF (wr:WA):WE:=λρ Q=>wr ρ λds ρ'=>pureL ds=true/\ds.length<=sizeLine/\Q (.fls ds) ρ'
theorem ev_lstF (h:AV X T m o es wr):EV X T m true (.List es pos) (wLstF wr):=by
 obtain ⟨ta,pa,ga⟩:=h
 refine ⟨_,pe_lstF pa,λz R σ H W ρ Q Q' s hw k=>?_⟩
 refine ga z R σ H W ρ _ _ s hw λvs H1 W1 ds ρ1 F p q=>?_
 obtain ⟨hp,hz,q⟩:=q
 obtain ⟨-,r⟩:=p.rep.pure hp
 exact ⟨by rw [p.rep.length];exact hz,λa ob ha=>k _ _ W1 (.fls ds) ρ1 [] (Post.fin p.sr p.fr p.calm (same_upd ha) (.fls upd_same (r.same (same_upd ha))) List.nodup_nil (λb m=>nomatch m)) q⟩
def blkE2 (ρ:Env) (d1 d2:D) (ix:List Nat):Env:=some d1::some d2::ix.map (look ρ)
def two2 (d:D) (k:D->D->Prop):Prop:=match d with
 | .tup [a,b]=>k a b
 | .kc (.tup [a,b])=>k (kcD a) (kcD b)
 | _=>False
theorem two2_rep {K:PySem.W.Frag} {H:Hp} {d:D} {v:V} {F:List Addr} {k:D->D->Prop} (r:Rep K H d v F) (q:two2 d k):∃av v1 v2 d1 d2 F1 F2,v=.ref av/\SqT K H av [v1,v2]/\Rep K H d1 v1 F1/\Rep K H d2 v2 F2/\k d1 d2:=by
 cases r with
 | @tup a xs ds F e r =>
  match ds,r,q with
  | [d1,d2],r,q =>
   obtain ⟨v1,v2,F1,F2,rfl,r1,r2⟩:=r.at2
   exact ⟨a,v1,v2,d1,d2,F1,F2,rfl,.of e,r1,r2,q⟩
 | @kc c v h =>
  match c,h,q with
  | .tup [d1,d2],h,q =>
   obtain ⟨a,xs,rfl,hs,ar⟩:=h.sqT
   have r:Reps K H [kcD d1,kcD d2] xs []:=ar.reps
   obtain ⟨v1,v2,F1,F2,rfl,r1,r2⟩:=r.at2
   exact ⟨a,v1,v2,kcD d1,kcD d2,F1,F2,rfl,hs H,r1,r2,q⟩
 | _=>exact (show False from q).elim
def compI2 (ds:List D) (wt:WT) (we:WE) (ρ1:Env) (ix:List Nat) (Q:D->Env->Prop):Prop:=∃I:Nat->List D->Prop,I 0 [] /\
 (∀i d ys,ds[i]? = some d->I i ys->ys.length<sizeLine/\two2 d λd1 d2=>wt (blkE2 ρ1 d1 d2 ix) λb _=>if b=true then we (blkE2 ρ1 d1 d2 ix) (λy _=>I (i+1) (ys++[y])) else I (i+1) ys) /\
 ∀ys,I ds.length ys->ys.length<=sizeLine/\Q (.lst ys) ρ1
def wComp2 (wl:WL) (wt:WT) (we:WE) (ix:List Nat):WE:=λρ Q=>wl ρ λds ρ1=>compI2 ds wt we ρ1 ix Q
def CompOk2 (X:Cx) (T:Tg) (m:Bool) (elt iter tg:Expr) (ts:List Str) (gt:TG) (scope:Scope) (ifs:List Expr) (ix:List Nat) (w:WE):Prop :=
 ∃(wi:TI) (tt:TT) (te:TE),PI X tg iter wi/\(∀cl C s₀ H₀ fp,PIfs (cxBlk X scope cl C (bN2 X.N ts ix) s₀ H₀ fp) ifs tt)/\(∀cl C s₀ H₀ fp,PE (cxBlk X scope cl C (bN2 X.N ts ix) s₀ H₀ fp) elt te) /\
  ∀(z:Nat->V) (R:Addr->Prop) (σ:St) (H:Hp) (W:Addr->Prop) (ρ:Env) (Q:D->Env->Prop) (Q':VK),SR X.K T z R H W σ ρ->w ρ Q ->
   (∀v H' W' d ρ' F,Post X.K T z R m true H W σ ρ H' W' ρ' d v F->Q d ρ'->Q' v H')->tComp2 ts wi gt tt te ix σ H Q'
def g2 (K:PySem.W.Frag):TG:=gTup K 2 (gCons (gName 0) (gCons (gName 1) gNil))
theorem comp_ok2 {elt iter:Expr} {px py pt:Pos} {kt:Nat} {scope:Scope} {ifs:List Expr} {wl:WL} {pr:Bool} (ix:List Nat) (hi:IV X T m pr (.Tuple [.Name x px,.Name y py] kt pt) iter wl)
  (ht:∀cl C s₀ H₀ fp,CV (cxBlk X scope cl C (bN2 X.N [x,y] ix) s₀ H₀ fp) ifs wt) (he:∀cl C s₀ H₀ fp,EV (cxBlk X scope cl C (bN2 X.N [x,y] ix) s₀ H₀ fp) TR false true elt we) :
  CompOk2 X T m elt iter (.Tuple [.Name x px,.Name y py] kt pt) [x,y] (g2 X.K) scope ifs ix (wComp2 wl wt we ix):=by
 obtain ⟨wi,pi,gi⟩:=hi
 refine ⟨wi,λσ H Q=>∀cl C s₀ H₀ fp,Classical.choose (ht cl C s₀ H₀ fp) σ H Q,λσ H Q=>∀cl C s₀ H₀ fp,Classical.choose (he cl C s₀ H₀ fp) σ H Q,pi,
  λcl C s₀ H₀ fp pins s σ H Q I h=>(Classical.choose_spec (ht cl C s₀ H₀ fp)).1 pins s σ H Q I (h cl C s₀ H₀ fp),λcl C s₀ H₀ fp pins s σ H Q I h=>(Classical.choose_spec (he cl C s₀ H₀ fp)).1 pins s σ H Q I (h cl C s₀ H₀ fp),?_⟩
 intro z R σ H W ρ Q Q' s hw k
 refine gi z R σ H W ρ _ _ s hw λJ H1 W1 ds ρ1 p jd q=>?_
 obtain ⟨I,h0,hI,hd⟩:=q
 refine ⟨λi n ys H2=>n=ds.length-i/\i<=ds.length/\Same H1 H2/\∃es F,Reps X.K H2 es ys F/\F.Nodup/\(∀a∈F,H1 a=none)/\I i es,ds.length,⟨by simp,Nat.zero_le _,Same.refl _,[],[],.nil,List.nodup_nil,(λa m=>(nomatch m)),h0⟩,?_⟩
 rintro i n ys H2 ⟨rfl,hi,sm,es,F,re,nd,nw,i2⟩
 obtain ⟨j1,j2⟩:=jd i H2 (wz pr W1) (FrW.same _ sm)
 by_cases hlt:i<ds.length
 ·have hdi:ds[i]? = some ds[i]:=List.getElem?_eq_getElem hlt
  obtain ⟨hgo,hy⟩:=j2 _ hdi
  obtain ⟨hz,q1⟩:=hI i _ es hdi i2
  refine .inr ⟨hgo,by rw [re.length];exact hz,λv H3 yl o ol=>?_⟩
  obtain ⟨sm3,Fv,rv,_⟩:=hy v H3 yl
  generalize ds[i]=dd at q1 rv
  obtain ⟨av,v1,v2,d1,d2,F1,F2,rfl,ev,r1,r2,q1⟩:=two2_rep rv q1
  ··refine ⟨av,[v1,v2],rfl,ev,rfl,v1,[v2],rfl,v2,[],rfl,rfl,[some v1,some v2],?_,rfl,?_⟩
    ·match o,ol with
     | [o1,o2],_=>rfl
    have srB:∀z',SR X.K TR z' (Any H3) H3 (λ_=>False) (((bS2 σ o ix).set 0 (some v1)).set 1 (some v2)) (blkE2 ρ1 d1 d2 ix):=λz'=>by
     have eS:((bS2 σ o ix).set 0 (some v1)).set 1 (some v2)=bS2 σ [some v1,some v2] ix:=by
      match o,ol with
      | [o1,o2],_=>rfl
     rw [eS]
     refine SR.readonly rfl (by simp [bS2,blkE2]) λj d hj=>⟨rfl,?_⟩
     match j with
     | 0 =>
      simp only [blkE2,look,Option.some.injEq] at hj
      subst hj
      exact ⟨v1,F1,rfl,r1⟩
     | 1 =>
      simp only [blkE2,look,Option.some.injEq] at hj
      subst hj
      exact ⟨v2,F2,rfl,r2⟩
     | j+2 =>
      have hj':look (ix.map (look ρ1)) j=some d:=hj
      rw [look_map] at hj'
      cases hx:ix[j]? with
      | none=>rw [hx] at hj';cases hj'
      | some q =>
       rw [hx] at hj'
       obtain ⟨fp,s1⟩:=(p.sr.same sm).same sm3
       obtain ⟨u,hu,ru⟩:=s1.at_ q d hj'
       refine ⟨u,fp q,?_,ru⟩
       show (ix.map λi=>(σ[i]?).getD none)[j]? = some (some u)
       rw [List.getElem?_map,hx]
       simp [hu]
    intro cl C s₀ H₀ fp
    refine (Classical.choose_spec (ht cl C s₀ H₀ fp)).2 (λ_=>.non) (Any H3) _ H3 (λ_=>False) (blkE2 ρ1 d1 d2 ix) _ _ (srB _) q1 λbb H4 W4 ρ4 p4 q4=>?_
    obtain ⟨sm4,hW4,hρ4⟩:=p4.calm rfl
    have re4:=((re.same sm3).same sm4)
    cases bb with
    | false=>exact ⟨ds.length-(i+1),by omega,rfl,hlt,(sm.trans sm3).trans sm4,es,F,re4,nd,nw,q4⟩
    | true =>
     show if true=true then _ else _
     rw [if_pos rfl]
     intro cl C s₀ H₀ fp
     refine (Classical.choose_spec (he cl C s₀ H₀ fp)).2 (λ_=>.non) (Any H3) _ H4 W4 (blkE2 ρ1 d1 d2 ix) _ _ (hρ4 ▸ p4.sr) (by simpa using q4) λu H5 W5 y ρ5 Fy p5 q5=>?_
     obtain ⟨sm5,_,_⟩:=p5.calm rfl
     obtain ⟨ny,ky⟩:=p5.own rfl
     have sm15:Same H1 H5:=((sm.trans sm3).trans sm4).trans sm5
     refine ⟨ds.length-(i+1),by omega,rfl,hlt,sm15,es++[y],F++Fy,(re4.same sm5).snoc p5.rep,nodup_ins nd ny λa ha hf=>?_,λa ha=>?_,q5⟩
     ·obtain ⟨ob,e1,_⟩:=re4.dom a hf
      rw [(ky a ha).1] at e1;cases e1
     ·rcases List.mem_append.mp ha with ha | ha
      ·exact nw a ha
      ·exact ((sm.trans sm3).trans sm4).free (ky a ha).1
 ·have e:i=ds.length:=by omega
  subst e
  obtain ⟨hz,q1⟩:=hd es i2
  refine .inl ⟨j1 (Nat.le_refl _),by rw [re.length];exact hz,λl hl=>?_⟩
  have hl1:H1 l=none:=sm.free hl
  refine k _ _ W1 (.lst es) ρ1 (l::F) ⟨(p.sr.same sm).same (same_upd hl),(p.fr.trans (FrW.same W1 sm)).trans (FrW.same W1 (same_upd hl)),λh=>⟨((p.calm h).1.trans sm).trans (same_upd hl),(p.calm h).2⟩,.lst upd_same (re.same (same_upd hl)),λ_=>⟨List.nodup_cons.mpr ⟨λh=>?_,nd⟩,λb hb=>?_⟩⟩ q1
  ·obtain ⟨ob,e1,_⟩:=re.dom l h
   rw [hl] at e1;cases e1
  ·rcases List.mem_cons.mp hb with rfl | hb
   ·exact ⟨p.fr.dom _ hl1,p.sr.nw hl1⟩
   ·exact ⟨p.fr.dom _ (nw b hb),p.sr.nw (nw b hb)⟩
structure CompB2 (X:Cx) (scope:Scope) (x y:Str) (ix:List Nat):Prop where
 B1:CompB X scope x ix
 B2:CompB X scope y ix
 nd:(bN2 X.N [x,y] ix).Nodup
theorem compB2_mk {scope:Scope} {ix:List Nat} (sc:Scope) (N:List Str) (h:(compB sc scope N x ix && compB sc scope N y ix && decide (bN2 N [x,y] ix).Nodup)=true) (h1:X.env.scope=sc:=by rfl) (h2:X.N=N:=by rfl):CompB2 X scope x y ix:=by
 simp only [Bool.and_eq_true,decide_eq_true_eq] at h
 exact ⟨compB_mk sc N h.1.1 h1 h2,compB_mk sc N h.1.2 h1 h2,by rw [h2];exact h.2⟩
theorem pg2 {scope:Scope} {ix:List Nat} {px py pt:Pos} {kt:Nat} (B:CompB2 X scope x y ix) (hc:X.calm=true) (cl:List (Str × Addr)) (C:Addr) (s₀:Shared) (H₀:Hp) (fp:List Addr) :
  PG (cxBlk X scope cl C (bN2 X.N [x,y] ix) s₀ H₀ fp) (.Tuple [.Name x px,.Name y py] kt pt) (g2 X.K):=by
 have l1:(cxBlk X scope cl C (bN2 X.N [x,y] ix) s₀ H₀ fp).env.scope.names.lookup x=some .local:=lookup_relabel_local B.B1.B.lx
 have l2:(cxBlk X scope cl C (bN2 X.N [x,y] ix) s₀ H₀ fp).env.scope.names.lookup y=some .local:=lookup_relabel_local B.B2.B.lx
 exact pg_tup hc (pgs_cons (pg_name (i:=0) B.nd rfl (.inl l1) (.inr l1)) (pgs_cons (pg_name (i:=1) B.nd rfl (.inl l2) (.inr l2)) pgs_nil))
theorem ev_comp2 {elt iter:Expr} {px py pt:Pos} {kt:Nat} {scope:Scope} {ifs:List Expr} {ix:List Nat} (h:CompOk2 X T m elt iter (.Tuple [.Name x px,.Name y py] kt pt) [x,y] (g2 X.K) scope ifs ix w) (B:CompB2 X scope x y ix) (hc:X.calm=true:=by rfl)
  (hs:∀x,foldedSetIterable iter X.env x=pure x:=by intro _;rfl):EV X T m true (.ListComp elt [⟨.Tuple [.Name x px,.Name y py] kt pt,iter,ifs,0⟩] scope pos) w:=by
 obtain ⟨wi,tt,te,h1,h2,h3,h4⟩:=h
 exact ⟨_,pe_comp2 ix hc B.B1.B B.B1.hix B.nd h1 (pg2 B hc) h2 h3 hs,h4⟩
end
end PV
namespace PV
open PySem PySem.Spec L2
open Builtin.Str (glued tooLong)
section
variable {X:Cx} {T:Tg} {m o m0 m1 m2 m3 me o1 o2:Bool} {e a b:Expr} {w wa wb we:WE} {pos p2 p:Pos} {es:List Expr} {wr:WA} {x y:Str} {wt:WT} {ws:WS}
def sgn (x:Str):List D:=x.cps.toList.map λc=>.str ⟨#[c]⟩
end
end PV
namespace PV
open PySem PySem.Spec L2
open Builtin.Str (glued tooLong subAt)
section
variable {X:Cx} {T:Tg} {m o m0 m1 m2 m3 m4 me o1 o2:Bool} {e a b:Expr} {w wa wb we:WE} {pos p2 p:Pos} {es:List Expr} {wr:WA} {x y:Str} {wt:WT} {ws:WS}
end
end PV
namespace PV
open PySem PySem.Spec L2
section
variable {X:Cx} {T:Tg} {m o m0 m1 m2 m3 o1 o2:Bool} {e a b:Expr} {w wa wb we:WE} {pos p2 p:Pos} {es:List Expr} {wr:WA} {x y:Str}
def dSortDL:GA
 | [.dik kvs],k=>∃ns:List Int,kvs.map (·.1)=ns.map Sum.inl/\kvs.length<=100000/\∀out:List Int,out.Perm ns->out.Pairwise (· <= ·)->k (.lst (out.map D.int))
 | _,_=>False
theorem cd_sortDL (hc:X.calm=true):CallD X (.builtin "sorted") dSortDL:=by
 refine ⟨_,call_sortDL hc,λH ds xs F k Q r g q=>?_⟩
 cases ds with
 | nil=>exact (show False from g).elim
 | cons d ds =>
  cases ds with
  | cons _ _=>cases d <;> exact (show False from g).elim
  | nil =>
   cases d with
   | dik es =>
    obtain ⟨v,rfl,rd⟩:=r.at1
    obtain ⟨ns,hk,h64,g⟩:=g
    cases rd with
    | dik e r9 =>
    refine ⟨_,_,ns,rfl,.of e,by rw [r9.keys];exact hk,by rw [r9.length];exact h64,λout D hp ho hD=>?_⟩
    exact q _ _ _ [D] ⟨same_upd hD,.lst upd_same (Reps.ints out),by simp,λc m=>by rw [List.mem_singleton.mp m];exact hD⟩ (g out hp ho)
   | _=>exact (show False from g).elim
theorem r7_sortDL {kvs:List (Key × D)} {k:D->Prop}:dSortDL [.dik kvs] k=∃ns:List Int,kvs.map (·.1)=ns.map Sum.inl/\kvs.length<=100000/\∀out:List Int,out.Perm ns->out.Pairwise (· <= ·)->k (.lst (out.map D.int)):=rfl
end
end PV
namespace PV
open PySem PySem.Spec L2 PyProof.Rows
section
variable {X:Cx} {T:Tg} {m o m0 m1 m2 m3 me o1 o2:Bool} {e a b c:Expr} {w wa wb we:WE} {pos p2 p:Pos} {es:List Expr} {wr:WA} {x y:Str} {wt:WT} {ws:WS} {k:Nat} {ps:List Str} {tg:Expr}
def rPopT:V->List V->Hp->VK->Prop:=λx vs H Q=>∃a b kvs k v,x=.ref a/\vs=[.ref b]/\H a=some (.dT kvs)/\H b=some (.tup (k.map kV))/\valV kvs k=some v/\Q v (upd H a (.dT (dropK kvs k)))
theorem mt_popT (hu:X.A.units+1<cLine):MtM X "dict.pop" rPopT:=by
 intro pins s σ H x vs v us Q I rx rv h
 obtain ⟨a,b,kvs,k,y,rfl,rfl,hH,hb,hv,q⟩:=h
 cases rx
 obtain ⟨u,rfl,ru⟩:=Vals.one rv
 cases ru
 exact d_popT hu I hH hb hv λw' s' I' rw'=>⟨y,_,I',rw',q⟩
def gPopT:GM
 | .dit kvs,[.tup xs],k=>oget (keysOf xs) λks=>oget (valD kvs ks) λd=>d.pure=true/\k d (.dit (dropD kvs ks))
 | _,_,_=>False
theorem md_popT (hu:X.A.units+1<cLine):MtD X "dict.pop" gPopT:=by
 refine ⟨_,mt_popT hu,λH d ds v xs F G k Q r nd rs ndG dis g q=>?_⟩
 cases d with
 | dit es =>
  cases ds with
  | nil=>exact (show False from g).elim
  | cons d ds =>
   cases ds with
   | cons _ _=>cases d <;> exact (show False from g).elim
   | nil =>
    cases d with
    | tup ys =>
     obtain ⟨u,rfl,rd⟩:=rs.at1
     obtain ⟨ks,hks,g⟩:=oget_some g
     obtain ⟨d,hd,hp,g⟩:=oget_some g
     cases r with
     | @dit l kvs _ F e r9 =>
      cases rd with
      | @tup b us _ _ eb rb =>
       have hkv:=rb.keys hks
       rcases r9.val ks with ⟨q1,_⟩ | ⟨d',v',B,q1,q2,q3,q4⟩
       ·rw [q1] at hd;cases hd
       ·rw [q1] at hd
        cases hd
        obtain ⟨hB,q3⟩:=q3.pure hp
        obtain ⟨nl,nd⟩:=List.nodup_cons.mp nd
        obtain ⟨G',rG,sG⟩:=r9.drop (k:=ks)
        have nG:l∉G':=λh=>nl (sG.subset h)
        refine ⟨l,b,kvs,ks,v',rfl,rfl,e,by rw [← hkv];exact eb,q2,?_⟩
        refine q v' l _ d _ (l::G') List.mem_cons_self rfl (.dit upd_same (rG.upd e rfl nG)) (List.nodup_cons.mpr ⟨nG,nd.sublist sG⟩) (λa ha=>?_) (q3.upd e rfl (λh=>nomatch h)) g
        rcases List.mem_cons.mp ha with rfl | ha
        ·exact .inl List.mem_cons_self
        ·exact .inl (List.mem_cons_of_mem _ (sG.subset ha))
    | _=>exact (show False from g).elim
 | _=>exact (show False from g).elim
theorem iv_par {i:Nat} (ht:T.own i=false:=by rfl) (hN:X.N[i]? = some x:=by rfl) (hv:Vis X.env.scope x:=by first | exact Or.inl rfl | exact Or.inr (Or.inl rfl) | exact Or.inr (Or.inr rfl)) (hd:(x == ("__debug__" : Str))=false:=by decide)
  (hcd:(x == ("__classdict__" : Str))=false:=by decide):IV X T false true tg (.Name x p) (wSeqD (wVar i)):=by
 refine ⟨_,pi_seq (pe_var hN hv hd hcd),λz R σ H W ρ Q RR s hw k=>?_⟩
 unfold wSeqD wVar at hw
 cases hl:look ρ i with
 | none=>rw [hl] at hw;exact hw.elim
 | some d =>
 rw [hl] at hw
 have q:=hw
 obtain ⟨fp,s0⟩:=id s
 obtain ⟨v,h1,r0⟩:=s0.at_ i d hl
 have nW:∀b∈fp i,¬W b:=λb hb hw=>s0.wr b hw (s0.ro i d hl ht b hb)
 refine ⟨v,h1,?_⟩
 cases d with
 | tup ds =>
  obtain ⟨hp,q⟩:=q
  obtain ⟨hF,rp⟩:=r0.pure (by simpa [D.pure] using hp)
  cases rp with
  | @tup a xs _ _ e1 r =>
   refine ⟨a,rfl,.inr ⟨⟨xs,.of e1⟩,k _ H W ds ρ ⟨s,FrW.refl H W,λ_=>⟨Same.refl H,rfl,rfl⟩⟩ (λi H2 W2 f=>?_) q⟩⟩
   have e2:H2 a=some (.tup xs):=f.imm _ _ e1 rfl
   refine ⟨λhi=>⟨xs,.of e2,by rw [r.length];exact hi⟩,λd hd=>?_⟩
   obtain ⟨x,B,hx,rx,sx⟩:=r.get hd
   refine ⟨⟨xs,x,.of e2,hx⟩,λv H3 y=>?_⟩
   obtain ⟨rfl,y⟩:=y
   have:=y xs (.of e2)
   rw [hx] at this
   cases this
   exact ⟨Same.refl _,B,rx.keep f (λa ha=>(nomatch sx.subset ha)),(λa ha=>(nomatch sx.subset ha))⟩
 | lst ds =>
  generalize hfp:fp i=G at r0 nW
  cases r0 with
  | @lst a xs _ F e1 r =>
   refine ⟨a,rfl,.inl ⟨⟨xs,.of e1⟩,k _ H W ds ρ ⟨s,FrW.refl H W,λ_=>⟨Same.refl H,rfl,rfl⟩⟩ (λi H2 W2 f=>?_) q⟩⟩
   rw [wz_true] at f
   have e2:H2 a=some (.lst xs):=f.keep _ _ e1 (nW a List.mem_cons_self)
   refine ⟨λhi=>⟨xs,.of e2,by rw [r.length];exact hi⟩,λd hd=>?_⟩
   obtain ⟨x,B,hx,rx,sx⟩:=r.get hd
   refine ⟨⟨xs,x,.of e2,hx⟩,λv H3 y=>?_⟩
   obtain ⟨rfl,y⟩:=y
   have:=y xs (.of e2)
   rw [hx] at this
   cases this
   refine ⟨Same.refl _,B,rx.keep f λb hb=>nW b (List.mem_cons_of_mem _ (sx.subset hb)),λb hb hw=>?_⟩
   have hb':b∈a::F:=List.mem_cons_of_mem _ (sx.subset hb)
   rcases f.new b hw with h | h
   ·exact nW b hb' h
   ·obtain ⟨ob,e3,_⟩:=rx.dom b hb
    rw [h] at e3;cases e3
 | kc c =>
  cases c with
  | tup ks =>
   obtain ⟨-,rp⟩:=r0.pure (by rw [D.pure])
   cases rp with
   | kc h =>
    obtain ⟨a,xs,rfl,hs,ar⟩:=h.sqT
    exact ⟨a,rfl,.inr ⟨⟨xs,hs H⟩,k _ H W (ks.map kcD) ρ ⟨s,FrW.refl H W,λ_=>⟨Same.refl H,rfl,rfl⟩⟩ (jd_kc hs ar) q⟩⟩
  | _=>exact (show False from q).elim
 | _=>exact (show False from q).elim
end
section
variable {i j:Int} {k:D->Prop} {kk:D->D->Prop} {kvs:List (List Key × D)} {xs:List D}
theorem sz0:(0<=sizeLine)=True:=propext ⟨λ_=>trivial,λ_=>by decide⟩
theorem sz1:(1<=sizeLine)=True:=propext ⟨λ_=>trivial,λ_=>by decide⟩
theorem sz2:(2<=sizeLine)=True:=propext ⟨λ_=>trivial,λ_=>by decide⟩
theorem sz3:(3<=sizeLine)=True:=propext ⟨λ_=>trivial,λ_=>by decide⟩
theorem sz5:(5<=sizeLine)=True:=propext ⟨λ_=>trivial,λ_=>by decide⟩
end
end PV
namespace L2
open PySem PySem.Spec PyProof.Rows
section
variable {X:Cx} {e:Expr} {te:TE}
end
end L2
namespace PV
open PySem PySem.Spec L2 PyProof.Rows
section
variable {X:Cx} {T:Tg} {m o:Bool} {e:Expr} {w:WE} {tg:Expr}
end
end PV
namespace PV
open PySem PySem.Spec L2
open PyProof.Rows (envOfC)
section
variable {X:Cx} {T:Tg} {m:Bool} {w:WE} {pos:Pos} {x:Str}
end
end PV
namespace PV
open PySem PySem.Spec L2
section
variable {X:Cx} {T:Tg} {m o m0 m1 m2 m3 o1 o2:Bool} {e a b:Expr} {w wa wb we:WE} {pos p2 p:Pos} {es:List Expr} {wr:WA} {x y:Str} {wt:WT} {ws:WS}
theorem RepT.get {K:PySem.W.Frag} {H:Hp}:∀{ds:List (List Key × D)} {xs:List (List Key × V)} {F:List Addr} {i:Nat} {k:List Key} {v:V},RepT K H ds xs F->xs[i]? = some (k,v)->∃d B,ds[i]? = some (k,d)/\Rep K H d v B/\B.Sublist F
 | [],_,_,_,_,_,r,h=>by cases r;simp at h
 | d::ds,_,_,i,_,_,r,h=>by
  cases r with
  | @cons j d v _ vs F G p r =>
   cases i with
   | zero =>
    simp at h
    obtain ⟨rfl,rfl⟩:=h
    exact ⟨d,F,rfl,p,List.sublist_append_left _ _⟩
   | succ i =>
    obtain ⟨d',B,h1,h2,h3⟩:=RepT.get r (i:=i) (by simpa using h)
    exact ⟨d',B,by simpa using h1,h2,h3.trans (List.sublist_append_right _ _)⟩
end
end PV
namespace PV
open PySem PySem.Spec L2
section
variable {X:Cx} {T:Tg} {m o:Bool} {a:Expr} {pos p2 p:Pos} {wr:WA} {x:Str}
theorem Reps.back0 {K:PySem.W.Frag} {H:Hp} {ds:List D} {xs:List V} {F:List Addr} (r:Reps K H ds xs F):F=[]->Reps K H ds.reverse xs.reverse []:=by
 induction r using Reps.rec (motive_1:=λ_ _ _ _=>True) (motive_3:=λ_ _ _ _=>True) (motive_4:=λ_ _ _ _=>True) with
 | nil=>exact λ_=>.nil
 | cons h r ih1 ih2 =>
  intro e
  obtain ⟨rfl,rfl⟩:=List.append_eq_nil_iff.mp e
  rw [List.reverse_cons,List.reverse_cons]
  exact Reps.append (F:=[]) (G:=[]) (ih2 rfl) (Reps.one h)
 | _=>trivial
theorem Reps.back {K:PySem.W.Frag} {H:Hp} {ds:List D} {xs:List V} (r:Reps K H ds xs []):Reps K H ds.reverse xs.reverse []:=r.back0 rfl
end
end PV
namespace PV
open PySem PySem.Spec L2
theorem atI_ofNat {α:Type} (xs:List α) (j:Nat):L2.atI xs (j:Int)=xs[j]?:=by
 unfold L2.atI ixN
 rw [if_pos (by omega)]
 by_cases h:j<xs.length
 ·rw [if_pos (by omega)];simp
 ·rw [if_neg (by omega)];simp;omega
theorem atI_0 {α:Type} (xs:List α):L2.atI xs 0=xs[0]?:=atI_ofNat xs 0
theorem atI_1 {α:Type} (xs:List α):L2.atI xs 1=xs[1]?:=atI_ofNat xs 1
theorem ixN_ofNat {n j:Nat} (h:j<n):ixN n (j:Int)=some j:=by
 unfold ixN
 rw [if_pos (by omega),if_pos (by omega)];simp
theorem ixN_0 {n:Nat} (h:0<n):ixN n 0=some 0:=ixN_ofNat h
theorem oget_s {α:Type} {d:α} {k:α->Prop}:oget (some d) k=k d:=rfl
theorem r_var {i:Nat} {ρ:Env} {Q:D->Env->Prop}:wVar i ρ Q=oget (look ρ i) λd=>Q d ρ:=by
 unfold wVar oget
 cases look ρ i <;> rfl
section
variable {i j:Int} {x y:Str} {xs ys:List D} {k:D->Prop} {b c:Bool} {d e:D} {kvs:List (Key × D)} {kts:List (List Key × D)}
theorem r_sub:dSub (.int i) (.int j) k=k (.int (i-j)):=rfl
theorem r_mul:dMul (.int i) (.int j) k=(CMul i j/\k (.int (i*j))):=rfl
theorem r_div:dDiv (.int i) (.int j) k=((0<j/\j<1073741824/\k (.int (i / j)))\/(j<0/\j.natAbs<1073741824/\k (.int (i.fdiv j)))):=rfl
theorem r_mod:dMod (.int i) (.int j) k=((0<j/\k (.int (i % j)))\/(j<0/\k (.int (i.fmod j)))):=rfl
theorem r_neg:dNeg (.int i) k=k (.int (-i)):=rfl
theorem r_eqI:dEq (.int i) (.int j) k=k (.bl (decide (i=j))):=rfl
theorem r_neI:dNe (.int i) (.int j) k=k (.bl (!decide (i=j))):=rfl
theorem r_eqS:dEq (.str x) (.str y) k=k (.bl (decide (x=y))):=rfl
theorem r_neT:dNe (.tup xs) d k=(eqOk 9 (.tup xs)=true/\eqOk 9 d=true/\(.tup xs=d->k (.bl false))/\(.tup xs≠d->k (.bl true))):=by cases d <;> rfl
theorem r_eqL:dEq (.lst xs) d k=(eqOk 9 (.lst xs)=true/\eqOk 9 d=true/\(.lst xs=d->k (.bl true))/\(.lst xs≠d->k (.bl false))):=by cases d <;> rfl
theorem r_neL:dNe (.lst xs) d k=(eqOk 9 (.lst xs)=true/\eqOk 9 d=true/\(.lst xs=d->k (.bl false))/\(.lst xs≠d->k (.bl true))):=by cases d <;> rfl
theorem r_cmp {f:Int->Int->Bool}:dCmp f (.int i) (.int j) k=k (.bl (f i j)):=rfl
theorem r_ixL:dIx (.lst xs) (.int i) k=oget (L2.atI xs i) k:=rfl
theorem r_ixT:dIx (.tup xs) (.int i) k=oget (L2.atI xs i) k:=rfl
theorem r_ixK:dIx (.kls xs) (.int i) k=oget (L2.atI xs i) k:=rfl
theorem r_ixDi:dIx (.dik kvs) (.int i) k=oget (valD kvs (.inl i)) k:=rfl
theorem r_lenL:dLen [.lst xs] k=k (.int xs.length):=rfl
theorem r_lenT:dLen [.tup xs] k=k (.int xs.length):=rfl
theorem r_lenK:dLen [.kls xs] k=k (.int xs.length):=rfl
theorem r_intB:dInt [.bl b] k=k (.int (if b then 1 else 0)):=rfl
theorem r_abs:dAbs [.int i] k=k (.int (if i<0 then -i else i)):=rfl
theorem r_listL:dList [.lst xs] k=(pureL xs=true/\k (.lst xs)):=rfl
theorem r_tupL:dTuple [.lst xs] k=(pureL xs=true/\k (.tup xs)):=rfl
theorem r_isi {t:Ty}:dIsi [d,.ty t] k=oget (isiD d t) λb=>k (.bl b):=rfl
theorem r_setL:dSet (.lst xs) (.int i) d k=oget (ixN xs.length i) λn=>k (.lst (xs.set n d)):=rfl
theorem r_setDi:dSet (.dik kvs) (.int i) d k=(kvs.length<sizeLine/\k (.dik (putD kvs (.inl i) d))):=rfl
variable {kk:D->D->Prop}
theorem r_app:gAppend (.lst xs) [d] kk=(xs.length<sizeLine/\kk .non (.lst (xs++[d]))):=rfl
theorem r_popAt:gPopAt (.lst xs) [.int i] kk=(-(2 ^ 63)<=i/\i<2 ^ 63/\oget (seqIndex? i xs.length) λj=>oget xs[j]? λd=>d.pure=true/\kk d (.lst (xs.eraseIdx j))):=rfl
variable {ρ:Env} {w:WE} {QE:D->Env->Prop} {QL:List D->Env->Prop} {QB:Bool->Env->Prop}
end
section
variable {i j:Int} {k:D->Prop}
theorem r_divP (h:0<j) (h2:j<1073741824):dDiv (.int i) (.int j) k=k (.int (i / j)):=by
 rw [r_div]
 apply propext
 exact ⟨λq=>q.elim (λz=>z.2.2) (λz=>absurd z.1 (by omega)),λq=>.inl ⟨h,h2,q⟩⟩
theorem r_modP (h:0<j):dMod (.int i) (.int j) k=k (.int (i % j)):=by
 rw [r_mod]
 apply propext
 exact ⟨λq=>q.elim (λz=>z.2) (λz=>absurd z.1 (by omega)),λq=>.inl ⟨h,q⟩⟩
theorem r_mulA (h:-18446744073709551616<i) (h2:i<18446744073709551616):dMul (.int i) (.int j) k=k (.int (i*j)):=by
 rw [r_mul]
 exact propext ⟨λq=>q.2,λq=>⟨.inl ⟨by omega,by omega⟩,q⟩⟩
theorem r_mulB (h:-18446744073709551616<j) (h2:j<18446744073709551616):dMul (.int i) (.int j) k=k (.int (i*j)):=by
 rw [r_mul]
 exact propext ⟨λq=>q.2,λq=>⟨.inr ⟨by omega,by omega⟩,q⟩⟩
end
def blOf (d:D) (k:Bool->Prop):Prop:=match d with
 | .bl b=>k b
 | _=>False
theorem r_bl {w:WE} {ρ:Env} {Q:Bool->Env->Prop}:wBl w ρ Q=w ρ λd ρ'=>blOf d λb=>Q b ρ':=by
 show (w ρ λd ρ'=>match d with | .bl b=>Q b ρ' | _=>False)=_
 rfl
theorem r_blOf {b:Bool} {k:Bool->Prop}:blOf (.bl b) k=k b:=rfl
def truOf (d:D) (k:Bool->Prop):Prop:=oget (truD d) k
theorem r_tru {w:WE} {ρ:Env} {Q:Bool->Env->Prop}:wTru w ρ Q=w ρ λd ρ'=>truOf d λb=>Q b ρ':=by
 unfold wTru
 congr 1
 funext d ρ'
 unfold truOf oget
 cases truD d <;> rfl
theorem r_truB {b:Bool} {k:Bool->Prop}:truOf (.bl b) k=k b:=rfl
def seqOf (d:D) (k:List D->Prop):Prop:=match d with
 | .tup ds=>pureL ds=true/\k ds
 | .lst ds=>k ds
 | .kc (.tup ks)=>k (ks.map kcD)
 | _=>False
theorem r_seq {w:WE} {ρ:Env} {Q:List D->Env->Prop}:wSeqD w ρ Q=w ρ λd ρ'=>seqOf d λds=>Q ds ρ':=by
 show (w ρ λd ρ'=>match d with | .tup ds=>pureL ds=true/\Q ds ρ' | .lst ds=>Q ds ρ' | .kc (.tup ks)=>Q (ks.map kcD) ρ' | _=>False)=_
 rfl
theorem r_seqT {xs:List D} {k:List D->Prop}:seqOf (.tup xs) k=(pureL xs=true/\k xs):=rfl
theorem r_seqL {xs:List D} {k:List D->Prop}:seqOf (.lst xs) k=k xs:=rfl
def intOf (d:D) (k:Option Int->Prop):Prop:=match d with
 | .int i=>k (some i)
 | _=>False
theorem r_some {w:WE} {ρ:Env} {Q:Option Int->Env->Prop}:wSome w ρ Q=w ρ λd ρ'=>intOf d λi=>Q i ρ':=by
 show (w ρ λd ρ'=>match d with | .int i=>Q (some i) ρ' | _=>False)=_
 rfl
theorem r_intOf {i:Int} {k:Option Int->Prop}:intOf (.int i) k=k (some i):=rfl
theorem r_andV {wa wb:WE} {ρ:Env} {Q:D->Env->Prop}:wAndV wa wb ρ Q=wa ρ λd ρ1=>blOf d λc=>if c=true then wb ρ1 Q else Q (.bl false) ρ1:=by
 show (wa ρ λd ρ1=>match d with | .bl c=>if c=true then wb ρ1 Q else Q (.bl false) ρ1 | _=>False)=_
 rfl
theorem r_orV {wa wb:WE} {ρ:Env} {Q:D->Env->Prop}:wOrV wa wb ρ Q=wa ρ λd ρ1=>blOf d λc=>if c=true then Q (.bl true) ρ1 else wb ρ1 Q:=by
 show (wa ρ λd ρ1=>match d with | .bl c=>if c=true then Q (.bl true) ρ1 else wb ρ1 Q | _=>False)=_
 rfl
theorem r_notV {wa:WE} {ρ:Env} {Q:D->Env->Prop}:wNotV wa ρ Q=wa ρ λd ρ1=>blOf d λc=>Q (.bl (!c)) ρ1:=by
 show (wa ρ λd ρ1=>match d with | .bl c=>Q (.bl (!c)) ρ1 | _=>False)=_
 rfl
def rng1Of (ds:List D) (k:List D->Prop):Prop:=match ds with
 | [.int j]=>-(2 ^ 62)<=j/\j<2 ^ 62/\k (rngD 0 j.toNat)
 | _=>False
theorem r_rng1 {wr:WA} {ρ:Env} {Q:List D->Env->Prop}:wRng1 wr ρ Q=wr ρ λds ρ'=>rng1Of ds λl=>Q l ρ':=by
 show (wr ρ λds ρ'=>match ds with | [.int j]=>-(2 ^ 62)<=j/\j<2 ^ 62/\Q (rngD 0 j.toNat) ρ' | _=>False)=_
 rfl
theorem r_rng1I {j:Int} {k:List D->Prop}:rng1Of [.int j] k=(-(2 ^ 62)<=j/\j<2 ^ 62/\k (rngD 0 j.toNat)):=rfl
theorem r_gTup {n:Nat} {wgs:List D->Env->(Env->Prop)->Prop} {xs:List D} {ρ:Env} {Q:Env->Prop}:gTupD n wgs (.tup xs) ρ Q=(xs.length=n/\wgs xs ρ Q):=rfl
theorem r_gCons {wg:WG} {wgs:List D->Env->(Env->Prop)->Prop} {d:D} {r:List D} {ρ:Env} {Q:Env->Prop}:gConsD wg wgs (d::r) ρ Q=wg d ρ λρ'=>wgs r ρ' Q:=rfl
theorem r_gNil {ρ:Env} {Q:Env->Prop}:gNilD [] ρ Q=Q ρ:=rfl
theorem r_tyL {xs:List D} {t:String}:tyD (some (.lst xs)) t=(t == "list"):=rfl
theorem pureL_map {α:Type} {f:α->D} {l:List α} (h:∀a∈l,(f a).pure=true):pureL (l.map f)=true:=by
 rw [pureL_iff]
 intro x hx
 obtain ⟨a,ha,rfl⟩:=List.mem_map.mp hx
 exact h a ha
theorem eqOks_map {α:Type} {f:α->D} {n:Nat} {l:List α} (h:∀a∈l,eqOk n (f a)=true):eqOks n (l.map f)=true:=by
 rw [eqOks_iff]
 intro x hx
 obtain ⟨a,ha,rfl⟩:=List.mem_map.mp hx
 exact h a ha
def compI (ds:List D) (wt:WT) (we:WE) (ρ1:Env) (ix:List Nat) (Q:D->Env->Prop):Prop:=∃I:Nat->List D->Prop,I 0 [] /\
 (∀i d ys,ds[i]? = some d->I i ys->ys.length<sizeLine/\wt (blkE ρ1 d ix) λb _=>if b=true then we (blkE ρ1 d ix) (λy _=>I (i+1) (ys++[y])) else I (i+1) ys) /\
 ∀ys,I ds.length ys->ys.length<=sizeLine/\Q (.lst ys) ρ1
theorem r_comp {wl:WL} {wt:WT} {we:WE} {ix:List Nat} {ρ:Env} {Q:D->Env->Prop}:wComp wl wt we ix ρ Q=wl ρ λds ρ1=>compI ds wt we ρ1 ix Q:=rfl
def forI (ds:List D) (wg:WG) (wb:WS) (P:EndsP) (ρ1:Env):Prop:=∃I:Nat->Env->Prop,I 0 ρ1 /\
 (∀i d ρ,ds[i]? = some d->I i ρ->wg d ρ λρ'=>wb { P with nx:=I (i+1),ct:=I (i+1),bk:=P.nx } ρ')/\∀ρ,I ds.length ρ->P.nx ρ
theorem r_for {wl:WL} {wg:WG} {wb:WS} {P:EndsP} {ρ:Env}:wFor wl wg wb P ρ=wl ρ λds ρ1=>pureL ds=true/\forI ds wg wb P ρ1:=rfl
end PV
namespace PV
open PySem PySem.Spec L2
section
variable {X:Cx} {T:Tg} {m o o1 o2 o3:Bool} {a b c:Expr} {wa wb wc:WE} {pos p2 p:Pos} {wr:WA} {x:Str}
end
end PV
namespace PV
open PySem PySem.Spec L2
open PyProof.Rows (envOfC)
abbrev GX:=List D->(D->Prop)->(D->Prop)->Prop
abbrev atN (K:PySem.W.Frag) (x:Str) (C:Addr):Prop:=PySem.W.nsIn K mainGlobals x=some (some (.ref C))
def spX (K:PySem.W.Frag) (g:GX):Sp:=λvs H Q E=>∃(ds:List D) (F:List Addr) (k kx:D->Prop),Reps K H ds vs F/\g ds k kx/\(∀v H' d F',Fin K H H' d v F'->k d->Q v H')/\∀x C H',atN K x C->Same H H'->kx (.obj x [])->E (.ref C) none H'
def RaiseOk (X:Cx) (T:Tg) (x:Str) (C:Addr):Prop:=∀pins σ H s h1 e vs,Inv X pins σ H s->Heap.MadeExcOf s.heap h1 e (.ref C) vs->T.xe (.obj x []) σ H->X.xe (.ref e) { s with heap:=h1 }
def PassOk (X:Cx) (T:Tg):Prop:=∀pins σ H s e s',Inv X pins σ H s->CXE X.prog X.w X.base X.stack H s (λc _ H'=>∃C,c=.ref C/\∃x,atN X.K x C/\T.xe (.obj x []) σ H') e s'->X.xe e s'
def EndsP.un (P:EndsP) (j:Nat):EndsP:={ nx:=λρ=>P.nx (ρ.set j none),rt:=P.rt,bk:=λρ=>P.bk (ρ.set j none),ct:=λρ=>P.ct (ρ.set j none) }
section
variable {X:Cx} {T:Tg} {m o o1 o2 o3:Bool} {e a b c e₀:Expr} {es:List Expr} {w wa wb wc:WE} {pos p2 p np cpos hpos px:Pos} {wr:WA} {x y:Str} {ws wh:WS}
def wRaise (x:Str) (wr:WA):WS:=λP ρ=>wr ρ λds ρ'=>ds.length<=1000/\P.xc (.obj x []) ρ'
theorem sv_raise {C:Addr} (k:ExcK X.K X.mg x C) (hX:RaiseOk X T x C) (ha:AV X T m o (e₀::es) wr) (hg:Gl X x:=by rfl) (hc:X.calm=true:=by rfl)
  (hdb:(x == ("__debug__" : Str))=false:=by decide) (he:starEach (e₀::es) X.env=(false,eval e₀ X.env)::starEach es X.env:=by rfl) (hpl:(backTo cpos (starEach es X.env)).any (·.1)=false:=by rfl) :
  SV X T (.Raise (some (.Call (.Name x np) (e₀::es) [] cpos)) none pos) (wRaise x wr):=by
 obtain ⟨ta,pa,ga⟩:=ha
 refine ⟨_,ps_raise (Ξ:=λσ H=>T.xe (.obj x []) σ H) k hg hc pa hX hdb he hpl,λz R σ H W ρ P E s hw l=>?_⟩
 refine ga z R σ H W ρ _ _ s hw λvs H1 W1 ds ρ1 F p q=>⟨?_,l.xc R σ H1 W1 ρ1 _ p.sr p.fr q.2⟩
 rw [p.rep.length]
 exact Nat.le_trans q.1 (by decide)
def CalX (P:Program) (w:World) (K:PySem.W.Frag) (mg:Str->Option Value) (base:Heap) (x:Str) (k:Nat) (ps:List Str) (sp:Sp):Prop :=
 ∃f fd,FnOk P w K mg base (CXE P w base) k f fd ps sp/\mg x=some (.ref f)/\PySem.W.keepIn K (.ref f)=true/\Binds K fd ps []
def calmG (g:GX):GA:=λds k=>g ds k λ_=>False
theorem CalX.calm {P:Program} {w:World} {K:PySem.W.Frag} {mg:Str->Option Value} {base:Heap} {k:Nat} {ps:List Str} {g:GX} (C:CalX P w K mg base x k ps (spX K g)):Cal P w K mg base x k ps (spR K (calmG g)):=by
 obtain ⟨f,fd,F,h1,h2,h3⟩:=C
 have up:∀vs H Q E,spR K (calmG g) vs H Q E->spX K g vs H Q λ_ _ _=>False:=λvs H Q E ⟨ds,Fp,kk,r,hg,q⟩=>⟨ds,Fp,kk,λ_=>False,r,hg,q,λ_ _ _ _ _ z=>z⟩
 refine ⟨f,fd,⟨λvs H Q E h=>F.len vs H Q _ (up vs H Q E h),λA outer s H args us vs Q E hr e0 hb hv h=>codeAny_mono (F.run A outer s H args us vs Q _ hr e0 hb hv (up vs H Q E h)) λr s' q=>?_⟩,h1,h2,h3⟩
 cases r with
 | ok fl=>cases fl <;> exact q
 | error e=>obtain ⟨_,_,_,_,_,_,_,z⟩:=q;exact z.elim
end
end PV
namespace PV
open PySem PySem.Spec L2
open PyProof.Rows (envOfC)
section
variable {P:Program} {w:World} {K:PySem.W.Frag} {mg:Str->Option Value} {base:Heap} {x qual:Str} {st:Stmt} {f:Addr} {fd:FuncData} {N ps:List Str} {k:Nat} {T:Tg} {ww:WS}
theorem fn_x {g:GX} (F:Fun K x qual st f fd) (S:FnScope N ps (defScope st)) (hio:T.io=[]) (hown:∀i,i<ps.length->T.own i=false) (hg:∀ds kk kx,g ds kk kx->ds.length=ps.length)
  (hb:∀(cdv:Value) (A:Around) (outer:List PySem.Env) (s:Shared) (H:Hp) (E:XK) (XE:D->St->Hp->Prop),Room k (A.deeper (envOfC qual (defScope st) s.heap.objs.size f cdv)) ->
   (∀x C,atN K x C->RaiseOk (cxOf (CXE P w base) P w K mg base N qual (defScope st) f cdv A outer s H E) ⟨T.own,T.io,XE⟩ x C)->PassOk (cxOf (CXE P w base) P w K mg base N qual (defScope st) f cdv A outer s H E) ⟨T.own,T.io,XE⟩->SVs (cxOf (CXE P w base) P w K mg base N qual (defScope st) f cdv A outer s H E) ⟨T.own,T.io,XE⟩ (defBody st) ww)
  (hr:∀ds kk kx,g ds kk kx->ww { nx:=λ_=>kk .non,rt:=λd _=>kk d,xc:=λd _=>kx d } (env0 N ds)):FnOk P w K mg base (CXE P w base) (k+1) f fd ps (spX K g):=by
 obtain ⟨oc,od,kV,doc,pm,an,cdv,ct,osl,rfl,lk,hcd⟩:=F.ex
 refine fn_of lk hcd S (λvs H Q E h=>?_) λA outer s H vs Q E hroom h=>?_
 ·obtain ⟨ds,Fp,kk,kx,rep,hgk,_⟩:=h
  rw [rep.length];exact hg ds kk kx hgk
 ·obtain ⟨ds,Fp,kk,kx,rep,hgk,q,qx⟩:=h
  obtain ⟨ts,pts,gts⟩:=hb cdv A outer s H E (λd _ H'=>∀x C,atN K x C->d=.obj x []->E (.ref C) none H') hroom (λx C hn pins σ H1 s1 h1 e vs I hx hT =>
   leave_made (X:=cxOf (CXE P w base) P w K mg base N qual (defScope st) f cdv A outer s H E) ⟨rfl,rfl,rfl⟩ I hx λh' t B fl=>⟨e,C,t,B,H1,rfl,fl,hT x C hn rfl⟩) (λpins σ H1 s1 e s' I z=>by
   obtain ⟨ea,C,t,B,H',rfl,fl,C',eC,y,hn,hT⟩:=z
   cases eC
   exact leave_on (X:=cxOf (CXE P w base) P w K mg base N qual (defScope st) f cdv A outer s H E) ⟨rfl,rfl,rfl⟩ I fl λh' fl'=>⟨ea,C,t,B,H',rfl,fl',hT y C hn rfl⟩)
  have hl:=rep.length
  have hds:=hg ds kk kx hgk
  refine ⟨ts,pts,gts (λ_=>.non) (Any H) (L2.start N vs) H (λ_=>False) (env0 N ds) _ _ (SR.readonly hio ?_ λi d hli=>?_) (hr ds kk kx hgk) ⟨?_,?_,?_,?_,?_⟩⟩
  ·unfold env0 L2.start;simp [hl]
  ·unfold env0 at hli
   rw [look_start] at hli
   obtain ⟨v,B,h1,h2,_⟩:=rep.get hli
   exact ⟨hown i (by rw [← hds];exact (List.getElem?_eq_some_iff.mp hli).1),v,B,start_get h1,h2⟩
  ·intro R' σ' H' W' ρ' s' fr hk
   have sm:Same H H':=λb o e=>fr.keep b o e (λz=>z)
   exact q .non H' .non [] ⟨sm,.non,List.nodup_nil,λ_ m=>nomatch m⟩ hk
  ·exact λR' σ' H' W' ρ' s' fr hk=>hk.elim
  ·exact λR' σ' H' W' ρ' s' fr hk=>hk.elim
  ·intro R' v σ' H' W' ρ' d F' s' fr r nd nw hk
   have sm:Same H H':=λb o e=>fr.keep b o e (λz=>z)
   exact q v H' d F' ⟨sm,r,nd,λa ha=>(nw a ha).2.resolve_left id⟩ hk
  ·intro R' σ' H' W' ρ' d s' fr hk x C hn e
   subst e
   exact qx x C H' hn (λb o e=>fr.keep b o e (λz=>z)) hk
def strKeysB (es:Array DictEntry):Bool:=es.toList.all λe=>match e.key with
 | .str _ _=>true
 | _=>false
theorem strKeys_of {es:Array DictEntry} (h:strKeysB es=true):StrKeys es:=λe he=>by
 have:=List.all_eq_true.mp h e (by simpa using he)
 split at this
 ·rename_i n t q;exact ⟨n,t,q⟩
 ·cases this
theorem ns_of {h:Heap} {a:Addr} {oc:Value} {od:Option Addr} {es:Array DictEntry} {ep:Nat} {sl:Array (Option Value)} (X:K.In h) (l:K.lookup a=some ⟨oc,od,.dict es ep,sl⟩) (s:strKeysB es=true):h.Ns a (nsFind es):=⟨_,es,ep,X _ _ l,rfl,strKeys_of s,λ_=>rfl⟩
theorem excK_mk {C TE N:Addr} {nm q:Str} {bs:List Value} {hdct:Bool} {sn:List Str} {sub:List Value} {ab:Bool} {col:Option Bool} {dd dd' od1 od2:Option Addr} {k0 k1 k2 k3 k5:Option Value} {c0 oc1 oc2:Value} {cd:ClassData} {sl sl1 sl2:Array (Option Value)} {es1 es2:Array DictEntry} {ep1 ep2:Nat}
  (hm:mg x=some (.ref C)) (l1:K.lookup C=some (excClassObj nm q C N bs (.ref TE::[.type "ValueError",.type "Exception",.type "BaseException",.type "object"]) hdct sn sub ab col dd k0 k1 k2 k3 k5 "ValueError.__new__")) (l2:K.lookup TE=some ⟨c0,dd',.cls cd,sl⟩)
  (n1:K.lookup N=some ⟨oc1,od1,.dict es1 ep1,sl1⟩) (n2:K.lookup cd.ns=some ⟨oc2,od2,.dict es2 ep2,sl2⟩) (s1:strKeysB es1=true) (s2:strKeysB es2=true) (i1:nsFind es1 "__init__" = none) (i2:nsFind es2 "__init__" = none):ExcK K mg x C :=
 ⟨hm,"ValueError","ValueError.__new__","ValueError.__init__",_,_,bs,nm,q,N,hdct,sn,sub,ab,col,dd,k0,k1,k2,k3,k5,nsFind es1,F.excBase_ValueError,rfl,i1,λh X=>⟨X _ _ l1,ns_of X n1 s1,.own (X _ _ l2) (ns_of X n2 s2) i2 .base⟩⟩
theorem exm_of {C D:Addr} {cd:ClassData} {b:Bool} (h0:PySem.W.subIn K (.ref D) (.type "BaseException")=some true) (h1:PySem.W.clsIn K D=some cd) (h2:PySem.W.typeIn K (.ref D)=some (.type "type")) (h3:PySem.W.subIn K (.ref C) (.ref D)=some b):PySem.W.exmOne K (.ref C) (.ref D)=some b:=by
 unfold PySem.W.exmOne
 rw [if_pos (by rw [h0];rfl)]
 show (if ((PySem.W.clsIn K D).isSome && PySem.W.typeIn K (.ref D) == some (.type "type"))=true then PySem.W.subIn K (.ref C) (.ref D) else none)=some b
 rw [if_pos (by rw [h1,h2];rfl)]
 exact h3
end
section
variable {X:Cx} {T:Tg} {o1 o2 o3:Bool} {a b c:Expr} {es:List Expr} {wa wb wc:WE} {pos p2 p q:Pos} {wr:WA} {x y v:Str} {ta:TA} {cv:V} {cl:Value} {i:Nat} {m o:Bool}
def wChainV (g g':G2) (wa wb wc:WE):WE:=λρ Q=>wa ρ λx ρ1=>wb ρ1 λy ρ2=>g x y λd=>blOf d λk=>if k=true then wc ρ2 λu ρ3=>g' y u λd'=>Q d' ρ3 else Q (.bl false) ρ2
theorem ev_chain {op op':CmpOp} {g g':G2} (ho:OpD X (compareOp op) g) (ho':OpD X (compareOp op') g') (ha:EV X T false o1 a wa) (hb:EV X T false o2 b wb) (hc:EV X T false o3 c wc)
  (hm:lastMarks [op,op'] [b,c]=false:=by with_unfolding_all rfl):EV X T false true (.Compare a [op,op'] [b,c] pos) (wChainV g g' wa wb wc):=by
 obtain ⟨r,ro,gr⟩:=ho
 obtain ⟨r',ro',gr'⟩:=ho'
 obtain ⟨ta,pa,ga⟩:=ha
 obtain ⟨tb,pb,gb⟩:=hb
 obtain ⟨tc,pc,gc⟩:=hc
 refine ⟨_,pe_chain ro ro' pa pb pc hm,λz R σ H W ρ Q Q' s hw k=>?_⟩
 refine two ga gb (.inr rfl) s hw λx y H2 W2 d1 d2 ρ2 F1 F2 s2 f2 c2 r1 r2 _ _ _ q2=>?_
 refine gr H2 d1 d2 x y F1 F2 _ _ r1 r2 q2 λv H3 d F fi hk=>?_
 have f3:=f2.trans (FrW.same W2 fi.same)
 cases d with
 | bl k0 =>
  refine ⟨k0,rep_bl fi.rep,?_⟩
  have hk:(if k0=true then wc ρ2 λu ρ3=>g' d2 u λd'=>Q d' ρ3 else Q (.bl false) ρ2):=hk
  cases k0 with
  | false =>
   rw [if_neg Bool.false_ne_true] at hk ⊢
   exact k (.bl false) H3 W2 (.bl false) ρ2 [] (Post.fin s2 f2 c2 fi.same (.bl false) (by simp) λb m=>nomatch m) hk
  | true =>
   rw [if_pos rfl] at hk ⊢
   refine gc z R σ H3 W2 ρ2 _ _ (s2.same fi.same) hk λu H4 W4 e ρ4 F' p q=>?_
   obtain ⟨a1,a2,a3⟩:=p.calm rfl
   exact gr' H4 d2 e y u F2 F' _ _ ((r2.same fi.same).same a1) p.rep q λv5 H5 d5 F5 fi5 hk5=>k v5 H5 W4 d5 ρ4 F5 (Post.fin p.sr (f3.trans p.fr) (λh=>⟨((c2 h).1.trans fi.same).trans a1,a2.trans (c2 h).2.1,a3.trans (c2 h).2.2⟩) fi5.same fi5.rep fi5.nd fi5.new) hk5
 | _=>exact hk.elim
end
end PV
namespace L2
open PySem PySem.Spec PyProof.Rows
section
variable {X:Cx}
end
end L2
namespace PV
open PySem PySem.Spec L2
section
variable {X:Cx} {T:Tg} {m o:Bool} {a b:Expr} {pos p:Pos} {wr:WA} {x:Str}
end
end PV
namespace PV
open PySem PySem.Spec L2
section
variable {X:Cx} {T:Tg} {o1:Bool} {e:Expr} {w:WE} {pos p q:Pos} {x:Str}
def wRetT (i:Nat) (w:WE):WS:=λP ρ=>oget (look ρ i) λd=>w ρ λn _=>n.pure=true/\P.rt (.tup [d,n]) (ρ.set i none)
theorem sv_retT {i:Nat} {kt} (he:EV X T false o1 e w) (ht:T.own i=true:=by rfl) (hN:X.N[i]? = some x:=by rfl) (hv:Vis X.env.scope x:=by first | exact Or.inl rfl | exact Or.inr (Or.inl rfl) | exact Or.inr (Or.inr rfl)) (hd:(x == ("__debug__" : Str))=false:=by decide)
  (hcd:(x == ("__classdict__" : Str))=false:=by decide) (hs:starEach [.Name x p,e] X.env=(false,eval (.Name x p) X.env)::starEach [e] X.env:=by rfl) (hs2:starEach [e] X.env=(false,eval e X.env)::starEach [] X.env:=by rfl):SV X T (.Return (some (.Tuple [.Name x p,e] kt q)) pos) (wRetT i w):=by
 obtain ⟨te,pe,ge⟩:=he
 refine ⟨_,ps_ret (pe_tup (pa_cons (pe_var hN hv hd hcd) (pa_cons pe pa_nil hs2) hs)),λz R σ H W ρ P E s hw l=>?_⟩
 obtain ⟨d,hl,qw⟩:=oget_some hw
 obtain ⟨fp,s0⟩:=id s
 obtain ⟨v,h1,h2⟩:=s0.at_ i d hl
 refine ⟨v,h1,ge z R σ H W ρ _ _ s qw λu H1 W1 n ρ1 F p qq=>?_⟩
 obtain ⟨hp,qq⟩:=qq
 obtain ⟨sm,hW,hρ⟩:=p.calm rfl
 obtain ⟨_,rn⟩:=p.rep.pure hp
 refine ⟨by show 2<=sizeLine;decide,λtp htp=>?_⟩
 have key:∀j e,look (ρ.set i none) j=some e->j≠i/\look ρ j=some e:=λj e h=>by
  rw [look_set] at h
  split at h
  ·cases h
  ·refine ⟨λz=>?_,h⟩
   subst z
   rename_i hn
   exact hn ⟨rfl,look_lt hl⟩
 have sm2:Same H1 (upd H1 tp (.tup [v,u])):=same_upd htp
 have smA:Same H (upd H1 tp (.tup [v,u])):=sm.trans sm2
 have rep:Rep X.K (upd H1 tp (.tup [v,u])) (.tup [d,n]) (.ref tp) (fp i):=by
  have r2:=Reps.append (F:=fp i) (G:=[]) (Reps.one ((h2.same sm).same sm2)) (Reps.one (rn.same sm2))
  rw [List.append_nil] at r2
  exact .tup upd_same r2
 refine l.rt R (.ref tp) σ _ (λa=>W a/\a∉fp i) (ρ.set i none) (.tup [d,n]) (fp i) ⟨fp,?_⟩ ?_ rep (s0.own i d hl ht).1 (λa ha=>⟨λh=>h.2 ha,.inl ((s0.own i d hl ht).2 a ha)⟩) qq
 ·refine ⟨by rw [List.length_set];exact s0.len,λa h=>?_,λj e h=>?_,λj e h t=>⟨(s0.own j e (key j e h).2 t).1,λa ha=>⟨(s0.own j e (key j e h).2 t).2 a ha,λha'=>s0.dis j i e d (key j e h).2 hl t ht (key j e h).1 a ha ha'⟩⟩,
   λj e h t=>s0.ro j e (key j e h).2 t,λa h=>s0.wr a h.1,λa h=>?_,λj k e e' h h' t t'=>s0.dis j k e e' (key j e h).2 (key k e' h').2 t t',s0.fix⟩
  ·obtain ⟨ob,e1,e2⟩:=s0.wd a h.1
   exact ⟨ob,smA a ob e1,e2⟩
  ·obtain ⟨u',a1,a2⟩:=s0.at_ j e (key j e h).2
   exact ⟨u',a1,a2.same smA⟩
  ·obtain ⟨ob,e1,e2⟩:=s0.rd a h
   exact ⟨ob,smA a ob e1,e2⟩
 ·have hdom:∀b,(upd H1 tp (.tup [v,u])) b=none->H b=none:=λb e=>by
   cases q0:H b with
   | none=>rfl
   | some ob=>rw [smA b ob q0] at e;cases e
  exact ⟨λb ob e _=>smA b ob e,hdom,λb ob e _=>smA b ob e,λb h=>.inl h.1⟩
end
end PV
namespace PV
open PySem PySem.Spec L2
section
variable {i j:Int} {x y:Str} {xs ys:List D} {k:D->Prop} {b c:Bool} {d e:D} {kvs kus:List (Key × D)}
theorem r2_add:dAddT (.int i) (.int j) k=k (.int (i+j)):=rfl
theorem r2_addT:dAddT (.tup xs) (.tup ys) k=(pureL xs=true/\pureL ys=true/\xs.length+ys.length<=sizeLine/\k (.tup (xs++ys))):=rfl
theorem r2_addL:dAddT (.lst xs) (.lst ys) k=(pureL xs=true/\pureL ys=true/\xs.length+ys.length<=sizeLine/\k (.lst (xs++ys))):=rfl
theorem r2_slL {lo hi:Option Int}:dSlT (.lst xs) lo hi k=(pureL xs=true/\k (.lst (cutD xs lo hi))):=rfl
theorem r2_slK {lo hi:Option Int}:dSlT (.kls xs) lo hi k=(pureL xs=true/\k (.lst (cutD xs lo hi))):=rfl
theorem r2_noD:wGet2.noDct (.dik kvs)=false:=rfl
theorem r2_get:dGet2 (.dik kvs) (.int i) d k=k ((valD kvs (.inl i)).getD d):=rfl
end
end PV
namespace PV
open PySem PySem.Spec L2
section
variable {ns:List Int} {n:Int} {k:D->Prop} {xs:List D} {kvs:List (Key × D)}
end
end PV
namespace PV
open PySem PySem.Spec L2
section
variable {i j:Int} {k:D->Prop} {xs ys:List D} {bs:List Bool} {d e:D}
theorem r4_two {k:D->D->Prop}:two2 (.tup [d,e]) k=k d e:=rfl
end
end PV
namespace PV
open PySem PySem.Spec L2
open PySem.W (Dat kqdP kqdPs kqdOk)
open PyProof.Rows (reads_tuple_at eq_dataH)
abbrev FnN (K:PySem.W.Frag) (mg:Str->Option Value) (y:Str):Prop:=∃f,mg y=some (.ref f)/\PySem.W.nsIn K mainGlobals y=some (some (.ref f))
mutual
def kcIn (K:PySem.W.Frag):KC->Value->Bool
 | .int i,.int j _=>decide (i=j)
 | .tup ks,.ref a=>match K.lookup a with
  | some ⟨.type t,_,.seq its _,_⟩=>t == "tuple" && (decide (its.size<=1000) && kcsIn K ks its.toList)
  | _=>false
 | _,_=>false
def kcsIn (K:PySem.W.Frag):List KC->List Value->Bool
 | [],[]=>true
 | c::cs,v::vs=>kcIn K c v && kcsIn K cs vs
 | _,_=>false
end
mutual
theorem kcIn_ok {K:PySem.W.Frag}:∀(c:KC) (u:Value),kcIn K c u=true->∃v,RelV v u/\IsKC K c v
 | .int i,u,h=>by
  cases u with
  | int j t =>
   rw [kcIn] at h
   obtain rfl:=of_decide_eq_true h
   exact ⟨.int i,⟨t,rfl⟩,.int i⟩
  | _=>simp [kcIn] at h
 | .tup ks,u,h=>by
  cases u with
  | ref a =>
   rw [kcIn] at h
   split at h
   ·rename_i t d its n sl e
    rw [Bool.and_eq_true,Bool.and_eq_true] at h
    obtain ⟨h1,h2,h3⟩:=h
    have h1:t = "tuple":=by simpa using h1
    subst h1
    obtain ⟨vs,r1,r2⟩:=kcsIn_ok ks its.toList h3
    exact ⟨.ref a,rfl,.tup e rfl rfl (Nat.le_trans (of_decide_eq_true h2) (by decide)) r1 r2⟩
   ·cases h
  | _=>simp [kcIn] at h
 | .any _,u,h=>by simp [kcIn] at h
 | .fn _,u,h=>by simp [kcIn] at h
theorem kcsIn_ok {K:PySem.W.Frag}:∀(cs:List KC) (us:List Value),kcsIn K cs us=true->∃vs,Vals vs us/\AreKC K cs vs
 | [],us,h=>by
  cases us with
  | nil=>exact ⟨[],.nil,.nil⟩
  | cons _ _=>simp [kcsIn] at h
 | c::cs,us,h=>by
  cases us with
  | nil=>simp [kcsIn] at h
  | cons u us =>
   rw [kcsIn,Bool.and_eq_true] at h
   obtain ⟨v,r1,r2⟩:=kcIn_ok c u h.1
   obtain ⟨vs,q1,q2⟩:=kcsIn_ok cs us h.2
   exact ⟨v::vs,.cons r1 q1,.cons r2 q2⟩
end
abbrev KcN (K:PySem.W.Frag) (mg:Str->Option Value) (y:Str) (c:KC):Prop:=∃a,mg y=some (.ref a)/\kcIn K c (.ref a)=true
mutual
def nrmC:KC->D
 | .int i=>.int i
 | .tup ks=>.tup (nrmCs ks)
 | .any _=>.ty .int
 | .fn _=>.ty .int
def nrmCs:List KC->List D
 | []=>[]
 | c::r=>nrmC c::nrmCs r
end
mutual
def nrmD:D->D
 | .tup xs=>.tup (nrmDs xs)
 | .kc c=>nrmC c
 | .non=>.non
 | .bl b=>.bl b
 | .int i=>.int i
 | .str x=>.str x
 | .lst xs=>.lst xs
 | _=>.ty .int
def nrmDs:List D->List D
 | []=>[]
 | d::r=>nrmD d::nrmDs r
end
mutual
inductive DVK (K:PySem.W.Frag) (H:Hp):V->Dat->Prop
 | base {x:V} {d:Dat} (h:DV H x d):DVK K H x d
 | tup {a:Addr} {xs:List V} {ds:List Dat} (e:SqT K H a xs) (r:DVKs K H xs ds):DVK K H (.ref a) (.tuple ds)
inductive DVKs (K:PySem.W.Frag) (H:Hp):List V->List Dat->Prop
 | nil:DVKs K H [] []
 | cons {x:V} {d:Dat} {xs:List V} {ds:List Dat} (h:DVK K H x d) (r:DVKs K H xs ds):DVKs K H (x::xs) (d::ds)
end
mutual
theorem DVK.reads {X:Cx} {pins:List (Addr × Obj)} {σ:St} {H:Hp} {s:Shared} (I:Inv X pins σ H s):∀{x:V} {d:Dat} {u:Value},DVK X.K H x d->RelV x u->∃as,Reads s.heap u (kqdP d) as
 | _,_,_,.base h,r=>h.reads I.hok r
 | _,_,_,.tup (a:=a) e q,r=>by
  cases r
  obtain ⟨its,rv,⟨o,h1,h2,n,h3⟩,_⟩:=I.tuple e
  obtain ⟨as,z⟩:=DVKs.reads I q rv
  rw [kqdP]
  exact ⟨as,reads_tuple_at h1 h2 h3 (by simpa using z)⟩
theorem DVKs.reads {X:Cx} {pins:List (Addr × Obj)} {σ:St} {H:Hp} {s:Shared} (I:Inv X pins σ H s):∀{xs:List V} {ds:List Dat} {us:List Value},DVKs X.K H xs ds->Vals xs us->∃as,ReadsAll s.heap us (kqdPs ds) as
 | _,_,_,.nil,r=>by cases r;exact ⟨_,by rw [kqdPs];exact ReadsAll.nil⟩
 | _,_,_,.cons p q,r=>by
  cases r with
  | cons r1 r2 =>
   obtain ⟨as,z⟩:=DVK.reads I p r1
   obtain ⟨bs,y⟩:=DVKs.reads I q r2
   rw [kqdPs]
   exact ⟨_,ReadsAll.cons z y⟩
end
theorem IsKC.dvk {K:PySem.W.Frag} {H:Hp}:∀(n:Nat) {c:KC} {v:V},IsKC K c v->eqOk n (nrmC c)=true->DVK K H v (toDat (nrmC c))
 | n,.int i,_,h,_=>by cases h;rw [nrmC,toDat];exact .base (.int i)
 | n,.any _,_,_,q=>by rw [nrmC] at q;cases n <;> simp [eqOk] at q
 | n,.fn _,_,_,q=>by rw [nrmC] at q;cases n <;> simp [eqOk] at q
 | 0,.tup _,_,_,q=>by rw [nrmC] at q;simp [eqOk] at q
 | n+1,.tup ks,_,h,q=>by
  obtain ⟨a,xs,rfl,hs,ar⟩:=h.sqT
  rw [nrmC] at q ⊢
  rw [eqOk] at q
  rw [toDat]
  refine .tup (hs H) ?_
  clear h hs
  induction ks generalizing xs with
  | nil=>cases ar;rw [nrmCs,toDats];exact .nil
  | cons c ks ih =>
   cases ar with
   | cons h r =>
    rw [nrmCs,eqOks,Bool.and_eq_true] at q
    rw [nrmCs,toDats]
    exact .cons (IsKC.dvk n h q.1) (ih q.2 _ r)
theorem Rep.dvk {K:PySem.W.Frag} {H:Hp}:∀(n:Nat) {d:D} {v:V} {F:List Addr},Rep K H d v F->eqOk n (nrmD d)=true->DVK K H v (toDat (nrmD d)):=by
 intro n
 induction n with
 | zero =>
  intro d v F r q
  cases d with
  | tup ds=>rw [nrmD] at q;simp [eqOk] at q
  | kc c=>cases r with | kc h=>rw [nrmD] at q ⊢;exact h.dvk 0 q
  | non=>rw [nrmD] at q ⊢;exact .base (r.dv 0 q)
  | int i=>rw [nrmD] at q ⊢;exact .base (r.dv 0 q)
  | str i=>rw [nrmD] at q ⊢;exact .base (r.dv 0 q)
  | bl i=>rw [nrmD] at q ⊢;exact .base (r.dv 0 q)
  | lst i=>rw [nrmD] at q ⊢;exact .base (r.dv 0 q)
  | _=>simp [nrmD,eqOk] at q
 | succ n ih =>
  intro d v F r q
  cases d with
  | tup ds =>
   cases r with
   | @tup a xs _ F e r =>
    rw [nrmD] at q ⊢
    rw [eqOk] at q
    rw [toDat]
    refine .tup (.of e) ?_
    clear e
    induction ds generalizing xs F with
    | nil=>cases r;rw [nrmDs,toDats];exact .nil
    | cons c ks ih2 =>
     cases r with
     | cons h r =>
      rw [nrmDs,eqOks,Bool.and_eq_true] at q
      rw [nrmDs,toDats]
      exact .cons (ih h q.1) (ih2 q.2 r)
  | kc c=>cases r with | kc h=>rw [nrmD] at q ⊢;exact h.dvk _ q
  | non=>rw [nrmD] at q ⊢;exact .base (r.dv _ q)
  | int i=>rw [nrmD] at q ⊢;exact .base (r.dv _ q)
  | str i=>rw [nrmD] at q ⊢;exact .base (r.dv _ q)
  | bl i=>rw [nrmD] at q ⊢;exact .base (r.dv _ q)
  | lst i=>rw [nrmD] at q ⊢;exact .base (r.dv _ q)
  | _=>simp [nrmD,eqOk] at q
def dEqC:G2:=λa b k=>eqOk 9 (nrmD a)=true/\eqOk 9 (nrmD b)=true/\(nrmD a=nrmD b->k (.bl true))/\(nrmD a≠nrmD b->k (.bl false))
section
variable {X:Cx}
def rDatK (K:PySem.W.Frag):R2:=λx y H Q=>∃d e n,DVK K H x d/\DVK K H y e/\kqdOk n d=true/\kqdOk n e=true/\n<=9/\((d=e->Q (.bl true) H)/\(d≠e->Q (.bl false) H))
theorem op_eqKC (hu:X.A.units+64<cLine):OpR X (compareOp .Eq) (rDatK X.K):=by
 classical
 intro pins s σ H x y v u Q I rx ry h
 obtain ⟨d,e,n,dx,dy,hd,he,hn,q1,q2⟩:=h
 obtain ⟨as,ra⟩:=dx.reads I rx
 obtain ⟨bs,rb⟩:=dy.reads I ry
 refine eq_dataH ra rb (dat_shaped hd hn) (dat_shaped he hn) hu ?_
 rw [dat_eqv hd he]
 by_cases hq:d=e
 ·rw [decide_eq_true hq];exact ⟨.bl true,H,I,rfl,q1 hq⟩
 ·rw [decide_eq_false hq];exact ⟨.bl false,H,I,rfl,q2 hq⟩
theorem od_eqC (hu:X.A.units+64<cLine):OpD X (compareOp .Eq) dEqC:=by
 refine ⟨_,op_eqKC hu,λH a b x y F1 F2 k Q ra rb g q=>?_⟩
 obtain ⟨h1,h2,g1,g2⟩:=g
 refine ⟨toDat (nrmD a),toDat (nrmD b),9,ra.dvk 9 h1,rb.dvk 9 h2,eqOk_kqd 9 _ h1,eqOk_kqd 9 _ h2,Nat.le_refl _,λe=>?_,λe=>?_⟩
 ·exact q _ _ _ _ (.flat (.bl true)) (g1 (toDat_inj 9 9 _ _ h1 h2 e))
 ·exact q _ _ _ _ (.flat (.bl false)) (g2 λz=>e (by rw [z]))
end
section
variable {X:Cx} {T:Tg} {m o o1 o2:Bool} {e a b e₀:Expr} {es:List Expr} {w wa wb:WE} {pos p2 p np cpos hpos px:Pos} {wr:WA} {x y:Str} {ws wh:WS} {k:Nat} {ps:List Str}
theorem ev_fnv (hB:FnN X.K X.mg y) (hg:Gl X y:=by rfl) (hd:(y == ("__debug__" : Str))=false:=by decide):EV X T false true (.Name y pos) (wC (.kc (.fn y))):=by
 obtain ⟨f,b1,b2⟩:=hB
 exact ev_const (pe_glob hg b1 (v:=.ref f) rfl hd) λ_=>.kc (.fn b2)
theorem ev_kc {c:KC} (hB:KcN X.K X.mg y c) (hg:Gl X y:=by rfl) (hd:(y == ("__debug__" : Str))=false:=by decide):EV X T false true (.Name y pos) (wC (.kc c)):=by
 obtain ⟨f,b1,b2⟩:=hB
 obtain ⟨v,r1,r2⟩:=kcIn_ok c _ b2
 exact ev_const (pe_glob hg b1 (v:=v) r1 hd) λ_=>.kc r2
def wCallV (i:Nat) (y:Str) (g:GA) (wr:WA):WE:=λρ Q=>look ρ i=some (.kc (.fn y))/\wr ρ λds ρ'=>g ds λd=>Q d ρ'
theorem ev_callFn {i:Nat} {g:GA} (C:Cal X.prog X.w X.K X.mg X.base y k ps (spR X.K g)) (hB:FnN X.K X.mg y) (hr:Room k X.A) (ha:AV X T m o (e::es) wr) (hN:X.N[i]? = some x:=by rfl)
  (hv:Vis X.env.scope x:=by first | exact Or.inl rfl | exact Or.inr (Or.inl rfl) | exact Or.inr (Or.inr rfl)) (hd:(x == ("__debug__" : Str))=false:=by decide) (hcd:(x == ("__classdict__" : Str))=false:=by decide)
  (he:starEach (e::es) X.env=(false,eval e X.env)::starEach es X.env:=by rfl) (hpl:(backTo pos (starEach es X.env)).any (·.1)=false:=by rfl) :
  EV X T m true (.Call (.Name x p) (e::es) [] pos) (wCallV i y g wr):=by
 obtain ⟨f,fd,F,h1,h2,h3⟩:=C
 obtain ⟨f',b1,b2⟩:=hB
 rw [h1] at b1
 cases b1
 obtain ⟨ta,pa,ga⟩:=ha
 refine ⟨_,pe_callVar F hr h2 h3 pa hN hv hd hcd he hpl,λz R σ H W ρ Q Q' s hw k=>?_⟩
 obtain ⟨hl,hw⟩:=hw
 obtain ⟨fp,s0⟩:=id s
 obtain ⟨v,hv1,rv⟩:=s0.at_ i _ hl
 obtain ⟨_,rv⟩:=rv.pure (by rw [D.pure])
 cases rv with
 | kc h =>
  cases h with
  | fn h =>
   have e:=h.symm.trans b2
   cases e
   refine ⟨hv1,ga z R σ H W ρ _ _ s hw λvs H1 W1 ds ρ1 F p q=>?_⟩
   exact ⟨ds,F,_,p.rep,q,λv H' d F' fi hk=>k v H' W1 d ρ1 F' (Post.fin p.sr p.fr p.calm fi.same fi.rep fi.nd fi.new) hk⟩
def enLOf (d:D) (k:List D->Prop):Prop:=match d with
 | .lst es=>pureL es=true/\k (enumD 0 es)
 | _=>False
def wEnumP (i:Nat):WL:=λρ Q=>oget (look ρ i) λd=>enLOf d λl=>Q l ρ
theorem iv_enumP {i:Nat} {ts:List Expr} {kt:Nat} {pt:Pos} (hm:X.mg "enumerate" = none) (ht:T.own i=false:=by rfl) (hN:X.N[i]? = some x:=by rfl) (hv:Vis X.env.scope x:=by first | exact Or.inl rfl | exact Or.inr (Or.inl rfl) | exact Or.inr (Or.inr rfl)) (hd:(x == ("__debug__" : Str))=false:=by decide)
  (hcd:(x == ("__classdict__" : Str))=false:=by decide) (hg:Gl X "enumerate":=by rfl) (hs:starEach [.Name x p2] X.env=[(false,eval (.Name x p2) X.env)]:=by rfl) (hs2:starEach [.Name x p2] X.env=(false,eval (.Name x p2) X.env)::starEach [] X.env:=by rfl) :
  IV X T false true (.Tuple ts kt pt) (.Call (.Name "enumerate" p) [.Name x p2] [] pos) (wEnumP i):=by
 refine ⟨_,pi_enumL hg hm (pa_cons (pe_var hN hv hd hcd) pa_nil hs2) hs,λz R σ H W ρ Q RR s hw k=>?_⟩
 obtain ⟨d,hl,q⟩:=oget_some hw
 obtain ⟨fp,s0⟩:=id s
 obtain ⟨v,h1,r0⟩:=s0.at_ i d hl
 have nW:∀b∈fp i,¬W b:=λb hb hw=>s0.wr b hw (s0.ro i d hl ht b hb)
 refine ⟨v,h1,?_⟩
 generalize fp i=G at r0 nW
 cases d with
 | lst es =>
  obtain ⟨hp,q⟩:=q
  cases r0 with
  | @lst a xs _ F e1 r =>
   obtain ⟨hF,r⟩:=r.pure hp
   subst hF
   refine ⟨a,rfl,⟨xs,.of e1⟩,k _ H W _ ρ ⟨s,FrW.refl H W,λ_=>⟨Same.refl H,rfl,rfl⟩⟩ (λi H2 W2 f=>?_) q⟩
   rw [wz_true] at f
   have e2:H2 a=some (.lst xs):=f.keep _ _ e1 (nW a List.mem_cons_self)
   refine ⟨λhi=>⟨xs,.of e2,by rw [r.length];rwa [enumD_length] at hi⟩,λd hd=>?_⟩
   rw [enumD_get] at hd
   cases hd':es[i]? with
   | none=>rw [hd'] at hd;cases hd
   | some d' =>
    rw [hd'] at hd
    obtain ⟨x,B,hx,rx,sx⟩:=r.get hd'
    refine ⟨⟨xs,x,.of e2,hx⟩,λv H3 y=>?_⟩
    obtain ⟨x',t,h1,rfl,h3,rfl⟩:=y xs (.of e2)
    rw [hx] at h1
    cases h1
    have hB:B=[]:=List.sublist_nil.mp sx
    subst hB
    refine ⟨same_upd h3,[],?_,λa m=>nomatch m⟩
    cases hd
    rw [Nat.zero_add]
    exact .tup upd_same (.cons (F:=[]) (G:=[]) (.int _) (Reps.one ((rx.keep f λa m=>nomatch m).same (same_upd h3))))
 | _=>exact (show False from q).elim
def wSetX (i:Nat) (g:GX) (wr:WA):WS:=λP ρ=>wr ρ λds ρ'=>g ds (λd=>P.nx (ρ'.set i (some d))) λd=>P.xc d ρ'
theorem sv_setX {i k:Nat} {f:Str} {ps:List Str} {g:GX} (C:CalX X.prog X.w X.K X.mg X.base f k ps (spX X.K g)) (hr:Room k X.A) (hX:PassOk X T) (ha:AV X.nox T false o (e₀::es) wr) (hN:X.N.Nodup)
  (hi:X.N[i]? = some y:=by rfl) (hio:i∉T.io:=by first | exact List.not_mem_nil | decide) (hg:Gl X f:=by rfl) (hy:Loc X.env.scope y:=by first | exact Or.inl rfl | exact Or.inr rfl) (hs:swapsWith (.Call (.Name f p) (e₀::es) [] cpos) (some (.Name y px)) p2.line X.env=pure false:=by rfl)
  (hf:X.fn y=true\/X.env.scope.names.lookup y=some .local:=by first | exact .inl rfl | exact .inr rfl | assumption) (hdb:(f == ("__debug__" : Str))=false:=by decide)
  (he:starEach (e₀::es) X.env=(false,eval e₀ X.env)::starEach es X.env:=by rfl) (hpl:(backTo cpos (starEach es X.env)).any (·.1)=false:=by rfl) :
  SV X T (.Assign [.Name y px] (.Call (.Name f p) (e₀::es) [] cpos) p2) (wSetX i g wr):=by
 obtain ⟨fa,fd,F,h1,h2,h3⟩:=C
 obtain ⟨ta,pa,ga⟩:=ha
 refine ⟨_,ps_setX (Ξ:=λC σ H'=>∃x,atN X.K x C/\T.xe (.obj x []) σ H') F hr hg h1 h2 h3 pa hX hN hi hy hs hf hdb he hpl,λz R σ H W ρ P E s hw l=>?_⟩
 refine ga z R σ H W ρ _ _ s hw λvs H1 W1 ds ρ1 Fp p q=>?_
 obtain ⟨sm0,hW,hρ⟩:=p.calm rfl
 refine ⟨ds,Fp,_,_,p.rep,q,λv H' d F' fi hk=>?_,λx C H' hn sm hk=>⟨C,rfl,x,hn,?_⟩⟩
 ·obtain ⟨fp,s1⟩:=p.sr.same fi.same
  obtain ⟨fp0,s00⟩:=id p.sr
  have nW:∀a∈F',¬W1 a:=λa ha hw=>by
   obtain ⟨ob,e1,_⟩:=s00.wd a hw
   rw [fi.new a ha] at e1
   cases e1
  obtain ⟨R',s2⟩:=s1.bind (i:=i) hio fi.rep fi.nd (λa ha=>⟨nW a ha,p.sr.nr (fi.new a ha)⟩)
  refine l.nx R' _ H' _ _ s2 (frw_more (p.fr.trans (FrW.same W1 fi.same)) λa h=>?_) hk
  cases q:H a with
  | none=>rfl
  | some ob =>
   have:=fi.new a h.2
   rw [sm0 a ob q] at this
   cases this
 ·exact l.xc R σ H' W1 ρ1 _ (p.sr.same sm) (p.fr.trans (FrW.same W1 sm)) hk
def wTryE (g:GX) (wr:WA) (cat:Str->Bool) (wh:WS):WS:=λP ρ=>wr ρ λds ρ'=>g ds (λ_=>P.nx ρ') λd=>match d with
 | .obj x []=>cat x=true/\wh P ρ'
 | _=>False
theorem sv_tryE {k:Nat} {f cx:Str} {ps:List Str} {g:GX} {cat:Str->Bool} {C0:Addr} {b₀:Stmt} {suite:List Stmt} (C:CalX X.prog X.w X.K X.mg X.base f k ps (spX X.K g)) (hr:Room k X.A) (hp:X.Plain) (ha:AV X.nox T false o (e₀::es) wr) (hcx:X.mg cx=some (.ref C0))
  (hcat:∀x C,cat x=true->atN X.K x C->PySem.W.exmOne X.K (.ref C) (.ref C0)=some true) (hh:∀ea,SVs (X.han ea) T (b₀::suite) wh)
  (hg:Gl X f:=by rfl) (hgc:Gl X cx:=by rfl) (hs:swapsWith (.Call (.Name f p) (e₀::es) [] cpos) none p2.line X.env=pure false:=by rfl)
  (hdb:(f == ("__debug__" : Str))=false:=by decide) (hdc:(cx == ("__debug__" : Str))=false:=by decide)
  (he:starEach (e₀::es) X.env=(false,eval e₀ X.env)::starEach es X.env:=by rfl) (hpl:(backTo cpos (starEach es X.env)).any (·.1)=false:=by rfl) :
  SV X T (.Try [.Expr (.Call (.Name f p) (e₀::es) [] cpos) p2] [.ExceptHandler (some (.Name cx np)) none (b₀::suite) hpos] [] [] pos) (wTryE g wr cat wh):=by
 obtain ⟨fa,fd,F,h1,h2,h3⟩:=C
 obtain ⟨ta,pa,ga⟩:=ha
 have hh':∃th:TS,(∀ea,PSs (X.han ea) (b₀::suite) th)/\∀(z:Nat->V) (R:Addr->Prop) (σ:St) (H:Hp) (W:Addr->Prop) (ρ:Env) (P:EndsP) (E:Ends),SR X.K T z R H W σ ρ->wh P ρ->Lk X.K T z H W P E->th E σ H:=by
  refine ⟨λE σ H=>∃(z:Nat->V) (R:Addr->Prop) (W:Addr->Prop) (ρ:Env) (P:EndsP),SR X.K T z R H W σ ρ/\wh P ρ/\Lk X.K T z H W P E,λea=>?_,λz R σ H W ρ P E s hw l=>⟨z,R,W,ρ,P,s,hw,l⟩⟩
  obtain ⟨t1,p1,g1⟩:=hh ea
  intro pins s σ H D I ⟨z,R,W,ρ,P,s0,hw,l⟩
  exact p1 pins s σ H D I (g1 z R σ H W ρ P D s0 hw l)
 obtain ⟨th,ph,gh⟩:=hh'
 refine ⟨_,ps_tryN (C0:=C0) hp (tries_expr F hr hg h1 h2 h3 pa hs hdb he hpl) hcx hgc ph hdc,λz R σ H W ρ P E s hw l=>?_⟩
 refine ga z R σ H W ρ _ _ s hw λvs H1 W1 ds ρ1 Fp p q=>?_
 refine ⟨ds,Fp,_,_,p.rep,q,λv H' d F' fi hk=>?_,λx C H' hn sm hk=>?_⟩
 ·exact l.nx R _ H' W1 ρ1 (p.sr.same fi.same) (p.fr.trans (FrW.same W1 fi.same)) hk
 ·obtain ⟨hc1,hk⟩:=hk
  refine ⟨C,rfl,hcat x C hc1 hn,λea ob φ hcl hne=>?_⟩
  have smu:Same H' (upd H' ea (.frz ob (.ext φ))):=same_upd hne
  exact gh z R σ _ W1 ρ1 P E ((p.sr.same sm).same smu) hk (l.step ((p.fr.trans (FrW.same W1 sm)).trans (FrW.same W1 smu)))
def mvOf (d:D) (k:List D->List D->Prop):Prop:=match d with
 | .tup (.lst xs::ds)=>k xs ds
 | _=>False
theorem mv_inv {d:D} {k:List D->List D->Prop} (h:mvOf d k):∃xs ds,d=.tup (.lst xs::ds)/\k xs ds:=by
 cases d with
 | tup l =>
  cases l with
  | nil=>exact (show False from h).elim
  | cons d0 ds =>
   cases d0 with
   | lst xs=>exact ⟨xs,ds,rfl,h⟩
   | _=>exact (show False from h).elim
 | _=>exact (show False from h).elim
def wMv0 (i j:Nat):WS:=λP ρ=>oget (look ρ j) λd=>mvOf d λxs ds=>pureL ds=true/\∀a,P.nx ((ρ.set j (some (.tup (.kc (.any a)::ds)))).set i (some (.lst xs)))
theorem sv_mv0 {i j:Nat} {pos' p1 ps1:Pos} {j1} (hN:X.N.Nodup) (tj:T.own j=true:=by rfl) (ti:T.own i=true:=by rfl) (hj:X.N[j]? = some y:=by rfl) (hi:X.N[i]? = some x:=by rfl) (hv:Vis X.env.scope y:=by first | exact Or.inl rfl | exact Or.inr (Or.inl rfl) | exact Or.inr (Or.inr rfl))
  (hd:(y == ("__debug__" : Str))=false:=by decide) (hcd:(y == ("__classdict__" : Str))=false:=by decide) (hio:i∉T.io:=by first | exact List.not_mem_nil | decide) (hjo:j∉T.io:=by first | exact List.not_mem_nil | decide) (hx:Loc X.env.scope x:=by first | exact Or.inl rfl | exact Or.inr rfl) (hs1:PlainIx (.Constant (.int 0) j1 p1):=by intro _ _;rfl)
  (hs:swapsWith (.Subscript (.Name y p) (.Constant (.int 0) j1 p1) ps1) (some (.Name x pos')) pos.line X.env=pure false:=by rfl) (hf:X.fn x=true\/X.env.scope.names.lookup x=some .local:=by first | exact .inl rfl | exact .inr rfl | assumption) :
  SV X T (.Assign [.Name x pos'] (.Subscript (.Name y p) (.Constant (.int 0) j1 p1) ps1) pos) (wMv0 i j):=by
 refine ⟨_,ps_set hN hi hx (pe_ix ix_tup (pe_var hj hv hd hcd) pe_int hs1) hs hf,λz R σ H W ρ P E s hw l=>?_⟩
 obtain ⟨d,hl,q⟩:=oget_some hw
 obtain ⟨xs,ds,rfl,hp,q⟩:=mv_inv q
 obtain ⟨fp,s0⟩:=s
 obtain ⟨v,h1,h2⟩:=s0.at_ j _ hl
 obtain ⟨nd,sw⟩:=s0.own j _ hl tj
 have inv:∃tp l0 us,v=.ref tp/\H tp=some (.tup (.ref l0::us))/\Rep X.K H (.lst xs) (.ref l0) (fp j)/\Reps X.K H ds us []:=by
  generalize fp j=G at h2
  cases h2 with
  | @tup tp vs _ F e1 r =>
   cases r with
   | @cons _ v0 _ us F1 F2 ra rb =>
    obtain ⟨z2,rb⟩:=rb.pure hp
    subst z2
    rw [List.append_nil]
    cases ra with
    | @lst l0 ys _ F3 e2 r3=>exact ⟨tp,l0,us,rfl,e1,.lst e2 r3,rb⟩
 obtain ⟨tp,l0,us,rfl,e1,rl,rds⟩:=inv
 have key:∀k e,look (ρ.set j (some (.tup (.kc (.any l0)::ds)))) k=some e->(k=j/\e=.tup (.kc (.any l0)::ds))\/(k≠j/\look ρ k=some e):=λk e h=>by
  rw [look_set] at h
  split at h
  ·rename_i hn;cases h;exact .inl ⟨hn.1,rfl⟩
  ·rename_i hn
   refine .inr ⟨λz=>hn ⟨z,?_⟩,h⟩
   exact look_lt hl
 have s1:SR0 X.K T z R H (λa=>W a/\a∉fp j) σ (ρ.set j (some (.tup (.kc (.any l0)::ds)))) (λk=>if k=j then [] else fp k):=by
  refine ⟨by rw [List.length_set];exact s0.len,λa h=>s0.wd a h.1,λk e h=>?_,λk e h t=>?_,λk e h t=>?_,λa h=>s0.wr a h.1,s0.rd,λk n e e' h h' t t' hne=>?_,s0.fix⟩
  ·rcases key k e h with ⟨rfl,rfl⟩ | ⟨hk,h⟩
   ·refine ⟨_,h1,?_⟩
    rw [if_pos rfl]
    exact .tup e1 (.cons (F:=[]) (G:=[]) (.kc (.any l0)) rds)
   ·obtain ⟨u,a1,a2⟩:=s0.at_ k e h
    refine ⟨u,a1,?_⟩
    rw [if_neg hk];exact a2
  ·rcases key k e h with ⟨rfl,rfl⟩ | ⟨hk,h⟩
   ·simp only [if_pos];exact ⟨List.nodup_nil,λa m=>nomatch m⟩
   ·simp only [if_neg hk]
    exact ⟨(s0.own k e h t).1,λa ha=>⟨(s0.own k e h t).2 a ha,λha'=>s0.dis k j e _ h hl t tj hk a ha ha'⟩⟩
  ·rcases key k e h with ⟨rfl,rfl⟩ | ⟨hk,h⟩
   ·rw [tj] at t;cases t
   ·simp only [if_neg hk];exact s0.ro k e h t
  ·rcases key k e h with ⟨rfl,rfl⟩ | ⟨hk,h⟩
   ·simp only [if_pos];exact λa m=>nomatch m
   ·rcases key n e' h' with ⟨rfl,rfl⟩ | ⟨hn,h'⟩
    ·simp only [if_pos];exact λa _ m=>nomatch m
    ·simp only [if_neg hk,if_neg hn]
     exact s0.dis k n e e' h h' t t' hne
 obtain ⟨R',s2⟩:=s1.bind (i:=i) hio rl nd (λa ha=>⟨λh=>h.2 ha,s0.wr a (sw a ha)⟩)
 refine ⟨_,h1,tp,_,0,.ref l0,rfl,rfl,.of e1,atI_nat (j:=0) rfl,l.nx R' _ H _ _ s2 ⟨λb ob e _=>e,λb e=>e,λb ob e _=>e,λb h=>?_⟩ (q l0)⟩
 rcases h with h | ⟨_,h⟩
 ·exact .inl h.1
 ·exact .inl (sw b h)
def unpOf (d:D) (k:D->D->Prop):Prop:=match d with
 | .tup [a,b]=>k a b
 | _=>False
theorem unp_inv {d:D} {k:D->D->Prop} (h:unpOf d k):∃a b,d=.tup [a,b]/\k a b:=by
 cases d with
 | tup l =>
  cases l with
  | nil=>exact (show False from h).elim
  | cons a l =>
   cases l with
   | nil=>exact (show False from h).elim
   | cons b l =>
    cases l with
    | nil=>exact ⟨a,b,rfl,h⟩
    | cons _ _=>exact (show False from h).elim
 | _=>exact (show False from h).elim
def wUnp (i j:Nat) (w:WE):WS:=λP ρ=>w ρ λd ρ'=>unpOf d λa b=>P.nx ((ρ'.set i (some a)).set j (some b))
theorem sv_unp {i j:Nat} {px py pt:Pos} {kt:Nat} (he:EV X T m true e w) (hN:X.N.Nodup) (hi:X.N[i]? = some x:=by rfl) (hj:X.N[j]? = some y:=by rfl) (ti:T.own i=true:=by rfl) (hio:i∉T.io:=by first | exact List.not_mem_nil | decide) (hjo:j∉T.io:=by first | exact List.not_mem_nil | decide)
  (hx:Loc X.env.scope x:=by first | exact Or.inl rfl | exact Or.inr rfl) (hy:Loc X.env.scope y:=by first | exact Or.inl rfl | exact Or.inr rfl) (hc:X.calm=true:=by rfl)
  (hf:X.fn x=true\/X.env.scope.names.lookup x=some .local:=by first | exact .inl rfl | exact .inr rfl | assumption) (hf2:X.fn y=true\/X.env.scope.names.lookup y=some .local:=by first | exact .inl rfl | exact .inr rfl | assumption)
  (hs:swapsWithSole [.Tuple [.Name x px,.Name y py] kt pt] e pos.line X.env=pure false:=by rfl) (hw:swappedStores [.Tuple [.Name x px,.Name y py] kt pt] e X.env=pure none:=by rfl)
  (h1:(assignEach [.Tuple [.Name x px,.Name y py] kt pt] X.env).map (·.2)=[assign (.Tuple [.Name x px,.Name y py] kt pt) X.env]:=by rfl) :
  SV X T (.Assign [.Tuple [.Name x px,.Name y py] kt pt] e pos) (wUnp i j w):=by
 obtain ⟨te,pe,ge⟩:=he
 refine ⟨_,ps_asg pe (pg_tup hc (pgs_cons (pg_name (i:=i) hN hi hx hf) (pgs_cons (pg_name (i:=j) hN hj hy hf2) pgs_nil))) hs hw h1,λz R σ H W ρ P E s hw l=>ge z R σ H W ρ _ _ s hw λv H1 W1 d ρ1 F p q=>?_⟩
 obtain ⟨a,b,rfl,q⟩:=unp_inv q
 obtain ⟨nd,nw⟩:=p.own rfl
 have inv:∃tp v1 v2 F1 F2,v=.ref tp/\H1 tp=some (.tup [v1,v2])/\Rep X.K H1 a v1 F1/\Rep X.K H1 b v2 F2/\F=F1++F2:=by
  have rp:=p.rep
  clear p nd nw
  cases rp with
  | @tup tp vs _ F e1 r =>
   cases r with
   | @cons _ v0 _ us F1 F2 ra rb =>
    cases rb with
    | @cons _ v1 _ us F3 F4 rb rc =>
     cases rc
     exact ⟨tp,v0,v1,F1,F3,rfl,e1,ra,rb,by simp⟩
 obtain ⟨tp,v1,v2,F1,F2,rfl,e1,r1,r2,rfl⟩:=inv
 obtain ⟨fp,s1⟩:=p.sr
 have n1:∀c∈F1,¬W1 c/\¬R c:=λc hc=>⟨(nw c (List.mem_append.mpr (.inl hc))).2,s.nr (nw c (List.mem_append.mpr (.inl hc))).1⟩
 have n2:∀c∈F2,¬W1 c/\¬R c:=λc hc=>⟨(nw c (List.mem_append.mpr (.inr hc))).2,s.nr (nw c (List.mem_append.mpr (.inr hc))).1⟩
 obtain ⟨nd1,nd2,dis⟩:=List.nodup_append.mp nd
 obtain ⟨fp2,s2⟩:=s1.bindE (i:=i) hio r1 nd1 n1
 have n3:∀c∈F2,¬(W1 c\/(T.own i=true/\c∈F1))/\¬(R c\/(T.own i=false/\c∈F1)):=λc hc=>by
  refine ⟨λh=>?_,λh=>?_⟩
  ·rcases h with h | h
   ·exact (n2 c hc).1 h
   ·exact dis c h.2 c hc rfl
  ·rcases h with h | h
   ·exact (n2 c hc).2 h
   ·rw [ti] at h;cases h.1
 obtain ⟨R3,s3⟩:=s2.bind (i:=j) hjo r2 nd2 n3
 exact ⟨tp,[v1,v2],rfl,.of e1,rfl,v1,[v2],rfl,v2,[],rfl,rfl,l.nx R3 _ H1 _ _ s3 (frw_more (frw_more p.fr λc h=>(nw c (List.mem_append.mpr (.inl h.2))).1) λc h=>(nw c (List.mem_append.mpr (.inr h.2))).1) q⟩
theorem SR.other {K:PySem.W.Frag} {z:Nat->V} {R:Addr->Prop} {H:Hp} {W:Addr->Prop} {σ:St} {ρ:Env} {l0:Addr} {o0 ob:HO} (s:SR K T z R H W σ ρ) (e:H l0=some o0) (him:imm o0=false) (nW:¬W l0) (nR:¬R l0):SR K T z R (upd H l0 ob) W σ ρ:=by
 obtain ⟨fp,s0⟩:=s
 have n1:∀{a},W a->a≠l0:=λh z=>nW (z ▸ h)
 have n2:∀{a},R a->a≠l0:=λh z=>nR (z ▸ h)
 refine ⟨fp,s0.len,λa h=>?_,λi d h=>?_,s0.own,s0.ro,s0.wr,λa h=>?_,s0.dis,s0.fix⟩
 ·obtain ⟨u,h1,h2⟩:=s0.wd a h
  exact ⟨u,by rw [upd_ne (n1 h)];exact h1,h2⟩
 ·obtain ⟨v,h1,h2⟩:=s0.at_ i d h
  refine ⟨v,h1,h2.frame (imm_upd e him) λb hb=>upd_ne ?_⟩
  cases t:T.own i with
  | true=>exact n1 ((s0.own i d h t).2 b hb)
  | false=>exact n2 (s0.ro i d h t b hb)
 ·obtain ⟨u,h1,h2⟩:=s0.rd a h
  exact ⟨u,by rw [upd_ne (n2 h)];exact h1,h2⟩
def wTkE (w:WE):WS:=λP ρ=>w ρ λd ρ'=>mvOf d λxs _=>xs.length<sizeLine/\P.nx ρ'
theorem sv_tkE {n:Int} {j1 j2} {ps1 ap2 cp2 p1 p2:Pos} (he:EV X T m true e w) (hs1:PlainIx (.Constant (.int 0) j1 p1):=by intro _ _;rfl)
  (b2:attributeBase (.Subscript e (.Constant (.int 0) j1 p1) ps1) "append" X.env (eval (.Subscript e (.Constant (.int 0) j1 p1) ps1) X.env)=eval (.Subscript e (.Constant (.int 0) j1 p1) ps1) X.env:=by rfl)
  (f2:((backTo cp2 (starEach [.Constant (.int n) j2 p2] X.env)).all (λx=>!x.1) && (backToKw cp2 (keywordEach [] X.env)).all (λx=>x.1.isSome)
   && decide (([.Constant (.int n) j2 p2]:List Expr).length+([]:List Keyword).length+(if ([]:List Keyword).isEmpty then 0 else 1)<30))=true:=by rfl)
  (l2:(ap2.endLine == cp2.line)=true:=by rfl) (s2:starEach [.Constant (.int n) j2 p2] X.env=(false,eval (.Constant (.int n) j2 p2) X.env)::starEach [] X.env:=by rfl) (q2:(backTo cp2 (starEach [] X.env)).any (·.1)=false:=by rfl)
  (hs:swapsWith (.Call (.Attribute (.Subscript e (.Constant (.int 0) j1 p1) ps1) "append" ap2) [.Constant (.int n) j2 p2] [] cp2) none pos.line X.env=pure false:=by rfl) :
  SV X T (.Expr (.Call (.Attribute (.Subscript e (.Constant (.int 0) j1 p1) ps1) "append" ap2) [.Constant (.int n) j2 p2] [] cp2) pos) (wTkE w):=by
 obtain ⟨te,pe,ge⟩:=he
 refine ⟨_,ps_expr (pe_bm PySem.F.plainAttrs_list PySem.F.slot_list_append PySem.F.type_list_append mt_append (pe_ix ix_tup pe pe_int hs1) (pa_cons pe_int pa_nil s2) b2 f2 l2 s2 q2) hs,λz R σ H W ρ P E s hw l=>?_⟩
 refine ge z R σ H W ρ _ _ s hw λv H1 W1 d ρ1 F p q=>?_
 obtain ⟨xs,ds,rfl,hz,q⟩:=mv_inv q
 obtain ⟨nd,nw⟩:=p.own rfl
 have inv:∃tp l0 us ys,v=.ref tp/\H1 tp=some (.tup (.ref l0::us))/\H1 l0=some (.lst ys)/\ys.length=xs.length/\l0∈F:=by
  have rp:=p.rep
  clear p nd nw
  cases rp with
  | @tup tp vs _ F e1 r =>
   cases r with
   | @cons _ v0 _ us F1 F2 ra rb =>
    cases ra with
    | @lst l0 ys _ F3 e2 r3=>exact ⟨tp,l0,us,ys,rfl,e1,e2,r3.length,by simp⟩
 obtain ⟨tp,l0,us,ys,rfl,e1,e2,hlen,hm⟩:=inv
 obtain ⟨w1,w2⟩:=nw l0 hm
 refine ⟨tp,_,0,.ref l0,rfl,rfl,.of e1,atI_nat (j:=0) rfl,.inl ⟨rfl,_,.of e2⟩,l0,ys,.int n,rfl,rfl,e2,by rw [hlen];exact hz,?_⟩
 have nb:∀{b ob},H b=some ob->b≠l0:=λh z=>by rw [z,w1] at h;cases h
 refine l.nx R σ _ W1 ρ1 (p.sr.other e2 rfl w2 (s.nr w1)) ⟨λb ob h n=>?_,λb h=>?_,λb ob h i=>?_,p.fr.new⟩ q
 ·rw [upd_ne (nb h)];exact p.fr.keep b ob h n
 ·by_cases hb:b=l0
  ·rw [hb];exact w1
  ·rw [upd_ne hb] at h;exact p.fr.dom b h
 ·rw [upd_ne (nb h)];exact p.fr.imm b ob h i
end
theorem r16_mv {xs ds:List D} {k:List D->List D->Prop}:mvOf (.tup (.lst xs::ds)) k=k xs ds:=rfl
theorem r16_unp {a b:D} {k:D->D->Prop}:unpOf (.tup [a,b]) k=k a b:=rfl
theorem r16_en {es:List D} {k:List D->Prop}:enLOf (.lst es) k=(pureL es=true/\k (enumD 0 es)):=rfl
theorem r16_seqC {ks:List KC} {k:List D->Prop}:seqOf (.kc (.tup ks)) k=k (ks.map kcD):=rfl
theorem r16_two {a b:KC} {k:D->D->Prop}:two2 (.kc (.tup [a,b])) k=k (kcD a) (kcD b):=rfl
end PV
namespace PV
open PySem PySem.Spec L2
theorem pick3 {a b c:D} {r:Int} (h0:0<=r) (h1:r<3):L2.atI [a,b,c] r=some a\/L2.atI [a,b,c] r=some b\/L2.atI [a,b,c] r=some c:=by
 have:r=0\/r=1\/r=2:=by omega
 rcases this with rfl | rfl | rfl
 ·exact .inl rfl
 ·exact .inr (.inl rfl)
 ·exact .inr (.inr rfl)
theorem pure_rngD {lo:Int} {n:Nat}:pureL (rngD lo n)=true:=pureL_map λ_ _=>rfl
theorem pure_ints {ns:List Int}:pureL (ns.map D.int)=true:=pureL_map λ_ _=>rfl
theorem cut_from {ds:List D} {a:Nat} (h:a<=ds.length):cutD ds (some (a:Int)) none=ds.drop a:=by
 unfold cutD
 rw [HT.sIx_nat,HT.sIx_none,Nat.min_eq_left h,List.take_of_length_le (by simp)]
theorem cut_to {ds:List D} {b:Nat}:cutD ds none (some (b:Int))=ds.take b:=by
 unfold cutD
 rw [HT.sIx_nat,HT.sIx_none,List.drop_zero,Nat.sub_zero]
 by_cases h:b<=ds.length
 ·rw [Nat.min_eq_left h]
 ·rw [Nat.min_eq_right (by omega),List.take_of_length_le (by omega),List.take_of_length_le (by omega)]
def rowD (c n:Int):D:=.lst [.int c,.int n]
structure Pr (N:Nat) (xs:List Int) (t:Nat) (L:List Nat) (Bs:List Int) (ps:List (Nat × Nat)):Prop where
 bl:Bs.length=N
 pl:ps.length=t
 perm:(ps.flatMap (λp=>[p.1,p.2])++L).Perm (List.range N)
 val:∀(s:Nat) p,ps[s]? = some p->∃x,xs[s]? = some x/\Bs[p.1]? = some x/\Bs[p.2]? = some x
theorem Pr.lt {N:Nat} {xs:List Int} {t:Nat} {L:List Nat} {Bs:List Int} {ps:List (Nat × Nat)} (h:Pr N xs t L Bs ps) {i:Nat} (hi:i∈L):i<N:=by
 have:=h.perm.mem_iff.mp (List.mem_append.mpr (.inr hi))
 exact List.mem_range.mp this
theorem Pr.nd {N:Nat} {xs:List Int} {t:Nat} {L:List Nat} {Bs:List Int} {ps:List (Nat × Nat)} (h:Pr N xs t L Bs ps):(ps.flatMap (λp=>[p.1,p.2])++L).Nodup:=h.perm.nodup_iff.mpr List.nodup_range
theorem Pr.start (N:Nat) (xs:List Int):Pr N xs 0 (List.range N) (List.replicate N 0) []:=⟨by simp,rfl,by simp,λs p h=>by simp at h⟩
theorem perm_erase {α:Type}:∀{l:List α} {i:Nat} (h:i<l.length),(l[i]::l.eraseIdx i).Perm l
 | a::l,0,_=>List.Perm.refl _
 | a::l,i+1,h=>by
  have:=perm_erase (l:=l) (i:=i) (by simpa using h)
  simp only [List.getElem_cons_succ,List.eraseIdx_cons_succ]
  exact (List.Perm.swap _ _ _).trans (this.cons a)
theorem Pr.step {N:Nat} {xs:List Int} {t i s:Nat} {L:List Nat} {Bs:List Int} {ps:List (Nat × Nat)} {x:Int} (h:Pr N xs t (i::L) Bs ps) (hx:xs[t]? = some x) (hs:s<L.length) :
  Pr N xs (t+1) (L.eraseIdx s) ((Bs.set i x).set L[s] x) (ps++[(i,L[s])]):=by
 have nd:=h.nd
 obtain ⟨n1,n2,n3⟩:=List.nodup_append.mp nd
 have hjm:L[s]∈L:=List.getElem_mem hs
 have hij:i≠L[s]:=λz=>(List.nodup_cons.mp n2).1 (z ▸ hjm)
 have hi:=h.lt (List.mem_cons_self (a:=i))
 have hj:=h.lt (List.mem_cons_of_mem i hjm)
 refine ⟨by simp [h.bl],by simp [h.pl],?_,λs' p hp=>?_⟩
 ·rw [List.flatMap_append]
  refine List.Perm.trans ?_ h.perm
  rw [List.append_assoc]
  refine List.Perm.append_left _ ?_
  show (i::L[s]::L.eraseIdx s).Perm (i::L)
  exact List.Perm.cons _ (perm_erase hs)
 ·by_cases hs':s' < ps.length
  ·rw [List.getElem?_append_left hs'] at hp
   obtain ⟨y,h1,h2,h3⟩:=h.val s' p hp
   have mem:∀a,a=p.1\/a=p.2->a∈ps.flatMap (λp=>[p.1,p.2]):=λa ha=>List.mem_flatMap.mpr ⟨p,List.mem_of_getElem? hp,by simpa using ha⟩
   have ne:∀a,a=p.1\/a=p.2->i≠a/\L[s]≠a:=λa ha=>⟨λz=>n3 a (mem a ha) i List.mem_cons_self z.symm,λz=>n3 a (mem a ha) L[s] (List.mem_cons_of_mem _ hjm) z.symm⟩
   refine ⟨y,h1,?_,?_⟩
   ·rw [List.getElem?_set_ne (ne _ (.inl rfl)).2,List.getElem?_set_ne (ne _ (.inl rfl)).1];exact h2
   ·rw [List.getElem?_set_ne (ne _ (.inr rfl)).2,List.getElem?_set_ne (ne _ (.inr rfl)).1];exact h3
  ·have e:s'=t:=by
    have:=(List.getElem?_eq_some_iff.mp hp).1
    have:=h.pl
    simp at *
    omega
   subst e
   rw [List.getElem?_append_right (by omega),h.pl,Nat.sub_self] at hp
   simp at hp
   subst hp
   refine ⟨x,hx,?_,?_⟩
   ·rw [List.getElem?_set_ne (Ne.symm hij),List.getElem?_set_self (by rw [h.bl];exact hi)]
   ·rw [List.getElem?_set_self (by rw [List.length_set,h.bl];exact hj)]
theorem len1 {α:Type}:∀{us:List α},us.length=1->∃a,us=[a]
 | [a],_=>⟨a,rfl⟩
theorem len2 {α:Type} {us:List α} (h:us.length=2):∃a b,us=[a,b]:=by
 cases us with
 | nil=>cases h
 | cons a us=>obtain ⟨b,rfl⟩:=len1 (Nat.succ.inj h);exact ⟨a,b,rfl⟩
theorem len3 {α:Type} {us:List α} (h:us.length=3):∃a b c,us=[a,b,c]:=by
 cases us with
 | nil=>cases h
 | cons a us=>obtain ⟨b,c,rfl⟩:=len2 (Nat.succ.inj h);exact ⟨a,b,c,rfl⟩
theorem len4 {α:Type} {us:List α} (h:us.length=4):∃a b c d,us=[a,b,c,d]:=by
 cases us with
 | nil=>cases h
 | cons a us=>obtain ⟨b,c,d,rfl⟩:=len3 (Nat.succ.inj h);exact ⟨a,b,c,d,rfl⟩
end PV
namespace PV
open PySem PySem.Spec L2
theorem pure_enum:∀{ds:List D} {n:Nat},pureL ds=true->pureL (enumD n ds)=true
 | [],_,_=>rfl
 | d::r,n,h=>by
  simp only [pureL,Bool.and_eq_true] at h
  simp only [enumD,pureL,D.pure,Bool.and_eq_true]
  exact ⟨⟨trivial,h.1,trivial⟩,pure_enum h.2⟩
end PV
namespace M
open PySem PySem.Spec L2 PV
def ix (a:Int):List Int->Nat
 | []=>0
 | x::l=>if x=a then 0 else ix a l+1
def keys (A:Nat->Int) (t:Nat):List Int:=(plc A t).map (·.1)
end M
namespace PV
open PySem PySem.Spec L2
def num:Nat->List Int->List (Key × D)
 | _,[]=>[]
 | n,a::l=>(.inl a,.int (n:Nat))::num (n+1) l
end PV
namespace M32
def bin:Nat->Nat->Nat
 | _,0=>1
 | 0,_+1=>0
 | n+1,k+1=>bin n k+bin n (k+1)
def sg (r:Nat):Int:=if r % 2=0 then 1 else -1
def num (r k:Nat):Int:=sg r*(bin r k:Int)
open PV L2
def ent (c:Int) (f:Nat->D) (j:Nat):Key × D:=(.inl (c-4*(j:Int)),f j)
def row (c:Int) (f:Nat->D) (n:Nat):List (Key × D):=(List.range n).map (ent c f)
section
variable {c:Int} {f:Nat->D} {n i:Nat}
def nm (r:Nat) (j:Nat):D:=.int (num r j)
def mid (c:Int) (r:Nat):Nat->List (Key × D)
 | 0=>[]
 | i+1=>row c (nm (r+1)) (i+1)++[(.inl (c-4*((i+1:Nat):Int)),.int (-num r i))]
end
def wt (p:Int) (r:Nat) (n:Nat):List D:=(List.range n).map λ(k:Nat)=>.tup [.int (p+4*(k:Int)),.int (num r k)]
end M32
namespace PV
open PySem PySem.Spec L2
section
variable {X:Cx} {T:Tg} {m o m1 m2 m3 o1 o2:Bool} {e a b:Expr} {w wa wb:WE} {pos p2 p:Pos} {es:List Expr} {wr:WA} {x:Str}
variable {name:Str} {apos cpos:Pos} {T' id:String}
end
end PV
namespace S03
open PySem PySem.Spec L2 PV
open PySem.Builtin.Str (glued)
def nw (n:Int):Str:=Str.ofString (toString n)
def wx:Str:=Str.ofString "x"
def we:Str:=Str.ofString "e"
def wo:Str:=Str.ofString "o"
def Wx (A:Nat->Int):Nat->List Str
 | 0=>[]
 | k+1=>Wx A k++(wx::(List.range 4).map λj=>nw (A (4*k+j)))
def We (m e:Nat) (A:Nat->Int):List Str:=if e=0 then [] else we::(List.range e).map λj=>nw (A (4*m+j))
def Wo (r:Int):List Str:=if 0<r then [wo,nw r] else []
def Ws (m e:Nat) (A:Nat->Int) (r:Int):List Str:=Wx A m++(We m e A++Wo r)
def tx (m e:Nat) (A:Nat->Int) (r:Int):Str:=glued (Str.ofString " ") (Ws m e A r)
variable {k:D->Prop} {kk:D->D->Prop} {i:Int} {x y:Str} {xs ys:List D} {kvs:List (Key × D)}
theorem small {n:Nat} (h:n<=100000):n<sizeLine:=Nat.lt_of_le_of_lt h (by decide)
end S03
namespace S24
open PySem PySem.Spec L2 PV S03
open PySem.Builtin.Str (glued occurrences strSub subAt)
def big:Int:=1000000000000000000000000000000000000000000000000000000000000
def av (n:Int):Int:=if n<0 then -n else n
def pw (p:Int):Str:=if p=0 then Str.ofString "" else if p=1 then Str.ofString "x" else Str.ofString "x^" ++ nw p
def fore (t:Int × Int):Str:=if av t.2=1 then Str.ofString "" else nw (av t.2)
def hind (p:Int):Str:=if p=1 then Str.ofString "" else Str.ofString "^" ++ nw p
def tm (t:Int × Int):Str:=if t.1=0 then nw (av t.2) else fore t++Str.ofString "x" ++ hind t.1
def sg (n:Int):Str:=if n<0 then Str.ofString "-" else Str.ofString "+"
def ws (ts:List (Int × Int)):List Str:=ts.flatMap λt=>[sg t.2,tm t]
def fst (n:Int):Str:=if n<0 then Str.ofString "-" else Str.ofString ""
def tx:List (Int × Int)->Str
 | []=>Str.ofString "0"
 | t::r=>fst t.2++glued (Str.ofString " ") (tm t::ws r)
theorem ws_len (ts:List (Int × Int)):(ws ts).length=2*ts.length:=by
 unfold ws
 induction ts with
 | nil=>rfl
 | cons t ts ih=>rw [List.flatMap_cons,List.length_append,ih,List.length_cons,List.length_cons,List.length_cons,List.length_nil];omega
theorem ws_at1 {ts:List (Int × Int)} {k:Nat}:(ws ts)[2*k+1]? = (ts[k]?).map tm:=by
 induction ts generalizing k with
 | nil=>rfl
 | cons t ts ih =>
  cases k with
  | zero=>rfl
  | succ k=>show (sg t.2::tm t::ws ts)[2*(k+1)+1]? = _;rw [show 2*(k+1)+1=(2*k+1)+1+1 by omega,List.getElem?_cons_succ,List.getElem?_cons_succ,ih,List.getElem?_cons_succ]
theorem pick_map {α β:Type} {xs:List α} {ts:List β} {f:β->α} {g:Nat->Nat} (h:∀k,xs[g k]? = (ts[k]?).map f):(List.range ts.length).filterMap (λk=>xs[g k]?)=ts.map f:=by
 have e:(λk=>xs[g k]?)=λk=>(ts[k]?).map f:=funext h
 rw [e]
 apply List.ext_getElem?
 have:∀n,n<=ts.length->(List.range n).filterMap (λk=>(ts[k]?).map f)=(ts.take n).map f:=by
  intro n
  induction n with
  | zero=>intro _;rfl
  | succ n ih =>
   intro hn
   rw [List.range_succ,List.filterMap_append,ih (by omega),List.take_add_one,List.map_append,List.getElem?_eq_getElem (by omega)]
   simp [List.getElem?_eq_getElem (show n<ts.length by omega)]
 intro i
 rw [this _ (Nat.le_refl _),List.take_length]
theorem step1 {α:Type} (f:Str->α) (ts:List (Int × Int)):stepV ((ws ts).map f) (some 1) none (some 2)=ts.map λt=>f (tm t):=by
 unfold stepV
 by_cases h0:ts.length=0
 ·have:ts=[]:=List.length_eq_zero_iff.mp h0
  subst this
  rfl
 have hb:sliceBounds (some 1) none (some 2) ((ws ts).map f).length=(1,((2*ts.length:Nat):Int),2):=by
  rw [List.length_map,ws_len]
  unfold sliceBounds
  simp
  omega
 rw [hb]
 unfold sliceRange
 simp only [show (2:Int) > 0 by decide,if_true]
 have hc:(if (1:Int)<((2*ts.length:Nat):Int) then (((2*ts.length:Nat):Int)-1+2-1) / 2 else 0).toNat=ts.length:=by split <;> omega
 rw [hc,List.filterMap_map]
 refine pick_map (g:=λk=>(1+2*(k:Int)).toNat) λk=>?_
 rw [show (1+2*(k:Int)).toNat=2*k+1 by omega,List.getElem?_map,ws_at1,Option.map_map];rfl
section
variable {k:D->Prop} {i:Int} {x y:Str} {xs zs:List D}
end
end S24
namespace Pol
abbrev T:=List (Int × Int)
def ev (f:Int->Int):T->Int
 | []=>0
 | t::ts=>t.2*f t.1+ev f ts
theorem ev_nil {f}:ev f []=0:=rfl
theorem ev_cons {f} {t:Int × Int} {ts:T}:ev f (t::ts)=t.2*f t.1+ev f ts:=rfl
theorem ev_append {f}:∀{a b:T},ev f (a++b)=ev f a+ev f b
 | [],b=>by rw [List.nil_append,ev_nil,Int.zero_add]
 | t::a,b=>by rw [List.cons_append,ev_cons,ev_cons,ev_append];omega
theorem ev_congr {f g:Int->Int} (h:∀p,f p=g p):∀a:T,ev f a=ev g a
 | []=>rfl
 | t::a=>by rw [ev_cons,ev_cons,h,ev_congr h a]
theorem ev_perm {f} {a b:T} (h:a.Perm b):ev f a=ev f b:=by
 induction h with
 | nil=>rfl
 | cons x _ ih=>rw [ev_cons,ev_cons,ih]
 | swap x y l=>rw [ev_cons,ev_cons,ev_cons,ev_cons];omega
 | trans _ _ h1 h2=>exact h1.trans h2
def neg (a:T):T:=a.map λt=>(t.1,-t.2)
def lift (a:T) (m:Int):T:=a.map λt=>(t.1+m,t.2)
def turn (a:T):T:=a.reverse.map λt=>(-t.1,t.2)
theorem ev_neg {f}:∀{a:T},ev f (neg a) = - ev f a
 | []=>rfl
 | t::a=>by
  show -t.2*f t.1+ev f (neg a)=_
  rw [ev_neg,ev_cons,Int.neg_mul];omega
theorem ev_lift {f} {m:Int}:∀{a:T},ev f (lift a m)=ev (λp=>f (p+m)) a
 | []=>rfl
 | t::a=>by
  show t.2*f (t.1+m)+ev f (lift a m)=_
  rw [ev_lift,ev_cons]
structure Is (a:T):Prop where
 asc:a.Pairwise λt u=>t.1<u.1
 nz:∀t∈a,t.2≠0
def del (p:Int):Int->Int:=λq=>if q=p then 1 else 0
theorem ev_del_gt {p:Int}:∀{a:T},(∀t∈a,p<t.1)->ev (del p) a=0
 | [],_=>rfl
 | t::a,h=>by
  have h1:=h t List.mem_cons_self
  rw [ev_cons,ev_del_gt λu hu=>h u (List.mem_cons_of_mem _ hu)]
  unfold del
  rw [if_neg (by omega)]
  omega
theorem ev_del_hd {t:Int × Int} {a:T} (h:(t::a).Pairwise λt u=>t.1<u.1):ev (del t.1) (t::a)=t.2:=by
 rw [ev_cons,ev_del_gt (List.pairwise_cons.mp h).1]
 unfold del
 rw [if_pos rfl]
 omega
theorem Is.tail {t:Int × Int} {a:T} (h:Is (t::a)):Is a:=⟨(List.pairwise_cons.mp h.asc).2,λu hu=>h.nz u (List.mem_cons_of_mem _ hu)⟩
theorem Is.hd {t:Int × Int} {a:T} (h:Is (t::a)):t.2≠0:=h.nz t List.mem_cons_self
theorem uniq:∀{a b:T},Is a->Is b->(∀f,ev f a=ev f b)->a=b
 | [],[],_,_,_=>rfl
 | [],u::b,_,hb,h=>by
  have:=h (del u.1)
  rw [ev_nil,ev_del_hd hb.asc] at this
  exact absurd this.symm hb.hd
 | t::a,[],ha,_,h=>by
  have:=h (del t.1)
  rw [ev_nil,ev_del_hd ha.asc] at this
  exact absurd this ha.hd
 | t::a,u::b,ha,hb,h=>by
  have h1:=h (del t.1)
  have h2:=h (del u.1)
  rw [ev_del_hd ha.asc] at h1
  rw [ev_del_hd hb.asc] at h2
  have ht:∀x∈a,t.1<x.1:=(List.pairwise_cons.mp ha.asc).1
  have hu:∀x∈b,u.1<x.1:=(List.pairwise_cons.mp hb.asc).1
  rcases Int.lt_trichotomy t.1 u.1 with c | c | c
  ·rw [ev_del_gt (a:=u::b)] at h1
   ·exact absurd h1 ha.hd
   ·intro x hx
    rcases List.mem_cons.mp hx with rfl | hx
    ·exact c
    ·have:=hu x hx;omega
  ·rw [← c] at h2
   have h3:ev (del t.1) (u::b)=u.2:=by rw [c];exact ev_del_hd hb.asc
   have e:t=u:=Prod.ext c (by rw [h1,h3])
   subst e
   rw [uniq ha.tail hb.tail λf=>by
    have:=h f
    rw [ev_cons,ev_cons] at this
    omega]
  ·rw [ev_del_gt (a:=t::a)] at h2
   ·exact absurd h2.symm hb.hd
   ·intro x hx
    rcases List.mem_cons.mp hx with rfl | hx
    ·exact c
    ·have:=ht x hx;omega
theorem is_nil:Is []:=⟨.nil,λ_ h=>nomatch h⟩
theorem is_lift {a:T} {m:Int} (h:Is a):Is (lift a m):=by
 refine ⟨?_,λt ht=>?_⟩
 ·unfold lift
  rw [List.pairwise_map]
  exact h.asc.imp λ{x y} hxy=>by show x.1+m<y.1+m;omega
 ·obtain ⟨u,hu,rfl⟩:=List.mem_map.mp ht
  exact h.nz u hu
theorem is_one {m c:Int} (h:c≠0):Is [(m,c)]:=⟨List.pairwise_singleton _ _,λt ht=>by rw [List.mem_singleton.mp ht];exact h⟩
def nrm:T->Nat
 | []=>0
 | t::a=>t.2.natAbs+nrm a
theorem nrm_append:∀{a b:T},nrm (a++b)=nrm a+nrm b
 | [],b=>by rw [List.nil_append];simp [nrm]
 | t::a,b=>by rw [List.cons_append,nrm,nrm,nrm_append];omega
theorem nrm_neg:∀{a:T},nrm (neg a)=nrm a
 | []=>rfl
 | t::a=>by
  show (-t.2).natAbs+nrm (neg a)=_
  rw [nrm_neg,Int.natAbs_neg];rfl
theorem nrm_perm {a b:T} (h:a.Perm b):nrm a=nrm b:=by
 induction h with
 | nil=>rfl
 | cons x _ ih=>rw [nrm,nrm,ih]
 | swap x y l=>rw [nrm,nrm,nrm,nrm];omega
 | trans _ _ h1 h2=>exact h1.trans h2
def get:T->Int->Int
 | [],_=>0
 | t::a,p=>if t.1=p then t.2 else get a p
def put:T->Int->Int->T
 | [],p,n=>[(p,n)]
 | t::a,p,n=>if t.1=p then (p,n)::a else t::put a p n
theorem put_ev {f} {p n:Int}:∀{a:T},ev f (put a p (get a p+n))=ev f a+n*f p
 | []=>by
  show (0+n)*f p+0=0+n*f p
  rw [Int.zero_add];omega
 | t::a=>by
  unfold put get
  by_cases h:t.1=p
  ·rw [if_pos h,if_pos h,ev_cons,ev_cons,← h];show (t.2+n)*f t.1+_=_;rw [Int.add_mul];omega
  ·rw [if_neg h,if_neg h,ev_cons,ev_cons,put_ev];omega
theorem put_nrm {p n:Int}:∀{a:T},nrm (put a p (get a p+n))<=nrm a+n.natAbs
 | []=>by
  show (0+n).natAbs+0<=0+n.natAbs
  rw [Int.zero_add];omega
 | t::a=>by
  unfold put get
  by_cases h:t.1=p
  ·rw [if_pos h,if_pos h,nrm,nrm];show (t.2+n).natAbs+_<=_;omega
  ·rw [if_neg h,if_neg h,nrm,nrm];have:=put_nrm (p:=p) (n:=n) (a:=a);omega
theorem put_keys {p n:Int}:∀{a:T} {q:Int},q∈(put a p n).map (·.1)->q=p\/q∈a.map (·.1)
 | [],q,h=>.inl (by simpa [put] using h)
 | t::a,q,h=>by
  unfold put at h
  by_cases e:t.1=p
  ·rw [if_pos e] at h
   rcases List.mem_cons.mp h with h | h
   ·exact .inl h
   ·exact .inr (List.mem_cons_of_mem _ h)
  ·rw [if_neg e] at h
   rcases List.mem_cons.mp h with h | h
   ·exact .inr (by rw [h];exact List.mem_cons_self)
   ·exact (put_keys h).imp id λh=>List.mem_cons_of_mem _ h
theorem put_nodup {p n:Int}:∀{a:T},(a.map (·.1)).Nodup->((put a p n).map (·.1)).Nodup
 | [],_=>by simp [put]
 | t::a,h=>by
  obtain ⟨h1,h2⟩:=List.nodup_cons.mp h
  unfold put
  by_cases e:t.1=p
  ·rw [if_pos e]
   exact List.nodup_cons.mpr ⟨by show p∉_;rw [← e];exact h1,h2⟩
  ·rw [if_neg e]
   refine List.nodup_cons.mpr ⟨λhq=>?_,put_nodup h2⟩
   rcases put_keys hq with h | h
   ·exact e h
   ·exact h1 h
theorem put_length {p n:Int}:∀{a:T},(put a p n).length<=a.length+1
 | []=>by simp [put]
 | t::a=>by
  unfold put
  by_cases e:t.1=p
  ·rw [if_pos e];simp
  ·rw [if_neg e];have:=put_length (p:=p) (n:=n) (a:=a);simpa using this
theorem keys_get:∀{a:T},(a.map (·.1)).Nodup->(a.map (·.1)).map (λp=>(p,get a p))=a
 | [],_=>rfl
 | t::a,h=>by
  obtain ⟨h1,h2⟩:=List.nodup_cons.mp h
  rw [List.map_cons,List.map_cons]
  have e1:get (t::a) t.1=t.2:=by unfold get;rw [if_pos rfl]
  have e2:(a.map (·.1)).map (λp=>(p,get (t::a) p))=(a.map (·.1)).map (λp=>(p,get a p)):=by
   refine List.map_congr_left λp hp=>?_
   have:get (t::a) p=get a p:=by
    show (if t.1=p then t.2 else get a p)=_
    rw [if_neg λe=>h1 (by show t.1∈_;rw [e];exact hp)]
   rw [this]
  rw [e1,e2,keys_get h2]
def nzf (a:T):T:=a.filter λt=>decide (t.2≠0)
theorem ev_nzf {f}:∀{a:T},ev f (nzf a)=ev f a
 | []=>rfl
 | t::a=>by
  unfold nzf
  by_cases h:t.2=0
  ·rw [List.filter_cons_of_neg (by simpa using h)]
   show ev f (nzf a)=_
   rw [ev_nzf,ev_cons,h];omega
  ·rw [List.filter_cons_of_pos (by simpa using h),ev_cons]
   show _+ev f (nzf a)=_
   rw [ev_nzf];rfl
theorem nrm_nzf:∀{a:T},nrm (nzf a)=nrm a
 | []=>rfl
 | t::a=>by
  unfold nzf
  by_cases h:t.2=0
  ·rw [List.filter_cons_of_neg (by simpa using h)]
   show nrm (nzf a)=_
   rw [nrm_nzf,nrm,h];simp
  ·rw [List.filter_cons_of_pos (by simpa using h),nrm]
   show _+nrm (nzf a)=_
   rw [nrm_nzf];rfl
theorem gather {a:T} {out:List Int} (hn:(a.map (·.1)).Nodup) (hp:out.Perm (a.map (·.1))) (ho:out.Pairwise (· <= ·)) :
  Is (nzf (out.map λp=>(p,get a p)))/\(∀f,ev f (nzf (out.map λp=>(p,get a p)))=ev f a)/\nrm (nzf (out.map λp=>(p,get a p)))=nrm a/\(nzf (out.map λp=>(p,get a p))).length<=a.length:=by
 have hpp:(out.map λp=>(p,get a p)).Perm a:=by
  have:=hp.map λp=>(p,get a p)
  rwa [keys_get hn] at this
 have hnd:out.Nodup:=hp.symm.nodup hn
 refine ⟨⟨?_,λt ht=>?_⟩,λf=>by rw [ev_nzf,ev_perm hpp],by rw [nrm_nzf,nrm_perm hpp],?_⟩
 ·refine List.Pairwise.filter _ ?_
  rw [List.pairwise_map]
  refine (ho.and hnd).imp λ{x y} h=>?_
  show x<y
  have h1:x<=y:=h.1
  have h2:x≠y:=h.2
  omega
 ·have:=(List.mem_filter.mp ht).2
  simpa using this
 ·refine Nat.le_trans (List.length_filter_le _ _) ?_
  rw [hpp.length_eq]
  exact Nat.le_refl _
end Pol
namespace V66
def nrmz (p q:Int):Int × Int:=if q<=0 then (-p,-q) else (p,q)
def step (t:Int × Int) (n:Int):Int × Int:=nrmz (n*t.1-t.2) t.1
structure Inv (t:Int × Int):Prop where
 g:Int.gcd t.1 t.2=1
 nn:0<=t.2
 one:t.2=0->t.1=1
theorem first (n:Int):step (1,0) n=(n,1):=by
 unfold step nrmz
 simp
end V66
namespace V68
def adj (ah:List Int) (m:Int):List Int:=match ah.getLast? with
 | none=>[]
 | some z=>ah.dropLast++[z+m]
theorem adj_nil {m:Int}:adj [] m=[]:=rfl
theorem adj_snoc {bs:List Int} {z m:Int}:adj (bs++[z]) m=bs++[z+m]:=by
 unfold adj
 rw [List.getLast?_append]
 simp
end V68
namespace Dct
open PySem PySem.Spec L2 PV
open Pol
def pr2 (t:Int × Int):D:=.tup [.int t.1,.int t.2]
theorem pure_two {ts:List (Int × Int)}:pureL (ts.map pr2)=true:=pureL_map λ_ _=>rfl
theorem two_eq {n:Nat} {ts:List (Int × Int)} (h:3<=n):eqOk n (.tup (ts.map pr2))=true:=by
 obtain ⟨m,rfl⟩:∃m,n=m+3:=⟨n-3,by omega⟩
 show eqOks (m+2) (ts.map pr2)=true
 exact eqOks_map λ_ _=>rfl
theorem small {n:Nat} (h:n<=1000000):n<sizeLine:=Nat.lt_of_le_of_lt h (by decide)
def enc (a:T):List (Key × D):=a.map λt=>(.inl t.1,.int t.2)
theorem enc_len {a:T}:(enc a).length=a.length:=List.length_map ..
theorem enc_keys {a:T}:(enc a).map (·.1)=(a.map (·.1)).map Sum.inl:=by
 unfold enc
 rw [List.map_map,List.map_map];rfl
theorem val_none {p:Int}:∀{a:T},p∉a.map (·.1)->valD (enc a) (.inl p)=none
 | [],_=>rfl
 | t::a,h=>by
  have h1:¬t.1=p:=λe=>h (by rw [← e];exact List.mem_cons_self)
  have h2:p∉a.map (·.1):=λe=>h (List.mem_cons_of_mem _ e)
  show valD ((.inl t.1,.int t.2)::enc a) (.inl p)=none
  rw [valD_cons,if_neg (λe=>h1 (Sum.inl.inj e)),val_none h2]
theorem val_some {p:Int}:∀{a:T},p∈a.map (·.1)->valD (enc a) (.inl p)=some (.int (get a p))
 | t::a,h=>by
  show valD ((.inl t.1,.int t.2)::enc a) (.inl p)=_
  rw [valD_cons]
  unfold Pol.get
  by_cases e:t.1=p
  ·rw [if_pos (by rw [e]),if_pos e]
  ·rw [if_neg (λz=>e (Sum.inl.inj z)),if_neg e]
   refine val_some ?_
   rcases List.mem_cons.mp h with h | h
   ·exact absurd h.symm e
   ·exact h
theorem get_none {p:Int}:∀{a:T},p∉a.map (·.1)->get a p=0
 | [],_=>rfl
 | t::a,h=>by
  have h1:¬t.1=p:=λe=>h (by rw [← e];exact List.mem_cons_self)
  have h2:p∉a.map (·.1):=λe=>h (List.mem_cons_of_mem _ e)
  unfold Pol.get
  rw [if_neg h1,get_none h2]
theorem val_getD {p:Int} {a:T}:(valD (enc a) (.inl p)).getD (.int 0)=.int (get a p):=by
 by_cases h:p∈a.map (·.1)
 ·rw [val_some h];rfl
 ·rw [val_none h,get_none h];rfl
theorem put_enc {p n:Int}:∀{a:T},(a.map (·.1)).Nodup->putD (enc a) (.inl p) (.int n)=enc (put a p n)
 | [],_=>rfl
 | t::a,h=>by
  obtain ⟨h1,h2⟩:=List.nodup_cons.mp h
  show putD ((.inl t.1,.int t.2)::enc a) (.inl p) (.int n)=_
  unfold put
  by_cases e:t.1=p
  ·rw [if_pos e,e]
   rw [putD_hd]
   ·rfl
   ·rw [enc_keys]
    intro hm
    obtain ⟨q,hq,hqe⟩:=List.mem_map.mp hm
    have:q=p:=Sum.inl.inj hqe
    subst this
    exact h1 (by show t.1∈_;rw [e];exact hq)
  ·rw [if_neg e,putD_ne (λz=>e (Sum.inl.inj z)),put_enc h2];rfl
end Dct
namespace M69
open Pol
abbrev L:=(Int->Int)->Int
abbrev St:=L × L
def sh (m:Int) (A:L):L:=λf=>A λp=>f (p+m)
def sub (A B:L):L:=λf=>A f-B f
def neg (A:L):L:=λf=>- A f
def Z:L:=λ_=>0
def O:L:=λf=>f 0
theorem sh_sh {m k:Int} {A:L}:sh m (sh k A)=sh (k+m) A:=by
 funext f
 show A (λp=>f (p+k+m))=A (λp=>f (p+(k+m)))
 congr 1;funext p;congr 1;omega
theorem sh_0 {A:L}:sh 0 A=A:=by
 funext f
 show A (λp=>f (p+0))=A f
 congr 1;funext p;congr 1;omega
theorem sh_sub {m:Int} {A B:L}:sh m (sub A B)=sub (sh m A) (sh m B):=rfl
theorem sh_neg {m:Int} {A:L}:sh m (neg A)=neg (sh m A):=rfl
theorem ext {A B:L} (h:∀f,A f=B f):A=B:=funext h
def T (s:Int) (x:St):St:=(sh (-s) x.1,sub (sh s x.1) (sh (3*s) x.2))
def R (x:St):St:=(x.2,x.1)
theorem RR {x:St}:R (R x)=x:=rfl
def sg (h:Int):Int:=1-2*(h % 2)
def mu (h:Int) (A:L):L:=λf=>sg h*sh (3*h) A f
def W (h:Int) (x:St):St:=(mu h x.1,mu h x.2)
theorem sg_add (h k:Int):sg (h+k)=sg h*sg k:=by
 unfold sg
 have h1:h % 2=0\/h % 2=1:=by omega
 have h2:k % 2=0\/k % 2=1:=by omega
 rcases h1 with h1 | h1 <;> rcases h2 with h2 | h2 <;> (have h3:(h+k) % 2=(h % 2+k % 2) % 2:=by omega);all_goals (rw [h3,h1,h2];decide)
theorem mu_add {h k:Int} {A:L}:mu (h+k) A=mu h (mu k A):=by
 funext f
 show sg (h+k)*A (λp=>f (p+3*(h+k)))=sg h*(sg k*A (λp=>f (p+3*k+3*h)))
 rw [sg_add,Int.mul_assoc]
 congr 3;funext p;congr 1;omega
theorem W_add {h k:Int} {x:St}:W (h+k) x=W h (W k x):=by
 show (mu (h+k) x.1,mu (h+k) x.2)=(mu h (mu k x.1),mu h (mu k x.2))
 rw [mu_add,mu_add]
theorem mu_0 {A:L}:mu 0 A=A:=by
 funext f
 show sg 0*A (λp=>f (p+3*0))=A f
 rw [show sg 0=1 from rfl,Int.one_mul]
 congr 1;funext p;congr 1;omega
theorem W_0 {x:St}:W 0 x=x:=by
 show (mu 0 x.1,mu 0 x.2)=x
 rw [mu_0,mu_0]
theorem mu_1 {A:L}:mu 1 A=neg (sh 3 A):=by
 funext f
 show sg 1*sh (3*1) A f = - sh 3 A f
 rw [show sg 1 = -1 from rfl,show (3*1:Int)=3 from rfl,Int.neg_mul,Int.one_mul]
theorem mu_m1 {A:L}:mu (-1) A=neg (sh (-3) A):=by
 funext f
 show sg (-1)*sh (3 * -1) A f = - sh (-3) A f
 rw [show sg (-1) = -1 from rfl,show (3 * -1:Int) = -3 from rfl,Int.neg_mul,Int.one_mul]
theorem mu_sh {h m:Int} {A:L}:mu h (sh m A)=sh m (mu h A):=by
 funext f
 show sg h*A (λp=>f (p+m+3*h))=sg h*A (λp=>f (p+3*h+m))
 congr 2;funext p;congr 1;omega
theorem mu_sub {h:Int} {A B:L}:mu h (sub A B)=sub (mu h A) (mu h B):=by
 funext f
 show sg h*(sh (3*h) A f-sh (3*h) B f)=sg h*sh (3*h) A f-sg h*sh (3*h) B f
 rw [Int.mul_sub]
theorem WT {h s:Int} {x:St}:W h (T s x)=T s (W h x):=by
 show (mu h (sh (-s) x.1),mu h (sub (sh s x.1) (sh (3*s) x.2)))=(sh (-s) (mu h x.1),sub (sh s (mu h x.1)) (sh (3*s) (mu h x.2)))
 rw [mu_sh,mu_sub,mu_sh,mu_sh]
theorem WR {h:Int} {x:St}:W h (R x)=R (W h x):=rfl
theorem TRT {s:Int} {x:St}:T s (R (T s x))=(sub x.1 (sh (2*s) x.2),neg (sh (4*s) x.2)):=by
 obtain ⟨A,B⟩:=x
 show (sh (-s) (sub (sh s A) (sh (3*s) B)),sub (sh s (sub (sh s A) (sh (3*s) B))) (sh (3*s) (sh (-s) A)))=_
 rw [sh_sub,sh_sub,sh_sh,sh_sh,sh_sh,sh_sh,sh_sh]
 rw [show s + -s=0 by omega,sh_0,show 3*s + -s=2*s by omega,show s+s=2*s by omega,show 3*s+s=4*s by omega,show -s+3*s=2*s by omega]
 refine Prod.ext rfl ?_
 funext f
 show sh (2*s) A f-sh (4*s) B f-sh (2*s) A f = - sh (4*s) B f
 omega
theorem five {s:Int} {x:St}:T s (R (T s (R (T s x))))=(neg (sh (3*s) x.2),neg (sh (3*s) x.1)):=by
 obtain ⟨A,B⟩:=x
 have h:=TRT (s:=s) (x:=(A,B))
 rw [h]
 show (sh (-s) (neg (sh (4*s) B)),sub (sh s (neg (sh (4*s) B))) (sh (3*s) (sub A (sh (2*s) B))))=(neg (sh (3*s) B),neg (sh (3*s) A))
 rw [sh_neg,sh_neg,sh_sub,sh_sh,sh_sh,sh_sh,show 4*s + -s=3*s by omega,show 4*s+s=5*s by omega,show 2*s+3*s=5*s by omega]
 refine Prod.ext rfl ?_
 funext f
 show-sh (5*s) B f-(sh (3*s) A f-sh (5*s) B f) = - sh (3*s) A f
 omega
theorem five1 {x:St}:T 1 (R (T 1 (R (T 1 x))))=W 1 (R x):=by
 rw [five]
 show _=(mu 1 x.2,mu 1 x.1)
 rw [mu_1,mu_1];rfl
theorem fivem {x:St}:T (-1) (R (T (-1) (R (T (-1) x))))=W (-1) (R x):=by
 rw [five]
 show _=(mu (-1) x.2,mu (-1) x.1)
 rw [mu_m1,mu_m1];rfl
theorem Tinv {s:Int} {x:St}:T (-s) (T s x)=x:=by
 obtain ⟨A,B⟩:=x
 show (sh (- -s) (sh (-s) A),sub (sh (-s) (sh (-s) A)) (sh (3 * -s) (sub (sh s A) (sh (3*s) B))))=(A,B)
 rw [sh_sub,sh_sh,sh_sh,sh_sh,sh_sh,show -s + - -s=0 by omega,show -s + -s = -2*s by omega,show s+3 * -s = -2*s by omega,show 3*s+3 * -s=0 by omega,sh_0,sh_0]
 refine Prod.ext rfl ?_
 funext f
 show sh (-2*s) A f-(sh (-2*s) A f-B f)=B f
 omega
def it (s:Int):Nat->St->St
 | 0,x=>x
 | n+1,x=>T s (it s n x)
def sgn (n:Int):Int:=if 0<n then 1 else -1
def Tn (n:Int) (x:St):St:=it (sgn n) n.natAbs x
theorem Tn_0 {x:St}:Tn 0 x=x:=rfl
theorem it_W {s h:Int} {x:St}:∀n,W h (it s n x)=it s n (W h x)
 | 0=>rfl
 | n+1=>by rw [it,WT,it_W n];rfl
theorem Tn_W {n h:Int} {x:St}:W h (Tn n x)=Tn n (W h x):=it_W _
theorem Tn_succ {n:Int} {x:St}:Tn (n+1) x=T 1 (Tn n x):=by
 unfold Tn
 by_cases h:0<=n
 ·obtain ⟨k,rfl⟩:=Int.eq_ofNat_of_zero_le h
  have e:((k:Int)+1).natAbs=k+1:=by omega
  rw [e,it]
  have e1:sgn ((k:Int)+1)=1:=if_pos (by omega)
  rw [e1]
  cases k with
  | zero=>rfl
  | succ k =>
   have e2:sgn (((k+1:Nat):Int))=1:=if_pos (by omega)
   rw [e2];rfl
 ·have e2:sgn n = -1:=if_neg (by omega)
  rw [e2]
  obtain ⟨k,hk⟩:∃k,n.natAbs=k+1:=⟨n.natAbs-1,by omega⟩
  rw [hk,it]
  have:=Tinv (s:=-1) (x:=it (-1) k x)
  rw [show (- -1:Int)=1 from rfl] at this
  rw [this]
  have e3:(n+1).natAbs=k:=by omega
  rw [e3]
  cases k with
  | zero=>rfl
  | succ k=>rw [show sgn (n+1) = -1 from if_neg (by omega)]
theorem Tn_pred {n:Int} {x:St}:Tn (n-1) x=T (-1) (Tn n x):=by
 have h:=Tn_succ (n:=n-1) (x:=x)
 rw [show n-1+1=n by omega] at h
 rw [h,Tinv]
theorem Tn_add {m n:Int} {x:St}:Tn (m+n) x=Tn m (Tn n x):=by
 have pos:∀k:Nat,∀n:Int,Tn ((k:Int)+n) x=Tn k (Tn n x):=λk=>by
  induction k with
  | zero=>intro n;rw [show ((0:Nat):Int)+n=n by omega];rfl
  | succ k ih =>
   intro n
   rw [show ((k+1:Nat):Int)+n=((k:Int)+n)+1 by omega,Tn_succ,ih,show ((k+1:Nat):Int)=(k:Int)+1 by omega,Tn_succ]
 have neg:∀k:Nat,∀n:Int,Tn (-(k:Int)+n) x=Tn (-(k:Int)) (Tn n x):=λk=>by
  induction k with
  | zero=>intro n;rw [show -((0:Nat):Int)+n=n by omega];rfl
  | succ k ih =>
   intro n
   rw [show -((k+1:Nat):Int)+n=(-(k:Int)+n)-1 by omega,Tn_pred,ih,show -((k+1:Nat):Int) = -(k:Int)-1 by omega,Tn_pred]
 rcases Int.le_total 0 m with h | h
 ·obtain ⟨k,rfl⟩:=Int.eq_ofNat_of_zero_le h
  exact pos k n
 ·obtain ⟨k,hk⟩:=Int.eq_ofNat_of_zero_le (show 0 <= -m by omega)
  have e:m = -(k:Int):=by omega
  rw [e];exact neg k n
theorem Tn_1 {x:St}:Tn 1 x=T 1 x:=rfl
theorem Tn_m1 {x:St}:Tn (-1) x=T (-1) x:=rfl
def U (x:St) (n:Int):St:=Tn n (R x)
abbrev F (x:St) (l:List Int):St:=l.foldl U x
def s0:St:=(Z,O)
theorem F_W {h:Int}:∀{l:List Int} {x:St},F (W h x) l=W h (F x l)
 | [],x=>rfl
 | n::l,x=>by
  show F (U (W h x) n) l=W h (F (U x n) l)
  rw [← F_W]
  congr 1
  show Tn n (R (W h x))=W h (Tn n (R x))
  rw [← WR,Tn_W]
theorem U3 {x:St} {z r:Int} {s:Int} (hs:s=1\/s = -1):U (U (U x z) s) r=W s (U (U x (z-s)) (r-s)):=by
 show Tn r (R (Tn s (R (Tn z (R x)))))=W s (Tn (r-s) (R (Tn (z-s) (R x))))
 have e1:Tn z (R x)=Tn s (Tn (z-s) (R x)):=by rw [← Tn_add];congr 1;omega
 have e2:∀y,Tn r y=Tn (r-s) (Tn s y):=λy=>by rw [← Tn_add];congr 1;omega
 rw [e1,e2,Tn_W,]
 congr 1
 rcases hs with rfl | rfl
 ·rw [Tn_1,Tn_1,Tn_1,five1]
 ·rw [Tn_m1,Tn_m1,Tn_m1,fivem]
theorem U2 {x:St} {z r:Int}:U (U (U x z) 0) r=U x (z+r):=by
 show Tn r (R (Tn 0 (R (Tn z (R x)))))=Tn (z+r) (R x)
 rw [Tn_0,RR,← Tn_add];congr 1;omega
theorem TRT0 {s:Int} {A:L}:T s (R (T s (A,Z)))=(A,Z):=by
 rw [TRT]
 refine Prod.ext ?_ ?_
 ·funext f;show A f-sh (2*s) Z f=A f;show A f-0=A f;omega
 ·funext f;show -(0:Int)=0;rfl
theorem U0s {s r:Int} (hs:s=1\/s = -1):U (U s0 s) r=U s0 (r-s):=by
 show Tn r (R (Tn s (O,Z)))=Tn (r-s) (O,Z)
 have e2:∀y,Tn r y=Tn (r-s) (Tn s y):=λy=>by rw [← Tn_add];congr 1;omega
 rw [e2]
 congr 1
 rcases hs with rfl | rfl
 ·rw [Tn_1,Tn_1,TRT0]
 ·rw [Tn_m1,Tn_m1,TRT0]
theorem T_ZB {s:Int} (hs:s=1\/s = -1) {B:L}:T s (Z,B)=W s (Z,B):=by
 refine Prod.ext ?_ ?_
 ·funext f
  show (0:Int)=sg s*0
  rw [Int.mul_zero]
 ·rcases hs with rfl | rfl
  ·show sub (sh 1 Z) (sh (3*1) B)=mu 1 B
   rw [mu_1];funext f;show (0:Int)-sh 3 B f = - sh 3 B f;omega
  ·show sub (sh (-1) Z) (sh (3 * -1) B)=mu (-1) B
   rw [mu_m1];funext f;show (0:Int)-sh (-3) B f = - sh (-3) B f;omega
theorem mu_Z {h:Int}:mu h Z=Z:=by funext f;show sg h*0=0;rw [Int.mul_zero]
theorem W_ZB {h:Int} {B:L}:W h (Z,B)=(Z,mu h B):=by show (mu h Z,mu h B)=_;rw [mu_Z]
theorem it_ZB {s:Int} (hs:s=1\/s = -1) {B:L}:∀n:Nat,it s n (Z,B)=W (s*n) (Z,B)
 | 0=>by rw [show s*((0:Nat):Int)=0 by simp,W_0];rfl
 | n+1=>by
  rw [it,it_ZB hs n,W_ZB,T_ZB hs,← W_ZB,← W_add]
  congr 1
  rcases hs with rfl | rfl <;> omega
theorem Tn_ZB {n:Int} {B:L}:Tn n (Z,B)=W n (Z,B):=by
 unfold Tn
 rw [it_ZB (by unfold sgn;split <;> simp)]
 congr 1
 unfold sgn
 split <;> omega
theorem loose {r:Int}:U (U s0 0) r=W r (U (U s0 0) 0):=by
 show Tn r (Z,O)=W r (Z,O)
 exact Tn_ZB
def M (t:Int × Int) (n:Int):Int × Int:=(n*t.1-t.2,t.1)
def ng (t:Int × Int):Int × Int:=(-t.1,-t.2)
def N (t:Int × Int):Int × Int:=if t.2<0\/(t.2=0/\t.1<0) then ng t else t
def nz (t:Int × Int):Prop:=t.1≠0\/t.2≠0
theorem M_ng {t:Int × Int} {n:Int}:M (ng t) n=ng (M t n):=by
 unfold M ng
 refine Prod.ext ?_ rfl
 show n * -t.1 - -t.2 = -(n*t.1-t.2)
 rw [Int.mul_neg];omega
theorem N_ng {t:Int × Int} (h:nz t):N (ng t)=N t:=by
 obtain ⟨p,q⟩:=t
 have h:p≠0\/q≠0:=h
 unfold N ng
 show (if -q<0\/(-q=0 /\ -p<0) then (- -p,- -q) else (-p,-q))=if q<0\/(q=0/\p<0) then (-p,-q) else (p,q)
 by_cases c:q<0\/(q=0/\p<0)
 ·rw [if_pos c,if_neg (by omega)]
 ·rw [if_neg c,if_pos (by omega),Int.neg_neg,Int.neg_neg]
theorem M_nz {t:Int × Int} {n:Int} (h:nz t):nz (M t n):=by
 obtain ⟨p,q⟩:=t
 by_cases c:p=0
 ·subst c
  have h:(0:Int)≠0\/q≠0:=h
  refine .inl ?_
  show n*0-q≠0
  rw [Int.mul_zero];omega
 ·exact .inr c
theorem step_N {t:Int × Int} {n:Int} (h:nz t):V66.step (N t) n=N (M t n):=by
 have key:∀t:Int × Int,nz t->(0<t.2\/(t.2=0/\0<t.1))->V66.step t n=N (M t n):=λt h c=>by
  obtain ⟨p,q⟩:=t
  have c:0<q\/(q=0/\0<p):=c
  show (if p<=0 then (-(n*p-q),-p) else (n*p-q,p))=if p<0\/(p=0/\n*p-q<0) then (-(n*p-q),-p) else (n*p-q,p)
  by_cases e:p=0
  ·subst e
   rw [if_pos (by omega),if_pos (by rw [Int.mul_zero];omega)]
  ·by_cases e2:p<0
   ·rw [if_pos (by omega),if_pos (by omega)]
   ·rw [if_neg (by omega),if_neg (by omega)]
 by_cases c:t.2<0\/(t.2=0/\t.1<0)
 ·have e:N t=ng t:=if_pos c
  rw [e,key (ng t) (by unfold nz ng at *;dsimp only;omega) (by unfold ng;dsimp only;omega),M_ng,N_ng (M_nz h)]
 ·have e:N t=t:=if_neg c
  rw [e,key t h (by unfold nz at h;omega)]
theorem fold_N:∀{l:List Int} {t:Int × Int},nz t->l.foldl V66.step (N t)=N (l.foldl M t)
 | [],_,_=>rfl
 | n::l,t,h=>by
  show l.foldl V66.step (V66.step (N t) n)=N (l.foldl M (M t n))
  rw [step_N h,fold_N (M_nz h)]
theorem value_N {l:List Int}:l.foldl V66.step (1,0)=N (l.foldl M (1,0)):=fold_N (l:=l) (t:=(1,0)) (.inl (by decide))
theorem fold_nz:∀{l:List Int} {t:Int × Int},nz t->nz (l.foldl M t)
 | [],_,h=>h
 | n::l,t,h=>fold_nz (l:=l) (M_nz h)
theorem fold_ng:∀{l:List Int} {t:Int × Int},l.foldl M (ng t)=ng (l.foldl M t)
 | [],_=>rfl
 | n::l,t=>by
  show l.foldl M (M (ng t) n)=ng (l.foldl M (M t n))
  rw [M_ng,fold_ng]
def Eqs (t u:Int × Int):Prop:=t=u\/t=ng u
theorem Eqs.fold {t u:Int × Int} (h:Eqs t u) (l:List Int):Eqs (l.foldl M t) (l.foldl M u):=by
 rcases h with rfl | rfl
 ·exact .inl rfl
 ·exact .inr fold_ng
theorem Eqs.val {t u:Int × Int} (h:Eqs t u) (hu:nz u):N t=N u:=by
 rcases h with rfl | rfl
 ·rfl
 ·exact N_ng hu
theorem M3 {t:Int × Int} {z r:Int}:M (M (M t z) 1) r=M (M t (z-1)) (r-1):=by
 obtain ⟨p,q⟩:=t
 unfold M
 refine Prod.ext ?_ ?_
 ·show r*(1*(z*p-q)-p)-(z*p-q)=(r-1)*((z-1)*p-q)-p
  rw [Int.one_mul,Int.sub_mul z,Int.one_mul,Int.sub_mul r,Int.one_mul]
  generalize z*p=a
  rw [show a-q-p=a-p-q by omega]
  generalize r*(a-p-q)=b
  omega
 ·show 1*(z*p-q)-p=(z-1)*p-q
  rw [Int.one_mul,Int.sub_mul,Int.one_mul];omega
theorem M3m {t:Int × Int} {z r:Int}:M (M (M t z) (-1)) r=ng (M (M t (z+1)) (r+1)):=by
 obtain ⟨p,q⟩:=t
 unfold M ng
 refine Prod.ext ?_ ?_
 ·show r*(-1*(z*p-q)-p)-(z*p-q) = -((r+1)*((z+1)*p-q)-p)
  rw [Int.neg_mul,Int.one_mul,Int.add_mul z,Int.one_mul,Int.add_mul r,Int.one_mul]
  generalize z*p=a
  rw [show -(a-q)-p = -(a+p-q) by omega,Int.mul_neg]
  generalize r*(a+p-q)=b
  omega
 ·show -1*(z*p-q)-p = -((z+1)*p-q)
  rw [Int.neg_mul,Int.one_mul,Int.add_mul,Int.one_mul];omega
theorem M2 {t:Int × Int} {z r:Int}:M (M (M t z) 0) r=ng (M t (z+r)):=by
 obtain ⟨p,q⟩:=t
 unfold M ng
 refine Prod.ext ?_ ?_
 ·show r*(0*(z*p-q)-p)-(z*p-q) = -((z+r)*p-q)
  rw [Int.zero_mul,Int.add_mul,show (0:Int)-p = -p by omega,Int.mul_neg]
  omega
 ·show 0*(z*p-q)-p = -p
  rw [Int.zero_mul];omega
theorem M1s {r:Int}:M (M (1,0) 1) r=M (1,0) (r-1):=by
 unfold M
 refine Prod.ext ?_ rfl
 show r*(1*1-0)-1=(r-1)*1-0
 omega
theorem M1m {r:Int}:M (M (1,0) (-1)) r=ng (M (1,0) (r+1)):=by
 unfold M ng
 refine Prod.ext ?_ rfl
 show r*(-1*1-0)-1 = -((r+1)*1-0)
 omega
theorem M00:M (M (1,0) 0) 0=ng (1,0):=rfl
theorem Ml {r:Int}:M (M (1,0) 0) r=M (M (1,0) 0) 0:=by
 unfold M
 refine Prod.ext ?_ rfl
 show r*(0*1-0)-1=0*(0*1-0)-1
 omega
open V68
def Led (l q:List Int) (v:Int):Prop:=F s0 l=W v (F s0 q)/\Eqs (l.foldl M (1,0)) (q.foldl M (1,0))
theorem Led.refl (l:List Int):Led l l 0:=⟨W_0.symm,.inl rfl⟩
theorem Eqs.trans {a b c:Int × Int} (h:Eqs a b) (k:Eqs b c):Eqs a c:=by
 rcases h with rfl | rfl
 ·exact k
 ·rcases k with rfl | rfl
  ·exact .inr rfl
  ·exact .inl (by unfold ng;simp)
theorem Led.trans {l q r:List Int} {v u:Int} (h:Led l q v) (k:Led q r u):Led l r (v+u):=⟨by rw [h.1,k.1,W_add],h.2.trans k.2⟩
theorem Led.value {l q:List Int} {v:Int} (h:Led l q v):l.foldl V66.step (1,0)=q.foldl V66.step (1,0):=by
 rw [value_N,value_N]
 exact h.2.val (fold_nz (.inl (by decide)))
theorem led_mk {pre a b rs:List Int} {v:Int} (h1:∀x,F x a=W v (F x b)) (h2:∀t,Eqs (a.foldl M t) (b.foldl M t)):Led (pre++a++rs) (pre++b++rs) v:=by
 refine ⟨?_,?_⟩
 ·unfold F
  rw [List.foldl_append,List.foldl_append,List.foldl_append,List.foldl_append]
  show F (F (F s0 pre) a) rs=W v (F (F (F s0 pre) b) rs)
  rw [h1,F_W]
 ·rw [List.foldl_append,List.foldl_append,List.foldl_append,List.foldl_append]
  exact (h2 _).fold rs
theorem led_one {bs rs:List Int} {z r:Int}:Led (bs++[z]++1::r::rs) (bs++[z + -1]++(r + -1)::rs) 1:=by
 have:=led_mk (pre:=bs) (a:=[z,1,r]) (b:=[z + -1,r + -1]) (rs:=rs) (v:=1) (λx=>U3 (.inl rfl)) (λt=>.inl M3)
 simpa using this
theorem led_less {bs rs:List Int} {z r:Int}:Led (bs++[z] ++ -1::r::rs) (bs++[z+1]++(r+1)::rs) (-1):=by
 have:=led_mk (pre:=bs) (a:=[z,-1,r]) (b:=[z+1,r+1]) (rs:=rs) (v:=-1) (λx=>by
  have:=U3 (x:=x) (z:=z) (r:=r) (s:=-1) (.inr rfl)
  rw [show z - -1=z+1 by omega,show r - -1=r+1 by omega] at this
  exact this) (λt=>.inr M3m)
 simpa using this
theorem led_nought {bs rs:List Int} {z r:Int}:Led (bs++[z]++0::r::rs) (bs++[z+r]++rs) 0:=by
 have:=led_mk (pre:=bs) (a:=[z,0,r]) (b:=[z+r]) (rs:=rs) (v:=0) (λx=>by
  show U (U (U x z) 0) r=W 0 (U x (z+r))
  rw [W_0,U2]) (λt=>.inr M2)
 simpa using this
theorem led_split {pre rs:List Int} {p q:Int}:Led (pre++p::q::rs) (pre++[p+1,1,q+1]++rs) (-1):=by
 have:=led_mk (pre:=pre) (a:=[p,q]) (b:=[p+1,1,q+1]) (rs:=rs) (v:=-1) (λx=>by
  show U (U x p) q=W (-1) (U (U (U x (p+1)) 1) (q+1))
  rw [U3 (.inl rfl),← W_add,show p+1-1=p by omega,show q+1-1=q by omega]
  exact W_0.symm) (λt=>by
  refine .inl ?_
  show M (M t p) q=M (M (M t (p+1)) 1) (q+1)
  rw [M3,show p+1-1=p by omega,show q+1-1=q by omega])
 simpa using this
theorem led_one0 {rs:List Int} {r:Int}:Led (1::r::rs) ((r + -1)::rs) 0:=by
 refine ⟨?_,?_⟩
 ·rw [W_0]
  show F (U (U s0 1) r) rs=F (U s0 (r + -1)) rs
  rw [U0s (.inl rfl)];rfl
 ·refine Eqs.fold (t:=M (M (1,0) 1) r) (.inl ?_) rs
  rw [M1s];rfl
theorem led_less0 {rs:List Int} {r:Int}:Led (-1::r::rs) ((r+1)::rs) 0:=by
 refine ⟨?_,?_⟩
 ·rw [W_0]
  show F (U (U s0 (-1)) r) rs=F (U s0 (r+1)) rs
  rw [U0s (.inr rfl),show r - -1=r+1 by omega]
 ·exact Eqs.fold (t:=M (M (1,0) (-1)) r) (.inr M1m) rs
theorem led_nought0 {rs:List Int}:Led (0::0::rs) rs 0:=by
 refine ⟨?_,?_⟩
 ·rw [W_0];rfl
 ·exact Eqs.fold (t:=M (M (1,0) 0) 0) (u:=(1,0)) (.inr M00) rs
theorem led_loose {rs:List Int} {r:Int}:Led (0::r::rs) (0::0::rs) r:=by
 refine ⟨?_,?_⟩
 ·show F (U (U s0 0) r) rs=W r (F (U (U s0 0) 0) rs)
  rw [loose,F_W]
 ·exact Eqs.fold (t:=M (M (1,0) 0) r) (.inl Ml) rs
def Wi (B:Nat) (a:Pol.T):Prop:=∀t∈a,-(B:Int)<=t.1/\t.1<=B
theorem ev_del_out {p:Int}:∀{a:Pol.T},(∀t∈a,t.1≠p)->ev (del p) a=0
 | [],_=>rfl
 | t::a,h=>by
  rw [ev_cons,ev_del_out λu hu=>h u (List.mem_cons_of_mem _ hu)]
  unfold del
  rw [if_neg (h t List.mem_cons_self)]
  omega
theorem ev_del_in:∀{a:Pol.T},(a.Pairwise λt u=>t.1<u.1)->∀t∈a,ev (del t.1) a=t.2
 | u::a,h,t,ht=>by
  obtain ⟨h1,h2⟩:=List.pairwise_cons.mp h
  rcases List.mem_cons.mp ht with rfl | ht
  ·exact ev_del_hd h
  ·rw [ev_cons,ev_del_in h2 t ht]
   unfold del
   rw [if_neg (by have:=h1 t ht;omega)]
   omega
theorem is_wi {B:Nat} {us a b:Pol.T} (h:Is us) (ha:Wi B a) (hb:Wi B b) (e:∀f,ev f us=ev f a-ev f b):Wi B us:=λt ht=>by
 refine Decidable.byContradiction λc=>?_
 have h1:=ev_del_in h.asc t ht
 rw [e,ev_del_out λu hu z=>c (by rw [← z];exact ha u hu),ev_del_out λu hu z=>c (by rw [← z];exact hb u hu)] at h1
 exact h.nz t ht (by omega)
theorem wi_len:∀{a:Pol.T} {lo hi:Int},(a.Pairwise λt u=>t.1<u.1)->(∀t∈a,lo<=t.1/\t.1<=hi)->(a.length:Int)<=(hi-lo+1).toNat
 | [],_,_,_,_=>by rw [List.length_nil];omega
 | t::a,lo,hi,h,k=>by
  obtain ⟨h1,h2⟩:=List.pairwise_cons.mp h
  have:=wi_len (lo:=t.1+1) (hi:=hi) h2 λu hu=>⟨by have:=h1 u hu;omega,(k u (List.mem_cons_of_mem _ hu)).2⟩
  have k1:=k t List.mem_cons_self
  rw [List.length_cons]
  omega
theorem wi_len2 {B:Nat} {a:Pol.T} (h:Is a) (k:Wi B a):a.length<=2*B+1:=by
 have:=wi_len (lo:=-(B:Int)) (hi:=B) h.asc k
 omega
theorem wi_lift {B:Nat} {a:Pol.T} {m:Int} (h:Wi B a) (hm:m.natAbs<=3):Wi (B+3) (lift a m):=λt ht=>by
 obtain ⟨u,hu,rfl⟩:=List.mem_map.mp ht
 have:=h u hu
 dsimp only
 omega
theorem wi_mono {B C:Nat} {a:Pol.T} (h:Wi B a) (hc:B<=C):Wi C a:=λt ht=>by have:=h t ht;omega
end M69
namespace K69
open PySem PySem.Spec L2 PV
open PyProof.Rows (envOfC)
open V68
def top (i:Nat):Stmt:=PySem.Challenge.pw_tanglehouse_k69_whole_rows_of_steps.main.body.getD i (.Pass ⟨0,0,0,0⟩)
def isR (x:Str):Bool:=decide (x=(Str.ofString "NoStep"))
structure Bn (K:PySem.W.Frag) (mg:Str->Option Value):Prop where
 nb_abs:mg "abs" = none
 nb_bool:mg "bool" = none
 nb_enumerate:mg "enumerate" = none
 nb_int:mg "int" = none
 nb_isinstance:mg "isinstance" = none
 nb_len:mg "len" = none
 nb_list:mg "list" = none
 nb_range:mg "range" = none
 nb_sorted:mg "sorted" = none
 nb_tuple:mg "tuple" = none
 c_NOUGHT:KcN K mg "NOUGHT" (.tup [])
 c_ONE:KcN K mg "ONE" (.tup [.tup [.int 0,.int 1]])
 f_exchanged:FnN K mg "exchanged"
 f_half_twisted_sums:FnN K mg "half_twisted_sums"
 e_NoStep:∃C,ExcK K mg "NoStep" C/\atN K "NoStep" C
 h_NoStep:∃C0,mg "NoStep" = some (.ref C0)/\∀x C,isR x=true->atN K x C->PySem.W.exmOne K (.ref C) (.ref C0)=some true
theorem small {n:Nat} (h:n<=2000):n<sizeLine:=Nat.lt_of_le_of_lt h (by decide)
abbrev I (l:List Int):List D:=l.map .int
theorem pI {l:List Int}:pureL (I l)=true:=pure_ints
theorem pc {P R:List D} (h1:pureL P=true) (h2:pureL R=true):pureL (P++R)=true:=pureL_iff.mpr λx hx=>(List.mem_append.mp hx).elim (pureL_iff.mp h1 x) (pureL_iff.mp h2 x)
theorem pu {P R:List Int} {n r:Int}:pureL (I P ++ .int n :: .int r::I R)=true:=pc pI (by simp only [pureL,D.pure,Bool.true_and];exact pI)
section
variable {P R:List D} {x y z y':D}
theorem at0:L2.atI (P++x::y::R) (P.length:Int)=some x:=by rw [atI_ofNat,List.getElem?_append_right (Nat.le_refl _),Nat.sub_self];rfl
theorem at1:L2.atI (P++x::y::R) ((P.length:Int)+1)=some y:=by
 rw [show (P.length:Int)+1=((P.length+1:Nat):Int) by omega,atI_ofNat,List.getElem?_append_right (by omega),show P.length+1-P.length=1 by omega];rfl
theorem atm:L2.atI ((P++[z])++x::y::R) (((P++[z]).length:Int)-1)=some z:=by
 rw [show ((P++[z]).length:Int)-1=(P.length:Int) by simp,atI_ofNat,List.append_assoc,List.getElem?_append_right (Nat.le_refl _),Nat.sub_self];rfl
theorem cutP:cutD (P++x::y::R) none (some (P.length:Int))=P:=by rw [cut_to,List.take_left]
theorem cutm:cutD ((P++[z])++x::y::R) none (some (((P++[z]).length:Int)-1))=P:=by
 rw [show ((P++[z]).length:Int)-1=(P.length:Int) by simp,cut_to,List.append_assoc,List.take_left]
theorem cut1:cutD (P++x::y::R) (some ((P.length:Int)+1)) none=y::R:=by
 rw [show (P.length:Int)+1=((P.length+1:Nat):Int) by omega,cut_from (by simp),List.drop_append,List.drop_of_length_le (by omega),show P.length+1-P.length=1 by omega];rfl
theorem cut2:cutD (P++x::y::R) (some ((P.length:Int)+2)) none=R:=by
 rw [show (P.length:Int)+2=((P.length+2:Nat):Int) by omega,cut_from (by simp),List.drop_append,List.drop_of_length_le (by omega),show P.length+2-P.length=2 by omega];rfl
theorem ix1:L2.ixN (P++x::y::R).length ((P.length:Int)+1)=some (P.length+1):=by
 unfold L2.ixN
 rw [if_pos (by omega),if_pos (by simp;omega)]
 congr 1
theorem set1:(P++x::y::R).set (P.length+1) y'=P++x::y'::R:=by
 rw [List.set_append_right _ _ (by omega),show P.length+1-P.length=1 by omega];rfl
theorem ixm:L2.ixN ((P++[z])++x::y::R).length (((P++[z]).length:Int)-1)=some P.length:=by
 unfold L2.ixN
 rw [if_pos (by simp),if_pos (by simp;omega)]
 congr 1
 simp
theorem setm:((P++[z])++x::y::R).set P.length y'=(P++[y'])++x::y::R:=by
 rw [List.append_assoc,List.set_append_right _ _ (Nat.le_refl _),Nat.sub_self,List.append_assoc];rfl
theorem ers:(P++x::y::R).eraseIdx P.length=P++y::R:=by
 rw [List.eraseIdx_append_of_length_le (Nat.le_refl _),Nat.sub_self];rfl
theorem sq0:seqIndex? (P.length:Int) (P++x::y::R).length=some P.length:=by
 unfold seqIndex?
 simp
 omega
theorem ge0:(P++x::y::R)[P.length]? = some x:=by rw [List.getElem?_append_right (Nat.le_refl _),Nat.sub_self];rfl
end
def g_is_whole:GA:=λds k=>∃n:Int,ds=[.int n]/\k (.bl true)
abbrev s_is_whole:Stmt:=top 4
theorem sc_is_whole:FnScope ["thing"] ["thing"] (defScope s_is_whole):=⟨rfl,rfl,rfl,by decide +kernel,rfl,by decide +kernel,by decide +kernel⟩
def t_is_whole:Tg:={ own:=λi=>false,io:=[] }
def w_is_whole:WS:=(wRet (wAndV (wCall dIsi (wCons (wVar 0) (wCons (wC (.ty .int)) wNil))) (wNotV (wCall dIsi (wCons (wVar 0) (wCons (wC (.ty .bool)) wNil))))))
theorem b_is_whole {P:Program} {w:World} {K:PySem.W.Frag} {mg:Str->Option Value} {base:Heap} {f:Addr} (B:Bn K mg):∀(cdv:Value) (A:Around) (outer:List PySem.Env) (s:Shared) (H:Hp) (E:XK),Room 0 (A.deeper (envOfC "is_whole" (defScope s_is_whole) s.heap.objs.size f cdv))->SVs (cxOf CX0 P w K mg base ["thing"] "is_whole" (defScope s_is_whole) f cdv A outer s H E).nox t_is_whole (defBody s_is_whole) w_is_whole:=λcdv A outer s H E hr =>
  (svs_one (sv_ret (ev_and (ev_callB cd_isi B.nb_isinstance bt_isinstance (av_cons (ev_var 0) (av_cons (ev_ty .int B.nb_int bt_int) av_nil))) (ev_one (ev_not (ev_callB cd_isi B.nb_isinstance bt_isinstance (av_cons (ev_var 0) (av_cons (ev_ty .bool B.nb_bool bt_bool) av_nil))))))))
theorem ok_is_whole {P:Program} {w:World} {K:PySem.W.Frag} {mg:Str->Option Value} {base:Heap} {f:Addr} {fd:FuncData} (F:Fun K "is_whole" "is_whole" s_is_whole f fd) (B:Bn K mg):FnOk P w K mg base CX0 1 f fd ["thing"] (spR K g_is_whole):=by
 refine fn_ro (T:=t_is_whole) F sc_is_whole rfl (by decide) (λds kk h=>?_) (b_is_whole B) (λds kk h=>?_)
 ·obtain ⟨n,rfl,_⟩:=h
  rfl
 ·obtain ⟨n,rfl,k⟩:=h
  simp only [w_is_whole,wRet,env0,List.map_cons,List.map_nil,List.length_cons,List.length_nil,Nat.zero_add,List.cons_append,List.nil_append,r_andV,wCall,wCons,wC,wNil,r_notV,r_isi,isiD,r_blOf,r_var,look,oget_s,BEq.rfl,reduceIte]
  exact k
def plc (l:List Int) (a:Int):Bool:=decide (0<=a/\a<(l.length:Int)-1)
def g_is_placed:GA:=λds k=>∃(l:List Int) (w:Str) (a:Int),ds=[.lst (I l),.tup [.str w,.int a]]/\k (.bl (plc l a))
abbrev s_is_placed:Stmt:=top 6
theorem sc_is_placed:FnScope ["twists","thing"] ["twists","thing"] (defScope s_is_placed):=⟨rfl,rfl,rfl,by decide +kernel,rfl,by decide +kernel,by decide +kernel⟩
def t_is_placed:Tg:={ own:=λi=>false,io:=[] }
def w_is_placed:WS:=(wSeq (wIf (wOr (wNot (wTru (wCall dIsi (wCons (wVar 1) (wCons (wC (.ty .tuple)) wNil))))) (wBl (wBin dNe (wCall dLen (wCons (wVar 1) wNil)) (wC (.int 2))))) (wRet (wC (.bl false))) wNext)
 (wRet (wAndV (wCall g_is_whole (wCons (wBin dIx (wVar 1) (wC (.int 1))) wNil)) (wChainV (dCmp λi j=>decide (i<=j)) (dCmp λi j=>decide (i<j)) (wC (.int 0)) (wBin dIx (wVar 1) (wC (.int 1))) (wBin dSub (wCall dLen (wCons (wVar 0) wNil)) (wC (.int 1)))))))
theorem b_is_placed {P:Program} {w:World} {K:PySem.W.Frag} {mg:Str->Option Value} {base:Heap} {f:Addr} (B:Bn K mg) (C_is_whole:Cal P w K mg base "is_whole" 1 ["thing"] (spR K g_is_whole)):∀(cdv:Value) (A:Around) (outer:List PySem.Env) (s:Shared) (H:Hp) (E:XK),Room 1 (A.deeper (envOfC "is_placed" (defScope s_is_placed) s.heap.objs.size f cdv))->SVs (cxOf CX0 P w K mg base ["twists","thing"] "is_placed" (defScope s_is_placed) f cdv A outer s H E).nox t_is_placed (defBody s_is_placed) w_is_placed:=λcdv A outer s H E hr =>
  (svs_cons (sv_if (tv_bool (bv_or (tv_not (tv_tru (ev_callB cd_isi B.nb_isinstance bt_isinstance (av_cons (ev_var 1) (av_cons (ev_ty .tuple B.nb_tuple bt_tuple) av_nil))))) (bv_or1 (tv_cmp (od_ne hr.units) (ev_callB cd_len B.nb_len bt_len (av_cons (ev_var 1) av_nil)) ev_int)))) (svs_one (sv_ret ev_bl)) svs_nil)
  (svs_one (sv_ret (ev_and (ev_callC C_is_whole (hr.mono (by decide)) (av_cons (ev_ix (xd_ix (hu_of hr)) (ev_var 1) ev_int) av_nil)) (ev_one (ev_chain od_le od_lt ev_int (ev_ix (xd_ix (hu_of hr)) (ev_var 1) ev_int) (ev_op od_sub (ev_callB cd_len B.nb_len bt_len (av_cons (ev_var 0) av_nil)) ev_int)))))))
theorem ok_is_placed {P:Program} {w:World} {K:PySem.W.Frag} {mg:Str->Option Value} {base:Heap} {f:Addr} {fd:FuncData} (F:Fun K "is_placed" "is_placed" s_is_placed f fd) (B:Bn K mg) (C1:Cal P w K mg base "is_whole" 1 ["thing"] (spR K g_is_whole)):FnOk P w K mg base CX0 2 f fd ["twists","thing"] (spR K g_is_placed):=by
 refine fn_ro (T:=t_is_placed) F sc_is_placed rfl (by decide) (λds kk h=>?_) (b_is_placed B C1) (λds kk h=>?_)
 ·obtain ⟨l,v,a,rfl,_⟩:=h
  rfl
 ·obtain ⟨l,v,a,rfl,k⟩:=h
  simp only [w_is_placed,wSeq,wIf,wOr,wNot,env0,List.map_cons,List.map_nil,List.length_cons,List.length_nil,Nat.zero_add,Nat.reduceAdd,List.cons_append,List.nil_append,wRet,wC,wNext,r_andV,wCall,wCons,wBin,wNil,wChainV,r_var,reduceIte,r_bl,r_tru,r_isi,isiD,r_truB,look,oget_s,r_lenL,r_sub,r_ixT,atI_1,List.getElem?_cons_succ,List.getElem?_cons_zero,r_cmp,r_blOf,r_lenT,r_neI,BEq.rfl,Bool.not_true,Bool.false_eq_true]
  rw [if_neg (by decide)]
  refine ⟨a,rfl,?_⟩
  simp only [r_blOf,reduceIte]
  have e:(I l).length=l.length:=by simp
  unfold plc at k
  by_cases h:0<=a
  ·rw [if_pos (decide_eq_true h),e]
   rwa [show decide (0<=a/\a<(l.length:Int)-1)=decide (a<(l.length:Int)-1) by simp [h]] at k
  ·rw [if_neg (λz=>h (of_decide_eq_true z))]
   rwa [show decide (0<=a/\a<(l.length:Int)-1)=false by simp [h]] at k
def g_without_number:GA:=λds k=>∃(pre rs:List Int) (n r m:Int),ds=[.lst (I pre ++ .int n :: .int r::I rs),.int pre.length,.int m]/\pre.length+rs.length<=20/\k (.lst (I (adj pre m++(r+m)::rs)))
abbrev s_without_number:Stmt:=top 7
theorem sc_without_number:FnScope ["twists","at","many","told"] ["twists","at","many"] (defScope s_without_number):=⟨rfl,rfl,rfl,by decide +kernel,rfl,by decide +kernel,by decide +kernel⟩
def t_without_number:Tg:={ own:=λi=>i == 3,io:=[] }
def w_without_number:WS:=(wSeq (wSet 3 (wCall dList (wCons (wVar 0) wNil)))
 (wSeq (wSetIx 3 (wBin dAddT (wBin dIx (wVar 3) (wBin dAddT (wVar 1) (wC (.int 1)))) (wVar 2)) (wBin dAddT (wVar 1) (wC (.int 1))))
 (wSeq (wIf (wBl (wBin (dCmp λi j=>decide (j<i)) (wVar 1) (wC (.int 0)))) (wSetIx 3 (wBin dAddT (wBin dIx (wVar 3) (wBin dSub (wVar 1) (wC (.int 1)))) (wVar 2)) (wBin dSub (wVar 1) (wC (.int 1)))) wNext)
 (wSeq (wDrop (wMt 3 "list" gPopAt (wCons (wLift (wVar 1)) wNil)))
 (wRetS 3)))))
theorem b_without_number {P:Program} {w:World} {K:PySem.W.Frag} {mg:Str->Option Value} {base:Heap} {f:Addr} (B:Bn K mg):∀(cdv:Value) (A:Around) (outer:List PySem.Env) (s:Shared) (H:Hp) (E:XK),Room 0 (A.deeper (envOfC "without_number" (defScope s_without_number) s.heap.objs.size f cdv))->SVs (cxOf CX0 P w K mg base ["twists","at","many","told"] "without_number" (defScope s_without_number) f cdv A outer s H E).nox t_without_number (defBody s_without_number) w_without_number:=λcdv A outer s H E hr =>
  (svs_cons (sv_set (i:=3) (ev_callTy cd_list B.nb_list bt_list (av_cons (ev_var 0) av_nil)) sc_without_number.nd)
  (svs_cons (sv_setIx (i:=3) (hu_of hr) (ev_op od_addT (ev_ix (xd_ix (hu_of hr)) (ev_var 3) (ev_op od_addT (ev_var 1) ev_int)) (ev_var 2)) (ev_op od_addT (ev_var 1) ev_int))
  (svs_cons (sv_if (tv_cmp od_gt (ev_var 1) ev_int) (svs_one (sv_setIx (i:=3) (hu_of hr) (ev_op od_addT (ev_ix (xd_ix (hu_of hr)) (ev_var 3) (ev_op od_sub (ev_var 1) ev_int)) (ev_var 2)) (ev_op od_sub (ev_var 1) ev_int))) svs_nil)
  (svs_cons (sv_expr (ev_mt (i:=3) md_popAt PySem.F.plainAttrs_list PySem.F.slot_list_pop PySem.F.type_list_pop (av_cons (ev_lift (ev_var 1)) av_nil)))
  (svs_one (sv_retS (i:=3)))))))
theorem ok_without_number {P:Program} {w:World} {K:PySem.W.Frag} {mg:Str->Option Value} {base:Heap} {f:Addr} {fd:FuncData} (F:Fun K "without_number" "without_number" s_without_number f fd) (B:Bn K mg):FnOk P w K mg base CX0 1 f fd ["twists","at","many"] (spR K g_without_number):=by
 refine fn_ro (T:=t_without_number) F sc_without_number rfl (by decide) (λds kk h=>?_) (b_without_number B) (λds kk h=>?_)
 ·obtain ⟨pre,rs,n,r,m,rfl,_⟩:=h
  rfl
 ·obtain ⟨pre,rs,n,r,m,rfl,hl,k⟩:=h
  have e1:(pre.length:Int)=((I pre).length:Int):=by simp
  simp only [w_without_number,wSeq,wSet,wCall,wCons,env0,e1,List.map_cons,List.map_nil,List.length_cons,List.length_nil,Nat.zero_add,Nat.reduceAdd,List.replicate,List.cons_append,List.nil_append,wNil,wSetIx,wBin,wC,wIf,wDrop,wMt,wLift,wRetS,r_var,wNext,r_bl,look,List.set_cons_succ,List.set_cons_zero,Option.isSome_some,oget_s,D.pure,true_and,r_sub,r_cmp,r_blOf,r2_add,r_listL,pu,r_setL,ix1,List.length_set,r_tyL,BEq.rfl,r_popAt,Int.reducePow,Int.reduceNeg,r_ixL,set1,at1]
  have b1:(-9223372036854775808:Int)<=((I pre).length:Int):=by omega
  have b2:((I pre).length:Int)<9223372036854775808:=by simp;omega
  rcases List.eq_nil_or_concat pre with rfl | ⟨bs,z,rfl⟩
  ·rw [if_neg (by decide)]
   refine ⟨b1,b2,?_⟩
   rw [sq0]
   simp only [oget_s,ge0,ers,D.pure,true_and]
   exact k
  ·rw [if_pos (decide_eq_true (by simp))]
   rw [List.concat_eq_append] at *
   have e2:I (bs++[z])=I bs++[.int z]:=by simp
   rw [adj_snoc] at k
   simp only [e2,atm,ixm,Int.reduceNeg,oget_s,r2_add,D.pure,true_and]
   rw [setm]
   have b3:(-9223372036854775808:Int)<=((I bs++[D.int z]).length:Int):=by omega
   have b4:((I bs++[D.int z]).length:Int)<9223372036854775808:=by rw [e2] at b2;exact b2
   refine ⟨b3,b4,?_⟩
   rw [sq0]
   have e3:(I bs++[D.int z]).length=(I bs++[D.int (z+m)]).length:=by simp
   rw [e3]
   simp only [oget_s,ge0,ers,D.pure,true_and]
   rw [show I (bs++[z+m]++(r+m)::rs)=I bs++[D.int (z+m)]++D.int (r+m)::I rs by simp] at k
   exact k
def nou (pre rs:List Int) (n r:Int):Bool:=decide (n=0/\(pre≠[]\/(r=0/\rs≠[])))
def g_can_be_nought:GA:=λds k=>∃(pre rs:List Int) (n r:Int),ds=[.lst (I pre ++ .int n :: .int r::I rs),.int pre.length]/\k (.bl (nou pre rs n r))
abbrev s_can_be_nought:Stmt:=top 8
theorem sc_can_be_nought:FnScope ["twists","at"] ["twists","at"] (defScope s_can_be_nought):=⟨rfl,rfl,rfl,by decide +kernel,rfl,by decide +kernel,by decide +kernel⟩
def t_can_be_nought:Tg:={ own:=λi=>false,io:=[] }
def w_can_be_nought:WS:=(wSeq (wIf (wBl (wBin dNe (wBin dIx (wVar 0) (wVar 1)) (wC (.int 0)))) (wRet (wC (.bl false))) wNext)
 (wRet (wOrV (wBin (dCmp λi j=>decide (j<i)) (wVar 1) (wC (.int 0))) (wAndV (wBin dEq (wBin dIx (wVar 0) (wC (.int 1))) (wC (.int 0))) (wBin (dCmp λi j=>decide (j<i)) (wCall dLen (wCons (wVar 0) wNil)) (wC (.int 2)))))))
theorem b_can_be_nought {P:Program} {w:World} {K:PySem.W.Frag} {mg:Str->Option Value} {base:Heap} {f:Addr} (B:Bn K mg):∀(cdv:Value) (A:Around) (outer:List PySem.Env) (s:Shared) (H:Hp) (E:XK),Room 0 (A.deeper (envOfC "can_be_nought" (defScope s_can_be_nought) s.heap.objs.size f cdv))->SVs (cxOf CX0 P w K mg base ["twists","at"] "can_be_nought" (defScope s_can_be_nought) f cdv A outer s H E).nox t_can_be_nought (defBody s_can_be_nought) w_can_be_nought:=λcdv A outer s H E hr =>
  (svs_cons (sv_if (tv_cmp (od_ne hr.units) (ev_ix (xd_ix (hu_of hr)) (ev_var 0) (ev_var 1)) ev_int) (svs_one (sv_ret ev_bl)) svs_nil)
  (svs_one (sv_ret (ev_or (ev_cmp od_gt (ev_var 1) ev_int) (ev_one (ev_and (ev_cmp (od_eq hr.units) (ev_ix (xd_ix (hu_of hr)) (ev_var 0) ev_int) ev_int) (ev_one (ev_cmp od_gt (ev_callB cd_len B.nb_len bt_len (av_cons (ev_var 0) av_nil)) ev_int))))))))
theorem ok_can_be_nought {P:Program} {w:World} {K:PySem.W.Frag} {mg:Str->Option Value} {base:Heap} {f:Addr} {fd:FuncData} (F:Fun K "can_be_nought" "can_be_nought" s_can_be_nought f fd) (B:Bn K mg):FnOk P w K mg base CX0 1 f fd ["twists","at"] (spR K g_can_be_nought):=by
 refine fn_ro (T:=t_can_be_nought) F sc_can_be_nought rfl (by decide) (λds kk h=>?_) (b_can_be_nought B) (λds kk h=>?_)
 ·obtain ⟨pre,rs,n,r,rfl,_⟩:=h
  rfl
 ·obtain ⟨pre,rs,n,r,rfl,k⟩:=h
  have e1:(pre.length:Int)=((I pre).length:Int):=by simp
  simp only [w_can_be_nought,wSeq,wIf,env0,e1,List.map_cons,List.map_nil,List.length_cons,List.length_nil,Nat.zero_add,Nat.reduceAdd,List.cons_append,List.nil_append,wRet,wC,wNext,r_orV,wBin,r_andV,wCall,wCons,wNil,r_var,r_bl,look,oget_s,r_lenL,r_cmp,r_ixL,atI_1,r_blOf,at0,r_neI]
  unfold nou at k
  by_cases hn:n=0
  ·rw [if_neg (by simp [hn])]
   rcases List.eq_nil_or_concat pre with rfl | ⟨bs,z,rfl⟩
   ·rw [if_neg (by decide)]
    show dEq (D.int r) (D.int 0) λd=>blOf d λc=>if c=true then kk (D.bl (decide (2<((I []++D.int n::D.int r::I rs).length:Int)))) else kk (D.bl false)
    simp only [r_eqI,r_blOf]
    by_cases hr:r=0
    ·rw [if_pos (decide_eq_true hr)]
     rwa [show decide (n=0/\(([]:List Int)≠[]\/(r=0/\rs≠[])))=decide (2<((I []++D.int n::D.int r::I rs).length:Int)) by
      cases rs <;> simp [hn,hr];omega] at k
    ·rw [if_neg (λz=>hr (of_decide_eq_true z))]
     rwa [show decide (n=0/\(([]:List Int)≠[]\/(r=0/\rs≠[])))=false by simp [hr]] at k
   ·rw [if_pos (decide_eq_true (by simp))]
    rwa [show decide (n=0/\(bs.concat z≠[]\/(r=0/\rs≠[])))=true by simp [hn]] at k
  ·rw [if_pos (by simp [hn])]
   rwa [show decide (n=0/\(pre≠[]\/(r=0/\rs≠[])))=false by simp [hn]] at k
def wno (pre rs:List Int) (r:Int):List Int:=if pre=[] then rs else adj pre r++rs
def g_without_nought:GA:=λds k=>∃(pre rs:List Int) (n r:Int),ds=[.lst (I pre ++ .int n :: .int r::I rs),.int pre.length]/\pre.length+rs.length<=20/\k (.lst (I (wno pre rs r)))
abbrev s_without_nought:Stmt:=top 9
theorem sc_without_nought:FnScope ["twists","at"] ["twists","at"] (defScope s_without_nought):=⟨rfl,rfl,rfl,by decide +kernel,rfl,by decide +kernel,by decide +kernel⟩
def t_without_nought:Tg:={ own:=λi=>false,io:=[] }
def w_without_nought:WS:=(wSeq (wIf (wBl (wBin dEq (wVar 1) (wC (.int 0)))) (wRet (wSlT (wVar 0) (wSome (wC (.int 2))) wNone)) wNext)
 (wRet (wBin dAddT (wBin dAddT (wSlT (wVar 0) wNone (wSome (wBin dSub (wVar 1) (wC (.int 1))))) (wLst (wCons (wBin dAddT (wBin dIx (wVar 0) (wBin dSub (wVar 1) (wC (.int 1)))) (wBin dIx (wVar 0) (wBin dAddT (wVar 1) (wC (.int 1))))) wNil))) (wSlT (wVar 0) (wSome (wBin dAddT (wVar 1) (wC (.int 2)))) wNone))))
theorem b_without_nought {P:Program} {w:World} {K:PySem.W.Frag} {mg:Str->Option Value} {base:Heap} {f:Addr} (B:Bn K mg):∀(cdv:Value) (A:Around) (outer:List PySem.Env) (s:Shared) (H:Hp) (E:XK),Room 0 (A.deeper (envOfC "without_nought" (defScope s_without_nought) s.heap.objs.size f cdv))->SVs (cxOf CX0 P w K mg base ["twists","at"] "without_nought" (defScope s_without_nought) f cdv A outer s H E).nox t_without_nought (defBody s_without_nought) w_without_nought:=λcdv A outer s H E hr =>
  (svs_cons (sv_if (tv_cmp (od_eq hr.units) (ev_var 1) ev_int) (svs_one (sv_ret (ev_slT (ev_var 0) (ov_some ev_int) ov_none))) svs_nil)
  (svs_one (sv_ret (ev_op od_addT (ev_op od_addT (ev_slT (ev_var 0) ov_none (ov_some (ev_op od_sub (ev_var 1) ev_int))) (ev_lst (av_cons (ev_op od_addT (ev_ix (xd_ix (hu_of hr)) (ev_var 0) (ev_op od_sub (ev_var 1) ev_int)) (ev_ix (xd_ix (hu_of hr)) (ev_var 0) (ev_op od_addT (ev_var 1) ev_int))) av_nil))) (ev_slT (ev_var 0) (ov_some (ev_op od_addT (ev_var 1) ev_int)) ov_none)))))
theorem ok_without_nought {P:Program} {w:World} {K:PySem.W.Frag} {mg:Str->Option Value} {base:Heap} {f:Addr} {fd:FuncData} (F:Fun K "without_nought" "without_nought" s_without_nought f fd) (B:Bn K mg):FnOk P w K mg base CX0 1 f fd ["twists","at"] (spR K g_without_nought):=by
 refine fn_ro (T:=t_without_nought) F sc_without_nought rfl (by decide) (λds kk h=>?_) (b_without_nought B) (λds kk h=>?_)
 ·obtain ⟨pre,rs,n,r,rfl,_⟩:=h
  rfl
 ·obtain ⟨pre,rs,n,r,rfl,hl,k⟩:=h
  have e1:(pre.length:Int)=((I pre).length:Int):=by simp
  simp only [w_without_nought,wSeq,wIf,env0,e1,List.map_cons,List.map_nil,List.length_cons,List.length_nil,Nat.zero_add,Nat.reduceAdd,List.cons_append,List.nil_append,wRet,wSlT,wNone,r_some,wC,r_intOf,r_var,wNext,wBin,wLst,wCons,wNil,sz1,true_and,r_bl,look,oget_s,r2_slL,pu,r2_add,cut2,r_ixL,at1,r_sub,r2_addL,pureL,Bool.and_true,pI,r_eqI,r_blOf]
  unfold wno at k
  rcases List.eq_nil_or_concat pre with rfl | ⟨bs,z,rfl⟩
  ·rw [if_pos (by decide)]
   rw [if_pos rfl] at k
   have:=cut2 (P:=([]:List D)) (x:=.int n) (y:=.int r) (R:=I rs)
   rw [show (([]:List D).length:Int)+2=2 by rfl] at this
   rw [show I []=([]:List D) by rfl,this]
   exact k
  ·rw [if_neg (λz=>by have:=of_decide_eq_true z;simp at this;omega)]
   rw [if_neg (by simp),List.concat_eq_append,adj_snoc] at k
   rw [List.concat_eq_append] at hl ⊢
   have e2:I (bs++[z])=I bs++[.int z]:=by simp
   simp only [e2,atm,cutm,oget_s,r2_add,D.pure,true_and]
   simp at hl
   refine ⟨pI,Nat.le_of_lt (small (by simp;omega)),pc pI rfl,Nat.le_of_lt (small (by simp;omega)),?_⟩
   rw [show I (bs++[z+r]++rs)=I bs++[D.int (z+r)]++I rs by simp] at k
   exact k
def g_split_number:GA:=λds k=>∃(pre rs:List Int) (n r:Int),ds=[.lst (I pre ++ .int n :: .int r::I rs),.int pre.length]/\pre.length+rs.length<=20/\k (.lst (I (pre++[n+1,1,r+1]++rs)))
abbrev s_split_number:Stmt:=top 10
theorem sc_split_number:FnScope ["twists","at"] ["twists","at"] (defScope s_split_number):=⟨rfl,rfl,rfl,by decide +kernel,rfl,by decide +kernel,by decide +kernel⟩
def t_split_number:Tg:={ own:=λi=>false,io:=[] }
def w_split_number:WS:=(wRet (wBin dAddT (wBin dAddT (wSlT (wVar 0) wNone (wSome (wVar 1))) (wLst (wCons (wBin dAddT (wBin dIx (wVar 0) (wVar 1)) (wC (.int 1))) (wCons (wC (.int 1)) (wCons (wBin dAddT (wBin dIx (wVar 0) (wBin dAddT (wVar 1) (wC (.int 1)))) (wC (.int 1))) wNil))))) (wSlT (wVar 0) (wSome (wBin dAddT (wVar 1) (wC (.int 2)))) wNone)))
theorem b_split_number {P:Program} {w:World} {K:PySem.W.Frag} {mg:Str->Option Value} {base:Heap} {f:Addr} (B:Bn K mg):∀(cdv:Value) (A:Around) (outer:List PySem.Env) (s:Shared) (H:Hp) (E:XK),Room 0 (A.deeper (envOfC "split_number" (defScope s_split_number) s.heap.objs.size f cdv))->SVs (cxOf CX0 P w K mg base ["twists","at"] "split_number" (defScope s_split_number) f cdv A outer s H E).nox t_split_number (defBody s_split_number) w_split_number:=λcdv A outer s H E hr =>
  (svs_one (sv_ret (ev_op od_addT (ev_op od_addT (ev_slT (ev_var 0) ov_none (ov_some (ev_var 1))) (ev_lst (av_cons (ev_op od_addT (ev_ix (xd_ix (hu_of hr)) (ev_var 0) (ev_var 1)) ev_int) (av_cons ev_int (av_cons (ev_op od_addT (ev_ix (xd_ix (hu_of hr)) (ev_var 0) (ev_op od_addT (ev_var 1) ev_int)) ev_int) av_nil))))) (ev_slT (ev_var 0) (ov_some (ev_op od_addT (ev_var 1) ev_int)) ov_none))))
theorem ok_split_number {P:Program} {w:World} {K:PySem.W.Frag} {mg:Str->Option Value} {base:Heap} {f:Addr} {fd:FuncData} (F:Fun K "split_number" "split_number" s_split_number f fd) (B:Bn K mg):FnOk P w K mg base CX0 1 f fd ["twists","at"] (spR K g_split_number):=by
 refine fn_ro (T:=t_split_number) F sc_split_number rfl (by decide) (λds kk h=>?_) (b_split_number B) (λds kk h=>?_)
 ·obtain ⟨pre,rs,n,r,rfl,_⟩:=h
  rfl
 ·obtain ⟨pre,rs,n,r,rfl,hl,k⟩:=h
  have e1:(pre.length:Int)=((I pre).length:Int):=by simp
  simp only [w_split_number,wRet,wBin,wSlT,env0,e1,List.map_cons,List.map_nil,List.length_cons,List.length_nil,Nat.zero_add,Nat.reduceAdd,List.cons_append,List.nil_append,wNone,wLst,wCons,wC,wNil,sz3,r_some,r_var,true_and,look,oget_s,r2_add,r_intOf,r2_slL,pu,cut2,r_ixL,at1,at0,cutP,r2_addL,pI,pureL,D.pure,Bool.and_self]
  rw [show I (pre++[n+1,1,r+1]++rs)=I pre++[D.int (n+1),D.int 1,D.int (r+1)]++I rs by simp] at k
  exact ⟨Nat.le_of_lt (small (by simp;omega)),pc pI rfl,Nat.le_of_lt (small (by simp;omega)),k⟩
end K69
namespace K69
open PySem PySem.Spec L2 PV
open PyProof.Rows (envOfC)
open V68
abbrev w1:Str:=Str.ofString "one"
abbrev w2:Str:=Str.ofString "less"
abbrev w3:Str:=Str.ofString "nought"
abbrev w4:Str:=Str.ofString "loose"
abbrev w5:Str:=Str.ofString "split"
def stp (pre rs:List Int) (n r:Int) (w:Str):Option (List Int × Int) :=
 if w=w1 then (if n=1 then some (adj pre (-1)++(r + -1)::rs,if pre=[] then 0 else 1) else none)
 else if w=w2 then (if n = -1 then some (adj pre 1++(r+1)::rs,if pre=[] then 0 else -1) else none)
 else if w=w3 then (if nou pre rs n r=true then some (wno pre rs r,0) else none)
 else if w=w4 then (if pre=[]/\n=0 then some (0::0::rs,r) else none)
 else if w=w5 then (if n < -1 then some (pre++[n+1,1,r+1]++rs,-1) else none)
 else none
def stpI (l:List Int) (w:Str) (a:Int):Option (List Int × Int):=if plc l a=true then stp (l.take a.toNat) (l.drop (a.toNat+2)) (l.getD a.toNat 0) (l.getD (a.toNat+1) 0) w else none
theorem parts {l:List Int} {a:Int} (h:plc l a=true):∃pre rs n r,l=pre++n::r::rs/\a=(pre.length:Int)/\∀w,stpI l w a=stp pre rs n r w:=by
 have h0:0<=a/\a<(l.length:Int)-1:=of_decide_eq_true h
 obtain ⟨k,rfl⟩:=Int.eq_ofNat_of_zero_le h0.1
 have hk:k+1<l.length:=by omega
 have e:l=l.take k++l.getD k 0::l.getD (k+1) 0::l.drop (k+2):=by
  conv=>lhs;rw [← List.take_append_drop k l]
  congr 1
  rw [List.drop_eq_getElem_cons (by omega),List.drop_eq_getElem_cons hk]
  simp [List.getD_eq_getElem?_getD,List.getElem?_eq_getElem (show k<l.length by omega),List.getElem?_eq_getElem hk]
 refine ⟨l.take k,l.drop (k+2),l.getD k 0,l.getD (k+1) 0,e,by rw [List.length_take];omega,λw=>?_⟩
 unfold stpI
 rw [if_pos h,Int.toNat_natCast]
theorem none_of {l:List Int} {a:Int} {w:Str} (h:plc l a=false):stpI l w a=none:=by unfold stpI;rw [if_neg (by rw [h];decide)]
theorem words (w:Str):w=w1\/w=w2\/w=w3\/w=w4\/w=w5\/(w≠w1/\w≠w2/\w≠w3/\w≠w4/\w≠w5):=by
 by_cases h1:w=w1
 ·exact .inl h1
 by_cases h2:w=w2
 ·exact .inr (.inl h2)
 by_cases h3:w=w3
 ·exact .inr (.inr (.inl h3))
 by_cases h4:w=w4
 ·exact .inr (.inr (.inr (.inl h4)))
 by_cases h5:w=w5
 ·exact .inr (.inr (.inr (.inr (.inl h5))))
 ·exact .inr (.inr (.inr (.inr (.inr ⟨h1,h2,h3,h4,h5⟩))))
theorem d12:decide (w1=w2)=false:=by decide
theorem ite_dec {c:Prop} [Decidable c] {A B:Prop} (h1:c->A) (h2:¬c->B):if decide c=true then A else B:=by
 by_cases h:c
 ·rw [if_pos (decide_eq_true h)];exact h1 h
 ·rw [if_neg (λz=>h (of_decide_eq_true z))];exact h2 h
def g_step:GX:=λds k kx=>∃(l:List Int) (w:Str) (a:Int),ds=[.lst (I l),.tup [.str w,.int a]]/\l.length<=22/\match stpI l w a with
 | some (q,v)=>k (.tup [.lst (I q),.int v])
 | none=>kx (.obj (Str.ofString "NoStep") [])
abbrev s_step:Stmt:=top 11
theorem sc_step:FnScope ["twists","step","word","at"] ["twists","step"] (defScope s_step):=⟨rfl,rfl,rfl,by decide +kernel,rfl,by decide +kernel,by decide +kernel⟩
def t_step:Tg:={ own:=λi=>i == 2 || i == 3,io:=[] }
def w_step:WS:=(wSeq (wIf (wTru (wCall g_is_placed (wCons (wVar 0) (wCons (wVar 1) wNil)))) (wSeq (wSet 2 (wLift (wBin dIx (wVar 1) (wC (.int 0)))))
 (wSeq (wSet 3 (wLift (wBin dIx (wVar 1) (wC (.int 1)))))
 (wSeq (wIf (wAnd (wBl (wBin dEq (wVar 2) (wC (.str (Str.ofString "one"))))) (wBl (wBin dEq (wBin dIx (wVar 0) (wVar 3)) (wC (.int 1))))) (wRet (wTup (wCons (wCall g_without_number (wCons (wVar 0) (wCons (wVar 3) (wCons (wUn dNeg (wC (.int 1))) wNil)))) (wCons (wIfE (wBl (wBin dEq (wVar 3) (wC (.int 0)))) (wC (.int 0)) (wC (.int 1))) wNil)))) wNext)
 (wSeq (wIf (wAnd (wBl (wBin dEq (wVar 2) (wC (.str (Str.ofString "less"))))) (wBl (wBin dEq (wBin dIx (wVar 0) (wVar 3)) (wUn dNeg (wC (.int 1)))))) (wRet (wTup (wCons (wCall g_without_number (wCons (wVar 0) (wCons (wVar 3) (wCons (wC (.int 1)) wNil)))) (wCons (wIfE (wBl (wBin dEq (wVar 3) (wC (.int 0)))) (wC (.int 0)) (wUn dNeg (wC (.int 1)))) wNil)))) wNext)
 (wSeq (wIf (wAnd (wBl (wBin dEq (wVar 2) (wC (.str (Str.ofString "nought"))))) (wTru (wCall g_can_be_nought (wCons (wVar 0) (wCons (wVar 3) wNil))))) (wRet (wTup (wCons (wCall g_without_nought (wCons (wVar 0) (wCons (wVar 3) wNil))) (wCons (wC (.int 0)) wNil)))) wNext)
 (wSeq (wIf (wAnd (wBl (wBin dEq (wVar 2) (wC (.str (Str.ofString "loose"))))) (wAnd (wBl (wBin dEq (wVar 3) (wC (.int 0)))) (wBl (wBin dEq (wBin dIx (wVar 0) (wC (.int 0))) (wC (.int 0)))))) (wRet (wTup (wCons (wBin dAddT (wLst (wCons (wC (.int 0)) (wCons (wC (.int 0)) wNil))) (wSlT (wVar 0) (wSome (wC (.int 2))) wNone)) (wCons (wLift (wBin dIx (wVar 0) (wC (.int 1)))) wNil)))) wNext)
 (wIf (wAnd (wBl (wBin dEq (wVar 2) (wC (.str (Str.ofString "split"))))) (wBl (wBin (dCmp λi j=>decide (i<j)) (wBin dIx (wVar 0) (wVar 3)) (wUn dNeg (wC (.int 1)))))) (wRet (wTup (wCons (wCall g_split_number (wCons (wVar 0) (wCons (wVar 3) wNil))) (wCons (wUn dNeg (wC (.int 1))) wNil)))) wNext))))))) wNext)
 (wRaise (Str.ofString "NoStep") (wCons (wC (.str (Str.ofString "it is no step of this list"))) wNil)))
theorem b_step {P:Program} {w:World} {K:PySem.W.Frag} {mg:Str->Option Value} {base:Heap} {f:Addr} (B:Bn K mg) (C_is_placed:Cal P w K mg base "is_placed" 2 ["twists","thing"] (spR K g_is_placed)) (C_without_number:Cal P w K mg base "without_number" 1 ["twists","at","many"] (spR K g_without_number)) (C_can_be_nought:Cal P w K mg base "can_be_nought" 1 ["twists","at"] (spR K g_can_be_nought)) (C_without_nought:Cal P w K mg base "without_nought" 1 ["twists","at"] (spR K g_without_nought)) (C_split_number:Cal P w K mg base "split_number" 1 ["twists","at"] (spR K g_split_number)):∀(cdv:Value) (A:Around) (outer:List PySem.Env) (s:Shared) (H:Hp) (E:XK) (XE:D->St->Hp->Prop),Room 2 (A.deeper (envOfC "step" (defScope s_step) s.heap.objs.size f cdv))->(∀x C,atN K x C->RaiseOk (cxOf (CXE P w base) P w K mg base ["twists","step","word","at"] "step" (defScope s_step) f cdv A outer s H E) ⟨t_step.own,t_step.io,XE⟩ x C)->PassOk (cxOf (CXE P w base) P w K mg base ["twists","step","word","at"] "step" (defScope s_step) f cdv A outer s H E) ⟨t_step.own,t_step.io,XE⟩->SVs (cxOf (CXE P w base) P w K mg base ["twists","step","word","at"] "step" (defScope s_step) f cdv A outer s H E) ⟨t_step.own,t_step.io,XE⟩ (defBody s_step) w_step:=λcdv A outer s H E XE hr hX hP =>
  (svs_cons (sv_if (tv_tru (ev_callC C_is_placed (hr.mono (by decide)) (av_cons (ev_var 0) (av_cons (ev_var 1) av_nil)))) (svs_cons (sv_set (i:=2) (ev_lift (ev_ix (xd_ix (hu_of hr)) (ev_var 1) ev_int)) sc_step.nd (hio:=List.not_mem_nil))
  (svs_cons (sv_set (i:=3) (ev_lift (ev_ix (xd_ix (hu_of hr)) (ev_var 1) ev_int)) sc_step.nd (hio:=List.not_mem_nil))
  (svs_cons (sv_if (tv_bool (bv_and (tv_cmp (od_eq hr.units) (ev_var 2) ev_str) (bv_and1 (tv_cmp (od_eq hr.units) (ev_ix (xd_ix (hu_of hr)) (ev_var 0) (ev_var 3)) ev_int)))) (svs_one (sv_ret (ev_tup (av_cons (ev_callC C_without_number (hr.mono (by decide)) (av_cons (ev_var 0) (av_cons (ev_var 3) (av_cons (ev_un ud_neg ev_int) av_nil)))) (av_cons (ev_if (tv_cmp (od_eq hr.units) (ev_var 3) ev_int) ev_int ev_int) av_nil))))) svs_nil)
  (svs_cons (sv_if (tv_bool (bv_and (tv_cmp (od_eq hr.units) (ev_var 2) ev_str) (bv_and1 (tv_cmp (od_eq hr.units) (ev_ix (xd_ix (hu_of hr)) (ev_var 0) (ev_var 3)) (ev_un ud_neg ev_int))))) (svs_one (sv_ret (ev_tup (av_cons (ev_callC C_without_number (hr.mono (by decide)) (av_cons (ev_var 0) (av_cons (ev_var 3) (av_cons ev_int av_nil)))) (av_cons (ev_if (tv_cmp (od_eq hr.units) (ev_var 3) ev_int) ev_int (ev_un ud_neg ev_int)) av_nil))))) svs_nil)
  (svs_cons (sv_if (tv_bool (bv_and (tv_cmp (od_eq hr.units) (ev_var 2) ev_str) (bv_and1 (tv_tru (ev_callC C_can_be_nought (hr.mono (by decide)) (av_cons (ev_var 0) (av_cons (ev_var 3) av_nil))))))) (svs_one (sv_ret (ev_tup (av_cons (ev_callC C_without_nought (hr.mono (by decide)) (av_cons (ev_var 0) (av_cons (ev_var 3) av_nil))) (av_cons ev_int av_nil))))) svs_nil)
  (svs_cons (sv_if (tv_bool (bv_and (tv_cmp (od_eq hr.units) (ev_var 2) ev_str) (bv_and (tv_cmp (od_eq hr.units) (ev_var 3) ev_int) (bv_and1 (tv_cmp (od_eq hr.units) (ev_ix (xd_ix (hu_of hr)) (ev_var 0) ev_int) ev_int))))) (svs_one (sv_ret (ev_tup (av_cons (ev_op od_addT (ev_lst (av_cons ev_int (av_cons ev_int av_nil))) (ev_slT (ev_var 0) (ov_some ev_int) ov_none)) (av_cons (ev_lift (ev_ix (xd_ix (hu_of hr)) (ev_var 0) ev_int)) av_nil))))) svs_nil)
  (svs_one (sv_if (tv_bool (bv_and (tv_cmp (od_eq hr.units) (ev_var 2) ev_str) (bv_and1 (tv_cmp od_lt (ev_ix (xd_ix (hu_of hr)) (ev_var 0) (ev_var 3)) (ev_un ud_neg ev_int))))) (svs_one (sv_ret (ev_tup (av_cons (ev_callC C_split_number (hr.mono (by decide)) (av_cons (ev_var 0) (av_cons (ev_var 3) av_nil))) (av_cons (ev_un ud_neg ev_int) av_nil))))) svs_nil)))))))) svs_nil)
  (svs_one (sv_raise B.e_NoStep.choose_spec.1 (hX _ _ B.e_NoStep.choose_spec.2) (av_cons ev_str av_nil))))
def S5:WS:=(wIf (wAnd (wBl (wBin dEq (wVar 2) (wC (.str (Str.ofString "split"))))) (wBl (wBin (dCmp λi j=>decide (i<j)) (wBin dIx (wVar 0) (wVar 3)) (wUn dNeg (wC (.int 1)))))) (wRet (wTup (wCons (wCall g_split_number (wCons (wVar 0) (wCons (wVar 3) wNil))) (wCons (wUn dNeg (wC (.int 1))) wNil)))) wNext)
def S4:WS:=(wSeq (wIf (wAnd (wBl (wBin dEq (wVar 2) (wC (.str (Str.ofString "loose"))))) (wAnd (wBl (wBin dEq (wVar 3) (wC (.int 0)))) (wBl (wBin dEq (wBin dIx (wVar 0) (wC (.int 0))) (wC (.int 0)))))) (wRet (wTup (wCons (wBin dAddT (wLst (wCons (wC (.int 0)) (wCons (wC (.int 0)) wNil))) (wSlT (wVar 0) (wSome (wC (.int 2))) wNone)) (wCons (wLift (wBin dIx (wVar 0) (wC (.int 1)))) wNil)))) wNext)
 S5)
def S3:WS:=(wSeq (wIf (wAnd (wBl (wBin dEq (wVar 2) (wC (.str (Str.ofString "nought"))))) (wTru (wCall g_can_be_nought (wCons (wVar 0) (wCons (wVar 3) wNil))))) (wRet (wTup (wCons (wCall g_without_nought (wCons (wVar 0) (wCons (wVar 3) wNil))) (wCons (wC (.int 0)) wNil)))) wNext)
 S4)
def S2:WS:=(wSeq (wIf (wAnd (wBl (wBin dEq (wVar 2) (wC (.str (Str.ofString "less"))))) (wBl (wBin dEq (wBin dIx (wVar 0) (wVar 3)) (wUn dNeg (wC (.int 1)))))) (wRet (wTup (wCons (wCall g_without_number (wCons (wVar 0) (wCons (wVar 3) (wCons (wC (.int 1)) wNil)))) (wCons (wIfE (wBl (wBin dEq (wVar 3) (wC (.int 0)))) (wC (.int 0)) (wUn dNeg (wC (.int 1)))) wNil)))) wNext)
 S3)
def S1:WS:=(wSeq (wIf (wAnd (wBl (wBin dEq (wVar 2) (wC (.str (Str.ofString "one"))))) (wBl (wBin dEq (wBin dIx (wVar 0) (wVar 3)) (wC (.int 1))))) (wRet (wTup (wCons (wCall g_without_number (wCons (wVar 0) (wCons (wVar 3) (wCons (wUn dNeg (wC (.int 1))) wNil)))) (wCons (wIfE (wBl (wBin dEq (wVar 3) (wC (.int 0)))) (wC (.int 0)) (wC (.int 1))) wNil)))) wNext)
 S2)
theorem step_eqS:w_step=(wSeq (wIf (wTru (wCall g_is_placed (wCons (wVar 0) (wCons (wVar 1) wNil)))) (wSeq (wSet 2 (wLift (wBin dIx (wVar 1) (wC (.int 0)))))
 (wSeq (wSet 3 (wLift (wBin dIx (wVar 1) (wC (.int 1)))))
 S1)) wNext)
 (wRaise (Str.ofString "NoStep") (wCons (wC (.str (Str.ofString "it is no step of this list"))) wNil))):=rfl
section
variable {P:EndsP} {L:List D} {d:D} {v:Str} {a:Int}
theorem st1 (h:v≠w1) (g:S2 P [some (.lst L),some d,some (.str v),some (.int a)]):S1 P [some (.lst L),some d,some (.str v),some (.int a)]:=by
 simp only [S1,wSeq,wIf,wAnd,wRet,wTup,wCons,wCall,wUn,wC,wNil,wIfE,List.length_cons,List.length_nil,Nat.zero_add,Nat.reduceAdd,sz2,true_and,r_bl,wBin,r_var,r_neg,Int.reduceNeg,wNext,Bool.false_eq_true,reduceIte,look,oget_s,r_eqI,r_blOf,r_ixL,r_eqS,decide_eq_false h]
 exact g
theorem st2 (h:v≠w2) (g:S3 P [some (.lst L),some d,some (.str v),some (.int a)]):S2 P [some (.lst L),some d,some (.str v),some (.int a)]:=by
 simp only [S2,wSeq,wIf,wAnd,wRet,wTup,wCons,wCall,wC,wNil,wIfE,List.length_cons,List.length_nil,Nat.zero_add,Nat.reduceAdd,sz2,true_and,wUn,r_neg,Int.reduceNeg,r_bl,wBin,r_var,wNext,Bool.false_eq_true,reduceIte,look,oget_s,r_eqI,r_blOf,r_ixL,r_eqS,decide_eq_false h]
 exact g
theorem st3 (h:v≠w3) (g:S4 P [some (.lst L),some d,some (.str v),some (.int a)]):S3 P [some (.lst L),some d,some (.str v),some (.int a)]:=by
 simp only [S3,wSeq,wIf,wAnd,wRet,wTup,wCons,wCall,wNil,wC,List.length_cons,List.length_nil,Nat.zero_add,Nat.reduceAdd,sz2,true_and,r_var,wNext,r_tru,Bool.false_eq_true,reduceIte,r_bl,wBin,look,oget_s,r_eqS,decide_eq_false h,r_blOf]
 exact g
theorem st4 (h:v≠w4) (g:S5 P [some (.lst L),some d,some (.str v),some (.int a)]):S4 P [some (.lst L),some d,some (.str v),some (.int a)]:=by
 simp only [S4,wSeq,wIf,wAnd,wRet,wTup,wCons,wBin,wLst,wC,wNil,List.length_cons,List.length_nil,Nat.zero_add,Nat.reduceAdd,sz2,wSlT,wNone,wLift,true_and,r_var,r_some,r_intOf,wNext,r_bl,Bool.false_eq_true,reduceIte,look,oget_s,r_ixL,atI_1,r2_slL,r2_addL,pureL,D.pure,Bool.and_self,List.cons_append,List.nil_append,atI_0,r_eqI,r_blOf,r_eqS,decide_eq_false h]
 exact g
theorem st5 (h:v≠w5) (g:P.nx [some (.lst L),some d,some (.str v),some (.int a)]):S5 P [some (.lst L),some d,some (.str v),some (.int a)]:=by
 simp only [S5,wIf,wAnd,wRet,wTup,wCons,wCall,wNil,wUn,wC,List.length_cons,List.length_nil,Nat.zero_add,Nat.reduceAdd,sz2,true_and,r_neg,Int.reduceNeg,r_var,wNext,r_bl,wBin,Bool.false_eq_true,reduceIte,look,oget_s,r_ixL,r_eqS,decide_eq_false h,r_blOf]
 exact g
end
theorem ok_step {P:Program} {w:World} {K:PySem.W.Frag} {mg:Str->Option Value} {base:Heap} {f:Addr} {fd:FuncData} (F:Fun K "step" "step" s_step f fd) (B:Bn K mg) (C1:Cal P w K mg base "is_placed" 2 ["twists","thing"] (spR K g_is_placed)) (C2:Cal P w K mg base "without_number" 1 ["twists","at","many"] (spR K g_without_number)) (C3:Cal P w K mg base "can_be_nought" 1 ["twists","at"] (spR K g_can_be_nought)) (C4:Cal P w K mg base "without_nought" 1 ["twists","at"] (spR K g_without_nought)) (C5:Cal P w K mg base "split_number" 1 ["twists","at"] (spR K g_split_number)):FnOk P w K mg base (CXE P w base) 3 f fd ["twists","step"] (spX K g_step):=by
 refine fn_x (T:=t_step) F sc_step rfl (by decide) (λds kk kx h=>?_) (b_step B C1 C2 C3 C4 C5) (λds kk kx h=>?_)
 ·obtain ⟨l,v,a,rfl,_⟩:=h
  rfl
 ·obtain ⟨l,v,a,rfl,hl,k⟩:=h
  rw [step_eqS]
  simp only [wSeq,wIf,env0,List.map_cons,List.map_nil,List.length_cons,List.length_nil,Nat.zero_add,Nat.reduceAdd,List.replicate,List.cons_append,List.nil_append,wSet,wLift,wBin,wC,r_var,wNext,wRaise,wCons,wNil,r_tru,wCall,look,List.set_cons_succ,List.set_cons_zero,oget_s,r_ixT,atI_1,List.getElem?_cons_succ,List.getElem?_cons_zero,D.pure,true_and,atI_0]
  refine ⟨l,v,a,rfl,?_⟩
  simp only [r_truB]
  cases hp:plc l a with
  | false =>
   rw [none_of hp] at k
   simp only [Bool.false_eq_true,reduceIte]
   exact ⟨by decide,k⟩
  | true =>
   obtain ⟨pre,rs,n,r,el,ea,est⟩:=parts hp
   rw [est] at k
   subst ea
   have el2:I l=I pre ++ .int n :: .int r::I rs:=by rw [el];simp
   have hl2:pre.length+rs.length<=20:=by rw [el] at hl;simp at hl;omega
   have e1:(pre.length:Int)=((I pre).length:Int):=by simp
   simp only [el2,reduceIte]
   have a0:L2.atI (I pre++D.int n::D.int r::I rs) (pre.length:Int)=some (.int n):=by rw [e1,at0]
   unfold stp at k
   rcases words v with rfl | rfl | rfl | rfl | rfl | ⟨n1,n2,n3,n4,n5⟩
   ·rw [if_pos rfl] at k
    simp only [S1,wSeq,wIf,wAnd,wRet,wTup,wCons,wCall,wUn,wC,wNil,wIfE,List.length_cons,List.length_nil,Nat.zero_add,Nat.reduceAdd,sz2,true_and,r_bl,wBin,r_var,r_neg,Int.reduceNeg,wNext,Bool.false_eq_true,reduceIte,look,oget_s,r_eqI,r_blOf,r_ixL,a0,r_eqS,decide_true]
    refine ite_dec (λhn=>?_) λhn=>?_
    ·rw [if_pos hn] at k
     refine ⟨pre,rs,n,r,-1,rfl,hl2,?_⟩
     refine ite_dec (λhz=>?_) λhz=>?_
     ·rwa [if_pos (List.eq_nil_of_length_eq_zero (by omega))] at k
     ·rwa [if_neg (λz=>hz (by rw [z];rfl))] at k
    ·rw [if_neg hn] at k
     exact st2 (by decide) (st3 (by decide) (st4 (by decide) (st5 (by decide) ⟨by decide,k⟩)))
   ·rw [if_neg (by decide),if_pos rfl] at k
    refine st1 (by decide) ?_
    simp only [S2,wSeq,wIf,wAnd,wRet,wTup,wCons,wCall,wC,wNil,wIfE,List.length_cons,List.length_nil,Nat.zero_add,Nat.reduceAdd,sz2,true_and,wUn,r_neg,Int.reduceNeg,r_bl,wBin,r_var,wNext,Bool.false_eq_true,reduceIte,look,oget_s,r_eqI,r_blOf,r_ixL,a0,r_eqS,decide_true]
    refine ite_dec (λhn=>?_) λhn=>?_
    ·rw [if_pos hn] at k
     refine ⟨pre,rs,n,r,1,rfl,hl2,?_⟩
     refine ite_dec (λhz=>?_) λhz=>?_
     ·rwa [if_pos (List.eq_nil_of_length_eq_zero (by omega))] at k
     ·rwa [if_neg (λz=>hz (by rw [z];rfl))] at k
    ·rw [if_neg hn] at k
     exact st3 (by decide) (st4 (by decide) (st5 (by decide) ⟨by decide,k⟩))
   ·rw [if_neg (by decide),if_neg (by decide),if_pos rfl] at k
    refine st1 (by decide) (st2 (by decide) ?_)
    simp only [S3,wSeq,wIf,wAnd,wRet,wTup,wCons,wCall,wNil,wC,List.length_cons,List.length_nil,Nat.zero_add,Nat.reduceAdd,sz2,true_and,r_var,wNext,r_tru,Bool.false_eq_true,reduceIte,r_bl,wBin,look,oget_s,r_eqS,decide_true,r_blOf]
    refine ⟨pre,rs,n,r,rfl,?_⟩
    simp only [r_truB]
    cases hq:nou pre rs n r with
    | true =>
     rw [if_pos hq] at k
     simp only [reduceIte]
     exact ⟨pre,rs,n,r,rfl,hl2,k⟩
    | false =>
     rw [if_neg (by rw [hq];decide)] at k
     simp only [Bool.false_eq_true,reduceIte]
     exact st4 (by decide) (st5 (by decide) ⟨by decide,k⟩)
   ·rw [if_neg (by decide),if_neg (by decide),if_neg (by decide),if_pos rfl] at k
    refine st1 (by decide) (st2 (by decide) (st3 (by decide) ?_))
    simp only [S4,wSeq,wIf,wAnd,wRet,wTup,wCons,wBin,wLst,wC,wNil,List.length_cons,List.length_nil,Nat.zero_add,Nat.reduceAdd,sz2,wSlT,wNone,wLift,true_and,r_var,r_some,r_intOf,wNext,r_bl,Bool.false_eq_true,reduceIte,look,oget_s,r_ixL,atI_1,r2_slL,r2_addL,pureL,D.pure,Bool.and_self,List.cons_append,List.nil_append,atI_0,r_eqI,r_blOf,r_eqS,decide_true]
    refine ite_dec (λhz=>?_) λhz=>?_
    ·obtain rfl:pre=[]:=List.eq_nil_of_length_eq_zero (by omega)
     have c2:cutD (I []++D.int n::D.int r::I rs) (some 2) none=I rs:=cut2 (P:=([]:List D))
     rw [c2]
     show dEq (D.int n) (D.int 0) λd=>blOf d λb=>if b=true then _ else _
     simp only [List.length_nil,r_eqI,r_blOf]
     refine ite_dec (λhn=>?_) λhn=>?_
     ·rw [if_pos ⟨rfl,hn⟩] at k
      refine ⟨pu,pI,Nat.le_of_lt (small (by simp;omega)),?_⟩
      show (D.int r).pure=true/\kk (D.tup [D.lst (D.int 0::D.int 0::I rs),D.int r])
      exact ⟨rfl,k⟩
     ·rw [if_neg (λz=>hn z.2)] at k
      exact st5 (by decide) ⟨by decide,k⟩
    ·rw [if_neg (λz=>hz (by rw [z.1];rfl))] at k
     exact st5 (by decide) ⟨by decide,k⟩
   ·rw [if_neg (by decide),if_neg (by decide),if_neg (by decide),if_neg (by decide),if_pos rfl] at k
    refine st1 (by decide) (st2 (by decide) (st3 (by decide) (st4 (by decide) ?_)))
    simp only [S5,wIf,wAnd,wRet,wTup,wCons,wCall,wNil,wUn,wC,List.length_cons,List.length_nil,Nat.zero_add,Nat.reduceAdd,sz2,true_and,r_neg,Int.reduceNeg,r_var,wNext,wRaise,r_bl,wBin,Bool.false_eq_true,reduceIte,look,oget_s,r_ixL,a0,r_cmp,r_blOf,r_eqS,decide_true]
    refine ite_dec (λhn=>?_) λhn=>?_
    ·rw [if_pos hn] at k
     exact ⟨pre,rs,n,r,rfl,hl2,k⟩
    ·rw [if_neg hn] at k
     exact ⟨by decide,k⟩
   ·rw [if_neg n1,if_neg n2,if_neg n3,if_neg n4,if_neg n5] at k
    exact st1 n1 (st2 n2 (st3 n3 (st4 n4 (st5 n5 ⟨by decide,k⟩))))
theorem in2g {v:Str} {b:Bool} (h:((w1 == v) || ((w2 == v) || false))=b) {k:D->Prop}:dIn false (.str v) (.tup [.str w1,.str w2]) k=k (.bl b):=by
 rw [← h]
 simp [dIn,inD,oget]
theorem in1 {k:D->Prop}:dIn false (.str w1) (.tup [.str w1,.str w2]) k=k (.bl true):=in2g (by decide)
theorem in2 {k:D->Prop}:dIn false (.str w2) (.tup [.str w1,.str w2]) k=k (.bl true):=in2g (by decide)
theorem in6 {v:Str} (h1:v≠w1) (h2:v≠w2) {k:D->Prop}:dIn false (.str v) (.tup [.str w1,.str w2]) k=k (.bl false):=in2g (by
 have e1:(w1 == v)=false:=by simpa using λz=>h1 z.symm
 have e2:(w2 == v)=false:=by simpa using λz=>h2 z.symm
 rw [e1,e2];rfl)
theorem eq9 {l:List Int}:eqOk 9 (.lst (I l))=true:=by
 show eqOks 8 (I l)=true
 exact eqOks_map λ_ _=>rfl
theorem ct {R:List D} {x:D}:cutD (x::R) (some 1) none=R:=by
 have:=cut_from (ds:=x::R) (a:=1) (by simp)
 rw [show ((1:Nat):Int)=1 from rfl] at this
 rw [this];rfl
theorem ixL {P:List D} {z:D}:L2.ixN (P++[z]).length (-1)=some P.length:=by
 unfold L2.ixN
 rw [if_neg (by decide),if_pos (by simp;omega)]
 congr 1
 simp
 omega
theorem atL {P:List D} {z:D}:L2.atI (P++[z]) (-1)=some z:=by
 unfold L2.atI
 rw [ixL]
 show (P++[z])[P.length]? = some z
 rw [List.getElem?_append_right (Nat.le_refl _),Nat.sub_self];rfl
theorem setL {P:List D} {z y:D}:(P++[z]).set P.length y=P++[y]:=by
 rw [List.set_append_right _ _ (Nat.le_refl _),Nat.sub_self];rfl
theorem cutL {ds:List D} {d:D}:cutD (ds++[d]) none (some (-1))=ds:=by
 unfold cutD
 have h2:HT.sIx (ds++[d]).length (ds++[d]).length (some (-1))=ds.length:=by
  unfold HT.sIx
  simp
  omega
 have h1:HT.sIx (ds++[d]).length 0 none=0:=by unfold HT.sIx;simp
 rw [h1,h2,List.drop_zero,Nat.sub_zero,List.take_left]
theorem ne_lst {bs:List Int} {z:Int}:D.lst (I bs++[D.int z])≠D.lst []:=by simp
def rsD:Option (List Int × Int)->D
 | some (q,v)=>.tup [.lst (I q),.int v]
 | none=>.non
def g_law_step:GA:=λds k=>∃(l:List Int) (w:Str) (a:Int),ds=[.lst (I l),.str w,.int a]/\l.length<=22/\k (rsD (stpI l w a))
abbrev s__law_step:Stmt:=top 30
theorem sc__law_step:FnScope ["_law_twists_here","_law_word","_law_at","_law_number","_law_ahead","_law_rest"] ["_law_twists_here","_law_word","_law_at"] (defScope s__law_step):=⟨rfl,rfl,rfl,by decide +kernel,rfl,by decide +kernel,by decide +kernel⟩
def t__law_step:Tg:={ own:=λi=>i == 3 || i == 4 || i == 5,io:=[] }
def w__law_step:WS:=(wSeq (wIf (wOr (wBl (wBin (dCmp λi j=>decide (i<j)) (wVar 2) (wC (.int 0)))) (wBl (wBin (dCmp λi j=>decide (j<=i)) (wBin dAddT (wVar 2) (wC (.int 1))) (wCall dLen (wCons (wVar 0) wNil))))) (wRet (wC .non)) wNext)
 (wSeq (wSet 3 (wLift (wBin dIx (wVar 0) (wVar 2))))
 (wSeq (wSet 4 (wCall dList (wCons (wSlT (wVar 0) wNone (wSome (wVar 2))) wNil)))
 (wSeq (wSet 5 (wCall dList (wCons (wSlT (wVar 0) (wSome (wBin dAddT (wVar 2) (wC (.int 1)))) wNone) wNil)))
 (wSeq (wIf (wAnd (wBl (wBin (dIn false) (wVar 1) (wTup (wCons (wC (.str (Str.ofString "one"))) (wCons (wC (.str (Str.ofString "less"))) wNil))))) (wBl (wBin dEq (wVar 3) (wBin dIx (wLst (wCons (wC (.int 1)) (wCons (wUn dNeg (wC (.int 1))) wNil))) (wCall dInt (wCons (wBin dEq (wVar 1) (wC (.str (Str.ofString "less")))) wNil)))))) (wSeq (wSetIx 5 (wBin dSub (wBin dIx (wVar 5) (wC (.int 0))) (wVar 3)) (wC (.int 0)))
 (wSeq (wIf (wBl (wBin dEq (wVar 4) (wLst wNil))) (wRetT 5 (wC (.int 0))) wNext)
 (wSeq (wSetIx 4 (wBin dSub (wBin dIx (wVar 4) (wUn dNeg (wC (.int 1)))) (wVar 3)) (wUn dNeg (wC (.int 1))))
 (wRet (wTup (wCons (wBin dAddT (wVar 4) (wVar 5)) (wCons (wLift (wVar 3)) wNil))))))) wNext)
 (wSeq (wIf (wAnd (wBl (wBin dEq (wVar 1) (wC (.str (Str.ofString "nought"))))) (wAnd (wBl (wBin dEq (wVar 3) (wC (.int 0)))) (wBl (wBin dNe (wVar 4) (wLst wNil))))) (wRet (wTup (wCons (wBin dAddT (wBin dAddT (wSlT (wVar 4) wNone (wSome (wUn dNeg (wC (.int 1))))) (wLst (wCons (wBin dAddT (wBin dIx (wVar 4) (wUn dNeg (wC (.int 1)))) (wBin dIx (wVar 5) (wC (.int 0)))) wNil))) (wSlT (wVar 5) (wSome (wC (.int 1))) wNone)) (wCons (wC (.int 0)) wNil)))) wNext)
 (wSeq (wIf (wAnd (wBl (wBin dEq (wVar 1) (wC (.str (Str.ofString "nought"))))) (wAnd (wBl (wBin dEq (wVar 3) (wC (.int 0)))) (wAnd (wBl (wBin dEq (wBin dIx (wVar 5) (wC (.int 0))) (wC (.int 0)))) (wBl (wBin (dCmp λi j=>decide (j<i)) (wCall dLen (wCons (wVar 5) wNil)) (wC (.int 1))))))) (wRet (wTup (wCons (wSlT (wVar 5) (wSome (wC (.int 1))) wNone) (wCons (wC (.int 0)) wNil)))) wNext)
 (wSeq (wIf (wAnd (wBl (wBin dEq (wVar 1) (wC (.str (Str.ofString "loose"))))) (wAnd (wBl (wBin dEq (wVar 3) (wC (.int 0)))) (wBl (wBin dEq (wVar 4) (wLst wNil))))) (wRet (wTup (wCons (wBin dAddT (wLst (wCons (wC (.int 0)) (wCons (wC (.int 0)) wNil))) (wSlT (wVar 5) (wSome (wC (.int 1))) wNone)) (wCons (wLift (wBin dIx (wVar 5) (wC (.int 0)))) wNil)))) wNext)
 (wSeq (wIf (wAnd (wBl (wBin dEq (wVar 1) (wC (.str (Str.ofString "split"))))) (wBl (wBin (dCmp λi j=>decide (i<j)) (wVar 3) (wUn dNeg (wC (.int 1)))))) (wRet (wTup (wCons (wBin dAddT (wBin dAddT (wVar 4) (wLst (wCons (wBin dAddT (wVar 3) (wC (.int 1))) (wCons (wC (.int 1)) (wCons (wBin dAddT (wBin dIx (wVar 5) (wC (.int 0))) (wC (.int 1))) wNil))))) (wSlT (wVar 5) (wSome (wC (.int 1))) wNone)) (wCons (wUn dNeg (wC (.int 1))) wNil)))) wNext)
 (wRet (wC .non)))))))))))
theorem b__law_step {P:Program} {w:World} {K:PySem.W.Frag} {mg:Str->Option Value} {base:Heap} {f:Addr} (B:Bn K mg):∀(cdv:Value) (A:Around) (outer:List PySem.Env) (s:Shared) (H:Hp) (E:XK),Room 0 (A.deeper (envOfC "_law_step" (defScope s__law_step) s.heap.objs.size f cdv))->SVs (cxOf CX0 P w K mg base ["_law_twists_here","_law_word","_law_at","_law_number","_law_ahead","_law_rest"] "_law_step" (defScope s__law_step) f cdv A outer s H E).nox t__law_step (defBody s__law_step) w__law_step:=λcdv A outer s H E hr =>
  (svs_cons (sv_if (tv_bool (bv_or (tv_cmp od_lt (ev_var 2) ev_int) (bv_or1 (tv_cmp od_ge (ev_op od_addT (ev_var 2) ev_int) (ev_callB cd_len B.nb_len bt_len (av_cons (ev_var 0) av_nil)))))) (svs_one (sv_ret ev_non)) svs_nil)
  (svs_cons (sv_set (i:=3) (ev_lift (ev_ix (xd_ix (hu_of hr)) (ev_var 0) (ev_var 2))) sc__law_step.nd)
  (svs_cons (sv_set (i:=4) (ev_callTy cd_list B.nb_list bt_list (av_cons (ev_slT (ev_var 0) ov_none (ov_some (ev_var 2))) av_nil)) sc__law_step.nd)
  (svs_cons (sv_set (i:=5) (ev_callTy cd_list B.nb_list bt_list (av_cons (ev_slT (ev_var 0) (ov_some (ev_op od_addT (ev_var 2) ev_int)) ov_none) av_nil)) sc__law_step.nd)
  (svs_cons (sv_if (tv_bool (bv_and (tv_cmp (od_in (hu_of hr)) (ev_var 1) (ev_tup (av_cons ev_str (av_cons ev_str av_nil)))) (bv_and1 (tv_cmp (od_eq hr.units) (ev_var 3) (ev_ix (xd_ix (hu_of hr)) (ev_lst (av_cons ev_int (av_cons (ev_un ud_neg ev_int) av_nil))) (ev_callTy cd_int B.nb_int bt_int (av_cons (ev_cmp (od_eq hr.units) (ev_var 1) ev_str) av_nil))))))) (svs_cons (sv_setIx (i:=5) (hu_of hr) (ev_op od_sub (ev_ix (xd_ix (hu_of hr)) (ev_var 5) ev_int) (ev_var 3)) ev_int)
  (svs_cons (sv_if (tv_cmp (od_eq hr.units) (ev_var 4) (ev_lst av_nil)) (svs_one (sv_retT (i:=5) ev_int)) svs_nil)
  (svs_cons (sv_setIx (i:=4) (hu_of hr) (ev_op od_sub (ev_ix (xd_ix (hu_of hr)) (ev_var 4) (ev_un ud_neg ev_int)) (ev_var 3)) (ev_un ud_neg ev_int))
  (svs_one (sv_ret (ev_tup (av_cons (ev_op od_addT (ev_var 4) (ev_var 5)) (av_cons (ev_lift (ev_var 3)) av_nil)))))))) svs_nil)
  (svs_cons (sv_if (tv_bool (bv_and (tv_cmp (od_eq hr.units) (ev_var 1) ev_str) (bv_and (tv_cmp (od_eq hr.units) (ev_var 3) ev_int) (bv_and1 (tv_cmp (od_ne hr.units) (ev_var 4) (ev_lst av_nil)))))) (svs_one (sv_ret (ev_tup (av_cons (ev_op od_addT (ev_op od_addT (ev_slT (ev_var 4) ov_none (ov_some (ev_un ud_neg ev_int))) (ev_lst (av_cons (ev_op od_addT (ev_ix (xd_ix (hu_of hr)) (ev_var 4) (ev_un ud_neg ev_int)) (ev_ix (xd_ix (hu_of hr)) (ev_var 5) ev_int)) av_nil))) (ev_slT (ev_var 5) (ov_some ev_int) ov_none)) (av_cons ev_int av_nil))))) svs_nil)
  (svs_cons (sv_if (tv_bool (bv_and (tv_cmp (od_eq hr.units) (ev_var 1) ev_str) (bv_and (tv_cmp (od_eq hr.units) (ev_var 3) ev_int) (bv_and (tv_cmp (od_eq hr.units) (ev_ix (xd_ix (hu_of hr)) (ev_var 5) ev_int) ev_int) (bv_and1 (tv_cmp od_gt (ev_callB cd_len B.nb_len bt_len (av_cons (ev_var 5) av_nil)) ev_int)))))) (svs_one (sv_ret (ev_tup (av_cons (ev_slT (ev_var 5) (ov_some ev_int) ov_none) (av_cons ev_int av_nil))))) svs_nil)
  (svs_cons (sv_if (tv_bool (bv_and (tv_cmp (od_eq hr.units) (ev_var 1) ev_str) (bv_and (tv_cmp (od_eq hr.units) (ev_var 3) ev_int) (bv_and1 (tv_cmp (od_eq hr.units) (ev_var 4) (ev_lst av_nil)))))) (svs_one (sv_ret (ev_tup (av_cons (ev_op od_addT (ev_lst (av_cons ev_int (av_cons ev_int av_nil))) (ev_slT (ev_var 5) (ov_some ev_int) ov_none)) (av_cons (ev_lift (ev_ix (xd_ix (hu_of hr)) (ev_var 5) ev_int)) av_nil))))) svs_nil)
  (svs_cons (sv_if (tv_bool (bv_and (tv_cmp (od_eq hr.units) (ev_var 1) ev_str) (bv_and1 (tv_cmp od_lt (ev_var 3) (ev_un ud_neg ev_int))))) (svs_one (sv_ret (ev_tup (av_cons (ev_op od_addT (ev_op od_addT (ev_var 4) (ev_lst (av_cons (ev_op od_addT (ev_var 3) ev_int) (av_cons ev_int (av_cons (ev_op od_addT (ev_ix (xd_ix (hu_of hr)) (ev_var 5) ev_int) ev_int) av_nil))))) (ev_slT (ev_var 5) (ov_some ev_int) ov_none)) (av_cons (ev_un ud_neg ev_int) av_nil))))) svs_nil)
  (svs_one (sv_ret ev_non)))))))))))
def T5:WS:=(wSeq (wIf (wAnd (wBl (wBin dEq (wVar 1) (wC (.str (Str.ofString "split"))))) (wBl (wBin (dCmp λi j=>decide (i<j)) (wVar 3) (wUn dNeg (wC (.int 1)))))) (wRet (wTup (wCons (wBin dAddT (wBin dAddT (wVar 4) (wLst (wCons (wBin dAddT (wVar 3) (wC (.int 1))) (wCons (wC (.int 1)) (wCons (wBin dAddT (wBin dIx (wVar 5) (wC (.int 0))) (wC (.int 1))) wNil))))) (wSlT (wVar 5) (wSome (wC (.int 1))) wNone)) (wCons (wUn dNeg (wC (.int 1))) wNil)))) wNext)
 (wRet (wC .non)))
def T4:WS:=(wSeq (wIf (wAnd (wBl (wBin dEq (wVar 1) (wC (.str (Str.ofString "loose"))))) (wAnd (wBl (wBin dEq (wVar 3) (wC (.int 0)))) (wBl (wBin dEq (wVar 4) (wLst wNil))))) (wRet (wTup (wCons (wBin dAddT (wLst (wCons (wC (.int 0)) (wCons (wC (.int 0)) wNil))) (wSlT (wVar 5) (wSome (wC (.int 1))) wNone)) (wCons (wLift (wBin dIx (wVar 5) (wC (.int 0)))) wNil)))) wNext)
 T5)
def T3:WS:=(wSeq (wIf (wAnd (wBl (wBin dEq (wVar 1) (wC (.str (Str.ofString "nought"))))) (wAnd (wBl (wBin dEq (wVar 3) (wC (.int 0)))) (wAnd (wBl (wBin dEq (wBin dIx (wVar 5) (wC (.int 0))) (wC (.int 0)))) (wBl (wBin (dCmp λi j=>decide (j<i)) (wCall dLen (wCons (wVar 5) wNil)) (wC (.int 1))))))) (wRet (wTup (wCons (wSlT (wVar 5) (wSome (wC (.int 1))) wNone) (wCons (wC (.int 0)) wNil)))) wNext)
 T4)
def T2:WS:=(wSeq (wIf (wAnd (wBl (wBin dEq (wVar 1) (wC (.str (Str.ofString "nought"))))) (wAnd (wBl (wBin dEq (wVar 3) (wC (.int 0)))) (wBl (wBin dNe (wVar 4) (wLst wNil))))) (wRet (wTup (wCons (wBin dAddT (wBin dAddT (wSlT (wVar 4) wNone (wSome (wUn dNeg (wC (.int 1))))) (wLst (wCons (wBin dAddT (wBin dIx (wVar 4) (wUn dNeg (wC (.int 1)))) (wBin dIx (wVar 5) (wC (.int 0)))) wNil))) (wSlT (wVar 5) (wSome (wC (.int 1))) wNone)) (wCons (wC (.int 0)) wNil)))) wNext)
 T3)
def T1:WS:=(wSeq (wIf (wAnd (wBl (wBin (dIn false) (wVar 1) (wTup (wCons (wC (.str (Str.ofString "one"))) (wCons (wC (.str (Str.ofString "less"))) wNil))))) (wBl (wBin dEq (wVar 3) (wBin dIx (wLst (wCons (wC (.int 1)) (wCons (wUn dNeg (wC (.int 1))) wNil))) (wCall dInt (wCons (wBin dEq (wVar 1) (wC (.str (Str.ofString "less")))) wNil)))))) (wSeq (wSetIx 5 (wBin dSub (wBin dIx (wVar 5) (wC (.int 0))) (wVar 3)) (wC (.int 0)))
 (wSeq (wIf (wBl (wBin dEq (wVar 4) (wLst wNil))) (wRetT 5 (wC (.int 0))) wNext)
 (wSeq (wSetIx 4 (wBin dSub (wBin dIx (wVar 4) (wUn dNeg (wC (.int 1)))) (wVar 3)) (wUn dNeg (wC (.int 1))))
 (wRet (wTup (wCons (wBin dAddT (wVar 4) (wVar 5)) (wCons (wLift (wVar 3)) wNil))))))) wNext)
 T2)
def T0:WS:=(wSeq (wSet 3 (wLift (wBin dIx (wVar 0) (wVar 2))))
 (wSeq (wSet 4 (wCall dList (wCons (wSlT (wVar 0) wNone (wSome (wVar 2))) wNil)))
 (wSeq (wSet 5 (wCall dList (wCons (wSlT (wVar 0) (wSome (wBin dAddT (wVar 2) (wC (.int 1)))) wNone) wNil)))
 T1)))
theorem step_eq:w__law_step=(wSeq (wIf (wOr (wBl (wBin (dCmp λi j=>decide (i<j)) (wVar 2) (wC (.int 0)))) (wBl (wBin (dCmp λi j=>decide (j<=i)) (wBin dAddT (wVar 2) (wC (.int 1))) (wCall dLen (wCons (wVar 0) wNil))))) (wRet (wC .non)) wNext)
 T0):=rfl
section
variable {P:EndsP} {L A R:List D} {v:Str} {a n:Int}
theorem sk1 (h1:v≠w1) (h2:v≠w2) (h:T2 P [some (.lst L),some (.str v),some (.int a),some (.int n),some (.lst A),some (.lst R)]):T1 P [some (.lst L),some (.str v),some (.int a),some (.int n),some (.lst A),some (.lst R)]:=by
 simp only [T1,wSeq,wIf,wAnd,wSetIx,wBin,wC,wRetT,D.pure,true_and,wNext,wUn,wRet,wTup,wCons,wLift,wNil,List.length_cons,List.length_nil,Nat.zero_add,Nat.reduceAdd,sz2,r_var,r_neg,Int.reduceNeg,r_bl,wLst,sz0,wCall,Bool.false_eq_true,reduceIte,look,Option.isSome_some,List.set_cons_succ,List.set_cons_zero,oget_s,r_setL,r_ixL,r_eqL,r_blOf,r2_addL,List.length_set,atI_0,r_eqS,r_intB,in6 h1 h2]
 exact h
theorem sk2 (h3:v≠w3) (h:T3 P [some (.lst L),some (.str v),some (.int a),some (.int n),some (.lst A),some (.lst R)]):T2 P [some (.lst L),some (.str v),some (.int a),some (.int n),some (.lst A),some (.lst R)]:=by
 simp only [T2,wSeq,wIf,wAnd,wRet,wTup,wCons,wBin,wSlT,wNone,wLst,wUn,wC,wNil,List.length_cons,List.length_nil,Nat.zero_add,sz1,Nat.reduceAdd,sz2,true_and,r_some,r_intOf,r_var,r_neg,Int.reduceNeg,wNext,r_bl,sz0,Bool.false_eq_true,reduceIte,look,oget_s,r2_slL,r_ixL,atI_0,r2_addL,pureL,Bool.and_true,r_neL,r_blOf,r_eqI,r_eqS,decide_eq_false h3]
 exact h
theorem sk3 (h3:v≠w3) (h:T4 P [some (.lst L),some (.str v),some (.int a),some (.int n),some (.lst A),some (.lst R)]):T3 P [some (.lst L),some (.str v),some (.int a),some (.int n),some (.lst A),some (.lst R)]:=by
 simp only [T3,wSeq,wIf,wAnd,wRet,wTup,wCons,wSlT,wNone,wC,wNil,List.length_cons,List.length_nil,Nat.zero_add,Nat.reduceAdd,sz2,true_and,r_some,r_intOf,r_var,wNext,r_bl,wBin,wCall,Bool.false_eq_true,reduceIte,look,oget_s,r2_slL,r_lenL,r_cmp,r_blOf,r_ixL,atI_0,r_eqI,r_eqS,decide_eq_false h3]
 exact h
theorem sk4 (h4:v≠w4) (h:T5 P [some (.lst L),some (.str v),some (.int a),some (.int n),some (.lst A),some (.lst R)]):T4 P [some (.lst L),some (.str v),some (.int a),some (.int n),some (.lst A),some (.lst R)]:=by
 simp only [T4,wSeq,wIf,wAnd,wRet,wTup,wCons,wBin,wLst,wC,wNil,List.length_cons,List.length_nil,Nat.zero_add,Nat.reduceAdd,sz2,wSlT,wNone,wLift,true_and,r_var,r_some,r_intOf,wNext,r_bl,sz0,Bool.false_eq_true,reduceIte,look,oget_s,r_ixL,atI_0,r2_slL,r2_addL,pureL,D.pure,Bool.and_self,List.cons_append,List.nil_append,r_eqL,r_blOf,r_eqI,r_eqS,decide_eq_false h4]
 exact h
theorem sk5 (h5:v≠w5) (h:P.rt .non [some (.lst L),some (.str v),some (.int a),some (.int n),some (.lst A),some (.lst R)]):T5 P [some (.lst L),some (.str v),some (.int a),some (.int n),some (.lst A),some (.lst R)]:=by
 simp only [T5,wSeq,wIf,wAnd,wRet,wTup,wCons,wBin,wLst,wC,wNil,List.length_cons,List.length_nil,Nat.zero_add,Nat.reduceAdd,sz3,wSlT,wNone,wUn,sz2,true_and,r_neg,Int.reduceNeg,r_some,r_intOf,r_var,wNext,r_bl,Bool.false_eq_true,reduceIte,look,oget_s,r2_slL,r_ixL,atI_0,r2_add,r2_addL,pureL,D.pure,Bool.and_true,Bool.true_and,r_cmp,r_blOf,r_eqS,decide_eq_false h5]
 exact h
end
theorem ok__law_step {P:Program} {w:World} {K:PySem.W.Frag} {mg:Str->Option Value} {base:Heap} {f:Addr} {fd:FuncData} (F:Fun K "_law_step" "_law_step" s__law_step f fd) (B:Bn K mg):FnOk P w K mg base CX0 1 f fd ["_law_twists_here","_law_word","_law_at"] (spR K g_law_step):=by
 refine fn_ro (T:=t__law_step) F sc__law_step rfl (by decide) (λds kk h=>?_) (b__law_step B) (λds kk h=>?_)
 ·obtain ⟨l,v,a,rfl,_⟩:=h
  rfl
 ·obtain ⟨l,v,a,rfl,hl,k⟩:=h
  rw [step_eq]
  simp only [wSeq,wIf,wOr,env0,List.map_cons,List.map_nil,List.length_cons,List.length_nil,Nat.zero_add,Nat.reduceAdd,List.replicate,List.cons_append,List.nil_append,wRet,wC,wNext,reduceIte,r_bl,wBin,wCall,wCons,wNil,r_var,look,oget_s,r_lenL,r2_add,r_cmp,r_blOf]
  have hlen:(I l).length=l.length:=by simp
  cases hp:plc l a with
  | false =>
   rw [none_of hp] at k
   have hc:a<0\/((I l).length:Int)<=a+1:=by
    have h0:¬(0<=a/\a<(l.length:Int)-1):=of_decide_eq_false hp
    rw [hlen];omega
   refine ite_dec (λ_=>k) λh1=>?_
   rw [if_pos (decide_eq_true (hc.resolve_left h1))]
   exact k
  | true =>
   have h0:0<=a/\a<(l.length:Int)-1:=of_decide_eq_true hp
   rw [if_neg (λz=>by have:=of_decide_eq_true z;omega),if_neg (λz=>by have:=of_decide_eq_true z;rw [hlen] at this;omega)]
   obtain ⟨pre,rs,n,r,el,ea,est⟩:=parts hp
   rw [est] at k
   subst ea
   have el2:I l=I pre ++ .int n :: .int r::I rs:=by rw [el];simp
   have hl2:pre.length+rs.length<=20:=by rw [el] at hl;simp at hl;omega
   have e1:(pre.length:Int)=((I pre).length:Int):=by simp
   have a0:L2.atI (I pre++D.int n::D.int r::I rs) (pre.length:Int)=some (.int n):=by rw [e1,at0]
   have cp:cutD (I pre++D.int n::D.int r::I rs) none (some (pre.length:Int))=I pre:=by rw [e1,cutP]
   have c1:cutD (I pre++D.int n::D.int r::I rs) (some ((pre.length:Int)+1)) none=.int r::I rs:=by rw [e1,cut1]
   have pr:pureL (D.int r::I rs)=true:=by simp only [pureL,D.pure,Bool.true_and];exact pI
   simp only [T0,wSeq,wSet,wLift,wBin,el2,wCall,wCons,wSlT,wNone,wNil,r_some,wC,r_var,look,List.set_cons_succ,List.set_cons_zero,oget_s,r2_add,r_intOf,r2_slL,pu,c1,r_listL,pureL,D.pure,pI,Bool.and_self,true_and,cp,r_ixL,a0]
   unfold stp at k
   rcases words v with rfl | rfl | rfl | rfl | rfl | ⟨n1,n2,n3,n4,n5⟩
   ·rw [if_pos rfl] at k
    simp only [T1,wSeq,wIf,wAnd,wSetIx,wBin,wC,wRetT,D.pure,true_and,wNext,wUn,wRet,wTup,wCons,wLift,wNil,List.length_cons,List.length_nil,Nat.zero_add,Nat.reduceAdd,sz2,r_var,r_neg,Int.reduceNeg,r_bl,wLst,sz0,wCall,Bool.false_eq_true,reduceIte,look,Option.isSome_some,List.set_cons_succ,List.set_cons_zero,oget_s,r_setL,r_ixL,r_eqL,r_blOf,Nat.zero_lt_succ,ixN_0,r2_addL,List.length_set,pureL,pI,Bool.and_true,atI_0,List.getElem?_cons_zero,r_sub,r_eqS,d12,r_intB,r_eqI,in1]
    refine ite_dec (λhn=>?_) λhn=>?_
    ·rw [if_pos hn] at k
     subst hn
     rcases List.eq_nil_or_concat pre with rfl | ⟨bs,z,rfl⟩
     ·rw [if_pos rfl] at k
      exact ⟨rfl,rfl,λ_=>k,λz=>absurd rfl z⟩
     ·rw [List.concat_eq_append] at *
      rw [if_neg (by simp),adj_snoc] at k
      have e2:I (bs++[z])=I bs++[.int z]:=by simp
      simp only [e2,Int.reduceNeg,atL,ixL,oget_s,r_sub,D.pure,true_and]
      rw [setL]
      refine ⟨e2 ▸ eq9,rfl,λz=>absurd z ne_lst,λ_=>⟨pc pI rfl,Nat.le_of_lt (small (by simp at hl2 ⊢;omega)),?_⟩⟩
      simp [rsD] at k ⊢
      exact k
    ·rw [if_neg hn] at k
     exact sk2 (by decide) (sk3 (by decide) (sk4 (by decide) (sk5 (by decide) k)))
   ·rw [if_neg (by decide),if_pos rfl] at k
    simp only [T1,wSeq,wIf,wAnd,wSetIx,wBin,wC,wRetT,D.pure,true_and,wNext,wUn,wRet,wTup,wCons,wLift,wNil,List.length_cons,List.length_nil,Nat.zero_add,Nat.reduceAdd,sz2,r_var,r_neg,Int.reduceNeg,r_bl,wLst,sz0,wCall,Bool.false_eq_true,reduceIte,look,Option.isSome_some,List.set_cons_succ,List.set_cons_zero,oget_s,r_setL,r_ixL,r_eqL,r_blOf,Nat.zero_lt_succ,ixN_0,r2_addL,List.length_set,pureL,pI,Bool.and_true,atI_0,List.getElem?_cons_zero,r_sub,r_eqS,decide_true,r_intB,atI_1,List.getElem?_cons_succ,r_eqI,in2]
    refine ite_dec (λhn=>?_) λhn=>?_
    ·rw [if_pos hn] at k
     subst hn
     rcases List.eq_nil_or_concat pre with rfl | ⟨bs,z,rfl⟩
     ·rw [if_pos rfl] at k
      exact ⟨rfl,rfl,λ_=>k,λz=>absurd rfl z⟩
     ·rw [List.concat_eq_append] at *
      rw [if_neg (by simp),adj_snoc] at k
      have e2:I (bs++[z])=I bs++[.int z]:=by simp
      simp only [e2,Int.reduceNeg,atL,ixL,oget_s,r_sub,D.pure,true_and]
      rw [setL]
      refine ⟨e2 ▸ eq9,rfl,λz=>absurd z ne_lst,λ_=>⟨pc pI rfl,Nat.le_of_lt (small (by simp at hl2 ⊢;omega)),?_⟩⟩
      simp [rsD] at k ⊢
      exact k
    ·rw [if_neg hn] at k
     exact sk2 (by decide) (sk3 (by decide) (sk4 (by decide) (sk5 (by decide) k)))
   ·rw [if_neg (by decide),if_neg (by decide),if_pos rfl] at k
    refine sk1 (by decide) (by decide) ?_
    simp only [T2,wSeq,wIf,wAnd,wRet,wTup,wCons,wBin,wSlT,wNone,wLst,wUn,wC,wNil,List.length_cons,List.length_nil,Nat.zero_add,sz1,Nat.reduceAdd,sz2,true_and,r_some,r_intOf,r_var,r_neg,Int.reduceNeg,wNext,r_bl,sz0,Bool.false_eq_true,reduceIte,look,oget_s,r2_slL,pureL,D.pure,pI,Bool.and_self,ct,r_ixL,atI_0,List.getElem?_cons_zero,r2_addL,Bool.and_true,r_neL,r_blOf,r_eqI,r_eqS,decide_true]
    unfold nou wno at k
    refine ite_dec (λhn=>?_) λhn=>?_
    ·subst hn
     rcases List.eq_nil_or_concat pre with rfl | ⟨bs,z,rfl⟩
     ·refine ⟨rfl,rfl,λ_=>?_,λz=>absurd rfl z⟩
      simp only [T3,wSeq,wIf,wAnd,List.length_nil,wRet,wTup,wCons,wSlT,wNone,wC,wNil,List.length_cons,Nat.zero_add,Nat.reduceAdd,sz2,true_and,r_some,r_intOf,r_var,wNext,r_bl,wBin,wCall,Bool.false_eq_true,reduceIte,look,oget_s,r2_slL,pureL,D.pure,pI,Bool.and_self,ct,r_lenL,r_cmp,r_blOf,r_ixL,atI_0,List.getElem?_cons_zero,r_eqI,decide_true,r_eqS]
      refine ite_dec (λhr=>?_) λhr=>?_
      ·refine ite_dec (λhs=>?_) λhs=>?_
       ·rw [if_pos (by
         have:rs≠[]:=λz=>by rw [z] at hs;simp at hs
         simp [hr,this])] at k
        exact k
       ·rw [if_neg (by
         have:rs=[]:=List.eq_nil_of_length_eq_zero (by simp at hs;omega)
         simp [this])] at k
        exact sk4 (by decide) (sk5 (by decide) k)
      ·rw [if_neg (by simp [hr])] at k
       exact sk4 (by decide) (sk5 (by decide) k)
     ·rw [List.concat_eq_append] at *
      rw [if_pos (by simp),if_neg (by simp),adj_snoc] at k
      have e2:I (bs++[z])=I bs++[.int z]:=by simp
      simp only [e2,Int.reduceNeg,atL,cutL,oget_s,r2_add,D.pure,true_and]
      refine ⟨e2 ▸ eq9,rfl,λz=>absurd z ne_lst,λ_=>⟨pI,Nat.le_of_lt (small (by simp at hl2 ⊢;omega)),pc pI rfl,Nat.le_of_lt (small (by simp at hl2 ⊢;omega)),?_⟩⟩
      simp [rsD] at k ⊢
      exact k
    ·rw [if_neg (by simp [hn])] at k
     simp only [T3,wSeq,wIf,wAnd,wRet,wTup,wCons,wSlT,wNone,wC,wNil,List.length_cons,List.length_nil,Nat.zero_add,Nat.reduceAdd,sz2,true_and,r_some,r_intOf,r_var,wNext,r_bl,wBin,wCall,Bool.false_eq_true,reduceIte,look,oget_s,r2_slL,pureL,D.pure,Bool.true_and,r_lenL,r_cmp,r_blOf,r_ixL,atI_0,List.getElem?_cons_zero,r_eqI,r_eqS]
     rw [if_neg (λz=>hn (of_decide_eq_true z))]
     exact sk4 (by decide) (sk5 (by decide) k)
   ·rw [if_neg (by decide),if_neg (by decide),if_neg (by decide),if_pos rfl] at k
    refine sk1 (by decide) (by decide) (sk2 (by decide) (sk3 (by decide) ?_))
    simp only [T4,wSeq,wIf,wAnd,wRet,wTup,wCons,wBin,wLst,wC,wNil,List.length_cons,List.length_nil,Nat.zero_add,Nat.reduceAdd,sz2,wSlT,wNone,wLift,true_and,r_var,r_some,r_intOf,wNext,r_bl,sz0,Bool.false_eq_true,reduceIte,look,oget_s,r_ixL,atI_0,List.getElem?_cons_zero,D.pure,r2_slL,pureL,pI,Bool.and_self,ct,r2_addL,List.cons_append,List.nil_append,r_eqL,r_blOf,r_eqI,r_eqS,decide_true]
    refine ite_dec (λhn=>?_) λhn=>?_
    ·rcases List.eq_nil_or_concat pre with rfl | ⟨bs,z,rfl⟩
     ·rw [if_pos ⟨rfl,hn⟩] at k
      exact ⟨rfl,rfl,λ_=>⟨Nat.le_of_lt (small (by simp at hl2 ⊢;omega)),k⟩,λz=>absurd rfl z⟩
     ·rw [List.concat_eq_append] at *
      rw [if_neg (by simp)] at k
      have e2:I (bs++[z])=I bs++[.int z]:=by simp
      exact ⟨eq9,rfl,λz=>absurd z (by rw [e2];exact ne_lst),λ_=>sk5 (by decide) k⟩
    ·rw [if_neg (λz=>hn z.2)] at k
     exact sk5 (by decide) k
   ·rw [if_neg (by decide),if_neg (by decide),if_neg (by decide),if_neg (by decide),if_pos rfl] at k
    refine sk1 (by decide) (by decide) (sk2 (by decide) (sk3 (by decide) (sk4 (by decide) ?_)))
    simp only [T5,wSeq,wIf,wAnd,wRet,wTup,wCons,wBin,wLst,wC,wNil,List.length_cons,List.length_nil,Nat.zero_add,Nat.reduceAdd,sz3,wSlT,wNone,wUn,sz2,true_and,r_neg,Int.reduceNeg,r_some,r_intOf,r_var,wNext,r_bl,Bool.false_eq_true,reduceIte,look,oget_s,r2_slL,pureL,D.pure,pI,Bool.and_self,ct,r_ixL,atI_0,List.getElem?_cons_zero,r2_add,r2_addL,r_cmp,r_blOf,r_eqS,decide_true]
    refine ite_dec (λhn=>?_) λhn=>?_
    ·rw [if_pos hn] at k
     refine ⟨Nat.le_of_lt (small (by simp;omega)),pc pI rfl,Nat.le_of_lt (small (by simp;omega)),?_⟩
     simp [rsD] at k ⊢
     exact k
    ·rw [if_neg hn] at k
     exact k
   ·rw [if_neg n1,if_neg n2,if_neg n3,if_neg n4,if_neg n5] at k
    exact sk1 n1 n2 (sk2 n3 (sk3 n3 (sk4 n4 (sk5 n5 k))))
end K69
namespace K69
open PySem PySem.Spec L2 PV
open PyProof.Rows (envOfC)
open V68 Pol Dct
def g_gathered:GA:=λds k=>∃ts:T,(ds=[.lst (ts.map pr2)]\/ds=[.tup (ts.map pr2)])/\ts.length<=50000/\∀us:T,Is us->us.length<=ts.length->nrm us<=nrm ts->(∀f,ev f us=ev f ts)->k (.tup (us.map pr2))
abbrev s_gathered:Stmt:=top 14
theorem sc_gathered:FnScope ["terms","numbers","power","number"] ["terms"] (defScope s_gathered):=⟨rfl,rfl,rfl,by decide +kernel,rfl,by decide +kernel,by decide +kernel⟩
def t_gathered:Tg:={ own:=λi=>i == 1 || i == 2 || i == 3,io:=[] }
def w_gathered:WS:=(wSeq (wSet 1 (wC (.dik [])))
 (wSeq (wFor (wSeqD (wVar 0)) (gTupD 2 (gConsD (gN 2) (gConsD (gN 3) gNilD))) (wSetIx 1 (wBin dAddT (wGet2 (wVar 1) (wVar 2) (wC (.int 0))) (wVar 3)) (wVar 2)))
 (wRet (wCall dTuple (wCons (wComp (wSeqD (wCall dSortDL (wCons (wVar 1) wNil))) (wBl (wBin dNe (wBin dIx (wVar 1) (wVar 0)) (wC (.int 0)))) (wLift (wTup (wCons (wVar 0) (wCons (wBin dIx (wVar 1) (wVar 0)) wNil)))) [1]) wNil)))))
theorem b_gathered {P:Program} {w:World} {K:PySem.W.Frag} {mg:Str->Option Value} {base:Heap} {f:Addr} (B:Bn K mg):∀(cdv:Value) (A:Around) (outer:List PySem.Env) (s:Shared) (H:Hp) (E:XK),Room 0 (A.deeper (envOfC "gathered" (defScope s_gathered) s.heap.objs.size f cdv))->SVs (cxOf CX0 P w K mg base ["terms","numbers","power","number"] "gathered" (defScope s_gathered) f cdv A outer s H E).nox t_gathered (defBody s_gathered) w_gathered:=λcdv A outer s H E hr =>
  (svs_cons (sv_set (i:=1) ev_dnewK sc_gathered.nd)
  (svs_cons (sv_for PassesOwn.never (iv_par (i:=0)) (gv_tup (gvs_cons (gv_name (i:=2) sc_gathered.nd) (gvs_cons (gv_name (i:=3) sc_gathered.nd) gvs_nil))) (svs_one (sv_setIx (i:=1) (hu_of hr) (ev_op od_addT (ev_get2 (hu_of hr) (ev_var 1) (ev_var 2) ev_int) (ev_var 3)) (ev_var 2))))
  (svs_one (sv_ret (ev_callTy cd_tuple B.nb_tuple bt_tuple (av_cons (ev_compB (comp_ok [1] (iv_seq (ev_callB (cd_sortDL rfl) B.nb_sorted bt_sorted (av_cons (ev_var 1) av_nil))) (λ_ _ _ _ _=>cv_one (tv_cmp (od_ne hr.units) (ev_ix (xd_ix (hu_of hr)) (ev_var 1) (ev_var 0)) ev_int)) (λ_ _ _ _ _=>(ev_lift (ev_tup (av_cons (ev_var 0) (av_cons (ev_ix (xd_ix (hu_of hr)) (ev_var 1) (ev_var 0)) av_nil)))))) (compB_mk (defScope s_gathered) ["terms","numbers","power","number"] (by decide +kernel))) av_nil))))))
theorem run_gathered {kk:D->Prop} {d0:D} {ts:T} (hl:ts.length<=50000) (k:∀us:T,Is us->us.length<=ts.length->nrm us<=nrm ts->(∀f,ev f us=ev f ts)->kk (.tup (us.map pr2))) :
  forI (ts.map pr2) (gTupD 2 (gConsD (gN 2) (gConsD (gN 3) gNilD))) (wSetIx 1 (wBin dAddT (wGet2 (wVar 1) (wVar 2) (wC (.int 0))) (wVar 3)) (wVar 2))
   { nx:=wRet (wCall dTuple (wCons (wComp (wSeqD (wCall dSortDL (wCons (wVar 1) wNil))) (wBl (wBin dNe (wBin dIx (wVar 1) (wVar 0)) (wC (.int 0)))) (wLift (wTup (wCons (wVar 0) (wCons (wBin dIx (wVar 1) (wVar 0)) wNil)))) [1]) wNil)) { nx:=λρ=>kk .non,rt:=λd ρ=>kk d },rt:=λd ρ=>kk d }
   [some d0,some (.dik []),none,none]:=by
 refine ⟨λi ρ=>∃(a:T) (o2 o3:Option D),(a.map (·.1)).Nodup/\a.length<=i/\i<=ts.length/\nrm a<=nrm (ts.take i)/\(∀f,ev f a=ev f (ts.take i))/\ρ=[some d0,some (.dik (enc a)),o2,o3],⟨[],none,none,.nil,Nat.le_refl _,Nat.zero_le _,Nat.le_refl _,λ_=>rfl,rfl⟩,?_,?_⟩
 ·rintro i d ρ hd ⟨a,o2,o3,hnd,hal,hil,hnm,hev,rfl⟩
  rw [List.getElem?_map] at hd
  obtain ⟨t,ht,hd⟩:=Option.map_eq_some_iff.mp hd
  subst hd
  have hi:=(List.getElem?_eq_some_iff.mp ht).1
  have e:ts.take (i+1)=ts.take i++[t]:=by rw [List.take_add_one,ht];rfl
  simp only [pr2,wSetIx,wBin,wGet2,wC,D.pure,r_var,true_and,r_gTup,List.length_cons,List.length_nil,Nat.zero_add,Nat.reduceAdd,r_gCons,gN,List.set_cons_succ,List.set_cons_zero,r_gNil,look,Option.isSome_some,oget_s,r_setDi,enc_len,r2_noD,r2_get,val_getD,r2_add,put_enc hnd]
  refine ⟨Dct.small (by omega),put a t.1 (get a t.1+t.2),_,_,put_nodup hnd,Nat.le_trans put_length (by omega),by omega,?_,λf=>?_,rfl⟩
  ·rw [e,nrm_append]
   have:=put_nrm (p:=t.1) (n:=t.2) (a:=a)
   show _<=_+(t.2.natAbs+0)
   omega
  ·rw [e,put_ev,ev_append,hev]
   show _=_+(t.2*f t.1+0)
   omega
 ·rintro ρ ⟨a,o2,o3,hnd,hal,hil,hnm,hev,rfl⟩
  rw [List.length_map,List.take_of_length_le (Nat.le_refl _)] at *
  simp only [wRet,wCall,wCons,wNil,r_comp,r_seq,r_var,look,oget_s,r7_sortDL,r_seqL]
  refine ⟨_,enc_keys,by rw [enc_len];omega,λout hp ho=>?_⟩
  obtain ⟨g1,g2,g3,g4⟩:=gather hnd hp ho
  have hol:out.length=a.length:=by rw [hp.length_eq,List.length_map]
  refine ⟨λi ys=>i<=out.length/\ys=(nzf ((out.take i).map λp=>(p,get a p))).map pr2,⟨Nat.zero_le _,rfl⟩,?_,?_⟩
  ·rintro i d ys hd ⟨hio,rfl⟩
   rw [List.getElem?_map] at hd
   obtain ⟨p,hpp,hd⟩:=Option.map_eq_some_iff.mp hd
   subst hd
   have hi:=(List.getElem?_eq_some_iff.mp hpp).1
   have hv:=val_some (hp.mem_iff.mp (List.mem_of_getElem? hpp))
   have e:out.take (i+1)=out.take i++[p]:=by rw [List.take_add_one,hpp];rfl
   have hlen:(nzf ((out.take i).map λp=>(p,get a p))).length<=i:=by
    refine Nat.le_trans (List.length_filter_le _ _) ?_
    rw [List.length_map,List.length_take];omega
   refine ⟨by rw [List.length_map];exact Dct.small (by omega),?_⟩
   simp only [blkE,List.map_cons,look,List.map_nil,wLift,wTup,wCons,wBin,wNil,List.length_cons,List.length_nil,Nat.zero_add,Nat.reduceAdd,sz2,D.pure,pureL,Bool.and_true,true_and,r_var,oget_s,r_ixDi,hv,r_bl,wC,r_neI,r_blOf]
   rw [e,List.map_append]
   unfold nzf at *
   rw [List.filter_append]
   by_cases h0:get a p=0
   ·simp only [h0,decide_true,Bool.not_true,Bool.false_eq_true,reduceIte]
    refine ⟨by omega,?_⟩
    rw [show ([p].map λp=>(p,get a p)).filter (λt=>decide (t.2≠0))=[] by simp [h0],List.append_nil]
   ·simp only [h0,decide_false,Bool.not_false,reduceIte]
    refine ⟨by omega,?_⟩
    rw [show ([p].map λp=>(p,get a p)).filter (λt=>decide (t.2≠0))=[(p,get a p)] by simp [h0],List.map_append]
    rfl
  ·rintro ys ⟨_,rfl⟩
   have e0:out.take (out.map D.int).length=out:=by rw [List.length_map];exact List.take_of_length_le (Nat.le_refl _)
   rw [e0]
   simp only [List.length_map,r_tupL,pure_two,true_and]
   refine ⟨Nat.le_of_lt (Dct.small (by omega)),?_⟩
   exact k _ g1 (by omega) (by omega) λf=>by rw [g2,hev]
theorem ok_gathered {P:Program} {w:World} {K:PySem.W.Frag} {mg:Str->Option Value} {base:Heap} {f:Addr} {fd:FuncData} (F:Fun K "gathered" "gathered" s_gathered f fd) (B:Bn K mg):FnOk P w K mg base CX0 1 f fd ["terms"] (spR K g_gathered):=by
 refine fn_ro (T:=t_gathered) F sc_gathered rfl (by decide) (λds kk h=>?_) (b_gathered B) (λds kk h=>?_)
 ·obtain ⟨ts,rfl | rfl,_⟩:=h
  ·rfl
  ·rfl
 ·obtain ⟨ts,rfl | rfl,hl,k⟩:=h
  ·simp only [w_gathered,env0,rowD,List.length_cons,List.length_nil,List.map_cons,List.map_nil,List.cons_append,List.nil_append,List.replicate,wSeq,wSet,r_for,r_seq,r_var,wC,oget_s,look,List.set_cons_zero,List.set_cons_succ,List.getElem?_cons_zero,List.getElem?_cons_succ,r_seqL,pure_two,true_and]
   exact run_gathered hl k
  ·simp only [w_gathered,env0,rowD,List.length_cons,List.length_nil,List.map_cons,List.map_nil,List.cons_append,List.nil_append,List.replicate,wSeq,wSet,r_for,r_seq,r_var,wC,oget_s,look,List.set_cons_zero,List.set_cons_succ,List.getElem?_cons_zero,List.getElem?_cons_succ,r_seqT,pure_two,true_and]
   exact run_gathered hl k
theorem compI2_map {ts:T} {we:WE} {ρ1:PV.Env} {ix:List Nat} {Q:D->PV.Env->Prop} (g:Int × Int->D) (hz:ts.length<sizeLine) (he:∀t∈ts,∀Q':D->PV.Env->Prop,Q' (g t) (blkE2 ρ1 (.int t.1) (.int t.2) ix)->we (blkE2 ρ1 (.int t.1) (.int t.2) ix) Q') (hQ:Q (.lst (ts.map g)) ρ1):compI2 (ts.map pr2) wAll we ρ1 ix Q:=by
 refine ⟨λi ys=>i<=ts.length/\ys=(ts.take i).map g,⟨Nat.zero_le _,rfl⟩,?_,?_⟩
 ·rintro i d ys hd ⟨hi,rfl⟩
  rw [List.getElem?_map] at hd
  obtain ⟨t,ht,hd⟩:=Option.map_eq_some_iff.mp hd
  subst hd
  have hlt:=(List.getElem?_eq_some_iff.mp ht).1
  refine ⟨by rw [List.length_map,List.length_take];omega,?_⟩
  simp only [pr2,r4_two,wAll,reduceIte]
  refine he t (List.mem_of_getElem? ht) _ ⟨hlt,?_⟩
  rw [List.take_add_one,ht,List.map_append];rfl
 ·rintro ys ⟨_,rfl⟩
  have e0:ts.take (ts.map pr2).length=ts:=by rw [List.length_map];exact List.take_of_length_le (Nat.le_refl _)
  rw [e0]
  exact ⟨by rw [List.length_map];exact Nat.le_of_lt hz,hQ⟩
def g_minus:GA:=λds k=>∃a b:T,ds=[.tup (a.map pr2),.tup (b.map pr2)]/\a.length+b.length<=50000/\∀us:T,Is us->us.length<=a.length+b.length->nrm us<=nrm a+nrm b->(∀f,ev f us=ev f a-ev f b)->k (.tup (us.map pr2))
abbrev s_minus:Stmt:=top 15
theorem sc_minus:FnScope ["one","other"] ["one","other"] (defScope s_minus):=⟨rfl,rfl,rfl,by decide +kernel,rfl,by decide +kernel,by decide +kernel⟩
def t_minus:Tg:={ own:=λi=>false,io:=[] }
def w_minus:WS:=(wRet (wCall g_gathered (wCons (wBin dAddT (wVar 0) (wCall dTuple (wCons (wComp2 (wSeqD (wVar 1)) wAll (wTup (wCons (wLift (wVar 0)) (wCons (wUn dNeg (wVar 1)) wNil))) []) wNil))) wNil)))
theorem b_minus {P:Program} {w:World} {K:PySem.W.Frag} {mg:Str->Option Value} {base:Heap} {f:Addr} (B:Bn K mg) (C_gathered:Cal P w K mg base "gathered" 1 ["terms"] (spR K g_gathered)):∀(cdv:Value) (A:Around) (outer:List PySem.Env) (s:Shared) (H:Hp) (E:XK),Room 1 (A.deeper (envOfC "minus" (defScope s_minus) s.heap.objs.size f cdv))->SVs (cxOf CX0 P w K mg base ["one","other"] "minus" (defScope s_minus) f cdv A outer s H E).nox t_minus (defBody s_minus) w_minus:=λcdv A outer s H E hr =>
  (svs_one (sv_ret (ev_callC C_gathered (hr.mono (by decide)) (av_cons (ev_op od_addT (ev_var 0) (ev_callTy cd_tuple B.nb_tuple bt_tuple (av_cons (ev_comp2 (comp_ok2 [] (iv_seq (ev_var 1)) (λ_ _ _ _ _=>cv_nil) (λ_ _ _ _ _=>(ev_tup (av_cons (ev_lift (ev_var 0)) (av_cons (ev_un ud_neg (ev_var 1)) av_nil))))) (compB2_mk (defScope s_minus) ["one","other"] (by decide +kernel))) av_nil))) av_nil))))
theorem ok_minus {P:Program} {w:World} {K:PySem.W.Frag} {mg:Str->Option Value} {base:Heap} {f:Addr} {fd:FuncData} (F:Fun K "minus" "minus" s_minus f fd) (B:Bn K mg) (C1:Cal P w K mg base "gathered" 1 ["terms"] (spR K g_gathered)):FnOk P w K mg base CX0 2 f fd ["one","other"] (spR K g_minus):=by
 refine fn_ro (T:=t_minus) F sc_minus rfl (by decide) (λds kk h=>?_) (b_minus B C1) (λds kk h=>?_)
 ·obtain ⟨a,b,rfl,_⟩:=h
  rfl
 ·obtain ⟨a,b,rfl,hl,k⟩:=h
  simp only [w_minus,wRet,wCall,wCons,wBin,env0,List.map_cons,List.map_nil,List.length_cons,List.length_nil,Nat.zero_add,Nat.reduceAdd,List.cons_append,List.nil_append,wComp2,wNil,r_seq,r_var,look,oget_s,r_seqT,pure_two,true_and]
  refine compI2_map (λt=>pr2 (t.1,-t.2)) (Dct.small (by omega)) (λt ht Q' hQ=>?_) ?_
  ·simp only [wTup,wCons,wLift,blkE2,List.map_nil,wUn,wNil,List.length_cons,List.length_nil,Nat.zero_add,Nat.reduceAdd,sz2,true_and,r_var,look,oget_s,r_neg,D.pure]
   exact hQ
  ·have e:(b.map λt=>pr2 (t.1,-t.2))=(neg b).map pr2:=by unfold neg;rw [List.map_map];rfl
   rw [e]
   have hn:(neg b).length=b.length:=List.length_map ..
   simp only [r_tupL,pure_two,r2_addT,List.length_map,hn,true_and]
   refine ⟨Nat.le_of_lt (Dct.small (by omega)),a++neg b,.inr (by rw [List.map_append]),by rw [List.length_append,hn];exact hl,λus h1 h2 h3 h4=>?_⟩
   exact k us h1 (by rw [List.length_append,hn] at h2;exact h2) (by rw [nrm_append,nrm_neg] at h3;exact h3) λf=>by rw [h4,ev_append,ev_neg];omega
abbrev cONE:D:=.kc (.tup [.tup [.int 0,.int 1]])
abbrev cNO:D:=.kc (.tup [])
def IsP (d:D) (a:T):Prop:=d=.tup (a.map pr2)\/(d=cONE/\a=[(0,1)])\/(d=cNO/\a=[])
theorem IsP.pure {d:D} {a:T} (h:IsP d a):d.pure=true:=by
 rcases h with rfl | ⟨rfl,_⟩ | ⟨rfl,_⟩
 ·rw [D.pure];exact pure_two
 ·rw [D.pure]
 ·rw [D.pure]
theorem compI2_c1 {we:WE} {ρ1:PV.Env} {ix:List Nat} {Q:D->PV.Env->Prop} {p c:Int} {y:D} (he:∀Q':D->PV.Env->Prop,Q' y (blkE2 ρ1 (.int p) (.int c) ix)->we (blkE2 ρ1 (.int p) (.int c) ix) Q') (hQ:Q (.lst [y]) ρ1):compI2 [.kc (.tup [.int p,.int c])] wAll we ρ1 ix Q:=by
 refine ⟨λi ys=>(i=0/\ys=[])\/(i=1/\ys=[y]),.inl ⟨rfl,rfl⟩,?_,?_⟩
 ·rintro i d ys hd (⟨rfl,rfl⟩ | ⟨rfl,rfl⟩)
  ·cases hd
   refine ⟨by decide,?_⟩
   simp only [r16_two,kcD,wAll,reduceIte]
   exact he _ (.inr (by simp))
  ·cases hd
 ·rintro ys (⟨h,_⟩ | ⟨_,rfl⟩)
  ·cases h
  ·exact ⟨Nat.le_of_lt (Dct.small (by simp)),hQ⟩
theorem compI2_c0 {we:WE} {ρ1:PV.Env} {ix:List Nat} {Q:D->PV.Env->Prop} (hQ:Q (.lst []) ρ1):compI2 [] wAll we ρ1 ix Q:=by
 refine ⟨λ_ ys=>ys=[],rfl,λi d ys hd _=>?_,λys h=>?_⟩
 ·cases hd
 ·obtain rfl:ys=[]:=h
  exact ⟨by decide,hQ⟩
def g_lifted:GA:=λds k=>∃(d:D) (a:T) (m:Int),ds=[d,.int m]/\IsP d a/\a.length<=50000/\k (.tup ((lift a m).map pr2))
abbrev s_lifted:Stmt:=top 16
theorem sc_lifted:FnScope ["one","many"] ["one","many"] (defScope s_lifted):=⟨rfl,rfl,rfl,by decide +kernel,rfl,by decide +kernel,by decide +kernel⟩
def t_lifted:Tg:={ own:=λi=>false,io:=[] }
def w_lifted:WS:=(wRet (wCall dTuple (wCons (wComp2 (wSeqD (wVar 0)) wAll (wTup (wCons (wBin dAddT (wVar 0) (wVar 2)) (wCons (wLift (wVar 1)) wNil))) [1]) wNil)))
theorem b_lifted {P:Program} {w:World} {K:PySem.W.Frag} {mg:Str->Option Value} {base:Heap} {f:Addr} (B:Bn K mg):∀(cdv:Value) (A:Around) (outer:List PySem.Env) (s:Shared) (H:Hp) (E:XK),Room 0 (A.deeper (envOfC "lifted" (defScope s_lifted) s.heap.objs.size f cdv))->SVs (cxOf CX0 P w K mg base ["one","many"] "lifted" (defScope s_lifted) f cdv A outer s H E).nox t_lifted (defBody s_lifted) w_lifted:=λcdv A outer s H E hr =>
  (svs_one (sv_ret (ev_callTy cd_tuple B.nb_tuple bt_tuple (av_cons (ev_comp2 (comp_ok2 [1] (iv_seq (ev_var 0)) (λ_ _ _ _ _=>cv_nil) (λ_ _ _ _ _=>(ev_tup (av_cons (ev_op od_addT (ev_var 0) (ev_var 2)) (av_cons (ev_lift (ev_var 1)) av_nil))))) (compB2_mk (defScope s_lifted) ["one","many"] (by decide +kernel))) av_nil))))
theorem ok_lifted {P:Program} {w:World} {K:PySem.W.Frag} {mg:Str->Option Value} {base:Heap} {f:Addr} {fd:FuncData} (F:Fun K "lifted" "lifted" s_lifted f fd) (B:Bn K mg):FnOk P w K mg base CX0 1 f fd ["one","many"] (spR K g_lifted):=by
 refine fn_ro (T:=t_lifted) F sc_lifted rfl (by decide) (λds kk h=>?_) (b_lifted B) (λds kk h=>?_)
 ·obtain ⟨d,a,m,rfl,_⟩:=h
  rfl
 ·obtain ⟨d,a,m,rfl,hd,hl,k⟩:=h
  rcases hd with rfl | ⟨rfl,rfl⟩ | ⟨rfl,rfl⟩
  ·simp only [w_lifted,wRet,wCall,wCons,wComp2,env0,List.map_cons,List.map_nil,List.length_cons,List.length_nil,Nat.zero_add,Nat.reduceAdd,List.cons_append,List.nil_append,wNil,r_seq,r_var,look,oget_s,r_seqT,pure_two,true_and]
   refine compI2_map (λt=>pr2 (t.1+m,t.2)) (Dct.small (by omega)) (λt ht Q' hQ=>?_) ?_
   ·simp only [wTup,wCons,wBin,blkE2,List.map_cons,look,List.map_nil,wLift,wNil,List.length_cons,List.length_nil,Nat.zero_add,Nat.reduceAdd,sz2,true_and,r_var,oget_s,D.pure,r2_add]
    exact hQ
   ·have e:(a.map λt=>pr2 (t.1+m,t.2))=(lift a m).map pr2:=by unfold lift;rw [List.map_map];rfl
    rw [e]
    simp only [r_tupL,pure_two,true_and]
    exact k
  ·simp only [w_lifted,wRet,wCall,wCons,wComp2,env0,List.map_cons,List.map_nil,List.length_cons,List.length_nil,Nat.zero_add,Nat.reduceAdd,List.cons_append,List.nil_append,wNil,r_seq,r_var,look,oget_s,r16_seqC,kcD]
   refine compI2_c1 (y:=pr2 (0+m,1)) (λQ' hQ=>?_) ?_
   ·simp only [wTup,wCons,wBin,blkE2,List.map_cons,look,List.map_nil,wLift,wNil,List.length_cons,List.length_nil,Nat.zero_add,Nat.reduceAdd,sz2,true_and,r_var,oget_s,D.pure,r2_add]
    exact hQ
   ·simp only [pr2,r_tupL,pureL,D.pure,Bool.and_self,true_and]
    exact k
  ·simp only [w_lifted,wRet,wCall,wCons,wComp2,env0,List.map_cons,List.map_nil,List.length_cons,List.length_nil,Nat.zero_add,Nat.reduceAdd,List.cons_append,List.nil_append,wNil,r_seq,r_var,look,oget_s,r16_seqC]
   refine compI2_c0 ?_
   simp only [r_tupL,pureL,true_and]
   exact k
def g_exchanged:GA:=λds k=>∃a b:D,ds=[.tup [a,b]]/\a.pure=true/\b.pure=true/\k (.tup [b,a])
abbrev s_exchanged:Stmt:=top 22
theorem sc_exchanged:FnScope ["told"] ["told"] (defScope s_exchanged):=⟨rfl,rfl,rfl,by decide +kernel,rfl,by decide +kernel,by decide +kernel⟩
def t_exchanged:Tg:={ own:=λi=>false,io:=[] }
def w_exchanged:WS:=(wRet (wLift (wTup (wCons (wBin dIx (wVar 0) (wC (.int 1))) (wCons (wBin dIx (wVar 0) (wC (.int 0))) wNil)))))
theorem b_exchanged {P:Program} {w:World} {K:PySem.W.Frag} {mg:Str->Option Value} {base:Heap} {f:Addr} (B:Bn K mg):∀(cdv:Value) (A:Around) (outer:List PySem.Env) (s:Shared) (H:Hp) (E:XK),Room 0 (A.deeper (envOfC "exchanged" (defScope s_exchanged) s.heap.objs.size f cdv))->SVs (cxOf CX0 P w K mg base ["told"] "exchanged" (defScope s_exchanged) f cdv A outer s H E).nox t_exchanged (defBody s_exchanged) w_exchanged:=λcdv A outer s H E hr =>
  (svs_one (sv_ret (ev_lift (ev_tup (av_cons (ev_ix (xd_ix (hu_of hr)) (ev_var 0) ev_int) (av_cons (ev_ix (xd_ix (hu_of hr)) (ev_var 0) ev_int) av_nil))))))
theorem ok_exchanged {P:Program} {w:World} {K:PySem.W.Frag} {mg:Str->Option Value} {base:Heap} {f:Addr} {fd:FuncData} (F:Fun K "exchanged" "exchanged" s_exchanged f fd) (B:Bn K mg):FnOk P w K mg base CX0 1 f fd ["told"] (spR K g_exchanged):=by
 refine fn_ro (T:=t_exchanged) F sc_exchanged rfl (by decide) (λds kk h=>?_) (b_exchanged B) (λds kk h=>?_)
 ·obtain ⟨a,b,rfl,_⟩:=h
  rfl
 ·obtain ⟨a,b,rfl,h1,h2,k⟩:=h
  simp only [w_exchanged,wRet,wLift,wTup,wCons,wBin,env0,List.map_cons,List.map_nil,List.length_cons,List.length_nil,Nat.zero_add,List.cons_append,List.nil_append,wC,wNil,Nat.reduceAdd,sz2,D.pure,pureL,Bool.and_true,true_and,r_var,look,oget_s,r_ixT,atI_0,List.getElem?_cons_zero,h1,atI_1,List.getElem?_cons_succ,h2]
  exact k
def g_half_twisted_sums:GA:=λds k=>∃(x y:D) (a b:T) (s:Int),ds=[.tup [x,y],.int s]/\IsP x a/\IsP y b/\(s=1\/s = -1)/\a.length+b.length<=50000/\∀us:T,Is us->(∀f,ev f us=ev f (lift a s)-ev f (lift b (3*s)))->k (.tup [.tup ((lift a (-s)).map pr2),.tup (us.map pr2)])
abbrev s_half_twisted_sums:Stmt:=top 23
theorem sc_half_twisted_sums:FnScope ["told","sign","upright"] ["told","sign"] (defScope s_half_twisted_sums):=⟨rfl,rfl,rfl,by decide +kernel,rfl,by decide +kernel,by decide +kernel⟩
def t_half_twisted_sums:Tg:={ own:=λi=>i == 2,io:=[] }
def w_half_twisted_sums:WS:=(wSeq (wSet 2 (wCall g_minus (wCons (wCall g_lifted (wCons (wBin dIx (wVar 0) (wC (.int 0))) (wCons (wVar 1) wNil))) (wCons (wCall g_lifted (wCons (wBin dIx (wVar 0) (wC (.int 1))) (wCons (wBin dMul (wC (.int 3)) (wVar 1)) wNil))) wNil))))
 (wRet (wTup (wCons (wCall g_lifted (wCons (wBin dIx (wVar 0) (wC (.int 0))) (wCons (wUn dNeg (wVar 1)) wNil))) (wCons (wLift (wVar 2)) wNil)))))
theorem b_half_twisted_sums {P:Program} {w:World} {K:PySem.W.Frag} {mg:Str->Option Value} {base:Heap} {f:Addr} (B:Bn K mg) (C_minus:Cal P w K mg base "minus" 2 ["one","other"] (spR K g_minus)) (C_lifted:Cal P w K mg base "lifted" 1 ["one","many"] (spR K g_lifted)):∀(cdv:Value) (A:Around) (outer:List PySem.Env) (s:Shared) (H:Hp) (E:XK),Room 2 (A.deeper (envOfC "half_twisted_sums" (defScope s_half_twisted_sums) s.heap.objs.size f cdv))->SVs (cxOf CX0 P w K mg base ["told","sign","upright"] "half_twisted_sums" (defScope s_half_twisted_sums) f cdv A outer s H E).nox t_half_twisted_sums (defBody s_half_twisted_sums) w_half_twisted_sums:=λcdv A outer s H E hr =>
  (svs_cons (sv_set (i:=2) (ev_callC C_minus (hr.mono (by decide)) (av_cons (ev_callC C_lifted (hr.mono (by decide)) (av_cons (ev_ix (xd_ix (hu_of hr)) (ev_var 0) ev_int) (av_cons (ev_var 1) av_nil))) (av_cons (ev_callC C_lifted (hr.mono (by decide)) (av_cons (ev_ix (xd_ix (hu_of hr)) (ev_var 0) ev_int) (av_cons (ev_op od_mul ev_int (ev_var 1)) av_nil))) av_nil))) sc_half_twisted_sums.nd)
  (svs_one (sv_ret (ev_tup (av_cons (ev_callC C_lifted (hr.mono (by decide)) (av_cons (ev_ix (xd_ix (hu_of hr)) (ev_var 0) ev_int) (av_cons (ev_un ud_neg (ev_var 1)) av_nil))) (av_cons (ev_lift (ev_var 2)) av_nil))))))
theorem ok_half_twisted_sums {P:Program} {w:World} {K:PySem.W.Frag} {mg:Str->Option Value} {base:Heap} {f:Addr} {fd:FuncData} (F:Fun K "half_twisted_sums" "half_twisted_sums" s_half_twisted_sums f fd) (B:Bn K mg) (C1:Cal P w K mg base "minus" 2 ["one","other"] (spR K g_minus)) (C2:Cal P w K mg base "lifted" 1 ["one","many"] (spR K g_lifted)):FnOk P w K mg base CX0 3 f fd ["told","sign"] (spR K g_half_twisted_sums):=by
 refine fn_ro (T:=t_half_twisted_sums) F sc_half_twisted_sums rfl (by decide) (λds kk h=>?_) (b_half_twisted_sums B C1 C2) (λds kk h=>?_)
 ·obtain ⟨x,y,a,b,s,rfl,_⟩:=h
  rfl
 ·obtain ⟨x,y,a,b,s,rfl,hx,hy,hs,hl,k⟩:=h
  have l1:(lift a s).length=a.length:=List.length_map ..
  have l2:(lift b (3*s)).length=b.length:=List.length_map ..
  have h3:-18446744073709551616<s:=by omega
  have h4:s<18446744073709551616:=by omega
  simp only [w_half_twisted_sums,wSeq,wSet,wCall,wCons,wBin,env0,List.map_cons,List.map_nil,List.length_cons,List.length_nil,Nat.zero_add,Nat.reduceAdd,List.replicate,List.cons_append,List.nil_append,wC,wNil,wRet,wTup,wUn,wLift,sz2,true_and,r_var,look,List.set_cons_succ,List.set_cons_zero,oget_s,r_neg,r_ixT,atI_0,List.getElem?_cons_zero,Int.reduceNeg,Int.reduceLT,r_mulA,atI_1,List.getElem?_cons_succ]
  refine ⟨x,a,s,rfl,hx,by omega,?_⟩
  simp only []
  refine ⟨y,b,3*s,rfl,hy,by omega,?_⟩
  simp only []
  refine ⟨lift a s,lift b (3*s),rfl,by omega,λus h1 h2 h3 h4=>?_⟩
  simp only [D.pure]
  refine ⟨x,a,-s,rfl,hx,by omega,?_⟩
  simp only [pure_two,true_and]
  exact k us h1 h4
open M69 (Wi)
def Sm (d:D) (B:Nat) (A:M69.St):Prop:=∃x y a b,d=.tup [x,y]/\IsP x a/\IsP y b/\Is a/\Is b/\Wi B a/\Wi B b/\A=((λf=>ev f a),λf=>ev f b)
theorem Sm.mono {d:D} {B C:Nat} {A:M69.St} (h:Sm d B A) (hc:B<=C):Sm d C A:=by
 obtain ⟨x,y,a,b,h1,h2,h3,h4,h5,h6,h7,h8⟩:=h
 exact ⟨x,y,a,b,h1,h2,h3,h4,h5,M69.wi_mono h6 hc,M69.wi_mono h7 hc,h8⟩
theorem Sm.pure {d:D} {B:Nat} {A:M69.St} (h:Sm d B A):d.pure=true:=by
 obtain ⟨x,y,a,b,rfl,h2,h3,_⟩:=h
 simp only [D.pure,pureL,h2.pure,h3.pure,Bool.and_self]
theorem sm_start:Sm (.tup [cONE,cNO]) 0 (M69.O,M69.Z):=by
 refine ⟨cONE,cNO,[(0,1)],[],rfl,.inr (.inl ⟨rfl,rfl⟩),.inr (.inr ⟨rfl,rfl⟩),is_one (by decide),is_nil,?_,?_,?_⟩
 ·intro t ht
  rw [List.mem_singleton.mp ht]
  exact ⟨by decide,by decide⟩
 ·intro t ht
  cases ht
 ·refine Prod.ext (funext λf=>?_) rfl
  show f 0=1*f 0+0
  omega
theorem sm_ex {d:D} {B:Nat} {A:M69.St} {k:D->Prop} (h:Sm d B A) (q:∀d',Sm d' B (M69.R A)->k d'):g_exchanged [d] k:=by
 obtain ⟨x,y,a,b,rfl,h2,h3,h4,h5,h6,h7,rfl⟩:=h
 exact ⟨x,y,rfl,h2.pure,h3.pure,q _ ⟨y,x,b,a,rfl,h3,h2,h5,h4,h7,h6,rfl⟩⟩
theorem sm_half {d:D} {B:Nat} {A:M69.St} {s:Int} {k:D->Prop} (h:Sm d B A) (hs:s=1\/s = -1) (hB:B<=10000) (q:∀d',Sm d' (B+3) (M69.T s A)->k d'):g_half_twisted_sums [d,.int s] k:=by
 obtain ⟨x,y,a,b,rfl,h2,h3,h4,h5,h6,h7,rfl⟩:=h
 have la:=M69.wi_len2 h4 h6
 have lb:=M69.wi_len2 h5 h7
 refine ⟨x,y,a,b,s,rfl,h2,h3,hs,by omega,λus hu he=>q _ ⟨_,_,lift a (-s),us,rfl,.inl rfl,.inl rfl,is_lift h4,hu,M69.wi_lift h6 (by omega),?_,?_⟩⟩
 ·exact M69.is_wi hu (M69.wi_lift h6 (by omega)) (M69.wi_lift h7 (by omega)) he
 ·refine Prod.ext (funext λf=>?_) (funext λf=>?_)
  ·show ev (λp=>f (p + -s)) a=ev f (lift a (-s))
   rw [Pol.ev_lift]
  ·show ev (λp=>f (p+s)) a-ev (λp=>f (p+3*s)) b=ev f us
   rw [he,Pol.ev_lift,Pol.ev_lift]
def tot:List Int->Nat
 | []=>0
 | n::l=>n.natAbs+tot l
theorem tot_append:∀{a b:List Int},tot (a++b)=tot a+tot b
 | [],b=>by simp [tot]
 | n::a,b=>by rw [List.cons_append,tot,tot,tot_append];omega
theorem tot_take:∀{l:List Int} {i:Nat},tot (l.take i)<=tot l
 | [],i=>by simp
 | n::l,0=>by simp [tot]
 | n::l,i+1=>by rw [List.take_succ_cons,tot,tot];have:=tot_take (l:=l) (i:=i);omega
theorem pure_enum:∀{xs:List D} {n:Nat},pureL xs=true->pureL (enumD n xs)=true
 | [],_,_=>rfl
 | x::xs,n,h=>by
  simp only [pureL,Bool.and_eq_true] at h
  simp only [enumD,pureL,D.pure,h.1,Bool.true_and,Bool.and_self,pure_enum h.2]
def stA (ns:List Int) (i:Nat):M69.St:=if i=0 then (M69.O,M69.Z) else M69.F M69.s0 (ns.take i)
abbrev fnE:D:=.kc (.fn "exchanged")
abbrev fnH:D:=.kc (.fn "half_twisted_sums")
theorem inner {n:Int} {d:D} {B:Nat} {A:M69.St} {a0 a1 a2 o5 o7:Option D} {P:EndsP} (hS:Sm d B A) (hB:B+3*n.natAbs<=1000) (q:∀d' o7,Sm d' (B+3*n.natAbs) (M69.Tn n A)->P.nx [a0,a1,a2,some fnH,some d',o5,some (.int n),o7]) :
  (-4611686018427387904<=if n<0 then -n else n)/\(if n<0 then -n else n)<4611686018427387904/\pureL (rngD 0 (if n<0 then -n else n).toNat)=true /\
   forI (rngD 0 (if n<0 then -n else n).toNat) (gN 7) (wSet 4 (wCallV 3 "half_twisted_sums" g_half_twisted_sums (wCons (wVar 4) (wCons (wIfE (wBl (wBin (dCmp λi j=>decide (j<i)) (wVar 6) (wC (D.int 0)))) (wC (D.int 1)) (wUn dNeg (wC (D.int 1)))) wNil)))) P [a0,a1,a2,some fnH,some d,o5,some (.int n),o7]:=by
 have e:(if n<0 then -n else n).toNat=n.natAbs:=by split <;> omega
 have e2:(if n<0 then -n else n)=(n.natAbs:Int):=by split <;> omega
 rw [e,e2]
 refine ⟨by omega,by omega,pure_rngD,λj ρ=>∃(d':D) (o:Option D),j<=n.natAbs/\Sm d' (B+3*j) (M69.it (M69.sgn n) j A)/\ρ=[a0,a1,a2,some fnH,some d',o5,some (.int n),o],⟨d,o7,Nat.zero_le _,hS,rfl⟩,?_,?_⟩
 ·rintro j e ρ hd ⟨d',o,hj,h,rfl⟩
  have hlt:j<n.natAbs:=by
   have:=(List.getElem?_eq_some_iff.mp hd).1
   rwa [rngD,List.length_map,List.length_range] at this
  simp only [gN,wSet,wCallV,List.set_cons_succ,List.set_cons_zero,look,wCons,wIfE,wC,wNil,wUn,r_neg,Int.reduceNeg,r_bl,wBin,r_var,oget_s,r_cmp,r_blOf,true_and]
  refine ite_dec (λhc=>?_) λhc=>?_
  ·have es:M69.sgn n=1:=if_pos hc
   rw [es] at h
   refine sm_half h (.inl rfl) (by omega) λd2 h2=>⟨d2,_,by omega,?_,rfl⟩
   rw [es];exact h2
  ·have es:M69.sgn n = -1:=if_neg hc
   rw [es] at h
   refine sm_half h (.inr rfl) (by omega) λd2 h2=>⟨d2,_,by omega,?_,rfl⟩
   rw [es];exact h2
 ·rintro ρ ⟨d',o,hj,h,rfl⟩
  rw [rngD,List.length_map,List.length_range] at h
  exact q d' o h
def g_followed:GA:=λds k=>∃ns:List Int,ds=[.lst (I ns),.tup [cONE,cNO],fnE,fnH]/\ns≠[]/\ns.length<=30/\tot ns<=200/\∀d,Sm d (3*tot ns) (M69.F M69.s0 ns)->k d
abbrev s_followed:Stmt:=top 21
theorem sc_followed:FnScope ["twists","start","turned","twisted_once","made","at","number","k"] ["twists","start","turned","twisted_once"] (defScope s_followed):=⟨rfl,rfl,rfl,by decide +kernel,rfl,by decide +kernel,by decide +kernel⟩
def t_followed:Tg:={ own:=λi=>i == 4 || i == 5 || i == 6 || i == 7,io:=[] }
def w_followed:WS:=(wSeq (wSet 4 (wLift (wVar 1)))
 (wSeq (wFor (wEnumP 0) (gTupD 2 (gConsD (gN 5) (gConsD (gN 6) gNilD))) (wSeq (wIf (wBl (wBin (dCmp λi j=>decide (j<i)) (wVar 5) (wC (.int 0)))) (wSet 4 (wCallV 2 "exchanged" g_exchanged (wCons (wVar 4) wNil))) wNext)
 (wFor (wRng1 (wCons (wCall dAbs (wCons (wVar 6) wNil)) wNil)) (gN 7) (wSet 4 (wCallV 3 "half_twisted_sums" g_half_twisted_sums (wCons (wVar 4) (wCons (wIfE (wBl (wBin (dCmp λi j=>decide (j<i)) (wVar 6) (wC (.int 0)))) (wC (.int 1)) (wUn dNeg (wC (.int 1)))) wNil)))))))
 (wRet (wLift (wVar 4)))))
theorem b_followed {P:Program} {w:World} {K:PySem.W.Frag} {mg:Str->Option Value} {base:Heap} {f:Addr} (B:Bn K mg) (C_exchanged:Cal P w K mg base "exchanged" 1 ["told"] (spR K g_exchanged)) (C_half_twisted_sums:Cal P w K mg base "half_twisted_sums" 3 ["told","sign"] (spR K g_half_twisted_sums)):∀(cdv:Value) (A:Around) (outer:List PySem.Env) (s:Shared) (H:Hp) (E:XK),Room 3 (A.deeper (envOfC "followed" (defScope s_followed) s.heap.objs.size f cdv))->SVs (cxOf CX0 P w K mg base ["twists","start","turned","twisted_once","made","at","number","k"] "followed" (defScope s_followed) f cdv A outer s H E).nox t_followed (defBody s_followed) w_followed:=λcdv A outer s H E hr =>
  (svs_cons (sv_set (i:=4) (ev_lift (ev_var 1)) sc_followed.nd)
  (svs_cons (sv_for PassesOwn.never (iv_enumP (i:=0) B.nb_enumerate) (gv_tup (gvs_cons (gv_name (i:=5) sc_followed.nd) (gvs_cons (gv_name (i:=6) sc_followed.nd) gvs_nil))) (svs_cons (sv_if (tv_cmp od_gt (ev_var 5) ev_int) (svs_one (sv_set (i:=4) (ev_callFn (i:=2) C_exchanged B.f_exchanged (hr.mono (by decide)) (av_cons (ev_var 4) av_nil)) sc_followed.nd)) svs_nil)
  (svs_one (sv_for PassesOwn.never (iv_range1 B.nb_range (av_cons (ev_callB cd_abs B.nb_abs bt_abs (av_cons (ev_var 6) av_nil)) av_nil)) (gv_name (i:=7) sc_followed.nd) (svs_one (sv_set (i:=4) (ev_callFn (i:=3) C_half_twisted_sums B.f_half_twisted_sums (hr.mono (by decide)) (av_cons (ev_var 4) (av_cons (ev_if (tv_cmp od_gt (ev_var 6) ev_int) ev_int (ev_un ud_neg ev_int)) av_nil))) sc_followed.nd))))))
  (svs_one (sv_ret (ev_lift (ev_var 4))))))
theorem ok_followed {P:Program} {w:World} {K:PySem.W.Frag} {mg:Str->Option Value} {base:Heap} {f:Addr} {fd:FuncData} (F:Fun K "followed" "followed" s_followed f fd) (B:Bn K mg) (C1:Cal P w K mg base "exchanged" 1 ["told"] (spR K g_exchanged)) (C2:Cal P w K mg base "half_twisted_sums" 3 ["told","sign"] (spR K g_half_twisted_sums)):FnOk P w K mg base CX0 4 f fd ["twists","start","turned","twisted_once"] (spR K g_followed):=by
 refine fn_ro (T:=t_followed) F sc_followed rfl (by decide) (λds kk h=>?_) (b_followed B C1 C2) (λds kk h=>?_)
 ·obtain ⟨ns,rfl,_⟩:=h
  rfl
 ·obtain ⟨ns,rfl,hne,hlen,ht,k⟩:=h
  simp only [w_followed,wSeq,wSet,wLift,env0,List.map_cons,List.map_nil,List.length_cons,List.length_nil,Nat.zero_add,Nat.reduceAdd,List.replicate,List.cons_append,List.nil_append,r_for,wEnumP,r_var,look,List.set_cons_succ,List.set_cons_zero,oget_s,r16_en,pI,true_and,D.pure,pureL,Bool.and_self]
  refine ⟨pure_enum pI,λi ρ=>∃(d:D) (o5 o6 o7:Option D),i<=ns.length/\Sm d (3*tot (ns.take i)) (stA ns i)/\ρ=[some (.lst (I ns)),some (.tup [cONE,cNO]),some fnE,some fnH,some d,o5,o6,o7],⟨_,none,none,none,Nat.zero_le _,sm_start,rfl⟩,?_,?_⟩
  ·rintro i e ρ hd ⟨d,o5,o6,o7,hi,hS,rfl⟩
   rw [enumD_get,List.getElem?_map] at hd
   obtain ⟨e1,h1,rfl⟩:=Option.map_eq_some_iff.mp hd
   obtain ⟨n,hn,rfl⟩:=Option.map_eq_some_iff.mp h1
   rw [Nat.zero_add]
   have hlt:=(List.getElem?_eq_some_iff.mp hn).1
   have et:ns.take (i+1)=ns.take i++[n]:=by rw [List.take_add_one,hn];rfl
   have hT:tot (ns.take i)+n.natAbs<=tot ns:=by have:=tot_take (l:=ns) (i:=i+1);rw [et,tot_append] at this;simp only [tot] at this;omega
   simp only [wSeq,wIf,wSet,wCallV,wCons,wNil,r_for,r_rng1,wCall,r_var,wNext,r_bl,wBin,wC,r_gTup,List.length_cons,List.length_nil,Nat.zero_add,Nat.reduceAdd,r_gCons,gN,List.set_cons_succ,List.set_cons_zero,r_gNil,look,oget_s,r_abs,r_rng1I,Int.reducePow,Int.reduceNeg,true_and,r_cmp,r_blOf]
   have fin:∀d' o7,Sm d' (3*tot (ns.take i)+3*n.natAbs) (M69.Tn n (M69.R (M69.F M69.s0 (ns.take i))))->∃(d:D) (o5 o6 o7':Option D),i+1<=ns.length/\Sm d (3*tot (ns.take (i+1))) (stA ns (i+1))/\[some (D.lst (I ns)),some (D.tup [cONE,cNO]),some fnE,some fnH,some d',some (D.int i),some (D.int n),o7]=[some (.lst (I ns)),some (.tup [cONE,cNO]),some fnE,some fnH,some d,o5,o6,o7']:=λd' o7 h=>by
    refine ⟨d',_,_,_,hlt,?_,rfl⟩
    unfold stA
    rw [if_neg (by omega),et,tot_append]
    simp only [tot,Nat.add_zero,Nat.mul_add]
    unfold M69.F
    rw [List.foldl_append]
    exact h
   refine ite_dec (λhc=>?_) λhc=>?_
   ·refine sm_ex hS λd' h=>inner h (by omega) λd2 o h2=>fin d2 o ?_
    unfold stA at h2
    rwa [if_neg (by omega)] at h2
   ·obtain rfl:i=0:=by omega
    exact inner hS (by omega) λd2 o h2=>fin d2 o h2
  ·rintro ρ ⟨d,o5,o6,o7,hi,hS,rfl⟩
   rw [enumD_length,List.length_map] at hS
   rw [List.take_of_length_le (Nat.le_refl _)] at hS
   simp only [wRet,wLift,r_var,look,oget_s,hS.pure,true_and]
   refine k d ?_
   unfold stA at hS
   rwa [if_neg (λz=>hne (List.eq_nil_of_length_eq_zero z)),List.take_of_length_le (Nat.le_refl _)] at hS
def g_twisted_sums:GA:=λds k=>∃ns:List Int,ds=[.lst (I ns)]/\ns≠[]/\ns.length<=30/\tot ns<=200/\∀d,Sm d (3*tot ns) (M69.F M69.s0 ns)->k d
abbrev s_twisted_sums:Stmt:=top 24
theorem sc_twisted_sums:FnScope ["twists"] ["twists"] (defScope s_twisted_sums):=⟨rfl,rfl,rfl,by decide +kernel,rfl,by decide +kernel,by decide +kernel⟩
def t_twisted_sums:Tg:={ own:=λi=>false,io:=[] }
def w_twisted_sums:WS:=(wRet (wCall g_followed (wCons (wVar 0) (wCons (wTup (wCons (wC (.kc (.tup [.tup [.int 0,.int 1]]))) (wCons (wC (.kc (.tup []))) wNil))) (wCons (wC (.kc (.fn "exchanged"))) (wCons (wC (.kc (.fn "half_twisted_sums"))) wNil))))))
theorem b_twisted_sums {P:Program} {w:World} {K:PySem.W.Frag} {mg:Str->Option Value} {base:Heap} {f:Addr} (B:Bn K mg) (C_followed:Cal P w K mg base "followed" 4 ["twists","start","turned","twisted_once"] (spR K g_followed)):∀(cdv:Value) (A:Around) (outer:List PySem.Env) (s:Shared) (H:Hp) (E:XK),Room 4 (A.deeper (envOfC "twisted_sums" (defScope s_twisted_sums) s.heap.objs.size f cdv))->SVs (cxOf CX0 P w K mg base ["twists"] "twisted_sums" (defScope s_twisted_sums) f cdv A outer s H E).nox t_twisted_sums (defBody s_twisted_sums) w_twisted_sums:=λcdv A outer s H E hr =>
  (svs_one (sv_ret (ev_callC C_followed (hr.mono (by decide)) (av_cons (ev_var 0) (av_cons (ev_tup (av_cons (ev_kc B.c_ONE) (av_cons (ev_kc B.c_NOUGHT) av_nil))) (av_cons (ev_fnv B.f_exchanged) (av_cons (ev_fnv B.f_half_twisted_sums) av_nil)))))))
theorem ok_twisted_sums {P:Program} {w:World} {K:PySem.W.Frag} {mg:Str->Option Value} {base:Heap} {f:Addr} {fd:FuncData} (F:Fun K "twisted_sums" "twisted_sums" s_twisted_sums f fd) (B:Bn K mg) (C1:Cal P w K mg base "followed" 4 ["twists","start","turned","twisted_once"] (spR K g_followed)):FnOk P w K mg base CX0 5 f fd ["twists"] (spR K g_twisted_sums):=by
 refine fn_ro (T:=t_twisted_sums) F sc_twisted_sums rfl (by decide) (λds kk h=>?_) (b_twisted_sums B C1) (λds kk h=>?_)
 ·obtain ⟨ns,rfl,_⟩:=h
  rfl
 ·obtain ⟨ns,rfl,hne,hlen,ht,k⟩:=h
  simp only [w_twisted_sums,wRet,wCall,wCons,env0,List.map_cons,List.map_nil,List.length_cons,List.length_nil,Nat.zero_add,List.cons_append,List.nil_append,wTup,wC,wNil,Nat.reduceAdd,sz2,true_and,r_var,look,oget_s]
  exact ⟨ns,rfl,hne,hlen,ht,k⟩
end K69
namespace K69
open PySem PySem.Spec L2 PV
open PyProof.Rows (envOfC)
open V68 Pol Dct
def fr (t:Int × Int):D:=.tup [.int t.1,.int t.2]
def g_value:GA:=λds k=>∃ns:List Int,ds=[.lst (ns.map .int)]/\(∀n∈ns,-300<=n/\n<=300)/\k (fr (ns.foldl V66.step (1,0)))
abbrev s_value:Stmt:=top 20
theorem sc_value:FnScope ["twists","told","number"] ["twists"] (defScope s_value):=⟨rfl,rfl,rfl,by decide +kernel,rfl,by decide +kernel,by decide +kernel⟩
def t_value:Tg:={ own:=λi=>i == 1 || i == 2,io:=[] }
def w_value:WS:=(wSeq (wSet 1 (wTup (wCons (wC (.int 1)) (wCons (wC (.int 0)) wNil))))
 (wSeq (wFor (wSeqD (wVar 0)) (gN 2) (wSeq (wSet 1 (wTup (wCons (wBin dSub (wBin dMul (wVar 2) (wBin dIx (wVar 1) (wC (.int 0)))) (wBin dIx (wVar 1) (wC (.int 1)))) (wCons (wLift (wBin dIx (wVar 1) (wC (.int 0)))) wNil))))
 (wIf (wBl (wBin (dCmp λi j=>decide (i<=j)) (wBin dIx (wVar 1) (wC (.int 1))) (wC (.int 0)))) (wSet 1 (wTup (wCons (wUn dNeg (wBin dIx (wVar 1) (wC (.int 0)))) (wCons (wUn dNeg (wBin dIx (wVar 1) (wC (.int 1)))) wNil)))) wNext)))
 (wRet (wLift (wVar 1)))))
theorem b_value {P:Program} {w:World} {K:PySem.W.Frag} {mg:Str->Option Value} {base:Heap} {f:Addr} (B:Bn K mg):∀(cdv:Value) (A:Around) (outer:List PySem.Env) (s:Shared) (H:Hp) (E:XK),Room 0 (A.deeper (envOfC "value" (defScope s_value) s.heap.objs.size f cdv))->SVs (cxOf CX0 P w K mg base ["twists","told","number"] "value" (defScope s_value) f cdv A outer s H E).nox t_value (defBody s_value) w_value:=λcdv A outer s H E hr =>
  (svs_cons (sv_set (i:=1) (ev_tup (av_cons ev_int (av_cons ev_int av_nil))) sc_value.nd)
  (svs_cons (sv_for PassesOwn.never (iv_par (i:=0)) (gv_name (i:=2) sc_value.nd) (svs_cons (sv_set (i:=1) (ev_tup (av_cons (ev_op od_sub (ev_op od_mul (ev_var 2) (ev_ix (xd_ix (hu_of hr)) (ev_var 1) ev_int)) (ev_ix (xd_ix (hu_of hr)) (ev_var 1) ev_int)) (av_cons (ev_lift (ev_ix (xd_ix (hu_of hr)) (ev_var 1) ev_int)) av_nil))) sc_value.nd)
  (svs_one (sv_if (tv_cmp od_le (ev_ix (xd_ix (hu_of hr)) (ev_var 1) ev_int) ev_int) (svs_one (sv_set (i:=1) (ev_tup (av_cons (ev_un ud_neg (ev_ix (xd_ix (hu_of hr)) (ev_var 1) ev_int)) (av_cons (ev_un ud_neg (ev_ix (xd_ix (hu_of hr)) (ev_var 1) ev_int)) av_nil))) sc_value.nd)) svs_nil))))
  (svs_one (sv_ret (ev_lift (ev_var 1))))))
theorem ok_value {P:Program} {w:World} {K:PySem.W.Frag} {mg:Str->Option Value} {base:Heap} {f:Addr} {fd:FuncData} (F:Fun K "value" "value" s_value f fd) (B:Bn K mg):FnOk P w K mg base CX0 1 f fd ["twists"] (spR K g_value):=by
 refine fn_ro (T:=t_value) F sc_value rfl (by decide) (λds kk h=>?_) (b_value B) (λds kk h=>?_)
 ·obtain ⟨ns,rfl,_⟩:=h
  rfl
 ·obtain ⟨ns,rfl,hns,k⟩:=h
  simp only [w_value,wSeq,wSet,wTup,wCons,wC,wNil,List.length_cons,List.length_nil,Nat.zero_add,Nat.reduceAdd,sz2,env0,List.map_cons,List.map_nil,List.replicate,List.cons_append,List.nil_append,List.set_cons_succ,List.set_cons_zero,r_for,r_seq,r_var,look,oget_s,r_seqL,pure_ints,true_and]
  refine ⟨λi ρ=>∃o2:Option D,ρ=[some (.lst (ns.map .int)),some (fr ((ns.take i).foldl V66.step (1,0))),o2],⟨none,rfl⟩,?_,?_⟩
  ·rintro i d ρ hd ⟨o2,rfl⟩
   rw [List.getElem?_map] at hd
   obtain ⟨n,hn,hd⟩:=Option.map_eq_some_iff.mp hd
   subst hd
   obtain ⟨h1,h2⟩:=hns n (List.mem_of_getElem? hn)
   have e:(ns.take (i+1)).foldl V66.step (1,0)=V66.step ((ns.take i).foldl V66.step (1,0)) n:=by
    rw [List.take_add_one,hn,List.foldl_append];rfl
   have h3:-18446744073709551616<n:=by omega
   have h4:n<18446744073709551616:=by omega
   simp only [gN,wSeq,wSet,wTup,wCons,wBin,fr,List.set_cons_succ,List.set_cons_zero,wC,wLift,wNil,List.length_cons,List.length_nil,Nat.zero_add,Nat.reduceAdd,sz2,wIf,wUn,e,true_and,r_var,wNext,r_bl,look,oget_s,r_ixT,atI_1,List.getElem?_cons_succ,List.getElem?_cons_zero,atI_0,D.pure,r_neg,r_cmp,r_blOf,Int.reduceNeg,h3,h4,r_mulA,r_sub]
   generalize (ns.take i).foldl V66.step (1,0)=t
   split
   ·rename_i hc
    have hc:t.1<=0:=of_decide_eq_true hc
    refine ⟨some (.int n),?_⟩
    unfold V66.step V66.nrmz
    rw [if_pos hc]
   ·rename_i hc
    have hc:¬t.1<=0:=λz=>hc (decide_eq_true z)
    refine ⟨some (.int n),?_⟩
    unfold V66.step V66.nrmz
    rw [if_neg hc]
  ·rintro ρ ⟨o2,rfl⟩
   rw [List.length_map,List.take_of_length_le (Nat.le_refl _)]
   simp only [wRet,wLift,fr,r_var,look,oget_s,D.pure,pureL,Bool.and_self,true_and]
   exact k
def g_law_cell_at:GA:=λds k=>∃(ns:List Int) (i:Nat),ds=[.kls (ns.map .int),.int i]/\∀c:Int,k (.int c)
abbrev s__law_cell_at:Stmt:=top 26
theorem sc__law_cell_at:FnScope ["_law_script","_law_k"] ["_law_script","_law_k"] (defScope s__law_cell_at):=⟨rfl,rfl,rfl,by decide +kernel,rfl,by decide +kernel,by decide +kernel⟩
def t__law_cell_at:Tg:={ own:=λi=>false,io:=[] }
def w__law_cell_at:WS:=(wSeq (wIf (wBl (wBin (dCmp λi j=>decide (i<j)) (wVar 1) (wCall dLen (wCons (wVar 0) wNil)))) (wRet (wLift (wBin dIx (wVar 0) (wVar 1)))) wNext)
 (wRet (wC (.int 0))))
theorem b__law_cell_at {P:Program} {w:World} {K:PySem.W.Frag} {mg:Str->Option Value} {base:Heap} {f:Addr} (B:Bn K mg):∀(cdv:Value) (A:Around) (outer:List PySem.Env) (s:Shared) (H:Hp) (E:XK),Room 0 (A.deeper (envOfC "_law_cell_at" (defScope s__law_cell_at) s.heap.objs.size f cdv))->SVs (cxOf CX0 P w K mg base ["_law_script","_law_k"] "_law_cell_at" (defScope s__law_cell_at) f cdv A outer s H E).nox t__law_cell_at (defBody s__law_cell_at) w__law_cell_at:=λcdv A outer s H E hr =>
  (svs_cons (sv_if (tv_cmp od_lt (ev_var 1) (ev_callB cd_len B.nb_len bt_len (av_cons (ev_var 0) av_nil))) (svs_one (sv_ret (ev_lift (ev_ix (xd_ix (hu_of hr)) (ev_var 0) (ev_var 1))))) svs_nil)
  (svs_one (sv_ret ev_int)))
theorem ok__law_cell_at {P:Program} {w:World} {K:PySem.W.Frag} {mg:Str->Option Value} {base:Heap} {f:Addr} {fd:FuncData} (F:Fun K "_law_cell_at" "_law_cell_at" s__law_cell_at f fd) (B:Bn K mg):FnOk P w K mg base CX0 1 f fd ["_law_script","_law_k"] (spR K g_law_cell_at):=by
 refine fn_ro (T:=t__law_cell_at) F sc__law_cell_at rfl (by decide) (λds kk h=>?_) (b__law_cell_at B) (λds kk h=>?_)
 ·obtain ⟨ns,i,rfl,_⟩:=h
  rfl
 ·obtain ⟨ns,i,rfl,k⟩:=h
  simp only [w__law_cell_at,wSeq,wIf,env0,List.map_cons,List.map_nil,List.length_cons,List.length_nil,Nat.zero_add,Nat.reduceAdd,List.cons_append,List.nil_append,wRet,wLift,wBin,r_var,wNext,wC,r_bl,wCall,wCons,wNil,look,oget_s,r_ixK,r_lenK,r_cmp,r_blOf]
  split
  ·rename_i h
   have h:(i:Int)<((ns.map D.int).length:Int):=by simpa using h
   have hi:i<ns.length:=by rw [List.length_map] at h;omega
   rw [atI_ofNat,List.getElem?_map,List.getElem?_eq_getElem hi]
   exact ⟨rfl,k _⟩
  ·exact k 0
def g_law_twists:GA:=λds k=>∃cs:List Int,ds=[.lst (cs.map .int),.int 10]/\cs.length<=10/\∀ns:List Int,ns.length=cs.length->(∀n∈ns,-10<=n/\n<=10)->k (.lst (ns.map .int))
theorem pick3 {a b c:D} {r:Int} (h0:0<=r) (h1:r<3):L2.atI [a,b,c] r=some (if r=0 then a else if r=1 then b else c):=by
 obtain h | h | h:r=0\/r=1\/r=2:=by omega
 ·subst h;rfl
 ·subst h;rfl
 ·subst h;rfl
abbrev s__law_twists:Stmt:=top 29
theorem sc__law_twists:FnScope ["_law_cells","_law_most","_law_twists_here","_law_left","_law_cell","_law_many"] ["_law_cells","_law_most"] (defScope s__law_twists):=⟨rfl,rfl,rfl,by decide +kernel,rfl,by decide +kernel,by decide +kernel⟩
def t__law_twists:Tg:={ own:=λi=>i == 2 || i == 3 || i == 4 || i == 5,io:=[] }
def w__law_twists:WS:=(wSeq (wSet 2 (wLst wNil))
 (wSeq (wSet 3 (wLift (wVar 1)))
 (wSeq (wFor (wSeqD (wVar 0)) (gN 4) (wSeq (wSet 5 (wBin dIx (wLst (wCons (wBin dSub (wBin dMod (wVar 4) (wC (.int 7))) (wC (.int 3))) (wCons (wBin dSub (wBin dMod (wVar 4) (wC (.int 3))) (wC (.int 1))) (wCons (wBin dSub (wBin dMod (wBin dDiv (wVar 4) (wC (.int 21))) (wBin dAddT (wBin dMul (wC (.int 2)) (wVar 1)) (wC (.int 1)))) (wVar 1)) wNil)))) (wBin dMod (wBin dDiv (wVar 4) (wC (.int 7))) (wC (.int 3)))))
 (wSeq (wIf (wBl (wBin (dCmp λi j=>decide (j<i)) (wCall dAbs (wCons (wVar 5) wNil)) (wVar 3))) (wSet 5 (wC (.int 0))) wNext)
 (wSeq (wDrop (wMt 2 "list" gAppend (wCons (wLift (wVar 5)) wNil)))
 (wSet 3 (wBin dSub (wVar 3) (wCall dAbs (wCons (wVar 5) wNil))))))))
 (wRetS 2))))
theorem b__law_twists {P:Program} {w:World} {K:PySem.W.Frag} {mg:Str->Option Value} {base:Heap} {f:Addr} (B:Bn K mg):∀(cdv:Value) (A:Around) (outer:List PySem.Env) (s:Shared) (H:Hp) (E:XK),Room 0 (A.deeper (envOfC "_law_twists" (defScope s__law_twists) s.heap.objs.size f cdv))->SVs (cxOf CX0 P w K mg base ["_law_cells","_law_most","_law_twists_here","_law_left","_law_cell","_law_many"] "_law_twists" (defScope s__law_twists) f cdv A outer s H E).nox t__law_twists (defBody s__law_twists) w__law_twists:=λcdv A outer s H E hr =>
  (svs_cons (sv_set (i:=2) (ev_lst av_nil) sc__law_twists.nd)
  (svs_cons (sv_set (i:=3) (ev_lift (ev_var 1)) sc__law_twists.nd)
  (svs_cons (sv_for PassesOwn.never (iv_par (i:=0)) (gv_name (i:=4) sc__law_twists.nd) (svs_cons (sv_set (i:=5) (ev_ix (xd_ix (hu_of hr)) (ev_lst (av_cons (ev_op od_sub (ev_op od_mod (ev_var 4) ev_int) ev_int) (av_cons (ev_op od_sub (ev_op od_mod (ev_var 4) ev_int) ev_int) (av_cons (ev_op od_sub (ev_op od_mod (ev_op od_div (ev_var 4) ev_int) (ev_op od_addT (ev_op od_mul ev_int (ev_var 1)) ev_int)) (ev_var 1)) av_nil)))) (ev_op od_mod (ev_op od_div (ev_var 4) ev_int) ev_int)) sc__law_twists.nd)
  (svs_cons (sv_if (tv_cmp od_gt (ev_callB cd_abs B.nb_abs bt_abs (av_cons (ev_var 5) av_nil)) (ev_var 3)) (svs_one (sv_set (i:=5) ev_int sc__law_twists.nd)) svs_nil)
  (svs_cons (sv_expr (ev_mt (i:=2) md_append PySem.F.plainAttrs_list PySem.F.slot_list_append PySem.F.type_list_append (av_cons (ev_lift (ev_var 5)) av_nil)))
  (svs_one (sv_set (i:=3) (ev_op od_sub (ev_var 3) (ev_callB cd_abs B.nb_abs bt_abs (av_cons (ev_var 5) av_nil))) sc__law_twists.nd))))))
  (svs_one (sv_retS (i:=2))))))
theorem ok__law_twists {P:Program} {w:World} {K:PySem.W.Frag} {mg:Str->Option Value} {base:Heap} {f:Addr} {fd:FuncData} (F:Fun K "_law_twists" "_law_twists" s__law_twists f fd) (B:Bn K mg):FnOk P w K mg base CX0 1 f fd ["_law_cells","_law_most"] (spR K g_law_twists):=by
 refine fn_ro (T:=t__law_twists) F sc__law_twists rfl (by decide) (λds kk h=>?_) (b__law_twists B) (λds kk h=>?_)
 ·obtain ⟨cs,rfl,_⟩:=h
  rfl
 ·obtain ⟨cs,rfl,hcs,k⟩:=h
  simp only [w__law_twists,wSeq,wSet,wLst,wNil,List.length_nil,sz0,wLift,env0,List.map_cons,List.map_nil,List.length_cons,Nat.zero_add,Nat.reduceAdd,List.replicate,List.cons_append,List.nil_append,List.set_cons_succ,List.set_cons_zero,r_for,r_seq,r_var,look,oget_s,r_seqL,pure_ints,true_and,D.pure]
  refine ⟨λi ρ=>∃(ns:List Int) (l:Int) (o4 o5:Option D),ns.length=i/\(∀n∈ns,-10<=n/\n<=10)/\ρ=[some (.lst (cs.map .int)),some (.int 10),some (.lst (ns.map .int)),some (.int l),o4,o5],⟨[],10,none,none,rfl,by simp,rfl⟩,?_,?_⟩
  ·rintro i d ρ hd ⟨ns,l,o4,o5,hl,hns,rfl⟩
   rw [List.getElem?_map] at hd
   obtain ⟨c,hc,hd⟩:=Option.map_eq_some_iff.mp hd
   subst hd
   have hi:=(List.getElem?_eq_some_iff.mp hc).1
   have p3:=pick3 (a:=D.int (c % 7-3)) (b:=D.int (c % 3-1)) (c:=D.int (c / 21 % (2*10+1)-10)) (Int.emod_nonneg (c / 7) (show (3:Int)≠0 by decide)) (Int.emod_lt_of_pos (c / 7) (show (0:Int)<3 by decide))
   have hb:∃m:Int,L2.atI [D.int (c % 7-3),D.int (c % 3-1),D.int (c / 21 % (2*10+1)-10)] (c / 7 % 3)=some (D.int m) /\ -10<=m/\m<=10:=by
    rw [p3]
    split
    ·exact ⟨_,rfl,by omega,by omega⟩
    ·split
     ·exact ⟨_,rfl,by omega,by omega⟩
     ·exact ⟨_,rfl,by omega,by omega⟩
   obtain ⟨m,hm,hm1,hm2⟩:=hb
   simp only [Int.reduceMul,Int.reduceAdd] at hm
   simp only [gN,wSeq,wSet,wBin,wLst,wCons,List.set_cons_succ,List.set_cons_zero,wC,wNil,List.length_cons,List.length_nil,Nat.zero_add,Nat.reduceAdd,sz3,wIf,wDrop,wMt,wLift,wCall,Int.reduceNeg,r_var,wNext,r_bl,true_and,look,r_tyL,BEq.rfl,oget_s,r_abs,Int.reduceLT,reduceIte,r_sub,r_app,List.length_map,D.pure,r_divP,r_modP,r_ixL,r_mulA,Int.reduceMul,r2_add,Int.reduceAdd,hm,r_cmp,r_blOf]
   have next:∀x:Int,-10<=x->x<=10->∀l':Int,∃(ns':List Int) (l'':Int) (o4 o5:Option D),ns'.length=i+1/\(∀n∈ns',-10<=n/\n<=10)/\[some (D.lst (cs.map .int)),some (.int 10),some (.lst (ns.map .int++[.int x])),some (.int l'),some (.int c),some (.int x)]=[some (.lst (cs.map .int)),some (.int 10),some (.lst (ns'.map .int)),some (.int l''),o4,o5]:=λx h1 h2 l' =>
    ⟨ns++[x],l',_,_,by rw [List.length_append,hl];rfl,λn hn=>by
     rcases List.mem_append.mp hn with h | h
     ·exact hns n h
     ·rw [List.mem_singleton.mp h];exact ⟨h1,h2⟩,by rw [List.map_append];rfl⟩
   generalize (if m<0 then -m else m)=am
   split
   ·exact ⟨Dct.small (by omega),next 0 (by omega) (by omega) _⟩
   ·exact ⟨Dct.small (by omega),next m hm1 hm2 _⟩
  ·rintro ρ ⟨ns,l,o4,o5,hl,hns,rfl⟩
   rw [List.length_map] at hl
   simp only [wRetS,look,oget_s]
   exact k ns hl hns
theorem stp_ok {pre rs:List Int} {n r v:Int} {w:Str} {q:List Int} (h:stp pre rs n r w=some (q,v)):M69.Led (pre++n::r::rs) q v/\q.length<=pre.length+rs.length+3/\tot q<=tot (pre++n::r::rs)+3/\q≠[]:=by
 unfold stp at h
 split at h
 ·split at h
  ·rename_i _ hn
   subst hn
   cases h
   rcases List.eq_nil_or_concat pre with rfl | ⟨bs,z,rfl⟩
   ·rw [if_pos rfl,adj_nil]
    exact ⟨M69.led_one0,by simp,by simp only [tot,List.nil_append];omega,by simp⟩
   ·rw [List.concat_eq_append,if_neg (by simp),adj_snoc]
    exact ⟨M69.led_one,by simp;omega,by simp only [tot_append,tot];omega,by simp⟩
  ·cases h
 split at h
 ·split at h
  ·rename_i _ hn
   subst hn
   cases h
   rcases List.eq_nil_or_concat pre with rfl | ⟨bs,z,rfl⟩
   ·rw [if_pos rfl,adj_nil]
    exact ⟨M69.led_less0,by simp,by simp only [tot,List.nil_append];omega,by simp⟩
   ·rw [List.concat_eq_append,if_neg (by simp),adj_snoc]
    exact ⟨M69.led_less,by simp;omega,by simp only [tot_append,tot];omega,by simp⟩
  ·cases h
 split at h
 ·split at h
  ·rename_i hq
   unfold nou at hq
   obtain ⟨hn0,hq2⟩:=of_decide_eq_true hq
   clear hq
   subst hn0
   cases h
   unfold wno
   rcases List.eq_nil_or_concat pre with rfl | ⟨bs,z,rfl⟩
   ·obtain ⟨rfl,hr⟩:r=0/\rs≠[]:=hq2.resolve_left λz=>z rfl
    rw [if_pos rfl]
    exact ⟨M69.led_nought0,by simp,by simp only [tot,List.nil_append];omega,hr⟩
   ·rw [List.concat_eq_append,if_neg (by simp),adj_snoc]
    exact ⟨M69.led_nought,by simp;omega,by simp only [tot_append,tot];omega,by simp⟩
  ·cases h
 split at h
 ·split at h
  ·rename_i _ hq
   obtain ⟨rfl,rfl⟩:=hq
   cases h
   exact ⟨M69.led_loose,by simp,by simp only [tot,List.nil_append];omega,by simp⟩
  ·cases h
 split at h
 ·split at h
  ·cases h
   exact ⟨M69.led_split,by simp;omega,by simp only [tot_append,tot];omega,by simp⟩
  ·cases h
 ·cases h
theorem stpI_ok {l:List Int} {w:Str} {a v:Int} {q:List Int} (h:stpI l w a=some (q,v)):M69.Led l q v/\q.length<=l.length+1/\tot q<=tot l+3/\q≠[]:=by
 cases hp:plc l a with
 | false=>rw [none_of hp] at h;cases h
 | true =>
  obtain ⟨pre,rs,n,r,rfl,_,e⟩:=parts hp
  rw [e] at h
  obtain ⟨h1,h2,h3,h4⟩:=stp_ok h
  exact ⟨h1,by simp;omega,h3,h4⟩
abbrev stD (s:Str × Int):D:=.tup [.str s.1,.int s.2]
theorem pure_st {ss:List (Str × Int)}:pureL (ss.map stD)=true:=pureL_map λ_ _=>rfl
def ldd:List Int->Int->List (Str × Int)->Option (List Int × Int)
 | l,v,[]=>some (l,v)
 | l,v,s::r=>match stpI l s.1 s.2 with
  | some (q,u)=>ldd q (v+u) r
  | none=>none
theorem ldd_snoc {s:Str × Int}:∀{ss:List (Str × Int)} {l q:List Int} {v u:Int},ldd l v ss=some (q,u)->ldd l v (ss++[s])=match stpI q s.1 s.2 with
  | some (q',w)=>some (q',u+w)
  | none=>none
 | [],l,q,v,u,h=>by
  cases h
  show ldd l v [s]=_
  unfold ldd
  cases stpI l s.1 s.2 <;> rfl
 | t::ss,l,q,v,u,h=>by
  unfold ldd at h
  show ldd l v (t::(ss++[s]))=_
  unfold ldd
  cases ht:stpI l t.1 t.2 with
  | none=>rw [ht] at h;cases h
  | some p =>
   rw [ht] at h
   exact ldd_snoc (ss:=ss) h
def g_led:GX:=λds k kx=>∃(l:List Int) (ss:List (Str × Int)),ds=[.lst (I l),.lst (ss.map stD)]/\l.length+ss.length<=22/\match ldd l 0 ss with
 | some (q,v)=>k (.tup [.lst (I q),.int v])
 | none=>kx (.obj (Str.ofString "NoStep") [])
abbrev s_led:Stmt:=top 12
theorem sc_led:FnScope ["twists","steps","told","weight","one","made"] ["twists","steps"] (defScope s_led):=⟨rfl,rfl,rfl,by decide +kernel,rfl,by decide +kernel,by decide +kernel⟩
def t_led:Tg:={ own:=λi=>i == 2 || i == 3 || i == 4 || i == 5,io:=[] }
def w_led:WS:=(wSeq (wSet 2 (wCall dList (wCons (wVar 0) wNil)))
 (wSeq (wSet 3 (wC (.int 0)))
 (wSeq (wFor (wSeqD (wVar 1)) (gN 4) (wSeq (wSetX 5 g_step (wCons (wVar 2) (wCons (wVar 4) wNil)))
 (wSeq (wMv0 2 5)
 (wSet 3 (wBin dAddT (wVar 3) (wBin dIx (wVar 5) (wC (.int 1))))))))
 (wRetT 2 (wVar 3)))))
theorem b_led {P:Program} {w:World} {K:PySem.W.Frag} {mg:Str->Option Value} {base:Heap} {f:Addr} (B:Bn K mg) (C_step:CalX P w K mg base "step" 3 ["twists","step"] (spX K g_step)):∀(cdv:Value) (A:Around) (outer:List PySem.Env) (s:Shared) (H:Hp) (E:XK) (XE:D->St->Hp->Prop),Room 3 (A.deeper (envOfC "led" (defScope s_led) s.heap.objs.size f cdv))->(∀x C,atN K x C->RaiseOk (cxOf (CXE P w base) P w K mg base ["twists","steps","told","weight","one","made"] "led" (defScope s_led) f cdv A outer s H E) ⟨t_led.own,t_led.io,XE⟩ x C)->PassOk (cxOf (CXE P w base) P w K mg base ["twists","steps","told","weight","one","made"] "led" (defScope s_led) f cdv A outer s H E) ⟨t_led.own,t_led.io,XE⟩->SVs (cxOf (CXE P w base) P w K mg base ["twists","steps","told","weight","one","made"] "led" (defScope s_led) f cdv A outer s H E) ⟨t_led.own,t_led.io,XE⟩ (defBody s_led) w_led:=λcdv A outer s H E XE hr hX hP =>
  (svs_cons (sv_set (i:=2) (ev_callTy cd_list B.nb_list bt_list (av_cons (ev_var 0) av_nil)) sc_led.nd (hio:=List.not_mem_nil))
  (svs_cons (sv_set (i:=3) ev_int sc_led.nd (hio:=List.not_mem_nil))
  (svs_cons (sv_for PassesOwn.leaving (iv_par (i:=1)) (gv_name (i:=4) sc_led.nd (hio:=List.not_mem_nil)) (svs_cons (sv_setX (i:=5) C_step (hr.mono (by decide)) hP (av_cons (ev_var 2) (av_cons (ev_var 4) av_nil)) sc_led.nd)
  (svs_cons (sv_mv0 (i:=2) (j:=5) sc_led.nd)
  (svs_one (sv_set (i:=3) (ev_op od_addT (ev_var 3) (ev_ix (xd_ix (hu_of hr)) (ev_var 5) ev_int)) sc_led.nd (hio:=List.not_mem_nil))))))
  (svs_one (sv_retT (i:=2) (ev_var 3))))))
theorem ok_led {P:Program} {w:World} {K:PySem.W.Frag} {mg:Str->Option Value} {base:Heap} {f:Addr} {fd:FuncData} (F:Fun K "led" "led" s_led f fd) (B:Bn K mg) (C1:CalX P w K mg base "step" 3 ["twists","step"] (spX K g_step)):FnOk P w K mg base (CXE P w base) 4 f fd ["twists","steps"] (spX K g_led):=by
 refine fn_x (T:=t_led) F sc_led rfl (by decide) (λds kk kx h=>?_) (b_led B C1) (λds kk kx h=>?_)
 ·obtain ⟨l,ss,rfl,_⟩:=h
  rfl
 ·obtain ⟨l,ss,rfl,hl,k⟩:=h
  simp only [w_led,wSeq,wSet,wCall,wCons,env0,List.map_cons,List.map_nil,List.length_cons,List.length_nil,Nat.zero_add,Nat.reduceAdd,List.replicate,List.cons_append,List.nil_append,wNil,wC,r_for,r_seq,r_var,look,List.set_cons_succ,List.set_cons_zero,oget_s,r_seqL,pure_st,true_and,r_listL,pI]
  refine ⟨λi ρ=>∃(q:List Int) (v:Int) (o4 o5:Option D),q.length<=l.length+i/\i<=ss.length/\ldd l 0 ss=ldd q v (ss.drop i)/\ρ=[some (.lst (I l)),some (.lst (ss.map stD)),some (.lst (I q)),some (.int v),o4,o5],⟨l,0,none,none,by omega,by omega,rfl,rfl⟩,?_,?_⟩
  ·rintro i d ρ hd ⟨q,v,o4,o5,h1,h2,h3,rfl⟩
   rw [List.getElem?_map] at hd
   obtain ⟨s,hs,hd⟩:=Option.map_eq_some_iff.mp hd
   subst hd
   obtain ⟨hi,hs⟩:=List.getElem?_eq_some_iff.mp hs
   have ed:ss.drop i=s::ss.drop (i+1):=by rw [List.drop_eq_getElem_cons hi,hs]
   simp only [gN,wSeq,wSetX,wCons,stD,List.set_cons_succ,List.set_cons_zero,wNil,wMv0,wSet,wBin,wC,r_var,look,oget_s,r_ixT,atI_1,List.getElem?_cons_succ]
   refine ⟨q,s.1,s.2,rfl,by omega,?_⟩
   rw [ed,ldd] at h3
   cases hq:stpI q s.1 s.2 with
   | none =>
    rw [hq] at h3
    rw [h3] at k
    exact k
   | some p =>
    obtain ⟨q',u⟩:=p
    rw [hq] at h3
    simp only [r16_mv,pureL,D.pure,Bool.and_self,List.getElem?_cons_zero,oget_s,r2_add,true_and]
    obtain ⟨_,g2,_,_⟩:=stpI_ok hq
    exact λa=>⟨q',v+u,_,_,by omega,by omega,h3,rfl⟩
  ·rintro ρ ⟨q,v,o4,o5,h1,h2,h3,rfl⟩
   rw [List.length_map,List.drop_of_length_le (Nat.le_refl _)] at h3
   rw [h3] at k
   simp only [wRetT,look,r_var,oget_s,D.pure,true_and]
   exact k
def llift (a:T) (h:Int):T:=a.map λt=>(t.1+3*h,t.2*(1-2*(h % 2)))
def g_law_lifted:GA:=λds k=>∃(d:D) (a:T) (h:Int),ds=[d,.int h]/\IsP d a/\a.length<=50000/\k (.tup ((llift a h).map pr2))
abbrev s__law_lifted:Stmt:=top 31
theorem sc__law_lifted:FnScope ["_law_one","_law_heft"] ["_law_one","_law_heft"] (defScope s__law_lifted):=⟨rfl,rfl,rfl,by decide +kernel,rfl,by decide +kernel,by decide +kernel⟩
def t__law_lifted:Tg:={ own:=λi=>false,io:=[] }
def w__law_lifted:WS:=(wRet (wCall dTuple (wCons (wComp2 (wSeqD (wVar 0)) wAll (wTup (wCons (wBin dAddT (wVar 0) (wBin dMul (wC (.int 3)) (wVar 2))) (wCons (wBin dMul (wVar 1) (wBin dSub (wC (.int 1)) (wBin dMul (wC (.int 2)) (wBin dMod (wVar 2) (wC (.int 2)))))) wNil))) [1]) wNil)))
theorem b__law_lifted {P:Program} {w:World} {K:PySem.W.Frag} {mg:Str->Option Value} {base:Heap} {f:Addr} (B:Bn K mg):∀(cdv:Value) (A:Around) (outer:List PySem.Env) (s:Shared) (H:Hp) (E:XK),Room 0 (A.deeper (envOfC "_law_lifted" (defScope s__law_lifted) s.heap.objs.size f cdv))->SVs (cxOf CX0 P w K mg base ["_law_one","_law_heft"] "_law_lifted" (defScope s__law_lifted) f cdv A outer s H E).nox t__law_lifted (defBody s__law_lifted) w__law_lifted:=λcdv A outer s H E hr =>
  (svs_one (sv_ret (ev_callTy cd_tuple B.nb_tuple bt_tuple (av_cons (ev_comp2 (comp_ok2 [1] (iv_seq (ev_var 0)) (λ_ _ _ _ _=>cv_nil) (λ_ _ _ _ _=>(ev_tup (av_cons (ev_op od_addT (ev_var 0) (ev_op od_mul ev_int (ev_var 2))) (av_cons (ev_op od_mul (ev_var 1) (ev_op od_sub ev_int (ev_op od_mul ev_int (ev_op od_mod (ev_var 2) ev_int)))) av_nil))))) (compB2_mk (defScope s__law_lifted) ["_law_one","_law_heft"] (by decide +kernel))) av_nil))))
theorem ok__law_lifted {P:Program} {w:World} {K:PySem.W.Frag} {mg:Str->Option Value} {base:Heap} {f:Addr} {fd:FuncData} (F:Fun K "_law_lifted" "_law_lifted" s__law_lifted f fd) (B:Bn K mg):FnOk P w K mg base CX0 1 f fd ["_law_one","_law_heft"] (spR K g_law_lifted):=by
 refine fn_ro (T:=t__law_lifted) F sc__law_lifted rfl (by decide) (λds kk h=>?_) (b__law_lifted B) (λds kk h=>?_)
 ·obtain ⟨d,a,m,rfl,_⟩:=h
  rfl
 ·obtain ⟨d,a,m,rfl,hd,hl,k⟩:=h
  have b1:-18446744073709551616<1-2*(m % 2):=by omega
  have b2:1-2*(m % 2)<18446744073709551616:=by omega
  rcases hd with rfl | ⟨rfl,rfl⟩ | ⟨rfl,rfl⟩
  ·simp only [w__law_lifted,wRet,wCall,wCons,wComp2,env0,List.map_cons,List.map_nil,List.length_cons,List.length_nil,Nat.zero_add,Nat.reduceAdd,List.cons_append,List.nil_append,wNil,r_seq,r_var,look,oget_s,r_seqT,pure_two,true_and]
   refine compI2_map (λt=>pr2 (t.1+3*m,t.2*(1-2*(m % 2)))) (Dct.small (by omega)) (λt ht Q' hQ=>?_) ?_
   ·simp only [wTup,wCons,wBin,blkE2,List.map_cons,look,List.map_nil,wC,wNil,List.length_cons,List.length_nil,Nat.zero_add,Nat.reduceAdd,sz2,true_and,r_var,oget_s,Int.reduceLT,r_modP,Int.reduceNeg,r_mulA,r_sub,b1,b2,r_mulB,r2_add]
    exact hQ
   ·have e:(a.map λt=>pr2 (t.1+3*m,t.2*(1-2*(m % 2))))=(llift a m).map pr2:=by unfold llift;rw [List.map_map];rfl
    rw [e]
    simp only [r_tupL,pure_two,true_and]
    exact k
  ·simp only [w__law_lifted,wRet,wCall,wCons,wComp2,env0,List.map_cons,List.map_nil,List.length_cons,List.length_nil,Nat.zero_add,Nat.reduceAdd,List.cons_append,List.nil_append,wNil,r_seq,r_var,look,oget_s,r16_seqC,kcD]
   refine compI2_c1 (y:=pr2 (0+3*m,1*(1-2*(m % 2)))) (λQ' hQ=>?_) ?_
   ·simp only [wTup,wCons,wBin,blkE2,List.map_cons,look,List.map_nil,wC,wNil,List.length_cons,List.length_nil,Nat.zero_add,Nat.reduceAdd,sz2,true_and,r_var,oget_s,Int.reduceLT,r_modP,Int.reduceNeg,r_mulA,r_sub,r2_add]
    exact hQ
   ·simp only [pr2,r_tupL,pureL,D.pure,Bool.and_self,true_and]
    exact k
  ·simp only [w__law_lifted,wRet,wCall,wCons,wComp2,env0,List.map_cons,List.map_nil,List.length_cons,List.length_nil,Nat.zero_add,Nat.reduceAdd,List.cons_append,List.nil_append,wNil,r_seq,r_var,look,oget_s,r16_seqC]
   refine compI2_c0 ?_
   simp only [r_tupL,pureL,true_and]
   exact k
def g_law_some:GA:=λds k=>∃l:List Int,ds=[.lst (I l)]/\l.length<=22/\∀ss:List (Str × Int),(∀s∈ss,(stpI l s.1 s.2).isSome=true)->ss.length<=110->k (.lst (ss.map stD))
abbrev s__law_some:Stmt:=top 32
theorem sc__law_some:FnScope ["_law_twists_here","_law_found","_law_at","_law_word"] ["_law_twists_here"] (defScope s__law_some):=⟨rfl,rfl,rfl,by decide +kernel,rfl,by decide +kernel,by decide +kernel⟩
def t__law_some:Tg:={ own:=λi=>i == 1 || i == 2 || i == 3,io:=[] }
def w__law_some:WS:=(wSeq (wSet 1 (wLst wNil))
 (wSeq (wFor (wRng1 (wCons (wCall dLen (wCons (wVar 0) wNil)) wNil)) (gN 2) (wFor (wSeqD (wLst (wCons (wC (.str (Str.ofString "one"))) (wCons (wC (.str (Str.ofString "less"))) (wCons (wC (.str (Str.ofString "nought"))) (wCons (wC (.str (Str.ofString "loose"))) (wCons (wC (.str (Str.ofString "split"))) wNil))))))) (gN 3) (wIf (wBl (wBin (dIs true) (wCall g_law_step (wCons (wVar 0) (wCons (wVar 3) (wCons (wVar 2) wNil)))) (wC .non))) (wDrop (wMt 1 "list" gAppend (wCons (wLift (wTup (wCons (wVar 3) (wCons (wVar 2) wNil)))) wNil))) wNext)))
 (wRetS 1)))
theorem b__law_some {P:Program} {w:World} {K:PySem.W.Frag} {mg:Str->Option Value} {base:Heap} {f:Addr} (B:Bn K mg) (C__law_step:Cal P w K mg base "_law_step" 1 ["_law_twists_here","_law_word","_law_at"] (spR K g_law_step)):∀(cdv:Value) (A:Around) (outer:List PySem.Env) (s:Shared) (H:Hp) (E:XK),Room 1 (A.deeper (envOfC "_law_some" (defScope s__law_some) s.heap.objs.size f cdv))->SVs (cxOf CX0 P w K mg base ["_law_twists_here","_law_found","_law_at","_law_word"] "_law_some" (defScope s__law_some) f cdv A outer s H E).nox t__law_some (defBody s__law_some) w__law_some:=λcdv A outer s H E hr =>
  (svs_cons (sv_set (i:=1) (ev_lst av_nil) sc__law_some.nd)
  (svs_cons (sv_for PassesOwn.never (iv_range1 B.nb_range (av_cons (ev_callB cd_len B.nb_len bt_len (av_cons (ev_var 0) av_nil)) av_nil)) (gv_name (i:=2) sc__law_some.nd) (svs_one (sv_for PassesOwn.never (iv_seq (ev_lst (av_cons ev_str (av_cons ev_str (av_cons ev_str (av_cons ev_str (av_cons ev_str av_nil))))))) (gv_name (i:=3) sc__law_some.nd) (svs_one (sv_if (tv_cmp od_isnot (ev_callC C__law_step (hr.mono (by decide)) (av_cons (ev_var 0) (av_cons (ev_var 3) (av_cons (ev_var 2) av_nil)))) ev_non) (svs_one (sv_expr (ev_mt (i:=1) md_append PySem.F.plainAttrs_list PySem.F.slot_list_append PySem.F.type_list_append (av_cons (ev_lift (ev_tup (av_cons (ev_var 3) (av_cons (ev_var 2) av_nil)))) av_nil)))) svs_nil)))))
  (svs_one (sv_retS (i:=1)))))
def g_law_refused:GA:=λds k=>∃(l:List Int) (ss:List (Str × Int)),ds=[.lst (I l),.lst (ss.map stD)]/\l.length+ss.length<=22/\k (.bl (ldd l 0 ss).isNone)
abbrev s__law_refused:Stmt:=top 33
theorem sc__law_refused:FnScope ["_law_twists_here","_law_steps","_law_refused_here"] ["_law_twists_here","_law_steps"] (defScope s__law_refused):=⟨rfl,rfl,rfl,by decide +kernel,rfl,by decide +kernel,by decide +kernel⟩
def t__law_refused:Tg:={ own:=λi=>i == 2,io:=[] }
def w__law_refused:WS:=(wSeq (wSet 2 (wC (.bl false)))
 (wSeq (wTryE g_led (wCons (wVar 0) (wCons (wVar 1) wNil)) isR (wSet 2 (wC (.bl true))))
 (wRet (wLift (wVar 2)))))
theorem b__law_refused {P:Program} {w:World} {K:PySem.W.Frag} {mg:Str->Option Value} {base:Heap} {f:Addr} (B:Bn K mg) (C_led:CalX P w K mg base "led" 4 ["twists","steps"] (spX K g_led)):∀(cdv:Value) (A:Around) (outer:List PySem.Env) (s:Shared) (H:Hp) (E:XK),Room 4 (A.deeper (envOfC "_law_refused" (defScope s__law_refused) s.heap.objs.size f cdv))->SVs (cxOf CX0 P w K mg base ["_law_twists_here","_law_steps","_law_refused_here"] "_law_refused" (defScope s__law_refused) f cdv A outer s H E).nox t__law_refused (defBody s__law_refused) w__law_refused:=λcdv A outer s H E hr =>
  (svs_cons (sv_set (i:=2) ev_bl sc__law_refused.nd)
  (svs_cons (sv_tryE (cat:=isR) C_led (hr.mono (by decide)) ⟨rfl,rfl,rfl⟩ (av_cons (ev_var 0) (av_cons (ev_var 1) av_nil)) B.h_NoStep.choose_spec.1 B.h_NoStep.choose_spec.2 (λea=>(svs_one (sv_set (i:=2) ev_bl sc__law_refused.nd))))
  (svs_one (sv_ret (ev_lift (ev_var 2))))))
theorem ok__law_refused {P:Program} {w:World} {K:PySem.W.Frag} {mg:Str->Option Value} {base:Heap} {f:Addr} {fd:FuncData} (F:Fun K "_law_refused" "_law_refused" s__law_refused f fd) (B:Bn K mg) (C1:CalX P w K mg base "led" 4 ["twists","steps"] (spX K g_led)):FnOk P w K mg base CX0 5 f fd ["_law_twists_here","_law_steps"] (spR K g_law_refused):=by
 refine fn_ro (T:=t__law_refused) F sc__law_refused rfl (by decide) (λds kk h=>?_) (b__law_refused B C1) (λds kk h=>?_)
 ·obtain ⟨l,ss,rfl,_⟩:=h
  rfl
 ·obtain ⟨l,ss,rfl,hl,k⟩:=h
  simp only [w__law_refused,wSeq,wSet,wC,wTryE,wCons,env0,List.map_cons,List.map_nil,List.length_cons,List.length_nil,Nat.zero_add,Nat.reduceAdd,List.replicate,List.cons_append,List.nil_append,List.set_cons_succ,List.set_cons_zero,wNil,wRet,wLift,r_var,isR,look,oget_s,D.pure,true_and]
  refine ⟨l,ss,rfl,hl,?_⟩
  cases hq:ldd l 0 ss with
  | none =>
   rw [hq] at k
   simp only [decide_true,true_and]
   exact k
  | some p =>
   rw [hq] at k
   simp only []
   exact k
end K69
namespace K69
open PySem PySem.Spec L2 PV
open PyProof.Rows (envOfC)
open V68 Pol Dct
theorem isN1 {k:D->Prop}:dIs true .non .non k=k (.bl false):=rfl
theorem isO1 {xs:List D} {k:D->Prop}:dIs true (.tup xs) .non k=k (.bl true):=rfl
theorem ok__law_some {P:Program} {w:World} {K:PySem.W.Frag} {mg:Str->Option Value} {base:Heap} {f:Addr} {fd:FuncData} (F:Fun K "_law_some" "_law_some" s__law_some f fd) (B:Bn K mg) (C1:Cal P w K mg base "_law_step" 1 ["_law_twists_here","_law_word","_law_at"] (spR K g_law_step)):FnOk P w K mg base CX0 2 f fd ["_law_twists_here"] (spR K g_law_some):=by
 refine fn_ro (T:=t__law_some) F sc__law_some rfl (by decide) (λds kk h=>?_) (b__law_some B C1) (λds kk h=>?_)
 ·obtain ⟨l,rfl,_⟩:=h
  rfl
 ·obtain ⟨l,rfl,hl,k⟩:=h
  have hI:(I l).length=l.length:=by simp
  simp only [w__law_some,wSeq,wSet,wLst,wNil,List.length_nil,sz0,env0,List.map_cons,List.map_nil,List.length_cons,Nat.zero_add,Nat.reduceAdd,List.replicate,List.cons_append,List.nil_append,List.set_cons_succ,List.set_cons_zero,r_for,r_rng1,wCons,wCall,r_var,look,oget_s,r_lenL,hI,r_rng1I,Int.reducePow,Int.reduceNeg,Int.toNat_natCast,pure_rngD,true_and]
  refine ⟨by omega,by omega,λi ρ=>∃(ss:List (Str × Int)) (o2 o3:Option D),(∀s∈ss,(stpI l s.1 s.2).isSome=true)/\ss.length<=5*i/\i<=l.length/\ρ=[some (.lst (I l)),some (.lst (ss.map stD)),o2,o3],⟨[],none,none,by simp,by simp,by omega,rfl⟩,?_,?_⟩
  ·rintro i d ρ hd ⟨ss,o2,o3,h1,h2,h3,rfl⟩
   obtain ⟨hi,rfl⟩:i<l.length/\d=.int (0+(i:Int)):=by
    rw [rngD,List.getElem?_map] at hd
    obtain ⟨c,hc,hd⟩:=Option.map_eq_some_iff.mp hd
    obtain ⟨h,e⟩:=List.getElem?_eq_some_iff.mp hc
    rw [List.length_range] at h
    rw [List.getElem_range] at e
    subst e
    exact ⟨by omega,hd.symm⟩
   simp only [gN,List.set_cons_succ,List.set_cons_zero,r_for,r_seq,wLst,wCons,wC,wNil,List.length_cons,List.length_nil,Nat.zero_add,Nat.reduceAdd,sz5,r_seqL,pureL,D.pure,Bool.and_self,true_and]
   refine ⟨λj ρ=>∃(ss':List (Str × Int)) (o3:Option D),(∀s∈ss',(stpI l s.1 s.2).isSome=true)/\ss'.length<=5*i+j/\j<=5/\ρ=[some (.lst (I l)),some (.lst (ss'.map stD)),some (.int (0+(i:Int))),o3],⟨ss,o3,h1,by omega,by omega,rfl⟩,?_,?_⟩
   ·rintro j d ρ hd ⟨ss',o3,g1,g2,g3,rfl⟩
    obtain ⟨hj,v,rfl⟩:j<5/\∃v,d=.str v:=by
     obtain ⟨h,e⟩:=List.getElem?_eq_some_iff.mp hd
     simp only [List.length_cons,List.length_nil] at h
     refine ⟨by omega,?_⟩
     match j,h,e with
     | 0,_,e=>exact ⟨_,e.symm⟩
     | 1,_,e=>exact ⟨_,e.symm⟩
     | 2,_,e=>exact ⟨_,e.symm⟩
     | 3,_,e=>exact ⟨_,e.symm⟩
     | 4,_,e=>exact ⟨_,e.symm⟩
    simp only [gN,wIf,List.set_cons_succ,List.set_cons_zero,wDrop,wMt,wCons,wLift,wTup,wNil,List.length_cons,List.length_nil,Nat.zero_add,Nat.reduceAdd,sz2,D.pure,pureL,Bool.and_true,true_and,r_var,wNext,r_bl,wBin,wCall,wC,look,r_tyL,BEq.rfl,oget_s,r_app]
    refine ⟨l,v,0+(i:Int),rfl,hl,?_⟩
    cases hq:stpI l v (0+(i:Int)) with
    | none =>
     simp only [rsD,isN1,r_blOf,Bool.false_eq_true,reduceIte]
     exact ⟨ss',_,g1,by omega,by omega,rfl⟩
    | some p =>
     obtain ⟨q,u⟩:=p
     simp only [rsD,List.length_map,isO1,r_blOf,reduceIte]
     refine ⟨Dct.small (by omega),ss'++[(v,0+(i:Int))],some (.str v),λs hs=>?_,by rw [List.length_append];simp;omega,by omega,?_⟩
     ·rcases List.mem_append.mp hs with hs | hs
      ·exact g1 s hs
      ·rw [List.mem_singleton.mp hs]
       show (stpI l v (0+(i:Int))).isSome=true
       rw [hq];rfl
     ·rw [List.map_append];rfl
   ·rintro ρ ⟨ss',o3,g1,g2,g3,rfl⟩
    exact ⟨ss',_,_,g1,by simp at g2;omega,by omega,rfl⟩
  ·rintro ρ ⟨ss,o2,o3,h1,h2,h3,rfl⟩
   rw [rngD,List.length_map,List.length_range] at h2
   simp only [wRetS,look,oget_s]
   exact k ss h1 (by omega)
theorem rng_at {lo:Int} {n i:Nat} {d:D} (hd:(rngD lo n)[i]? = some d):i<n/\d=.int (lo+(i:Int)):=by
 rw [rngD,List.getElem?_map] at hd
 obtain ⟨c,hc,hd⟩:=Option.map_eq_some_iff.mp hd
 obtain ⟨h,e⟩:=List.getElem?_eq_some_iff.mp hc
 rw [List.length_range] at h
 rw [List.getElem_range] at e
 subst e
 exact ⟨by omega,hd.symm⟩
theorem tot_most:∀{l:List Int} {n:Nat},(∀x∈l,-10<=x/\x<=10)->l.length<=n->tot l<=10*n
 | [],n,_,_=>by simp [tot]
 | x::l,n,h,hl=>by
  have h1:=h x List.mem_cons_self
  rw [List.length_cons] at hl
  have:=tot_most (l:=l) (n:=n-1) (λy hy=>h y (List.mem_cons_of_mem _ hy)) (by omega)
  rw [tot];omega
theorem tot_mem:∀{l:List Int} {x:Int},x∈l->x.natAbs<=tot l
 | y::l,x,h=>by
  rcases List.mem_cons.mp h with rfl | h
  ·rw [tot];omega
  ·have:=tot_mem h;rw [tot];omega
theorem cut_cells {ns:List Int}:∃cs:List Int,cutD (ns.map D.int) (some 9) (some 21)=cs.map D.int/\cs.length<=12:=by
 refine ⟨(ns.drop (HT.sIx (ns.map D.int).length 0 (some 9))).take (HT.sIx (ns.map D.int).length (ns.map D.int).length (some 21)-HT.sIx (ns.map D.int).length 0 (some 9)),?_,?_⟩
 ·unfold cutD
  rw [List.map_take,List.map_drop]
 ·rw [List.length_take]
  have h1:HT.sIx (ns.map D.int).length (ns.map D.int).length (some 21)=min 21 (ns.map D.int).length:=HT.sIx_nat _ _ 21
  have h2:HT.sIx (ns.map D.int).length 0 (some 9)=min 9 (ns.map D.int).length:=HT.sIx_nat _ _ 9
  rw [h1,h2,List.length_map,List.length_drop]
  omega
theorem word_ok {l:List Int} {s:Str × Int} (h:(stpI l s.1 s.2).isSome=true):PyData.strOk s.1=true:=by
 cases hp:plc l s.2 with
 | false=>rw [none_of hp] at h;cases h
 | true =>
  obtain ⟨pre,rs,n,r,_,_,e⟩:=parts hp
  rw [e] at h
  rcases words s.1 with z | z | z | z | z | ⟨n1,n2,n3,n4,n5⟩
  ·rw [z];decide +kernel
  ·rw [z];decide +kernel
  ·rw [z];decide +kernel
  ·rw [z];decide +kernel
  ·rw [z];decide +kernel
  ·unfold stp at h
   rw [if_neg n1,if_neg n2,if_neg n3,if_neg n4,if_neg n5] at h
   cases h
theorem eqst {ss:List (Str × Int)} (h:∀s∈ss,PyData.strOk s.1=true):eqOk 9 (.lst (ss.map stD))=true:=by
 show eqOks 8 (ss.map stD)=true
 refine eqOks_iff.mpr λx hx=>?_
 obtain ⟨s,hs,rfl⟩:=List.mem_map.mp hx
 show (PyData.strOk s.1 && (true && true))=true
 rw [h s hs];rfl
theorem eqtp {q:List Int} {v:Int}:eqOk 9 (.tup [.lst (I q),.int v])=true:=by
 show (eqOks 7 (I q) && (true && true))=true
 rw [show eqOks 7 (I q)=true from eqOks_map λ_ _=>rfl];rfl
theorem pick_at {so:List (Str × Int)} {c:Int} (h:(0:Int)<((so.map stD).length:Int)):∃s∈so,L2.atI (so.map stD) (c % ((so.map stD).length:Int))=some (stD s):=by
 obtain ⟨k,hk⟩:=Int.eq_ofNat_of_zero_le (Int.emod_nonneg c (Int.ne_of_gt h))
 have hlt:=Int.emod_lt_of_pos c h
 rw [hk] at hlt ⊢
 rw [List.length_map] at hlt
 have hk2:k<so.length:=by omega
 refine ⟨so[k],List.getElem_mem hk2,?_⟩
 rw [atI_ofNat,List.getElem?_map,List.getElem?_eq_getElem hk2]
 rfl
theorem ev_llift {f:Int->Int} {h:Int}:∀{a:T},ev f (llift a h)=(1-2*(h % 2))*ev (λp=>f (p+3*h)) a
 | []=>by show (0:Int)=_*0;rw [Int.mul_zero]
 | t::a=>by
  show t.2*(1-2*(h % 2))*f (t.1+3*h)+ev f (llift a h)=_
  rw [ev_llift,ev_cons,Int.mul_add,Int.mul_comm t.2,Int.mul_assoc]
theorem is_llift {a:T} {h:Int} (k:Is a):Is (llift a h):=by
 refine ⟨?_,λt ht=>?_⟩
 ·unfold llift
  rw [List.pairwise_map]
  exact k.asc.imp λ{x y} hxy=>by show x.1+3*h<y.1+3*h;omega
 ·obtain ⟨u,hu,rfl⟩:=List.mem_map.mp ht
  have h1:=k.nz u hu
  show u.2*(1-2*(h % 2))≠0
  have h2:1-2*(h % 2)=1\/1-2*(h % 2) = -1:=by omega
  rcases h2 with h2 | h2 <;> rw [h2] <;> omega
theorem nrm_two:∀{a:T},nrmDs (a.map pr2)=a.map pr2
 | []=>rfl
 | t::a=>by rw [List.map_cons,nrmDs,nrm_two];rfl
theorem nrmP {x:D} {a:T} (h:IsP x a):nrmD x=.tup (a.map pr2):=by
 rcases h with rfl | ⟨rfl,rfl⟩ | ⟨rfl,rfl⟩
 ·rw [nrmD,nrm_two]
 ·rfl
 ·rfl
theorem eqPP {a b:T}:eqOk 9 (.tup [.tup (a.map pr2),.tup (b.map pr2)])=true:=by
 show (eqOk 8 (.tup (a.map pr2)) && (eqOk 8 (.tup (b.map pr2)) && true))=true
 rw [two_eq (by omega),two_eq (by omega)];rfl
theorem last {l q:List Int} {v:Int} {d1 d2:D} {B1 B2:Nat} {kk:D->Prop} {a0 a1 a2 a3 a5 a6 a7 a8 a9:Option D} (h:M69.Led l q v) (S1:Sm d1 B1 (M69.F M69.s0 l)) (S2:Sm d2 B2 (M69.F M69.s0 q)) (hB:B2<=10000) (k:kk (.bl true)) :
  seqOf d2 λds=>compI ds wAll (wCall g_law_lifted (wCons (wVar 0) (wCons (wVar 1) wNil))) [a0,a1,a2,a3,some (.int v),a5,a6,a7,a8,a9] [4] λd ρ1=>dTuple [d] λd'=>dEqC d1 d' λd=>kk d:=by
 obtain ⟨x1,y1,p1,r1,rfl,i1,j1,is1,is2,w1,w2,e1⟩:=S1
 obtain ⟨x2,y2,p2,r2,rfl,i2,j2,is3,is4,w3,w4,e2⟩:=S2
 have lp:=M69.wi_len2 is3 w3
 have lr:=M69.wi_len2 is4 w4
 simp only [r_seqT,pureL,i2.pure,j2.pure,Bool.and_self,true_and]
 have one:∀{x:D} {p:T},IsP x p->p.length<=50000->∀Q':D->PV.Env->Prop,Q' (.tup ((llift p v).map pr2)) (blkE [a0,a1,a2,a3,some (.int v),a5,a6,a7,a8,a9] x [4])->(wCall g_law_lifted (wCons (wVar 0) (wCons (wVar 1) wNil))) (blkE [a0,a1,a2,a3,some (.int v),a5,a6,a7,a8,a9] x [4]) Q':=λ{x p} hx hp Q' hQ=>by
  simp only [blkE,List.map_cons,look,List.map_nil,wCall,wCons,wNil,r_var,oget_s] at hQ ⊢
  exact ⟨x,p,v,rfl,hx,hp,hQ⟩
 refine ⟨λi ys=>(i=0/\ys=[])\/(i=1/\ys=[.tup ((llift p2 v).map pr2)])\/(i=2/\ys=[.tup ((llift p2 v).map pr2),.tup ((llift r2 v).map pr2)]),.inl ⟨rfl,rfl⟩,?_,?_⟩
 ·rintro i d ys hd (⟨rfl,rfl⟩ | ⟨rfl,rfl⟩ | ⟨rfl,rfl⟩)
  ·cases hd
   refine ⟨by decide,?_⟩
   simp only [wAll,reduceIte]
   exact one i2 (by omega) _ (.inr (.inl (by simp)))
  ·cases hd
   refine ⟨Dct.small (by simp),?_⟩
   simp only [wAll,reduceIte]
   exact one j2 (by omega) _ (.inr (.inr (by simp)))
  ·cases hd
 ·rintro ys (⟨z,_⟩ | ⟨z,_⟩ | ⟨_,rfl⟩)
  ·cases z
  ·cases z
  ·refine ⟨Nat.le_of_lt (Dct.small (by simp)),?_⟩
   simp only [r_tupL,pureL,D.pure,pure_two,Bool.and_self,true_and]
   have n1:nrmD (.tup [x1,y1])=.tup [.tup (p1.map pr2),.tup (r1.map pr2)]:=by
    rw [nrmD,nrmDs,nrmDs,nrmDs,nrmP i1,nrmP j1]
   have n2:nrmD (.tup [.tup ((llift p2 v).map pr2),.tup ((llift r2 v).map pr2)])=.tup [.tup ((llift p2 v).map pr2),.tup ((llift r2 v).map pr2)]:=by
    rw [nrmD,nrmDs,nrmDs,nrmDs,nrmP (.inl rfl),nrmP (.inl rfl)]
   have hl:=h.1
   rw [e1,e2] at hl
   have g1:p1=llift p2 v:=uniq is1 (is_llift is3) λf=>by
    have:=congrFun (congrArg Prod.fst hl) f
    rw [ev_llift];exact this
   have g2:r1=llift r2 v:=uniq is2 (is_llift is4) λf=>by
    have:=congrFun (congrArg Prod.snd hl) f
    rw [ev_llift];exact this
   show eqOk 9 _=true/\eqOk 9 _=true/\(_->_)/\(_->_)
   rw [n1,n2,g1,g2]
   exact ⟨eqPP,eqPP,λ_=>k,λz=>absurd rfl z⟩
def g_law:GA:=λds k=>∃ns:List Int,ds=[.kls (ns.map .int)]/\ns.length<=63/\k (.bl true)
abbrev s_law:Stmt:=top 34
theorem sc_law:FnScope ["_law_script","_law_twists_here","_law_now","_law_steps","_law_heft","_law_cell","_law_some_here","_law_more","_law_handed","_law_found"] ["_law_script"] (defScope s_law):=⟨rfl,rfl,rfl,by decide +kernel,rfl,by decide +kernel,by decide +kernel⟩
def t_law:Tg:={ own:=λi=>i == 1 || i == 2 || i == 3 || i == 4 || i == 5 || i == 6 || i == 7 || i == 8 || i == 9,io:=[] }
def w_law:WS:=(wSeq (wSet 1 (wCall g_law_twists (wCons (wComp (wRng1 (wCons (wBin dAddT (wC (.int 2)) (wBin dMod (wCall g_law_cell_at (wCons (wVar 0) (wCons (wC (.int 8)) wNil))) (wC (.int 7)))) wNil)) wAll (wCall g_law_cell_at (wCons (wVar 1) (wCons (wVar 0) wNil))) [0]) (wCons (wC (.int 10)) wNil))))
 (wSeq (wSet 2 (wCall dList (wCons (wVar 1) wNil)))
 (wSeq (wSet 3 (wLst wNil))
 (wSeq (wSet 4 (wC (.int 0)))
 (wSeq (wFor (wSeqD (wSlT (wVar 0) (wSome (wC (.int 9))) (wSome (wC (.int 21))))) (gN 5) (wSeq (wSet 6 (wCall g_law_some (wCons (wVar 2) wNil)))
 (wIf (wBl (wBin dNe (wVar 6) (wLst wNil))) (wSeq (wDrop (wMt 3 "list" gAppend (wCons (wLift (wBin dIx (wVar 6) (wBin dMod (wVar 5) (wCall dLen (wCons (wVar 6) wNil))))) wNil)))
 (wSeq (wUnp 2 7 (wCall g_law_step (wCons (wVar 2) (wCons (wBin dIx (wBin dIx (wVar 3) (wUn dNeg (wC (.int 1)))) (wC (.int 0))) (wCons (wBin dIx (wBin dIx (wVar 3) (wUn dNeg (wC (.int 1)))) (wC (.int 1))) wNil)))))
 (wSet 4 (wBin dAddT (wVar 4) (wVar 7))))) wNext)))
 (wSeq (wSet 8 (wCall dList (wCons (wVar 1) wNil)))
 (wSeq (wSet 9 (wCall (calmG g_led) (wCons (wVar 8) (wCons (wCall dList (wCons (wVar 3) wNil)) wNil))))
 (wSeq (wIf (wOr (wNot (wTru (wCall dIsi (wCons (wVar 9) (wCons (wC (.ty .tuple)) wNil))))) (wOr (wBl (wBin dNe (wVar 9) (wTup (wCons (wVar 2) (wCons (wVar 4) wNil))))) (wBl (wBin dNe (wVar 8) (wVar 1))))) (wRet (wC (.bl false))) wNext)
 (wSeq (wTkE (wCall (calmG g_led) (wCons (wVar 8) (wCons (wLst wNil) wNil))))
 (wSeq (wIf (wOr (wBl (wBin dNe (wVar 8) (wVar 1))) (wOr (wBl (wBin dNe (wCall g_value (wCons (wVar 2) wNil)) (wCall g_value (wCons (wVar 1) wNil)))) (wNot (wTru (wCall g_law_refused (wCons (wVar 1) (wCons (wBin dAddT (wVar 3) (wLst (wCons (wTup (wCons (wC (.str (Str.ofString "one"))) (wCons (wBin dSub (wCall dLen (wCons (wVar 2) wNil)) (wC (.int 1))) wNil))) wNil))) wNil))))))) (wRet (wC (.bl false))) wNext)
 (wRet (wBin dEqC (wCall g_twisted_sums (wCons (wVar 1) wNil)) (wCall dTuple (wCons (wComp (wSeqD (wCall g_twisted_sums (wCons (wVar 2) wNil))) wAll (wCall g_law_lifted (wCons (wVar 0) (wCons (wVar 1) wNil))) [4]) wNil))))))))))))))
theorem b_law {P:Program} {w:World} {K:PySem.W.Frag} {mg:Str->Option Value} {base:Heap} {f:Addr} (B:Bn K mg) (C_led:CalX P w K mg base "led" 4 ["twists","steps"] (spX K g_led)) (C_value:Cal P w K mg base "value" 1 ["twists"] (spR K g_value)) (C_twisted_sums:Cal P w K mg base "twisted_sums" 5 ["twists"] (spR K g_twisted_sums)) (C__law_cell_at:Cal P w K mg base "_law_cell_at" 1 ["_law_script","_law_k"] (spR K g_law_cell_at)) (C__law_twists:Cal P w K mg base "_law_twists" 1 ["_law_cells","_law_most"] (spR K g_law_twists)) (C__law_step:Cal P w K mg base "_law_step" 1 ["_law_twists_here","_law_word","_law_at"] (spR K g_law_step)) (C__law_lifted:Cal P w K mg base "_law_lifted" 1 ["_law_one","_law_heft"] (spR K g_law_lifted)) (C__law_some:Cal P w K mg base "_law_some" 2 ["_law_twists_here"] (spR K g_law_some)) (C__law_refused:Cal P w K mg base "_law_refused" 5 ["_law_twists_here","_law_steps"] (spR K g_law_refused)):∀(cdv:Value) (A:Around) (outer:List PySem.Env) (s:Shared) (H:Hp) (E:XK),Room 5 (A.deeper (envOfC "law" (defScope s_law) s.heap.objs.size f cdv))->SVs (cxOf CX0 P w K mg base ["_law_script","_law_twists_here","_law_now","_law_steps","_law_heft","_law_cell","_law_some_here","_law_more","_law_handed","_law_found"] "law" (defScope s_law) f cdv A outer s H E).nox t_law (defBody s_law) w_law:=λcdv A outer s H E hr =>
  (svs_cons (sv_set (i:=1) (ev_callC C__law_twists (hr.mono (by decide)) (av_cons (ev_compB (comp_ok [0] (iv_range1 B.nb_range (av_cons (ev_op od_addT ev_int (ev_op od_mod (ev_callC C__law_cell_at (hr.mono (by decide)) (av_cons (ev_var 0) (av_cons ev_int av_nil))) ev_int)) av_nil)) (λ_ _ _ _ _=>cv_nil) (λ_ _ _ _ _=>(ev_callC C__law_cell_at (hr.mono (by decide)) (av_cons (ev_var 1) (av_cons (ev_var 0) av_nil))))) (compB_mk (defScope s_law) ["_law_script","_law_twists_here","_law_now","_law_steps","_law_heft","_law_cell","_law_some_here","_law_more","_law_handed","_law_found"] (by decide +kernel))) (av_cons ev_int av_nil))) sc_law.nd)
  (svs_cons (sv_set (i:=2) (ev_callTy cd_list B.nb_list bt_list (av_cons (ev_var 1) av_nil)) sc_law.nd)
  (svs_cons (sv_set (i:=3) (ev_lst av_nil) sc_law.nd)
  (svs_cons (sv_set (i:=4) ev_int sc_law.nd)
  (svs_cons (sv_for PassesOwn.never (iv_seq (ev_slT (ev_var 0) (ov_some ev_int) (ov_some ev_int))) (gv_name (i:=5) sc_law.nd) (svs_cons (sv_set (i:=6) (ev_callC C__law_some (hr.mono (by decide)) (av_cons (ev_var 2) av_nil)) sc_law.nd)
  (svs_one (sv_if (tv_cmp (od_ne hr.units) (ev_var 6) (ev_lst av_nil)) (svs_cons (sv_expr (ev_mt (i:=3) md_append PySem.F.plainAttrs_list PySem.F.slot_list_append PySem.F.type_list_append (av_cons (ev_lift (ev_ix (xd_ix (hu_of hr)) (ev_var 6) (ev_op od_mod (ev_var 5) (ev_callB cd_len B.nb_len bt_len (av_cons (ev_var 6) av_nil))))) av_nil)))
  (svs_cons (sv_unp (i:=2) (j:=7) (ev_callC C__law_step (hr.mono (by decide)) (av_cons (ev_var 2) (av_cons (ev_ix (xd_ix (hu_of hr)) (ev_ix (xd_ix (hu_of hr)) (ev_var 3) (ev_un ud_neg ev_int)) ev_int) (av_cons (ev_ix (xd_ix (hu_of hr)) (ev_ix (xd_ix (hu_of hr)) (ev_var 3) (ev_un ud_neg ev_int)) ev_int) av_nil)))) sc_law.nd)
  (svs_one (sv_set (i:=4) (ev_op od_addT (ev_var 4) (ev_var 7)) sc_law.nd)))) svs_nil))))
  (svs_cons (sv_set (i:=8) (ev_callTy cd_list B.nb_list bt_list (av_cons (ev_var 1) av_nil)) sc_law.nd)
  (svs_cons (sv_set (i:=9) (ev_callC C_led.calm (hr.mono (by decide)) (av_cons (ev_var 8) (av_cons (ev_callTy cd_list B.nb_list bt_list (av_cons (ev_var 3) av_nil)) av_nil))) sc_law.nd)
  (svs_cons (sv_if (tv_bool (bv_or (tv_not (tv_tru (ev_callB cd_isi B.nb_isinstance bt_isinstance (av_cons (ev_var 9) (av_cons (ev_ty .tuple B.nb_tuple bt_tuple) av_nil))))) (bv_or (tv_cmp (od_ne hr.units) (ev_var 9) (ev_tup (av_cons (ev_var 2) (av_cons (ev_var 4) av_nil)))) (bv_or1 (tv_cmp (od_ne hr.units) (ev_var 8) (ev_var 1)))))) (svs_one (sv_ret ev_bl)) svs_nil)
  (svs_cons (sv_tkE (ev_callC C_led.calm (hr.mono (by decide)) (av_cons (ev_var 8) (av_cons (ev_lst av_nil) av_nil))))
  (svs_cons (sv_if (tv_bool (bv_or (tv_cmp (od_ne hr.units) (ev_var 8) (ev_var 1)) (bv_or (tv_cmp (od_ne hr.units) (ev_callC C_value (hr.mono (by decide)) (av_cons (ev_var 2) av_nil)) (ev_callC C_value (hr.mono (by decide)) (av_cons (ev_var 1) av_nil))) (bv_or1 (tv_not (tv_tru (ev_callC C__law_refused (hr.mono (by decide)) (av_cons (ev_var 1) (av_cons (ev_op od_addT (ev_var 3) (ev_lst (av_cons (ev_tup (av_cons ev_str (av_cons (ev_op od_sub (ev_callB cd_len B.nb_len bt_len (av_cons (ev_var 2) av_nil)) ev_int) av_nil))) av_nil))) av_nil))))))))) (svs_one (sv_ret ev_bl)) svs_nil)
  (svs_one (sv_ret (ev_cmp (od_eqC hr.units) (ev_callC C_twisted_sums (hr.mono (by decide)) (av_cons (ev_var 1) av_nil)) (ev_callTy cd_tuple B.nb_tuple bt_tuple (av_cons (ev_compB (comp_ok [4] (iv_seq (ev_callC C_twisted_sums (hr.mono (by decide)) (av_cons (ev_var 2) av_nil))) (λ_ _ _ _ _=>cv_nil) (λ_ _ _ _ _=>(ev_callC C__law_lifted (hr.mono (by decide)) (av_cons (ev_var 0) (av_cons (ev_var 1) av_nil))))) (compB_mk (defScope s_law) ["_law_script","_law_twists_here","_law_now","_law_steps","_law_heft","_law_cell","_law_some_here","_law_more","_law_handed","_law_found"] (by decide +kernel))) av_nil)))))))))))))))
theorem ok_law {P:Program} {w:World} {K:PySem.W.Frag} {mg:Str->Option Value} {base:Heap} {f:Addr} {fd:FuncData} (F:Fun K "law" "law" s_law f fd) (B:Bn K mg) (C1:CalX P w K mg base "led" 4 ["twists","steps"] (spX K g_led)) (C2:Cal P w K mg base "value" 1 ["twists"] (spR K g_value)) (C3:Cal P w K mg base "twisted_sums" 5 ["twists"] (spR K g_twisted_sums)) (C4:Cal P w K mg base "_law_cell_at" 1 ["_law_script","_law_k"] (spR K g_law_cell_at)) (C5:Cal P w K mg base "_law_twists" 1 ["_law_cells","_law_most"] (spR K g_law_twists)) (C6:Cal P w K mg base "_law_step" 1 ["_law_twists_here","_law_word","_law_at"] (spR K g_law_step)) (C7:Cal P w K mg base "_law_lifted" 1 ["_law_one","_law_heft"] (spR K g_law_lifted)) (C8:Cal P w K mg base "_law_some" 2 ["_law_twists_here"] (spR K g_law_some)) (C9:Cal P w K mg base "_law_refused" 5 ["_law_twists_here","_law_steps"] (spR K g_law_refused)):FnOk P w K mg base CX0 6 f fd ["_law_script"] (spR K g_law):=by
 refine fn_ro (T:=t_law) F sc_law rfl (by decide) (λds kk h=>?_) (b_law B C1 C2 C3 C4 C5 C6 C7 C8 C9) (λds kk h=>?_)
 ·obtain ⟨ns,rfl,_⟩:=h
  rfl
 ·obtain ⟨ns,rfl,hn,k⟩:=h
  simp only [w_law,wSeq,wSet,wCall,wCons,env0,List.map_cons,List.map_nil,List.length_cons,List.length_nil,Nat.zero_add,Nat.reduceAdd,List.replicate,List.cons_append,List.nil_append,wC,wNil,wLst,sz0,r_for,r_seq,wSlT,r_some,r_intOf,r_var,true_and,r_comp,r_rng1,wBin,look,oget_s]
  refine ⟨ns,8,rfl,λc8=>?_⟩
  simp only [Int.reduceLT,r_modP,r2_add,r_rng1I,Int.reducePow,Int.reduceNeg]
  refine ⟨by omega,by omega,λi ys=>∃cs:List Int,cs.length=i/\i<=8/\ys=cs.map D.int,⟨[],rfl,by omega,rfl⟩,?_,?_⟩
  ·rintro i d ys hd ⟨cs,hcl,hi,rfl⟩
   obtain ⟨hi2,rfl⟩:=rng_at hd
   refine ⟨by rw [List.length_map];exact Dct.small (by omega),?_⟩
   simp only [wAll,wCall,wCons,blkE,List.map_cons,look,List.map_nil,wNil,r_var,oget_s,reduceIte]
   refine ⟨ns,i,by rw [Int.zero_add],λc=>⟨cs++[c],by rw [List.length_append,hcl];rfl,by omega,by rw [List.map_append];rfl⟩⟩
  ·rintro ys ⟨cs,hcl,hi,rfl⟩
   rw [rngD,List.length_map,List.length_range] at hcl
   refine ⟨by rw [List.length_map];exact Nat.le_of_lt (Dct.small (by omega)),cs,rfl,by omega,λl0 hl0 hb0=>?_⟩
   have n0:l0.length<=8/\2<=l0.length:=by omega
   have t0:tot l0<=80:=tot_most (n:=8) hb0 (by omega)
   obtain ⟨cells,ec,hcl2⟩:=cut_cells (ns:=ns)
   simp only [List.set_cons_succ,List.set_cons_zero,look,oget_s,r2_slK,pI,ec,r_seqL,true_and,r_listL]
   refine ⟨λi ρ=>∃(q:List Int) (ss:List (Str × Int)) (v:Int) (o5 o6 o7:Option D),i<=12/\ss.length<=i/\ldd l0 0 ss=some (q,v)/\M69.Led l0 q v/\q.length<=8+i/\tot q<=80+3*i/\q≠[]/\ρ=[some (.kls (ns.map .int)),some (.lst (I l0)),some (.lst (I q)),some (.lst (ss.map stD)),some (.int v),o5,o6,o7,none,none],
    ⟨l0,[],0,none,none,none,by omega,by simp,rfl,M69.Led.refl l0,by omega,by omega,λz=>by rw [z] at n0;simp at n0,rfl⟩,?_,?_⟩
   ·rintro i d ρ hd ⟨q,ss,v,o5,o6,o7,h1,h2,h3,h4,h5,h6,h7,rfl⟩
    rw [List.getElem?_map] at hd
    obtain ⟨c,hc,hd⟩:=Option.map_eq_some_iff.mp hd
    subst hd
    have hi12:i<12:=Nat.lt_of_lt_of_le (List.getElem?_eq_some_iff.mp hc).1 hcl2
    simp only [gN,wSeq,wSet,wCall,wCons,List.set_cons_succ,List.set_cons_zero,wNil,wIf,wDrop,wMt,wLift,wBin,wUnp,wUn,wC,r_var,r_neg,Int.reduceNeg,wNext,r_bl,wLst,List.length_nil,sz0,true_and,look,r_tyL,BEq.rfl,oget_s,r_app,r_ixL]
    refine ⟨q,rfl,by omega,λso hso hsl=>?_⟩
    simp only [Int.reduceNeg,r_lenL,r_neL,r_blOf,Bool.false_eq_true,reduceIte]
    refine ⟨eqst λs hs=>word_ok (hso s hs),rfl,λe=>⟨q,ss,v,_,_,_,by omega,by omega,h3,h4,by omega,by omega,h7,rfl⟩,λe=>?_⟩
    have hpos:(0:Int)<((so.map stD).length:Int):=by
     rw [List.length_map]
     have:so≠[]:=λz=>e (by rw [z];rfl)
     have:=List.length_pos_iff.mpr this
     omega
    obtain ⟨s,hs,hat⟩:=pick_at (c:=c) hpos
    obtain ⟨p,hp⟩:=Option.isSome_iff_exists.mp (hso s hs)
    obtain ⟨q',u⟩:=p
    obtain ⟨g1,g2,g3,g4⟩:=stpI_ok hp
    simp only [Int.reduceNeg,hpos,r_modP,r_ixL,hat,stD,oget_s,D.pure,pureL,Bool.and_self,true_and]
    refine ⟨by rw [List.length_map];exact Dct.small (by omega),?_⟩
    simp only [Int.reduceNeg,atL,oget_s,r_ixT,atI_1,List.getElem?_cons_succ,List.getElem?_cons_zero,atI_0]
    refine ⟨q,s.1,s.2,rfl,by omega,?_⟩
    rw [hp]
    simp only [rsD,r16_unp,r2_add]
    refine ⟨q',ss++[s],v+u,some (.int c),some (.lst (so.map stD)),some (.int u),by omega,by rw [List.length_append];simp;omega,?_,h4.trans g1,by omega,by omega,g4,?_⟩
    ·rw [ldd_snoc h3,hp]
    ·rw [List.map_append];rfl
   ·rintro ρ ⟨q,ss,v,o5,o6,o7,h1,h2,h3,h4,h5,h6,h7,rfl⟩
    rw [List.length_map] at h1 h2 h5 h6
    simp only [wSeq,wSet,wCall,wCons,wNil,calmG,wIf,wOr,wNot,wRet,wC,wNext,wTkE,wLst,List.length_nil,sz0,wBin,r_comp,r_seq,r_var,reduceIte,r_tru,wTup,List.length_cons,Nat.zero_add,Nat.reduceAdd,sz2,sz1,true_and,r_bl,r_isi,isiD,r_truB,look,List.set_cons_succ,List.set_cons_zero,oget_s,r_lenL,r_sub,r2_addL,pure_st,pureL,D.pure,Bool.and_self,r_listL,pI,r_neL,r_blOf,Bool.false_eq_true]
    refine ⟨l0,ss,rfl,by omega,?_⟩
    rw [h3]
    simp only [BEq.rfl,eq9,true_and,r_neT,eqtp,r_blOf,Bool.false_eq_true,reduceIte,oget_s,Bool.not_true]
    refine ⟨λ_=>⟨λ_=>?_,λz=>absurd rfl z⟩,λz=>absurd rfl z⟩
    refine ⟨l0,[],rfl,by simp;omega,?_⟩
    simp only [ldd,r16_mv]
    refine ⟨by simp only [List.length_map];exact Dct.small (by omega),λ_=>?_,λz=>absurd rfl z⟩
    refine ⟨q,rfl,λx hx=>by have:=tot_mem hx;omega,l0,rfl,λx hx=>by have:=tot_mem hx;omega,?_⟩
    rw [h4.value]
    simp only [fr,r_neT,r_blOf,Bool.false_eq_true,reduceIte]
    refine ⟨rfl,rfl,λ_=>?_,λz=>absurd rfl z⟩
    simp only [List.length_map]
    refine ⟨Nat.le_of_lt (Dct.small (by omega)),l0,ss++[(w1,(q.length:Int)-1)],by rw [List.map_append];rfl,by rw [List.length_append];simp;omega,?_⟩
    have hno:stpI q w1 ((q.length:Int)-1)=none:=none_of (by unfold plc;exact decide_eq_false λz=>by omega)
    rw [ldd_snoc h3]
    simp only [hno,Option.isNone_none,r_truB,Bool.not_true,Bool.false_eq_true,reduceIte]
    refine ⟨l0,rfl,λz=>by rw [z] at n0;simp at n0,by omega,by omega,λd1 S1=>?_⟩
    refine ⟨q,rfl,h7,by omega,by omega,λd2 S2=>?_⟩
    exact last h4 S1 S2 (by omega) k
end K69
namespace K69
open PySem PySem.Spec L2 PV
open PyProof.Rows (envOfC)
theorem all_mk {l:PySem.W.OpenLaw} {w:World} {K:PySem.W.Frag} {h:Heap} {mg:Str->Option Value} {fa:Addr} (X:K.In h) (G:h.Ns mainGlobals mg) (hfa:mg "law" = some (.ref fa))
  {f1:Addr} {od1 an1:Option Addr} {sl1:Array (Option Value)} {oc1 kV1 dc1 pm1 cd1 ct1:Value}
  (a1:PySem.W.nsIn K mainGlobals "is_whole" = some (some (.ref f1))) (l1:K.lookup f1=some ⟨oc1,od1,.func (PySem.W.fnOf "is_whole" "is_whole" (defArgs s_is_whole) (defBody s_is_whole) (defScope s_is_whole) .none kV1 dc1 pm1 an1 cd1 ct1),sl1⟩) (c1:PySem.W.codeIn K cd1 "is_whole" = true) (k1:PySem.W.keepIn K (.ref f1)=true)
  {f2:Addr} {od2 an2:Option Addr} {sl2:Array (Option Value)} {oc2 kV2 dc2 pm2 cd2 ct2:Value}
  (a2:PySem.W.nsIn K mainGlobals "is_placed" = some (some (.ref f2))) (l2:K.lookup f2=some ⟨oc2,od2,.func (PySem.W.fnOf "is_placed" "is_placed" (defArgs s_is_placed) (defBody s_is_placed) (defScope s_is_placed) .none kV2 dc2 pm2 an2 cd2 ct2),sl2⟩) (c2:PySem.W.codeIn K cd2 "is_placed" = true) (k2:PySem.W.keepIn K (.ref f2)=true)
  {f3:Addr} {od3 an3:Option Addr} {sl3:Array (Option Value)} {oc3 kV3 dc3 pm3 cd3 ct3:Value}
  (a3:PySem.W.nsIn K mainGlobals "without_number" = some (some (.ref f3))) (l3:K.lookup f3=some ⟨oc3,od3,.func (PySem.W.fnOf "without_number" "without_number" (defArgs s_without_number) (defBody s_without_number) (defScope s_without_number) .none kV3 dc3 pm3 an3 cd3 ct3),sl3⟩) (c3:PySem.W.codeIn K cd3 "without_number" = true) (k3:PySem.W.keepIn K (.ref f3)=true)
  {f4:Addr} {od4 an4:Option Addr} {sl4:Array (Option Value)} {oc4 kV4 dc4 pm4 cd4 ct4:Value}
  (a4:PySem.W.nsIn K mainGlobals "can_be_nought" = some (some (.ref f4))) (l4:K.lookup f4=some ⟨oc4,od4,.func (PySem.W.fnOf "can_be_nought" "can_be_nought" (defArgs s_can_be_nought) (defBody s_can_be_nought) (defScope s_can_be_nought) .none kV4 dc4 pm4 an4 cd4 ct4),sl4⟩) (c4:PySem.W.codeIn K cd4 "can_be_nought" = true) (k4:PySem.W.keepIn K (.ref f4)=true)
  {f5:Addr} {od5 an5:Option Addr} {sl5:Array (Option Value)} {oc5 kV5 dc5 pm5 cd5 ct5:Value}
  (a5:PySem.W.nsIn K mainGlobals "without_nought" = some (some (.ref f5))) (l5:K.lookup f5=some ⟨oc5,od5,.func (PySem.W.fnOf "without_nought" "without_nought" (defArgs s_without_nought) (defBody s_without_nought) (defScope s_without_nought) .none kV5 dc5 pm5 an5 cd5 ct5),sl5⟩) (c5:PySem.W.codeIn K cd5 "without_nought" = true) (k5:PySem.W.keepIn K (.ref f5)=true)
  {f6:Addr} {od6 an6:Option Addr} {sl6:Array (Option Value)} {oc6 kV6 dc6 pm6 cd6 ct6:Value}
  (a6:PySem.W.nsIn K mainGlobals "split_number" = some (some (.ref f6))) (l6:K.lookup f6=some ⟨oc6,od6,.func (PySem.W.fnOf "split_number" "split_number" (defArgs s_split_number) (defBody s_split_number) (defScope s_split_number) .none kV6 dc6 pm6 an6 cd6 ct6),sl6⟩) (c6:PySem.W.codeIn K cd6 "split_number" = true) (k6:PySem.W.keepIn K (.ref f6)=true)
  {f7:Addr} {od7 an7:Option Addr} {sl7:Array (Option Value)} {oc7 kV7 dc7 pm7 cd7 ct7:Value}
  (a7:PySem.W.nsIn K mainGlobals "step" = some (some (.ref f7))) (l7:K.lookup f7=some ⟨oc7,od7,.func (PySem.W.fnOf "step" "step" (defArgs s_step) (defBody s_step) (defScope s_step) .none kV7 dc7 pm7 an7 cd7 ct7),sl7⟩) (c7:PySem.W.codeIn K cd7 "step" = true) (k7:PySem.W.keepIn K (.ref f7)=true)
  {f8:Addr} {od8 an8:Option Addr} {sl8:Array (Option Value)} {oc8 kV8 dc8 pm8 cd8 ct8:Value}
  (a8:PySem.W.nsIn K mainGlobals "led" = some (some (.ref f8))) (l8:K.lookup f8=some ⟨oc8,od8,.func (PySem.W.fnOf "led" "led" (defArgs s_led) (defBody s_led) (defScope s_led) .none kV8 dc8 pm8 an8 cd8 ct8),sl8⟩) (c8:PySem.W.codeIn K cd8 "led" = true) (k8:PySem.W.keepIn K (.ref f8)=true)
  {f9:Addr} {od9 an9:Option Addr} {sl9:Array (Option Value)} {oc9 kV9 dc9 pm9 cd9 ct9:Value}
  (a9:PySem.W.nsIn K mainGlobals "gathered" = some (some (.ref f9))) (l9:K.lookup f9=some ⟨oc9,od9,.func (PySem.W.fnOf "gathered" "gathered" (defArgs s_gathered) (defBody s_gathered) (defScope s_gathered) .none kV9 dc9 pm9 an9 cd9 ct9),sl9⟩) (c9:PySem.W.codeIn K cd9 "gathered" = true) (k9:PySem.W.keepIn K (.ref f9)=true)
  {f10:Addr} {od10 an10:Option Addr} {sl10:Array (Option Value)} {oc10 kV10 dc10 pm10 cd10 ct10:Value}
  (a10:PySem.W.nsIn K mainGlobals "minus" = some (some (.ref f10))) (l10:K.lookup f10=some ⟨oc10,od10,.func (PySem.W.fnOf "minus" "minus" (defArgs s_minus) (defBody s_minus) (defScope s_minus) .none kV10 dc10 pm10 an10 cd10 ct10),sl10⟩) (c10:PySem.W.codeIn K cd10 "minus" = true) (k10:PySem.W.keepIn K (.ref f10)=true)
  {f11:Addr} {od11 an11:Option Addr} {sl11:Array (Option Value)} {oc11 kV11 dc11 pm11 cd11 ct11:Value}
  (a11:PySem.W.nsIn K mainGlobals "lifted" = some (some (.ref f11))) (l11:K.lookup f11=some ⟨oc11,od11,.func (PySem.W.fnOf "lifted" "lifted" (defArgs s_lifted) (defBody s_lifted) (defScope s_lifted) .none kV11 dc11 pm11 an11 cd11 ct11),sl11⟩) (c11:PySem.W.codeIn K cd11 "lifted" = true) (k11:PySem.W.keepIn K (.ref f11)=true)
  {f12:Addr} {od12 an12:Option Addr} {sl12:Array (Option Value)} {oc12 kV12 dc12 pm12 cd12 ct12:Value}
  (a12:PySem.W.nsIn K mainGlobals "value" = some (some (.ref f12))) (l12:K.lookup f12=some ⟨oc12,od12,.func (PySem.W.fnOf "value" "value" (defArgs s_value) (defBody s_value) (defScope s_value) .none kV12 dc12 pm12 an12 cd12 ct12),sl12⟩) (c12:PySem.W.codeIn K cd12 "value" = true) (k12:PySem.W.keepIn K (.ref f12)=true)
  {f13:Addr} {od13 an13:Option Addr} {sl13:Array (Option Value)} {oc13 kV13 dc13 pm13 cd13 ct13:Value}
  (a13:PySem.W.nsIn K mainGlobals "exchanged" = some (some (.ref f13))) (l13:K.lookup f13=some ⟨oc13,od13,.func (PySem.W.fnOf "exchanged" "exchanged" (defArgs s_exchanged) (defBody s_exchanged) (defScope s_exchanged) .none kV13 dc13 pm13 an13 cd13 ct13),sl13⟩) (c13:PySem.W.codeIn K cd13 "exchanged" = true) (k13:PySem.W.keepIn K (.ref f13)=true)
  {f14:Addr} {od14 an14:Option Addr} {sl14:Array (Option Value)} {oc14 kV14 dc14 pm14 cd14 ct14:Value}
  (a14:PySem.W.nsIn K mainGlobals "half_twisted_sums" = some (some (.ref f14))) (l14:K.lookup f14=some ⟨oc14,od14,.func (PySem.W.fnOf "half_twisted_sums" "half_twisted_sums" (defArgs s_half_twisted_sums) (defBody s_half_twisted_sums) (defScope s_half_twisted_sums) .none kV14 dc14 pm14 an14 cd14 ct14),sl14⟩) (c14:PySem.W.codeIn K cd14 "half_twisted_sums" = true) (k14:PySem.W.keepIn K (.ref f14)=true)
  {f15:Addr} {od15 an15:Option Addr} {sl15:Array (Option Value)} {oc15 kV15 dc15 pm15 cd15 ct15:Value}
  (a15:PySem.W.nsIn K mainGlobals "followed" = some (some (.ref f15))) (l15:K.lookup f15=some ⟨oc15,od15,.func (PySem.W.fnOf "followed" "followed" (defArgs s_followed) (defBody s_followed) (defScope s_followed) .none kV15 dc15 pm15 an15 cd15 ct15),sl15⟩) (c15:PySem.W.codeIn K cd15 "followed" = true) (k15:PySem.W.keepIn K (.ref f15)=true)
  {f16:Addr} {od16 an16:Option Addr} {sl16:Array (Option Value)} {oc16 kV16 dc16 pm16 cd16 ct16:Value}
  (a16:PySem.W.nsIn K mainGlobals "twisted_sums" = some (some (.ref f16))) (l16:K.lookup f16=some ⟨oc16,od16,.func (PySem.W.fnOf "twisted_sums" "twisted_sums" (defArgs s_twisted_sums) (defBody s_twisted_sums) (defScope s_twisted_sums) .none kV16 dc16 pm16 an16 cd16 ct16),sl16⟩) (c16:PySem.W.codeIn K cd16 "twisted_sums" = true) (k16:PySem.W.keepIn K (.ref f16)=true)
  {f17:Addr} {od17 an17:Option Addr} {sl17:Array (Option Value)} {oc17 kV17 dc17 pm17 cd17 ct17:Value}
  (a17:PySem.W.nsIn K mainGlobals "_law_cell_at" = some (some (.ref f17))) (l17:K.lookup f17=some ⟨oc17,od17,.func (PySem.W.fnOf "_law_cell_at" "_law_cell_at" (defArgs s__law_cell_at) (defBody s__law_cell_at) (defScope s__law_cell_at) .none kV17 dc17 pm17 an17 cd17 ct17),sl17⟩) (c17:PySem.W.codeIn K cd17 "_law_cell_at" = true) (k17:PySem.W.keepIn K (.ref f17)=true)
  {f18:Addr} {od18 an18:Option Addr} {sl18:Array (Option Value)} {oc18 kV18 dc18 pm18 cd18 ct18:Value}
  (a18:PySem.W.nsIn K mainGlobals "_law_twists" = some (some (.ref f18))) (l18:K.lookup f18=some ⟨oc18,od18,.func (PySem.W.fnOf "_law_twists" "_law_twists" (defArgs s__law_twists) (defBody s__law_twists) (defScope s__law_twists) .none kV18 dc18 pm18 an18 cd18 ct18),sl18⟩) (c18:PySem.W.codeIn K cd18 "_law_twists" = true) (k18:PySem.W.keepIn K (.ref f18)=true)
  {f19:Addr} {od19 an19:Option Addr} {sl19:Array (Option Value)} {oc19 kV19 dc19 pm19 cd19 ct19:Value}
  (a19:PySem.W.nsIn K mainGlobals "_law_step" = some (some (.ref f19))) (l19:K.lookup f19=some ⟨oc19,od19,.func (PySem.W.fnOf "_law_step" "_law_step" (defArgs s__law_step) (defBody s__law_step) (defScope s__law_step) .none kV19 dc19 pm19 an19 cd19 ct19),sl19⟩) (c19:PySem.W.codeIn K cd19 "_law_step" = true) (k19:PySem.W.keepIn K (.ref f19)=true)
  {f20:Addr} {od20 an20:Option Addr} {sl20:Array (Option Value)} {oc20 kV20 dc20 pm20 cd20 ct20:Value}
  (a20:PySem.W.nsIn K mainGlobals "_law_lifted" = some (some (.ref f20))) (l20:K.lookup f20=some ⟨oc20,od20,.func (PySem.W.fnOf "_law_lifted" "_law_lifted" (defArgs s__law_lifted) (defBody s__law_lifted) (defScope s__law_lifted) .none kV20 dc20 pm20 an20 cd20 ct20),sl20⟩) (c20:PySem.W.codeIn K cd20 "_law_lifted" = true) (k20:PySem.W.keepIn K (.ref f20)=true)
  {f21:Addr} {od21 an21:Option Addr} {sl21:Array (Option Value)} {oc21 kV21 dc21 pm21 cd21 ct21:Value}
  (a21:PySem.W.nsIn K mainGlobals "_law_some" = some (some (.ref f21))) (l21:K.lookup f21=some ⟨oc21,od21,.func (PySem.W.fnOf "_law_some" "_law_some" (defArgs s__law_some) (defBody s__law_some) (defScope s__law_some) .none kV21 dc21 pm21 an21 cd21 ct21),sl21⟩) (c21:PySem.W.codeIn K cd21 "_law_some" = true) (k21:PySem.W.keepIn K (.ref f21)=true)
  {f22:Addr} {od22 an22:Option Addr} {sl22:Array (Option Value)} {oc22 kV22 dc22 pm22 cd22 ct22:Value}
  (a22:PySem.W.nsIn K mainGlobals "_law_refused" = some (some (.ref f22))) (l22:K.lookup f22=some ⟨oc22,od22,.func (PySem.W.fnOf "_law_refused" "_law_refused" (defArgs s__law_refused) (defBody s__law_refused) (defScope s__law_refused) .none kV22 dc22 pm22 an22 cd22 ct22),sl22⟩) (c22:PySem.W.codeIn K cd22 "_law_refused" = true) (k22:PySem.W.keepIn K (.ref f22)=true)
  {f23:Addr} {od23 an23:Option Addr} {sl23:Array (Option Value)} {oc23 kV23 dc23 pm23 cd23 ct23:Value}
  (a23:PySem.W.nsIn K mainGlobals "law" = some (some (.ref f23))) (l23:K.lookup f23=some ⟨oc23,od23,.func (PySem.W.fnOf "law" "law" (defArgs s_law) (defBody s_law) (defScope s_law) .none kV23 dc23 pm23 an23 cd23 ct23),sl23⟩) (c23:PySem.W.codeIn K cd23 "law" = true) (k23:PySem.W.keepIn K (.ref f23)=true)
  (z_abs:PySem.W.nsIn K mainGlobals "abs" = some none)
  (z_bool:PySem.W.nsIn K mainGlobals "bool" = some none)
  (z_enumerate:PySem.W.nsIn K mainGlobals "enumerate" = some none)
  (z_int:PySem.W.nsIn K mainGlobals "int" = some none)
  (z_isinstance:PySem.W.nsIn K mainGlobals "isinstance" = some none)
  (z_len:PySem.W.nsIn K mainGlobals "len" = some none)
  (z_list:PySem.W.nsIn K mainGlobals "list" = some none)
  (z_range:PySem.W.nsIn K mainGlobals "range" = some none)
  (z_sorted:PySem.W.nsIn K mainGlobals "sorted" = some none)
  (z_tuple:PySem.W.nsIn K mainGlobals "tuple" = some none)
  {ad_NOUGHT:Addr} (z_NOUGHT:PySem.W.nsIn K mainGlobals "NOUGHT" = some (some (.ref ad_NOUGHT))) (xh_NOUGHT:kcIn K (.tup []) (.ref ad_NOUGHT)=true)
  {ad_ONE:Addr} (z_ONE:PySem.W.nsIn K mainGlobals "ONE" = some (some (.ref ad_ONE))) (xh_ONE:kcIn K (.tup [.tup [.int 0,.int 1]]) (.ref ad_ONE)=true)
  {C_TangleError:Addr}
  {C_NoStep:Addr} {cd_NoStep:ClassData} (zx_NoStep:atN K "NoStep" C_NoStep) (zc_NoStep:PySem.W.clsIn K C_NoStep=some cd_NoStep) (zt_NoStep:PySem.W.typeIn K (.ref C_NoStep)=some (.type "type"))
  (zs_NoStep:PySem.W.subIn K (.ref C_NoStep) (.ref C_NoStep)=some true)
  (zb_NoStep:PySem.W.subIn K (.ref C_NoStep) (.type "BaseException")=some true)
  {nm_ q_:Str} {bs_ sub_:List Value} {N_:Addr} {hd_ ab_:Bool} {sn_:List Str} {col_:Option Bool} {dd_ dd2_ od1_ od2_:Option Addr} {k0_ k1_ k2_ k3_ k5_:Option Value} {c0_ oc1_ oc2_:Value} {cdT_:ClassData} {slT_ sl1_ sl2_:Array (Option Value)} {es1_ es2_:Array DictEntry} {ep1_ ep2_:Nat}
  (xl1:K.lookup C_NoStep=some (excClassObj nm_ q_ C_NoStep N_ bs_ (.ref C_TangleError::[.type "ValueError",.type "Exception",.type "BaseException",.type "object"]) hd_ sn_ sub_ ab_ col_ dd_ k0_ k1_ k2_ k3_ k5_ "ValueError.__new__")) (xl2:K.lookup C_TangleError=some ⟨c0_,dd2_,.cls cdT_,slT_⟩) (xn1:K.lookup N_=some ⟨oc1_,od1_,.dict es1_ ep1_,sl1_⟩) (xn2:K.lookup cdT_.ns=some ⟨oc2_,od2_,.dict es2_ ep2_,sl2_⟩) (xs1:strKeysB es1_=true) (xs2:strKeysB es2_=true) (xi1:nsFind es1_ "__init__" = none) (xi2:nsFind es2_ "__init__" = none)
  (xq1:PySem.W.findIn K (.ref C_NoStep) "__getattribute__" = some (some (.builtin "BaseException.__getattribute__"))) (xq2:PySem.W.findIn K (.ref C_NoStep) "__getattr__" = some none) (xq3:PySem.W.findIn K (.ref C_NoStep) "__class__" = some (some (.builtin "object.__class__"))) (xq4:PySem.W.subIn K (.ref C_NoStep) (.type "object")=some true) (xq5:PySem.W.subIn K (.ref C_NoStep) (.type "BaseException")=some true)
  : ∃fd:FuncData,(∀(s:Shared) (v:Value),BindsTo s fd ⟨[v],[]⟩ [("_law_script",v)])/\∀base:Heap,K.In base->base.Ns mainGlobals mg->FnOk l.prog w K mg base CX0 6 fa fd ["_law_script"] (spR K g_law):=by
 have e:=hfa.symm.trans (PySem.W.mg_of X G a23)
 cases e
 have xQ:ExcQ K C_NoStep:=⟨xq1,xq2,xq3,xq4,xq5,by rw [zc_NoStep];rfl⟩
 have xR:∀C,atN K "NoStep" C->C=C_NoStep:=λC h=>by have:=h.symm.trans zx_NoStep;cases this;rfl
 have B:Bn K mg:=⟨PySem.W.mg_none_of X G z_abs,PySem.W.mg_none_of X G z_bool,PySem.W.mg_none_of X G z_enumerate,PySem.W.mg_none_of X G z_int,PySem.W.mg_none_of X G z_isinstance,PySem.W.mg_none_of X G z_len,PySem.W.mg_none_of X G z_list,PySem.W.mg_none_of X G z_range,PySem.W.mg_none_of X G z_sorted,PySem.W.mg_none_of X G z_tuple,⟨ad_NOUGHT,PySem.W.mg_of X G z_NOUGHT,xh_NOUGHT⟩,⟨ad_ONE,PySem.W.mg_of X G z_ONE,xh_ONE⟩,⟨f13,PySem.W.mg_of X G a13,a13⟩,⟨f14,PySem.W.mg_of X G a14,a14⟩,⟨C_NoStep,excK_mk (PySem.W.mg_of X G zx_NoStep) xl1 xl2 xn1 xn2 xs1 xs2 xi1 xi2,zx_NoStep⟩,⟨C_NoStep,PySem.W.mg_of X G zx_NoStep,λx C h1 h2=>by obtain rfl:=of_decide_eq_true h1;obtain rfl:=xR C h2;exact exm_of zb_NoStep zc_NoStep zt_NoStep zs_NoStep⟩⟩
 have F1:=fun_mk (st:=s_is_whole) l1 c1 k1
 have F2:=fun_mk (st:=s_is_placed) l2 c2 k2
 have F3:=fun_mk (st:=s_without_number) l3 c3 k3
 have F4:=fun_mk (st:=s_can_be_nought) l4 c4 k4
 have F5:=fun_mk (st:=s_without_nought) l5 c5 k5
 have F6:=fun_mk (st:=s_split_number) l6 c6 k6
 have F7:=fun_mk (st:=s_step) l7 c7 k7
 have F8:=fun_mk (st:=s_led) l8 c8 k8
 have F9:=fun_mk (st:=s_gathered) l9 c9 k9
 have F10:=fun_mk (st:=s_minus) l10 c10 k10
 have F11:=fun_mk (st:=s_lifted) l11 c11 k11
 have F12:=fun_mk (st:=s_value) l12 c12 k12
 have F13:=fun_mk (st:=s_exchanged) l13 c13 k13
 have F14:=fun_mk (st:=s_half_twisted_sums) l14 c14 k14
 have F15:=fun_mk (st:=s_followed) l15 c15 k15
 have F16:=fun_mk (st:=s_twisted_sums) l16 c16 k16
 have F17:=fun_mk (st:=s__law_cell_at) l17 c17 k17
 have F18:=fun_mk (st:=s__law_twists) l18 c18 k18
 have F19:=fun_mk (st:=s__law_step) l19 c19 k19
 have F20:=fun_mk (st:=s__law_lifted) l20 c20 k20
 have F21:=fun_mk (st:=s__law_some) l21 c21 k21
 have F22:=fun_mk (st:=s__law_refused) l22 c22 k22
 have F23:=fun_mk (st:=s_law) l23 c23 k23
 refine ⟨PySem.W.fnOf "law" "law" (defArgs s_law) (defBody s_law) (defScope s_law) .none kV23 dc23 pm23 an23 cd23 ct23,λs v=>.of_eq rfl,λbase _ _=>?_⟩
 have C_is_whole:Cal l.prog w K mg base "is_whole" 1 ["thing"] (spR K g_is_whole):=⟨f1,_,ok_is_whole F1 B,PySem.W.mg_of X G a1,k1,F1.binds λ_ _ _ _ _ _ us hl=>by obtain ⟨_,rfl⟩:=len1 hl;rfl⟩
 have C_is_placed:Cal l.prog w K mg base "is_placed" 2 ["twists","thing"] (spR K g_is_placed):=⟨f2,_,ok_is_placed F2 B C_is_whole,PySem.W.mg_of X G a2,k2,F2.binds λ_ _ _ _ _ _ us hl=>by obtain ⟨_,_,rfl⟩:=len2 hl;rfl⟩
 have C_without_number:Cal l.prog w K mg base "without_number" 1 ["twists","at","many"] (spR K g_without_number):=⟨f3,_,ok_without_number F3 B,PySem.W.mg_of X G a3,k3,F3.binds λ_ _ _ _ _ _ us hl=>by obtain ⟨_,_,_,rfl⟩:=len3 hl;rfl⟩
 have C_can_be_nought:Cal l.prog w K mg base "can_be_nought" 1 ["twists","at"] (spR K g_can_be_nought):=⟨f4,_,ok_can_be_nought F4 B,PySem.W.mg_of X G a4,k4,F4.binds λ_ _ _ _ _ _ us hl=>by obtain ⟨_,_,rfl⟩:=len2 hl;rfl⟩
 have C_without_nought:Cal l.prog w K mg base "without_nought" 1 ["twists","at"] (spR K g_without_nought):=⟨f5,_,ok_without_nought F5 B,PySem.W.mg_of X G a5,k5,F5.binds λ_ _ _ _ _ _ us hl=>by obtain ⟨_,_,rfl⟩:=len2 hl;rfl⟩
 have C_split_number:Cal l.prog w K mg base "split_number" 1 ["twists","at"] (spR K g_split_number):=⟨f6,_,ok_split_number F6 B,PySem.W.mg_of X G a6,k6,F6.binds λ_ _ _ _ _ _ us hl=>by obtain ⟨_,_,rfl⟩:=len2 hl;rfl⟩
 have C_step:CalX l.prog w K mg base "step" 3 ["twists","step"] (spX K g_step):=⟨f7,_,ok_step F7 B C_is_placed C_without_number C_can_be_nought C_without_nought C_split_number,PySem.W.mg_of X G a7,k7,F7.binds λ_ _ _ _ _ _ us hl=>by obtain ⟨_,_,rfl⟩:=len2 hl;rfl⟩
 have C_led:CalX l.prog w K mg base "led" 4 ["twists","steps"] (spX K g_led):=⟨f8,_,ok_led F8 B C_step,PySem.W.mg_of X G a8,k8,F8.binds λ_ _ _ _ _ _ us hl=>by obtain ⟨_,_,rfl⟩:=len2 hl;rfl⟩
 have C_gathered:Cal l.prog w K mg base "gathered" 1 ["terms"] (spR K g_gathered):=⟨f9,_,ok_gathered F9 B,PySem.W.mg_of X G a9,k9,F9.binds λ_ _ _ _ _ _ us hl=>by obtain ⟨_,rfl⟩:=len1 hl;rfl⟩
 have C_minus:Cal l.prog w K mg base "minus" 2 ["one","other"] (spR K g_minus):=⟨f10,_,ok_minus F10 B C_gathered,PySem.W.mg_of X G a10,k10,F10.binds λ_ _ _ _ _ _ us hl=>by obtain ⟨_,_,rfl⟩:=len2 hl;rfl⟩
 have C_lifted:Cal l.prog w K mg base "lifted" 1 ["one","many"] (spR K g_lifted):=⟨f11,_,ok_lifted F11 B,PySem.W.mg_of X G a11,k11,F11.binds λ_ _ _ _ _ _ us hl=>by obtain ⟨_,_,rfl⟩:=len2 hl;rfl⟩
 have C_value:Cal l.prog w K mg base "value" 1 ["twists"] (spR K g_value):=⟨f12,_,ok_value F12 B,PySem.W.mg_of X G a12,k12,F12.binds λ_ _ _ _ _ _ us hl=>by obtain ⟨_,rfl⟩:=len1 hl;rfl⟩
 have C_exchanged:Cal l.prog w K mg base "exchanged" 1 ["told"] (spR K g_exchanged):=⟨f13,_,ok_exchanged F13 B,PySem.W.mg_of X G a13,k13,F13.binds λ_ _ _ _ _ _ us hl=>by obtain ⟨_,rfl⟩:=len1 hl;rfl⟩
 have C_half_twisted_sums:Cal l.prog w K mg base "half_twisted_sums" 3 ["told","sign"] (spR K g_half_twisted_sums):=⟨f14,_,ok_half_twisted_sums F14 B C_minus C_lifted,PySem.W.mg_of X G a14,k14,F14.binds λ_ _ _ _ _ _ us hl=>by obtain ⟨_,_,rfl⟩:=len2 hl;rfl⟩
 have C_followed:Cal l.prog w K mg base "followed" 4 ["twists","start","turned","twisted_once"] (spR K g_followed):=⟨f15,_,ok_followed F15 B C_exchanged C_half_twisted_sums,PySem.W.mg_of X G a15,k15,F15.binds λ_ _ _ _ _ _ us hl=>by obtain ⟨_,_,_,_,rfl⟩:=len4 hl;rfl⟩
 have C_twisted_sums:Cal l.prog w K mg base "twisted_sums" 5 ["twists"] (spR K g_twisted_sums):=⟨f16,_,ok_twisted_sums F16 B C_followed,PySem.W.mg_of X G a16,k16,F16.binds λ_ _ _ _ _ _ us hl=>by obtain ⟨_,rfl⟩:=len1 hl;rfl⟩
 have C__law_cell_at:Cal l.prog w K mg base "_law_cell_at" 1 ["_law_script","_law_k"] (spR K g_law_cell_at):=⟨f17,_,ok__law_cell_at F17 B,PySem.W.mg_of X G a17,k17,F17.binds λ_ _ _ _ _ _ us hl=>by obtain ⟨_,_,rfl⟩:=len2 hl;rfl⟩
 have C__law_twists:Cal l.prog w K mg base "_law_twists" 1 ["_law_cells","_law_most"] (spR K g_law_twists):=⟨f18,_,ok__law_twists F18 B,PySem.W.mg_of X G a18,k18,F18.binds λ_ _ _ _ _ _ us hl=>by obtain ⟨_,_,rfl⟩:=len2 hl;rfl⟩
 have C__law_step:Cal l.prog w K mg base "_law_step" 1 ["_law_twists_here","_law_word","_law_at"] (spR K g_law_step):=⟨f19,_,ok__law_step F19 B,PySem.W.mg_of X G a19,k19,F19.binds λ_ _ _ _ _ _ us hl=>by obtain ⟨_,_,_,rfl⟩:=len3 hl;rfl⟩
 have C__law_lifted:Cal l.prog w K mg base "_law_lifted" 1 ["_law_one","_law_heft"] (spR K g_law_lifted):=⟨f20,_,ok__law_lifted F20 B,PySem.W.mg_of X G a20,k20,F20.binds λ_ _ _ _ _ _ us hl=>by obtain ⟨_,_,rfl⟩:=len2 hl;rfl⟩
 have C__law_some:Cal l.prog w K mg base "_law_some" 2 ["_law_twists_here"] (spR K g_law_some):=⟨f21,_,ok__law_some F21 B C__law_step,PySem.W.mg_of X G a21,k21,F21.binds λ_ _ _ _ _ _ us hl=>by obtain ⟨_,rfl⟩:=len1 hl;rfl⟩
 have C__law_refused:Cal l.prog w K mg base "_law_refused" 5 ["_law_twists_here","_law_steps"] (spR K g_law_refused):=⟨f22,_,ok__law_refused F22 B C_led,PySem.W.mg_of X G a22,k22,F22.binds λ_ _ _ _ _ _ us hl=>by obtain ⟨_,_,rfl⟩:=len2 hl;rfl⟩
 exact ok_law F23 B C_led C_value C_twisted_sums C__law_cell_at C__law_twists C__law_step C__law_lifted C__law_some C__law_refused
theorem law_sp {K:PySem.W.Frag} {H:Hp} {a:Addr} {ns:List Int} (hl:ns.length<=63) (ho:Only H) (hS:SqL K H a (ns.map V.int)):spR K g_law [.ref a] H (λv _=>v=.bl true) λ_ _ _=>False:=by
 have fz:FzL K H a (ns.map V.int):=by
  rcases hS with (h | h) | h
  ·rcases ho a with z | ⟨o,xs,z⟩
   ·rw [z] at h;cases h
   ·rw [z] at h;cases h
  ·exact .inl h
  ·exact .inr h
 refine ⟨[.kls (ns.map .int)],[],λd=>d=.bl true,?_,⟨ns,rfl,hl,rfl⟩,λv H' d F' fi hd=>?_⟩
 ·exact .cons (F:=[]) (G:=[]) (.kls fz (Reps.ints ns)) .nil
 ·subst hd
  exact rep_bl fi.rep
theorem walk {l:PySem.W.OpenLaw} {q:Program} {loose:List Str} {XP:(Str->Option Value)->Heap->Prop} {YP:World->Heap->Prop} {d:DefRec} {K:Params->PySem.W.Frag} (hn:l.most=some 63) (hdf:d.params.defaults=[])
  (hY:∀(w:World) (h:Heap),YP w h->(K w.params).In h)
  (F:∀(w:World) (mg:Str->Option Value) (fa:Addr) (h:Heap),(K w.params).In h->h.Ns mainGlobals mg->mg d.name=some (.ref fa) ->
   ∃fd:FuncData,(∀(s:Shared) (u:Value),BindsTo s fd ⟨[u],[]⟩ [("_law_script",u)])/\∀base:Heap,(K w.params).In base->base.Ns mainGlobals mg->FnOk l.prog w (K w.params) mg base CX0 6 fa fd ["_law_script"] (spR (K w.params) g_law)) :
  PySem.W.WalkO q loose XP YP l.row.toRowW d [] (λf vs=>PySem.call f vs) :=
 L2.walk_of (n:=63) (k:=6) (x:="_law_script") (CX:=λ_=>CX0) (sp:=λw=>spR (K w.params) g_law) hn (by decide) hdf ⟨rfl,by decide,by decide⟩ hY F (λ_ _ a ns hl ho hS=>law_sp hl ho hS) λ_ _ _ _ _ z=>z
end K69
open PySem PySem.W PyProof.Rows
def PySem.W.Fast.tw17487632152633522006:=0
def PySem.W.Fast.tw7462665089183747226:=0
def PySem.W.Fast.tw7330769714011539213:=0
def PySem.W.Fast.tw3871447373879826759:=0
def PySem.W.Fast.tw12039964663862024212:=0
def PySem.W.Fast.tw3818585819390508692:=0
def PySem.W.Fast.tw12364881480668846044:=0
def PySem.W.Fast.tw14696348789971635423:=0
def PySem.W.Fast.tw8324287572904396175:=0
def PySem.W.Fast.tw3679087049175544176:=0
def PySem.W.Fast.tw22234076102759115:=0
def PySem.W.Fast.tw7230734067518413516:=0
def PySem.W.Fast.tw16233149551609885259:=0
def PySem.W.Fast.tw8942749782019131858:=0
def PySem.W.Fast.tw606848268788820145:=0
def PySem.W.Fast.tw3046493851247449709:=0
set_option maxRecDepth 100000 in
set_option maxHeartbeats 0 in
theorem PySem.Challenge.cw_tanglehouse_k69_whole_rows_of_steps_holds : PySem.Challenge.rw_tanglehouse_k69_whole_rows_of_steps.Holds := by
 w_on;o_law;k_head;(case hw=>w_witness2)
 k_fill
 refine K69.walk (l:=PySem.Challenge.rw_tanglehouse_k69_whole_rows_of_steps) rfl rfl (λw h Y=>PySem.W.kIn_of Y) ?F
 case F =>
  intro w mg fa h KX G hmg
  refine' K69.all_mk KX G hmg ?a1 ?l1 ?c1 ?k1 ?a2 ?l2 ?c2 ?k2 ?a3 ?l3 ?c3 ?k3 ?a4 ?l4 ?c4 ?k4 ?a5 ?l5 ?c5 ?k5 ?a6 ?l6 ?c6 ?k6 ?a7 ?l7 ?c7 ?k7 ?a8 ?l8 ?c8 ?k8 ?a9 ?l9 ?c9 ?k9 ?a10 ?l10 ?c10 ?k10 ?a11 ?l11 ?c11 ?k11 ?a12 ?l12 ?c12 ?k12 ?a13 ?l13 ?c13 ?k13 ?a14 ?l14 ?c14 ?k14 ?a15 ?l15 ?c15 ?k15 ?a16 ?l16 ?c16 ?k16 ?a17 ?l17 ?c17 ?k17 ?a18 ?l18 ?c18 ?k18 ?a19 ?l19 ?c19 ?k19 ?a20 ?l20 ?c20 ?k20 ?a21 ?l21 ?c21 ?k21 ?a22 ?l22 ?c22 ?k22 ?a23 ?l23 ?c23 ?k23 ?z_abs ?z_bool ?z_enumerate ?z_int ?z_isinstance ?z_len ?z_list ?z_range ?z_sorted ?z_tuple ?z_NOUGHT ?xh_NOUGHT ?z_ONE ?xh_ONE ?zx_NoStep ?zc_NoStep ?zt_NoStep ?zs_NoStep ?zb_NoStep ?xl1 ?xl2 ?xn1 ?xn2 ?xs1 ?xs2 ?xi1 ?xi2 ?xq1 ?xq2 ?xq3 ?xq4 ?xq5
  (case a1=>k_is)
  (case l1=>k_is)
  (case c1=>k_is)
  (case k1=>k_is)
  (case a2=>k_is)
  (case l2=>k_is)
  (case c2=>k_is)
  (case k2=>k_is)
  (case a3=>k_is)
  (case l3=>k_is)
  (case c3=>k_is)
  (case k3=>k_is)
  (case a4=>k_is)
  (case l4=>k_is)
  (case c4=>k_is)
  (case k4=>k_is)
  (case a5=>k_is)
  (case l5=>k_is)
  (case c5=>k_is)
  (case k5=>k_is)
  (case a6=>k_is)
  (case l6=>k_is)
  (case c6=>k_is)
  (case k6=>k_is)
  (case a7=>k_is)
  (case l7=>k_is)
  (case c7=>k_is)
  (case k7=>k_is)
  (case a8=>k_is)
  (case l8=>k_is)
  (case c8=>k_is)
  (case k8=>k_is)
  (case a9=>k_is)
  (case l9=>k_is)
  (case c9=>k_is)
  (case k9=>k_is)
  (case a10=>k_is)
  (case l10=>k_is)
  (case c10=>k_is)
  (case k10=>k_is)
  (case a11=>k_is)
  (case l11=>k_is)
  (case c11=>k_is)
  (case k11=>k_is)
  (case a12=>k_is)
  (case l12=>k_is)
  (case c12=>k_is)
  (case k12=>k_is)
  (case a13=>k_is)
  (case l13=>k_is)
  (case c13=>k_is)
  (case k13=>k_is)
  (case a14=>k_is)
  (case l14=>k_is)
  (case c14=>k_is)
  (case k14=>k_is)
  (case a15=>k_is)
  (case l15=>k_is)
  (case c15=>k_is)
  (case k15=>k_is)
  (case a16=>k_is)
  (case l16=>k_is)
  (case c16=>k_is)
  (case k16=>k_is)
  (case a17=>k_is)
  (case l17=>k_is)
  (case c17=>k_is)
  (case k17=>k_is)
  (case a18=>k_is)
  (case l18=>k_is)
  (case c18=>k_is)
  (case k18=>k_is)
  (case a19=>k_is)
  (case l19=>k_is)
  (case c19=>k_is)
  (case k19=>k_is)
  (case a20=>k_is)
  (case l20=>k_is)
  (case c20=>k_is)
  (case k20=>k_is)
  (case a21=>k_is)
  (case l21=>k_is)
  (case c21=>k_is)
  (case k21=>k_is)
  (case a22=>k_is)
  (case l22=>k_is)
  (case c22=>k_is)
  (case k22=>k_is)
  (case a23=>k_is)
  (case l23=>k_is)
  (case c23=>k_is)
  (case k23=>k_is)
  (case z_abs=>first | k_is | rfl | decide +kernel)
  (case z_bool=>first | k_is | rfl | decide +kernel)
  (case z_enumerate=>first | k_is | rfl | decide +kernel)
  (case z_int=>first | k_is | rfl | decide +kernel)
  (case z_isinstance=>first | k_is | rfl | decide +kernel)
  (case z_len=>first | k_is | rfl | decide +kernel)
  (case z_list=>first | k_is | rfl | decide +kernel)
  (case z_range=>first | k_is | rfl | decide +kernel)
  (case z_sorted=>first | k_is | rfl | decide +kernel)
  (case z_tuple=>first | k_is | rfl | decide +kernel)
  (case z_NOUGHT=>first | k_is | rfl | decide +kernel)
  (case xh_NOUGHT=>kernel_rfl)
  (case z_ONE=>first | k_is | rfl | decide +kernel)
  (case xh_ONE=>kernel_rfl)
  (case zx_NoStep=>first | k_is | rfl | decide +kernel)
  (case zc_NoStep=>first | k_is | rfl | decide +kernel)
  (case zt_NoStep=>first | k_is | rfl | decide +kernel)
  (case zs_NoStep=>first | k_is | rfl | decide +kernel)
  (case zb_NoStep=>first | k_is | rfl | decide +kernel)
  (case xl1=>first | k_is | rfl | decide +kernel)
  (case xl2=>first | k_is | rfl | decide +kernel)
  (case xn1=>first | k_is | rfl | decide +kernel)
  (case xn2=>first | k_is | rfl | decide +kernel)
  (case xs1=>first | k_is | rfl | decide +kernel)
  (case xs2=>first | k_is | rfl | decide +kernel)
  (case xi1=>first | k_is | rfl | decide +kernel)
  (case xi2=>first | k_is | rfl | decide +kernel)
  (case xq1=>first | k_is | rfl | decide +kernel)
  (case xq2=>first | k_is | rfl | decide +kernel)
  (case xq3=>first | k_is | rfl | decide +kernel)
  (case xq4=>first | k_is | rfl | decide +kernel)
  (case xq5=>first | k_is | rfl | decide +kernel)
