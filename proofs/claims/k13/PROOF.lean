import PyProof.Rows.All
import Wide.All
import OpenK.AllK
import Wide.FinOn
import Lean
import PyProof.EqAt
import PyProof.EqKinds
import PyProof.TupleCall
import PyProof.EnumMake
import PyProof.EnumFor
import PyProof.Draws
import PyProof.DictWalks
import PyProof.ListRange
import PyProof.ZipIter
import PyProof.Rows.SortWalk
import PyProof.Rows.SumAny
import PyProof.TupleIter
import PyProof.MeetsStr2
import PyProof.StrWalks
import Wide.Txt
import PyProof.Rows.SortRuns
import PyProof.Rows.MinMaxN
import PySem.Challenge.RW_tanglehouse_k13_pieces_hang_together
set_option Elab.async false
set_option linter.all false
set_option maxRecDepth 100000
namespace L2
open PySem PySem.Spec PyProof.Rows
abbrev Key:=Sum Int Str
def Qcy:Key->Value->Bool
 | .inl k,v=>Value.isInt k v
 | .inr x,v=>Value.isStrOf x v
def keyH (w:World):Key->Int
 | .inl k=>hashInt k
 | .inr x=>hashStr w x
theorem Q4:∀{k:Key} {v:Value},Qcy k v=true->(∃i t,k=Sum.inl i/\v=Value.int i t)\/(∃x t,k=Sum.inr x/\v=Value.str x t)
 | .inl i,v,h=>by
  obtain ⟨t,e⟩:=Value.isInt_shape (k:=i) (v:=v) h
  exact .inl ⟨i,t,rfl,e⟩
 | .inr x,v,h=>by
  obtain ⟨t,e⟩:=Value.isStrOf_shape (x:=x) (v:=v) h
  exact .inr ⟨x,t,rfl,e⟩
theorem Qhr (i:Int) (t:Tok):Qcy (.inl i) (.int i t)=true:=by simp [Qcy,Value.isInt]
theorem Qhq (x:Str) (t:Tok):Qcy (.inr x) (.str x t)=true:=by simp [Qcy,Value.isStrOf]
theorem Qqg (a b:Int):decide ((Sum.inl a:Key)=Sum.inl b)=(a == b):=by
 by_cases e:a=b
 ·subst e;simp
 ·have h:¬(Sum.inl a:Key)=Sum.inl b:=λq=>e (Sum.inl.inj q)
  rw [decide_eq_false h]
  exact (beq_eq_false_iff_ne.mpr e).symm
theorem Qqd (a b:Str):decide ((Sum.inr a:Key)=Sum.inr b)=decide (a=b):=by
 by_cases e:a=b
 ·subst e;simp
 ·have h:¬(Sum.inr a:Key)=Sum.inr b:=λq=>e (Sum.inr.inj q)
  rw [decide_eq_false h,decide_eq_false e]
theorem Qqf (a:Int) (b:Str):decide ((Sum.inl a:Key)=Sum.inr b)=false:=decide_eq_false (λq=>nomatch q)
theorem Qqe (a:Str) (b:Int):decide ((Sum.inr a:Key)=Sum.inl b)=false:=decide_eq_false (λq=>nomatch q)
def Qv (prog:Program) (w:World):PySem.KeyKind prog w Key where
 is:=Qcy
 hash:=keyH w
 inj:=λv a b ha hb=>by
  rcases Q4 ha with ⟨i,t,rfl,rfl⟩ | ⟨x,t,rfl,rfl⟩
  ·rcases Q4 hb with ⟨j,u,rfl,e⟩ | ⟨y,u,rfl,e⟩
   ·injection e with e1 _;rw [e1]
   ·exact nomatch e
  ·rcases Q4 hb with ⟨j,u,rfl,e⟩ | ⟨y,u,rfl,e⟩
   ·exact nomatch e
   ·injection e with e1 _;rw [e1]
 byValue:=λk v h=>by
  rcases Q4 h with ⟨i,t,rfl,rfl⟩ | ⟨x,t,rfl,rfl⟩ <;> rfl
 pyHash:=λhv h=>by
  rcases Q4 hv with ⟨i,t,rfl,rfl⟩ | ⟨x,t,rfl,rfl⟩
  ·exact wpAny_pyHash_int h
  ·exact wpAny_pyHash_str h
 eqBool:=λhu hv h=>by
  rcases Q4 hu with ⟨i,t,rfl,rfl⟩ | ⟨x,t,rfl,rfl⟩
  ·rcases Q4 hv with ⟨j,u,rfl,rfl⟩ | ⟨y,u,rfl,rfl⟩
   ·rw [Qqg] at h;exact wpAny_eqBool_int h
   ·rw [Qqf] at h;exact SeqAt.EqAt.int_str i t y u _ _ _ _ h
  ·rcases Q4 hv with ⟨j,u,rfl,rfl⟩ | ⟨y,u,rfl,rfl⟩
   ·rw [Qqe] at h;exact SeqAt.EqAt.str_int x t j u _ _ _ _ h
   ·rw [Qqd] at h;exact wpAny_eqBool_str h
 «strs»:=λk x t v h=>by
  rcases Q4 h with ⟨i,u,rfl,e⟩ | ⟨y,u,rfl,e⟩
  ·exact nomatch e
  ·injection e with e1 _
   subst e1
   cases v <;> rfl
theorem Qfg (prog:Program) (w:World) (k:Key) (v:Value):(Qv prog w).is k v=Qcy k v:=rfl
theorem Qcx (prog:Program) (w:World) (i:Int) (t:Tok):(Qv prog w).is (.inl i) (.int i t)=true:=Qhr i t
theorem Qcw (prog:Program) (w:World) (x:Str) (t:Tok):(Qv prog w).is (.inr x) (.str x t)=true:=Qhq x t
end L2
namespace L2
open PySem PySem.Spec PyProof.Rows
inductive V where
 | non | bl (b:Bool) | int (i:Int) | str (x:Str) | byt (b:Array UInt8) | flt (b:UInt64) | ref (a:Addr) | ty (n:String)
 deriving DecidableEq
def RelV:V->Value->Prop
 | .non,u=>u=Value.none
 | .bl b,u=>u=Value.bool b
 | .int i,u=>∃t,u=Value.int i t
 | .str x,u=>∃t,u=Value.str x t
 | .byt b,u=>∃t,u=Value.bytes b t
 | .flt b,u=>∃t,u=Value.float b t
 | .ref a,u=>u=Value.ref a
 | .ty n,u=>u=Value.type n
abbrev Vals:List V->List Value->Prop:=Paired RelV
theorem Vals.length {xs:List V} {us:List Value} (r:Vals xs us):xs.length=us.length:=Paired.length r
theorem Vals.get:∀{xs:List V} {us:List Value} {i:Nat} {x:V},Vals xs us->xs[i]? = some x->∃u,us[i]? = some u/\RelV x u
 | _,_,_,_,.nil,e=>by simp at e
 | _,_,0,_,.cons r _,e=>by simp at e;subst e;exact ⟨_,rfl,r⟩
 | _,_,i+1,x,.cons _ t,e=>by
  obtain ⟨u,h1,h2⟩:=Vals.get (i:=i) (x:=x) t (by simpa using e)
  exact ⟨u,by simpa using h1,h2⟩
theorem Vals.set {x:V} {u:Value} (r:RelV x u):∀{xs:List V} {us:List Value} (i:Nat),Vals xs us->Vals (xs.set i x) (us.set i u)
 | _,_,_,.nil=>.nil
 | _,_,0,.cons _ t=>.cons r t
 | _,_,i+1,.cons q t=>.cons q (Vals.set r i t)
theorem Vals.append:∀{xs ys:List V} {us ws:List Value},Vals xs us->Vals ys ws->Vals (xs++ys) (us++ws)
 | _,_,_,_,.nil,s=>s
 | _,_,_,_,.cons r t,s=>.cons r (Vals.append t s)
theorem Vals.take:∀{xs:List V} {us:List Value} (n:Nat),Vals xs us->Vals (xs.take n) (us.take n)
 | _,_,0,_=>.nil
 | _,_,_+1,.nil=>.nil
 | _,_,n+1,.cons r t=>.cons r (Vals.take n t)
theorem Vals.drop:∀{xs:List V} {us:List Value} (n:Nat),Vals xs us->Vals (xs.drop n) (us.drop n)
 | _,_,0,r=>r
 | _,_,_+1,.nil=>.nil
 | _,_,n+1,.cons _ t=>Vals.drop n t
def RelO:Option V->Option Value->Prop
 | some v,some u=>RelV v u
 | none,none=>True
 | _,_=>False
def KV {κ:Type}:List (κ × V)->List (κ × Value)->Prop:=Paired λ(p:κ × V) (q:κ × Value)=>p.1=q.1/\RelV p.2 q.2
def kV:Key->V
 | .inl i=>.int i
 | .inr x=>.str x
inductive HO where
 | lst (xs:List V)
 | tup (xs:List V)
 | dK (kvs:List (Key × V)) | dT (kvs:List (List Key × V))
 | set (S:Int->Bool) (n:Nat)
 | ins (C dx:Addr) (fs:List (Str × V))
 | own (x:Addr)
 | xd (fs:List (Str × V))
 | met (f x:Addr)
 | rng (lo hi:Int)
 | frz (o:Obj) (u:HO)
 | tbl (ps:Array Value)
 | ext (φ:Heap->Prop)
abbrev Hp:=Addr->Option HO
def upd (H:Hp) (a:Addr) (o:HO):Hp:=λb=>if b=a then some o else H b
theorem Qb {H:Hp} {a:Addr} {o:HO}:upd H a o a=some o:=by unfold upd;rw [if_pos rfl]
theorem Qk {H:Hp} {a b:Addr} {o:HO} (h:b≠a):upd H a o b=H b:=by unfold upd;rw [if_neg h]
theorem Qr2 {H:Hp} {a b:Addr} {o u:HO} (h:H a=some o) (h':H b=some u) (d:o≠u):a≠b:=by
 intro e;subst e;rw [h] at h';exact d (Option.some.inj h')
theorem Qq {H:Hp} {a b:Addr} {o:HO} (h:H a=some o) (h':H b=none):a≠b:=by
 intro e;subst e;rw [h] at h';cases h'
section
variable (P:Program) (w:World)
def Jo (H:Hp) (h:Heap) (a:Addr):HO->Prop
 | .lst xs=>xs.length<=sizeLine/\∃(its:List Value) (n:Nat),Vals xs its/\h.get? a=some { cls:=.type "list",data:=.seq its.toArray n }
 | .tup xs=>xs.length<=sizeLine/\∃its:List Value,Vals xs its/\IsTup h a its.toArray
 | .dK kvs=>kvs.length<=sizeLine/\(a == sysModules)=false/\∃vs,KV kvs vs/\h.DictOf (Qv P w) a vs
 | .dT kvs=>kvs.length<=sizeLine/\(a == sysModules)=false/\∃xs:List (List Key × Addr × Value),
   Paired (λ(p:List Key × V) (q:List Key × Addr × Value)=>p.1=q.1/\H q.2.1=some (.tup (p.1.map kV))/\RelV p.2 q.2.2) kvs xs /\
   ∃o es ep,h.get? a=some o/\o.ExactDict/\o.data=.dict es ep/\es.toList=xs.map (entryOfKey (tupleKind (Qv P w)))/\(xs.map (·.1)).Nodup
 | .set S n=>h.SetOf (intKind P w) a S n
 | .ins C dx fs=>H dx=some (.own a)/\fs.length<=1000/\dx≠a/\h.get? a=some (PySem.W.instObj C dx) /\
   ∃mA,h.Ns1 dx mA/\(∀f,RelO (fs.lookup f) (mA f))/\PySem.Within mA (fs.map (·.1))
 | .own _=>∃o,h.get? a=some o
 | .xd fs=>∃mA,h.Ns1 a mA/\∀f,RelO (fs.lookup f) (mA f)
 | .rng lo hi=>∃t u v,h.get? a=some { cls:=.type "range",data:=.fields #[.int lo t,.int hi u,.int 1 v] }
 | .frz o u=>h.get? a=some o/\Jo H h a u
 | .tbl ps=>∃ts:Array Value,h.get? a=some { cls:=.none,data:=.fields ts }/\(ts = #[]\/∃(b:Addr) (oc:Obj) (u:HO) (vs:Array Value) (t:Tok) (q:Str) (t':Tok),ts = #[ps.getD 0 .none,ps.getD 1 .none,.ref b]/\H b=some (.frz oc u)/\oc.data=.fields vs/\ps.getD 2 .none=.str q t'/\vs[1]? = some (.str q t))
 | .met f x=>h.get? a=some (PySem.W.methodObj (.ref f) (.ref x))
 | .ext φ=>φ h/\(∃o,h.get? a=some o)/\∀h1 h2:Heap,φ h1->(∀o,h1.get? a=some o->h2.get? a=some o)->φ h2
def HOk (H:Hp) (h:Heap):Prop:=∀a o,H a=some o->Jo P w H h a o
end
section
variable {P:Program} {w:World} {H H':Hp} {h h':Heap} {a:Addr} {o:HO}
theorem Jo.lt (x:Jo P w H h a o):a<h.objs.size:=by
 cases o with
 | lst xs=>obtain ⟨_,_,_,_,e⟩:=x;exact Heap.lt_size e
 | tup xs=>obtain ⟨_,_,_,p⟩:=x;exact p.lt
 | dK kvs=>obtain ⟨_,_,_,_,o,_,_,e,_⟩:=x;exact Heap.lt_size e
 | dT kvs=>obtain ⟨_,_,_,_,o,_,_,e,_⟩:=x;exact Heap.lt_size e
 | set S n=>obtain ⟨o,_,_,_,e,_⟩:=x;exact Heap.lt_size e
 | ins C dx fs=>obtain ⟨_,_,_,e,_⟩:=x;exact Heap.lt_size e
 | own y=>obtain ⟨_,e⟩:=x;exact Heap.lt_size e
 | xd fs=>obtain ⟨_,⟨_,_,_,e,_⟩,_⟩:=x;exact Heap.lt_size e
 | rng lo hi=>obtain ⟨_,_,_,e⟩:=x;exact Heap.lt_size e
 | frz ob u=>obtain ⟨e,_⟩:=x;exact Heap.lt_size e
 | tbl ps=>obtain ⟨_,e,_⟩:=x;exact Heap.lt_size e
 | met f y=>exact Heap.lt_size (show h.get? a=some _ from x)
 | ext φ=>obtain ⟨_,⟨_,e⟩,_⟩:=x;exact Heap.lt_size e
theorem Paired.mapP {α β:Type} {F G:α->β->Prop}:∀{l₁:List α} {l₂:List β},Paired F l₁ l₂->(∀a b,F a b->G a b)->Paired G l₁ l₂
 | _,_,.nil,_=>.nil
 | _,_,.cons r t,f=>.cons (f _ _ r) (Paired.mapP t f)
theorem Jo.stay (x:Jo P w H h a o) (k:∀b u,(b=a\/H b=some (.own a))->h.get? b=some u->h'.get? b=some u)
  (ho:∀b,H b=some (.own a)->H' b=some (.own a)) (ht:∀b xs,H b=some (.tup xs)->H' b=some (.tup xs)) (hf:∀b u v vs,H b=some (.frz u v)->u.data=.fields vs->H' b=some (.frz u v):=by exact λ_ _ _ _ q _=>q):Jo P w H' h' a o:=by
 induction o with
 | lst xs=>obtain ⟨z,its,n,r,e⟩:=x;exact ⟨z,its,n,r,k _ _ (.inl rfl) e⟩
 | tup xs=>obtain ⟨z,its,r,ob,e,c⟩:=x;exact ⟨z,its,r,ob,k _ _ (.inl rfl) e,c⟩
 | dK kvs=>obtain ⟨z,y,vs,r,ob,es,ep,e,c⟩:=x;exact ⟨z,y,vs,r,ob,es,ep,k _ _ (.inl rfl) e,c⟩
 | dT kvs =>
  obtain ⟨z,y,xs,r,ob,es,ep,e,c⟩:=x
  exact ⟨z,y,xs,Paired.mapP r λp q z=>⟨z.1,ht _ _ z.2.1,z.2.2⟩,ob,es,ep,k _ _ (.inl rfl) e,c⟩
 | set S n=>obtain ⟨ob,es,ep,t,e,c⟩:=x;exact ⟨ob,es,ep,t,k _ _ (.inl rfl) e,c⟩
 | ins C dx fs =>
  obtain ⟨d,z,ne,e,mA,⟨od,es,ep,e2,c⟩,r⟩:=x
  exact ⟨ho _ d,z,ne,k _ _ (.inl rfl) e,mA,⟨od,es,ep,k _ _ (.inr d) e2,c⟩,r⟩
 | own y=>obtain ⟨ob,e⟩:=x;exact ⟨ob,k _ _ (.inl rfl) e⟩
 | xd fs=>obtain ⟨mA,⟨od,es,ep,e,c⟩,r⟩:=x;exact ⟨mA,⟨od,es,ep,k _ _ (.inl rfl) e,c⟩,r⟩
 | rng lo hi=>obtain ⟨t,u,v,e⟩:=x;exact ⟨t,u,v,k _ _ (.inl rfl) e⟩
 | frz ob u ih=>obtain ⟨e,q⟩:=x;exact ⟨k _ _ (.inl rfl) e,ih q⟩
 | tbl ps =>
  obtain ⟨ts,e,r⟩:=x
  exact ⟨ts,k _ _ (.inl rfl) e,r.imp id λ⟨b,oc,u,vs,t,q,t',z1,z2,z3⟩=>⟨b,oc,u,vs,t,q,t',z1,hf _ _ _ _ z2 z3.1,z3⟩⟩
 | met f y =>
  have e:h.get? a=some (PySem.W.methodObj (.ref f) (.ref y)):=x
  show h'.get? a=some (PySem.W.methodObj (.ref f) (.ref y))
  exact k a _ (.inl rfl) e
 | ext φ=>obtain ⟨p,⟨o,e⟩,st⟩:=x;exact ⟨st _ _ p λo q=>k _ _ (.inl rfl) q,⟨o,k _ _ (.inl rfl) e⟩,st⟩
theorem HOk.lt (x:HOk P w H h) (e:H a=some o):a<h.objs.size:=(x a o e).lt
theorem HOk.fresh (x:HOk P w H h) (e:h.objs.size<=a):H a=none:=by
 cases q:H a with
 | none=>rfl
 | some u=>exact absurd (Nat.lt_of_lt_of_le (x.lt q) e) (Nat.lt_irrefl _)
theorem HOk.kept (x:HOk P w H h) (k:∀b u,h.get? b=some u->h'.get? b=some u):HOk P w H h':=λa o e =>
 (x a o e).stay (λb u _ q=>k b u q) (λ_ q=>q) λ_ _ q=>q
theorem HOk.laid (x:HOk P w H h) (k:∀b u,h.get? b=some u->h'.get? b=some u) (hp:h.objs.size<=a) (new:Jo P w (upd H a o) h' a o):HOk P w (upd H a o) h':=λb u e=>by
 have hn:=x.fresh hp
 by_cases hb:b=a
 ·subst hb;rw [Qb] at e;cases e;exact new
 ·rw [Qk hb] at e
  exact (x b u e).stay (λc v _ q=>k c v q) (λc q=>by rw [Qk (Qq q hn)];exact q) (λc xs q=>by rw [Qk (Qq q hn)];exact q) λc _ _ _ q _=>by rw [Qk (Qq q hn)];exact q
end
def Rd (H:Hp) (a:Addr) (u:HO):Prop:=H a=some u\/∃o,H a=some (.frz o u)
theorem Rd.of {H:Hp} {a:Addr} {u:HO} (h:H a=some u):Rd H a u:=.inl h
theorem Rd.ok {P:Program} {w:World} {H:Hp} {h:Heap} {a:Addr} {u:HO} (r:Rd H a u) (x:HOk P w H h):Jo P w H h a u:=by
 rcases r with r | ⟨o,r⟩
 ·exact x a u r
 ·obtain ⟨_,q⟩:=x a _ r
  exact q
def Mut:Option HO->Prop
 | some (.lst _)=>True
 | some (.dK _)=>True
 | some (.dT _)=>True
 | some (.set _ _)=>True
 | some (.ins _ _ _)=>True
 | some (.ext _)=>True
 | _=>False
section
variable {P:Program} {w:World} {H:Hp} {h h':Heap} {x e:Addr} {o':HO}
theorem HOk.write (ok:HOk P w H h) (mu:Mut (H x)) (he:e=x\/H e=some (.own x)) (k:∀b u,b≠e->h.get? b=some u->h'.get? b=some u) (heo:∃u,h'.get? e=some u)
  (new:Jo P w (upd H x o') h' x o'):HOk P w (upd H x o') h':=λb u q=>by
 have nown:∀c y,H c=some (.own y)->c≠x:=λc y r z=>by subst z;rw [r] at mu;exact mu
 have ntup:∀c xs,H c=some (.tup xs)->c≠x:=λc xs r z=>by subst z;rw [r] at mu;exact mu
 have nfrz:∀c o v,H c=some (.frz o v)->c≠x:=λc o v r z=>by subst z;rw [r] at mu;exact mu
 by_cases hb:b=x
 ·subst hb;rw [Qb] at q;cases q;exact new
 ·rw [Qk hb] at q
  by_cases hbe:b=e
  ·have q':H b=some (.own x):=by
    rcases he with z | z
    ·exact absurd (hbe.trans z) hb
    ·rw [hbe];exact z
   rw [q] at q';cases q'
   obtain ⟨v,hv⟩:=heo
   exact ⟨v,by rw [hbe];exact hv⟩
  ·refine (ok b u q).stay (λc v hc r=>k c v ?_ r) (λc r=>by rw [Qk (nown c b r)];exact r) (λc xs r=>by rw [Qk (ntup c xs r)];exact r) λc o v _ r _=>by rw [Qk (nfrz c o v r)];exact r
   rcases hc with rfl | hc
   ·exact hbe
   ·rintro rfl
    rcases he with z | z
    ·exact nown c b hc z
    ·rw [hc] at z;cases z;exact hb rfl
end
structure Un (fs ex:List Addr) (H H':Hp) (h h':Heap):Prop where
 keep:∀b o,h.get? b=some o->H b=none->b∉fs->b∉ex->h'.get? b=some o
 slot:∀b o,h.get? b=some o->H b=none->b∈fs->b∉ex->∃sl,h'.get? b=some { o with slots:=sl }
 free:∀b o,h.get? b=some o->H b=none->b∉ex->H' b=none
 there:∀b o,h.get? b=some o->b∉ex->∃o',h'.get? b=some o'
 tups:∀b xs,H b=some (.tup xs)->H' b=some (.tup xs)
 frzs:∀b o u,H b=some (.frz o u)->H' b=some (.frz o u)
 tbls:∀b ps,H b=some (.tbl ps)->∃more,H' b=some (.tbl (ps++more))
section
variable {fs fs' ex ex':List Addr} {H H1 H2:Hp} {h h1 h2 h':Heap} {a x e:Addr} {o:HO}
theorem Un.any (u:Un fs ex H H1 h h1) {b:Addr} {ob:Obj} (q:h.get? b=some ob) (n:H b=none) (hx:b∉ex):∃sl,h1.get? b=some { ob with slots:=sl }:=by
 by_cases hb:b∈fs
 ·exact u.slot b ob q n hb hx
 ·exact ⟨ob.slots,u.keep b ob q n hb hx⟩
theorem Un.kept (k:∀b u,h.get? b=some u->h'.get? b=some u):Un fs ex H H h h' :=
 ⟨λb ob q _ _ _=>k b ob q,λb ob q _ _ _=>⟨ob.slots,k b ob q⟩,λ_ _ _ n _=>n,λb ob q _=>⟨ob,k b ob q⟩,λ_ _ q=>q,λ_ _ _ q=>q,λ_ ps q=>⟨#[],by rw [q];simp⟩⟩
theorem Un.refl:Un fs ex H H h h:=Un.kept λ_ _ q=>q
theorem Un.laid (k:∀b u,h.get? b=some u->h'.get? b=some u) (hp:h.objs.size<=a) (hn:H a=none):Un fs ex H (upd H a o) h h' where
 keep:=λb u q _ _ _=>k b u q
 slot:=λb u q _ _ _=>⟨u.slots,k b u q⟩
 free:=λb u q n _=>by rw [Qk (Nat.ne_of_lt (Nat.lt_of_lt_of_le (Heap.lt_size q) hp))];exact n
 there:=λb u q _=>⟨u,k b u q⟩
 tups:=λb xs q=>by rw [Qk (Qq q hn)];exact q
 frzs:=λb u xs q=>by rw [Qk (Qq q hn)];exact q
 tbls:=λb ps q=>⟨#[],by rw [Qk (Qq q hn),q];simp⟩
theorem Un.write (mu:Mut (H x)) (he:e=x\/H e=some (.own x)) (k:∀b u,b≠e->h.get? b=some u->h'.get? b=some u) (heo:∃u,h'.get? e=some u):Un fs ex H (upd H x o) h h':=by
 have hx:∀b,H b=none->b≠x:=λb n z=>by subst z;rw [n] at mu;exact mu
 have hb:∀b,H b=none->b≠e:=λb n z=>by
  subst z
  rcases he with r | r
  ·exact hx b n r
  ·rw [n] at r;cases r
 have hm:∀b u,H b=some u->¬Mut (some u)->b≠x:=λb u q nm z=>by subst z;rw [q] at mu;exact nm mu
 refine ⟨λb u q n _ _=>k b u (hb b n) q,λb u q n _ _=>⟨u.slots,k b u (hb b n) q⟩,λb u q n _=>by rw [Qk (hx b n)];exact n,λb u q _=>?_,
  λb xs q=>by rw [Qk (hm b _ q λz=>z)];exact q,λb u xs q=>by rw [Qk (hm b _ q λz=>z)];exact q,λb ps q=>⟨#[],by rw [Qk (hm b _ q λz=>z),q];simp⟩⟩
 by_cases hbe:b=e
 ·subst hbe;exact heo
 ·exact ⟨u,k b u hbe q⟩
end
def trk (h:Heap) (H:Hp):List Addr:=(List.range h.objs.size).filter λa=>(H a).isSome
def hidT (h:Heap) (H:Hp):Heap:=PySem.W.hideAll h (trk h H)
theorem Qhw (h:Heap) (H:Hp):(hidT h H).objs.size=h.objs.size:=PySem.W.hideAll_size _ _
theorem Qju {h:Heap} {H:Hp} {b:Addr} {o:Obj} (e:h.get? b=some o) (n:H b=none):(hidT h H).get? b=some o :=
 PySem.W.hideAll_get _ e λhm=>by
  have q:(H b).isSome=true:=(List.mem_filter.mp hm).2
  rw [n] at q;simp at q
theorem Qm8 {h:Heap} {H:Hp} {b:Addr} {o:Obj} (e:(hidT h H).get? b=some o):h.get? b=some o/\H b=none:=by
 have e':h.get? b=some o:=PySem.W.of_hideAll (trk h H) e
 refine ⟨e',?_⟩
 cases q:H b with
 | none=>rfl
 | some x =>
  have hm:b∈trk h H:=List.mem_filter.mpr ⟨List.mem_range.mpr (Heap.lt_size e'),by simp [q]⟩
  have z:(hidT h H).get? b=none:=PySem.W.hideAll_none (trk h H) hm
  rw [z] at e;cases e
end L2
namespace L2
open PySem PySem.Spec PyProof.Rows
structure Mod (K:PySem.W.Frag) (mg:Str->Option Value) (base:Heap):Prop where
 kin:K.In base
 glob:base.Ns mainGlobals mg
 blt:∃mb,base.Ns builtinsNs mb/\∀x:Str,x ≠ "__name__" -> mb x=bootBuiltins x
 nolimit:base.NoLimit
structure Cx where
 prog:Program
 w:World
 K:PySem.W.Frag
 mg:Str->Option Value
 base:Heap
 A:Around
 N:List Str
 s₀:Shared
 H₀:Hp
 env:Env
 outer:List Env
 stack:List Env
 ex:List Addr
 fn:Str->Bool
 calm:Bool
 pn:List (Addr × Obj)
 xe:Value->Shared->Prop
def frs (l:List Env):List Addr:=l.filterMap (·.frame)
abbrev Cx.fs (X:Cx):List Addr:=frs X.outer
def Vis (sc:Scope) (x:Str):Prop:=sc.names.lookup x=some .local\/sc.names.lookup x=some .cell\/sc.names.lookup x=some .free
def Loc (sc:Scope) (x:Str):Prop:=sc.names.lookup x=some .local\/sc.names.lookup x=some .cell
def Look (env:Env) (h:Heap) (m:Str->Option Value) (x:Str) (u:Value):Prop :=
 (env.kindOf x=some .local/\m x=some u)\/((env.kindOf x=some .cell\/env.kindOf x=some .free)/\∃c,env.cells.lookup x=some c/\h.IsCell c (some u))
structure Cx.Ok (X:Cx):Prop where
 mod:Mod X.K X.mg X.base
 kind:X.env.scope.kind=.function
 glob:X.env.globals=mainGlobals
 blt:X.env.builtins=builtinsNs
 above:X.s₀.heap.objs.size<=X.env.locals
 inj:∀x y c,X.env.cells.lookup x=some c->X.env.cells.lookup y=some c->x=y
 has:∀x,(X.env.kindOf x=some .cell\/X.env.kindOf x=some .free)->∃c,X.env.cells.lookup x=some c
 cab:∀x c,X.fn x=true->X.env.cells.lookup x=some c->X.s₀.heap.objs.size<=c
 hd:X.calm=true->X.A.handled=none
 frames:X.A.frames=some X.stack
 stk:X.stack=X.outer\/(X.stack=X.env::X.outer/\X.env.frame=some X.env.locals)
 exf:∀b∈X.ex,b≠X.env.locals/\∀x c,X.env.cells.lookup x=some c->c≠b
 bs:∀b o,X.base.get? b=some o->X.s₀.heap.get? b=some o/\X.H₀ b=none
 bsz:X.base.objs.size<=X.s₀.heap.objs.size
 noex:∀b o,X.base.get? b=some o->b∉X.ex
 exfs:∀b∈X.ex,b∉X.fs
 funs:X.s₀.heap.FunFrames X.base X.outer
 frf:∀b∈X.fs,X.H₀ b=none
structure Inv (X:Cx) (pins:List (Addr × Obj)) (σ:List (Option V)) (H:Hp) (s:Shared):Prop where
 ok:X.Ok
 os:s.os=X.s₀.os
 bare:AllBare s.gens
 base:Un X.fs X.ex X.H₀ H X.s₀.heap s.heap
 loc:∃m,s.heap.Ns X.env.locals m/\∀(i:Nat) (x:Str) (v:V),X.N[i]? = some x->σ[i]? = some (some v)->Vis X.env.scope x->∃u,RelV v u/\Look X.env s.heap m x u
 cell:∀x c,X.env.cells.lookup x=some c->∃v,s.heap.IsCell c v
 free:H X.env.locals=none
 freeC:∀x c,X.env.cells.lookup x=some c->H c=none
 pin:∀p∈X.pn++pins,s.heap.get? p.1=some p.2/\H p.1=none/\p.1≠X.env.locals/\p.1∉X.fs/\∀v,p.2.data ≠ .cell v
 hok:HOk X.prog X.w H s.heap
 len:σ.length=X.N.length
section
variable {X:Cx} {pins:List (Addr × Obj)} {σ:List (Option V)} {H H':Hp} {s:Shared} {h':Heap}
theorem Cx.Ok.nofr (ok:X.Ok) {b:Addr} {o:Obj} (e:X.base.get? b=some o):b∉X.fs:=λhb=>by
 have:=(ok.funs.mem hb).1
 rw [e] at this;cases this
theorem Inv.bs (I:Inv X pins σ H s):∀b o,X.base.get? b=some o->s.heap.get? b=some o/\H b=none:=λb o e =>
 ⟨I.base.keep b o (I.ok.bs b o e).1 (I.ok.bs b o e).2 (I.ok.nofr e) (I.ok.noex b o e),I.base.free b o (I.ok.bs b o e).1 (I.ok.bs b o e).2 (I.ok.noex b o e)⟩
theorem Inv.bk (I:Inv X pins σ H s):∀b o,X.base.get? b=some o->s.heap.get? b=some o:=λb o e=>(I.bs b o e).1
theorem Inv.mod (I:Inv X pins σ H s):Mod X.K X.mg X.base:=I.ok.mod
theorem Inv.kIn (I:Inv X pins σ H s):X.K.In s.heap:=I.ok.mod.kin.keeps I.bk
theorem Inv.lt (I:Inv X pins σ H s):X.env.locals<s.heap.objs.size:=let ⟨_,hn,_⟩:=I.loc;hn.lt
theorem Inv.sz (I:Inv X pins σ H s):X.s₀.heap.objs.size<=s.heap.objs.size:=Nat.le_trans I.ok.above (Nat.le_of_lt I.lt)
theorem Inv.nofs (I:Inv X pins σ H s) {a:Addr} (h:s.heap.objs.size<=a):a∉X.fs:=λhb=>by
 obtain ⟨_,o,ho,_⟩:=I.ok.funs.mem hb
 exact absurd (Nat.lt_of_lt_of_le (Heap.lt_size ho) (Nat.le_trans I.sz h)) (Nat.lt_irrefl _)
theorem Inv.cne (I:Inv X pins σ H s):∀x c,X.env.cells.lookup x=some c->c≠X.env.locals:=λx c e z=>by
 obtain ⟨v,o,ho,hd⟩:=I.cell x c e
 obtain ⟨m,⟨o',es,ep,ho',hd',_⟩,_⟩:=I.loc
 rw [z,ho'] at ho;cases ho;rw [hd'] at hd;cases hd
theorem Inv.funs (I:Inv X pins σ H s):s.heap.FunFrames X.base X.outer:=by
 have all:∀(l:List Env),(∀b∈frs l,b∈X.fs)->X.s₀.heap.FunFrames X.base l->s.heap.FunFrames X.base l:=by
  intro l
  induction l with
  | nil=>intro _ _;trivial
  | cons env r ih =>
   intro hs hl
   obtain ⟨hk,⟨L,o,hf,hn,ho,hd⟩,hr⟩:=hl
   have hL:L∈X.fs:=hs L (by unfold frs;rw [List.filterMap_cons,hf];exact List.mem_cons_self)
   obtain ⟨sl,e⟩:=I.base.slot L o ho (I.ok.frf L hL) hL λz=>I.ok.exfs L z hL
   exact ⟨hk,⟨L,_,hf,hn,e,hd⟩,ih (λb hb=>hs b (by unfold frs;rw [List.filterMap_cons,hf];exact List.mem_cons_of_mem _ hb)) hr⟩
 exact all X.outer (λ_ hb=>hb) I.ok.funs
theorem Inv.stack (I:Inv X pins σ H s):s.heap.FunFrames X.base X.stack:=by
 rcases I.ok.stk with e | ⟨e,hf⟩
 ·rw [e];exact I.funs
 ·rw [e]
  obtain ⟨m,hn,_⟩:=I.loc
  refine .cons (by rw [I.ok.kind];decide) hf hn ?_ I.funs
  exact Heap.get?_none_of_le (Nat.le_trans I.ok.bsz I.ok.above)
theorem Inv.stkSub (I:Inv X pins σ H s):∀b∈frs X.stack,b∈X.env.locals::X.fs:=λb hb=>by
 rcases I.ok.stk with e | ⟨e,hf⟩
 ·rw [e] at hb;exact List.mem_cons_of_mem _ hb
 ·rw [e] at hb
  unfold frs at hb
  rw [List.filterMap_cons,hf] at hb
  exact hb
theorem Inv.stkFree (I:Inv X pins σ H s):∀b∈frs X.stack,H b=none:=λb hb=>by
 rcases List.mem_cons.mp (I.stkSub b hb) with e | hb
 ·rw [e];exact I.free
 ·obtain ⟨_,o,ho,_⟩:=I.ok.funs.mem hb
  exact I.base.free b o ho (I.ok.frf b hb) λz=>I.ok.exfs b z hb
theorem Inv.step {g':Array GenState} {t':Nat} {d':Drawn} {ch:List Addr} (I:Inv X pins σ H s)
  (hch:∀b∈ch,(b∈X.ex\/X.s₀.heap.objs.size<=b)/\b≠X.env.locals/\(∀x c,X.env.cells.lookup x=some c->c≠b)/\∀p∈X.pn++pins,p.1≠b)
  (keep:∀b o,b≠X.env.locals->b∉X.fs->b∉ch->s.heap.get? b=some o->H b=none->h'.get? b=some o)
  (slot:∀b o,b≠X.env.locals->b∈X.fs->b∉ch->s.heap.get? b=some o->H b=none->∃sl,h'.get? b=some { o with slots:=sl }) (free:∀b o,b∉ch->s.heap.get? b=some o->H b=none->H' b=none)
  (there:∀b o,b∉ch->s.heap.get? b=some o->∃o',h'.get? b=some o')
  (tups:∀b xs,H b=some (.tup xs)->H' b=some (.tup xs)) (frzs:∀b o u,H b=some (.frz o u)->H' b=some (.frz o u)) (tbls:∀b ps,H b=some (.tbl ps)->∃more,H' b=some (.tbl (ps++more)))
  (ns:∀m,s.heap.Ns X.env.locals m->h'.Ns X.env.locals m) (hok:HOk X.prog X.w H' h') (hg:AllBare g') :
  Inv X pins σ H' { s with heap:=h',gens:=g',drawn:=d',toks:=t' }:=by
 have neL:∀b o,X.s₀.heap.get? b=some o->b≠X.env.locals:=λb o e=>Nat.ne_of_lt (Nat.lt_of_lt_of_le (Heap.lt_size e) I.ok.above)
 have neC:∀b o,X.s₀.heap.get? b=some o->b∉X.ex->b∉ch:=λb o e hx hb=>by
  rcases (hch b hb).1 with z | z
  ·exact hx z
  ·exact absurd (Nat.lt_of_lt_of_le (Heap.lt_size e) z) (Nat.lt_irrefl _)
 have cellK:∀x c,X.env.cells.lookup x=some c->∀v,s.heap.IsCell c v->h'.IsCell c v:=λx c e v ⟨o,ho,hd⟩=>by
  have nch:c∉ch:=λz=>(hch c z).2.2.1 x c e rfl
  by_cases hc:c∈X.fs
  ·obtain ⟨sl,q⟩:=slot c o (I.cne x c e) hc nch ho (I.freeC x c e)
   exact ⟨_,q,hd⟩
  ·exact ⟨o,keep c o (I.cne x c e) hc nch ho (I.freeC x c e),hd⟩
 refine ⟨I.ok,I.os,hg,⟨λb o e n hb hx=>?_,λb o e n hb hx=>?_,λb o e n hx=>?_,λb o e hx=>?_,λb xs e=>tups b xs (I.base.tups b xs e),λb o xs e=>frzs b o xs (I.base.frzs b o xs e),λb ps e=>?_⟩,?_,λx c e=>?_,?_,λx c e=>?_,λp hp=>?_,hok,I.len⟩
 ·exact keep b o (neL b o e) hb (neC b o e hx) (I.base.keep b o e n hb hx) (I.base.free b o e n hx)
 ·obtain ⟨sl,e1⟩:=I.base.slot b o e n hb hx
  obtain ⟨sl',e2⟩:=slot b _ (neL b o e) hb (neC b o e hx) e1 (I.base.free b o e n hx)
  exact ⟨sl',e2⟩
 ·obtain ⟨o',e1⟩:=I.base.there b o e hx
  exact free b o' (neC b o e hx) e1 (I.base.free b o e n hx)
 ·obtain ⟨o',e1⟩:=I.base.there b o e hx
  exact there b o' (neC b o e hx) e1
 ·obtain ⟨m1,e1⟩:=I.base.tbls b ps e
  obtain ⟨m2,e2⟩:=tbls b _ e1
  exact ⟨m1++m2,by rw [e2,Array.append_assoc]⟩
 ·obtain ⟨m,hn,hl⟩:=I.loc
  refine ⟨m,ns m hn,λi x v e1 e2 e3=>?_⟩
  obtain ⟨u,r,l⟩:=hl i x v e1 e2 e3
  refine ⟨u,r,?_⟩
  rcases l with l | ⟨k,c,e,z⟩
  ·exact .inl l
  ·exact .inr ⟨k,c,e,cellK x c e _ z⟩
 ·obtain ⟨v,z⟩:=I.cell x c e
  exact ⟨v,cellK x c e v z⟩
 ·obtain ⟨m,⟨o,_,_,ho,_⟩,_⟩:=I.loc
  exact free _ o (λz=>(hch _ z).2.1 rfl) ho I.free
 ·obtain ⟨v,o,ho,hd⟩:=I.cell x c e
  exact free c o (λz=>(hch c z).2.2.1 x c e rfl) ho (I.freeC x c e)
 ·obtain ⟨e,n,ne,nf,d⟩:=I.pin p hp
  have nch:p.1∉ch:=λz=>(hch p.1 z).2.2.2 p hp rfl
  exact ⟨keep p.1 p.2 ne nf nch e n,free p.1 p.2 nch e n,ne,nf,d⟩
theorem Inv.un {t':Nat} (I:Inv X pins σ H s) (u:Un X.fs [] H H' s.heap h') (hok:HOk X.prog X.w H' h'):Inv X pins σ H' { s with heap:=h',toks:=t' }:=by
 obtain ⟨m,⟨o,es,ep,ho,r⟩,_⟩:=id I.loc
 obtain ⟨sl,hL⟩:=u.any ho I.free (by simp)
 exact I.step (g':=s.gens) (d':=s.drawn) (ch:=[]) (λ_ z=>nomatch z) (λb o _ hb _ e n=>u.keep b o e n hb (by simp)) (λb o _ hb _ e n=>u.slot b o e n hb (by simp)) (λb o _ e n=>u.free b o e n (by simp)) (λb o _ e=>u.there b o e (by simp)) u.tups u.frzs u.tbls (λm' hm=>by
  obtain ⟨o',es',ep',ho',r'⟩:=hm
  rw [ho] at ho';cases ho'
  exact ⟨_,es',ep',hL,r'⟩) hok I.bare
theorem Inv.call {g':Array GenState} {t':Nat} {d':Drawn} {ch:List Addr} (I:Inv X pins σ H s) (u:Un (frs X.stack) ch H H' s.heap h') (hok:HOk X.prog X.w H' h') (hg:AllBare g')
  (hch:∀b∈ch,(b∈X.ex\/X.s₀.heap.objs.size<=b)/\b≠X.env.locals/\(∀x c,X.env.cells.lookup x=some c->c≠b)/\∀p∈X.pn++pins,p.1≠b) :
  Inv X pins σ H' { s with heap:=h',gens:=g',drawn:=d',toks:=t' }:=by
 obtain ⟨m,⟨o,es,ep,ho,r⟩,_⟩:=id I.loc
 obtain ⟨sl,hL⟩:=u.any ho I.free λz=>(hch _ z).2.1 rfl
 exact I.step (ch:=ch) hch (λb o hL hb hc e n=>u.keep b o e n (λz=>(List.mem_cons.mp (I.stkSub b z)).elim hL hb) hc) (λb o _ _ hc e n=>u.any e n hc) (λb o hc e n=>u.free b o e n hc) (λb o hc e=>u.there b o e hc) u.tups u.frzs u.tbls (λm' hm=>by
  obtain ⟨o',es',ep',ho',r'⟩:=hm
  rw [ho] at ho';cases ho'
  exact ⟨_,es',ep',hL,r'⟩) hok hg
theorem Inv.turned {t':Nat} {it:Addr} (I:Inv X pins σ H s) (k:∀b o,b≠it->s.heap.get? b=some o->h'.get? b=some o) (hn:H it=none) (hL:it≠X.env.locals)
  (h1:it∈X.ex\/X.s₀.heap.objs.size<=it) (h2:∀x c,X.env.cells.lookup x=some c->c≠it) (h3:∀p∈X.pn++pins,p.1≠it):Inv X pins σ H { s with heap:=h',toks:=t' }:=by
 have nit:∀b u,H b=some u->b≠it:=λb u e z=>by rw [z,hn] at e;cases e
 refine I.step (g':=s.gens) (d':=s.drawn) (ch:=[it]) (λb hb=>?_) (λb o _ _ hc e _=>k b o (λz=>hc (by simp [z])) e) (λb o _ _ hc e _=>⟨o.slots,k b o (λz=>hc (by simp [z])) e⟩) (λ_ _ _ _ n=>n)
  (λb o hc e=>⟨o,k b o (λz=>hc (by simp [z])) e⟩) (λ_ _ e=>e) (λ_ _ _ e=>e) (λb ps e=>⟨#[],by rw [e];simp⟩) (λm hm=>?_) (λb u e=>?_) I.bare
 ·have e:b=it:=by simpa using hb
  subst e
  exact ⟨h1,hL,h2,h3⟩
 ·obtain ⟨o,es,ep,ho,r⟩:=hm
  exact ⟨o,es,ep,k _ o (Ne.symm hL) ho,r⟩
 ·refine (I.hok b u e).stay (λc v hc q=>k c v ?_ q) (λ_ q=>q) λ_ _ q=>q
  rcases hc with z | z
  ·rw [z];exact nit b u e
  ·exact nit c _ z
theorem Inv.tok (I:Inv X pins σ H s) (t:Nat):Inv X pins σ H { s with toks:=t }:=I.un (h':=s.heap) (t':=t) Un.refl I.hok
theorem Inv.kept {t':Nat} (I:Inv X pins σ H s) (k:∀b u,s.heap.get? b=some u->h'.get? b=some u):Inv X pins σ H { s with heap:=h',toks:=t' }:=I.un (Un.kept k) (I.hok.kept k)
theorem Inv.laid {a:Addr} {o:HO} {t':Nat} (I:Inv X pins σ H s) (k:∀b u,s.heap.get? b=some u->h'.get? b=some u) (hp:s.heap.objs.size<=a) (new:Jo X.prog X.w (upd H a o) h' a o) :
  Inv X pins σ (upd H a o) { s with heap:=h',toks:=t' }:=I.un (Un.laid k hp (I.hok.fresh hp)) (I.hok.laid k hp new)
theorem Inv.write {x e:Addr} {o:HO} {t':Nat} (I:Inv X pins σ H s) (mu:Mut (H x)) (he:e=x\/H e=some (.own x)) (k:∀b u,b≠e->s.heap.get? b=some u->h'.get? b=some u) (heo:∃u,h'.get? e=some u)
  (new:Jo X.prog X.w (upd H x o) h' x o):Inv X pins σ (upd H x o) { s with heap:=h',toks:=t' }:=I.un (Un.write mu he k heo) (I.hok.write mu he k heo new)
theorem Inv.pins_of {pins':List (Addr × Obj)} (I:Inv X pins σ H s) (h:∀p∈pins',s.heap.get? p.1=some p.2/\H p.1=none/\p.1≠X.env.locals/\p.1∉X.fs/\∀v,p.2.data ≠ .cell v):Inv X pins' σ H s :=
 ⟨I.ok,I.os,I.bare,I.base,I.loc,I.cell,I.free,I.freeC,λp hp=>(List.mem_append.mp hp).elim (λz=>I.pin p (List.mem_append_left _ z)) (h p),I.hok,I.len⟩
theorem Qd9 {N:List Str} (hN:N.Nodup) {i j:Nat} {x:Str} (a:N[i]? = some x) (b:N[j]? = some x):i=j:=by
 obtain ⟨h1,e1⟩:=List.getElem?_eq_some_iff.mp a
 obtain ⟨h2,e2⟩:=List.getElem?_eq_some_iff.mp b
 exact (List.getElem_inj hN).mp (e1.trans e2.symm)
theorem Qa8 {M:Model} {A:Around} {E:Value->Shared->Prop} {i:Nat} {x:Str} {v:V} {u:Value} {Q:Unit->Shared->Prop} (I:Inv X pins σ H s) (hN:X.N.Nodup) (hi:X.N[i]? = some x) (hx:Loc X.env.scope x) (r:RelV v u)
  (h:∀s',Inv X pins (σ.set i (some v)) H s'->(∃a,Heap.SameBut a s.heap s'.heap/\(a=X.env.locals\/X.env.cells.lookup x=some a))->Q () s') (hf:X.fn x=true\/X.env.scope.names.lookup x=some .local:=by first | exact .inl rfl | exact .inr rfl | assumption):wpAny M A (storeName X.env x u) Q E s:=by
 obtain ⟨m,hn,hl⟩:=id I.loc
 have hcls:(X.env.scope.kind == .class || (X.env.scope.kind == .module && X.env.locals != X.env.globals))=false:=by rw [I.ok.kind];rfl
 have hiσ:i<σ.length:=by rw [I.len];exact (List.getElem?_eq_some_iff.mp hi).1
 have cne:=I.cne
 have tracked:∀{a:Addr} {h':Heap},(∃o,s.heap.get? a=some o/\H a=none)->Heap.SameBut a s.heap h'->HOk X.prog X.w H h':=λ{a h'} ha hs b ob e=>by
  obtain ⟨_,_,hfree⟩:=ha
  refine (I.hok b ob e).stay (λc w' hc q=>(hs.2 c ?_).trans q) (λ_ q=>q) λ_ _ q=>q
  rintro rfl
  rcases hc with rfl | hc
  ·rw [hfree] at e;cases e
  ·rw [hfree] at hc;cases hc
 rcases hx with hk | hk
 ·refine wpAny_storeName_local hk hn (λh' hn' hs=>?_) hcls
  obtain ⟨oL,_,_,hoL,_⟩:=id hn
  refine h _ ⟨I.ok,I.os,I.bare,⟨λb o e n hb hx=>?_,λb o e n hb hx=>?_,I.base.free,λb o e hx=>?_,I.base.tups,I.base.frzs,I.base.tbls⟩,⟨_,hn',λj y v' e1 e2 e3=>?_⟩,λy c e=>?_,I.free,I.freeC,λp hp=>?_,tracked ⟨oL,hoL,I.free⟩ hs,by simpa using I.len⟩ ⟨_,hs,.inl rfl⟩
  ·exact (hs.2 b (Nat.ne_of_lt (Nat.lt_of_lt_of_le (Heap.lt_size e) I.ok.above))).trans (I.base.keep b o e n hb hx)
  ·obtain ⟨sl,e1⟩:=I.base.slot b o e n hb hx
   exact ⟨sl,(hs.2 b (Nat.ne_of_lt (Nat.lt_of_lt_of_le (Heap.lt_size e) I.ok.above))).trans e1⟩
  ·obtain ⟨o',e1⟩:=I.base.there b o e hx
   exact ⟨o',(hs.2 b (Nat.ne_of_lt (Nat.lt_of_lt_of_le (Heap.lt_size e) I.ok.above))).trans e1⟩
  ·by_cases hj:j=i
   ·subst hj
    rw [hi] at e1;cases e1
    rw [List.getElem?_set_self hiσ] at e2
    cases e2
    exact ⟨u,r,.inl ⟨hk,by simp⟩⟩
   ·rw [List.getElem?_set_ne (Ne.symm hj)] at e2
    obtain ⟨u',r',q⟩:=hl j y v' e1 e2 e3
    refine ⟨u',r',?_⟩
    rcases q with ⟨k,e⟩ | ⟨k,c,e,z⟩
    ·refine .inl ⟨k,?_⟩
     have:y≠x:=λe=>hj (Qd9 hN e1 (e ▸ hi))
     simp [this,e]
    ·exact .inr ⟨k,c,e,z.sameBut hs (cne y c e)⟩
  ·obtain ⟨w',z⟩:=I.cell y c e
   exact ⟨w',z.sameBut hs (cne y c e)⟩
  ·obtain ⟨e,n,ne,nf,d⟩:=I.pin p hp
   exact ⟨(hs.2 p.1 ne).trans e,n,ne,nf,d⟩
 ·have hfn:X.fn x=true:=by
   rcases hf with z | z
   ·exact z
   ·rw [z] at hk;cases hk
  obtain ⟨c,hc⟩:=I.ok.has x (.inl hk)
  obtain ⟨w',z⟩:=I.cell x c hc
  refine wpAny_storeName_cell I.ok.kind hk hc z (λh' hc' hs=>?_)
  obtain ⟨oc,hoc,hocd⟩:=id z
  refine h { s with heap:=h' } ⟨I.ok,I.os,I.bare,⟨λb o e n hb hx=>?_,λb o e n hb hx=>?_,I.base.free,λb o e hx=>?_,I.base.tups,I.base.frzs,I.base.tbls⟩,⟨m,hn.sameBut hs (Ne.symm (cne x c hc)),λj y v' e1 e2 e3=>?_⟩,λy c' e=>?_,I.free,I.freeC,λp hp=>?_,tracked ⟨oc,hoc,I.freeC x c hc⟩ hs,by simpa using I.len⟩ ⟨c,hs,.inr hc⟩
  ·exact (hs.2 b (Nat.ne_of_lt (Nat.lt_of_lt_of_le (Heap.lt_size e) (I.ok.cab x c hfn hc)))).trans (I.base.keep b o e n hb hx)
  ·obtain ⟨sl,e1⟩:=I.base.slot b o e n hb hx
   exact ⟨sl,(hs.2 b (Nat.ne_of_lt (Nat.lt_of_lt_of_le (Heap.lt_size e) (I.ok.cab x c hfn hc)))).trans e1⟩
  ·obtain ⟨o',e1⟩:=I.base.there b o e hx
   exact ⟨o',(hs.2 b (Nat.ne_of_lt (Nat.lt_of_lt_of_le (Heap.lt_size e) (I.ok.cab x c hfn hc)))).trans e1⟩
  ·by_cases hj:j=i
   ·subst hj
    rw [hi] at e1;cases e1
    rw [List.getElem?_set_self hiσ] at e2
    cases e2
    exact ⟨u,r,.inr ⟨.inl hk,c,hc,hc'⟩⟩
   ·rw [List.getElem?_set_ne (Ne.symm hj)] at e2
    obtain ⟨u',r',q⟩:=hl j y v' e1 e2 e3
    refine ⟨u',r',?_⟩
    rcases q with q | ⟨k,c',e,z'⟩
    ·exact .inl q
    ·refine .inr ⟨k,c',e,z'.sameBut hs ?_⟩
     rintro rfl
     exact hj (Qd9 hN e1 (I.ok.inj _ _ _ e hc ▸ hi))
  ·by_cases hcc:c'=c
   ·subst hcc;exact ⟨_,hc'⟩
   ·obtain ⟨w2,z2⟩:=I.cell y c' e
    exact ⟨w2,z2.sameBut hs hcc⟩
  ·obtain ⟨e,n,ne,nf,d⟩:=I.pin p hp
   refine ⟨(hs.2 p.1 ?_).trans e,n,ne,nf,d⟩
   intro q
   rw [q,hoc] at e
   have q':oc=p.2:=Option.some.inj e
   exact d w' (by rw [← q'];exact hocd)
theorem Xz {M:Model} {A:Around} {E:Value->Shared->Prop} {i:Nat} {x:Str} {v:V} {u:Value} {Q:Unit->Shared->Prop} (I:Inv X pins σ H s) (hN:X.N.Nodup) (hi:X.N[i]? = some x) (hx:Loc X.env.scope x) (r:RelV v u)
  (h:∀s',Inv X pins (σ.set i (some v)) H s'->Q () s') (hf:X.fn x=true\/X.env.scope.names.lookup x=some .local:=by first | exact .inl rfl | exact .inr rfl | assumption):wpAny M A (storeName X.env x u) Q E s :=
 Qa8 I hN hi hx r (λs' I' _=>h s' I') hf
theorem Inv.call' {s':Shared} {ch:List Addr} (I:Inv X pins σ H s) (ho:s'.os=s.os) (u:Un (frs X.stack) ch H H' s.heap s'.heap) (hok:HOk X.prog X.w H' s'.heap) (hg:AllBare s'.gens)
  (hch:∀b∈ch,(b∈X.ex\/X.s₀.heap.objs.size<=b)/\b≠X.env.locals/\(∀x c,X.env.cells.lookup x=some c->c≠b)/\∀p∈X.pn++pins,p.1≠b):Inv X pins σ H' s':=by
 obtain ⟨h',g',d',t',o'⟩:=s'
 have e:o'=s.os:=ho
 subst e
 exact I.call (g':=g') (t':=t') (d':=d') u hok hg hch
end
abbrev XK:=Value->Option Addr->Hp->Prop
abbrev St:=List (Option V)
abbrev VK:=V->Hp->Prop
abbrev TE:=St->Hp->VK->Prop
abbrev TT:=St->Hp->(Bool->Hp->Prop)->Prop
abbrev TA:=St->Hp->(List V->Hp->Prop)->Prop
structure Ends where
 nx:St->Hp->Prop
 rt:VK
 bk:St->Hp->Prop:=λ_ _=>False
 ct:St->Hp->Prop:=λ_ _=>False
abbrev TS:=Ends->St->Hp->Prop
def EP (X:Cx) (pins:List (Addr × Obj)) (σ:St) (Q:VK) (u:Value) (s':Shared):Prop:=∃v H',Inv X pins σ H' s'/\RelV v u/\Q v H'
def TP (X:Cx) (pins:List (Addr × Obj)) (σ:St) (Q:Bool->Hp->Prop) (b:Bool) (s':Shared):Prop:=∃H',Inv X pins σ H' s'/\Q b H'
def AP (X:Cx) (pins:List (Addr × Obj)) (σ:St) (Q:List V->Hp->Prop) (us:List Value) (s':Shared):Prop:=∃vs H',Inv X pins σ H' s'/\Vals vs us/\Q vs H'
def SP (X:Cx) (pins:List (Addr × Obj)) (D:Ends) (f:Flow) (s':Shared):Prop :=
 match f with
 | .next=>∃σ' H',Inv X pins σ' H' s'/\D.nx σ' H'
 | .brk=>∃σ' H',Inv X pins σ' H' s'/\D.bk σ' H'
 | .cont=>∃σ' H',Inv X pins σ' H' s'/\D.ct σ' H'
 | .ret u=>∃v σ' H',Inv X pins σ' H' s'/\RelV v u/\D.rt v H'
def PE (X:Cx) (e:Expr) (t:TE):Prop :=
 ∀(pins:List (Addr × Obj)) (s:Shared) (σ:St) (H:Hp) (Q:VK),Inv X pins σ H s->t σ H Q->wpAny (model X.prog X.w) X.A (eval e X.env) (EP X pins σ Q) X.xe s
def PT (X:Cx) (e:Expr) (t:TT):Prop :=
 ∀(pins:List (Addr × Obj)) (s:Shared) (σ:St) (H:Hp) (Q:Bool->Hp->Prop),Inv X pins σ H s->t σ H Q->wpAny (model X.prog X.w) X.A (isTrue e X.env (eval e X.env)) (TP X pins σ Q) X.xe s
def PW (X:Cx) (e:Expr) (t:TT):Prop :=
 ∀(whole:Sem Value) (pins:List (Addr × Obj)) (s:Shared) (σ:St) (H:Hp) (Q:Bool->Hp->Prop),Inv X pins σ H s->t σ H Q->wpAny (model X.prog X.w) X.A (isTrue e X.env whole) (TP X pins σ Q) X.xe s
theorem PW.pt {X:Cx} {e:Expr} {t:TT} (h:PW X e t):PT X e t:=h _
def PA (X:Cx) (es:List Expr) (t:TA):Prop :=
 ∀(pos:Pos) (pins:List (Addr × Obj)) (s:Shared) (σ:St) (H:Hp) (Q:List V->Hp->Prop),Inv X pins σ H s->t σ H Q->wpAny (model X.prog X.w) X.A (spliced (backTo pos (starEach es X.env))) (AP X pins σ Q) X.xe s
def PS (X:Cx) (st:Stmt) (t:TS):Prop :=
 ∀(pins:List (Addr × Obj)) (s:Shared) (σ:St) (H:Hp) (D:Ends),Inv X pins σ H s->t D σ H->wpAny (model X.prog X.w) X.A (exec st X.env) (SP X pins D) X.xe s
def PSs (X:Cx) (st:List Stmt) (t:TS):Prop :=
 ∀(pins:List (Addr × Obj)) (s:Shared) (σ:St) (H:Hp) (D:Ends),Inv X pins σ H s->t D σ H->wpAny (model X.prog X.w) X.A (execs st X.env) (SP X pins D) X.xe s
theorem thn {α:Type} {t:Sem α} {Q Q':α->Shared->Prop} {M:Model} {A:Around} {E:Value->Shared->Prop} {s:Shared} (h:wpAny M A t Q E s) (hQ:∀a s,Q a s->Q' a s):wpAny M A t Q' E s:=wpAny_mono h hQ λ_ _ x=>x
end L2
namespace L2
open PySem PySem.Spec PyProof.Rows
section
variable {X:Cx}
theorem bin {a b:Expr} {ta tb:TE} (ha:PE X a ta) (hb:PE X b tb) {pins:List (Addr × Obj)} {s:Shared} {σ:St} {H:Hp} {R:V->V->Hp->Prop} (I:Inv X pins σ H s) (h:ta σ H λx H1=>tb σ H1 λy H2=>R x y H2)
  {α:Type} {Q:α->Shared->Prop} {f:Value->Value->Sem α}
  (hf:∀v u s2 x y H2,Inv X pins σ H2 s2->RelV x v->RelV y u->R x y H2->wpAny (model X.prog X.w) X.A (f v u) Q X.xe s2) :
  wpAny (model X.prog X.w) X.A (eval a X.env) (λv s₁=>wpAny (model X.prog X.w) X.A (eval b X.env) (λu s₂=>wpAny (model X.prog X.w) X.A (f v u) Q X.xe s₂) X.xe s₁) X.xe s:=by
 refine thn (ha pins s σ H _ I h) λv s1 ⟨x,H1,I1,r1,q1⟩=>?_
 refine thn (hb pins s1 σ H1 _ I1 q1) λu s2 ⟨y,H2,I2,r2,q2⟩=>?_
 exact hf v u s2 x y H2 I2 r1 r2 q2
def tVar (i:Nat):TE:=λσ H Q=>∃v,σ[i]? = some (some v)/\Q v H
def tC (v:V):TE:=λ_ H Q=>Q v H
theorem Jt {i:Nat} {x:Str} {pos:Pos} (hN:X.N[i]? = some x) (hv:Vis X.env.scope x) (hd:(x == ("__debug__" : Str))=false:=by decide) (hcd:(x == ("__classdict__" : Str))=false:=by decide):PE X (.Name x pos) (tVar i):=by
 intro pins s σ H Q I h
 obtain ⟨v,e,h⟩:=h
 obtain ⟨m,hn,hl⟩:=I.loc
 obtain ⟨u,r,l⟩:=hl i x v hN e hv
 have fin:EP X pins σ Q u s:=⟨v,H,I,r,h⟩
 rcases l with ⟨hk,hm⟩ | ⟨hk,c,hc,hcell⟩
 ·exact wpAny_Name (wpAny_loadName_local I.ok.kind hk hn hm fin) hd
 ·rcases hk with hk | hk
  ·exact wpAny_Name (wpAny_loadName_cell I.ok.kind hk hc hcell fin) hd
  ·exact wpAny_Name (wpAny_loadName_free I.ok.kind hk hc hcell fin hcd) hd
theorem Qo7 {i j pos}:PE X (.Constant (.int i) j pos) (tC (.int i)):=λ_ _ _ H _ I h=>wpAny_Constant_int ⟨.int i,H,I.tok _,⟨_,rfl⟩,h⟩
theorem Qpa {b j pos}:PE X (.Constant (.bool b) j pos) (tC (.bl b)):=λ_ _ _ H _ I h=>Constant_bool ⟨.bl b,H,I,rfl,h⟩
def Gl (X:Cx) (x:Str):Prop:=X.env.kindOf x=some .globalImplicit
theorem Qad {E:Value->Shared->Prop} {pins:List (Addr × Obj)} {s:Shared} {σ:St} {H:Hp} {x:Str} {u:Value} {pos:Pos} {Q:Value->Shared->Prop} (I:Inv X pins σ H s) (hg:Gl X x) (hm:X.mg x=some u) (h:Q u s)
  (hd:(x == ("__debug__" : Str))=false:=by decide):wpAny (model X.prog X.w) X.A (eval (.Name x pos) X.env) Q E s :=
 Calls.Name_function_global I.ok.kind hg (Calls.loadGlobal_global (by rw [I.ok.glob];exact I.mod.glob.keeps I.bk) hm h) hd
theorem Xr {E:Value->Shared->Prop} {pins:List (Addr × Obj)} {s:Shared} {σ:St} {H:Hp} {x:Str} {u:Value} {pos:Pos} {Q:Value->Shared->Prop} (I:Inv X pins σ H s) (hg:Gl X x) (hm:X.mg x=none) (hv:bootBuiltins x=some u) (h:Q u s)
  (hn:x ≠ "__name__":=by decide) (hd:(x == ("__debug__" : Str))=false:=by decide):wpAny (model X.prog X.w) X.A (eval (.Name x pos) X.env) Q E s:=by
 obtain ⟨mb,h1,h2⟩:=I.mod.blt
 exact Calls.Name_function_global I.ok.kind hg (Calls.loadGlobal_builtin (by rw [I.ok.glob];exact I.mod.glob.keeps I.bk) hm (by rw [I.ok.blt];exact h1.keeps I.bk) ((h2 x hn).trans hv) h) hd
theorem Qmx {x:Str} {v:V} {u:Value} {pos:Pos} (hg:Gl X x) (hm:X.mg x=some u) (r:RelV v u) (hd:(x == ("__debug__" : Str))=false:=by decide):PE X (.Name x pos) (tC v) :=
 λ_ _ _ H _ I h=>Qad I hg hm ⟨v,H,I,r,h⟩ hd
theorem Qm1 {x:Str} {v:V} {u:Value} {pos:Pos} (hg:Gl X x) (hm:X.mg x=none) (hv:bootBuiltins x=some u) (r:RelV v u) (hn:x ≠ "__name__":=by decide) (hd:(x == ("__debug__" : Str))=false:=by decide):PE X (.Name x pos) (tC v) :=
 λ_ _ _ H _ I h=>Xr I hg hm hv ⟨v,H,I,r,h⟩ hn hd
variable {a b:Expr} {ta tb:TE} {pos:Pos}
variable {tA tB':TT} {rest:List Expr}
def tAnd (t u:TT):TT:=λσ H Q=>t σ H λc H1=>if c=true then u σ H1 Q else Q false H1
def tOr (t u:TT):TT:=λσ H Q=>t σ H λc H1=>if c=true then Q true H1 else u σ H1 Q
def tNot (t:TT):TT:=λσ H Q=>t σ H λc H1=>Q (!c) H1
theorem Qmh (ha:PT X a tA):PW X (.BoolOp .And [a] pos) tA:=by
 intro wh pins s σ H Q I h
 refine isTrue_and (thn (ha pins s σ H Q I h) λc s1 e=>?_)
 cases c with
 | true=>exact isTrue_and_nil e
 | false=>exact e
theorem Qo0 (ha:PT X a tA):PW X (.BoolOp .Or [a] pos) tA:=by
 intro wh pins s σ H Q I h
 refine isTrue_or (thn (ha pins s σ H Q I h) λc s1 e=>?_)
 cases c with
 | false=>exact isTrue_or_nil e
 | true=>exact e
theorem Qo1 (ha:PT X a tA) (hb:PW X (.BoolOp .And (b::rest) pos) tB'):PW X (.BoolOp .And (a::b::rest) pos) (tAnd tA tB'):=by
 intro wh pins s σ H Q I h
 refine isTrue_and (thn (ha pins s σ H _ I h) λc s1 ⟨H1,I1,q1⟩=>?_)
 cases c with
 | true=>exact hb wh pins s1 σ H1 Q I1 q1
 | false=>exact ⟨H1,I1,q1⟩
theorem Qru (ha:PT X a tA) (hb:PW X (.BoolOp .Or (b::rest) pos) tB'):PW X (.BoolOp .Or (a::b::rest) pos) (tOr tA tB'):=by
 intro wh pins s σ H Q I h
 refine isTrue_or (thn (ha pins s σ H _ I h) λc s1 ⟨H1,I1,q1⟩=>?_)
 cases c with
 | true=>exact ⟨H1,I1,q1⟩
 | false=>exact hb wh pins s1 σ H1 Q I1 q1
theorem Qo2 (ha:PT X a tA):PT X (.UnaryOp .Not a pos) (tNot tA):=by
 intro pins s σ H Q I h
 exact isTrue_not (ha pins s σ H (λc H1=>Q (!c) H1) I h)
end
end L2
namespace L2
open PySem PySem.Spec PyProof.Rows
def SqL (K:PySem.W.Frag) (H:Hp) (a:Addr) (xs:List V):Prop :=
 Rd H a (.lst xs) \/
  ∃(o:Obj) (its:Array Value) (n:Nat),K.lookup a=some o/\o.cls=.type "list" /\ o.dict=none/\o.data=.seq its n/\its.size<=sizeLine/\Vals xs its.toList
def SqT (K:PySem.W.Frag) (H:Hp) (a:Addr) (xs:List V):Prop :=
 Rd H a (.tup xs) \/
  ∃(o:Obj) (its:Array Value) (n:Nat),K.lookup a=some o/\o.cls=.type "tuple" /\ o.data=.seq its n/\its.size<=sizeLine/\Vals xs its.toList
def absV:Value->Option V
 | .none=>some .non
 | .bool b=>some (.bl b)
 | .int i _=>some (.int i)
 | .str x _=>some (.str x)
 | .bytes b _=>some (.byt b)
 | .float b _=>some (.flt b)
 | .ref a=>some (.ref a)
 | .type n=>some (.ty n)
 | _=>none
theorem RelV.abs {x:V} {u:Value} (r:RelV x u):absV u=some x:=by
 cases x with
 | non=>cases r;rfl
 | bl _=>cases r;rfl
 | int _=>obtain ⟨t,rfl⟩:=r;rfl
 | str _=>obtain ⟨t,rfl⟩:=r;rfl
 | byt _=>obtain ⟨t,rfl⟩:=r;rfl
 | flt _=>obtain ⟨t,rfl⟩:=r;rfl
 | ref _=>cases r;rfl
 | ty _=>cases r;rfl
theorem RelV.inj {x y:V} {u:Value} (r:RelV x u) (q:RelV y u):x=y:=Option.some.inj (r.abs.symm.trans q.abs)
theorem Vals.inj:∀{xs ys:List V} {us:List Value},Vals xs us->Vals ys us->xs=ys
 | _,_,_,.nil,.nil=>rfl
 | _,_,_,.cons r t,.cons r' t'=>by rw [r.inj r',Vals.inj t t']
section
variable {X:Cx} {pins:List (Addr × Obj)} {σ:St} {H:Hp} {s:Shared} {a:Addr} {xs ys:List V}
theorem SqL.of {K:PySem.W.Frag} (h:H a=some (.lst xs)):SqL K H a xs:=.inl (.inl h)
theorem SqT.of {K:PySem.W.Frag} (h:H a=some (.tup xs)):SqT K H a xs:=.inl (.inl h)
theorem Inv.list (I:Inv X pins σ H s) (h:SqL X.K H a xs):∃its:List Value,Vals xs its/\PlainL s.heap a its.toArray/\xs.length<=sizeLine:=by
 rcases h with h | ⟨o,its,n,hk,hc,hd,hs,hz,r⟩
 ·obtain ⟨z,its,n,r,e⟩:=h.ok I.hok
  exact ⟨its,r,⟨_,n,e,rfl,rfl,rfl⟩,z⟩
 ·refine ⟨its.toList,r,⟨o,n,I.kIn a o hk,hc,hd,by simpa using hs⟩,?_⟩
  have e:=r.length
  simp only [Array.length_toList] at e
  omega
theorem Inv.tuple (I:Inv X pins σ H s) (h:SqT X.K H a xs):∃its:List Value,Vals xs its/\IsTup s.heap a its.toArray/\xs.length<=sizeLine:=by
 rcases h with h | ⟨o,its,n,hk,hc,hs,hz,r⟩
 ·obtain ⟨z,its,r,p⟩:=h.ok I.hok
  exact ⟨its,r,p,z⟩
 ·refine ⟨its.toList,r,⟨o,I.kIn a o hk,hc,n,by simpa using hs⟩,?_⟩
  have e:=r.length
  simp only [Array.length_toList] at e
  omega
theorem Inv.list_inj (I:Inv X pins σ H s) (h:SqL X.K H a xs) (h':SqL X.K H a ys):xs=ys:=by
 obtain ⟨its,r,⟨o,n,e,_,_,d⟩,_⟩:=I.list h
 obtain ⟨its',r',⟨o',n',e',_,_,d'⟩,_⟩:=I.list h'
 rw [e] at e';cases e'
 rw [d] at d'
 injection d' with d1 _
 have:its=its':=by simpa using congrArg Array.toList d1
 subst this
 exact r.inj r'
theorem Inv.tuple_inj (I:Inv X pins σ H s) (h:SqT X.K H a xs) (h':SqT X.K H a ys):xs=ys:=by
 obtain ⟨its,r,⟨o,e,_,n,d⟩,_⟩:=I.tuple h
 obtain ⟨its',r',⟨o',e',_,n',d'⟩,_⟩:=I.tuple h'
 rw [e] at e';cases e'
 rw [d] at d'
 injection d' with d1 _
 have:its=its':=by simpa using congrArg Array.toList d1
 subst this
 exact r.inj r'
end
abbrev Cx.wish (X:Cx) (E:Value->Shared->Prop):Cx:={ X with xe:=E }
abbrev Cx.nox (X:Cx):Cx:=X.wish λ_ _=>False
theorem Cx.Ok.wish {X:Cx} (ok:X.Ok) (E:Value->Shared->Prop):(X.wish E).Ok :=
 ⟨ok.mod,ok.kind,ok.glob,ok.blt,ok.above,ok.inj,ok.has,ok.cab,ok.hd,ok.frames,ok.stk,ok.exf,ok.bs,ok.bsz,ok.noex,ok.exfs,ok.funs,ok.frf⟩
theorem Cx.Ok.unwish {X:Cx} {E:Value->Shared->Prop} (ok:(X.wish E).Ok):X.Ok :=
 ⟨ok.mod,ok.kind,ok.glob,ok.blt,ok.above,ok.inj,ok.has,ok.cab,ok.hd,ok.frames,ok.stk,ok.exf,ok.bs,ok.bsz,ok.noex,ok.exfs,ok.funs,ok.frf⟩
section
variable {X:Cx} {pins:List (Addr × Obj)} {σ:St} {H:Hp} {s:Shared} {E:Value->Shared->Prop}
theorem Inv.wish (I:Inv X pins σ H s) (E:Value->Shared->Prop):Inv (X.wish E) pins σ H s:=⟨I.ok.wish E,I.os,I.bare,I.base,I.loc,I.cell,I.free,I.freeC,I.pin,I.hok,I.len⟩
theorem Inv.unwish (I:Inv (X.wish E) pins σ H s):Inv X pins σ H s:=⟨I.ok.unwish,I.os,I.bare,I.base,I.loc,I.cell,I.free,I.freeC,I.pin,I.hok,I.len⟩
theorem SP.unwish {D:Ends} {f:Flow} {s':Shared} (h:SP (X.wish E) pins D f s'):SP X pins D f s':=by
 cases f with
 | next=>obtain ⟨σ',H',I,q⟩:=h;exact ⟨σ',H',I.unwish,q⟩
 | brk=>obtain ⟨σ',H',I,q⟩:=h;exact ⟨σ',H',I.unwish,q⟩
 | cont=>obtain ⟨σ',H',I,q⟩:=h;exact ⟨σ',H',I.unwish,q⟩
 | ret u=>obtain ⟨v,σ',H',I,r,q⟩:=h;exact ⟨v,σ',H',I.unwish,r,q⟩
theorem PSs.nox {st:List Stmt} {t:TS} (h:PSs X.nox st t):PSs X st t:=λpins s σ H D I hw =>
 wpAny_mono (h pins s σ H D (I.wish _) hw) (λ_ _ q=>q.unwish) λ_ _ z=>False.elim z
end
section
variable {X:Cx} {st:Stmt} {rest:List Stmt} {t u:TS} {e:Expr} {te:TE} {pos:Pos}
def Qq9:TS:=λD σ H=>D.nx σ H
def tSeq (t u:TS):TS:=λD σ H=>t { D with nx:=u D } σ H
theorem Qmm:PSs X [] Qq9:=λ_ _ σ H _ I h=>wpAny_execs_nil ⟨σ,H,I,h⟩
theorem Qjc (h1:PS X st t) (h2:PSs X rest u):PSs X (st::rest) (tSeq t u):=by
 intro pins s σ H D I h
 refine wpAny_execs_cons (thn (h1 pins s σ H { D with nx:=u D } I h) λf s1 q=>?_)
 cases f with
 | next =>
  obtain ⟨σ',H',I',q⟩:=q
  exact h2 pins s1 σ' H' D I' q
 | ret v=>exact q
 | brk=>exact q
 | cont=>exact q
theorem Qcr (h1:PS X st t):PSs X [st] t:=by
 intro pins s σ H D I h
 refine wpAny_execs_cons (thn (h1 pins s σ H D I h) λf s1 q=>?_)
 cases f with
 | next=>exact wpAny_execs_nil q
 | ret v=>exact q
 | brk=>exact q
 | cont=>exact q
theorem Inv.quiet {pins:List (Addr × Obj)} {σ:St} {H:Hp} {s:Shared} (I:Inv X pins σ H s):interactive X.env=false:=by simp [interactive,I.ok.kind]
def Qra (te:TE):TS:=λD σ H=>te σ H λ_ H1=>D.nx σ H1
theorem Gj (he:PE X e te) (hs:swapsWith e none pos.line X.env=pure false:=by rfl):PS X (.Expr e pos) (Qra te):=by
 intro pins s σ H D I h
 exact wpAny_Expr_any (thn (he pins s σ H _ I h) λv s1 ⟨x,H1,I1,r1,q1⟩=>⟨σ,H1,I1,q1⟩) I.quiet hs
def tRet (te:TE):TS:=λD σ H=>te σ H D.rt
theorem Qkz (he:PE X e te):PS X (.Return (some e) pos) (tRet te):=by
 intro pins s σ H D I h
 exact wpAny_Return_some (thn (he pins s σ H _ I h) λv s1 ⟨x,H1,I1,r1,q1⟩=>⟨x,σ,H1,I1,r1,q1⟩)
def Qq7:TS:=λD _ H=>D.rt .non H
theorem Qmn:PS X (.Return none pos) Qq7:=λ_ _ σ H _ I h=>wpAny_Return_none ⟨.non,σ,H,I,rfl,h⟩
def tIfS (c:TT) (t u:TS):TS:=λD σ H=>c σ H λb H1=>if b=true then t D σ H1 else u D σ H1
theorem Qrv {c:Expr} {a b:List Stmt} {tc:TT} (hc:PT X c tc) (ha:PSs X a t) (hb:PSs X b u):PS X (.If c a b pos) (tIfS tc t u):=by
 intro pins s σ H D I h
 refine wpAny_If (thn (hc pins s σ H _ I h) λd s1 ⟨H1,I1,q1⟩=>?_)
 cases d with
 | true=>exact ha pins s1 σ H1 D I1 q1
 | false=>exact hb pins s1 σ H1 D I1 q1
end
abbrev TG:=V->St->Hp->(St->Hp->Prop)->Prop
abbrev TGs:=List V->St->Hp->(St->Hp->Prop)->Prop
def PG (X:Cx) (target:Expr) (t:TG):Prop :=
 ∀(pins:List (Addr × Obj)) (s:Shared) (σ:St) (H:Hp) (v:V) (u:Value) (Q:St->Hp->Prop),Inv X pins σ H s->RelV v u->t v σ H Q ->
  wpAny (model X.prog X.w) X.A (assign target X.env u) (λ_ s'=>∃σ' H',Inv X pins σ' H' s'/\Q σ' H') X.xe s
def PGs (X:Cx) (ts:List Expr) (t:TGs):Prop :=
 ∀(pins:List (Addr × Obj)) (s:Shared) (σ:St) (H:Hp) (vs:List V) (us:List Value) (Q:St->Hp->Prop),Inv X pins σ H s->Vals vs us->t vs σ H Q ->
  wpAny (model X.prog X.w) X.A (assignInOrder ((assignEach ts X.env).map (·.2)) us) (λ_ s'=>∃σ' H',Inv X pins σ' H' s'/\Q σ' H') X.xe s
abbrev TSet:=V->V->V->Hp->(Hp->Prop)->Prop
def PSet (X:Cx) (t:TSet):Prop :=
 ∀(pins:List (Addr × Obj)) (s:Shared) (σ:St) (H:Hp) (o i v:V) (ov iv u:Value) (Q:Hp->Prop),Inv X pins σ H s->RelV o ov->RelV i iv->RelV v u->t o i v H Q ->
  wpAny (model X.prog X.w) X.A (setItem ov iv u) (λ_ s'=>∃H',Inv X pins σ H' s'/\Q H') X.xe s
section
variable {X:Cx} {pos:Pos}
def Qh1 (i:Nat):TG:=λv σ H Q=>Q (σ.set i (some v)) H
theorem X6 {i:Nat} {x:Str} (hN:X.N.Nodup) (hi:X.N[i]? = some x) (hx:Loc X.env.scope x) (hf:X.fn x=true\/X.env.scope.names.lookup x=some .local:=by first | exact .inl rfl | exact .inr rfl | assumption):PG X (.Name x pos) (Qh1 i):=by
 intro pins s σ H v u Q I r h
 exact wpAny_assign_Name (Xz I hN hi hx r (λs' I'=>⟨_,H,I',h⟩) hf)
def gNil:TGs:=λvs σ H Q=>vs=[]/\Q σ H
def Qsf (t:TG) (u:TGs):TGs:=λvs σ H Q=>∃v r,vs=v::r/\t v σ H λσ' H'=>u r σ' H' Q
theorem Qmv:PGs X [] gNil:=by
 intro pins s σ H vs us Q I r h
 obtain ⟨e,h⟩:=h
 subst e
 cases r
 exact assignInOrder_nil ⟨σ,H,I,h⟩
theorem Qjj {e:Expr} {es:List Expr} {t:TG} {u:TGs} (h1:PG X e t) (h2:PGs X es u)
  (hs:(assignEach (e::es) X.env).map (·.2)=assign e X.env::(assignEach es X.env).map (·.2):=by rfl):PGs X (e::es) (Qsf t u):=by
 intro pins s σ H vs us Q I r h
 obtain ⟨v,vr,e1,h⟩:=h
 subst e1
 cases r with
 | cons r rr =>
  rw [hs]
  refine assignInOrder_cons (thn (h1 pins s σ H _ _ _ I r h) λ_ s1 ⟨σ1,H1,I1,q1⟩=>?_)
  exact h2 pins s1 σ1 H1 _ _ Q I1 rr q1
def gTup (K:PySem.W.Frag) (n:Nat) (t:TGs):TG:=λv σ H Q=>∃a xs,v=.ref a/\SqT K H a xs/\xs.length=n/\t xs σ H Q
theorem Qo4 {es:List Expr} {k:Nat} {t:TGs} {n:Nat} (hc:X.calm=true) (h:PGs X es t)
  (hn:(assignEach es X.env).length=n:=by rfl) (hst:(assignEach es X.env).findIdx? (·.1)=none:=by rfl):PG X (.Tuple es k pos) (gTup X.K n t):=by
 intro pins s σ H v u Q I r hw
 obtain ⟨a,xs,e1,hq,hl,hw⟩:=hw
 subst e1
 cases r
 obtain ⟨its,rv,ht,hz⟩:=I.tuple hq
 refine assign_Tuple_tuple (I.ok.hd hc) ht (by simp [hn,← hl,rv.length]) hst λh' hx=>?_
 have I1:Inv X pins σ H { s with heap:=h' }:=I.kept (t':=s.toks) λb o e=>hx b o (Nat.ne_of_lt (Heap.lt_size e)) e
 exact h pins _ σ H xs _ Q I1 (by simpa using rv) hw
def gSub (to ti:TE) (t:TSet):TG:=λv σ H Q=>to σ H λo H1=>ti σ H1 λi H2=>t o i v H2 λH3=>Q σ H3
theorem Qg3 {o i:Expr} {to ti:TE} {t:TSet} (ho:PE X o to) (hi:PE X i ti) (hs:PSet X t)
  (ha:∀v,assign (.Subscript o i pos) X.env v=(do
   let ov ← holding [v] (eval o X.env)
   let iv ← holding [v,ov] (eval i X.env)
   standAt pos
   holding [v,ov,iv] (setItem ov iv v)
   release [v,ov,iv] []):=by intro _;rfl):PG X (.Subscript o i pos) (gSub to ti t):=by
 intro pins s σ H v u Q I r h
 rw [ha]
 refine wpAny_bind (wpAny_holding (thn (ho pins s σ H _ I h) λov s1 ⟨x,H1,I1,r1,q1⟩=>?_))
 refine wpAny_bind (wpAny_holding (thn (hi pins s1 σ H1 _ I1 q1) λiv s2 ⟨y,H2,I2,r2,q2⟩=>?_))
 refine wpAny_bind (wpAny_standAt (wpAny_bind (wpAny_holding (thn (hs pins s2 σ H2 x y v ov iv u _ I2 r1 r2 r q2) λ_ s3 ⟨H3,I3,q3⟩=>?_))))
 exact wpAny_release ⟨σ,H3,I3,q3⟩
def tAsg (te:TE) (g:TG):TS:=λD σ H=>te σ H λx H1=>g x σ H1 D.nx
theorem Qgy {tg e:Expr} {te:TE} {g:TG} (he:PE X e te) (hg:PG X tg g) (hs:swapsWithSole [tg] e pos.line X.env=pure false:=by rfl) (hw:swappedStores [tg] e X.env=pure none:=by rfl)
  (h1:(assignEach [tg] X.env).map (·.2)=[assign tg X.env]:=by rfl):PS X (.Assign [tg] e pos) (tAsg te g):=by
 intro pins s σ H D I h
 refine wpAny_Assign_stores (thn (he pins s σ H _ I h) λv s1 ⟨x,H1,I1,r1,q1⟩=>?_) hs hw
 rw [h1]
 exact thn (hg pins s1 σ H1 x v _ I1 r1 q1) λ_ s2 q=>q
theorem Qo3 {i:Nat} {x:Str} {e:Expr} {te:TE} {pos':Pos} (hN:X.N.Nodup) (hi:X.N[i]? = some x) (hx:Loc X.env.scope x) (he:PE X e te) (hs:swapsWith e (some (.Name x pos')) pos.line X.env=pure false:=by rfl) (hf:X.fn x=true\/X.env.scope.names.lookup x=some .local:=by first | exact .inl rfl | exact .inr rfl | assumption) :
  PS X (.Assign [.Name x pos'] e pos) (tAsg te (Qh1 i)):=by
 intro pins s σ H D I h
 refine wpAny_Assign_Name (thn (he pins s σ H _ I h) λv s1 ⟨y,H1,I1,r1,q1⟩=>?_) hs
 exact Xz I1 hN hi hx r1 (λs2 I2=>⟨_,H1,I2,q1⟩) hf
end
section
variable {X:Cx} {pos:Pos}
def Qoc (c:TT) (tb:TS):TS:=λD σ H=>∃W:Nat->St->Hp->Prop,(∃m,W m σ H)/\∀m σ H,W m σ H ->
 c σ H λb H1=>if b=true then ∃N:St->Hp->Prop,(∀σ' H',N σ' H'->∃m',m' < m/\W m' σ' H')/\tb { D with nx:=N,ct:=N,bk:=D.nx } σ H1 else D.nx σ H1
theorem Qjd {c:Expr} {body:List Stmt} {tc:TT} {tb:TS} (hp:PassesOwn (model X.prog X.w) X.A X.env X.xe) (hc:PT X c tc) (hb:PSs X body tb):PS X (.While c body [] pos) (Qoc tc tb):=by
 intro pins s σ H D I h
 obtain ⟨W,⟨m0,w0⟩,turn⟩:=h
 refine wpAny_While (codeAny_whileLoop (λn s'=>∃σ' H',Inv X pins σ' H' s'/\W n σ' H') ?_ m0 ⟨σ,H,I,w0⟩)
 rintro n s1 ⟨σ1,H1,I1,w1⟩
 refine wpAny_passesOwn hp (thn (hc pins s1 σ1 H1 _ I1 (turn n σ1 H1 w1)) λb s2 ⟨H2,I2,q2⟩=>?_)
 cases b with
 | true =>
  obtain ⟨N,hN,q2⟩:=q2
  rw [if_pos rfl]
  refine wpAny_passesOwn hp (thn (hb pins s2 σ1 H2 _ I2 q2) λf s3 q3=>?_)
  cases f with
  | next =>
   obtain ⟨σ3,H3,I3,n3⟩:=q3
   obtain ⟨m',hm,w3⟩:=hN σ3 H3 n3
   exact ⟨m',hm,σ3,H3,I3,w3⟩
  | cont =>
   obtain ⟨σ3,H3,I3,n3⟩:=q3
   obtain ⟨m',hm,w3⟩:=hN σ3 H3 n3
   exact ⟨m',hm,σ3,H3,I3,w3⟩
  | brk=>exact q3
  | ret v=>exact q3
 | false =>
  rw [if_neg Bool.false_ne_true]
  exact wpAny_execs_nil ⟨σ1,H2,I2,q2⟩
end
structure It where
 go:Nat->Hp->Prop
 yld:Nat->Hp->V->Hp->Prop
 stop:Nat->Hp->Prop
def FpOk (X:Cx) (pins:List (Addr × Obj)) (H:Hp) (b:Addr):Prop :=
 H b=none/\b≠X.env.locals/\b∉X.fs/\(b∈X.ex\/X.s₀.heap.objs.size<=b)/\(∀x c,X.env.cells.lookup x=some c->c≠b)/\∀p∈X.pn++pins,p.1≠b
theorem Inv.fpOk {X:Cx} {pins:List (Addr × Obj)} {σ:St} {H H':Hp} {s:Shared} {b:Addr} (I:Inv X pins σ H s) (hb:s.heap.objs.size<=b) (hn:H' b=none):FpOk X pins H' b:=by
 refine ⟨hn,Nat.ne_of_gt (Nat.lt_of_lt_of_le I.lt hb),I.nofs hb,.inr (Nat.le_trans I.sz hb),λx c e z=>?_,λp hp z=>?_⟩
 ·obtain ⟨v,q⟩:=I.cell x c e
  exact absurd (Nat.lt_of_lt_of_le q.lt (by rw [z];exact hb)) (Nat.lt_irrefl _)
 ·exact absurd (Nat.lt_of_lt_of_le (Heap.lt_size (I.pin p hp).1) (by rw [z];exact hb)) (Nat.lt_irrefl _)
structure Turn (P:Program) (w:World) (K:PySem.W.Frag) (tg:Expr) (J:It) (fp:List Addr) (it:Addr) (tn:Nat->Heap->Prop):Prop where
 mem:it∈fp
 obj:∀i h,tn i h->∀b∈fp,∃o,h.get? b=some o/\∀v,o.data ≠ .cell v
 keep:∀i h h',tn i h->(∀b∈fp,∀o,h.get? b=some o->h'.get? b=some o)->tn i h'
 item:∀(X:Cx),X.prog=P->X.w=w->X.K=K->X.calm=true->∀(i:Nat) (pins:List (Addr × Obj)) (s:Shared) (σ:St) (H:Hp) (E:Value->Shared->Prop),Inv X pins σ H s->(∀b∈fp,FpOk X pins H b)->tn i s.heap->J.go i H ->
  wpAny (model P w) X.A (pyNext (.ref it)) (λr s1=>∃u,r=some u /\
   wpAny (model P w) X.A (letOwnedTupleGo tg (.ref it) u) (λ_ s2=>∃x H',Inv X pins σ H' s2/\RelV x u/\J.yld i H x H'/\tn (i+1) s2.heap/\∀b∈fp,H' b=none) E s1) E s
 done:∀(X:Cx),X.prog=P->X.w=w->X.K=K->X.calm=true->∀(i:Nat) (pins:List (Addr × Obj)) (s:Shared) (σ:St) (H:Hp) (E:Value->Shared->Prop),Inv X pins σ H s->(∀b∈fp,FpOk X pins H b)->tn i s.heap->J.stop i H ->
  wpAny (model P w) X.A (pyNext (.ref it)) (λr s1=>r=none/\Inv X pins σ H s1) E s
 self:∀(A:Around) (i:Nat) (s:Shared) (Q:Value->Shared->Prop) (E:Value->Shared->Prop),tn i s.heap->Q (.ref it) s->wpAny (model P w) A (pyIter (.ref it)) Q E s
abbrev TI:=St->Hp->(It->Hp->Prop)->Prop
def PIE (X:Cx) (pins:List (Addr × Obj)) (σ:St) (tg:Expr) (R:It->Hp->Prop) (itv:Value) (s2:Shared):Prop :=
 ∃(it:Addr) (fp:List Addr) (tn:Nat->Heap->Prop) (J:It) (H':Hp),itv=.ref it/\Inv X pins σ H' s2/\Turn X.prog X.w X.K tg J fp it tn/\tn 0 s2.heap/\(∀b∈fp,FpOk X pins H' b)/\R J H'
def PI (X:Cx) (tg iter:Expr) (wi:TI):Prop :=
 ∀(pins:List (Addr × Obj)) (s:Shared) (σ:St) (H:Hp) (R:It->Hp->Prop),Inv X pins σ H s->wi σ H R ->
  wpAny (model X.prog X.w) X.A (eval iter X.env) (λv s1=>wpAny (model X.prog X.w) X.A (pyIter v) (PIE X pins σ tg R) X.xe s1) X.xe s
theorem Qjv {M:Model} {A:Around} {E:Value->Shared->Prop} {s:Shared} {tg:Expr} {it:Addr} {u:Value} {o:Obj} {n:String} {vs:Array Value} {Q:Unit->Shared->Prop} (ho:s.heap.get? it=some o) (hc:o.cls=.type n) (hd:o.data=.fields vs)
    (hn:["enumerate","zip","dict_itemiterator","dict_reverseitemiterator","odict_iterator","itertools.zip_longest","itertools.pairwise"].contains n=false) (hQ:Q () s):wpAny M A (letOwnedTupleGo tg (.ref it) u) Q E s:=by
  unfold letOwnedTupleGo
  cases tg <;> first
    | exact wpAny_pure hQ
    | (cases u <;> first
        | exact wpAny_pure hQ
        | (refine wpAny_bind (wpAny_load ho ?_)
           rw [hc,hd]
           show wpAny M A (if (["enumerate","zip","dict_itemiterator","dict_reverseitemiterator","odict_iterator","itertools.zip_longest","itertools.pairwise"].contains n && vs[0]? == some (rawInt _))=true then _ else _) Q E s
           rw [if_neg (by intro h;rw [hn,Bool.false_and] at h;cases h)]
           exact wpAny_pure hQ))
def Itl (K:PySem.W.Frag) (a:Addr):It :=
 ⟨λi H=>∃xs x,SqL K H a xs/\xs[i]? = some x,λi H x H'=>H'=H/\∀xs,SqL K H a xs->xs[i]? = some x,λi H=>∃xs,SqL K H a xs/\xs.length<=i⟩
def Itt (K:PySem.W.Frag) (a:Addr):It :=
 ⟨λi H=>∃xs x,SqT K H a xs/\xs[i]? = some x,λi H x H'=>H'=H/\∀xs,SqT K H a xs->xs[i]? = some x,λi H=>∃xs,SqT K H a xs/\xs.length<=i⟩
def Itr (lo:Int) (n:Nat):It:=⟨λi _=>i<n,λi H x H'=>H'=H/\x=.int (lo+i),λi _=>n<=i⟩
theorem Qgf {P:Program} {w:World} {K:PySem.W.Frag} {tg:Expr} (a it:Addr):Turn P w K tg (Itl K a) [it] it (λi h=>h.IsListIter it a i) where
 mem:=by simp
 obj:=λi h st b hb=>by
  have e:b=it:=by simpa using hb
  subst e
  obtain ⟨o,e,c,d⟩:=st
  exact ⟨o,e,λv z=>by rw [d] at z;cases z⟩
 keep:=λi h h' st k=>st.at λo e=>k it (by simp) o e
 item:=by
  intro X hP hw hK hc i pins s σ H E I hf st hg
  subst hP hw hK
  obtain ⟨xs,x,hq,hx⟩:=hg
  obtain ⟨its,rv,p,hz⟩:=I.list hq
  obtain ⟨u,hu,ru⟩:=rv.get hx
  obtain ⟨f0,f1,f2,f3,f4,f5⟩:=hf it (by simp)
  refine wpAny_pyNext_list_item st p.isList (x:=u) (by simpa using hu) λh' st' sb=>?_
  have I1:Inv X pins σ H { s with heap:=h' }:=I.turned (t':=s.toks) (λb o hb e=>(sb.2 b hb).trans e) f0 f1 f3 f4 f5
  obtain ⟨o,e,c,d⟩:=id st'
  exact ⟨u,rfl,Qjv (s:={ s with heap:=h' }) e c d (by decide) ⟨x,H,I1,ru,⟨rfl,λys hy=>by rw [I.list_inj hy hq];exact hx⟩,st',λb hb=>(hf b hb).1⟩⟩
 done:=by
  intro X hP hw hK hc i pins s σ H E I hf st hg
  subst hP hw hK
  obtain ⟨xs,hq,hx⟩:=hg
  obtain ⟨its,rv,p,hz⟩:=I.list hq
  obtain ⟨f0,f1,f2,f3,f4,f5⟩:=hf it (by simp)
  have hl:=rv.length
  exact wpAny_pyNext_list_end (I.ok.hd hc) st p.isList (by simp;omega) λh' eb=>⟨rfl,I.turned (t':=s.toks) (λb o hb e=>eb b o hb e) f0 f1 f3 f4 f5⟩
 self:=λ_ _ _ _ _ st h=>wpAny_pyIter_listiter st h
theorem Qe1 {P:Program} {w:World} {K:PySem.W.Frag} {tg:Expr} (a it:Addr):Turn P w K tg (Itt K a) [it] it (λi h=>h.IsTupleIter it a i) where
 mem:=by simp
 obj:=λi h st b hb=>by
  have e:b=it:=by simpa using hb
  subst e
  obtain ⟨o,e,c,d⟩:=st
  exact ⟨o,e,λv z=>by rw [d] at z;cases z⟩
 keep:=λi h h' st k=>st.at λo e=>k it (by simp) o e
 item:=by
  intro X hP hw hK hc i pins s σ H E I hf st hg
  subst hP hw hK
  obtain ⟨xs,x,hq,hx⟩:=hg
  obtain ⟨its,rv,p,hz⟩:=I.tuple hq
  obtain ⟨u,hu,ru⟩:=rv.get hx
  obtain ⟨f0,f1,f2,f3,f4,f5⟩:=hf it (by simp)
  refine wpAny_pyNext_tuple_item st (show s.heap.IsTuple a its.toArray from p) (x:=u) (by simpa using hu) λh' st' sb=>?_
  have I1:Inv X pins σ H { s with heap:=h' }:=I.turned (t':=s.toks) (λb o hb e=>(sb.2 b hb).trans e) f0 f1 f3 f4 f5
  obtain ⟨o,e,c,d⟩:=id st'
  exact ⟨u,rfl,Qjv (s:={ s with heap:=h' }) e c d (by decide) ⟨x,H,I1,ru,⟨rfl,λys hy=>by rw [I.tuple_inj hy hq];exact hx⟩,st',λb hb=>(hf b hb).1⟩⟩
 done:=by
  intro X hP hw hK hc i pins s σ H E I hf st hg
  subst hP hw hK
  obtain ⟨xs,hq,hx⟩:=hg
  obtain ⟨its,rv,p,hz⟩:=I.tuple hq
  obtain ⟨f0,f1,f2,f3,f4,f5⟩:=hf it (by simp)
  have hl:=rv.length
  exact wpAny_pyNext_tuple_end (I.ok.hd hc) st (show s.heap.IsTuple a its.toArray from p) (by simp;omega) λh' eb=>⟨rfl,I.turned (t':=s.toks) (λb o hb e=>eb b o hb e) f0 f1 f3 f4 f5⟩
 self:=λ_ _ _ _ _ st h=>wpAny_pyIter_tupleiter st h
theorem Qe2 {P:Program} {w:World} {K:PySem.W.Frag} {tg:Expr} (it:Addr) (lo:Int) (n:Nat):Turn P w K tg (Itr lo n) [it] it (λi h=>IsRangeIter h it (lo+(i:Nat)*1) ((n:Int)-(i:Nat)) 1) where
 mem:=by simp
 obj:=λi h st b hb=>by
  have e:b=it:=by simpa using hb
  subst e
  exact ⟨_,st,λv z=>by
   have z':Data.fields _=Data.cell v:=z
   cases z'⟩
 keep:=λi h h' st k=>k it (by simp) _ st
 item:=by
  intro X hP hw hK hc i pins s σ H E I hf st hg
  subst hP hw hK
  obtain ⟨f0,f1,f2,f3,f4,f5⟩:=hf it (by simp)
  have W:=Walks.range (prog:=X.prog) (w:=X.w) (I.ok.hd hc) it lo 1 n
  refine W.item i s _ _ hg st λv h' tk hv st' kk=>?_
  obtain ⟨t,rfl⟩:=hv
  have I1:Inv X pins σ H { s with heap:=h',toks:=tk }:=I.turned (λb o hb e=>kk b o (by simpa using hb) e) f0 f1 f3 f4 f5
  refine ⟨_,rfl,Qjv (s:={ s with heap:=h',toks:=tk }) (n:="range_iterator") st' rfl rfl (by decide) ⟨.int (lo+i),H,I1,⟨t,?_⟩,⟨rfl,rfl⟩,st',λb hb=>(hf b hb).1⟩⟩
  rw [Int.mul_one]
 done:=by
  intro X hP hw hK hc i pins s σ H E I hf st hg
  subst hP hw hK
  obtain ⟨f0,f1,f2,f3,f4,f5⟩:=hf it (by simp)
  exact wpAny_pyNext_range_end (I.ok.hd hc) st (by have:n<=i:=hg;omega) λh' eb=>⟨rfl,I.turned (t':=s.toks) (λb o hb e=>eb b o hb e) f0 f1 f3 f4 f5⟩
 self:=λ_ _ _ _ _ st h=>wpAny_pyIter_rangeiter st h
end L2
namespace L2
open PySem PySem.Spec PyProof.Rows
section
variable {X:Cx} {tg:Expr}
theorem Qi5 {pins:List (Addr × Obj)} {σ:St} {H:Hp} {s:Shared} {R:It->Hp->Prop} {E:Value->Shared->Prop} {lo hi:Int} {t u v:Tok} {tk:Nat} (I:Inv X pins σ H s) (h1:-(2 ^ 62)<=lo) (h2:lo<2 ^ 62) (h3:-(2 ^ 62)<=hi) (h4:hi<2 ^ 62)
  (q:R (Itr lo (hi-lo).toNat) H):wpAny (model X.prog X.w) X.A (pyIter (.ref s.heap.objs.size)) (PIE X pins σ tg R) E { s with heap:=s.heap.push { cls:=.type "range",data:=.fields #[.int lo t,.int hi u,.int 1 v] },toks:=tk }:=by
 refine wpAny_pyIter_range (IsRange.new ..) (small_one h1 h2 h3 h4) ?_
 have I1:Inv X pins σ H { s with heap:=s.heap.push { cls:=.type "range",data:=.fields #[.int lo t,.int hi u,.int 1 v] },toks:=tk }:=I.kept λb o e=>Heap.get?_push_of_some _ e
 refine ⟨(s.heap.push { cls:=.type "range",data:=.fields #[.int lo t,.int hi u,.int 1 v] }).objs.size,[(s.heap.push { cls:=.type "range",data:=.fields #[.int lo t,.int hi u,.int 1 v] }).objs.size],_,_,H,rfl,
  I1.kept (t':=tk) λb o e=>Heap.get?_push_of_some _ e,Qe2 _ lo (hi-lo).toNat,?_,λb hb=>?_,q⟩
 ·have e1:lo+((0:Nat):Int)*1=lo:=by simp
  have e2:(((hi-lo).toNat:Nat):Int)-((0:Nat):Int)=Builtin.Range.rangeSize lo hi 1:=by rw [rangeSize_one];split <;> omega
  show IsRangeIter _ _ (lo+((0:Nat):Int)*1) ((((hi-lo).toNat:Nat):Int)-((0:Nat):Int)) 1
  rw [e1,e2]
  exact Heap.get?_push_size _ rfl
 ·have e:b=(s.heap.push { cls:=.type "range",data:=.fields #[.int lo t,.int hi u,.int 1 v] }).objs.size:=by simpa using hb
  subst e
  exact I1.fpOk (Nat.le_refl _) (I1.hok.fresh (Nat.le_refl _))
def Qsd (ta:TA):TI:=λσ H R=>ta σ H λvs H1=>∃j:Int,vs=[.int j] /\ -(2 ^ 62)<=j/\j<2 ^ 62/\R (Itr 0 j.toNat) H1
theorem Qg2 {a:Expr} {ta:TA} {p pos:Pos} (hg:Gl X "range") (hm:X.mg "range" = none) (ha:PA X [a] ta) (hs:starEach [a] X.env=[(false,eval a X.env)]:=by rfl):PI X tg (.Call (.Name "range" p) [a] [] pos) (Qsd ta):=by
 intro pins s σ H R I h
 refine Call_ (Xr I hg hm boot_range (PyProof.Rows.callWith_type1 (thn (ha pos pins s σ H _ I h) λus s1 ⟨vs,H1,I1,r1,q1⟩=>?_) hs rfl))
 obtain ⟨j,e,q1,q2,q⟩:=q1
 subst e
 cases r1 with
 | cons r rr =>
  cases rr
  obtain ⟨t,rfl⟩:=r
  exact call_range_1 (Qi5 I1 (by omega) (by omega) q1 q2 (by simpa using q))
def tFor (wi:TI) (g:TG) (tb:TS):TS:=λD σ H=>wi σ H λJ H1=>∃W:Nat->Nat->St->Hp->Prop,(∃m,W 0 m σ H1)/\∀i m σ H,W i m σ H ->
 (J.stop i H/\D.nx σ H)\/(J.go i H/\∃N:St->Hp->Prop,(∀σ' H',N σ' H'->∃m',m' < m/\W (i+1) m' σ' H')/\∀x H',J.yld i H x H'->g x σ H' λσ2 H2=>tb { D with nx:=N,ct:=N,bk:=D.nx } σ2 H2)
def Xk (fp:List Addr) (h:Heap):List (Addr × Obj):=fp.filterMap λb=>(h.get? b).map λo=>(b,o)
theorem Zs {fp:List Addr} {h:Heap} {b:Addr} {o:Obj} (hb:b∈fp) (e:h.get? b=some o):(b,o)∈Xk fp h:=List.mem_filterMap.mpr ⟨b,hb,by rw [e];rfl⟩
theorem Qhe {fp:List Addr} {h:Heap} {p:Addr × Obj} (hp:p∈Xk fp h):p.1∈fp/\h.get? p.1=some p.2:=by
 obtain ⟨b,hb,e⟩:=List.mem_filterMap.mp hp
 cases q:h.get? b with
 | none=>rw [q] at e;cases e
 | some o =>
  rw [q] at e
  have e':(b,o)=p:=Option.some.inj e
  subst e'
  exact ⟨hb,q⟩
theorem Inv.pinned {pins:List (Addr × Obj)} {σ:St} {H:Hp} {s:Shared} {fp:List Addr} (I:Inv X pins σ H s) (hf:∀b∈fp,FpOk X pins H b) (ho:∀b∈fp,∃o,s.heap.get? b=some o/\∀v,o.data ≠ .cell v):Inv X (pins++Xk fp s.heap) σ H s :=
 I.pins_of λp hp=>(List.mem_append.mp hp).elim (λz=>I.pin p (List.mem_append_right _ z)) λz=>by
  obtain ⟨hb,e⟩:=Qhe z
  obtain ⟨f0,f1,f2,_⟩:=hf p.1 hb
  obtain ⟨o,e',d⟩:=ho p.1 hb
  rw [e] at e';cases e'
  exact ⟨e,f0,f1,f2,d⟩
theorem Inv.unpinned {pins pl:List (Addr × Obj)} {σ:St} {H:Hp} {s:Shared} (I:Inv X (pins++pl) σ H s):Inv X pins σ H s:=I.pins_of λp hp=>I.pin p (List.mem_append_right _ (List.mem_append_left _ hp))
theorem Qd4 {iter:Expr} {body:List Stmt} {wi:TI} {g:TG} {tb:TS} {pos:Pos} (hp:PassesOwn (model X.prog X.w) X.A X.env X.xe) (hc:X.calm=true) (hi:PI X tg iter wi) (hg:PG X tg g) (hb:PSs X body tb)
  (hs:∀x,foldedSetIterable iter X.env x=pure x:=by intro _;rfl):PS X (.For tg iter body [] pos) (tFor wi g tb):=by
 intro pins s σ H D I h
 refine wpAny_For (thn (hi pins s σ H _ I h) λv s1 h1=>thn h1 λitv s2 h2=>?_) hs
 obtain ⟨it,fp,tn,J,H2,e,I2,T,st2,f2,W,⟨m0,w0⟩,turn⟩:=h2
 subst e
 -- what stays true of the iterator's objects through the loop
 have stat:∀{H':Hp},(∀b∈fp,H' b=none)->∀b∈fp,FpOk X pins H' b:=λhn b hb=>⟨hn b hb,(f2 b hb).2⟩
 refine codeAny_forLoop_any (λn s'=>∃i σ' H',Inv X pins σ' H' s'/\tn i s'.heap/\(∀b∈fp,H' b=none)/\W i n σ' H') ?_ m0 ⟨0,σ,H2,I2,st2,λb hb=>(f2 b hb).1,w0⟩
 rintro n s3 ⟨i,σ3,H3,I3,st3,fr3,w3⟩
 rcases turn i n σ3 H3 w3 with ⟨stop,qn⟩ | ⟨go,N,hN,step⟩
 ·refine wpAny_passesOwn hp (thn (T.done X rfl rfl rfl hc i pins s3 σ3 H3 X.xe I3 (stat fr3) st3 stop) λr s4 ⟨hr,I4⟩=>?_)
  subst hr
  exact wpAny_execs_nil ⟨σ3,H3,I4,qn⟩
 ·refine wpAny_passesOwn hp (thn (T.item X rfl rfl rfl hc i pins s3 σ3 H3 X.xe I3 (stat fr3) st3 go) λr s4 ⟨u,hr,h4⟩=>?_)
  subst hr
  refine wpAny_passesOwn hp (thn h4 λ_ s5 ⟨x,H5,I5,r5,y5,st5,fr5⟩=>?_)
  have I5':=I5.pinned (stat fr5) (T.obj _ _ st5)
  refine wpAny_passesOwn hp (thn (hg _ s5 σ3 H5 x u _ I5' r5 (step x H5 y5)) λ_ s6 ⟨σ6,H6,I6,q6⟩=>?_)
  refine wpAny_passesOwn hp (thn (hb _ s6 σ6 H6 _ I6 q6) λf s7 q7=>?_)
  have again:∀{σ7:St} {H7:Hp},Inv X (pins++Xk fp s5.heap) σ7 H7 s7->N σ7 H7->∃m,m<n/\∃i σ' H',Inv X pins σ' H' s7/\tn i s7.heap/\(∀b∈fp,H' b=none)/\W i m σ' H':=λ{σ7 H7} I7 n7=>by
   obtain ⟨m',hm,w7⟩:=hN σ7 H7 n7
   refine ⟨m',hm,i+1,σ7,H7,I7.unpinned,T.keep _ _ _ st5 λb hb o e=>(I7.pin (b,o) (List.mem_append_right _ (List.mem_append_right _ (Zs hb e)))).1,λb hb=>?_,w7⟩
   obtain ⟨o,e,d⟩:=T.obj _ _ st5 b hb
   exact (I7.pin (b,o) (List.mem_append_right _ (List.mem_append_right _ (Zs hb e)))).2.1
  cases f with
  | next=>obtain ⟨σ7,H7,I7,n7⟩:=q7;exact again I7 n7
  | cont=>obtain ⟨σ7,H7,I7,n7⟩:=q7;exact again I7 n7
  | brk=>obtain ⟨σ7,H7,I7,q7⟩:=q7;exact ⟨σ7,H7,I7.unpinned,q7⟩
  | ret v=>obtain ⟨x7,σ7,H7,I7,r7,q7⟩:=q7;exact ⟨x7,σ7,H7,I7.unpinned,r7,q7⟩
end
end L2
namespace L2
open PySem PySem.Spec PyProof.Rows
abbrev R2:=V->V->Hp->VK->Prop
def OpR (X:Cx) (f:Value->Value->Sem Value) (r:R2):Prop :=
 ∀(pins:List (Addr × Obj)) (s:Shared) (σ:St) (H:Hp) (x y:V) (v u:Value) (Q:VK),Inv X pins σ H s->RelV x v->RelV y u->r x y H Q ->
  wpAny (model X.prog X.w) X.A (f v u) (EP X pins σ Q) X.xe s
def UnR (X:Cx) (f:Value->Sem Value) (r:V->Hp->VK->Prop):Prop :=
 ∀(pins:List (Addr × Obj)) (s:Shared) (σ:St) (H:Hp) (x:V) (v:Value) (Q:VK),Inv X pins σ H s->RelV x v->r x H Q ->
  wpAny (model X.prog X.w) X.A (f v) (EP X pins σ Q) X.xe s
def Zc (X:Cx) (f:Value) (r:List V->Hp->VK->Prop):Prop :=
 ∀(pins:List (Addr × Obj)) (s:Shared) (σ:St) (H:Hp) (xs:List V) (us:List Value) (Q:VK),Inv X pins σ H s->Vals xs us->r xs H Q ->
  wpAny (model X.prog X.w) X.A (call f us) (EP X pins σ Q) X.xe s
def TruR (X:Cx) (r:V->Hp->(Bool->Hp->Prop)->Prop):Prop :=
 ∀(pins:List (Addr × Obj)) (s:Shared) (σ:St) (H:Hp) (x:V) (v:Value) (Q:Bool->Hp->Prop),Inv X pins σ H s->RelV x v->r x H Q ->
  wpAny (model X.prog X.w) X.A (truthy v) (TP X pins σ Q) X.xe s
def tOp (r:R2) (ta tb:TE):TE:=λσ H Q=>ta σ H λx H1=>tb σ H1 λy H2=>r x y H2 Q
def tUn (r:V->Hp->VK->Prop) (ta:TE):TE:=λσ H Q=>ta σ H λx H1=>r x H1 Q
def rI (C:Int->Int->Prop) (g:Int->Int->V):R2:=λx y H Q=>∃i j,x=.int i/\y=.int j/\C i j/\Q (g i j) H
def rI0 (g:Int->Int->V):R2:=λx y H Q=>∃i j,x=.int i/\y=.int j/\Q (g i j) H
def rU (g:Int->V):V->Hp->VK->Prop:=λx H Q=>∃i,x=.int i/\Q (g i) H
section
variable {X:Cx} {a b c:Expr} {ta tb tc:TE} {pos:Pos}
theorem binT (ha:PE X a ta) (hb:PE X b tb) {pins:List (Addr × Obj)} {s:Shared} {σ:St} {H:Hp} {R:V->V->Hp->Prop} (I:Inv X pins σ H s)
  (h:ta σ H λx H1=>tb σ H1 λy H2=>R x y H2) {Q:Value->Shared->Prop} {f:Value->Value->Sem Value}
  (hf:∀v u s2 x y H2,Inv X pins σ H2 s2->RelV x v->RelV y u->R x y H2->wpAny (model X.prog X.w) X.A (f v u) Q X.xe s2) :
  wpAny (model X.prog X.w) X.A (eval a X.env) (λv s₁=>wpAny (model X.prog X.w) X.A (eval b X.env) (λu s₂=>wpAny (model X.prog X.w) X.A (f v u) Q X.xe s₂) X.xe s₁) X.xe s:=by
 refine thn (ha pins s σ H _ I h) λv s1 ⟨x,H1,I1,r1,q1⟩=>?_
 refine thn (hb pins s1 σ H1 _ I1 q1) λu s2 ⟨y,H2,I2,r2,q2⟩=>?_
 exact hf v u s2 x y H2 I2 r1 r2 q2
theorem Qrx {op:Operator} {r:R2} (ho:OpR X (binaryOp op) r) (ha:PE X a ta) (hb:PE X b tb):PE X (.BinOp a op b pos) (tOp r ta tb):=by
 intro pins s σ H Q I h
 exact wpAny_BinOp (binT ha hb I h λv u s2 x y H2 I2 rx ry q=>ho pins s2 σ H2 x y v u Q I2 rx ry q)
theorem Qrw {op:UnaryOp} {r:V->Hp->VK->Prop} (ho:UnR X (unaryOp op) r) (ha:PE X a ta):PE X (.UnaryOp op a pos) (tUn r ta):=by
 intro pins s σ H Q I h
 exact UnaryOp_ (thn (ha pins s σ H _ I h) λv s1 ⟨x,H1,I1,r1,q1⟩=>ho pins s1 σ H1 x v Q I1 r1 q1)
theorem opI {f:Value->Value->Sem Value} {C:Int->Int->Prop} {g:Int->Int->Int}
  (rule:∀(i j:Int) (t u:Tok) (s:Shared) (Q:Value->Shared->Prop) (E:Value->Shared->Prop),C i j->Q (.int (g i j) s.toks) { s with toks:=s.toks+1 }->wpAny (model X.prog X.w) X.A (f (.int i t) (.int j u)) Q E s) :
  OpR X f (rI C λi j=>.int (g i j)):=by
 intro pins s σ H x y v u Q I rx ry h
 obtain ⟨i,j,rfl,rfl,hc,q⟩:=h
 obtain ⟨t,rfl⟩:=rx
 obtain ⟨t',rfl⟩:=ry
 exact rule i j t t' s _ _ hc ⟨.int (g i j),H,I.tok _,⟨_,rfl⟩,q⟩
theorem opI0 {f:Value->Value->Sem Value} {g:Int->Int->Int}
  (rule:∀(i j:Int) (t u:Tok) (s:Shared) (Q:Value->Shared->Prop) (E:Value->Shared->Prop),Q (.int (g i j) s.toks) { s with toks:=s.toks+1 }->wpAny (model X.prog X.w) X.A (f (.int i t) (.int j u)) Q E s) :
  OpR X f (rI0 λi j=>.int (g i j)):=by
 intro pins s σ H x y v u Q I rx ry h
 obtain ⟨i,j,rfl,rfl,q⟩:=h
 obtain ⟨t,rfl⟩:=rx
 obtain ⟨t',rfl⟩:=ry
 exact rule i j t t' s _ _ ⟨.int (g i j),H,I.tok _,⟨_,rfl⟩,q⟩
theorem opB0 {f:Value->Value->Sem Value} {g:Int->Int->Bool}
  (rule:∀(i j:Int) (t u:Tok) (s:Shared) (Q:Value->Shared->Prop) (E:Value->Shared->Prop),Q (.bool (g i j)) s->wpAny (model X.prog X.w) X.A (f (.int i t) (.int j u)) Q E s) :
  OpR X f (rI0 λi j=>.bl (g i j)):=by
 intro pins s σ H x y v u Q I rx ry h
 obtain ⟨i,j,rfl,rfl,q⟩:=h
 obtain ⟨t,rfl⟩:=rx
 obtain ⟨t',rfl⟩:=ry
 exact rule i j t t' s _ _ ⟨.bl (g i j),H,I,rfl,q⟩
def CDiv (i j:Int):Prop:=0<j/\j<1073741824
def Qsl (i j:Int):Prop:=j≠0/\j.natAbs<1073741824
def CPow (i j:Int):Prop:=0<=j/\j<=1000000/\i.natAbs<2 ^ 64
def CMul (i j:Int):Prop:=(-(2 ^ 64)<i/\i<2 ^ 64)\/(-(2 ^ 64)<j/\j<2 ^ 64)
theorem CMul.ok {i j:Int} (h:CMul i j):IntMulOk i j:=by
 rcases h with ⟨h1,h2⟩ | ⟨h1,h2⟩
 ·exact .of_left (intBits_le_64 h1 h2)
 ·exact .of_right (intBits_le_64 h1 h2)
theorem Qpl:OpR X (binaryOp .Add) (rI0 λi j=>.int (i+j)):=opI0 λ_ _ _ _ _ _ _ q=>add_int q
theorem Qpc:OpR X (binaryOp .Sub) (rI0 λi j=>.int (i-j)):=opI0 λ_ _ _ _ _ _ _ q=>sub_int q
theorem Qph:OpR X (binaryOp .Mult) (rI CMul λi j=>.int (i*j)):=opI λ_ _ _ _ _ _ _ hc q=>mul_int q hc.ok
theorem Qm4:OpR X (binaryOp .FloorDiv) (rI CDiv λi j=>.int (i / j)):=opI λi j _ _ _ _ _ hc q=>by
 have h1:(0:Int)<j:=hc.1
 have h2:j<1073741824:=hc.2
 exact floordiv_int (by omega) (by rw [Int.fdiv_eq_ediv_of_nonneg i (by omega)];exact q) (.inl (PyProof.noPylong_small (by omega)))
theorem Qjo:OpR X (binaryOp .FloorDiv) (rI Qsl λi j=>.int (i.fdiv j)):=opI λ_ _ _ _ _ _ _ hc q=>floordiv_int hc.1 q (.inl (PyProof.noPylong_small hc.2))
theorem Qpi:OpR X (binaryOp .Mod) (rI (λ_ j=>0<j) λi j=>.int (i % j)):=opI λi j _ _ _ _ _ hc q=>by
 have h1:(0:Int)<j:=hc
 exact mod_int' (by omega) (by rw [Int.fmod_eq_emod_of_nonneg i (by omega)];exact q)
theorem Qm3:OpR X (binaryOp .Mod) (rI (λ_ j=>j≠0) λi j=>.int (i.fmod j)):=opI λ_ _ _ _ _ _ _ hc q=>mod_int' hc q
theorem Qpe:OpR X (binaryOp .Pow) (rI CPow λi j=>.int (i ^ j.toNat)):=opI λ_ _ _ _ _ _ _ hc q=>pow_int_small hc.1 hc.2.1 hc.2.2 q
theorem unI {f:Value->Sem Value} {g:Int->Int}
  (rule:∀(i:Int) (t:Tok) (s:Shared) (Q:Value->Shared->Prop) (E:Value->Shared->Prop),Q (.int (g i) s.toks) { s with toks:=s.toks+1 }->wpAny (model X.prog X.w) X.A (f (.int i t)) Q E s) :
  UnR X f (rU λi=>.int (g i)):=by
 intro pins s σ H x v Q I rx h
 obtain ⟨i,rfl,q⟩:=h
 obtain ⟨t,rfl⟩:=rx
 exact rule i t s _ _ ⟨.int (g i),H,I.tok _,⟨_,rfl⟩,q⟩
theorem Qn9:UnR X (unaryOp .USub) (rU λi=>.int (-i)):=unI λ_ _ _ _ _ q=>neg_int q
end
def scal:V->V->Bool
 | .non,.non=>true | .non,.int _=>true | .int _,.non=>true | .non,.bl _=>true | .bl _,.non=>true | .non,.str _=>true | .str _,.non=>true
 | .int _,.int _=>true | .bl _,.bl _=>true | .str _,.str _=>true | .byt _,.byt _=>true
 | .int _,.str _=>true | .str _,.int _=>true | .bl _,.str _=>true | .str _,.bl _=>true
 | _,_=>false
def rEq:R2:=λx y H Q=>scal x y=true/\Q (.bl (decide (x=y))) H
def rNe:R2:=λx y H Q=>scal x y=true/\Q (.bl (!decide (x=y))) H
theorem Qh9 {i j:Int}:decide (V.int i=V.int j)=(i == j):=by
 rw [Bool.eq_iff_iff]
 simp
theorem Qeu {i j:Bool}:decide (V.bl i=V.bl j)=(i == j):=by
 rw [Bool.eq_iff_iff]
 simp
theorem Qh8 {i j:Str}:decide (V.str i=V.str j)=(i == j):=by
 rw [Bool.eq_iff_iff]
 simp
theorem Qia {i j:Array UInt8}:decide (V.byt i=V.byt j)=(i.toList == j.toList):=by
 rw [Bool.eq_iff_iff]
 cases i
 cases j
 simp
section
variable {X:Cx} {a b c:Expr} {ta tb tc:TE} {pos:Pos}
theorem Qz {pins:List (Addr × Obj)} {σ:St} {H:Hp} {s:Shared} {Q:VK} {k k':Bool} (I:Inv X pins σ H s) (q:Q (.bl k) H) (e:k=k'):EP X pins σ Q (.bool k') s:=by
 subst e
 exact ⟨.bl k,H,I,rfl,q⟩
theorem Qr1:OpR X (compareOp .Eq) rEq:=by
 intro pins s σ H x y v u Q I rx ry h
 obtain ⟨hs,q⟩:=h
 cases x with
 | non =>
  cases rx
  cases y with
  | non=>cases ry;exact PySem.EqNone.eq_none_none (Qz I q (by simp))
  | bl j=>cases ry;exact PySem.EqNone.eq_none_bool (Qz I q (by simp))
  | int j=>obtain ⟨t',rfl⟩:=ry;exact PySem.EqNone.eq_none_int (Qz I q (by simp))
  | str j=>obtain ⟨t',rfl⟩:=ry;exact PySem.EqNone.eq_none_str (Qz I q (by simp))
  | _=>exact absurd (show false=true from hs) Bool.false_ne_true
 | bl i =>
  cases rx
  cases y with
  | non=>cases ry;exact PySem.EqNone.eq_bool_none (Qz I q (by simp))
  | bl j=>cases ry;exact eq_bool (Qz I q Qeu)
  | str j=>obtain ⟨t',rfl⟩:=ry;exact PySem.EqMixed.eq_bool_str (Qz I q (by simp))
  | _=>exact absurd (show false=true from hs) Bool.false_ne_true
 | int i =>
  obtain ⟨t,rfl⟩:=rx
  cases y with
  | non=>cases ry;exact PySem.EqNone.eq_int_none (Qz I q (by simp))
  | int j=>obtain ⟨t',rfl⟩:=ry;exact eq_int (Qz I q Qh9)
  | str j=>obtain ⟨t',rfl⟩:=ry;exact PySem.EqMixed.eq_int_str (Qz I q (by simp))
  | _=>exact absurd (show false=true from hs) Bool.false_ne_true
 | str i =>
  obtain ⟨t,rfl⟩:=rx
  cases y with
  | non=>cases ry;exact PySem.EqNone.eq_str_none (Qz I q (by simp))
  | bl j=>cases ry;exact PySem.EqMixed.eq_str_bool (Qz I q (by simp))
  | int j=>obtain ⟨t',rfl⟩:=ry;exact PySem.EqMixed.eq_str_int (Qz I q (by simp))
  | str j=>obtain ⟨t',rfl⟩:=ry;exact eq_str (Qz I q Qh8)
  | _=>exact absurd (show false=true from hs) Bool.false_ne_true
 | byt i =>
  obtain ⟨t,rfl⟩:=rx
  cases y with
  | byt j=>obtain ⟨t',rfl⟩:=ry;exact PySem.W.eq_bytes (Qz I q Qia)
  | _=>exact absurd (show false=true from hs) Bool.false_ne_true
 | _=>cases y <;> exact absurd (show false=true from hs) Bool.false_ne_true
theorem Qrz:OpR X (compareOp .NotEq) rNe:=by
 intro pins s σ H x y v u Q I rx ry h
 obtain ⟨hs,q⟩:=h
 cases x with
 | non =>
  cases rx
  cases y with
  | non=>cases ry;exact PySem.EqNone.ne_none_none (Qz I q (by simp))
  | bl j=>cases ry;exact PySem.EqNone.ne_none_bool (Qz I q (by simp))
  | int j=>obtain ⟨t',rfl⟩:=ry;exact PySem.EqNone.ne_none_int (Qz I q (by simp))
  | str j=>obtain ⟨t',rfl⟩:=ry;exact PySem.EqNone.ne_none_str (Qz I q (by simp))
  | _=>exact absurd (show false=true from hs) Bool.false_ne_true
 | bl i =>
  cases rx
  cases y with
  | non=>cases ry;exact PySem.EqNone.ne_bool_none (Qz I q (by simp))
  | bl j=>cases ry;exact ne_bool (Qz I q (congrArg not Qeu))
  | str j=>obtain ⟨t',rfl⟩:=ry;exact PySem.EqMixed.ne_bool_str (Qz I q (by simp))
  | _=>exact absurd (show false=true from hs) Bool.false_ne_true
 | int i =>
  obtain ⟨t,rfl⟩:=rx
  cases y with
  | non=>cases ry;exact PySem.EqNone.ne_int_none (Qz I q (by simp))
  | int j=>obtain ⟨t',rfl⟩:=ry;exact ne_int (Qz I q (congrArg not Qh9))
  | str j=>obtain ⟨t',rfl⟩:=ry;exact PySem.EqMixed.ne_int_str (Qz I q (by simp))
  | _=>exact absurd (show false=true from hs) Bool.false_ne_true
 | str i =>
  obtain ⟨t,rfl⟩:=rx
  cases y with
  | non=>cases ry;exact PySem.EqNone.ne_str_none (Qz I q (by simp))
  | bl j=>cases ry;exact PySem.EqMixed.ne_str_bool (Qz I q (by simp))
  | int j=>obtain ⟨t',rfl⟩:=ry;exact PySem.EqMixed.ne_str_int (Qz I q (by simp))
  | str j=>obtain ⟨t',rfl⟩:=ry;exact ne_str (Qz I q (congrArg not Qh8))
  | _=>exact absurd (show false=true from hs) Bool.false_ne_true
 | byt i =>
  obtain ⟨t,rfl⟩:=rx
  cases y with
  | byt j=>obtain ⟨t',rfl⟩:=ry;exact PySem.W.ne_bytes (Qz I q (congrArg not Qia))
  | _=>exact absurd (show false=true from hs) Bool.false_ne_true
 | _=>cases y <;> exact absurd (show false=true from hs) Bool.false_ne_true
theorem Qr0:OpR X (compareOp .Gt) (rI0 λi j=>.bl (decide (j<i))):=opB0 λ_ _ _ _ _ _ _ q=>gt_int q
theorem Qg8:OpR X (compareOp .In) (λx y H Q=>∃i j,x=.str i/\y=.str j/\Q (.bl (!(Builtin.Str.occurrences j i 0 j.length 1).isEmpty)) H):=by
 intro pins s σ H x y v u Q I rx ry h
 obtain ⟨i,j,rfl,rfl,q⟩:=h
 obtain ⟨t,rfl⟩:=rx
 obtain ⟨t',rfl⟩:=ry
 exact in_str (Qz I q rfl)
theorem OpR.or {f:Value->Value->Sem Value} {r r':R2} (h:OpR X f r) (h':OpR X f r'):OpR X f (λx y H Q=>r x y H Q\/r' x y H Q):=by
 intro pins s σ H x y v u Q I rx ry q
 rcases q with q | q
 ·exact h pins s σ H x y v u Q I rx ry q
 ·exact h' pins s σ H x y v u Q I rx ry q
theorem Qk2 (b:Expr) {op:CmpOp} (h:op ≠ .In:=by decide) (h2:op ≠ .NotIn:=by decide):behindInMarks op b=false:=by
 have e1:(op == CmpOp.In)=false:=by cases op <;> first | rfl | exact absurd rfl h
 have e2:(op == CmpOp.NotIn)=false:=by cases op <;> first | rfl | exact absurd rfl h2
 cases b <;> simp [behindInMarks,e1,e2]
theorem Qm0 {op:CmpOp} {r:R2} (ho:OpR X (compareOp op) r) (ha:PE X a ta) (hb:PE X b tb) (hm:behindInMarks op b=false):PE X (.Compare a [op] [b] pos) (tOp r ta tb):=by
 intro pins s σ H Q I h
 exact wpAny_Compare1 (binT ha hb I h λv u s2 x y H2 I2 rx ry q=>ho pins s2 σ H2 x y v u Q I2 rx ry q) hm
def Qq6 (t:TE):TT:=λσ H Q=>t σ H λx H'=>∃k,x=.bl k/\Q k H'
theorem Qml {op:CmpOp} {r:R2} (ho:OpR X (compareOp op) r) (ha:PE X a ta) (hb:PE X b tb) (hm:behindInMarks op b=false):PT X (.Compare a [op] [b] pos) (Qq6 (tOp r ta tb)):=by
 intro pins s σ H Q I h
 refine wpAny_isTrue_Compare1 (thn (ha pins s σ H _ I h) λv s1 ⟨x,H1,I1,r1,q1⟩=>thn (hb pins s1 σ H1 _ I1 q1) λu s2 ⟨y,H2,I2,r2,q2⟩ =>
  thn (ho pins s2 σ H2 x y v u _ I2 r1 r2 q2) λc s3 ⟨z,H3,I3,r3,k,e,q3⟩=>?_) hm
 subst e
 cases r3
 exact wpAny_truthy_bool ⟨H3,I3,q3⟩
def TruV (K:PySem.W.Frag) (x:V) (H:Hp) (k:Bool):Prop :=
 match x with
 | .non=>k=false
 | .bl b=>k=b
 | .int i=>k=(i != 0)
 | .str y=>y.length<=sizeLine/\k=((y.length:Int) != 0)
 | .byt y=>y.size<=sizeLine/\k=((y.size:Int) != 0)
 | .ref p=>(∃xs,SqL K H p xs/\k = !xs.isEmpty)\/(∃xs,SqT K H p xs/\k = !xs.isEmpty)\/∃kvs,H p=some (.dK kvs)/\k = !kvs.isEmpty
 | _=>False
theorem Qfk {κ:Type} {kvs:List (κ × V)} {vs:List (κ × Value)} (r:KV kvs vs):(!vs.isEmpty) = !kvs.isEmpty:=by
 cases r <;> rfl
theorem Xs {xs:List V} {its:List Value} (r:Vals xs its):(!its.toArray.isEmpty) = !xs.isEmpty:=by
 cases r <;> simp
theorem Xq:(sizeLine:Nat)<2 ^ 63:=by rw [sizeLine_eq];decide
theorem Qoa:TruR X (λx H Q=>∃k,TruV X.K x H k/\Q k H):=by
 intro pins s σ H x v Q I rx h
 obtain ⟨k,e,q⟩:=h
 have hl:=Xq
 have hs:sizeLine=16777216:=sizeLine_eq
 cases x with
 | non =>
  cases rx
  have e':k=false:=e
  subst e'
  exact truthy_none ⟨H,I,q⟩
 | bl b =>
  cases rx
  have e':k=b:=e
  subst e'
  exact wpAny_truthy_bool ⟨H,I,q⟩
 | int i =>
  obtain ⟨t,rfl⟩:=rx
  have e':k=(i != 0):=e
  subst e'
  exact PySem.P.truthy_int ⟨H,I,q⟩
 | str y =>
  obtain ⟨t,rfl⟩:=rx
  obtain ⟨hy,e'⟩:y.length<=sizeLine/\k=((y.length:Int) != 0):=e
  subst e'
  exact PySem.P.truthy_str (by omega) ⟨H,I.tok _,q⟩
 | byt y =>
  obtain ⟨t,rfl⟩:=rx
  obtain ⟨hy,e'⟩:y.size<=sizeLine/\k=((y.size:Int) != 0):=e
  subst e'
  exact PySem.W.truthy_bytes (by omega) ⟨H,I.tok _,q⟩
 | ref p =>
  cases rx
  have e':(∃xs,SqL X.K H p xs/\k = !xs.isEmpty)\/(∃xs,SqT X.K H p xs/\k = !xs.isEmpty)\/∃kvs,H p=some (.dK kvs)/\k = !kvs.isEmpty:=e
  rcases e' with ⟨xs,hx,e'⟩ | ⟨xs,hx,e'⟩ | ⟨kvs,hx,e'⟩
  ·subst e'
   obtain ⟨its,r,pl,hz⟩:=I.list hx
   have hlen:=r.length
   exact wpAny_truthy_list pl.isList (by simp only [List.size_toArray];omega) ⟨H,I.tok _,by rw [Xs r];exact q⟩
  ·subst e'
   obtain ⟨its,r,pl,hz⟩:=I.tuple hx
   have hlen:=r.length
   exact truthy_tuple pl (by simp only [List.size_toArray];omega) ⟨H,I.tok _,by rw [Xs r];exact q⟩
  ·subst e'
   obtain ⟨hz,hS,vs,r,m⟩:kvs.length<=sizeLine/\(p == sysModules)=false/\∃vs,KV kvs vs/\s.heap.DictOf (Qv X.prog X.w) p vs:=I.hok p _ hx
   have hlen:kvs.length=vs.length:=Paired.length r
   exact wpAny_truthy_dict hS m (by omega) ⟨H,I.tok _,by rw [Qfk r];exact q⟩
 | _=>exact (show False from e).elim
theorem Qjb (ha:PE X a ta) (he:∀whole,isTrue a X.env whole=(do let v ← whole;standAt a.pos;holding [v] (truthy v))) :
  PT X a (λσ H Q=>ta σ H λx H'=>∃k,TruV X.K x H' k/\Q k H'):=by
 intro pins s σ H Q I h
 exact isTrue_plain (thn (ha pins s σ H _ I h) λv s1 ⟨x,H1,I1,r1,q1⟩=>Qoa pins s1 σ H1 x v Q I1 r1 q1) (he _)
theorem Qfe:OpR X (binaryOp .Add) (λx y H Q=>∃i j,x=.str i/\y=.str j/\i.length+j.length<=sizeLine/\Q (.str (i++j)) H):=by
 intro pins s σ H x y v u Q I rx ry h
 obtain ⟨i,j,rfl,rfl,hz,q⟩:=h
 obtain ⟨t,rfl⟩:=rx
 obtain ⟨t',rfl⟩:=ry
 exact add_str (λt' tk=>⟨.str (i++j),H,I.tok _,⟨_,rfl⟩,q⟩) hz
theorem Uy {x:V} {us:List Value} (r:Vals [x] us):∃u,us=[u]/\RelV x u:=by
 cases r with
 | cons r1 r2=>cases r2;exact ⟨_,rfl,r1⟩
theorem Qn8 {x y:V} {us:List Value} (r:Vals [x,y] us):∃u w',us=[u,w']/\RelV x u/\RelV y w':=by
 cases r with
 | cons r1 r2 =>
  cases r2 with
  | cons r3 r4=>cases r4;exact ⟨_,_,rfl,r1,r3⟩
theorem Qil (hc:X.calm=true):Zc X (.builtin "min") (λxs H Q=>∃i j,xs=[.int i,.int j]/\Q (.int (if j<i then j else i)) H):=by
 intro pins s σ H xs us Q I r h
 obtain ⟨i,j,rfl,q⟩:=h
 obtain ⟨u,w',rfl,⟨t,rfl⟩,⟨t',rfl⟩⟩:=Qn8 r
 refine min_two_ints (I.ok.hd hc) λh' tk k=>⟨_,H,I.kept k,?_,q⟩
 by_cases hj:j<i
 ·rw [if_pos hj,if_pos hj];exact ⟨_,rfl⟩
 ·rw [if_neg hj,if_neg hj];exact ⟨_,rfl⟩
theorem Qin:Zc X (.type "int") (λxs H Q=>(∃i,xs=[.int i]/\Q (.int i) H)\/∃k,xs=[.bl k]/\Q (.int (if k then 1 else 0)) H):=by
 intro pins s σ H xs us Q I r h
 rcases h with ⟨i,rfl,q⟩ | ⟨k,rfl,q⟩
 ·obtain ⟨u,rfl,t,rfl⟩:=Uy r
  exact call_int_int ⟨.int i,H,I,⟨_,rfl⟩,q⟩
 ·obtain ⟨u,rfl,r1⟩:=Uy r
  cases r1
  exact call_int_bool ⟨.int (if k then 1 else 0),H,I.tok _,⟨_,rfl⟩,q⟩
def LenV (K:PySem.W.Frag) (x:V) (H:Hp) (n:Nat):Prop :=
 match x with
 | .str y=>y.length<=sizeLine/\n=y.length
 | .byt y=>y.size<=sizeLine/\n=y.size
 | .ref p=>(∃xs,SqL K H p xs/\n=xs.length)\/∃xs,SqT K H p xs/\n=xs.length
 | _=>False
theorem Qkd:Zc X (.builtin "len") (λxs H Q=>∃x n,xs=[x]/\LenV X.K x H n/\Q (.int n) H):=by
 intro pins s σ H xs us Q I r h
 obtain ⟨x,n,rfl,e,q⟩:=h
 obtain ⟨u,rfl,rx⟩:=Uy r
 have hl:=Xq
 have hs:sizeLine=16777216:=sizeLine_eq
 cases x with
 | str y =>
  obtain ⟨t,rfl⟩:=rx
  obtain ⟨hy,e'⟩:y.length<=sizeLine/\n=y.length:=e
  subst e'
  exact len_str (by omega) ⟨.int _,H,I.tok _,⟨_,rfl⟩,q⟩
 | byt y =>
  obtain ⟨t,rfl⟩:=rx
  obtain ⟨hy,e'⟩:y.size<=sizeLine/\n=y.size:=e
  subst e'
  exact PySem.W.len_bytes (by omega) ⟨.int _,H,I.tok _,⟨_,rfl⟩,q⟩
 | ref p =>
  cases rx
  have e':(∃xs,SqL X.K H p xs/\n=xs.length)\/∃xs,SqT X.K H p xs/\n=xs.length:=e
  rcases e' with ⟨xs,hx,e'⟩ | ⟨xs,hx,e'⟩
  ·subst e'
   obtain ⟨its,r',pl,hz⟩:=I.list hx
   have hlen:=r'.length
   exact Calls.call_len_list pl.isList (by simp only [List.size_toArray];omega) ⟨.int xs.length,H,I.tok _,⟨_,by simp only [List.size_toArray];rw [hlen]⟩,q⟩
  ·subst e'
   obtain ⟨its,r',pl,hz⟩:=I.tuple hx
   have hlen:=r'.length
   exact len_tuple pl (by simp only [List.size_toArray];omega) ⟨.int xs.length,H,I.tok _,⟨_,by simp only [List.size_toArray];rw [hlen]⟩,q⟩
 | _=>exact (show False from e).elim
end
end L2
namespace L2
open PySem PySem.Spec PyProof.Rows
structure ObjM (h:Heap) (x dx C:Addr) (mA:Str->Option Value):Prop where
 obj:h.get? x=some (PySem.W.instObj C dx)
 ns:h.Ns1 dx mA
 ne:dx≠x
theorem Qhn {h:Heap} {dx:Addr} {mA:Str->Option Value} (n:h.Ns1 dx mA):∃od,h.get? dx=some od/\∀name,PySem.W.lookIn name od=some (mA name):=by
 obtain ⟨o,es,ep,ho,hd,hk,_,hm⟩:=n
 refine ⟨o,ho,λname=>?_⟩
 have e:=hm name
 unfold nsFind findBy at e
 rw [← Array.find?_toList] at e
 unfold PySem.W.lookIn
 rw [hd]
 dsimp only
 split
 ·rename_i y q
  rw [q] at e
  exact congrArg some e
 ·rename_i q
  rw [q] at e
  have a:es.toList.any (·.refKey)=false:=by
   rw [List.any_eq_false]
   intro y hy
   obtain ⟨z,t,hkey⟩:=hk y (Array.mem_toList_iff.mp hy)
   simp [DictEntry.refKey,hkey]
  have a':¬es.toList.any (·.refKey)=true:=by rw [a];exact Bool.false_ne_true
  rw [if_neg a']
  exact congrArg some e
theorem ObjM.look {h:Heap} {x dx C:Addr} {mA:Str->Option Value} (I:ObjM h x dx C mA):∃od,PySem.W.InstAt h x (PySem.W.instObj C dx) C (some od)/\∀name,PySem.W.lookIn name od=some (mA name) :=
 let ⟨od,ho,hl⟩:=Qhn I.ns
 ⟨od,⟨I.obj,rfl,rfl,ho⟩,hl⟩
section
variable {prog:Program} {w:World} {A:Around} {E:Value->Shared->Prop} {s:Shared} {K:PySem.W.Frag} {x dx C f:Addr} {mA:Str->Option Value} {name:Str} {v:Value}
end
theorem RelO.some_of {v:V} {o:Option Value} (r:RelO (some v) o):∃u,o=some u/\RelV v u:=by
 cases o with
 | none=>exact (show False from r).elim
 | some u=>exact ⟨u,rfl,r⟩
section
variable {P:Program} {w:World} {H H':Hp} {h h':Heap} {a C dx:Addr} {fs fs':List (Str × V)}
theorem Qno (hok:HOk P w H h) (e:H a=some (.ins C dx fs)):∃mA,ObjM h a dx C mA/\(∀f,RelO (fs.lookup f) (mA f))/\PySem.Within mA (fs.map (·.1))/\fs.length<=1000/\H dx=some (.own a):=by
 obtain ⟨d,z,ne,ob,mA,n,r,q⟩:=(show Jo P w H h a (.ins C dx fs) from hok a _ e)
 exact ⟨mA,⟨ob,n,ne⟩,r,q,z,d⟩
end
structure Cls (K:PySem.W.Frag) (C:Addr):Prop where
 pg:PySem.W.plainGet K C Str.empty=true
 hd:PySem.W.hasDictIn K C=true
 po:PySem.W.plainOver K C=true
 sa:PySem.W.findIn K (.ref C) "__setattr__" = some (some (.builtin "object.__setattr__"))
theorem Cls.get {K:PySem.W.Frag} {C:Addr} (c:Cls K C) (f:Str):PySem.W.plainGet K C f=true:=c.pg
structure Con (K:PySem.W.Frag) (C:Addr) (f:Str) (v:V) (u:Value):Prop where
 at_:PySem.W.findIn K (.ref C) f=some (some u)
 rel:RelV v u
 get:PySem.W.specialIn K u "__get__" = some none
 cp:PySem.W.copiedNames.contains f=false
section
variable {X:Cx} {pins:List (Addr × Obj)} {σ:St} {H:Hp} {s:Shared} {a C dx:Addr} {fs:List (Str × V)} {f:Str} {v:V} {A:Around} {E:Value->Shared->Prop}
end
section
variable {X:Cx} {o e value:Expr} {f:Str} {pos pos' tpos:Pos} {ta tv:TE}
end
section
variable {X:Cx} {pins:List (Addr × Obj)} {σ:St} {H:Hp} {s:Shared} {A:Around} {E:Value->Shared->Prop} {Q:Value->Shared->Prop} {c:Value} {b:Bool}
inductive TyOf (K:PySem.W.Frag) (H:Hp):V->Value->Prop where
 | non:TyOf K H .non (.type "NoneType")
 | bl (x:Bool):TyOf K H (.bl x) (.type "bool")
 | int (i:Int):TyOf K H (.int i) (.type "int")
 | str (x:Str):TyOf K H (.str x) (.type "str")
 | flt (x:UInt64):TyOf K H (.flt x) (.type "float")
 | lst {a:Addr} {xs:List V} (e:H a=some (.lst xs)):TyOf K H (.ref a) (.type "list")
 | frz {a:Addr} {o:Obj} {xs:List V} (e:H a=some (.frz o (.lst xs))):TyOf K H (.ref a) (.type "list")
 | tup {a:Addr} {xs:List V} (e:H a=some (.tup xs)):TyOf K H (.ref a) (.type "tuple")
 | dK {a:Addr} {kvs:List (Key × V)} (e:H a=some (.dK kvs)):TyOf K H (.ref a) (.type "dict")
 | dT {a:Addr} {kvs:List (List Key × V)} (e:H a=some (.dT kvs)):TyOf K H (.ref a) (.type "dict")
 | ins {a C dx:Addr} {fs:List (Str × V)} (e:H a=some (.ins C dx fs)) (cl:Cls K C) (ha:PySem.W.findIn K (.ref C) "__class__" = some (some (.builtin "object.__class__")))
   (hn:PySem.W.specialIn K (.builtin "object.__class__") "__get__" = some (some (.builtin "getset_descriptor.__get__"))) (htk:PySem.W.takesIn K (.builtin "object.__class__")=some true)
   (hm:PySem.W.mroIn K C (.type "object")=some true):TyOf K H (.ref a) (.ref C)
theorem Qhs {x:V} {u t:Value} (I:Inv X pins σ H s) (rx:RelV x u) (ty:TyOf X.K H x t) (e:PySem.W.kitOne X.K t c=some b) (h:∀tk,Q (.bool b) { s with toks:=tk }) :
  wpAny (model X.prog X.w) A (call (.builtin "isinstance") [u,c]) Q E s:=by
 cases ty with
 | non=>cases (show u=Value.none from rx);exact PySem.W.kia_one PySem.W.kitx_none I.kIn True.intro e (λz=>nomatch z) h
 | bl y=>cases (show u=Value.bool y from rx);exact PySem.W.kia_one PySem.W.kitx_bool I.kIn True.intro e (λz=>nomatch z) h
 | int i=>obtain ⟨t,q⟩:=(show ∃t,u=Value.int i t from rx);cases q;exact PySem.W.kia_one PySem.W.kitx_int I.kIn True.intro e (λz=>nomatch z) h
 | str y=>obtain ⟨t,q⟩:=(show ∃t,u=Value.str y t from rx);cases q;exact PySem.W.kia_one PySem.W.kitx_str I.kIn True.intro e (λz=>nomatch z) h
 | flt y=>obtain ⟨t,q⟩:=(show ∃t,u=Value.float y t from rx);cases q;exact PySem.W.kia_one PySem.W.kitx_float I.kIn True.intro e (λz=>nomatch z) h
 | @lst a xs ea =>
  cases (show u=Value.ref a from rx)
  obtain ⟨_,_,n,_,h1⟩:=(show Jo X.prog X.w H s.heap a (.lst xs) from I.hok a _ ea)
  exact PySem.W.kia_one PySem.W.kitx_list I.kIn ⟨_,h1,rfl⟩ e (λz=>nomatch z) h
 | @frz a ob xs ea =>
  cases (show u=Value.ref a from rx)
  obtain ⟨_,_,_,n,_,h1⟩:=(show Jo X.prog X.w H s.heap a (.frz ob (.lst xs)) from I.hok a _ ea)
  exact PySem.W.kia_one PySem.W.kitx_list I.kIn ⟨_,h1,rfl⟩ e (λz=>nomatch z) h
 | @tup a xs ea =>
  cases (show u=Value.ref a from rx)
  obtain ⟨_,_,_,p⟩:=(show Jo X.prog X.w H s.heap a (.tup xs) from I.hok a _ ea)
  obtain ⟨o,h1,h2,_⟩:=p
  exact PySem.W.kia_one PySem.W.kitx_tuple I.kIn ⟨o,h1,h2⟩ e (λz=>nomatch z) h
 | @dK a kvs ea =>
  cases (show u=Value.ref a from rx)
  obtain ⟨_,_,vs,_,p⟩:=(show Jo X.prog X.w H s.heap a (.dK kvs) from I.hok a _ ea)
  obtain ⟨o,es,ep,h1,h2,_⟩:=p
  exact PySem.W.kia_one PySem.W.kitx_dict I.kIn ⟨o,h1,h2.1⟩ e (λz=>nomatch z) h
 | @dT a kvs ea =>
  cases (show u=Value.ref a from rx)
  obtain ⟨_,_,xs,_,o,es,ep,h1,h2,_⟩:=(show Jo X.prog X.w H s.heap a (.dT kvs) from I.hok a _ ea)
  exact PySem.W.kia_one PySem.W.kitx_dict I.kIn ⟨o,h1,h2.1⟩ e (λz=>nomatch z) h
 | @ins a C dx fs ea cl ha hn htk hm =>
  cases (show u=Value.ref a from rx)
  obtain ⟨mA,O,_⟩:=Qno I.hok ea
  obtain ⟨od,J,_⟩:=O.look
  exact PySem.W.kia_one (PySem.W.kitx_own (cl.get _) cl.hd ha hn htk hm) I.kIn J e (λz=>nomatch z) h
end
end L2
namespace L2
open PySem PySem.Spec PyProof.Rows
structure Room (k:Nat) (A:Around):Prop where
 hd:A.handled=none
 dp:A.depth+3*k+5<recursionLimit
 un:A.units+16*k+200<cLine
theorem Room.mono {j k:Nat} {A:Around} (r:Room k A) (h:j<=k):Room j A:=⟨r.hd,by have:=r.dp;omega,by have:=r.un;omega⟩
theorem Room.deeper {k:Nat} {A:Around} (r:Room (k+1) A) (env:Env):Room k (A.deeper env) :=
 ⟨r.hd,by have:=r.dp;show A.depth+1+3*k+5<_;omega,by have:=r.un;show A.units+3+16*k+200<_;omega⟩
theorem Room.depth {k:Nat} {A:Around} (r:Room k A):A.depth<recursionLimit:=by have:=r.dp;omega
theorem Room.units {k:Nat} {A:Around} (r:Room k A):A.units+64<cLine:=by have:=r.un;omega
def tNil:TA:=λ_ H Q=>Q [] H
def Qoe (ta:TE) (tr:TA):TA:=λσ H Q=>ta σ H λx H1=>tr σ H1 λxs H2=>Q (x::xs) H2
section
variable {X:Cx} {e:Expr} {es:List Expr} {te:TE} {t:TA} {pos:Pos}
theorem Us:PA X [] tNil:=λ_ _ _ _ H Q I h=>Calls.spliced_nil ⟨[],H,I,.nil,h⟩
theorem Yw (ha:PE X e te) (hr:PA X es t) (hs:starEach (e::es) X.env=(false,eval e X.env)::starEach es X.env:=by rfl):PA X (e::es) (Qoe te t):=by
 intro pos pins s σ H Q I h
 rw [hs]
 show wpAny _ _ (spliced ((false,eval e X.env)::backTo pos (starEach es X.env))) _ _ s
 refine Calls.spliced_cons (thn (ha pins s σ H _ I h) λu s1 ⟨x,H1,I1,r1,q1⟩=>?_)
 exact thn (hr pos pins s1 σ H1 _ I1 q1) λus s2 ⟨xs,H2,I2,r2,q2⟩=>⟨x::xs,H2,I2,.cons r1 r2,q2⟩
def tTup (t:TA):TE:=λσ H Q=>t σ H λxs H1=>xs.length<=sizeLine/\∀p,H1 p=none->Q (.ref p) (upd H1 p (.tup xs))
def tLst (t:TA):TE:=λσ H Q=>t σ H λxs H1=>xs.length<=sizeLine/\∀p,H1 p=none->Q (.ref p) (upd H1 p (.lst xs))
theorem Qo5 {x1} (h:PA X es t):PE X (.Tuple es x1 pos) (tTup t):=by
 intro pins s σ H Q I hq
 refine wpAny_Tuple_spliced (thn (h pos pins s σ H _ I hq) λus s1 ⟨xs,H1,I1,r,z,q⟩=>⟨by rw [← r.length];exact z,?_⟩)
 have hf:H1 s1.heap.objs.size=none:=I1.hok.fresh (Nat.le_refl _)
 refine ⟨.ref s1.heap.objs.size,upd H1 s1.heap.objs.size (.tup xs),I1.laid (t':=s1.toks) (λb u e=>Heap.get?_push_of_some _ e) (Nat.le_refl _) ?_,rfl,q _ hf⟩
 exact ⟨z,us,r,⟨_,Heap.get?_push_size _ rfl,rfl,_,rfl⟩⟩
theorem Qk0 (h:PA X es t):PE X (.List es pos) (tLst t):=by
 intro pins s σ H Q I hq
 refine wpAny_List_spliced (thn (h pos pins s σ H _ I hq) λus s1 ⟨xs,H1,I1,r,z,q⟩=>⟨by rw [← r.length];exact z,?_⟩)
 have hf:H1 s1.heap.objs.size=none:=I1.hok.fresh (Nat.le_refl _)
 refine ⟨.ref s1.heap.objs.size,upd H1 s1.heap.objs.size (.lst xs),I1.laid (t':=s1.toks) (λb u e=>Heap.get?_push_of_some _ e) (Nat.le_refl _) ?_,rfl,q _ hf⟩
 exact ⟨z,us,0,r,Heap.get?_push_size _ rfl⟩
end
abbrev Sp:=List V->Hp->VK->XK->Prop
abbrev CXT:=List Env->Hp->Shared->XK->Value->Shared->Prop
structure Env0 (P:Program) (w:World) (K:PySem.W.Frag) (mg:Str->Option Value) (base:Heap) (A:Around) (outer:List Env) (s:Shared) (H:Hp):Prop where
 frames:A.frames=some outer
 mod:Mod K mg base
 bs:∀b o,base.get? b=some o->s.heap.get? b=some o/\H b=none
 bsz:base.objs.size<=s.heap.objs.size
 funs:s.heap.FunFrames base outer
 frf:∀b∈frs outer,H b=none
 hok:HOk P w H s.heap
 bare:AllBare s.gens
def CE (outer:List Env) (P:Program) (w:World) (H:Hp) (s:Shared) (Q:VK) (u:Value) (s':Shared):Prop :=
 ∃v H',s'.os=s.os/\AllBare s'.gens/\Un (frs outer) [] H H' s.heap s'.heap/\HOk P w H' s'.heap/\RelV v u/\Q v H'
def CR (CX:CXT) (outer:List Env) (P:Program) (w:World) (H:Hp) (s:Shared) (Q:VK) (E:XK) (r:Result) (s':Shared):Prop :=
 match r with
 | .ok (.ret u)=>CE outer P w H s Q u s'
 | .ok _=>False
 | .error e=>CX outer H s E e s'
structure FnOk (P:Program) (w:World) (K:PySem.W.Frag) (mg:Str->Option Value) (base:Heap) (CX:CXT) (k:Nat) (f:Addr) (fd:FuncData) (ps:List Str) (sp:Sp):Prop where
 len:∀vs H Q E,sp vs H Q E->vs.length=ps.length
 run:∀(A:Around) (outer:List Env) (s:Shared) (H:Hp) (args:Args) (us:List Value) (vs:List V) (Q:VK) (E:XK),Room k A->Env0 P w K mg base A outer s H->BindsTo s fd args (ps.zip us)->Vals vs us->sp vs H Q E ->
  codeAny (model P w) A (.call (.ref f) args) (CR CX outer P w H s Q E) s
section
variable {X:Cx} {pins:List (Addr × Obj)} {σ:St} {H:Hp} {s s':Shared}
theorem Inv.env0 (I:Inv X pins σ H s):Env0 X.prog X.w X.K X.mg X.base X.A X.stack s H :=
 ⟨I.ok.frames,I.ok.mod,I.bs,Nat.le_trans I.ok.bsz I.sz,I.stack,I.stkFree,I.hok,I.bare⟩
theorem Inv.after {Q:VK} {u:Value} (I:Inv X pins σ H s) (h:CE X.stack X.prog X.w H s Q u s'):EP X pins σ Q u s':=by
 obtain ⟨v,H',os,bare,un,hok,r,q⟩:=h
 obtain ⟨hh,g,d,t,os'⟩:=s'
 obtain rfl:os'=s.os:=os
 exact ⟨v,H',I.call (h':=hh) (g':=g) (d':=d) (t':=t) (ch:=[]) un hok bare (λb z=>absurd z (by simp)),r,q⟩
end
def Qrc (sp:Sp) (dvs:List V) (E:XK) (t:TA):TE:=λσ H Q=>t σ H λvs H1=>sp (vs++dvs) H1 Q E
def Qa0 (K:PySem.W.Frag) (fd:FuncData) (ps:List Str) (ds:List Value):Prop :=
 ∀(s:Shared) (us:List Value),K.In s.heap->(us++ds).length=ps.length->BindsTo s fd ⟨us,[]⟩ (ps.zip (us++ds))
theorem Qa0.all {K:PySem.W.Frag} {fd:FuncData} {ps:List Str} (h:∀us:List Value,us.length=ps.length->bindArgs fd ⟨us,[]⟩=pure (ps.zip us)):Qa0 K fd ps []:=λs us _ hl=>by
 rw [List.append_nil] at hl ⊢
 exact .of_eq (h us hl)
def Qir (CX:CXT) (X:Cx) (E:XK):Prop:=∀(pins:List (Addr × Obj)) (σ:St) (H:Hp) (s:Shared) (e:Value) (s':Shared),Inv X pins σ H s->CX X.stack H s E e s'->X.xe e s'
section
variable {X:Cx} {CX:CXT} {k:Nat} {f C:Addr} {fd:FuncData} {ps:List Str} {sp:Sp} {dvs:List V} {ds:List Value} {E:XK} {x m:Str} {p pos apos:Pos} {e o:Expr} {es:List Expr} {ta:TE} {t:TA}
theorem Qkq {pins:List (Addr × Obj)} {σ:St} {H:Hp} {s:Shared} {Q:VK} {us:List Value} {vs:List V} (F:FnOk X.prog X.w X.K X.mg X.base CX k f fd ps sp) (hr:Room k X.A) (hb:Qa0 X.K fd ps ds) (hd:Vals dvs ds) (hx:Qir CX X E)
  (I:Inv X pins σ H s) (r:Vals vs us) (h:sp (vs++dvs) H Q E):wpAny (model X.prog X.w) X.A (call (.ref f) us) (EP X pins σ Q) X.xe s:=by
 have r2:Vals (vs++dvs) (us++ds):=r.append hd
 have hl:(us++ds).length=ps.length:=by rw [← r2.length];exact F.len _ _ _ _ h
 refine wpAny_call (codeAny_mono (F.run X.A X.stack s H ⟨us,[]⟩ (us++ds) (vs++dvs) Q E hr I.env0 (hb s us I.kIn hl) r2 h) λr s' hq=>?_)
 cases r with
 | error e=>exact hx pins σ H s e s' I hq
 | ok fl =>
  cases fl with
  | ret u=>exact I.after hq
  | next=>exact False.elim hq
  | brk=>exact False.elim hq
  | cont=>exact False.elim hq
theorem Qg5 (F:FnOk X.prog X.w X.K X.mg X.base CX k f fd ps sp) (hr:Room k X.A) (hg:Gl X x) (hm:X.mg x=some (.ref f)) (hk:PySem.W.keepIn X.K (.ref f)=true) (hb:Qa0 X.K fd ps ds) (hd:Vals dvs ds) (hx:Qir CX X E)
  (ha:PA X (e::es) t) (hdb:(x == ("__debug__" : Str))=false:=by decide) (he:starEach (e::es) X.env=(false,eval e X.env)::starEach es X.env:=by rfl) (hpl:(backTo pos (starEach es X.env)).any (·.1)=false:=by rfl) :
  PE X (.Call (.Name x p) (e::es) [] pos) (Qrc sp dvs E t):=by
 intro pins s σ H Q I h
 refine wpAny_Call_Name_kw (Qad I hg hm ?_ hdb)
 refine PySem.W.callWith_K (h₀:=X.base) I.ok.mod.kin hk (thn (ha pos pins s σ H _ I h) λus s1 ⟨vs,H1,I1,r,q⟩=>⟨I1.kIn,?_⟩) he hpl
 exact Qkq F hr hb hd hx I1 r q
end
section
variable {X:Cx} {CX:CXT} {k:Nat} {f C:Addr} {fd:FuncData} {ps ks:List Str} {sp:Sp} {E:XK} {x m:Str} {p pos apos kpos:Pos} {e o:Expr} {es:List Expr} {kws:List Keyword} {te ta:TE} {t tk:TA} {nm:Option Str}
variable {g:List Value->List Value->List Value} {gV:List V->List V->List V}
end
structure FnScope (N P:List Str) (sc:Scope):Prop where
 kind:sc.kind=.function
 co:sc.isCoroutine=false
 gen:sc.isGenerator=false
 nd:N.Nodup
 pre:N.take P.length=P
 par:∀x∈P,sc.names.lookup x=some .local\/sc.names.lookup x=some .cell
 nofree:∀y∈sc.names,y.2 ≠ .free
theorem Qb5 {kindOf:Str->Option NameKind} {x:Str}:∀{binds:List (Str × Value)} {m:Str->Option Value},(∀v,(x,v)∉binds)->bindL kindOf binds m x=m x
 | [],_,_=>rfl
 | (n,v)::r,m,h=>by
  unfold bindL
  rw [Qb5 λw hw=>h w (List.mem_cons_of_mem _ hw)]
  split
  ·have:x≠n:=by rintro rfl;exact h v List.mem_cons_self
   simp [this]
  ·rfl
theorem Qb7 {kindOf:Str->Option NameKind} {x:Str}:∀{binds:List (Str × Value)} {m:Str->Option Value},(∀v,(x,v)∉binds)->bindC kindOf binds m x=m x
 | [],_,_=>rfl
 | (n,v)::r,m,h=>by
  unfold bindC
  rw [Qb7 λw hw=>h w (List.mem_cons_of_mem _ hw)]
  split
  ·rfl
  ·have:x≠n:=by rintro rfl;exact h v List.mem_cons_self
   simp [this]
theorem Qb6 {kindOf:Str->Option NameKind} {x:Str} {v:Value}:∀{P:List Str} {vs:List Value} {i:Nat} {m:Str->Option Value},P.Nodup->P[i]? = some x->vs[i]? = some v->kindOf x=some .local ->
  bindL kindOf (P.zip vs) m x=some v
 | [],_,_,_,_,h,_,_=>by simp at h
 | _::_,[],_,_,_,_,h,_=>by simp at h
 | p::P,w::vs,0,m,nd,h1,h2,hk=>by
  simp at h1 h2;subst h1;subst h2
  show bindL kindOf ((p,w)::P.zip vs) m p=_
  unfold bindL
  rw [Qb5 λv hv=>(List.nodup_cons.mp nd).1 (List.of_mem_zip hv).1,if_pos hk]
  simp
 | p::P,w::vs,i+1,m,nd,h1,h2,hk=>by
  show bindL kindOf ((p,w)::P.zip vs) m x=_
  unfold bindL
  exact Qb6 (i:=i) (List.nodup_cons.mp nd).2 (by simpa using h1) (by simpa using h2) hk
theorem Qb8 {kindOf:Str->Option NameKind} {x:Str} {v:Value}:∀{P:List Str} {vs:List Value} {i:Nat} {m:Str->Option Value},P.Nodup->P[i]? = some x->vs[i]? = some v->kindOf x≠some .local ->
  bindC kindOf (P.zip vs) m x=some v
 | [],_,_,_,_,h,_,_=>by simp at h
 | _::_,[],_,_,_,_,h,_=>by simp at h
 | p::P,w::vs,0,m,nd,h1,h2,hk=>by
  simp at h1 h2;subst h1;subst h2
  show bindC kindOf ((p,w)::P.zip vs) m p=_
  unfold bindC
  rw [Qb7 λv hv=>(List.nodup_cons.mp nd).1 (List.of_mem_zip hv).1,if_neg hk]
  simp
 | p::P,w::vs,i+1,m,nd,h1,h2,hk=>by
  show bindC kindOf ((p,w)::P.zip vs) m x=_
  unfold bindC
  exact Qb8 (i:=i) (List.nodup_cons.mp nd).2 (by simpa using h1) (by simpa using h2) hk
def start (N:List Str) (vs:List V):St:=vs.map some++List.replicate (N.length-vs.length) none
def cxOf (CX:CXT) (P:Program) (w:World) (K:PySem.W.Frag) (mg:Str->Option Value) (base:Heap) (N:List Str) (qual:Str) (scope:Scope) (f:Addr) (cd:Value) (A:Around) (outer:List Env) (s:Shared) (H:Hp) (E:XK):Cx where
 prog:=P
 w:=w
 K:=K
 mg:=mg
 base:=base
 A:=A.deeper (envOfC qual scope s.heap.objs.size f cd)
 N:=N
 s₀:=s
 H₀:=H
 env:=envOfC qual scope s.heap.objs.size f cd
 outer:=outer
 stack:=envOfC qual scope s.heap.objs.size f cd::outer
 ex:=[]
 calm:=true
 fn:=λ_=>true
 pn:=[]
 xe:=λe s'=>wpAny (model P w) (A.deeper (envOfC qual scope s.heap.objs.size f cd)) (leaving (envOfC qual scope s.heap.objs.size f cd) e) (λ_ s''=>CX outer H s E e s'') (λe' s''=>CX outer H s E e' s'') s'
theorem Qew {sc:Scope} {n:Nat} {x:Str} (h:sc.names.lookup x=some .cell):∃c,(cellsFrom n sc.names []).lookup x=some c:=by
 have q:=PySem.W.cellsFrom_some sc.names n [] (.inl h)
 exact Option.isSome_iff_exists.mp q
theorem Qht {CX:CXT} {P:Program} {w:World} {K:PySem.W.Frag} {mg:Str->Option Value} {base:Heap} {N ps:List Str} {qual:Str} {scope:Scope} {f:Addr} {cd:Value} {A:Around} {outer:List Env} {s s1:Shared} {H:Hp} {E:XK} {us:List Value} {vs:List V}
  (S:FnScope N ps scope) (hd:A.handled=none) (e0:Env0 P w K mg base A outer s H) (hl:vs.length=ps.length) (r:Vals vs us)
  (x:InCallC s s.heap.objs.size (bindL (envOfC qual scope s.heap.objs.size f cd).kindOf (ps.zip us) λ_=>none) (cellsFrom (s.heap.objs.size+1) scope.names []) (bindC (envOfC qual scope s.heap.objs.size f cd).kindOf (ps.zip us) λ_=>none) s1) :
  Inv (cxOf CX P w K mg base N qual scope f cd A outer s H E) [] (start N vs) H s1:=by
 have hpl:ps.length<=N.length:=by have:=congrArg List.length S.pre;rw [List.length_take] at this;omega
 obtain ⟨h1,tk,rfl,hk⟩:=x.done
 have noA:∀b:Addr,b∉(cxOf CX P w K mg base N qual scope f cd A outer s H E).ex:=λb z=>absurd (show b∈([]:List Addr) from z) (by simp)
 refine ⟨⟨e0.mod,S.kind,rfl,rfl,Nat.le_refl _,λy z c h1 h2=>?_,λy hy=>?_,λy c _ h=>?_,λ_=>hd,Around.frames_deeper e0.frames,.inr ⟨rfl,rfl⟩,λb z=>absurd z (noA b),e0.bs,e0.bsz,λb _ _=>noA b,λb z=>absurd z (noA b),e0.funs,e0.frf⟩,
  rfl,e0.bare,Un.kept hk,⟨_,x.toInCall.ns,λi y v h1 h2 h3=>?_⟩,λy c h=>⟨_,x.cell y c h⟩,e0.hok.fresh (Nat.le_refl _),λy c h=>?_,λp hp=>absurd (show p∈([]:List (Addr × Obj)) from hp) (by simp),e0.hok.kept hk,?_⟩
 ·exact name_of_addr x.apart (PySem.mem_of_lookup h1) (PySem.mem_of_lookup h2)
 ·have hy:scope.names.lookup y=some .cell\/scope.names.lookup y=some .free:=hy
  rcases hy with hy | hy
  ·exact Qew hy
  ·exact absurd rfl (S.nofree _ (PySem.mem_of_lookup hy))
 ·exact Nat.le_of_lt (x.above y c (PySem.mem_of_lookup h))
 ·have hi:i<vs.length:=by
   unfold start at h2
   by_cases hi:i<vs.length
   ·exact hi
   ·rw [List.getElem?_append_right (by simpa using hi)] at h2
    rw [List.getElem?_replicate] at h2
    split at h2 <;> cases h2
  have ha:vs[i]? = some v:=by
   unfold start at h2
   rw [List.getElem?_append_left (by simpa using hi),List.getElem?_map] at h2
   cases e:vs[i]? with
   | none=>rw [e] at h2;cases h2
   | some a=>rw [e] at h2;cases h2;rfl
  obtain ⟨u,hu,rv⟩:=r.get ha
  have hp:ps[i]? = some y:=by
   rw [← S.pre,List.getElem?_take_of_lt (by omega)];exact h1
  have ndP:ps.Nodup:=by rw [← S.pre];exact S.nd.sublist (List.take_sublist _ _)
  refine ⟨u,rv,?_⟩
  rcases S.par y (List.mem_of_getElem? hp) with k | k
  ·exact .inl ⟨k,Qb6 ndP hp hu k⟩
  ·obtain ⟨c,e⟩:=Qew (n:=s.heap.objs.size+1) k
   refine .inr ⟨.inl k,c,e,?_⟩
   have q:=x.cell y c e
   rw [Qb8 ndP hp hu (by show scope.names.lookup y≠_;rw [k];decide)] at q
   exact q
 ·exact e0.hok.fresh (Nat.le_of_lt (x.above y c (PySem.mem_of_lookup h)))
 ·unfold start
  show _=N.length
  rw [List.length_append,List.length_map,List.length_replicate]
  omega
theorem Qqq {CX:CXT} {P:Program} {w:World} {K:PySem.W.Frag} {mg:Str->Option Value} {base:Heap} {k:Nat} {f:Addr} {name qual:Str} {params:Arguments} {body:List Stmt} {scope:Scope} {dV kV doc pm cdv ct oc:Value} {an od:Option Addr}
  {osl:Array (Option Value)} {N ps:List Str} {sp:Sp} (lk:K.lookup f=some ⟨oc,od,.func (PySem.W.fnOf name qual params body scope dV kV doc pm an cdv ct),osl⟩) (hcd:PySem.W.codeIn K cdv qual=true) (S:FnScope N ps scope)
  (len:∀vs H Q E,sp vs H Q E->vs.length=ps.length)
  (hbody:∀(A:Around) (outer:List Env) (s:Shared) (H:Hp) (vs:List V) (Q:VK) (E:XK),Room k (A.deeper (envOfC qual scope s.heap.objs.size f cdv))->sp vs H Q E ->
   ∃t,PSs (cxOf CX P w K mg base N qual scope f cdv A outer s H E) body t/\t { nx:=λ_ H'=>Q .non H',rt:=Q } (start N vs) H) :
  FnOk P w K mg base CX (k+1) f (PySem.W.fnOf name qual params body scope dV kV doc pm an cdv ct) ps sp:=by
 refine ⟨len,λA outer s H args us vs Q E hr e0 hb r hsp=>?_⟩
 have hl:=len _ _ _ _ hsp
 have KX:K.In s.heap:=e0.mod.kin.keeps λb o e=>(e0.bs b o e).1
 have lim:s.heap.NoLimit:=e0.mod.nolimit.keeps λb o e=>(e0.bs b o e).1
 have hkind:∀y∈ps.zip us,scope.names.lookup y.1=some .local\/(scope.names.lookup y.1=some .cell/\((cellsFrom (s.heap.objs.size+1) scope.names []).lookup y.1).isSome=true):=λ⟨n,v⟩ hy=>by
  rcases S.par n (List.of_mem_zip hy).1 with q | q
  ·exact .inl q
  ·exact .inr ⟨q,PySem.W.cellsFrom_some _ _ _ (.inl q)⟩
 refine codeAny_call_function hr.depth (KX _ _ lk) rfl S.co S.gen rfl (PySem.W.codeRec_of KX hcd) (hb _ _ _ _ ?_)
 refine wpAny_newFunctionEnv_cells S.kind hkind λenv he s1 x=>?_
 subst he
 refine ⟨lim.keeps x.toInCall.keep,codeAny_func ?_⟩
 obtain ⟨t,ht,hq⟩:=hbody A outer s H vs Q E (hr.deeper _) hsp
 have I:Inv (cxOf CX P w K mg base N qual scope f cdv A outer s H E) [] (start N vs) H s1:=Qht S hr.hd e0 hl r x
 refine wpAny_mono (ht [] s1 (start N vs) H _ I hq) (λfl s' hs=>?_) λe s' hs=>hs
 have fin:∀{σ':St} {H':Hp} {v:V} {u:Value},Inv (cxOf CX P w K mg base N qual scope f cdv A outer s H E) [] σ' H' s'->RelV v u->Q v H'->CE outer P w H s Q u s' :=
  λ{σ' H' v u} J rv q=>⟨v,H',J.os,J.bare,J.base,J.hok,rv,q⟩
 cases fl with
 | ret u =>
  obtain ⟨v,σ',H',J,rv,q⟩:=hs
  exact fin J rv q
 | next =>
  obtain ⟨σ',H',J,q⟩:=hs
  exact fin (v:=V.non) (u:=Value.none) J rfl q
 | brk =>
  obtain ⟨_,_,_,q⟩:=hs
  exact False.elim q
 | cont =>
  obtain ⟨_,_,_,q⟩:=hs
  exact False.elim q
end L2
namespace L2
open PySem PySem.Spec PyProof.Rows
section
variable {X:Cx} {x:Str} {p pos:Pos} {e:Expr} {es:List Expr} {t:TA} {id T:String} {r:List V->Hp->VK->Prop}
def tCB (r:List V->Hp->VK->Prop) (t:TA):TE:=λσ H Q=>t σ H λvs H1=>r vs H1 Q
theorem Qjm (hc:Zc X (.builtin id) r) (hg:Gl X x) (hm:X.mg x=none) (hv:bootBuiltins x=some (.builtin id)) (ha:PA X (e::es) t) (hn:x ≠ "__name__":=by decide) (hdb:(x == ("__debug__" : Str))=false:=by decide)
  (he:starEach (e::es) X.env=(false,eval e X.env)::starEach es X.env:=by rfl) (hpl:(backTo pos (starEach es X.env)).any (·.1)=false:=by rfl):PE X (.Call (.Name x p) (e::es) [] pos) (tCB r t):=by
 intro pins s σ H Q I h
 refine wpAny_Call_Name_kw (Xr I hg hm hv ?_ hn hdb)
 exact PyProof.Rows.callWith_builtin1 (thn (ha pos pins s σ H _ I h) λus s1 ⟨vs,H1,I1,r1,q1⟩=>hc pins s1 σ H1 vs us Q I1 r1 q1) he hpl
theorem Qbi (hc:Zc X (.type T) r) (hg:Gl X x) (hm:X.mg x=none) (hv:bootBuiltins x=some (.type T)) (ha:PA X (e::es) t) (hn:x ≠ "__name__":=by decide) (hdb:(x == ("__debug__" : Str))=false:=by decide)
  (he:starEach (e::es) X.env=(false,eval e X.env)::starEach es X.env:=by rfl) (hpl:(backTo pos (starEach es X.env)).any (·.1)=false:=by rfl):PE X (.Call (.Name x p) (e::es) [] pos) (tCB r t):=by
 intro pins s σ H Q I h
 refine wpAny_Call_Name_kw (Xr I hg hm hv ?_ hn hdb)
 exact PyProof.Rows.callWith_type1 (thn (ha pos pins s σ H _ I h) λus s1 ⟨vs,H1,I1,r1,q1⟩=>hc pins s1 σ H1 vs us Q I1 r1 q1) he hpl
end
end L2
namespace HT
open PySem PyProof.Rows
def Vy:List Int->List Int->Bool
 | [],[]=>false
 | [],_::_=>true
 | _::_,[]=>false
 | x::xs,y::ys=>if x=y then Vy xs ys else decide (x<y)
theorem Uf (x y:Int) (xs ys:List Int):Vy (x::xs) (y::ys)=if x=y then Vy xs ys else decide (x<y):=rfl
theorem Qj1 (A:Around) (s:Shared) (a:Int) (t:Tok) (c:Int) (u:Tok):∃e,SeqAt.EqAt A s (.int a t) (.int c u) e/\(e=true↔a=c) :=
 ⟨(a == c),SeqAt.EqAt.int_int a t c u,by simp⟩
theorem Qi4 (A:Around) (s:Shared) (a:Int) (t:Tok) (c:Int) (u:Tok) (prog:Program) (w:World) (E:Value->Shared->Prop) (Q:Value->Shared->Prop) (h:Q (.bool (decide (a<c))) s) :
  wpAny (model prog w) A (richCompare .Lt (.int a t) (.int c u)) Q E s :=
 (PyProof.Rows.lt_int h:wpAny (model prog w) A (compareOp .Lt (.int a t) (.int c u)) Q E s)
section
open PySem.SeqAt
open PySem.AutoSeq1 (wpAny_loadPart')
open PySem.MeetsSeq PySem.MeetsSeq2 PySem.MeetsSeq3
end
section
variable {prog:Program} {w:World} {A:Around} {E:Value->Shared->Prop} {s:Shared}
theorem Qn4 {t b:Addr} {vs ws:List Value} {Q:Value->Shared->Prop} (ht:IsTup s.heap t vs.toArray) (hb:IsTup s.heap b ws.toArray) (hv:vs≠[])
  (h1:ws=[]->Q (.ref t) s) (h2:ws≠[]->Q (.ref s.heap.objs.size) { s with heap:=s.heap.push { cls:=.type "tuple",data:=.seq (vs++ws).toArray } })
  (hsz:vs.length+ws.length<=sizeLine):wpAny (model prog w) A (binaryOp .Add (.ref t) (.ref b)) Q E s:=by
 obtain ⟨⟨cls,dd,data,sl⟩,ho,hc,n,hd⟩:=id ht
 obtain ⟨⟨cls2,dd2,data2,sl2⟩,ho2,hc2,n2,hd2⟩:=id hb
 simp only at hc hd hc2 hd2
 subst hc hd hc2 hd2
 have e:vs.toArray++ws.toArray=(vs++ws).toArray:=by simp
 by_cases hw:ws=[]
 ·exact concat_meets ⟨_,ho,rfl⟩ ⟨_,ho2,rfl⟩ noFill_tuple_add seq_tuple_add PySem.F.slot_tuple_add PySem.F.entry_tuple_add (PySem.F.args_tuple_add_2 _ _)
   (tuple_addW1 t b vs.toArray ws.toArray n n2 dd dd2 sl sl2 (by simpa using hv) (by simp [hw])) ⟨ho,ho2,h1 hw⟩
 ·refine concat_meets ⟨_,ho,rfl⟩ ⟨_,ho2,rfl⟩ noFill_tuple_add seq_tuple_add PySem.F.slot_tuple_add PySem.F.entry_tuple_add (PySem.F.args_tuple_add_2 _ _)
   (tuple_addW2 t b vs.toArray ws.toArray n n2 dd dd2 sl sl2 (by simpa using hv) (by simpa using hw) (by rw [List.size_toArray,List.size_toArray];exact hsz)) ⟨ho,ho2,?_⟩
  rw [e]
  exact h2 hw
def sIx (n d:Nat):Option Int->Nat
 | none=>d
 | some v=>if v<0 then (v+(n:Int)).toNat else min v.toNat n
theorem Qdz (n d:Nat):sIx n d none=d:=rfl
theorem X2 (n d k:Nat):sIx n d (some (k:Int))=min k n:=by
 show (if (k:Int)<0 then ((k:Int)+(n:Int)).toNat else min (k:Int).toNat n)=min k n
 rw [if_neg (by omega),Int.toNat_natCast]
theorem Qok (n d:Nat) (hd:d<=n) (o:Option Int):sIx n d o<=n:=by
 cases o with
 | none=>exact hd
 | some v =>
  show (if v<0 then (v+(n:Int)).toNat else min v.toNat n)<=n
  by_cases hv:v<0
  ·rw [if_pos hv];omega
  ·rw [if_neg hv];exact Nat.min_le_right _ _
theorem Qih (v:Int) (n d:Nat):(if v<0 then max (v+(n:Int)) 0 else min v (n:Int))=((sIx n d (some v):Nat):Int):=by
 show (if v<0 then max (v+(n:Int)) 0 else min v (n:Int))=(((if v<0 then (v+(n:Int)).toNat else min v.toNat n):Nat):Int)
 by_cases hv:v<0
 ·simp only [if_pos hv];omega
 ·simp only [if_neg hv];omega
theorem Qfs (lo hi:Option Int) (n:Nat):Builtin.Slice.sliceAdjust lo hi 1 (n:Int)=(((sIx n 0 lo:Nat):Int),((sIx n n hi:Nat):Int)):=by
 have h1:¬((1:Int)<0):=by omega
 unfold Builtin.Slice.sliceAdjust
 simp only [h1,if_false]
 refine Prod.ext ?_ ?_
 ·cases lo with
  | none=>rfl
  | some v=>exact Qih v n 0
 ·cases hi with
  | none=>rfl
  | some v=>exact Qih v n n
theorem Qfa (i j:Nat):Builtin.Slice.slicePlaces (i:Int) (j:Int) 1=j-i:=by
 unfold Builtin.Slice.slicePlaces
 have h1:(1:Int) > 0:=by omega
 simp only [h1,if_true,Int.ediv_one]
 split <;> omega
theorem Xh {v:Value} {o:Option Int} {Q:Option Int->Shared->Prop} (p:IsPart v o) (h:Q o s):wpAny (model prog w) A (Builtin.Slice.slicePartIndex v) Q E s:=by
 cases p with
 | none=>exact slicePart_none h
 | int i t=>exact slicePart_int h
theorem Uz {sl:Addr} {vl vu:Value} {lo hi:Option Int} {n:Nat} {Q:Int × Int × Nat->Shared->Prop} (hs:s.heap.IsSliceOf sl vl vu .none) (pl:IsPart vl lo) (pu:IsPart vu hi)
  (h:Q (((sIx n 0 lo:Nat):Int),1,sIx n n hi-sIx n 0 lo) s):wpAny (model prog w) A (Builtin.Slice.sliceApplied (.ref sl) (pure (n:Int))) Q E s:=by
 obtain ⟨os,hos,hcs,hds⟩:=id hs
 unfold Builtin.Slice.sliceApplied Builtin.Slice.sliceFields
 refine wpAny_bind (wpAny_bind (wpAny_field hos hds (x:=vl) rfl (wpAny_bind (wpAny_field hos hds (x:=vu) rfl (wpAny_bind (wpAny_field hos hds (x:=.none) rfl (wpAny_pure ?_)))))))
 refine wpAny_bind (slicePart_none ?_)
 show wpAny _ _ (if ((1:Int) == 0)=true then _ else _) _ _ s
 rw [if_neg (by decide)]
 refine wpAny_bind (Xh pl (wpAny_bind (Xh pu (wpAny_bind (wpAny_pure ?_)))))
 show wpAny _ _ (match Builtin.Slice.sliceAdjust lo hi 1 (n:Int) with | (lo,hi)=>pure (lo,(1:Int),Builtin.Slice.slicePlaces lo hi 1)) _ _ s
 rw [Qfs lo hi n]
 show wpAny _ _ (pure (((sIx n 0 lo:Nat):Int),(1:Int),Builtin.Slice.slicePlaces ((sIx n 0 lo:Nat):Int) ((sIx n n hi:Nat):Int) 1)) _ _ s
 rw [Qfa]
 exact wpAny_pure h
theorem Qji (xs:Array Value) (i k:Nat):((List.range k).filterMap λ(m:Nat)=>xs[((i:Int)+(m:Int)*1).toNat]?).toArray=((xs.toList.drop i).take k).toArray:=by
 have e:(λ(m:Nat)=>xs[((i:Int)+(m:Int)*1).toNat]?)=λm=>xs[i+m]?:=by
  funext m
  have:((i:Int)+(m:Int)*1).toNat=i+m:=by omega
  rw [this]
 rw [e]
 have:=pick_run xs i k
 rw [List.filterMap_map] at this
 have e2:((λx=>xs[x]?) ∘ λx=>i+x)=λm=>xs[i+m]?:=rfl
 rw [e2] at this
 rw [this]
theorem Ug {t sl:Addr} {items:Array Value} {vl vu:Value} {lo hi:Option Int} {Q:Value->Shared->Prop} (ht:IsTup s.heap t items) (hs:s.heap.IsSliceOf sl vl vu .none) (pl:IsPart vl lo) (pu:IsPart vu hi)
  (hw:¬(sIx items.size 0 lo=0/\sIx items.size items.size hi=items.size))
  (h:Q (.ref s.heap.objs.size) { s with heap:=s.heap.push { cls:=.type "tuple",data:=.seq ((items.toList.drop (sIx items.size 0 lo)).take (sIx items.size items.size hi-sIx items.size 0 lo)).toArray } })
  (hsz:items.size<=sizeLine):wpAny (model prog w) A (getItem (.ref t) (.ref sl)) Q E s:=by
 have htake:sizeOk (.seq ((items.toList.drop (sIx items.size 0 lo)).take (sIx items.size items.size hi-sIx items.size 0 lo)).toArray):=by
  show ((items.toList.drop (sIx items.size 0 lo)).take (sIx items.size items.size hi-sIx items.size 0 lo)).toArray.size<=sizeLine
  rw [List.size_toArray,List.length_take,List.length_drop,Array.length_toList]
  omega
 have hj:sIx items.size items.size hi<=items.size:=Qok _ _ (Nat.le_refl _) hi
 obtain ⟨os,hos,hcs,hds⟩:=id hs
 have hTs:s.TypeIs (.ref sl) "slice":=⟨os,hos,hcs⟩
 unfold getItem
 try with_reducible refine wpAny_holding ?_
 first | refine wpAny_bind (wpAny_pure ?_) | skip
 refine wpAny_bind (wpAny_sequenceKey ht.typeIs (by decide) ?_)
 refine wpAny_bind (wpAny_callSpecial?_slot (name:=Str.ofString "__getitem__") ht.typeIs PyProof.Rows.slot_tuple_getitem
  (wpAny_call_entry PyProof.Rows.slot_tuple_getitem ht.typeIs entry_tuple_getitem ?_ (args_tuple_getitem _ _)))
 show wpAny _ _ (Builtin.Tuple.tupleItemsOf (.ref t) >>= _) _ _ s
 refine wpAny_bind (tupleItemsOf_ ht ?_)
 refine wpAny_bind (wpAny_typeOf hTs ?_)
 rw [if_pos (by decide)]
 refine wpAny_bind (Uz hs pl pu ?_)
 have hno:¬((((sIx items.size 0 lo:Nat):Int) == 0 && (1:Int) == 1 && (sIx items.size items.size hi-sIx items.size 0 lo) == items.size)=true):=by
  intro q
  rw [Bool.and_eq_true,Bool.and_eq_true] at q
  have q1:((sIx items.size 0 lo:Nat):Int)=0:=eq_of_beq q.1.1
  have q2:sIx items.size items.size hi-sIx items.size 0 lo=items.size:=eq_of_beq q.2
  exact hw ⟨by omega,by omega⟩
 show wpAny _ _ (if (((sIx items.size 0 lo:Nat):Int) == 0 && (1:Int) == 1 && (sIx items.size items.size hi-sIx items.size 0 lo) == items.size)=true then _ else _) _ _ s
 rw [if_neg hno,Qji]
 first
  | exact wpAny_bind (m:=Builtin.Tuple.tupleExact _) (wpAny_newObj_type (wpAny_pure ⟨_,rfl,wpAny_pure h⟩) htake)
  | exact wpAny_bind (m:=Builtin.Tuple.tupleExact _) (wpAny_newObj_type (wpAny_bind (wpAny_pure (wpAny_pure ⟨_,rfl,wpAny_pure h⟩))) htake)
  | exact wpAny_bind (wpAny_bind (m:=Builtin.Tuple.tupleExact _) (wpAny_newObj_type (wpAny_pure (wpAny_pure ⟨_,rfl,wpAny_pure h⟩)) htake))
  | exact wpAny_bind (wpAny_bind (m:=Builtin.Tuple.tupleExact _) (wpAny_newObj_type (wpAny_pure ⟨_,rfl,wpAny_pure h⟩) htake))
end
end HT
namespace L2
open PySem PySem.Spec PyProof.Rows
abbrev TO:=St->Hp->(Option Int->Hp->Prop)->Prop
def PO (X:Cx) (e:Option Expr) (t:TO):Prop :=
 ∀(pins:List (Addr × Obj)) (s:Shared) (σ:St) (H:Hp) (Q:Option Int->Hp->Prop),Inv X pins σ H s->t σ H Q ->
  wpAny (model X.prog X.w) X.A (evalPart e X.env) (λu s'=>∃o H',Inv X pins σ H' s'/\IsPart u o/\Q o H') X.xe s
def Qlt:TO:=λ_ H Q=>Q none H
def Qq8 (t:TE):TO:=λσ H Q=>t σ H λx H1=>∃i,x=.int i/\Q (some i) H1
section
variable {X:Cx} {e:Expr} {te:TE} {lo hi:Option Expr} {tl th:TO} {pos p2:Pos}
theorem Qmr:PO X none Qlt:=by
 intro pins s σ H Q I h
 rw [evalPart_none]
 exact wpAny_pure ⟨none,H,I,.none,h⟩
theorem Qmq (h:PE X e te):PO X (some e) (Qq8 te):=by
 intro pins s σ H Q I hw
 rw [evalPart_some]
 refine thn (h pins s σ H _ I hw) λu s1 ⟨x,H1,I1,r1,q1⟩=>?_
 obtain ⟨i,rfl,q⟩:=q1
 obtain ⟨t,rfl⟩:=r1
 exact ⟨some i,H1,I1,.int i t,q⟩
def SlR (X:Cx) (r:V->Option Int->Option Int->Hp->VK->Prop):Prop :=
 ∀(pins:List (Addr × Obj)) (s:Shared) (σ:St) (H:Hp) (x:V) (v vl vu:Value) (lo hi:Option Int) (sl:Addr) (Q:VK),Inv X pins σ H s->RelV x v->s.heap.IsSliceOf sl vl vu .none->IsPart vl lo->IsPart vu hi->r x lo hi H Q ->
  ∃T id,typeLookup (.type T) "__getitem__" = pure (some (.builtin id))/\s.TypeIs v T/\wpAny (model X.prog X.w) X.A (getItem v (.ref sl)) (EP X pins σ Q) X.xe s
theorem SlR.or {r r':V->Option Int->Option Int->Hp->VK->Prop} (h:SlR X r) (h':SlR X r'):SlR X (λx lo hi H Q=>r x lo hi H Q\/r' x lo hi H Q):=by
 intro pins s σ H x v vl vu lo hi sl Q I rx hs pl pu q
 rcases q with q | q
 ·exact h pins s σ H x v vl vu lo hi sl Q I rx hs pl pu q
 ·exact h' pins s σ H x v vl vu lo hi sl Q I rx hs pl pu q
def tSl (r:V->Option Int->Option Int->Hp->VK->Prop) (te:TE) (tl th:TO):TE:=λσ H Q=>te σ H λx H1=>tl σ H1 λl H2=>th σ H2 λu H3=>r x l u H3 Q
theorem Qjk {r:V->Option Int->Option Int->Hp->VK->Prop} (hr:SlR X r) (he:PE X e te) (hl:PO X lo tl) (hu:PO X hi th):PE X (.Subscript e (.Slice lo hi none p2) pos) (tSl r te tl th):=by
 intro pins s σ H Q I h
 refine Subscript_ (thn (he pins s σ H _ I h) λv s1 ⟨x,H1,I1,r1,q1⟩=>?_)
 refine wpAny_Slice (thn (hl pins s1 σ H1 _ I1 q1) λvl s2 ⟨l,H2,I2,pl,q2⟩=>thn (hu pins s2 σ H2 _ I2 q2) λvu s3 ⟨u,H3,I3,pu,q3⟩=>?_)
 rw [evalPart_none]
 refine wpAny_pure ?_
 have I4:Inv X pins σ H3 { s3 with heap:=s3.heap.push { cls:=.type "slice",data:=.fields #[vl,vu,.none] } }:=I3.kept (t':=s3.toks) λb ob q=>Heap.get?_push_of_some _ q
 obtain ⟨T,id,hT,ht,hg⟩:=hr pins { s3 with heap:=s3.heap.push { cls:=.type "slice",data:=.fields #[vl,vu,.none] } } σ H3 x v vl vu l u s3.heap.objs.size Q I4 r1 (Heap.IsSliceOf.new ..) pl pu q3
 show wpAny (model X.prog X.w) X.A (subscriptTail e (.Slice lo hi none p2) v (.ref s3.heap.objs.size)) (EP X pins σ Q) X.xe { s3 with heap:=s3.heap.push { cls:=.type "slice",data:=.fields #[vl,vu,.none] } }
 exact tail_any (ops:=[.ref s3.heap.objs.size,v]) ht hT hg (by with_unfolding_all rfl)
def cutV (xs:List V) (lo hi:Option Int):List V:=(xs.drop (HT.sIx xs.length 0 lo)).take (HT.sIx xs.length xs.length hi-HT.sIx xs.length 0 lo)
theorem Gw (xs:List V) (lo hi:Option Int):(cutV xs lo hi).length<=xs.length:=by
 unfold cutV
 rw [List.length_take,List.length_drop]
 omega
def rSlT (K:PySem.W.Frag):V->Option Int->Option Int->Hp->VK->Prop:=λx lo hi H Q=>∃a xs,x=.ref a/\SqT K H a xs /\
 ¬(HT.sIx xs.length 0 lo=0/\HT.sIx xs.length xs.length hi=xs.length)/\∀p,H p=none->Q (.ref p) (upd H p (.tup (cutV xs lo hi)))
theorem Qog:SlR X (rSlT X.K):=by
 intro pins s σ H x v vl vu lo hi sl Q I rx hs pl pu h
 obtain ⟨a,xs,rfl,hx,hw,q⟩:=h
 cases rx
 obtain ⟨its,r,ht,hz⟩:=I.tuple hx
 have hlen:its.toArray.size=xs.length:=by rw [List.size_toArray];exact r.length.symm
 refine ⟨"tuple",_,PyProof.Rows.slot_tuple_getitem.lookup,ht.typeIs,?_⟩
 refine HT.Ug ht hs pl pu (by rw [hlen];exact hw) ?_ (by rw [hlen];exact hz)
 rw [hlen]
 refine ⟨.ref s.heap.objs.size,_,I.laid (t':=s.toks) (o:=.tup (cutV xs lo hi)) (λb ob q=>Heap.get?_push_of_some _ q) (Nat.le_refl _) ?_,rfl,q _ (I.hok.fresh (Nat.le_refl _))⟩
 exact ⟨Nat.le_trans (Gw xs lo hi) hz,_,(r.drop (HT.sIx xs.length 0 lo)).take (HT.sIx xs.length xs.length hi-HT.sIx xs.length 0 lo),IsTup.new _ _⟩
def Qrs (K:PySem.W.Frag):R2:=λx y H Q=>∃a b xs ys,x=.ref a/\y=.ref b/\SqT K H a xs/\SqT K H b ys/\xs≠[]/\xs.length+ys.length<=sizeLine /\
 (ys=[]->Q (.ref a) H)/\(ys≠[]->∀p,H p=none->Q (.ref p) (upd H p (.tup (xs++ys))))
theorem Vals.nil_iff {xs:List V} {us:List Value} (r:Vals xs us):us=[]↔xs=[]:=by
 cases r with
 | nil=>simp
 | cons _ _=>simp
theorem Qm6:OpR X (binaryOp .Add) (Qrs X.K):=by
 intro pins s σ H x y v u Q I rx ry h
 obtain ⟨a,b,xs,ys,rfl,rfl,ha,hb,hx,hz,q1,q2⟩:=h
 cases rx
 cases ry
 obtain ⟨its,r1,p1,_⟩:=I.tuple ha
 obtain ⟨its2,r2,p2,_⟩:=I.tuple hb
 refine HT.Qn4 p1 p2 (λz=>hx (r1.nil_iff.mp z)) (λz=>⟨.ref a,H,I,rfl,q1 (r2.nil_iff.mp z)⟩) (λz=>?_) (by rw [← r1.length,← r2.length];exact hz)
 refine ⟨.ref s.heap.objs.size,_,I.laid (t':=s.toks) (o:=.tup (xs++ys)) (λb ob q=>Heap.get?_push_of_some _ q) (Nat.le_refl _) ?_,rfl,q2 (λw=>z (r2.nil_iff.mpr w)) _ (I.hok.fresh (Nat.le_refl _))⟩
 exact ⟨by rw [List.length_append];exact hz,_,r1.append r2,IsTup.new _ _⟩
end
end L2
namespace L2
open PySem PySem.Spec PyProof.Rows
def ixN (n:Nat) (i:Int):Option Nat:=if 0<=i then (if i<n then some i.toNat else none) else if -(n:Int)<=i then some (i+n).toNat else none
def atI {α:Type} (xs:List α) (i:Int):Option α:=(ixN xs.length i).bind λj=>xs[j]?
theorem Qag {n:Nat} {i:Int} {j:Nat} (h:ixN n i=some j):seqIndex? i n=some j/\j<n /\ -(n:Int)<=i/\i<n:=by
 unfold ixN at h
 by_cases h0:0<=i
 ·rw [if_pos h0] at h
  by_cases h1:i<n
  ·rw [if_pos h1] at h
   have e:i.toNat=j:=Option.some.inj h
   exact ⟨by rw [seqIndex_of h0 h1,e],by omega,by omega,h1⟩
  ·rw [if_neg h1] at h;cases h
 ·rw [if_neg h0] at h
  by_cases h1:-(n:Int)<=i
  ·rw [if_pos h1] at h
   have e:(i+n).toNat=j:=Option.some.inj h
   exact ⟨by rw [seqIndex_neg (by omega) h1,e],by omega,h1,by omega⟩
  ·rw [if_neg h1] at h;cases h
theorem Qdg {α:Type} {xs:List α} {i:Int} {v:α} (h:atI xs i=some v):∃j,seqIndex? i xs.length=some j/\xs[j]? = some v/\j<xs.length /\ -(xs.length:Int)<=i/\i<xs.length:=by
 unfold atI at h
 cases e:ixN xs.length i with
 | none=>rw [e] at h;cases h
 | some j =>
  rw [e] at h
  obtain ⟨h1,h2,h3,h4⟩:=Qag e
  exact ⟨j,h1,h,h2,h3,h4⟩
def Qay (b:Expr):Prop:=∀o i,subscripted b false o i=operate [o,i] (getItem o i)
def IxR (X:Cx) (r:R2):Prop :=
 ∀(value slice:Expr) (pins:List (Addr × Obj)) (s:Shared) (σ:St) (H:Hp) (x y:V) (v u:Value) (Q:VK),Inv X pins σ H s->RelV x v->RelV y u->r x y H Q ->
  subscripted slice false v u=operate [v,u] (getItem v u)->wpAny (model X.prog X.w) X.A (subscriptTail value slice v u) (EP X pins σ Q) X.xe s
def MtR (X:Cx) (id:String) (r:V->List V->Hp->VK->Prop):Prop :=
 ∀(pins:List (Addr × Obj)) (s:Shared) (σ:St) (H:Hp) (x:V) (xs:List V) (v:Value) (us:List Value) (Q:VK),Inv X pins σ H s->RelV x v->Vals xs us->r x xs H Q ->
  wpAny (model X.prog X.w) X.A (call (.builtin id) (v::us)) (EP X pins σ Q) X.xe s
section
variable {X:Cx} {a b:Expr} {ta tb:TE} {pos:Pos}
theorem IxR.or {r r':R2} (h:IxR X r) (h':IxR X r'):IxR X (λx y H Q=>r x y H Q\/r' x y H Q):=by
 intro value slice pins s σ H x y v u Q I rx ry q hs
 rcases q with q | q
 ·exact h value slice pins s σ H x y v u Q I rx ry q hs
 ·exact h' value slice pins s σ H x y v u Q I rx ry q hs
theorem Qmw {r:R2} (hr:IxR X r) (ha:PE X a ta) (hb:PE X b tb) (hs:Qay b):PE X (.Subscript a b pos) (tOp r ta tb):=by
 intro pins s σ H Q I h
 exact Subscript_ (binT ha hb I h λv u s2 x y H2 I2 rx ry q=>hr a b pins s2 σ H2 x y v u Q I2 rx ry q (hs _ _))
def rIxL (K:PySem.W.Frag):R2:=λx y H Q=>∃p xs i v,x=.ref p/\y=.int i/\SqL K H p xs/\atI xs i=some v/\Q v H
def rIxT (K:PySem.W.Frag):R2:=λx y H Q=>∃p xs i v,x=.ref p/\y=.int i/\SqT K H p xs/\atI xs i=some v/\Q v H
def rIxS:R2:=λx y H Q=>∃z i c,x=.str z/\y=.int i/\z.length<=sizeLine/\atI z.cps.toList i=some c/\Q (.str ⟨#[c]⟩) H
theorem Qnl:IxR X (rIxL X.K):=by
 intro value slice pins s σ H x y v u Q I rx ry h hs
 obtain ⟨p,xs,i,z,rfl,rfl,hq,he,q⟩:=h
 cases rx
 obtain ⟨t,rfl⟩:=ry
 obtain ⟨its,r,pl,hz⟩:=I.list hq
 obtain ⟨j,h1,h2,h3,h4,h5⟩:=Qdg he
 obtain ⟨w,ew,rw'⟩:=r.get h2
 have hl:=r.length
 have hn:=Xq
 have fin:EP X pins σ Q w s:=⟨z,H,I,rw',q⟩
 by_cases h0:0<=i
 ·have hj:i.toNat=j:=by
   rw [seqIndex_of h0 h5] at h1
   exact Option.some.inj h1
  exact item_listR pl.isList h0 (by omega) (by rw [hj];simpa using ew) fin hs
 ·have hj:(i+(its.toArray.size:Int)).toNat=j:=by
   rw [seqIndex_neg (by omega) h4] at h1
   rw [List.size_toArray,← hl]
   exact Option.some.inj h1
  exact subscriptTail_builtinR (x:=w) pl.isList.typeIs slot_list_getitem.lookup
   (wpAny_getItem_list_neg (Q:=λr s'=>r=w/\EP X pins σ Q r s') pl.isList (by omega) (by rw [List.size_toArray] <;> omega) (by omega) (by rw [hj];simpa using ew) ⟨rfl,fin⟩) hs
theorem Qqi:IxR X (rIxT X.K):=by
 intro value slice pins s σ H x y v u Q I rx ry h hs
 obtain ⟨p,xs,i,z,rfl,rfl,hq,he,q⟩:=h
 cases rx
 obtain ⟨t,rfl⟩:=ry
 obtain ⟨its,r,pl,hz⟩:=I.tuple hq
 obtain ⟨j,h1,h2,h3,h4,h5⟩:=Qdg he
 obtain ⟨w,ew,rw'⟩:=r.get h2
 have hl:=r.length
 have hn:=Xq
 have fin:EP X pins σ Q w s:=⟨z,H,I,rw',q⟩
 exact subscriptTail_builtinR (x:=w) pl.typeIs slot_tuple_getitem.lookup
  (getItem_tuple (j:=j) (Q:=λr s'=>r=w/\EP X pins σ Q r s') pl (by omega) (by omega) (by rw [List.size_toArray,← hl];exact h1) (by simpa using ew) ⟨rfl,fin⟩) hs
theorem Qqj:IxR X rIxS:=by
 intro value slice pins s σ H x y v u Q I rx ry h hs
 obtain ⟨z,i,c,rfl,rfl,hz,he,q⟩:=h
 obtain ⟨t,rfl⟩:=rx
 obtain ⟨t',rfl⟩:=ry
 obtain ⟨j,h1,h2,h3,h4,h5⟩:=Qdg he
 have hl:z.cps.toList.length=z.length:=by simp [Str.length]
 rw [hl] at h1 h4 h5
 have hn:=Xq
 exact tail_any (typeIs_str s z t) slot_str_getitem.lookup (getItem_str (c:=c) (by
  have e1:decide (i < -(2 ^ 63:Int))=false:=decide_eq_false (by omega)
  have e2:decide (i ≥ 2 ^ 63)=false:=decide_eq_false (by omega)
  rw [e1,e2,Bool.or_false]) (by rw [h1];simpa using h2) ⟨.str ⟨#[c]⟩,H,I.tok _,⟨_,rfl⟩,q⟩) hs
def rIx (K:PySem.W.Frag):R2:=λx y H Q=>rIxL K x y H Q\/rIxT K x y H Q\/rIxS x y H Q
theorem Qqk:IxR X (rIx X.K):=Qnl.or (Qqi.or Qqj)
theorem Qfi (its:List Value) (n j:Nat) (u:Value):Obj.mapSeq (·.setIfInBounds j u) { cls:=.type "list",data:=.seq its.toArray n }={ cls:=.type "list",data:=.seq (its.set j u).toArray n }:=by
 simp [Obj.mapSeq]
theorem Inv.lst {pins:List (Addr × Obj)} {σ:St} {H:Hp} {s:Shared} {p:Addr} {xs:List V} (I:Inv X pins σ H s) (h:H p=some (.lst xs)) :
  ∃(its:List Value) (n:Nat),Vals xs its/\s.heap.get? p=some { cls:=.type "list",data:=.seq its.toArray n }/\xs.length<=sizeLine:=by
 obtain ⟨z,its,n,r,e⟩:=I.hok p _ h
 exact ⟨its,n,r,e,z⟩
theorem Inv.lstUpd {pins:List (Addr × Obj)} {σ:St} {H:Hp} {s:Shared} {p:Addr} {xs ys:List V} {its its':List Value} {n n':Nat} {f:Obj->Obj} (I:Inv X pins σ H s) (h:H p=some (.lst xs))
  (ho:s.heap.get? p=some { cls:=.type "list",data:=.seq its.toArray n }) (hf:f { cls:=.type "list",data:=.seq its.toArray n }={ cls:=.type "list",data:=.seq its'.toArray n' }) (r:Vals ys its') (hz:ys.length<=sizeLine) (t:Nat) :
  Inv X pins σ (upd H p (.lst ys)) { s with heap:=s.heap.update p f,toks:=t }:=by
 have e:(s.heap.update p f).get? p=some { cls:=.type "list",data:=.seq its'.toArray n' }:=by
  rw [Heap.get?_update_self f ho (by rw [hf] <;> rfl),hf]
 refine I.write (x:=p) (e:=p) (by rw [h];trivial) (.inl rfl) (λb u hb q=>(Heap.get?_update_other _ _ (Ne.symm hb)).trans q) ⟨_,e⟩ ?_
 exact ⟨hz,its',n',r,e⟩
def Qrp:V->V->V->Hp->(Hp->Prop)->Prop:=λo i v H Q=>∃p xs k j,o=.ref p/\i=.int k/\H p=some (.lst xs)/\ixN xs.length k=some j/\Q (upd H p (.lst (xs.set j v)))
theorem Qdy:PSet X Qrp:=by
 intro pins s σ H o i v ov iv u Q I ro ri rv h
 obtain ⟨p,xs,k,j,rfl,rfl,hp,hj,q⟩:=h
 cases ro
 obtain ⟨t,rfl⟩:=ri
 obtain ⟨its,n,r,ho,hz⟩:=I.lst hp
 obtain ⟨h1,h2,h3,h4⟩:=Qag hj
 have hl:=r.length
 have hn:=Xq
 have I':Inv X pins σ (upd H p (.lst (xs.set j v))) { s with heap:=s.heap.update p (Obj.mapSeq (·.setIfInBounds j u)) } :=
  I.lstUpd hp ho (Qfi its n j u) (r.set rv j) (by rw [List.length_set];exact hz) s.toks
 by_cases h0:0<=k
 ·have hk:k.toNat=j:=by
   rw [seqIndex_of h0 h4] at h1
   exact Option.some.inj h1
  exact PySem.W.ki_setAt ho h0 (by omega) (by rw [List.size_toArray,← hl];exact h4) (by rw [hk];exact ⟨_,I',q⟩)
 ·have hk:(k+(its.toArray.size:Int)).toNat=j:=by
   rw [seqIndex_neg (by omega) h3] at h1
   rw [List.size_toArray,← hl]
   exact Option.some.inj h1
  exact PySem.W.ki_setBack ho (by omega) (by rw [List.size_toArray,← hl];exact h3) (by omega) (by rw [hk];exact ⟨_,I',q⟩)
theorem Qba (lo hi:Option Int) (n:Nat):(sliceBounds lo hi none n).1=((HT.sIx n 0 lo:Nat):Int)/\(sliceBounds lo hi none n).2.1=((HT.sIx n n hi:Nat):Int)/\(sliceBounds lo hi none n).2.2=1:=by
 refine ⟨?_,?_,rfl⟩
 ·cases lo with
  | none=>simp [sliceBounds,HT.sIx]
  | some i =>
   simp only [sliceBounds,HT.sIx,Option.getD_none,show (1:Int) > 0 by decide,if_true]
   by_cases h:i<0
   ·simp only [h,if_true] <;> omega
   ·simp only [h,if_false] <;> omega
 ·cases hi with
  | none=>simp [sliceBounds,HT.sIx]
  | some i =>
   simp only [sliceBounds,HT.sIx,Option.getD_none,show (1:Int) > 0 by decide,if_true]
   by_cases h:i<0
   ·simp only [h,if_true] <;> omega
   ·simp only [h,if_false] <;> omega
theorem X0 (its:List Value) (lo hi:Option Int):slicePick its.toArray lo hi none=((its.drop (HT.sIx its.length 0 lo)).take (HT.sIx its.length its.length hi-HT.sIx its.length 0 lo)).toArray:=by
 obtain ⟨h1,h2,h3⟩:=Qba lo hi its.toArray.size
 unfold slicePick
 rw [h1,h2,h3]
 simp only [sliceRange_one,pick_run,List.size_toArray] <;> rfl
def rSlL (K:PySem.W.Frag):V->Option Int->Option Int->Hp->VK->Prop:=λx lo hi H Q=>∃a xs,x=.ref a/\SqL K H a xs/\∀p,H p=none->Q (.ref p) (upd H p (.lst (cutV xs lo hi)))
theorem Qlz:SlR X (rSlL X.K):=by
 intro pins s σ H x v vl vu lo hi sl Q I rx hs pl pu h
 obtain ⟨a,xs,rfl,hx,q⟩:=h
 cases rx
 obtain ⟨its,r,ht,hz⟩:=I.list hx
 have hlen:=r.length
 refine ⟨"list",_,slot_list_getitem.lookup,ht.isList.typeIs,?_⟩
 refine wpAny_getItem_list_slice ht.isList hs pl pu .none (by simp) ?_ (by rw [List.size_toArray] <;> omega)
 rw [X0,← hlen]
 refine ⟨.ref s.heap.objs.size,_,I.laid (t':=s.toks) (o:=.lst (cutV xs lo hi)) (λb ob q=>Heap.get?_push_of_some _ q) (Nat.le_refl _) ?_,rfl,q _ (I.hok.fresh (Nat.le_refl _))⟩
 exact ⟨Nat.le_trans (Gw xs lo hi) hz,_,0,(r.drop (HT.sIx xs.length 0 lo)).take (HT.sIx xs.length xs.length hi-HT.sIx xs.length 0 lo),Heap.get?_push_size _ rfl⟩
def Xb:V->Bool
 | .non=>true
 | .bl _=>true
 | .int _=>true
 | .str _=>true
 | _=>false
def eqV:V->V->Bool
 | .non,.non=>true
 | .bl a,.bl b=>a == b
 | .bl a,.int b=>(if a then 1 else 0) == b
 | .int a,.bl b=>a == (if b then 1 else 0)
 | .int a,.int b=>a == b
 | .str a,.str b=>a == b
 | _,_=>false
theorem Qqv {A:Around} {s:Shared} {y x:V} {u v:Value} (ry:RelV y u) (rx:RelV x v) (fy:Xb y=true) (fx:Xb x=true):SeqAt.EqAt A s u v (eqV y x):=by
 cases y with
 | non =>
  cases ry
  cases x with
  | non=>cases rx;exact SeqAt.EqAt.same _
  | bl b=>cases rx;exact SeqAt.EqAt.none_bool b
  | int b=>obtain ⟨t,rfl⟩:=rx;exact SeqAt.EqAt.none_int b t
  | str b=>obtain ⟨t,rfl⟩:=rx;exact SeqAt.EqAt.none_str b t
  | _=>exact absurd (show false=true from fx) Bool.false_ne_true
 | bl a =>
  cases ry
  cases x with
  | non=>cases rx;exact SeqAt.EqAt.bool_none a
  | bl b=>cases rx;exact SeqAt.EqAt.bool_bool a b
  | int b=>obtain ⟨t,rfl⟩:=rx;exact SeqAt.EqAt.bool_int a b t
  | str b=>obtain ⟨t,rfl⟩:=rx;exact SeqAt.EqAt.bool_str a b t
  | _=>exact absurd (show false=true from fx) Bool.false_ne_true
 | int a =>
  obtain ⟨t',rfl⟩:=ry
  cases x with
  | non=>cases rx;exact SeqAt.EqAt.int_none a t'
  | bl b=>cases rx;exact SeqAt.EqAt.int_bool a t' b
  | int b=>obtain ⟨t,rfl⟩:=rx;exact SeqAt.EqAt.int_int a t' b t
  | str b=>obtain ⟨t,rfl⟩:=rx;exact SeqAt.EqAt.int_str a t' b t
  | _=>exact absurd (show false=true from fx) Bool.false_ne_true
 | str a =>
  obtain ⟨t',rfl⟩:=ry
  cases x with
  | non=>cases rx;exact SeqAt.EqAt.str_none a t'
  | bl b=>cases rx;exact SeqAt.EqAt.str_bool a t' b
  | int b=>obtain ⟨t,rfl⟩:=rx;exact SeqAt.EqAt.str_int a t' b t
  | str b=>obtain ⟨t,rfl⟩:=rx;exact SeqAt.EqAt.str_str a t' b t
  | _=>exact absurd (show false=true from fx) Bool.false_ne_true
 | _=>exact absurd (show false=true from fy) Bool.false_ne_true
def eqU (x:V) (u:Value):Bool:=match u with
 | .none=>eqV .non x
 | .bool b=>eqV (.bl b) x
 | .int i _=>eqV (.int i) x
 | .str z _=>eqV (.str z) x
 | _=>false
theorem Qlb {x y:V} {u:Value} (r:RelV y u) (f:Xb y=true):eqU x u=eqV y x:=by
 cases y with
 | non=>cases r;rfl
 | bl b=>cases r;rfl
 | int i=>obtain ⟨t,rfl⟩:=r;rfl
 | str z=>obtain ⟨t,rfl⟩:=r;rfl
 | _=>exact absurd (show false=true from f) Bool.false_ne_true
theorem G5 {x:V}:∀{xs:List V} {us:List Value},Vals xs us->xs.all Xb=true->us.any (eqU x)=xs.any λy=>eqV y x
 | _,_,.nil,_=>rfl
 | y::xs,u::us,.cons r t,f=>by
  rw [List.all_cons,Bool.and_eq_true] at f
  rw [List.any_cons,List.any_cons,Qlb r f.1,G5 t f.2]
theorem Vu {A:Around} {s:Shared} {x:V} {v:Value} (rx:RelV x v) (fx:Xb x=true):∀{xs:List V} {us:List Value},Vals xs us->xs.all Xb=true->∀u∈us,SeqAt.EqAt A s u v (eqU x u)
 | _,_,.nil,_=>λu hu=>by cases hu
 | y::xs,u::us,.cons r t,f=>λu' hu=>by
  rw [List.all_cons,Bool.and_eq_true] at f
  rcases List.mem_cons.mp hu with rfl | hu
  ·rw [Qlb r f.1];exact Qqv r rx f.1 fx
  ·exact Vu rx fx t f.2 u' hu
def inV (x:V) (xs:List V):Bool:=xs.any λy=>eqV y x
def rIn (K:PySem.W.Frag) (neg:Bool):R2:=λx y H Q=>∃p xs,y=.ref p/\(SqL K H p xs\/SqT K H p xs)/\Xb x=true/\xs.all Xb=true/\Q (.bl (if neg then !inV x xs else inV x xs)) H
theorem Qg9:OpR X (compareOp .In) (rIn X.K false):=by
 intro pins s σ H x y v u Q I rx ry h
 obtain ⟨p,xs,rfl,hq,fx,fs,q⟩:=h
 cases ry
 rcases hq with hq | hq
 ·obtain ⟨its,r,pl,hz⟩:=I.list hq
  refine SeqAt.in_listAt (eqU x) pl.isList (λw hw=>Vu rx fx r fs w (by simpa using hw)) ⟨.bl _,H,I,rfl,?_⟩
  rw [show its.toArray.any (eqU x)=its.any (eqU x) by simp,G5 r fs]
  exact q
 ·obtain ⟨its,r,pl,hz⟩:=I.tuple hq
  refine SeqAt.in_tupleAt (eqU x) pl (λw hw=>Vu rx fx r fs w (by simpa using hw)) ⟨.bl _,H,I,rfl,?_⟩
  rw [show its.toArray.any (eqU x)=its.any (eqU x) by simp,G5 r fs]
  exact q
theorem Qbk:OpR X (compareOp .NotIn) (rIn X.K true):=by
 intro pins s σ H x y v u Q I rx ry h
 obtain ⟨p,xs,rfl,hq,fx,fs,q⟩:=h
 cases ry
 rcases hq with hq | hq
 ·obtain ⟨its,r,pl,hz⟩:=I.list hq
  refine SeqAt.notIn_listAt (eqU x) pl.isList (λw hw=>Vu rx fx r fs w (by simpa using hw)) ⟨.bl _,H,I,rfl,?_⟩
  rw [show its.toArray.any (eqU x)=its.any (eqU x) by simp,G5 r fs]
  exact q
 ·obtain ⟨its,r,pl,hz⟩:=I.tuple hq
  refine SeqAt.notIn_tupleAt (eqU x) pl (λw hw=>Vu rx fx r fs w (by simpa using hw)) ⟨.bl _,H,I,rfl,?_⟩
  rw [show its.toArray.any (eqU x)=its.any (eqU x) by simp,G5 r fs]
  exact q
theorem Qbj:OpR X (compareOp .NotIn) (λx y H Q=>∃i j,x=.str i/\y=.str j/\Q (.bl (!(!(Builtin.Str.occurrences j i 0 j.length 1).isEmpty))) H):=by
 intro pins s σ H x y v u Q I rx ry h
 obtain ⟨i,j,rfl,rfl,q⟩:=h
 obtain ⟨t,rfl⟩:=rx
 obtain ⟨t',rfl⟩:=ry
 exact notIn_str ⟨.bl _,H,I,rfl,q⟩
theorem Zc.or {f:Value} {r r':List V->Hp->VK->Prop} (h:Zc X f r) (h':Zc X f r'):Zc X f (λxs H Q=>r xs H Q\/r' xs H Q):=by
 intro pins s σ H xs us Q I rs q
 rcases q with q | q
 ·exact h pins s σ H xs us Q I rs q
 ·exact h' pins s σ H xs us Q I rs q
theorem Qb3:Zc X (.type "list") (λxs H Q=>∃p ys,xs=[.ref p]/\(SqL X.K H p ys\/SqT X.K H p ys)/\∀l,H l=none->Q (.ref l) (upd H l (.lst ys))):=by
 intro pins s σ H xs us Q I r h
 obtain ⟨p,ys,rfl,hq,q⟩:=h
 obtain ⟨u,rfl,rx⟩:=Uy r
 cases rx
 have fin:∀(its:List Value),Vals ys its->ys.length<=sizeLine->∀(h':Heap) (c':Nat),(∀b o',s.heap.get? b=some o'->h'.get? b=some o') ->
   h'.get? s.heap.objs.size=some { cls:=.type "list",dict:=none,data:=.seq its.toArray c',slots:=#[] }->EP X pins σ Q (.ref s.heap.objs.size) { s with heap:=h' }:=λits r' hz h' c' kp e =>
  ⟨.ref s.heap.objs.size,_,I.laid (t':=s.toks) kp (Nat.le_refl _) (show Jo X.prog X.w _ h' _ (.lst ys) from ⟨hz,its,c',r',e⟩),rfl,q _ (I.hok.fresh (Nat.le_refl _))⟩
 rcases hq with hq | hq
 ·obtain ⟨its,r',pl,hz⟩:=I.list hq
  have hlen:=r'.length
  obtain ⟨o,ho,hc,n,hd⟩:=pl.isList
  exact call_list_seq p (.inl rfl) ho hc hd (λh' c' kp e=>fin its r' hz h' c' kp e) (by simp only [List.size_toArray] <;> omega)
 ·obtain ⟨its,r',pl,hz⟩:=I.tuple hq
  have hlen:=r'.length
  obtain ⟨o,ho,hc,n,hd⟩:=pl
  exact call_list_seq p (.inr rfl) ho hc hd (λh' c' kp e=>fin its r' hz h' c' kp e) (by simp only [List.size_toArray] <;> omega)
theorem Qar:Zc X (.type "tuple") (λxs H Q=>∃p ys,xs=[.ref p]/\((SqL X.K H p ys/\∀l,H l=none->Q (.ref l) (upd H l (.tup ys)))\/(SqT X.K H p ys/\Q (.ref p) H))):=by
 intro pins s σ H xs us Q I r h
 obtain ⟨p,ys,rfl,h⟩:=h
 obtain ⟨u,rfl,rx⟩:=Uy r
 cases rx
 rcases h with ⟨hq,q⟩ | ⟨hq,q⟩
 ·obtain ⟨its,r',pl,hz⟩:=I.list hq
  have hlen:=r'.length
  refine call_tuple_list pl.isList (λh' kp=>?_) (by simp only [List.size_toArray] <;> omega)
  have I1:Inv X pins σ H { s with heap:=h' }:=I.kept (t':=s.toks) kp
  have I2:Inv X pins σ (upd H h'.objs.size (.tup ys)) { s with heap:=h'.push { cls:=.type "tuple",data:=.seq its.toArray } } :=
   I1.laid (t':=s.toks) (λb o e=>Heap.get?_push_of_some _ e) (Nat.le_refl _) (show Jo X.prog X.w _ _ _ (.tup ys) from ⟨hz,its,r',IsTup.new _ _⟩)
  exact ⟨.ref h'.objs.size,_,I2,rfl,q _ (I1.hok.fresh (Nat.le_refl _))⟩
 ·obtain ⟨its,r',pl,hz⟩:=I.tuple hq
  exact call_tuple_same pl ⟨.ref p,H,I,rfl,q⟩
def tyV (K:PySem.W.Frag) (T:String) (x:V) (H:Hp):Prop:=match x with
 | .str _=>T = "str"
 | .int _=>T = "int"
 | .ref p=>(T = "list" /\ ∃xs,SqL K H p xs)\/(T = "tuple" /\ ∃o,K.lookup p=some o/\o.cls=.type "tuple" /\ o.dict=none) \/
   (T = "dict" /\ ((∃kvs,H p=some (.dK kvs))\/∃kvs,H p=some (.dT kvs)))\/(T = "set" /\ ∃S n,H p=some (.set S n))
 | _=>False
theorem Qgd {pins:List (Addr × Obj)} {σ:St} {H:Hp} {s:Shared} {T:String} {x:V} {v:Value} (I:Inv X pins σ H s) (r:RelV x v) (ty:tyV X.K T x H) :
  s.TypeIs v T/\∀a,v=.ref a->∃ob,s.heap.get? a=some ob/\ob.dict=none:=by
 cases x with
 | str z =>
  obtain ⟨t,rfl⟩:=r
  cases (show T = "str" from ty)
  exact ⟨typeIs_str s z t,λ_ e=>nomatch e⟩
 | int i =>
  obtain ⟨t,rfl⟩:=r
  cases (show T = "int" from ty)
  exact ⟨typeIs_int s i t,λ_ e=>nomatch e⟩
 | ref p =>
  cases r
  rcases ty with ⟨rfl,xs,hq⟩ | ⟨rfl,o,hk,hc,hd⟩ | ⟨rfl,hk⟩ | ⟨rfl,S,n,hk⟩
  ·obtain ⟨its,_,pl,_⟩:=I.list hq
   refine ⟨pl.isList.typeIs,λa e=>?_⟩
   cases e
   obtain ⟨o,n,e,c,hd,_⟩:=pl
   exact ⟨o,e,hd⟩
  ·refine ⟨⟨o,I.kIn p o hk,hc⟩,λa e=>?_⟩
   cases e
   exact ⟨o,I.kIn _ o hk,hd⟩
  ·have z:∃o,s.heap.get? p=some o/\o.ExactDict:=by
    rcases hk with ⟨kvs,hk⟩ | ⟨kvs,hk⟩
    ·obtain ⟨_,_,_,_,o,_,_,e,ex,_⟩:=I.hok p _ hk
     exact ⟨o,e,ex⟩
    ·obtain ⟨_,_,_,_,o,_,_,e,ex,_⟩:=I.hok p _ hk
     exact ⟨o,e,ex⟩
   obtain ⟨o,e,ex⟩:=z
   refine ⟨⟨o,e,ex.1⟩,λa e2=>?_⟩
   cases e2
   exact ⟨o,e,ex.2.1⟩
  ·obtain ⟨o,_,_,_,e,ex,_⟩:=I.hok p _ hk
   refine ⟨⟨o,e,ex.1⟩,λa e2=>?_⟩
   cases e2
   exact ⟨o,e,ex.2.1⟩
 | _=>exact False.elim ty
def tBM0 (K:PySem.W.Frag) (T:String) (r:V->List V->Hp->VK->Prop) (to:TE):TE:=λσ H Q=>to σ H λx H1=>tyV K T x H1/\r x [] H1 Q
def tBM (K:PySem.W.Frag) (T:String) (r:V->List V->Hp->VK->Prop) (to:TE) (t:TA):TE:=λσ H Q=>to σ H λx H1=>tyV K T x H1/\t σ H1 λxs H2=>r x xs H2 Q
variable {o e:Expr} {es:List Expr} {to:TE} {t:TA} {name:Str} {apos cpos:Pos} {T id:String} {r:V->List V->Hp->VK->Prop}
theorem Qo9 (pa:PlainAttrs T) (slot:Slot T name id) (hty:typeOf (.builtin id)=pure (.type "method_descriptor")) (hm:MtR X id r) (ho:PE X o to)
  (hbase:attributeBase o name X.env (eval o X.env)=eval o X.env:=by rfl) (hline:(apos.endLine == cpos.line)=true:=by rfl):PE X (.Call (.Attribute o name apos) [] [] cpos) (tBM0 X.K T r to):=by
 intro pins s σ H Q I h
 refine wpAny_Call_method0_late hbase hline (thn (ho pins s σ H _ I h) λv s1 ⟨x,H1,I1,r1,ty,q1⟩=>?_)
 obtain ⟨h1,h2⟩:=Qgd I1 r1 ty
 exact ⟨T,id,pa,slot,hty,h1,h2,Calls.callWith_builtin rfl (PySem.evalArgs_none (hm pins s1 σ H1 x [] v [] Q I1 r1 .nil q1))⟩
theorem Qfd (pa:PlainAttrs T) (slot:Slot T name id) (hty:typeOf (.builtin id)=pure (.type "method_descriptor")) (hm:MtR X id r) (ho:PE X o to) (ha:PA X (e::es) t)
  (hbase:attributeBase o name X.env (eval o X.env)=eval o X.env:=by rfl)
  (hfew:((backTo cpos (starEach (e::es) X.env)).all (λx=>!x.1) && (backToKw cpos (keywordEach [] X.env)).all (λx=>x.1.isSome)
   && decide ((e::es).length+([]:List Keyword).length+(if ([]:List Keyword).isEmpty then 0 else 1)<30))=true:=by rfl)
  (hline:(apos.endLine == cpos.line)=true:=by rfl) (hs:starEach (e::es) X.env=(false,eval e X.env)::starEach es X.env:=by rfl) (hplain:(backTo cpos (starEach es X.env)).any (·.1)=false:=by rfl) :
  PE X (.Call (.Attribute o name apos) (e::es) [] cpos) (tBM X.K T r to t):=by
 intro pins s σ H Q I h
 refine wpAny_Call_method_late hbase hfew hline rfl (thn (ho pins s σ H _ I h) λv s1 ⟨x,H1,I1,r1,ty,q1⟩=>?_)
 obtain ⟨h1,h2⟩:=Qgd I1 r1 ty
 refine ⟨T,id,pa,slot,hty,h1,h2,?_⟩
 have hA:=ha cpos pins s1 σ H1 _ I1 q1
 rw [hs] at hA ⊢
 refine Calls.callWith_builtin (by show (false || (backTo cpos (starEach es X.env)).any (·.1))=false;rw [hplain] <;> rfl) (Calls.evalArgs_plain ?_)
 exact thn hA λus s2 ⟨vs,H2,I2,r2,q2⟩=>hm pins s2 σ H2 x vs v us Q I2 r1 r2 q2
end
end L2
namespace L2
open PySem PySem.Spec PyProof.Rows
def MtM (X:Cx) (id:String) (r:V->List V->Hp->VK->Prop):Prop :=
 ∀(pins:List (Addr × Obj)) (s:Shared) (σ:St) (H:Hp) (x:V) (xs:List V) (v:Value) (us:List Value) (Q:VK),Inv X pins σ H s->RelV x v->Vals xs us->r x xs H Q ->
  wpAny (model X.prog X.w) X.A (call (.builtin id) (v::us)) (EP X pins σ Q) X.xe s
theorem Vals.one:∀{x:V} {us:List Value},Vals [x] us->∃u,us=[u]/\RelV x u
 | _,_,.cons r .nil=>⟨_,rfl,r⟩
theorem Vals.two:∀{x y:V} {us:List Value},Vals [x,y] us->∃u v,us=[u,v]/\RelV x u/\RelV y v
 | _,_,_,.cons r (.cons q .nil)=>⟨_,_,rfl,r,q⟩
theorem Vals.zero:∀{us:List Value},Vals [] us->us=[]
 | _,.nil=>rfl
theorem Vals.dropLast {xs:List V} {us:List Value} (h:Vals xs us):Vals xs.dropLast us.dropLast:=by
 induction h with
 | nil=>exact .nil
 | cons r t ih =>
  cases t with
  | nil=>exact .nil
  | cons q t'=>exact .cons r ih
theorem Vals.eraseIdx:∀{xs:List V} {us:List Value} (i:Nat),Vals xs us->Vals (xs.eraseIdx i) (us.eraseIdx i)
 | _,_,_,.nil=>.nil
 | _,_,0,.cons _ t=>t
 | _,_,i+1,.cons r t=>.cons r (Vals.eraseIdx i t)
theorem Vals.rep {xs:List V} {us:List Value} (h:Vals xs us):∀k:Nat,Vals (List.replicate k xs).flatten (List.replicate k us).flatten
 | 0=>.nil
 | k+1=>by
  rw [List.replicate_succ,List.replicate_succ,List.flatten_cons,List.flatten_cons]
  exact Vals.append h (Vals.rep h k)
theorem Ui {α:Type} (l:List α):l.eraseIdx (l.length-1)=l.dropLast:=by
 induction l with
 | nil=>rfl
 | cons a r ih =>
  cases r with
  | nil=>rfl
  | cons b r =>
   have e:(a::b::r).length-1=((b::r).length-1)+1:=by
    have h1:(a::b::r).length=r.length+2:=rfl
    have h2:(b::r).length=r.length+1:=rfl
    omega
   rw [e,List.eraseIdx_cons_succ,ih]
   all_goals rfl
theorem Gp {α:Type}:∀(l:List α) (i:Nat),(l.eraseIdx i).length<=l.length
 | [],_=>Nat.le_refl _
 | _::_,0=>Nat.le_succ _
 | _::r,i+1=>Nat.succ_le_succ (Gp r i)
theorem Qbu (its:List Value):∀(k:Nat) (acc:List Value),
  List.foldl (λx1 x2=>x1++x2) acc.toArray (List.replicate k its.toArray)=(acc++(List.replicate k its).flatten).toArray
 | 0,acc=>by simp
 | k+1,acc=>by
  have e:acc.toArray++its.toArray=(acc++its).toArray:=by simp
  have e2:(acc++its)++(List.replicate k its).flatten=acc++(List.replicate (k+1) its).flatten:=by
   rw [List.replicate_succ,List.flatten_cons,List.append_assoc]
  rw [← e2,← Qbu its k (acc++its),← e,List.replicate_succ,List.foldl_cons]
section
variable {X:Cx} {pins:List (Addr × Obj)} {σ:St} {H:Hp} {s:Shared} {l b:Addr} {xs ys zs:List V}
theorem Inv.lset {its its':List Value} {n:Nat} {f:Array Value->Array Value} {t':Nat} (I:Inv X pins σ H s) (hH:H l=some (.lst xs))
  (e:s.heap.get? l=some { cls:=.type "list",data:=.seq its.toArray n }) (hf:f its.toArray=its'.toArray) (hv:Vals ys its') (hz:ys.length<=sizeLine) :
  Inv X pins σ (upd H l (.lst ys)) { s with heap:=s.heap.update l (Obj.mapSeq f),toks:=t' }:=by
 have q:=PySem.IsL.update e f
 rw [hf] at q
 refine I.write (x:=l) (e:=l) (by rw [hH];exact trivial) (.inl rfl) (λb' u hb hu=>(Heap.get?_update_other s.heap (Obj.mapSeq f) (Ne.symm hb)).trans hu) ⟨_,q⟩ ?_
 exact ⟨hz,its',_,hv,q⟩
theorem Inv.lnew {its:List Value} {t':Nat} (I:Inv X pins σ H s) (hv:Vals ys its) (hz:ys.length<=sizeLine) :
  Inv X pins σ (upd H s.heap.objs.size (.lst ys)) { s with heap:=s.heap.push { cls:=.type "list",data:=.seq its.toArray },toks:=t' } :=
 I.laid (λ_ _ q=>Heap.get?_push_of_some _ q) (Nat.le_refl _) ⟨hz,its,0,hv,Heap.get?_push_size _ rfl⟩
theorem Inv.fresh (I:Inv X pins σ H s):H s.heap.objs.size=none:=I.hok.fresh (Nat.le_refl _)
theorem Inv.lstM (I:Inv X pins σ H s) (hH:H l=some (.lst xs)):xs.length<=sizeLine/\∃(its:List Value) (n:Nat),Vals xs its/\xs.length=its.length/\s.heap.get? l=some { cls:=.type "list",data:=.seq its.toArray n }:=by
 obtain ⟨z,its,n,r,e⟩:=I.hok l _ hH
 exact ⟨z,its,n,r,r.length,e⟩
theorem Qd8 {n:Nat} (h:n<=sizeLine):Builtin.List.listTooLong n=false:=by
 unfold Builtin.List.listTooLong
 exact decide_eq_false (by omega)
end
section
variable {X:Cx}
def Qgu:V->List V->Hp->VK->Prop:=λx vs H Q=>∃l xs y,x=.ref l/\vs=[y]/\H l=some (.lst xs)/\xs.length<sizeLine/\Q .non (upd H l (.lst (xs++[y])))
theorem Zg:MtM X "list.append" Qgu:=by
 intro pins s σ H x vs v us Q I rx rv h
 obtain ⟨l,xs,y,rfl,rfl,hH,hz,q⟩:=h
 cases rx
 obtain ⟨u,rfl,ru⟩:=rv.one
 obtain ⟨z,its,n,r,hl,e⟩:=I.lstM hH
 refine call_meets F.slot_list_append ⟨_,e,rfl⟩ F.entry_list_append (F.args_list_append_2 _ _) (PySem.list_append l its.toArray n u (by rw [List.size_toArray];omega)) ⟨e,?_⟩
 refine ⟨.non,_,I.lset (its':=its++[u]) hH e (by simp) (r.append (.cons ru .nil)) ?_,rfl,q⟩
 rw [List.length_append,List.length_singleton]
 omega
def Qmg:V->List V->Hp->VK->Prop:=λx vs H Q=>∃l b xs zs,x=.ref l/\vs=[.ref b]/\H l=some (.lst xs)/\H b=some (.lst zs)/\xs.length+zs.length<=sizeLine/\Q .non (upd H l (.lst (xs++zs)))
theorem Qpt:MtM X "list.extend" Qmg:=by
 intro pins s σ H x vs v us Q I rx rv h
 obtain ⟨l,b,xs,zs,rfl,rfl,hH,hB,hz,q⟩:=h
 cases rx
 obtain ⟨u,rfl,ru⟩:=rv.one
 cases ru
 obtain ⟨z,its,n,r,hl,e⟩:=I.lstM hH
 obtain ⟨z2,its2,n2,r2,hl2,e2⟩:=I.lstM hB
 have hsz:its.toArray.size+its2.toArray.size<=sizeLine:=by rw [List.size_toArray,List.size_toArray];omega
 have hlong:¬(!its.toArray.isEmpty && Builtin.List.listTooLong (its.toArray.size+its2.toArray.size))=true:=by
  rw [Qd8 hsz,Bool.and_false]
  exact Bool.false_ne_true
 refine call_meets F.slot_list_extend ⟨_,e,rfl⟩ F.entry_list_extend (F.args_list_extend_2 _ _)
  (AutoSeq1.list_extend_list_list_0 l its.toArray n b its2.toArray n2 hlong (by rw [List.size_toArray];omega) (by omega)) ⟨e,e2,?_⟩
 refine ⟨.non,_,I.lset (its':=its++its2) hH e (by simp) (r.append r2) ?_,rfl,q⟩
 rw [List.length_append]
 omega
def rPop:V->List V->Hp->VK->Prop:=λx vs H Q=>∃l xs y,x=.ref l/\vs=[]/\H l=some (.lst xs)/\xs[xs.length-1]? = some y/\Q y (upd H l (.lst xs.dropLast))
theorem Qps:MtM X "list.pop" rPop:=by
 intro pins s σ H x vs v us Q I rx rv h
 obtain ⟨l,xs,y,rfl,rfl,hH,hy,q⟩:=h
 cases rx
 have hus:=rv.zero
 subst hus
 obtain ⟨z,its,n,r,hl,e⟩:=I.lstM hH
 obtain ⟨u,hu,ru⟩:=r.get hy
 have hy':its.toArray[its.toArray.size-1]? = some u:=by
  show its.toArray[its.length-1]? = some u
  rw [← Array.getElem?_toList,← hl]
  exact hu
 refine call_meets F.slot_list_pop ⟨_,e,rfl⟩ F.entry_list_pop (F.args_list_pop_1 _) (MeetsSeq.list_pop_last l its.toArray n u hy' (by rw [List.size_toArray];omega)) ⟨e,?_⟩
 refine ⟨y,_,I.lset (its':=its.dropLast) hH e ?_ r.dropLast ?_,ru,q⟩
 ·show its.toArray.eraseIdxIfInBounds (its.toArray.size-1)=its.dropLast.toArray
  rw [List.size_toArray,List.eraseIdxIfInBounds_toArray,Ui]
 ·rw [List.length_dropLast]
  omega
def Qoy:V->List V->Hp->VK->Prop:=λx vs H Q=>∃l xs i k y,x=.ref l/\vs=[.int i]/\H l=some (.lst xs) /\ -(2 ^ 63)<=i/\i<2 ^ 63/\seqIndex? i xs.length=some k/\xs[k]? = some y/\Q y (upd H l (.lst (xs.eraseIdx k)))
theorem Qjq:MtM X "list.pop" Qoy:=by
 intro pins s σ H x vs v us Q I rx rv h
 obtain ⟨l,xs,i,k,y,rfl,rfl,hH,h1,h2,hk,hy,q⟩:=h
 cases rx
 obtain ⟨u,rfl,ru⟩:=rv.one
 obtain ⟨t,rfl⟩:=ru
 obtain ⟨z,its,n,r,hl,e⟩:=I.lstM hH
 obtain ⟨w,hw,rw'⟩:=r.get hy
 refine call_meets F.slot_list_pop ⟨_,e,rfl⟩ F.entry_list_pop (F.args_list_pop_2 _ _)
  (MeetsSeq.list_pop_at l its.toArray n i t k w (fitsIndex_both h1 h2) (by rw [List.size_toArray,← hl];exact hk) (by rw [← Array.getElem?_toList];exact hw) (by rw [List.size_toArray];omega)) ⟨e,?_⟩
 refine ⟨y,_,I.lset (its':=its.eraseIdx k) hH e ?_ (r.eraseIdx k) ?_,rw',q⟩
 ·show its.toArray.eraseIdxIfInBounds k=(its.eraseIdx k).toArray
  rw [List.eraseIdxIfInBounds_toArray]
 ·have:=Gp xs k
  omega
def rCat:R2:=λx y H Q=>∃l b xs zs,x=.ref l/\y=.ref b/\H l=some (.lst xs)/\H b=some (.lst zs)/\xs.length+zs.length<=sizeLine/\∀p,H p=none->Q (.ref p) (upd H p (.lst (xs++zs)))
theorem Qpk:OpR X (binaryOp .Add) rCat:=by
 intro pins s σ H x y v u Q I rx ry h
 obtain ⟨l,b,xs,zs,rfl,rfl,hH,hB,hz,q⟩:=h
 cases rx
 cases ry
 obtain ⟨z,its,n,r,hl,e⟩:=I.lstM hH
 obtain ⟨z2,its2,n2,r2,hl2,e2⟩:=I.lstM hB
 refine PySem.P.add_list e e2 ?_ (by rw [List.size_toArray,List.size_toArray];omega)
 have ea:its.toArray++its2.toArray=(its++its2).toArray:=by simp
 rw [ea]
 exact ⟨.ref _,_,I.lnew (t':=s.toks) (r.append r2) (by rw [List.length_append];omega),rfl,q _ I.fresh⟩
def rRep:R2:=λx y H Q=>∃l k xs,x=.ref l/\y=.int k/\H l=some (.lst xs) /\ -(2 ^ 63)<=k/\k<2 ^ 63/\xs.length*k.toNat<=sizeLine /\
 ∀p,H p=none->Q (.ref p) (upd H p (.lst (List.replicate k.toNat xs).flatten))
theorem Qni {α:Type} (xs:List α) (k:Nat):(List.replicate k xs).flatten.length=k*xs.length:=by
 induction k with
 | zero=>simp
 | succ k ih=>rw [List.replicate_succ,List.flatten_cons,List.length_append,ih,Nat.succ_mul,Nat.add_comm]
theorem Qpd:OpR X (binaryOp .Mult) rRep:=by
 intro pins s σ H x y v u Q I rx ry h
 obtain ⟨l,k,xs,rfl,rfl,hH,h1,h2,hz,q⟩:=h
 cases rx
 obtain ⟨t,rfl⟩:=ry
 obtain ⟨z,its,n,r,hl,e⟩:=I.lstM hH
 have hlen:its.toArray.size*k.toNat<=sizeLine:=by rw [List.size_toArray,← hl];exact hz
 have hcap:¬its.toArray.size*k.toNat > (2 ^ 63-1) / 8:=by
  have:(sizeLine:Nat)<=(2 ^ 63-1) / 8:=by decide
  omega
 have hfit:¬(!Builtin.List.listFitsIndex k)=true:=by
  rw [fitsIndex_both h1 h2]
  exact Bool.false_ne_true
 have hlong:¬Builtin.List.listTooLong (its.toArray.size*k.toNat)=true:=by
  rw [Qd8 hlen]
  exact Bool.false_ne_true
 have hnew:List.foldl (λx1 x2=>x1++x2) #[] (List.replicate (if its.toArray.isEmpty=true then 0 else k.toNat) its.toArray)=(List.replicate k.toNat its).flatten.toArray:=by
  have f0:∀m:Nat,List.foldl (λx1 x2=>x1++x2) #[] (List.replicate m its.toArray)=(List.replicate m its).flatten.toArray:=λm=>by
   have:=Qbu its m []
   rw [List.nil_append] at this
   exact this
  rw [f0]
  cases its with
  | nil=>simp
  | cons a r'=>rw [if_neg (by simp)]
 refine wpAny_binaryOp_repeat_ref (T:="list") (U:="int") (by decide) ⟨_,e,rfl⟩ (λs'=>typeIs_int s' k t) noFill_list_mul F.fills_int_mul F.slot_int_rmul repeat_list F.slot_int_index.lookup
  (call_meets F.slot_int_rmul (typeIs_int s k t) F.entry_int_rmul (F.args_int_rmul_2 _ _) (int___rmul___int_list k t l its.toArray n)
   ⟨e,rfl,⟨_,e,rfl⟩,call_meets F.slot_list_mul ⟨_,e,rfl⟩ F.entry_list_mul (F.args_list_mul_2 _ _) (AutoListH.list___mul___list_int_3 l its.toArray n k t hfit hcap hlong) ⟨e,?_⟩⟩)
 rw [hnew]
 exact ⟨.ref _,_,I.lnew (t':=s.toks) (r.rep k.toNat) (by rw [Qni,Nat.mul_comm];exact hz),rfl,q _ I.fresh⟩
end
section
variable {prog:Program} {w:World} {A:Around} {E:Value->Shared->Prop} {s:Shared}
end
section
variable {X:Cx}
end
end L2
namespace L2
open PySem PySem.Spec PyProof.Rows
section
variable {κ:Type} [DecidableEq κ]
def valV (kvs:List (κ × V)) (k:κ):Option V:=(kvs.find? λkv=>decide (kv.1=k)).map (·.2)
def putK (kvs:List (κ × V)) (k:κ) (v:V):List (κ × V) :=
 if (kvs.any λkv=>decide (kv.1=k))=true then kvs.map (λkv=>if kv.1=k then (kv.1,v) else kv) else kvs++[(k,v)]
theorem Jf {p:κ × V} {r:List (κ × V)} {k:κ} (e:p.1=k):valV (p::r) k=some p.2:=by simp [valV,List.find?_cons,e]
theorem Jg {p:κ × V} {r:List (κ × V)} {k:κ} (e:¬p.1=k):valV (p::r) k=valV r k:=by simp [valV,List.find?_cons,e]
theorem Vk (k:κ):∀kvs:List (κ × V),(kvs.any λkv=>decide (kv.1=k))=(valV kvs k).isSome
 | []=>rfl
 | p::r=>by
  rw [List.any_cons]
  by_cases e:p.1=k
  ·simp only [Jf e,decide_eq_true e,Bool.true_or,Option.isSome_some]
  ·rw [Jg e,decide_eq_false e,Bool.false_or];exact Vk k r
theorem Qdn (k j:κ) (y:V):∀kvs:List (κ × V),valV (kvs.map λkv=>if kv.1=k then (kv.1,y) else kv) j=(valV kvs j).map λx=>if j=k then y else x
 | []=>rfl
 | p::r=>by
  have ih:=Qdn k j y r
  rw [List.map_cons]
  by_cases h:p.1=k
  ·rw [if_pos h]
   by_cases e:p.1=j
   ·rw [Jf (p:=(p.1,y)) e,Jf e,Option.map_some,if_pos (e.symm.trans h)]
   ·rw [Jg (p:=(p.1,y)) e,Jg e,ih]
  ·rw [if_neg h]
   by_cases e:p.1=j
   ·rw [Jf (p:=p) e,Jf e,Option.map_some,if_neg (λz=>h (e.trans z))]
   ·rw [Jg (p:=p) e,Jg e,ih]
theorem Qa7 (k j:κ) (y:V):∀kvs:List (κ × V),valV kvs k=none->valV (kvs++[(k,y)]) j=if j=k then some y else valV kvs j
 | [],_=>by
  by_cases e:k=j
  ·rw [if_pos e.symm];exact Jf (p:=(k,y)) e
  ·rw [if_neg (λz=>e z.symm)];exact Jg (p:=(k,y)) e
 | p::r,hn=>by
  rw [List.cons_append]
  have hk:¬p.1=k:=λz=>by rw [Jf z] at hn;cases hn
  rw [Jg hk] at hn
  have ih:=Qa7 k j y r hn
  by_cases e:p.1=j
  ·rw [Jf e,Jf e,if_neg (λz=>hk (e.trans z))]
  ·rw [Jg e,Jg e,ih]
theorem Qiz (kvs:List (κ × V)) (k j:κ) (y:V):valV (putK kvs k y) j=if j=k then some y else valV kvs j:=by
 unfold putK
 by_cases a:(kvs.any λkv=>decide (kv.1=k))=true
 ·rw [if_pos a,Qdn]
  rw [Vk] at a
  by_cases e:j=k
  ·obtain ⟨x,hx⟩:=Option.isSome_iff_exists.mp a
   rw [if_pos e,e,hx,Option.map_some,if_pos rfl]
  ·rw [if_neg e]
   cases valV kvs j with
   | none=>rfl
   | some x=>rw [Option.map_some,if_neg e]
 ·rw [if_neg a]
  refine Qa7 k j y kvs ?_
  rw [Vk] at a
  cases q:valV kvs k with
  | none=>rfl
  | some x=>rw [q] at a;exact (a rfl).elim
theorem Y9 (kvs:List (κ × V)) (k:κ) (v:V):(putK kvs k v).length<=kvs.length+1:=by
 unfold putK
 split
 ·rw [List.length_map];omega
 ·rw [List.length_append,List.length_cons,List.length_nil];omega
theorem Qja {kvs:List (κ × V)} {k:κ} (v:V) (h:valV kvs k=none):putK kvs k v=kvs++[(k,v)]:=by
 unfold putK
 rw [Vk,h]
 exact if_neg (by decide)
theorem RelO.isSome_eq {o:Option V} {u:Option Value} (r:RelO o u):o.isSome=u.isSome:=by
 cases o with
 | none=>cases u with
  | none=>rfl
  | some _=>exact (show False from r).elim
 | some _=>cases u with
  | none=>exact (show False from r).elim
  | some _=>rfl
theorem KV.val {kvs:List (κ × V)} {vs:List (κ × Value)} (r:KV kvs vs) (k:κ):RelO (valV kvs k) (valueAt vs k):=by
 unfold KV at r
 induction r with
 | nil=>exact True.intro
 | @cons p q ps qs h t ih =>
  obtain ⟨h1,h2⟩:=h
  by_cases e:p.1=k
  ·have e':q.1=k:=h1.symm.trans e
   have b:valueAt (q::qs) k=some q.2:=by simp [valueAt,List.find?_cons,e']
   rw [Jf e,b];exact h2
  ·have e':¬q.1=k:=λz=>e (h1.trans z)
   have b:valueAt (q::qs) k=valueAt qs k:=by simp [valueAt,List.find?_cons,e']
   rw [Jg e,b];exact ih
theorem KV.any {kvs:List (κ × V)} {vs:List (κ × Value)} (r:KV kvs vs) (k:κ):(kvs.any λkv=>decide (kv.1=k))=vs.any λkv=>decide (kv.1=k):=by
 unfold KV at r
 induction r with
 | nil=>rfl
 | cons h t ih=>rw [List.any_cons,List.any_cons,ih,h.1]
theorem KV.repl {kvs:List (κ × V)} {vs:List (κ × Value)} (r:KV kvs vs) (k:κ) {y:V} {u:Value} (ry:RelV y u) :
  KV (kvs.map λkv=>if kv.1=k then (kv.1,y) else kv) (vs.map λkv=>if kv.1=k then (kv.1,u) else kv):=by
 unfold KV at r ⊢
 induction r with
 | nil=>exact .nil
 | @cons p q ps qs h t ih =>
  rw [List.map_cons,List.map_cons]
  refine .cons ?_ ih
  obtain ⟨h1,h2⟩:=h
  by_cases e:p.1=k
  ·rw [if_pos e,if_pos (h1.symm.trans e)];exact ⟨h1,ry⟩
  ·rw [if_neg e,if_neg (λz=>e (h1.trans z))];exact ⟨h1,h2⟩
theorem KV.put {kvs:List (κ × V)} {vs:List (κ × Value)} (r:KV kvs vs) (k:κ) {y:V} {u:Value} (ry:RelV y u):KV (putK kvs k y) (stored vs k u):=by
 unfold putK stored
 rw [r.any k]
 by_cases e:(vs.any λkv=>decide (kv.1=k))=true
 ·rw [if_pos e,if_pos e];exact r.repl k ry
 ·rw [if_neg e,if_neg e];exact Paired.snoc r ⟨rfl,ry⟩
theorem KV.length {kvs:List (κ × V)} {vs:List (κ × Value)} (r:KV kvs vs):kvs.length=vs.length:=Paired.length r
end
theorem Qcz {P:Program} {w:World} {k:Key} {u:Value} (r:RelV (kV k) u):(Qv P w).is k u=true:=by
 cases k with
 | inl i=>obtain ⟨t,e⟩:=(show ∃t,u=Value.int i t from r);subst e;exact Qcx P w i t
 | inr x=>obtain ⟨t,e⟩:=(show ∃t,u=Value.str x t from r);subst e;exact Qcw P w x t
theorem Qbt {P:Program} {w:World}:∀{ks:List Key} {us:List Value},Vals (ks.map kV) us->ItemsAre (Qv P w) ks us
 | [],_,r=>by rw [List.map_nil] at r;cases r;exact .nil
 | k::ks,_,r=>by
  rw [List.map_cons] at r
  cases r with
  | cons h t=>exact .cons (Qcz h) (Qbt t)
abbrev KT (H:Hp):List (List Key × V)->List (List Key × Addr × Value)->Prop:=Paired λp q=>p.1=q.1/\H q.2.1=some (.tup (p.1.map kV))/\RelV p.2 q.2.2
theorem KT.val {H:Hp} {kvs:List (List Key × V)} {xs:List (List Key × Addr × Value)} (r:KT H kvs xs) (k:List Key):RelO (valV kvs k) ((atKey xs k).map (·.2)):=by
 induction r with
 | nil=>exact True.intro
 | @cons p q ps qs h t ih =>
  obtain ⟨h1,_,h2⟩:=h
  by_cases e:p.1=k
  ·have e':q.1=k:=h1.symm.trans e
   have b:atKey (q::qs) k=some q.2:=by simp [atKey,List.find?_cons,e']
   rw [Jf e,b];exact h2
  ·have e':¬q.1=k:=λz=>e (h1.trans z)
   have b:atKey (q::qs) k=atKey qs k:=by simp [atKey,List.find?_cons,e']
   rw [Jg e,b];exact ih
theorem KT.repl {H:Hp} {kvs:List (List Key × V)} {xs:List (List Key × Addr × Value)} (r:KT H kvs xs) (k:List Key) {y:V} {u:Value} (ry:RelV y u) :
  KT H (kvs.map λkv=>if kv.1=k then (kv.1,y) else kv) (xs.map (putAt k u)):=by
 induction r with
 | nil=>exact .nil
 | @cons p q ps qs h t ih =>
  rw [List.map_cons,List.map_cons]
  refine .cons ?_ ih
  obtain ⟨h1,h2,h3⟩:=h
  unfold putAt
  by_cases e:p.1=k
  ·rw [if_pos e,if_pos (h1.symm.trans e)];exact ⟨h1,h2,ry⟩
  ·rw [if_neg e,if_neg (λz=>e (h1.trans z))];exact ⟨h1,h2,h3⟩
theorem KT.put {H:Hp} {kvs:List (List Key × V)} {xs:List (List Key × Addr × Value)} (r:KT H kvs xs) (k:List Key) {b:Addr} {y:V} {u:Value} (hb:H b=some (.tup (k.map kV))) (ry:RelV y u) :
  KT H (putK kvs k y) (storedH xs k b u):=by
 have e:(kvs.any λkv=>decide (kv.1=k))=(atKey xs k).isSome:=by
  rw [Vk,(r.val k).isSome_eq,Option.isSome_map]
 unfold putK storedH
 rw [e]
 by_cases q:(atKey xs k).isSome=true
 ·rw [if_pos q,if_pos q];exact r.repl k ry
 ·rw [if_neg q,if_neg q];exact Paired.snoc r ⟨rfl,hb,ry⟩
theorem KT.keeps {H H':Hp} {kvs:List (List Key × V)} {xs:List (List Key × Addr × Value)} (r:KT H kvs xs) (ht:∀b ys,H b=some (.tup ys)->H' b=some (.tup ys)):KT H' kvs xs :=
 Paired.mapP r λ_ _ z=>⟨z.1,ht _ _ z.2.1,z.2.2⟩
section
variable {P:Program} {w:World} {H:Hp} {h:Heap} {a:Addr}
theorem Qom {u:HO} (ok:HOk P w H h) (e:Rd H a u):Jo P w H h a u:=e.ok ok
theorem Qc7 {kvs:List (Key × V)} (ok:HOk P w H h) (e:Rd H a (.dK kvs)):kvs.length<=sizeLine/\(a == sysModules)=false/\∃vs,KV kvs vs/\h.DictOf (Qv P w) a vs :=
 show Jo P w H h a (.dK kvs) from Qom ok e
theorem Qj5 {kvs:List (Key × V)} (ok:HOk P w H h) (e:H a=some (.dK kvs)):kvs.length<=sizeLine/\(a == sysModules)=false/\∃vs,KV kvs vs/\h.DictOf (Qv P w) a vs:=Qc7 ok (.inl e)
theorem Qbs {ks:List Key} (ok:HOk P w H h) (e:H a=some (.tup (ks.map kV))):(tupleKind (Qv P w)).is h ks a:=by
 obtain ⟨_,its,r,o,h1,h2,n,h3⟩:=(show Jo P w H h a (.tup (ks.map kV)) from ok a _ e)
 exact ⟨o,its.toArray,n,h1,h2,h3,by simpa using Qbt r⟩
theorem Qh6 {kvs:List (List Key × V)} (ok:HOk P w H h) (e:Rd H a (.dT kvs)):kvs.length<=sizeLine/\(a == sysModules)=false /\
  ∃xs,KT H kvs xs/\h.DictOfH (tupleKind (Qv P w)) a xs:=by
 obtain ⟨z,y,xs,r,o,es,ep,h1,h2,h3,h4,h5⟩:=(show Jo P w H h a (.dT kvs) from Qom ok e)
 refine ⟨z,y,xs,r,o,es,ep,h1,h2,h3,h4,λx hx=>?_,h5⟩
 have all:∀{l:List (List Key × V)} {m:List (List Key × Addr × Value)},KT H l m->∀x∈m,(tupleKind (Qv P w)).is h x.1 x.2.1:=by
  intro l m q
  induction q with
  | nil=>intro x hx;exact nomatch hx
  | @cons p q ps qs hq t ih =>
   intro x hx
   rcases List.mem_cons.mp hx with e | hx
   ·subst e
    exact Qbs ok (by rw [← hq.1];exact hq.2.1)
   ·exact ih x hx
 exact all r x hx
theorem Qsh {kvs:List (List Key × V)} (ok:HOk P w H h) (e:H a=some (.dT kvs)):kvs.length<=sizeLine/\(a == sysModules)=false /\
  ∃xs,KT H kvs xs/\h.DictOfH (tupleKind (Qv P w)) a xs:=Qh6 ok (.inl e)
end
def DGet (H:Hp) (a:Addr) (y:V) (r:Option V):Prop :=
 (∃kvs k,Rd H a (.dK kvs)/\y=kV k/\r=valV kvs k)\/∃kvs k b,Rd H a (.dT kvs)/\y=.ref b/\H b=some (.tup (k.map kV))/\r=valV kvs k
def DPut (H:Hp) (a:Addr) (y v:V) (H':Hp):Prop :=
 (∃kvs k,H a=some (.dK kvs)/\y=kV k/\kvs.length<sizeLine/\H'=upd H a (.dK (putK kvs k v))) \/
 ∃kvs k b,H a=some (.dT kvs)/\y=.ref b/\H b=some (.tup (k.map kV))/\kvs.length<sizeLine/\H'=upd H a (.dT (putK kvs k v))
theorem DGet.k {H:Hp} {a:Addr} {kvs:List (Key × V)} {k:Key} (e:H a=some (.dK kvs)):DGet H a (kV k) (valV kvs k):=.inl ⟨kvs,k,.inl e,rfl,rfl⟩
theorem DGet.t {H:Hp} {a b:Addr} {kvs:List (List Key × V)} {k:List Key} (e:H a=some (.dT kvs)) (eb:H b=some (.tup (k.map kV))):DGet H a (.ref b) (valV kvs k):=.inr ⟨kvs,k,b,.inl e,rfl,eb,rfl⟩
theorem DPut.k {H:Hp} {a:Addr} {kvs:List (Key × V)} {k:Key} {v:V} (e:H a=some (.dK kvs)) (hl:kvs.length<sizeLine):DPut H a (kV k) v (upd H a (.dK (putK kvs k v))):=.inl ⟨kvs,k,e,rfl,hl,rfl⟩
theorem DPut.t {H:Hp} {a b:Addr} {kvs:List (List Key × V)} {k:List Key} {v:V} (e:H a=some (.dT kvs)) (eb:H b=some (.tup (k.map kV))) (hl:kvs.length<sizeLine) :
  DPut H a (.ref b) v (upd H a (.dT (putK kvs k v))):=.inr ⟨kvs,k,b,e,rfl,eb,hl,rfl⟩
section
variable {X:Cx} {pins:List (Addr × Obj)} {σ:St} {H:Hp} {s:Shared} {a:Addr} {y v:V} {u r:Value} {o:Option V} {A:Around} {E:Value->Shared->Prop}
theorem Inv.big (I:Inv X pins σ H s):sysModules<s.heap.objs.size:=by
 have h:mainGlobals<s.heap.objs.size:=(I.mod.glob.keeps I.bk).lt
 exact Nat.lt_trans (by decide) h
theorem Qic {Q:Value->Shared->Prop} (hu:A.units+1<cLine) (I:Inv X pins σ H s) (g:DGet H a y (some v)) (ry:RelV y u) (h:∀w' s',Inv X pins σ H s'->RelV v w'->Q w' s') :
  wpAny (model X.prog X.w) A (getItem (.ref a) u) Q E s:=by
 rcases g with ⟨kvs,k,e,ey,l⟩ | ⟨kvs,k,b,e,ey,eb,l⟩
 ·subst ey
  obtain ⟨z,hd,vs,rel,dd⟩:=Qc7 I.hok e
  obtain ⟨w',hw,rw'⟩:=RelO.some_of (v:=v) (o:=valueAt vs k) (by rw [l];exact rel.val k)
  exact wpAny_getItem_of (Qcz ry) dd.mapOf hw (h w' _ (I.tok _) rw')
 ·subst ey
  cases (show u=Value.ref b from ry)
  obtain ⟨z,hd,xs,rel,dd⟩:=Qh6 I.hok e
  obtain ⟨w',hw,rw'⟩:=RelO.some_of (v:=v) (o:=(atKey xs k).map (·.2)) (by rw [l];exact rel.val k)
  obtain ⟨p,hp,hp2⟩:=Option.map_eq_some_iff.mp hw
  refine wpAny_getItem_heap (tupleKind_room_in1 hu) (Qbs I.hok eb) dd hp ?_
  rw [hp2]
  exact h w' _ (I.tok _) rw'
theorem d_in {Q:Value->Shared->Prop} (hu:A.units+1<cLine) (I:Inv X pins σ H s) (g:DGet H a y o) (ry:RelV y u) (h:∀s',Inv X pins σ H s'->Q (.bool o.isSome) s') :
  wpAny (model X.prog X.w) A (compareOp .In u (.ref a)) Q E s:=by
 rcases g with ⟨kvs,k,e,ey,l⟩ | ⟨kvs,k,b,e,ey,eb,l⟩
 ·subst ey
  obtain ⟨z,hd,vs,rel,dd⟩:=Qc7 I.hok e
  refine wpAny_in_of (Qcz ry) hd dd.mapOf ?_
  rw [← (rel.val k).isSome_eq,← l]
  exact h _ (I.tok _)
 ·subst ey
  cases (show u=Value.ref b from ry)
  obtain ⟨z,hd,xs,rel,dd⟩:=Qh6 I.hok e
  refine wpAny_in_heap (tupleKind_room_in1 hu) (Qbs I.hok eb) hd dd ?_
  have q:=(rel.val k).isSome_eq
  rw [Option.isSome_map] at q
  rw [← q,← l]
  exact h _ (I.tok _)
theorem Qnw {Q:Value->Shared->Prop} (hu:A.units+1<cLine) (I:Inv X pins σ H s) (g:DGet H a y o) (ry:RelV y u) (h:∀s',Inv X pins σ H s'->Q (.bool (!o.isSome)) s') :
  wpAny (model X.prog X.w) A (compareOp .NotIn u (.ref a)) Q E s:=by
 rcases g with ⟨kvs,k,e,ey,l⟩ | ⟨kvs,k,b,e,ey,eb,l⟩
 ·subst ey
  obtain ⟨z,hd,vs,rel,dd⟩:=Qc7 I.hok e
  refine wpAny_notIn_of (Qcz ry) hd dd.mapOf ?_
  rw [← (rel.val k).isSome_eq,← l]
  exact h _ (I.tok _)
 ·subst ey
  cases (show u=Value.ref b from ry)
  obtain ⟨z,hd,xs,rel,dd⟩:=Qh6 I.hok e
  refine wpAny_notIn_heap (tupleKind_room_in1 hu) (Qbs I.hok eb) hd dd ?_
  have q:=(rel.val k).isSome_eq
  rw [Option.isSome_map] at q
  rw [← q,← l]
  exact h _ (I.tok _)
theorem Qam {h':Heap} {t':Nat} {ob:HO} (I:Inv X pins σ H s) (mu:Mut (H a)) (hs:Heap.SameBut a s.heap h') (he:∃q,h'.get? a=some q) (new:Jo X.prog X.w (upd H a ob) h' a ob) :
  Inv X pins σ (upd H a ob) { s with heap:=h',toks:=t' } :=
 I.write (x:=a) (e:=a) mu (.inl rfl) (λb q hb z=>(hs.2 b hb).trans z) he new
theorem Qh7 {P:Program} {w:World} {H':Hp} {h':Heap} {kvs:List (Key × V)} {vs:List (Key × Value)} (z:kvs.length<=sizeLine) (hd:(a == sysModules)=false) (rel:KV kvs vs) (dd:h'.DictOf (Qv P w) a vs) :
  Jo P w H' h' a (.dK kvs):=⟨z,hd,vs,rel,dd⟩
theorem Qib {H':Hp} {Q:Unit->Shared->Prop} (hu:A.units+1<cLine) (I:Inv X pins σ H s) (g:DPut H a y v H') (ry:RelV y u) (rv:RelV v r) (h:∀s',Inv X pins σ H' s'->Q () s') :
  wpAny (model X.prog X.w) A (setItem (.ref a) u r) Q E s:=by
 rcases g with ⟨kvs,k,e,ey,l,eH⟩ | ⟨kvs,k,b,e,ey,eb,l,eH⟩
 ·subst ey eH
  obtain ⟨z,hd,vs,rel,dd⟩:=Qj5 I.hok e
  have hz:vs.length<=sizeLine:=by rw [← rel.length];exact z
  have hl:(putK kvs k v).length<=sizeLine:=by have:=Y9 kvs k v;omega
  refine wpAny_setItem_pairs (hsz:=hz) (Qcz ry) dd λh' dd' hs=>h _ ?_
  have he:∃q,h'.get? a=some q:=let ⟨q,_,_,hq,_⟩:=dd';⟨q,hq⟩
  exact Qam I (by rw [e];exact True.intro) hs he (Qh7 hl hd (rel.put k rv) dd')
 ·subst ey eH
  cases (show u=Value.ref b from ry)
  obtain ⟨z,hd,xs,rel,dd⟩:=Qsh I.hok e
  have hz:xs.length<=sizeLine:=by rw [← Paired.length rel];exact z
  have hl:(putK kvs k v).length<=sizeLine:=by have:=Y9 kvs k v;omega
  refine wpAny_setItem_heap (hsz:=hz) (tupleKind_room_in1 hu) (Qbs I.hok eb) dd λh' dd' hs=>h _ ?_
  obtain ⟨q,es,ep,hq,h2,h3,h4,_,h5⟩:=dd'
  refine Qam I (by rw [e];exact True.intro) hs ⟨q,hq⟩ ⟨hl,hd,_,(rel.put k eb rv).keeps λc ys ec=>?_,q,es,ep,hq,h2,h3,h4,h5⟩
  rw [Qk (Qr2 ec e (λz=>nomatch z))]
  exact ec
end
section
variable {X:Cx} {pins:List (Addr × Obj)} {σ:St} {H:Hp} {s:Shared} {a:Addr} {kvs:List (Key × V)} {k:Key} {u:Value} {A:Around} {E:Value->Shared->Prop}
theorem Qsi {Q:Value->Shared->Prop} (I:Inv X pins σ H s) (e:Rd H a (.dK kvs)) (h:∀t s',Inv X pins σ H s'->Q (.int kvs.length t) s'):wpAny (model X.prog X.w) A (call (.builtin "len") [.ref a]) Q E s:=by
 obtain ⟨z,hd,vs,rel,dd⟩:=Qc7 I.hok e
 refine call_len_dict hd dd (by rw [← rel.length];rw [sizeLine_eq] at z;omega) ?_
 rw [← rel.length]
 exact h _ _ (I.tok _)
end
theorem Qc8 {X:Cx} {pins:List (Addr × Obj)} {σ:St} {H:Hp} {s:Shared} {a:Addr} {y:V} {o:Option V} (I:Inv X pins σ H s) (g:DGet H a y o):s.TypeIs (.ref a) "dict":=by
 rcases g with ⟨kvs,k,e,_,_⟩ | ⟨kvs,k,b,e,_,_,_⟩
 ·obtain ⟨_,_,vs,_,dd⟩:=Qc7 I.hok e
  exact dd.typeIs
 ·obtain ⟨_,_,xs,_,dd⟩:=Qh6 I.hok e
  exact dd.typeIs
section
variable {X:Cx} {o i e value:Expr} {pos pos' tpos:Pos} {td ty tv:TE}
end
theorem Qet {P:Program} {w:World} {H:Hp} (h:Heap) (hb:sysModules<h.objs.size):Jo P w H (h.push { cls:=.type "dict",data:=.dict #[] }) h.objs.size (.dK []) :=
 ⟨Nat.zero_le _,beq_eq_false_iff_ne.mpr (Ne.symm (Nat.ne_of_lt hb)),[],.nil,Heap.DictOf.new h⟩
def Qod:TE:=λ_ H Q=>∀p,H p=none->Q (.ref p) (upd H p (.dK []))
section
variable {X:Cx} {pos:Pos}
theorem Qjl:PE X (.Dict [] [] pos) Qod:=λpins s σ H Q I h =>
 wpAny_Dict_empty ⟨.ref s.heap.objs.size,_,I.laid (a:=s.heap.objs.size) (o:=.dK []) (t':=s.toks) (λ_ _ q=>Heap.get?_push_of_some _ q) (Nat.le_refl _) (Qet s.heap I.big),rfl,h _ (I.hok.fresh (Nat.le_refl _))⟩
end
def Qgj:List (TE × TE)->St->Hp->(List (V × V)->Hp->Prop)->Prop
 | [],_,H,Q=>Q [] H
 | (tk,tv)::r,σ,H,Q=>tk σ H λx H1=>tv σ H1 λy H2=>Qgj r σ H2 λps H3=>Q ((x,y)::ps) H3
abbrev VV:List (V × V)->List (Value × Value)->Prop:=Paired λp q=>RelV p.1 q.1/\RelV p.2 q.2
def PPs (X:Cx) (pos:Pos) (keys:List (Option Expr)) (values:List Expr) (trs:List (TE × TE)):Prop :=
 ∀(pins:List (Addr × Obj)) (s:Shared) (σ:St) (H:Hp) (Q:List (V × V)->Hp->Prop),Inv X pins σ H s->Qgj trs σ H Q ->
  wpAny (model X.prog X.w) X.A (evalPairs (pairTrees keys values X.env pos)) (λvs s'=>∃ps H',Inv X pins σ H' s'/\VV ps vs/\Q ps H') X.xe s
theorem Qmp {X:Cx} {pos:Pos}:PPs X pos [] [] []:=λpins s σ H Q I h=>pairTrees_nil_walk ⟨[],H,I,.nil,h⟩
theorem Qje {X:Cx} {pos:Pos} {k v:Expr} {ks:List (Option Expr)} {vs:List Expr} {tk tv:TE} {trs:List (TE × TE)} (hk:PE X k tk) (hv:PE X v tv) (hr:PPs X pos ks vs trs) :
  PPs X pos (some k::ks) (v::vs) ((tk,tv)::trs):=λpins s σ H Q I h =>
 pairTrees_cons_walk (thn (hk pins s σ H _ I h) λu s1 ⟨x,H1,I1,rx,q1⟩=>thn (hv pins s1 σ H1 _ I1 q1) λw2 s2 ⟨y,H2,I2,ry,q2⟩ =>
  thn (hr pins s2 σ H2 _ I2 q2) λws s3 ⟨ps,H3,I3,rel,q3⟩=>⟨(x,y)::ps,H3,I3,.cons ⟨rx,ry⟩ rel,q3⟩)
def Gn (kvs more:List (Key × V)):List (Key × V):=more.foldl (λacc kv=>putK acc kv.1 kv.2) kvs
theorem KV.merge:∀{more:List (Key × V)} {rs:List (Key × Value)} {kvs:List (Key × V)} {vs:List (Key × Value)},KV more rs->KV kvs vs->KV (Gn kvs more) (merged vs rs):=by
 intro more rs kvs vs r
 unfold KV at r
 induction r generalizing kvs vs with
 | nil=>intro q;exact q
 | @cons p q ps qs h t ih =>
  intro r0
  have e:KV (putK kvs p.1 p.2) (stored vs q.1 q.2):=by
   have:=r0.put p.1 h.2
   rw [← h.1];exact this
  exact ih e
theorem Vz:∀(more kvs:List (Key × V)),(Gn kvs more).length<=kvs.length+more.length
 | [],kvs=>by show kvs.length<=kvs.length+0;omega
 | p::r,kvs=>by
  have h1:=Vz r (putK kvs p.1 p.2)
  have h2:=Y9 kvs p.1 p.2
  show (Gn (putK kvs p.1 p.2) r).length<=_
  rw [List.length_cons];omega
theorem Xu {P:Program} {w:World}:∀{kvs:List (Key × V)} {ws:List (Value × Value)},VV (kvs.map λkv=>(kV kv.1,kv.2)) ws->∃rs,Carries (Qv P w) ws rs/\KV kvs rs
 | [],_,r=>by rw [List.map_nil] at r;cases r;exact ⟨[],True.intro,.nil⟩
 | p::kvs,_,r=>by
  rw [List.map_cons] at r
  cases r with
  | @cons a b as bs h t =>
   obtain ⟨rs,c,q⟩:=Xu (P:=P) (w:=w) t
   obtain ⟨b1,b2⟩:=b
   exact ⟨(p.1,b2)::rs,⟨Qcz h.1,rfl,c⟩,.cons ⟨rfl,h.2⟩ q⟩
def Qrb (trs:List (TE × TE)):TE:=λσ H Q=>∀p,H p=none->Qgj trs σ (upd H p (.dK [])) λps H2=>H2 p=some (.dK [])/\∃kvs:List (Key × V),ps=kvs.map (λkv=>(kV kv.1,kv.2))/\kvs.length<=15/\Q (.ref p) (upd H2 p (.dK (Gn [] kvs)))
theorem Qmy {X:Cx} {pos:Pos} {keys:List (Option Expr)} {values:List Expr} {trs:List (TE × TE)} (h:PPs X pos keys values trs) (hall:keys.all (·.isSome)=true) (hl:keys.length=values.length) (h0:keys≠[])
  (h15:keys.length<=15):PE X (.Dict keys values pos) (Qrb trs):=by
 intro pins s σ H Q I q
 have hn:=I.hok.fresh (Nat.le_refl s.heap.objs.size)
 have I1:=I.laid (a:=s.heap.objs.size) (o:=.dK []) (h':=s.heap.push { cls:=.type "dict",data:=.dict #[] }) (t':=s.toks) (λ_ _ q=>Heap.get?_push_of_some _ q) (Nat.le_refl _) (Qet s.heap I.big)
 refine wpAny_Dict_walk (knd:=Qv X.prog X.w) hall hl h0 h15 (thn (h pins _ σ _ _ I1 (q _ hn)) λws s2 ⟨ps,H2,I2,rel,e,kvs,ep,lk,q2⟩=>?_)
 subst ep
 obtain ⟨rs,c,rk⟩:=Xu (P:=X.prog) (w:=X.w) rel
 obtain ⟨z,hd,vs0,r0,dd⟩:=Qj5 I2.hok e
 cases r0
 refine ⟨rs,c,dd,λh' dd' hs=>⟨.ref s.heap.objs.size,_,?_,rfl,q2⟩⟩
 have hz:(Gn [] kvs).length<=sizeLine:=by
  have h1:=Vz kvs []
  rw [List.length_nil] at h1
  rw [sizeLine_eq];omega
 have he:∃q,h'.get? s.heap.objs.size=some q:=let ⟨q,_,_,hq,_⟩:=dd';⟨q,hq⟩
 exact Qam I2 (by rw [e];exact True.intro) hs he (Qh7 hz hd (rk.merge .nil) dd')
structure M1 (X:Cx) (o:Expr) (m:Str) (apos:Pos) (e:Expr) (cpos:Pos):Prop where
 base:attributeBase o m X.env (eval o X.env)=eval o X.env
 few:((backTo cpos (starEach [e] X.env)).all (λx=>!x.1) && (backToKw cpos (keywordEach [] X.env)).all (λx=>x.1.isSome)
  && decide (([e]:List Expr).length+([]:List Keyword).length+(if ([]:List Keyword).isEmpty then 0 else 1)<30))=true
 line:(apos.endLine == cpos.line)=true
 trees:backTo cpos (starEach [e] X.env)=[(false,eval e X.env)]
section
variable {X:Cx} {pins:List (Addr × Obj)} {σ:St} {H:Hp} {s:Shared} {a:Addr} {y d:V} {u r:Value} {o:Option V} {A:Around} {E:Value->Shared->Prop}
end
section
variable {X:Cx} {o e f:Expr} {apos cpos:Pos} {td ty tx:TE}
end
section
variable {X:Cx} {pins:List (Addr × Obj)} {σ:St} {H:Hp} {s:Shared} {a:Addr} {kvs:List (Key × V)} {A:Around} {E:Value->Shared->Prop}
end
section
variable {X:Cx} {pins:List (Addr × Obj)} {σ:St} {H:Hp} {s:Shared} {a:Addr} {y:V} {u:Value} {A:Around} {E:Value->Shared->Prop}
end
end L2
namespace Att
open PySem PySem.W PySem.Calls PyProof.Rows
theorem Gu {P:Params} {h:Heap}:∀(ns:List Int) (vs:List Value),WellAll P h vs (ns.map WData.int)->IntsAre vs ns:=by
 intro ns
 induction ns with
 | nil =>
  intro vs w
  rw [List.map_nil] at w
  cases w
  exact .nil
 | cons n ns ih =>
  intro vs w
  rw [List.map_cons] at w
  cases w with
  | cons a b =>
   cases a
   exact .cons _ _ (ih _ b)
theorem Qgo {l:OpenLaw} {n:Nat} (hn:l.most=some n) {P:Params} {h:Heap} {args:List WData} {vals:List Value}
  (hpre:l.row.toRowW.claim.pre args=true) (hwl:WellAll P h vals args) :
  ∃a vs ns,vals=[Value.ref a]/\args=[WData.list (ns.map WData.int)]/\h.get? a=some { cls:=.type "list",data:=.seq vs.toArray }/\IntsAre vs ns/\ns.length<=n:=by
 have hsh:WShape.hasAll [] args [.list .int]=true:=(pre_splitW hpre).1
 have hc:l.pre.holds [] { args:=args }=true:=(pre_splitW hpre).2
 obtain ⟨d,r,rfl,h1,h2⟩:=hasAllW_cons hsh
 obtain rfl:=hasAllW_nil h2
 obtain ⟨xs,rfl,h3⟩:=hasW_list h1
 obtain ⟨ns,rfl⟩:=items_int h3
 have hlen:ns.length<=n:=by
  unfold OpenLaw.pre at hc
  have h4:(WTm.not (.lt (.lit (.int (n:Int))) (.len (.arg 0)))).holds [] { args:=[.list (ns.map .int)] }=true:=by
   have h4:=(holds_andW hc).1
   rw [hn] at h4
   exact h4
  have h5:=condW_of h4 (w_not (w_lt w_lit (w_len_list (w_arg rfl))))
  rw [List.length_map] at h5
  refine Nat.le_of_not_lt λq=>?_
  have q':(n:Int)<((ns.length:Nat):Int):=by omega
  first
   | (rw [decide_eq_true q'] at h5;exact absurd h5 (by decide))
   | (simp at h5;omega)
 cases hwl with
 | cons w1 w2 =>
  cases w2
  cases w1 with
  | list ho hall=>exact ⟨_,_,ns,rfl,rfl,ho,Gu ns _ hall,hlen⟩
theorem Qgz (l:OpenLaw) (args:List WData):l.row.toRowW.claim.post args (.bool true) args=true :=
 postW_of (r:=l.row.toRowW) (X:=(true == true))
  (show WShape.has [] (.bool true) .bool=true by first | rfl | decide | simp [WShape.has,WShape.arms,WShape.armsAll])
  (show (WTm.eq .res (.lit (.bool true))).value [] { args:=args,res:=some (.bool true),after:=args }=some (.bool (true == true)) from w_eq_bool (w_res rfl) w_lit) rfl
theorem Qdf {l:OpenLaw} {n:Nat} {q:Program} {loose:List Str} {XP:(Str->Option Value)->Heap->Prop} {YP:World->Heap->Prop} {d:DefRec}
  (hn:l.most=some n) (hdf:d.params.defaults=[])
  (call:∀(w:World) (s₀ s₁:Shared) (mg mb:Str->Option Value) (fa:Addr) (o:Obj) (pm cd doc:Value) (a:Addr) (vs:List Value) (ns:List Int),
   Ground q loose [] XP w s₀ mg mb s₁.heap->YP w s₁.heap ->
   s₁.heap.get? fa=some o->o.data=.func (docDef d.name d.params d.body d.scope pm cd doc)->s₁.heap.CodeRec cd d.name->mg d.name=some (.ref fa) ->
   s₁.heap.get? a=some { cls:=.type "list",data:=.seq vs.toArray }->IntsAre vs ns->ns.length<=n->s₁.gens = #[] ->
   codeAny (model l.prog w) callerA (.call (.ref fa) ⟨[.ref a],[]⟩) (λr s'=>r=.ok (.ret (.bool true))/\OldK s₁.heap s'.heap/\s'.os=s₁.os/\AllBare s'.gens) s₁) :
  WalkO q loose XP YP l.row.toRowW d [] (λf vs=>PySem.call f vs):=by
 intro w s₀ s₁ mg mb G Y fa o pm cd doc dV kV ho hd hcd hD hmg hg args vals as hpre hlay hrd hwl hlo
 obtain rfl:dV=.none:=Dflts.none hD hdf
 obtain rfl:kV=.none:=Dflts.noKw hD
 obtain ⟨a,vs,ns,rfl,rfl,hobj,hints,hlen⟩:=Qgo hn hpre hwl
 refine enter_call (codeAny_mono (call w s₀ s₁ mg mb fa o pm cd doc a vs ns G Y ho (fd_plain hd) hcd hmg hobj hints hlen hg) λr s' hq=>?_)
 obtain ⟨rfl,h2,h3,h4⟩:=hq
 exact ⟨.inl ⟨.bool true,.bool true,[],rfl,λ_=>rfl,.bool true,Qgz l _,λ_=>⟨List.Pairwise.nil,λ_ hm=>(nomatch hm)⟩⟩,h2,h3,h4⟩
section
variable {prog:Program} {w:World} {A:Around} {E:Value->Shared->Prop} {s:Shared} {K:Frag}
end
end Att
namespace L2
open PySem PySem.Spec PyProof.Rows
theorem Qa6:∀{vs:List Value} {ns:List Int},IntsAre vs ns->Vals (ns.map V.int) vs
 | _,_,.nil=>.nil
 | _,_,.cons n t h=>.cons ⟨t,rfl⟩ (Qa6 h)
def Only (H:Hp):Prop:=∀b,H b=none\/∃o xs,H b=some (.frz o (.lst xs))
end L2
namespace L2
open PySem PySem.Spec PyProof.Rows
end L2
namespace L2
open PySem PySem.Spec PyProof.Rows
def Js (s:Stmt):Arguments:=match s with
 | .FunctionDef _ a _ _ _ _ _ _ _ _=>a
 | _=>{ posonlyargs:=[],args:=[],vararg:=none,kwonlyargs:=[],kw_defaults:=[],kwarg:=none,defaults:=[] }
def Qr (s:Stmt):List Stmt:=match s with
 | .FunctionDef _ _ b _ _ _ _ _ _ _=>b
 | _=>[]
def Qd (s:Stmt):Scope:=match s with
 | .FunctionDef _ _ _ _ _ _ sc _ _ _=>sc
 | _=>{ kind:=.function,names:=[],isGenerator:=false,isCoroutine:=false }
abbrev CX0:CXT:=λ_ _ _ _ _ _=>False
abbrev E0:XK:=λ_ _ _=>False
theorem Qpb {X:Cx}:Qir CX0 X E0:=λ_ _ _ _ _ _ _ h=>h.elim
structure Fun (K:PySem.W.Frag) (x qual:Str) (st:Stmt) (f:Addr) (fd:FuncData):Prop where
 ex:∃(oc:Value) (od:Option Addr) (kV doc pm:Value) (an:Option Addr) (cdv ct:Value) (osl:Array (Option Value)),
  fd=PySem.W.fnOf x qual (Js st) (Qr st) (Qd st) .none kV doc pm an cdv ct/\K.lookup f=some ⟨oc,od,.func fd,osl⟩/\PySem.W.codeIn K cdv qual=true
 kp:PySem.W.keepIn K (.ref f)=true
section
variable {P:Program} {w:World} {K:PySem.W.Frag} {mg:Str->Option Value} {base:Heap}
theorem Fun.ok {x qual:Str} {st:Stmt} {f:Addr} {fd:FuncData} {N ps:List Str} {k:Nat} {sp:Sp} (F:Fun K x qual st f fd) (S:FnScope N ps (Qd st)) (len:∀vs H Q E,sp vs H Q E->vs.length=ps.length)
  (hbody:∀(cdv:Value) (A:Around) (outer:List Env) (s:Shared) (H:Hp) (vs:List V) (Q:VK) (E:XK),Room k (A.deeper (envOfC qual (Qd st) s.heap.objs.size f cdv))->sp vs H Q E ->
   ∃t,PSs (cxOf CX0 P w K mg base N qual (Qd st) f cdv A outer s H E).nox (Qr st) t/\t { nx:=λ_ H'=>Q .non H',rt:=Q } (start N vs) H):FnOk P w K mg base CX0 (k+1) f fd ps sp:=by
 obtain ⟨oc,od,kV,doc,pm,an,cdv,ct,osl,rfl,lk,hcd⟩:=F.ex
 refine Qqq lk hcd S len λA outer s H vs Q E hr hsp=>?_
 obtain ⟨t,h,q⟩:=hbody cdv A outer s H vs Q E hr hsp
 exact ⟨t,h.nox,q⟩
theorem Fun.binds {x qual:Str} {st:Stmt} {f:Addr} {fd:FuncData} {ps:List Str} (F:Fun K x qual st f fd)
  (h:∀(kV doc pm:Value) (an:Option Addr) (cdv ct:Value) (us:List Value),us.length=ps.length->bindArgs (PySem.W.fnOf x qual (Js st) (Qr st) (Qd st) .none kV doc pm an cdv ct) ⟨us,[]⟩=pure (ps.zip us)):Qa0 K fd ps []:=by
 obtain ⟨oc,od,kV,doc,pm,an,cdv,ct,osl,rfl,lk,hcd⟩:=F.ex
 exact .all (h kV doc pm an cdv ct)
theorem Z7 {x qual:Str} {st:Stmt} {f:Addr} {oc:Value} {od an:Option Addr} {osl:Array (Option Value)} {kV doc pm cdv ct:Value} (l:K.lookup f=some ⟨oc,od,.func (PySem.W.fnOf x qual (Js st) (Qr st) (Qd st) .none kV doc pm an cdv ct),osl⟩)
  (c:PySem.W.codeIn K cdv qual=true) (k:PySem.W.keepIn K (.ref f)=true):Fun K x qual st f (PySem.W.fnOf x qual (Js st) (Qr st) (Qd st) .none kV doc pm an cdv ct):=⟨⟨oc,od,kV,doc,pm,an,cdv,ct,osl,rfl,l,c⟩,k⟩
end
theorem Q5 {A:Around} {k:Nat} (hr:Room k A):A.units+1<cLine:=Nat.lt_of_le_of_lt (Nat.add_le_add_left (by decide:1<=64) _) hr.units
section
variable {X:Cx}
theorem Qim:Zc X (.builtin "len") (λxs H Q=>∃a kvs,xs=[V.ref a]/\H a=some (.dK kvs)/\Q (.int kvs.length) H):=by
 intro pins s σ H xs us Q I r h
 obtain ⟨a,kvs,rfl,ha,q⟩:=h
 obtain ⟨u,rfl,ru⟩:=Uy r
 cases ru
 exact Qsi I (.inl ha) λt s' I'=>⟨.int kvs.length,H,I',⟨t,rfl⟩,q⟩
end
def Same (H H':Hp):Prop:=∀b o,H b=some o->H' b=some o
theorem Same.refl (H:Hp):Same H H:=λ_ _ h=>h
theorem Same.trans {H H1 H2:Hp} (a:Same H H1) (b:Same H1 H2):Same H H2:=λc o h=>b c o (a c o h)
theorem Same.free {H H':Hp} (e:Same H H') {l:Addr} (h:H' l=Option.none):H l=Option.none:=by
 cases q:H l with
 | none=>rfl
 | some o =>
  rw [e l o q] at h
  cases h
section
variable {κ:Type} [DecidableEq κ]
end
end L2
set_option maxHeartbeats 4000000
namespace L2
open PySem PySem.Spec PyProof.Rows
theorem Vh {env:Env}:∀(names:List (Str × NameKind)) (acc:List (Str × Addr)),
  (∀x∈names,x.2=.free->∃c,env.cells.lookup x.1=some c)->(∀y c,acc.lookup y=some c->env.cells.lookup y=some c) ->
  ∃cl:List (Str × Addr),(forIn names acc (λ(x:Str × NameKind) (cs:List (Str × Addr)) =>
    if (x.2 == NameKind.free)=true then do
     let c ← cellOf env x.1
     pure (ForInStep.yield ((x.1,c)::cs))
    else pure (ForInStep.yield cs)):Sem (List (Str × Addr)))=pure cl /\
   (∀y c,cl.lookup y=some c->env.cells.lookup y=some c)/\(∀y,(acc.lookup y).isSome=true->(cl.lookup y).isSome=true) /\
   ∀x∈names,x.2=.free->(cl.lookup x.1).isSome=true
 | [],acc,_,ha=>⟨acc,by rw [List.forIn_nil],ha,λ_ h=>h,λ_ h=>nomatch h⟩
 | (n,k)::r,acc,hn,ha=>by
  rw [List.forIn_cons]
  by_cases hk:k=.free
  ·subst hk
   obtain ⟨c,hc⟩:=hn (n,.free) List.mem_cons_self rfl
   have hc':env.cells.lookup n=some c:=hc
   obtain ⟨cl,e,h1,h2,h3⟩:=Vh r ((n,c)::acc) (λx hx=>hn x (List.mem_cons_of_mem _ hx)) (λy c' h=>by
    rw [List.lookup_cons] at h
    cases q:y == n with
    | true=>rw [q] at h;cases h;rw [beq_iff_eq.mp q];exact hc'
    | false=>rw [q] at h;exact ha y c' h)
   refine ⟨cl,?_,h1,λy hy=>h2 y ?_,λx hx hf=>?_⟩
   ·have e0:cellOf env n=pure c:=by unfold cellOf;rw [hc']
    show ((if ((NameKind.free == NameKind.free)=true) then (cellOf env n >>= λc=>pure (ForInStep.yield ((n,c)::acc))) else pure (ForInStep.yield acc)) >>= _)=_
    rw [if_pos (by decide),e0]
    exact e
   ·rw [List.lookup_cons]
    cases q:y == n with
    | true=>rfl
    | false=>exact hy
   ·rcases List.mem_cons.mp hx with rfl | hx
    ·exact h2 n (by simp [List.lookup_cons])
    ·exact h3 x hx hf
  ·obtain ⟨cl,e,h1,h2,h3⟩:=Vh r acc (λx hx=>hn x (List.mem_cons_of_mem _ hx)) ha
   refine ⟨cl,?_,h1,h2,λx hx hf=>?_⟩
   ·show ((if ((k == NameKind.free)=true) then (cellOf env n >>= λc=>pure (ForInStep.yield ((n,c)::acc))) else pure (ForInStep.yield acc)) >>= _)=_
    rw [if_neg (by simpa using hk)]
    exact e
   ·rcases List.mem_cons.mp hx with rfl | hx
    ·exact absurd hf hk
    ·exact h3 x hx hf
theorem Gz {env:Env} {scope:Scope} (h:∀x∈scope.names,x.2=.free->∃c,env.cells.lookup x.1=some c) :
  ∃cl,closureFor scope env=pure cl/\(∀y c,cl.lookup y=some c->env.cells.lookup y=some c)/\∀x∈scope.names,x.2=.free->∃c,cl.lookup x.1=some c:=by
 obtain ⟨cl,e,h1,_,h3⟩:=Vh scope.names [] h (λy c q=>by simp at q)
 refine ⟨cl,?_,h1,λx hx hf=>Option.isSome_iff_exists.mp (h3 x hx hf)⟩
 simp only [closureFor]
 show (forIn scope.names [] _ >>= λr=>pure r)=_
 rw [e]
 rfl
theorem Yj {env:Env} {x:Str}:∀{names:List (Str × NameKind)},names.lookup x=some .free ->
  (names.map λ(n,k)=>if (k == NameKind.free && env.scope.kind == .function && env.kindOf n == some .cell) then (n,NameKind.cell) else (n,k)).lookup x=some .cell \/
  (names.map λ(n,k)=>if (k == NameKind.free && env.scope.kind == .function && env.kindOf n == some .cell) then (n,NameKind.cell) else (n,k)).lookup x=some .free
 | [],h=>by simp at h
 | (n,k)::r,h=>by
  have ih:=@Yj env x r
  show List.lookup x ((if (k == NameKind.free && env.scope.kind == .function && env.kindOf n == some .cell)=true then (n,NameKind.cell) else (n,k))::_)=_\/List.lookup x ((if (k == NameKind.free && env.scope.kind == .function && env.kindOf n == some .cell)=true then (n,NameKind.cell) else (n,k))::_)=_
  cases hx:x == n with
  | true =>
   simp only [List.lookup_cons,hx] at h
   cases h
   by_cases hc:(NameKind.free == NameKind.free && env.scope.kind == .function && env.kindOf n == some .cell)=true
   ·rw [if_pos hc];left;simp only [List.lookup_cons,hx]
   ·rw [if_neg hc];right;simp only [List.lookup_cons,hx]
  | false =>
   simp only [List.lookup_cons,hx] at h
   by_cases hc:(k == NameKind.free && env.scope.kind == .function && env.kindOf n == some .cell)=true
   ·rw [if_pos hc];simp only [List.lookup_cons,hx];exact ih h
   ·rw [if_neg hc];simp only [List.lookup_cons,hx];exact ih h
theorem Yq {env:Env} {x:Str} {q:NameKind}:∀{names:List (Str × NameKind)},(∀y∈names,y.2 ≠ .cell)->q=.cell\/q=.free ->
  (names.map λ(n,k)=>if (k == NameKind.free && env.scope.kind == .function && env.kindOf n == some .cell) then (n,NameKind.cell) else (n,k)).lookup x=some q->(x,NameKind.free)∈names
 | [],_,_,h=>by simp at h
 | (n,k)::r,hn,hq,h=>by
  have h:List.lookup x ((if (k == NameKind.free && env.scope.kind == .function && env.kindOf n == some .cell)=true then (n,NameKind.cell) else (n,k))::(r.map λ(n,k)=>if (k == NameKind.free && env.scope.kind == .function && env.kindOf n == some .cell) then (n,NameKind.cell) else (n,k)))=some q:=h
  by_cases hc:(k == NameKind.free && env.scope.kind == .function && env.kindOf n == some .cell)=true
  ·rw [if_pos hc] at h
   cases hx:x == n with
   | true =>
    have hk:k=.free:=by
     cases k <;> first | rfl | (simp at hc)
    rw [beq_iff_eq.mp hx,hk]
    exact List.mem_cons_self
   | false =>
    simp only [List.lookup_cons,hx] at h
    exact List.mem_cons_of_mem _ (Yq (λy hy=>hn y (List.mem_cons_of_mem _ hy)) hq h)
  ·rw [if_neg hc] at h
   cases hx:x == n with
   | true =>
    simp only [List.lookup_cons,hx] at h
    have hk:k=q:=Option.some.inj h
    have hk2:k=.free:=by
     rcases hq with rfl | rfl
     ·exact absurd hk (hn (n,k) List.mem_cons_self)
     ·exact hk
    rw [beq_iff_eq.mp hx,hk2]
    exact List.mem_cons_self
   | false =>
    simp only [List.lookup_cons,hx] at h
    exact List.mem_cons_of_mem _ (Yq (λy hy=>hn y (List.mem_cons_of_mem _ hy)) hq h)
def Uj (X:Cx) (scope:Scope) (cl:List (Str × Addr)) (C:Addr) (N:List Str) (s₀:Shared) (H₀:Hp) (fp:List Addr):Cx :=
 { X with N:=N,s₀:=s₀,H₀:=H₀,env:=compEnvC scope cl C X.env,outer:=X.stack,stack:=X.stack,ex:=fp,fn:=λ_=>false,pn:=[],xe:=λ_ _=>False }
structure BlkScope (env:Env) (scope:Scope) (x:Str):Prop where
 kind:scope.kind=.function
 cells:∀y∈scope.names,y.2 ≠ .cell
 names:∀y∈scope.names,y.2=.local->scope.names.lookup y.1=some .local
 lx:scope.names.lookup x=some .local
 free:∀y∈scope.names,y.2=.free->env.kindOf y.1=some .cell\/env.kindOf y.1=some .free
def bN (N:List Str) (x:Str) (ix:List Nat):List Str:=x::ix.map λi=>N.getD i Str.empty
def bS (σ:St) (o:Option V) (ix:List Nat):St:=o::ix.map λi=>(σ[i]?).getD none
def PIfs (X:Cx) (ifs:List Expr) (tt:TT):Prop :=
 ∀(pins:List (Addr × Obj)) (s:Shared) (σ:St) (H:Hp) (Q:Bool->Hp->Prop),Inv X pins σ H s->tt σ H Q ->
  wpAny (model X.prog X.w) X.A (forIn ifs true λc r=>if r=true then do let ok ← isTrue c X.env (eval c X.env);pure (ForInStep.yield ok) else pure (ForInStep.yield r)) (TP X pins σ Q) X.xe s
def tAll:TT:=λ_ H Q=>Q true H
theorem Qjh {X:Cx}:PIfs X [] tAll:=by
 intro pins s σ H Q I h
 rw [List.forIn_nil]
 exact wpAny_pure ⟨H,I,h⟩
theorem Qjg {X:Cx} {c:Expr} {tt:TT} (h:PT X c tt):PIfs X [c] tt:=by
 intro pins s σ H Q I hw
 rw [List.forIn_cons]
 refine wpAny_bind ?_
 rw [if_pos rfl]
 refine wpAny_bind (thn (h pins s σ H _ I hw) λok s1 q=>wpAny_pure ?_)
 show wpAny _ _ (forIn [] ok _) _ _ s1
 rw [List.forIn_nil]
 exact wpAny_pure q
section
variable {X:Cx}
theorem Qq0 {pins:List (Addr × Obj)} {σ:St} {H:Hp} {s:Shared} {scope:Scope} {cl:List (Str × Addr)} {C:Addr} {N:List Str} {fp:List Addr} {x:Str} (I:Inv X pins σ H s) (B:BlkScope X.env scope x)
  (h1:∀y c,cl.lookup y=some c->X.env.cells.lookup y=some c) (h3:∀y∈scope.names,y.2=.free->∃c,cl.lookup y.1=some c) (hC:s.heap.objs.size<=C) (hf:∀b∈fp,FpOk X pins H b) (hl:∀b∈fp,b<s.heap.objs.size) :
  (Uj X scope cl C N s H fp).Ok where
 mod:=I.ok.mod
 kind:=by show (relabel scope X.env).kind=_;exact B.kind
 glob:=I.ok.glob
 blt:=I.ok.blt
 above:=hC
 inj:=λy z c q r=>I.ok.inj y z c (h1 y c q) (h1 z c r)
 has:=λy hy=>by
  have hy:(relabel scope X.env).names.lookup y=some .cell\/(relabel scope X.env).names.lookup y=some .free:=hy
  have m:(y,NameKind.free)∈scope.names:=by
   rcases hy with q | q
   ·exact Yq B.cells (.inl rfl) q
   ·exact Yq B.cells (.inr rfl) q
  exact h3 _ m rfl
 cab:=λy c q=>by cases (show false=true from q)
 hd:=I.ok.hd
 frames:=I.ok.frames
 stk:=.inl rfl
 exf:=λb hb=>⟨Nat.ne_of_lt (Nat.lt_of_lt_of_le (hl b hb) hC),λy c q=>(hf b hb).2.2.2.2.1 y c (h1 y c q)⟩
 bs:=I.bs
 bsz:=Nat.le_trans I.ok.bsz I.sz
 noex:=λb o e hb=>by
  rcases (hf b hb).2.2.2.1 with z | z
  ·exact I.ok.noex b o e z
  ·exact absurd (Nat.lt_of_lt_of_le (Heap.lt_size e) (Nat.le_trans I.ok.bsz z)) (Nat.lt_irrefl _)
 exfs:=λb hb z=>by
  have z':=I.stkSub b z
  rcases List.mem_cons.mp z' with q | q
  ·exact (hf b hb).2.1 q
  ·exact (hf b hb).2.2.1 q
 funs:=I.stack
 frf:=I.stkFree
theorem HOk.add {P:Program} {w:World} {H:Hp} {h:Heap} {a:Addr} {o:HO} (x:HOk P w H h) (hn:H a=none) (new:Jo P w (upd H a o) h a o):HOk P w (upd H a o) h:=λb u e=>by
 by_cases hb:b=a
 ·subst hb;rw [Qb] at e;cases e;exact new
 ·rw [Qk hb] at e
  exact (x b u e).stay (λc v _ q=>q) (λc q=>by rw [Qk (Qq q hn)];exact q) (λc xs q=>by rw [Qk (Qq q hn)];exact q) λc _ _ _ q _=>by rw [Qk (Qq q hn)];exact q
theorem Un.add {fs ex:List Addr} {H H':Hp} {h h':Heap} {a:Addr} {o:HO} (u:Un fs ex H H' h h') (hn:h.get? a=none) (hH:H a=none):Un fs ex H (upd H' a o) h h' where
 keep:=u.keep
 slot:=u.slot
 free:=λb ob e n hx=>by
  have:b≠a:=λz=>by rw [z,hn] at e;cases e
  rw [Qk this];exact u.free b ob e n hx
 there:=u.there
 tups:=λb xs e=>by rw [Qk (Qq e hH)];exact u.tups b xs e
 frzs:=λb ob w e=>by rw [Qk (Qq e hH)];exact u.frzs b ob w e
 tbls:=λb ps e=>by rw [Qk (Qq e hH)];exact u.tbls b ps e
end
end L2
namespace L2
open PySem PySem.Spec PyProof.Rows
section
variable {X:Cx}
theorem Qev {elt iter:Expr} {x:Str} {px pos:Pos} {scope:Scope} {te:TE} {tt:TT} {ifs:List Expr} {ix:List Nat} {pins:List (Addr × Obj)} {s:Shared} {σ:St} {H:Hp} {cl:List (Str × Addr)}
  {J:It} {fp:List Addr} {it:Addr} {tn:Nat->Heap->Prop} {E:Value->Shared->Prop} {RR:Value->Addr->Result->Shared->Prop} {G:List V->Hp->Prop}
  (I:Inv X pins σ H s) (hc:X.calm=true) (B:BlkScope X.env scope x) (h1:∀y c,cl.lookup y=some c->X.env.cells.lookup y=some c) (h3:∀y∈scope.names,y.2=.free->∃c,cl.lookup y.1=some c)
  (hix:∀i∈ix,∃y,X.N[i]? = some y/\scope.names.lookup y=some .free) (hN:(bN X.N x ix).Nodup)
  (T:Turn X.prog X.w X.K (.Name x px) J fp it tn) (st:tn 0 s.heap) (hf:∀b∈fp,FpOk X pins H b)
  (he:∀cl C s₀ H₀ fp,PE (Uj X scope cl C (bN X.N x ix) s₀ H₀ fp) elt te)
  (hi:∀cl C s₀ H₀ fp,PIfs (Uj X scope cl C (bN X.N x ix) s₀ H₀ fp) ifs tt)
  (W:Nat->Nat->List V->Hp->Prop) (m₀:Nat) (w0:W 0 m₀ [] H)
  (turn:∀i m ys H,W i m ys H->(J.stop i H/\ys.length<=sizeLine/\G ys H)\/(J.go i H/\ys.length<sizeLine/\∀v H',J.yld i H v H' ->
    tt (bS σ (some v) ix) H' λb H1=>if b=true then te (bS σ (some v) ix) H1 λy H2=>∃m',m' < m/\W (i+1) m' (ys++[y]) H2 else ∃m',m' < m/\W (i+1) m' ys H1))
  (hRR:∀D C s' ys H',Inv X pins σ (upd H' D (.lst ys)) s'->H' D=none->H' C=none->(∃m,s'.heap.Ns C m)->s.heap.objs.size<=C->D≠C->G ys H'->RR (.ref D) C (.ok .next) s') :
  wpAny (model X.prog X.w) X.A (newList []) (λacc s₃=>wpAny (model X.prog X.w) X.A (newFunctionEnv scope X.env.globals cl [] X.env.qual none .none (some X.env)) (λcenv s₄ =>
   codeAny (model X.prog X.w) X.A (.compStart (.ListComp elt [⟨.Name x px,iter,ifs,0⟩] scope pos) 0 (.ref it) acc { cenv with scope:=relabel scope X.env }) (RR acc cenv.locals) s₄) E s₃) E s:=by
 have hl:∀b∈fp,b<s.heap.objs.size:=λb hb=>by obtain ⟨o,e,_⟩:=T.obj 0 _ st b hb;exact Heap.lt_size e
 refine wpAny_newObj_type (wpAny_newFunctionEnv B.cells (by intro y hy;simp at hy) (λh₁ hns₁ hsb₁=>?_) B.kind)
 dsimp only at hns₁ hsb₁ ⊢
 generalize hH2:s.heap.push { cls:=.type "list",dict:=none,data:=.seq ([]:List Value).toArray }=H2 at hns₁ hsb₁ ⊢
 have hC:H2.objs.size=s.heap.objs.size+1:=by rw [← hH2,Heap.size_push]
 generalize hD:s.heap.objs.size=D at hC hl hRR ⊢
 generalize hCC:H2.objs.size=C at hC hns₁ hsb₁ ⊢
 have hDC:D≠C:=by omega
 have old:∀b o,s.heap.get? b=some o->h₁.get? b=some o:=λb o e=>hsb₁.extBut b o (Nat.ne_of_lt (by have z:=Heap.lt_size e;rw [hD] at z;exact Nat.lt_of_lt_of_le z (by rw [hC];exact Nat.le_succ _))) (Heap.get?_push_of_some _ (hH2 ▸ Heap.get?_push_of_some _ e))
 have hacc:h₁.get? D=some { cls:=.type "list",data:=.seq ([]:List Value).toArray 0 }:=hsb₁.extBut _ _ hDC (Heap.get?_push_of_some _ (hH2 ▸ (by rw [← hD];exact Heap.get?_push_size _ rfl)))
 have hfr:∀a,D<=a->s.heap.get? a=none:=λa ha=>by
  cases e:s.heap.get? a with
  | none=>rfl
  | some o=>exact absurd (Heap.lt_size e) (by rw [hD];exact Nat.not_lt.mpr ha)
 have hHn:∀a,D<=a->H a=none:=λa ha=>I.hok.fresh (by omega)
 have ok:(Uj X scope cl C (bN X.N x ix) s H fp).Ok:=Qq0 I B h1 h3 (by omega) hf (by rw [hD];exact hl)
 generalize hK:Uj X scope cl C (bN X.N x ix) s H fp=K at ok
 have kp:K.prog=X.prog:=by rw [← hK];rfl
 have kw:K.w=X.w:=by rw [← hK];rfl
 have kK:K.K=X.K:=by rw [← hK];rfl
 have kA:K.A=X.A:=by rw [← hK];rfl
 have kc:K.calm=true:=by rw [← hK];exact hc
 have kN:K.N=bN X.N x ix:=by rw [← hK];rfl
 have kenv:K.env=compEnvC scope cl C X.env:=by rw [← hK];rfl
 have kloc:K.env.locals=C:=by rw [← hK];rfl
 have kfs:K.fs=frs X.stack:=by rw [← hK];rfl
 have kex:K.ex=fp:=by rw [← hK];rfl
 have kpn:K.pn=[]:=by rw [← hK];rfl
 have ks:K.s₀=s:=by rw [← hK];rfl
 have kH:K.H₀=H:=by rw [← hK];rfl
 have kx:K.xe=λ_ _=>False:=by rw [← hK];rfl
 have kcl:K.env.cells=cl:=by rw [← hK];rfl
 have cellLt:∀y c,cl.lookup y=some c->c<D:=λy c q=>by obtain ⟨v,z⟩:=I.cell y c (h1 y c q);rw [← hD];exact z.lt
 have stkLt:∀b∈frs X.stack,b<D:=λb hb=>by
  rcases List.mem_cons.mp (I.stkSub b hb) with q | q
  ·rw [q,← hD];exact I.lt
  ·rcases Nat.lt_or_ge b D with z | z
   ·exact z
   ·exact absurd q (I.nofs (by omega))
 -- the state at the block's begin
 have I0:∀tk,Inv K [(D,{ cls:=.type "list",data:=.seq ([]:List Value).toArray 0 })] (bS σ none ix) H { s with heap:=h₁,toks:=tk }:=λtk=>by
  refine ⟨ok,by rw [ks],I.bare,by rw [ks,kH];exact Un.kept old,?_,?_,?_,?_,?_,by rw [kp,kw];exact I.hok.kept old,?_⟩
  ·refine ⟨_,by rw [kloc];exact hns₁,λi y v e1 e2 e3=>?_⟩
   rw [kN] at e1
   cases i with
   | zero =>
    have:(none:Option V)=some v:=by simpa [bS] using e2
    cases this
   | succ i =>
    have e1':(ix.map λi=>X.N.getD i Str.empty)[i]? = some y:=by simpa [bN] using e1
    have e2':(ix.map λi=>(σ[i]?).getD none)[i]? = some (some v):=by simpa [bS] using e2
    rw [List.getElem?_map] at e1' e2'
    cases q:ix[i]? with
    | none=>rw [q] at e1';cases e1'
    | some j =>
     rw [q] at e1' e2'
     obtain ⟨y',a1,a2⟩:=hix j (List.mem_of_getElem? q)
     have a3:X.N.getD j Str.empty=y':=by simp [List.getD,a1]
     have ey:y'=y:=by rw [← a3];exact Option.some.inj e1'
     subst ey
     have es:σ[j]? = some (some v):=by
      have z:(σ[j]?).getD none=some v:=Option.some.inj e2'
      cases w:σ[j]? with
      | none=>rw [w] at z;cases z
      | some o=>rw [w] at z;have z':o=some v:=z;rw [z']
     obtain ⟨m,hn,hlk⟩:=I.loc
     have hk:=B.free (y',.free) (PySem.mem_of_lookup a2) rfl
     have hk:X.env.kindOf y'=some .cell\/X.env.kindOf y'=some .free:=hk
     have vis:Vis X.env.scope y':=hk.elim (λz=>.inr (.inl z)) λz=>.inr (.inr z)
     obtain ⟨u,ru,lk⟩:=hlk j y' v a1 es vis
     refine ⟨u,ru,?_⟩
     rcases lk with ⟨k,_⟩ | ⟨_,c,ec,ce⟩
     ·rcases hk with z | z <;> (rw [k] at z;cases z)
     ·obtain ⟨c',ec'⟩:=h3 (y',.free) (PySem.mem_of_lookup a2) rfl
      have ec':cl.lookup y'=some c':=ec'
      have:c'=c:=Option.some.inj ((h1 y' c' ec').symm.trans ec)
      subst this
      refine .inr ⟨?_,c',by rw [kcl];exact ec',?_⟩
      ·show K.env.scope.names.lookup y'=_\/K.env.scope.names.lookup y'=_
       rw [kenv]
       exact Yj a2
      ·obtain ⟨oc,hoc,r⟩:=ce
       exact ⟨oc,old _ _ hoc,r⟩
  ·intro y c q
   rw [kcl] at q
   obtain ⟨v,oc,hoc,r⟩:=I.cell y c (h1 y c q)
   exact ⟨v,oc,old _ _ hoc,r⟩
  ·rw [kloc];exact hHn _ (by omega)
  ·intro y c q
   rw [kcl] at q
   exact I.freeC y c (h1 y c q)
  ·intro p hp
   rw [kpn] at hp
   have e:p=(D,{ cls:=.type "list",data:=.seq ([]:List Value).toArray 0 }):=by simpa using hp
   subst e
   refine ⟨hacc,hHn _ (Nat.le_refl _),by rw [kloc];exact hDC,?_,λv z=>?_⟩
   ·rw [kfs];intro z;exact absurd (stkLt D z) (Nat.lt_irrefl _)
   ·have z':Data.seq _ _=Data.cell v:=z
    cases z'
  ·rw [kN];simp [bS,bN]
 have stat:∀{H':Hp} {ob:Obj},(∀b∈fp,H' b=none)->∀b∈fp,FpOk K [(D,ob)] H' b:=λ{H' ob} hn b hb=>by
  refine ⟨hn b hb,?_,?_,.inl (by rw [kex];exact hb),?_,?_⟩
  ·rw [kloc];exact Nat.ne_of_lt (Nat.lt_of_lt_of_le (hl b hb) (by rw [hC];exact Nat.le_succ _))
  ·rw [kfs];intro z
   rcases List.mem_cons.mp (I.stkSub b z) with q | q
   ·exact (hf b hb).2.1 q
   ·exact (hf b hb).2.2.1 q
  ·intro y c q;rw [kcl] at q;exact (hf b hb).2.2.2.2.1 y c (h1 y c q)
  ·intro p hp;rw [kpn] at hp
   have e:p=(D,ob):=by simpa using hp
   subst e
   exact Nat.ne_of_gt (hl b hb)
 have st₁:tn 0 h₁:=T.keep _ _ _ st λb hb o e=>old b o e
 have loop:∀tk,codeAny (model X.prog X.w) X.A (.compLoop (.ListComp elt [⟨.Name x px,iter,ifs,0⟩] scope pos) 0 (.ref it) (.ref D) (compEnvC scope cl C X.env)) (RR (.ref D) C) { s with heap:=h₁,toks:=tk }:=by
  intro tk
  refine codeAny_compLoop_tests (λn s'=>∃i o H' ys its c,Inv K [(D,{ cls:=.type "list",data:=.seq (its:List Value).toArray c })] (bS σ o ix) H' s'/\Vals ys its/\tn i s'.heap/\(∀b∈fp,H' b=none)/\W i n ys H') ?_ m₀
   ⟨0,none,H,[],[],0,I0 tk,.nil,st₁,λb hb=>(hf b hb).1,w0⟩
  rintro n s1 ⟨i,o,H1,ys,its,c,I1,rv,t1,f1,w1⟩
  rcases turn i n ys H1 w1 with ⟨stop,hz,g⟩ | ⟨go,hz,step⟩
  ·have dn:=T.done K kp kw kK kc i _ s1 _ H1 (notedBy (model X.prog X.w) X.A (compEnvC scope cl C X.env) λe s'=>RR (.ref D) C (.error e) s') I1 (stat f1) t1 stop
   rw [kA] at dn
   refine thn dn λr s2 ⟨hr,I2⟩=>?_
   subst hr
   obtain ⟨p1,p2,p3,p4,p5⟩:=I2.pin (D,{ cls:=.type "list",data:=.seq its.toArray c }) (List.mem_append_right _ (List.mem_singleton.mpr rfl))
   have u2:=I2.base
   rw [kfs,kex,kH,ks] at u2
   refine hRR D C s2 ys H1 ?_ p2 (by rw [← kloc];exact I2.free) (by obtain ⟨m,hm,_⟩:=I2.loc;rw [kloc] at hm;exact ⟨m,hm⟩) (by omega) hDC g
   have hk2:HOk X.prog X.w H1 s2.heap:=by have:=I2.hok;rw [kp,kw] at this;exact this
   refine I.call' (ch:=fp) (by have:=I2.os;rw [ks] at this;exact this) (u2.add (hfr D (Nat.le_refl _)) (hHn D (Nat.le_refl _))) (hk2.add p2 ⟨hz,its,c,rv,p1⟩) I2.bare λb hb=>?_
   exact ⟨(hf b hb).2.2.2.1,(hf b hb).2.1,(hf b hb).2.2.2.2.1,(hf b hb).2.2.2.2.2⟩
  ·have im:=T.item K kp kw kK kc i _ s1 _ H1 (notedBy (model X.prog X.w) X.A (compEnvC scope cl C X.env) λe s'=>RR (.ref D) C (.error e) s') I1 (stat f1) t1 go
   rw [kA] at im
   refine thn im λr s2 ⟨u,hr,h2⟩=>?_
   subst hr
   show wpAny _ _ (assign (.Name x px) (compEnvC scope cl C X.env) u) _ _ s2
   have h2':wpAny (model X.prog X.w) X.A (pure ():Sem Unit) _ _ s2:=h2
   suffices q:wpAny (model X.prog X.w) X.A ((pure ():Sem Unit) >>= λ_=>assign (.Name x px) (compEnvC scope cl C X.env) u) _ _ s2 from q
   refine wpAny_bind (thn h2' λ_ s3 ⟨v,H3,I3,r3,y3,t3,f3⟩=>?_)
   have q3:=step v H3 y3
   have I3':=I3.pinned (stat f3) (T.obj _ _ t3)
   rw [← kenv]
   refine wpAny_assign_Name (Xz I3' (i:=0) (x:=x) (by rw [kN];exact hN) (by rw [kN];rfl) (.inl (by rw [kenv];exact lookup_relabel_local B.lx)) r3 (λs4 I4=>?_) (.inr (by rw [kenv];exact lookup_relabel_local B.lx)))
   have I4:Inv K ([(D,{ cls:=.type "list",data:=.seq its.toArray c })]++Xk fp s3.heap) (bS σ (some v) ix) H3 s4:=I4
   have hi':=hi cl C s H fp
   rw [hK] at hi'
   have hiv:=hi' _ s4 _ H3 _ I4 q3
   rw [kx,kp,kw,kA] at hiv
   refine wpAny_mono hiv (λok s5 ⟨H5,I5,q5⟩=>?_) λ_ _ z=>z.elim
   have back:∀{H7:Hp} {s7:Shared} {o7:Option V},Inv K ([(D,{ cls:=.type "list",data:=.seq its.toArray c })]++Xk fp s3.heap) (bS σ o7 ix) H7 s7->tn (i+1) s7.heap/\∀b∈fp,H7 b=none:=λ{H7 s7 o7} I7=>by
    refine ⟨T.keep _ _ _ t3 λb hb o e=>(I7.pin (b,o) (List.mem_append_right _ (List.mem_append_right _ (Zs hb e)))).1,λb hb=>?_⟩
    obtain ⟨ob,e,d⟩:=T.obj _ _ t3 b hb
    exact (I7.pin (b,ob) (List.mem_append_right _ (List.mem_append_right _ (Zs hb e)))).2.1
   cases ok with
   | false =>
    rw [if_neg Bool.false_ne_true]
    have q5:∃m',m' < n/\W (i+1) m' ys H5:=q5
    obtain ⟨m',hm,w5⟩:=q5
    obtain ⟨b1,b2⟩:=back I5
    exact ⟨m',hm,i+1,some v,H5,ys,its,c,I5.unpinned,rv,b1,b2,w5⟩
   | true =>
    rw [if_pos rfl]
    have q5:te (bS σ (some v) ix) H5 λy H2=>∃m',m' < n/\W (i+1) m' (ys++[y]) H2:=q5
    have he':=he cl C s H fp
    rw [hK] at he'
    have hev:=he' _ s5 _ H5 _ I5 q5
    rw [kx,kp,kw,kA] at hev
    refine wpAny_mono hev (λy s6 ⟨yv,H6,I6,r6,m',hm,w6⟩=>?_) λ_ _ z=>z.elim
    obtain ⟨b1,b2⟩:=back I6
    have I6':=I6.unpinned
    obtain ⟨p1,p2,p3,p4,p5⟩:=I6'.pin (D,{ cls:=.type "list",data:=.seq its.toArray c }) (List.mem_append_right _ (List.mem_singleton.mpr rfl))
    have hlen:=rv.length
    refine call_meets F.slot_list_append ⟨_,p1,rfl⟩ F.entry_list_append (F.args_list_append_2 _ _) (PySem.list_append D its.toArray c y (by rw [List.size_toArray];omega)) ⟨p1,?_⟩
    have ea:its.toArray.push y=(its++[y]).toArray:=by simp
    obtain ⟨c',q⟩:∃c',(s6.heap.update D (Obj.mapSeq (·.push y))).get? D=some { cls:=.type "list",data:=.seq (its++[y]).toArray c' }:=⟨_,by rw [← ea];exact PySem.IsL.update p1 (·.push y)⟩
    refine ⟨m',hm,i+1,some v,H6,ys++[yv],its++[y],c',?_,rv.append (.cons r6 .nil),T.keep _ _ _ b1 λb hb o e=>?_,b2,w6⟩
    ·have Id:Inv K [] (bS σ (some v) ix) H6 s6:=I6'.pins_of λp hp=>by simp at hp
     have It:Inv K [] (bS σ (some v) ix) H6 { s6 with heap:=s6.heap.update D (Obj.mapSeq (·.push y)) }:=Id.turned (t':=s6.toks) (it:=D) (λb o hb e=>(Heap.get?_update_other _ _ (Ne.symm hb)).trans e) p2 p3
      (.inr (by rw [ks];omega)) (λy' c' e=>by rw [kcl] at e;exact Nat.ne_of_lt (cellLt y' c' e)) (λp hp=>by rw [kpn] at hp;simp at hp)
     refine It.pins_of λp hp=>?_
     obtain rfl:p=(D,{ cls:=.type "list",data:=.seq (its++[y]).toArray c' }):=by simpa using hp
     refine ⟨q,p2,p3,p4,λv z=>?_⟩
     have z':Data.seq _ _=Data.cell v:=z
     cases z'
    ·exact (Heap.get?_update_other _ _ (Nat.ne_of_gt (hl b hb))).trans e
 have selfs:wpAny (model X.prog X.w) X.A (pyIter (.ref it)) (λit' s'=>codeAny (model X.prog X.w) X.A (.compLoop (.ListComp elt [⟨.Name x px,iter,ifs,0⟩] scope pos) 0 it' (.ref D) (compEnvC scope cl C X.env)) (RR (.ref D) C) s')
   (notedBy (model X.prog X.w) X.A (compEnvC scope cl C X.env) λe s'=>RR (.ref D) C (.error e) s') { s with heap:=h₁,toks:=s.toks+([]:List (Str × Value)).length }:=T.self X.A 0 _ _ _ st₁ (loop _)
 exact codeAny_compStart_list (loop _) selfs
def Qlu (wi:TI) (tt:TT) (te:TE) (ix:List Nat):TE:=λσ H Q=>wi σ H λJ H1=>∃(W:Nat->Nat->List V->Hp->Prop) (m₀:Nat),W 0 m₀ [] H1 /\
 ∀i m ys H,W i m ys H->(J.stop i H/\ys.length<=sizeLine/\∀l,H l=none->Q (.ref l) (upd H l (.lst ys)))\/(J.go i H/\ys.length<sizeLine/\∀v H',J.yld i H v H' ->
  tt (bS σ (some v) ix) H' λb H1=>if b=true then te (bS σ (some v) ix) H1 λy H2=>∃m',m' < m/\W (i+1) m' (ys++[y]) H2 else ∃m',m' < m/\W (i+1) m' ys H1)
theorem Qez {scope:Scope} {x:Str} {pins:List (Addr × Obj)} {σ:St} {H:Hp} {s:Shared} (I:Inv X pins σ H s) (B:BlkScope X.env scope x):∀y∈scope.names,y.2=.free->∃c,X.env.cells.lookup y.1=some c :=
 λy hy hf=>I.ok.has y.1 (B.free y hy hf)
theorem Inv.blkGone {pins:List (Addr × Obj)} {σ:St} {H:Hp} {s s₀:Shared} {H₀:Hp} {C:Addr} {h':Heap} {σ₀:St} (I₀:Inv X pins σ₀ H₀ s₀) (I:Inv X pins σ H s) (hC:s₀.heap.objs.size<=C) (hn:H C=none) (hs:Heap.SameBut C s.heap h'):Inv X pins σ H { s with heap:=h' } :=
 I.turned (t':=s.toks) (it:=C) (λb o hb e=>(hs.2 b hb).trans e) hn (Nat.ne_of_gt (Nat.lt_of_lt_of_le I₀.lt hC)) (.inr (Nat.le_trans I₀.sz hC))
  (λx c e=>by obtain ⟨v,z⟩:=I₀.cell x c e;exact Nat.ne_of_lt (Nat.lt_of_lt_of_le z.lt hC)) (λp hp=>Nat.ne_of_lt (Nat.lt_of_lt_of_le (Heap.lt_size (I₀.pin p hp).1) hC))
theorem Qmz {elt iter:Expr} {x:Str} {px pos:Pos} {scope:Scope} {te:TE} {tt:TT} {wi:TI} {ifs:List Expr} (ix:List Nat) (hc:X.calm=true) (B:BlkScope X.env scope x)
  (hix:∀i∈ix,∃y,X.N[i]? = some y/\scope.names.lookup y=some .free) (hN:(bN X.N x ix).Nodup) (hi:PI X (.Name x px) iter wi)
  (ht:∀cl C s₀ H₀ fp,PIfs (Uj X scope cl C (bN X.N x ix) s₀ H₀ fp) ifs tt)
  (he:∀cl C s₀ H₀ fp,PE (Uj X scope cl C (bN X.N x ix) s₀ H₀ fp) elt te)
  (hs:∀x,foldedSetIterable iter X.env x=pure x:=by intro _;rfl) :
  PE X (.ListComp elt [⟨.Name x px,iter,ifs,0⟩] scope pos) (Qlu wi tt te ix):=by
 intro pins s σ H Q I h
 obtain ⟨cl,hcl,h1,h3⟩:=Gz (Qez I B)
 rw [eval_ListComp]
 refine wpAny_comprehension_free (use:=none) rfl hs hcl B.kind B.names (thn (hi pins s σ H _ I h) λv s1 h1'=>thn h1' λitv s2 h2=>?_)
 obtain ⟨it,fp,tn,J,H2,e,I2,T,st2,f2,W,m0,w0,turn⟩:=h2
 subst e
 refine Qev (G:=λys H'=>∀l,H' l=none->Q (.ref l) (upd H' l (.lst ys))) I2 hc B h1 h3 hix hN T st2 f2 he ht W m0 w0 turn λD C s' ys H' I' hD hC hm hCs hDC g=>?_
 obtain ⟨m,hm⟩:=hm
 refine ⟨m,hm,λh' hsb=>⟨.ref D,upd H' D (.lst ys),I2.blkGone I' hCs (by rw [Qk (Ne.symm hDC)];exact hC) hsb,rfl,g D hD⟩⟩
theorem Qmo {elt iter:Expr} {x y:Str} {px py pos spos:Pos} {scope:Scope} {te:TE} {tt:TT} {wi:TI} {ifs:List Expr} {j:Nat} (ix:List Nat) (hc:X.calm=true) (B:BlkScope X.env scope x)
  (hNd:X.N.Nodup) (hj:X.N[j]? = some y) (hy:Loc X.env.scope y)
  (hsw:swapsWith (.ListComp elt [⟨.Name x px,iter,ifs,0⟩] scope pos) (some (.Name y py)) spos.line X.env=pure true)
  (hix:∀i∈ix,∃y,X.N[i]? = some y/\scope.names.lookup y=some .free) (hN:(bN X.N x ix).Nodup) (hi:PI X (.Name x px) iter wi)
  (ht:∀cl C s₀ H₀ fp,PIfs (Uj X scope cl C (bN X.N x ix) s₀ H₀ fp) ifs tt)
  (he:∀cl C s₀ H₀ fp,PE (Uj X scope cl C (bN X.N x ix) s₀ H₀ fp) elt te)
  (hf:X.fn y=true\/X.env.scope.names.lookup y=some .local:=by first | exact .inl rfl | exact .inr rfl | assumption)
  (hs:∀x,foldedSetIterable iter X.env x=pure x:=by intro _;rfl) :
  PS X (.Assign [.Name y py] (.ListComp elt [⟨.Name x px,iter,ifs,0⟩] scope pos) spos) (tAsg (Qlu wi tt te ix) (Qh1 j)):=by
 intro pins s σ H D0 I h
 obtain ⟨cl,hcl,h1,h3⟩:=Gz (Qez I B)
 rw [exec_Assign_Name_used _ _ _ _ hsw]
 refine wpAny_bind (wpAny_standAt (wpAny_bind ?_))
 show wpAny _ X.A (do let _ ← comprehension (.ListComp elt [⟨.Name x px,iter,ifs,0⟩] scope pos) scope X.env _ (newList []) false (eval iter X.env) (some (assign (.Name y py) X.env))) _ _ s
 refine wpAny_bind (wpAny_mono (wpAny_comprehension_free (use:=some (assign (.Name y py) X.env)) (Q:=λ_ s'=>SP X pins D0 .next s') rfl hs hcl B.kind B.names
  (thn (hi pins s σ H _ I h) λv s1 h1'=>thn h1' λitv s2 h2=>?_)) (λ_ s' hq=>wpAny_pure (wpAny_pure hq)) λ_ _ e=>e)
 obtain ⟨it,fp,tn,J,H2,e,I2,T,st2,f2,W,m0,w0,turn⟩:=h2
 subst e
 refine Qev (G:=λys H'=>∀l,H' l=none->Qh1 j (.ref l) σ (upd H' l (.lst ys)) D0.nx) I2 hc B h1 h3 hix hN T st2 f2 he ht W m0 w0 turn λD C s' ys H' I' hD hC hm hCs hDC g=>?_
 obtain ⟨m,hm⟩:=hm
 have hCn:upd H' D (.lst ys) C=none:=by rw [Qk (Ne.symm hDC)];exact hC
 show wpAny _ _ (assign (.Name y py) X.env (.ref D)) _ _ s'
 refine wpAny_assign_Name (Qa8 I' hNd hj hy (show RelV (.ref D) (.ref D) from rfl) (λs3 I3 ⟨a,hsa,ha⟩=>?_) hf)
 have hCa:C≠a:=by
  rcases ha with z | z
  ·rw [z];exact Nat.ne_of_gt (Nat.lt_of_lt_of_le I2.lt hCs)
  ·obtain ⟨v,q⟩:=I2.cell y a z;exact Nat.ne_of_gt (Nat.lt_of_lt_of_le q.lt hCs)
 exact ⟨m,hm.sameBut hsa hCa,λh' hsb=>⟨_,_,I2.blkGone I3 hCs hCn hsb,g D hD⟩⟩
end
end L2
namespace L2
open PySem PySem.Spec PyProof.Rows
section
variable {X:Cx}
theorem Inv.turnNew {pins:List (Addr × Obj)} {σ:St} {H:Hp} {s:Shared} {ch:List Addr} {T:Addr} {o:HO} {h':Heap} {t':Nat} (I:Inv X pins σ H s) (hT:s.heap.objs.size<=T)
  (k:∀b u,b∉ch->s.heap.get? b=some u->h'.get? b=some u) (hch:∀b∈ch,FpOk X pins H b) (new:Jo X.prog X.w (upd H T o) h' T o):Inv X pins σ (upd H T o) { s with heap:=h',toks:=t' }:=by
 have hn:H T=none:=I.hok.fresh hT
 have hg:s.heap.get? T=none:=by
  cases e:s.heap.get? T with
  | none=>rfl
  | some u=>exact absurd (Heap.lt_size e) (Nat.not_lt.mpr hT)
 have u:Un (frs X.stack) ch H H s.heap h':=⟨λb q e _ _ hx=>k b q hx e,λb q e _ _ hx=>⟨q.slots,k b q hx e⟩,λb q e n _=>n,λb q e hx=>⟨q,k b q hx e⟩,λ_ _ e=>e,λ_ _ _ e=>e,λb ps e=>⟨#[],by rw [Array.append_empty];exact e⟩⟩
 have hok:HOk X.prog X.w H h':=λb q e=>(I.hok b q e).stay (λc v hc z=>k c v (λm=>by
  have q1:=(hch c m).1
  rcases hc with rfl | hc
  ·rw [q1] at e;cases e
  ·rw [q1] at hc;cases hc) z) (λ_ z=>z) λ_ _ z=>z
 exact I.call' (s':={ s with heap:=h',toks:=t' }) rfl (u.add hg hn) (hok.add hn new) I.bare λb hb=>⟨(hch b hb).2.2.2.1,(hch b hb).2.1,(hch b hb).2.2.2.2.1,(hch b hb).2.2.2.2.2⟩
theorem Inv.turnAll {pins:List (Addr × Obj)} {σ:St} {H:Hp} {s:Shared} {ch:List Addr} {h':Heap} {t':Nat} (I:Inv X pins σ H s)
  (k:∀b u,b∉ch->s.heap.get? b=some u->h'.get? b=some u) (hch:∀b∈ch,FpOk X pins H b):Inv X pins σ H { s with heap:=h',toks:=t' }:=by
 have u:Un (frs X.stack) ch H H s.heap h':=⟨λb q e _ _ hx=>k b q hx e,λb q e _ _ hx=>⟨q.slots,k b q hx e⟩,λb q e n _=>n,λb q e hx=>⟨q,k b q hx e⟩,λ_ _ e=>e,λ_ _ _ e=>e,λb ps e=>⟨#[],by rw [Array.append_empty];exact e⟩⟩
 have hok:HOk X.prog X.w H h':=λb q e=>(I.hok b q e).stay (λc v hc z=>k c v (λm=>by
  have q1:=(hch c m).1
  rcases hc with rfl | hc
  ·rw [q1] at e;cases e
  ·rw [q1] at hc;cases hc) z) (λ_ z=>z) λ_ _ z=>z
 exact I.call' (s':={ s with heap:=h',toks:=t' }) rfl u hok I.bare λb hb=>⟨(hch b hb).2.2.2.1,(hch b hb).2.1,(hch b hb).2.2.2.2.1,(hch b hb).2.2.2.2.2⟩
end
section
variable {prog:Program} {w:World} {A:Around} {E:Value->Shared->Prop} {s:Shared}
theorem Qlr {it t:Addr} {i:Nat} {items:Array Value} {x:Value} {Q:Value->Shared->Prop} (hit:s.heap.IsTupleIter it t i) (ht:s.heap.IsTuple t items) (hx:items[i]? = some x)
  (hQ:∀h',h'.IsTupleIter it t (i+1)->Heap.SameBut it s.heap h'->Q x { s with heap:=h' }):wpAny (model prog w) A (Builtin.SmallTypes.nextOf (.ref it)) Q E s:=by
 obtain ⟨o,ho,hc,hd⟩:=id hit
 obtain ⟨ol,hol,_,nl,hdl⟩:=ht
 unfold Builtin.SmallTypes.nextOf
 refine wpAny_bind (wpAny_callSpecial?_slot (name:=Str.ofString "__next__") hit.typeIs F.slot_tuple_iterator_next (wpAny_call_entry F.slot_tuple_iterator_next hit.typeIs F.entry_tuple_iterator_next ?_ (F.args_tuple_iterator_next_1 _)))
 show wpAny _ _ (field (.ref it) 0 >>= _) _ _ s;refine wpAny_bind (wpAny_field ho hd (x:=.ref t) rfl ?_)
 show wpAny _ _ (if (Value.ref t == Value.none)=true then _ else _) _ _ s;rw [if_neg (show ¬((Value.ref t == Value.none)=true) from Bool.false_ne_true)]
 show wpAny _ _ (field (.ref it) 1 >>= _) _ _ s;refine wpAny_bind (wpAny_field ho hd (x:=.int i 0) rfl ?_)
 show wpAny _ _ (seqItems? (.ref t) >>= _) _ _ s;refine wpAny_bind (wpAny_seqItems hol hdl ?_)
 simp only [Int.toNat_natCast,hx]
 refine wpAny_bind (wpAny_setField ho hd (by simp) (wpAny_pure ⟨x,rfl,wpAny_pure (hQ _ ⟨_,Heap.get?_update_self _ ho (Obj.isFreed_of_fields (Obj.data_mapFields hd _)),(Obj.cls_mapFields ..).trans hc,by rw [Obj.data_mapFields hd];simp [rawInt]⟩ (Heap.SameBut.update ..))⟩))
theorem Qkm {it t:Addr} {i:Nat} {items:Array Value} {Q:Value->Shared->Prop} (hh:A.handled=none) (hit:s.heap.IsTupleIter it t i) (ht:s.heap.IsTuple t items) (hx:items[i]? = none)
  (hE:∀h' e,Heap.ExtBut it s.heap h'->(∃o,h'.get? e=some o/\o.cls=.type "StopIteration")->E (.ref e) { s with heap:=h' }):wpAny (model prog w) A (Builtin.SmallTypes.nextOf (.ref it)) Q E s:=by
 obtain ⟨o,ho,hc,hd⟩:=id hit
 obtain ⟨ol,hol,_,nl,hdl⟩:=ht
 unfold Builtin.SmallTypes.nextOf
 refine wpAny_bind (wpAny_callSpecial?_slot (name:=Str.ofString "__next__") hit.typeIs F.slot_tuple_iterator_next (wpAny_call_entry F.slot_tuple_iterator_next hit.typeIs F.entry_tuple_iterator_next ?_ (F.args_tuple_iterator_next_1 _)))
 show wpAny _ _ (field (.ref it) 0 >>= _) _ _ s;refine wpAny_bind (wpAny_field ho hd (x:=.ref t) rfl ?_)
 show wpAny _ _ (if (Value.ref t == Value.none)=true then _ else _) _ _ s;rw [if_neg (show ¬((Value.ref t == Value.none)=true) from Bool.false_ne_true)]
 show wpAny _ _ (field (.ref it) 1 >>= _) _ _ s;refine wpAny_bind (wpAny_field ho hd (x:=.int i 0) rfl ?_)
 show wpAny _ _ (seqItems? (.ref t) >>= _) _ _ s;refine wpAny_bind (wpAny_seqItems hol hdl ?_)
 simp only [Int.toNat_natCast,hx]
 refine wpAny_bind (wpAny_rule (wpAny_bind (wpAny_setField ho hd (by simp) ?_)))
 show wpAny _ _ (newExc (.type "StopIteration") [] >>= _) _ _ _;refine wpAny_bind ?_
 simp only [newExc,newTuple]
 refine wpAny_bind (wpAny_newObj_type ?_ (by size_fits));refine wpAny_bind (m:=firstArgMember _ _) (wpAny_of_eq (a:=Value.none) (by first | rfl | (simp only [firstArgMember];rfl)) ?_)
 refine wpAny_newObj_type ?_ (by size_fits);simp only [raiseNew]
 refine wpAny_bind (wpAny_handled ?_)
 first | rw [show A.in1.handled=none from hh] | rw [hh]
 refine wpAny_bind (wpAny_pure (wpAny_throw (hE _ _ (((Heap.SameBut.update ..).extBut.push _).push _) ⟨_,Heap.get?_push_size _ rfl,rfl⟩)))
theorem Qj4 (hh:A.handled=none) (it t:Addr) (hne:t≠it) (items:Array Value) :
  Draws prog w A it [it,t] items.size (λi v=>items[i]? = some v) (λi h=>h.IsTupleIter it t i/\h.IsTuple t items) where
 live:=λ_ _ st=>let ⟨o,ho,_⟩:=st.1;⟨o,ho⟩
 frame:=λ_ _ _ st hk=>⟨st.1.at λo e=>hk it (by simp) o e,let ⟨o,ho,r⟩:=st.2;⟨o,hk t (by simp) o ho,r⟩⟩
 item:=λi s Q E hi st hQ=>Qlr st.1 st.2 (x:=items[i]) (by simp [hi]) λh' hit' hs'=>hQ _ h' s.toks (by simp [hi]) ⟨hit',st.2.extBut hs'.extBut hne⟩ hs'
 done:=λs Q E st hE=>Qkm hh st.1 st.2 (by simp) hE
open AutoSeq1 (wpAny_loadPart') in
theorem Qj2 (l:Addr) (items:Array Value) (n:Nat) (dct:Option Addr) (sl:Array (Option Value)) :
  Meets (Builtin.«enumerate.__new__» ⟨[.type "enumerate",.ref l],[]⟩) (λ_ R s=>s.heap.get? l=some { cls:=.type "tuple",dict:=dct,data:=.seq items n,slots:=sl } /\
   R (.ok (.ret (.ref (s.heap.push { cls:=.type "tuple_iterator",data:=.fields #[.ref l,.int 0 0] }).objs.size)))
    { s with heap:=(s.heap.push { cls:=.type "tuple_iterator",data:=.fields #[.ref l,.int 0 0] }).push { cls:=.type "enumerate",data:=.fields #[.none,.bool false,.ref s.heap.objs.size,rawInt 0,.none,.none] } }) :=
 .of_wp λprog w A R s h=>by
  obtain ⟨hp,g,d,tk,os⟩:=s;obtain ⟨hl,h⟩:=h
  have hsub:=sub_enumerate
  have hL:Heap.IsTuple (Shared.heap ⟨hp,g,d,tk,os⟩) l items:=⟨_,hl,rfl,n,rfl⟩
  wp_walk using wpAny_loadPart' hl
  refine wpAny_stack_any λst=>wpAny_pure ?_
  split
  ·rename_i c _ _ _ _ _
   cases (c == Value.type "enumerate")
   ·wp_walk using wpAny_loadPart' hl,wpAny_pyIter_tuple hL
    exact ⟨_,rfl,h⟩
   ·wp_walk using wpAny_loadPart' hl,wpAny_pyIter_tuple hL
    exact ⟨_,rfl,h⟩
  ·wp_walk using wpAny_loadPart' hl,wpAny_pyIter_tuple hL
   exact ⟨_,rfl,h⟩
theorem Qio {l:Addr} {items:Array Value} {Q:Value->Shared->Prop} (hL:s.heap.IsTuple l items)
  (h:∀h',IsEnum h' (s.heap.objs.size+1) s.heap.objs.size 0 .none->h'.IsTupleIter s.heap.objs.size l 0->h'.objs.size=s.heap.objs.size+2->(∀b o,s.heap.get? b=some o->h'.get? b=some o)->Q (.ref (s.heap.objs.size+1)) { s with heap:=h' }) :
  wpAny (model prog w) A (call (.type "enumerate") [.ref l]) Q E s:=by
 obtain ⟨⟨c,dct,dt,sl⟩,hl,hc,n,hd⟩:=hL
 obtain rfl:c=.type "tuple":=hc
 obtain rfl:dt=.seq items n:=hd
 refine callType_new F.called_enumerate (by decide) (F.typeCall_enumerate_1 _) (F.newCall_enumerate_1 _) (λobj=>F.args_object_init_2 obj _) F.entry_enumerate_new (Qj2 l items n dct sl) ⟨hl,?_⟩
 have hz:(s.heap.push { cls:=.type "tuple_iterator",data:=.fields #[.ref l,.int 0 0] }).objs.size=s.heap.objs.size+1:=Heap.size_push ..
 show _/\_
 rw [hz]
 have he:IsEnum ((s.heap.push { cls:=.type "tuple_iterator",data:=.fields #[.ref l,.int 0 0] }).push
   { cls:=.type "enumerate",data:=.fields #[.none,.bool false,.ref s.heap.objs.size,rawInt 0,.none,.none] }) (s.heap.objs.size+1) s.heap.objs.size 0 .none:=by
  have q:=Heap.get?_push_size (s.heap.push { cls:=.type "tuple_iterator",data:=.fields #[.ref l,.int 0 0] }) (o:={ cls:=.type "enumerate",data:=.fields #[.none,.bool false,.ref s.heap.objs.size,rawInt 0,.none,.none] }) rfl
  rw [hz] at q;exact q
 exact ⟨⟨_,he,rfl⟩,h _ he ⟨_,Heap.get?_push_of_some _ (Heap.get?_push_size _ rfl),rfl,rfl⟩ (by rw [Heap.size_push,hz]) λb o x=>Heap.get?_push_of_some _ (Heap.get?_push_of_some _ x)⟩
end
def Ite (K:PySem.W.Frag) (a:Addr):It :=
 ⟨λi H=>∃xs x,SqT K H a xs/\xs[i]? = some x,λi H v H'=>∀xs,SqT K H a xs->∃x p,xs[i]? = some x/\v=.ref p/\H p=none/\H'=upd H p (.tup [.int i,x]),λi H=>∃xs,SqT K H a xs/\xs.length<=i⟩
theorem Qgg {P:Program} {w:World} {K:PySem.W.Frag} {es:List Expr} {kt:Nat} {pt:Pos} (a e it:Addr) (hei:e≠it):Turn P w K (.Tuple es kt pt) (Ite K a) [e,it] e (λi h=>(∃old,IsEnum h e it i old)/\h.IsTupleIter it a i) where
 mem:=by simp
 obj:=λi h st b hb=>by
  obtain ⟨⟨old,h1⟩,o,h2,c,d⟩:=st
  rcases List.mem_cons.mp hb with z | z
  ·subst z;exact ⟨_,h1,λv z=>by have z':Data.fields _=Data.cell v:=z;cases z'⟩
  ·have z':b=it:=by simpa using z
   subst z';exact ⟨o,h2,λv z=>by rw [d] at z;cases z⟩
 keep:=λi h h' st k=>⟨let ⟨old,h1⟩:=st.1;⟨old,k e (by simp) _ h1⟩,st.2.at λo q=>k it (by simp) o q⟩
 item:=by
  intro X hP hw hK hc i pins s σ H E I hf st hg
  subst hP hw hK
  obtain ⟨⟨old,he⟩,hit⟩:=st
  obtain ⟨xs,x,hq,hx⟩:=hg
  obtain ⟨its,rv,p,hz⟩:=I.tuple hq
  have hlen:=rv.length
  have hi:i<its.toArray.size:=by rw [List.size_toArray,← hlen];exact (List.getElem?_eq_some_iff.mp hx).1
  have hai:a≠it:=λz=>by
   obtain ⟨o,h1,h2,_⟩:=p
   obtain ⟨o',h1',h2',_⟩:=hit
   rw [z,h1'] at h1;cases h1;rw [h2'] at h2;exact absurd h2 (by decide)
  have hae:e∉[it,a]:=λz=>by
   rcases List.mem_cons.mp z with q | q
   ·exact hei q
   ·have q':e=a:=by simpa using q
    obtain ⟨o,h1,h2,_⟩:=p
    rw [← q',he] at h1;cases h1;exact absurd h2 (by show ¬(Value.type "enumerate" = Value.type "tuple");decide)
  refine wpAny_pyNext_enum_itemD (Qj4 (A:=X.A.in1) (I.ok.hd hc) it a hai its.toArray) he ⟨hit,show s.heap.IsTuple a its.toArray from p⟩ hi hei hae λu h' tk hu ho hst' hT hsz hk=>?_
  refine ⟨_,rfl,wpAny_letOwnedTupleGo_enum ho λh2 he2 hs2=>?_⟩
  obtain ⟨u',hu',ru⟩:=rv.get hx
  have euu:u'=u:=by
   have z:its.toArray[i]? = some u:=hu
   have z2:its[i]? = some u:=by simpa using z
   rw [hu'] at z2;exact Option.some.inj z2
  subst euu
  have hTe:s.heap.objs.size≠e:=Nat.ne_of_gt (Heap.lt_size he)
  have hT2:h2.get? s.heap.objs.size=some { cls:=.type "tuple",data:=.seq #[.int i tk,u'] }:=(hs2.2 _ hTe).trans hT
  have hn:H s.heap.objs.size=none:=I.hok.fresh (Nat.le_refl _)
  refine ⟨.ref s.heap.objs.size,upd H s.heap.objs.size (.tup [.int i,x]),I.turnNew (ch:=[e,it]) (t':=tk+1) (Nat.le_refl _) (λb o hb q=>?_) hf ?_,rfl,λys hy=>?_,⟨⟨_,he2⟩,hst'.1.at λo q=>?_⟩,λb hb=>?_⟩
  ·have h1:b≠e:=λz=>hb (by simp [z])
   have h2':b≠it:=λz=>hb (by simp [z])
   exact (hs2.2 b h1).trans (hk b o h1 h2' q)
  ·exact ⟨by show 2<=sizeLine;decide,[.int i tk,u'],.cons ⟨_,rfl⟩ (.cons ru .nil),⟨_,hT2,rfl,_,rfl⟩⟩
  ·rw [I.tuple_inj hy hq]
   exact ⟨x,_,hx,rfl,hn,rfl⟩
  ·exact (hs2.2 it (Ne.symm hei)).trans q
  ·obtain ⟨o,q,_⟩:∃o,s.heap.get? b=some o/\True:=by
    rcases List.mem_cons.mp hb with z | z
    ·exact ⟨_,z ▸ he,trivial⟩
    ·have z':b=it:=by simpa using z
     obtain ⟨o,q,_⟩:=hit
     exact ⟨o,z' ▸ q,trivial⟩
   rw [Qk (Nat.ne_of_lt (Heap.lt_size q))]
   exact (hf b hb).1
 done:=by
  intro X hP hw hK hc i pins s σ H E I hf st hg
  subst hP hw hK
  obtain ⟨⟨old,he⟩,hit⟩:=st
  obtain ⟨xs,hq,hx⟩:=hg
  obtain ⟨its,rv,p,hz⟩:=I.tuple hq
  have hlen:=rv.length
  have hT:s.TypeIs (.ref e) "enumerate":=⟨_,he,rfl⟩
  unfold pyNext
  refine wpAny_bind (wpAny_attempt (wpAny_callSpecial?_slot (name:=Str.ofString "__next__") hT F.slot_enumerate_next (wpAny_call_entry F.slot_enumerate_next hT F.entry_enumerate_next ?_ (F.args_enumerate_next_1 _))))
  show wpAny _ _ (field (.ref e) 2 >>= _) _ _ _;refine wpAny_bind (wpAny_field he rfl (x:=.ref it) rfl ?_)
  refine wpAny_bind (Qkm (I.ok.hd hc) hit (show s.heap.IsTuple a its.toArray from p) (by simp;omega) λh' x he' hx'=>?_)
  obtain ⟨o,ho,hc⟩:=hx'
  refine wpAny_bind (wpAny_isInstance (T:="StopIteration") (b:=true) ⟨o,ho,hc⟩ isSubtype_stop ?_)
  exact wpAny_pure ⟨rfl,I.turnAll (ch:=[e,it]) (t':=s.toks) (λb u hb q=>he' b u (λz=>hb (by simp [z])) q) hf⟩
 self:=λ_ _ _ _ _ st h=>by
  obtain ⟨⟨old,q⟩,_⟩:=st
  exact wpAny_pyIter_enum q h
section
variable {X:Cx}
def Qse (K:PySem.W.Frag) (ta:TA):TI:=λσ H R=>ta σ H λvs H1=>∃a,vs=[.ref a]/\(∃xs,SqT K H1 a xs)/\R (Ite K a) H1
theorem Qmu {a:Expr} {ta:TA} {p pos:Pos} {es:List Expr} {kt:Nat} {pt:Pos} (hg:Gl X "enumerate") (hm:X.mg "enumerate" = none) (ha:PA X [a] ta) (hs:starEach [a] X.env=[(false,eval a X.env)]:=by rfl) :
  PI X (.Tuple es kt pt) (.Call (.Name "enumerate" p) [a] [] pos) (Qse X.K ta):=by
 intro pins s σ H R I h
 refine Call_ (Xr I hg hm boot_enumerate (PyProof.Rows.callWith_type1 (thn (ha pos pins s σ H _ I h) λus s1 ⟨vs,H1,I1,r1,q1⟩=>?_) hs rfl))
 obtain ⟨x,e,⟨xs,hq⟩,q⟩:=q1
 subst e
 obtain ⟨u,rfl,ru⟩:=Uy r1
 cases ru
 obtain ⟨its,rv,pl,hz⟩:=I1.tuple hq
 refine Qio (show s1.heap.IsTuple x its.toArray from pl) λh' he hit hz kp=>?_
 have I2:Inv X pins σ H1 { s1 with heap:=h' }:=I1.kept (t':=s1.toks) kp
 refine wpAny_pyIter_enum he ⟨s1.heap.objs.size+1,[s1.heap.objs.size+1,s1.heap.objs.size],_,_,H1,rfl,I2,Qgg x _ _ (Nat.ne_of_gt (Nat.lt_succ_self _)),⟨⟨_,he⟩,hit⟩,λb hb=>?_,q⟩
 have hb':s1.heap.objs.size<=b:=by
  rcases List.mem_cons.mp hb with z | z
  ·rw [z];exact Nat.le_succ _
  ·have z':b=s1.heap.objs.size:=by simpa using z
   rw [z'];exact Nat.le_refl _
 exact I1.fpOk hb' (I1.hok.fresh hb')
end
end L2
namespace L2
open PySem PySem.Spec PyProof.Rows
section
variable {X:Cx}
def Qrq:V->List V->Hp->VK->Prop:=λx vs H Q=>∃a kvs k v,x=.ref a/\vs=[kV k,v]/\H a=some (.dK kvs)/\kvs.length<sizeLine /\
 (∀y,valV kvs k=some y->Q y H)/\(valV kvs k=none->Q v (upd H a (.dK (putK kvs k v))))
theorem Qaa:MtM X "dict.setdefault" Qrq:=by
 intro pins s σ H x vs v us Q I rx rv h
 obtain ⟨a,kvs,k,y,rfl,rfl,hH,hz,q1,q2⟩:=h
 cases rx
 obtain ⟨ku,vu,rfl,rk,ry⟩:=rv.two
 obtain ⟨z,hd,xs,rel,dd⟩:=Qj5 I.hok hH
 have hl:xs.length<=sizeLine:=by rw [← rel.length];exact z
 refine call_meetsIn PySem.F.slot_dict_setdefault dd.typeIs PySem.F.entry_dict_setdefault (PySem.F.args_dict_setdefault_3 _ _ _) (kt_meets_setdefault (Qv X.prog X.w) a (Qcz rk) hd vu) ⟨xs,dd,hl,λw hw=>?_,λhn h' dd' hs=>?_⟩
 ·have ro:=rel.val k
  rw [hw] at ro
  cases e:valV kvs k with
  | none=>rw [e] at ro;exact ro.elim
  | some b=>rw [e] at ro;exact ⟨b,H,I.tok _,ro,q1 b e⟩
 ·have ro:=rel.val k
  rw [hn] at ro
  cases e:valV kvs k with
  | some b=>rw [e] at ro;exact ro.elim
  | none =>
   have hlp:(putK kvs k y).length<=sizeLine:=by have:=Y9 kvs k y;omega
   refine ⟨y,upd H a (.dK (putK kvs k y)),Qam (t':=s.toks+1) I (by rw [hH];trivial) hs ?_ (Qh7 hlp hd (rel.put k ry) dd'),ry,q2 e⟩
   obtain ⟨o,_,_,e',_⟩:=dd'
   exact ⟨o,e'⟩
end
theorem Qd5 {α β:Type} {F:α->β->Prop}:∀{l₁:List α} {l₂:List β} {i:Nat} {a:α} {b:β},Paired F l₁ l₂->l₁[i]? = some a->l₂[i]? = some b->F a b
 | _,_,_,_,_,.nil,e,_=>by simp at e
 | _,_,0,_,_,.cons r _,e,e'=>by simp at e e';subst e;subst e';exact r
 | _,_,i+1,_,_,.cons _ t,e,e'=>Qd5 (i:=i) t (by simpa using e) (by simpa using e')
theorem Qly {n:Nat} (h:n<=1000):n<=2 ^ 24:=Nat.le_trans h (by decide)
def Itv (d:Addr) (o:Obj) (kvs:List (Key × V)):It :=
 ⟨λi H=>H d=some (.frz o (.dK kvs))/\i<kvs.length,λi H x H'=>H'=H/\∃k,kvs[i]? = some (k,x),λi H=>H d=some (.frz o (.dK kvs))/\kvs.length<=i⟩
theorem Qge {P:Program} {w:World} {K:PySem.W.Frag} {tg:Expr} (d it:Addr) (o:Obj) (kvs:List (Key × V)) (vs:List (Key × Value)) (ep:Nat) (rel:KV kvs vs) (hdi:d≠it)
  (hd:∀h:Heap,h.get? d=some o->h.DictAt (Qv P w) d vs ep) :
  Turn P w K tg (Itv d o kvs) [it] it (λi h=>h.IsValIter it d i vs.length ep) where
 mem:=by simp
 obj:=λi h st b hb=>by
  have e:b=it:=by simpa using hb
  subst e
  obtain ⟨o,e,c,d⟩:=st
  exact ⟨o,e,λv z=>by rw [d] at z;cases z⟩
 keep:=λi h h' st k=>st.at λo e=>k it (by simp) o e
 item:=by
  intro X hP hw hK hc i pins s σ H E I hf st hg
  subst hP hw hK
  obtain ⟨hH,hlt⟩:=hg
  obtain ⟨e1,_⟩:=I.hok d _ hH
  obtain ⟨⟨k,y⟩,hx⟩:∃p,kvs[i]? = some p:=⟨kvs[i],by simp [hlt]⟩
  have hlen:kvs.length=vs.length:=Paired.length rel
  obtain ⟨⟨k',u⟩,hu⟩:∃p,vs[i]? = some p:=⟨vs[i]'(by omega),by simp [show i<vs.length by omega]⟩
  have ru:RelV y u:=(Qd5 rel hx hu).2
  obtain ⟨f0,f1,f2,f3,f4,f5⟩:=hf it (by simp)
  refine wpAny_pyNext_values_item st (hd _ e1) hu λh' st' sb=>?_
  have I1:Inv X pins σ H { s with heap:=h' }:=I.turned (t':=s.toks) (λb o hb e=>(sb.2 b hb).trans e) f0 f1 f3 f4 f5
  obtain ⟨oi,e,c,dd⟩:=id st'
  exact ⟨u,rfl,Qjv (s:={ s with heap:=h' }) e c dd (by decide) ⟨y,H,I1,ru,⟨rfl,k,hx⟩,st',λb hb=>(hf b hb).1⟩⟩
 done:=by
  intro X hP hw hK hc i pins s σ H E I hf st hg
  subst hP hw hK
  obtain ⟨hH,hge⟩:=hg
  obtain ⟨e1,_⟩:=I.hok d _ hH
  have hlen:kvs.length=vs.length:=Paired.length rel
  obtain ⟨f0,f1,f2,f3,f4,f5⟩:=hf it (by simp)
  exact wpAny_pyNext_values_end (I.ok.hd hc) st (hd _ e1) (List.getElem?_eq_none (by omega)) λh' eb=>⟨rfl,I.turned (t':=s.toks) (λb o hb e=>eb b o hb e) f0 f1 f3 f4 f5⟩
 self:=λ_ _ _ _ _ st h=>wpAny_pyIter_valiter st h
section
variable {X:Cx}
def Qsc (to:TE):TI:=λσ H R=>to σ H λx H1=>∃d kvs,x=.ref d/\H1 d=some (.dK kvs)/\∀o,R (Itv d o kvs) (upd H1 d (.frz o (.dK kvs)))
theorem Qmt {tg o:Expr} {to:TE} {apos cpos:Pos} (ho:PE X o to) (hbase:attributeBase o "values" X.env (eval o X.env)=eval o X.env:=by rfl) (hline:(apos.endLine == cpos.line)=true:=by rfl) :
  PI X tg (.Call (.Attribute o "values" apos) [] [] cpos) (Qsc to):=by
 intro pins s σ H R I h
 refine wpAny_Call_method0_late hbase hline (thn (ho pins s σ H _ I h) λv s1 ⟨x,H1,I1,r1,d,kvs,e,hd,q⟩=>?_)
 subst e
 cases r1
 obtain ⟨h1,h2⟩:=Qgd (T:="dict") I1 (show RelV (.ref d) (.ref d) from rfl) (.inr (.inr (.inl ⟨rfl,.inl ⟨kvs,hd⟩⟩)))
 refine ⟨"dict",_,PySem.F.plainAttrs_dict,PySem.F.slot_dict_values,PySem.F.type_dict_values,h1,h2,Calls.callWith_builtin rfl (PySem.evalArgs_none ?_)⟩
 obtain ⟨z,hs,vs,rel,dd⟩:=Qj5 I1.hok hd
 refine call_meetsIn PySem.F.slot_dict_values dd.typeIs PySem.F.entry_dict_values (PySem.F.args_dict_values_1 _) (meets_dict_values (Qv X.prog X.w) d hs) ⟨⟨vs,dd⟩,?_⟩
 have I2:Inv X pins σ H1 { s1 with heap:=s1.heap.push { cls:=.type "dict_values",data:=.fields #[.ref d] } }:=I1.kept (t':=s1.toks) λb u e=>Heap.get?_push_of_some _ e
 obtain ⟨ep,da⟩:=dd.dictAt
 obtain ⟨ob,es,hob,dr⟩:=id da
 have hob2:(s1.heap.push { cls:=.type "dict_values",data:=.fields #[.ref d] }).get? d=some ob:=Heap.get?_push_of_some _ hob
 refine wpAny_pyIter_values (knd:=Qv X.prog X.w) (d:=d) (kvs:=vs) (ep:=ep) ⟨_,Heap.get?_push_size _ rfl,rfl,rfl⟩ ⟨ob,es,hob2,dr⟩ ?_
 have I3:=I2.kept (h':=(s1.heap.push { cls:=.type "dict_values",data:=.fields #[.ref d] }).push { cls:=.type "dict_valueiterator",data:=.fields #[.ref d,.int 0 0,.int vs.length 0,.int ep 0] }) (t':=s1.toks) λb u e=>Heap.get?_push_of_some _ e
 have hob3:=Heap.get?_push_of_some (h:=s1.heap.push { cls:=.type "dict_values",data:=.fields #[.ref d] }) { cls:=.type "dict_valueiterator",data:=.fields #[.ref d,.int 0 0,.int vs.length 0,.int ep 0] } hob2
 have I4:=I3.write (x:=d) (e:=d) (o:=.frz ob (.dK kvs)) (t':=s1.toks) (by rw [hd];trivial) (.inl rfl) (λb u _ q=>q) ⟨_,hob3⟩
  (show Jo X.prog X.w _ _ d (.frz ob (.dK kvs)) from ⟨hob3,z,hs,vs,rel,ob,es,ep,hob3,dr⟩)
 have hlt:d<(s1.heap.push { cls:=.type "dict_values",data:=.fields #[.ref d] }).objs.size:=Heap.lt_size hob2
 refine ⟨(s1.heap.push { cls:=.type "dict_values",data:=.fields #[.ref d] }).objs.size,[(s1.heap.push { cls:=.type "dict_values",data:=.fields #[.ref d] }).objs.size],_,_,_,rfl,I4,
  Qge d _ ob kvs vs ep rel (Nat.ne_of_lt hlt) (λh e=>⟨ob,es,e,dr⟩),⟨_,Heap.get?_push_size _ rfl,rfl,rfl⟩,λb hb=>?_,q ob⟩
 have e:b=(s1.heap.push { cls:=.type "dict_values",data:=.fields #[.ref d] }).objs.size:=by simpa using hb
 subst e
 exact I2.fpOk (Nat.le_refl _) (by rw [Qk (Nat.ne_of_gt hlt)];exact I2.hok.fresh (Nat.le_refl _))
theorem Qg4 {a:Expr} {ta:TA} {p pos:Pos} (hg:Gl X "range") (hm:X.mg "range" = none) (ha:PA X [a] ta) (hs:starEach [a] X.env=[(false,eval a X.env)]:=by rfl) :
  PE X (.Call (.Name "range" p) [a] [] pos) (λσ H Q=>ta σ H λvs H1=>∃j:Int,vs=[.int j]/\∀r,H1 r=none->Q (.ref r) (upd H1 r (.rng 0 j))):=by
 intro pins s σ H Q I h
 refine Call_ (Xr I hg hm boot_range (PyProof.Rows.callWith_type1 (thn (ha pos pins s σ H _ I h) λus s1 ⟨vs,H1,I1,r1,q1⟩=>?_) hs rfl))
 obtain ⟨j,e,q⟩:=q1
 subst e
 obtain ⟨u,rfl,ru⟩:=Uy r1
 obtain ⟨t,rfl⟩:=ru
 refine call_range_1 ?_
 refine ⟨.ref s1.heap.objs.size,_,I1.laid (o:=.rng 0 j) (λb u e=>Heap.get?_push_of_some _ e) (Nat.le_refl _) ?_,rfl,q _ (I1.hok.fresh (Nat.le_refl _))⟩
 exact ⟨_,_,_,Heap.get?_push_size _ rfl⟩
theorem Qas (hc:X.calm=true):Zc X (.type "list") (λxs H Q=>∃r j,xs=[.ref r]/\H r=some (.rng 0 j)/\0<=j/\j<=1000/\∀l,H l=none->Q (.ref l) (upd H l (.lst ((List.range j.toNat).map λi=>.int (i:Nat))))):=by
 intro pins s σ H xs us Q I r h
 obtain ⟨a,j,rfl,ha,h0,h1,q⟩:=h
 obtain ⟨u,rfl,ru⟩:=Uy r
 cases ru
 obtain ⟨t,u,v,e⟩:=I.hok a _ ha
 refine call_list_range (n:=j.toNat) (I.ok.hd hc) (show IsRange s.heap a 0 j 1 t u v from e) (small_one (by omega) (by omega) (by omega) (by omega)) (by rw [rangeSize_one];split <;> omega) (Qly (by omega)) λh' tk acc c' kp hl hacc=>?_
 obtain ⟨hsz,hit⟩:=hacc
 have rv:Vals ((List.range j.toNat).map λi=>V.int (i:Nat)) acc.toList:=by
  have gen:∀(n:Nat) (l:List Value),l.length=n->(∀(j:Nat) v,l[j]? = some v->∃t,v=.int (0+(j:Int)*1) t)->Vals ((List.range n).map λi=>V.int (i:Nat)) l:=by
   intro n
   induction n with
   | zero=>intro l hl _;cases l with | nil=>exact .nil | cons=>simp at hl
   | succ n ih =>
    intro l hl hj
    have hne:l≠[]:=by intro z;rw [z] at hl;simp at hl
    have el:l=l.dropLast++[l.getLast hne]:=(List.dropLast_concat_getLast hne).symm
    rw [List.range_succ,List.map_append,el]
    refine Vals.append (ih _ (by rw [List.length_dropLast,hl];rfl) λj v e=>hj j v ?_) (.cons ?_ .nil)
    ·rw [List.getElem?_dropLast] at e
     split at e
     ·exact e
     ·cases e
    ·obtain ⟨t,e⟩:=hj n (l.getLast hne) (by rw [List.getLast_eq_getElem,List.getElem?_eq_getElem (by omega)];congr 1;simp [hl])
     exact ⟨t,by rw [e];congr 1;omega⟩
  refine gen _ _ (by rw [Array.length_toList];exact hsz) λj v e=>hit j v (by simpa using e)
 have hlen:((List.range j.toNat).map λi=>V.int (i:Nat)).length<=sizeLine:=by rw [List.length_map,List.length_range];have:=(by decide:1000<sizeLine);omega
 refine ⟨.ref s.heap.objs.size,_,I.laid (o:=.lst ((List.range j.toNat).map λi=>V.int (i:Nat))) (t':=tk) kp (Nat.le_refl _) ?_,rfl,q _ (I.hok.fresh (Nat.le_refl _))⟩
 exact ⟨hlen,acc.toList,c',rv,by rw [Array.toArray_toList];exact hl⟩
end
end L2
namespace L2
open PySem PySem.Spec PyProof.Rows
open PySem.W (Dat kqdP kqdPs kqdOk)
mutual
inductive DV (H:Hp):V->Dat->Prop
 | non:DV H .non .none
 | int (i:Int):DV H (.int i) (.int i)
 | str (x:Str):DV H (.str x) (.str x)
 | tup {a:Addr} {xs:List V} {ds:List Dat} (e:H a=some (.tup xs)) (r:DVs H xs ds):DV H (.ref a) (.tuple ds)
 | lst {a:Addr} {xs:List V} {ds:List Dat} (e:H a=some (.lst xs)) (r:DVs H xs ds):DV H (.ref a) (.list ds)
inductive DVs (H:Hp):List V->List Dat->Prop
 | nil:DVs H [] []
 | cons {x:V} {d:Dat} {xs:List V} {ds:List Dat} (h:DV H x d) (r:DVs H xs ds):DVs H (x::xs) (d::ds)
end
mutual
theorem DV.reads {P:Program} {w:World} {H:Hp} {h:Heap} (ok:HOk P w H h):∀{x:V} {d:Dat} {u:Value},DV H x d->RelV x u->∃as,Reads h u (kqdP d) as
 | _,_,_,.non,r=>by cases r;exact ⟨_,by rw [kqdP];exact Reads.none⟩
 | _,_,_,.int i,r=>by obtain ⟨t,rfl⟩:=r;exact ⟨_,by rw [kqdP];exact Reads.int i t⟩
 | _,_,_,.str x,r=>by obtain ⟨t,rfl⟩:=r;exact ⟨_,by rw [kqdP];exact Reads.str x t⟩
 | _,_,_,.tup (a:=a) e q,r=>by
  cases r
  obtain ⟨_,its,rv,o,h1,h2,n,h3⟩:=ok a _ e
  obtain ⟨as,z⟩:=DVs.reads ok q rv
  rw [kqdP]
  exact ⟨as,reads_tuple_at h1 h2 h3 (by simpa using z)⟩
 | _,_,_,.lst (a:=a) e q,r=>by
  cases r
  obtain ⟨_,its,n,rv,h1⟩:=ok a _ e
  obtain ⟨as,z⟩:=DVs.reads ok q rv
  rw [kqdP]
  exact ⟨_,reads_list_at h1 rfl rfl (by simpa using z)⟩
theorem DVs.reads {P:Program} {w:World} {H:Hp} {h:Heap} (ok:HOk P w H h):∀{xs:List V} {ds:List Dat} {us:List Value},DVs H xs ds->Vals xs us->∃as,ReadsAll h us (kqdPs ds) as
 | _,_,_,.nil,r=>by cases r;exact ⟨_,by rw [kqdPs];exact ReadsAll.nil⟩
 | _,_,_,.cons p q,r=>by
  cases r with
  | cons r1 r2 =>
   obtain ⟨as,z⟩:=DV.reads ok p r1
   obtain ⟨bs,y⟩:=DVs.reads ok q r2
   rw [kqdPs]
   exact ⟨_,ReadsAll.cons z y⟩
end
theorem Jl {n:Nat} {d:Dat} (h:kqdOk n d=true) (hn:n<=9):SeqAt.shaped (kqdP d)=true:=by
 have l:=PySem.W.kqd_lay n d h
 unfold SeqAt.shaped
 rw [l.1,Bool.true_and]
 exact decide_eq_true (Nat.le_trans l.2 (Nat.le_trans hn (by decide)))
open Classical in
theorem Qal {n k:Nat} {d e:Dat} (h:kqdOk n d=true) (h':kqdOk k e=true):PyData.eqv (kqdP d) (kqdP e)=decide (d=e):=by
 have q:=PySem.W.kqd_eqv n d e k h h'
 by_cases hq:d=e
 ·rw [decide_eq_true hq];exact q.mpr hq
 ·rw [decide_eq_false hq];exact Bool.eq_false_iff.mpr λx=>hq (q.mp x)
section
variable {X:Cx}
def rDat (neg:Bool):R2:=λx y H Q=>∃d e n,DV H x d/\DV H y e/\kqdOk n d=true/\kqdOk n e=true/\n<=9/\((d=e->Q (.bl (!neg)) H)/\(d≠e->Q (.bl neg) H))
theorem Qpj (hu:X.A.units+64<cLine):OpR X (compareOp .Eq) (rDat false):=by
 classical
 intro pins s σ H x y v u Q I rx ry h
 obtain ⟨d,e,n,dx,dy,hd,he,hn,q1,q2⟩:=h
 obtain ⟨as,ra⟩:=dx.reads I.hok rx
 obtain ⟨bs,rb⟩:=dy.reads I.hok ry
 refine eq_dataH ra rb (Jl hd hn) (Jl he hn) hu ?_
 rw [Qal hd he]
 by_cases hq:d=e
 ·rw [decide_eq_true hq];exact ⟨.bl true,H,I,rfl,q1 hq⟩
 ·rw [decide_eq_false hq];exact ⟨.bl false,H,I,rfl,q2 hq⟩
theorem Qpg (hu:X.A.units+64<cLine):OpR X (compareOp .NotEq) (rDat true):=by
 classical
 intro pins s σ H x y v u Q I rx ry h
 obtain ⟨d,e,n,dx,dy,hd,he,hn,q1,q2⟩:=h
 obtain ⟨as,ra⟩:=dx.reads I.hok rx
 obtain ⟨bs,rb⟩:=dy.reads I.hok ry
 refine ne_dataH ra rb (Jl hd hn) (Jl he hn) hu ?_
 rw [Qal hd he]
 by_cases hq:d=e
 ·rw [decide_eq_true hq];exact ⟨.bl false,H,I,rfl,q1 hq⟩
 ·rw [decide_eq_false hq];exact ⟨.bl true,H,I,rfl,q2 hq⟩
theorem Qdc:Zc X (.builtin "isinstance") (λxs H Q=>∃x T t b,xs=[x,.ty T]/\TyOf X.K H x (.type t)/\PySem.W.kitOne X.K (.type t) (.type T)=some b/\Q (.bl b) H):=by
 intro pins s σ H xs us Q I r h
 obtain ⟨x,T,t,b,rfl,ty,e,q⟩:=h
 obtain ⟨u,c,rfl,ru,rc⟩:=Qn8 r
 cases (show c=Value.type T from rc)
 exact Qhs I ru ty e λtk=>⟨.bl b,H,I.tok _,rfl,q⟩
end
end L2
namespace SortT
open PySem PySem.W PyProof.Rows
structure Ord (f:Nat->Nat->Bool):Prop where
 asym:∀i j,f i j=true->f j i=false
 tr:∀i j k,f j i=false->f k j=false->f k i=false
section
variable {f:Nat->Nat->Bool} (O:Ord f)
include O in
abbrev at_ (p:Array Nat) (i:Nat):Nat:=p.getD i 0
end
end SortT
namespace SortT
open PySem PySem.W PyProof.Rows
section
variable {N:Nat}
end
section
variable {prog:Program} {w:World} {A:Around} {E:Value->Shared->Prop} {s:Shared}
end
end SortT
namespace L2
open PySem PySem.Spec PyProof.Rows
section
variable {X:Cx}
end
end L2
namespace L2
open PySem PySem.Spec PyProof.Rows
end L2
namespace L2
open PySem PySem.Spec PyProof.Rows
theorem Qnk {P:Program} {w:World} {k:Key} {u:Value} (h:(Qv P w).is k u=true):RelV (kV k) u:=by
 rw [Qfg] at h
 rcases Q4 h with ⟨i,t,rfl,rfl⟩ | ⟨x,t,rfl,rfl⟩
 ·exact ⟨t,rfl⟩
 ·exact ⟨t,rfl⟩
section
variable {X:Cx}
end
end L2
namespace HT
open PySem PySem.Spec PyProof.Rows L2
section
variable {prog:Program} {w:World} {A:Around} {E:Value->Shared->Prop} {s:Shared}
end
end HT
namespace L2
open PySem PySem.Spec PyProof.Rows
section
variable {X:Cx}
theorem Qa5 {P:Program} {w:World}:∀{kvs:List (Key × V)} {vs:List (Key × Value)} {us:List Value},KV kvs vs->us.length=vs.length ->
  (∀(j:Nat) v,us[j]? = some v->∃k x,vs[j]? = some (k,x)/\(Qv P w).is k v=true)->Vals (kvs.map λkv=>kV kv.1) us
 | [],_,us,.nil,hl,_=>by
  cases us with
  | nil=>exact .nil
  | cons _ _=>simp at hl
 | p::r,q::t,us,.cons h rel,hl,hv=>by
  cases us with
  | nil=>simp at hl
  | cons u us =>
   obtain ⟨k,x,e,hk⟩:=hv 0 u rfl
   simp only [List.getElem?_cons_zero,Option.some.injEq] at e
   refine .cons ?_ (Qa5 (P:=P) (w:=w) rel (by simpa using hl) λj v e=>?_)
   ·show RelV (kV p.1) u
    rw [h.1,e];exact Qnk hk
   ·obtain ⟨k,x,e',hk⟩:=hv (j+1) v (by simpa using e)
    exact ⟨k,x,by simpa using e',hk⟩
end
end L2
namespace HT
open PySem PySem.Spec PyProof.Rows L2
section
variable {prog:Program} {w:World} {K:Type} [DecidableEq K] {knd:KeyKind prog w K} {A:Around} {E:Value->Shared->Prop} {s:Shared}
end
section
variable {prog:Program} {w:World} {A:Around} {E:Value->Shared->Prop} {s:Shared}
end
section
variable {prog:Program} {w:World} {K:Type} [DecidableEq K] {knd:KeyKind prog w K} {A:Around} {E:Value->Shared->Prop} {s:Shared}
end
end HT
namespace L2
open PySem PySem.Spec PyProof.Rows
section
variable {X:Cx}
end
end L2
namespace L2
open PySem PySem.Spec PyProof.Rows
section
variable {X:Cx}
theorem U6:∀{ns:List Int} {its:List Value},Vals (ns.map V.int) its->IntsAre its ns
 | [],_,r=>by rw [List.map_nil] at r;cases r;exact .nil
 | n::ns,_,r=>by
  rw [List.map_cons] at r
  cases r with
  | cons h t=>obtain ⟨tk,rfl⟩:=h;exact .cons n tk (U6 t)
theorem Gs:∀{ns:List Int} {its:List Value},IntsAre its ns->Vals (ns.map V.int) its
 | _,_,.nil=>.nil
 | _,_,.cons n t h=>.cons ⟨t,rfl⟩ (Gs h)
variable {o e:Expr} {es:List Expr} {to:TE} {t:TA} {name:Str} {apos cpos:Pos} {T id:String} {r:V->List V->Hp->VK->Prop}
def isN (n:Int):Value->Bool
 | .int m _=>m == n
 | _=>false
theorem Qc3 {its:List Value} {ns:List Int} (h:IntsAre its ns):∀v∈its,∃m t,v=Value.int m t:=by
 induction h with
 | nil=>intro v hv;cases hv
 | cons n t h ih =>
  intro v hv
  rcases List.mem_cons.mp hv with rfl | hv
  ·exact ⟨n,t,rfl⟩
  ·exact ih v hv
theorem Qb1 {P:Program} {w:World} {A:Around} {E:Value->Shared->Prop} {s:Shared} {T:String} {r d:Addr} {n:Nat} {Pv:Nat->Value->Prop} {OK:Heap->Prop} {Q:List Value->Shared->Prop} (K:PySem.W.KdlSrc P w T r d n Pv OK) (hh:A.handled=none) (hok:OK s.heap) (hn:n<=sizeLine)
  (h:∀h' tk (vs:List Value),(∀b o,s.heap.get? b=some o->h'.get? b=some o)->vs.length=n->(∀j v,vs[j]? = some v->Pv j v)->Q vs { s with heap:=h',toks:=tk }) :
  wpAny (model P w) A (collect (.ref r)) Q E s:=by
 unfold collect
 refine wpAny_bind (wpAny_runValue (codeAny_builtin entry_proto_collect' ?_))
 show wpAny _ _ (do again (.builtin "list.__iadd__" ⟨[← newList [],.ref r],[]⟩)) _ _ s
 refine wpAny_bind (wpAny_newList (wpAny_pure ⟨Code.quiet_builtin _ (by decide +kernel),codeAny_builtin entry_list_iadd' ?_⟩))
 show wpAny _ _ (Builtin.List.listExtendWith (.ref s.heap.objs.size) (.ref r) (.ref s.heap.objs.size)) _ _ { s with heap:=s.heap.push (seqObj "list" #[] 0) }
 have hlt:=K.there _ hok
 rw [Around.under_plainId (by decide +kernel) _]
 refine PySem.W.kdl_extend (R:=λr s'=>match r with
  | .ok (.ret v)=>wpAny (model P w) A (match v with
   | .ref a=>do
    let o ← load a
    match o.data with
    | .seq xs _=>pure xs.toList
    | _=>unsupported "internal:collect"
   | _=>unsupported "internal:collect") Q E s'
  | .ok _=>False
  | .error e=>E e s') (s:={ s with heap:=s.heap.push (seqObj "list" #[] 0) }) K hh (K.keep _ _ hok λb _ o e=>Heap.get?_push_of_some _ e) s.heap.objs.size (Nat.ne_of_gt hlt.1) (Nat.ne_of_gt hlt.2) (.ref s.heap.objs.size) 0 (Heap.get?_push_size _ rfl) (λh' tk acc' c' hk hS' hacc=>?_) hn
 show wpAny (model P w) A (do
   let o ← load s.heap.objs.size
   match o.data with
   | .seq xs _=>pure xs.toList
   | _=>unsupported "internal:collect") Q E { s with heap:=h',toks:=tk }
 refine wpAny_bind (wpAny_load hS' ?_)
 show wpAny _ _ (pure acc'.toList) Q E _
 exact wpAny_pure (h h' tk acc'.toList (λb o e=>hk b o (Nat.ne_of_lt (Heap.lt_size e)) (Heap.get?_push_of_some _ e)) (by rw [Array.length_toList];exact hacc.1) λj v e=>hacc.2 j v (by rw [← Array.getElem?_toList];exact e))
end
end L2
namespace L2
open PySem PySem.Spec PyProof.Rows
section
variable {prog:Program} {w:World} {A:Around} {R:Result->Shared->Prop} {s:Shared}
end
section
variable {X:Cx}
end
end L2
namespace HT
open PySem PySem.Spec PyProof.Rows L2
section
variable {prog:Program} {w:World} {A:Around} {E:Value->Shared->Prop} {s:Shared}
end
section
variable {prog:Program} {w:World} {A:Around} {E:Value->Shared->Prop} {s:Shared}
end
end HT
namespace L2
open PySem PySem.Spec PyProof.Rows
section
variable {X:Cx}
end
end L2
namespace L2
open PySem PySem.Spec PyProof.Rows
open Builtin.Str (glued partsBetween occurrences tooLong strSub)
section
variable {X:Cx}
def Qsm (x sep:Str):List Str:=partsBetween x (occurrences x sep 0 x.length (x.length+1)) sep.length
end
end L2
namespace L2
open PySem PySem.Spec PyProof.Rows
section
variable {X:Cx}
end
end L2
namespace HT
open PySem PySem.Spec PyProof.Rows L2
section
variable {prog:Program} {w:World} {A:Around} {E:Value->Shared->Prop} {s:Shared}
end
section
variable {prog:Program} {w:World} {A:Around} {E:Value->Shared->Prop} {s:Shared}
end
end HT
namespace L2
open PySem PySem.Spec PyProof.Rows
section
variable {X:Cx}
end
end L2
namespace L2
open PySem PySem.Spec PyProof.Rows
open Builtin.Str (occurrences strSub subAt)
section
variable {X:Cx} {e:Expr} {te:TE} {lo hi st:Option Expr} {tl th ts:TO} {p2 pos:Pos}
end
end L2
namespace Srt
open PySem PyProof.Rows
class KN where
 nk:Keyed->Int
 isN:Keyed->Prop
 kind:SortKind
open KN (nk isN kind)
class KL [KN] (prog:Program) (w:World) (A:Around) (E:Value->Shared->Prop) (s:Shared):Prop where
 lt:∀{st:SortSt} {x y:Keyed} {Q:Option Bool->SortSt->Prop},kindOf st=kind->isN x->isN y->Q (some (decide (nk x<nk y))) st->wpS (model prog w) A E s (lt' x y) Q st
variable [KN]
def K (xs:Array Keyed) (i:Nat):Int:=match xs[i]? with
 | some p=>nk p
 | none=>0
def Qax (xs:Array Keyed) (k:Nat):Prop:=∀i j,i<=j->j<k->K xs i<=K xs j
theorem Qis {xs ys:Array Keyed} {i j:Nat} (h:xs[i]? = ys[j]?):K xs i=K ys j:=by unfold K;rw [h]
theorem Qq3 {x:Array Keyed} {r d:Nat} (hr:r<x.size) (hd:d<=r) (n:Nat):K (bubble x r d) n=if n=r-d then K x r else if r-d<n/\n<=r then K x (n-1) else K x n:=by
 have q:=getElem?_bubble hr d hd n
 split
 ·rename_i z;rw [if_pos z] at q;exact Qis q
 ·rename_i z;rw [if_neg z] at q
  split
  ·rename_i y;rw [if_pos y] at q;exact Qis q
  ·rename_i y;rw [if_neg y] at q;exact Qis q
theorem Qq2 {x:Array Keyed} {a b:Nat} (hb:b<=x.size) (n:Nat):K (mirror x a b ((b-a) / 2)) n=if a<=n/\n<b then K x (a+b-1-n) else K x n:=by
 have q:=getElem?_mirror_all (i:=a) hb n
 split
 ·rename_i z;rw [if_pos z] at q;exact Qis q
 ·rename_i z;rw [if_neg z] at q;exact Qis q
theorem Qft {x:Array Keyed} {a b:Nat} (hb:b<=x.size) (h:∀n,a<=n->n<b->K x n=K x (b-1)) (n:Nat):K (mirror x a b ((b-a) / 2)) n=K x n:=by
 rw [Qq2 hb]
 split
 ·rw [h _ (by omega) (by omega),h n (by omega) (by omega)]
 ·rfl
section
variable {prog:Program} {w:World} {A:Around} {E:Value->Shared->Prop} {s:Shared} [KL prog w A E s]
theorem Ga {st:SortSt} {x y:Keyed} {Q:Option Bool->SortSt->Prop} (hk:kindOf st=kind) (hx:isN x) (hy:isN y) (h:Q (some (decide (nk x<nk y))) st):wpS (model prog w) A E s (lt' x y) Q st:=KL.lt hk hx hy h
theorem Qs {st:SortSt} {xs:Array Keyed} {i:Nat} {p:Keyed} {Q:Keyed->SortSt->Prop} (hi:xs[i]? = some p) (h:Q p st):wpS (model prog w) A E s (elem' xs i) Q st:=by
 rw [elem'_eq,hi]
 exact wpS_pure h
def leap:Bool->Keyed->Array Keyed->Nat->Nat->Nat->StateT SortSt Sem (Option Nat):=sortPriv% PySem.Builtin.gallop
def past (left:Bool) (key:Keyed) (xs:Array Keyed) (b i:Nat):StateT SortSt Sem (Option Bool):=do
 let p ← elem' xs (b+i)
 if left then lt' p key else return (← lt' key p).map (!·)
def pv (left:Bool) (key:Keyed) (xs:Array Keyed) (b i:Nat):Bool:=if left then decide (K xs (b+i)<nk key) else !decide (nk key<K xs (b+i))
theorem U3 {st:SortSt} {left:Bool} {key:Keyed} {xs:Array Keyed} {b i:Nat} {Q:Option Bool->SortSt->Prop} (hk:kindOf st=kind) (hx:∀p∈xs.toList,isN p) (hy:isN key) (hi:b+i<xs.size) (h:Q (some (pv left key xs b i)) st):wpS (model prog w) A E s (past left key xs b i) Q st:=by
 have e:xs[b+i]? = some (xs[b+i]'hi):=Array.getElem?_eq_getElem hi
 have hp:isN xs[b+i]:=hx _ (by simp)
 have ek:K xs (b+i)=nk xs[b+i]:=by unfold K;rw [e]
 unfold past
 refine wpS_bind (Qs e ?_)
 unfold pv at h
 rw [ek] at h
 cases left with
 | true =>
  simp only [if_true] at h ⊢
  exact Ga hk hp hy h
 | false =>
  simp only [Bool.false_eq_true,if_false] at h ⊢
  exact wpS_bind (Ga hk hy hp (wpS_pure h))
theorem Qnj (left:Bool) (key:Keyed) (xs:Array Keyed) (b n hint:Nat):leap left key xs b n hint=(do
 let mut la:=0
 let mut of:=1
 let mut l:=0
 let mut h:=0
 let some r ← past left key xs b hint | return none
 if r then
  let mx:=n-hint
  for _ in [0:n] do
   if of ≥ mx then break
   let some m ← past left key xs b (hint+of) | return none
   if !m then break
   la:=of
   of:=2*of+1
  l:=hint+la+1
  h:=hint+min of mx
 else
  let mx:=hint+1
  for _ in [0:n] do
   if of ≥ mx then break
   let some m ← past left key xs b (hint-of) | return none
   if m then break
   la:=of
   of:=2*of+1
  l:=hint+1-min of mx
  h:=hint-la
 for _ in [0:n] do
  if l ≥ h then break
  let mid:=l+(h-l) / 2
  let some m ← past left key xs b mid | return none
  if m then l:=mid+1 else h:=mid
 return some h):=rfl
def half (left:Bool) (key:Keyed) (xs:Array Keyed) (b n l0 h0:Nat):StateT SortSt Sem (Option Nat):=do
 let mut l:=l0
 let mut h:=h0
 for _ in [0:n] do
  if l ≥ h then break
  let mid:=l+(h-l) / 2
  let some m ← past left key xs b mid | return none
  if m then l:=mid+1 else h:=mid
 return some h
structure Ask (st:SortSt) (key:Keyed) (xs:Array Keyed) (b n:Nat):Prop where
 k:kindOf st=kind
 x:∀p∈xs.toList,isN p
 y:isN key
 s:∀i j,i<=j->j<n->K xs (b+i)<=K xs (b+j)
 z:b+n<=xs.size
variable {st:SortSt} {left:Bool} {key:Keyed} {xs:Array Keyed} {b n hint:Nat}
theorem Ask.down (h:Ask st key xs b n) {i j:Nat} (hij:i<=j) (hj:j<n) (hp:pv left key xs b j=true):pv left key xs b i=true:=by
 have:=h.s i j hij hj
 unfold pv at hp ⊢
 cases left with
 | true=>simp only [if_true,decide_eq_true_eq] at hp ⊢;omega
 | false=>simp only [Bool.false_eq_true,if_false,Bool.not_eq_true',decide_eq_false_iff_not] at hp ⊢;omega
theorem Ask.up (h:Ask st key xs b n) {i j:Nat} (hij:i<=j) (hj:j<n) (hp:pv left key xs b i=false):pv left key xs b j=false:=by
 cases hq:pv left key xs b j with
 | false=>rfl
 | true=>rw [h.down hij hj hq] at hp;cases hp
def Cut (left:Bool) (key:Keyed) (xs:Array Keyed) (b n k:Nat):Prop:=k<=n/\(∀i,i<k->pv left key xs b i=true)/\∀i,k<=i->i<n->pv left key xs b i=false
theorem Qdj {l h:Nat} {Q:Option Nat->SortSt->Prop} (a:Ask st key xs b n) (h1:l<=h) (h2:h<=n) (h3:∀i,i<l->pv left key xs b i=true) (h4:∀i,h<=i->i<n->pv left key xs b i=false)
  (hQ:∀k,Cut left key xs b n k->Q (some k) st):wpS (model prog w) A E s (half left key xs b n l h) Q st:=by
 unfold half
 refine wpS_bind (wpS_mono (wpS_forRange (I:=λx c st'=>st'=st/\∃l h,c=(none,l,h)/\l<=h/\h<=n/\h-l<=n-x/\(∀i,i<l->pv left key xs b i=true)/\∀i,h<=i->i<n->pv left key xs b i=false)
  (Q:=λc st'=>st'=st/\∃k,c=(none,k,k)/\Cut left key xs b n k) ?step ?fin ⟨rfl,l,h,rfl,h1,h2,by omega,h3,h4⟩) ?post)
 case fin =>
  rintro c st' ⟨rfl,l,h,rfl,a1,a2,a3,a4,a5⟩
  have:l=h:=by omega
  subst this
  exact ⟨rfl,l,rfl,a2,a4,a5⟩
 case step =>
  rintro x c st' _ hx ⟨rfl,l,h,rfl,a1,a2,a3,a4,a5⟩
  dsimp only
  by_cases hge:l ≥ h
  ·rw [if_pos hge]
   have:l=h:=by omega
   subst this
   exact wpS_pure ⟨rfl,l,rfl,a2,a4,a5⟩
  ·rw [if_neg hge]
   refine wpS_bind (U3 a.k a.x a.y (by have:=a.z;omega) ?_)
   dsimp only
   cases hp:pv left key xs b (l+(h-l) / 2) with
   | true =>
    simp only [if_true]
    exact wpS_pure ⟨rfl,_,_,rfl,by omega,by omega,by omega,λi hi=>a.down (by omega) (by omega) hp,a5⟩
   | false =>
    simp only [Bool.false_eq_true,if_false]
    exact wpS_pure ⟨rfl,_,_,rfl,by omega,by omega,by omega,a4,λi hi hn=>a.up hi hn hp⟩
 case post =>
  rintro c st' ⟨rfl,k,rfl,hc⟩
  exact wpS_pure (hQ k hc)
theorem Zp {Q:Option Nat->SortSt->Prop} (a:Ask st key xs b n) (hh:hint<n) (hQ:∀k,Cut left key xs b n k->Q (some k) st):wpS (model prog w) A E s (leap left key xs b n hint) Q st:=by
 have hz:=a.z
 rw [Qnj]
 dsimp only
 refine wpS_bind (U3 a.k a.x a.y (by omega) ?_)
 dsimp only
 cases hr:pv left key xs b hint with
 | true =>
  simp only [if_true]
  refine wpS_bind (wpS_mono (wpS_forRange (I:=λx c st'=>st'=st/\∃la of,c=(none,la,of)/\la<of/\x+1<=of/\hint+la<n/\pv left key xs b (hint+la)=true)
   (Q:=λc st'=>st'=st/\∃la of,c=(none,la,of)/\la<of/\hint+la<n/\pv left key xs b (hint+la)=true/\(n-hint<=of\/pv left key xs b (hint+of)=false)) ?step ?fin ⟨rfl,0,1,rfl,by omega,by omega,by omega,hr⟩) ?post)
  case fin =>
   rintro c st' ⟨rfl,la,of,rfl,a1,a2,a3,a4⟩
   exact ⟨rfl,la,of,rfl,a1,a3,a4,.inl (by omega)⟩
  case step =>
   rintro x c st' _ hx ⟨rfl,la,of,rfl,a1,a2,a3,a4⟩
   dsimp only
   by_cases hge:of ≥ n-hint
   ·rw [if_pos hge]
    exact wpS_pure ⟨rfl,la,of,rfl,a1,a3,a4,.inl hge⟩
   ·rw [if_neg hge]
    refine wpS_bind (U3 a.k a.x a.y (by omega) ?_)
    dsimp only
    cases hp:pv left key xs b (hint+of) with
    | true =>
     simp only [Bool.not_true,Bool.false_eq_true,if_false]
     exact wpS_pure ⟨rfl,_,_,rfl,by omega,by omega,by omega,hp⟩
    | false =>
     simp only [Bool.not_false,if_true]
     exact wpS_pure ⟨rfl,la,of,rfl,a1,a3,a4,.inr hp⟩
  case post =>
   rintro c st' ⟨rfl,la,of,rfl,a1,a3,a4,a5⟩
   refine Qdj (h:=hint+min of (n-hint)) (l:=hint+la+1) a (by omega) (by omega) (λi hi=>a.down (by omega) a3 a4) (λi hi hn=>?_) hQ
   rcases a5 with q | q
   ·omega
   ·exact a.up (by omega) hn q
 | false =>
  simp only [Bool.false_eq_true,if_false]
  refine wpS_bind (wpS_mono (wpS_forRange (I:=λx c st'=>st'=st/\∃la of,c=(none,la,of)/\la<of/\x+1<=of/\la<=hint/\pv left key xs b (hint-la)=false)
   (Q:=λc st'=>st'=st/\∃la of,c=(none,la,of)/\la<of/\la<=hint/\pv left key xs b (hint-la)=false/\(hint+1<=of\/(of<=hint/\pv left key xs b (hint-of)=true))) ?step ?fin ⟨rfl,0,1,rfl,by omega,by omega,by omega,hr⟩) ?post)
  case fin =>
   rintro c st' ⟨rfl,la,of,rfl,a1,a2,a3,a4⟩
   exact ⟨rfl,la,of,rfl,a1,a3,a4,.inl (by omega)⟩
  case step =>
   rintro x c st' _ hx ⟨rfl,la,of,rfl,a1,a2,a3,a4⟩
   dsimp only
   by_cases hge:of ≥ hint+1
   ·rw [if_pos hge]
    exact wpS_pure ⟨rfl,la,of,rfl,a1,a3,a4,.inl hge⟩
   ·rw [if_neg hge]
    refine wpS_bind (U3 a.k a.x a.y (by omega) ?_)
    dsimp only
    cases hp:pv left key xs b (hint-of) with
    | true =>
     simp only [if_true]
     exact wpS_pure ⟨rfl,la,of,rfl,a1,a3,a4,.inr ⟨by omega,hp⟩⟩
    | false =>
     simp only [Bool.false_eq_true,if_false]
     exact wpS_pure ⟨rfl,_,_,rfl,by omega,by omega,by omega,hp⟩
  case post =>
   rintro c st' ⟨rfl,la,of,rfl,a1,a3,a4,a5⟩
   refine Qdj (h:=hint-la) (l:=hint+1-min of (hint+1)) a (by omega) (by omega) (λi hi=>?_) (λi hi hn=>a.up hi hn a4) hQ
   rcases a5 with q | ⟨q1,q2⟩
   ·omega
   ·exact a.down (by omega) (by omega) q2
end
end Srt
namespace Srt
open PySem PyProof.Rows
open KN (nk isN kind)
variable [KN]
def mLo:Array Keyed->Array Keyed->StateT SortSt Sem (Array Keyed):=sortPriv% PySem.Builtin.mergeLo
def setG:Nat->StateT SortSt Sem Unit:=sortPriv% PySem.Builtin.setMinGallop
theorem Ql0 (g:Nat):setG g=modify λs=>SortSt.mk' (kindOf s) (arrOf s) (pendingOf s) g (failedOf s):=rfl
theorem Qpz (x y:Array Keyed):∃u:StateT SortSt Sem (Array Keyed),mLo x y=(do
 rule "list.sort.merge-lo"
 let tot:=x.size+y.size
 let fin (o:Array Keyed) (i j:Nat):=o++x.extract i x.size++y.extract j y.size
 let las (o:Array Keyed) (i j:Nat):=o++y.extract j y.size++x.extract i x.size
 let mut o:Array Keyed:=#[← elem' y 0]
 let mut i:=0
 let mut j:=1
 if j == y.size then return fin o i j
 if i+1 == x.size then return las o i j
 let mut g:=gallopOf (← get)
 for _ in [0:tot] do
  let mut ca:=0
  let mut cb:=0
  for _ in [0:tot] do
   let some bw ← lt' (← elem' y j) (← elem' x i) | return fin o i j
   if bw then
    o:=o.push (← elem' y j);j:=j+1;cb:=cb+1;ca:=0
    if j == y.size then return fin o i j
    if cb ≥ g then break
   else
    o:=o.push (← elem' x i);i:=i+1;ca:=ca+1;cb:=0
    if i+1 == x.size then return las o i j
    if ca ≥ g then break
  rule "list.sort.gallop"
  g:=g+1
  for _ in [0:tot] do
   if g > 1 then g:=g-1
   setG g
   let some k ← leap false (← elem' y j) x i (x.size-i) 0 | return fin o i j
   ca:=k
   if k > 0 then
    o:=o++x.extract i (i+k);i:=i+k
    if i+1 == x.size then return las o i j
    if i == x.size then return fin o i j
   o:=o.push (← elem' y j);j:=j+1
   if j == y.size then return fin o i j
   let some k ← leap true (← elem' x i) y j (y.size-j) 0 | return fin o i j
   cb:=k
   if k > 0 then
    o:=o++y.extract j (j+k);j:=j+k
    if j == y.size then return fin o i j
   o:=o.push (← elem' x i);i:=i+1
   if i+1 == x.size then return las o i j
   if ca<7 && cb<7 then break
  g:=g+1
  setG g
 u):=⟨_,rfl⟩
def Inc (l:List Keyed):Prop:=l.Pairwise λp q=>nk p<=nk q
structure Mg (X Y:List Keyed) (i j:Nat) (O:List Keyed):Prop where
 perm:O.Perm (X.take i++Y.take j)
 inc:Inc O
 le:∀p∈O,∀q,(q∈X.drop i\/q∈Y.drop j)->nk p<=nk q
theorem Inc.drop {l:List Keyed} (h:Inc l) (k:Nat):Inc (l.drop k):=List.Pairwise.sublist (List.drop_sublist _ _) h
theorem Inc.take {l:List Keyed} (h:Inc l) (k:Nat):Inc (l.take k):=List.Pairwise.sublist (List.take_sublist _ _) h
theorem Inc.split {l:List Keyed} (h:Inc l) (k:Nat):∀p∈l.take k,∀q∈l.drop k,nk p<=nk q:=by
 have:Inc (l.take k++l.drop k):=by rw [List.take_append_drop];exact h
 exact (List.pairwise_append.mp this).2.2
theorem Qer {l:List Keyed} {i k:Nat} {q:Keyed} (h:q∈l.drop (i+k)):q∈l.drop i:=by
 rw [← List.drop_drop] at h
 exact List.mem_of_mem_drop h
theorem Mg.stepX {X Y O:List Keyed} {i j k:Nat} (h:Mg X Y i j O) (hX:Inc X) (hc:∀p∈(X.drop i).take k,∀q∈Y.drop j,nk p<=nk q):Mg X Y (i+k) j (O++(X.drop i).take k):=by
 refine ⟨?_,?_,λp hp q hq=>?_⟩
 ·rw [List.take_add]
  refine (h.perm.append_right _).trans ?_
  rw [List.append_assoc,List.append_assoc]
  exact List.Perm.append_left _ List.perm_append_comm
 ·refine List.pairwise_append.mpr ⟨h.inc,(hX.drop i).take k,λp hp q hq=>h.le p hp q (.inl (List.mem_of_mem_take hq))⟩
 ·rcases List.mem_append.mp hp with hp | hp
  ·rcases hq with hq | hq
   ·exact h.le p hp q (.inl (Qer hq))
   ·exact h.le p hp q (.inr hq)
  ·rcases hq with hq | hq
   ·rw [← List.drop_drop] at hq
    exact (hX.drop i).split k p hp q hq
   ·exact hc p hp q hq
theorem Mg.stepY {X Y O:List Keyed} {i j k:Nat} (h:Mg X Y i j O) (hY:Inc Y) (hc:∀p∈(Y.drop j).take k,∀q∈X.drop i,nk p<=nk q):Mg X Y i (j+k) (O++(Y.drop j).take k):=by
 refine ⟨?_,?_,λp hp q hq=>?_⟩
 ·rw [List.take_add,← List.append_assoc]
  exact h.perm.append_right _
 ·refine List.pairwise_append.mpr ⟨h.inc,(hY.drop j).take k,λp hp q hq=>h.le p hp q (.inr (List.mem_of_mem_take hq))⟩
 ·rcases List.mem_append.mp hp with hp | hp
  ·rcases hq with hq | hq
   ·exact h.le p hp q (.inl hq)
   ·exact h.le p hp q (.inr (Qer hq))
  ·rcases hq with hq | hq
   ·exact hc p hp q hq
   ·rw [← List.drop_drop] at hq
    exact (hY.drop j).split k p hp q hq
def Out (X Y O:List Keyed):Prop:=O.Perm (X++Y)/\Inc O
theorem Mg.endX {X Y O:List Keyed} {i j:Nat} (h:Mg X Y i j O) (hX:Inc X) (hj:Y.length<=j):Out X Y (O++X.drop i):=by
 have ht:Y.take j=Y:=List.take_of_length_le hj
 refine ⟨?_,List.pairwise_append.mpr ⟨h.inc,hX.drop i,λp hp q hq=>h.le p hp q (.inl hq)⟩⟩
 have:=h.perm
 rw [ht] at this
 refine (this.append_right _).trans ?_
 have e:X++Y=X.take i++(X.drop i++Y):=by rw [← List.append_assoc,List.take_append_drop]
 rw [List.append_assoc,e]
 exact List.Perm.append_left _ List.perm_append_comm
theorem Mg.endY {X Y O:List Keyed} {i j:Nat} (h:Mg X Y i j O) (hY:Inc Y) (hi:X.length<=i):Out X Y (O++Y.drop j):=by
 have ht:X.take i=X:=List.take_of_length_le hi
 refine ⟨?_,List.pairwise_append.mpr ⟨h.inc,hY.drop j,λp hp q hq=>h.le p hp q (.inr hq)⟩⟩
 have:=h.perm
 rw [ht] at this
 refine (this.append_right _).trans ?_
 rw [List.append_assoc,List.take_append_drop]
theorem Mg.endL {X Y O:List Keyed} {i j:Nat} (h:Mg X Y i j O) (hX:Inc X) (hY:Inc Y) (hi:i+1=X.length) (hl:∀p∈X.drop i,∀q∈Y,nk q<=nk p):Out X Y (O++Y.drop j++X.drop i):=by
 refine ⟨?_,?_⟩
 ·refine ((h.perm.append_right _).append_right _).trans ?_
  rw [List.append_assoc (X.take i),List.take_append_drop]
  have e:X++Y=X.take i++(X.drop i++Y):=by rw [← List.append_assoc,List.take_append_drop]
  rw [List.append_assoc,e]
  exact List.Perm.append_left _ List.perm_append_comm
 ·refine List.pairwise_append.mpr ⟨List.pairwise_append.mpr ⟨h.inc,hY.drop j,λp hp q hq=>h.le p hp q (.inr hq)⟩,hX.drop i,λp hp q hq=>?_⟩
  rcases List.mem_append.mp hp with hp | hp
  ·exact h.le p hp q (.inl hq)
  ·exact hl q hq p (List.mem_of_mem_drop hp)
theorem Mg.start {X Y:List Keyed}:Mg X Y 0 0 []:=⟨by simp,List.Pairwise.nil,λp hp=>nomatch hp⟩
theorem J3 {x:Array Keyed} {i:Nat} (h:i<x.size):(x.toList.drop i).take 1=[x[i]]:=by
 have h':i<x.toList.length:=by simpa using h
 rw [List.drop_eq_getElem_cons h'];simp
theorem Qel (x:Array Keyed) (i k:Nat):(x.extract i (i+k)).toList=(x.toList.drop i).take k:=by
 simp
theorem Uh (x:Array Keyed) (i:Nat):(x.extract i x.size).toList=x.toList.drop i:=by
 rw [Array.toList_extract,List.extract_eq_take_drop,List.take_of_length_le]
 simp
theorem K_nk {x:Array Keyed} {i:Nat} (h:i<x.size):K x i=nk x[i]:=by
 unfold K
 rw [Array.getElem?_eq_getElem h]
theorem Xa {x:Array Keyed} (h:Inc x.toList) {i j:Nat} (hij:i<=j) (hj:j<x.size):K x i<=K x j:=by
 rw [K_nk (by omega),K_nk hj]
 by_cases e:i=j
 ·subst e;exact Int.le_refl _
 ·have:=List.pairwise_iff_getElem.mp h i j (by simp;omega) (by simpa using hj) (by omega)
  simpa using this
structure Keep (st st':SortSt):Prop where
 k:kindOf st'=kindOf st
 a:arrOf st'=arrOf st
 p:pendingOf st'=pendingOf st
 f:failedOf st'=failedOf st
theorem Keep.refl (st:SortSt):Keep st st:=⟨rfl,rfl,rfl,rfl⟩
structure Mr (x y:Array Keyed):Prop where
 nx:∀p∈x.toList,isN p
 ny:∀p∈y.toList,isN p
 ix:Inc x.toList
 iy:Inc y.toList
 x0:0<x.size
 y0:0<y.size
 fst:∀p∈y.toList.take 1,∀q∈x.toList,nk p<=nk q
 lst:∀p∈x.toList.drop (x.size-1),∀q∈y.toList,nk q<=nk p
section
variable {prog:Program} {w:World} {A:Around} {E:Value->Shared->Prop} {s:Shared} [KL prog w A E s] {st:SortSt} {x y:Array Keyed}
theorem Mr.askX (h:Mr x y) (hk:kindOf st=kind) {key:Keyed} (hy:isN key) {i:Nat} (hi:i<=x.size):Ask st key x i (x.size-i) :=
 ⟨hk,h.nx,hy,λa b hab hb=>Xa h.ix (by omega) (by omega),by omega⟩
theorem Mr.askY (h:Mr x y) (hk:kindOf st=kind) {key:Keyed} (hy:isN key) {i:Nat} (hi:i<=y.size):Ask st key y i (y.size-i) :=
 ⟨hk,h.ny,hy,λa b hab hb=>Xa h.iy (by omega) (by omega),by omega⟩
theorem Zo {g:Nat} {Q:Unit->SortSt->Prop} (h:∀st',Keep st st'->Q () st'):wpS (model prog w) A E s (setG g) Q st:=by
 rw [Ql0]
 exact wpS_modify (h _ ⟨rfl,rfl,rfl,rfl⟩)
theorem Keep.trans {a b c:SortSt} (h:Keep a b) (k:Keep b c):Keep a c:=⟨k.k.trans h.k,k.a.trans h.a,k.p.trans h.p,k.f.trans h.f⟩
theorem Zt {x:Array Keyed} {i:Nat} {q:Keyed} (h:q∈x.toList.drop i):∃t,∃(h:i+t<x.size),q=x[i+t]:=by
 obtain ⟨t,ht,e⟩:=List.getElem_of_mem h
 rw [List.length_drop,Array.length_toList] at ht
 exact ⟨t,by omega,by rw [← e,List.getElem_drop];simp⟩
theorem Qea {x:Array Keyed} {i k:Nat} {q:Keyed} (h:q∈(x.toList.drop i).take k):∃t,t<k/\∃(h:i+t<x.size),q=x[i+t]:=by
 obtain ⟨t,ht,e⟩:=List.getElem_of_mem h
 rw [List.length_take,List.length_drop,Array.length_toList] at ht
 exact ⟨t,by omega,by omega,by rw [← e,List.getElem_take,List.getElem_drop];simp⟩
abbrev R1:=Option (Array Keyed) × Array Keyed × Nat × Nat × Nat × Nat
abbrev LoS:=ForInStep (Option (Array Keyed) × Array Keyed × Nat × Nat × Nat × Nat × Nat)
abbrev LoS1:=ForInStep (Option (Array Keyed) × Array Keyed × Nat × Nat × Nat × Nat)
abbrev LoS2:=ForInStep (Option (Array Keyed) × Array Keyed × Nat × Nat × Nat)
def loC (x y o:Array Keyed) (i j g ca cb:Nat):StateT SortSt Sem LoS:=do
 let a ← elem' x i
 if i+1+1 == x.size then pure (.done (some (o.push a++y.extract j y.size++x.extract (i+1) x.size),o.push a,i+1,j,g,ca,cb))
 else if ca<7 && cb<7 then pure (.done (none,o.push a,i+1,j,g,ca,cb))
 else pure (.yield (none,o.push a,i+1,j,g,ca,cb))
def loB (x y o:Array Keyed) (i j g ca cb:Nat):StateT SortSt Sem LoS:=do
 let a ← elem' y j
 if j+1 == y.size then pure (.done (some (o.push a++x.extract i x.size++y.extract (j+1) y.size),o.push a,i,j+1,g,ca,cb))
 else do
  let b ← elem' x i
  let z ← leap true b y (j+1) (y.size-(j+1)) 0
  match z with
  | some k =>
   if k > 0 then
    if j+1+k == y.size then pure (.done (some (o.push a++y.extract (j+1) (j+1+k)++x.extract i x.size++y.extract (j+1+k) y.size),o.push a++y.extract (j+1) (j+1+k),i,j+1+k,g,ca,k))
    else loC x y (o.push a++y.extract (j+1) (j+1+k)) i (j+1+k) g ca k
   else loC x y (o.push a) i (j+1) g ca k
  | _=>pure (.done (some (o.push a++x.extract i x.size++y.extract (j+1) y.size),o.push a,i,j+1,g,ca,cb))
def loA (x y o:Array Keyed) (i j g ca cb:Nat):StateT SortSt Sem LoS:=do
 let a ← elem' y j
 let z ← leap false a x i (x.size-i) 0
 match z with
 | some k =>
  if k > 0 then
   if i+k+1 == x.size then pure (.done (some (o++x.extract i (i+k)++y.extract j y.size++x.extract (i+k) x.size),o++x.extract i (i+k),i+k,j,g,k,cb))
   else if i+k == x.size then pure (.done (some (o++x.extract i (i+k)++x.extract (i+k) x.size++y.extract j y.size),o++x.extract i (i+k),i+k,j,g,k,cb))
   else loB x y (o++x.extract i (i+k)) (i+k) j g k cb
  else loB x y o i j g k cb
 | _=>pure (.done (some (o++x.extract i x.size++y.extract j y.size),o,i,j,g,ca,cb))
def lo1 (x y:Array Keyed) (g:Nat) (o:Array Keyed) (i j ca cb:Nat):StateT SortSt Sem LoS1:=do
 let a ← elem' y j
 let b ← elem' x i
 let z ← lt' a b
 match z with
 | some bw =>
  if bw then do
   let c ← elem' y j
   if j+1 == y.size then pure (.done (some (o.push c++x.extract i x.size++y.extract (j+1) y.size),o.push c,i,j+1,0,cb+1))
   else if cb+1 ≥ g then pure (.done (none,o.push c,i,j+1,0,cb+1))
   else pure (.yield (none,o.push c,i,j+1,0,cb+1))
  else do
   let c ← elem' x i
   if i+1+1 == x.size then pure (.done (some (o.push c++y.extract j y.size++x.extract (i+1) x.size),o.push c,i+1,j,ca+1,0))
   else if ca+1 ≥ g then pure (.done (none,o.push c,i+1,j,ca+1,0))
   else pure (.yield (none,o.push c,i+1,j,ca+1,0))
 | _=>pure (.done (some (o++x.extract i x.size++y.extract j y.size),o,i,j,ca,cb))
def lo3 (x y o:Array Keyed) (i j g ca cb:Nat):StateT SortSt Sem LoS :=
 if g > 1 then (do setG (g-1);loA x y o i j (g-1) ca cb) else (do setG g;loA x y o i j g ca cb)
def lo2b (x y:Array Keyed) (tot:Nat) (o:Array Keyed) (i j g ca cb:Nat):StateT SortSt Sem LoS2:=do
 rule "list.sort.gallop"
 let c ← forIn [:tot] ((none,o,i,j,g+1,ca,cb):Option (Array Keyed) × Array Keyed × Nat × Nat × Nat × Nat × Nat) λ_ c=>lo3 x y c.2.1 c.2.2.1 c.2.2.2.1 c.2.2.2.2.1 c.2.2.2.2.2.1 c.2.2.2.2.2.2
 match c.1 with
 | some r=>pure (.done (some r,c.2.1,c.2.2.1,c.2.2.2.1,c.2.2.2.2.1))
 | none=>do
  setG (c.2.2.2.2.1+1)
  pure (.yield (none,c.2.1,c.2.2.1,c.2.2.2.1,c.2.2.2.2.1+1))
def lo2 (x y:Array Keyed) (tot:Nat) (o:Array Keyed) (i j g:Nat):StateT SortSt Sem LoS2:=do
 let c ← forIn [:tot] ((none,o,i,j,0,0):Option (Array Keyed) × Array Keyed × Nat × Nat × Nat × Nat) λ_ c=>lo1 x y g c.2.1 c.2.2.1 c.2.2.2.1 c.2.2.2.2.1 c.2.2.2.2.2
 match c.1 with
 | some r=>pure (.done (some r,c.2.1,c.2.2.1,c.2.2.2.1,g))
 | none=>lo2b x y tot c.2.1 c.2.2.1 c.2.2.2.1 g c.2.2.2.2.1 c.2.2.2.2.2
theorem Qpy (x y:Array Keyed):∃u:StateT SortSt Sem (Array Keyed),mLo x y=(do
 rule "list.sort.merge-lo"
 let a ← elem' y 0
 if 1 == y.size then pure ((#[a]:Array Keyed)++x.extract 0 x.size++y.extract 1 y.size)
 else if 0+1 == x.size then pure ((#[a]:Array Keyed)++y.extract 1 y.size++x.extract 0 x.size)
 else do
  let st ← get
  let c ← forIn [:x.size+y.size] ((none,#[a],0,1,gallopOf st):Option (Array Keyed) × Array Keyed × Nat × Nat × Nat) λ_ c=>lo2 x y (x.size+y.size) c.2.1 c.2.2.1 c.2.2.2.1 c.2.2.2.2
  match c.1 with
  | some r=>pure r
  | none=>u):=by
 obtain ⟨u,e⟩:=Qpz x y
 refine ⟨u,e.trans ?_⟩
 clear e
 dsimp only [lo2,lo2b,lo3,loA,loB,loC,lo1]
 refine congrArg (bind _) (funext λ_=>?_)
 refine congrArg (bind _) (funext λa=>?_)
 refine congrArg (ite _ _) (congrArg (ite _ _) ?_)
 refine congrArg (bind _) (funext λb=>?_)
 refine congr (congrArg _ ?_) (funext λz=>?_)
 ·refine congrArg _ (funext λ_=>funext λc=>?_)
  refine congr (congrArg _ ?_) (funext λd=>?_)
  ·rfl
  ·match d.1 with
   | some r=>rfl
   | none =>
    refine congrArg (bind _) (funext λ_=>?_)
    refine congr (congrArg _ ?_) (funext λz=>?_)
    ·refine congrArg _ (funext λ_=>funext λc=>?_)
     rfl
    ·match z.1 with
     | some r=>rfl
     | none=>rfl
 ·match z.1 with
  | some r=>rfl
  | none=>rfl
structure LoQ (x y:Array Keyed) (n:Nat) (Q:LoS->Prop):Prop where
 out:∀r c,Out x.toList y.toList r.toList->Q (.done (some r,c))
 brk:∀o i j g ca cb,Mg x.toList y.toList i j o.toList->i+1<x.size->j<y.size->n<=i+j->Q (.done (none,o,i,j,g,ca,cb))
 go:∀o i j g ca cb,Mg x.toList y.toList i j o.toList->i+1<x.size->j<y.size->n<=i+j->Q (.yield (none,o,i,j,g,ca,cb))
theorem Mr.eX (h:Mr x y) {o:Array Keyed} {i j:Nat} (m:Mg x.toList y.toList i j o.toList) (hj:j=y.size):Out x.toList y.toList (o++x.extract i x.size++y.extract j y.size).toList:=by
 have:=m.endX h.ix (by simp;omega)
 rw [Array.toList_append,Array.toList_append,Uh,Uh,hj,List.drop_of_length_le (l:=y.toList) (by simp),List.append_nil]
 exact this
theorem Mr.eY (h:Mr x y) {o:Array Keyed} {i j:Nat} (m:Mg x.toList y.toList i j o.toList) (hi:i=x.size):Out x.toList y.toList (o++x.extract i x.size++y.extract j y.size).toList:=by
 have:=m.endY h.iy (by simp;omega)
 rw [Array.toList_append,Array.toList_append,Uh,Uh,hi,List.drop_of_length_le (l:=x.toList) (by simp),List.append_nil]
 exact this
theorem Mr.eL (h:Mr x y) {o:Array Keyed} {i j:Nat} (m:Mg x.toList y.toList i j o.toList) (hi:i+1=x.size):Out x.toList y.toList (o++y.extract j y.size++x.extract i x.size).toList:=by
 have:=m.endL h.ix h.iy (by simpa using hi) (by rw [show i=x.size-1 by omega];exact h.lst)
 rw [Array.toList_append,Array.toList_append,Uh,Uh]
 exact this
theorem Qfv {Q:LoS->SortSt->Prop} {i j n g ca cb:Nat} {o:Array Keyed} (h:Mr x y) (q:LoQ x y n (Q · st)) (n2:i+1<x.size) (n4:j<y.size) (p4:n<=i+j) (m:Mg x.toList y.toList i j o.toList) (cx:∀p∈(x.toList.drop i).take 1,∀q∈y.toList.drop j,nk p<=nk q) :
  wpS (model prog w) A E s (loC x y o i j g ca cb) Q st:=by
 have hi2:i<x.size:=by omega
 refine wpS_bind (Qs (Array.getElem?_eq_getElem hi2) ?_)
 have m5:=m.stepX (k:=1) h.ix cx
 rw [J3 hi2,← Array.toList_push] at m5
 by_cases q5:i+1+1=x.size
 ·rw [if_pos (by simpa using q5)]
  exact wpS_pure (q.out _ _ (h.eL m5 q5))
 rw [if_neg (by simpa using q5)]
 split
 ·exact wpS_pure (q.brk _ _ _ _ _ _ m5 (by omega) n4 (by omega))
 ·exact wpS_pure (q.go _ _ _ _ _ _ m5 (by omega) n4 (by omega))
theorem Qfw {Q:LoS->SortSt->Prop} {i j n g ca cb:Nat} {o:Array Keyed} (hk:kindOf st=kind) (h:Mr x y) (q:LoQ x y n (Q · st)) (n2:i+1<x.size) (b2:j<y.size) (p2:n<=i+j) (mk:Mg x.toList y.toList i j o.toList) (cy:∀p∈(y.toList.drop j).take 1,∀q∈x.toList.drop i,nk p<=nk q) :
  wpS (model prog w) A E s (loB x y o i j g ca cb) Q st:=by
 refine wpS_bind (Qs (Array.getElem?_eq_getElem b2) ?_)
 have m3:=mk.stepY (k:=1) h.iy cy
 rw [J3 b2,← Array.toList_push] at m3
 by_cases q3:j+1=y.size
 ·rw [if_pos (by simpa using q3)]
  exact wpS_pure (q.out _ _ (h.eX m3 q3))
 rw [if_neg (by simpa using q3)]
 have hi2:i<x.size:=by omega
 refine wpS_bind (Qs (Array.getElem?_eq_getElem hi2) ?_)
 refine wpS_bind (Zp (h.askY hk (h.nx _ (by simp)) (by omega)) (by omega) λk2 hc2=>?_)
 dsimp only
 obtain ⟨d1,d2,d3⟩:=hc2
 have m4:Mg x.toList y.toList i (j+1+k2) (o.push y[j]++y.extract (j+1) (j+1+k2)).toList:=by
  have:=m3.stepY (k:=k2) h.iy (λp hp q hq=>by
   obtain ⟨t,ht,hts,rfl⟩:=Qea hp
   obtain ⟨v,hv,rfl⟩:=Zt hq
   have h1:=d2 t ht
   have h2:=Xa h.ix (show i<=i+v by omega) hv
   rw [K_nk hi2,K_nk hv] at h2
   unfold pv at h1
   simp only [if_true,decide_eq_true_eq] at h1
   rw [K_nk hts] at h1
   omega)
  rw [Array.toList_append,Qel];exact this
 have cx:∀p∈(x.toList.drop i).take 1,∀q∈y.toList.drop (j+1+k2),nk p<=nk q:=λp hp q hq=>by
  rw [J3 hi2] at hp
  rw [List.mem_singleton.mp hp]
  obtain ⟨v,hv,rfl⟩:=Zt hq
  have h1:=d3 (k2+v) (by omega) (by omega)
  unfold pv at h1
  simp only [if_true,decide_eq_false_iff_not] at h1
  rw [← Nat.add_assoc,K_nk hv] at h1
  omega
 by_cases k20:k2 > 0
 ·rw [if_pos k20]
  by_cases q4:j+1+k2=y.size
  ·rw [if_pos (by simpa using q4)]
   exact wpS_pure (q.out _ _ (h.eX m4 q4))
  rw [if_neg (by simpa using q4)]
  exact Qfv h q n2 (by omega) (by omega) m4 cx
 ·rw [if_neg k20]
  have k00:k2=0:=by omega
  subst k00
  rw [Nat.add_zero] at cx
  exact Qfv h q n2 (by omega) (by omega) m3 cx
theorem Qfx {Q:LoS->SortSt->Prop} {i j n g ca cb:Nat} {o:Array Keyed} (hk:kindOf st=kind) (h:Mr x y) (q:LoQ x y n (Q · st)) (b1:i+1<x.size) (b2:j<y.size) (b3:n<=i+j) (m:Mg x.toList y.toList i j o.toList) :
  wpS (model prog w) A E s (loA x y o i j g ca cb) Q st:=by
 refine wpS_bind (Qs (Array.getElem?_eq_getElem b2) ?_)
 refine wpS_bind (Zp (h.askX hk (h.ny _ (by simp)) (by omega)) (by omega) λk hc=>?_)
 dsimp only
 obtain ⟨c1,c2,c3⟩:=hc
 have mk:Mg x.toList y.toList (i+k) j (o++x.extract i (i+k)).toList:=by
  have:=m.stepX (k:=k) h.ix (λp hp q hq=>by
   obtain ⟨t,ht,hts,rfl⟩:=Qea hp
   obtain ⟨v,hv,rfl⟩:=Zt hq
   have h1:=c2 t ht
   have h2:=Xa h.iy (show j<=j+v by omega) hv
   rw [K_nk b2,K_nk hv] at h2
   unfold pv at h1
   simp only [Bool.false_eq_true,if_false,Bool.not_eq_true',decide_eq_false_iff_not] at h1
   rw [K_nk hts] at h1
   omega)
  rw [Array.toList_append,Qel];exact this
 have cy:∀p∈(y.toList.drop j).take 1,∀q∈x.toList.drop (i+k),nk p<=nk q:=λp hp q hq=>by
  rw [J3 b2] at hp
  rw [List.mem_singleton.mp hp]
  obtain ⟨v,hv,rfl⟩:=Zt hq
  have h1:=c3 (k+v) (by omega) (by omega)
  unfold pv at h1
  simp only [Bool.false_eq_true,if_false,Bool.not_eq_false',decide_eq_true_eq] at h1
  rw [← Nat.add_assoc,K_nk hv] at h1
  omega
 by_cases k0:k > 0
 ·rw [if_pos k0]
  by_cases q1:i+k+1=x.size
  ·rw [if_pos (by simpa using q1)]
   exact wpS_pure (q.out _ _ (h.eL mk q1))
  rw [if_neg (by simpa using q1)]
  by_cases q2:i+k=x.size
  ·rw [if_pos (by simpa using q2)]
   exact wpS_pure (q.out _ _ (h.eY mk q2))
  rw [if_neg (by simpa using q2)]
  exact Qfw hk h q (by omega) b2 (by omega) mk cy
 ·rw [if_neg k0]
  have k00:k=0:=by omega
  subst k00
  rw [Nat.add_zero] at cy
  exact Qfw hk h q b1 b2 b3 m cy
theorem Qll {Q:LoS1->SortSt->Prop} {i j g ca cb:Nat} {o:Array Keyed} (hk:kindOf st=kind) (h:Mr x y) (m:Mg x.toList y.toList i j o.toList) (b1:i+1<x.size) (b2:j<y.size) (qo:∀r c,Out x.toList y.toList r.toList->Q (.done (some r,c)) st)
  (qn:∀o' i' j' ca cb,Mg x.toList y.toList i' j' o'.toList->i'+1<x.size->j' < y.size->i+j+1<=i'+j'->Q (.done (none,o',i',j',ca,cb)) st/\Q (.yield (none,o',i',j',ca,cb)) st):wpS (model prog w) A E s (lo1 x y g o i j ca cb) Q st:=by
 have hi:i<x.size:=by omega
 refine wpS_bind (Qs (Array.getElem?_eq_getElem b2) (wpS_bind (Qs (Array.getElem?_eq_getElem hi) (wpS_bind (Ga hk (h.ny _ (by simp)) (h.nx _ (by simp)) ?_)))))
 dsimp only
 by_cases hw:nk y[j] < nk x[i]
 ·simp only [hw,decide_true,if_true]
  refine wpS_bind (Qs (Array.getElem?_eq_getElem b2) ?_)
  have m2:Mg x.toList y.toList i (j+1) (o.push y[j]).toList:=by
   have:=m.stepY (k:=1) h.iy (λp hp q hq=>by
    rw [J3 b2] at hp
    rw [List.mem_singleton.mp hp]
    obtain ⟨t,ht,rfl⟩:=Zt hq
    have:=Xa h.ix (show i<=i+t by omega) ht
    rw [K_nk (by omega),K_nk ht] at this
    omega)
   rw [J3 b2] at this
   rw [Array.toList_push];exact this
  by_cases q1:j+1=y.size
  ·rw [if_pos (by simpa using q1)]
   exact wpS_pure (qo _ _ (h.eX m2 q1))
  ·rw [if_neg (by simpa using q1)]
   have z:=λca cb=>qn _ _ _ ca cb m2 b1 (by omega) (by omega)
   split
   ·exact wpS_pure (z _ _).1
   ·exact wpS_pure (z _ _).2
 ·simp only [hw,decide_false,Bool.false_eq_true,if_false]
  refine wpS_bind (Qs (Array.getElem?_eq_getElem hi) ?_)
  have m2:Mg x.toList y.toList (i+1) j (o.push x[i]).toList:=by
   have:=m.stepX (k:=1) h.ix (λp hp q hq=>by
    rw [J3 hi] at hp
    rw [List.mem_singleton.mp hp]
    obtain ⟨t,ht,rfl⟩:=Zt hq
    have:=Xa h.iy (show j<=j+t by omega) ht
    rw [K_nk (by omega),K_nk ht] at this
    omega)
   rw [J3 hi] at this
   rw [Array.toList_push];exact this
  by_cases q1:i+1+1=x.size
  ·rw [if_pos (by simpa using q1)]
   exact wpS_pure (qo _ _ (h.eL m2 q1))
  ·rw [if_neg (by simpa using q1)]
   have z:=λca cb=>qn _ _ _ ca cb m2 (by omega) b2 (by omega)
   split
   ·exact wpS_pure (z _ _).1
   ·exact wpS_pure (z _ _).2
theorem Qit {Q:LoS2->SortSt->Prop} {tot i j g ca cb n:Nat} {o:Array Keyed} (hk:kindOf st=kind) (h:Mr x y) (m:Mg x.toList y.toList i j o.toList) (b1:i+1<x.size) (b2:j<y.size) (b3:n<=i+j) (qo:∀r c st',Keep st st'->Out x.toList y.toList r.toList->Q (.done (some r,c)) st')
  (qn:∀o' i' j' g' st',Keep st st'->Mg x.toList y.toList i' j' o'.toList->i'+1<x.size->j' < y.size->n<=i'+j'->Q (.yield (none,o',i',j',g')) st'):wpS (model prog w) A E s (lo2b x y tot o i j g ca cb) Q st:=by
 refine wpS_bind (wpS_lift (wpAny_rule ⟨rfl,?_⟩))
 refine wpS_bind (wpS_mono (wpS_forRange (I:=λt3 c st3=>Keep st st3/\∃o i' j' g ca cb,c=(none,o,i',j',g,ca,cb)/\Mg x.toList y.toList i' j' o.toList/\i'+1<x.size/\j' < y.size/\n<=i'+j')
  (Q:=λc st3=>Keep st st3/\((∃r c2,c=(some r,c2)/\Out x.toList y.toList r.toList)\/∃o i' j' g ca cb,c=(none,o,i',j',g,ca,cb)/\Mg x.toList y.toList i' j' o.toList/\i'+1<x.size/\j' < y.size/\n<=i'+j')) ?step2 ?fin2 ⟨Keep.refl st,_,_,_,_,_,_,rfl,m,b1,b2,b3⟩) ?post2)
 case fin2 =>
  rintro c st3 ⟨kp3,o,i',j',g,ca,cb,rfl,m,b⟩
  exact ⟨kp3,.inr ⟨o,i',j',g,ca,cb,rfl,m,b⟩⟩
 case post2 =>
  rintro c st3 ⟨kp3,⟨r,c2,rfl,ho⟩ | ⟨o,i',j',g,ca,cb,rfl,m,b1,b2,b3⟩⟩
  ·exact wpS_pure (qo _ _ _ kp3 ho)
  ·exact wpS_bind (Zo λst4 kp4=>wpS_pure (qn _ _ _ _ _ (kp3.trans kp4) m b1 b2 b3))
 case step2 =>
  rintro t3 c st3 _ ht3 ⟨kp3,o,i',j',g,ca,cb,rfl,m,b1,b2,b3⟩
  show wpS (model prog w) A E s (lo3 x y o i' j' g ca cb) _ st3
  unfold lo3
  by_cases hg:g > 1
  ·rw [if_pos hg]
   exact wpS_bind (Zo λst4 kp4=>Qfx (n:=n) ((kp3.trans kp4).k.trans hk) h ⟨λr c ho=>⟨kp3.trans kp4,.inl ⟨_,_,rfl,ho⟩⟩,λo i j g ca cb m h1 h2 h3=>⟨kp3.trans kp4,.inr ⟨_,_,_,_,_,_,rfl,m,h1,h2,h3⟩⟩,λo i j g ca cb m h1 h2 h3=>⟨kp3.trans kp4,_,_,_,_,_,_,rfl,m,h1,h2,h3⟩⟩ b1 b2 b3 m)
  ·rw [if_neg hg]
   exact wpS_bind (Zo λst4 kp4=>Qfx (n:=n) ((kp3.trans kp4).k.trans hk) h ⟨λr c ho=>⟨kp3.trans kp4,.inl ⟨_,_,rfl,ho⟩⟩,λo i j g ca cb m h1 h2 h3=>⟨kp3.trans kp4,.inr ⟨_,_,_,_,_,_,rfl,m,h1,h2,h3⟩⟩,λo i j g ca cb m h1 h2 h3=>⟨kp3.trans kp4,_,_,_,_,_,_,rfl,m,h1,h2,h3⟩⟩ b1 b2 b3 m)
theorem Qlk {Q:LoS2->SortSt->Prop} {tot i j g:Nat} {o:Array Keyed} (htot:1<=tot) (hk:kindOf st=kind) (h:Mr x y) (m:Mg x.toList y.toList i j o.toList) (a1:i+1<x.size) (a2:j<y.size) (qo:∀r c st',Keep st st'->Out x.toList y.toList r.toList->Q (.done (some r,c)) st')
  (qn:∀o' i' j' g' st',Keep st st'->Mg x.toList y.toList i' j' o'.toList->i'+1<x.size->j' < y.size->i+j+1<=i'+j'->Q (.yield (none,o',i',j',g')) st'):wpS (model prog w) A E s (lo2 x y tot o i j g) Q st:=by
 refine wpS_bind (wpS_mono (wpS_forRange (I:=λt2 c st2=>st2=st/\∃o i' j' ca cb,c=(none,o,i',j',ca,cb)/\Mg x.toList y.toList i' j' o.toList/\i'+1<x.size/\j' < y.size/\i+j+t2<=i'+j')
  (Q:=λc st2=>st2=st/\((∃r c2,c=(some r,c2)/\Out x.toList y.toList r.toList)\/∃o i' j' ca cb,c=(none,o,i',j',ca,cb)/\Mg x.toList y.toList i' j' o.toList/\i'+1<x.size/\j' < y.size/\i+j+1<=i'+j')) ?step1 ?fin1 ⟨rfl,_,_,_,_,_,rfl,m,a1,a2,by omega⟩) ?post1)
 case fin1 =>
  rintro c st2 ⟨rfl,o,i',j',ca,cb,rfl,m,b1,b2,b3⟩
  exact ⟨rfl,.inr ⟨o,i',j',ca,cb,rfl,m,b1,b2,by omega⟩⟩
 case step1 =>
  rintro t2 c st2 _ ht2 ⟨rfl,o,i',j',ca,cb,rfl,m,b1,b2,b3⟩
  show wpS (model prog w) A E s (lo1 x y g o i' j' ca cb) _ _
  refine Qll hk h m b1 b2 (λr c ho=>⟨rfl,.inl ⟨_,_,rfl,ho⟩⟩) λo2 i2 j2 ca cb m2 c1 c2 c3=>⟨⟨rfl,.inr ⟨_,_,_,_,_,rfl,m2,c1,c2,by omega⟩⟩,rfl,_,_,_,_,_,rfl,m2,c1,c2,by omega⟩
 case post1 =>
  rintro c st2 ⟨rfl,⟨r,c2,rfl,ho⟩ | ⟨o,i',j',ca,cb,rfl,m,b1,b2,b3⟩⟩
  ·exact wpS_pure (qo _ _ _ (Keep.refl _) ho)
  ·exact Qit hk h m b1 b2 b3 qo qn
theorem Qlh {Q:Array Keyed->SortSt->Prop} (hk:kindOf st=kind) (h:Mr x y) (hQ:∀o st',Keep st st'->Out x.toList y.toList o.toList->Q o st'):wpS (model prog w) A E s (mLo x y) Q st:=by
 obtain ⟨u,e⟩:=Qpy x y
 rw [e]
 refine wpS_bind (wpS_lift (wpAny_rule ⟨rfl,?_⟩))
 have hx0:=h.x0
 have hy0:=h.y0
 refine wpS_bind (Qs (Array.getElem?_eq_getElem hy0) ?_)
 have M1:Mg x.toList y.toList 0 1 [y[0]]:=by
  have:=Mg.start.stepY (X:=x.toList) (k:=1) h.iy (λp hp q hq=>h.fst p hp q hq)
  rw [J3 hy0] at this
  exact this
 by_cases h1:1=y.size
 ·rw [if_pos (by simpa using h1)]
  exact wpS_pure (hQ _ _ (Keep.refl st) (h.eX M1 h1))
 rw [if_neg (by simpa using h1)]
 by_cases h2:0+1=x.size
 ·rw [if_pos (by simpa using h2)]
  exact wpS_pure (hQ _ _ (Keep.refl st) (h.eL M1 h2))
 rw [if_neg (by simpa using h2)]
 refine wpS_bind (wpS_get ?_)
 refine wpS_bind (wpS_mono (wpS_forRange (I:=λt c st'=>Keep st st'/\∃o i j g,c=(none,o,i,j,g)/\Mg x.toList y.toList i j o.toList/\i+1<x.size/\j<y.size/\t+1<=i+j)
  (Q:=λc st'=>Keep st st'/\∃r,c.1=some r/\Out x.toList y.toList r.toList) ?step ?fin ⟨Keep.refl st,_,_,_,_,rfl,M1,by omega,by omega,by omega⟩) ?post)
 case fin =>
  rintro c st' ⟨_,o,i,j,g,rfl,_,a1,a2,a3⟩
  omega
 case post =>
  rintro ⟨c1,c2⟩ st' ⟨kp,r,e,ho⟩
  cases e
  exact wpS_pure (hQ r st' kp ho)
 case step =>
  rintro t c st' _ ht ⟨kp,o,i,j,g,rfl,m,a1,a2,a3⟩
  show wpS (model prog w) A E s (lo2 x y (x.size+y.size) o i j g) _ _
  exact Qlk (by omega) (kp.k.trans hk) h m a1 a2 (λr c st2 kp2 ho=>⟨kp.trans kp2,_,rfl,ho⟩) λo2 i2 j2 g2 st2 kp2 m2 c1 c2 c3=>⟨kp.trans kp2,_,_,_,_,rfl,m2,c1,c2,by omega⟩
end
end Srt
namespace Srt
open PySem PyProof.Rows
open KN (nk isN kind)
variable [KN]
def mHi:Array Keyed->Array Keyed->StateT SortSt Sem (Array Keyed):=sortPriv% PySem.Builtin.mergeHi
theorem Qp1 (x y:Array Keyed):∃u:StateT SortSt Sem (Array Keyed),mHi x y=(do
 rule "list.sort.merge-hi"
 let tot:=x.size+y.size
 let fin (o:Array Keyed) (i j:Nat):=x.extract 0 i++y.extract 0 j++o.reverse
 let frs (o:Array Keyed) (i j:Nat):=y.extract 0 j++x.extract 0 i++o.reverse
 let mut i:=x.size-1
 let mut j:=y.size
 let mut o:Array Keyed:=#[← elem' x i]
 if i == 0 then return fin o i j
 if j == 1 then return frs o i j
 let mut g:=gallopOf (← get)
 for _ in [0:tot] do
  let mut ca:=0
  let mut cb:=0
  for _ in [0:tot] do
   let some aw ← lt' (← elem' y (j-1)) (← elem' x (i-1)) | return fin o i j
   if aw then
    i:=i-1;o:=o.push (← elem' x i);ca:=ca+1;cb:=0
    if i == 0 then return fin o i j
    if ca ≥ g then break
   else
    j:=j-1;o:=o.push (← elem' y j);cb:=cb+1;ca:=0
    if j == 1 then return frs o i j
    if cb ≥ g then break
  rule "list.sort.gallop"
  g:=g+1
  for _ in [0:tot] do
   if g > 1 then g:=g-1
   setG g
   let some v ← leap false (← elem' y (j-1)) x 0 i (i-1) | return fin o i j
   let k:=i-v
   ca:=k
   if k > 0 then
    o:=o++(x.extract v i).reverse;i:=v
    if i == 0 then return fin o i j
   j:=j-1;o:=o.push (← elem' y j)
   if j == 1 then return frs o i j
   let some v ← leap true (← elem' x (i-1)) y 0 j (j-1) | return fin o i j
   let k:=j-v
   cb:=k
   if k > 0 then
    o:=o++(y.extract v j).reverse;j:=v
    if j == 1 then return frs o i j
    if j == 0 then return fin o i j
   i:=i-1;o:=o.push (← elem' x i)
   if i == 0 then return fin o i j
   if ca<7 && cb<7 then break
  g:=g+1
  setG g
 u):=⟨_,rfl⟩
structure Mh (X Y:List Keyed) (i j:Nat) (R:List Keyed):Prop where
 perm:R.Perm (X.drop i++Y.drop j)
 inc:Inc R
 le:∀p,(p∈X.take i\/p∈Y.take j)->∀q∈R,nk p<=nk q
theorem Qes {X:List Keyed} {i v:Nat} (h:v<=i):X.drop v=(X.take i).drop v++X.drop i:=by
 rw [List.drop_take]
 have:X.drop i=(X.drop v).drop (i-v):=by rw [List.drop_drop];congr 1;omega
 rw [this,List.take_append_drop]
theorem Qdr {X:List Keyed} {i v:Nat} (h:v<=i) {p:Keyed} (hp:p∈X.take v):p∈X.take i:=by
 have:X.take v=(X.take i).take v:=by rw [List.take_take];congr 1;omega
 rw [this] at hp
 exact List.mem_of_mem_take hp
theorem Qds {X:List Keyed} (hX:Inc X) {i v:Nat} (h:v<=i):∀p∈X.take v,∀q∈(X.take i).drop v,nk p<=nk q:=λp hp q hq=>by
 have e:X.take v=(X.take i).take v:=by rw [List.take_take];congr 1;omega
 rw [e] at hp
 exact (hX.take i).split v p hp q hq
theorem Mh.stepX {X Y R:List Keyed} {i j v:Nat} (h:Mh X Y i j R) (hX:Inc X) (hv:v<=i) (hc:∀p∈Y.take j,∀q∈(X.take i).drop v,nk p<=nk q):Mh X Y v j ((X.take i).drop v++R):=by
 refine ⟨?_,?_,λp hp q hq=>?_⟩
 ·rw [Qes (X:=X) hv,List.append_assoc]
  exact List.Perm.append_left _ h.perm
 ·exact List.pairwise_append.mpr ⟨(hX.take i).drop v,h.inc,λp hp q hq=>h.le p (.inl (List.mem_of_mem_drop hp)) q hq⟩
 ·rcases List.mem_append.mp hq with hq | hq
  ·rcases hp with hp | hp
   ·exact Qds hX hv p hp q hq
   ·exact hc p hp q hq
  ·rcases hp with hp | hp
   ·exact h.le p (.inl (Qdr hv hp)) q hq
   ·exact h.le p (.inr hp) q hq
theorem Mh.stepY {X Y R:List Keyed} {i j v:Nat} (h:Mh X Y i j R) (hY:Inc Y) (hv:v<=j) (hc:∀p∈X.take i,∀q∈(Y.take j).drop v,nk p<=nk q):Mh X Y i v ((Y.take j).drop v++R):=by
 refine ⟨?_,?_,λp hp q hq=>?_⟩
 ·rw [Qes (X:=Y) hv]
  refine (List.Perm.append_left _ h.perm).trans ?_
  rw [← List.append_assoc,← List.append_assoc]
  exact List.Perm.append_right _ List.perm_append_comm
 ·exact List.pairwise_append.mpr ⟨(hY.take j).drop v,h.inc,λp hp q hq=>h.le p (.inr (List.mem_of_mem_drop hp)) q hq⟩
 ·rcases List.mem_append.mp hq with hq | hq
  ·rcases hp with hp | hp
   ·exact hc p hp q hq
   ·exact Qds hY hv p hp q hq
  ·rcases hp with hp | hp
   ·exact h.le p (.inl hp) q hq
   ·exact h.le p (.inr (Qdr hv hp)) q hq
theorem Mh.end0 {X Y R:List Keyed} {i j:Nat} (h:Mh X Y i j R) (hX:Inc X) (hY:Inc Y) (hc:∀p∈X.take i,∀q∈Y.take j,nk p<=nk q):Out X Y (X.take i++Y.take j++R):=by
 refine ⟨?_,List.pairwise_append.mpr ⟨List.pairwise_append.mpr ⟨hX.take i,hY.take j,hc⟩,h.inc,λp hp q hq=>h.le p (List.mem_append.mp hp) q hq⟩⟩
 refine (List.Perm.append_left _ h.perm).trans ?_
 have e:X++Y=X.take i++X.drop i++(Y.take j++Y.drop j):=by rw [List.take_append_drop,List.take_append_drop]
 rw [e,List.append_assoc,List.append_assoc]
 refine List.Perm.append_left _ ?_
 rw [← List.append_assoc,← List.append_assoc]
 exact List.Perm.append_right _ List.perm_append_comm
theorem Mh.end1 {X Y R:List Keyed} {i j:Nat} (h:Mh X Y i j R) (hX:Inc X) (hY:Inc Y) (hc:∀p∈Y.take j,∀q∈X.take i,nk p<=nk q):Out X Y (Y.take j++X.take i++R):=by
 refine ⟨?_,List.pairwise_append.mpr ⟨List.pairwise_append.mpr ⟨hY.take j,hX.take i,hc⟩,h.inc,λp hp q hq=>h.le p ((List.mem_append.mp hp).symm) q hq⟩⟩
 refine (List.Perm.append_left _ h.perm).trans ?_
 have e:X++Y=X.take i++X.drop i++(Y.take j++Y.drop j):=by rw [List.take_append_drop,List.take_append_drop]
 rw [e]
 have e2:Y.take j++X.take i++(X.drop i++Y.drop j)=Y.take j++(X.take i++X.drop i)++Y.drop j:=by simp only [List.append_assoc]
 rw [e2,← List.append_assoc (X.take i++X.drop i)]
 exact List.Perm.append_right _ List.perm_append_comm
theorem Vr {x:Array Keyed} {i:Nat} (h0:0<i) (h:i<=x.size):(x.toList.take i).drop (i-1)=[x[i-1]'(by omega)]:=by
 rw [List.drop_take,show i-(i-1)=1 by omega]
 exact J3 (by omega)
theorem Qjx (x:Array Keyed) (i:Nat):(x.extract 0 i).toList=x.toList.take i:=by simp
theorem Qek (x:Array Keyed) (v i:Nat):(x.extract v i).toList=(x.toList.take i).drop v:=by
 rw [Array.toList_extract,List.extract_eq_take_drop,List.drop_take]
theorem Qhl {x:Array Keyed} {i:Nat} {q:Keyed} (h:q∈x.toList.take i):∃t,t<i/\∃(h:t<x.size),q=x[t]:=by
 obtain ⟨t,ht,e⟩:=List.getElem_of_mem h
 rw [List.length_take,Array.length_toList] at ht
 exact ⟨t,by omega,by omega,by rw [← e,List.getElem_take];simp⟩
theorem Qk4 {x:Array Keyed} {v i:Nat} {q:Keyed} (h:q∈(x.toList.take i).drop v):∃t,v<=t/\t<i/\∃(h:t<x.size),q=x[t]:=by
 obtain ⟨t,ht,e⟩:=List.getElem_of_mem h
 rw [List.length_drop,List.length_take,Array.length_toList] at ht
 exact ⟨v+t,by omega,by omega,by omega,by rw [← e,List.getElem_drop,List.getElem_take];simp⟩
section
variable {prog:Program} {w:World} {A:Around} {E:Value->Shared->Prop} {s:Shared} [KL prog w A E s] {st:SortSt} {x y:Array Keyed}
theorem Mr.ask0X (h:Mr x y) (hk:kindOf st=kind) {key:Keyed} (hy:isN key) {i:Nat} (hi:i<=x.size):Ask st key x 0 i :=
 ⟨hk,h.nx,hy,λa b hab hb=>Xa h.ix (by omega) (by omega),by omega⟩
theorem Mr.ask0Y (h:Mr x y) (hk:kindOf st=kind) {key:Keyed} (hy:isN key) {i:Nat} (hi:i<=y.size):Ask st key y 0 i :=
 ⟨hk,h.ny,hy,λa b hab hb=>Xa h.iy (by omega) (by omega),by omega⟩
abbrev HiS:=ForInStep (Option (Array Keyed) × Nat × Nat × Array Keyed × Nat × Nat × Nat)
def hiC (x y:Array Keyed) (i j:Nat) (o:Array Keyed) (g ca cb:Nat):StateT SortSt Sem HiS:=do
 let a ← elem' x (i-1)
 if i-1 == 0 then pure (.done (some (x.extract 0 (i-1)++y.extract 0 j++(o.push a).reverse),i-1,j,o.push a,g,ca,cb))
 else if ca<7 && cb<7 then pure (.done (none,i-1,j,o.push a,g,ca,cb))
 else pure (.yield (none,i-1,j,o.push a,g,ca,cb))
def hiB (x y:Array Keyed) (i j:Nat) (o:Array Keyed) (g ca cb:Nat):StateT SortSt Sem HiS:=do
 let a ← elem' y (j-1)
 if j-1 == 1 then pure (.done (some (y.extract 0 (j-1)++x.extract 0 i++(o.push a).reverse),i,j-1,o.push a,g,ca,cb))
 else do
  let b ← elem' x (i-1)
  let z ← leap true b y 0 (j-1) (j-1-1)
  match z with
  | some v =>
   if j-1-v > 0 then
    if v == 1 then pure (.done (some (y.extract 0 v++x.extract 0 i++(o.push a++(y.extract v (j-1)).reverse).reverse),i,v,o.push a++(y.extract v (j-1)).reverse,g,ca,j-1-v))
    else if v == 0 then pure (.done (some (x.extract 0 i++y.extract 0 v++(o.push a++(y.extract v (j-1)).reverse).reverse),i,v,o.push a++(y.extract v (j-1)).reverse,g,ca,j-1-v))
    else hiC x y i v (o.push a++(y.extract v (j-1)).reverse) g ca (j-1-v)
   else hiC x y i (j-1) (o.push a) g ca (j-1-v)
  | _=>pure (.done (some (x.extract 0 i++y.extract 0 (j-1)++(o.push a).reverse),i,j-1,o.push a,g,ca,cb))
def hiA (x y:Array Keyed) (i j:Nat) (o:Array Keyed) (g ca cb:Nat):StateT SortSt Sem HiS:=do
 let a ← elem' y (j-1)
 let z ← leap false a x 0 i (i-1)
 match z with
 | some v =>
  if i-v > 0 then
   if v == 0 then pure (.done (some (x.extract 0 v++y.extract 0 j++(o++(x.extract v i).reverse).reverse),v,j,o++(x.extract v i).reverse,g,i-v,cb))
   else hiB x y v j (o++(x.extract v i).reverse) g (i-v) cb
  else hiB x y i j o g (i-v) cb
 | _=>pure (.done (some (x.extract 0 i++y.extract 0 j++o.reverse),i,j,o,g,ca,cb))
structure HiQ (x y:Array Keyed) (n:Nat) (Q:HiS->Prop):Prop where
 out:∀r c,Out x.toList y.toList r.toList->Q (.done (some r,c))
 brk:∀i j o g ca cb,Mh x.toList y.toList i j o.toList.reverse->0<i->1<j->i<=x.size->j<=y.size->i+j+1<=n->Q (.done (none,i,j,o,g,ca,cb))
 go:∀i j o g ca cb,Mh x.toList y.toList i j o.toList.reverse->0<i->1<j->i<=x.size->j<=y.size->i+j+1<=n->Q (.yield (none,i,j,o,g,ca,cb))
theorem Mr.e0 (h:Mr x y) {o:Array Keyed} {i j:Nat} (m:Mh x.toList y.toList i j o.toList.reverse) (hi:i=0\/j=0):Out x.toList y.toList (x.extract 0 i++y.extract 0 j++o.reverse).toList:=by
 have:=m.end0 h.ix h.iy (λp hp q hq=>by
  rcases hi with rfl | rfl
  ·cases hp
  ·cases hq)
 rw [Array.toList_append,Array.toList_append,Qjx,Qjx,Array.toList_reverse]
 exact this
theorem Mr.e1 (h:Mr x y) {o:Array Keyed} {i j:Nat} (m:Mh x.toList y.toList i j o.toList.reverse) (hj:j=1):Out x.toList y.toList (y.extract 0 j++x.extract 0 i++o.reverse).toList:=by
 have:=m.end1 h.ix h.iy (λp hp q hq=>by
  subst hj
  exact h.fst p hp q (List.mem_of_mem_take hq))
 rw [Array.toList_append,Array.toList_append,Qjx,Qjx,Array.toList_reverse]
 exact this
theorem Mr.pushX (h:Mr x y) {o:Array Keyed} {i j:Nat} (hi:0<i) (hi2:i<=x.size) (m:Mh x.toList y.toList i j o.toList.reverse) (hc:∀p∈y.toList.take j,nk p<=nk (x[i-1]'(by omega))):Mh x.toList y.toList (i-1) j (o.push (x[i-1]'(by omega))).toList.reverse:=by
 have:=m.stepX h.ix (v:=i-1) (by omega) (λp hp q hq=>by
  rw [Vr hi hi2] at hq
  rw [List.mem_singleton.mp hq];exact hc p hp)
 rw [Vr hi hi2] at this
 rw [Array.toList_push,List.reverse_append];exact this
theorem Mr.pushY (h:Mr x y) {o:Array Keyed} {i j:Nat} (hi:0<j) (hi2:j<=y.size) (m:Mh x.toList y.toList i j o.toList.reverse) (hc:∀p∈x.toList.take i,nk p<=nk (y[j-1]'(by omega))):Mh x.toList y.toList i (j-1) (o.push (y[j-1]'(by omega))).toList.reverse:=by
 have:=m.stepY h.iy (v:=j-1) (by omega) (λp hp q hq=>by
  rw [Vr hi hi2] at hq
  rw [List.mem_singleton.mp hq];exact hc p hp)
 rw [Vr hi hi2] at this
 rw [Array.toList_push,List.reverse_append];exact this
theorem topA {x:Array Keyed} (h:Inc x.toList) {i:Nat} (hi:0<i) (hi2:i<=x.size):∀p∈x.toList.take i,nk p<=nk (x[i-1]'(by omega)):=λp hp=>by
 obtain ⟨t,ht,hts,rfl⟩:=Qhl hp
 have:=Xa h (show t<=i-1 by omega) (by omega)
 rw [K_nk hts,K_nk (by omega)] at this
 exact this
theorem Qfy {Q:HiS->SortSt->Prop} {i j n g ca cb:Nat} {o:Array Keyed} (h:Mr x y) (q:HiQ x y n (Q · st)) (n2:0<i) (n3:i<=x.size) (n4:1<j) (n5:j<=y.size) (p4:i+j+1<=n) (m:Mh x.toList y.toList i j o.toList.reverse) (cx:∀p∈y.toList.take j,nk p<=nk (x[i-1]'(by omega))) :
  wpS (model prog w) A E s (hiC x y i j o g ca cb) Q st:=by
 refine wpS_bind (Qs (Array.getElem?_eq_getElem (show i-1<x.size by omega)) ?_)
 have m5:=h.pushX n2 n3 m cx
 by_cases q5:i-1=0
 ·rw [if_pos (by simpa using q5)]
  exact wpS_pure (q.out _ _ (h.e0 m5 (.inl q5)))
 rw [if_neg (by simpa using q5)]
 split
 ·exact wpS_pure (q.brk _ _ _ _ _ _ m5 (by omega) n4 (by omega) n5 (by omega))
 ·exact wpS_pure (q.go _ _ _ _ _ _ m5 (by omega) n4 (by omega) n5 (by omega))
theorem Qfz {Q:HiS->SortSt->Prop} {i j n g ca cb:Nat} {o:Array Keyed} (hk:kindOf st=kind) (h:Mr x y) (q:HiQ x y n (Q · st)) (n2:0<i) (n3:i<=x.size) (b2:1<j) (b4:j<=y.size) (p2:i+j+1<=n) (mk:Mh x.toList y.toList i j o.toList.reverse) (cy:∀p∈x.toList.take i,nk p<=nk (y[j-1]'(by omega))) :
  wpS (model prog w) A E s (hiB x y i j o g ca cb) Q st:=by
 refine wpS_bind (Qs (Array.getElem?_eq_getElem (show j-1<y.size by omega)) ?_)
 have m3:=h.pushY (by omega) b4 mk cy
 by_cases q3:j-1=1
 ·rw [if_pos (by simpa using q3)]
  exact wpS_pure (q.out _ _ (h.e1 m3 q3))
 rw [if_neg (by simpa using q3)]
 have hi1:i-1<x.size:=by omega
 refine wpS_bind (Qs (Array.getElem?_eq_getElem hi1) ?_)
 refine wpS_bind (Zp (h.ask0Y hk (h.nx _ (by simp)) (show j-1<=y.size by omega)) (by omega) λv2 hc2=>?_)
 dsimp only
 obtain ⟨d1,d2,d3⟩:=hc2
 have m4:Mh x.toList y.toList i v2 (o.push y[j-1]++(y.extract v2 (j-1)).reverse).toList.reverse:=by
  have:=m3.stepY h.iy (v:=v2) d1 (λp hp q hq=>by
   obtain ⟨t,ht1,ht2,hts,rfl⟩:=Qk4 hq
   have h1:=d3 t ht1 ht2
   have h2:=topA h.ix n2 n3 p hp
   unfold pv at h1
   simp only [if_true,decide_eq_false_iff_not,Nat.zero_add] at h1
   rw [K_nk hts] at h1
   omega)
  rw [Array.toList_append,List.reverse_append,Array.toList_reverse,List.reverse_reverse,Qek];exact this
 have cx:∀p∈y.toList.take v2,nk p<=nk (x[i-1]):=λp hp=>by
  obtain ⟨t,ht,hts,rfl⟩:=Qhl hp
  have h1:=d2 t ht
  unfold pv at h1
  simp only [if_true,decide_eq_true_eq,Nat.zero_add] at h1
  rw [K_nk hts] at h1
  omega
 by_cases k20:j-1-v2 > 0
 ·rw [if_pos k20]
  by_cases q4:v2=1
  ·rw [if_pos (by simpa using q4)]
   exact wpS_pure (q.out _ _ (h.e1 m4 q4))
  rw [if_neg (by simpa using q4)]
  by_cases q6:v2=0
  ·rw [if_pos (by simpa using q6)]
   exact wpS_pure (q.out _ _ (h.e0 m4 (.inr q6)))
  rw [if_neg (by simpa using q6)]
  exact Qfy h q n2 n3 (by omega) (by omega) (by omega) m4 cx
 ·rw [if_neg k20]
  have k00:v2=j-1:=by omega
  subst k00
  exact Qfy h q n2 n3 (by omega) (by omega) (by omega) m3 cx
theorem Qf0 {Q:HiS->SortSt->Prop} {i j n g ca cb:Nat} {o:Array Keyed} (hk:kindOf st=kind) (h:Mr x y) (q:HiQ x y n (Q · st)) (b1:0<i) (b2:1<j) (b3:i<=x.size) (b4:j<=y.size) (b5:i+j+1<=n) (m:Mh x.toList y.toList i j o.toList.reverse) :
  wpS (model prog w) A E s (hiA x y i j o g ca cb) Q st:=by
 refine wpS_bind (Qs (Array.getElem?_eq_getElem (show j-1<y.size by omega)) ?_)
 refine wpS_bind (Zp (h.ask0X hk (h.ny _ (by simp)) b3) (by omega) λv hc=>?_)
 dsimp only
 obtain ⟨c1,c2,c3⟩:=hc
 have mk:Mh x.toList y.toList v j (o++(x.extract v i).reverse).toList.reverse:=by
  have:=m.stepX h.ix (v:=v) c1 (λp hp q hq=>by
   obtain ⟨t,ht1,ht2,hts,rfl⟩:=Qk4 hq
   have h1:=c3 t ht1 ht2
   have h2:=topA h.iy (by omega) b4 p hp
   unfold pv at h1
   simp only [Bool.false_eq_true,if_false,Bool.not_eq_false',decide_eq_true_eq,Nat.zero_add] at h1
   rw [K_nk hts] at h1
   omega)
  rw [Array.toList_append,List.reverse_append,Array.toList_reverse,List.reverse_reverse,Qek];exact this
 have cy:∀p∈x.toList.take v,nk p<=nk (y[j-1]):=λp hp=>by
  obtain ⟨t,ht,hts,rfl⟩:=Qhl hp
  have h1:=c2 t ht
  unfold pv at h1
  simp only [Bool.false_eq_true,if_false,Bool.not_eq_true',decide_eq_false_iff_not,Nat.zero_add] at h1
  rw [K_nk hts] at h1
  omega
 by_cases k0:i-v > 0
 ·rw [if_pos k0]
  by_cases q1:v=0
  ·rw [if_pos (by simpa using q1)]
   exact wpS_pure (q.out _ _ (h.e0 mk (.inl q1)))
  rw [if_neg (by simpa using q1)]
  exact Qfz hk h q (by omega) (by omega) b2 b4 (by omega) mk cy
 ·rw [if_neg k0]
  have k00:v=i:=by omega
  subst k00
  exact Qfz hk h q b1 b3 b2 b4 b5 m cy
abbrev HiS1:=ForInStep (Option (Array Keyed) × Nat × Nat × Array Keyed × Nat × Nat)
abbrev HiS2:=ForInStep (Option (Array Keyed) × Nat × Nat × Array Keyed × Nat)
def hi1 (x y:Array Keyed) (g i j:Nat) (o:Array Keyed) (ca cb:Nat):StateT SortSt Sem HiS1:=do
 let a ← elem' y (j-1)
 let b ← elem' x (i-1)
 let z ← lt' a b
 match z with
 | some aw =>
  if aw then do
   let c ← elem' x (i-1)
   if i-1 == 0 then pure (.done (some (x.extract 0 (i-1)++y.extract 0 j++(o.push c).reverse),i-1,j,o.push c,ca+1,0))
   else if ca+1 ≥ g then pure (.done (none,i-1,j,o.push c,ca+1,0))
   else pure (.yield (none,i-1,j,o.push c,ca+1,0))
  else do
   let c ← elem' y (j-1)
   if j-1 == 1 then pure (.done (some (y.extract 0 (j-1)++x.extract 0 i++(o.push c).reverse),i,j-1,o.push c,0,cb+1))
   else if cb+1 ≥ g then pure (.done (none,i,j-1,o.push c,0,cb+1))
   else pure (.yield (none,i,j-1,o.push c,0,cb+1))
 | _=>pure (.done (some (x.extract 0 i++y.extract 0 j++o.reverse),i,j,o,ca,cb))
def hi3 (x y:Array Keyed) (i j:Nat) (o:Array Keyed) (g ca cb:Nat):StateT SortSt Sem HiS :=
 if g > 1 then (do setG (g-1);hiA x y i j o (g-1) ca cb) else (do setG g;hiA x y i j o g ca cb)
def hi2b (x y:Array Keyed) (tot i j:Nat) (o:Array Keyed) (g ca cb:Nat):StateT SortSt Sem HiS2:=do
 rule "list.sort.gallop"
 let c ← forIn [:tot] ((none,i,j,o,g+1,ca,cb):Option (Array Keyed) × Nat × Nat × Array Keyed × Nat × Nat × Nat) λ_ c=>hi3 x y c.2.1 c.2.2.1 c.2.2.2.1 c.2.2.2.2.1 c.2.2.2.2.2.1 c.2.2.2.2.2.2
 match c.1 with
 | some r=>pure (.done (some r,c.2.1,c.2.2.1,c.2.2.2.1,c.2.2.2.2.1))
 | none=>do
  setG (c.2.2.2.2.1+1)
  pure (.yield (none,c.2.1,c.2.2.1,c.2.2.2.1,c.2.2.2.2.1+1))
def hi2 (x y:Array Keyed) (tot i j:Nat) (o:Array Keyed) (g:Nat):StateT SortSt Sem HiS2:=do
 let c ← forIn [:tot] ((none,i,j,o,0,0):Option (Array Keyed) × Nat × Nat × Array Keyed × Nat × Nat) λ_ c=>hi1 x y g c.2.1 c.2.2.1 c.2.2.2.1 c.2.2.2.2.1 c.2.2.2.2.2
 match c.1 with
 | some r=>pure (.done (some r,c.2.1,c.2.2.1,c.2.2.2.1,g))
 | none=>hi2b x y tot c.2.1 c.2.2.1 c.2.2.2.1 g c.2.2.2.2.1 c.2.2.2.2.2
theorem Qp0 (x y:Array Keyed):∃u:StateT SortSt Sem (Array Keyed),mHi x y=(do
 rule "list.sort.merge-hi"
 let a ← elem' x (x.size-1)
 if x.size-1 == 0 then pure (x.extract 0 (x.size-1)++y.extract 0 y.size++(#[a]:Array Keyed).reverse)
 else if y.size == 1 then pure (y.extract 0 y.size++x.extract 0 (x.size-1)++(#[a]:Array Keyed).reverse)
 else do
  let st ← get
  let c ← forIn [:x.size+y.size] ((none,x.size-1,y.size,#[a],gallopOf st):Option (Array Keyed) × Nat × Nat × Array Keyed × Nat) λ_ c=>hi2 x y (x.size+y.size) c.2.1 c.2.2.1 c.2.2.2.1 c.2.2.2.2
  match c.1 with
  | some r=>pure r
  | none=>u):=by
 obtain ⟨u,e⟩:=Qp1 x y
 refine ⟨u,e.trans ?_⟩
 clear e
 dsimp only [hi2,hi2b,hi3,hiA,hiB,hiC,hi1]
 refine congrArg (bind _) (funext λ_=>?_)
 refine congrArg (bind _) (funext λa=>?_)
 refine congrArg (ite _ _) (congrArg (ite _ _) ?_)
 refine congrArg (bind _) (funext λb=>?_)
 refine congr (congrArg _ ?_) (funext λz=>?_)
 ·refine congrArg _ (funext λ_=>funext λc=>?_)
  refine congr (congrArg _ ?_) (funext λd=>?_)
  ·rfl
  ·match d.1 with
   | some r=>rfl
   | none =>
    refine congrArg (bind _) (funext λ_=>?_)
    refine congr (congrArg _ ?_) (funext λz=>?_)
    ·refine congrArg _ (funext λ_=>funext λc=>?_)
     rfl
    ·match z.1 with
     | some r=>rfl
     | none=>rfl
 ·match z.1 with
  | some r=>rfl
  | none=>rfl
theorem Qln {Q:HiS1->SortSt->Prop} {i j g ca cb:Nat} {o:Array Keyed} (hk:kindOf st=kind) (h:Mr x y) (m:Mh x.toList y.toList i j o.toList.reverse) (b1:0<i) (b2:1<j) (b3:i<=x.size) (b4:j<=y.size) (qo:∀r c,Out x.toList y.toList r.toList->Q (.done (some r,c)) st)
  (qn:∀i' j' o' ca cb,Mh x.toList y.toList i' j' o'.toList.reverse->0<i'->1<j'->i'<=x.size->j'<=y.size->i'+j'+1<=i+j->Q (.done (none,i',j',o',ca,cb)) st/\Q (.yield (none,i',j',o',ca,cb)) st):wpS (model prog w) A E s (hi1 x y g i j o ca cb) Q st:=by
 have hj1:j-1<y.size:=by omega
 have hi1:i-1<x.size:=by omega
 refine wpS_bind (Qs (Array.getElem?_eq_getElem hj1) (wpS_bind (Qs (Array.getElem?_eq_getElem hi1) (wpS_bind (Ga hk (h.ny _ (by simp)) (h.nx _ (by simp)) ?_)))))
 dsimp only
 by_cases hw:nk y[j-1] < nk x[i-1]
 ·simp only [hw,decide_true,if_true]
  refine wpS_bind (Qs (Array.getElem?_eq_getElem hi1) ?_)
  have m2:=h.pushX b1 b3 m (λp hp=>by have:=topA h.iy (by omega) b4 p hp;omega)
  by_cases q1:i-1=0
  ·rw [if_pos (by simpa using q1)]
   exact wpS_pure (qo _ _ (h.e0 m2 (.inl q1)))
  ·rw [if_neg (by simpa using q1)]
   have z:=λca cb=>qn _ _ _ ca cb m2 (by omega) b2 (by omega) b4 (by omega)
   split
   ·exact wpS_pure (z _ _).1
   ·exact wpS_pure (z _ _).2
 ·simp only [hw,decide_false,Bool.false_eq_true,if_false]
  refine wpS_bind (Qs (Array.getElem?_eq_getElem hj1) ?_)
  have m2:=h.pushY (by omega) b4 m (λp hp=>by have:=topA h.ix b1 b3 p hp;omega)
  by_cases q1:j-1=1
  ·rw [if_pos (by simpa using q1)]
   exact wpS_pure (qo _ _ (h.e1 m2 q1))
  ·rw [if_neg (by simpa using q1)]
   have z:=λca cb=>qn _ _ _ ca cb m2 b1 (by omega) b3 (by omega) (by omega)
   split
   ·exact wpS_pure (z _ _).1
   ·exact wpS_pure (z _ _).2
theorem Qiu {Q:HiS2->SortSt->Prop} {tot i j g ca cb n:Nat} {o:Array Keyed} (hk:kindOf st=kind) (h:Mr x y) (m:Mh x.toList y.toList i j o.toList.reverse) (b1:0<i) (b2:1<j) (b3:i<=x.size) (b4:j<=y.size) (b5:i+j+1<=n) (qo:∀r c st',Keep st st'->Out x.toList y.toList r.toList->Q (.done (some r,c)) st')
  (qn:∀i' j' o' g' st',Keep st st'->Mh x.toList y.toList i' j' o'.toList.reverse->0<i'->1<j'->i'<=x.size->j'<=y.size->i'+j'+1<=n->Q (.yield (none,i',j',o',g')) st'):wpS (model prog w) A E s (hi2b x y tot i j o g ca cb) Q st:=by
 refine wpS_bind (wpS_lift (wpAny_rule ⟨rfl,?_⟩))
 refine wpS_bind (wpS_mono (wpS_forRange (I:=λt3 c st3=>Keep st st3/\∃i' j' o g ca cb,c=(none,i',j',o,g,ca,cb)/\Mh x.toList y.toList i' j' o.toList.reverse/\0<i'/\1<j'/\i'<=x.size/\j'<=y.size/\i'+j'+1<=n)
  (Q:=λc st3=>Keep st st3/\((∃r c2,c=(some r,c2)/\Out x.toList y.toList r.toList)\/∃i' j' o g ca cb,c=(none,i',j',o,g,ca,cb)/\Mh x.toList y.toList i' j' o.toList.reverse/\0<i'/\1<j'/\i'<=x.size/\j'<=y.size/\i'+j'+1<=n)) ?step2 ?fin2 ⟨Keep.refl st,_,_,_,_,_,_,rfl,m,b1,b2,b3,b4,b5⟩) ?post2)
 case fin2 =>
  rintro c st3 ⟨kp3,i',j',o,g,ca,cb,rfl,m,b⟩
  exact ⟨kp3,.inr ⟨i',j',o,g,ca,cb,rfl,m,b⟩⟩
 case post2 =>
  rintro c st3 ⟨kp3,⟨r,c2,rfl,ho⟩ | ⟨i',j',o,g,ca,cb,rfl,m,b1,b2,b3,b4,b5⟩⟩
  ·exact wpS_pure (qo _ _ _ kp3 ho)
  ·exact wpS_bind (Zo λst4 kp4=>wpS_pure (qn _ _ _ _ _ (kp3.trans kp4) m b1 b2 b3 b4 b5))
 case step2 =>
  rintro t3 c st3 _ ht3 ⟨kp3,i',j',o,g,ca,cb,rfl,m,b1,b2,b3,b4,b5⟩
  show wpS (model prog w) A E s (hi3 x y i' j' o g ca cb) _ st3
  unfold hi3
  by_cases hg:g > 1
  ·rw [if_pos hg]
   exact wpS_bind (Zo λst4 kp4=>Qf0 (n:=n) ((kp3.trans kp4).k.trans hk) h ⟨λr c ho=>⟨kp3.trans kp4,.inl ⟨_,_,rfl,ho⟩⟩,λi j o g ca cb m h1 h2 h3 h4 h5=>⟨kp3.trans kp4,.inr ⟨_,_,_,_,_,_,rfl,m,h1,h2,h3,h4,h5⟩⟩,λi j o g ca cb m h1 h2 h3 h4 h5=>⟨kp3.trans kp4,_,_,_,_,_,_,rfl,m,h1,h2,h3,h4,h5⟩⟩ b1 b2 b3 b4 b5 m)
  ·rw [if_neg hg]
   exact wpS_bind (Zo λst4 kp4=>Qf0 (n:=n) ((kp3.trans kp4).k.trans hk) h ⟨λr c ho=>⟨kp3.trans kp4,.inl ⟨_,_,rfl,ho⟩⟩,λi j o g ca cb m h1 h2 h3 h4 h5=>⟨kp3.trans kp4,.inr ⟨_,_,_,_,_,_,rfl,m,h1,h2,h3,h4,h5⟩⟩,λi j o g ca cb m h1 h2 h3 h4 h5=>⟨kp3.trans kp4,_,_,_,_,_,_,rfl,m,h1,h2,h3,h4,h5⟩⟩ b1 b2 b3 b4 b5 m)
theorem Qlm {Q:HiS2->SortSt->Prop} {tot i j g:Nat} {o:Array Keyed} (htot:1<=tot) (hk:kindOf st=kind) (h:Mr x y) (m:Mh x.toList y.toList i j o.toList.reverse) (a1:0<i) (a2:1<j) (a3:i<=x.size) (a4:j<=y.size) (qo:∀r c st',Keep st st'->Out x.toList y.toList r.toList->Q (.done (some r,c)) st')
  (qn:∀i' j' o' g' st',Keep st st'->Mh x.toList y.toList i' j' o'.toList.reverse->0<i'->1<j'->i'<=x.size->j'<=y.size->i'+j'+1<=i+j->Q (.yield (none,i',j',o',g')) st'):wpS (model prog w) A E s (hi2 x y tot i j o g) Q st:=by
 refine wpS_bind (wpS_mono (wpS_forRange (I:=λt2 c st2=>st2=st/\∃i' j' o ca cb,c=(none,i',j',o,ca,cb)/\Mh x.toList y.toList i' j' o.toList.reverse/\0<i'/\1<j'/\i'<=x.size/\j'<=y.size/\i'+j'+t2<=i+j)
  (Q:=λc st2=>st2=st/\((∃r c2,c=(some r,c2)/\Out x.toList y.toList r.toList)\/∃i' j' o ca cb,c=(none,i',j',o,ca,cb)/\Mh x.toList y.toList i' j' o.toList.reverse/\0<i'/\1<j'/\i'<=x.size/\j'<=y.size/\i'+j'+1<=i+j)) ?step1 ?fin1 ⟨rfl,_,_,_,_,_,rfl,m,a1,a2,a3,a4,by omega⟩) ?post1)
 case fin1 =>
  rintro c st2 ⟨rfl,i',j',o,ca,cb,rfl,m,b1,b2,b3,b4,b5⟩
  exact ⟨rfl,.inr ⟨i',j',o,ca,cb,rfl,m,b1,b2,b3,b4,by omega⟩⟩
 case step1 =>
  rintro t2 c st2 _ ht2 ⟨rfl,i',j',o,ca,cb,rfl,m,b1,b2,b3,b4,b5⟩
  show wpS (model prog w) A E s (hi1 x y g i' j' o ca cb) _ _
  refine Qln hk h m b1 b2 b3 b4 (λr c ho=>⟨rfl,.inl ⟨_,_,rfl,ho⟩⟩) λi2 j2 o2 ca cb m2 c1 c2 c3 c4 c5=>⟨⟨rfl,.inr ⟨_,_,_,_,_,rfl,m2,c1,c2,c3,c4,by omega⟩⟩,rfl,_,_,_,_,_,rfl,m2,c1,c2,c3,c4,by omega⟩
 case post1 =>
  rintro c st2 ⟨rfl,⟨r,c2,rfl,ho⟩ | ⟨i',j',o,ca,cb,rfl,m,b1,b2,b3,b4,b5⟩⟩
  ·exact wpS_pure (qo _ _ _ (Keep.refl _) ho)
  ·exact Qiu hk h m b1 b2 b3 b4 b5 qo qn
theorem Qli {Q:Array Keyed->SortSt->Prop} (hk:kindOf st=kind) (h:Mr x y) (hQ:∀o st',Keep st st'->Out x.toList y.toList o.toList->Q o st'):wpS (model prog w) A E s (mHi x y) Q st:=by
 obtain ⟨u,e⟩:=Qp0 x y
 rw [e]
 refine wpS_bind (wpS_lift (wpAny_rule ⟨rfl,?_⟩))
 have hx0:=h.x0
 have hy0:=h.y0
 refine wpS_bind (Qs (Array.getElem?_eq_getElem (show x.size-1<x.size by omega)) ?_)
 have M1:Mh x.toList y.toList (x.size-1) y.size (#[x[x.size-1]]:Array Keyed).toList.reverse:=by
  have m0:Mh x.toList y.toList x.size y.size []:=⟨by simp,List.Pairwise.nil,λ_ _ _ hq=>nomatch hq⟩
  have:=m0.stepX h.ix (v:=x.size-1) (by omega) (λp hp q hq=>h.lst q (by
   have e:x.toList.take x.size=x.toList:=List.take_of_length_le (by simp)
   rw [e] at hq;exact hq) p (List.mem_of_mem_take hp))
  rw [Vr hx0 (Nat.le_refl _)] at this
  exact this
 by_cases h1:x.size-1=0
 ·rw [if_pos (by simpa using h1)]
  exact wpS_pure (hQ _ _ (Keep.refl st) (h.e0 M1 (.inl h1)))
 rw [if_neg (by simpa using h1)]
 by_cases h2:y.size=1
 ·rw [if_pos (by simpa using h2)]
  exact wpS_pure (hQ _ _ (Keep.refl st) (h.e1 M1 h2))
 rw [if_neg (by simpa using h2)]
 refine wpS_bind (wpS_get ?_)
 refine wpS_bind (wpS_mono (wpS_forRange (I:=λt c st'=>Keep st st'/\∃i j o g,c=(none,i,j,o,g)/\Mh x.toList y.toList i j o.toList.reverse/\0<i/\1<j/\i<=x.size/\j<=y.size/\i+j+t+1<=x.size+y.size)
  (Q:=λc st'=>Keep st st'/\∃r,c.1=some r/\Out x.toList y.toList r.toList) ?step ?fin ⟨Keep.refl st,_,_,_,_,rfl,M1,by omega,by omega,by omega,by omega,by omega⟩) ?post)
 case fin =>
  rintro c st' ⟨_,i,j,o,g,rfl,_,a1,a2,a3,a4,a5⟩
  omega
 case post =>
  rintro ⟨c1,c2⟩ st' ⟨kp,r,e,ho⟩
  cases e
  exact wpS_pure (hQ r st' kp ho)
 case step =>
  rintro t c st' _ ht ⟨kp,i,j,o,g,rfl,m,a1,a2,a3,a4,a5⟩
  show wpS (model prog w) A E s (hi2 x y (x.size+y.size) i j o g) _ _
  exact Qlm (by omega) (kp.k.trans hk) h m a1 a2 a3 a4 (λr c st2 kp2 ho=>⟨kp.trans kp2,_,rfl,ho⟩) λi2 j2 o2 g2 st2 kp2 m2 c1 c2 c3 c4 c5=>⟨kp.trans kp2,_,_,_,_,rfl,m2,c1,c2,c3,c4,by omega⟩
end
end Srt
namespace Srt
open PySem PyProof.Rows
open KN (nk isN kind)
variable [KN]
theorem Qp2 (i:Nat):∃u:StateT SortSt Sem Bool,mergeAt' i=(do
 let s ← get
 let (some (sa,na,pw),some (sb,nb,_)):=((pendingOf s)[i]?,(pendingOf s)[i+1]?) | u
 set (setPending s (((pendingOf s).setIfInBounds i (sa,na+nb,pw)).eraseIdxIfInBounds (i+1)))
 let some k ← leap false (← elem' (arrOf s) sb) (arrOf s) sa na 0 | return false
 let (sa,na):=(sa+k,na-k)
 if na == 0 then return true
 let some nb ← leap true (← elem' (arrOf s) (sa+na-1)) (arrOf s) sb nb (nb-1) | return false
 if nb == 0 then return true
 let x:=(arrOf s).extract sa sb
 let y:=(arrOf s).extract sb (sb+nb)
 let o ← if na<=nb then mLo x y else mHi x y
 modify λs=>setArr s (o.toList.zipIdx.foldl (λa (p,j)=>a.setIfInBounds (sa+j) p) (arrOf s))
 return (failedOf (← get)).isNone):=⟨_,rfl⟩
theorem Qef:∀(o:List Keyed) (a:Array Keyed) (sa c:Nat),sa+c+o.length<=a.size->((o.zipIdx c).foldl (λa (p,j)=>a.setIfInBounds (sa+j) p) a).toList=a.toList.take (sa+c)++o++a.toList.drop (sa+c+o.length)
 | [],a,sa,c,h=>by simp
 | p::o,a,sa,c,h=>by
  rw [List.zipIdx_cons,List.foldl_cons]
  simp only [List.length_cons] at h
  have ih:=Qef o (a.setIfInBounds (sa+c) p) sa (c+1) (by rw [Array.size_setIfInBounds];omega)
  rw [ih,Array.toList_setIfInBounds,← Nat.add_assoc]
  have h1:sa+c<a.toList.length:=by simp;(clear ih;omega)
  have e1:(a.toList.set (sa+c) p).take (sa+c+1)=a.toList.take (sa+c)++[p]:=by
   rw [List.take_add_one,List.take_set_of_le (Nat.le_refl _),List.getElem?_set_self h1];rfl
  have e2:(a.toList.set (sa+c) p).drop (sa+c+1+o.length)=a.toList.drop (sa+c+(o.length+1)):=by
   rw [List.drop_set_of_lt (by (clear e1 h1 ih h;omega))];congr 1;(clear e1 h1 ih h;omega)
  rw [e1,e2,List.length_cons];simp
section
variable {prog:Program} {w:World} {A:Around} {E:Value->Shared->Prop} {s:Shared} [KL prog w A E s] {st:SortSt}
structure Ok (st:SortSt):Prop where
 k:kindOf st=kind
 n:∀p∈(arrOf st).toList,isN p
 f:failedOf st=none
theorem Qlf {st1:SortSt} {Q:PUnit->SortSt->Prop} (h:Q ⟨⟩ st1):wpS (model prog w) A E s (set st1:StateT SortSt Sem PUnit) Q st:=by
 unfold wpS;rw [StateT.run_set];exact wpAny_pure ⟨rfl,h⟩
theorem seg {a:Array Keyed} {P C T:List Keyed} (hl:a.toList=P++C++T) {t:Nat} (ht:t<C.length):a[P.length+t]? = some C[t]:=by
 rw [← Array.getElem?_toList,hl,List.append_assoc,List.getElem?_append_right (by (clear ht hl;omega)),List.getElem?_append_left (by (clear hl;omega))]
 rw [show P.length+t-P.length=t by (clear ht hl;omega),List.getElem?_eq_getElem ht]
theorem Qoj {a:Array Keyed} {P C T:List Keyed} (hl:a.toList=P++C++T) {t:Nat} (ht:t<C.length):K a (P.length+t)=nk C[t]:=by
 unfold K;rw [seg hl ht]
theorem Qai {C:List Keyed} (h:Inc C) {i j:Nat} (hij:i<=j) (hj:j<C.length):nk (C[i]'(by (clear h;omega)))<=nk C[j]:=by
 by_cases e:i=j
 ·subst e;exact Int.le_refl _
 ·exact List.pairwise_iff_getElem.mp h i j (by (clear e h;omega)) hj (by (clear hj h;omega))
theorem Qlj {i pw pw':Nat} {P C B S:List Keyed} {Q:Bool->SortSt->Prop} (ok:Ok st) (hp:(pendingOf st)[i]? = some (P.length,C.length,pw)) (hq:(pendingOf st)[i+1]? = some (P.length+C.length,B.length,pw'))
  (hl:(arrOf st).toList=P++C++B++S) (c0:0<C.length) (b0:0<B.length) (iC:Inc C) (iB:Inc B)
  (hQ:∀st' R,Ok st'->pendingOf st'=((pendingOf st).setIfInBounds i (P.length,C.length+B.length,pw)).eraseIdxIfInBounds (i+1)->(arrOf st').toList=P++R++S->R.Perm (C++B)->Inc R->Q true st'):wpS (model prog w) A E s (mergeAt' i) Q st:=by
 obtain ⟨u,e⟩:=Qp2 i
 rw [e]
 refine wpS_bind (wpS_get ?_)
 rw [hp,hq]
 dsimp only
 refine wpS_bind (Qlf ?_)
 have hlC:(arrOf st).toList=P++C++(B++S):=by rw [hl];simp
 have hlB:(arrOf st).toList=(P++C)++B++S:=hl
 have lPC:(P++C).length=P.length+C.length:=List.length_append
 have hsz:(arrOf st).size=P.length+C.length+B.length+S.length:=by
  rw [← Array.length_toList,hl];simp;(clear lPC hlB hlC e hQ iB iC b0 c0 hl hq hp ok;omega)
 have kC:∀{t:Nat} (h:t<C.length),K (arrOf st) (P.length+t)=nk C[t]:=λh=>Qoj hlC h
 have kB:∀{t:Nat} (h:t<B.length),K (arrOf st) (P.length+C.length+t)=nk B[t]:=λ{t} h=>by rw [← lPC];exact Qoj hlB h
 have eB:(arrOf st)[P.length+C.length]? = some B[0]:=by
  have:=seg hlB b0
  rw [lPC,Nat.add_zero] at this;exact this
 have nC:∀p∈C,isN p:=λp hp=>ok.n p (by rw [hl];simp [hp])
 have nB:∀p∈B,isN p:=λp hp=>ok.n p (by rw [hl];simp [hp])
 have ok1:Ok (setPending st (((pendingOf st).setIfInBounds i (P.length,C.length+B.length,pw)).eraseIdxIfInBounds (i+1))):=⟨ok.k,ok.n,ok.f⟩
 refine wpS_bind (Qs eB ?_)
 refine wpS_bind (Zp (⟨ok1.k,ok.n,nB _ (List.getElem_mem _),λa b hab hb=>by rw [kC (by (clear ok1 nB nC eB kB kC hsz lPC hlB hlC e hQ iB iC c0 hl hq hp ok;omega)),kC hb];exact Qai iC hab hb,by (clear ok1 nB nC eB kB kC lPC hlB hlC e hQ iB iC c0 hl hq hp ok;omega)⟩:Ask _ B[0] (arrOf st) P.length C.length) c0 λk hc=>?_)
 obtain ⟨k1,k2,k3⟩:=hc
 dsimp only
 have lowC:∀p∈C.take k,∀q∈B,nk p<=nk q:=λp hp q hq=>by
  obtain ⟨t,ht,e⟩:=List.getElem_of_mem hp
  rw [List.length_take] at ht
  rw [List.getElem_take] at e
  obtain ⟨v,hv,e2⟩:=List.getElem_of_mem hq
  have h1:=k2 t (by (clear e2 e hq hp k3 k2 k1 ok1 nB nC eB kB kC hsz lPC hlB hlC hQ iB iC c0 hl ok;omega))
  have h2:=Qai iB (Nat.zero_le v) hv
  unfold pv at h1
  simp only [Bool.false_eq_true,if_false,Bool.not_eq_true',decide_eq_false_iff_not] at h1
  rw [kC (by (clear h1 h2 e2 e hq hp k3 k2 k1 ok1 nB nC eB kB kC hsz lPC hlB hlC hQ iB iC c0 hl ok;omega)),e] at h1
  rw [e2] at h2
  (clear e2 e ht hq hp k3 k2 k1 ok1 nB nC eB kB kC hsz lPC hlB hlC hQ iB iC c0 hl ok;omega)
 have hiC:∀p∈C.drop k,nk B[0]<=nk p:=λp hp=>by
  obtain ⟨t,ht,e⟩:=List.getElem_of_mem hp
  rw [List.length_drop] at ht
  rw [List.getElem_drop] at e
  have h1:=k3 (k+t) (by (clear e ht hp lowC k3 k2 k1 ok1 nB nC eB kB kC hsz lPC hlB hlC hQ iB iC c0 hl hq ok;omega)) (by (clear e hp lowC k3 k2 k1 ok1 nB nC eB kB kC hsz lPC hlB hlC hQ iB iC c0 hl hq ok;omega))
  unfold pv at h1
  simp only [Bool.false_eq_true,if_false,Bool.not_eq_false',decide_eq_true_eq] at h1
  rw [kC (by (clear h1 e hp lowC k3 k2 k1 ok1 nB nC eB kB kC hsz lPC hlB hlC hQ iB iC c0 hl hq ok;omega)),e] at h1
  (clear e ht hp lowC k3 k2 k1 ok1 nB nC eB kB kC hsz lPC hlB hlC hQ iB iC c0 hl hq ok;omega)
 have whole:(∀p∈C,∀q∈B,nk p<=nk q)->∀st',Ok st'->pendingOf st'=((pendingOf st).setIfInBounds i (P.length,C.length+B.length,pw)).eraseIdxIfInBounds (i+1)->arrOf st'=arrOf st->Q true st':=λhc st' o1 o2 o3 =>
  hQ st' (C++B) o1 o2 (by rw [o3,hl];simp) (List.Perm.refl _) (List.pairwise_append.mpr ⟨iC,iB,hc⟩)
 by_cases q1:C.length-k=0
 ·rw [if_pos (by simpa using q1)]
  refine wpS_pure (whole ?_ _ ok1 rfl rfl)
  have:C.take k=C:=List.take_of_length_le (by (clear whole hiC lowC k3 k2 k1 ok1 nB nC eB kB kC hsz lPC hlB hlC e hQ iB iC c0 hl hq hp ok;omega))
  rw [this] at lowC
  exact lowC
 rw [if_neg (by simpa using q1)]
 have hlast:P.length+k+(C.length-k)-1=P.length+(C.length-1):=by (clear q1 whole hiC lowC k3 k2 ok1 nB nC eB kB kC hsz lPC hlB hlC e hQ iB iC hl hq hp ok;omega)
 have eL:(arrOf st)[P.length+k+(C.length-k)-1]? = some (C[C.length-1]'(by (clear hlast q1 whole hiC lowC k3 k2 k1 ok1 nB nC eB kB kC hsz lPC hlB hlC e hQ iB iC hl hq hp ok;omega))):=by rw [hlast];exact seg hlC (by (clear hlast q1 whole hiC lowC k3 k2 k1 ok1 nB nC eB kB kC hsz lPC hlB hlC e hQ iB iC hl hq hp ok;omega))
 refine wpS_bind (Qs eL ?_)
 refine wpS_bind (Zp (⟨ok1.k,ok.n,nC _ (List.getElem_mem _),λa b hab hb=>by rw [kB (by (clear eL q1 whole hiC lowC k3 k2 k1 ok1 nB nC eB kB kC hsz hlB hlC e hQ iB iC hl hq hp ok;omega)),kB hb];exact Qai iB hab hb,by (clear eL q1 whole hiC lowC k3 k2 k1 ok1 nB nC eB kB kC hlB hlC e hQ iB iC hl hq hp ok;omega)⟩:Ask _ (C[C.length-1]'(by (clear eL q1 whole hiC lowC k3 k2 k1 ok1 nB nC eB kB kC hsz hlB hlC e hQ iB iC hl hq hp ok;omega))) (arrOf st) (P.length+C.length) B.length) (by (clear eL q1 whole hiC lowC k3 k2 k1 ok1 nB nC eB kB kC hsz hlB hlC e hQ iB iC hl hq hp ok;omega)) λv hc=>?_)
 obtain ⟨v1,v2,v3⟩:=hc
 dsimp only
 have topC:∀p∈C,nk p<=nk (C[C.length-1]'(by (clear v3 v2 v1 eL q1 whole hiC lowC k3 k2 k1 ok1 nB nC eB kB kC hsz hlB hlC e hQ iB iC hl hq hp ok;omega))):=λp hp=>by
  obtain ⟨t,ht,e⟩:=List.getElem_of_mem hp
  have:=Qai iC (show t<=C.length-1 by (clear e hp v3 v2 v1 eL q1 whole hiC lowC k3 k2 k1 ok1 nB nC eB kB kC hsz hlB hlC hQ iB iC hl hq ok;omega)) (by (clear e hp v3 v2 v1 eL q1 whole hiC lowC k3 k2 k1 ok1 nB nC eB kB kC hsz hlB hlC hQ iB iC hl hq ok;omega))
  rw [e] at this;exact this
 have hiB:∀q∈B.drop v,nk (C[C.length-1]'(by (clear topC v3 v2 v1 eL q1 whole hiC lowC k3 k2 k1 ok1 nB nC eB kB kC hsz hlB hlC e hQ iB iC hl hq hp ok;omega)))<=nk q:=λq hq=>by
  obtain ⟨t,ht,e⟩:=List.getElem_of_mem hq
  rw [List.length_drop] at ht
  rw [List.getElem_drop] at e
  have h1:=v3 (v+t) (by (clear e ht hq topC v3 v2 v1 eL q1 whole hiC lowC k3 k2 k1 ok1 nB nC eB kB kC hsz hlB hlC hQ iB iC hl hp ok;omega)) (by (clear e hq topC v3 v2 v1 eL q1 whole hiC lowC k3 k2 k1 ok1 nB nC eB kB kC hsz hlB hlC hQ iB iC hl hp ok;omega))
  unfold pv at h1
  simp only [if_true,decide_eq_false_iff_not] at h1
  rw [kB (by (clear h1 e hq topC v3 v2 v1 eL q1 whole hiC lowC k3 k2 k1 ok1 nB nC eB kB kC hsz hlB hlC hQ iB iC hl hp ok;omega)),e] at h1
  (clear e ht hq topC v3 v2 v1 eL q1 whole hiC lowC k3 k2 k1 ok1 nB nC eB kB kC hsz hlB hlC hQ iB iC hl hp ok;omega)
 have loB:∀q∈B.take v,nk q<=nk (C[C.length-1]'(by (clear hiB topC v3 v2 v1 eL q1 whole hiC lowC k3 k2 k1 ok1 nB nC eB kB kC hsz hlB hlC e hQ iB iC hl hq hp ok;omega))):=λq hq=>by
  obtain ⟨t,ht,e⟩:=List.getElem_of_mem hq
  rw [List.length_take] at ht
  rw [List.getElem_take] at e
  have h1:=v2 t (by (clear e hq hiB topC v3 v2 v1 eL q1 whole hiC lowC k3 k2 k1 ok1 nB nC eB kB kC hsz hlB hlC hQ iB iC hl hp ok;omega))
  unfold pv at h1
  simp only [if_true,decide_eq_true_eq] at h1
  rw [kB (by (clear h1 e hq hiB topC v3 v2 v1 eL q1 whole hiC lowC k3 k2 k1 ok1 nB nC eB kB kC hsz hlB hlC hQ iB iC hl hp ok;omega)),e] at h1
  (clear e ht hq hiB topC v3 v2 v1 eL q1 whole hiC lowC k3 k2 k1 ok1 nB nC eB kB kC hsz hlB hlC hQ iB iC hl hp ok;omega)
 by_cases q2:v=0
 ·rw [if_pos (by simpa using q2)]
  refine wpS_pure (whole (λp hp q hq=>?_) _ ok1 rfl rfl)
  have h1:=topC p hp
  have h2:=hiB q (by rw [q2];exact hq)
  (clear hq hp q2 loB hiB topC v3 v2 v1 eL q1 whole hiC lowC k3 k2 k1 ok1 nB nC eB kB kC hsz hlB hlC e hQ iB iC hl ok;omega)
 rw [if_neg (by simpa using q2)]
 have ex:((arrOf st).extract (P.length+k) (P.length+C.length)).toList=C.drop k:=by
  rw [Qek,List.drop_take,hlC,List.append_assoc,← List.drop_drop,List.drop_left,List.drop_append_of_le_length k1,show P.length+C.length-(P.length+k)=(C.drop k).length by rw [List.length_drop];(clear q2 loB hiB topC v3 v2 v1 eL q1 whole hiC lowC k3 k2 k1 ok1 nB nC eB kB kC hsz hlB hlC e hQ iB iC hl hq hp ok;omega),List.take_left]
 have ey:((arrOf st).extract (P.length+C.length) (P.length+C.length+v)).toList=B.take v:=by
  rw [Qek,List.drop_take,hlB,← lPC,List.append_assoc,List.drop_left,show (P++C).length+v-(P++C).length=v by (clear ex q2 loB hiB topC v3 v2 v1 eL q1 whole hiC lowC k3 k2 k1 ok1 nB nC eB kB kC hsz hlB hlC e hQ iB iC hl hq hp ok;omega),List.take_append_of_le_length v1]
 generalize hx:(arrOf st).extract (P.length+k) (P.length+C.length)=x at ex ⊢
 generalize hy:(arrOf st).extract (P.length+C.length) (P.length+C.length+v)=y at ey ⊢
 have zx:x.size=C.length-k:=by rw [← Array.length_toList,ex,List.length_drop]
 have zy:y.size=v:=by rw [← Array.length_toList,ey,List.length_take];(clear zx ey hy ex hx q2 loB hiB topC v3 v2 eL q1 whole hiC lowC k3 k2 k1 ok1 nB nC eB kB kC hsz hlB hlC e hQ iB iC hl hq hp ok;omega)
 have mr:Mr x y:=by
  refine ⟨λp hp=>nC p (by rw [ex] at hp;exact List.mem_of_mem_drop hp),λp hp=>nB p (by rw [ey] at hp;exact List.mem_of_mem_take hp),by rw [ex];exact iC.drop k,by rw [ey];exact iB.take v,by (clear zy ey hy ex hx q2 loB hiB topC v3 v2 v1 eL whole hiC lowC k3 k2 k1 ok1 nB nC eB kB kC hsz hlB hlC e hQ iB iC hl hq hp ok;omega),by (clear zx ey hy ex hx loB hiB topC v3 v2 v1 eL q1 whole hiC lowC k3 k2 k1 ok1 nB nC eB kB kC hsz hlB hlC e hQ iB iC hl hq hp ok;omega),λp hp q hq=>?_,λp hp q hq=>?_⟩
  ·rw [ey,List.take_take] at hp
   rw [ex] at hq
   have h1:=hiC q hq
   obtain ⟨t,ht,e⟩:=List.getElem_of_mem hp
   rw [List.length_take] at ht
   rw [List.getElem_take] at e
   have:t=0:=by (clear e h1 hq hp zy zx ey hy ex hx q2 loB hiB topC v3 v2 v1 eL q1 whole hiC lowC k3 k2 k1 ok1 nB nC eB kB kC hsz hlB hlC hQ iB iC hl ok;omega)
   subst this
   rw [← e];exact h1
  ·rw [ex] at hp
   rw [ey] at hq
   have h1:=loB q hq
   rw [List.drop_drop] at hp
   obtain ⟨t,ht,e⟩:=List.getElem_of_mem hp
   rw [List.length_drop] at ht
   rw [List.getElem_drop] at e
   have e3:k+(x.size-1)+t=C.length-1:=by (clear e h1 hq hp zy ey hy ex hx q2 loB hiB topC v3 v2 v1 eL q1 whole hiC lowC k3 k2 k1 ok1 nB nC eB kB kC hsz hlB hlC hQ iB iC hl ok;omega)
   have e4:nk p=nk (C[C.length-1]'(by (clear e3 e ht h1 hq hp zy zx ey hy ex hx q2 loB hiB topC v3 v2 v1 eL q1 whole hiC lowC k3 k2 k1 ok1 nB nC eB kB kC hsz hlB hlC hQ iB iC hl ok;omega))):=by rw [← e];congr 2
   (clear e hq hp zy zx ey hy ex hx q2 loB hiB topC v3 v2 v1 eL q1 whole hiC lowC k3 k2 ok1 nB nC eB kB kC hsz hlB hlC hQ iB iC hl ok;omega)
 have done:∀(o:Array Keyed) (st':SortSt),Keep (setPending st (((pendingOf st).setIfInBounds i (P.length,C.length+B.length,pw)).eraseIdxIfInBounds (i+1))) st'->Out x.toList y.toList o.toList ->
   wpS (model prog w) A E s (do
    modify λs=>setArr s (o.toList.zipIdx.foldl (λa (p,j)=>a.setIfInBounds (P.length+k+j) p) (arrOf s))
    return (failedOf (← get)).isNone:StateT SortSt Sem Bool) Q st':=λo st' kp ho=>by
  obtain ⟨hp,hi⟩:=ho
  rw [ex,ey] at hp
  have lo:o.toList.length=C.length-k+v:=by rw [hp.length_eq,List.length_append,List.length_drop,List.length_take];(clear hi hp kp mr zy zx ey hy ex hx q2 loB hiB topC v3 v2 eL q1 whole hiC lowC k3 k2 k1 ok1 nB nC eB kB kC hsz hlB hlC e hQ iB iC hl hq ok;omega)
  refine wpS_bind (wpS_modify ?_)
  refine wpS_bind (wpS_get ?_)
  have ea:arrOf st'=arrOf st:=kp.a
  have ef:failedOf st'=none:=kp.f.trans ok.f
  have el:(o.toList.zipIdx.foldl (λa (p,j)=>a.setIfInBounds (P.length+k+j) p) (arrOf st')).toList=P++(C.take k++o.toList++B.drop v)++S:=by
   rw [ea]
   have:=Qef o.toList (arrOf st) (P.length+k) 0 (by rw [hsz,lo];(clear ef ea lo hi hp kp mr zy zx ey hy ex hx q2 loB hiB topC v3 v2 eL q1 whole hiC lowC k3 k2 k1 ok1 nB nC eB kB kC hsz hlB hlC e hQ iB iC hl hq ok;omega))
   rw [Nat.add_zero] at this
   rw [this,lo]
   have t1:(arrOf st).toList.take (P.length+k)=P++C.take k:=by
    rw [hlC,List.append_assoc,List.take_append,show P.length+k-P.length=k by (clear this ef ea lo hi hp kp mr zy zx ey hy ex hx q2 loB hiB topC v3 v2 v1 eL q1 whole hiC lowC k3 k2 k1 ok1 nB nC eB kB kC hsz hlB hlC e hQ iB iC hl hq ok;omega),List.take_of_length_le (by (clear this ef ea lo hi hp kp mr zy zx ey hy ex hx q2 loB hiB topC v3 v2 v1 eL q1 whole hiC lowC k3 k2 k1 ok1 nB nC eB kB kC hsz hlB hlC e hQ iB iC hl hq ok;omega)),List.take_append_of_le_length k1]
   have t2:(arrOf st).toList.drop (P.length+k+(C.length-k+v))=B.drop v++S:=by
    rw [hlB,show P.length+k+(C.length-k+v)=(P++C).length+v by rw [lPC];(clear t1 this ef ea lo hi hp kp mr zy zx ey hy ex hx q2 loB hiB topC v3 v2 v1 eL q1 whole hiC lowC k3 k2 k1 ok1 nB nC eB kB kC hsz hlB hlC e hQ iB iC hl hq ok;omega),List.append_assoc,← List.drop_drop,List.drop_left,List.drop_append_of_le_length v1]
   rw [t1,t2];simp
  show wpS _ _ _ _ (pure ((failedOf st').isNone)) _ _
  rw [ef]
  refine wpS_pure (hQ _ (C.take k++o.toList++B.drop v) ⟨kp.k.trans ok1.k,λp hp'=>?_,ef⟩ kp.p el ?_ ?_)
  ·have hp':p∈P++(C.take k++o.toList++B.drop v)++S:=by rw [← el];exact hp'
   refine ok.n p ?_
   rw [hl]
   simp only [List.mem_append] at hp' ⊢
   rcases hp' with (h | (h | h) | h) | h
   ·exact .inl (.inl (.inl h))
   ·exact .inl (.inl (.inr (List.mem_of_mem_take h)))
   ·rcases List.mem_append.mp (hp.mem_iff.mp h) with h | h
    ·exact .inl (.inl (.inr (List.mem_of_mem_drop h)))
    ·exact .inl (.inr (List.mem_of_mem_take h))
   ·exact .inl (.inr (List.mem_of_mem_drop h))
   ·exact .inr h
  ·refine ((hp.append_left _).append_right _).trans ?_
   rw [← List.append_assoc,List.take_append_drop,List.append_assoc,List.take_append_drop]
  ·refine List.pairwise_append.mpr ⟨List.pairwise_append.mpr ⟨iC.take k,hi,λp hp' q hq=>?_⟩,iB.drop v,λp hp' q hq=>?_⟩
   ·rcases List.mem_append.mp (hp.mem_iff.mp hq) with h | h
    ·exact iC.split k p hp' q h
    ·exact lowC p hp' q (List.mem_of_mem_take h)
   ·rcases List.mem_append.mp hp' with h | h
    ·exact lowC p h q (List.mem_of_mem_drop hq)
    ·rcases List.mem_append.mp (hp.mem_iff.mp h) with h | h
     ·have h1:=topC p (List.mem_of_mem_drop h)
      have h2:=hiB q hq
      (clear h hq hp' el ef ea lo hi hp kp mr zy zx ey hy ex hx q2 loB hiB topC v3 v2 v1 eL q1 whole hiC lowC k3 k2 k1 ok1 nB nC eB kB kC hsz hlB hlC e hQ iB iC hl ok;omega)
     ·exact iB.split v p h q hq
 by_cases hle:C.length-k<=v
 ·rw [if_pos hle]
  exact wpS_bind (Qlh ok1.k mr λo st' kp ho=>done o st' kp ho)
 ·rw [if_neg hle]
  exact wpS_bind (Qli ok1.k mr λo st' kp ho=>done o st' kp ho)
end
end Srt
namespace Srt
open PySem PyProof.Rows
open KN (nk isN kind)
variable [KN]
structure SB (lo:Nat) (st0 st:SortSt):Prop where
 ok:Ok st
 perm:(arrOf st).Perm (arrOf st0)
 pend:pendingOf st=pendingOf st0
 pre:∀k,k<lo->(arrOf st)[k]? = (arrOf st0)[k]?
theorem SB.size {lo:Nat} {st0 st:SortSt} (h:SB lo st0 st):(arrOf st).size=(arrOf st0).size:=h.perm.size_eq
theorem SB.arr {lo:Nat} {st0 st:SortSt} (h:SB lo st0 st) {xs:Array Keyed} (hp:xs.Perm (arrOf st)) (hk:∀k,k<lo->xs[k]? = (arrOf st)[k]?):SB lo st0 (setArr st xs) :=
 ⟨⟨h.ok.k,λp hp'=>h.ok.n p ((Array.perm_iff_toList_perm.mp hp).mem_iff.mp hp'),h.ok.f⟩,hp.trans h.perm,h.pend,λk hk'=>(hk k hk').trans (h.pre k hk')⟩
def SF (a:Array Keyed) (lo k:Nat):Prop:=∀i j,i<=j->j<k->K a (lo+i)<=K a (lo+j)
section
variable {prog:Program} {w:World} {A:Around} {E:Value->Shared->Prop} {s:Shared} [KL prog w A E s] {st st0:SortSt} {lo:Nat}
theorem Qa1 {i j:Nat} {Q:Option Bool->SortSt->Prop} (ok:Ok st) (hi:i<(arrOf st).size) (hj:j<(arrOf st).size) (h:Q (some (decide (K (arrOf st) i<K (arrOf st) j))) st):wpS (model prog w) A E s (ltAt' i j) Q st:=by
 rw [ltAt'_eq]
 refine wpS_bind (wpS_get ?_)
 refine wpS_bind (Qs (Array.getElem?_eq_getElem hi) (wpS_bind (Qs (Array.getElem?_eq_getElem hj) (Ga ok.k (ok.n _ (by simp)) (ok.n _ (by simp)) ?_))))
 rw [K_nk hi,K_nk hj] at h
 exact h
theorem Qlo {n o:Nat} {Q:Bool->SortSt->Prop} (hB:SB lo st0 st) (hn:lo+n<=(arrOf st0).size) (ho:o<=n) (hs:SF (arrOf st) lo o) (h:∀st',SB lo st0 st'->SF (arrOf st') lo n->Q true st'):wpS (model prog w) A E s (binarySort' lo n o) Q st:=by
 rw [binarySort'_eq]
 refine wpS_bind (wpS_mono (wpS_forRange (I:=λk c st'=>c=(none,())/\SB lo st0 st'/\SF (arrOf st') lo (min k n)) (Q:=λc st'=>c=(none,())/\SB lo st0 st'/\SF (arrOf st') lo n) ?step ?fin ⟨rfl,hB,?init⟩) ?post)
 case post =>
  rintro c st' ⟨rfl,hB',hs'⟩
  exact wpS_pure (h st' hB' hs')
 case fin =>
  rintro c st' ⟨hc,hB',hs'⟩
  rw [show min (max (max o 1) n) n=n by (clear hs' hB' hc h hs ho hn hB;omega)] at hs'
  exact ⟨hc,hB',hs'⟩
 case init =>
  intro i j hij hj
  by_cases h1:o=0
  ·have:i=j:=by (clear h hs ho hn hB;omega)
   subst this;exact Int.le_refl _
  ·exact hs i j hij (by (clear hij h hs ho hn hB;omega))
 case step =>
  rintro k c st' hak hkn ⟨rfl,hB',hs'⟩
  have hsz:=hB'.size
  rw [show min k n=k by (clear hsz hs' hB' hak h hs ho hn hB;omega)] at hs'
  refine wpS_bind (wpS_mono (wpS_forRange (I:=λt c st2=>st2=st'/\∃l r,c=(none,l,r)/\l<=r/\r<=k/\r-l<=k-t/\(∀i,i<l->K (arrOf st') (lo+i)<=K (arrOf st') (lo+k))/\∀i,r<=i->i<k->K (arrOf st') (lo+k)<K (arrOf st') (lo+i))
   (Q:=λc st2=>st2=st'/\∃l,c=(none,l,l)/\l<=k/\(∀i,i<l->K (arrOf st') (lo+i)<=K (arrOf st') (lo+k))/\∀i,l<=i->i<k->K (arrOf st') (lo+k)<K (arrOf st') (lo+i)) ?js ?jf ⟨rfl,0,k,rfl,by (clear hsz hs' hB' hkn hak h hs ho hn hB;omega),by (clear hsz hs' hB' hkn hak h hs ho hn hB;omega),by (clear hsz hs' hB' hkn hak h hs ho hn hB;omega),λi hi=>by (clear hsz hs' hB' hkn hak h hs ho hn hB;omega),λi h1 h2=>by (clear hsz hs' hB' hkn hak h hs ho hn hB;omega)⟩) ?jp)
  case jf =>
   rintro c st2 ⟨rfl,l,r,rfl,b1,b2,b3,b4,b5⟩
   have:l=r:=by (clear b5 b4 b2 hsz hs' hB' hkn hak h hs ho hn hB;omega)
   subst this
   exact ⟨rfl,l,rfl,b2,b4,b5⟩
  case js =>
   rintro t c st2 _ ht ⟨rfl,l,r,rfl,b1,b2,b3,b4,b5⟩
   dsimp only
   by_cases hge:l ≥ r
   ·rw [if_pos hge]
    have:l=r:=by (clear b5 b4 b3 b2 hsz hs' hB' ht hkn hak h hs ho hn hB;omega)
    subst this
    exact wpS_pure ⟨rfl,l,rfl,b2,b4,b5⟩
   ·rw [if_neg hge]
    refine wpS_bind (Qa1 hB'.ok (by (clear hge b5 b4 b3 b2 b1 hs' hB' ht hak h hs ho hB;omega)) (by (clear hge b5 b4 b3 hs' hB' ht hak h hs ho hB;omega)) ?_)
    dsimp only
    by_cases hl:K (arrOf st2) (lo+k)<K (arrOf st2) (lo+(l+r) / 2)
    ·simp only [hl,decide_true,if_true]
     exact wpS_pure ⟨rfl,_,_,rfl,by (clear hl hge b5 b4 b3 b2 hsz hs' hB' ht hkn hak h hs ho hn hB;omega),by (clear hl hge b5 b4 b3 hsz hs' hB' ht hkn hak h hs ho hn hB;omega),by (clear hl hge b5 b4 b2 b1 hsz hs' hB' ht hkn hak h hs ho hn hB;omega),b4,λi h1 h2=>Int.lt_of_lt_of_le hl (hs' _ _ h1 h2)⟩
    ·simp only [hl,decide_false,Bool.false_eq_true,if_false]
     exact wpS_pure ⟨rfl,_,_,rfl,by (clear hl b5 b4 b3 b2 b1 hsz hs' hB' ht hkn hak h hs ho hn hB;omega),by (clear hl hge b5 b4 b3 b1 hsz hs' hB' ht hkn hak h hs ho hn hB;omega),by (clear hl hge b5 b4 b2 b1 hsz hs' hB' ht hkn hak h hs ho hn hB;omega),λi h1=>Int.le_trans (hs' i ((l+r) / 2) (by (clear hl hge b5 b4 b3 b2 b1 hsz hs' hB' ht hkn hak h hs ho hn hB;omega)) (by (clear h1 hl b5 b4 b3 b1 hsz hs' hB' ht hkn hak h hs ho hn hB;omega))) (Int.not_lt.mp hl),b5⟩
  case jp =>
   rintro c st2 ⟨rfl,l,rfl,b1,b2,b3⟩
   dsimp only
   rw [moveDown'_eq]
   have hks:lo+k<(arrOf st2).size:=by (clear b3 b2 b1 hs' hB' hak h hs ho hB;omega)
   refine wpS_bind (wpS_modify (wpS_pure ⟨rfl,hB'.arr (bubble_perm _ _ _) (λq hq=>?_),?_⟩))
   ·rw [getElem?_bubble hks _ (by (clear hq hks b3 b2 b1 hsz hs' hB' hkn hak h hs ho hn hB;omega)),if_neg (by (clear hks b3 b2 b1 hsz hs' hB' hkn hak h hs ho hn hB;omega)),if_neg (by (clear hks b3 b2 b1 hsz hs' hB' hkn hak h hs ho hn hB;omega))]
   ·rw [show min (k+1) n=k+1 by (clear hks b3 b2 b1 hsz hs' hB' hak h hs ho hn hB;omega)]
    intro i j hij hj
    show K (bubble (arrOf st2) (lo+k) (lo+k-(lo+l))) (lo+i)<=K (bubble (arrOf st2) (lo+k) (lo+k-(lo+l))) (lo+j)
    rw [Qq3 hks (by (clear hj hij hks b3 b2 b1 hsz hs' hB' hkn hak h hs ho hn hB;omega)),Qq3 hks (by (clear hj hij hks b3 b2 b1 hsz hs' hB' hkn hak h hs ho hn hB;omega)),show lo+k-(lo+k-(lo+l))=lo+l by (clear hj hij hks b3 b2 hsz hs' hB' hkn hak h hs ho hn hB;omega)]
    by_cases i1:i<l
    ·rw [if_neg (by (clear hj hij hks b3 b2 b1 hsz hs' hB' hkn hak h hs ho hn hB;omega)),if_neg (by (clear hj hij hks b3 b2 b1 hsz hs' hB' hkn hak h hs ho hn hB;omega))]
     by_cases j1:j<l
     ·rw [if_neg (by (clear i1 hj hij hks b3 b2 b1 hsz hs' hB' hkn hak h hs ho hn hB;omega)),if_neg (by (clear i1 hj hij hks b3 b2 b1 hsz hs' hB' hkn hak h hs ho hn hB;omega))];exact hs' i j hij (by (clear i1 hj hij hks b3 b2 hsz hs' hB' hkn hak h hs ho hn hB;omega))
     ·by_cases j2:j=l
      ·rw [if_pos (by (clear j1 i1 hj hij hks b3 b2 b1 hsz hs' hB' hkn hak h hs ho hn hB;omega))];exact b2 i i1
      ·rw [if_neg (by (clear j1 i1 hj hij hks b3 b2 b1 hsz hs' hB' hkn hak h hs ho hn hB;omega)),if_pos (by (clear i1 hij hks b3 b2 b1 hsz hs' hB' hkn hak h hs ho hn hB;omega)),show lo+j-1=lo+(j-1) by (clear j2 hj hij hks b3 b2 b1 hsz hs' hB' hkn hak h hs ho hn hB;omega)]
       exact hs' i (j-1) (by (clear j2 hj hij hks b3 b2 b1 hsz hs' hB' hkn hak h hs ho hn hB;omega)) (by (clear j2 j1 i1 hij hks b3 b2 b1 hsz hs' hB' hkn h hs ho hn hB;omega))
    ·by_cases i2:i=l
     ·rw [if_pos (by (clear i1 hj hij hks b3 b2 b1 hsz hs' hB' hkn hak h hs ho hn hB;omega))]
      by_cases j2:j=l
      ·rw [if_pos (by (clear i2 i1 hj hij hks b3 b2 b1 hsz hs' hB' hkn hak h hs ho hn hB;omega))];exact Int.le_refl _
      ·rw [if_neg (by (clear i2 i1 hj hij hks b3 b2 b1 hsz hs' hB' hkn hak h hs ho hn hB;omega)),if_pos (by (clear i2 hks b3 b2 b1 hsz hs' hB' hkn hak h hs ho hn hB;omega)),show lo+j-1=lo+(j-1) by (clear i2 hj hks b3 b2 b1 hsz hs' hB' hkn hak h hs ho hn hB;omega)]
       exact Int.le_of_lt (b3 _ (by (clear i2 hj hks b3 b2 b1 hsz hs' hB' hkn hak h hs ho hn hB;omega)) (by (clear j2 i2 i1 hij hks b3 b2 b1 hsz hs' hB' hkn h hs ho hn hB;omega)))
     ·rw [if_neg (by (clear i1 hj hij hks b3 b2 b1 hsz hs' hB' hkn hak h hs ho hn hB;omega)),if_pos (by (clear hks b3 b2 b1 hsz hs' hB' hkn hak h hs ho hn hB;omega)),if_neg (by (clear hj hks b3 b2 b1 hsz hs' hB' hkn hak h hs ho hn hB;omega)),if_pos (by (clear hks b3 b2 b1 hsz hs' hB' hkn hak h hs ho hn hB;omega)),show lo+j-1=lo+(j-1) by (clear hj hks b3 b2 b1 hsz hs' hB' hkn hak h hs ho hn hB;omega),show lo+i-1=lo+(i-1) by (clear hj hij hks b3 b2 b1 hsz hs' hB' hkn hak h hs ho hn hB;omega)]
      exact hs' _ _ (by (clear i2 i1 hj hks b3 b2 b1 hsz hs' hB' hkn hak h hs ho hn hB;omega)) (by (clear i2 i1 hij hks b3 b2 b1 hsz hs' hB' hkn h hs ho hn hB;omega))
end
end Srt
namespace Srt
open PySem PyProof.Rows
open KN (nk isN kind)
variable [KN]
section
variable {prog:Program} {w:World} {A:Around} {E:Value->Shared->Prop} {s:Shared} [KL prog w A E s] {st st0:SortSt} {lo:Nat}
def NI (a:Array Keyed) (lo k:Nat):Prop:=∀i j,i<=j->j<k->K a (lo+j)<=K a (lo+i)
theorem SF.one {a:Array Keyed} {lo:Nat}:SF a lo 1:=λi j hij hj=>by
 have:i=j:=by omega
 subst this;exact Int.le_refl _
theorem SF.more {a:Array Keyed} {lo n:Nat} (h:SF a lo n) (h1:1<=n) (hn:¬K a (lo+n)<K a (lo+n-1)):SF a lo (n+1):=λi j hij hj=>by
 by_cases hjn:j<n
 ·exact h i j hij hjn
 ·have:j=n:=by (clear hij hn h1 h;omega)
  subst this
  by_cases hi:i=j
  ·subst hi;exact Int.le_refl _
  ·have:=h i (j-1) (by (clear hjn hj hn h1 h;omega)) (by (clear hi hjn hj hn h hij;omega))
   rw [show lo+(j-1)=lo+j-1 by (clear this hi hjn hj hn h hij;omega)] at this
   (clear hi hjn hj h1 h hij;omega)
theorem NI.more {a:Array Keyed} {lo n:Nat} (h:NI a lo n) (h1:1<=n) (hn:K a (lo+n)<=K a (lo+n-1)):NI a lo (n+1):=λi j hij hj=>by
 by_cases hjn:j<n
 ·exact h i j hij hjn
 ·have:j=n:=by (clear hij hn h1 h;omega)
  subst this
  by_cases hi:i=j
  ·subst hi;exact Int.le_refl _
  ·have:=h i (j-1) (by (clear hjn hj hn h1 h;omega)) (by (clear hi hjn hj hn h hij;omega))
   rw [show lo+(j-1)=lo+j-1 by (clear this hi hjn hj hn h hij;omega)] at this
   (clear hi hjn hj h1 h hij;omega)
theorem SB.mir {i j:Nat} (h:SB lo st0 st) (hi:lo<=i) (hj:j<=(arrOf st).size):SB lo st0 (setArr st (mirror (arrOf st) i j ((j-i) / 2))) :=
 h.arr (mirror_perm _ _ _ _) λk hk=>by rw [getElem?_mirror_all hj,if_neg (by (clear hj h;omega))]
theorem Xx {i j:Nat} {Q:Unit->SortSt->Prop} (h:Q () (setArr st (mirror (arrOf st) i j ((j-i) / 2)))):wpS (model prog w) A E s (reverseSlice' i j) Q st:=by
 rw [reverseSlice'_eq];exact wpS_modify h
theorem Qf1 {a nrem:Nat} {Q:Option (Option Nat) × Nat->SortSt->Prop} (hB:SB lo st0 st) (hn:lo+nrem<=(arrOf st0).size) (ha:1<=a) (han:a<=nrem) (hs:SF (arrOf st) lo a)
  (h:∀n,a<=n->n<=nrem->SF (arrOf st) lo n->(n=nrem\/K (arrOf st) (lo+n)<K (arrOf st) (lo+n-1))->Q (none,n) st) :
  wpS (model prog w) A E s (forIn [a:nrem] ((none,a):Option (Option Nat) × Nat) λ_ c=>do
   let x ← ltAt' (lo+c.2) (lo+c.2-1)
   match x with
   | some m=>if m=true then pure (ForInStep.done (none,c.2)) else pure (ForInStep.yield (none,c.2+1))
   | _=>pure (ForInStep.done (some none,c.2))) Q st:=by
 have hsz:=hB.size
 refine wpS_forRange (I:=λx c st'=>st'=st/\c=(none,x)/\SF (arrOf st) lo x) ?step ?fin ⟨rfl,rfl,hs⟩
 case fin =>
  rintro c st' ⟨rfl,rfl,hs'⟩
  rw [show max a nrem=nrem by omega] at hs' ⊢
  exact h nrem han (Nat.le_refl _) hs' (.inl rfl)
 case step =>
  rintro x c st' hax hxn ⟨rfl,rfl,hs'⟩
  dsimp only
  refine wpS_bind (Qa1 hB.ok (by (clear hs' h hs hB hax han ha;omega)) (by (clear hs' h hs hB hax han ha;omega)) ?_)
  by_cases hl:K (arrOf st') (lo+x)<K (arrOf st') (lo+x-1)
  ·simp only [hl,decide_true,if_true]
   exact wpS_pure (h x hax (by (clear hl hs' hsz h hs hB hax han ha hn;omega)) hs' (.inr hl))
  ·simp only [hl,decide_false,Bool.false_eq_true,if_false]
   exact wpS_pure ⟨rfl,rfl,hs'.more (by (clear hl hs' hsz h hs hB hxn han hn;omega)) hl⟩
theorem Qpw {xs:Array Keyed} {i j:Nat} (hj:j<=xs.size) (k:Nat):K (mirror xs i j ((j-i) / 2)) k=if i<=k/\k<j then K xs (i+j-1-k) else K xs k:=Qq2 hj k
theorem Zr {xs:Array Keyed} {i j:Nat} (hj:j<=xs.size) (he:∀k,i<=k->k<j->K xs k=K xs (j-1)) (k:Nat):K (mirror xs i j ((j-i) / 2)) k=K xs k:=Qft hj he k
theorem Qlg {nrem:Nat} {Q:Option Nat->SortSt->Prop} (hB:SB lo st0 st) (hn:lo+nrem<=(arrOf st0).size) (h1:1<=nrem)
  (h:∀m st',SB lo st0 st'->1<=m->m<=nrem->SF (arrOf st') lo m->Q (some m) st'):wpS (model prog w) A E s (countRun' lo nrem) Q st:=by
 rw [countRun'_eq]
 dsimp only
 have hsz:=hB.size
 refine wpS_bind (Qf1 hB hn (Nat.le_refl 1) h1 SF.one λn n1 n2 n3 n4=>?_)
 dsimp only
 by_cases q1:n=nrem
 ·rw [if_pos (by simpa using q1)]
  exact wpS_pure (h n st hB n1 n2 n3)
 rw [if_neg (by simpa using q1)]
 have hlt:=n4.resolve_left q1
 refine' (λ(fin:∀st1,SB lo st0 st1->NI (arrOf st1) lo (n+1)->wpS (model prog w) A E s _ Q st1)=>?main) ?later
 case main =>
  by_cases q2:n > 1
  ·rw [if_pos q2]
   refine wpS_bind (Qa1 hB.ok (by (clear fin q2 hlt q1 n4 n3 n2 n1 h hB;omega)) (by (clear fin q2 hlt q1 n4 n3 n1 h hB;omega)) ?_)
   dsimp only
   by_cases q3:K (arrOf st) lo<K (arrOf st) (lo+n-1)
   ·simp only [q3,decide_true,if_true]
    exact wpS_pure (h n st hB n1 n2 n3)
   simp only [q3,decide_false,Bool.false_eq_true,if_false]
   have hall:∀k,lo<=k->k<lo+n->K (arrOf st) k=K (arrOf st) (lo+n-1):=λk a b=>by
    have a1:=n3 0 (k-lo) (by (clear fin b a q3 q2 hlt q1 n4 n3 n2 n1 hsz h h1 hn hB;omega)) (by (clear fin a q3 q2 hlt q1 n4 n3 n2 hsz h h1 hn hB;omega))
    have a2:=n3 (k-lo) (n-1) (by (clear fin a1 a q3 q2 hlt q1 n4 n3 n2 n1 hsz h h1 hn hB;omega)) (by (clear fin a1 b a q3 q2 hlt q1 n4 n3 n2 hsz h h1 hn hB;omega))
    rw [Nat.add_zero,show lo+(k-lo)=k by (clear fin a2 a1 b q3 q2 hlt q1 n4 n3 n2 n1 hsz h h1 hn hB;omega)] at a1
    rw [show lo+(k-lo)=k by (clear fin a2 a1 b q3 q2 hlt q1 n4 n3 n2 n1 hsz h h1 hn hB;omega),show lo+(n-1)=lo+n-1 by (clear fin a2 a1 b a q3 q2 hlt q1 n4 n3 n2 hsz h h1 hn hB;omega)] at a2
    (clear fin b a q2 hlt q1 n4 n3 n2 n1 hsz h h1 hn hB;omega)
   refine wpS_bind (Xx ?_)
   have hB1:=hB.mir (i:=lo) (j:=lo+n) (Nat.le_refl _) (by (clear fin hall q3 q2 hlt q1 n4 n3 n1 h h1 hB;omega))
   have hN1:NI (arrOf (setArr st (mirror (arrOf st) lo (lo+n) ((lo+n-lo) / 2)))) lo (n+1):=by
    intro i j hij hj
    show K (mirror (arrOf st) lo (lo+n) ((lo+n-lo) / 2)) (lo+j)<=K (mirror (arrOf st) lo (lo+n) ((lo+n-lo) / 2)) (lo+i)
    rw [Zr (by (clear fin hj hij hB1 hall q3 q2 hlt q1 n4 n3 n1 h h1 hB;omega)) hall,Zr (by (clear fin hj hij hB1 hall q3 q2 hlt q1 n4 n3 n1 h h1 hB;omega)) hall]
    by_cases hjn:j<n
    ·rw [hall _ (by (clear fin hjn hj hij hB1 hall q3 q2 hlt q1 n4 n3 n2 n1 hsz h h1 hn hB;omega)) (by (clear fin hj hij hB1 hall q3 q2 hlt q1 n4 n3 n2 n1 hsz h h1 hn hB;omega)),hall (lo+i) (by (clear fin hjn hj hij hB1 hall q3 q2 hlt q1 n4 n3 n2 n1 hsz h h1 hn hB;omega)) (by (clear fin hj hB1 hall q3 q2 hlt q1 n4 n3 n2 n1 hsz h h1 hn hB;omega))];exact Int.le_refl _
    ·have:j=n:=by (clear fin hij hB1 hall q3 q2 hlt q1 n4 n3 n2 n1 hsz h h1 hn hB;omega)
     subst this
     by_cases hi:i=j
     ·subst hi;exact Int.le_refl _
     ·rw [hall (lo+i) (by (clear fin hi hjn hj hB1 hall q3 q2 hlt q1 n4 n3 n2 n1 hij hsz h h1 hn hB;omega)) (by (clear fin hjn hj hB1 hall q3 q2 hlt q1 n4 n3 n2 n1 hsz h h1 hn hB;omega))];exact Int.le_of_lt hlt
   exact fin _ hB1 hN1
  ·rw [if_neg q2]
   have hn1:n=1:=by (clear fin hlt q1 n4 n3 n2 hsz h h1 hn hB;omega)
   have hB1:=hB
   have hN1:NI (arrOf st) lo (n+1):=NI.more (λi j hij hj=>by
    have:i=j:=by (clear fin hB1 hn1 hlt q1 n4 n3 n2 n1 hsz h h1 hn hB;omega)
    subst this;exact Int.le_refl _) (by (clear fin hB1 hn1 q2 hlt q1 n4 n3 n2 hsz h h1 hn hB;omega)) (Int.le_of_lt hlt)
   exact fin _ hB1 hN1
 case later =>
  intro st1 hB1 hN1
  clear hB n3 n4 hlt hsz
  have hsz1:=hB1.size
  refine wpS_bind (wpS_lift (wpAny_rule ⟨rfl,?_⟩))
  refine wpS_bind (wpS_mono (wpS_forRange (I:=λx c st'=>∃q,c=(none,x,q)/\SB lo st0 st'/\NI (arrOf st') lo x/\q+1<=x/\∀i,lo+x-(q+1)<=i->i<lo+x->K (arrOf st') i=K (arrOf st') (lo+x-1))
   (Q:=λc st'=>∃x q,c=(none,x,q)/\n+1<=x/\x<=nrem/\SB lo st0 st'/\NI (arrOf st') lo x/\q+1<=x/\∀i,lo+x-(q+1)<=i->i<lo+x->K (arrOf st') i=K (arrOf st') (lo+x-1)) ?step ?fin ⟨0,rfl,hB1,hN1,by omega,λi a b=>by congr 1;omega⟩) ?post)
  case fin =>
   rintro c st' ⟨q,rfl,b1,b2,b3,b4⟩
   rw [show max (n+1) nrem=nrem by omega] at *
   exact ⟨nrem,q,rfl,by omega,by omega,b1,b2,b3,b4⟩
  case step =>
   rintro x c st' hx1 hx2 ⟨q,rfl,b1,b2,b3,b4⟩
   dsimp only
   have hz:=b1.size
   refine wpS_bind (Qa1 b1.ok (by omega) (by omega) ?_)
   dsimp only
   by_cases hl:K (arrOf st') (lo+x)<K (arrOf st') (lo+x-1)
   ·simp only [hl,decide_true,if_true]
    by_cases hq:q > 0
    ·rw [if_pos hq]
     refine wpS_bind (Xx (wpS_pure ⟨0,rfl,b1.mir (by omega) (by omega),λi j hij hj=>?_,by omega,λi a b=>by congr 1;omega⟩))
     show K (mirror (arrOf st') _ _ _) _<=K (mirror (arrOf st') _ _ _) _
     rw [Zr (by omega) (λk a b=>b4 k (by omega) b),Zr (by omega) (λk a b=>b4 k (by omega) b)]
     exact b2.more (by omega) (Int.le_of_lt hl) i j hij hj
    ·rw [if_neg hq]
     exact wpS_pure ⟨0,rfl,b1,b2.more (by omega) (Int.le_of_lt hl),by omega,λi a b=>by congr 1;omega⟩
   ·simp only [hl,decide_false,Bool.false_eq_true,if_false]
    refine wpS_bind (Qa1 b1.ok (by omega) (by omega) ?_)
    dsimp only
    by_cases hl2:K (arrOf st') (lo+x-1)<K (arrOf st') (lo+x)
    ·simp only [hl2,decide_true,if_true]
     exact wpS_pure ⟨x,q,rfl,by omega,by omega,b1,b2,b3,b4⟩
    ·simp only [hl2,decide_false,Bool.false_eq_true,if_false]
     have he:K (arrOf st') (lo+x)=K (arrOf st') (lo+x-1):=by omega
     refine wpS_pure ⟨q+1,rfl,b1,b2.more (by omega) (by omega),by omega,λi a b=>?_⟩
     rw [show lo+(x+1)-1=lo+x by omega]
     by_cases hi:i=lo+x
     ·rw [hi]
     ·rw [he];exact b4 i (by omega) (by omega)
  case post =>
   rintro c st' ⟨x,q,rfl,c1,c2,b1,b2,b3,b4⟩
   dsimp only
   have hz:=b1.size
   by_cases hq:q > 0
   rw [if_pos hq]
   refine wpS_bind (Xx ?_)
   have b1':=b1.mir (i:=lo+x-(q+1)) (j:=lo+x) (by omega) (by omega)
   have b2':NI (arrOf (setArr st' (mirror (arrOf st') (lo+x-(q+1)) (lo+x) ((lo+x-(lo+x-(q+1))) / 2)))) lo x:=λi j hij hj=>by
    show K (mirror (arrOf st') _ _ _) _<=K (mirror (arrOf st') _ _ _) _
    rw [Zr (by omega) b4,Zr (by omega) b4]
    exact b2 i j hij hj
   generalize setArr st' (mirror (arrOf st') (lo+x-(q+1)) (lo+x) ((lo+x-(lo+x-(q+1))) / 2))=st2 at b1' b2' ⊢
   rotate_left
   rw [if_neg hq]
   have b1':=b1
   have b2':=b2
   clear b1 b2 b4 hz
   generalize st'=st2 at b1' b2' ⊢
   all_goals
    have hz2:=b1'.size
    refine wpS_bind (Xx ?_)
    have b3':=b1'.mir (i:=lo) (j:=lo+x) (Nat.le_refl _) (by omega)
    refine wpS_bind (Qf1 b3' hn (by omega) c2 (λi j hij hj=>?_) λm m1 m2 m3 _=>?_)
    ·show K (mirror (arrOf st2) lo (lo+x) _) _<=K (mirror (arrOf st2) lo (lo+x) _) _
     rw [Qpw (by omega),Qpw (by omega),if_pos (by omega),if_pos (by omega),show lo+(lo+x)-1-(lo+i)=lo+(x-1-i) by omega,show lo+(lo+x)-1-(lo+j)=lo+(x-1-j) by omega]
     exact b2' _ _ (by omega) (by omega)
    ·exact wpS_pure (h m _ b3' (by omega) m2 m3)
end
end Srt
namespace Srt
open PySem PyProof.Rows
open KN (nk isN kind)
variable [KN]
def Pd:Nat->List (List Keyed)->List (Nat × Nat × Nat)->Prop
 | _,[],[]=>True
 | o,R::rs,(a,n,_)::ps=>a=o/\n=R.length/\Pd (o+R.length) rs ps
 | _,_,_=>False
theorem Pd.len:∀{o:Nat} {rs:List (List Keyed)} {ps:List (Nat × Nat × Nat)},Pd o rs ps->ps.length=rs.length
 | _,[],[],_=>rfl
 | _,R::rs,(a,n,w)::ps,h=>by rw [List.length_cons,List.length_cons,Pd.len h.2.2]
 | _,[],_::_,h=>h.elim
 | _,_::_,[],h=>h.elim
theorem Pd.merge:∀{o:Nat} {rs1:List (List Keyed)} {C B:List Keyed} {rs2:List (List Keyed)} {ps:List (Nat × Nat × Nat)},Pd o (rs1++C::B::rs2) ps ->
  ∃pw pw',ps[rs1.length]? = some (o+rs1.flatten.length,C.length,pw)/\ps[rs1.length+1]? = some (o+rs1.flatten.length+C.length,B.length,pw')/\∀R:List Keyed,R.length=C.length+B.length->Pd o (rs1++R::rs2) ((ps.set rs1.length (o+rs1.flatten.length,C.length+B.length,pw)).eraseIdx (rs1.length+1))
 | o,[],C,B,rs2,(a,n,w)::(a',n',w')::ps,h=>by
  obtain ⟨rfl,rfl,rfl,rfl,h⟩:=h
  refine ⟨w,w',by simp,by simp,λR hR=>?_⟩
  exact ⟨by simp,by rw [hR],by rw [hR,← Nat.add_assoc];exact h⟩
 | o,D::rs1,C,B,rs2,(a,n,w)::ps,h=>by
  obtain ⟨rfl,rfl,h⟩:=h
  obtain ⟨pw,pw',h1,h2,h3⟩:=Pd.merge h
  have e:a+(D::rs1).flatten.length=a+D.length+rs1.flatten.length:=by simp;(clear h3 h2 h1 h;omega)
  refine ⟨pw,pw',?_,?_,λR hR=>⟨rfl,rfl,?_⟩⟩
  ·rw [e];exact h1
  ·rw [e];exact h2
  ·rw [e];exact h3 R hR
 | _,[],_,_,_,[],h=>h.elim
 | _,[],_,_,_,[_],h=>by obtain ⟨_,_,h⟩:=h;exact h.elim
 | _,_::_,_,_,_,[],h=>h.elim
theorem Pd.snoc:∀{o:Nat} {rs:List (List Keyed)} {R:List Keyed} {ps:List (Nat × Nat × Nat)},Pd o rs ps->Pd o (rs++[R]) (ps++[(o+rs.flatten.length,R.length,0)])
 | o,[],R,[],_=>⟨by simp,rfl,trivial⟩
 | o,D::rs,R,(a,n,w)::ps,h=>by
  obtain ⟨rfl,rfl,h⟩:=h
  refine ⟨rfl,rfl,?_⟩
  have:=Pd.snoc (R:=R) h
  rw [show a+(D::rs).flatten.length=a+D.length+rs.flatten.length by simp;(clear this h;omega)]
  exact this
 | _,[],_,_::_,h=>h.elim
 | _,_::_,_,[],h=>h.elim
theorem Pd.modify {o:Nat} {rs:List (List Keyed)} {pw:Nat}:∀{o:Nat} {rs:List (List Keyed)} {ps:List (Nat × Nat × Nat)} (i:Nat),Pd o rs ps->Pd o rs (ps.modify i λ(a,n,_)=>(a,n,pw))
 | o,[],[],i,_=>by simp;trivial
 | o,R::rs,(a,n,w)::ps,0,h=>h
 | o,R::rs,(a,n,w)::ps,i+1,h=>⟨h.1,h.2.1,Pd.modify (o:=o) (rs:=rs) i h.2.2⟩
 | _,[],_::_,_,h=>h.elim
 | _,_::_,[],_,h=>h.elim
structure RI (a₀:Array Keyed) (st:SortSt) (runs:List (List Keyed)) (T:List Keyed):Prop where
 ok:Ok st
 perm:(arrOf st).Perm a₀
 lst:(arrOf st).toList=runs.flatten++T
 pd:Pd 0 runs (pendingOf st).toList
 inc:∀R∈runs,Inc R/\0<R.length
section
variable {prog:Program} {w:World} {A:Around} {E:Value->Shared->Prop} {s:Shared} [KL prog w A E s] {st:SortSt} {a₀:Array Keyed} {runs:List (List Keyed)} {T:List Keyed}
theorem RI.psize (h:RI a₀ st runs T):(pendingOf st).size=runs.length:=by rw [← Array.length_toList];exact h.pd.len
theorem RI.alen (h:RI a₀ st runs T):runs.flatten.length+T.length=a₀.size:=by
 have:=congrArg List.length h.lst
 rw [List.length_append,Array.length_toList,h.perm.size_eq] at this
 (clear h;omega)
theorem Qdi {i:Nat} {Q:Bool->SortSt->Prop} (h:RI a₀ st runs T) (hi:i+1<runs.length) (hQ:∀st' runs',RI a₀ st' runs' T->runs'.length+1=runs.length->Q true st'):wpS (model prog w) A E s (mergeAt' i) Q st:=by
 obtain ⟨rs1,C,B,rs2,rfl,rfl⟩:∃rs1 C B rs2,runs=rs1++C::B::rs2/\rs1.length=i:=by
  refine ⟨runs.take i,runs[i],runs[i+1],runs.drop (i+2),?_,by rw [List.length_take];(clear hQ h;omega)⟩
  rw [← List.drop_eq_getElem_cons,← List.drop_eq_getElem_cons,List.take_append_drop]
 obtain ⟨pw,pw',h1,h2,h3⟩:=Pd.merge h.pd
 rw [Nat.zero_add] at h1 h2 h3
 have iC:=h.inc C (by simp)
 have iB:=h.inc B (by simp)
 refine Qlj (P:=rs1.flatten) (C:=C) (B:=B) (S:=rs2.flatten++T) (pw:=pw) (pw':=pw') h.ok (by rw [← Array.getElem?_toList];exact h1) (by rw [← Array.getElem?_toList];exact h2) (by rw [h.lst];simp) iC.2 iB.2 iC.1 iB.1 λst' R o1 o2 o3 o4 o5=>?_
 have lR:R.length=C.length+B.length:=by rw [o4.length_eq,List.length_append]
 refine hQ st' (rs1++R::rs2) ⟨o1,?_,by rw [o3];simp,?_,λD hD=>?_⟩ (by simp;(clear lR o5 o4 o3 o2 o1 iB iC h3 h2 h1 hi hQ h;omega))
 ·refine Array.perm_iff_toList_perm.mpr ?_
  refine List.Perm.trans ?_ (Array.perm_iff_toList_perm.mp h.perm)
  rw [o3,h.lst]
  simp only [List.flatten_append,List.flatten_cons,List.append_assoc]
  refine List.Perm.append_left _ ?_
  rw [← List.append_assoc C]
  exact List.Perm.append_right _ o4
 ·rw [o2]
  have:=h3 R lR
  rw [Array.toList_eraseIdxIfInBounds,Array.toList_setIfInBounds]
  exact this
 ·simp only [List.mem_append,List.mem_cons] at hD
  rcases hD with hD | rfl | hD
  ·exact h.inc D (by simp [hD])
  ·exact ⟨o5,by (clear o5 o4 o3 o2 o1 iB h3 h2 h1 hi hQ h;omega)⟩
  ·exact h.inc D (by simp [hD])
theorem RI.cut {st2:SortSt} {n:Nat} (h:RI a₀ st runs T) (b:SB runs.flatten.length st st2) (hs:SF (arrOf st2) runs.flatten.length n) (hn:runs.flatten.length+n<=a₀.size) (h0:0<n) :
  ∃R T',R.length=n/\Inc R/\RI a₀ st2 runs (R++T'):=by
 have hsz:(arrOf st2).size=a₀.size:=b.size.trans h.perm.size_eq
 have hz2:(arrOf st2).toList.length=a₀.size:=by rw [Array.length_toList];exact hsz
 refine ⟨((arrOf st2).toList.drop runs.flatten.length).take n,(arrOf st2).toList.drop (runs.flatten.length+n),?_,?_,b.ok,b.perm.trans h.perm,?_,by rw [b.pend];exact h.pd,h.inc⟩
 ·rw [List.length_take,List.length_drop];(clear hsz h0 hs b h;omega)
 ·refine List.pairwise_iff_getElem.mpr λi j hi hj hij=>?_
  rw [List.length_take,List.length_drop] at hi hj
  have:=hs i j (by (clear hj hi hz2 hsz h0 hn hs b h;omega)) (by (clear hij hi hz2 hsz h0 hn hs b h;omega))
  rw [K_nk (by (clear this hij hj hz2 h0 hs b h;omega)),K_nk (by (clear this hij h0 hs b h;omega))] at this
  simpa [List.getElem_take,List.getElem_drop] using this
 ·have e1:(arrOf st2).toList.take runs.flatten.length=runs.flatten:=by
   have:(arrOf st2).toList.take runs.flatten.length=(arrOf st).toList.take runs.flatten.length:=by
    apply List.ext_getElem?
    intro k
    by_cases hk:k<runs.flatten.length
    ·rw [List.getElem?_take_of_lt hk,List.getElem?_take_of_lt hk,Array.getElem?_toList,Array.getElem?_toList]
     exact b.pre k hk
    ·rw [List.getElem?_eq_none (by rw [List.length_take];(clear hz2 hsz h0 hn hs b h;omega)),List.getElem?_eq_none (by rw [List.length_take];(clear hz2 hsz h0 hn hs b h;omega))]
   rw [this,h.lst,List.take_left]
  have e2:((arrOf st2).toList.drop runs.flatten.length).take n++(arrOf st2).toList.drop (runs.flatten.length+n)=(arrOf st2).toList.drop runs.flatten.length:=by
   rw [← List.drop_drop,List.take_append_drop]
  rw [e2]
  have:=List.take_append_drop runs.flatten.length (arrOf st2).toList
  rw [e1] at this
  exact this.symm
theorem RI.push {R:List Keyed} {T':List Keyed} (h:RI a₀ st runs (R++T')) (iR:Inc R) (l0:0<R.length) {lo:Nat} (hlo:runs.flatten.length=lo):RI a₀ (setPending st ((pendingOf st).push (lo,R.length,0))) (runs++[R]) T':=by
 refine ⟨⟨h.ok.k,h.ok.n,h.ok.f⟩,h.perm,by show (arrOf st).toList=_;rw [h.lst];simp,?_,λD hD=>?_⟩
 ·show Pd 0 (runs++[R]) ((pendingOf st).push (lo,R.length,0)).toList
  rw [Array.toList_push]
  have:=h.pd.snoc (R:=R)
  rw [Nat.zero_add,hlo] at this
  exact this
 ·rcases List.mem_append.mp hD with hD | hD
  ·exact h.inc D hD
  ·rw [List.mem_singleton.mp hD];exact ⟨iR,l0⟩
theorem RI.mod {pw i:Nat} (h:RI a₀ st runs T):RI a₀ (setPending st ((pendingOf st).modify i λ(a,n,_)=>(a,n,pw))) runs T:=by
 refine ⟨⟨h.ok.k,h.ok.n,h.ok.f⟩,h.perm,h.lst,?_,h.inc⟩
 show Pd 0 runs ((pendingOf st).modify i λ(a,n,_)=>(a,n,pw)).toList
 rw [Array.toList_modify]
 exact Pd.modify (o:=0) (rs:=runs) i h.pd
theorem Qf2 {Q:Unit->SortSt->Prop} (ok:Ok st) (hp:pendingOf st = #[]) (h2:2<=(arrOf st).size)
  (h:∀st',(arrOf st').Perm (arrOf st)->failedOf st'=none->Qax (arrOf st') (arrOf st).size->Q () st'):wpS (model prog w) A E s sortRuns' Q st:=by
 rw [sortRuns'_eq]
 refine wpS_bind (wpS_get ?_)
 dsimp only
 generalize ha:arrOf st=a₀ at *
 have hR0:RI a₀ st [] a₀.toList:=⟨ok,by rw [ha],by rw [ha];rfl,by rw [hp];trivial,λR hR=>nomatch hR⟩
 generalize minRun' a₀.size a₀.size 0=mr
 refine wpS_bind (wpS_mono (wpS_forRange (I:=λx c st'=>∃lo runs T,c=(none,lo)/\RI a₀ st' runs T/\runs.flatten.length=lo/\x<=lo)
  (Q:=λc st'=>∃runs,c=(none,a₀.size)/\RI a₀ st' runs []) ?step ?fin ⟨0,[],_,rfl,hR0,rfl,Nat.le_refl _⟩) ?post)
 case fin =>
  rintro c st' ⟨lo,runs,T,rfl,ri,hl,hx⟩
  have:=ri.alen
  have hT:T=[]:=List.length_eq_zero_iff.mp (by (clear ri hR0 h h2 ha hp ok;omega))
  subst hT
  rw [List.length_nil,Nat.add_zero] at this
  exact ⟨runs,by rw [← this,hl],ri⟩
 case step =>
  rintro x c st' _ hx ⟨lo,runs,T,rfl,ri,hl,hxl⟩
  have hal:=ri.alen
  dsimp only
  by_cases hge:lo ≥ a₀.size
  ·rw [if_pos hge]
   have hT:T=[]:=List.length_eq_zero_iff.mp (by (clear hxl ri hx hR0 h h2 ha hp ok;omega))
   subst hT
   rw [List.length_nil,Nat.add_zero] at hal
   exact wpS_pure ⟨runs,by rw [← hal,hl],ri⟩
  rw [if_neg hge]
  have hz:(arrOf st').size=a₀.size:=ri.perm.size_eq
  subst hl
  have hB:SB runs.flatten.length st' st':=⟨ri.ok,Array.Perm.refl _,rfl,λ_ _=>rfl⟩
  refine wpS_bind (Qlg hB (by (clear hB hge hxl ri hx hR0 h h2 ha hp ok;omega)) (by (clear hB hxl hz hal ri hx hR0 h h2 ha hp ok;omega)) λm st2 b m1 m2 m3=>?_)
  dsimp only
  by_cases hmr:m<mr
  rw [if_pos hmr]
  refine wpS_bind (wpS_lift (wpAny_rule ⟨rfl,?_⟩))
  refine wpS_bind (Qlo b (show runs.flatten.length+min (a₀.size-runs.flatten.length) mr<=(arrOf st').size by (clear hmr m3 m2 m1 b hB hge hxl ri hx hR0 h h2 ha hp ok;omega)) (by (clear m3 m1 b hB hge hxl hz hal ri hx hR0 h h2 ha hp ok;omega)) m3 λst3 b3 hs3=>?_)
  simp only [Bool.not_true,Bool.false_eq_true,if_false]
  have hn0:0<min (a₀.size-runs.flatten.length) mr:=by (clear hs3 b3 m3 m2 m1 b hB hxl hz hal ri hx hR0 h h2 ha hp ok;omega)
  have hn1:runs.flatten.length+min (a₀.size-runs.flatten.length) mr<=a₀.size:=by (clear hn0 hs3 b3 hmr m3 m2 m1 b hB hge hxl hz ri hx hR0 h h2 ha hp ok;omega)
  generalize min (a₀.size-runs.flatten.length) mr=n at hs3 hn0 hn1 ⊢
  rotate_left
  rw [if_neg hmr]
  have b3:=b
  have hs3:=m3
  have hn0:0<m:=by (clear hs3 b3 hmr m3 m2 b hB hge hxl hz hal ri hx hR0 h h2 ha hp ok;omega)
  have hn1:runs.flatten.length+m<=a₀.size:=by (clear hn0 hs3 b3 hmr m3 m1 b hB hge hxl hz ri hx hR0 h h2 ha hp ok;omega)
  clear b m3 m1 m2 hmr
  generalize m=n at hs3 hn0 hn1 ⊢
  generalize st2=st3 at b3 hs3 ⊢
  all_goals
   obtain ⟨R,T',lR,iR,ri2⟩:=ri.cut b3 hs3 hn1 hn0
   refine wpS_bind (wpS_get ?_)
   cases hb:(pendingOf st3).back? with
   | none =>
    dsimp only
    refine wpS_bind (wpS_modify (wpS_pure ⟨_,runs++[R],T',rfl,?_,by simp;omega,by omega⟩))
    rw [← lR]
    exact ri2.push iR (by omega) rfl
   | some t =>
    obtain ⟨s1,n1,w1⟩:=t
    dsimp only
    generalize power' a₀.size (2*s1+n1) (2*s1+n1+n1+n) a₀.size=pw
    refine wpS_bind (wpS_mono (wpS_forRange (I:=λx c st4=>c=(none,())/\∃runs',RI a₀ st4 runs' (R++T')) (Q:=λc st4=>c=(none,())/\∃runs',RI a₀ st4 runs' (R++T')) ?_ (λc st4 q=>q) ⟨rfl,runs,ri2⟩) ?_)
    ·rintro x c st4 _ _ ⟨rfl,runs',ri4⟩
     refine wpS_bind (wpS_get ?_)
     have hps:=ri4.psize
     by_cases hp1:(pendingOf st4).size > 1
     ·have e:(pendingOf st4)[(pendingOf st4).size-2]? = some ((pendingOf st4)[(pendingOf st4).size-2]'(by omega)):=Array.getElem?_eq_getElem _
      rw [if_pos hp1,e]
      dsimp only
      split
      ·exact wpS_pure ⟨rfl,runs',ri4⟩
      ·refine wpS_bind (Qdi ri4 (by omega) λst5 runs5 ri5 _=>?_)
       simp only [Bool.not_true,Bool.false_eq_true,if_false]
       exact wpS_pure ⟨rfl,runs5,ri5⟩
     ·rw [if_neg hp1]
      exact wpS_pure ⟨rfl,runs',ri4⟩
    ·rintro c st4 ⟨rfl,runs',ri4⟩
     dsimp only
     have hal2:=ri2.alen
     have hal4:=ri4.alen
     have hfl:runs'.flatten.length=runs.flatten.length:=by omega
     refine wpS_bind (wpS_modify (wpS_bind (wpS_modify (wpS_pure ⟨_,runs'++[R],T',rfl,?_,by rw [List.flatten_append,List.length_append,hfl];simp;omega,by omega⟩))))
     rw [← lR]
     exact (ri4.mod (pw:=pw)).push iR (by omega) hfl
 case post =>
  rintro c st' ⟨runs,rfl,ri⟩
  dsimp only
  have hal:=ri.alen
  have hrl:runs.length<=a₀.size:=by
   rw [List.length_nil,Nat.add_zero] at hal
   rw [← hal]
   have:∀l:List (List Keyed),(∀R∈l,Inc R/\0<R.length)->l.length<=l.flatten.length:=by
    intro l
    induction l with
    | nil=>intro _;exact Nat.le_refl _
    | cons D l ih =>
     intro hl
     have a1:=(hl D List.mem_cons_self).2
     have a2:=ih λR hR=>hl R (List.mem_cons_of_mem _ hR)
     rw [List.flatten_cons,List.length_append,List.length_cons];(clear hl ih hal ri hR0 h h2 ha hp ok;omega)
   exact this runs ri.inc
  refine wpS_bind (wpS_mono (wpS_forRange (I:=λx c st4=>c=(none,())/\∃runs',RI a₀ st4 runs' []/\(runs'.length<=1\/runs'.length+x<=a₀.size)) (Q:=λc st4=>c=(none,())/\∃runs',RI a₀ st4 runs' []/\runs'.length<=1) ?_ ?_ ⟨rfl,runs,ri,.inr (by (clear hal ri hR0 h h2 ha hp ok;omega))⟩) ?_)
  ·rintro x c st4 _ hx ⟨rfl,runs',ri4,hr⟩
   refine wpS_bind (wpS_get ?_)
   have hps:=ri4.psize
   by_cases hp1:(pendingOf st4).size<=1
   ·rw [if_pos hp1]
    exact wpS_pure ⟨rfl,runs',ri4,by (clear hr ri4 hx hrl hal ri hR0 h h2 ha hp ok;omega)⟩
   ·rw [if_neg hp1]
    refine wpS_bind (Qdi ri4 ?_ λst5 runs5 ri5 h5=>?_)
    ·split <;> split <;> omega
    ·simp only [Bool.not_true,Bool.false_eq_true,if_false]
     exact wpS_pure ⟨rfl,runs5,ri5,.inr (by (clear ri5 hp1 hps ri4 hrl hal ri hR0 h h2 ha hp ok;omega))⟩
  ·rintro c st4 ⟨rfl,runs',ri4,hr⟩
   refine ⟨rfl,runs',ri4,?_⟩
   (clear ri4 hrl hal ri hR0 h h2 ha hp ok;omega)
  ·rintro c st4 ⟨rfl,runs',ri4,hr⟩
   refine wpS_pure (h st4 ri4.perm ri4.ok.f ?_)
   have hl:=ri4.lst
   rw [List.append_nil] at hl
   intro i j hij hj
   have hz:(arrOf st4).size=a₀.size:=ri4.perm.size_eq
   refine Xa ?_ hij (by (clear hij hl hr ri4 hrl hal ri hR0 h h2 ha hp ok;omega))
   rw [hl]
   match runs',hr,ri4 with
   | [],_,_=>exact List.Pairwise.nil
   | [R],_,ri4=>simpa using (ri4.inc R (by simp)).1
end
end Srt
namespace Srt
open PySem PyProof.Rows
def Qnn:KN:=⟨λp=>numOf p.1,λp=>∃n t,p.1=.int n t,oneType'⟩
theorem Qsb {prog:Program} {w:World} {A:Around} {E:Value->Shared->Prop} {s:Shared}:@KL Qnn prog w A E s:=@KL.mk Qnn prog w A E s λ{st x y Q} hk hx hy h=>by
 obtain ⟨n,t,ex⟩:=hx
 obtain ⟨m,u,ey⟩:=hy
 have hk:kindOf st=oneType':=hk
 have h:Q (some (decide (numOf x.1<numOf y.1))) st:=h
 rw [ex,ey] at h
 rw [lt'_eq]
 refine wpS_bind (wpS_get ?_)
 rw [hk,keyLt'_oneType,ex,ey]
 exact wpS_bind (wpS_lift (wpAny_attempt (oneLt_int ⟨rfl,wpS_pure h⟩)))
section
variable {prog:Program} {w:World} {A:Around} {E:Value->Shared->Prop} {s:Shared}
theorem Qa9 {a:Addr} {vs:List Value} {ns:List Int} {n:Nat} {P:Fin->Shared->Prop} (ho:s.heap.get? a=some (seqObj "list" vs.toArray n)) (hI:IntsAre vs ns) (hv:vs.length<=100000)
  (h:∀(out:Array Value) (ns':List Int),IntsAre out.toList ns'->ns'.Perm ns->ns'.Pairwise (· <= ·)->P (.done (.ret .none)) { s with heap:=sortedHeap s.heap a vs out }) :
  wpAny (model prog w) A (Builtin.«list.sort» ⟨[.ref a],[]⟩) P E s:=by
 by_cases h64:vs.length<64
 ·exact list_sort_tree ho hI h64 h
 letI:KN:=Qnn
 haveI:∀s1:Shared,KL prog w A E s1:=λ_=>Qsb
 rw [list_sort_plain]
 have hbig:100000<=sizeLine:=by decide
 have ha:a<s.heap.objs.size:=Heap.lt_size ho
 refine wpAny_bind (listItems_at ho rfl ?_)
 refine wpAny_bind (listUpdate_at ho rfl ?_)
 obtain ⟨e1,ho1⟩:∃e1,(s.heap.update a (Obj.mapSeq λ_=>#[])).get? a=some (seqObj "list" #[] e1):=⟨_,get?_update_seq ho (λ_=>#[])⟩
 refine wpAny_bind (seqEpoch_at ho1 rfl ?_)
 refine wpAny_bind (wpAny_newTuple ?_ (by simp;omega))
 refine wpAny_bind (wpAny_newList ?_)
 refine wpAny_holding ?_
 have ho6:(((s.heap.update a (Obj.mapSeq λ_=>#[])).push (seqObj "tuple" vs.toArray 0)).push (seqObj "list" #[] 0)).get? a=some (seqObj "list" #[] e1):=by
  rw [Heap.get?_push_ne _ _ _ (by rw [size_push',Heap.size_update];exact Nat.ne_of_lt (Nat.lt_succ_of_lt ha)),Heap.get?_push_ne _ _ _ (by rw [Heap.size_update];exact Nat.ne_of_lt ha)]
  exact ho1
 show wpAny (model prog w) A _ P E { s with heap:=((s.heap.update a (Obj.mapSeq λ_=>#[])).push (seqObj "tuple" vs.toArray 0)).push (seqObj "list" #[] 0) }
 dsimp only
 have hsz:vs.toArray.size=vs.length:=by simp
 rw [if_neg (by omega),if_neg (by omega)]
 obtain ⟨v₁,v₂,rest,rfl⟩:∃v₁ v₂ rest,vs=v₁::v₂::rest:=by
  match vs,h64 with
  | [],h=>simp at h
  | [_],h=>simp at h
  | a::b::r,_=>exact ⟨a,b,r,rfl⟩
 rw [keyKind_ints hI]
 refine wpAny_bind (wpAny_pure ?_)
 refine wpAny_bind (wpAny_mono (Qf2 (st:=SortSt.mk' oneType' (pairsOf (v₁::v₂::rest)) #[] 7 none)
  (Q:=λ_ st'=>(arrOf st').Perm (pairsOf (v₁::v₂::rest))/\failedOf st'=none/\Qax (arrOf st') (pairsOf (v₁::v₂::rest)).size)
  ⟨rfl,λp hp=>hI.intKeys p hp,rfl⟩ rfl (by show 2<=(pairsOf (v₁::v₂::rest)).size;rw [pairsOf_size];simp) λst' a1 a2 a3=>⟨a1,a2,a3⟩) ?_ λ_ _ e=>e)
 rintro ⟨⟨⟩,st'⟩ s' ⟨rfl,hp,hf,hs⟩
 dsimp only
 obtain ⟨ns',q1,q2,q3⟩:=sorted_out hI hp hs
 refine wpAny_bind (seqEpoch_at ho6 rfl ?_)
 refine wpAny_bind (listUpdate_at ho6 rfl ?_ (hsz2:=by
  have e:((arrOf st').map (·.2)).size=(v₁::v₂::rest).length:=by rw [Array.size_map,hp.size_eq,pairsOf_size]
  show ((arrOf st').map (·.2)).size<=_
  omega))
 rw [hf]
 simp only [bne_self_eq_false,Bool.false_eq_true,if_false]
 exact wpAny_pure (h _ ns' q1 q2 q3)
end
end Srt
namespace Srt
open PySem PyProof.Rows
section
variable {prog:Program} {w:World} {A:Around} {E:Value->Shared->Prop} {s:Shared}
end
end Srt
namespace Srt
open PySem PyProof.Rows
open PySem.SeqAt
open PySem.AutoSeq1 (wpAny_loadPart')
open PySem.MeetsSeq PySem.MeetsSeq2 PySem.MeetsSeq3
theorem Qc3 {vs:List Value} {ns:List Int} (h:IntsAre vs ns):∀{i:Nat} (hi:i<ns.length),∃t,vs[i]? = some (.int ns[i] t):=by
 induction h with
 | nil=>intro i hi;exact absurd hi (Nat.not_lt_zero _)
 | cons n t _ ih =>
  intro i hi
  cases i with
  | zero=>exact ⟨t,rfl⟩
  | succ i=>obtain ⟨u,hu⟩:=ih (i:=i) (by simpa using hi);exact ⟨u,by simpa using hu⟩
theorem Qng (l b:Addr) (items items2:Array Value) (n n2:Nat) (dd dd2:Option Addr) (sl sl2:Array (Option Value)) (ns ms:List Int) (hi:IntsAre items.toList ns) (hj:IntsAre items2.toList ms) (k:Nat) :
  ∀i:Nat,ns.length-i=k->i<=ns.length->i<=ms.length->Meets (Builtin.«list.__eq__.loop» ⟨[.ref l,.ref b,rawInt i,rawInt 0],[]⟩)
   (λ_ R s=>s.heap.get? l=some { cls:=.type "list",dict:=dd,data:=.seq items n,slots:=sl }/\s.heap.get? b=some { cls:=.type "list",dict:=dd2,data:=.seq items2 n2,slots:=sl2 } /\
    R (.ok (.ret (.bool (HT.Vy (ns.drop i) (ms.drop i))))) s):=by
 have z1:items.size=ns.length:=by rw [← hi.length];simp
 have z2:items2.size=ms.length:=by rw [← hj.length];simp
 have stop:∀i:Nat,i<=ns.length->i<=ms.length->¬(i<ns.length/\i<ms.length)->HT.Vy (ns.drop i) (ms.drop i)=decide (items.size<items2.size):=λi h1 h2 h=>by
  rw [z1,z2]
  by_cases q1:i<ns.length
  ·have d1:ns.drop i=ns[i]::ns.drop (i+1):=List.drop_eq_getElem_cons q1
   have d2:ms.drop i=[]:=List.drop_of_length_le (by omega)
   rw [d1,d2]
   exact (decide_eq_false (by omega)).symm
  ·have d1:ns.drop i=[]:=List.drop_of_length_le (by omega)
   by_cases q2:i<ms.length
   ·have d2:ms.drop i=ms[i]::ms.drop (i+1):=List.drop_eq_getElem_cons q2
    rw [d1,d2];exact (decide_eq_true (by omega)).symm
   ·have d2:ms.drop i=[]:=List.drop_of_length_le (by omega)
    rw [d1,d2];exact (decide_eq_false (by omega)).symm
 induction k with
 | zero =>
  intro i hk h1 h2 prog w A R s h
  obtain ⟨hp,g,d,tk,os⟩:=s;obtain ⟨hl,hb,h⟩:=h
  rw [stop i h1 h2 (by omega)] at h
  wp_walk using wpAny_loadPart' hl,wpAny_loadPart' hb
  have hi1:items[((i:Nat):Int).toNat]? = none:=by simp;omega
  rw [hi1]
  wp_walk using wpAny_loadPart' hl,wpAny_loadPart' hb
  exact h
 | succ k ih =>
  intro i hk h1 h2 prog w A R s h
  obtain ⟨hp,g,d,tk,os⟩:=s;obtain ⟨hl,hb,h⟩:=h
  wp_walk using wpAny_loadPart' hl,wpAny_loadPart' hb
  have q1:i<ns.length:=by omega
  obtain ⟨t,e1⟩:=Qc3 hi q1
  have hi1:items[((i:Nat):Int).toNat]? = some (.int ns[i] t):=by simpa using e1
  have hc:((i:Int)+1)=((i+1:Nat):Int):=by push_cast;rfl
  rw [hi1]
  by_cases q2:i<ms.length
  ·obtain ⟨u,e2⟩:=Qc3 hj q2
   have hi2:items2[((i:Nat):Int).toNat]? = some (.int ms[i] u):=by simpa using e2
   rw [hi2]
   rw [List.drop_eq_getElem_cons q1,List.drop_eq_getElem_cons q2,HT.Uf] at h
   obtain ⟨e,he,hiff⟩:=HT.Qj1 A.in1 ⟨hp,g,d,tk,os⟩ ns[i] t ms[i] u
   refine wpAny_bind (he prog w _ _ ?_)
   cases e with
   | true =>
    rw [if_pos (hiff.mp rfl)] at h
    wp_walk
    rw [hc]
    exact ⟨plainId_quiet plain_eq_loop _,codeAny_builtin entry_eq_loop (by
     rw [Around.under_plainId plain_eq_loop _]
     exact ih (i+1) (by omega) q1 q2 prog w A R _ ⟨hl,hb,h⟩)⟩
   | false =>
    rw [if_neg (λq=>absurd (hiff.mpr q) Bool.false_ne_true)] at h
    have hri:=HT.Qi4 A.in1 ⟨hp,g,d,tk,os⟩ ns[i] t ms[i] u prog w
    wp_walk using wpAny_loadPart' hl,wpAny_loadPart' hb
    rw [hi1,hi2]
    wp_walk using hri
    exact h
  ·have hi2:items2[((i:Nat):Int).toNat]? = none:=by simp;omega
   rw [hi2]
   rw [stop i h1 h2 (by omega)] at h
   wp_walk using wpAny_loadPart' hl,wpAny_loadPart' hb
   exact h
theorem Qbr (l b:Addr) (items items2:Array Value) (n n2:Nat) (dd dd2:Option Addr) (sl sl2:Array (Option Value)) (ns ms:List Int) (hi:IntsAre items.toList ns) (hj:IntsAre items2.toList ms) :
  Meets (Builtin.«list.__lt__» ⟨[.ref l,.ref b],[]⟩)
   (λ_ R s=>s.heap.get? l=some { cls:=.type "list",dict:=dd,data:=.seq items n,slots:=sl }/\s.heap.get? b=some { cls:=.type "list",dict:=dd2,data:=.seq items2 n2,slots:=sl2 } /\
    R (.ok (.ret (.bool (HT.Vy ns ms)))) s):=by
 intro prog w A R s h
 obtain ⟨hp,g,d,tk,os⟩:=s;obtain ⟨hl,hb,h⟩:=h
 have f2:=AutoSeq1.sub_list_list
 wp_walk using wpAny_loadPart' hl,wpAny_loadPart' hb
 exact ⟨plainId_quiet plain_eq_loop _,codeAny_builtin entry_eq_loop (by
  rw [Around.under_plainId plain_eq_loop _]
  exact Qng l b items items2 n n2 dd dd2 sl sl2 ns ms hi hj _ 0 rfl (Nat.zero_le _) (Nat.zero_le _) prog w A R _ ⟨hl,hb,h⟩)⟩
theorem Qfu:∀vs:List Value,(vs.zip vs).map (·.2)=vs
 | []=>rfl
 | v::vs=>congrArg (v :: ·) (Qfu vs)
def Qnh (S:Addr->Prop) (num:Addr->Int):KN:=⟨λp=>match p.1 with | .ref a=>num a | _=>0,λp=>∃a,p.1=.ref a/\S a,oneType'⟩
def Qaz (h:Heap) (S:Addr->Prop) (key:Addr->List Int):Prop:=∀a,S a->∃(o:Obj) (us:List Value) (n:Nat),h.get? a=some o/\o.cls=.type "list" /\ o.data=.seq us.toArray n/\IntsAre us (key a)
theorem Qr5 {prog:Program} {w:World} {A:Around} {E:Value->Shared->Prop} {s:Shared} {S:Addr->Prop} {num:Addr->Int} {key:Addr->List Int} (hu:A.units<cLine) (hS:Qaz s.heap S key) (hn:∀a b,S a->S b->HT.Vy (key a) (key b)=decide (num a<num b)):@KL (Qnh S num) prog w A E s:=@KL.mk (Qnh S num) prog w A E s λ{st x y Q} hk hx hy h=>by
 obtain ⟨a,ea,sa⟩:=hx
 obtain ⟨b,eb,sb⟩:=hy
 have hk:kindOf st=oneType':=hk
 have h:Q (some (decide ((match x.1 with | .ref a=>num a | _=>0)<(match y.1 with | .ref a=>num a | _=>0)))) st:=h
 rw [ea,eb] at h
 have h:Q (some (decide (num a<num b))) st:=h
 rw [← hn a b sa sb] at h
 obtain ⟨⟨ca,da,ta,la⟩,us,na,ga,rfl,rfl,ia⟩:=hS a sa
 obtain ⟨⟨cb,db,tb,lb⟩,vs,nb,gb,rfl,rfl,ib⟩:=hS b sb
 rw [lt'_eq]
 refine wpS_bind (wpS_get ?_)
 rw [hk,keyLt'_oneType,ea,eb,oneLt'_eq]
 simp only [if_true]
 refine wpS_bind (wpS_lift (wpAny_attempt ?_))
 refine wpAny_bind (wpAny_cRoomFor hu ?_)
 refine wpAny_bind (wpAny_callSpecialIfBound?_slot ⟨_,ga,rfl⟩ F.slot_list_lt ?_)
 refine call_meets F.slot_list_lt ⟨_,ga,rfl⟩ F.entry_list_lt (F.args_list_lt_2 _ _) (Qbr a b _ _ _ _ _ _ _ _ _ _ (by simpa using ia) (by simpa using ib)) ⟨ga,gb,?_⟩
 exact wpAny_truthy_bool ⟨rfl,wpS_pure h⟩
section
variable {prog:Program} {w:World} {A:Around} {E:Value->Shared->Prop} {s:Shared}
theorem Qe4 {a:Addr} {vs:List Value} {n:Nat} {P:Fin->Shared->Prop} (ho:s.heap.get? a=some (seqObj "list" vs.toArray n)) (h2:vs.length<2) (h:P (.done (.ret .none)) { s with heap:=sortedHeap s.heap a vs vs.toArray }):wpAny (model prog w) A (Builtin.«list.sort» ⟨[.ref a],[]⟩) P E s:=by
 rw [list_sort_plain]
 have hbig:2<=sizeLine:=by decide
 have ha:a<s.heap.objs.size:=Heap.lt_size ho
 refine wpAny_bind (listItems_at ho rfl ?_)
 refine wpAny_bind (listUpdate_at ho rfl ?_)
 obtain ⟨e1,ho1⟩:∃e1,(s.heap.update a (Obj.mapSeq λ_=>#[])).get? a=some (seqObj "list" #[] e1):=⟨_,get?_update_seq ho (λ_=>#[])⟩
 refine wpAny_bind (seqEpoch_at ho1 rfl ?_)
 refine wpAny_bind (wpAny_newTuple ?_ (by simp;omega))
 refine wpAny_bind (wpAny_newList ?_)
 refine wpAny_holding ?_
 have ho6:(((s.heap.update a (Obj.mapSeq λ_=>#[])).push (seqObj "tuple" vs.toArray 0)).push (seqObj "list" #[] 0)).get? a=some (seqObj "list" #[] e1):=by
  rw [Heap.get?_push_ne _ _ _ (by rw [size_push',Heap.size_update];exact Nat.ne_of_lt (Nat.lt_succ_of_lt ha)),Heap.get?_push_ne _ _ _ (by rw [Heap.size_update];exact Nat.ne_of_lt ha)]
  exact ho1
 show wpAny (model prog w) A _ P E { s with heap:=((s.heap.update a (Obj.mapSeq λ_=>#[])).push (seqObj "tuple" vs.toArray 0)).push (seqObj "list" #[] 0) }
 dsimp only
 have hsz:vs.toArray.size=vs.length:=by simp
 rw [if_pos (by omega),if_pos (by omega)]
 refine wpAny_bind (wpAny_pure ?_)
 rw [StateT.run_pure]
 refine wpAny_bind (wpAny_pure ?_)
 dsimp only
 refine wpAny_bind (seqEpoch_at ho6 rfl ?_)
 have e:((vs.toArray.zip vs.toArray).map (·.2))=vs.toArray:=by
  rw [List.zip_toArray,List.map_toArray]
  exact congrArg _ (Qfu vs)
 refine wpAny_bind (listUpdate_at ho6 rfl ?_ (hsz2:=by show ((vs.toArray.zip vs.toArray).map (·.2)).size<=_;rw [e];omega))
 simp only [bne_self_eq_false,Bool.false_eq_true,if_false]
 show wpAny (model prog w) A _ P E { s with heap:=sortedHeap s.heap a vs ((vs.toArray.zip vs.toArray).map (·.2)) }
 rw [e]
 exact wpAny_pure h
theorem Qe5 {a:Addr} {as:List Addr} {n:Nat} {P:Fin->Shared->Prop} {S:Addr->Prop} {num:Addr->Int} {key:Addr->List Int} (ho:s.heap.get? a=some (seqObj "list" (as.map Value.ref).toArray n)) (hu:A.units<cLine) (hna:¬S a) (hS:Qaz s.heap S key) (hn:∀x y,S x->S y->HT.Vy (key x) (key y)=decide (num x<num y))
  (has:∀x∈as,S x) (hv:as.length<=100000) (h:∀out:List Addr,out.Perm as->out.Pairwise (λx y=>num x<=num y)->P (.done (.ret .none)) { s with heap:=sortedHeap s.heap a (as.map Value.ref) (out.map Value.ref).toArray }) :
  wpAny (model prog w) A (Builtin.«list.sort» ⟨[.ref a],[]⟩) P E s:=by
 by_cases h2:as.length<2
 ·refine Qe4 ho (by rw [List.length_map];exact h2) (h as (.refl _) ?_)
  match as,h2 with
  | [],_=>exact .nil
  | [_],_=>exact List.pairwise_singleton _ _
  | _::_::_,h2=>exact absurd h2 (by simp)
 have h2:2<=as.length:=by omega
 letI:KN:=Qnh S num
 rw [list_sort_plain]
 have hbig:100000<=sizeLine:=by decide
 have ha:a<s.heap.objs.size:=Heap.lt_size ho
 have hlen:(as.map Value.ref).length=as.length:=List.length_map _
 refine wpAny_bind (listItems_at ho rfl ?_)
 refine wpAny_bind (listUpdate_at ho rfl ?_)
 obtain ⟨e1,ho1⟩:∃e1,(s.heap.update a (Obj.mapSeq λ_=>#[])).get? a=some (seqObj "list" #[] e1):=⟨_,get?_update_seq ho (λ_=>#[])⟩
 refine wpAny_bind (seqEpoch_at ho1 rfl ?_)
 refine wpAny_bind (wpAny_newTuple ?_ (by simp;omega))
 refine wpAny_bind (wpAny_newList ?_)
 refine wpAny_holding ?_
 have ho6:(((s.heap.update a (Obj.mapSeq λ_=>#[])).push (seqObj "tuple" (as.map Value.ref).toArray 0)).push (seqObj "list" #[] 0)).get? a=some (seqObj "list" #[] e1):=by
  rw [Heap.get?_push_ne _ _ _ (by rw [size_push',Heap.size_update];exact Nat.ne_of_lt (Nat.lt_succ_of_lt ha)),Heap.get?_push_ne _ _ _ (by rw [Heap.size_update];exact Nat.ne_of_lt ha)]
  exact ho1
 have hS6:Qaz (((s.heap.update a (Obj.mapSeq λ_=>#[])).push (seqObj "tuple" (as.map Value.ref).toArray 0)).push (seqObj "list" #[] 0)) S key:=λb sb=>by
  obtain ⟨o,us,m,g,r⟩:=hS b sb
  refine ⟨o,us,m,Heap.get?_push_of_some _ (Heap.get?_push_of_some _ ?_),r⟩
  rw [Heap.get?_update_other _ _ (show a≠b from λz=>hna (by rw [z];exact sb))]
  exact g
 show wpAny (model prog w) A _ P E { s with heap:=((s.heap.update a (Obj.mapSeq λ_=>#[])).push (seqObj "tuple" (as.map Value.ref).toArray 0)).push (seqObj "list" #[] 0) }
 haveI:KL prog w A E { s with heap:=((s.heap.update a (Obj.mapSeq λ_=>#[])).push (seqObj "tuple" (as.map Value.ref).toArray 0)).push (seqObj "list" #[] 0) }:=Qr5 hu hS6 hn
 dsimp only
 have hsz:(as.map Value.ref).toArray.size=as.length:=by simp
 rw [if_neg (by omega),if_neg (by omega)]
 refine wpAny_bind (PySem.W.kas_kind (s:={ s with heap:=((s.heap.update a (Obj.mapSeq λ_=>#[])).push (seqObj "tuple" (as.map Value.ref).toArray 0)).push (seqObj "list" #[] 0) }) (T:=.type "list") (by omega) (λv hv=>?_) (by decide) (by decide) ?_)
 ·obtain ⟨b,hb,rfl⟩:=List.mem_map.mp hv
  obtain ⟨o,us,m,g,c,d,_⟩:=hS6 b (has b hb)
  have L:PySem.W.Looks (model prog w) _ (typeOf (.ref b)) o.cls:=(PySem.W.Looks.ld g).andThen .now
  rw [c] at L
  exact L
 have keys:∀p∈(pairsOf (as.map Value.ref)).toList,∃b,p=(Value.ref b,Value.ref b)/\b∈as:=λp hp=>by
  unfold pairsOf at hp
  rw [List.zip_toArray] at hp
  have:p∈(as.map Value.ref).zip (as.map Value.ref):=hp
  rw [List.zip_map'] at this
  obtain ⟨b,hb,rfl⟩:=List.mem_map.mp this
  exact ⟨b,rfl,hb⟩
 refine wpAny_bind (wpAny_mono (Qf2 (st:=SortSt.mk' oneType' (pairsOf (as.map Value.ref)) #[] 7 none)
  (Q:=λ_ st'=>(arrOf st').Perm (pairsOf (as.map Value.ref))/\failedOf st'=none/\Qax (arrOf st') (pairsOf (as.map Value.ref)).size)
  ⟨rfl,λp hp=>?_,rfl⟩ rfl (by show 2<=(pairsOf (as.map Value.ref)).size;rw [pairsOf_size];omega) λst' a1 a2 a3=>⟨a1,a2,a3⟩) ?_ λ_ _ e=>e)
 ·obtain ⟨b,rfl,hb⟩:=keys p hp
  exact ⟨b,rfl,has b hb⟩
 rintro ⟨⟨⟩,st'⟩ s' ⟨rfl,hp,hf,hs⟩
 dsimp only
 obtain ⟨out,eo,po⟩:∃out:List Addr,(arrOf st').toList=out.map (λb=>(Value.ref b,Value.ref b))/\out.Perm as:=by
  have hz:(pairsOf (as.map Value.ref)).toList=as.map λb=>(Value.ref b,Value.ref b):=by
   unfold pairsOf
   rw [List.zip_toArray]
   show (as.map Value.ref).zip (as.map Value.ref)=_
   rw [List.zip_map',]
  have hp':=Array.perm_iff_toList_perm.mp hp
  rw [hz] at hp'
  refine ⟨(arrOf st').toList.map λp=>match p.1 with | .ref b=>b | _=>0,?_,?_⟩
  ·rw [List.map_map]
   conv=>lhs;rw [← List.map_id (arrOf st').toList]
   refine List.map_congr_left λp hpm=>?_
   obtain ⟨b,_,e⟩:=List.mem_map.mp (hp'.mem_iff.mp hpm)
   subst e;rfl
  ·have:=hp'.map λp:Keyed=>(match p.1 with | .ref b=>b | _=>0:Addr)
   rw [List.map_map] at this
   refine this.trans ?_
   rw [show ((λp:Keyed=>(match p.1 with | .ref b=>b | _=>0:Addr)) ∘ λb:Addr=>(Value.ref b,Value.ref b))=id from rfl,List.map_id]
 have so:out.Pairwise (λx y=>num x<=num y):=by
  refine List.pairwise_iff_getElem.mpr λi j hi hj hij=>?_
  have hsz2:(pairsOf (as.map Value.ref)).size=out.length:=by rw [pairsOf_size,hlen,po.length_eq]
  have q:=hs i j (by omega) (by omega)
  have at_:∀(i:Nat) (hi:i<out.length),K (arrOf st') i=num out[i]:=λi hi=>by
   unfold K
   rw [← Array.getElem?_toList,eo,List.getElem?_map,List.getElem?_eq_getElem hi]
   rfl
  rwa [at_ i hi,at_ j hj] at q
 have eout:(arrOf st').map (·.2)=(out.map Value.ref).toArray:=by
  apply Array.toList_inj.mp
  rw [Array.toList_map,eo,List.map_map]
  rfl
 refine wpAny_bind (seqEpoch_at ho6 rfl ?_)
 refine wpAny_bind (listUpdate_at ho6 rfl ?_ (hsz2:=by
  show ((arrOf st').map (·.2)).size<=_
  rw [eout]
  have:=po.length_eq
  simp;omega))
 rw [hf]
 simp only [bne_self_eq_false,Bool.false_eq_true,if_false]
 rw [eout]
 exact wpAny_pure (h out po so)
end
end Srt
namespace L2
open PySem PySem.Spec PyProof.Rows
section
variable {X:Cx}
def Qmf:List V->Hp->VK->Prop:=λxs H Q=>∃(a:Addr) (kvs:List (Key × V)) (ns:List Int),xs=[.ref a]/\Rd H a (.dK kvs)/\kvs.map (·.1)=ns.map Sum.inl/\kvs.length<=100000 /\
 ∀(out:List Int) D,out.Perm ns->out.Pairwise (· <= ·)->H D=none->Q (.ref D) (upd H D (.lst (out.map V.int)))
theorem Qdb (hc:X.calm=true):Zc X (.builtin "sorted") Qmf:=by
 intro pins s σ H xs us Q I r h
 obtain ⟨a,kvs,ns,rfl,ha,hks,h64,q⟩:=h
 obtain ⟨u,rfl,ru⟩:=Uy r
 cases ru
 obtain ⟨z,hs,vs,rel,dd⟩:=Qc7 I.hok ha
 obtain ⟨ep,da⟩:=dd.dictAt
 have hlen:kvs.length=vs.length:=Paired.length rel
 refine Calls.call_function_entry kind_sorted plain_sorted entry_sorted (args_sorted1 _) ?_
 unfold Builtin.«sorted»
 refine wpAny_bind (m:=checkCount "sorted" 1 1 _) (wpAny_pure ?_)
 refine wpAny_bind (Qb1 (PySem.W.kdl_dict (knd:=Qv X.prog X.w) (kvs:=vs) (ep:=ep) hs) (I.ok.hd hc) da (by omega) λh1 tk us hk hul hit=>?_)
 have rv:Vals (kvs.map λkv=>kV kv.1) us:=Qa5 (P:=X.prog) (w:=X.w) rel hul λj v e=>hit j v e
 have rv':Vals (ns.map V.int) us:=by
  have:(kvs.map λkv=>kV kv.1)=ns.map V.int:=by
   have h0:(kvs.map λkv=>kV kv.1)=(kvs.map (·.1)).map kV:=by rw [List.map_map];rfl
   rw [h0,hks,List.map_map];rfl
  rw [← this];exact rv
 have hI:=U6 rv'
 have hus:us.length<=100000:=by omega
 refine wpAny_bind (wpAny_newList ?_ (Nat.le_trans hus (by decide)))
 have hoL:(h1.push (seqObj "list" us.toArray 0)).get? h1.objs.size=some (seqObj "list" us.toArray 0):=Heap.get?_push_size _ rfl
 refine wpAny_bind (wpAny_holding (wpAny_call_entry slot_list_sort ⟨_,hoL,rfl⟩ entry_list_sort (Srt.Qa9 hoL hI hus λout ns' a1 a2 a3=>⟨_,rfl,?_⟩) (args_list_sort _)))
 refine wpAny_pure ⟨_,rfl,?_⟩
 obtain ⟨e,he⟩:=sortedHeap_at (out:=out) hoL
 have I1:Inv X pins σ H { s with heap:=h1,toks:=tk }:=I.kept (t':=tk) hk
 have I2:Inv X pins σ (upd H h1.objs.size (.lst (ns'.map V.int))) { s with heap:=sortedHeap (h1.push (seqObj "list" us.toArray 0)) h1.objs.size us out,toks:=tk }:=by
  refine I1.laid (t':=tk) (λb o eb=>?_) (Nat.le_refl _) ⟨?_,out.toList,e,Gs a1,?_⟩
  ·have hb:=Heap.lt_size eb
   rw [sortedHeap_old (Nat.ne_of_lt hb) (by rw [size_push'];exact Nat.lt_succ_of_lt hb)]
   exact Heap.get?_push_of_some _ eb
  ·have:=a2.length_eq
   have h2:=rv'.length
   rw [List.length_map] at h2 ⊢
   rw [this,h2,sizeLine_eq];omega
  ·rw [Array.toArray_toList];exact he
 exact ⟨.ref h1.objs.size,_,I2,rfl,q ns' _ a2 a3 (I1.hok.fresh (Nat.le_refl _))⟩
end
end L2
namespace RV
open PySem PySem.Spec
section
variable {prog:Program} {w:World} {A:Around} {E:Value->Shared->Prop} {s:Shared}
end
end RV
namespace L2
open PySem PySem.Spec PyProof.Rows
section
variable {X:Cx} {tg:Expr}
end
end L2
namespace PT
open PySem PySem.Spec
section
variable {prog:Program} {w:World} {K:Type} [DecidableEq K] {knd:HeapKind prog w K} {A:Around} {E:Value->Shared->Prop} {s:Shared}
end
end PT
namespace L2
open PySem PySem.Spec PyProof.Rows
section
variable {X:Cx} {pins:List (Addr × Obj)} {σ:St} {H:Hp} {s:Shared} {a b:Addr} {kvs:List (List Key × V)} {k:List Key} {A:Around} {E:Value->Shared->Prop}
end
end L2
namespace L2
open PySem PySem.Spec PyProof.Rows
section
variable {M:Model} {A:Around} {E:Value->Shared->Prop} {s:Shared}
end
section
variable {X:Cx}
end
end L2
namespace L2
open PySem PySem.Spec PyProof.Rows
section
variable {prog:Program} {w:World} {A:Around} {E:Value->Shared->Prop} {s:Shared}
end
section
variable {X:Cx}
end
end L2
namespace LR
open PySem PySem.Spec PyProof.Rows
section
variable {prog:Program} {w:World} {A:Around} {E:Value->Shared->Prop} {s:Shared}
end
end LR
namespace L2
open PySem PySem.Spec PyProof.Rows
section
variable {X:Cx}
end
end L2
namespace L2
open PySem PySem.Spec PyProof.Rows
section
variable {X:Cx}
end
end L2
namespace L2
open PySem PySem.Spec PyProof.Rows
section
variable {prog:Program} {w:World}
end
section
variable {X:Cx}
end
end L2
namespace L2
open PySem PySem.Spec PyProof.Rows
open PySem.W (Dat kqdP kqdPs kqdOk)
open AutoSeq1 (wpAny_loadPart')
open MeetsSeq (plain_remove_loop entry_remove_loop size_erased)
theorem Ql4 (l:Addr) (its:Array Value) (n:Nat) (x:Value) (j:Nat) (hj:j<its.size) (big:its.size<=sizeLine) (k:Nat) :
  ∀i:Nat,j-i=k->i<=j->Meets (Builtin.«list.remove.loop» ⟨[.ref l,x,rawInt i],[]⟩)
   (λA R s=>s.heap.get? l=some { cls:=.type "list",dict:=none,data:=.seq its n,slots:=#[] }/\SeqAt.EqAt A.in1 s its[j] x true/\(∀m (hm:m<its.size),m<j->SeqAt.EqAt A.in1 s its[m] x false)/\R (.ok (.ret .none)) { s with heap:=s.heap.update l (Obj.mapSeq λxs=>xs.eraseIdxIfInBounds j) }):=by
 induction k with
 | zero =>
  intro i hk le prog w A R s h
  obtain ⟨hp,g,d,tk,os⟩:=s;obtain ⟨hl,yes,no,h⟩:=h
  obtain rfl:i=j:=by omega
  wp_walk using wpAny_loadPart' hl
  have at_:its[((i:Nat):Int).toNat]? = some its[i]:=by simp [hj]
  rw [at_]
  refine wpAny_bind (yes prog w _ _ ?_)
  have small:(its.eraseIdxIfInBounds i).size<=sizeLine+1:=Nat.le_trans (size_erased its _) (Nat.le_succ_of_le big)
  wp_walk using (wpAny_updateSeq hl rfl (hz:=big) (_hz':=small)),wpAny_loadPart' hl
  simpa using h
 | succ k ih =>
  intro i hk le prog w A R s h
  obtain ⟨hp,g,d,tk,os⟩:=s;obtain ⟨hl,yes,no,h⟩:=h
  have lt:i<its.size:=by omega
  wp_walk using wpAny_loadPart' hl
  have at_:its[((i:Nat):Int).toNat]? = some its[i]:=by simp [lt]
  have up:((i:Int)+1)=((i+1:Nat):Int):=by push_cast;rfl
  rw [at_]
  refine wpAny_bind (no i lt (by omega) prog w _ _ ?_)
  wp_walk
  rw [up]
  exact ⟨plainId_quiet plain_remove_loop _,codeAny_builtin entry_remove_loop (by
   rw [Around.under_plainId plain_remove_loop _]
   exact ih (i+1) (by omega) (by omega) prog w A R _ ⟨hl,yes,no,h⟩)⟩
theorem Ql5 (l:Addr) (its:Array Value) (n:Nat) (x:Value) (j:Nat) (hj:j<its.size) (big:its.size<=sizeLine) :
  Meets (Builtin.«list.remove» ⟨[.ref l,x],[]⟩)
   (λA R s=>s.heap.get? l=some { cls:=.type "list",dict:=none,data:=.seq its n,slots:=#[] }/\SeqAt.EqAt A.in1 s its[j] x true/\(∀m (hm:m<its.size),m<j->SeqAt.EqAt A.in1 s its[m] x false)/\R (.ok (.ret .none)) { s with heap:=s.heap.update l (Obj.mapSeq λxs=>xs.eraseIdxIfInBounds j) }):=by
 intro prog w A R s h
 obtain ⟨hp,g,d,tk,os⟩:=s;obtain ⟨hl,yes,no,h⟩:=h
 wp_walk using wpAny_loadPart' hl
 exact ⟨plainId_quiet plain_remove_loop _,codeAny_builtin entry_remove_loop (by
  rw [Around.under_plainId plain_remove_loop _]
  exact Ql4 l its n x j hj big _ 0 rfl (Nat.zero_le _) prog w A R _ ⟨hl,yes,no,h⟩)⟩
section
variable {X:Cx}
end
end L2
namespace L2
open PySem PySem.Spec PyProof.Rows
theorem Qa4:∀(as:List Addr) {its:List Value},Vals (as.map V.ref) its->its=as.map Value.ref
 | [],_,r=>by cases r;rfl
 | a::as,_,r=>by cases r with | cons r1 r2=>cases r1;rw [Qa4 as r2];rfl
theorem Qbe:∀l:List Addr,Vals (l.map V.ref) (l.map Value.ref)
 | []=>.nil
 | x::l=>.cons rfl (Qbe l)
def gotH (h:Heap) (vs:List Value):Heap:=(h.push (seqObj "list" #[] 0)).update h.objs.size (Obj.mapSeq (· ++ vs.toArray))
theorem V2 {h:Heap} {vs:List Value} (b:Addr) (u:Obj) (e:h.get? b=some u):(gotH h vs).get? b=some u:=by
 have hlt:b<h.objs.size:=Heap.lt_size e
 unfold gotH
 rw [Heap.get?_update_ne _ _ _ _ (Nat.ne_of_lt hlt),Heap.get?_push_ne _ _ _ (Nat.ne_of_lt hlt)]
 exact e
section
variable {X:Cx}
def Qme (K:PySem.W.Frag):List V->Hp->VK->Prop:=λxs H Q=>∃(l:Addr) (ns:List Int),xs=[.ref l]/\SqL K H l (ns.map V.int)/\ns.length<=100000 /\
 ∀(out:List Int) D,out.Perm ns->out.Pairwise (· <= ·)->H D=none->Q (.ref D) (upd H D (.lst (out.map V.int)))
theorem Qda:Zc X (.builtin "sorted") (Qme X.K):=by
 intro pins s σ H xs us Q I r h
 obtain ⟨l,ns,rfl,hl,hbig,q⟩:=h
 obtain ⟨u,rfl,ru⟩:=Uy r
 cases ru
 obtain ⟨its,rv,pl,_⟩:=I.list hl
 have hI:=U6 rv
 have hus:its.length<=100000:=by have:=hI.length;omega
 refine Calls.call_function_entry kind_sorted plain_sorted entry_sorted (args_sorted1 _) ?_
 unfold Builtin.«sorted»
 refine wpAny_bind (m:=checkCount "sorted" 1 1 _) (wpAny_pure ?_)
 refine wpAny_bind (collect_list pl.isList ?_ (Nat.le_trans hus (by decide)))
 refine wpAny_bind (wpAny_newList ?_ (Nat.le_trans hus (by decide)))
 have hoL:((gotH s.heap its).push (seqObj "list" its.toArray 0)).get? (gotH s.heap its).objs.size=some (seqObj "list" its.toArray 0):=Heap.get?_push_size _ rfl
 refine wpAny_bind (wpAny_holding (wpAny_call_entry slot_list_sort ⟨_,hoL,rfl⟩ entry_list_sort (Srt.Qa9 hoL hI hus λout ns' a1 a2 a3=>⟨_,rfl,?_⟩) (args_list_sort _)))
 refine wpAny_pure ⟨_,rfl,?_⟩
 obtain ⟨e,he⟩:=sortedHeap_at (out:=out) hoL
 have I1:Inv X pins σ H { s with heap:=gotH s.heap its,toks:=s.toks }:=I.kept (t':=s.toks) V2
 have I2:Inv X pins σ (upd H (gotH s.heap its).objs.size (.lst (ns'.map V.int))) { s with heap:=sortedHeap ((gotH s.heap its).push (seqObj "list" its.toArray 0)) (gotH s.heap its).objs.size its out,toks:=s.toks }:=by
  refine I1.laid (t':=s.toks) (λb o eb=>?_) (Nat.le_refl _) ⟨?_,out.toList,e,Gs a1,?_⟩
  ·have hb:=Heap.lt_size eb
   rw [sortedHeap_old (Nat.ne_of_lt hb) (by rw [size_push'];exact Nat.lt_succ_of_lt hb)]
   exact Heap.get?_push_of_some _ eb
  ·have:=a2.length_eq
   rw [List.length_map,this,sizeLine_eq];omega
  ·rw [Array.toArray_toList];exact he
 exact ⟨.ref (gotH s.heap its).objs.size,_,I2,rfl,q ns' _ a2 a3 (I1.hok.fresh (Nat.le_refl _))⟩
def Qmd (K:PySem.W.Frag):List V->Hp->VK->Prop:=λxs H Q=>∃(l:Addr) (ps:List (Addr × List Int)) (num:List Int->Int),xs=[.ref l]/\SqL K H l (ps.map λp=>V.ref p.1)/\(∀p∈ps,SqL K H p.1 (p.2.map V.int))/\ps.length<=100000 /\
 (∀x∈ps,∀y∈ps,HT.Vy x.2 y.2=decide (num x.2<num y.2)) /\
 ∀(out:List (Addr × List Int)) D,out.Perm ps->out.Pairwise (λx y=>num x.2<=num y.2)->H D=none->Q (.ref D) (upd H D (.lst (out.map λp=>V.ref p.1)))
theorem U5:∀{a b:List Int},a.map V.int=b.map V.int->a=b
 | [],[],_=>rfl
 | [],_::_,h=>by cases h
 | _::_,[],h=>by cases h
 | x::a,y::b,h=>by
  simp only [List.map_cons,List.cons.injEq,V.int.injEq] at h
  rw [h.1,U5 h.2]
def Yo (ps:List (Addr × List Int)) (a:Addr):List Int:=((ps.find? λp=>p.1 == a).map (·.2)).getD []
theorem Qc9 (hu:X.A.units+66<cLine):Zc X (.builtin "sorted") (Qmd X.K):=by
 intro pins s σ H xs us Q I r h
 obtain ⟨l,ps,num0,rfl,hl,hk0,hbig0,hn0,q0⟩:=h
 have keyE:∀p∈ps,Yo ps p.1=p.2:=λp hp=>by
  unfold Yo
  cases e:ps.find? λq=>q.1 == p.1 with
  | none=>exact absurd (List.find?_eq_none.mp e p hp) (by simp)
  | some r =>
   have h1:=List.mem_of_find?_eq_some e
   have h2:r.1=p.1:=by simpa using List.find?_some e
   have h3:=hk0 r h1
   rw [h2] at h3
   exact U5 (I.list_inj h3 (hk0 p hp))
 obtain ⟨as,has⟩:∃as,as=ps.map (·.1):=⟨_,rfl⟩
 have hl:SqL X.K H l (as.map V.ref):=by rw [has,List.map_map];exact hl
 have hk:∀a∈as,SqL X.K H a ((Yo ps a).map V.int):=λa ha=>by
  rw [has] at ha
  obtain ⟨p,hp,rfl⟩:=List.mem_map.mp ha
  rw [keyE p hp];exact hk0 p hp
 have hbig:as.length<=100000:=by rw [has,List.length_map];exact hbig0
 have hn:∀x∈as,∀y∈as,HT.Vy (Yo ps x) (Yo ps y)=decide (num0 (Yo ps x)<num0 (Yo ps y)):=λx hx y hy=>by
  rw [has] at hx hy
  obtain ⟨p,hp,rfl⟩:=List.mem_map.mp hx
  obtain ⟨r,hr,rfl⟩:=List.mem_map.mp hy
  rw [keyE p hp,keyE r hr];exact hn0 p hp r hr
 have q:∀(out:List Addr) D,out.Perm as->out.Pairwise (λx y=>num0 (Yo ps x)<=num0 (Yo ps y))->H D=none->Q (.ref D) (upd H D (.lst (out.map V.ref))):=λout D h1 h2 h3=>by
  have:=q0 (out.map λa=>(a,Yo ps a)) D ?_ (List.pairwise_map.mpr h2) h3
  ·rw [List.map_map] at this;exact this
  ·refine (h1.map _).trans (List.Perm.of_eq ?_)
   rw [has,List.map_map]
   conv=>rhs;rw [← List.map_id ps]
   exact List.map_congr_left λp hp=>by show (p.1,Yo ps p.1)=p;rw [keyE p hp]
 obtain ⟨u,rfl,ru⟩:=Uy r
 cases ru
 obtain ⟨its,rv,pl,_⟩:=I.list hl
 have e0:=Qa4 as rv
 subst e0
 have hus:(as.map Value.ref).length<=100000:=by rw [List.length_map];exact hbig
 refine Calls.call_function_entry kind_sorted plain_sorted entry_sorted (args_sorted1 _) ?_
 unfold Builtin.«sorted»
 refine wpAny_bind (m:=checkCount "sorted" 1 1 _) (wpAny_pure ?_)
 refine wpAny_bind (collect_list pl.isList ?_ (Nat.le_trans hus (by decide)))
 refine wpAny_bind (wpAny_newList ?_ (Nat.le_trans hus (by decide)))
 have hoL:((gotH s.heap (as.map Value.ref)).push (seqObj "list" (as.map Value.ref).toArray 0)).get? (gotH s.heap (as.map Value.ref)).objs.size=some (seqObj "list" (as.map Value.ref).toArray 0):=Heap.get?_push_size _ rfl
 have old:∀a∈as,∃(o:Obj) (us:List Value) (n:Nat),s.heap.get? a=some o/\o.cls=.type "list" /\ o.data=.seq us.toArray n/\IntsAre us (Yo ps a):=λa ha=>by
  obtain ⟨us,r9,⟨o,n,e1,e2,_,e3⟩,_⟩:=I.list (hk a ha)
  exact ⟨_,us,_,e1,e2,e3,U6 r9⟩
 have hS:Srt.Qaz ((gotH s.heap (as.map Value.ref)).push (seqObj "list" (as.map Value.ref).toArray 0)) (λa=>a∈as) (Yo ps):=λa ha=>by
  obtain ⟨o,us,n,e1,r⟩:=old a ha
  exact ⟨o,us,n,Heap.get?_push_of_some _ (V2 _ _ e1),r⟩
 have hna:¬(gotH s.heap (as.map Value.ref)).objs.size∈as:=λha=>by
  obtain ⟨o,us,n,e1,r⟩:=old _ ha
  exact absurd (Heap.lt_size (V2 (vs:=as.map Value.ref) _ _ e1)) (Nat.lt_irrefl _)
 refine wpAny_bind (wpAny_holding (wpAny_call_entry slot_list_sort ⟨_,hoL,rfl⟩ entry_list_sort (Srt.Qe5 (num:=λa=>num0 (Yo ps a)) (S:=λa=>a∈as) hoL (by show X.A.units+1+1<cLine;omega) hna hS (λx y hx hy=>hn x hx y hy) (λx hx=>hx) hbig λout a1 a2=>⟨_,rfl,?_⟩) (args_list_sort _)))
 refine wpAny_pure ⟨_,rfl,?_⟩
 obtain ⟨e,he⟩:=sortedHeap_at (out:=(out.map Value.ref).toArray) hoL
 have I1:Inv X pins σ H { s with heap:=gotH s.heap (as.map Value.ref),toks:=s.toks }:=I.kept (t':=s.toks) V2
 have I2:Inv X pins σ (upd H (gotH s.heap (as.map Value.ref)).objs.size (.lst (out.map V.ref))) { s with heap:=sortedHeap ((gotH s.heap (as.map Value.ref)).push (seqObj "list" (as.map Value.ref).toArray 0)) (gotH s.heap (as.map Value.ref)).objs.size (as.map Value.ref) (out.map Value.ref).toArray,toks:=s.toks }:=by
  refine I1.laid (t':=s.toks) (λb o eb=>?_) (Nat.le_refl _) ⟨?_,out.map Value.ref,e,Qbe out,he⟩
  ·have hb:=Heap.lt_size eb
   rw [sortedHeap_old (Nat.ne_of_lt hb) (by rw [size_push'];exact Nat.lt_succ_of_lt hb)]
   exact Heap.get?_push_of_some _ eb
  ·rw [List.length_map,a1.length_eq,sizeLine_eq];omega
 exact ⟨.ref (gotH s.heap (as.map Value.ref)).objs.size,_,I2,rfl,q out _ a1 a2 (I1.hok.fresh (Nat.le_refl _))⟩
end
end L2
namespace M
def sp (m i:Nat):Int × Int:=if i<4*m then (((i / 4:Nat):Int),((i % 4:Nat):Int)) else (-1,((i-4*m:Nat):Int))
theorem Qof {m k j:Nat} (hk:k<m) (hj:j<4):sp m (4*k+j)=((k:Int),(j:Int)):=by
 unfold sp
 rw [if_pos (by omega)]
 congr 1 <;> omega
theorem Qkp (m j:Nat):sp m (4*m+j)=(-1,(j:Int)):=by
 unfold sp
 rw [if_neg (by omega)]
 congr 1;omega
structure Tw (n:Nat) (A:Nat->Int) (g:Nat->Nat):Prop where
 lt:∀i,i<n->g i<n
 ne:∀i,i<n->g i≠i
 eq:∀i,i<n->A (g i)=A i
 only:∀i k,i<n->k<n->A k=A i->k=i\/k=g i
theorem Tw.inv {n:Nat} {A:Nat->Int} {g:Nat->Nat} (T:Tw n A g) {i:Nat} (h:i<n):g (g i)=i:=by
 rcases T.only (g i) i (T.lt i h) h (T.eq i h).symm with z | z
 ·exact absurd z.symm (T.ne i h)
 ·exact z.symm
def addP (P:List (Int × List Nat)) (a:Int) (i:Nat):List (Int × List Nat) :=
 if (P.any λe=>decide (e.1=a))=true then P.map (λe=>if e.1=a then (e.1,e.2++[i]) else e) else P++[(a,[i])]
def plc (A:Nat->Int) (t:Nat):List (Int × List Nat):=(List.range t).foldl (λP i=>addP P (A i) i) []
theorem X5 (A:Nat->Int) (t:Nat):plc A (t+1)=addP (plc A t) (A t) t:=by
 unfold plc;rw [List.range_succ,List.foldl_append];rfl
theorem Qcd (P:List (Int × List Nat)) (a:Int) (i:Nat):(addP P a i).map (·.1)=if (P.any λe=>decide (e.1=a))=true then P.map (·.1) else P.map (·.1)++[a]:=by
 unfold addP
 by_cases h:(P.any λe=>decide (e.1=a))=true
 ·rw [if_pos h,if_pos h,List.map_map]
  apply List.map_congr_left
  intro e _
  show (if e.1=a then (e.1,e.2++[i]) else e).1=e.1
  split <;> rfl
 ·rw [if_neg h,if_neg h,List.map_append];rfl
theorem Qg0 (A:Nat->Int):∀t,((plc A t).map (·.1)).Nodup/\(∀e∈plc A t,e.2=(List.range t).filter (λi=>decide (A i=e.1))/\e.2≠[])/\∀i,i<t->∃e∈plc A t,e.1=A i:=by
 intro t
 induction t with
 | zero=>exact ⟨List.nodup_nil,(λe h=>by cases h),λi h=>absurd h (Nat.not_lt_zero _)⟩
 | succ t ih =>
  obtain ⟨h1,h2,h3⟩:=ih
  rw [X5]
  have hr:∀(p:Nat->Bool),(List.range (t+1)).filter p=(List.range t).filter p++if p t then [t] else []:=λp=>by
   rw [List.range_succ,List.filter_append]
   congr 1
   by_cases hp:p t=true
   ·simp [hp]
   ·simp [hp]
  by_cases h:((plc A t).any λe=>decide (e.1=A t))=true
  ·refine ⟨by rw [Qcd,if_pos h];exact h1,λe he=>?_,λi hi=>?_⟩
   ·unfold addP at he
    rw [if_pos h] at he
    obtain ⟨e',he',rfl⟩:=List.mem_map.mp he
    obtain ⟨a1,a2⟩:=h2 e' he'
    by_cases hk:e'.1=A t
    ·rw [if_pos hk]
     refine ⟨?_,by simp⟩
     show e'.2++[t]=_
     rw [hr,← a1,if_pos (by simp [hk])]
    ·rw [if_neg hk]
     refine ⟨?_,a2⟩
     rw [hr,← a1,if_neg (by simp;exact λz=>hk z.symm),List.append_nil]
   ·have hmem:∀e∈plc A t,∃e'∈addP (plc A t) (A t) t,e'.1=e.1:=λe he=>by
     have:e.1∈(addP (plc A t) (A t) t).map (·.1):=by rw [Qcd,if_pos h];exact List.mem_map.mpr ⟨e,he,rfl⟩
     obtain ⟨e',h1',h2'⟩:=List.mem_map.mp this
     exact ⟨e',h1',h2'⟩
    by_cases hit:i<t
    ·obtain ⟨e,he,q⟩:=h3 i hit
     obtain ⟨e',a1,a2⟩:=hmem e he
     exact ⟨e',a1,a2.trans q⟩
    ·have:i=t:=by omega
     subst this
     obtain ⟨e,he,q⟩:=List.any_eq_true.mp h
     obtain ⟨e',a1,a2⟩:=hmem e he
     exact ⟨e',a1,a2.trans (of_decide_eq_true q)⟩
  ·have hno:∀e∈plc A t,e.1≠A t:=λe he z=>h (List.any_eq_true.mpr ⟨e,he,decide_eq_true z⟩)
   have hadd:addP (plc A t) (A t) t=plc A t++[(A t,[t])]:=by unfold addP;rw [if_neg h]
   rw [hadd]
   refine ⟨?_,λe he=>?_,λi hi=>?_⟩
   ·rw [List.map_append]
    refine List.nodup_append.mpr ⟨h1,by simp,λa ha b hb=>?_⟩
    obtain ⟨e,he,rfl⟩:=List.mem_map.mp ha
    have:b=A t:=by simpa using hb
    rw [this];exact hno e he
   ·rcases List.mem_append.mp he with he | he
    ·obtain ⟨a1,a2⟩:=h2 e he
     refine ⟨?_,a2⟩
     rw [hr,← a1,if_neg (by simp;exact λz=>hno e he z.symm),List.append_nil]
    ·have ee:e=(A t,[t]):=by simpa using he
     subst ee
     refine ⟨?_,by simp⟩
     rw [hr,if_pos (by simp)]
     have:(List.range t).filter (λi=>decide (A i=A t))=[]:=by
      rw [List.filter_eq_nil_iff]
      intro i hi
      have hi':i<t:=List.mem_range.mp hi
      obtain ⟨e,he,q⟩:=h3 i hi'
      simp
      intro z
      exact hno e he (q.trans z)
     show [t]=List.filter (λi=>decide (A i=A t)) (List.range t)++[t]
     rw [this];rfl
   ·by_cases hit:i<t
    ·obtain ⟨e,he,q⟩:=h3 i hit
     exact ⟨e,List.mem_append_left _ he,q⟩
    ·have:i=t:=by omega
     subst this
     exact ⟨_,List.mem_append_right _ (List.mem_singleton.mpr rfl),rfl⟩
theorem Qms {n:Nat} {A:Nat->Int} {g:Nat->Nat} (T:Tw n A g):(∀e∈plc A n,∃i,i<n/\e.2=[i,g i])/\∀i,i<n->∃e∈plc A n,i∈e.2:=by
 obtain ⟨_,h2,h3⟩:=Qg0 A n
 constructor
 ·intro e he
  obtain ⟨a1,a2⟩:=h2 e he
  have mem:∀k,k∈e.2↔k<n/\A k=e.1:=λk=>by rw [a1,List.mem_filter,List.mem_range];simp
  have nd:e.2.Nodup:=by rw [a1];exact List.nodup_range.sublist List.filter_sublist
  cases hl:e.2 with
  | nil=>exact absurd hl a2
  | cons i r =>
   rw [hl] at mem nd
   obtain ⟨hi,hA⟩:=(mem i).mp List.mem_cons_self
   obtain ⟨n1,n2⟩:=List.nodup_cons.mp nd
   refine ⟨i,hi,?_⟩
   have gm:g i∈i::r:=(mem (g i)).mpr ⟨T.lt i hi,(T.eq i hi).trans hA⟩
   have gr:g i∈r:=(List.mem_cons.mp gm).resolve_left (T.ne i hi)
   have all:∀k∈r,k=g i:=λk hk=>by
    obtain ⟨k1,k2⟩:=(mem k).mp (List.mem_cons_of_mem _ hk)
    rcases T.only i k hi k1 (k2.trans hA.symm) with z | z
    ·exact absurd (z ▸ hk) n1
    ·exact z
   have hr:r=[g i]:=by
    cases r with
    | nil=>cases gr
    | cons x r' =>
     have hx:=all x List.mem_cons_self
     cases r' with
     | nil=>rw [hx]
     | cons y r'' =>
      have hy:=all y (List.mem_cons_of_mem _ List.mem_cons_self)
      have:=(List.nodup_cons.mp n2).1
      exact absurd (by rw [hx,← hy];exact List.mem_cons_self) this
   rw [hr]
 ·intro i hi
  obtain ⟨e,he,q⟩:=h3 i hi
  obtain ⟨a1,_⟩:=h2 e he
  exact ⟨e,he,by rw [a1,List.mem_filter];exact ⟨List.mem_range.mpr hi,by simp [q]⟩⟩
end M
namespace L2
open PySem PySem.Spec PyProof.Rows
structure Lam where
 qual:Str
 args:Arguments
 body:Expr
 scope:Scope
 names:List Str
abbrev anyO:HO:=.ext λ_=>True
abbrev Lam.obj (L:Lam) (cl:List (Str × Addr)) (pm:Value) (c':Addr) (ctv:Value):Obj:=PySem.W.kla_obj "<lambda>" L.qual L.args L.body L.scope cl pm c' ctv
def Ux (H:Hp) (L:Lam) (a:Addr) (cl:List (Str × Addr)):Prop :=
 ∃(c':Addr) (oc:Obj) (vs:Array Value) (t:Tok) (pm ctv:Value) (u:HO),H a=some (.frz (L.obj cl pm c' ctv) anyO)/\H c'=some (.frz oc u)/\oc.data=.fields vs/\vs[1]? = some (.str L.qual t)
def Jn (H:Hp):List (Str × Addr)->List V->Prop
 | [],[]=>True
 | p::cl,x::xs=>(∃oo v,H p.2=some (.frz oo anyO)/\oo.data=.cell (some v)/\RelV x v)/\Jn H cl xs
 | _,_=>False
def Xc (H:Hp) (L:Lam) (a:Addr) (xs:List V):Prop :=
 ∃cl:List (Str × Addr),Ux H L a cl/\cl.map (·.1)=L.names/\(cl.map (·.2)).Nodup/\Jn H cl xs
section
variable {H H':Hp} {L:Lam} {a:Addr} {cl:List (Str × Addr)} {xs:List V}
theorem Ux.keeps (hi:∀b o u,H b=some (.frz o u)->H' b=some (.frz o u)) (x:Ux H L a cl):Ux H' L a cl:=by
 obtain ⟨c',oc,vs,t,pm,ctv,u,h1,h2,r⟩:=x
 exact ⟨c',oc,vs,t,pm,ctv,u,hi _ _ _ h1,hi _ _ _ h2,r⟩
theorem Jn.keeps (hi:∀b o u,H b=some (.frz o u)->H' b=some (.frz o u)):∀{cl:List (Str × Addr)} {xs:List V},Jn H cl xs->Jn H' cl xs
 | [],[],_=>trivial
 | p::cl,x::xs,⟨⟨oo,v,h1,r⟩,q⟩=>⟨⟨oo,v,hi _ _ _ h1,r⟩,Jn.keeps hi q⟩
 | [],_::_,h=>h.elim
 | _::_,[],h=>h.elim
theorem Xc.keeps (hi:∀b o u,H b=some (.frz o u)->H' b=some (.frz o u)) (x:Xc H L a xs):Xc H' L a xs:=by
 obtain ⟨cl,h1,h2,h3,h4⟩:=x
 exact ⟨cl,h1.keeps hi,h2,h3,h4.keeps hi⟩
theorem Jn.mem:∀{cl:List (Str × Addr)} {xs:List V},Jn H cl xs->∀p∈cl,∃oo v,H p.2=some (.frz oo anyO)/\oo.data=.cell (some v)
 | p::cl,x::xs,⟨⟨oo,v,h1,h2,_⟩,q⟩,p',h=>by
  rcases List.mem_cons.mp h with rfl | h
  ·exact ⟨oo,v,h1,h2⟩
  ·exact Jn.mem q p' h
 | _::_,[],h,_,_=>h.elim
theorem Jn.length:∀{cl:List (Str × Addr)} {xs:List V},Jn H cl xs->cl.length=xs.length
 | [],[],_=>rfl
 | p::cl,x::xs,⟨_,q⟩=>by rw [List.length_cons,List.length_cons,Jn.length q]
 | [],_::_,h=>h.elim
 | _::_,[],h=>h.elim
theorem Jn.get:∀{cl:List (Str × Addr)} {xs:List V} {i:Nat} {x:V},Jn H cl xs->xs[i]? = some x->∃p oo v,cl[i]? = some p/\H p.2=some (.frz oo anyO)/\oo.data=.cell (some v)/\RelV x v
 | p::cl,x::xs,0,y,⟨⟨oo,v,h⟩,q⟩,e=>by
  simp at e;subst e
  exact ⟨p,oo,v,by simp,h⟩
 | p::cl,x::xs,i+1,y,⟨_,q⟩,e=>by
  obtain ⟨p',oo,v,h⟩:=Jn.get (i:=i) q (by simpa using e)
  exact ⟨p',oo,v,by simpa using h⟩
 | [],[],_,_,_,e=>by simp at e
 | [],_::_,_,_,h,_=>h.elim
 | _::_,[],_,_,h,_=>h.elim
end
def rmC (H:Hp) (cs:List Addr):Hp:=λb=>if b∈cs then none else H b
def putC (H2 H:Hp) (cs:List Addr):Hp:=λb=>if b∈cs then H b else H2 b
theorem Qbc {H:Hp} {cs:List Addr} {b:Addr} (h:b∈cs):rmC H cs b=none:=if_pos h
theorem Jm {H:Hp} {cs:List Addr} {b:Addr} (h:b∉cs):rmC H cs b=H b:=if_neg h
theorem Zq {H:Hp} {cs:List Addr} {b:Addr} (h:H b=none):rmC H cs b=none:=by unfold rmC;split <;> first | rfl | exact h
theorem Qcq {H2 H:Hp} {cs:List Addr} {b:Addr} (h:b∈cs):putC H2 H cs b=H b:=if_pos h
theorem J2 {H2 H:Hp} {cs:List Addr} {b:Addr} (h:b∉cs):putC H2 H cs b=H2 b:=if_neg h
def Yg (H:Hp) (cs:List Addr):Prop:=∀b∈cs,∃oo v,H b=some (.frz oo anyO)/\oo.data=.cell v
section
variable {P:Program} {w:World} {K:PySem.W.Frag} {mg:Str->Option Value} {base:Heap} {A:Around} {outer:List Env} {s s':Shared} {H H2:Hp} {cs:List Addr} {h:Heap}
theorem Yg.out (c:Yg H cs) {b:Addr} {o:HO} (e:H b=some o) (n:∀oo v,o=.frz oo anyO->oo.data=.cell v->False):b∉cs:=λhb=>by
 obtain ⟨oo,v,e1,e2⟩:=c b hb
 rw [e] at e1
 cases e1
 exact n oo v rfl e2
theorem HOk.rm (ok:HOk P w H h) (c:Yg H cs):HOk P w (rmC H cs) h:=λa o e=>by
 have ha:a∉cs:=λz=>by rw [Qbc z] at e;cases e
 rw [Jm ha] at e
 refine (ok a o e).stay (λb u _ q=>q) (λb q=>?_) (λb xs q=>?_) λb u v vs q hd=>?_
 ·rw [Jm (c.out q λ_ _ z _=>by cases z)];exact q
 ·rw [Jm (c.out q λ_ _ z _=>by cases z)];exact q
 ·rw [Jm (c.out q λoo v z hd'=>by cases z;rw [hd] at hd';cases hd')];exact q
theorem Env0.rm (e:Env0 P w K mg base A outer s H) (c:Yg H cs):Env0 P w K mg base A outer s (rmC H cs) :=
 ⟨e.frames,e.mod,λb o q=>⟨(e.bs b o q).1,Zq (e.bs b o q).2⟩,e.bsz,e.funs,λb hb=>Zq (e.frf b hb),e.hok.rm c,e.bare⟩
theorem CE.back {Q Q':VK} {u:Value} (e:Env0 P w K mg base A outer s H) (c:Yg H cs) (x:CE outer P w (rmC H cs) s Q' u s') (hq:∀v H2,(∀b∈cs,H2 b=none)->Q' v H2->Q v (putC H2 H cs)):CE outer P w H s Q u s':=by
 obtain ⟨v,H2,os,bare,un,hok,r,q⟩:=x
 have gone:∀b∈cs,H2 b=none:=λb hb=>by
  obtain ⟨oo,v,e1,_⟩:=c b hb
  obtain ⟨e2,_⟩:=e.hok b _ e1
  exact un.free b _ e2 (Qbc hb) (by simp)
 have outN:∀b,H b=none->b∉cs:=λb n hb=>by
  obtain ⟨oo,v,e1,_⟩:=c b hb
  rw [n] at e1;cases e1
 have out2:∀b o,H2 b=some o->b∉cs:=λb o q hb=>by rw [gone b hb] at q;cases q
 refine ⟨v,putC H2 H cs,os,bare,⟨λb o q n=>un.keep b o q (Zq n),λb o q n=>un.slot b o q (Zq n),λb o q n hx=>?_,un.there,λb xs q=>?_,λb o v' q=>?_,λb ps q=>?_⟩,λa o q=>?_,r,hq v H2 gone q⟩
 ·rw [J2 (outN b n)];exact un.free b o q (Zq n) hx
 ·have z:=c.out q λ_ _ z _=>by cases z
  rw [J2 z];exact un.tups b xs (by rw [Jm z];exact q)
 ·by_cases z:b∈cs
  ·rw [Qcq z];exact q
  ·rw [J2 z];exact un.frzs b o v' (by rw [Jm z];exact q)
 ·have z:=c.out q λ_ _ z _=>by cases z
  obtain ⟨more,e1⟩:=un.tbls b ps (by rw [Jm z];exact q)
  exact ⟨more,by rw [J2 z];exact e1⟩
 ·by_cases z:a∈cs
  ·rw [Qcq z] at q
   obtain ⟨oo,v',e1,_⟩:=c a z
   rw [e1] at q
   cases q
   obtain ⟨e2,_⟩:=e.hok a _ e1
   have e3:=un.keep a _ e2 (Qbc z) (λhb=>by rw [e.frf a hb] at e1;cases e1) (by simp)
   exact ⟨e3,trivial,⟨_,e3⟩,λ_ _ _ _=>trivial⟩
  ·rw [J2 z] at q
   refine (hok a o q).stay (λb u _ q=>q) (λb q=>?_) (λb xs q=>?_) λb u v vs q _=>?_
   ·rw [J2 (out2 b _ q)];exact q
   ·rw [J2 (out2 b _ q)];exact q
   ·rw [J2 (out2 b _ q)];exact q
end
def addC (H:Hp) (h:Heap) (cs:List Addr):Hp:=λb=>if b∈cs then (h.get? b).map λo=>.frz o anyO else H b
section
variable {P:Program} {w:World} {K:PySem.W.Frag} {mg:Str->Option Value} {base:Heap} {A:Around} {outer:List Env} {s s':Shared} {H H2:Hp} {cs:List Addr}
theorem Qaw {h:Heap} {b:Addr} {o:Obj} (hb:b∈cs) (e:h.get? b=some o):addC H h cs b=some (.frz o anyO):=by unfold addC;rw [if_pos hb,e];rfl
theorem J4 {h:Heap} {b:Addr} (hb:b∉cs):addC H h cs b=H b:=if_neg hb
theorem V8 {h:Heap} (n:∀b∈cs,H b=none):∀b o,H b=some o->addC H h cs b=some o:=λb o e=>by
 rw [J4 λhb=>by rw [n b hb] at e;cases e];exact e
theorem HOk.addC {h:Heap} (ok:HOk P w H h) (n:∀b∈cs,H b=none) (t:∀b∈cs,∃o,h.get? b=some o):HOk P w (addC H h cs) h:=λa o e=>by
 by_cases z:a∈cs
 ·obtain ⟨ob,eb⟩:=t a z
  rw [Qaw z eb] at e
  cases e
  exact ⟨eb,trivial,⟨_,eb⟩,λ_ _ _ _=>trivial⟩
 ·rw [J4 z] at e
  exact (ok a o e).stay (λb u _ q=>q) (λb q=>V8 n b _ q) (λb xs q=>V8 n b _ q) λb u v vs q _=>V8 n b _ q
theorem Env0.addC (e:Env0 P w K mg base A outer s H) (n:∀b∈cs,H b=none) (t:∀b∈cs,∃o,s.heap.get? b=some o) (hb:∀b∈cs,base.get? b=none) (hf:∀b∈cs,b∉frs outer):Env0 P w K mg base A outer s (addC H s.heap cs) :=
 ⟨e.frames,e.mod,λb o q=>⟨(e.bs b o q).1,by rw [J4 λz=>by rw [hb b z] at q;cases q];exact (e.bs b o q).2⟩,e.bsz,e.funs,λb z=>by rw [J4 λy=>hf b y z];exact e.frf b z,e.hok.addC n t,e.bare⟩
theorem CE.unC {Q Q':VK} {u:Value} (n:∀b∈cs,H b=none) (t:∀b∈cs,∃o,s.heap.get? b=some o/\∃v,o.data=.cell v) (x:CE outer P w (addC H s.heap cs) s Q' u s') (hq:∀v H2,Yg H2 cs->Q' v H2->Q v (rmC H2 cs)):CE outer P w H s Q u s':=by
 obtain ⟨v,H2,os,bare,un,hok,r,q⟩:=x
 have isC:Yg H2 cs:=λb hb=>by
  obtain ⟨o,e,v,hv⟩:=t b hb
  exact ⟨o,v,un.frzs b o _ (Qaw hb e),hv⟩
 have outS:∀b o,H b=some o->b∉cs:=λb o q hb=>by rw [n b hb] at q;cases q
 have kept:∀b∈cs,∀o,s.heap.get? b=some o->s'.heap.get? b=some o:=λb hb o e=>(hok b _ (un.frzs b o _ (Qaw hb e))).1
 refine ⟨v,rmC H2 cs,os,bare,⟨λb o q n' hb hx=>?_,λb o q n' hb hx=>?_,λb o q n' hx=>?_,λb o q hx=>?_,λb xs q=>?_,λb o v' q=>?_,λb ps q=>?_⟩,hok.rm isC,r,hq v H2 isC q⟩
 ·by_cases z:b∈cs
  ·exact kept b z o q
  ·exact un.keep b o q (by rw [J4 z];exact n') hb hx
 ·by_cases z:b∈cs
  ·exact ⟨o.slots,kept b z o q⟩
  ·exact un.slot b o q (by rw [J4 z];exact n') hb hx
 ·by_cases z:b∈cs
  ·exact Qbc z
  ·rw [Jm z];exact un.free b o q (by rw [J4 z];exact n') hx
 ·exact un.there b o q hx
 ·have z:=outS b _ q
  rw [Jm z];exact un.tups b xs (by rw [J4 z];exact q)
 ·have z:=outS b _ q
  rw [Jm z];exact un.frzs b o v' (by rw [J4 z];exact q)
 ·have z:=outS b _ q
  obtain ⟨more,e⟩:=un.tbls b ps (by rw [J4 z];exact q)
  exact ⟨more,by rw [Jm z];exact e⟩
end
end L2
namespace L2
open PySem PySem.Spec PyProof.Rows
open PySem.W (kla_obj kla_fn envX CodeHd codeHd_of_K codeHdIn tabObj)
def G7 (mg:Str->Option Value) (base:Heap):Prop:=∃bm ob,mg "__builtins__" = some (.ref bm)/\bm≠builtinsNs/\base.get? bm=some ob/\ob.cls=.type "module" /\ ob.dict=some builtinsNs/\ob.data=.plain
def Tabs (TB:List (Addr × Array Value)) (H:Hp):Prop:=∀p∈TB,∃more,H p.1=some (.tbl (p.2++more))
theorem Tabs.un {TB:List (Addr × Array Value)} {fs ex:List Addr} {H H':Hp} {h h':Heap} (t:Tabs TB H) (u:Un fs ex H H' h h'):Tabs TB H':=λp hp=>by
 obtain ⟨m,e⟩:=t p hp
 obtain ⟨m2,e2⟩:=u.tbls _ _ e
 exact ⟨m++m2,by rw [e2,Array.append_assoc]⟩
abbrev tgOf (pos:Pos) (q:Str):Array Value:=#[rawInt pos.line,rawInt pos.col,.str q 0]
theorem tg0 {a b c:Value} {more:Array Value}:(#[a,b,c]++more).getD 0 .none=a:=by rw [Array.getD_eq_getD_getElem?,Array.getElem?_append_left (by show 0<3;decide)];rfl
theorem tg1 {a b c:Value} {more:Array Value}:(#[a,b,c]++more).getD 1 .none=b:=by rw [Array.getD_eq_getD_getElem?,Array.getElem?_append_left (by show 1<3;decide)];rfl
theorem tg2 {a b c:Value} {more:Array Value}:(#[a,b,c]++more).getD 2 .none=c:=by rw [Array.getD_eq_getD_getElem?,Array.getElem?_append_left (by show 2<3;decide)];rfl
section
variable {X:Cx}
theorem Qo6 {L:Lam} {c P:Addr} {lpos:Pos} {clos:List (Str × Addr)} (hcode:X.env.code=.ref c) (hd:codeHdIn X.K c P=true) (hT:∃more,X.H₀ P=some (.tbl (tgOf lpos L.qual++more))) (hb:G7 X.mg X.base)
  (hq:X.env.qual ++ "<lambda>" = L.qual:=by rfl) (hcl:closureFor L.scope X.env=pure clos:=by rfl) (hdef:defaultsOf L.args X.env=([],[]):=by rfl) :
  PE X (.Lambda L.args L.body L.scope lpos) (λσ H Q=>∀f H',H f=none->Same H H'->Ux H' L f clos->Q (.ref f) H'):=by
 intro pins s σ H Q I h
 refine PySem.W.kla_eval hdef ?_
 rw [hq]
 obtain ⟨more0,e0⟩:=hT
 obtain ⟨more,eP⟩:=I.base.tbls P _ e0
 rw [Array.append_assoc] at eP
 obtain ⟨ts,eT,alt⟩:=I.hok P _ eP
 rw [tg0,tg1,tg2] at alt
 obtain ⟨bm,ob,b1,b2,b3,b4,b5,b6⟩:=hb
 have hbm:=I.bs bm ob b3
 have hPbm:bm≠P:=λz=>by rw [z] at hbm;rw [eP] at hbm;cases hbm.2
 obtain ⟨og,esg,epg,eg,dg,rg⟩:=id I.mod.glob
 have hGP:mainGlobals≠P:=λz=>by
  have:=(I.bs _ og eg).2
  rw [z,eP] at this;cases this
 have hbmG:bm≠mainGlobals:=λz=>by
  rw [z,eg] at b3
  cases b3
  rw [dg] at b6;cases b6
 have hgl:s.heap.Ns mainGlobals X.mg:=I.mod.glob.keeps I.bk
 have BA:s.heap.BuiltinsAt X.mg P:=⟨bm,ob,b1,b2,hbmG,hPbm,hbm.1,b4,b5,b6⟩
 have C:CodeHd s.heap c P:=codeHd_of_K I.kIn hd
 rcases alt with rfl | ⟨k,oc,u,vs,t,q,t',z1,z2,z3,z4,z5⟩
 ·refine PySem.W.kla_makeFunction hcl I.ok.glob hgl hcode C eT trivial rfl hGP BA λc' ctv h' tk hx hge hlt hrec htb=>?_
  obtain ⟨c2,oc,vs,t,e2,hoc,hod,hv⟩:=hrec
  cases e2
  generalize hpm:(X.mg "__name__").getD .none=pm
  have hcn:H c'=none:=I.hok.fresh hge
  have hfn:H h'.objs.size=none:=I.hok.fresh (Nat.le_trans hge (Nat.le_of_lt hlt))
  have hfc:h'.objs.size≠c':=Nat.ne_of_gt hlt
  have old:∀b o,s.heap.get? b=some o->b≠P->(h'.push (L.obj clos pm c' ctv)).get? b=some o:=λb o e n=>Heap.get?_push_of_some _ (hx b o n e)
  have lt:∀b o,s.heap.get? b=some o->b≠h'.objs.size/\b≠c':=λb o e=>⟨Nat.ne_of_lt (Nat.lt_trans (Nat.lt_of_lt_of_le (Heap.lt_size e) hge) hlt),Nat.ne_of_lt (Nat.lt_of_lt_of_le (Heap.lt_size e) hge)⟩
  have nP:∀b,H b=none->b≠P:=λb n z=>by rw [z,eP] at n;cases n
  have sm:∀b o,H b=some o->upd (upd H c' (.frz oc anyO)) h'.objs.size (.frz (L.obj clos pm c' ctv) anyO) b=some o:=λb o e=>by
   rw [Qk (Qq e hfn),Qk (Qq e hcn)];exact e
  have hc2:upd (upd H c' (.frz oc anyO)) h'.objs.size (.frz (L.obj clos pm c' ctv) anyO) c'=some (.frz oc anyO):=by rw [Qk (Ne.symm hfc),Qb]
  have I':Inv X pins σ (upd (upd H c' (.frz oc anyO)) h'.objs.size (.frz (L.obj clos pm c' ctv) anyO)) { s with heap:=h'.push (L.obj clos pm c' ctv),toks:=tk }:=by
   refine I.un ⟨λb o e n _ _=>old b o e (nP b n),λb o e n _ _=>⟨o.slots,old b o e (nP b n)⟩,λb o e n _=>?_,λb o e _=>?_,λb xs e=>sm _ _ e,λb o v e=>sm _ _ e,λb ps e=>⟨#[],by rw [sm _ _ e];simp⟩⟩ λa o e=>?_
   ·rw [Qk (lt b o e).1,Qk (lt b o e).2];exact n
   ·by_cases z:b=P
    ·exact ⟨_,by rw [z];exact Heap.get?_push_of_some _ htb⟩
    ·exact ⟨_,old b o e z⟩
   ·by_cases z1:a=h'.objs.size
    ·subst z1
     rw [Qb] at e
     cases e
     have e3:=Heap.get?_push_size h' (o:=L.obj clos pm c' ctv) rfl
     exact ⟨e3,trivial,⟨_,e3⟩,λ_ _ _ _=>trivial⟩
    ·rw [Qk z1] at e
     by_cases z2:a=c'
     ·subst z2
      rw [Qb] at e
      cases e
      have e3:=Heap.get?_push_of_some (L.obj clos pm a ctv) hoc
      exact ⟨e3,trivial,⟨_,e3⟩,λ_ _ _ _=>trivial⟩
     ·rw [Qk z2] at e
      by_cases z3:a=P
      ·subst z3
       rw [eP] at e
       cases e
       refine ⟨_,Heap.get?_push_of_some _ htb,.inr ⟨c',oc,anyO,vs,t,L.qual,0,?_,hc2,hod,tg2,hv⟩⟩
       rw [tg0,tg1];rfl
      ·refine (I.hok a o e).stay (λb u hb q=>old b u q λz=>?_) (λb q=>sm _ _ q) (λb xs q=>sm _ _ q) λb u v vs q _=>sm _ _ q
       rcases hb with hb | hb
       ·exact z3 (hb ▸ z)
       ·rw [z,eP] at hb;cases hb
  exact ⟨.ref h'.objs.size,_,I',rfl,h _ _ hfn sm ⟨c',oc,vs,t,pm,ctv,anyO,Qb,hc2,hod,hv⟩⟩
 ·cases z4
  refine PySem.W.kla_makeFunctionHit (cv:=.ref k) hcl I.ok.glob hgl hcode C eT (by rw [z1];exact trivial) (by rw [z1];simp [codeAmong,rawInt]) BA λctv h' tk hk hsz=>?_
  generalize hpm:(X.mg "__name__").getD .none=pm
  have hfn:H h'.objs.size=none:=I.hok.fresh hsz
  have e3:=Heap.get?_push_size h' (o:=L.obj clos pm k ctv) rfl
  have sm:∀b o,H b=some o->upd H h'.objs.size (.frz (L.obj clos pm k ctv) anyO) b=some o:=λb o e=>by rw [Qk (Qq e hfn)];exact e
  exact ⟨.ref h'.objs.size,_,I.laid (o:=.frz (L.obj clos pm k ctv) anyO) (λb o e=>Heap.get?_push_of_some _ (hk b o e)) hsz ⟨e3,trivial,⟨_,e3⟩,λ_ _ _ _=>trivial⟩,rfl,h _ _ hfn sm ⟨k,oc,vs,t,pm,ctv,u,Qb,sm _ _ z2,z3,z5⟩⟩
end
def Qce (P:Program) (w:World) (K:PySem.W.Frag) (mg:Str->Option Value) (base:Heap) (k:Nat) (L:Lam) (sp:Sp):Prop :=
 ∀(A:Around) (outer:List Env) (s:Shared) (H:Hp) (u:Value) (y:V) (xs:List V) (a:Addr) (Q:VK),Room k A->Env0 P w K mg base A outer s H->Xc H L a xs->RelV y u->sp (y::xs) H Q E0 ->
  codeAny (model P w) A (.call (.ref a) ⟨[u],[]⟩) (CR CX0 outer P w H s Q E0) s
def Qka (P:Program) (w:World) (K:PySem.W.Frag) (mg:Str->Option Value) (base:Heap) (L:Lam) (p:Str) (f:Addr) (cd:Value) (cl:List (Str × Addr)) (A:Around) (outer:List Env) (s:Shared) (H:Hp):Cx where
 prog:=P
 w:=w
 K:=K
 mg:=mg
 base:=base
 A:=A.deeper (envX L.qual L.scope s.heap.objs.size f cd cl)
 N:=p::L.names
 s₀:=s
 H₀:=H
 env:=envX L.qual L.scope s.heap.objs.size f cd cl
 outer:=outer
 stack:=envX L.qual L.scope s.heap.objs.size f cd cl::outer
 ex:=[]
 calm:=true
 fn:=λx=>decide (x=p)
 pn:=[]
 xe:=λ_ _=>False
structure LamScope (L:Lam) (p:Str):Prop where
 kind:L.scope.kind=.function
 co:L.scope.isCoroutine=false
 gen:L.scope.isGenerator=false
 cell:∀x∈L.scope.names,x.2 ≠ .cell
 par:L.scope.names.lookup p=some .local
 free:∀x∈L.scope.names,x.2=.free->x.1∈L.names
 vis:∀x∈L.names,L.scope.names.lookup x=some .free
 nd:(p::L.names).Nodup
theorem Go:∀{cl:List (Str × Addr)} {i:Nat} {q:Str × Addr},(cl.map (·.1)).Nodup->cl[i]? = some q->cl.lookup q.1=some q.2
 | p::cl,0,q,_,e=>by
  simp at e;subst e
  simp [List.lookup]
 | p::cl,i+1,q,nd,e=>by
  have nd':=List.nodup_cons.mp nd
  have e':cl[i]? = some q:=by simpa using e
  have:q.1≠p.1:=λz=>nd'.1 (by show p.1∈_;rw [← z];exact List.mem_map_of_mem (f:=λx:Str × Addr=>x.1) (List.mem_of_getElem? e'))
  obtain ⟨p1,p2⟩:=p
  rw [List.lookup_cons,show (q.1 == p1)=false by simpa using this]
  exact Go nd'.2 e'
 | [],_,_,_,e=>by simp at e
theorem Qp4 {P:Program} {w:World} {K:PySem.W.Frag} {mg:Str->Option Value} {base:Heap} {k:Nat} {L:Lam} {p:Str} {sp:Sp} (S:LamScope L p)
  (hbind:∀(cl:List (Str × Addr)) (pm cdv ct u:Value),bindArgs (kla_fn "<lambda>" L.qual L.args L.body L.scope cl pm cdv ct) ⟨[u],[]⟩=pure [(p,u)])
  (hbody:∀(A:Around) (outer:List Env) (s:Shared) (H:Hp) (f:Addr) (cd:Value) (cl:List (Str × Addr)) (y:V) (xs:List V) (Q:VK),Room k (A.deeper (envX L.qual L.scope s.heap.objs.size f cd cl))->Yg H (cl.map (·.2))->sp (y::xs) H Q E0 ->
   ∃t,PE (Qka P w K mg base L p f cd cl A outer s (rmC H (cl.map (·.2)))) L.body t/\t (some y::xs.map some) (rmC H (cl.map (·.2))) (λv H2=>(∀b∈cl.map (·.2),H2 b=none)->Q v (putC H2 H (cl.map (·.2))))) :
  Qce P w K mg base (k+1) L sp:=by
 intro A outer s H u y xs a Q hr e0 hc ry hsp
 obtain ⟨cl,⟨c',oc,vs,t,pm,ctv,u1,h1,h2,h3,h4⟩,hnm,hnd,hcs⟩:=hc
 have ha:=(e0.hok a _ h1).1
 have hcode:=(e0.hok c' _ h2).1
 have isC:Yg H (cl.map (·.2)):=λb hb=>by
  obtain ⟨q,hq,rfl⟩:=List.mem_map.mp hb
  obtain ⟨oo,v,e1,e2⟩:=hcs.mem q hq
  exact ⟨oo,_,e1,e2⟩
 have ndn:(cl.map (·.1)).Nodup:=by rw [hnm];exact (List.nodup_cons.mp S.nd).2
 have KX:K.In s.heap:=e0.mod.kin.keeps λb o e=>(e0.bs b o e).1
 have lim:s.heap.NoLimit:=e0.mod.nolimit.keeps λb o e=>(e0.bs b o e).1
 refine PySem.W.kla_callFunE hr.depth ha rfl S.co S.gen rfl ⟨c',oc,vs,t,rfl,hcode,h3,h4⟩ ?_
 rw [hbind]
 refine wpAny_pure (wpAny_newFunctionEnv S.cell (λz hz=>by rw [List.mem_singleton.mp hz];exact S.par) (λh₁ hns hsb=>⟨lim.fresh _ hsb,?_⟩) S.kind)
 show codeAny _ _ (.expr L.body (envX L.qual L.scope s.heap.objs.size a (.ref c') cl)) _ _
 have hk₁:∀b o,s.heap.get? b=some o->h₁.get? b=some o:=λb o e=>hsb.extBut b o (Nat.ne_of_lt (Heap.lt_size e)) (Heap.get?_push_of_some _ e)
 have er:=e0.rm isC
 obtain ⟨tt,ht,hq⟩:=hbody A outer s H a (.ref c') cl y xs Q (hr.deeper _) isC hsp
 have cellAt:∀x c,cl.lookup x=some c->∃v,h₁.IsCell c v:=λx c e=>by
  obtain ⟨oo,v,e1,e2⟩:=isC c (List.mem_map.mpr ⟨(x,c),PySem.mem_of_lookup e,rfl⟩)
  exact ⟨_,oo,hk₁ _ _ (e0.hok c _ e1).1,e2⟩
 have noA:∀b:Addr,b∉(Qka P w K mg base L p a (.ref c') cl A outer s (rmC H (cl.map (·.2)))).ex:=λb z=>absurd (show b∈([]:List Addr) from z) (by simp)
 have lkN:∀y c,cl.lookup y=some c->y∈L.names:=λy c e=>by rw [← hnm];exact List.mem_map.mpr ⟨(y,c),PySem.mem_of_lookup e,rfl⟩
 have I:Inv (Qka P w K mg base L p a (.ref c') cl A outer s (rmC H (cl.map (·.2)))) [] (some y::xs.map some) (rmC H (cl.map (·.2))) { s with heap:=h₁,toks:=s.toks+1 }:=by
  refine ⟨⟨e0.mod,S.kind,rfl,rfl,Nat.le_refl _,λy z c h1 h2=>?_,λy hy=>?_,λy c hf h=>?_,λ_=>hr.hd,Around.frames_deeper e0.frames,.inr ⟨rfl,rfl⟩,λb z=>absurd z (noA b),er.bs,er.bsz,λb _ _=>noA b,λb z=>absurd z (noA b),er.funs,er.frf⟩,
   rfl,e0.bare,Un.kept hk₁,⟨_,hns,λi z v h1 h2 h3=>?_⟩,cellAt,Zq (e0.hok.fresh (Nat.le_refl _)),λy c h=>Qbc (List.mem_map.mpr ⟨(y,c),PySem.mem_of_lookup h,rfl⟩),λq hq=>absurd (show q∈([]:List (Addr × Obj)) from hq) (by simp),er.hok.kept hk₁,?_⟩
  ·have m1:=PySem.mem_of_lookup h1
   have m2:=PySem.mem_of_lookup h2
   obtain ⟨i,hi,e1⟩:=List.getElem_of_mem m1
   obtain ⟨j,hj,e2⟩:=List.getElem_of_mem m2
   have:i=j:=by
    have hi2:i<cl.length:=hi
    have hj2:j<cl.length:=hj
    have e1:cl[i]=_:=e1
    have e2:cl[j]=_:=e2
    have hi':i<(cl.map λq:Str × Addr=>q.2).length:=by rw [List.length_map];exact hi2
    have hj':j<(cl.map λq:Str × Addr=>q.2).length:=by rw [List.length_map];exact hj2
    exact (List.getElem_inj (h₀:=hi') (h₁:=hj') hnd).mp (by rw [List.getElem_map,List.getElem_map,e1,e2])
   subst this
   rw [e1] at e2
   cases e2;rfl
  ·have hy:L.scope.names.lookup y=some .cell\/L.scope.names.lookup y=some .free:=hy
   rcases hy with hy | hy
   ·exact absurd rfl (S.cell _ (PySem.mem_of_lookup hy))
   ·have:=S.free _ (PySem.mem_of_lookup hy) rfl
    rw [← hnm] at this
    obtain ⟨q,hq,e⟩:=List.mem_map.mp this
    obtain ⟨i,hi⟩:=List.getElem?_of_mem hq
    have e:q.1=y:=e
    exact ⟨q.2,by rw [← e];exact Go ndn hi⟩
  ·have hf:decide (y=p)=true:=hf
   have:=of_decide_eq_true hf
   subst this
   exact absurd (lkN _ _ h) (List.nodup_cons.mp S.nd).1
  ·cases i with
   | zero =>
    simp at h2
    subst h2
    have:z=p:=by
     have h1:(p::L.names)[0]? = some z:=h1
     simpa using h1.symm
    subst this
    exact ⟨u,ry,.inl ⟨S.par,by simp [List.lookup]⟩⟩
   | succ i =>
    have hx:xs[i]? = some v:=by
     rw [List.getElem?_cons_succ,List.getElem?_map] at h2
     cases q:xs[i]? with
     | none=>rw [q] at h2;cases h2
     | some x=>rw [q] at h2;simp at h2;rw [h2]
    have hz:L.names[i]? = some z:=by
     have h1:(p::L.names)[i+1]? = some z:=h1
     simpa using h1
    obtain ⟨q,oo,uv,e1,e2,e3,e4⟩:=hcs.get hx
    have e5:q.1=z:=by
     rw [← hnm,List.getElem?_map,e1] at hz
     simpa using hz
    refine ⟨uv,e4,.inr ⟨.inr (S.vis z (List.mem_of_getElem? hz)),q.2,by rw [← e5];exact Go ndn e1,oo,hk₁ _ _ (e0.hok q.2 _ e2).1,e3⟩⟩
  ·show (some y::xs.map some).length=(p::L.names).length
   rw [List.length_cons,List.length_map,List.length_cons,← hnm,List.length_map,hcs.length]
 refine PySem.W.kla_codeExpr (wpAny_mono (ht [] _ _ _ _ I hq) (λv s' hz=>?_) λe s' hz=>hz.elim)
 obtain ⟨v',H2,J,rv,q⟩:=hz
 have ce:CE outer P w (rmC H (cl.map (·.2))) s (λv H2=>(∀b∈cl.map (·.2),H2 b=none)->Q v (putC H2 H (cl.map (·.2)))) v s':=⟨v',H2,J.os,J.bare,J.base,J.hok,rv,q⟩
 exact CE.back e0 isC ce λv H2 hn hq=>hq hn
section
variable {X:Cx} {k:Nat}
theorem Qfc {i:Nat} {L:Lam} {sp:Sp} {e:Expr} {te:TE} {v:Str} {p pos:Pos} (F:Qce X.prog X.w X.K X.mg X.base k L sp) (hr:Room k X.A) (he:PE X e te) (hN:X.N[i]? = some v) (hv:Vis X.env.scope v) (hd:(v == ("__debug__" : Str))=false:=by decide) (hcd:(v == ("__classdict__" : Str))=false:=by decide)
  (hs:starEach [e] X.env=(false,eval e X.env)::starEach [] X.env:=by rfl) (hpl:(backTo pos (starEach [] X.env)).any (·.1)=false:=by rfl) :
  PE X (.Call (.Name v p) [e] [] pos) (λσ H Q=>∃a xs,σ[i]? = some (some (.ref a))/\Xc H L a xs/\te σ H λy H1=>Xc H1 L a xs/\sp (y::xs) H1 Q E0):=by
 intro pins s σ H Q I h
 obtain ⟨a,xs,h1,h2,h3⟩:=h
 refine wpAny_Call_Name_kw (thn (Jt hN hv hd hcd pins s σ H (λx H'=>x=.ref a/\H'=H) I ⟨_,h1,rfl,rfl⟩) λf s1 z=>?_)
 obtain ⟨x,H0,I0,rx,rfl,rfl⟩:=z
 cases rx
 have fn:∀{H:Hp} {s:Shared},Inv X pins σ H s->Xc H L a xs->PySem.W.FnAt a s.heap:=λI ⟨cl,⟨c',oc,vs,t,pm,ctv,u,e1,_⟩,_⟩=>⟨_,_,_,_,(I.hok a _ e1).1⟩
 refine PySem.W.callWith_F (fn I0 h2) ?_ hs hpl
 rw [hs]
 refine Calls.spliced_cons (thn (he pins s1 σ H0 _ I0 h3) λu s2 ⟨y,H1,I1,r1,q1,q2⟩=>?_)
 refine Calls.spliced_nil ⟨fn I1 q1,?_⟩
 refine wpAny_call (codeAny_mono (F X.A X.stack s2 H1 u y xs a Q hr I1.env0 q1 r1 q2) λr s' hq=>?_)
 cases r with
 | error e=>exact hq.elim
 | ok fl =>
  cases fl with
  | ret u=>exact I1.after hq
  | next=>exact False.elim hq
  | brk=>exact False.elim hq
  | cont=>exact False.elim hq
def capd (σ:St):List Nat->List V->Prop
 | [],[]=>True
 | i::ix,x::xs=>σ[i]? = some (some x)/\capd σ ix xs
 | _,_=>False
def Qcg (X:Cx):List Nat->List (Str × Addr)->Prop
 | [],[]=>True
 | i::ix,p::cl=>X.N[i]? = some p.1/\X.env.scope.names.lookup p.1=some .cell/\X.env.cells.lookup p.1=some p.2/\X.fn p.1=true/\Qcg X ix cl
 | _,_=>False
theorem Xw {pins:List (Addr × Obj)} {σ:St} {H H':Hp} {s:Shared} (I:Inv X pins σ H s):∀{ix:List Nat} {cl:List (Str × Addr)} {xs:List V},Qcg X ix cl->capd σ ix xs->(∀p∈cl,∀o,s.heap.get? p.2=some o->H' p.2=some (.frz o anyO))->Jn H' cl xs
 | [],[],[],_,_,_=>trivial
 | i::ix,p::cl,x::xs,⟨h1,h2,h3,_,h5⟩,⟨g1,g2⟩,hk=>by
  obtain ⟨m,_,hl⟩:=I.loc
  obtain ⟨u,r,l⟩:=hl i p.1 x h1 g1 (.inr (.inl h2))
  refine ⟨?_,Xw I h5 g2 λq hq=>hk q (List.mem_cons_of_mem _ hq)⟩
  rcases l with ⟨k,_⟩ | ⟨_,c,e,oo,e1,e2⟩
  ·have k:X.env.scope.names.lookup p.1=some .local:=k
   rw [h2] at k;cases k
  ·rw [h3] at e
   cases e
   exact ⟨oo,u,hk p List.mem_cons_self oo e1,e2,r⟩
 | [],[],_::_,_,h,_=>h.elim
 | _::_,_::_,[],_,h,_=>h.elim
 | [],_::_,_,h,_,_=>h.elim
 | _::_,[],_,h,_,_=>h.elim
theorem Uk:∀{ix:List Nat} {cl:List (Str × Addr)},Qcg X ix cl->∀p∈cl,X.env.cells.lookup p.1=some p.2/\X.fn p.1=true
 | i::ix,q::cl,⟨_,_,h3,h4,h5⟩,p,h=>by
  rcases List.mem_cons.mp h with rfl | h
  ·exact ⟨h3,h4⟩
  ·exact Uk h5 p h
 | [],_::_,h,_,_=>h.elim
theorem Qfb {L:Lam} {f:Addr} {fd:FuncData} {ps:List Str} {sp:Sp} {x:Str} {p pos:Pos} {e lam:Expr} {te:TE} {ix:List Nat} {clos:List (Str × Addr)} (F:FnOk X.prog X.w X.K X.mg X.base CX0 k f fd ps sp) (hr:Room k X.A) (hg:Gl X x) (hm:X.mg x=some (.ref f)) (hk:PySem.W.keepIn X.K (.ref f)=true) (hb:Qa0 X.K fd ps [])
  (he:PE X e te) (hlam:PE X lam (λσ H Q=>∀f H',H f=none->Same H H'->Ux H' L f clos->Q (.ref f) H')) (hc:Qcg X ix clos) (hn:clos.map (·.1)=L.names) (hnd:(clos.map (·.2)).Nodup) (hdb:(x == ("__debug__" : Str))=false:=by decide)
  (hs:starEach [e,lam] X.env=(false,eval e X.env)::starEach [lam] X.env:=by rfl) (hs2:starEach [lam] X.env=(false,eval lam X.env)::starEach [] X.env:=by rfl) (hpl:(backTo pos (starEach [lam] X.env)).any (·.1)=false:=by rfl) :
  PE X (.Call (.Name x p) [e,lam] [] pos) (λσ H Q=>te σ H λy H1=>∃xs,capd σ ix xs/\∀f H2,H1 f=none->Same H1 H2->Xc H2 L f xs->sp [y,.ref f] H2 (λv H3=>∀H4,(∀b ob,H3 b=some ob->(∀o u,ob ≠ .frz o u)->H4 b=some ob)->(∀b ob,H1 b=some ob->H3 b=some ob->H4 b=some ob)->Q v H4) E0):=by
 intro pins s σ H Q I h
 refine wpAny_Call_Name_kw (Qad I hg hm ?_ hdb)
 refine PySem.W.callWith_K (h₀:=X.base) I.ok.mod.kin hk ?_ hs hpl
 rw [hs]
 show wpAny _ _ (spliced ((false,eval e X.env)::backTo pos (starEach [lam] X.env))) _ _ s
 refine Calls.spliced_cons (thn (he pins s σ H _ I h) λu s1 ⟨y,H1,I1,r1,xs,cx,q1⟩=>?_)
 rw [hs2]
 show wpAny _ _ (spliced ((false,eval lam X.env)::backTo pos (starEach [] X.env))) _ _ s1
 refine Calls.spliced_cons (thn (hlam pins s1 σ H1 (λv H2=>∃f,v=.ref f/\H1 f=none/\Same H1 H2/\Ux H2 L f clos) I1 λf H' n sm cp=>⟨f,rfl,n,sm,cp⟩) λu2 s2 z=>?_)
 obtain ⟨v2,H2,I2,r2,f2,rfl,n2,sm2,cp2⟩:=z
 cases r2
 refine Calls.spliced_nil ⟨I2.kIn,?_⟩
 have cN:∀b∈clos.map (·.2),H2 b=none:=λb hb=>by
  obtain ⟨q,hq,rfl⟩:=List.mem_map.mp hb
  exact I2.freeC q.1 q.2 (Uk hc q hq).1
 have cT:∀b∈clos.map (·.2),∃o,s2.heap.get? b=some o/\∃v,o.data=.cell v:=λb hb=>by
  obtain ⟨q,hq,rfl⟩:=List.mem_map.mp hb
  obtain ⟨v,o,ho,hd⟩:=I2.cell q.1 q.2 (Uk hc q hq).1
  exact ⟨o,ho,v,hd⟩
 have cU:∀b∈clos.map (·.2),X.s₀.heap.objs.size<=b:=λb hb=>by
  obtain ⟨q,hq,rfl⟩:=List.mem_map.mp hb
  exact I2.ok.cab q.1 q.2 (Uk hc q hq).2 (Uk hc q hq).1
 have cB:∀b∈clos.map (·.2),X.base.get? b=none:=λb hb=>Heap.get?_none_of_le (Nat.le_trans I2.ok.bsz (cU b hb))
 have cF:∀b∈clos.map (·.2),b∉frs X.stack:=λb hb z=>by
  rcases List.mem_cons.mp (I2.stkSub b z) with z | z
  ·obtain ⟨q,hq,rfl⟩:=List.mem_map.mp hb
   exact I2.cne q.1 q.2 (Uk hc q hq).1 z
  ·obtain ⟨_,o,ho,_⟩:=I2.ok.funs.mem z
   exact absurd (Nat.lt_of_lt_of_le (Heap.lt_size ho) (cU b hb)) (Nat.lt_irrefl _)
 have eA:=I2.env0.addC cN (λb hb=>let ⟨o,e,_⟩:=cT b hb;⟨o,e⟩) cB cF
 have smA:Same H2 (addC H2 s2.heap (clos.map (·.2))):=V8 cN
 have cA:Xc (addC H2 s2.heap (clos.map (·.2))) L f2 xs:=⟨clos,cp2.keeps λb o u e=>smA b _ e,hn,hnd,Xw I2 hc cx λq hq o e=>Qaw (List.mem_map_of_mem hq) e⟩
 have hsp:=q1 f2 _ n2 (sm2.trans smA) cA
 have rv:Vals [y,V.ref f2] [u,.ref f2]:=.cons r1 (.cons rfl .nil)
 have hl:([u,Value.ref f2]++[]).length=ps.length:=F.len _ _ _ _ hsp
 have hbb:=hb s2 [u,.ref f2] I2.kIn hl
 rw [List.append_nil] at hbb
 refine wpAny_call (codeAny_mono (F.run X.A X.stack s2 _ ⟨[u,.ref f2],[]⟩ [u,.ref f2] [y,.ref f2] _ E0 hr eA hbb rv hsp) λr s' hq=>?_)
 cases r with
 | error e=>exact hq.elim
 | ok fl =>
  cases fl with
  | next=>exact False.elim hq
  | brk=>exact False.elim hq
  | cont=>exact False.elim hq
  | ret u =>
   refine I2.after (CE.unC (Q:=Q) cN cT hq λv H3 isC hv=>hv _ (λb ob e nf=>?_) λb ob e e3=>?_)
   ·rw [Jm (isC.out e λo _ z _=>nf _ _ z)];exact e
   ·rw [Jm λhb=>by have:=sm2 b ob e;rw [cN b hb] at this;cases this];exact e3
end
end L2
namespace PV
open PySem PySem.Spec L2
inductive Ty where
 | int | bool | str | tuple | list | dict
 deriving DecidableEq
def Ty.nm:Ty->String
 | .int=>"int" | .bool=>"bool" | .str=>"str" | .tuple=>"tuple" | .list=>"list" | .dict=>"dict"
inductive KC where
 | any (a:Addr)
 | fn (x:Str)
 | int (i:Int)
 | tup (ks:List KC)
mutual
inductive IsKC (K:PySem.W.Frag):KC->V->Prop
 | any (a:Addr):IsKC K (.any a) (.ref a)
 | fn {x:Str} {f:Addr} (h:PySem.W.nsIn K mainGlobals x=some (some (.ref f))):IsKC K (.fn x) (.ref f)
 | int (i:Int):IsKC K (.int i) (.int i)
 | tup {a:Addr} {xs:List V} {ks:List KC} {o:Obj} {its:Array Value} {n:Nat} (h1:K.lookup a=some o) (h2:o.cls=.type "tuple") (h3:o.data=.seq its n) (h4:its.size<=sizeLine) (h5:Vals xs its.toList) (r:AreKC K ks xs):IsKC K (.tup ks) (.ref a)
inductive AreKC (K:PySem.W.Frag):List KC->List V->Prop
 | nil:AreKC K [] []
 | cons {c:KC} {v:V} {cs:List KC} {vs:List V} (h:IsKC K c v) (r:AreKC K cs vs):AreKC K (c::cs) (v::vs)
end
inductive D where
 | non
 | bl (b:Bool)
 | int (i:Int)
 | str (x:Str)
 | tup (xs:List D)
 | lst (xs:List D)
 | dik (kvs:List (Key × D))
 | dit (kvs:List (List Key × D))
 | kls (xs:List D)
 | ty (t:Ty)
 | fdk (kvs:List (Key × D))
 | ftp (xs:List D)
 | fls (xs:List D)
 | fdt (kvs:List (List Key × D))
 | obj (x:Str) (fs:List (Str × Int))
 | clo (L:Lam) (ds:List D)
 | kc (c:KC)
def imm:HO->Bool
 | .tup _=>true
 | .frz _ _=>true
 | _=>false
def FzL (K:PySem.W.Frag) (H:Hp) (a:Addr) (xs:List V):Prop :=
 (∃o,H a=some (.frz o (.lst xs))) \/
  ∃(o:Obj) (its:Array Value) (n:Nat),K.lookup a=some o/\o.cls=.type "list" /\ o.dict=none/\o.data=.seq its n/\its.size<=sizeLine/\Vals xs its.toList
theorem FzL.sq {K:PySem.W.Frag} {H:Hp} {a:Addr} {xs:List V} (h:FzL K H a xs):SqL K H a xs:=by
 rcases h with h | h
 ·exact .inl (.inr h)
 ·exact .inr h
mutual
inductive Rep (K:PySem.W.Frag) (H:Hp):D->V->List Addr->Prop
 | non:Rep K H .non .non []
 | bl (b:Bool):Rep K H (.bl b) (.bl b) []
 | int (i:Int):Rep K H (.int i) (.int i) []
 | str (x:Str):Rep K H (.str x) (.str x) []
 | tup {a:Addr} {xs:List V} {ds:List D} {F:List Addr} (e:H a=some (.tup xs)) (r:Reps K H ds xs F):Rep K H (.tup ds) (.ref a) F
 | lst {a:Addr} {xs:List V} {ds:List D} {F:List Addr} (e:H a=some (.lst xs)) (r:Reps K H ds xs F):Rep K H (.lst ds) (.ref a) (a::F)
 | dik {a:Addr} {kvs:List (Key × V)} {ds:List (Key × D)} {F:List Addr} (e:H a=some (.dK kvs)) (r:RepK K H ds kvs F):Rep K H (.dik ds) (.ref a) (a::F)
 | dit {a:Addr} {kvs:List (List Key × V)} {ds:List (List Key × D)} {F:List Addr} (e:H a=some (.dT kvs)) (r:RepT K H ds kvs F):Rep K H (.dit ds) (.ref a) (a::F)
 | kls {a:Addr} {xs:List V} {ds:List D} (e:FzL K H a xs) (r:Reps K H ds xs []):Rep K H (.kls ds) (.ref a) []
 | ty (t:Ty):Rep K H (.ty t) (.ty t.nm) []
 | fdk {a:Addr} {o:Obj} {kvs:List (Key × V)} {ds:List (Key × D)} {F:List Addr} (e:H a=some (.frz o (.dK kvs))) (r:RepK K H ds kvs F):Rep K H (.fdk ds) (.ref a) F
 | ftp {a:Addr} {o:Obj} {xs:List V} {ds:List D} (e:H a=some (.frz o (.tup xs))) (hd:o.dict=none) (r:Reps K H ds xs []):Rep K H (.ftp ds) (.ref a) []
 | fls {a:Addr} {o:Obj} {xs:List V} {ds:List D} (e:H a=some (.frz o (.lst xs))) (r:Reps K H ds xs []):Rep K H (.fls ds) (.ref a) []
 | fdt {a:Addr} {o:Obj} {kvs:List (List Key × V)} {ds:List (List Key × D)} {F:List Addr} (e:H a=some (.frz o (.dT kvs))) (r:RepT K H ds kvs F):Rep K H (.fdt ds) (.ref a) F
 | obj {a:Addr} {x:Str} {o:Obj} {φ:Heap->Prop} {fs:List (Str × Int)} (e:H a=some (.frz o (.ext φ))) (hc:∃C,o.cls=.ref C/\PySem.W.nsIn K mainGlobals x=some (some (.ref C))) (hf:fs=[]\/∃dx od,o.dict=some dx/\H dx=some (.frz od (.xd (fs.map λp=>(p.1,V.int p.2))))):Rep K H (.obj x fs) (.ref a) []
 | clo {a:Addr} {L:Lam} {xs:List V} {ds:List D} {F:List Addr} (e:Xc H L a xs) (r:Reps K H ds xs F):Rep K H (.clo L ds) (.ref a) F
 | kc {c:KC} {v:V} (h:IsKC K c v):Rep K H (.kc c) v []
inductive Reps (K:PySem.W.Frag) (H:Hp):List D->List V->List Addr->Prop
 | nil:Reps K H [] [] []
 | cons {d:D} {v:V} {ds:List D} {vs:List V} {F G:List Addr} (h:Rep K H d v F) (r:Reps K H ds vs G):Reps K H (d::ds) (v::vs) (F++G)
inductive RepK (K:PySem.W.Frag) (H:Hp):List (Key × D)->List (Key × V)->List Addr->Prop
 | nil:RepK K H [] [] []
 | cons {k:Key} {d:D} {v:V} {ds:List (Key × D)} {vs:List (Key × V)} {F G:List Addr} (h:Rep K H d v F) (r:RepK K H ds vs G):RepK K H ((k,d)::ds) ((k,v)::vs) (F++G)
inductive RepT (K:PySem.W.Frag) (H:Hp):List (List Key × D)->List (List Key × V)->List Addr->Prop
 | nil:RepT K H [] [] []
 | cons {k:List Key} {d:D} {v:V} {ds:List (List Key × D)} {vs:List (List Key × V)} {F G:List Addr} (h:Rep K H d v F) (r:RepT K H ds vs G):RepT K H ((k,d)::ds) ((k,v)::vs) (F++G)
end
def ImmK (H H':Hp):Prop:=∀b ob,H b=some ob->imm ob=true->H' b=some ob
theorem ImmK.fzL {K:PySem.W.Frag} {H H':Hp} (hi:ImmK H H') {a:Addr} {xs:List V} (e:FzL K H a xs):FzL K H' a xs:=by
 rcases e with ⟨o,e⟩ | e
 ·exact .inl ⟨o,hi _ _ e rfl⟩
 ·exact .inr e
theorem Rep.frame {K:PySem.W.Frag} {H H':Hp} (hi:ImmK H H') {d:D} {v:V} {F:List Addr} (r:Rep K H d v F):(∀a∈F,H' a=H a)->Rep K H' d v F:=by
 refine Rep.rec (motive_1:=λd v F _=>(∀a∈F,H' a=H a)->Rep K H' d v F) (motive_2:=λd v F _=>(∀a∈F,H' a=H a)->Reps K H' d v F) (motive_3:=λd v F _=>(∀a∈F,H' a=H a)->RepK K H' d v F) (motive_4:=λd v F _=>(∀a∈F,H' a=H a)->RepT K H' d v F) ?_ ?_ ?_ ?_ ?_ ?_ ?_ ?_ ?_ ?_ ?_ ?_ ?_ ?_ ?_ ?_ ?_ ?_ ?_ ?_ ?_ ?_ ?_ r
 ·exact λ_=>.non
 ·exact λb _=>.bl b
 ·exact λb _=>.int b
 ·exact λb _=>.str b
 ·exact λe _ ih k=>.tup (hi _ _ e rfl) (ih k)
 ·exact λe _ ih k=>.lst ((k _ (List.mem_cons_self)).trans e) (ih λa h=>k a (List.mem_cons_of_mem _ h))
 ·exact λe _ ih k=>.dik ((k _ (List.mem_cons_self)).trans e) (ih λa h=>k a (List.mem_cons_of_mem _ h))
 ·exact λe _ ih k=>.dit ((k _ (List.mem_cons_self)).trans e) (ih λa h=>k a (List.mem_cons_of_mem _ h))
 ·exact λe _ ih k=>.kls (hi.fzL e) (ih k)
 ·exact λt _=>.ty t
 ·exact λe _ ih k=>.fdk (hi _ _ e rfl) (ih k)
 ·exact λe hd _ ih k=>.ftp (hi _ _ e rfl) hd (ih k)
 ·exact λe _ ih k=>.fls (hi _ _ e rfl) (ih k)
 ·exact λe _ ih k=>.fdt (hi _ _ e rfl) (ih k)
 ·exact λe hc hf _=>.obj (hi _ _ e rfl) hc (hf.imp id λ⟨dx,od,h1,h2⟩=>⟨dx,od,h1,hi _ _ h2 rfl⟩)
 ·exact λe _ ih k=>.clo (e.keeps λ_ _ _ q=>hi _ _ q rfl) (ih k)
 ·exact λh _=>.kc h
 ·exact λ_=>.nil
 ·exact λ_ _ ih1 ih2 k=>.cons (ih1 λa q=>k a (List.mem_append.mpr (.inl q))) (ih2 λa q=>k a (List.mem_append.mpr (.inr q)))
 ·exact λ_=>.nil
 ·exact λ_ _ ih1 ih2 k=>.cons (ih1 λa q=>k a (List.mem_append.mpr (.inl q))) (ih2 λa q=>k a (List.mem_append.mpr (.inr q)))
 ·exact λ_=>.nil
 ·exact λ_ _ ih1 ih2 k=>.cons (ih1 λa q=>k a (List.mem_append.mpr (.inl q))) (ih2 λa q=>k a (List.mem_append.mpr (.inr q)))
theorem Reps.frame {K:PySem.W.Frag} {H H':Hp} (hi:ImmK H H') {d:List D} {v:List V} {F:List Addr} (r:Reps K H d v F) (k:∀a∈F,H' a=H a):Reps K H' d v F:=by
 induction d generalizing v F with
 | nil=>cases r;exact .nil
 | cons d ds ih=>cases r with | cons h r=>exact .cons (Rep.frame hi h λa q=>k a (List.mem_append.mpr (.inl q))) (ih r λa q=>k a (List.mem_append.mpr (.inr q)))
theorem RepK.frame {K:PySem.W.Frag} {H H':Hp} (hi:ImmK H H') {d:List (Key × D)} {v:List (Key × V)} {F:List Addr} (r:RepK K H d v F) (k:∀a∈F,H' a=H a):RepK K H' d v F:=by
 induction d generalizing v F with
 | nil=>cases r;exact .nil
 | cons d ds ih=>cases r with | cons h r=>exact .cons (Rep.frame hi h λa q=>k a (List.mem_append.mpr (.inl q))) (ih r λa q=>k a (List.mem_append.mpr (.inr q)))
theorem RepT.frame {K:PySem.W.Frag} {H H':Hp} (hi:ImmK H H') {d:List (List Key × D)} {v:List (List Key × V)} {F:List Addr} (r:RepT K H d v F) (k:∀a∈F,H' a=H a):RepT K H' d v F:=by
 induction d generalizing v F with
 | nil=>cases r;exact .nil
 | cons d ds ih=>cases r with | cons h r=>exact .cons (Rep.frame hi h λa q=>k a (List.mem_append.mpr (.inl q))) (ih r λa q=>k a (List.mem_append.mpr (.inr q)))
theorem Rep.dom {K:PySem.W.Frag} {H:Hp} {d:D} {v:V} {F:List Addr} (r:Rep K H d v F):∀a∈F,∃ob,H a=some ob/\imm ob=false:=by
 have cn:∀{b:Addr} {F:List Addr} {ob:HO},H b=some ob->imm ob=false->(∀a∈F,∃ob,H a=some ob/\imm ob=false)->∀a∈b::F,∃ob,H a=some ob/\imm ob=false:=λe hb ih a m=>(List.mem_cons.mp m).elim (λz=>z ▸ ⟨_,e,hb⟩) (ih a)
 have ap:∀{F G:List Addr},(∀a∈F,∃ob,H a=some ob/\imm ob=false)->(∀a∈G,∃ob,H a=some ob/\imm ob=false)->∀a∈F++G,∃ob,H a=some ob/\imm ob=false:=λih1 ih2 a m=>(List.mem_append.mp m).elim (ih1 a) (ih2 a)
 have no:∀a∈([]:List Addr),∃ob,H a=some ob/\imm ob=false:=λ_ m=>nomatch m
 refine Rep.rec (motive_1:=λ_ _ F _=>∀a∈F,∃ob,H a=some ob/\imm ob=false) (motive_2:=λ_ _ F _=>∀a∈F,∃ob,H a=some ob/\imm ob=false) (motive_3:=λ_ _ F _=>∀a∈F,∃ob,H a=some ob/\imm ob=false) (motive_4:=λ_ _ F _=>∀a∈F,∃ob,H a=some ob/\imm ob=false) no (λ_=>no) (λ_=>no) (λ_=>no) (λ_ _ ih=>ih) (λe _ ih=>cn e rfl ih) (λe _ ih=>cn e rfl ih) (λe _ ih=>cn e rfl ih) (λ_ _ _=>no) (λ_=>no) (λ_ _ ih=>ih) (λ_ _ _ _=>no) (λ_ _ _=>no) (λ_ _ ih=>ih) (λ_ _ _=>no) (λ_ _ ih=>ih) (λ_=>no) no (λ_ _=>ap) no (λ_ _=>ap) no (λ_ _=>ap) r
theorem Reps.dom {K:PySem.W.Frag} {H:Hp} {d:List D} {v:List V} {F:List Addr} (r:Reps K H d v F):∀a∈F,∃ob,H a=some ob/\imm ob=false:=by
 induction d generalizing v F with
 | nil=>cases r;exact λ_ m=>nomatch m
 | cons d ds ih=>cases r with | cons h r=>exact λa m=>(List.mem_append.mp m).elim (Rep.dom h a) (ih r a)
mutual
def D.pure:D->Bool
 | .tup xs=>Qm xs
 | .lst _=>false
 | .dik _=>false
 | .dit _=>false
 | .kls _=>true
 | .non=>true
 | .bl _=>true
 | .int _=>true
 | .str _=>true
 | .ty _=>true
 | .fdk _=>false
 | .ftp _=>true
 | .fls _=>true
 | .fdt _=>false
 | .obj _ _=>true
 | .clo _ _=>false
 | .kc _=>true
def Qm:List D->Bool
 | []=>true
 | d::r=>d.pure && Qm r
end
theorem Gi {xs:List D}:Qm xs=true↔∀x∈xs,x.pure=true:=by
 induction xs with
 | nil=>simp [Qm]
 | cons d r ih=>simp only [Qm,Bool.and_eq_true,ih,List.mem_cons,forall_eq_or_imp]
theorem Rep.pure {K:PySem.W.Frag} {H:Hp} {d:D} {v:V} {F:List Addr} (r:Rep K H d v F):d.pure=true->F=[]/\Rep K H d v []:=by
 have no:∀{P:Prop} {b:Bool},b=false->b=true->P:=λh h'=>absurd (h.symm.trans h') (by simp)
 refine Rep.rec (motive_1:=λd v F _=>d.pure=true->F=[]/\Rep K H d v []) (motive_2:=λd v F _=>Qm d=true->F=[]/\Reps K H d v []) (motive_3:=λ_ _ _ _=>True) (motive_4:=λ_ _ _ _=>True) ?_ ?_ ?_ ?_ ?_ ?_ ?_ ?_ ?_ ?_ ?_ ?_ ?_ ?_ ?_ ?_ ?_ ?_ ?_ trivial (λ_ _ _ _=>trivial) trivial (λ_ _ _ _=>trivial) r
 ·exact λ_=>⟨rfl,.non⟩
 ·exact λb _=>⟨rfl,.bl b⟩
 ·exact λb _=>⟨rfl,.int b⟩
 ·exact λb _=>⟨rfl,.str b⟩
 ·exact λe _ ih p=>⟨(ih (by rw [D.pure] at p;exact p)).1,.tup e (ih (by rw [D.pure] at p;exact p)).2⟩
 ·exact λ_ _ _=>no (by rw [D.pure])
 ·exact λ_ _ _=>no (by rw [D.pure])
 ·exact λ_ _ _=>no (by rw [D.pure])
 ·exact λe r _ _=>⟨rfl,.kls e r⟩
 ·exact λb _=>⟨rfl,.ty b⟩
 ·exact λ_ _ _=>no (by rw [D.pure])
 ·exact λe hd r _ _=>⟨rfl,.ftp e hd r⟩
 ·exact λe r _ _=>⟨rfl,.fls e r⟩
 ·exact λ_ _ _=>no (by rw [D.pure])
 ·exact λe hc hf _=>⟨rfl,.obj e hc hf⟩
 ·exact λ_ _ _=>no (by rw [D.pure])
 ·exact λh _=>⟨rfl,.kc h⟩
 ·exact λ_=>⟨rfl,.nil⟩
 ·intro _ _ _ _ _ _ _ _ ih1 ih2 p
  rw [Qm,Bool.and_eq_true] at p
  obtain ⟨e1,r1⟩:=ih1 p.1
  obtain ⟨e2,r2⟩:=ih2 p.2
  subst e1 e2
  exact ⟨rfl,.cons (F:=[]) (G:=[]) r1 r2⟩
theorem Reps.pure {K:PySem.W.Frag} {H:Hp} {d:List D} {v:List V} {F:List Addr} (r:Reps K H d v F) (p:Qm d=true):F=[]/\Reps K H d v []:=by
 induction d generalizing v F with
 | nil=>cases r;exact ⟨rfl,.nil⟩
 | cons d ds ih =>
  cases r with
  | cons h r =>
   rw [Qm,Bool.and_eq_true] at p
   obtain ⟨e1,r1⟩:=h.pure p.1
   obtain ⟨e2,r2⟩:=ih r p.2
   subst e1 e2
   exact ⟨rfl,.cons (F:=[]) (G:=[]) r1 r2⟩
section
variable {K:PySem.W.Frag} {H:Hp}
theorem Reps.length {ds:List D} {xs:List V} {F:List Addr} (r:Reps K H ds xs F):xs.length=ds.length:=by
 induction ds generalizing xs F with
 | nil=>cases r;rfl
 | cons d ds ih=>cases r with | cons h r=>simp [ih r]
theorem Reps.append {ds es:List D} {xs ys:List V} {F G:List Addr} (r:Reps K H ds xs F) (q:Reps K H es ys G):Reps K H (ds++es) (xs++ys) (F++G):=by
 induction ds generalizing xs F with
 | nil=>cases r;exact q
 | cons d ds ih=>cases r with | cons h r=>rw [List.append_assoc];exact .cons h (ih r)
theorem Reps.one {d:D} {x:V} {F:List Addr} (h:Rep K H d x F):Reps K H [d] [x] F:=by
 have:=Reps.cons h (Reps.nil (K:=K) (H:=H))
 rwa [List.append_nil] at this
theorem Reps.snoc {ds:List D} {xs:List V} {d:D} {x:V} {F G:List Addr} (r:Reps K H ds xs F) (h:Rep K H d x G):Reps K H (ds++[d]) (xs++[x]) (F++G):=r.append (.one h)
theorem Reps.split {ds:List D} {xs:List V} {F:List Addr} {i:Nat} {d:D} (r:Reps K H ds xs F) (h:ds[i]? = some d) :
  ∃x A B C,xs[i]? = some x/\F=A++B++C/\Rep K H d x B/\Reps K H (ds.take i) (xs.take i) A/\Reps K H (ds.drop (i+1)) (xs.drop (i+1)) C:=by
 induction ds generalizing xs F i with
 | nil=>simp at h
 | cons e ds ih =>
  cases r with
  | @cons _ v _ vs F G p r =>
   cases i with
   | zero =>
    simp at h
    subst h
    exact ⟨v,[],F,G,rfl,by simp,p,.nil,by simpa using r⟩
   | succ i =>
    obtain ⟨x,A,B,C,h1,h2,h3,h4,h5⟩:=ih r (i:=i) (by simpa using h)
    exact ⟨x,F++A,B,C,by simpa using h1,by rw [h2];simp,h3,by simpa using Reps.cons p h4,by simpa using h5⟩
theorem Reps.get {ds:List D} {xs:List V} {F:List Addr} {i:Nat} {d:D} (r:Reps K H ds xs F) (h:ds[i]? = some d):∃x B,xs[i]? = some x/\Rep K H d x B/\B.Sublist F:=by
 obtain ⟨x,A,B,C,h1,h2,h3,_⟩:=r.split h
 exact ⟨x,B,h1,h3,h2 ▸ (List.sublist_append_right A B).trans (List.sublist_append_left _ C)⟩
theorem Vm {α:Type} {l:List α} {i:Nat} {a:α} (h:i<l.length):l.set i a=l.take i++a::l.drop (i+1):=by
 rw [List.set_eq_take_append_cons_drop,if_pos h]
theorem Zy {α:Type} (l:List α) (i:Nat):l.eraseIdx i=l.take i++l.drop (i+1):=List.eraseIdx_eq_take_drop_succ l i
theorem Reps.take {ds:List D} {xs:List V} {F:List Addr} (i:Nat) (r:Reps K H ds xs F):∃G,Reps K H (ds.take i) (xs.take i) G/\G.Sublist F:=by
 induction ds generalizing xs F i with
 | nil=>cases r;exact ⟨[],by simpa using Reps.nil,List.Sublist.slnil⟩
 | cons d ds ih =>
  cases r with
  | @cons _ v _ vs F G p r =>
   cases i with
   | zero=>exact ⟨[],by simpa using Reps.nil,List.nil_sublist _⟩
   | succ i =>
    obtain ⟨G',q,s⟩:=ih i r
    exact ⟨F++G',by simpa using Reps.cons p q,List.Sublist.append (List.Sublist.refl _) s⟩
theorem Reps.drop {ds:List D} {xs:List V} {F:List Addr} (i:Nat) (r:Reps K H ds xs F):∃G,Reps K H (ds.drop i) (xs.drop i) G/\G.Sublist F:=by
 induction ds generalizing xs F i with
 | nil=>cases r;exact ⟨[],by simpa using Reps.nil,List.Sublist.slnil⟩
 | cons d ds ih =>
  cases i with
  | zero=>exact ⟨F,by simpa using r,List.Sublist.refl _⟩
  | succ i =>
   cases r with
   | @cons _ v _ vs F G p r =>
    obtain ⟨G',q,s⟩:=ih i r
    exact ⟨G',by simpa using q,s.trans (List.sublist_append_right _ _)⟩
theorem Reps.ints (ns:List Int):Reps K H (ns.map D.int) (ns.map V.int) []:=by
 induction ns with
 | nil=>exact .nil
 | cons n ns ih=>exact .cons (F:=[]) (G:=[]) (.int n) ih
end
def kcD:KC->D
 | .int i=>.int i
 | .any a=>.kc (.any a)
 | .fn x=>.kc (.fn x)
 | .tup ks=>.kc (.tup ks)
section
variable {K:PySem.W.Frag} {H:Hp}
theorem IsKC.rep {c:KC} {v:V} (h:IsKC K c v):Rep K H (kcD c) v []:=by
 cases h with
 | int i=>exact .int i
 | any a=>exact .kc (.any a)
 | fn h=>exact .kc (.fn h)
 | tup h1 h2 h3 h4 h5 r=>exact .kc (.tup h1 h2 h3 h4 h5 r)
theorem AreKC.reps {cs:List KC} {vs:List V} (h:AreKC K cs vs):Reps K H (cs.map kcD) vs []:=by
 induction cs generalizing vs with
 | nil=>cases h;exact .nil
 | cons c cs ih=>cases h with | cons h r=>exact .cons (F:=[]) (G:=[]) h.rep (ih r)
theorem IsKC.sqT {ks:List KC} {v:V} (h:IsKC K (.tup ks) v):∃a xs,v=.ref a/\(∀H,SqT K H a xs)/\AreKC K ks xs:=by
 cases h with
 | tup h1 h2 h3 h4 h5 r=>exact ⟨_,_,rfl,λH=>.inr ⟨_,_,_,h1,h2,h3,h4,h5⟩,r⟩
end
section
variable {K:PySem.W.Frag} {H:Hp} {v:V} {F:List Addr}
theorem Rep.iInt {i:Int} (r:Rep K H (.int i) v F):v=.int i:=by cases r;rfl
theorem Rep.iStr {i:Str} (r:Rep K H (.str i) v F):v=.str i:=by cases r;rfl
theorem Rep.iBl {i:Bool} (r:Rep K H (.bl i) v F):v=.bl i:=by cases r;rfl
theorem Rep.iTup {ds:List D} (r:Rep K H (.tup ds) v F):∃a xs,v=.ref a/\H a=some (.tup xs)/\Reps K H ds xs F:=by cases r with | tup e r=>exact ⟨_,_,rfl,e,r⟩
theorem Rep.iLst {ds:List D} (r:Rep K H (.lst ds) v F):∃a xs G,v=.ref a/\F=a::G/\H a=some (.lst xs)/\Reps K H ds xs G:=by cases r with | lst e r=>exact ⟨_,_,_,rfl,rfl,e,r⟩
theorem Rep.iDik {ds:List (Key × D)} (r:Rep K H (.dik ds) v F):∃a xs G,v=.ref a/\F=a::G/\H a=some (.dK xs)/\RepK K H ds xs G:=by cases r with | dik e r=>exact ⟨_,_,_,rfl,rfl,e,r⟩
theorem Rep.iDit {ds:List (List Key × D)} (r:Rep K H (.dit ds) v F):∃a xs G,v=.ref a/\F=a::G/\H a=some (.dT xs)/\RepT K H ds xs G:=by cases r with | dit e r=>exact ⟨_,_,_,rfl,rfl,e,r⟩
theorem Rep.iKls {ds:List D} (r:Rep K H (.kls ds) v F):∃a xs,v=.ref a/\F=[]/\FzL K H a xs/\Reps K H ds xs []:=by cases r with | kls e r=>exact ⟨_,_,rfl,rfl,e,r⟩
theorem Rep.iFdk {ds:List (Key × D)} (r:Rep K H (.fdk ds) v F):∃a o xs,v=.ref a/\H a=some (.frz o (.dK xs))/\RepK K H ds xs F:=by cases r with | fdk e r=>exact ⟨_,_,_,rfl,e,r⟩
end
section
variable {κ:Type} [DecidableEq κ]
def valD (kvs:List (κ × D)) (k:κ):Option D:=(kvs.find? λkv=>decide (kv.1=k)).map (·.2)
def putD (kvs:List (κ × D)) (k:κ) (v:D):List (κ × D) :=
 if (kvs.any λkv=>decide (kv.1=k))=true then kvs.map (λkv=>if kv.1=k then (kv.1,v) else kv) else kvs++[(k,v)]
theorem Qi0 {k:κ}:valD ([]:List (κ × D)) k=none:=rfl
theorem Jc {p:κ × D} {r:List (κ × D)} {k:κ}:valD (p::r) k=if p.1=k then some p.2 else valD r k:=by
 unfold valD
 by_cases h:p.1=k
 ·rw [List.find?_cons_of_pos (by simpa using h),if_pos h];rfl
 ·rw [List.find?_cons_of_neg (by simpa using h),if_neg h]
theorem Z0 (k:κ):∀kvs:List (κ × D),(kvs.any λkv=>decide (kv.1=k))=(valD kvs k).isSome
 | []=>rfl
 | p::r=>by
  rw [List.any_cons,Jc,Z0 k r]
  by_cases h:p.1=k <;> simp [h]
theorem Qd3 {kvs:List (κ × D)} {k:κ} (v:D) (h:valD kvs k=none):putD kvs k v=kvs++[(k,v)]:=by
 unfold putD
 rw [Z0,h]
 rfl
theorem Qdp (k j:κ) (y:D):∀kvs:List (κ × D),valD (kvs.map λkv=>if kv.1=k then (kv.1,y) else kv) j=(valD kvs j).map λx=>if j=k then y else x
 | []=>rfl
 | p::r=>by
  rw [List.map_cons,Jc,Jc,Qdp k j y r]
  by_cases h:p.1=k
  ·rw [if_pos h]
   by_cases h':p.1=j
   ·simp [h',← h]
   ·simp [h']
  ·rw [if_neg h]
   by_cases h':p.1=j
   ·subst h';simp [h]
   ·simp [h']
theorem Gd (k j:κ) (y:D):∀kvs:List (κ × D),valD (kvs++[(k,y)]) j=if (valD kvs j).isSome then valD kvs j else if k=j then some y else none
 | []=>by simp [Jc,Qi0]
 | p::r=>by
  rw [List.cons_append,Jc,Jc,Gd k j y r]
  by_cases h:p.1=j <;> simp [h]
theorem Qdo (kvs:List (κ × D)) (k j:κ) (y:D):valD (putD kvs k y) j=if j=k then some y else valD kvs j:=by
 unfold putD
 rw [Z0]
 cases h:(valD kvs k).isSome with
 | true =>
  rw [if_pos rfl,Qdp]
  by_cases e:j=k
  ·subst e
   obtain ⟨x,hx⟩:=Option.isSome_iff_exists.mp h
   simp [hx]
  ·rw [if_neg e]
   cases valD kvs j <;> simp [e]
 | false =>
  rw [if_neg (by simp),Gd]
  have hn:valD kvs k=none:=by simpa using h
  by_cases e:j=k
  ·subst e;simp [hn]
  ·have e':¬k=j:=λz=>e z.symm
   rw [if_neg e]
   cases valD kvs j <;> simp [e']
theorem Vf (kvs:List (κ × D)) (k:κ) (v:D):(putD kvs k v).length<=kvs.length+1:=by
 unfold putD
 split <;> simp
end
section
variable {K:PySem.W.Frag} {H:Hp}
theorem RepK.length {ds:List (Key × D)} {xs:List (Key × V)} {F:List Addr} (r:RepK K H ds xs F):xs.length=ds.length:=by
 induction ds generalizing xs F with
 | nil=>cases r;rfl
 | cons d ds ih=>cases r with | cons h r=>simp [ih r]
theorem RepK.keys {ds:List (Key × D)} {xs:List (Key × V)} {F:List Addr} (r:RepK K H ds xs F):xs.map (·.1)=ds.map (·.1):=by
 induction ds generalizing xs F with
 | nil=>cases r;rfl
 | cons d ds ih=>cases r with | cons h r=>simp [ih r]
theorem RepK.val {ds:List (Key × D)} {xs:List (Key × V)} {F:List Addr} (r:RepK K H ds xs F) (k:Key) :
  (valD ds k=none/\valV xs k=none)\/∃d v B,valD ds k=some d/\valV xs k=some v/\Rep K H d v B/\B.Sublist F:=by
 induction ds generalizing xs F with
 | nil=>cases r;exact .inl ⟨rfl,rfl⟩
 | cons d ds ih =>
  cases r with
  | @cons j d v _ vs F G h r =>
   rw [Jc]
   by_cases e:j=k
   ·rw [Jf e,if_pos e]
    exact .inr ⟨d,v,F,rfl,rfl,h,List.sublist_append_left _ _⟩
   ·rw [Jg e,if_neg e]
    rcases ih r with q | ⟨d',v',B,h1,h2,h3,h4⟩
    ·exact .inl q
    ·exact .inr ⟨d',v',B,h1,h2,h3,h4.trans (List.sublist_append_right _ _)⟩
theorem RepK.append {ds es:List (Key × D)} {xs ys:List (Key × V)} {F G:List Addr} (r:RepK K H ds xs F) (q:RepK K H es ys G):RepK K H (ds++es) (xs++ys) (F++G):=by
 induction ds generalizing xs F with
 | nil=>cases r;exact q
 | cons d ds ih=>cases r with | cons h r=>rw [List.append_assoc];exact .cons h (ih r)
theorem RepK.put {ds:List (Key × D)} {xs:List (Key × V)} {F:List Addr} {k:Key} {d:D} {v:V} (r:RepK K H ds xs F) (h:Rep K H d v []):∃G,RepK K H (putD ds k d) (putK xs k v) G/\G.Sublist F:=by
 have hk:(xs.any λkv=>decide (kv.1=k))=(ds.any λkv=>decide (kv.1=k)):=by
  have e:=r.keys
  rw [show (xs.any λkv=>decide (kv.1=k))=(xs.map (·.1)).any (λj=>decide (j=k)) by rw [List.any_map];rfl,e,List.any_map];rfl
 unfold putD putK
 rw [hk]
 split
 ·clear hk
  rename_i hc
  clear hc
  induction ds generalizing xs F with
  | nil=>cases r;exact ⟨[],.nil,List.Sublist.slnil⟩
  | cons e ds ih =>
   cases r with
   | @cons j e u _ us F G p r =>
    obtain ⟨G',q,s⟩:=ih r
    by_cases ej:j=k
    ·exact ⟨[]++G',by simpa [ej] using RepK.cons (k:=k) h q,s.trans (List.sublist_append_right _ _)⟩
    ·exact ⟨F++G',by simpa [ej] using RepK.cons (k:=j) p q,List.Sublist.append (List.Sublist.refl _) s⟩
 ·refine ⟨F++[],r.append ?_,by simp⟩
  exact RepK.cons (F:=[]) (G:=[]) h .nil
theorem RepT.length {ds:List (List Key × D)} {xs:List (List Key × V)} {F:List Addr} (r:RepT K H ds xs F):xs.length=ds.length:=by
 induction ds generalizing xs F with
 | nil=>cases r;rfl
 | cons d ds ih=>cases r with | cons h r=>simp [ih r]
theorem RepT.keys {ds:List (List Key × D)} {xs:List (List Key × V)} {F:List Addr} (r:RepT K H ds xs F):xs.map (·.1)=ds.map (·.1):=by
 induction ds generalizing xs F with
 | nil=>cases r;rfl
 | cons d ds ih=>cases r with | cons h r=>simp [ih r]
theorem RepT.val {ds:List (List Key × D)} {xs:List (List Key × V)} {F:List Addr} (r:RepT K H ds xs F) (k:List Key) :
  (valD ds k=none/\valV xs k=none)\/∃d v B,valD ds k=some d/\valV xs k=some v/\Rep K H d v B/\B.Sublist F:=by
 induction ds generalizing xs F with
 | nil=>cases r;exact .inl ⟨rfl,rfl⟩
 | cons d ds ih =>
  cases r with
  | @cons j d v _ vs F G h r =>
   rw [Jc]
   by_cases e:j=k
   ·rw [Jf e,if_pos e]
    exact .inr ⟨d,v,F,rfl,rfl,h,List.sublist_append_left _ _⟩
   ·rw [Jg e,if_neg e]
    rcases ih r with q | ⟨d',v',B,h1,h2,h3,h4⟩
    ·exact .inl q
    ·exact .inr ⟨d',v',B,h1,h2,h3,h4.trans (List.sublist_append_right _ _)⟩
theorem RepT.append {ds es:List (List Key × D)} {xs ys:List (List Key × V)} {F G:List Addr} (r:RepT K H ds xs F) (q:RepT K H es ys G):RepT K H (ds++es) (xs++ys) (F++G):=by
 induction ds generalizing xs F with
 | nil=>cases r;exact q
 | cons d ds ih=>cases r with | cons h r=>rw [List.append_assoc];exact .cons h (ih r)
theorem RepT.put {ds:List (List Key × D)} {xs:List (List Key × V)} {F:List Addr} {k:List Key} {d:D} {v:V} (r:RepT K H ds xs F) (h:Rep K H d v []):∃G,RepT K H (putD ds k d) (putK xs k v) G/\G.Sublist F:=by
 have hk:(xs.any λkv=>decide (kv.1=k))=(ds.any λkv=>decide (kv.1=k)):=by
  have e:=r.keys
  rw [show (xs.any λkv=>decide (kv.1=k))=(xs.map (·.1)).any (λj=>decide (j=k)) by rw [List.any_map];rfl,e,List.any_map];rfl
 unfold putD putK
 rw [hk]
 split
 ·clear hk
  rename_i hc
  clear hc
  induction ds generalizing xs F with
  | nil=>cases r;exact ⟨[],.nil,List.Sublist.slnil⟩
  | cons e ds ih =>
   cases r with
   | @cons j e u _ us F G p r =>
    obtain ⟨G',q,s⟩:=ih r
    by_cases ej:j=k
    ·exact ⟨[]++G',by simpa [ej] using RepT.cons (k:=k) h q,s.trans (List.sublist_append_right _ _)⟩
    ·exact ⟨F++G',by simpa [ej] using RepT.cons (k:=j) p q,List.Sublist.append (List.Sublist.refl _) s⟩
 ·refine ⟨F++[],r.append ?_,by simp⟩
  exact RepT.cons (F:=[]) (G:=[]) h .nil
end
end PV
namespace PV
open PySem PySem.Spec L2
abbrev Env:=List (Option D)
def look:Env->Nat->Option D
 | [],_=>none
 | a::_,0=>a
 | _::r,n+1=>look r n
theorem Qac:∀{ρ:Env} {i:Nat} {d:D},look ρ i=some d->ρ[i]? = some (some d)
 | _::_,0,_,h=>by simpa [look] using h
 | _::r,n+1,_,h=>by simpa using Qac (ρ:=r) (i:=n) (by simpa [look] using h)
theorem Ve {ρ:Env} {i:Nat} {d:D} (h:look ρ i=some d):i<ρ.length:=by
 have:=Qac h
 exact (List.getElem?_eq_some_iff.mp this).1
theorem Jh {o:Option D}:∀{ρ:Env} {i j:Nat},look (ρ.set i o) j=if j=i/\i<ρ.length then o else look ρ j
 | [],i,j=>by simp [look]
 | a::r,0,0=>by simp [look]
 | a::r,0,j+1=>by simp [look]
 | a::r,i+1,0=>by simp [look]
 | a::r,i+1,j+1=>by
  have:=Jh (o:=o) (ρ:=r) (i:=i) (j:=j)
  simp only [List.set_cons_succ,look,this,List.length_cons,Nat.add_right_cancel_iff,Nat.add_lt_add_iff_right]
theorem Ye {o:Option D} {ρ:Env} {i:Nat} (h:i<ρ.length):look (ρ.set i o) i=o:=by rw [Jh,if_pos ⟨rfl,h⟩]
theorem Qp {o:Option D} {ρ:Env} {i j:Nat} (h:j≠i):look (ρ.set i o) j=look ρ j:=by rw [Jh,if_neg (λz=>h z.1)]
structure Tg where
 own:Nat->Bool
 io:List Nat
 xe:D->St->Hp->Prop:=λ_ _ _=>False
structure SR0 (K:PySem.W.Frag) (T:Tg) (z:Nat->V) (R:Addr->Prop) (H:Hp) (W:Addr->Prop) (σ:St) (ρ:Env) (fp:Nat->List Addr):Prop where
 len:ρ.length=σ.length
 wd:∀a,W a->∃ob,H a=some ob/\imm ob=false
 at_:∀i d,look ρ i=some d->∃v,σ[i]? = some (some v)/\Rep K H d v (fp i)
 own:∀i d,look ρ i=some d->T.own i=true->(fp i).Nodup/\∀a∈fp i,W a
 ro:∀i d,look ρ i=some d->T.own i=false->∀a∈fp i,R a
 wr:∀a,W a->¬R a
 rd:∀a,R a->∃ob,H a=some ob/\imm ob=false
 dis:∀i j d e,look ρ i=some d->look ρ j=some e->T.own i=true->T.own j=true->i≠j->∀a∈fp i,a∉fp j
 fix:∀i∈T.io,σ[i]? = some (some (z i))
def SR (K:PySem.W.Frag) (T:Tg) (z:Nat->V) (R:Addr->Prop) (H:Hp) (W:Addr->Prop) (σ:St) (ρ:Env):Prop:=∃fp,SR0 K T z R H W σ ρ fp
structure FrW (H:Hp) (W:Addr->Prop) (H':Hp) (W':Addr->Prop):Prop where
 keep:∀b ob,H b=some ob->¬W b->H' b=some ob
 dom:∀b,H' b=none->H b=none
 imm:ImmK H H'
 new:∀b,W' b->W b\/H b=none
theorem FrW.refl (H:Hp) (W:Addr->Prop):FrW H W H W:=⟨λ_ _ h _=>h,λ_ h=>h,λ_ _ h _=>h,λ_ h=>.inl h⟩
theorem FrW.trans {H H1 H2:Hp} {W W1 W2:Addr->Prop} (a:FrW H W H1 W1) (b:FrW H1 W1 H2 W2):FrW H W H2 W2 where
 keep:=λc ob h n=>b.keep c ob (a.keep c ob h n) λw=>by
  rcases a.new c w with w | w
  ·exact n w
  ·rw [w] at h;cases h
 dom:=λc h=>a.dom c (b.dom c h)
 imm:=λc ob h i=>b.imm c ob (a.imm c ob h i) i
 new:=λc h=>by
  rcases b.new c h with w | w
  ·exact a.new c w
  ·exact .inr (a.dom c w)
theorem Same.imm {H H':Hp} (s:Same H H'):ImmK H H':=λb ob h _=>s b ob h
theorem FrW.same {H H':Hp} (W:Addr->Prop) (s:Same H H'):FrW H W H' W:=⟨λb ob h _=>s b ob h,λb h=>s.free h,Same.imm s,λ_ h=>.inl h⟩
theorem Rep.same {K:PySem.W.Frag} {H H':Hp} {d:D} {v:V} {F:List Addr} (r:Rep K H d v F) (s:Same H H'):Rep K H' d v F :=
 r.frame (Same.imm s) λa m=>by
  obtain ⟨ob,h,_⟩:=r.dom a m
  rw [h];exact s _ _ h
theorem Reps.same {K:PySem.W.Frag} {H H':Hp} {d:List D} {v:List V} {F:List Addr} (r:Reps K H d v F) (s:Same H H'):Reps K H' d v F :=
 r.frame (Same.imm s) λa m=>by
  obtain ⟨ob,h,_⟩:=r.dom a m
  rw [h];exact s _ _ h
theorem Rep.keep {K:PySem.W.Frag} {H H':Hp} {W W':Addr->Prop} {d:D} {v:V} {F:List Addr} (r:Rep K H d v F) (f:FrW H W H' W') (n:∀a∈F,¬W a):Rep K H' d v F :=
 r.frame f.imm λa m=>by
  obtain ⟨ob,h,_⟩:=r.dom a m
  rw [h];exact f.keep _ _ h (n a m)
section
variable {K:PySem.W.Frag} {T:Tg} {z:Nat->V} {R:Addr->Prop} {H H':Hp} {W W':Addr->Prop} {σ:St} {ρ:Env}
theorem SR.same (s:SR K T z R H W σ ρ) (k:Same H H'):SR K T z R H' W σ ρ:=by
 obtain ⟨fp,r⟩:=s
 exact ⟨fp,r.len,λa h=>(r.wd a h).imp λob q=>⟨k _ _ q.1,q.2⟩,λi d h=>(r.at_ i d h).imp λv q=>⟨q.1,q.2.same k⟩,r.own,r.ro,r.wr,λa h=>(r.rd a h).imp λob q=>⟨k _ _ q.1,q.2⟩,r.dis,r.fix⟩
theorem SR.wd (s:SR K T z R H W σ ρ):∀a,W a->∃ob,H a=some ob/\imm ob=false:=by obtain ⟨fp,r⟩:=s;exact r.wd
theorem SR.rd (s:SR K T z R H W σ ρ):∀a,R a->∃ob,H a=some ob/\imm ob=false:=by obtain ⟨fp,r⟩:=s;exact r.rd
theorem SR.nr (s:SR K T z R H W σ ρ) {a:Addr} (h:H a=none):¬R a:=λw=>by
 obtain ⟨ob,q,_⟩:=s.rd a w
 rw [h] at q;cases q
theorem SR.nw (s:SR K T z R H W σ ρ) {a:Addr} (h:H a=none):¬W a:=λw=>by
 obtain ⟨ob,q,_⟩:=s.wd a w
 rw [h] at q;cases q
end
abbrev WE:=Env->(D->Env->Prop)->Prop
structure Post (K:PySem.W.Frag) (T:Tg) (z:Nat->V) (R:Addr->Prop) (m o:Bool) (H:Hp) (W:Addr->Prop) (σ:St) (ρ:Env) (H':Hp) (W':Addr->Prop) (ρ':Env) (d:D) (v:V) (F:List Addr):Prop where
 sr:SR K T z R H' W' σ ρ'
 fr:FrW H W H' W'
 calm:m=false->Same H H'/\W'=W/\ρ'=ρ
 rep:Rep K H' d v F
 own:o=true->F.Nodup/\∀a∈F,H a=none/\¬W' a
def EV (X:Cx) (T:Tg) (m o:Bool) (e:Expr) (w:WE):Prop :=
 ∃te,PE X e te/\∀(z:Nat->V) (R:Addr->Prop) (σ:St) (H:Hp) (W:Addr->Prop) (ρ:Env) (Q:D->Env->Prop) (Q':VK),SR X.K T z R H W σ ρ->w ρ Q ->
  (∀v H' W' d ρ' F,Post X.K T z R m o H W σ ρ H' W' ρ' d v F->Q d ρ'->Q' v H')->te σ H Q'
section
variable {K:PySem.W.Frag} {T:Tg} {z:Nat->V} {R:Addr->Prop} {H H1 H2:Hp} {W W1 W2:Addr->Prop} {σ:St} {ρ ρ1 ρ2:Env} {m1 m2 o1 o2:Bool} {d1 d2:D} {v1 v2:V} {F1 F2:List Addr}
theorem Post.first (p:Post K T z R m1 o1 H W σ ρ H1 W1 ρ1 d1 v1 F1) (q:Post K T z R m2 o2 H1 W1 σ ρ1 H2 W2 ρ2 d2 v2 F2) (hc:o1=true\/m2=false):Rep K H2 d1 v1 F1:=by
 rcases hc with hc | hc
 ·exact p.rep.keep q.fr λa h=>((p.own hc).2 a h).2
 ·exact p.rep.same (q.calm hc).1
theorem Post.firstOwn (p:Post K T z R m1 o1 H W σ ρ H1 W1 ρ1 d1 v1 F1) (q:Post K T z R m2 o2 H1 W1 σ ρ1 H2 W2 ρ2 d2 v2 F2) (h:o1=true):F1.Nodup/\∀a∈F1,H a=none/\¬W2 a:=by
 obtain ⟨h1,h2⟩:=p.own h
 refine ⟨h1,λa m=>⟨(h2 a m).1,λw=>?_⟩⟩
 rcases q.fr.new a w with w | w
 ·exact (h2 a m).2 w
 ·obtain ⟨ob,e,_⟩:=p.rep.dom a m
  rw [e] at w;cases w
theorem Post.lastOwn (p:Post K T z R m1 o1 H W σ ρ H1 W1 ρ1 d1 v1 F1) (q:Post K T z R m2 o2 H1 W1 σ ρ1 H2 W2 ρ2 d2 v2 F2) (h:o2=true):F2.Nodup/\∀a∈F2,H a=none/\¬W2 a:=by
 obtain ⟨h1,h2⟩:=q.own h
 exact ⟨h1,λa m=>⟨p.fr.dom a (h2 a m).1,(h2 a m).2⟩⟩
theorem Post.calm2 (p:Post K T z R m1 o1 H W σ ρ H1 W1 ρ1 d1 v1 F1) (q:Post K T z R m2 o2 H1 W1 σ ρ1 H2 W2 ρ2 d2 v2 F2) (h:(m1 || m2)=false):Same H H2/\W2=W/\ρ2=ρ:=by
 rw [Bool.or_eq_false_iff] at h
 obtain ⟨a1,a2,a3⟩:=p.calm h.1
 obtain ⟨b1,b2,b3⟩:=q.calm h.2
 exact ⟨a1.trans b1,b2.trans a2,b3.trans a3⟩
theorem Post.fin {m:Bool} {d:D} {v:V} {F:List Addr} (s:SR K T z R H1 W1 σ ρ1) (f:FrW H W H1 W1) (c:m=false->Same H H1/\W1=W/\ρ1=ρ) (k:Same H1 H2) (r:Rep K H2 d v F) (nd:F.Nodup) (nw:∀a∈F,H1 a=none) :
  Post K T z R m true H W σ ρ H2 W1 ρ1 d v F where
 sr:=s.same k
 fr:=f.trans (FrW.same W1 k)
 calm:=λh=>⟨(c h).1.trans k,(c h).2⟩
 rep:=r
 own:=λ_=>⟨nd,λa m=>⟨f.dom a (nw a m),s.nw (nw a m)⟩⟩
theorem Post.flat {m:Bool} {d:D} {v:V} (s:SR K T z R H1 W1 σ ρ1) (f:FrW H W H1 W1) (c:m=false->Same H H1/\W1=W/\ρ1=ρ) (r:Rep K H1 d v []):Post K T z R m true H W σ ρ H1 W1 ρ1 d v [] where
 sr:=s
 fr:=f
 calm:=c
 rep:=r
 own:=λ_=>⟨List.nodup_nil,λa m=>nomatch m⟩
end
section
variable {X:Cx} {T:Tg} {m o m1 m2 o1 o2:Bool} {e a b:Expr} {w wa wb:WE} {pos:Pos}
theorem EV.lift (h:EV X T m o e w):EV X T m true e (λρ Q=>w ρ λd ρ'=>d.pure=true/\Q d ρ'):=by
 obtain ⟨te,p,g⟩:=h
 refine ⟨te,p,λz R σ H W ρ Q Q' s hw k=>g z R σ H W ρ _ Q' s hw λv H' W' d ρ' F q ⟨hp,hq⟩=>?_⟩
 obtain ⟨e,r⟩:=q.rep.pure hp
 exact k v H' W' d ρ' [] ⟨q.sr,q.fr,q.calm,r,λ_=>⟨List.nodup_nil,λa m=>nomatch m⟩⟩ hq
theorem EV.ro (h:EV X T m o e w):EV X T m false e w:=by
 obtain ⟨te,p,g⟩:=h
 exact ⟨te,p,λz R σ H W ρ Q Q' s hw k=>g z R σ H W ρ _ Q' s hw λv H' W' d ρ' F q hq=>k v H' W' d ρ' F ⟨q.sr,q.fr,q.calm,q.rep,λh=>nomatch h⟩ hq⟩
def wVar (i:Nat):WE:=λρ Q=>match look ρ i with
 | some d=>Q d ρ
 | none=>False
def wC (d:D):WE:=λρ Q=>Q d ρ
theorem Qsg (i:Nat) (h:PE X e (tVar i)):EV X T false false e (wVar i):=by
 refine ⟨_,h,λz R σ H W ρ Q Q' s hw k=>?_⟩
 unfold wVar at hw
 cases hl:look ρ i with
 | none=>rw [hl] at hw;exact hw.elim
 | some d =>
  rw [hl] at hw
  obtain ⟨fp,r⟩:=s
  obtain ⟨v,h1,h2⟩:=r.at_ i d hl
  exact ⟨v,h1,k v H W d ρ (fp i) ⟨⟨fp,r⟩,FrW.refl H W,λ_=>⟨Same.refl H,rfl,rfl⟩,h2,λh=>nomatch h⟩ hw⟩
theorem Qa (i:Nat) {x:Str} (hN:X.N[i]? = some x:=by rfl) (hv:Vis X.env.scope x:=by first | exact Or.inl rfl | exact Or.inr (Or.inl rfl) | exact Or.inr (Or.inr rfl)) (hd:(x == ("__debug__" : Str))=false:=by decide)
  (hcd:(x == ("__classdict__" : Str))=false:=by decide):EV X T false false (.Name x pos) (wVar i):=Qsg i (Jt hN hv hd hcd)
theorem U8 {d:D} {v:V} (h:PE X e (tC v)) (r:∀H,Rep X.K H d v []):EV X T false true e (wC d) :=
 ⟨_,h,λz R σ H W ρ Q Q' s hw k=>k v H W d ρ [] (Post.flat s (FrW.refl H W) (λ_=>⟨Same.refl H,rfl,rfl⟩) (r H)) hw⟩
theorem Qh {i:Int} {j pos}:EV X T false true (.Constant (.int i) j pos) (wC (.int i)):=U8 Qo7 λ_=>.int i
theorem Qbx {i:Bool} {j pos}:EV X T false true (.Constant (.bool i) j pos) (wC (.bl i)):=U8 Qpa λ_=>.bl i
theorem Qh3 {x:Str} {i:Int} {t:Tok} (hm:X.mg x=some (.int i t)) (hg:Gl X x:=by rfl) (hd:(x == ("__debug__" : Str))=false:=by decide):EV X T false true (.Name x pos) (wC (.int i)) :=
 U8 (Qmx hg hm (v:=.int i) ⟨t,rfl⟩ hd) λ_=>.int i
abbrev G2:=D->D->(D->Prop)->Prop
structure Fin (K:PySem.W.Frag) (H H':Hp) (d:D) (v:V) (F:List Addr):Prop where
 same:Same H H'
 rep:Rep K H' d v F
 nd:F.Nodup
 new:∀a∈F,H a=none
theorem Fin.flat {K:PySem.W.Frag} {H:Hp} {d:D} {v:V} (r:Rep K H d v []):Fin K H H d v []:=⟨Same.refl H,r,List.nodup_nil,λ_ m=>nomatch m⟩
theorem Qi {H:Hp} {p:Addr} {ob:HO} (h:H p=none):Same H (upd H p ob):=λb u e=>by rw [Qk (Qq e h)];exact e
def OpD (X:Cx) (f:Value->Value->Sem Value) (g:G2):Prop :=
 ∃r,OpR X f r/\∀(H:Hp) (a b:D) (x y:V) (F1 F2:List Addr) (k:D->Prop) (Q:VK),Rep X.K H a x F1->Rep X.K H b y F2->g a b k ->
  (∀v H' d F,Fin X.K H H' d v F->k d->Q v H')->r x y H Q
def wBin (g:G2) (wa wb:WE):WE:=λρ Q=>wa ρ λx ρ1=>wb ρ1 λy ρ2=>g x y λd=>Q d ρ2
theorem two {ta tb:TE} {z:Nat->V} {R:Addr->Prop} {σ:St} {H:Hp} {W:Addr->Prop} {ρ:Env} {RR:V->V->Hp->Prop} {Q2:D->D->Env->Prop}
  (ga:∀(z:Nat->V) (R:Addr->Prop) (σ:St) (H:Hp) (W:Addr->Prop) (ρ:Env) (Q:D->Env->Prop) (Q':VK),SR X.K T z R H W σ ρ->wa ρ Q->(∀v H' W' d ρ' F,Post X.K T z R m1 o1 H W σ ρ H' W' ρ' d v F->Q d ρ'->Q' v H')->ta σ H Q')
  (gb:∀(z:Nat->V) (R:Addr->Prop) (σ:St) (H:Hp) (W:Addr->Prop) (ρ:Env) (Q:D->Env->Prop) (Q':VK),SR X.K T z R H W σ ρ->wb ρ Q->(∀v H' W' d ρ' F,Post X.K T z R m2 o2 H W σ ρ H' W' ρ' d v F->Q d ρ'->Q' v H')->tb σ H Q')
  (hc:o1=true\/m2=false) (s:SR X.K T z R H W σ ρ) (hw:wa ρ λx ρ1=>wb ρ1 λy ρ2=>Q2 x y ρ2)
  (k:∀x y H2 W2 d1 d2 ρ2 F1 F2,SR X.K T z R H2 W2 σ ρ2->FrW H W H2 W2->((m1 || m2)=false->Same H H2/\W2=W/\ρ2=ρ)->Rep X.K H2 d1 x F1->Rep X.K H2 d2 y F2 ->
   (o1=true->F1.Nodup/\∀a∈F1,H a=none/\¬W2 a)->(o2=true->F2.Nodup/\∀a∈F2,H a=none/\¬W2 a)->(o2=true->∀a∈F1,a∉F2)->Q2 d1 d2 ρ2->RR x y H2) :
  ta σ H λx H1=>tb σ H1 λy H2=>RR x y H2:=by
 refine ga z R σ H W ρ _ _ s hw λv1 H1 W1 d1 ρ1 F1 p q1=>?_
 refine gb z R σ H1 W1 ρ1 _ _ p.sr q1 λv2 H2 W2 d2 ρ2 F2 q q2=>?_
 refine k v1 v2 H2 W2 d1 d2 ρ2 F1 F2 q.sr (p.fr.trans q.fr) (p.calm2 q) (p.first q hc) q.rep (p.firstOwn q) (p.lastOwn q) (λh a m1 m2=>?_) q2
 obtain ⟨ob,e,_⟩:=p.rep.dom a m1
 rw [((q.own h).2 a m2).1] at e
 cases e
theorem Q7 {op:Operator} {g:G2} (ho:OpD X (binaryOp op) g) (ha:EV X T m1 o1 a wa) (hb:EV X T m2 o2 b wb) (hc:o1=true\/m2=false:=by first | exact .inl rfl | exact .inr rfl) :
  EV X T (m1 || m2) true (.BinOp a op b pos) (wBin g wa wb):=by
 obtain ⟨r,ro,gr⟩:=ho
 obtain ⟨ta,pa,ga⟩:=ha
 obtain ⟨tb,pb,gb⟩:=hb
 refine ⟨_,Qrx ro pa pb,λz R σ H W ρ Q Q' s hw k=>?_⟩
 refine two ga gb hc s hw λx y H2 W2 d1 d2 ρ2 F1 F2 s2 f2 c2 r1 r2 _ _ _ q2=>?_
 exact gr H2 d1 d2 x y F1 F2 _ Q' r1 r2 q2 λv H' d F fi hk=>k v H' W2 d ρ2 F (Post.fin s2 f2 c2 fi.same fi.rep fi.nd fi.new) hk
theorem Qqu {op:CmpOp} {g:G2} (ho:OpD X (compareOp op) g) (ha:EV X T m1 o1 a wa) (hb:EV X T m2 o2 b wb) (hc:o1=true\/m2=false:=by first | exact .inl rfl | exact .inr rfl)
  (hm:behindInMarks op b=false:=by first | exact Qk2 _ | with_unfolding_all rfl):EV X T (m1 || m2) true (.Compare a [op] [b] pos) (wBin g wa wb):=by
 obtain ⟨r,ro,gr⟩:=ho
 obtain ⟨ta,pa,ga⟩:=ha
 obtain ⟨tb,pb,gb⟩:=hb
 refine ⟨_,Qm0 ro pa pb hm,λz R σ H W ρ Q Q' s hw k=>?_⟩
 refine two ga gb hc s hw λx y H2 W2 d1 d2 ρ2 F1 F2 s2 f2 c2 r1 r2 _ _ _ q2=>?_
 exact gr H2 d1 d2 x y F1 F2 _ Q' r1 r2 q2 λv H' d F fi hk=>k v H' W2 d ρ2 F (Post.fin s2 f2 c2 fi.same fi.rep fi.nd fi.new) hk
def UnD (X:Cx) (f:Value->Sem Value) (g:D->(D->Prop)->Prop):Prop :=
 ∃r,UnR X f r/\∀(H:Hp) (a:D) (x:V) (F1:List Addr) (k:D->Prop) (Q:VK),Rep X.K H a x F1->g a k->(∀v H' d F,Fin X.K H H' d v F->k d->Q v H')->r x H Q
def wUn (g:D->(D->Prop)->Prop) (wa:WE):WE:=λρ Q=>wa ρ λx ρ1=>g x λd=>Q d ρ1
theorem Qnp {op:UnaryOp} {g:D->(D->Prop)->Prop} (ho:UnD X (unaryOp op) g) (ha:EV X T m o a wa):EV X T m true (.UnaryOp op a pos) (wUn g wa):=by
 obtain ⟨r,ro,gr⟩:=ho
 obtain ⟨ta,pa,ga⟩:=ha
 refine ⟨_,Qrw ro pa,λz R σ H W ρ Q Q' s hw k=>?_⟩
 refine ga z R σ H W ρ _ _ s hw λv1 H1 W1 d1 ρ1 F1 p q1=>?_
 exact gr H1 d1 v1 F1 _ Q' p.rep q1 λv H' d F fi hk=>k v H' W1 d ρ1 F (Post.fin p.sr p.fr p.calm fi.same fi.rep fi.nd fi.new) hk
abbrev WT:=Env->(Bool->Env->Prop)->Prop
structure PostT (K:PySem.W.Frag) (T:Tg) (z:Nat->V) (R:Addr->Prop) (m:Bool) (H:Hp) (W:Addr->Prop) (σ:St) (ρ:Env) (H':Hp) (W':Addr->Prop) (ρ':Env):Prop where
 sr:SR K T z R H' W' σ ρ'
 fr:FrW H W H' W'
 calm:m=false->Same H H'/\W'=W/\ρ'=ρ
def TV (X:Cx) (T:Tg) (m:Bool) (e:Expr) (w:WT):Prop :=
 ∃tt,PT X e tt/\∀(z:Nat->V) (R:Addr->Prop) (σ:St) (H:Hp) (W:Addr->Prop) (ρ:Env) (Q:Bool->Env->Prop) (Q':Bool->Hp->Prop),SR X.K T z R H W σ ρ->w ρ Q ->
  (∀b H' W' ρ',PostT X.K T z R m H W σ ρ H' W' ρ'->Q b ρ'->Q' b H')->tt σ H Q'
def truD:D->Option Bool
 | .non=>some false
 | .bl b=>some b
 | .int i=>some (i != 0)
 | .str y=>if y.length<=sizeLine then some ((y.length:Int) != 0) else none
 | .lst xs=>some (!xs.isEmpty)
 | .tup xs=>some (!xs.isEmpty)
 | .dik kvs=>some (!kvs.isEmpty)
 | .kls xs=>some (!xs.isEmpty)
 | .dit _=>none
 | .ty _=>none
 | .fdk _=>none
 | .ftp _=>none
 | .fls _=>none
 | .fdt _=>none
 | .obj _ _=>none
 | .clo _ _=>none
 | .kc _=>none
def wTru (wa:WE):WT:=λρ Q=>wa ρ λd ρ'=>match truD d with
 | some b=>Q b ρ'
 | none=>False
theorem Reps.emp {K:PySem.W.Frag} {H:Hp} {ds:List D} {xs:List V} {F:List Addr} (r:Reps K H ds xs F):ds.isEmpty=xs.isEmpty:=by
 have:=r.length
 cases ds <;> cases xs <;> simp at this <;> rfl
theorem RepK.emp {K:PySem.W.Frag} {H:Hp} {ds:List (Key × D)} {xs:List (Key × V)} {F:List Addr} (r:RepK K H ds xs F):ds.isEmpty=xs.isEmpty:=by
 have:=r.length
 cases ds <;> cases xs <;> simp at this <;> rfl
theorem Qls {K:PySem.W.Frag} {H:Hp} {d:D} {x:V} {F:List Addr} {b:Bool} (r:Rep K H d x F) (h:truD d=some b):TruV K x H b:=by
 cases r with
 | non=>exact (Option.some.inj h).symm
 | bl c=>exact (Option.some.inj h).symm
 | int c=>exact (Option.some.inj h).symm
 | str y =>
  have h:(if y.length<=sizeLine then some ((y.length:Int) != 0) else none)=some b:=h
  split at h
  ·rename_i hl;exact ⟨hl,(Option.some.inj h).symm⟩
  ·cases h
 | tup e r =>
  refine .inr (.inl ⟨_,.of e,?_⟩)
  rw [← Option.some.inj h,r.emp]
 | lst e r =>
  refine .inl ⟨_,.of e,?_⟩
  rw [← Option.some.inj h,r.emp]
 | kls e r =>
  refine .inl ⟨_,e.sq,?_⟩
  rw [← Option.some.inj h,r.emp]
 | dik e r =>
  refine .inr (.inr ⟨_,e,?_⟩)
  rw [← Option.some.inj h,r.emp]
 | dit e r=>cases h
 | ty t=>cases h
 | fdk e r=>cases h
 | ftp e hd r=>cases h
 | fls e r=>cases h
 | fdt e r=>cases h
 | obj e hc hf=>cases h
 | clo e r=>cases h
 | kc a=>cases h
theorem Ge (ha:EV X T m o a wa) (he:∀whole,isTrue a X.env whole=(do let v ← whole;standAt a.pos;holding [v] (truthy v)):=by intro _;rfl):TV X T m a (wTru wa):=by
 obtain ⟨ta,pa,ga⟩:=ha
 refine ⟨_,Qjb pa he,λz R σ H W ρ Q Q' s hw k=>?_⟩
 refine ga z R σ H W ρ _ _ s hw λv1 H1 W1 d1 ρ1 F1 p q1=>?_
 cases ht:truD d1 with
 | none=>rw [ht] at q1;exact q1.elim
 | some b =>
  rw [ht] at q1
  exact ⟨b,Qls p.rep ht,k b H1 W1 ρ1 ⟨p.sr,p.fr,p.calm⟩ q1⟩
def wBl (wa:WE):WT:=λρ Q=>wa ρ λd ρ'=>match d with
 | .bl b=>Q b ρ'
 | _=>False
theorem Qks {K:PySem.W.Frag} {H:Hp} {b:Bool} {x:V} {F:List Addr} (r:Rep K H (.bl b) x F):x=.bl b:=by cases r;rfl
theorem Jx {op:CmpOp} {g:G2} (ho:OpD X (compareOp op) g) (ha:EV X T m1 o1 a wa) (hb:EV X T m2 o2 b wb) (hc:o1=true\/m2=false:=by first | exact .inl rfl | exact .inr rfl)
  (hm:behindInMarks op b=false:=by first | exact Qk2 _ | with_unfolding_all rfl):TV X T (m1 || m2) (.Compare a [op] [b] pos) (wBl (wBin g wa wb)):=by
 obtain ⟨r,ro,gr⟩:=ho
 obtain ⟨ta,pa,ga⟩:=ha
 obtain ⟨tb,pb,gb⟩:=hb
 refine ⟨_,Qml ro pa pb hm,λz R σ H W ρ Q Q' s hw k=>?_⟩
 refine two ga gb hc s hw λx y H2 W2 d1 d2 ρ2 F1 F2 s2 f2 c2 r1 r2 _ _ _ q2=>?_
 refine gr H2 d1 d2 x y F1 F2 _ _ r1 r2 q2 λv H' d F fi hk=>?_
 cases d with
 | bl b=>exact ⟨b,Qks fi.rep,k b H' W2 ρ2 ⟨s2.same fi.same,f2.trans (FrW.same W2 fi.same),λh=>⟨(c2 h).1.trans fi.same,(c2 h).2⟩⟩ hk⟩
 | _=>exact hk.elim
variable {wt wu:WT} {rest:List Expr}
def wNot (wt:WT):WT:=λρ Q=>wt ρ λb ρ'=>Q (!b) ρ'
def wAnd (wt wu:WT):WT:=λρ Q=>wt ρ λb ρ'=>if b=true then wu ρ' Q else Q false ρ'
def wOr (wt wu:WT):WT:=λρ Q=>wt ρ λb ρ'=>if b=true then Q true ρ' else wu ρ' Q
theorem Qdq (ha:TV X T m a wt):TV X T m (.UnaryOp .Not a pos) (wNot wt):=by
 obtain ⟨ta,pa,ga⟩:=ha
 exact ⟨_,Qo2 pa,λz R σ H W ρ Q Q' s hw k=>ga z R σ H W ρ _ _ s hw λb H1 W1 ρ1 p q1=>k (!b) H1 W1 ρ1 p q1⟩
def BV (X:Cx) (T:Tg) (m:Bool) (e:Expr) (w:WT):Prop :=
 ∃tt,PW X e tt/\∀(z:Nat->V) (R:Addr->Prop) (σ:St) (H:Hp) (W:Addr->Prop) (ρ:Env) (Q:Bool->Env->Prop) (Q':Bool->Hp->Prop),SR X.K T z R H W σ ρ->w ρ Q ->
  (∀b H' W' ρ',PostT X.K T z R m H W σ ρ H' W' ρ'->Q b ρ'->Q' b H')->tt σ H Q'
theorem PostT.seq {K:PySem.W.Frag} {z:Nat->V} {R:Addr->Prop} {H H1 H2:Hp} {W W1 W2:Addr->Prop} {σ:St} {ρ ρ1 ρ2:Env} (p:PostT K T z R m1 H W σ ρ H1 W1 ρ1) (q:PostT K T z R m2 H1 W1 σ ρ1 H2 W2 ρ2):PostT K T z R (m1 || m2) H W σ ρ H2 W2 ρ2 where
 sr:=q.sr
 fr:=p.fr.trans q.fr
 calm:=λh=>by
  rw [Bool.or_eq_false_iff] at h
  obtain ⟨a1,a2,a3⟩:=p.calm h.1
  obtain ⟨b1,b2,b3⟩:=q.calm h.2
  exact ⟨a1.trans b1,b2.trans a2,b3.trans a3⟩
theorem PostT.left {K:PySem.W.Frag} {z:Nat->V} {R:Addr->Prop} {H H1:Hp} {W W1:Addr->Prop} {σ:St} {ρ ρ1:Env} (p:PostT K T z R m1 H W σ ρ H1 W1 ρ1):PostT K T z R (m1 || m2) H W σ ρ H1 W1 ρ1 :=
 ⟨p.sr,p.fr,λh=>p.calm (Bool.or_eq_false_iff.mp h).1⟩
theorem Qiq (ha:TV X T m a wt):BV X T m (.BoolOp .And [a] pos) wt:=by
 obtain ⟨ta,pa,ga⟩:=ha
 exact ⟨_,Qmh pa,ga⟩
theorem Qb4 (ha:TV X T m a wt):BV X T m (.BoolOp .Or [a] pos) wt:=by
 obtain ⟨ta,pa,ga⟩:=ha
 exact ⟨_,Qo0 pa,ga⟩
theorem Qld (ha:TV X T m1 a wt) (hb:BV X T m2 (.BoolOp .And (b::rest) pos) wu):BV X T (m1 || m2) (.BoolOp .And (a::b::rest) pos) (wAnd wt wu):=by
 obtain ⟨ta,pa,ga⟩:=ha
 obtain ⟨tb,pb,gb⟩:=hb
 refine ⟨_,Qo1 pa pb,λz R σ H W ρ Q Q' s hw k=>ga z R σ H W ρ _ _ s hw λc H1 W1 ρ1 p q1=>?_⟩
 cases c with
 | true=>exact gb z R σ H1 W1 ρ1 Q Q' p.sr q1 λb H2 W2 ρ2 q q2=>k b H2 W2 ρ2 (p.seq q) q2
 | false=>exact k false H1 W1 ρ1 p.left q1
theorem Qip (ha:TV X T m1 a wt) (hb:BV X T m2 (.BoolOp .Or (b::rest) pos) wu):BV X T (m1 || m2) (.BoolOp .Or (a::b::rest) pos) (wOr wt wu):=by
 obtain ⟨ta,pa,ga⟩:=ha
 obtain ⟨tb,pb,gb⟩:=hb
 refine ⟨_,Qru pa pb,λz R σ H W ρ Q Q' s hw k=>ga z R σ H W ρ _ _ s hw λc H1 W1 ρ1 p q1=>?_⟩
 cases c with
 | false=>exact gb z R σ H1 W1 ρ1 Q Q' p.sr q1 λb H2 W2 ρ2 q q2=>k b H2 W2 ρ2 (p.seq q) q2
 | true=>exact k true H1 W1 ρ1 p.left q1
theorem Vb (h:BV X T m e wt):TV X T m e wt:=by
 obtain ⟨ta,pa,ga⟩:=h
 exact ⟨_,pa.pt,ga⟩
end
end PV
namespace PV
open PySem PySem.Spec L2
open PySem.W (Dat kqdP kqdPs kqdOk)
mutual
def Q6:D->Dat
 | .non=>.none
 | .bl b=>.bool b
 | .int i=>.int i
 | .str x=>.str x
 | .tup xs=>.tuple (Jd xs)
 | .lst xs=>.list (Jd xs)
 | .dik _=>.none
 | .dit _=>.none
 | .kls _=>.none
 | .ty _=>.none
 | .fdk _=>.none
 | .ftp _=>.none
 | .fls _=>.none
 | .fdt _=>.none
 | .obj _ _=>.none
 | .clo _ _=>.none
 | .kc _=>.none
def Jd:List D->List Dat
 | []=>[]
 | d::r=>Q6 d::Jd r
end
mutual
def eqOk:Nat->D->Bool
 | _,.non=>true
 | _,.int _=>true
 | _,.str x=>PyData.strOk x
 | n+1,.tup xs=>Yy n xs
 | n+1,.lst xs=>Yy n xs
 | _,_=>false
def Yy:Nat->List D->Bool
 | _,[]=>true
 | n,d::r=>eqOk n d && Yy n r
end
theorem Qby {n:Nat} {xs:List D}:Yy n xs=true↔∀x∈xs,eqOk n x=true:=by
 induction xs with
 | nil=>simp [Yy]
 | cons d r ih=>simp only [Yy,Bool.and_eq_true,ih,List.mem_cons,forall_eq_or_imp]
mutual
theorem Zz:∀(n:Nat) (d:D),eqOk n d=true->kqdOk n (Q6 d)=true
 | _,.non,_=>by simp [Q6,kqdOk]
 | _,.bl _,h=>by cases ‹Nat› <;> simp [eqOk] at h
 | _,.int _,_=>by simp [Q6,kqdOk]
 | _,.str x,h=>by
  cases ‹Nat› <;> (simp only [eqOk] at h;simpa [Q6,kqdOk] using h)
 | 0,.tup _,h=>by simp [eqOk] at h
 | 0,.lst _,h=>by simp [eqOk] at h
 | n+1,.tup xs,h=>by
  simp only [eqOk] at h
  rw [Q6];simp only [kqdOk]
  exact V5 n xs h
 | n+1,.lst xs,h=>by
  simp only [eqOk] at h
  rw [Q6];simp only [kqdOk]
  exact V5 n xs h
 | n,.dik _,h=>by cases n <;> simp [eqOk] at h
 | n,.dit _,h=>by cases n <;> simp [eqOk] at h
 | n,.kls _,h=>by cases n <;> simp [eqOk] at h
 | n,.ty _,h=>by cases n <;> simp [eqOk] at h
 | n,.fdk _,h=>by cases n <;> simp [eqOk] at h
 | n,.ftp _,h=>by cases n <;> simp [eqOk] at h
 | n,.fls _,h=>by cases n <;> simp [eqOk] at h
 | n,.fdt _,h=>by cases n <;> simp [eqOk] at h
 | n,.obj _ _,h=>by cases n <;> simp [eqOk] at h
 | n,.clo _ _,h=>by cases n <;> simp [eqOk] at h
 | n,.kc _,h=>by cases n <;> simp [eqOk] at h
theorem V5:∀(n:Nat) (xs:List D),Yy n xs=true->(Jd xs).all (kqdOk n)=true
 | _,[],_=>by simp [Jd]
 | n,d::r,h=>by
  simp only [Yy,Bool.and_eq_true] at h
  rw [Jd,List.all_cons,Zz n d h.1,V5 n r h.2];rfl
end
mutual
theorem Vl:∀(n k:Nat) (a b:D),eqOk n a=true->eqOk k b=true->Q6 a=Q6 b->a=b
 | n,k,a,b,ha,hb,h=>by
  cases a with
  | non=>cases b <;> first | rfl | (simp [Q6] at h;done) | (cases k <;> simp [eqOk] at hb)
  | bl x=>cases n <;> simp [eqOk] at ha
  | int x=>cases b <;> first | (simp [Q6] at h;rw [h]) | (simp [Q6] at h)
  | str x=>cases b <;> first | (simp [Q6] at h;rw [h]) | (simp [Q6] at h)
  | tup xs =>
   cases b with
   | tup ys =>
    cases n with
    | zero=>simp [eqOk] at ha
    | succ n =>
     cases k with
     | zero=>simp [eqOk] at hb
     | succ k =>
      simp only [eqOk] at ha hb
      simp only [Q6,Dat.tuple.injEq] at h
      rw [V9 n k xs ys ha hb h]
   | _=>simp [Q6] at h
  | lst xs =>
   cases b with
   | lst ys =>
    cases n with
    | zero=>simp [eqOk] at ha
    | succ n =>
     cases k with
     | zero=>simp [eqOk] at hb
     | succ k =>
      simp only [eqOk] at ha hb
      simp only [Q6,Dat.list.injEq] at h
      rw [V9 n k xs ys ha hb h]
   | _=>simp [Q6] at h
  | dik x=>cases n <;> simp [eqOk] at ha
  | dit x=>cases n <;> simp [eqOk] at ha
  | kls x=>cases n <;> simp [eqOk] at ha
  | ty x=>cases n <;> simp [eqOk] at ha
  | fdk x=>cases n <;> simp [eqOk] at ha
  | ftp x=>cases n <;> simp [eqOk] at ha
  | fls x=>cases n <;> simp [eqOk] at ha
  | fdt x=>cases n <;> simp [eqOk] at ha
  | obj x y=>cases n <;> simp [eqOk] at ha
  | clo x y=>cases n <;> simp [eqOk] at ha
  | kc x=>cases n <;> simp [eqOk] at ha
theorem V9:∀(n k:Nat) (a b:List D),Yy n a=true->Yy k b=true->Jd a=Jd b->a=b
 | n,k,[],b,ha,hb,h=>by
  cases b with
  | nil=>rfl
  | cons=>simp [Jd] at h
 | n,k,x::a,b,ha,hb,h=>by
  cases b with
  | nil=>simp [Jd] at h
  | cons y b =>
   simp only [Jd,List.cons.injEq] at h
   simp only [Yy,Bool.and_eq_true] at ha hb
   rw [Vl n k x y ha.1 hb.1 h.1,V9 n k a b ha.2 hb.2 h.2]
end
theorem Rep.dv {K:PySem.W.Frag} {H:Hp} {d:D} {v:V} {F:List Addr} (n:Nat) (r:Rep K H d v F):eqOk n d=true->DV H v (Q6 d):=by
 have no:∀{P:Prop} {n:Nat} {d:D},(∀n,eqOk n d=false)->eqOk n d=true->P:=λh h'=>absurd ((h _).symm.trans h') (by simp)
 refine Rep.rec (motive_1:=λd v _ _=>∀n,eqOk n d=true->DV H v (Q6 d)) (motive_2:=λd v _ _=>∀n,Yy n d=true->DVs H v (Jd d)) (motive_3:=λ_ _ _ _=>True) (motive_4:=λ_ _ _ _=>True) ?_ ?_ ?_ ?_ ?_ ?_ ?_ ?_ ?_ ?_ ?_ ?_ ?_ ?_ ?_ ?_ ?_ ?_ ?_ trivial (λ_ _ _ _=>trivial) trivial (λ_ _ _ _=>trivial) r n
 ·exact λ_ _=>by rw [Q6];exact .non
 ·exact λb n=>no λn=>by cases n <;> rfl
 ·exact λi _ _=>by rw [Q6];exact .int i
 ·exact λi _ _=>by rw [Q6];exact .str i
 ·intro _ _ _ _ e _ ih n h
  cases n with
  | zero=>simp [eqOk] at h
  | succ n=>rw [eqOk] at h;rw [Q6];exact .tup e (ih n h)
 ·intro _ _ _ _ e _ ih n h
  cases n with
  | zero=>simp [eqOk] at h
  | succ n=>rw [eqOk] at h;rw [Q6];exact .lst e (ih n h)
 ·exact λ_ _ _ n=>no λn=>by cases n <;> rfl
 ·exact λ_ _ _ n=>no λn=>by cases n <;> rfl
 ·exact λ_ _ _ n=>no λn=>by cases n <;> rfl
 ·exact λ_ n=>no λn=>by cases n <;> rfl
 ·exact λ_ _ _ n=>no λn=>by cases n <;> rfl
 ·exact λ_ _ _ _ n=>no λn=>by cases n <;> rfl
 ·exact λ_ _ _ n=>no λn=>by cases n <;> rfl
 ·exact λ_ _ _ n=>no λn=>by cases n <;> rfl
 ·exact λ_ _ _ n=>no λn=>by cases n <;> rfl
 ·exact λ_ _ _ n=>no λn=>by cases n <;> rfl
 ·exact λ_ n=>no λn=>by cases n <;> rfl
 ·exact λ_ _=>by rw [Jd];exact .nil
 ·intro _ _ _ _ _ _ _ _ ih1 ih2 n q
  rw [Yy,Bool.and_eq_true] at q
  rw [Jd];exact .cons (ih1 n q.1) (ih2 n q.2)
def dAdd:G2
 | .int i,.int j,k=>k (.int (i+j))
 | .str x,.str y,k=>x.length+y.length<=sizeLine/\k (.str (x++y))
 | .tup xs,.tup ys,k=>Qm xs=true/\Qm ys=true/\xs≠[]/\xs.length+ys.length<=sizeLine/\k (.tup (xs++ys))
 | .lst xs,.lst ys,k=>Qm xs=true/\Qm ys=true/\xs.length+ys.length<=sizeLine/\k (.lst (xs++ys))
 | _,_,_=>False
def dSub:G2
 | .int i,.int j,k=>k (.int (i-j))
 | _,_,_=>False
def dMul:G2
 | .int i,.int j,k=>CMul i j/\k (.int (i*j))
 | .lst xs,.int n,k=>Qm xs=true /\ -(2 ^ 63)<=n/\n<2 ^ 63/\xs.length*n.toNat<=sizeLine/\k (.lst (List.replicate n.toNat xs).flatten)
 | _,_,_=>False
def dDiv:G2
 | .int i,.int j,k=>(0<j/\j<1073741824/\k (.int (i / j)))\/(j<0/\j.natAbs<1073741824/\k (.int (i.fdiv j)))
 | _,_,_=>False
def dMod:G2
 | .int i,.int j,k=>(0<j/\k (.int (i % j)))\/(j<0/\k (.int (i.fmod j)))
 | _,_,_=>False
def dPow:G2
 | .int i,.int j,k=>CPow i j/\k (.int (i ^ j.toNat))
 | _,_,_=>False
def dEq:G2
 | .int i,.int j,k=>k (.bl (decide (i=j)))
 | .bl i,.bl j,k=>k (.bl (i == j))
 | .str i,.str j,k=>k (.bl (decide (i=j)))
 | a,b,k=>eqOk 9 a=true/\eqOk 9 b=true/\(a=b->k (.bl true))/\(a≠b->k (.bl false))
def dNe:G2
 | .int i,.int j,k=>k (.bl (!decide (i=j)))
 | .bl i,.bl j,k=>k (.bl (!(i == j)))
 | .str i,.str j,k=>k (.bl (!decide (i=j)))
 | a,b,k=>eqOk 9 a=true/\eqOk 9 b=true/\(a=b->k (.bl false))/\(a≠b->k (.bl true))
def dCmp (f:Int->Int->Bool):G2
 | .int i,.int j,k=>k (.bl (f i j))
 | _,_,_=>False
section
variable {X:Cx}
theorem Ql6 {K:PySem.W.Frag} {H:Hp} {i:Int} {x:V} {F:List Addr} (r:Rep K H (.int i) x F):x=.int i:=by cases r;rfl
theorem Reps.flatten {K:PySem.W.Frag} {H:Hp} {ds:List D} {xs:List V} (r:Reps K H ds xs []):∀n:Nat,Reps K H (List.replicate n ds).flatten (List.replicate n xs).flatten []
 | 0=>.nil
 | n+1=>by
  have:=r.append (Reps.flatten r n)
  simpa [List.replicate_succ,List.flatten_cons] using this
theorem Qj8 {a b:D} {k:D->Prop} (g:dAdd a b k):(∃i j,a=.int i/\b=.int j)\/(∃i j,a=.str i/\b=.str j)\/(∃i j,a=.tup i/\b=.tup j)\/∃i j,a=.lst i/\b=.lst j:=by
 cases a with
 | int i=>cases b with
  | int j=>exact .inl ⟨i,j,rfl,rfl⟩
  | _=>exact (show False from g).elim
 | str i=>cases b with
  | str j=>exact .inr (.inl ⟨i,j,rfl,rfl⟩)
  | _=>exact (show False from g).elim
 | tup i=>cases b with
  | tup j=>exact .inr (.inr (.inl ⟨i,j,rfl,rfl⟩))
  | _=>exact (show False from g).elim
 | lst i=>cases b with
  | lst j=>exact .inr (.inr (.inr ⟨i,j,rfl,rfl⟩))
  | _=>exact (show False from g).elim
 | _=>exact (show False from g).elim
theorem Ys:OpD X (binaryOp .Add) dAdd:=by
 refine ⟨_,OpR.or Qpl (OpR.or Qpk (OpR.or Qm6 Qfe)),λH a b x y F1 F2 k Q ra rb g q=>?_⟩
 rcases Qj8 g with ⟨i,j,rfl,rfl⟩ | ⟨i,j,rfl,rfl⟩ | ⟨ds,es,rfl,rfl⟩ | ⟨ds,es,rfl,rfl⟩
 ·exact .inl ⟨_,_,ra.iInt,rb.iInt,q _ _ _ _ (.flat (.int _)) g⟩
 ·exact .inr (.inr (.inr ⟨_,_,ra.iStr,rb.iStr,g.1,q _ _ _ _ (.flat (.str _)) g.2⟩))
 ·obtain ⟨a,xs,rfl,e1,r1⟩:=ra.iTup
  obtain ⟨b,ys,rfl,e2,r2⟩:=rb.iTup
  obtain ⟨p1,p2,hne,hz,g⟩:=g
  obtain ⟨-,r1⟩:=r1.pure p1
  obtain ⟨-,r2⟩:=r2.pure p2
  have l1:=r1.length
  have l2:=r2.length
  refine .inr (.inr (.inl ⟨a,b,xs,ys,rfl,rfl,.of e1,.of e2,λz=>hne (List.length_eq_zero_iff.mp (by rw [← l1,z];rfl)),by omega,λz=>?_,λz p hp=>?_⟩))
  ·have:es=[]:=List.length_eq_zero_iff.mp (by rw [← l2,z];rfl)
   subst this
   rw [List.append_nil] at g
   exact q _ _ _ _ (.flat (.tup e1 r1)) g
  ·refine q _ _ _ [] ⟨Qi hp,.tup Qb ?_,List.nodup_nil,λ_ m=>nomatch m⟩ g
   exact (r1.append r2).same (Qi hp)
 ·obtain ⟨a,xs,_,rfl,_,e1,r1⟩:=ra.iLst
  obtain ⟨b,ys,_,rfl,_,e2,r2⟩:=rb.iLst
  obtain ⟨p1,p2,hz,g⟩:=g
  obtain ⟨-,r1⟩:=r1.pure p1
  obtain ⟨-,r2⟩:=r2.pure p2
  have l1:=r1.length
  have l2:=r2.length
  refine .inr (.inl ⟨a,b,xs,ys,rfl,rfl,e1,e2,by omega,λp hp=>?_⟩)
  refine q _ _ _ [p] ⟨Qi hp,.lst Qb ((r1.append r2).same (Qi hp)),by simp,λc m=>by rw [List.mem_singleton.mp m];exact hp⟩ g
theorem Qpn:OpD X (binaryOp .Sub) dSub:=by
 refine ⟨_,Qpc,λH a b x y F1 F2 k Q ra rb g q=>?_⟩
 (cases ra <;> first | exact (show False from g).elim | skip) <;> (cases rb <;> first | exact (show False from g).elim | skip)
 exact ⟨_,_,rfl,rfl,q _ _ _ _ (.flat (.int _)) g⟩
theorem Qj6 {a b:D} {k:D->Prop} (g:dMul a b k):(∃i j,a=.int i/\b=.int j)\/∃i j,a=.lst i/\b=.int j:=by
 cases a with
 | int i=>cases b with
  | int j=>exact .inl ⟨i,j,rfl,rfl⟩
  | _=>exact (show False from g).elim
 | lst i=>cases b with
  | int j=>exact .inr ⟨i,j,rfl,rfl⟩
  | _=>exact (show False from g).elim
 | _=>exact (show False from g).elim
theorem J9:OpD X (binaryOp .Mult) dMul:=by
 refine ⟨_,OpR.or Qph Qpd,λH a b x y F1 F2 k Q ra rb g q=>?_⟩
 rcases Qj6 g with ⟨i,j,rfl,rfl⟩ | ⟨ds,n,rfl,rfl⟩
 ·exact .inl ⟨_,_,ra.iInt,rb.iInt,g.1,q _ _ _ _ (.flat (.int _)) g.2⟩
 ·obtain ⟨a,xs,_,rfl,_,e1,r1⟩:=ra.iLst
  obtain rfl:=rb.iInt
  obtain ⟨p1,h1,h2,hz,g⟩:=g
  obtain ⟨-,r1⟩:=r1.pure p1
  have l1:=r1.length
  refine .inr ⟨a,n,xs,rfl,rfl,e1,h1,h2,by rw [l1];exact hz,λp hp=>?_⟩
  refine q _ _ _ [p] ⟨Qi hp,.lst Qb ((r1.flatten _).same (Qi hp)),by simp,λc m=>by rw [List.mem_singleton.mp m];exact hp⟩ g
theorem Qhh:OpD X (binaryOp .FloorDiv) dDiv:=by
 refine ⟨_,OpR.or Qm4 Qjo,λH a b x y F1 F2 k Q ra rb g q=>?_⟩
 (cases ra <;> first | exact (show False from g).elim | skip) <;> (cases rb <;> first | exact (show False from g).elim | skip)
 rcases (show _\/_ from g) with ⟨h1,h2,g⟩ | ⟨h1,h2,g⟩
 ·exact .inl ⟨_,_,rfl,rfl,⟨h1,h2⟩,q _ _ _ _ (.flat (.int _)) g⟩
 ·exact .inr ⟨_,_,rfl,rfl,⟨by omega,h2⟩,q _ _ _ _ (.flat (.int _)) g⟩
theorem Qd7:OpD X (binaryOp .Mod) dMod:=by
 refine ⟨_,OpR.or Qpi Qm3,λH a b x y F1 F2 k Q ra rb g q=>?_⟩
 (cases ra <;> first | exact (show False from g).elim | skip) <;> (cases rb <;> first | exact (show False from g).elim | skip)
 rcases (show _\/_ from g) with ⟨h1,g⟩ | ⟨h1,g⟩
 ·exact .inl ⟨_,_,rfl,rfl,h1,q _ _ _ _ (.flat (.int _)) g⟩
 ·exact .inr ⟨_,_,rfl,rfl,by omega,q _ _ _ _ (.flat (.int _)) g⟩
theorem Qhf:OpD X (binaryOp .Pow) dPow:=by
 refine ⟨_,Qpe,λH a b x y F1 F2 k Q ra rb g q=>?_⟩
 (cases ra <;> first | exact (show False from g).elim | skip) <;> (cases rb <;> first | exact (show False from g).elim | skip)
 exact ⟨_,_,rfl,rfl,g.1,q _ _ _ _ (.flat (.int _)) g.2⟩
theorem Qnb {op:CmpOp} {f:Int->Int->Bool} (h:OpR X (compareOp op) (rI0 λi j=>.bl (f i j))):OpD X (compareOp op) (dCmp f):=by
 refine ⟨_,h,λH a b x y F1 F2 k Q ra rb g q=>?_⟩
 (cases ra <;> first | exact (show False from g).elim | skip) <;> (cases rb <;> first | exact (show False from g).elim | skip)
 exact ⟨_,_,rfl,rfl,q _ _ _ _ (.flat (.bl _)) g⟩
theorem Qna:OpD X (compareOp .Gt) (dCmp λi j=>decide (j<i)):=Qnb Qr0
theorem Qh4 {H:Hp} {a b:D} {x y:V} {F1 F2:List Addr} {k:D->Prop} {Q:VK} {neg:Bool} (ra:Rep X.K H a x F1) (rb:Rep X.K H b y F2)
  (h1:eqOk 9 a=true) (h2:eqOk 9 b=true) (g1:a=b->k (.bl (!neg))) (g2:a≠b->k (.bl neg)) (q:∀v H' d F,Fin X.K H H' d v F->k d->Q v H'):rDat neg x y H Q:=by
 refine ⟨Q6 a,Q6 b,9,ra.dv 9 h1,rb.dv 9 h2,Zz _ _ h1,Zz _ _ h2,Nat.le_refl _,λe=>?_,λe=>?_⟩
 ·exact q _ _ _ _ (.flat (.bl _)) (g1 (Vl 9 9 a b h1 h2 e))
 ·exact q _ _ _ _ (.flat (.bl _)) (g2 λz=>e (by rw [z]))
theorem Qn0 {a b:D} {k:D->Prop} (g:dEq a b k):(∃i j,a=.int i/\b=.int j)\/(∃i j,a=.bl i/\b=.bl j)\/(∃i j,a=.str i/\b=.str j)\/(eqOk 9 a=true/\eqOk 9 b=true/\(a=b->k (.bl true))/\(a≠b->k (.bl false))):=by
 cases a with
 | int i=>cases b with
  | int j=>exact .inl ⟨i,j,rfl,rfl⟩
  | _=>exact .inr (.inr (.inr g))
 | bl i=>cases b with
  | bl j=>exact .inr (.inl ⟨i,j,rfl,rfl⟩)
  | _=>exact .inr (.inr (.inr g))
 | str i=>cases b with
  | str j=>exact .inr (.inr (.inl ⟨i,j,rfl,rfl⟩))
  | _=>exact .inr (.inr (.inr g))
 | _=>exact .inr (.inr (.inr g))
theorem Qjp (hu:X.A.units+64<cLine):OpD X (compareOp .Eq) dEq:=by
 refine ⟨_,OpR.or Qr1 (Qpj hu),λH a b x y F1 F2 k Q ra rb g q=>?_⟩
 rcases Qn0 g with ⟨i,j,rfl,rfl⟩ | ⟨i,j,rfl,rfl⟩ | ⟨i,j,rfl,rfl⟩ | ⟨h1,h2,g1,g2⟩
 ·obtain rfl:=ra.iInt
  obtain rfl:=rb.iInt
  refine .inl ⟨rfl,?_⟩
  have e:decide (V.int i=V.int j)=decide (i=j):=by simp
  rw [e]
  exact q _ _ _ _ (.flat (.bl _)) g
 ·obtain rfl:=ra.iBl
  obtain rfl:=rb.iBl
  refine .inl ⟨rfl,?_⟩
  rw [Qeu]
  exact q _ _ _ _ (.flat (.bl _)) g
 ·obtain rfl:=ra.iStr
  obtain rfl:=rb.iStr
  refine .inl ⟨rfl,?_⟩
  have e:decide (V.str i=V.str j)=decide (i=j):=by simp
  rw [e]
  exact q _ _ _ _ (.flat (.bl _)) g
 ·exact .inr (Qh4 ra rb h1 h2 g1 g2 q)
theorem Qnx {a b:D} {k:D->Prop} (g:dNe a b k):(∃i j,a=.int i/\b=.int j)\/(∃i j,a=.bl i/\b=.bl j)\/(∃i j,a=.str i/\b=.str j)\/(eqOk 9 a=true/\eqOk 9 b=true/\(a=b->k (.bl false))/\(a≠b->k (.bl true))):=by
 cases a with
 | int i=>cases b with
  | int j=>exact .inl ⟨i,j,rfl,rfl⟩
  | _=>exact .inr (.inr (.inr g))
 | bl i=>cases b with
  | bl j=>exact .inr (.inl ⟨i,j,rfl,rfl⟩)
  | _=>exact .inr (.inr (.inr g))
 | str i=>cases b with
  | str j=>exact .inr (.inr (.inl ⟨i,j,rfl,rfl⟩))
  | _=>exact .inr (.inr (.inr g))
 | _=>exact .inr (.inr (.inr g))
theorem Qm9 (hu:X.A.units+64<cLine):OpD X (compareOp .NotEq) dNe:=by
 refine ⟨_,OpR.or Qrz (Qpg hu),λH a b x y F1 F2 k Q ra rb g q=>?_⟩
 rcases Qnx g with ⟨i,j,rfl,rfl⟩ | ⟨i,j,rfl,rfl⟩ | ⟨i,j,rfl,rfl⟩ | ⟨h1,h2,g1,g2⟩
 ·obtain rfl:=ra.iInt
  obtain rfl:=rb.iInt
  refine .inl ⟨rfl,?_⟩
  have e:(!decide (V.int i=V.int j)) = !decide (i=j):=by simp
  rw [e]
  exact q _ _ _ _ (.flat (.bl _)) g
 ·obtain rfl:=ra.iBl
  obtain rfl:=rb.iBl
  refine .inl ⟨rfl,?_⟩
  rw [Qeu]
  exact q _ _ _ _ (.flat (.bl _)) g
 ·obtain rfl:=ra.iStr
  obtain rfl:=rb.iStr
  refine .inl ⟨rfl,?_⟩
  have e:(!decide (V.str i=V.str j)) = !decide (i=j):=by simp
  rw [e]
  exact q _ _ _ _ (.flat (.bl _)) g
 ·exact .inr (Qh4 (neg:=true) ra rb h1 h2 g1 g2 q)
def dNeg:D->(D->Prop)->Prop
 | .int i,k=>k (.int (-i))
 | _,_=>False
theorem Qgc:UnD X (unaryOp .USub) dNeg:=by
 refine ⟨_,Qn9,λH a x F1 k Q ra g q=>?_⟩
 cases ra <;> try exact (show False from g).elim
 exact ⟨_,rfl,q _ _ _ _ (.flat (.int _)) g⟩
end
end PV
namespace PV
open PySem PySem.Spec L2
open PyProof.Rows (subscriptTail)
def Zh:List D->Option (List Key)
 | []=>some []
 | .int i::r=>(Zh r).map λl=>.inl i::l
 | .str x::r=>(Zh r).map λl=>.inr x::l
 | _::_=>none
theorem Reps.keys {K:PySem.W.Frag} {H:Hp}:∀{ds:List D} {xs:List V} {F:List Addr} {l:List Key},Reps K H ds xs F->Zh ds=some l->xs=l.map kV
 | [],_,_,_,r,h=>by
  cases r
  simp only [Zh,Option.some.injEq] at h
  subst h
  rfl
 | d::ds,_,_,_,r,h=>by
  cases r with
  | cons p r =>
   cases d with
   | int i =>
    simp only [Zh,Option.map_eq_some_iff] at h
    obtain ⟨l',h1,rfl⟩:=h
    cases p
    rw [Reps.keys r h1]
    rfl
   | str i =>
    simp only [Zh,Option.map_eq_some_iff] at h
    obtain ⟨l',h1,rfl⟩:=h
    cases p
    rw [Reps.keys r h1]
    rfl
   | _=>simp [Zh] at h
theorem Reps.atI {K:PySem.W.Frag} {H:Hp} {ds:List D} {xs:List V} {F:List Addr} {i:Int} {d:D} (r:Reps K H ds xs F) (h:L2.atI ds i=some d):∃x B,L2.atI xs i=some x/\Rep K H d x B/\B.Sublist F:=by
 unfold L2.atI at h
 cases hj:ixN ds.length i with
 | none=>rw [hj] at h;cases h
 | some j =>
  rw [hj] at h
  obtain ⟨x,B,h1,h2,h3⟩:=r.get (i:=j) h
  refine ⟨x,B,?_,h2,h3⟩
  unfold L2.atI
  rw [r.length,hj]
  exact h1
def oget {α:Type} (o:Option α) (k:α->Prop):Prop:=match o with
 | some d=>k d
 | none=>False
def onI (b:D) (k:Int->Prop):Prop:=match b with
 | .int i=>k i
 | _=>False
def onK (b:D) (k:Key->Prop):Prop:=match b with
 | .int i=>k (.inl i)
 | .str i=>k (.inr i)
 | _=>False
def onT (b:D) (k:List D->Prop):Prop:=match b with
 | .tup l=>k l
 | _=>False
theorem Gm {b:D} {k:Int->Prop} (h:onI b k):∃i,b=.int i/\k i:=by
 cases b with
 | int i=>exact ⟨i,rfl,h⟩
 | _=>exact (show False from h).elim
theorem Qha {b:D} {k:List D->Prop} (h:onT b k):∃i,b=.tup i/\k i:=by
 cases b with
 | tup i=>exact ⟨i,rfl,h⟩
 | _=>exact (show False from h).elim
theorem Qct {b:D} {k:Key->Prop} (h:onK b k):∃key,k key/\∀{K:PySem.W.Frag} {H:Hp} {v:V} {F:List Addr},Rep K H b v F->v=kV key:=by
 cases b with
 | int i=>exact ⟨.inl i,h,λr=>r.iInt⟩
 | str i=>exact ⟨.inr i,h,λr=>r.iStr⟩
 | _=>exact (show False from h).elim
def dIx:G2:=λa b k=>match a with
 | .lst xs=>onI b λi=>oget (L2.atI xs i) k
 | .tup xs=>onI b λi=>oget (L2.atI xs i) k
 | .kls xs=>onI b λi=>oget (L2.atI xs i) k
 | .str z=>onI b λi=>z.length<=sizeLine/\oget (L2.atI z.cps.toList i) λc=>k (.str ⟨#[c]⟩)
 | .dik kvs=>onK b λkey=>oget (valD kvs key) k
 | .dit kvs=>onT b λl=>oget (Zh l) λks=>oget (valD kvs ks) k
 | .fdk kvs=>onK b λkey=>oget (valD kvs key) k
 | _=>False
theorem Qg {α:Type} {o:Option α} {k:α->Prop} (h:oget o k):∃d,o=some d/\k d:=by
 cases o with
 | none=>exact h.elim
 | some d=>exact ⟨d,rfl,h⟩
section
variable {X:Cx}
theorem Qgi {prog:Program} {w:World} {A:Around} {E:Value->Shared->Prop} {s₂:Shared} {value slice:Expr} {o i:Value} {T id:String} {Q:Value->Shared->Prop}
  (hl:typeLookup (.type T) "__getitem__" = pure (some (.builtin id))) (hs:subscripted slice false o i=operate [o,i] (getItem o i)) (hT:s₂.TypeIs o T) (h₂:wpAny (model prog w) A (getItem o i) Q E s₂) :
  wpAny (model prog w) A (subscriptTail value slice o i) Q E s₂:=by
 unfold subscriptTail
 refine wpAny_bind ?_
 rw [getitemInPython_of_ne hT.not_modules]
 refine wpAny_bind (wpAny_specialOf hT hl ?_)
 have fin:wpAny (model prog w) A (subscripted slice false o i) (λr s₃=>wpAny (model prog w) A (letTemporaryGo value o r >>= λ_=>pure r) Q E s₃) E s₂:=by
  rw [hs]
  exact wpAny_operating (wpAny_mono h₂ (λr s₃ h₃=>wpAny_bind (wpAny_letTemporaryGo (wpAny_pure h₃))) λ_ _ x=>x)
 first
  | exact wpAny_pure (wpAny_bind fin)
  | exact wpAny_bind (wpAny_pure (wpAny_bind fin))
  | exact wpAny_bind fin
theorem Qc0 (hu:X.A.units+1<cLine):IxR X (λx y H Q=>∃a v,x=.ref a/\DGet H a y (some v)/\Q v H):=by
 intro value slice pins s σ H x y v u Q I rx ry h hs
 obtain ⟨a,z,rfl,g,q⟩:=h
 cases rx
 exact Qgi PySem.F.slot_dict_getitem.lookup hs (Qc8 I g) (Qic hu I g ry λw' s3 I3 rw'=>⟨z,H,I3,rw',q⟩)
def IxD (X:Cx) (g:G2):Prop :=
 ∃r,IxR X r/\∀(H:Hp) (a b:D) (x y:V) (F1 F2:List Addr) (k:D->Prop) (Q:VK),Rep X.K H a x F1->Rep X.K H b y F2->g a b k ->
  (∀v d F,Rep X.K H d v F->F.Sublist F1->k d->Q v H)->r x y H Q
theorem Ju (hu:X.A.units+1<cLine):IxD X dIx:=by
 refine ⟨_,IxR.or Qqk (Qc0 hu),λH a b x y F1 F2 k Q ra rb g q=>?_⟩
 cases a with
 | str z =>
  obtain ⟨i,rfl,hz,g⟩:=Gm g
  obtain ⟨c,e,g⟩:=Qg g
  exact .inl (.inr (.inr ⟨_,_,c,ra.iStr,rb.iInt,hz,e,q _ _ _ (.str _) (List.nil_sublist _) g⟩))
 | tup ds =>
  obtain ⟨i,rfl,g⟩:=Gm g
  obtain ⟨a,xs,rfl,e,r⟩:=ra.iTup
  obtain ⟨d,h,g⟩:=Qg g
  obtain ⟨v,B,h1,h2,h3⟩:=r.atI h
  exact .inl (.inr (.inl ⟨a,xs,i,v,rfl,rb.iInt,.of e,h1,q _ _ _ h2 h3 g⟩))
 | lst ds =>
  obtain ⟨i,rfl,g⟩:=Gm g
  obtain ⟨a,xs,G,rfl,rfl,e,r⟩:=ra.iLst
  obtain ⟨d,h,g⟩:=Qg g
  obtain ⟨v,B,h1,h2,h3⟩:=r.atI h
  exact .inl (.inl ⟨a,xs,i,v,rfl,rb.iInt,.of e,h1,q _ _ _ h2 (h3.trans (List.sublist_cons_self _ _)) g⟩)
 | dik ds =>
  obtain ⟨key,g,hy⟩:=Qct (show onK b (λkey=>oget (valD ds key) k) from g)
  obtain ⟨a,kvs,G,rfl,rfl,e,r⟩:=ra.iDik
  obtain rfl:=hy rb
  obtain ⟨d,h,g⟩:=Qg g
  rcases r.val key with ⟨z,_⟩ | ⟨d',v,B,h1,h2,h3,h4⟩
  ·rw [h] at z;cases z
  ·rw [h] at h1;cases h1
   exact .inr ⟨a,v,rfl,h2 ▸ DGet.k (k:=key) e,q _ _ _ h3 (h4.trans (List.sublist_cons_self _ _)) g⟩
 | dit ds =>
  obtain ⟨l,rfl,g⟩:=Qha g
  obtain ⟨a,kvs,G,rfl,rfl,e,r⟩:=ra.iDit
  obtain ⟨b,xs,rfl,e2,r2⟩:=rb.iTup
  obtain ⟨ks,hk,g⟩:=Qg g
  obtain ⟨d,h,g⟩:=Qg g
  have hx:=r2.keys hk
  subst hx
  rcases r.val ks with ⟨z,_⟩ | ⟨d',v,B,h1,h2,h3,h4⟩
  ·rw [h] at z;cases z
  ·rw [h] at h1;cases h1
   exact .inr ⟨a,v,rfl,h2 ▸ DGet.t (k:=ks) e e2,q _ _ _ h3 (h4.trans (List.sublist_cons_self _ _)) g⟩
 | kls ds =>
  obtain ⟨i,rfl,g⟩:=Gm g
  obtain ⟨a,xs,rfl,rfl,e,r⟩:=ra.iKls
  obtain ⟨d,h,g⟩:=Qg g
  obtain ⟨v,B,h1,h2,h3⟩:=r.atI h
  exact .inl (.inl ⟨a,xs,i,v,rfl,rb.iInt,e.sq,h1,q _ _ _ h2 h3 g⟩)
 | fdk ds =>
  obtain ⟨key,g,hy⟩:=Qct (show onK b (λkey=>oget (valD ds key) k) from g)
  obtain ⟨a,ob,kvs,rfl,e,r⟩:=ra.iFdk
  obtain rfl:=hy rb
  obtain ⟨d,h,g⟩:=Qg g
  rcases r.val key with ⟨z,_⟩ | ⟨d',v,B,h1,h2,h3,h4⟩
  ·rw [h] at z;cases z
  ·rw [h] at h1;cases h1
   exact .inr ⟨a,v,rfl,.inl ⟨kvs,key,.inr ⟨ob,e⟩,rfl,h2.symm⟩,q _ _ _ h3 h4 g⟩
 | _=>exact (show False from g).elim
variable {T:Tg} {m o m1 m2 m3 o1 o2:Bool} {e a b:Expr} {w wa wb:WE} {pos p2:Pos}
theorem Jw {g:G2} (hg:IxD X g) (ha:EV X T m1 o1 a wa) (hb:EV X T m2 o2 b wb) (hc:o1=true\/m2=false:=by first | exact .inl rfl | exact .inr rfl) (hs:Qay b:=by intro _ _;rfl) :
  EV X T (m1 || m2) o1 (.Subscript a b pos) (wBin g wa wb):=by
 obtain ⟨r,ro,gr⟩:=hg
 obtain ⟨ta,pa,ga⟩:=ha
 obtain ⟨tb,pb,gb⟩:=hb
 refine ⟨_,Qmw ro pa pb hs,λz R σ H W ρ Q Q' s hw k=>?_⟩
 refine two ga gb hc s hw λx y H2 W2 d1 d2 ρ2 F1 F2 s2 f2 c2 r1 r2 o1 _ _ q2=>?_
 exact gr H2 d1 d2 x y F1 F2 _ Q' r1 r2 q2 λv d F rd sub hk=>k v H2 W2 d ρ2 F ⟨s2,f2,c2,rd,λh=>⟨(o1 h).1.sublist sub,λa m=>(o1 h).2 a (sub.subset m)⟩⟩ hk
def inD:D->List D->Option Bool
 | .int i,[]=>some false
 | .int i,.int j::r=>(inD (.int i) r).map λb=>(j == i) || b
 | .str i,[]=>some false
 | .str i,.str j::r=>(inD (.str i) r).map λb=>(j == i) || b
 | _,_=>none
def dIn (neg:Bool):G2
 | .int i,.dik kvs,k=>k (.bl (xor neg (valD kvs (.inl i)).isSome))
 | .str i,.dik kvs,k=>k (.bl (xor neg (valD kvs (.inr i)).isSome))
 | .tup l,.dit kvs,k=>oget (Zh l) λks=>k (.bl (xor neg (valD kvs ks).isSome))
 | .int i,.lst xs,k=>oget (inD (.int i) xs) λb=>k (.bl (xor neg b))
 | .int i,.tup xs,k=>oget (inD (.int i) xs) λb=>k (.bl (xor neg b))
 | .str i,.lst xs,k=>oget (inD (.str i) xs) λb=>k (.bl (xor neg b))
 | .str i,.tup xs,k=>oget (inD (.str i) xs) λb=>k (.bl (xor neg b))
 | .str i,.str j,k=>k (.bl (xor neg (!(Builtin.Str.occurrences j i 0 j.length 1).isEmpty)))
 | _,_,_=>False
theorem Qc5 {K:PySem.W.Frag} {H:Hp} {i:Int}:∀{ds:List D} {xs:List V} {F:List Addr} {b:Bool},Reps K H ds xs F->inD (.int i) ds=some b->xs.all Xb=true/\inV (.int i) xs=b
 | [],_,_,_,r,h=>by
  cases r
  simp only [inD,Option.some.injEq] at h
  subst h
  exact ⟨rfl,rfl⟩
 | d::ds,_,_,_,r,h=>by
  cases r with
  | cons p r =>
   cases d with
   | int j =>
    simp only [inD,Option.map_eq_some_iff] at h
    obtain ⟨b',h1,rfl⟩:=h
    cases p
    obtain ⟨e1,e2⟩:=Qc5 r h1
    refine ⟨by rw [List.all_cons,e1];rfl,?_⟩
    unfold inV at e2 ⊢
    rw [List.any_cons,e2]
    rfl
   | _=>simp [inD] at h
theorem Qhv {K:PySem.W.Frag} {H:Hp} {i:Str}:∀{ds:List D} {xs:List V} {F:List Addr} {b:Bool},Reps K H ds xs F->inD (.str i) ds=some b->xs.all Xb=true/\inV (.str i) xs=b
 | [],_,_,_,r,h=>by
  cases r
  simp only [inD,Option.some.injEq] at h
  subst h
  exact ⟨rfl,rfl⟩
 | d::ds,_,_,_,r,h=>by
  cases r with
  | cons p r =>
   cases d with
   | str j =>
    simp only [inD,Option.map_eq_some_iff] at h
    obtain ⟨b',h1,rfl⟩:=h
    cases p
    obtain ⟨e1,e2⟩:=Qhv r h1
    refine ⟨by rw [List.all_cons,e1];rfl,?_⟩
    unfold inV at e2 ⊢
    rw [List.any_cons,e2]
    rfl
   | _=>simp [inD] at h
theorem Qm5 (neg:Bool) (hu:X.A.units+1<cLine):OpR X (compareOp (if neg then .NotIn else .In)) (λy x H Q=>∃a o,x=.ref a/\DGet H a y o/\Q (.bl (xor neg o.isSome)) H):=by
 intro pins s σ H y x u v Q I ry rx h
 obtain ⟨a,ov,rfl,g,q⟩:=h
 cases rx
 cases neg with
 | false=>exact d_in hu I g ry λs3 I3=>⟨.bl ov.isSome,H,I3,rfl,by simpa using q⟩
 | true=>exact Qnw hu I g ry λs3 I3=>⟨.bl (!ov.isSome),H,I3,rfl,by simpa using q⟩
theorem Qd6 (neg:Bool):OpR X (compareOp (if neg then .NotIn else .In)) (rIn X.K neg):=by
 cases neg with
 | false=>exact Qg9
 | true=>exact Qbk
theorem Qjn (neg:Bool):OpR X (compareOp (if neg then .NotIn else .In)) (λx y H Q=>∃i j,x=.str i/\y=.str j/\Q (.bl (xor neg (!(Builtin.Str.occurrences j i 0 j.length 1).isEmpty))) H):=by
 cases neg with
 | false=>simpa using Qg8 (X:=X)
 | true=>simpa using Qbj (X:=X)
theorem Qbd {H:Hp} {a:Addr} {kvs:List (Key × V)} {ds:List (Key × D)} {F:List Addr} {k:Key} (e:H a=some (.dK kvs)) (r:RepK X.K H ds kvs F):∃o,DGet H a (kV k) o/\o.isSome=(valD ds k).isSome:=by
 refine ⟨_,DGet.k (k:=k) e,?_⟩
 rcases r.val k with ⟨h1,h2⟩ | ⟨d,v,B,h1,h2,_⟩ <;> simp [h1,h2]
theorem Qnz {neg:Bool} {a b:D} {k:D->Prop} (g:dIn neg a b k):(∃i z,a=.int i/\b=.tup z)\/(∃i z,a=.int i/\b=.lst z)\/(∃i z,a=.int i/\b=.dik z)\/(∃i z,a=.str i/\b=.str z)\/(∃i z,a=.str i/\b=.tup z)\/(∃i z,a=.str i/\b=.lst z)\/(∃i z,a=.str i/\b=.dik z)\/∃i z,a=.tup i/\b=.dit z:=by
 cases a with
 | int i=>cases b with
  | tup z=>exact .inl ⟨i,z,rfl,rfl⟩
  | lst z=>exact .inr (.inl ⟨i,z,rfl,rfl⟩)
  | dik z=>exact .inr (.inr (.inl ⟨i,z,rfl,rfl⟩))
  | _=>exact (show False from g).elim
 | str i=>cases b with
  | str z=>exact .inr (.inr (.inr (.inl ⟨i,z,rfl,rfl⟩)))
  | tup z=>exact .inr (.inr (.inr (.inr (.inl ⟨i,z,rfl,rfl⟩))))
  | lst z=>exact .inr (.inr (.inr (.inr (.inr (.inl ⟨i,z,rfl,rfl⟩)))))
  | dik z=>exact .inr (.inr (.inr (.inr (.inr (.inr (.inl ⟨i,z,rfl,rfl⟩))))))
  | _=>exact (show False from g).elim
 | tup i=>cases b with
  | dit z=>exact .inr (.inr (.inr (.inr (.inr (.inr (.inr ⟨i,z,rfl,rfl⟩))))))
  | _=>exact (show False from g).elim
 | _=>exact (show False from g).elim
theorem Qpo (neg:Bool) (hu:X.A.units+1<cLine):OpD X (compareOp (if neg then .NotIn else .In)) (dIn neg):=by
 refine ⟨_,OpR.or (Qm5 neg hu) (OpR.or (Qd6 neg) (Qjn neg)),λH a b x y F1 F2 k Q ra rb g q=>?_⟩
 have seqI:∀{i:Int} {p:Addr} {ds:List D} {xs:List V} {F:List Addr},x=.int i->y=.ref p->Reps X.K H ds xs F->(SqL X.K H p xs\/SqT X.K H p xs)->oget (inD (.int i) ds) (λb=>k (.bl (xor neg b)))->rIn X.K neg x y H Q:=λ{i p ds xs F} ex ey r hs g=>by
  subst ex ey
  obtain ⟨b,h,g⟩:=Qg g
  obtain ⟨e1,e2⟩:=Qc5 r h
  refine ⟨p,xs,rfl,hs,rfl,e1,?_⟩
  rw [e2]
  have:=q _ _ _ _ (.flat (.bl _)) g
  cases neg <;> simpa using this
 have seqS:∀{i:Str} {p:Addr} {ds:List D} {xs:List V} {F:List Addr},x=.str i->y=.ref p->Reps X.K H ds xs F->(SqL X.K H p xs\/SqT X.K H p xs)->oget (inD (.str i) ds) (λb=>k (.bl (xor neg b)))->rIn X.K neg x y H Q:=λ{i p ds xs F} ex ey r hs g=>by
  subst ex ey
  obtain ⟨b,h,g⟩:=Qg g
  obtain ⟨e1,e2⟩:=Qhv r h
  refine ⟨p,xs,rfl,hs,rfl,e1,?_⟩
  rw [e2]
  have:=q _ _ _ _ (.flat (.bl _)) g
  cases neg <;> simpa using this
 rcases Qnz g with ⟨i,z,rfl,rfl⟩ | ⟨i,z,rfl,rfl⟩ | ⟨i,ds,rfl,rfl⟩ | ⟨i,z,rfl,rfl⟩ | ⟨i,z,rfl,rfl⟩ | ⟨i,z,rfl,rfl⟩ | ⟨i,ds,rfl,rfl⟩ | ⟨l,ds,rfl,rfl⟩
 ·obtain ⟨p,xs,ey,e,r⟩:=rb.iTup
  exact .inr (.inl (seqI ra.iInt ey r (.inr (.of e)) g))
 ·obtain ⟨p,xs,G,ey,_,e,r⟩:=rb.iLst
  exact .inr (.inl (seqI ra.iInt ey r (.inl (.of e)) g))
 ·obtain ⟨a,kvs,G,rfl,_,e,r⟩:=rb.iDik
  obtain rfl:=ra.iInt
  obtain ⟨o,h1,h2⟩:=Qbd (k:=.inl i) e r
  refine .inl ⟨a,o,rfl,h1,?_⟩
  rw [h2]
  exact q _ _ _ _ (.flat (.bl _)) g
 ·exact .inr (.inr ⟨_,_,ra.iStr,rb.iStr,q _ _ _ _ (.flat (.bl _)) g⟩)
 ·obtain ⟨p,xs,ey,e,r⟩:=rb.iTup
  exact .inr (.inl (seqS ra.iStr ey r (.inr (.of e)) g))
 ·obtain ⟨p,xs,G,ey,_,e,r⟩:=rb.iLst
  exact .inr (.inl (seqS ra.iStr ey r (.inl (.of e)) g))
 ·obtain ⟨a,kvs,G,rfl,_,e,r⟩:=rb.iDik
  obtain rfl:=ra.iStr
  obtain ⟨o,h1,h2⟩:=Qbd (k:=.inr i) e r
  refine .inl ⟨a,o,rfl,h1,?_⟩
  rw [h2]
  exact q _ _ _ _ (.flat (.bl _)) g
 ·obtain ⟨b,xs,rfl,e2,r2⟩:=ra.iTup
  obtain ⟨a,kvs,G,rfl,_,e,r⟩:=rb.iDit
  obtain ⟨ks,hk,g⟩:=Qg g
  have hx:=r2.keys hk
  subst hx
  refine .inl ⟨a,valV kvs ks,rfl,DGet.t (k:=ks) e e2,?_⟩
  have h2:(valV kvs ks).isSome=(valD ds ks).isSome:=by
   rcases r.val ks with ⟨h1,h2⟩ | ⟨d,v,B,h1,h2,_⟩ <;> simp [h1,h2]
  rw [h2]
  exact q _ _ _ _ (.flat (.bl _)) g
theorem Qk1 (hu:X.A.units+1<cLine):OpD X (compareOp .NotIn) (dIn true):=Qpo true hu
abbrev WA:=Env->(List D->Env->Prop)->Prop
structure PostA (K:PySem.W.Frag) (T:Tg) (z:Nat->V) (R:Addr->Prop) (m o:Bool) (H:Hp) (W:Addr->Prop) (σ:St) (ρ:Env) (H':Hp) (W':Addr->Prop) (ρ':Env) (ds:List D) (vs:List V) (F:List Addr):Prop where
 sr:SR K T z R H' W' σ ρ'
 fr:FrW H W H' W'
 calm:m=false->Same H H'/\W'=W/\ρ'=ρ
 rep:Reps K H' ds vs F
 own:o=true->F.Nodup/\∀a∈F,H a=none/\¬W' a
def AV (X:Cx) (T:Tg) (m o:Bool) (es:List Expr) (w:WA):Prop :=
 ∃ta,PA X es ta/\∀(z:Nat->V) (R:Addr->Prop) (σ:St) (H:Hp) (W:Addr->Prop) (ρ:Env) (Q:List D->Env->Prop) (Q':List V->Hp->Prop),SR X.K T z R H W σ ρ->w ρ Q ->
  (∀vs H' W' ds ρ' F,PostA X.K T z R m o H W σ ρ H' W' ρ' ds vs F->Q ds ρ'->Q' vs H')->ta σ H Q'
variable {es:List Expr} {wr:WA}
def wNil:WA:=λρ Q=>Q [] ρ
def Qe (w:WE) (wr:WA):WA:=λρ Q=>w ρ λd ρ1=>wr ρ1 λds ρ2=>Q (d::ds) ρ2
theorem Qj:AV X T false true [] wNil:=⟨_,Us,λz R σ H W ρ Q Q' s hw k=>k [] H W [] ρ [] ⟨s,FrW.refl H W,λ_=>⟨Same.refl H,rfl,rfl⟩,.nil,λ_=>⟨List.nodup_nil,λa m=>nomatch m⟩⟩ hw⟩
theorem Qc (he:EV X T m1 o1 e w) (hr:AV X T m2 o2 es wr) (hc:o1=true\/m2=false:=by first | exact .inl rfl | exact .inr rfl) (hs:starEach (e::es) X.env=(false,eval e X.env)::starEach es X.env:=by rfl) :
  AV X T (m1 || m2) (o1 && o2) (e::es) (Qe w wr):=by
 obtain ⟨te,pe,ge⟩:=he
 obtain ⟨ta,pa,ga⟩:=hr
 refine ⟨_,Yw pe pa hs,λz R σ H W ρ Q Q' s hw k=>?_⟩
 refine ge z R σ H W ρ _ _ s hw λv1 H1 W1 d1 ρ1 F1 p q1=>?_
 refine ga z R σ H1 W1 ρ1 _ _ p.sr q1 λvs H2 W2 ds ρ2 F2 q q2=>?_
 have r1:Rep X.K H2 d1 v1 F1:=by
  rcases hc with hc | hc
  ·exact p.rep.keep q.fr λa h=>((p.own hc).2 a h).2
  ·exact p.rep.same (q.calm hc).1
 refine k (v1::vs) H2 W2 (d1::ds) ρ2 (F1++F2) ⟨q.sr,p.fr.trans q.fr,λh=>?_,.cons r1 q.rep,λh=>?_⟩ q2
 ·rw [Bool.or_eq_false_iff] at h
  obtain ⟨a1,a2,a3⟩:=p.calm h.1
  obtain ⟨b1,b2,b3⟩:=q.calm h.2
  exact ⟨a1.trans b1,b2.trans a2,b3.trans a3⟩
 ·rw [Bool.and_eq_true] at h
  obtain ⟨n1,k1⟩:=p.own h.1
  obtain ⟨n2,k2⟩:=q.own h.2
  refine ⟨List.nodup_append.mpr ⟨n1,n2,λa ma b mb e=>?_⟩,λa ma=>?_⟩
  ·subst e
   obtain ⟨ob,e,_⟩:=p.rep.dom a ma
   rw [(k2 a mb).1] at e;cases e
  ·rcases List.mem_append.mp ma with ma | ma
   ·refine ⟨(k1 a ma).1,λw=>?_⟩
    rcases q.fr.new a w with w | w
    ·exact (k1 a ma).2 w
    ·obtain ⟨ob,e,_⟩:=p.rep.dom a ma
     rw [w] at e;cases e
   ·exact ⟨p.fr.dom a (k2 a ma).1,(k2 a ma).2⟩
def wTup (wr:WA):WE:=λρ Q=>wr ρ λds ρ'=>ds.length<=sizeLine/\Q (.tup ds) ρ'
def wLst (wr:WA):WE:=λρ Q=>wr ρ λds ρ'=>ds.length<=sizeLine/\Q (.lst ds) ρ'
theorem Qh2 {x1} (h:AV X T m o es wr):EV X T m o (.Tuple es x1 pos) (wTup wr):=by
 obtain ⟨ta,pa,ga⟩:=h
 refine ⟨_,Qo5 pa,λz R σ H W ρ Q Q' s hw k=>?_⟩
 refine ga z R σ H W ρ _ _ s hw λvs H1 W1 ds ρ1 F p q=>?_
 obtain ⟨hz,q⟩:=q
 refine ⟨by rw [p.rep.length];exact hz,λa ha=>k _ _ W1 (.tup ds) ρ1 F ⟨p.sr.same (Qi ha),p.fr.trans (FrW.same W1 (Qi ha)),λh=>⟨(p.calm h).1.trans (Qi ha),(p.calm h).2⟩,.tup Qb (p.rep.same (Qi ha)),p.own⟩ q⟩
theorem Yl (h:AV X T m o es wr):EV X T m o (.List es pos) (wLst wr):=by
 obtain ⟨ta,pa,ga⟩:=h
 refine ⟨_,Qk0 pa,λz R σ H W ρ Q Q' s hw k=>?_⟩
 refine ga z R σ H W ρ _ _ s hw λvs H1 W1 ds ρ1 F p q=>?_
 obtain ⟨hz,q⟩:=q
 refine ⟨by rw [p.rep.length];exact hz,λa ha=>k _ _ W1 (.lst ds) ρ1 (a::F) ⟨p.sr.same (Qi ha),p.fr.trans (FrW.same W1 (Qi ha)),λh=>⟨(p.calm h).1.trans (Qi ha),(p.calm h).2⟩,.lst Qb (p.rep.same (Qi ha)),λh=>?_⟩ q⟩
 obtain ⟨n1,k1⟩:=p.own h
 refine ⟨List.nodup_cons.mpr ⟨λm=>?_,n1⟩,λb mb=>?_⟩
 ·obtain ⟨ob,e,_⟩:=p.rep.dom a m
  rw [ha] at e;cases e
 ·rcases List.mem_cons.mp mb with rfl | mb
  ·exact ⟨p.fr.dom _ ha,p.sr.nw ha⟩
  ·exact k1 b mb
theorem Qaj:EV X T false true (.Dict [] [] pos) (wC (.dik [])) :=
 ⟨_,Qjl,λz R σ H W ρ Q Q' s hw k a ha=>k _ _ W (.dik []) ρ [a] (Post.fin s (FrW.refl H W) (λ_=>⟨Same.refl H,rfl,rfl⟩) (Qi ha) (.dik Qb .nil) (by simp) (λb m=>by rw [List.mem_singleton.mp m];exact ha)) hw⟩
abbrev GA:=List D->(D->Prop)->Prop
def G6 (X:Cx) (f:Value) (g:GA):Prop :=
 ∃r,Zc X f r/\∀(H:Hp) (ds:List D) (xs:List V) (F:List Addr) (k:D->Prop) (Q:VK),Reps X.K H ds xs F->g ds k->(∀v H' d F',Fin X.K H H' d v F'->k d->Q v H')->r xs H Q
def Qn (g:GA) (wr:WA):WE:=λρ Q=>wr ρ λds ρ'=>g ds λd=>Q d ρ'
variable {x:Str} {id T':String} {p:Pos}
theorem Qey {g:GA} {r:List V->Hp->VK->Prop} (gr:∀(H:Hp) (ds:List D) (xs:List V) (F:List Addr) (k:D->Prop) (Q:VK),Reps X.K H ds xs F->g ds k->(∀v H' d F',Fin X.K H H' d v F'->k d->Q v H')->r xs H Q)
  {ta:TA} (ga:∀(z:Nat->V) (R:Addr->Prop) (σ:St) (H:Hp) (W:Addr->Prop) (ρ:Env) (Q:List D->Env->Prop) (Q':List V->Hp->Prop),SR X.K T z R H W σ ρ->wr ρ Q ->
   (∀vs H' W' ds ρ' F,PostA X.K T z R m o H W σ ρ H' W' ρ' ds vs F->Q ds ρ'->Q' vs H')->ta σ H Q')
  {z:Nat->V} {R:Addr->Prop} {σ:St} {H:Hp} {W:Addr->Prop} {ρ:Env} {Q:D->Env->Prop} {Q':VK} (s:SR X.K T z R H W σ ρ) (hw:Qn g wr ρ Q)
  (k:∀v H' W' d ρ' F,Post X.K T z R m true H W σ ρ H' W' ρ' d v F->Q d ρ'->Q' v H'):ta σ H λvs H1=>r vs H1 Q':=by
 refine ga z R σ H W ρ _ _ s hw λvs H1 W1 ds ρ1 F p q=>?_
 exact gr H1 ds vs F _ Q' p.rep q λv H' d F' fi hk=>k v H' W1 d ρ1 F' (Post.fin p.sr p.fr p.calm fi.same fi.rep fi.nd fi.new) hk
theorem Q3 {g:GA} (hc:G6 X (.builtin id) g) (hm:X.mg x=none) (hv:bootBuiltins x=some (.builtin id)) (ha:AV X T m o (e::es) wr) (hg:Gl X x:=by rfl) (hn:x ≠ "__name__":=by decide) (hdb:(x == ("__debug__" : Str))=false:=by decide)
  (he:starEach (e::es) X.env=(false,eval e X.env)::starEach es X.env:=by rfl) (hpl:(backTo pos (starEach es X.env)).any (·.1)=false:=by rfl):EV X T m true (.Call (.Name x p) (e::es) [] pos) (Qn g wr):=by
 obtain ⟨r,rc,gr⟩:=hc
 obtain ⟨ta,pa,ga⟩:=ha
 exact ⟨_,Qjm rc hg hm hv pa hn hdb he hpl,λz R σ H W ρ Q Q' s hw k=>Qey gr ga s hw k⟩
theorem Y5 {g:GA} (hc:G6 X (.type T') g) (hm:X.mg x=none) (hv:bootBuiltins x=some (.type T')) (ha:AV X T m o (e::es) wr) (hg:Gl X x:=by rfl) (hn:x ≠ "__name__":=by decide) (hdb:(x == ("__debug__" : Str))=false:=by decide)
  (he:starEach (e::es) X.env=(false,eval e X.env)::starEach es X.env:=by rfl) (hpl:(backTo pos (starEach es X.env)).any (·.1)=false:=by rfl):EV X T m true (.Call (.Name x p) (e::es) [] pos) (Qn g wr):=by
 obtain ⟨r,rc,gr⟩:=hc
 obtain ⟨ta,pa,ga⟩:=ha
 exact ⟨_,Qbi rc hg hm hv pa hn hdb he hpl,λz R σ H W ρ Q Q' s hw k=>Qey gr ga s hw k⟩
theorem Qjy (t:Ty) (hm:X.mg x=none) (hv:bootBuiltins x=some (.type t.nm)) (hg:Gl X x:=by rfl) (hn:x ≠ "__name__":=by decide) (hdb:(x == ("__debug__" : Str))=false:=by decide):EV X T false true (.Name x pos) (wC (.ty t)) :=
 U8 (Qm1 hg hm hv (v:=.ty t.nm) rfl hn hdb) λ_=>.ty t
theorem Reps.at1 {K:PySem.W.Frag} {H:Hp} {d:D} {xs:List V} {F:List Addr} (r:Reps K H [d] xs F):∃v,xs=[v]/\Rep K H d v F:=by
 cases r with
 | cons h r=>cases r;rw [List.append_nil];exact ⟨_,rfl,h⟩
theorem Reps.at2 {K:PySem.W.Frag} {H:Hp} {d e:D} {xs:List V} {F:List Addr} (r:Reps K H [d,e] xs F):∃v u F1 F2,xs=[v,u]/\Rep K H d v F1/\Rep K H e u F2:=by
 cases r with
 | cons h r =>
  obtain ⟨u,rfl,h2⟩:=r.at1
  exact ⟨_,_,_,_,rfl,h,h2⟩
def dLen:GA
 | [.lst xs],k=>k (.int xs.length)
 | [.tup xs],k=>k (.int xs.length)
 | [.kls xs],k=>k (.int xs.length)
 | [.dik xs],k=>k (.int xs.length)
 | [.str z],k=>z.length<=sizeLine/\k (.int z.length)
 | _,_=>False
theorem Uv:G6 X (.builtin "len") dLen:=by
 refine ⟨_,Zc.or Qkd Qim,λH ds xs F k Q r g q=>?_⟩
 cases ds with
 | nil=>exact (show False from g).elim
 | cons d ds =>
  cases ds with
  | cons _ _=>cases d <;> exact (show False from g).elim
  | nil =>
   cases d with
   | lst es =>
    obtain ⟨v,rfl,rd⟩:=r.at1
    clear r
    cases rd with
    | lst e r9=>exact .inl ⟨_,_,rfl,.inl ⟨_,.of e,rfl⟩,by rw [r9.length];exact q _ _ _ _ (.flat (.int _)) g⟩
   | tup es =>
    obtain ⟨v,rfl,rd⟩:=r.at1
    clear r
    cases rd with
    | tup e r9=>exact .inl ⟨_,_,rfl,.inr ⟨_,.of e,rfl⟩,by rw [r9.length];exact q _ _ _ _ (.flat (.int _)) g⟩
   | kls es =>
    obtain ⟨v,rfl,rd⟩:=r.at1
    clear r
    cases rd with
    | kls e r9=>exact .inl ⟨_,_,rfl,.inl ⟨_,e.sq,rfl⟩,by rw [r9.length];exact q _ _ _ _ (.flat (.int _)) g⟩
   | dik es =>
    obtain ⟨v,rfl,rd⟩:=r.at1
    clear r
    cases rd with
    | dik e r9=>exact .inr ⟨_,_,rfl,e,by rw [r9.length];exact q _ _ _ _ (.flat (.int _)) g⟩
   | str es =>
    obtain ⟨v,rfl,rd⟩:=r.at1
    clear r
    cases rd
    exact .inl ⟨_,_,rfl,⟨g.1,rfl⟩,q _ _ _ _ (.flat (.int _)) g.2⟩
   | _=>exact (show False from g).elim
def dInt:GA
 | [.int i],k=>k (.int i)
 | [.bl b],k=>k (.int (if b then 1 else 0))
 | _,_=>False
theorem Qqy:G6 X (.type "int") dInt:=by
 refine ⟨_,Qin,λH ds xs F k Q r g q=>?_⟩
 cases ds with
 | nil=>exact (show False from g).elim
 | cons d ds =>
  cases ds with
  | cons _ _=>cases d <;> exact (show False from g).elim
  | nil =>
   cases d with
   | int i =>
    obtain ⟨v,rfl,rd⟩:=r.at1
    cases rd
    exact .inl ⟨_,rfl,q _ _ _ _ (.flat (.int _)) g⟩
   | bl i =>
    obtain ⟨v,rfl,rd⟩:=r.at1
    cases rd
    exact .inr ⟨_,rfl,q _ _ _ _ (.flat (.int _)) g⟩
   | _=>exact (show False from g).elim
def Qny:GA
 | [.int i,.int j],k=>k (.int (if j<i then j else i))
 | _,_=>False
theorem Qn3 (hc:X.calm=true):G6 X (.builtin "min") Qny:=by
 refine ⟨_,Qil hc,λH ds xs F k Q r g q=>?_⟩
 cases ds with
 | nil=>exact (show False from g).elim
 | cons d ds =>
  cases ds with
  | nil=>cases d <;> exact (show False from g).elim
  | cons d2 ds =>
   cases d with
   | int i =>
    cases d2 with
    | int j =>
     cases ds with
     | nil =>
      obtain ⟨v,u,F1,F2,rfl,r1,r2⟩:=r.at2
      cases r1;cases r2
      exact ⟨_,_,rfl,q _ _ _ _ (.flat (.int _)) g⟩
     | cons _ _=>exact (show False from g).elim
    | _=>exact (show False from g).elim
   | _=>exact (show False from g).elim
def Qie:GA
 | [.lst xs],k=>Qm xs=true/\k (.lst xs)
 | [.tup xs],k=>Qm xs=true/\k (.lst xs)
 | [.kls xs],k=>Qm xs=true/\k (.lst xs)
 | _,_=>False
theorem Qik:G6 X (.type "list") Qie:=by
 refine ⟨_,Qb3,λH ds xs F k Q r g q=>?_⟩
 cases ds with
 | nil=>exact (show False from g).elim
 | cons d ds =>
  cases ds with
  | cons _ _=>cases d <;> exact (show False from g).elim
  | nil =>
   cases d with
   | lst es =>
    obtain ⟨v,rfl,rd⟩:=r.at1
    clear r
    cases rd with
    | lst e r9=>exact ⟨_,_,rfl,.inl (.of e),λl hl=>q _ _ _ [l] ⟨Qi hl,.lst Qb ((r9.pure g.1).2.same (Qi hl)),by simp,λb m=>by rw [List.mem_singleton.mp m];exact hl⟩ g.2⟩
   | tup es =>
    obtain ⟨v,rfl,rd⟩:=r.at1
    clear r
    cases rd with
    | tup e r9=>exact ⟨_,_,rfl,.inr (.of e),λl hl=>q _ _ _ [l] ⟨Qi hl,.lst Qb ((r9.pure g.1).2.same (Qi hl)),by simp,λb m=>by rw [List.mem_singleton.mp m];exact hl⟩ g.2⟩
   | kls es =>
    obtain ⟨v,rfl,rd⟩:=r.at1
    clear r
    cases rd with
    | kls e r9=>exact ⟨_,_,rfl,.inl e.sq,λl hl=>q _ _ _ [l] ⟨Qi hl,.lst Qb ((r9.pure g.1).2.same (Qi hl)),by simp,λb m=>by rw [List.mem_singleton.mp m];exact hl⟩ g.2⟩
   | _=>exact (show False from g).elim
def Qbz:GA
 | [.lst xs],k=>Qm xs=true/\k (.tup xs)
 | [.tup xs],k=>Qm xs=true/\k (.tup xs)
 | [.kls xs],k=>Qm xs=true/\k (.tup xs)
 | _,_=>False
theorem Qaq:G6 X (.type "tuple") Qbz:=by
 refine ⟨_,Qar,λH ds xs F k Q r g q=>?_⟩
 cases ds with
 | nil=>exact (show False from g).elim
 | cons d ds =>
  cases ds with
  | cons _ _=>cases d <;> exact (show False from g).elim
  | nil =>
   cases d with
   | lst es =>
    obtain ⟨v,rfl,rd⟩:=r.at1
    clear r
    cases rd with
    | lst e r9=>exact ⟨_,_,rfl,.inl ⟨.of e,λl hl=>q _ _ _ [] ⟨Qi hl,.tup Qb ((r9.pure g.1).2.same (Qi hl)),by simp,λb m=>nomatch m⟩ g.2⟩⟩
   | tup es =>
    obtain ⟨v,rfl,rd⟩:=r.at1
    clear r
    cases rd with
    | tup e r9=>exact ⟨_,_,rfl,.inr ⟨.of e,q _ _ _ _ (.flat (.tup e (r9.pure g.1).2)) g.2⟩⟩
   | kls es =>
    obtain ⟨v,rfl,rd⟩:=r.at1
    clear r
    cases rd with
    | kls e r9=>exact ⟨_,_,rfl,.inl ⟨e.sq,λl hl=>q _ _ _ [] ⟨Qi hl,.tup Qb ((r9.pure g.1).2.same (Qi hl)),by simp,λb m=>nomatch m⟩ g.2⟩⟩
   | _=>exact (show False from g).elim
end
end PV
namespace PV
open PySem PySem.Spec L2
section
variable {X:Cx} {T:Tg} {m o m1 m2 m3 o1 o2:Bool} {e a b:Expr} {w wa wb:WE} {pos p2 p:Pos} {es:List Expr} {wr:WA} {x:Str}
def isiD:D->Ty->Option Bool
 | .non,_=>some false
 | .bl _,t=>some (t == .bool || t == .int)
 | .int _,t=>some (t == .int)
 | .str _,t=>some (t == .str)
 | .tup _,t=>some (t == .tuple)
 | .lst _,t=>some (t == .list)
 | .dik _,t=>some (t == .dict)
 | .dit _,t=>some (t == .dict)
 | .kls _,_=>none
 | .ty _,_=>none
 | .fdk _,_=>none
 | .ftp _,_=>none
 | .fls _,t=>some (t == .list)
 | .fdt _,_=>none
 | .obj _ _,_=>none
 | .clo _ _,_=>none
 | .kc _,_=>none
def dIsi:GA
 | [d,.ty t],k=>oget (isiD d t) λb=>k (.bl b)
 | _,_=>False
theorem Qqa {K:PySem.W.Frag} (t:Ty):PySem.W.kitOne K (.type "NoneType") (.type t.nm)=some false:=by
 cases t <;> (unfold PySem.W.kitOne;rw [if_neg (by decide)];rfl)
theorem Qqc {K:PySem.W.Frag} (t:Ty):PySem.W.kitOne K (.type "bool") (.type t.nm)=some (t == .bool || t == .int):=by
 cases t <;> first | (unfold PySem.W.kitOne;rw [if_pos (by decide)];rfl) | (unfold PySem.W.kitOne;rw [if_neg (by decide)];rfl)
theorem Qqb {K:PySem.W.Frag} (t:Ty):PySem.W.kitOne K (.type "int") (.type t.nm)=some (t == .int):=by
 cases t <;> first | (unfold PySem.W.kitOne;rw [if_pos (by decide)];rfl) | (unfold PySem.W.kitOne;rw [if_neg (by decide)];rfl)
theorem Qp9 {K:PySem.W.Frag} (t:Ty):PySem.W.kitOne K (.type "str") (.type t.nm)=some (t == .str):=by
 cases t <;> first | (unfold PySem.W.kitOne;rw [if_pos (by decide)];rfl) | (unfold PySem.W.kitOne;rw [if_neg (by decide)];rfl)
theorem Qp8 {K:PySem.W.Frag} (t:Ty):PySem.W.kitOne K (.type "tuple") (.type t.nm)=some (t == .tuple):=by
 cases t <;> first | (unfold PySem.W.kitOne;rw [if_pos (by decide)];rfl) | (unfold PySem.W.kitOne;rw [if_neg (by decide)];rfl)
theorem Qk7 {K:PySem.W.Frag} (t:Ty):PySem.W.kitOne K (.type "list") (.type t.nm)=some (t == .list):=by
 cases t <;> first | (unfold PySem.W.kitOne;rw [if_pos (by decide)];rfl) | (unfold PySem.W.kitOne;rw [if_neg (by decide)];rfl)
theorem Qk8 {K:PySem.W.Frag} (t:Ty):PySem.W.kitOne K (.type "dict") (.type t.nm)=some (t == .dict):=by
 cases t <;> first | (unfold PySem.W.kitOne;rw [if_pos (by decide)];rfl) | (unfold PySem.W.kitOne;rw [if_neg (by decide)];rfl)
theorem Qex:G6 X (.builtin "isinstance") dIsi:=by
 refine ⟨_,Qdc,λH ds xs F k Q r g q=>?_⟩
 match ds,r,g with
 | [d,.ty t],r,g =>
  obtain ⟨v,u,F1,F2,rfl,r1,r2⟩:=r.at2
  obtain ⟨b,hb,g⟩:=Qg g
  cases r2
  have fin:=q _ _ _ _ (.flat (.bl b)) g
  cases r1 with
  | non=>exact ⟨_,_,_,_,rfl,.non,Qqa t,by cases hb;exact fin⟩
  | bl c=>exact ⟨_,_,_,_,rfl,.bl c,Qqc t,by cases hb;exact fin⟩
  | int c=>exact ⟨_,_,_,_,rfl,.int c,Qqb t,by cases hb;exact fin⟩
  | str c=>exact ⟨_,_,_,_,rfl,.str c,Qp9 t,by cases hb;exact fin⟩
  | tup e _=>exact ⟨_,_,_,_,rfl,.tup e,Qp8 t,by cases hb;exact fin⟩
  | lst e _=>exact ⟨_,_,_,_,rfl,.lst e,Qk7 t,by cases hb;exact fin⟩
  | dik e _=>exact ⟨_,_,_,_,rfl,.dK e,Qk8 t,by cases hb;exact fin⟩
  | dit e _=>exact ⟨_,_,_,_,rfl,.dT e,Qk8 t,by cases hb;exact fin⟩
  | kls _ _=>cases hb
  | ty _=>cases hb
  | fdk _ _=>cases hb
  | ftp _ _ _=>cases hb
  | fls e _=>exact ⟨_,_,_,_,rfl,.frz e,Qk7 t,by cases hb;exact fin⟩
  | fdt _ _=>cases hb
  | obj _ _ _=>cases hb
  | clo _ _=>cases hb
  | kc _=>cases hb
theorem SR0.write {K:PySem.W.Frag} {z:Nat->V} {R:Addr->Prop} {H H':Hp} {W:Addr->Prop} {σ:St} {ρ:Env} {fp:Nat->List Addr} {i:Nat} {d d':D} {v:V} {l:Addr} {F':List Addr} (s:SR0 K T z R H W σ ρ fp)
  (hl:look ρ i=some d) (ht:T.own i=true) (hv:σ[i]? = some (some v)) (hm:l∈fp i) (hk:∀b u,H b=some u->b≠l->H' b=some u) (hnew:∃ob,H' l=some ob/\imm ob=false) (r:Rep K H' d' v F') (nd:F'.Nodup)
  (sub:∀a∈F',a∈fp i\/(¬W a/\¬R a)):SR K T z R H' (λa=>W a\/a∈F') σ (ρ.set i (some d')):=by
 have hW:W l:=(s.own i d hl ht).2 l hm
 have hi:ImmK H H':=λb ob' e im=>by
  obtain ⟨ol,e1,e2⟩:=s.wd l hW
  have:b≠l:=λz=>by rw [z,e1] at e;cases e;rw [e2] at im;cases im
  exact hk b _ e this
 refine ⟨λj=>if j=i then F' else fp j,?_,?_,?_,?_,?_,?_,?_,?_,s.fix⟩
 ·rw [List.length_set];exact s.len
 ·intro a ha
  by_cases e:a=l
  ·subst e;exact hnew
  ·rcases ha with ha | ha
   ·exact (s.wd a ha).imp λob q=>⟨hk a ob q.1 e,q.2⟩
   ·exact r.dom a ha
 ·intro j e hj
  by_cases hji:j=i
  ·subst hji
   rw [Ye (Ve hl)] at hj
   cases hj
   exact ⟨v,hv,by rw [if_pos rfl];exact r⟩
  ·rw [Qp hji] at hj
   obtain ⟨u,h1,h2⟩:=s.at_ j e hj
   refine ⟨u,h1,?_⟩
   rw [if_neg hji]
   refine h2.frame hi λa ha=>?_
   obtain ⟨oa,e1,_⟩:=h2.dom a ha
   rw [e1]
   refine hk a _ e1 λz=>?_
   subst z
   cases hto:T.own j with
   | true=>exact s.dis i j d e hl hj ht hto (λz=>hji z.symm) _ hm ha
   | false=>exact s.wr _ hW (s.ro j e hj hto _ ha)
 ·intro j e hj hto
  by_cases hji:j=i
  ·subst hji;simp only [if_pos];exact ⟨nd,λa h=>.inr h⟩
  ·rw [Qp hji] at hj
   simp only [if_neg hji]
   exact ⟨(s.own j e hj hto).1,λa h=>.inl ((s.own j e hj hto).2 a h)⟩
 ·intro j e hj hto
  have hji:j≠i:=λz=>by subst z;rw [ht] at hto;cases hto
  rw [Qp hji] at hj
  simp only [if_neg hji]
  exact s.ro j e hj hto
 ·intro a ha hr
  rcases ha with ha | ha
  ·exact s.wr a ha hr
  ·rcases sub a ha with h | h
   ·exact s.wr a ((s.own i d hl ht).2 a h) hr
   ·exact h.2 hr
 ·intro a hr
  have:a≠l:=λz=>by subst z;exact s.wr _ hW hr
  exact (s.rd a hr).imp λob q=>⟨hk a ob q.1 this,q.2⟩
 ·intro j k e e' hj hk tj tk hne a ha ha'
  by_cases hji:j=i
  ·subst hji
   have hkj:k≠j:=λz=>hne z.symm
   rw [Qp hkj] at hk
   simp only [if_pos,if_neg hkj] at ha ha'
   rcases sub a ha with h | h
   ·exact s.dis j k d e' hl hk ht tk hne a h ha'
   ·exact h.1 ((s.own k e' hk tk).2 a ha')
  ·rw [Qp hji] at hj
   simp only [if_neg hji] at ha
   by_cases hki:k=i
   ·subst hki
    simp only [if_pos] at ha'
    rcases sub a ha' with h | h
    ·exact s.dis j k e d hj hl tj ht hne a ha h
    ·exact h.1 ((s.own j e hj tj).2 a ha)
   ·rw [Qp hki] at hk
    simp only [if_neg hki] at ha'
    exact s.dis j k e e' hj hk tj tk hne a ha ha'
theorem FrW.write {H0 H H':Hp} {W0 W:Addr->Prop} {l:Addr} {F':List Addr} (f:FrW H0 W0 H W) (hl:W l) (hm:∃ol,H l=some ol/\PV.imm ol=false) (hk:∀b u,H b=some u->b≠l->H' b=some u) (hnew:∃ob,H' l=some ob/\PV.imm ob=false)
  (sub:∀a∈F',W a\/H0 a=none):FrW H0 W0 H' (λa=>W a\/a∈F') where
 keep:=λb ob' e n=>by
  have:b≠l:=λz=>by
   subst z
   rcases f.new _ hl with h | h
   ·exact n h
   ·rw [h] at e;cases e
  exact hk b _ (f.keep b ob' e n) this
 dom:=λb e=>by
  by_cases h:b=l
  ·subst h
   obtain ⟨ob,e1,_⟩:=hnew
   rw [e1] at e;cases e
  ·refine f.dom b ?_
   cases q:H b with
   | none=>rfl
   | some u=>rw [hk b u q h] at e;cases e
 imm:=λb ob' e im=>by
  have e':=f.imm b ob' e im
  obtain ⟨ol,e1,e2⟩:=hm
  have:b≠l:=λz=>by rw [z,e1] at e';cases e';rw [e2] at im;cases im
  exact hk b _ e' this
 new:=λb h=>by
  rcases h with h | h
  ·exact f.new b h
  ·rcases sub b h with h | h
   ·exact f.new b h
   ·exact .inr h
theorem Q8 {H:Hp} {l:Addr} {ob:HO}:∀b u,H b=some u->b≠l->upd H l ob b=some u:=λb u e n=>by rw [Qk n];exact e
abbrev GM:=D->List D->(D->D->Prop)->Prop
def MtD (X:Cx) (id:String) (g:GM):Prop :=
 ∃r,MtR X id r/\∀(H:Hp) (d:D) (ds:List D) (v:V) (xs:List V) (F G:List Addr) (k:D->D->Prop) (Q:VK),Rep X.K H d v F->F.Nodup->Reps X.K H ds xs G->G.Nodup->(∀a∈G,a∉F)->g d ds k ->
  (∀u l ob e d' F',l∈F->imm ob=false->Rep X.K (upd H l ob) d' v F'->F'.Nodup->(∀a∈F',a∈F\/a∈G)->Rep X.K (upd H l ob) e u []->k e d'->Q u (upd H l ob))->r v xs H Q
def tyD:Option D->String->Bool
 | some (.lst _),t=>t == "list"
 | some (.dik _),t=>t == "dict"
 | some (.dit _),t=>t == "dict"
 | _,_=>false
theorem Qkl {K:PySem.W.Frag} {H:Hp} {d:D} {v:V} {F:List Addr} {t:String} (r:Rep K H d v F) (h:tyD (some d) t=true):tyV K t v H:=by
 cases r <;> try (simp [tyD] at h)
 ·subst h;exact .inl ⟨rfl,_,.of ‹_›⟩
 ·subst h;exact .inr (.inr (.inl ⟨rfl,.inl ⟨_,‹_›⟩⟩))
 ·subst h;exact .inr (.inr (.inl ⟨rfl,.inr ⟨_,‹_›⟩⟩))
def wMt (i:Nat) (t:String) (g:GM) (wr:WA):WE:=λρ Q=>tyD (look ρ i) t=true/\wr ρ λds ρ1=>oget (look ρ1 i) λd=>g d ds λe d'=>Q e (ρ1.set i (some d'))
theorem Qk3 {i:Nat} {t:String} {g:GM} {r:V->List V->Hp->VK->Prop} (ht:T.own i=true)
  (gr:∀(H:Hp) (d:D) (ds:List D) (v:V) (xs:List V) (F G:List Addr) (k:D->D->Prop) (Q:VK),Rep X.K H d v F->F.Nodup->Reps X.K H ds xs G->G.Nodup->(∀a∈G,a∉F)->g d ds k ->
   (∀u l ob e d' F',l∈F->imm ob=false->Rep X.K (upd H l ob) d' v F'->F'.Nodup->(∀a∈F',a∈F\/a∈G)->Rep X.K (upd H l ob) e u []->k e d'->Q u (upd H l ob))->r v xs H Q)
  {ta:TA} (ga:∀(z:Nat->V) (R:Addr->Prop) (σ:St) (H:Hp) (W:Addr->Prop) (ρ:Env) (Q:List D->Env->Prop) (Q':List V->Hp->Prop),SR X.K T z R H W σ ρ->wr ρ Q ->
   (∀vs H' W' ds ρ' F,PostA X.K T z R m true H W σ ρ H' W' ρ' ds vs F->Q ds ρ'->Q' vs H')->ta σ H Q')
  {z:Nat->V} {R:Addr->Prop} {σ:St} {H:Hp} {W:Addr->Prop} {ρ:Env} {Q:D->Env->Prop} {Q':VK} (s:SR X.K T z R H W σ ρ) (hw:wMt i t g wr ρ Q)
  (k:∀v H' W' d ρ' F,Post X.K T z R true true H W σ ρ H' W' ρ' d v F->Q d ρ'->Q' v H'):tVar i σ H λx H1=>tyV X.K t x H1/\ta σ H1 λxs H2=>r x xs H2 Q':=by
 obtain ⟨hty,hw⟩:=hw
 obtain ⟨fp0,s0⟩:=id s
 cases hl:look ρ i with
 | none=>rw [hl] at hty;cases hty
 | some d0 =>
  obtain ⟨v,hv,r0⟩:=s0.at_ i d0 hl
  refine ⟨v,hv,Qkl r0 (by rw [hl] at hty;exact hty),?_⟩
  refine ga z R σ H W ρ _ _ s hw λvs H1 W1 ds ρ1 G p q=>?_
  obtain ⟨d,hd,q⟩:=Qg q
  obtain ⟨fp,s1⟩:=id p.sr
  obtain ⟨v',hv',r1⟩:=s1.at_ i d hd
  have:v'=v:=by rw [hv] at hv';cases hv';rfl
  subst this
  obtain ⟨nd1,sw⟩:=s1.own i d hd ht
  obtain ⟨ndG,kG⟩:=p.own rfl
  refine gr H1 d ds v' vs (fp i) G _ Q' r1 nd1 p.rep ndG (λa ha hf=>(kG a ha).2 (sw a hf)) q λu l ob e d' F' hlF him rd' ndF sub re hk=>?_
  have hWl:=sw l hlF
  refine k u _ (λa=>W1 a\/a∈F') e _ [] ⟨s1.write hd ht hv' hlF Q8 ⟨ob,Qb,him⟩ rd' ndF (λa ha=>?_),p.fr.write hWl (s1.wd l hWl) Q8 ⟨ob,Qb,him⟩ (λa ha=>?_),(λh=>nomatch h),re,λ_=>⟨List.nodup_nil,λa m=>nomatch m⟩⟩ hk
  ·rcases sub a ha with h | h
   ·exact .inl h
   ·exact .inr ⟨(kG a h).2,s.nr (kG a h).1⟩
  ·rcases sub a ha with h | h
   ·exact .inl (sw a h)
   ·exact .inr (kG a h).1
variable {name:Str} {apos cpos:Pos} {T' id:String}
theorem Qbv {i:Nat} {g:GM} (hm:MtD X id g) (pa:PlainAttrs T') (slot:Slot T' name id) (hty:typeOf (.builtin id)=pure (.type "method_descriptor")) (ha:AV X T m true (e::es) wr)
  (ht:T.own i=true:=by rfl) (hN:X.N[i]? = some x:=by rfl) (hv:Vis X.env.scope x:=by first | exact Or.inl rfl | exact Or.inr (Or.inl rfl) | exact Or.inr (Or.inr rfl)) (hd:(x == ("__debug__" : Str))=false:=by decide)
  (hcd:(x == ("__classdict__" : Str))=false:=by decide)
  (hbase:attributeBase (.Name x p) name X.env (eval (.Name x p) X.env)=eval (.Name x p) X.env:=by rfl)
  (hfew:((backTo cpos (starEach (e::es) X.env)).all (λx=>!x.1) && (backToKw cpos (keywordEach [] X.env)).all (λx=>x.1.isSome)
   && decide ((e::es).length+([]:List Keyword).length+(if ([]:List Keyword).isEmpty then 0 else 1)<30))=true:=by rfl)
  (hline:(apos.endLine == cpos.line)=true:=by rfl) (hs:starEach (e::es) X.env=(false,eval e X.env)::starEach es X.env:=by rfl) (hplain:(backTo cpos (starEach es X.env)).any (·.1)=false:=by rfl) :
  EV X T true true (.Call (.Attribute (.Name x p) name apos) (e::es) [] cpos) (wMt i T' g wr):=by
 obtain ⟨r,mr,gr⟩:=hm
 obtain ⟨ta,pa',ga⟩:=ha
 exact ⟨_,Qfd pa slot hty mr (Jt hN hv hd hcd) pa' hbase hfew hline hs hplain,λz R σ H W ρ Q Q' s hw k=>Qk3 ht gr ga s hw k⟩
theorem Qqs {i:Nat} {g:GM} (hm:MtD X id g) (pa:PlainAttrs T') (slot:Slot T' name id) (hty:typeOf (.builtin id)=pure (.type "method_descriptor"))
  (ht:T.own i=true:=by rfl) (hN:X.N[i]? = some x:=by rfl) (hv:Vis X.env.scope x:=by first | exact Or.inl rfl | exact Or.inr (Or.inl rfl) | exact Or.inr (Or.inr rfl)) (hd:(x == ("__debug__" : Str))=false:=by decide)
  (hcd:(x == ("__classdict__" : Str))=false:=by decide)
  (hbase:attributeBase (.Name x p) name X.env (eval (.Name x p) X.env)=eval (.Name x p) X.env:=by rfl) (hline:(apos.endLine == cpos.line)=true:=by rfl) :
  EV X T true true (.Call (.Attribute (.Name x p) name apos) [] [] cpos) (wMt i T' g wNil):=by
 obtain ⟨r,mr,gr⟩:=hm
 refine ⟨_,Qo9 pa slot hty mr (Jt hN hv hd hcd) hbase hline,λz R σ H W ρ Q Q' s hw k=>?_⟩
 exact Qk3 (m:=false) (ta:=tNil) ht gr (λz R σ H W ρ Q Q' s hw k=>k [] H W [] ρ [] ⟨s,FrW.refl H W,λ_=>⟨Same.refl H,rfl,rfl⟩,.nil,λ_=>⟨List.nodup_nil,λa m=>nomatch m⟩⟩ hw) s hw k
def Zb:GM
 | .lst xs,[d],k=>xs.length<sizeLine/\k .non (.lst (xs++[d]))
 | _,_,_=>False
theorem Vt {α:Type} {F G:List α} (h:F.Nodup) (h':G.Nodup) (d:∀a∈G,a∉F):(F++G).Nodup :=
 List.nodup_append.mpr ⟨h,h',λa ha b hb e=>d b hb (e ▸ ha)⟩
theorem Vg {H:Hp} {l:Addr} {ob ob':HO} (h:H l=some ob) (hi:imm ob=false):ImmK H (upd H l ob'):=λb u e im=>by
 have:b≠l:=λz=>by rw [z,h] at e;cases e;rw [hi] at im;cases im
 rw [Qk this];exact e
theorem Reps.upd {K:PySem.W.Frag} {H:Hp} {ds:List D} {xs:List V} {F:List Addr} {l:Addr} {ob ob':HO} (r:Reps K H ds xs F) (h:H l=some ob) (hi:imm ob=false) (hn:l∉F):Reps K (L2.upd H l ob') ds xs F :=
 r.frame (Vg h hi) λa ha=>Qk λz=>hn (z ▸ ha)
theorem Rep.upd {K:PySem.W.Frag} {H:Hp} {d:D} {x:V} {F:List Addr} {l:Addr} {ob ob':HO} (r:Rep K H d x F) (h:H l=some ob) (hi:imm ob=false) (hn:l∉F):Rep K (L2.upd H l ob') d x F :=
 r.frame (Vg h hi) λa ha=>Qk λz=>hn (z ▸ ha)
theorem RepK.upd {K:PySem.W.Frag} {H:Hp} {ds:List (Key × D)} {xs:List (Key × V)} {F:List Addr} {l:Addr} {ob ob':HO} (r:RepK K H ds xs F) (h:H l=some ob) (hi:imm ob=false) (hn:l∉F):RepK K (L2.upd H l ob') ds xs F :=
 r.frame (Vg h hi) λa ha=>Qk λz=>hn (z ▸ ha)
theorem RepT.upd {K:PySem.W.Frag} {H:Hp} {ds:List (List Key × D)} {xs:List (List Key × V)} {F:List Addr} {l:Addr} {ob ob':HO} (r:RepT K H ds xs F) (h:H l=some ob) (hi:imm ob=false) (hn:l∉F):RepT K (L2.upd H l ob') ds xs F :=
 r.frame (Vg h hi) λa ha=>Qk λz=>hn (z ▸ ha)
theorem Vv:MtD X "list.append" Zb:=by
 refine ⟨_,Zg,λH d ds v xs F G k Q r nd rs ndG dis g q=>?_⟩
 cases d with
 | lst es =>
  cases ds with
  | nil=>exact (show False from g).elim
  | cons d ds =>
   cases ds with
   | cons _ _=>exact (show False from g).elim
   | nil =>
    obtain ⟨u,rfl,rd⟩:=rs.at1
    cases r with
    | @lst l ys _ F e r9 =>
     obtain ⟨hz,g⟩:=g
     obtain ⟨nl,nd⟩:=List.nodup_cons.mp nd
     have hG:l∉G:=λh=>dis l h List.mem_cons_self
     refine ⟨l,ys,u,rfl,rfl,e,by rw [r9.length];exact hz,?_⟩
     refine q .non l _ .non _ (l::(F++G)) List.mem_cons_self rfl (.lst Qb ((r9.upd e rfl nl).snoc (rd.upd e rfl hG))) (List.nodup_cons.mpr ⟨λh=>(List.mem_append.mp h).elim nl hG,Vt nd ndG λa ha hf=>dis a ha (List.mem_cons_of_mem _ hf)⟩) (λa ha=>?_) .non g
     rcases List.mem_cons.mp ha with rfl | ha
     ·exact .inl List.mem_cons_self
     ·rcases List.mem_append.mp ha with ha | ha
      ·exact .inl (List.mem_cons_of_mem _ ha)
      ·exact .inr ha
 | _=>exact (show False from g).elim
def Qej:GM
 | .lst xs,[.int i],k=>-(2 ^ 63)<=i/\i<2 ^ 63/\oget (seqIndex? i xs.length) λj=>oget xs[j]? λd=>d.pure=true/\k d (.lst (xs.eraseIdx j))
 | _,_,_=>False
theorem sub3 {α:Type} {F A B C:List α} (h:F=A++B++C):(A++C).Sublist F:=by
 rw [h,List.append_assoc]
 exact List.Sublist.append (List.Sublist.refl _) (List.sublist_append_right _ _)
theorem Qec:MtD X "list.pop" Qej:=by
 refine ⟨_,Qjq,λH d ds v xs F G k Q r nd rs ndG dis g q=>?_⟩
 cases d with
 | lst es =>
  cases ds with
  | nil=>exact (show False from g).elim
  | cons d ds =>
   cases ds with
   | cons _ _=>cases d <;> exact (show False from g).elim
   | nil =>
    cases d with
    | int i =>
     obtain ⟨u,rfl,rd⟩:=rs.at1
     cases rd
     cases r with
     | @lst l ys _ F e r9 =>
      obtain ⟨h1,h2,g⟩:=g
      obtain ⟨j,hj,g⟩:=Qg g
      obtain ⟨d,hd,hp,g⟩:=Qg g
      obtain ⟨nl,nd⟩:=List.nodup_cons.mp nd
      obtain ⟨y,A,B,C,hy,hF,rB,rA,rC⟩:=r9.split hd
      obtain ⟨hB,rB⟩:=rB.pure hp
      have sub:=sub3 hF
      have nAC:l∉A++C:=λh=>nl (sub.subset h)
      refine ⟨l,ys,i,j,y,rfl,rfl,e,h1,h2,by rw [r9.length];exact hj,hy,?_⟩
      refine q y l _ d _ (l::(A++C)) List.mem_cons_self rfl (.lst Qb ?_) (List.nodup_cons.mpr ⟨nAC,nd.sublist sub⟩) (λa ha=>?_) (rB.upd e rfl (λh=>nomatch h)) g
      ·rw [Zy,Zy]
       exact (rA.append rC).upd e rfl nAC
      ·rcases List.mem_cons.mp ha with rfl | ha
       ·exact .inl List.mem_cons_self
       ·exact .inl (List.mem_cons_of_mem _ (sub.subset ha))
    | _=>exact (show False from g).elim
 | _=>exact (show False from g).elim
def gPop:GM
 | .lst xs,[],k=>oget xs[xs.length-1]? λd=>d.pure=true/\k d (.lst xs.dropLast)
 | _,_,_=>False
theorem Qpx:MtD X "list.pop" gPop:=by
 refine ⟨_,Qps,λH d ds v xs F G k Q r nd rs ndG dis g q=>?_⟩
 cases d with
 | lst es =>
  cases ds with
  | nil =>
   cases rs
   cases r with
   | @lst l ys _ F e r9 =>
    obtain ⟨d,hd,hp,g⟩:=Qg g
    obtain ⟨nl,nd⟩:=List.nodup_cons.mp nd
    obtain ⟨y,A,B,C,hy,hF,rB,rA,rC⟩:=r9.split hd
    obtain ⟨hB,rB⟩:=rB.pure hp
    have sub:=sub3 hF
    have nAC:l∉A++C:=λh=>nl (sub.subset h)
    have hlen:=r9.length
    refine ⟨l,ys,y,rfl,rfl,e,by rw [r9.length];exact hy,?_⟩
    refine q y l _ d _ (l::(A++C)) List.mem_cons_self rfl (.lst Qb ?_) (List.nodup_cons.mpr ⟨nAC,nd.sublist sub⟩) (λa ha=>?_) (rB.upd e rfl (λh=>nomatch h)) g
    ·rw [← Ui es,← Ui ys,Zy,Zy,hlen]
     exact (rA.append rC).upd e rfl nAC
    ·rcases List.mem_cons.mp ha with rfl | ha
     ·exact .inl List.mem_cons_self
     ·exact .inl (List.mem_cons_of_mem _ (sub.subset ha))
  | cons _ _=>exact (show False from g).elim
 | _=>exact (show False from g).elim
end
end PV
namespace PV
open PySem PySem.Spec L2
def spR (K:PySem.W.Frag) (g:GA):Sp:=λvs H Q _=>∃(ds:List D) (F:List Addr) (k:D->Prop),Reps K H ds vs F/\g ds k/\∀v H' d F',Fin K H H' d v F'->k d->Q v H'
abbrev GI:=List D->(D->D->Prop)->Prop
def spI (K:PySem.W.Frag) (p:Nat) (g:GI):Sp:=λvs H Q _=>∃(ds:List D) (a:Addr) (k:D->D->Prop),Reps K H ds vs [a]/\vs[p]? = some (.ref a)/\g ds k /\
 ∀v H' d d' F',Rep K H' d' (.ref a) [a]->Rep K H' d v F'->F'.Nodup->(∀b∈F',H b=none)->(∀b o,H b=some o->b≠a->H' b=some o)->k d d'->Q v H'
def Zk:D->Bool
 | .lst xs=>Qm xs
 | .dik kvs=>kvs.all λkv=>kv.2.pure
 | .dit kvs=>kvs.all λkv=>kv.2.pure
 | _=>false
theorem RepK.pure {K:PySem.W.Frag} {H:Hp}:∀{ds:List (Key × D)} {xs:List (Key × V)} {F:List Addr},RepK K H ds xs F->(ds.all λkv=>kv.2.pure)=true->F=[]
 | [],_,_,r,_=>by cases r;rfl
 | d::ds,_,_,r,h=>by
  rw [List.all_cons,Bool.and_eq_true] at h
  cases r with
  | cons p r=>rw [(p.pure h.1).1,RepK.pure r h.2];rfl
theorem RepT.pure {K:PySem.W.Frag} {H:Hp}:∀{ds:List (List Key × D)} {xs:List (List Key × V)} {F:List Addr},RepT K H ds xs F->(ds.all λkv=>kv.2.pure)=true->F=[]
 | [],_,_,r,_=>by cases r;rfl
 | d::ds,_,_,r,h=>by
  rw [List.all_cons,Bool.and_eq_true] at h
  cases r with
  | cons p r=>rw [(p.pure h.1).1,RepT.pure r h.2];rfl
theorem Rep.flat1 {K:PySem.W.Frag} {H:Hp} {d:D} {v:V} {F:List Addr} (r:Rep K H d v F) (h:Zk d=true):∃a,v=.ref a/\F=[a]:=by
 cases r with
 | lst e r=>exact ⟨_,rfl,by rw [(r.pure (by simpa [Zk] using h)).1]⟩
 | dik e r=>exact ⟨_,rfl,by rw [r.pure (by simpa [Zk] using h)]⟩
 | dit e r=>exact ⟨_,rfl,by rw [r.pure (by simpa [Zk] using h)]⟩
 | _=>simp [Zk] at h
section
variable {X:Cx} {T:Tg} {m o m0 m1 m2 m3 o1 o2:Bool} {e a b:Expr} {w wa wb:WE} {pos p2 p:Pos} {es:List Expr} {wr:WA} {x:Str} {k:Nat} {f:Addr} {fd:FuncData} {ps:List Str}
theorem Qns {g:GA} (F:FnOk X.prog X.w X.K X.mg X.base CX0 k f fd ps (spR X.K g)) (hr:Room k X.A) (hm:X.mg x=some (.ref f)) (hk:PySem.W.keepIn X.K (.ref f)=true) (hb:Qa0 X.K fd ps []) (ha:AV X T m o (e::es) wr) (hg:Gl X x:=by rfl)
  (hdb:(x == ("__debug__" : Str))=false:=by decide) (he:starEach (e::es) X.env=(false,eval e X.env)::starEach es X.env:=by rfl) (hpl:(backTo pos (starEach es X.env)).any (·.1)=false:=by rfl) :
  EV X T m true (.Call (.Name x p) (e::es) [] pos) (Qn g wr):=by
 obtain ⟨ta,pa,ga⟩:=ha
 refine ⟨_,Qg5 F hr hg hm hk hb .nil Qpb pa hdb he hpl,λz R σ H W ρ Q Q' s hw k=>?_⟩
 refine ga z R σ H W ρ _ _ s hw λvs H1 W1 ds ρ1 F p q=>?_
 refine ⟨ds,F,_,by rw [List.append_nil];exact p.rep,q,λv H' d F' fi hk=>k v H' W1 d ρ1 F' (Post.fin p.sr p.fr p.calm fi.same fi.rep fi.nd fi.new) hk⟩
abbrev WI:=Env->(List D->List D->Env->Prop)->Prop
def AI (X:Cx) (T:Tg) (m:Bool) (i p:Nat) (es:List Expr) (w:WI):Prop :=
 ∃ta,PA X es ta/\∀(z:Nat->V) (R:Addr->Prop) (σ:St) (H:Hp) (W:Addr->Prop) (ρ:Env) (Q:List D->List D->Env->Prop) (Q':List V->Hp->Prop),SR X.K T z R H W σ ρ->w ρ Q ->
  (∀v xs ys H' W' pre post ρ',PostT X.K T z R m H W σ ρ H' W' ρ'->σ[i]? = some (some v)->Reps X.K H' pre xs []->Reps X.K H' post ys []->pre.length=p->Q pre post ρ'->Q' (xs++v::ys) H')->ta σ H Q'
def Z8 (i:Nat) (wr:WA):WI:=λρ Q=>(look ρ i).isSome=true/\wr ρ λds ρ'=>Qm ds=true/\Q [] ds ρ'
theorem Ym {i:Nat} (hr:AV X T m o es wr) (hN:X.N[i]? = some x:=by rfl) (hv:Vis X.env.scope x:=by first | exact Or.inl rfl | exact Or.inr (Or.inl rfl) | exact Or.inr (Or.inr rfl)) (hd:(x == ("__debug__" : Str))=false:=by decide)
  (hcd:(x == ("__classdict__" : Str))=false:=by decide) (hs:starEach (.Name x p::es) X.env=(false,eval (.Name x p) X.env)::starEach es X.env:=by rfl):AI X T m i 0 (.Name x p::es) (Z8 i wr):=by
 obtain ⟨ta,pa,ga⟩:=hr
 refine ⟨_,Yw (Jt hN hv hd hcd) pa hs,λz R σ H W ρ Q Q' s hw k=>?_⟩
 obtain ⟨h1,hw⟩:=hw
 obtain ⟨d,hl⟩:=Option.isSome_iff_exists.mp h1
 obtain ⟨fp,s0⟩:=id s
 obtain ⟨v,hv',_⟩:=s0.at_ i d hl
 refine ⟨v,hv',ga z R σ H W ρ _ _ s hw λvs H1 W1 ds ρ1 F p q=>?_⟩
 exact k v [] vs H1 W1 [] ds ρ1 ⟨p.sr,p.fr,p.calm⟩ hv' .nil (p.rep.pure q.1).2 rfl q.2
def Qq5 (w:WE) (wi:WI):WI:=λρ Q=>w ρ λd ρ1=>d.pure=true/\wi ρ1 λpre post ρ2=>Q (d::pre) post ρ2
theorem Qsk {i q:Nat} {wi:WI} (he:EV X T m1 o e w) (hr:AI X T m2 i q es wi) (hs:starEach (e::es) X.env=(false,eval e X.env)::starEach es X.env:=by rfl):AI X T (m1 || m2) i (q+1) (e::es) (Qq5 w wi):=by
 obtain ⟨te,pe,ge⟩:=he
 obtain ⟨ta,pa,ga⟩:=hr
 refine ⟨_,Yw pe pa hs,λz R σ H W ρ Q Q' s hw k=>?_⟩
 refine ge z R σ H W ρ _ _ s hw λv1 H1 W1 d1 ρ1 F1 p ⟨hp,q1⟩=>?_
 obtain ⟨_,r1⟩:=p.rep.pure hp
 refine ga z R σ H1 W1 ρ1 _ _ p.sr q1 λv xs ys H2 W2 pre post ρ2 q hv rp rq hl q2=>?_
 exact k v (v1::xs) ys H2 W2 (d1::pre) post ρ2 (PostT.seq ⟨p.sr,p.fr,p.calm⟩ q) hv (.cons (F:=[]) (G:=[]) (r1.keep q.fr λa m=>nomatch m) rp) rq (by rw [List.length_cons,hl]) q2
def J8 (i:Nat) (g:GI) (wi:WI):WE:=λρ Q=>wi ρ λpre post ρ1=>oget (look ρ1 i) λd0=>Zk d0=true/\g (pre++d0::post) λd d'=>Q d (ρ1.set i (some d'))
theorem Qj0 {i q:Nat} {g:GI} {wi:WI} (F:FnOk X.prog X.w X.K X.mg X.base CX0 k f fd ps (spI X.K q g)) (hr:Room k X.A) (hm:X.mg x=some (.ref f)) (hk:PySem.W.keepIn X.K (.ref f)=true) (hb:Qa0 X.K fd ps []) (ha:AI X T m i q (e::es) wi)
  (ht:T.own i=true:=by rfl) (hg:Gl X x:=by rfl)
  (hdb:(x == ("__debug__" : Str))=false:=by decide) (he:starEach (e::es) X.env=(false,eval e X.env)::starEach es X.env:=by rfl) (hpl:(backTo pos (starEach es X.env)).any (·.1)=false:=by rfl) :
  EV X T true true (.Call (.Name x p) (e::es) [] pos) (J8 i g wi):=by
 obtain ⟨ta,pa,ga⟩:=ha
 refine ⟨_,Qg5 F hr hg hm hk hb .nil Qpb pa hdb he hpl,λz R σ H W ρ Q Q' s hw k=>?_⟩
 refine ga z R σ H W ρ _ _ s hw λv xs ys H1 W1 pre post ρ1 p hv rp rq hl q=>?_
 obtain ⟨d0,hd,hf,q⟩:=Qg q
 obtain ⟨fp,s1⟩:=id p.sr
 obtain ⟨v',hv',r0⟩:=s1.at_ i d0 hd
 have:v'=v:=by rw [hv] at hv';cases hv';rfl
 subst this
 obtain ⟨a,rfl,hF⟩:=r0.flat1 hf
 rw [hF] at r0
 have sw:=(s1.own i d0 hd ht).2
 have hWa:W1 a:=sw a (by rw [hF];exact List.mem_singleton.mpr rfl)
 refine ⟨pre++d0::post,a,_,?_,?_,q,λv H' d d' F' rd' rd nd new kp hk=>?_⟩
 ·rw [List.append_nil]
  have:=rp.append (.cons r0 rq)
  simpa using this
 ·rw [List.append_nil]
  have hx:=rp.length
  rw [List.getElem?_append_right (by omega),show _-xs.length=0 by omega]
  rfl
 ·obtain ⟨oa,ea,ia⟩:=s1.wd a hWa
  have hnew:∃ob,H' a=some ob/\imm ob=false:=rd'.dom a (List.mem_singleton.mpr rfl)
  have nd1:([a]:List Addr).Nodup:=by simp
  have sN:=s1.write (H':=H') (d':=d') (F':=[a]) hd ht hv' (by rw [hF];exact List.mem_singleton.mpr rfl) (λb u e n=>kp b u e n) hnew rd' nd1 (λb hb=>.inl (by rw [hF];exact hb))
  have fN:=p.fr.write (H':=H') (F':=[a]) hWa ⟨oa,ea,ia⟩ (λb u e n=>kp b u e n) hnew (λb hb=>.inl (by rw [List.mem_singleton.mp hb];exact hWa))
  refine k v H' _ d _ F' ⟨sN,fN,(λh=>nomatch h),rd,λ_=>⟨nd,λb hb=>⟨p.fr.dom b (new b hb),λhw=>?_⟩⟩⟩ hk
  rcases hw with hw | hw
  ·exact p.sr.nw (new b hb) hw
  ·rw [List.mem_singleton.mp hw] at hb
   rw [new a hb] at ea;cases ea
abbrev WL:=Env->(List D->Env->Prop)->Prop
def JD (K:PySem.W.Frag) (J:It) (H:Hp) (W:Addr->Prop) (ds:List D):Prop :=
 ∀(i:Nat) (H1:Hp) (W1:Addr->Prop),FrW H W H1 W1->(ds.length<=i->J.stop i H1)/\∀d,ds[i]? = some d->J.go i H1/\∀v H2,J.yld i H1 v H2->Same H1 H2/\∃F,Rep K H2 d v F/\∀a∈F,¬W1 a
def wz (pr:Bool) (W:Addr->Prop):Addr->Prop:=λa=>pr=true/\W a
def IV (X:Cx) (T:Tg) (m pr:Bool) (tg iter:Expr) (w:WL):Prop :=
 ∃wi,PI X tg iter wi/\∀(z:Nat->V) (R:Addr->Prop) (σ:St) (H:Hp) (W:Addr->Prop) (ρ:Env) (Q:List D->Env->Prop) (RR:It->Hp->Prop),SR X.K T z R H W σ ρ->w ρ Q ->
  (∀J H' W' ds ρ',PostT X.K T z R m H W σ ρ H' W' ρ'->JD X.K J H' (wz pr W') ds->Q ds ρ'->RR J H')->wi σ H RR
variable {tg iter:Expr}
theorem Xl {l:Expr} {tl:TE} (hl:PE X l tl):PI X tg l (λσ H R=>tl σ H λx H1=>∃a,x=.ref a/\(((∃xs,SqL X.K H1 a xs)/\R (Itl X.K a) H1)\/((∃xs,SqT X.K H1 a xs)/\R (Itt X.K a) H1))):=by
 intro pins s σ H R I h
 refine thn (hl pins s σ H _ I h) λv s1 ⟨x,H1,I1,r1,q1⟩=>?_
 obtain ⟨a,e,q⟩:=q1
 subst e
 cases r1
 rcases q with ⟨⟨xs,hq⟩,q⟩ | ⟨⟨xs,hq⟩,q⟩
 ·obtain ⟨its,rv,p,hz⟩:=I1.list hq
  refine wpAny_pyIter_list p.isList ?_
  refine ⟨s1.heap.objs.size,[s1.heap.objs.size],_,_,H1,rfl,I1.kept (t':=s1.toks) λb o e=>Heap.get?_push_of_some _ e,Qgf a _,⟨_,Heap.get?_push_size _ rfl,rfl,rfl⟩,λb hb=>?_,q⟩
  have e:b=s1.heap.objs.size:=by simpa using hb
  subst e
  exact I1.fpOk (Nat.le_refl _) (I1.hok.fresh (Nat.le_refl _))
 ·obtain ⟨its,rv,p,hz⟩:=I1.tuple hq
  refine wpAny_pyIter_tuple (show s1.heap.IsTuple a its.toArray from p) ?_
  refine ⟨s1.heap.objs.size,[s1.heap.objs.size],_,_,H1,rfl,I1.kept (t':=s1.toks) λb o e=>Heap.get?_push_of_some _ e,Qe1 a _,⟨_,Heap.get?_push_size _ rfl,rfl,rfl⟩,λb hb=>?_,q⟩
  have e:b=s1.heap.objs.size:=by simpa using hb
  subst e
  exact I1.fpOk (Nat.le_refl _) (I1.hok.fresh (Nat.le_refl _))
def Vj (w:WE):WL:=λρ Q=>w ρ λd ρ'=>match d with
 | .tup ds=>Qm ds=true/\Q ds ρ'
 | .lst ds=>Q ds ρ'
 | .kc (.tup ks)=>Q (ks.map kcD) ρ'
 | _=>False
theorem Qqh {K:PySem.W.Frag} {H:Hp} {W:Addr->Prop} {a:Addr} {xs:List V} {ks:List KC} (hs:∀H,SqT K H a xs) (ar:AreKC K ks xs):JD K (Itt K a) H W (ks.map kcD):=by
 intro i H2 W2 f
 have r:Reps K H2 (ks.map kcD) xs []:=ar.reps
 refine ⟨λhi=>⟨xs,hs H2,by rw [r.length];exact hi⟩,λd hd=>?_⟩
 obtain ⟨x,B,hx,rx,sx⟩:=r.get hd
 refine ⟨⟨xs,x,hs H2,hx⟩,λv H3 y=>?_⟩
 obtain ⟨rfl,y⟩:=y
 have:=y xs (hs _)
 rw [hx] at this
 cases this
 exact ⟨Same.refl _,B,rx,λa ha=>nomatch sx.subset ha⟩
theorem Gq (h:EV X T m o e w):IV X T m o tg e (Vj w):=by
 obtain ⟨te,pe,ge⟩:=h
 refine ⟨_,Xl pe,λz R σ H W ρ Q RR s hw k=>?_⟩
 refine ge z R σ H W ρ _ _ s hw λv H1 W1 d ρ1 F p q=>?_
 cases d with
 | tup ds =>
  obtain ⟨hp,q⟩:=q
  obtain ⟨hF,rp⟩:=p.rep.pure (by simpa [D.pure] using hp)
  cases rp with
  | @tup a xs _ _ e1 r =>
   refine ⟨a,rfl,.inr ⟨⟨xs,.of e1⟩,k _ H1 W1 ds ρ1 ⟨p.sr,p.fr,p.calm⟩ (λi H2 W2 f=>?_) q⟩⟩
   have e2:H2 a=some (.tup xs):=f.imm _ _ e1 rfl
   refine ⟨λhi=>⟨xs,.of e2,by rw [r.length];exact hi⟩,λd hd=>?_⟩
   obtain ⟨x,B,hx,rx,sx⟩:=r.get hd
   refine ⟨⟨xs,x,.of e2,hx⟩,λv H3 y=>?_⟩
   obtain ⟨rfl,y⟩:=y
   have:=y xs (.of e2)
   rw [hx] at this
   cases this
   exact ⟨Same.refl _,B,rx.keep f (λa ha=>(nomatch sx.subset ha)),(λa ha=>(nomatch sx.subset ha))⟩
 | lst ds =>
  obtain ⟨p1,p2,p3,p4,p5⟩:=p
  cases p4 with
  | @lst a xs _ F e1 r =>
   refine ⟨a,rfl,.inl ⟨⟨xs,.of e1⟩,k _ H1 W1 ds ρ1 ⟨p1,p2,p3⟩ (λi H2 W2 f=>?_) q⟩⟩
   have nW:∀b∈a::F,¬wz o W1 b:=λb hb hw=>by
    obtain ⟨h1,h2⟩:=hw
    exact ((p5 h1).2 b hb).2 h2
   have e2:H2 a=some (.lst xs):=f.keep _ _ e1 (nW a List.mem_cons_self)
   refine ⟨λhi=>⟨xs,.of e2,by rw [r.length];exact hi⟩,λd hd=>?_⟩
   obtain ⟨x,B,hx,rx,sx⟩:=r.get hd
   refine ⟨⟨xs,x,.of e2,hx⟩,λv H3 y=>?_⟩
   obtain ⟨rfl,y⟩:=y
   have:=y xs (.of e2)
   rw [hx] at this
   cases this
   refine ⟨Same.refl _,B,rx.keep f λb hb=>nW b (List.mem_cons_of_mem _ (sx.subset hb)),λb hb hw=>?_⟩
   have hb':b∈a::F:=List.mem_cons_of_mem _ (sx.subset hb)
   rcases f.new b hw with h | h
   ·exact nW b hb' h
   ·obtain ⟨ob,e3,_⟩:=rx.dom b hb
    rw [h] at e3;cases e3
 | kc c =>
  cases c with
  | tup ks =>
   obtain ⟨-,rp⟩:=p.rep.pure (by rw [D.pure])
   cases rp with
   | kc h =>
    obtain ⟨a,xs,rfl,hs,ar⟩:=h.sqT
    exact ⟨a,rfl,.inr ⟨⟨xs,hs H1⟩,k _ H1 W1 (ks.map kcD) ρ1 ⟨p.sr,p.fr,p.calm⟩ (Qqh hs ar) q⟩⟩
  | _=>exact (show False from q).elim
 | _=>exact q.elim
def Qiw (w:WE):WL:=λρ Q=>w ρ λd ρ'=>match d with
 | .kls ds=>Q ds ρ'
 | _=>False
theorem Qqm (h:EV X T m o e w):IV X T m true tg e (Qiw w):=by
 obtain ⟨te,pe,ge⟩:=h
 refine ⟨_,Xl pe,λz R σ H W ρ Q RR s hw k=>?_⟩
 refine ge z R σ H W ρ _ _ s hw λv H1 W1 d ρ1 F p q=>?_
 cases d with
 | kls ds =>
  obtain ⟨p1,p2,p3,p4,p5⟩:=p
  cases p4 with
  | @kls a xs _ e1 r =>
   refine ⟨a,rfl,.inl ⟨⟨xs,e1.sq⟩,k _ H1 W1 ds ρ1 ⟨p1,p2,p3⟩ (λi H2 W2 f=>?_) q⟩⟩
   have e2:=f.imm.fzL e1
   refine ⟨λhi=>⟨xs,e2.sq,by rw [r.length];exact hi⟩,λd hd=>?_⟩
   obtain ⟨x,B,hx,rx,sx⟩:=r.get hd
   refine ⟨⟨xs,x,e2.sq,hx⟩,λv H3 y=>?_⟩
   obtain ⟨rfl,y⟩:=y
   have:=y xs e2.sq
   rw [hx] at this
   cases this
   exact ⟨Same.refl _,B,rx.keep f (λa ha=>(nomatch sx.subset ha)),(λa ha=>(nomatch sx.subset ha))⟩
 | _=>exact q.elim
def rngD (lo:Int) (n:Nat):List D:=(List.range n).map λ(i:Nat)=>.int (lo+(i:Int))
theorem Qjs {K:PySem.W.Frag} {H:Hp} {W:Addr->Prop} {lo:Int} {n:Nat}:JD K (Itr lo n) H W (rngD lo n):=by
 intro i H1 W1 f
 have hl:(rngD lo n).length=n:=by simp [rngD]
 refine ⟨λh=>by rw [hl] at h;exact h,λd hd=>?_⟩
 have hi:i<n:=by have:=(List.getElem?_eq_some_iff.mp hd).1;rwa [hl] at this
 have hd':d=.int (lo+(i:Int)):=by
  simp only [rngD,List.getElem?_map,List.getElem?_range hi,Option.map_some,Option.some.injEq] at hd
  exact hd.symm
 refine ⟨hi,λv H2 y=>?_⟩
 obtain ⟨rfl,rfl⟩:=y
 exact ⟨Same.refl _,[],by rw [hd'];exact .int _,λa m=>nomatch m⟩
def G8 (wr:WA):WL:=λρ Q=>wr ρ λds ρ'=>match ds with
 | [.int j]=>-(2 ^ 62)<=j/\j<2 ^ 62/\Q (rngD 0 j.toNat) ρ'
 | _=>False
theorem Y3 (hm:X.mg "range" = none) (ha:AV X T m o [a] wr) (hg:Gl X "range":=by rfl) (hs:starEach [a] X.env=[(false,eval a X.env)]:=by rfl):IV X T m true tg (.Call (.Name "range" p) [a] [] pos) (G8 wr):=by
 obtain ⟨ta,pa,ga⟩:=ha
 refine ⟨_,Qg2 hg hm pa hs,λz R σ H W ρ Q RR s hw k=>?_⟩
 refine ga z R σ H W ρ _ _ s hw λvs H1 W1 ds ρ1 F p q=>?_
 obtain ⟨j,rfl⟩:∃j,ds=[D.int j]:=by
  clear p
  cases ds with
  | nil=>exact (show False from q).elim
  | cons d0 r0 =>
   cases r0 with
   | nil =>
    cases d0 with
    | int j=>exact ⟨j,rfl⟩
    | _=>exact (show False from q).elim
   | cons _ _=>cases d0 <;> exact (show False from q).elim
 obtain ⟨v,rfl,rd⟩:=p.rep.at1
 cases rd
 exact ⟨j,rfl,q.1,q.2.1,k _ H1 W1 _ ρ1 ⟨p.sr,p.fr,p.calm⟩ Qjs q.2.2⟩
def Z4:Nat->List D->List D
 | _,[]=>[]
 | n,d::r=>.tup [.int (n:Int),d]::Z4 (n+1) r
theorem Zl:∀{ds:List D} {n i:Nat},(Z4 n ds)[i]? = ds[i]?.map λd=>.tup [.int ((n+i:Nat):Int),d]
 | [],_,_=>by simp [Z4]
 | d::r,n,0=>by simp [Z4]
 | d::r,n,i+1=>by
  simp only [Z4,List.getElem?_cons_succ]
  rw [Zl (ds:=r) (n:=n+1) (i:=i),show n+1+i=n+(i+1) by omega]
theorem J7:∀{ds:List D} {n:Nat},(Z4 n ds).length=ds.length
 | [],_=>rfl
 | d::r,n=>by simp [Z4,J7]
def Qf6 (wr:WA):WL:=λρ Q=>wr ρ λds ρ'=>match ds with
 | [.tup es]=>Qm es=true/\Q (Z4 0 es) ρ'
 | _=>False
theorem Qc1 {ts:List Expr} {kt:Nat} {pt:Pos} (hm:X.mg "enumerate" = none) (ha:AV X T m o [a] wr) (hg:Gl X "enumerate":=by rfl) (hs:starEach [a] X.env=[(false,eval a X.env)]:=by rfl):IV X T m true (.Tuple ts kt pt) (.Call (.Name "enumerate" p) [a] [] pos) (Qf6 wr):=by
 obtain ⟨ta,pa,ga⟩:=ha
 refine ⟨_,Qmu hg hm pa hs,λz R σ H W ρ Q RR s hw k=>?_⟩
 refine ga z R σ H W ρ _ _ s hw λvs H1 W1 ds ρ1 F p q=>?_
 obtain ⟨es,rfl⟩:∃es,ds=[D.tup es]:=by
  clear p
  cases ds with
  | nil=>exact (show False from q).elim
  | cons d0 r0 =>
   cases r0 with
   | nil =>
    cases d0 with
    | tup es=>exact ⟨es,rfl⟩
    | _=>exact (show False from q).elim
   | cons _ _=>cases d0 <;> exact (show False from q).elim
 obtain ⟨hp,q⟩:=q
 obtain ⟨v,rfl,rd⟩:=p.rep.at1
 obtain ⟨hF,rd⟩:=rd.pure (by simpa [D.pure] using hp)
 cases rd with
 | @tup a xs _ _ e1 r =>
  refine ⟨a,rfl,⟨xs,.of e1⟩,k _ H1 W1 _ ρ1 ⟨p.sr,p.fr,p.calm⟩ (λi H2 W2 f=>?_) q⟩
  have e2:H2 a=some (.tup xs):=f.imm _ _ e1 rfl
  refine ⟨λhi=>⟨xs,.of e2,by rw [r.length];rwa [J7] at hi⟩,λd hd=>?_⟩
  rw [Zl] at hd
  cases hd':es[i]? with
  | none=>rw [hd'] at hd;cases hd
  | some d' =>
   rw [hd'] at hd
   obtain ⟨x,B,hx,rx,sx⟩:=r.get hd'
   refine ⟨⟨xs,x,.of e2,hx⟩,λv H3 y=>?_⟩
   obtain ⟨x',t,h1,rfl,h3,rfl⟩:=y xs (.of e2)
   rw [hx] at h1
   cases h1
   have hB:B=[]:=List.sublist_nil.mp sx
   subst hB
   refine ⟨Qi h3,[],?_,λa m=>nomatch m⟩
   cases hd
   rw [Nat.zero_add]
   exact .tup Qb (.cons (F:=[]) (G:=[]) (.int _) (Reps.one ((rx.keep f λa m=>nomatch m).same (Qi h3))))
end
end PV
namespace PV
open PySem PySem.Spec L2
structure EndsP where
 nx:Env->Prop
 rt:D->Env->Prop
 bk:Env->Prop:=λ_=>False
 ct:Env->Prop:=λ_=>False
 xc:D->Env->Prop:=λ_ _=>False
abbrev WS:=EndsP->Env->Prop
structure Lk (K:PySem.W.Frag) (T:Tg) (z:Nat->V) (H:Hp) (W:Addr->Prop) (P:EndsP) (E:Ends):Prop where
 nx:∀R σ' H' W' ρ',SR K T z R H' W' σ' ρ'->FrW H W H' W'->P.nx ρ'->E.nx σ' H'
 bk:∀R σ' H' W' ρ',SR K T z R H' W' σ' ρ'->FrW H W H' W'->P.bk ρ'->E.bk σ' H'
 ct:∀R σ' H' W' ρ',SR K T z R H' W' σ' ρ'->FrW H W H' W'->P.ct ρ'->E.ct σ' H'
 rt:∀R v σ' H' W' ρ' d F,SR K T z R H' W' σ' ρ'->FrW H W H' W'->Rep K H' d v F->F.Nodup->(∀a∈F,¬W' a/\(W a\/H a=none))->P.rt d ρ'->E.rt v H'
 xc:∀R σ' H' W' ρ' d,SR K T z R H' W' σ' ρ'->FrW H W H' W'->P.xc d ρ'->T.xe d σ' H'
theorem Lk.step {K:PySem.W.Frag} {T:Tg} {z:Nat->V} {H H1:Hp} {W W1:Addr->Prop} {P:EndsP} {E:Ends} (l:Lk K T z H W P E) (f:FrW H W H1 W1):Lk K T z H1 W1 P E where
 nx:=λR σ' H' W' ρ' s g q=>l.nx R σ' H' W' ρ' s (f.trans g) q
 bk:=λR σ' H' W' ρ' s g q=>l.bk R σ' H' W' ρ' s (f.trans g) q
 ct:=λR σ' H' W' ρ' s g q=>l.ct R σ' H' W' ρ' s (f.trans g) q
 rt:=λR v σ' H' W' ρ' d F s g r nd k q=>l.rt R v σ' H' W' ρ' d F s (f.trans g) r nd (λa ha=>⟨(k a ha).1,by
  rcases (k a ha).2 with h | h
  ·exact f.new a h
  ·exact .inr (f.dom a h)⟩) q
 xc:=λR σ' H' W' ρ' d s g q=>l.xc R σ' H' W' ρ' d s (f.trans g) q
def SV (X:Cx) (T:Tg) (st:Stmt) (w:WS):Prop :=
 ∃ts,PS X st ts/\∀(z:Nat->V) (R:Addr->Prop) (σ:St) (H:Hp) (W:Addr->Prop) (ρ:Env) (P:EndsP) (E:Ends),SR X.K T z R H W σ ρ->w P ρ->Lk X.K T z H W P E->ts E σ H
def SVs (X:Cx) (T:Tg) (st:List Stmt) (w:WS):Prop :=
 ∃ts,PSs X st ts/\∀(z:Nat->V) (R:Addr->Prop) (σ:St) (H:Hp) (W:Addr->Prop) (ρ:Env) (P:EndsP) (E:Ends),SR X.K T z R H W σ ρ->w P ρ->Lk X.K T z H W P E->ts E σ H
section
variable {X:Cx} {T:Tg} {m o m0 m1 m2 m3 o1 o2:Bool} {e a b:Expr} {w wa wb:WE} {pos p2 p:Pos} {es:List Expr} {wr:WA} {x:Str} {st:Stmt} {rest:List Stmt} {ws wu:WS} {wt:WT}
def Jp:WS:=λP ρ=>P.nx ρ
def wSeq (w u:WS):WS:=λP ρ=>w { P with nx:=u P } ρ
theorem Jz:SVs X T [] Jp:=⟨_,Qmm,λz R σ H W ρ P E s hw l=>l.nx R σ H W ρ s (FrW.refl H W) hw⟩
theorem Qo (h:SV X T st ws):SVs X T [st] ws:=by
 obtain ⟨t,pt,g⟩:=h
 exact ⟨_,Qcr pt,g⟩
theorem Qf (h:SV X T st ws) (hr:SVs X T rest wu):SVs X T (st::rest) (wSeq ws wu):=by
 obtain ⟨t,pt,g⟩:=h
 obtain ⟨u,pu,gu⟩:=hr
 refine ⟨_,Qjc pt pu,λz R σ H W ρ P E s hw l=>g z R σ H W ρ _ _ s hw ⟨λR' σ' H' W' ρ' s' f q=>gu z R' σ' H' W' ρ' P E s' q (l.step f),l.bk,l.ct,l.rt,l.xc⟩⟩
def Yn (w:WE):WS:=λP ρ=>w ρ λ_ ρ'=>P.nx ρ'
theorem Uc (he:EV X T m o e w) (hs:swapsWith e none pos.line X.env=pure false:=by rfl):SV X T (.Expr e pos) (Yn w):=by
 obtain ⟨te,pe,ge⟩:=he
 exact ⟨_,Gj pe hs,λz R σ H W ρ P E s hw l=>ge z R σ H W ρ _ _ s hw λv H1 W1 d ρ1 F p q=>l.nx R σ H1 W1 ρ1 p.sr p.fr q⟩
def wRet (w:WE):WS:=λP ρ=>w ρ λd ρ'=>P.rt d ρ'
theorem Ze (he:EV X T m true e w):SV X T (.Return (some e) pos) (wRet w):=by
 obtain ⟨te,pe,ge⟩:=he
 exact ⟨_,Qkz pe,λz R σ H W ρ P E s hw l=>ge z R σ H W ρ _ _ s hw λv H1 W1 d ρ1 F p q=>l.rt R v σ H1 W1 ρ1 d F p.sr p.fr p.rep (p.own rfl).1 (λa ha=>⟨((p.own rfl).2 a ha).2,.inr ((p.own rfl).2 a ha).1⟩) q⟩
theorem Qrd:SV X T (.Return none pos) (λP ρ=>P.rt .non ρ) :=
 ⟨_,Qmn,λz R σ H W ρ P E s hw l=>l.rt R .non σ H W ρ .non [] s (FrW.refl H W) .non List.nodup_nil (λa m=>nomatch m) hw⟩
def Qa2 (i:Nat):WS:=λP ρ=>oget (look ρ i) λd=>P.rt d (ρ.set i none)
theorem Qch {i:Nat} (ht:T.own i=true:=by rfl) (hN:X.N[i]? = some x:=by rfl) (hv:Vis X.env.scope x:=by first | exact Or.inl rfl | exact Or.inr (Or.inl rfl) | exact Or.inr (Or.inr rfl)) (hd:(x == ("__debug__" : Str))=false:=by decide)
  (hcd:(x == ("__classdict__" : Str))=false:=by decide):SV X T (.Return (some (.Name x p)) pos) (Qa2 i):=by
 refine ⟨_,Qkz (Jt hN hv hd hcd),λz R σ H W ρ P E s hw l=>?_⟩
 obtain ⟨d,hl,q⟩:=Qg hw
 obtain ⟨fp,s0⟩:=s
 obtain ⟨v,h1,h2⟩:=s0.at_ i d hl
 have key:∀j e,look (ρ.set i none) j=some e->j≠i/\look ρ j=some e:=λj e h=>by
  rw [Jh] at h
  split at h
  ·cases h
  ·refine ⟨λz=>?_,h⟩
   subst z
   rename_i hn
   exact hn ⟨rfl,Ve hl⟩
 refine ⟨v,h1,l.rt R v σ H (λa=>W a/\a∉fp i) (ρ.set i none) d (fp i) ⟨fp,?_⟩ ?_ h2 (s0.own i d hl ht).1 (λa ha=>⟨λh=>h.2 ha,.inl ((s0.own i d hl ht).2 a ha)⟩) q⟩
 ·refine ⟨by rw [List.length_set];exact s0.len,λa h=>s0.wd a h.1,λj e h=>s0.at_ j e (key j e h).2,λj e h t=>⟨(s0.own j e (key j e h).2 t).1,λa ha=>⟨(s0.own j e (key j e h).2 t).2 a ha,λha'=>s0.dis j i e d (key j e h).2 hl t ht (key j e h).1 a ha ha'⟩⟩,
   λj e h t=>s0.ro j e (key j e h).2 t,λa h=>s0.wr a h.1,s0.rd,λj k e e' h h' t t'=>s0.dis j k e e' (key j e h).2 (key k e' h').2 t t',s0.fix⟩
 ·exact ⟨λb ob e _=>e,λb e=>e,λb ob e _=>e,λb h=>.inl h.1⟩
theorem SR0.bindE {K:PySem.W.Frag} {z:Nat->V} {R:Addr->Prop} {H:Hp} {W:Addr->Prop} {σ:St} {ρ:Env} {fp:Nat->List Addr} {i:Nat} {d:D} {v:V} {F:List Addr} (s:SR0 K T z R H W σ ρ fp) (hio:i∉T.io) (r:Rep K H d v F) (nd:F.Nodup) (nw:∀a∈F,¬W a/\¬R a) :
  SR K T z (λa=>R a\/(T.own i=false/\a∈F)) H (λa=>W a\/(T.own i=true/\a∈F)) (σ.set i (some v)) (ρ.set i (some d)):=by
 refine ⟨λj=>if j=i then F else fp j,?_,?_,?_,?_,?_,?_,?_,?_,?_⟩
 ·rw [List.length_set,List.length_set];exact s.len
 ·intro a ha
  rcases ha with ha | ⟨_,ha⟩
  ·exact s.wd a ha
  ·exact r.dom a ha
 ·intro j e hj
  rw [Jh] at hj
  split at hj
  ·rename_i h
   obtain ⟨rfl,hlt⟩:=h
   cases hj
   exact ⟨v,by rw [List.getElem?_set_self (by rw [← s.len];exact hlt)],by rw [if_pos rfl];exact r⟩
  ·rename_i h
   obtain ⟨u,h1,h2⟩:=s.at_ j e hj
   have hji:j≠i:=λz=>h ⟨z,by rw [← z];exact Ve hj⟩
   exact ⟨u,by rw [List.getElem?_set_ne (Ne.symm hji)];exact h1,by rw [if_neg hji];exact h2⟩
 ·intro j e hj hto
  by_cases hji:j=i
  ·subst hji;simp only [if_pos];exact ⟨nd,λa h=>.inr ⟨hto,h⟩⟩
  ·rw [Qp hji] at hj
   simp only [if_neg hji]
   exact ⟨(s.own j e hj hto).1,λa h=>.inl ((s.own j e hj hto).2 a h)⟩
 ·intro j e hj hto
  by_cases hji:j=i
  ·subst hji;simp only [if_pos];exact λa h=>.inr ⟨hto,h⟩
  ·rw [Qp hji] at hj
   simp only [if_neg hji]
   exact λa h=>.inl (s.ro j e hj hto a h)
 ·intro a ha hr
  rcases ha with ha | ⟨t,ha⟩
  ·rcases hr with hr | ⟨_,hr⟩
   ·exact s.wr a ha hr
   ·exact (nw a hr).1 ha
  ·rcases hr with hr | ⟨t',hr⟩
   ·exact (nw a ha).2 hr
   ·rw [t] at t';cases t'
 ·intro a hr
  rcases hr with hr | ⟨_,hr⟩
  ·exact s.rd a hr
  ·exact r.dom a hr
 ·intro j k e e' hj hk tj tk hne a ha ha'
  by_cases hji:j=i
  ·subst hji
   have hkj:k≠j:=λz=>hne z.symm
   rw [Qp hkj] at hk
   simp only [if_pos,if_neg hkj] at ha ha'
   exact (nw a ha).1 ((s.own k e' hk tk).2 a ha')
  ·rw [Qp hji] at hj
   simp only [if_neg hji] at ha
   by_cases hki:k=i
   ·subst hki
    simp only [if_pos] at ha'
    exact (nw a ha').1 ((s.own j e hj tj).2 a ha)
   ·rw [Qp hki] at hk
    simp only [if_neg hki] at ha'
    exact s.dis j k e e' hj hk tj tk hne a ha ha'
 ·intro j hj
  have hji:j≠i:=λz=>hio (z ▸ hj)
  rw [List.getElem?_set_ne (Ne.symm hji)]
  exact s.fix j hj
theorem SR0.bind {K:PySem.W.Frag} {z:Nat->V} {R:Addr->Prop} {H:Hp} {W:Addr->Prop} {σ:St} {ρ:Env} {fp:Nat->List Addr} {i:Nat} {d:D} {v:V} {F:List Addr} (s:SR0 K T z R H W σ ρ fp) (hio:i∉T.io) (r:Rep K H d v F) (nd:F.Nodup) (nw:∀a∈F,¬W a/\¬R a) :
  ∃R',SR K T z R' H (λa=>W a\/(T.own i=true/\a∈F)) (σ.set i (some v)) (ρ.set i (some d)):=⟨_,s.bindE hio r nd nw⟩
def wSet (i:Nat) (w:WE):WS:=λP ρ=>w ρ λd ρ'=>P.nx (ρ'.set i (some d))
theorem U7 {H H':Hp} {W W':Addr->Prop} {G:Addr->Prop} (f:FrW H W H' W') (n:∀a,G a->H a=none):FrW H W H' (λa=>W' a\/G a) :=
 ⟨f.keep,f.dom,f.imm,λb h=>h.elim (f.new b) λh=>.inr (n b h)⟩
theorem Q9 {i:Nat} {pos':Pos} (he:EV X T m true e w) (hN:X.N.Nodup) (hi:X.N[i]? = some x:=by rfl) (hio:i∉T.io:=by decide) (hx:Loc X.env.scope x:=by first | exact Or.inl rfl | exact Or.inr rfl) (hs:swapsWith e (some (.Name x pos')) pos.line X.env=pure false:=by rfl)
  (hf:X.fn x=true\/X.env.scope.names.lookup x=some .local:=by first | exact .inl rfl | exact .inr rfl | assumption):SV X T (.Assign [.Name x pos'] e pos) (wSet i w):=by
 obtain ⟨te,pe,ge⟩:=he
 refine ⟨_,Qo3 hN hi hx pe hs hf,λz R σ H W ρ P E s hw l=>ge z R σ H W ρ _ _ s hw λv H1 W1 d ρ1 F p q=>?_⟩
 obtain ⟨fp,s1⟩:=p.sr
 obtain ⟨nd,nw⟩:=p.own rfl
 obtain ⟨R',s2⟩:=s1.bind (i:=i) hio p.rep nd (λa ha=>⟨(nw a ha).2,s.nr (nw a ha).1⟩)
 exact l.nx R' _ H1 _ _ s2 (U7 p.fr λa h=>(nw a h.2).1) q
theorem Qlv {i:Nat} {pos':Pos} (he:∃te,PS X (.Assign [.Name x pos'] e pos) (tAsg te (Qh1 i))/\∀(z:Nat->V) (R:Addr->Prop) (σ:St) (H:Hp) (W:Addr->Prop) (ρ:Env) (Q:D->Env->Prop) (Q':VK),SR X.K T z R H W σ ρ->w ρ Q ->
  (∀v H' W' d ρ' F,Post X.K T z R m true H W σ ρ H' W' ρ' d v F->Q d ρ'->Q' v H')->te σ H Q') (hio:i∉T.io:=by decide):SV X T (.Assign [.Name x pos'] e pos) (wSet i w):=by
 obtain ⟨te,pe,ge⟩:=he
 refine ⟨_,pe,λz R σ H W ρ P E s hw l=>ge z R σ H W ρ _ _ s hw λv H1 W1 d ρ1 F p q=>?_⟩
 obtain ⟨fp,s1⟩:=p.sr
 obtain ⟨nd,nw⟩:=p.own rfl
 obtain ⟨R',s2⟩:=s1.bind (i:=i) hio p.rep nd (λa ha=>⟨(nw a ha).2,s.nr (nw a ha).1⟩)
 exact l.nx R' _ H1 _ _ s2 (U7 p.fr λa h=>(nw a h.2).1) q
abbrev WG:=D->Env->(Env->Prop)->Prop
def GV (X:Cx) (T:Tg) (tg:Expr) (wg:WG):Prop :=
 ∃t,PG X tg t/\∀(z:Nat->V) (R:Addr->Prop) (σ:St) (H:Hp) (W:Addr->Prop) (ρ:Env) (d:D) (v:V) (Q:Env->Prop) (Q':St->Hp->Prop),SR X.K T z R H W σ ρ->Rep X.K H d v []->d.pure=true->wg d ρ Q ->
  (∀R' W' σ' ρ',SR X.K T z R' H W' σ' ρ'->FrW H W H W'->Q ρ'->Q' σ' H)->t v σ H Q'
def GVs (X:Cx) (T:Tg) (tgs:List Expr) (wg:List D->Env->(Env->Prop)->Prop):Prop :=
 ∃t,PGs X tgs t/\∀(z:Nat->V) (R:Addr->Prop) (σ:St) (H:Hp) (W:Addr->Prop) (ρ:Env) (ds:List D) (vs:List V) (Q:Env->Prop) (Q':St->Hp->Prop),SR X.K T z R H W σ ρ->Reps X.K H ds vs []->Qm ds=true->wg ds ρ Q ->
  (∀R' W' σ' ρ',SR X.K T z R' H W' σ' ρ'->FrW H W H W'->Q ρ'->Q' σ' H)->t vs σ H Q'
def gN (i:Nat):WG:=λd ρ Q=>Q (ρ.set i (some d))
theorem J0 {i:Nat} (hN:X.N.Nodup) (hi:X.N[i]? = some x:=by rfl) (hio:i∉T.io:=by decide) (hx:Loc X.env.scope x:=by first | exact Or.inl rfl | exact Or.inr rfl) (hf:X.fn x=true\/X.env.scope.names.lookup x=some .local:=by first | exact .inl rfl | exact .inr rfl | assumption):GV X T (.Name x pos) (gN i):=by
 refine ⟨_,X6 hN hi hx hf,λz R σ H W ρ d v Q Q' s r hp hw k=>?_⟩
 obtain ⟨fp,s1⟩:=s
 obtain ⟨R',s2⟩:=s1.bind (i:=i) hio r List.nodup_nil (λa ha=>nomatch ha)
 exact k R' _ _ _ s2 (U7 (FrW.refl H W) λa h=>nomatch h.2) hw
def Qh0:List D->Env->(Env->Prop)->Prop
 | [],ρ,Q=>Q ρ
 | _,_,_=>False
def Ut (wg:WG) (wgs:List D->Env->(Env->Prop)->Prop):List D->Env->(Env->Prop)->Prop
 | d::r,ρ,Q=>wg d ρ λρ'=>wgs r ρ' Q
 | _,_,_=>False
theorem Reps.inv {K:PySem.W.Frag} {H:Hp} {d:D} {ds:List D} {vs:List V} {F:List Addr} (r:Reps K H (d::ds) vs F):∃v us F1 F2,vs=v::us/\Rep K H d v F1/\Reps K H ds us F2:=by
 cases r with
 | cons h r=>exact ⟨_,_,_,_,rfl,h,r⟩
theorem Qc6:GVs X T [] Qh0:=by
 refine ⟨_,Qmv,λz R σ H W ρ ds vs Q Q' s r hp hw k=>?_⟩
 cases ds with
 | nil=>cases r;exact ⟨rfl,k R W σ ρ s (FrW.refl H W) hw⟩
 | cons=>exact hw.elim
theorem Zu {wg:WG} {wgs:List D->Env->(Env->Prop)->Prop} (h:GV X T e wg) (hr:GVs X T es wgs) (hs:(assignEach (e::es) X.env).map (·.2)=assign e X.env::(assignEach es X.env).map (·.2):=by rfl):GVs X T (e::es) (Ut wg wgs):=by
 obtain ⟨t,pt,g⟩:=h
 obtain ⟨u,pu,gu⟩:=hr
 refine ⟨_,Qjj pt pu hs,λz R σ H W ρ ds vs Q Q' s r hp hw k=>?_⟩
 cases ds with
 | nil=>exact hw.elim
 | cons d ds =>
  obtain ⟨v,vs,F,G,rfl,r1,r2⟩:=r.inv
  simp only [Qm,Bool.and_eq_true] at hp
  obtain ⟨e1,r1⟩:=r1.pure hp.1
  obtain ⟨e2,r2⟩:=r2.pure hp.2
  refine ⟨v,vs,rfl,g z R σ H W ρ d v _ _ s r1 hp.1 hw λR' W' σ' ρ' s' f q=>?_⟩
  exact gu z R' σ' H W' ρ' ds vs Q Q' s' r2 hp.2 q λR2 W2 σ2 ρ2 s2 f2 q2=>k R2 W2 σ2 ρ2 s2 (f.trans f2) q2
def Qhz (n:Nat) (wgs:List D->Env->(Env->Prop)->Prop):WG:=λd ρ Q=>match d with
 | .tup ds=>ds.length=n/\wgs ds ρ Q
 | _=>False
theorem Qhx {kt:Nat} {n:Nat} {wgs:List D->Env->(Env->Prop)->Prop} (h:GVs X T es wgs) (hc:X.calm=true:=by rfl) (hn:(assignEach es X.env).length=n:=by rfl) (hst:(assignEach es X.env).findIdx? (·.1)=none:=by rfl):GV X T (.Tuple es kt pos) (Qhz n wgs):=by
 obtain ⟨t,pt,g⟩:=h
 refine ⟨_,Qo4 hc pt hn hst,λz R σ H W ρ d v Q Q' s r hp hw k=>?_⟩
 cases d with
 | tup ds =>
  cases r with
  | @tup a xs _ _ e1 r=>exact ⟨a,xs,rfl,.of e1,by rw [r.length];exact hw.1,g z R σ H W ρ ds xs Q Q' s r (by simpa [D.pure] using hp) hw.2 k⟩
 | _=>exact hw.elim
def dSet (s c d:D) (k:D->Prop):Prop:=match s with
 | .lst xs=>onI c λj=>oget (ixN xs.length j) λn=>k (.lst (xs.set n d))
 | .dik kvs=>onK c λkey=>kvs.length<sizeLine/\k (.dik (putD kvs key d))
 | .dit kvs=>onT c λl=>kvs.length<sizeLine/\oget (Zh l) λks=>k (.dit (putD kvs ks d))
 | _=>False
theorem X1 (hu:X.A.units+1<cLine):PSet X (λo i v H Q=>∃a H',o=.ref a/\DPut H a i v H'/\Q H'):=by
 intro pins s σ H o i v ov iv u Q I ro ri rv h
 obtain ⟨a,H',rfl,g,q⟩:=h
 cases ro
 exact Qib hu I g ri rv λs' I'=>⟨H',I',q⟩
theorem PSet.or {t u:TSet} (h:PSet X t) (h':PSet X u):PSet X (λo i v H Q=>t o i v H Q\/u o i v H Q):=by
 intro pins s σ H o i v ov iv u Q I ro ri rv q
 rcases q with q | q
 ·exact h pins s σ H o i v ov iv u Q I ro ri rv q
 ·exact h' pins s σ H o i v ov iv u Q I ro ri rv q
def Vi (i:Nat) (wv wi:WE):WS:=λP ρ=>wv ρ λd ρ1=>d.pure=true/\(look ρ1 i).isSome=true/\wi ρ1 λc ρ2=>oget (look ρ2 i) λs=>dSet s c d λs'=>P.nx (ρ2.set i (some s'))
theorem Vn {i:Nat} {v ix:Expr} {wv wi:WE} {px ps':Pos} (hu:X.A.units+1<cLine) (hv:EV X T m1 o1 v wv) (hi:EV X T m2 o2 ix wi) (ht:T.own i=true:=by rfl) (hN:X.N[i]? = some x:=by rfl)
  (hvis:Vis X.env.scope x:=by first | exact Or.inl rfl | exact Or.inr (Or.inl rfl) | exact Or.inr (Or.inr rfl)) (hd:(x == ("__debug__" : Str))=false:=by decide) (hcd:(x == ("__classdict__" : Str))=false:=by decide)
  (ha:∀v,assign (.Subscript (.Name x px) ix ps') X.env v=(do
   let ov ← holding [v] (eval (.Name x px) X.env)
   let iv ← holding [v,ov] (eval ix X.env)
   standAt ps'
   holding [v,ov,iv] (setItem ov iv v)
   release [v,ov,iv] []):=by intro _;rfl) (hs:swapsWithSole [.Subscript (.Name x px) ix ps'] v pos.line X.env=pure false:=by rfl) (hw:swappedStores [.Subscript (.Name x px) ix ps'] v X.env=pure none:=by rfl)
  (h1:(assignEach [.Subscript (.Name x px) ix ps'] X.env).map (·.2)=[assign (.Subscript (.Name x px) ix ps') X.env]:=by rfl):SV X T (.Assign [.Subscript (.Name x px) ix ps'] v pos) (Vi i wv wi):=by
 obtain ⟨tv,pv,gv⟩:=hv
 obtain ⟨ti,pi,gi⟩:=hi
 refine ⟨_,Qgy pv (Qg3 (Jt hN hvis hd hcd) pi (PSet.or Qdy (X1 hu)) ha) hs hw h1,λz R σ H W ρ P E s hw l=>?_⟩
 refine gv z R σ H W ρ _ _ s hw λv1 H1 W1 d ρ1 F1 p ⟨hp,hso,q⟩=>?_
 obtain ⟨-,rv⟩:=p.rep.pure hp
 obtain ⟨d0,hl0⟩:=Option.isSome_iff_exists.mp hso
 obtain ⟨fp0,s0⟩:=id p.sr
 obtain ⟨u,hu',_⟩:=s0.at_ i d0 hl0
 refine ⟨u,hu',gi z R σ H1 W1 ρ1 _ _ p.sr q λv2 H2 W2 c ρ2 F2 p2 q2=>?_⟩
 obtain ⟨d1,hl,q2⟩:=Qg q2
 obtain ⟨fp,s2⟩:=id p2.sr
 obtain ⟨u',hu2,ru⟩:=s2.at_ i d1 hl
 have:u'=u:=by rw [hu'] at hu2;cases hu2;rfl
 subst this
 have rv2:Rep X.K H2 d v1 []:=rv.keep p2.fr λa m=>nomatch m
 obtain ⟨nd,sw⟩:=s2.own i d1 hl ht
 have fin:∀(lad:Addr) (ob:HO) (d':D) (F':List Addr),lad∈fp i->imm ob=false->Rep X.K (upd H2 lad ob) d' u' F'->F'.Nodup->(∀a∈F',a∈fp i)->P.nx (ρ2.set i (some d'))->E.nx σ (upd H2 lad ob):=λlad ob d' F' hm him r' nd' sub hq=>by
  have hW:=sw lad hm
  exact l.nx R σ _ _ _ (s2.write hl ht hu2 hm Q8 ⟨ob,Qb,him⟩ r' nd' λa ha=>.inl (sub a ha)) ((p.fr.trans p2.fr).write hW (s2.wd lad hW) Q8 ⟨ob,Qb,him⟩ λa ha=>.inl (sw a (sub a ha))) hq
 have nilnot:∀a:Addr,a∉([]:List Addr):=λa h=>nomatch h
 generalize hF:fp i=F at *
 cases d1 with
 | lst ds =>
  obtain ⟨j,rfl,q2⟩:=Gm q2
  obtain ⟨a,xs,G,rfl,rfl,e,r⟩:=ru.iLst
  obtain ⟨n,hn,hq⟩:=Qg q2
  have rc:=p2.rep.iInt
  subst rc
  have hlt:=(Qag hn).2.1
  obtain ⟨dn,hdn⟩:∃dn,ds[n]? = some dn:=⟨ds[n],List.getElem?_eq_getElem hlt⟩
  obtain ⟨y,A,B,C,hy,hG,rB,rA,rC⟩:=r.split hdn
  obtain ⟨na,ndG⟩:=List.nodup_cons.mp nd
  have sub:=sub3 hG
  have nAC:a∉A++C:=λh=>na (sub.subset h)
  have hxl:n<xs.length:=by rw [r.length];exact hlt
  refine .inl ⟨a,xs,j,n,rfl,rfl,e,by rw [r.length];exact hn,?_⟩
  refine fin a _ _ (a::(A++C)) List.mem_cons_self rfl (.lst Qb ?_) (List.nodup_cons.mpr ⟨nAC,ndG.sublist sub⟩) (λb hb=>?_) hq
  ·rw [Vm hlt,Vm hxl]
   have:=(rA.upd (ob':=.lst (xs.take n++v1::xs.drop (n+1))) e rfl (λh=>nAC (List.mem_append.mpr (.inl h)))).append (.cons (rv2.upd e rfl (nilnot a)) (rC.upd e rfl λh=>nAC (List.mem_append.mpr (.inr h))))
   simpa using this
  ·rcases List.mem_cons.mp hb with rfl | hb
   ·exact List.mem_cons_self
   ·exact List.mem_cons_of_mem _ (sub.subset hb)
 | dik ds =>
  obtain ⟨key,⟨hz,hq⟩,hy⟩:=Qct (show onK c (λkey=>ds.length<sizeLine/\P.nx (ρ2.set i (some (.dik (putD ds key d))))) from q2)
  obtain ⟨a,kvs,G,rfl,rfl,e,r⟩:=ru.iDik
  obtain rfl:=hy p2.rep
  obtain ⟨na,ndG⟩:=List.nodup_cons.mp nd
  obtain ⟨G',rp,sub⟩:=(r.upd (ob':=.dK (putK kvs key v1)) e rfl na).put (k:=key) (rv2.upd e rfl (nilnot a))
  refine .inr ⟨a,_,rfl,DPut.k (k:=key) e (by rw [r.length];exact hz),?_⟩
  refine fin a _ _ (a::G') List.mem_cons_self rfl (.dik Qb rp) (List.nodup_cons.mpr ⟨λh=>na (sub.subset h),ndG.sublist sub⟩) (λb hb=>?_) hq
  rcases List.mem_cons.mp hb with rfl | hb
  ·exact List.mem_cons_self
  ·exact List.mem_cons_of_mem _ (sub.subset hb)
 | dit ds =>
  obtain ⟨l',rfl,hz,q2⟩:=Qha q2
  obtain ⟨a,kvs,G,rfl,rfl,e,r⟩:=ru.iDit
  obtain ⟨na,ndG⟩:=List.nodup_cons.mp nd
  obtain ⟨ks,hk,hq⟩:=Qg q2
  obtain ⟨b,ys,rfl,e2,r2⟩:=p2.rep.iTup
  have hx:=r2.keys hk
  subst hx
  obtain ⟨G',rp,sub⟩:=(r.upd (ob':=.dT (putK kvs ks v1)) e rfl na).put (k:=ks) (rv2.upd e rfl (nilnot a))
  refine .inr ⟨a,_,rfl,DPut.t (k:=ks) e e2 (by rw [r.length];exact hz),?_⟩
  refine fin a _ _ (a::G') List.mem_cons_self rfl (.dit Qb rp) (List.nodup_cons.mpr ⟨λh=>na (sub.subset h),ndG.sublist sub⟩) (λb hb=>?_) hq
  rcases List.mem_cons.mp hb with rfl | hb
  ·exact List.mem_cons_self
  ·exact List.mem_cons_of_mem _ (sub.subset hb)
 | _=>exact (show False from q2).elim
def wIf (wt:WT) (w u:WS):WS:=λP ρ=>wt ρ λb ρ'=>if b=true then w P ρ' else u P ρ'
theorem Ub {c:Expr} {sa sb:List Stmt} (hc:TV X T m c wt) (ha:SVs X T sa ws) (hb:SVs X T sb wu):SV X T (.If c sa sb pos) (wIf wt ws wu):=by
 obtain ⟨tc,pc,gc⟩:=hc
 obtain ⟨ta,pa,ga⟩:=ha
 obtain ⟨tb,pb,gb⟩:=hb
 refine ⟨_,Qrv pc pa pb,λz R σ H W ρ P E s hw l=>gc z R σ H W ρ _ _ s hw λb H1 W1 ρ1 p q=>?_⟩
 cases b with
 | true=>exact ga z R σ H1 W1 ρ1 P E p.sr q (l.step p.fr)
 | false=>exact gb z R σ H1 W1 ρ1 P E p.sr q (l.step p.fr)
def Qkk (wt:WT) (wb:WS):WS:=λP ρ=>∃I:Nat->Env->Prop,(∃n,I n ρ)/\∀n ρ,I n ρ->wt ρ λb ρ1=>if b=true then wb { P with nx:=λρ'=>∃n',n' < n/\I n' ρ',ct:=λρ'=>∃n',n' < n/\I n' ρ',bk:=P.nx } ρ1 else P.nx ρ1
theorem Qi1 {c:Expr} {body:List Stmt} (hp:PassesOwn (model X.prog X.w) X.A X.env X.xe) (hc:TV X T m c wt) (hb:SVs X T body ws):SV X T (.While c body [] pos) (Qkk wt ws):=by
 obtain ⟨tc,pc,gc⟩:=hc
 obtain ⟨tb,pb,gb⟩:=hb
 refine ⟨_,Qjd hp pc pb,λz R σ H W ρ P E s hw l=>?_⟩
 obtain ⟨I,⟨n,h0⟩,hI⟩:=hw
 refine ⟨λn σ' H'=>∃R' W' ρ',SR X.K T z R' H' W' σ' ρ'/\FrW H W H' W'/\I n ρ',⟨n,R,W,ρ,s,FrW.refl H W,h0⟩,?_⟩
 rintro n σ1 H1 ⟨R1,W1,ρ1,s1,f1,i1⟩
 refine gc z R1 σ1 H1 W1 ρ1 _ _ s1 (hI n ρ1 i1) λb H2 W2 ρ2 p q=>?_
 cases b with
 | true =>
  refine ⟨λσ' H'=>∃n',n' < n/\∃R' W' ρ',SR X.K T z R' H' W' σ' ρ'/\FrW H W H' W'/\I n' ρ',λσ' H' ⟨n',h,r⟩=>⟨n',h,r⟩,?_⟩
  refine gb z R1 σ1 H2 W2 ρ2 _ _ p.sr q ⟨?_,?_,?_,?_,?_⟩
  ·exact λR' σ' H' W' ρ' s' f' ⟨n',h,i'⟩=>⟨n',h,R',W',ρ',s',(f1.trans p.fr).trans f',i'⟩
  ·exact λR' σ' H' W' ρ' s' f' h=>l.nx R' σ' H' W' ρ' s' ((f1.trans p.fr).trans f') h
  ·exact λR' σ' H' W' ρ' s' f' ⟨n',h,i'⟩=>⟨n',h,R',W',ρ',s',(f1.trans p.fr).trans f',i'⟩
  ·exact ((l.step f1).step p.fr).rt
  ·exact ((l.step f1).step p.fr).xc
 | false=>exact l.nx R1 σ1 H2 W2 ρ2 p.sr (f1.trans p.fr) q
def wFor (wl:WL) (wg:WG) (wb:WS):WS:=λP ρ=>wl ρ λds ρ1=>Qm ds=true/\∃I:Nat->Env->Prop,I 0 ρ1 /\
 (∀i d ρ,ds[i]? = some d->I i ρ->wg d ρ λρ'=>wb { P with nx:=I (i+1),ct:=I (i+1),bk:=P.nx } ρ')/\∀ρ,I ds.length ρ->P.nx ρ
theorem U9 (W:Addr->Prop):wz true W=W:=by funext a;simp [wz]
theorem Z5 {tg iter:Expr} {body:List Stmt} {wl:WL} {wg:WG} (hp:PassesOwn (model X.prog X.w) X.A X.env X.xe) (hi:IV X T m true tg iter wl) (hg:GV X T tg wg) (hb:SVs X T body ws) (hc:X.calm=true:=by rfl)
  (hs:∀x,foldedSetIterable iter X.env x=pure x:=by intro _;rfl):SV X T (.For tg iter body [] pos) (wFor wl wg ws):=by
 obtain ⟨ti,pi,gi⟩:=hi
 obtain ⟨tt,pt,gt⟩:=hg
 obtain ⟨tb,pb,gb⟩:=hb
 refine ⟨_,Qd4 hp hc pi pt pb hs,λz R σ H W ρ P E s hw l=>gi z R σ H W ρ _ _ s hw λJ H1 W1 ds ρ1 p jd q=>?_⟩
 rw [U9] at jd
 obtain ⟨hpu,I,h0,hI,hd⟩:=q
 refine ⟨λi n σ' H'=>n=ds.length-i/\i<=ds.length/\∃R' W' ρ',SR X.K T z R' H' W' σ' ρ'/\FrW H1 W1 H' W'/\I i ρ',⟨ds.length,by simp,Nat.zero_le _,R,W1,ρ1,p.sr,FrW.refl _ _,h0⟩,?_⟩
 rintro i n σ2 H2 ⟨rfl,hi,R2,W2,ρ2,s2,f2,i2⟩
 obtain ⟨j1,j2⟩:=jd i H2 W2 f2
 by_cases hlt:i<ds.length
 ·have hdi:ds[i]? = some ds[i]:=List.getElem?_eq_getElem hlt
  obtain ⟨hgo,hy⟩:=j2 _ hdi
  have hpd:(ds[i]).pure=true:=Gi.mp hpu _ (List.getElem_mem hlt)
  refine .inr ⟨hgo,λσ' H'=>i+1<=ds.length/\∃R' W' ρ',SR X.K T z R' H' W' σ' ρ'/\FrW H1 W1 H' W'/\I (i+1) ρ',λσ' H' ⟨h1,h2⟩=>⟨ds.length-(i+1),by omega,rfl,h1,h2⟩,λv H3 yl=>?_⟩
  obtain ⟨sm,F,rv,_⟩:=hy v H3 yl
  obtain ⟨-,rv⟩:=rv.pure hpd
  have f3:FrW H1 W1 H3 W2:=f2.trans (FrW.same W2 sm)
  refine gt z R2 σ2 H3 W2 ρ2 _ v _ _ (s2.same sm) rv hpd (hI i _ ρ2 hdi i2) λR4 W4 σ4 ρ4 s4 f4 q4=>?_
  refine gb z R4 σ4 H3 W4 ρ4 _ _ s4 q4 ⟨?_,?_,?_,?_,?_⟩
  ·exact λR' σ' H' W' ρ' s' f' h=>⟨hlt,R',W',ρ',s',(f3.trans f4).trans f',h⟩
  ·exact λR' σ' H' W' ρ' s' f' h=>l.nx R' σ' H' W' ρ' s' (((p.fr.trans f3).trans f4).trans f') h
  ·exact λR' σ' H' W' ρ' s' f' h=>⟨hlt,R',W',ρ',s',(f3.trans f4).trans f',h⟩
  ·exact (((l.step p.fr).step f3).step f4).rt
  ·exact (((l.step p.fr).step f3).step f4).xc
 ·have e:i=ds.length:=by omega
  subst e
  exact .inl ⟨j1 (Nat.le_refl _),l.nx R2 σ2 H2 W2 ρ2 s2 (p.fr.trans f2) (hd ρ2 i2)⟩
end
end PV
namespace PV
open PySem PySem.Spec L2
open PyProof.Rows (envOfC)
def TR:Tg:={ own:=λ_=>false,io:=[] }
def Any (H:Hp):Addr->Prop:=λa=>∃ob,H a=some ob/\imm ob=false
theorem SR.readonly {K:PySem.W.Frag} {T:Tg} {z:Nat->V} {H:Hp} {σ:St} {ρ:Env} (hio:T.io=[]) (hlen:ρ.length=σ.length) (h:∀i d,look ρ i=some d->T.own i=false/\∃v F,σ[i]? = some (some v)/\Rep K H d v F) :
  SR K T z (Any H) H (λ_=>False) σ ρ:=by
 have ch:∀i,∃F,∀d,look ρ i=some d->∃v,σ[i]? = some (some v)/\Rep K H d v F:=λi=>by
  cases hl:look ρ i with
  | none=>exact ⟨[],λd e=>nomatch e⟩
  | some d =>
   obtain ⟨_,v,F,h1,h2⟩:=h i d hl
   exact ⟨F,λd' e=>by cases e;exact ⟨v,h1,h2⟩⟩
 refine ⟨λi=>Classical.choose (ch i),hlen,λa h=>h.elim,λi d hl=>Classical.choose_spec (ch i) d hl,λi d hl ht=>?_,λi d hl ht a ha=>?_,λa h=>h.elim,λa h=>h,λi j d e hl hl' ht=>?_,λi hi=>?_⟩
 ·rw [(h i d hl).1] at ht;cases ht
 ·obtain ⟨v,_,r⟩:=Classical.choose_spec (ch i) d hl
  exact r.dom a ha
 ·rw [(h i d hl).1] at ht;cases ht
 ·rw [hio] at hi;cases hi
theorem Y1:∀{ds:List D} {n i:Nat},look (ds.map some++List.replicate n none) i=ds[i]?
 | [],0,i=>by simp [look]
 | [],n+1,0=>by simp [look,List.replicate_succ]
 | [],n+1,i+1=>by
  have:=Y1 (ds:=[]) (n:=n) (i:=i)
  simpa [look,List.replicate_succ] using this
 | d::ds,n,0=>by simp [look]
 | d::ds,n,i+1=>by
  have:=Y1 (ds:=ds) (n:=n) (i:=i)
  simpa [look] using this
theorem Zf {N:List Str} {vs:List V} {i:Nat} {v:V} (h:vs[i]? = some v):(L2.start N vs)[i]? = some (some v):=by
 have hi:=(List.getElem?_eq_some_iff.mp h).1
 unfold L2.start
 rw [List.getElem?_append_left (by simpa using hi),List.getElem?_map,h]
 rfl
section
variable {P:Program} {w:World} {K:PySem.W.Frag} {mg:Str->Option Value} {base:Heap} {x qual:Str} {st:Stmt} {f:Addr} {fd:FuncData} {N ps:List Str} {k:Nat} {T:Tg} {ww:WS}
def env0 (N:List Str) (ds:List D):Env:=ds.map some++List.replicate (N.length-ds.length) none
theorem Qfl {g:GA} (F:Fun K x qual st f fd) (S:FnScope N ps (Qd st)) (hio:T.io=[]) (hown:∀i,i<ps.length->T.own i=false) (hg:∀ds kk,g ds kk->ds.length=ps.length)
  (hb:∀(cdv:Value) (A:Around) (outer:List PySem.Env) (s:Shared) (H:Hp) (E:XK),Room k (A.deeper (envOfC qual (Qd st) s.heap.objs.size f cdv))->SVs (cxOf CX0 P w K mg base N qual (Qd st) f cdv A outer s H E).nox T (Qr st) ww)
  (hr:∀ds kk,g ds kk->ww { nx:=λ_=>kk .non,rt:=λd _=>kk d } (env0 N ds)):FnOk P w K mg base CX0 (k+1) f fd ps (spR K g):=by
 refine F.ok S (λvs H Q E h=>?_) (λcdv A outer s H vs Q E hroom h=>?_)
 ·obtain ⟨ds,Fp,kk,rep,hgk,_⟩:=h
  rw [rep.length];exact hg ds kk hgk
 ·obtain ⟨ds,Fp,kk,rep,hgk,q⟩:=h
  obtain ⟨ts,pts,gts⟩:=hb cdv A outer s H E hroom
  have hl:=rep.length
  have hds:=hg ds kk hgk
  refine ⟨ts,pts,gts (λ_=>.non) (Any H) (L2.start N vs) H (λ_=>False) (env0 N ds) _ _ (SR.readonly hio ?_ λi d hli=>?_) (hr ds kk hgk) ⟨?_,?_,?_,?_,λ_ _ _ _ _ _ _ _ hk=>hk.elim⟩⟩
  ·unfold env0 L2.start;simp [hl]
  ·unfold env0 at hli
   rw [Y1] at hli
   obtain ⟨v,B,h1,h2,_⟩:=rep.get hli
   exact ⟨hown i (by rw [← hds];exact (List.getElem?_eq_some_iff.mp hli).1),v,B,Zf h1,h2⟩
  ·intro R' σ' H' W' ρ' s' fr hk
   have sm:Same H H':=λb o e=>fr.keep b o e (λz=>z)
   exact q .non H' .non [] ⟨sm,.non,List.nodup_nil,λ_ m=>nomatch m⟩ hk
  ·exact λR' σ' H' W' ρ' s' fr hk=>hk.elim
  ·exact λR' σ' H' W' ρ' s' fr hk=>hk.elim
  ·intro R' v σ' H' W' ρ' d F' s' fr r nd nw hk
   have sm:Same H H':=λb o e=>fr.keep b o e (λz=>z)
   exact q v H' d F' ⟨sm,r,nd,λa ha=>(nw a ha).2.resolve_left id⟩ hk
theorem Qqr {p:Nat} {g:GI} (F:Fun K x qual st f fd) (S:FnScope N ps (Qd st)) (hio:T.io=[p]) (hown:T.own p=true) (hg:∀ds kk,g ds kk->ds.length=ps.length/\∃d0,ds[p]? = some d0/\Zk d0=true)
  (hb:∀(cdv:Value) (A:Around) (outer:List PySem.Env) (s:Shared) (H:Hp) (E:XK),Room k (A.deeper (envOfC qual (Qd st) s.heap.objs.size f cdv))->SVs (cxOf CX0 P w K mg base N qual (Qd st) f cdv A outer s H E).nox T (Qr st) ww)
  (hr:∀ds kk,g ds kk->ww { nx:=λρ=>oget (look ρ p) λd'=>Zk d'=true/\kk .non d',rt:=λd ρ=>oget (look ρ p) λd'=>Zk d'=true/\kk d d' } (env0 N ds)):FnOk P w K mg base CX0 (k+1) f fd ps (spI K p g):=by
 refine F.ok S (λvs H Q E h=>?_) (λcdv A outer s H vs Q E hroom h=>?_)
 ·obtain ⟨ds,a,kk,rep,hp,hgk,_⟩:=h
  rw [rep.length];exact (hg ds kk hgk).1
 ·obtain ⟨ds,a,kk,rep,hp,hgk,q⟩:=h
  obtain ⟨ts,pts,gts⟩:=hb cdv A outer s H E hroom
  have hl:=rep.length
  obtain ⟨hds,d0,hd0,hf0⟩:=hg ds kk hgk
  obtain ⟨v0,A',B,C,h1,h2,r0,rA,rC⟩:=rep.split hd0
  rw [hp] at h1;cases h1
  obtain ⟨a',e1,e2⟩:=r0.flat1 hf0
  cases e1
  subst e2
  have hA:A'=[]:=by
   cases A' with
   | nil=>rfl
   | cons y A'=>simp at h2
  subst hA
  have hC:C=[]:=by
   cases C with
   | nil=>rfl
   | cons y C=>simp at h2
  subst hC
  have oth:∀i d,i≠p->ds[i]? = some d->∃v,vs[i]? = some v/\Rep K H d v []:=λi d hne hd=>by
   rcases Nat.lt_or_gt_of_ne hne with h | h
   ·obtain ⟨v,B,h1,h2,h3⟩:=rA.get (i:=i) (by rw [List.getElem?_take_of_lt h];exact hd)
    rw [List.getElem?_take_of_lt h] at h1
    have:=List.sublist_nil.mp h3
    subst this
    exact ⟨v,h1,h2⟩
   ·obtain ⟨v,B,h1,h2,h3⟩:=rC.get (i:=i-(p+1)) (by rw [List.getElem?_drop,show p+1+(i-(p+1))=i by omega];exact hd)
    rw [List.getElem?_drop,show p+1+(i-(p+1))=i by omega] at h1
    have:=List.sublist_nil.mp h3
    subst this
    exact ⟨v,h1,h2⟩
  obtain ⟨oa,ea,ia⟩:=r0.dom a (List.mem_singleton.mpr rfl)
  have fin:∀R' v σ' H' W' ρ' d F',SR K T (λ_=>.ref a) R' H' W' σ' ρ'->FrW H (λb=>b=a) H' W'->Rep K H' d v F'->F'.Nodup->(∀b∈F',¬W' b/\(b=a\/H b=none))->(oget (look ρ' p) λd'=>Zk d'=true/\kk d d')->Q v H':=λR' v σ' H' W' ρ' d F' s' fr r nd nw hk=>by
   obtain ⟨d',hl',hf',hk⟩:=Qg hk
   obtain ⟨fp,s0⟩:=s'
   obtain ⟨u,hu,ru⟩:=s0.at_ p d' hl'
   have hfx:=s0.fix p (by rw [hio];exact List.mem_singleton.mpr rfl)
   rw [hu] at hfx
   cases hfx
   obtain ⟨a'',e1,e2⟩:=ru.flat1 hf'
   cases e1
   rw [e2] at ru
   have hWa:W' a:=(s0.own p d' hl' hown).2 a (by rw [e2];exact List.mem_singleton.mpr rfl)
   refine q v H' d d' F' ru r nd (λb hb=>?_) (λb o e hne=>fr.keep b o e hne) hk
   rcases (nw b hb).2 with h | h
   ·exact absurd hWa (by rw [← h];exact (nw b hb).1)
   ·exact h
  refine ⟨ts,pts,gts (λ_=>.ref a) (λb=>b≠a/\Any H b) (L2.start N vs) H (λb=>b=a) (env0 N ds) _ _ ⟨λi=>if i=p then [a] else [],?_,?_,?_,?_,?_,?_,?_,?_,?_⟩ (hr ds kk hgk) ⟨?_,?_,?_,?_,λ_ _ _ _ _ _ _ _ hk=>hk.elim⟩⟩
  ·unfold env0 L2.start;simp [hl]
  ·rintro b rfl;exact ⟨oa,ea,ia⟩
  ·intro i d hli
   unfold env0 at hli
   rw [Y1] at hli
   by_cases hip:i=p
   ·subst hip
    rw [hd0] at hli;cases hli
    exact ⟨.ref a,Zf hp,by rw [if_pos rfl];exact r0⟩
   ·obtain ⟨v,h1,h2⟩:=oth i d hip hli
    exact ⟨v,Zf h1,by rw [if_neg hip];exact h2⟩
  ·intro i d _ _
   by_cases hip:i=p
   ·rw [if_pos hip];exact ⟨by simp,λb hb=>List.mem_singleton.mp hb⟩
   ·rw [if_neg hip];exact ⟨by simp,λb hb=>nomatch hb⟩
  ·intro i d _ ht b hb
   have hip:i≠p:=λz=>by subst z;rw [hown] at ht;cases ht
   rw [if_neg hip] at hb;cases hb
  ·rintro b rfl ⟨h,_⟩;exact h rfl
  ·exact λb h=>h.2
  ·intro i j d e _ _ _ _ hne b hb hb'
   by_cases hip:i=p
   ·have hjp:j≠p:=λz=>hne (hip.trans z.symm)
    rw [if_neg hjp] at hb';cases hb'
   ·rw [if_neg hip] at hb;cases hb
  ·intro i hi
   rw [hio] at hi
   rw [List.mem_singleton.mp hi]
   exact Zf hp
  ·exact λR' σ' H' W' ρ' s' fr hk=>fin R' .non σ' H' W' ρ' .non [] s' fr .non List.nodup_nil (λb hb=>nomatch hb) hk
  ·exact λR' σ' H' W' ρ' s' fr hk=>hk.elim
  ·exact λR' σ' H' W' ρ' s' fr hk=>hk.elim
  ·exact λR' v σ' H' W' ρ' d F' s' fr r nd nw hk=>fin R' v σ' H' W' ρ' d F' s' fr r nd nw hk
end
section
variable {X:Cx} {T:Tg} {m o m0 m1 m2 m3 o1 o2:Bool} {e a b:Expr} {w wa wb we:WE} {pos p2 p:Pos} {es:List Expr} {wr:WA} {x:Str} {wt:WT}
def CV (X:Cx) (ifs:List Expr) (w:WT):Prop :=
 ∃tt,PIfs X ifs tt/\∀(z:Nat->V) (R:Addr->Prop) (σ:St) (H:Hp) (W:Addr->Prop) (ρ:Env) (Q:Bool->Env->Prop) (Q':Bool->Hp->Prop),SR X.K TR z R H W σ ρ->w ρ Q ->
  (∀b H' W' ρ',PostT X.K TR z R false H W σ ρ H' W' ρ'->Q b ρ'->Q' b H')->tt σ H Q'
def wAll:WT:=λρ Q=>Q true ρ
theorem Qif:CV X [] wAll:=⟨_,Qjh,λz R σ H W ρ Q Q' s hw k=>k true H W ρ ⟨s,FrW.refl H W,λ_=>⟨Same.refl H,rfl,rfl⟩⟩ hw⟩
theorem Qb0 {c:Expr} (h:TV X TR false c wt):CV X [c] wt:=by
 obtain ⟨tt,pt,g⟩:=h
 exact ⟨_,Qjg pt,g⟩
def blkE (ρ:Env) (d:D) (ix:List Nat):Env:=some d::ix.map (look ρ)
theorem Qee {f:Nat->Option D}:∀{ix:List Nat} {j:Nat},look (ix.map f) j=ix[j]?.bind f
 | [],_=>by simp [look]
 | i::r,0=>by simp [look]
 | i::r,j+1=>by simpa [look] using Qee (f:=f) (ix:=r) (j:=j)
def Va (wl:WL) (wt:WT) (we:WE) (ix:List Nat):WE:=λρ Q=>wl ρ λds ρ1=>∃I:Nat->List D->Prop,I 0 [] /\
 (∀i d ys,ds[i]? = some d->I i ys->ys.length<sizeLine/\wt (blkE ρ1 d ix) λb _=>if b=true then we (blkE ρ1 d ix) (λy _=>I (i+1) (ys++[y])) else I (i+1) ys) /\
 ∀ys,I ds.length ys->ys.length<=sizeLine/\Q (.lst ys) ρ1
def Qcf (X:Cx) (T:Tg) (m:Bool) (elt iter:Expr) (x:Str) (px:Pos) (scope:Scope) (ifs:List Expr) (ix:List Nat) (w:WE):Prop :=
 ∃(wi:TI) (tt:TT) (te:TE),PI X (.Name x px) iter wi/\(∀cl C s₀ H₀ fp,PIfs (Uj X scope cl C (bN X.N x ix) s₀ H₀ fp) ifs tt)/\(∀cl C s₀ H₀ fp,PE (Uj X scope cl C (bN X.N x ix) s₀ H₀ fp) elt te) /\
  ∀(z:Nat->V) (R:Addr->Prop) (σ:St) (H:Hp) (W:Addr->Prop) (ρ:Env) (Q:D->Env->Prop) (Q':VK),SR X.K T z R H W σ ρ->w ρ Q ->
   (∀v H' W' d ρ' F,Post X.K T z R m true H W σ ρ H' W' ρ' d v F->Q d ρ'->Q' v H')->Qlu wi tt te ix σ H Q'
theorem Zn {elt iter:Expr} {px:Pos} {scope:Scope} {ifs:List Expr} {wl:WL} {pr:Bool} (ix:List Nat) (hi:IV X T m pr (.Name x px) iter wl)
  (ht:∀cl C s₀ H₀ fp,CV (Uj X scope cl C (bN X.N x ix) s₀ H₀ fp) ifs wt) (he:∀cl C s₀ H₀ fp,EV (Uj X scope cl C (bN X.N x ix) s₀ H₀ fp) TR false true elt we) :
  Qcf X T m elt iter x px scope ifs ix (Va wl wt we ix):=by
 obtain ⟨wi,pi,gi⟩:=hi
 refine ⟨wi,λσ H Q=>∀cl C s₀ H₀ fp,Classical.choose (ht cl C s₀ H₀ fp) σ H Q,λσ H Q=>∀cl C s₀ H₀ fp,Classical.choose (he cl C s₀ H₀ fp) σ H Q,pi,
  λcl C s₀ H₀ fp pins s σ H Q I h=>(Classical.choose_spec (ht cl C s₀ H₀ fp)).1 pins s σ H Q I (h cl C s₀ H₀ fp),λcl C s₀ H₀ fp pins s σ H Q I h=>(Classical.choose_spec (he cl C s₀ H₀ fp)).1 pins s σ H Q I (h cl C s₀ H₀ fp),?_⟩
 intro z R σ H W ρ Q Q' s hw k
 refine gi z R σ H W ρ _ _ s hw λJ H1 W1 ds ρ1 p jd q=>?_
 obtain ⟨I,h0,hI,hd⟩:=q
 refine ⟨λi n ys H2=>n=ds.length-i/\i<=ds.length/\Same H1 H2/\∃es F,Reps X.K H2 es ys F/\F.Nodup/\(∀a∈F,H1 a=none)/\I i es,ds.length,⟨by simp,Nat.zero_le _,Same.refl _,[],[],.nil,List.nodup_nil,(λa m=>(nomatch m)),h0⟩,?_⟩
 rintro i n ys H2 ⟨rfl,hi,sm,es,F,re,nd,nw,i2⟩
 obtain ⟨j1,j2⟩:=jd i H2 (wz pr W1) (FrW.same _ sm)
 by_cases hlt:i<ds.length
 ·have hdi:ds[i]? = some ds[i]:=List.getElem?_eq_getElem hlt
  obtain ⟨hgo,hy⟩:=j2 _ hdi
  obtain ⟨hz,q1⟩:=hI i _ es hdi i2
  refine .inr ⟨hgo,by rw [re.length];exact hz,λv H3 yl=>?_⟩
  obtain ⟨sm3,Fv,rv,_⟩:=hy v H3 yl
  have srB:∀z',SR X.K TR z' (Any H3) H3 (λ_=>False) (bS σ (some v) ix) (blkE ρ1 ds[i] ix):=λz'=>by
   refine SR.readonly rfl (by simp [bS,blkE]) λj d hj=>⟨rfl,?_⟩
   cases j with
   | zero =>
    simp only [blkE,look,Option.some.injEq] at hj
    subst hj
    exact ⟨v,Fv,rfl,rv⟩
   | succ j =>
    have hj':look (ix.map (look ρ1)) j=some d:=hj
    rw [Qee] at hj'
    cases hx:ix[j]? with
    | none=>rw [hx] at hj';cases hj'
    | some q =>
     rw [hx] at hj'
     obtain ⟨fp,s1⟩:=(p.sr.same sm).same sm3
     obtain ⟨u,hu,ru⟩:=s1.at_ q d hj'
     refine ⟨u,fp q,?_,ru⟩
     show (ix.map λi=>(σ[i]?).getD none)[j]? = some (some u)
     rw [List.getElem?_map,hx]
     simp [hu]
  intro cl C s₀ H₀ fp
  refine (Classical.choose_spec (ht cl C s₀ H₀ fp)).2 (λ_=>.non) (Any H3) (bS σ (some v) ix) H3 (λ_=>False) (blkE ρ1 ds[i] ix) _ _ (srB _) q1 λbb H4 W4 ρ4 p4 q4=>?_
  obtain ⟨sm4,hW4,hρ4⟩:=p4.calm rfl
  have re4:=((re.same sm3).same sm4)
  cases bb with
  | false=>exact ⟨ds.length-(i+1),by omega,rfl,hlt,(sm.trans sm3).trans sm4,es,F,re4,nd,nw,q4⟩
  | true =>
   show if true=true then _ else _
   rw [if_pos rfl]
   intro cl C s₀ H₀ fp
   refine (Classical.choose_spec (he cl C s₀ H₀ fp)).2 (λ_=>.non) (Any H3) (bS σ (some v) ix) H4 W4 (blkE ρ1 ds[i] ix) _ _ (hρ4 ▸ p4.sr) (by simpa using q4) λu H5 W5 y ρ5 Fy p5 q5=>?_
   obtain ⟨sm5,_,_⟩:=p5.calm rfl
   obtain ⟨ny,ky⟩:=p5.own rfl
   have sm15:Same H1 H5:=((sm.trans sm3).trans sm4).trans sm5
   refine ⟨ds.length-(i+1),by omega,rfl,hlt,sm15,es++[y],F++Fy,(re4.same sm5).snoc p5.rep,Vt nd ny λa ha hf=>?_,λa ha=>?_,q5⟩
   ·obtain ⟨ob,e1,_⟩:=re4.dom a hf
    rw [(ky a ha).1] at e1;cases e1
   ·rcases List.mem_append.mp ha with ha | ha
    ·exact nw a ha
    ·exact ((sm.trans sm3).trans sm4).free (ky a ha).1
 ·have e:i=ds.length:=by omega
  subst e
  obtain ⟨hz,q1⟩:=hd es i2
  refine .inl ⟨j1 (Nat.le_refl _),by rw [re.length];exact hz,λl hl=>?_⟩
  have hl1:H1 l=none:=sm.free hl
  refine k _ _ W1 (.lst es) ρ1 (l::F) ⟨(p.sr.same sm).same (Qi hl),(p.fr.trans (FrW.same W1 sm)).trans (FrW.same W1 (Qi hl)),λh=>⟨((p.calm h).1.trans sm).trans (Qi hl),(p.calm h).2⟩,.lst Qb (re.same (Qi hl)),λ_=>⟨List.nodup_cons.mpr ⟨λh=>?_,nd⟩,λb hb=>?_⟩⟩ q1
  ·obtain ⟨ob,e1,_⟩:=re.dom l h
   rw [hl] at e1;cases e1
  ·rcases List.mem_cons.mp hb with rfl | hb
   ·exact ⟨p.fr.dom _ hl1,p.sr.nw hl1⟩
   ·exact ⟨p.fr.dom _ (nw b hb),p.sr.nw (nw b hb)⟩
theorem Qnr {elt iter:Expr} {px:Pos} {scope:Scope} {ifs:List Expr} {ix:List Nat} (h:Qcf X T m elt iter x px scope ifs ix w) (B:BlkScope X.env scope x)
  (hix:∀i∈ix,∃y,X.N[i]? = some y/\scope.names.lookup y=some .free) (hN:(bN X.N x ix).Nodup) (hc:X.calm=true:=by rfl)
  (hs:∀x,foldedSetIterable iter X.env x=pure x:=by intro _;rfl):EV X T m true (.ListComp elt [⟨.Name x px,iter,ifs,0⟩] scope pos) w:=by
 obtain ⟨wi,tt,te,h1,h2,h3,h4⟩:=h
 exact ⟨_,Qmz ix hc B hix hN h1 h2 h3 hs,h4⟩
theorem Qlx {elt iter:Expr} {y:Str} {px py spos:Pos} {scope:Scope} {ifs:List Expr} {ix:List Nat} {j:Nat} (h:Qcf X T m elt iter x px scope ifs ix w) (B:BlkScope X.env scope x) (hNd:X.N.Nodup)
  (hix:∀i∈ix,∃y,X.N[i]? = some y/\scope.names.lookup y=some .free) (hN:(bN X.N x ix).Nodup) (hj:X.N[j]? = some y:=by rfl) (hy:Loc X.env.scope y:=by first | exact Or.inl rfl | exact Or.inr rfl) (hio:j∉T.io:=by decide)
  (hsw:swapsWith (.ListComp elt [⟨.Name x px,iter,ifs,0⟩] scope pos) (some (.Name y py)) spos.line X.env=pure true:=by rfl)
  (hf:X.fn y=true\/X.env.scope.names.lookup y=some .local:=by first | exact .inl rfl | exact .inr rfl | assumption) (hc:X.calm=true:=by rfl)
  (hs:∀x,foldedSetIterable iter X.env x=pure x:=by intro _;rfl):SV X T (.Assign [.Name y py] (.ListComp elt [⟨.Name x px,iter,ifs,0⟩] scope pos) spos) (wSet j w):=by
 obtain ⟨wi,tt,te,h1,h2,h3,h4⟩:=h
 exact Qlv ⟨_,Qmo ix hc B hNd hj hy hsw hix hN h1 h2 h3 hf hs,h4⟩ hio
end
end PV
namespace PV
open PySem PySem.Spec L2
section
variable {X:Cx} {T:Tg} {m o m0 m1 m2 m3 o1 o2:Bool} {e a b:Expr} {w wa wb we:WE} {pos p2 p:Pos} {es:List Expr} {wr:WA} {x:Str} {wt:WT}
abbrev WO:=Env->(Option Int->Env->Prop)->Prop
def OV (X:Cx) (T:Tg) (m:Bool) (e:Option Expr) (w:WO):Prop :=
 ∃t,PO X e t/\∀(z:Nat->V) (R:Addr->Prop) (σ:St) (H:Hp) (W:Addr->Prop) (ρ:Env) (Q:Option Int->Env->Prop) (Q':Option Int->Hp->Prop),SR X.K T z R H W σ ρ->w ρ Q ->
  (∀b H' W' ρ',PostT X.K T z R m H W σ ρ H' W' ρ'->Q b ρ'->Q' b H')->t σ H Q'
def Qf5:WO:=λρ Q=>Q none ρ
def Qe0 (w:WE):WO:=λρ Q=>w ρ λd ρ'=>match d with
 | .int i=>Q (some i) ρ'
 | _=>False
theorem Qg7:OV X T false none Qf5:=⟨_,Qmr,λz R σ H W ρ Q Q' s hw k=>k none H W ρ ⟨s,FrW.refl H W,λ_=>⟨Same.refl H,rfl,rfl⟩⟩ hw⟩
theorem X7 (h:EV X T m o e w):OV X T m (some e) (Qe0 w):=by
 obtain ⟨t,pt,g⟩:=h
 refine ⟨_,Qmq pt,λz R σ H W ρ Q Q' s hw k=>g z R σ H W ρ _ _ s hw λv H1 W1 d ρ1 F p q=>?_⟩
 cases d with
 | int i=>exact ⟨i,Ql6 p.rep,k (some i) H1 W1 ρ1 ⟨p.sr,p.fr,p.calm⟩ q⟩
 | _=>exact q.elim
def cutD (xs:List D) (lo hi:Option Int):List D:=(xs.drop (HT.sIx xs.length 0 lo)).take (HT.sIx xs.length xs.length hi-HT.sIx xs.length 0 lo)
def dSl:D->Option Int->Option Int->(D->Prop)->Prop
 | .lst xs,lo,hi,k=>Qm xs=true/\k (.lst (cutD xs lo hi))
 | .kls xs,lo,hi,k=>Qm xs=true/\k (.lst (cutD xs lo hi))
 | .tup xs,lo,hi,k=>Qm xs=true/\¬(HT.sIx xs.length 0 lo=0/\HT.sIx xs.length xs.length hi=xs.length)/\k (.tup (cutD xs lo hi))
 | _,_,_,_=>False
theorem Reps.cut {K:PySem.W.Frag} {H:Hp} {ds:List D} {xs:List V} {lo hi:Option Int} (r:Reps K H ds xs []):Reps K H (cutD ds lo hi) (cutV xs lo hi) []:=by
 unfold cutD cutV
 rw [r.length]
 obtain ⟨G,r1,s1⟩:=r.drop (HT.sIx ds.length 0 lo)
 obtain ⟨G',r2,s2⟩:=r1.take (HT.sIx ds.length ds.length hi-HT.sIx ds.length 0 lo)
 have:=List.sublist_nil.mp s1
 subst this
 have:=List.sublist_nil.mp s2
 subst this
 exact r2
theorem Qoh:SlR X (λx lo hi H Q=>rSlL X.K x lo hi H Q\/rSlT X.K x lo hi H Q):=SlR.or Qlz Qog
def wSl (w:WE) (wl wh:WO):WE:=λρ Q=>w ρ λd ρ1=>wl ρ1 λlo ρ2=>wh ρ2 λhi ρ3=>dSl d lo hi λd'=>Q d' ρ3
theorem Qnq {lo hi:Option Expr} {wl wh:WO} (he:EV X T m1 o1 e w) (hl:OV X T m2 lo wl) (hh:OV X T m3 hi wh) (hc:o1=true\/(m2 || m3)=false:=by first | exact .inl rfl | exact .inr rfl) :
  EV X T (m1 || (m2 || m3)) true (.Subscript e (.Slice lo hi none p2) pos) (wSl w wl wh):=by
 obtain ⟨te,pe,ge⟩:=he
 obtain ⟨tl,pl,gl⟩:=hl
 obtain ⟨th,ph,gh⟩:=hh
 refine ⟨_,Qjk Qoh pe pl ph,λz R σ H W ρ Q Q' s hw k=>?_⟩
 refine ge z R σ H W ρ _ _ s hw λv H1 W1 d ρ1 F p q=>?_
 refine gl z R σ H1 W1 ρ1 _ _ p.sr q λlo H2 W2 ρ2 p2 q2=>?_
 refine gh z R σ H2 W2 ρ2 _ _ p2.sr q2 λhi H3 W3 ρ3 p3 q3=>?_
 have pp:=p2.seq p3
 have r3:Rep X.K H3 d v F:=by
  rcases hc with hc | hc
  ·exact p.rep.keep pp.fr λa h=>((p.own hc).2 a h).2
  ·exact p.rep.same (pp.calm hc).1
 have fin:∀ad d' v' Fn,Fin X.K H3 ad d' v' Fn->Q d' ρ3->Q' v' ad:=λH' d' v' F' fi hq=>by
  refine k v' H' W3 d' ρ3 F' (Post.fin p3.sr (p.fr.trans pp.fr) (λh=>?_) fi.same fi.rep fi.nd fi.new) hq
  rw [Bool.or_eq_false_iff] at h
  obtain ⟨a1,a2,a3⟩:=p.calm h.1
  obtain ⟨b1,b2,b3⟩:=pp.calm h.2
  exact ⟨a1.trans b1,b2.trans a2,b3.trans a3⟩
 match d,r3,q3 with
 | .lst ds,r3,q3 =>
  cases r3 with
  | @lst a xs _ F e1 r9 =>
   obtain ⟨hp,hq⟩:=q3
   obtain ⟨_,r9⟩:=r9.pure hp
   exact .inl ⟨a,xs,rfl,.of e1,λl hl=>fin _ _ _ [l] ⟨Qi hl,.lst Qb (r9.cut.same (Qi hl)),by simp,λb m=>by rw [List.mem_singleton.mp m];exact hl⟩ hq⟩
 | .kls ds,r3,q3 =>
  cases r3 with
  | @kls a xs _ e1 r9 =>
   obtain ⟨hp,hq⟩:=q3
   exact .inl ⟨a,xs,rfl,e1.sq,λl hl=>fin _ _ _ [l] ⟨Qi hl,.lst Qb (r9.cut.same (Qi hl)),by simp,λb m=>by rw [List.mem_singleton.mp m];exact hl⟩ hq⟩
 | .tup ds,r3,q3 =>
  cases r3 with
  | @tup a xs _ F e1 r9 =>
   obtain ⟨hp,hn,hq⟩:=q3
   obtain ⟨_,r9⟩:=r9.pure hp
   refine .inr ⟨a,xs,rfl,.of e1,by rw [r9.length];exact hn,λl hl=>fin _ _ _ [] ⟨Qi hl,.tup Qb (r9.cut.same (Qi hl)),by simp,λb m=>nomatch m⟩ hq⟩
def Qid:GA
 | [.int j],k=>0<=j/\j<=1000/\k (.lst (rngD 0 j.toNat))
 | _,_=>False
theorem Qbw {p3 p4 pos2:Pos} (hm:X.mg "range" = none) (hm2:X.mg "list" = none) (ha:AV X T m o [a] wr) (hg:Gl X "range":=by rfl) (hg2:Gl X "list":=by rfl) (hc:X.calm=true:=by rfl) (hs:starEach [a] X.env=[(false,eval a X.env)]:=by rfl)
  (hs2:starEach [.Call (.Name "range" p4) [a] [] pos2] X.env=(false,eval (.Call (.Name "range" p4) [a] [] pos2) X.env)::starEach [] X.env:=by rfl) :
  EV X T m true (.Call (.Name "list" p3) [.Call (.Name "range" p4) [a] [] pos2] [] pos) (Qn Qid wr):=by
 obtain ⟨ta,pa,ga⟩:=ha
 refine ⟨_,Qbi (Qas hc) hg2 hm2 (by rfl) (Yw (Qg4 hg hm pa hs) Us hs2),λz R σ H W ρ Q Q' s hw k=>?_⟩
 refine ga z R σ H W ρ _ _ s hw λvs H1 W1 ds ρ1 F p q=>?_
 obtain ⟨j,rfl⟩:∃j,ds=[D.int j]:=by
  clear p
  cases ds with
  | nil=>exact (show False from q).elim
  | cons d0 r0 =>
   cases r0 with
   | nil =>
    cases d0 with
    | int j=>exact ⟨j,rfl⟩
    | _=>exact (show False from q).elim
   | cons _ _=>cases d0 <;> exact (show False from q).elim
 obtain ⟨v,rfl,rd⟩:=p.rep.at1
 cases rd
 refine ⟨j,rfl,λr hr=>⟨r,j,rfl,Qb,q.1,q.2.1,λl hl=>?_⟩⟩
 have s12:Same H1 (upd (upd H1 r (.rng 0 j)) l (.lst ((List.range j.toNat).map λi=>.int (i:Nat)))):=(Qi hr).trans (Qi hl)
 refine k _ _ W1 (.lst (rngD 0 j.toNat)) ρ1 [l] (Post.fin p.sr p.fr p.calm s12 (.lst Qb ?_) (by simp) λb mb=>by rw [List.mem_singleton.mp mb];exact (Qi hr).free hl) q.2.2
 have e1:rngD 0 j.toNat=((List.range j.toNat).map λ(i:Nat)=>(i:Int)).map D.int:=by simp [rngD]
 have e2:((List.range j.toNat).map λ(i:Nat)=>V.int (i:Nat))=((List.range j.toNat).map λ(i:Nat)=>(i:Int)).map V.int:=by simp
 rw [e1,e2]
 exact Reps.ints _
def Qlp (w:WE):WL:=λρ Q=>w ρ λd ρ'=>match d with
 | .dik kvs=>Q (kvs.map (·.2)) ρ'
 | _=>False
theorem RepK.get {K:PySem.W.Frag} {H:Hp}:∀{ds:List (Key × D)} {xs:List (Key × V)} {F:List Addr} {i:Nat} {k:Key} {v:V},RepK K H ds xs F->xs[i]? = some (k,v)->∃d B,ds[i]? = some (k,d)/\Rep K H d v B/\B.Sublist F
 | [],_,_,_,_,_,r,h=>by cases r;simp at h
 | d::ds,_,_,i,_,_,r,h=>by
  cases r with
  | @cons j d v _ vs F G p r =>
   cases i with
   | zero =>
    simp at h
    obtain ⟨rfl,rfl⟩:=h
    exact ⟨d,F,rfl,p,List.sublist_append_left _ _⟩
   | succ i =>
    obtain ⟨d',B,h1,h2,h3⟩:=RepK.get r (i:=i) (by simpa using h)
    exact ⟨d',B,by simpa using h1,h2,h3.trans (List.sublist_append_right _ _)⟩
theorem Qnm {tg oe:Expr} {apos cpos:Pos} (h:EV X T m true oe w) (hbase:attributeBase oe "values" X.env (eval oe X.env)=eval oe X.env:=by rfl) (hline:(apos.endLine == cpos.line)=true:=by rfl):IV X T m true tg (.Call (.Attribute oe "values" apos) [] [] cpos) (Qlp w):=by
 obtain ⟨te,pe,ge⟩:=h
 refine ⟨_,Qmt pe hbase hline,λz R σ H W ρ Q RR s hw k=>?_⟩
 refine ge z R σ H W ρ _ _ s hw λv H1 W1 d ρ1 F p q=>?_
 obtain ⟨es,rfl⟩:∃es,d=D.dik es:=by
  clear p
  cases d with
  | dik es=>exact ⟨es,rfl⟩
  | _=>exact (show False from q).elim
 obtain ⟨p1,p2,p3,p4,p5⟩:=p
 obtain ⟨nd,kF⟩:=p5 rfl
 cases p4 with
 | @dik dd kvs _ F e1 r =>
  have hd0:=kF dd List.mem_cons_self
  obtain ⟨nF,ndF⟩:=List.nodup_cons.mp nd
  refine ⟨dd,kvs,rfl,e1,λob=>k _ _ W1 (es.map (·.2)) ρ1 ⟨?_,?_,λh=>?_⟩ ?_ q⟩
  ·-- the state: nobody's address
   obtain ⟨fp,s1⟩:=p1
   have hi:ImmK H1 (upd H1 dd (.frz ob (.dK kvs))):=Vg e1 rfl
   refine ⟨fp,s1.len,λa ha=>?_,λi d hl=>?_,s1.own,s1.ro,s1.wr,λa ha=>?_,s1.dis,s1.fix⟩
   ·have:a≠dd:=λz=>hd0.2 (z ▸ ha)
    rw [Qk this];exact s1.wd a ha
   ·obtain ⟨u,h1,h2⟩:=s1.at_ i d hl
    refine ⟨u,h1,h2.frame hi λa ha=>Qk λz=>?_⟩
    subst z
    cases hto:T.own i with
    | true=>exact hd0.2 ((s1.own i d hl hto).2 _ ha)
    | false=>exact s.nr hd0.1 (s1.ro i d hl hto _ ha)
   ·have:a≠dd:=λz=>s.nr hd0.1 (z ▸ ha)
    rw [Qk this];exact s1.rd a ha
  ·refine ⟨λb u e n=>?_,λb e=>?_,λb u e im=>?_,p2.new⟩
   ·have:b≠dd:=λz=>by rw [z,hd0.1] at e;cases e
    rw [Qk this];exact p2.keep b u e n
   ·by_cases hb:b=dd
    ·rw [hb,Qb] at e;cases e
    ·rw [Qk hb] at e;exact p2.dom b e
   ·have:b≠dd:=λz=>by rw [z,hd0.1] at e;cases e
    rw [Qk this];exact p2.imm b u e im
  ·obtain ⟨a1,a2,a3⟩:=p3 h
   refine ⟨λb u e=>?_,a2,a3⟩
   have:b≠dd:=λz=>by rw [z,hd0.1] at e;cases e
   rw [Qk this];exact a1 b u e
  ·rw [U9]
   intro i H2 W2 f
   have e2:H2 dd=some (.frz ob (.dK kvs)):=f.imm _ _ Qb rfl
   have hlen:kvs.length=es.length:=r.length
   refine ⟨λhi=>⟨e2,by rw [List.length_map] at hi;omega⟩,λd hd=>?_⟩
   have hi:i<es.length:=by have:=(List.getElem?_eq_some_iff.mp hd).1;rwa [List.length_map] at this
   refine ⟨⟨e2,by omega⟩,λv H3 y=>?_⟩
   obtain ⟨rfl,kk,hk⟩:=y
   obtain ⟨d',B,h1,h2,h3⟩:=r.get hk
   rw [List.getElem?_map,h1] at hd
   cases hd
   have hB:∀a∈B,¬W1 a:=λa ha=>(kF a (List.mem_cons_of_mem _ (h3.subset ha))).2
   have hBd:dd∉B:=λhb=>nF (h3.subset hb)
   have h2':=(h2.upd (ob':=.frz ob (.dK kvs)) e1 rfl hBd)
   refine ⟨Same.refl _,B,h2'.keep f hB,λa ha hw=>?_⟩
   rcases f.new a hw with h | h
   ·exact hB a ha h
   ·obtain ⟨ob,e3,_⟩:=h2'.dom a ha
    rw [h] at e3;cases e3
theorem SR0.see {K:PySem.W.Frag} {z:Nat->V} {R:Addr->Prop} {H:Hp} {W:Addr->Prop} {σ:St} {ρ:Env} {fp:Nat->List Addr} {i:Nat} {d:D} {v:V} {F:List Addr} (s:SR0 K T z R H W σ ρ fp) (hio:i∉T.io) (ht:T.own i=false) (r:Rep K H d v F) (nw:∀a∈F,¬W a) :
  SR K T z (λa=>R a\/a∈F) H W (σ.set i (some v)) (ρ.set i (some d)):=by
 refine ⟨λj=>if j=i then F else fp j,?_,s.wd,?_,?_,?_,?_,?_,?_,?_⟩
 ·rw [List.length_set,List.length_set];exact s.len
 ·intro j e hj
  rw [Jh] at hj
  split at hj
  ·rename_i h
   obtain ⟨rfl,hlt⟩:=h
   cases hj
   exact ⟨v,by rw [List.getElem?_set_self (by rw [← s.len];exact hlt)],by rw [if_pos rfl];exact r⟩
  ·rename_i h
   obtain ⟨u,h1,h2⟩:=s.at_ j e hj
   have hji:j≠i:=λz=>h ⟨z,by rw [← z];exact Ve hj⟩
   exact ⟨u,by rw [List.getElem?_set_ne (Ne.symm hji)];exact h1,by rw [if_neg hji];exact h2⟩
 ·intro j e hj hto
  have hji:j≠i:=λz=>by subst z;rw [ht] at hto;cases hto
  rw [Qp hji] at hj
  simp only [if_neg hji]
  exact s.own j e hj hto
 ·intro j e hj hto
  by_cases hji:j=i
  ·subst hji;simp only [if_pos];exact λa h=>.inr h
  ·rw [Qp hji] at hj
   simp only [if_neg hji]
   exact λa h=>.inl (s.ro j e hj hto a h)
 ·intro a ha hr
  rcases hr with hr | hr
  ·exact s.wr a ha hr
  ·exact nw a hr ha
 ·intro a hr
  rcases hr with hr | hr
  ·exact s.rd a hr
  ·exact r.dom a hr
 ·intro j k e e' hj hk tj tk hne a ha ha'
  have hji:j≠i:=λz=>by subst z;rw [ht] at tj;cases tj
  have hki:k≠i:=λz=>by subst z;rw [ht] at tk;cases tk
  rw [Qp hji] at hj
  rw [Qp hki] at hk
  simp only [if_neg hji] at ha
  simp only [if_neg hki] at ha'
  exact s.dis j k e e' hj hk tj tk hne a ha ha'
 ·intro j hj
  have hji:j≠i:=λz=>hio (z ▸ hj)
  rw [List.getElem?_set_ne (Ne.symm hji)]
  exact s.fix j hj
def Qix (wl:WL) (i₀:Nat) (wb:WS):WS:=λP ρ=>wl ρ λds ρ1=>∃I:Nat->Env->Prop,I 0 ρ1 /\
 (∀i d ρ,ds[i]? = some d->I i ρ->wb { P with nx:=I (i+1),ct:=I (i+1),bk:=P.nx } (ρ.set i₀ (some d)))/\∀ρ,I ds.length ρ->P.nx ρ
theorem Qgl {iter:Expr} {body:List Stmt} {wl:WL} {ws:WS} {i₀:Nat} (hp:PassesOwn (model X.prog X.w) X.A X.env X.xe) (hi:IV X T m true (.Name x p) iter wl) (hb:SVs X T body ws) (hN:X.N.Nodup) (hi₀:X.N[i₀]? = some x:=by rfl) (ht:T.own i₀=false:=by rfl) (hio:i₀∉T.io:=by decide)
  (hx:Loc X.env.scope x:=by first | exact Or.inl rfl | exact Or.inr rfl) (hf:X.fn x=true\/X.env.scope.names.lookup x=some .local:=by first | exact .inl rfl | exact .inr rfl | assumption) (hc:X.calm=true:=by rfl)
  (hs:∀x,foldedSetIterable iter X.env x=pure x:=by intro _;rfl):SV X T (.For (.Name x p) iter body [] pos) (Qix wl i₀ ws):=by
 obtain ⟨ti,pi,gi⟩:=hi
 obtain ⟨tb,pb,gb⟩:=hb
 refine ⟨_,Qd4 hp hc pi (X6 hN hi₀ hx hf) pb hs,λz R σ H W ρ P E s hw l=>gi z R σ H W ρ _ _ s hw λJ H1 W1 ds ρ1 p jd q=>?_⟩
 rw [U9] at jd
 obtain ⟨I,h0,hI,hd⟩:=q
 refine ⟨λi n σ' H'=>n=ds.length-i/\i<=ds.length/\∃R' W' ρ',SR X.K T z R' H' W' σ' ρ'/\FrW H1 W1 H' W'/\I i ρ',⟨ds.length,by simp,Nat.zero_le _,R,W1,ρ1,p.sr,FrW.refl _ _,h0⟩,?_⟩
 rintro i n σ2 H2 ⟨rfl,hi,R2,W2,ρ2,s2,f2,i2⟩
 obtain ⟨j1,j2⟩:=jd i H2 W2 f2
 by_cases hlt:i<ds.length
 ·have hdi:ds[i]? = some ds[i]:=List.getElem?_eq_getElem hlt
  obtain ⟨hgo,hy⟩:=j2 _ hdi
  refine .inr ⟨hgo,λσ' H'=>i+1<=ds.length/\∃R' W' ρ',SR X.K T z R' H' W' σ' ρ'/\FrW H1 W1 H' W'/\I (i+1) ρ',λσ' H' ⟨h1,h2⟩=>⟨ds.length-(i+1),by omega,rfl,h1,h2⟩,λv H3 yl=>?_⟩
  obtain ⟨sm,F,rv,nw⟩:=hy v H3 yl
  have f3:FrW H1 W1 H3 W2:=f2.trans (FrW.same W2 sm)
  obtain ⟨fp,s3⟩:=s2.same sm
  refine gb z _ _ H3 W2 _ _ _ (s3.see hio ht rv nw) (hI i _ ρ2 hdi i2) ⟨?_,?_,?_,?_,?_⟩
  ·exact λR' σ' H' W' ρ' s' f' h=>⟨hlt,R',W',ρ',s',f3.trans f',h⟩
  ·exact λR' σ' H' W' ρ' s' f' h=>l.nx R' σ' H' W' ρ' s' ((p.fr.trans f3).trans f') h
  ·exact λR' σ' H' W' ρ' s' f' h=>⟨hlt,R',W',ρ',s',f3.trans f',h⟩
  ·exact ((l.step p.fr).step f3).rt
  ·exact ((l.step p.fr).step f3).xc
 ·have e:i=ds.length:=by omega
  subst e
  exact .inl ⟨j1 (Nat.le_refl _),l.nx R2 σ2 H2 W2 ρ2 s2 (p.fr.trans f2) (hd ρ2 i2)⟩
end
end PV
namespace PV
open PySem PySem.Spec L2
section
variable {κ:Type} [DecidableEq κ]
theorem Qgw {j k:κ} {d y:D} {r:List (κ × D)} (h:¬j=k):putD ((j,d)::r) k y=(j,d)::putD r k y:=by
 unfold putD
 by_cases q:(r.any λkv=>decide (kv.1=k))=true
 ·rw [if_pos (by rw [List.any_cons,q];simp),if_pos q,List.map_cons,if_neg h]
 ·rw [if_neg (by rw [List.any_cons];simp only [h,decide_false,Bool.false_or];exact q),if_neg q];rfl
theorem Qed {k:κ} {y:D}:∀{r:List (κ × D)},k∉r.map (·.1)->(r.map λkv=>if kv.1=k then (kv.1,y) else kv)=r
 | [],_=>rfl
 | p::r,h=>by
  simp only [List.map_cons,List.mem_cons,not_or] at h
  rw [List.map_cons,if_neg (λz=>h.1 z.symm),Qed h.2]
theorem Qgx {k:κ} {d y:D} {r:List (κ × D)} (h:k∉r.map (·.1)):putD ((k,d)::r) k y=(k,y)::r:=by
 unfold putD
 rw [if_pos (by rw [List.any_cons];simp),List.map_cons,if_pos rfl,Qed h]
end
section
variable {K:PySem.W.Frag} {H:Hp}
theorem RepK.app {k:Key} {xs:List D}:∀{ds:List (Key × D)} {kvs:List (Key × V)} {F:List Addr},RepK K H ds kvs F->F.Nodup->(ds.map (·.1)).Nodup->valD ds k=some (.lst xs) ->
  ∃l ys,valV kvs k=some (.ref l)/\H l=some (.lst ys)/\l∈F/\ys.length=xs.length/\∀v x,Rep K H x v []->RepK K (L2.upd H l (.lst (ys++[v]))) (putD ds k (.lst (xs++[x]))) kvs F
 | [],_,_,r,_,_,h=>by cases h
 | (j,d)::ds,_,_,r,nd,hk,h=>by
  cases r with
  | @cons _ _ v _ vs F G p r =>
   obtain ⟨n1,n2,n3⟩:=List.nodup_append.mp nd
   obtain ⟨k1,k2⟩:=List.nodup_cons.mp (show (j::ds.map (·.1)).Nodup from hk)
   rw [Jc] at h
   by_cases e:j=k
   ·subst e
    rw [if_pos rfl] at h
    cases h
    cases p with
    | @lst l ys _ F0 e1 r1 =>
     obtain ⟨nl,n0⟩:=List.nodup_cons.mp n1
     refine ⟨l,ys,Jf rfl,e1,List.mem_append.mpr (.inl List.mem_cons_self),r1.length,λv x rx=>?_⟩
     rw [Qgx k1]
     refine .cons (.lst Qb ?_) (r.upd e1 rfl λh=>n3 l List.mem_cons_self l h rfl)
     have:=(r1.upd (ob':=.lst (ys++[v])) e1 rfl nl).snoc (rx.upd e1 rfl (λh=>nomatch h))
     simpa using this
   ·rw [if_neg e] at h
    obtain ⟨l,ys,h1,h2,h3,h4,h5⟩:=RepK.app r n2 k2 h
    refine ⟨l,ys,by rw [Jg e];exact h1,h2,List.mem_append.mpr (.inr h3),h4,λv x rx=>?_⟩
    rw [Qgw e]
    exact .cons (p.upd h2 rfl λh=>n3 l h l h3 rfl) (h5 v x rx)
end
section
variable {X:Cx} {T:Tg} {m o m0 m1 m2 m3 o1 o2:Bool} {e a b:Expr} {w wa wb we:WE} {pos p2 p:Pos} {es:List Expr} {wr:WA} {x:Str} {wt:WT}
def Yo:D->Option Key
 | .int i=>some (.inl i)
 | .str i=>some (.inr i)
 | _=>none
theorem Rep.key {K:PySem.W.Frag} {H:Hp} {d:D} {v:V} {F:List Addr} {k:Key} (r:Rep K H d v F) (h:Yo d=some k):v=kV k:=by
 cases r <;> simp [Yo] at h <;> subst h <;> rfl
def Yz (kvs:List (Key × D)) (k:Key):List (Key × D):=if (valD kvs k).isNone then kvs++[(k,.lst [])] else kvs
def wSda (i:Nat) (wk wv:WE):WS:=λP ρ=>oget (look ρ i) λs=>match s with
 | .dik kvs=>kvs.length<sizeLine/\(kvs.map (·.1)).Nodup/\wk ρ λkd _=>oget (Yo kd) λk=>oget (valD (Yz kvs k) k) λl=>match l with
  | .lst xs=>xs.length<sizeLine/\wv (ρ.set i (some (.dik (Yz kvs k)))) λd _=>d.pure=true/\P.nx (ρ.set i (some (.dik (putD (Yz kvs k) k (.lst (xs++[d]))))))
  | _=>False
 | _=>False
theorem Qdx:∀{ρ:Env} {i:Nat} {d:D},look ρ i=some d->ρ.set i (some d)=ρ
 | [],_,_,h=>by simp [look] at h
 | a::r,0,d,h=>by simp only [look] at h;rw [h];rfl
 | a::r,i+1,d,h=>by simp only [List.set_cons_succ];rw [Qdx (ρ:=r) (i:=i) h]
theorem Qpp {κ:Type} [DecidableEq κ] {kvs:List (κ × D)} {k:κ} {d:D} (h:(kvs.map (·.1)).Nodup) (hn:valD kvs k=none):((kvs++[(k,d)]).map (·.1)).Nodup:=by
 rw [List.map_append]
 refine List.nodup_append.mpr ⟨h,by simp,λa ha b hb e=>?_⟩
 have hb':b=k:=by simpa using hb
 subst e hb'
 obtain ⟨q,hq,e⟩:=List.mem_map.mp ha
 have:(kvs.any λkv=>decide (kv.1=a))=true:=List.any_eq_true.mpr ⟨q,hq,decide_eq_true e⟩
 rw [Z0,hn] at this
 cases this
theorem Qkn {i:Nat} {ek ev:Expr} {wk wv:WE} {ap1 ap2 cp1 cp2 pl:Pos} (hk:EV X T false o1 ek wk) (hv:EV X T false o2 ev wv) (ht:T.own i=true:=by rfl) (hN:X.N[i]? = some x:=by rfl)
  (hvis:Vis X.env.scope x:=by first | exact Or.inl rfl | exact Or.inr (Or.inl rfl) | exact Or.inr (Or.inr rfl)) (hd:(x == ("__debug__" : Str))=false:=by decide) (hcd:(x == ("__classdict__" : Str))=false:=by decide)
  (b1:attributeBase (.Name x p) "setdefault" X.env (eval (.Name x p) X.env)=eval (.Name x p) X.env:=by rfl)
  (f1:((backTo cp1 (starEach [ek,.List [] pl] X.env)).all (λx=>!x.1) && (backToKw cp1 (keywordEach [] X.env)).all (λx=>x.1.isSome)
   && decide (([ek,.List [] pl]:List Expr).length+([]:List Keyword).length+(if ([]:List Keyword).isEmpty then 0 else 1)<30))=true:=by rfl)
  (l1:(ap1.endLine == cp1.line)=true:=by rfl) (s1:starEach [ek,.List [] pl] X.env=(false,eval ek X.env)::starEach [.List [] pl] X.env:=by rfl) (s1':starEach [.List [] pl] X.env=(false,eval (.List [] pl) X.env)::starEach [] X.env:=by rfl) (q1:(backTo cp1 (starEach [.List [] pl] X.env)).any (·.1)=false:=by rfl)
  (b2:attributeBase (.Call (.Attribute (.Name x p) "setdefault" ap1) [ek,.List [] pl] [] cp1) "append" X.env (eval (.Call (.Attribute (.Name x p) "setdefault" ap1) [ek,.List [] pl] [] cp1) X.env)=eval (.Call (.Attribute (.Name x p) "setdefault" ap1) [ek,.List [] pl] [] cp1) X.env:=by rfl)
  (f2:((backTo cp2 (starEach [ev] X.env)).all (λx=>!x.1) && (backToKw cp2 (keywordEach [] X.env)).all (λx=>x.1.isSome)
   && decide (([ev]:List Expr).length+([]:List Keyword).length+(if ([]:List Keyword).isEmpty then 0 else 1)<30))=true:=by rfl)
  (l2:(ap2.endLine == cp2.line)=true:=by rfl) (s2:starEach [ev] X.env=(false,eval ev X.env)::starEach [] X.env:=by rfl) (q2:(backTo cp2 (starEach [] X.env)).any (·.1)=false:=by rfl)
  (hs:swapsWith (.Call (.Attribute (.Call (.Attribute (.Name x p) "setdefault" ap1) [ek,.List [] pl] [] cp1) "append" ap2) [ev] [] cp2) none pos.line X.env=pure false:=by rfl) :
  SV X T (.Expr (.Call (.Attribute (.Call (.Attribute (.Name x p) "setdefault" ap1) [ek,.List [] pl] [] cp1) "append" ap2) [ev] [] cp2) pos) (wSda i wk wv):=by
 obtain ⟨tk,pk,gk⟩:=hk
 obtain ⟨tv,pv,gv⟩:=hv
 refine ⟨_,Gj (Qfd PySem.F.plainAttrs_list PySem.F.slot_list_append PySem.F.type_list_append Zg (Qfd PySem.F.plainAttrs_dict PySem.F.slot_dict_setdefault PySem.F.type_dict_setdefault Qaa (Jt hN hvis hd hcd) (Yw pk (Yw (Qk0 Us) Us s1') s1) b1 f1 l1 s1 q1) (Yw pv Us s2) b2 f2 l2 s2 q2) hs,λz R σ H W ρ P E s hw l=>?_⟩
 obtain ⟨sd,hl0,hw⟩:=Qg hw
 obtain ⟨kvs,rfl⟩:∃kvs,sd=D.dik kvs:=by
  clear hl0
  cases sd with
  | dik kvs=>exact ⟨kvs,rfl⟩
  | _=>exact (show False from hw).elim
 obtain ⟨hz,hnd,hw⟩:=hw
 obtain ⟨fp,s0⟩:=id s
 obtain ⟨v0,hv0,r0⟩:=s0.at_ i _ hl0
 refine ⟨v0,hv0,Qkl r0 (t:="dict") rfl,?_⟩
 refine gk z R σ H W ρ _ _ s hw λvk H1 W1 kd ρ1 Fk p q=>?_
 obtain ⟨sm1,hW1,hρ1⟩:=p.calm rfl
 subst hW1 hρ1
 obtain ⟨k,hkey,q⟩:=Qg q
 have ek:=p.rep.key hkey
 subst ek
 obtain ⟨ld,hval,q⟩:=Qg q
 obtain ⟨xs,rfl⟩:∃xs,ld=D.lst xs:=by
  clear hval
  cases ld with
  | lst xs=>exact ⟨xs,rfl⟩
  | _=>exact (show False from q).elim
 obtain ⟨hxz,q⟩:=q
 -- what is to be done with the list that comes
 have fin:∀(Hs:Hp) (Ws:Addr->Prop) (y:V),SR X.K T z R Hs Ws σ (ρ1.set i (some (.dik (Yz kvs k))))->FrW H W1 Hs Ws->((Yz kvs k).map (·.1)).Nodup->(∀a kv,v0=.ref a->Hs a=some (.dK kv)->valV kv k=some y) ->
   tyV X.K "list" y Hs/\Qoe tv tNil σ Hs λxs H2=>Qgu y xs H2 λ_ H1=>E.nx σ H1:=λHs Ws y ss fs hns hy=>by
  obtain ⟨fpS,sS⟩:=id ss
  have hlS:look (ρ1.set i (some (.dik (Yz kvs k)))) i=some (.dik (Yz kvs k)):=Ye (Ve hl0)
  obtain ⟨vS,hvS,rS⟩:=sS.at_ i _ hlS
  have:vS=v0:=by rw [hv0] at hvS;cases hvS;rfl
  subst this
  obtain ⟨ndS,swS⟩:=sS.own i _ hlS ht
  have app:∃(l:Addr) (ys:List V) (a:Addr) (kvS:List (Key × V)),y=.ref l/\Hs l=some (.lst ys)/\vS=.ref a/\Hs a=some (.dK kvS):=by
   generalize fpS i=Fi at rS ndS
   cases rS with
   | @dik a kv _ F e1 r =>
    obtain ⟨na,nF⟩:=List.nodup_cons.mp ndS
    obtain ⟨l,ys,h1,h2,_⟩:=r.app nF hns hval
    have:=hy a kv rfl e1
    rw [h1] at this
    cases this
    exact ⟨l,ys,a,kv,rfl,h2,rfl,e1⟩
  obtain ⟨l0,ys0,aS,kvS,rfl,hl0',rfl,eS⟩:=app
  refine ⟨.inl ⟨rfl,_,.of hl0'⟩,?_⟩
  refine gv z R σ Hs Ws _ _ _ ss q λvd H2 W2 d ρ2 Fd pd ⟨hp,qn⟩=>?_
  obtain ⟨sm2,hW2,hρ2⟩:=pd.calm rfl
  subst hW2 hρ2
  obtain ⟨_,rd⟩:=pd.rep.pure hp
  obtain ⟨fp2,s2⟩:=id pd.sr
  obtain ⟨v2,hv2,r2⟩:=s2.at_ i _ hlS
  have:v2=.ref aS:=by rw [hvS] at hv2;cases hv2;rfl
  subst this
  obtain ⟨nd2,sw2⟩:=s2.own i _ hlS ht
  have h2l:H2 l0=some (.lst ys0):=sm2 _ _ hl0'
  have fin2:∃(ys:List V) (F':List Addr),H2 l0=some (.lst ys)/\ys.length=xs.length/\l0∈fp2 i/\Rep X.K (upd H2 l0 (.lst (ys++[vd]))) (.dik (putD (Yz kvs k) k (.lst (xs++[d])))) (.ref aS) F'/\F'=fp2 i:=by
   generalize fp2 i=Fi at r2 nd2
   cases r2 with
   | @dik a kv _ F e1 r =>
    obtain ⟨na,nF⟩:=List.nodup_cons.mp nd2
    obtain ⟨l,ys,h1,h2,h3,h4,h5⟩:=r.app nF hns hval
    have hkv:kv=kvS:=by
     have:=sm2 _ _ eS
     rw [e1] at this
     cases this
     rfl
    subst hkv
    have:=hy aS kv rfl eS
    rw [h1] at this
    cases this
    have hne:aS≠l0:=λz=>na (z ▸ h3)
    exact ⟨ys,_,h2,h4,List.mem_cons_of_mem _ h3,.dik (by rw [Qk hne];exact e1) (h5 vd d rd),rfl⟩
  obtain ⟨ys,F',h1,h2,h3,h4,rfl⟩:=fin2
  refine ⟨l0,ys,vd,rfl,rfl,h1,by rw [h2];exact hxz,?_⟩
  have hWl:=sw2 l0 h3
  have sF:=s2.write hlS ht hv2 h3 Q8 ⟨_,Qb,rfl⟩ h4 nd2 (λa ha=>.inl ha)
  have fF:=(fs.trans pd.fr).write hWl (s2.wd l0 hWl) (H':=upd H2 l0 (.lst (ys++[vd]))) Q8 ⟨_,Qb,rfl⟩ (F':=fp2 i) (λa ha=>.inl (sw2 a ha))
  rw [List.set_set] at sF
  exact l.nx R σ _ _ _ sF fF qn
 refine ⟨Nat.zero_le _,λpn hpn=>?_⟩
 have smn:Same H1 (upd H1 pn (.lst [])):=Qi hpn
 have sn:=p.sr.same smn
 have fn1:FrW H W1 (upd H1 pn (.lst [])) W1:=p.fr.trans (FrW.same W1 smn)
 obtain ⟨fp1,s1⟩:=id sn
 obtain ⟨v1,hv1,r1⟩:=s1.at_ i _ hl0
 have:v1=v0:=by rw [hv0] at hv1;cases hv1;rfl
 subst this
 obtain ⟨nd1,sw1⟩:=s1.own i _ hl0 ht
 have hpnW:¬W1 pn:=p.sr.nw hpn
 have hpnR:¬R pn:=p.sr.nr hpn
 have hpn0:H pn=none:=sm1.free hpn
 have rep1:∃(a:Addr) (kv:List (Key × V)) (F:List Addr),v1=.ref a/\upd H1 pn (.lst []) a=some (.dK kv)/\RepK X.K (upd H1 pn (.lst [])) kvs kv F/\fp1 i=a::F:=by
  generalize fp1 i=Fi at r1
  cases r1 with
  | @dik a kv _ F e1 r=>exact ⟨a,kv,F,rfl,e1,r,rfl⟩
 obtain ⟨a,kv,F,rfl,e1,r,hfp⟩:=rep1
 rw [hfp] at nd1 sw1
 obtain ⟨na,nF⟩:=List.nodup_cons.mp nd1
 refine ⟨a,kv,k,.ref pn,rfl,rfl,e1,by rw [r.length];exact hz,λy hy=>?_,λhn=>?_⟩
 ·have hs:(valD kvs k).isNone=false:=by
   rcases r.val k with ⟨_,h2⟩ | ⟨d,v,B,h1,_⟩
   ·rw [hy] at h2;cases h2
   ·rw [h1];rfl
  have e2:Yz kvs k=kvs:=by unfold Yz;rw [hs];rfl
  refine fin _ W1 y ?_ fn1 (by rw [e2];exact hnd) λa' kv' ea ha=>?_
  ·rw [e2,Qdx hl0];exact sn
  ·cases ea
   rw [e1] at ha
   cases ha
   exact hy
 ·have hs:valD kvs k=none:=by
   rcases r.val k with ⟨h1,_⟩ | ⟨d,v,B,_,h2,_⟩
   ·exact h1
   ·rw [hn] at h2;cases h2
  have e2:Yz kvs k=kvs++[(k,.lst [])]:=by unfold Yz;rw [hs];rfl
  have hapn:a≠pn:=λz=>hpnW (z ▸ sw1 a List.mem_cons_self)
  have hput:=Qja (V.ref pn) hn
  have rN:Rep X.K (upd (upd H1 pn (.lst [])) a (.dK (putK kv k (.ref pn)))) (.dik (Yz kvs k)) (.ref a) (a::(F++[pn])):=by
   rw [e2,hput]
   refine .dik Qb ((r.upd e1 rfl na).append ?_)
   have:Rep X.K (upd (upd H1 pn (.lst [])) a (.dK (kv++[(k,.ref pn)]))) (.lst []) (.ref pn) [pn]:=.lst (by rw [Qk (Ne.symm hapn),Qb]) .nil
   have:=RepK.cons (k:=k) this .nil
   simpa using this
  have ndN:(a::(F++[pn])).Nodup:=by
   refine List.nodup_cons.mpr ⟨λh=>?_,Vt nF (by simp) λb hb hf=>?_⟩
   ·rcases List.mem_append.mp h with h | h
    ·exact na h
    ·exact hapn (List.mem_singleton.mp h)
   ·rw [List.mem_singleton.mp hb] at hf
    exact hpnW (sw1 pn (List.mem_cons_of_mem _ hf))
  have hWa:=sw1 a List.mem_cons_self
  have sN:=s1.write hl0 ht hv1 (by rw [hfp];exact List.mem_cons_self) Q8 ⟨_,Qb,rfl⟩ rN ndN (λb hb=>by
   rcases List.mem_cons.mp hb with rfl | hb
   ·exact .inl (by rw [hfp];exact List.mem_cons_self)
   ·rcases List.mem_append.mp hb with hb | hb
    ·exact .inl (by rw [hfp];exact List.mem_cons_of_mem _ hb)
    ·rw [List.mem_singleton.mp hb];exact .inr ⟨hpnW,hpnR⟩)
  have fN:=fn1.write (H':=upd (upd H1 pn (.lst [])) a (.dK (putK kv k (.ref pn)))) (F':=a::(F++[pn])) hWa (s1.wd a hWa) Q8 ⟨_,Qb,rfl⟩ (λb hb=>by
   rcases List.mem_cons.mp hb with rfl | hb
   ·exact .inl hWa
   ·rcases List.mem_append.mp hb with hb | hb
    ·exact .inl (sw1 b (List.mem_cons_of_mem _ hb))
    ·rw [List.mem_singleton.mp hb];exact .inr hpn0)
  refine fin _ _ (.ref pn) sN fN (by rw [e2];exact Qpp hnd hs) λa' kv' ea ha=>?_
  cases ea
  rw [Qb] at ha
  cases ha
  rw [Qiz,if_pos rfl]
end
end PV
namespace PV
open PySem PySem.Spec L2
section
variable {X:Cx} {T:Tg} {m o m0 m1 m2 m3 o1 o2:Bool} {e a b:Expr} {w wa wb we:WE} {pos p2 p:Pos} {es:List Expr} {wr:WA} {x:Str} {wt:WT}
variable {rest:List Expr}
end
end PV
namespace PV
open PySem PySem.Spec L2
theorem V6:bootBuiltins "sorted" = some (.builtin "sorted"):=by decide +kernel
theorem Yf:bootBuiltins "isinstance" = some (.builtin "isinstance"):=by decide +kernel
theorem Qqz:bootBuiltins "min" = some (.builtin "min"):=by decide +kernel
theorem Uw:bootBuiltins "len" = some (.builtin "len"):=by decide +kernel
theorem Qle:bootBuiltins "int" = some (.type "int"):=by decide +kernel
theorem Qn6:bootBuiltins "bool" = some (.type "bool"):=by decide +kernel
theorem Qau:bootBuiltins "list" = some (.type "list"):=by decide +kernel
theorem Qat:bootBuiltins "tuple" = some (.type "tuple"):=by decide +kernel
def Jv (w:WE):WE:=λρ Q=>w ρ λd ρ'=>d.pure=true/\Q d ρ'
def Cal (P:Program) (w:World) (K:PySem.W.Frag) (mg:Str->Option Value) (base:Heap) (x:Str) (k:Nat) (ps:List Str) (sp:Sp):Prop :=
 ∃f fd,FnOk P w K mg base CX0 k f fd ps sp/\mg x=some (.ref f)/\PySem.W.keepIn K (.ref f)=true/\Qa0 K fd ps []
section
variable {X:Cx} {T:Tg} {m o m0 m1 m2 m3 o1 o2:Bool} {e a b:Expr} {w wa wb we:WE} {pos p2 p:Pos} {es:List Expr} {wr:WA} {x:Str} {wt:WT} {k j:Nat} {ps:List Str}
theorem J1 (h:EV X T m o e w):EV X T m true e (Jv w):=h.lift
theorem V4 {g:GA} (C:Cal X.prog X.w X.K X.mg X.base x k ps (spR X.K g)) (hr:Room k X.A) (ha:AV X T m o (e::es) wr) (hg:Gl X x:=by rfl)
  (hdb:(x == ("__debug__" : Str))=false:=by decide) (he:starEach (e::es) X.env=(false,eval e X.env)::starEach es X.env:=by rfl) (hpl:(backTo pos (starEach es X.env)).any (·.1)=false:=by rfl) :
  EV X T m true (.Call (.Name x p) (e::es) [] pos) (Qn g wr):=by
 obtain ⟨f,fd,F,h1,h2,h3⟩:=C
 exact Qns F hr h1 h2 h3 ha hg hdb he hpl
theorem Jk {i q:Nat} {g:GI} {wi:WI} (C:Cal X.prog X.w X.K X.mg X.base x k ps (spI X.K q g)) (hr:Room k X.A) (ha:AI X T m i q (e::es) wi) (ht:T.own i=true:=by rfl) (hg:Gl X x:=by rfl)
  (hdb:(x == ("__debug__" : Str))=false:=by decide) (he:starEach (e::es) X.env=(false,eval e X.env)::starEach es X.env:=by rfl) (hpl:(backTo pos (starEach es X.env)).any (·.1)=false:=by rfl) :
  EV X T true true (.Call (.Name x p) (e::es) [] pos) (J8 i g wi):=by
 obtain ⟨f,fd,F,h1,h2,h3⟩:=C
 exact Qj0 F hr h1 h2 h3 ha ht hg hdb he hpl
def Qqx (sc scope:Scope) (N:List Str) (x:Str) (ix:List Nat):Bool :=
 (scope.kind == .function) && scope.names.all (λy=>y.2 != .cell) && scope.names.all (λy=>y.2 != .local || scope.names.lookup y.1 == some .local) && (scope.names.lookup x == some .local) &&
  scope.names.all (λy=>y.2 != .free || (sc.names.lookup y.1 == some .cell || sc.names.lookup y.1 == some .free)) &&
  ix.all (λi=>match N[i]? with | some y=>scope.names.lookup y == some .free | none=>false) && decide (bN N x ix).Nodup
structure CompB (X:Cx) (scope:Scope) (x:Str) (ix:List Nat):Prop where
 B:BlkScope X.env scope x
 hix:∀i∈ix,∃y,X.N[i]? = some y/\scope.names.lookup y=some .free
 hN:(bN X.N x ix).Nodup
theorem Yv {scope:Scope} {ix:List Nat} (sc:Scope) (N:List Str) (h:Qqx sc scope N x ix=true) (h1:X.env.scope=sc:=by rfl) (h2:X.N=N:=by rfl):CompB X scope x ix:=by
 subst h1 h2
 simp only [Qqx,Bool.and_eq_true,List.all_eq_true,Bool.or_eq_true,decide_eq_true_eq,beq_iff_eq,bne_iff_ne] at h
 obtain ⟨⟨⟨⟨⟨⟨a1,a2⟩,a3⟩,a4⟩,a5⟩,a6⟩,a7⟩:=h
 refine ⟨⟨a1,a2,λy hy e=>(a3 y hy).resolve_left (λz=>z e),a4,λy hy e=>(a5 y hy).resolve_left (λz=>z e)⟩,λi hi=>?_,a7⟩
 have:=a6 i hi
 cases q:X.N[i]? with
 | none=>rw [q] at this;cases this
 | some y =>
  rw [q] at this
  exact ⟨y,rfl,by simpa using this⟩
theorem Zx {elt iter:Expr} {px:Pos} {scope:Scope} {ifs:List Expr} {ix:List Nat} (h:Qcf X T m elt iter x px scope ifs ix w) (B:CompB X scope x ix) (hc:X.calm=true:=by rfl)
  (hs:∀x,foldedSetIterable iter X.env x=pure x:=by intro _;rfl):EV X T m true (.ListComp elt [⟨.Name x px,iter,ifs,0⟩] scope pos) w:=Qnr h B.B B.hix B.hN hc hs
theorem Qdw {elt iter:Expr} {y:Str} {px py spos:Pos} {scope:Scope} {ifs:List Expr} {ix:List Nat} {j:Nat} (h:Qcf X T m elt iter x px scope ifs ix w) (B:CompB X scope x ix) (hNd:X.N.Nodup)
  (hj:X.N[j]? = some y:=by rfl) (hy:Loc X.env.scope y:=by first | exact Or.inl rfl | exact Or.inr rfl) (hio:j∉T.io:=by decide)
  (hsw:swapsWith (.ListComp elt [⟨.Name x px,iter,ifs,0⟩] scope pos) (some (.Name y py)) spos.line X.env=pure true:=by rfl)
  (hf:X.fn y=true\/X.env.scope.names.lookup y=some .local:=by first | exact .inl rfl | exact .inr rfl | assumption) (hc:X.calm=true:=by rfl)
  (hs:∀x,foldedSetIterable iter X.env x=pure x:=by intro _;rfl):SV X T (.Assign [.Name y py] (.ListComp elt [⟨.Name x px,iter,ifs,0⟩] scope pos) spos) (wSet j w):=Qlx h B.B hNd B.hix B.hN hj hy hio hsw hf hc hs
end
end PV
namespace PV
open PySem PySem.Spec L2
section
variable {X:Cx} {T:Tg} {m o m0 m1 m2 m3 o1 o2:Bool} {e a b:Expr} {w wa wb we:WE} {pos p2 p:Pos} {es:List Expr} {wr:WA} {x y:Str} {wt:WT} {ws:WS}
end
end PV
namespace PV
open PySem PySem.Spec L2
section
variable {X:Cx} {T:Tg} {m o m0 m1 m2 m3 o1 o2:Bool} {e a b:Expr} {w wa wb we:WE} {pos p2 p:Pos} {es:List Expr} {wr:WA} {x y:Str} {wt:WT} {ws:WS}
end
end PV
namespace PV
open PySem PySem.Spec L2
open PySem.W (Dat kqdP kqdPs kqdOk)
section
variable {X:Cx}
end
end PV
namespace PV
open PySem PySem.Spec L2
section
variable {X:Cx} {T:Tg} {m o m0 m1 m2 m3 o1 o2:Bool} {e a b:Expr} {w wa wb we:WE} {pos p2 p:Pos} {es:List Expr} {wr:WA} {x y:Str} {wt:WT} {ws:WS}
end
end PV
namespace PV
open PySem PySem.Spec L2
section
variable {κ:Type} [DecidableEq κ]
theorem Qmi {j k:κ} {d y:V} {r:List (κ × V)} (h:¬j=k):putK ((j,d)::r) k y=(j,d)::putK r k y:=by
 unfold putK
 rw [List.any_cons,decide_eq_false h,Bool.false_or]
 split
 ·rw [List.map_cons,if_neg h]
 ·rfl
theorem Qbp {k:κ} {y:V}:∀{r:List (κ × V)},k∉r.map (·.1)->(r.map λkv=>if kv.1=k then (kv.1,y) else kv)=r
 | [],_=>rfl
 | p::r,h=>by
  rw [List.map_cons,List.mem_cons,not_or] at h
  rw [List.map_cons,if_neg (λz=>h.1 z.symm),Qbp h.2]
theorem Qmj {k:κ} {d y:V} {r:List (κ × V)} (h:k∉r.map (·.1)):putK ((k,d)::r) k y=(k,y)::r:=by
 unfold putK
 rw [if_pos (by rw [List.any_cons];simp),List.map_cons,if_pos rfl,Qbp h]
end
section
variable {K:PySem.W.Frag} {H:Hp}
theorem RepK.putO {k:Key} {d:D} {v:V} {B:List Addr} (hb:Rep K H d v B):∀{ds:List (Key × D)} {kvs:List (Key × V)} {F:List Addr},RepK K H ds kvs F->(ds.map (·.1)).Nodup->(F++B).Nodup ->
  ∃G,RepK K H (putD ds k d) (putK kvs k v) G/\G.Nodup/\∀a∈G,a∈F\/a∈B
 | [],_,_,r,_,nd=>by
  cases r
  refine ⟨B++[],.cons hb .nil,by simpa using nd,λa ha=>.inr (by simpa using ha)⟩
 | (j,e)::ds,_,_,r,hk,nd=>by
  cases r with
  | @cons _ _ u _ us F G p r =>
   obtain ⟨k1,k2⟩:=List.nodup_cons.mp (show (j::ds.map (·.1)).Nodup from hk)
   rw [List.append_assoc] at nd
   obtain ⟨n1,n2,n3⟩:=List.nodup_append.mp nd
   by_cases ej:j=k
   ·subst ej
    rw [Qgx k1,Qmj (by rw [r.keys];exact k1)]
    obtain ⟨m1,m2,m3⟩:=List.nodup_append.mp n2
    refine ⟨B++G,.cons hb r,List.nodup_append.mpr ⟨m2,m1,λa ha b hb e=>m3 b hb a ha e.symm⟩,λa ha=>?_⟩
    rcases List.mem_append.mp ha with h | h
    ·exact .inr h
    ·exact .inl (List.mem_append.mpr (.inr h))
   ·obtain ⟨G',h1,h2,h3⟩:=RepK.putO hb r k2 n2
    rw [Qgw ej,Qmi ej]
    refine ⟨F++G',.cons p h1,List.nodup_append.mpr ⟨n1,h2,λa ha b hb e=>?_⟩,λa ha=>?_⟩
    ·exact n3 a ha b (List.mem_append.mpr (h3 b hb)) e
    ·rcases List.mem_append.mp ha with h | h
     ·exact .inl (List.mem_append.mpr (.inl h))
     ·rcases h3 a h with h | h
      ·exact .inl (List.mem_append.mpr (.inr h))
      ·exact .inr h
end
section
variable {X:Cx} {T:Tg} {m o m0 m1 m2 m3 o1 o2:Bool} {e a b:Expr} {w wa wb we:WE} {pos p2 p:Pos} {es:List Expr} {wr:WA} {x y:Str} {wt:WT} {ws:WS}
def Qnv (d:D) (k:List (Key × D)->Prop):Prop:=match d with
 | .dik kvs=>k kvs
 | _=>False
def Qf3 (i:Nat) (wv wi:WE):WS:=λP ρ=>wv ρ λd ρ1=>(look ρ1 i).isSome=true/\wi ρ1 λc _=>oget (look ρ1 i) λs=>Qnv s λkvs=>kvs.length<sizeLine/\(kvs.map (·.1)).Nodup /\
 oget (Yo c) λk=>P.nx (ρ1.set i (some (.dik (putD kvs k d))))
theorem Qgk {i:Nat} {v ix:Expr} {wv wi:WE} {px ps':Pos} (hu:X.A.units+1<cLine) (hv:EV X T m1 true v wv) (hi:EV X T false o2 ix wi) (ht:T.own i=true:=by rfl) (hN:X.N[i]? = some x:=by rfl)
  (hvis:Vis X.env.scope x:=by first | exact Or.inl rfl | exact Or.inr (Or.inl rfl) | exact Or.inr (Or.inr rfl)) (hd:(x == ("__debug__" : Str))=false:=by decide) (hcd:(x == ("__classdict__" : Str))=false:=by decide)
  (ha:∀v,assign (.Subscript (.Name x px) ix ps') X.env v=(do
   let ov ← holding [v] (eval (.Name x px) X.env)
   let iv ← holding [v,ov] (eval ix X.env)
   standAt ps'
   holding [v,ov,iv] (setItem ov iv v)
   release [v,ov,iv] []):=by intro _;rfl) (hs:swapsWithSole [.Subscript (.Name x px) ix ps'] v pos.line X.env=pure false:=by rfl) (hw:swappedStores [.Subscript (.Name x px) ix ps'] v X.env=pure none:=by rfl)
  (h1:(assignEach [.Subscript (.Name x px) ix ps'] X.env).map (·.2)=[assign (.Subscript (.Name x px) ix ps') X.env]:=by rfl):SV X T (.Assign [.Subscript (.Name x px) ix ps'] v pos) (Qf3 i wv wi):=by
 obtain ⟨tv,pv,gv⟩:=hv
 obtain ⟨ti,pi,gi⟩:=hi
 refine ⟨_,Qgy pv (Qg3 (Jt hN hvis hd hcd) pi (X1 hu) ha) hs hw h1,λz R σ H W ρ P E s hw l=>?_⟩
 refine gv z R σ H W ρ _ _ s hw λv1 H1 W1 d ρ1 F1 p ⟨hso,q⟩=>?_
 obtain ⟨ndF,oF⟩:=p.own rfl
 obtain ⟨d0,hl0⟩:=Option.isSome_iff_exists.mp hso
 obtain ⟨fp0,s0⟩:=id p.sr
 obtain ⟨u,hu',_⟩:=s0.at_ i d0 hl0
 refine ⟨u,hu',gi z R σ H1 W1 ρ1 _ _ p.sr q λv2 H2 W2 c ρ2 F2 p2 q2=>?_⟩
 obtain ⟨sm,rfl,rfl⟩:=p2.calm rfl
 obtain ⟨d1,hl,q2⟩:=Qg q2
 obtain ⟨fp,s2⟩:=id p2.sr
 obtain ⟨u',hu2,ru⟩:=s2.at_ i d1 hl
 have:u'=u:=by rw [hu'] at hu2;cases hu2;rfl
 subst this
 have rv2:=p.rep.same sm
 obtain ⟨nd,sw⟩:=s2.own i d1 hl ht
 match d1,ru,q2,hl with
 | .dik ds,ru,q2,hl =>
 obtain ⟨hz,hk,q2⟩:=q2
 obtain ⟨k,hkey,hq⟩:=Qg q2
 have ek:=p2.rep.key hkey
 subst ek
 obtain ⟨a,kvs,G,rfl,e,r,hF⟩:∃(a:Addr) (kvs:List (Key × V)) (G:List Addr),u' = .ref a/\H2 a=some (.dK kvs)/\RepK X.K H2 ds kvs G/\fp i=a::G:=by
  generalize fp i=Fi at ru
  cases ru with
  | @dik a kv _ F e1 r=>exact ⟨a,kv,F,rfl,e1,r,rfl⟩
 rw [hF] at nd sw
 obtain ⟨na,ndG⟩:=List.nodup_cons.mp nd
 have hWa:=sw a List.mem_cons_self
 have naF:a∉F1:=λh=>(oF a h).2 hWa
 have ndGF:(G++F1).Nodup:=List.nodup_append.mpr ⟨ndG,ndF,λb hb c hc e=>(oF c hc).2 (e ▸ sw b (List.mem_cons_of_mem _ hb))⟩
 obtain ⟨G',rp,ndG',sub⟩:=RepK.putO (k:=k) (rv2.upd (ob':=.dK (putK kvs k v1)) e rfl naF) (r.upd (ob':=.dK (putK kvs k v1)) e rfl na) hk ndGF
 have naG':a∉G':=λh=>(sub a h).elim na naF
 refine ⟨a,_,rfl,DPut.k (k:=k) e (by rw [r.length];exact hz),?_⟩
 refine l.nx R σ _ _ _ (s2.write hl ht hu2 (by rw [hF];exact List.mem_cons_self) Q8 ⟨_,Qb,rfl⟩ (.dik Qb rp) (List.nodup_cons.mpr ⟨naG',ndG'⟩) λb hb=>?_) ((p.fr.trans p2.fr).write hWa (s2.wd a hWa) Q8 ⟨_,Qb,rfl⟩ λb hb=>?_) hq
 ·rcases List.mem_cons.mp hb with rfl | hb
  ·exact .inl (by rw [hF];exact List.mem_cons_self)
  ·rcases sub b hb with h | h
   ·exact .inl (by rw [hF];exact List.mem_cons_of_mem _ h)
   ·exact .inr ⟨(oF b h).2,s.nr (oF b h).1⟩
 ·rcases List.mem_cons.mp hb with rfl | hb
  ·exact .inl hWa
  ·rcases sub b hb with h | h
   ·exact .inl (sw b (List.mem_cons_of_mem _ h))
   ·exact .inr (oF b h).1
def Qk5 (d:D) (k:List D->Prop):Prop:=match d with
 | .lst xs=>k xs
 | _=>False
def wDka (i:Nat) (wk wv:WE):WS:=λP ρ=>oget (look ρ i) λs=>Qnv s λkvs=>(kvs.map (·.1)).Nodup/\wk ρ λkd _=>oget (Yo kd) λk=>oget (valD kvs k) λl=>Qk5 l λxs =>
 xs.length<sizeLine/\wv ρ λd _=>d.pure=true/\P.nx (ρ.set i (some (.dik (putD kvs k (.lst (xs++[d]))))))
theorem Qko {i:Nat} {ek ev:Expr} {wk wv:WE} {ps1 ap2 cp2:Pos} (hu:X.A.units+1<cLine) (hk:EV X T false o1 ek wk) (hv:EV X T false o2 ev wv) (ht:T.own i=true:=by rfl) (hN:X.N[i]? = some x:=by rfl)
  (hvis:Vis X.env.scope x:=by first | exact Or.inl rfl | exact Or.inr (Or.inl rfl) | exact Or.inr (Or.inr rfl)) (hd:(x == ("__debug__" : Str))=false:=by decide) (hcd:(x == ("__classdict__" : Str))=false:=by decide) (hs1:Qay ek:=by intro _ _;rfl)
  (b2:attributeBase (.Subscript (.Name x p) ek ps1) "append" X.env (eval (.Subscript (.Name x p) ek ps1) X.env)=eval (.Subscript (.Name x p) ek ps1) X.env:=by rfl)
  (f2:((backTo cp2 (starEach [ev] X.env)).all (λx=>!x.1) && (backToKw cp2 (keywordEach [] X.env)).all (λx=>x.1.isSome)
   && decide (([ev]:List Expr).length+([]:List Keyword).length+(if ([]:List Keyword).isEmpty then 0 else 1)<30))=true:=by rfl)
  (l2:(ap2.endLine == cp2.line)=true:=by rfl) (s2:starEach [ev] X.env=(false,eval ev X.env)::starEach [] X.env:=by rfl) (q2:(backTo cp2 (starEach [] X.env)).any (·.1)=false:=by rfl)
  (hs:swapsWith (.Call (.Attribute (.Subscript (.Name x p) ek ps1) "append" ap2) [ev] [] cp2) none pos.line X.env=pure false:=by rfl) :
  SV X T (.Expr (.Call (.Attribute (.Subscript (.Name x p) ek ps1) "append" ap2) [ev] [] cp2) pos) (wDka i wk wv):=by
 obtain ⟨tk,pk,gk⟩:=hk
 obtain ⟨tv,pv,gv⟩:=hv
 refine ⟨_,Gj (Qfd PySem.F.plainAttrs_list PySem.F.slot_list_append PySem.F.type_list_append Zg (Qmw (Qc0 hu) (Jt hN hvis hd hcd) pk hs1) (Yw pv Us s2) b2 f2 l2 s2 q2) hs,λz R σ H W ρ P E s hw l=>?_⟩
 obtain ⟨sd,hl0,hw⟩:=Qg hw
 obtain ⟨kvs,rfl⟩:∃kvs,sd=D.dik kvs:=by
  clear hl0
  cases sd with
  | dik kvs=>exact ⟨kvs,rfl⟩
  | _=>exact (show False from hw).elim
 obtain ⟨hnd,hw⟩:=hw
 obtain ⟨fp,s0⟩:=id s
 obtain ⟨v0,hv0,r0⟩:=s0.at_ i _ hl0
 refine ⟨v0,hv0,?_⟩
 refine gk z R σ H W ρ _ _ s hw λvk H1 W1 kd ρ1 Fk p q=>?_
 obtain ⟨sm1,hW1,hρ1⟩:=p.calm rfl
 subst hW1 hρ1
 obtain ⟨k,hkey,q⟩:=Qg q
 have ek:=p.rep.key hkey
 subst ek
 obtain ⟨ld,hval,q⟩:=Qg q
 obtain ⟨xs,rfl⟩:∃xs,ld=D.lst xs:=by
  clear hval
  cases ld with
  | lst xs=>exact ⟨xs,rfl⟩
  | _=>exact (show False from q).elim
 obtain ⟨hxz,q⟩:=q
 obtain ⟨fpS,sS⟩:=id p.sr
 obtain ⟨vS,hvS,rS⟩:=sS.at_ i _ hl0
 have:vS=v0:=by rw [hv0] at hvS;cases hvS;rfl
 subst this
 obtain ⟨ndS,swS⟩:=sS.own i _ hl0 ht
 obtain ⟨l0,ys0,aS,kvS,hvk,hl0',rfl,eS⟩:∃(l:Addr) (ys:List V) (a:Addr) (kvS:List (Key × V)),valV kvS k=some (.ref l)/\H1 l=some (.lst ys)/\vS=.ref a/\H1 a=some (.dK kvS):=by
  generalize fpS i=Fi at rS ndS
  cases rS with
  | @dik a kv _ F e1 r =>
   obtain ⟨na,nF⟩:=List.nodup_cons.mp ndS
   obtain ⟨l,ys,h1,h2,_⟩:=r.app nF hnd hval
   exact ⟨l,ys,a,kv,h1,h2,rfl,e1⟩
 refine ⟨aS,.ref l0,rfl,hvk ▸ DGet.k (k:=k) eS,.inl ⟨rfl,_,.of hl0'⟩,?_⟩
 refine gv z R σ H1 W1 _ _ _ p.sr q λvd H2 W2 d ρ2 Fd pd ⟨hp,qn⟩=>?_
 obtain ⟨sm2,hW2,hρ2⟩:=pd.calm rfl
 subst hW2 hρ2
 obtain ⟨_,rd⟩:=pd.rep.pure hp
 obtain ⟨fp2,s2⟩:=id pd.sr
 obtain ⟨v2,hv2,r2⟩:=s2.at_ i _ hl0
 have:v2=.ref aS:=by rw [hvS] at hv2;cases hv2;rfl
 subst this
 obtain ⟨nd2,sw2⟩:=s2.own i _ hl0 ht
 have fin2:∃(ys:List V) (F':List Addr),H2 l0=some (.lst ys)/\ys.length=xs.length/\l0∈fp2 i/\Rep X.K (upd H2 l0 (.lst (ys++[vd]))) (.dik (putD kvs k (.lst (xs++[d])))) (.ref aS) F'/\F'=fp2 i:=by
  generalize fp2 i=Fi at r2 nd2
  cases r2 with
  | @dik a kv _ F e1 r =>
   obtain ⟨na,nF⟩:=List.nodup_cons.mp nd2
   obtain ⟨l,ys,h1,h2,h3,h4,h5⟩:=r.app nF hnd hval
   have hkv:kv=kvS:=by
    have:=sm2 _ _ eS
    rw [e1] at this
    cases this
    rfl
   subst hkv
   rw [hvk] at h1
   cases h1
   have hne:aS≠l0:=λz=>na (z ▸ h3)
   exact ⟨ys,_,h2,h4,List.mem_cons_of_mem _ h3,.dik (by rw [Qk hne];exact e1) (h5 vd d rd),rfl⟩
 obtain ⟨ys,F',h1,h2,h3,h4,rfl⟩:=fin2
 refine ⟨l0,ys,vd,rfl,rfl,h1,by rw [h2];exact hxz,?_⟩
 have hWl:=sw2 l0 h3
 have sF:=s2.write hl0 ht hv2 h3 Q8 ⟨_,Qb,rfl⟩ h4 nd2 (λa ha=>.inl ha)
 have fF:=(p.fr.trans pd.fr).write hWl (s2.wd l0 hWl) (H':=upd H2 l0 (.lst (ys++[vd]))) Q8 ⟨_,Qb,rfl⟩ (F':=fp2 i) (λa ha=>.inl (sw2 a ha))
 exact l.nx R σ _ _ _ sF fF qn
end
end PV
namespace PV
open PySem PySem.Spec L2
section
variable {X:Cx} {T:Tg} {m o m0 m1 m2 m3 o1 o2:Bool} {e a b:Expr} {w wa wb we:WE} {pos p2 p:Pos} {es:List Expr} {wr:WA} {x y:Str} {wt:WT} {ws:WS}
end
end PV
namespace PV
open PySem PySem.Spec L2
section
variable {X:Cx} {T:Tg} {m o m0 m1 m2 m3 o1 o2:Bool} {e a b:Expr} {w wa wb we:WE} {pos p2 p:Pos} {es:List Expr} {wr:WA} {x y:Str} {wt:WT} {ws:WS}
end
end PV
namespace PV
open PySem PySem.Spec L2
section
variable {X:Cx} {T:Tg} {m o m0 m1 m2 m3 o1 o2:Bool} {e a b:Expr} {w wa wb we:WE} {pos p2 p:Pos} {es:List Expr} {wr:WA} {x y:Str} {wt:WT} {ws:WS}
end
end PV
namespace PV
open PySem PySem.Spec L2
section
variable {X:Cx} {T:Tg} {m o:Bool}
end
end PV
namespace PV
open PySem PySem.Spec L2
section
variable {X:Cx} {T:Tg} {m o m0 m1 m2 m3 o1 o2:Bool} {e a b:Expr} {w wa wb we:WE} {pos p2 p:Pos} {es:List Expr} {wr:WA} {x y:Str} {wt:WT} {ws:WS}
def Qf7 (wk wv:WE):WE:=λρ Q=>wk ρ λkd ρ1=>wv ρ1 λd ρ2=>d.pure=true/\oget (Yo kd) λk=>Q (.dik [(k,d)]) ρ2
theorem Qjz {ek ev:Expr} {wk wv:WE} (hk:EV X T false o1 ek wk) (hv:EV X T false o2 ev wv):EV X T false true (.Dict [some ek] [ev] pos) (Qf7 wk wv):=by
 obtain ⟨tk,pk,gk⟩:=hk
 obtain ⟨tv,pv,gv⟩:=hv
 refine ⟨_,Qmy (Qje pk pv Qmp) rfl rfl (by simp) (by simp),λz R σ H W ρ Q Q' s hw k=>?_⟩
 intro a ha
 refine gk z R σ _ W ρ _ _ (s.same (Qi ha)) hw λv1 H1 W1 d1 ρ1 F1 p q1=>?_
 refine gv z R σ H1 W1 ρ1 _ _ p.sr q1 λv2 H2 W2 d2 ρ2 F2 q q2=>?_
 obtain ⟨c1,rfl,rfl⟩:=p.calm rfl
 obtain ⟨b1,rfl,rfl⟩:=q.calm rfl
 obtain ⟨hp,q2⟩:=q2
 obtain ⟨kk,hkk,q2⟩:=Qg q2
 have e1:=p.rep.key hkk
 subst e1
 obtain ⟨-,r2⟩:=q.rep.pure hp
 have ha2:H2 a=some (.dK []):=b1 a _ (c1 a _ Qb)
 refine ⟨ha2,[(kk,v2)],rfl,by simp,?_⟩
 have sm:Same H (upd H2 a (.dK (Gn [] [(kk,v2)]))):=λb u eb=>by
  have hne:b≠a:=Qq eb ha
  rw [Qk hne]
  exact b1 b u (c1 b u (by rw [Qk hne];exact eb))
 have em:Gn [] [(kk,v2)]=[(kk,v2)]:=rfl
 rw [em] at sm ⊢
 refine k _ _ _ (.dik [(kk,d2)]) _ [a] (Post.fin s (FrW.refl H _) (λ_=>⟨Same.refl H,rfl,rfl⟩) sm (.dik Qb ?_) (by simp) (λc m=>by rw [List.mem_singleton.mp m];exact ha)) q2
 have:=RepK.cons (k:=kk) (r2.upd (ob':=.dK [(kk,v2)]) ha2 rfl (by simp)) (RepK.nil (K:=X.K) (H:=L2.upd H2 a (.dK [(kk,v2)])))
 simpa using this
end
end PV
namespace PV
open PySem PySem.Spec L2
section
variable {X:Cx} {T:Tg} {m o m0 m1 m2 m3 me o1 o2:Bool} {e a b:Expr} {w wa wb we:WE} {pos p2 p:Pos} {es:List Expr} {wr:WA} {x y:Str} {wt:WT} {ws:WS}
def TB (q:Nat):Tg:={ own:=λi=>i == q,io:=[q] }
end
end PV
namespace PV
open PySem PySem.Spec L2
open PyProof.Rows (envOfC)
section
variable {X:Cx} {T:Tg} {m o m0 m1 m2 m3 o1 o2:Bool} {e a b:Expr} {w wa wb we:WE} {pos p2 p:Pos} {es:List Expr} {wr:WA} {x y:Str} {wt:WT} {ws:WS} {k:Nat} {ps:List Str}
end
section
variable {K:PySem.W.Frag} {x:Str} {qual:Str} {st:Stmt} {f:Addr} {fd:FuncData} {N ps:List Str} {T:Tg} {P:Program} {w:World} {mg:Str->Option Value} {base:Heap} {k:Nat} {ww:WS}
end
end PV
namespace L2
open PySem PySem.Spec PyProof.Rows
section
variable {X:Cx} {es:List Expr} {t:TA} {pos:Pos}
end
end L2
namespace PV
open PySem PySem.Spec L2
section
variable {X:Cx} {T:Tg} {m o m0 m1 m2 m3 me o1 o2:Bool} {e a b:Expr} {w wa wb we:WE} {pos p2 p:Pos} {es:List Expr} {wr:WA} {x y:Str} {wt:WT} {ws:WS}
end
end PV
namespace PV
open PySem PySem.Spec L2
open Builtin.Str (glued tooLong)
section
variable {X:Cx} {T:Tg} {m o m0 m1 m2 m3 me o1 o2:Bool} {e a b:Expr} {w wa wb we:WE} {pos p2 p:Pos} {es:List Expr} {wr:WA} {x y:Str} {wt:WT} {ws:WS}
end
end PV
namespace PV
open PySem PySem.Spec L2
open Builtin.Str (glued tooLong subAt)
section
variable {X:Cx} {T:Tg} {m o m0 m1 m2 m3 m4 me o1 o2:Bool} {e a b:Expr} {w wa wb we:WE} {pos p2 p:Pos} {es:List Expr} {wr:WA} {x y:Str} {wt:WT} {ws:WS}
end
end PV
namespace PV
open PySem PySem.Spec L2
section
variable {X:Cx} {T:Tg} {m o m0 m1 m2 m3 o1 o2:Bool} {e a b:Expr} {w wa wb we:WE} {pos p2 p:Pos} {es:List Expr} {wr:WA} {x y:Str}
def Qap:GA
 | [.dik kvs],k=>∃ns:List Int,kvs.map (·.1)=ns.map Sum.inl/\kvs.length<=100000/\∀out:List Int,out.Perm ns->out.Pairwise (· <= ·)->k (.lst (out.map D.int))
 | _,_=>False
theorem Qb2 (hc:X.calm=true):G6 X (.builtin "sorted") Qap:=by
 refine ⟨_,Qdb hc,λH ds xs F k Q r g q=>?_⟩
 cases ds with
 | nil=>exact (show False from g).elim
 | cons d ds =>
  cases ds with
  | cons _ _=>cases d <;> exact (show False from g).elim
  | nil =>
   cases d with
   | dik es =>
    obtain ⟨v,rfl,rd⟩:=r.at1
    obtain ⟨ns,hk,h64,g⟩:=g
    cases rd with
    | dik e r9 =>
    refine ⟨_,_,ns,rfl,.of e,by rw [r9.keys];exact hk,by rw [r9.length];exact h64,λout D hp ho hD=>?_⟩
    exact q _ _ _ [D] ⟨Qi hD,.lst Qb (Reps.ints out),by simp,λc m=>by rw [List.mem_singleton.mp m];exact hD⟩ (g out hp ho)
   | _=>exact (show False from g).elim
theorem Qbh {kvs:List (Key × D)} {k:D->Prop}:Qap [.dik kvs] k=∃ns:List Int,kvs.map (·.1)=ns.map Sum.inl/\kvs.length<=100000/\∀out:List Int,out.Perm ns->out.Pairwise (· <= ·)->k (.lst (out.map D.int)):=rfl
end
end PV
namespace PV
open PySem PySem.Spec L2 PyProof.Rows
section
variable {X:Cx} {T:Tg} {m o m0 m1 m2 m3 me o1 o2:Bool} {e a b c:Expr} {w wa wb we:WE} {pos p2 p:Pos} {es:List Expr} {wr:WA} {x y:Str} {wt:WT} {ws:WS} {k:Nat} {ps:List Str} {tg:Expr}
theorem Qql {i:Nat} (ht:T.own i=false:=by rfl) (hN:X.N[i]? = some x:=by rfl) (hv:Vis X.env.scope x:=by first | exact Or.inl rfl | exact Or.inr (Or.inl rfl) | exact Or.inr (Or.inr rfl)) (hd:(x == ("__debug__" : Str))=false:=by decide)
  (hcd:(x == ("__classdict__" : Str))=false:=by decide):IV X T false true tg (.Name x p) (Vj (wVar i)):=by
 refine ⟨_,Xl (Jt hN hv hd hcd),λz R σ H W ρ Q RR s hw k=>?_⟩
 unfold Vj wVar at hw
 cases hl:look ρ i with
 | none=>rw [hl] at hw;exact hw.elim
 | some d =>
 rw [hl] at hw
 have q:=hw
 obtain ⟨fp,s0⟩:=id s
 obtain ⟨v,h1,r0⟩:=s0.at_ i d hl
 have nW:∀b∈fp i,¬W b:=λb hb hw=>s0.wr b hw (s0.ro i d hl ht b hb)
 refine ⟨v,h1,?_⟩
 cases d with
 | tup ds =>
  obtain ⟨hp,q⟩:=q
  obtain ⟨hF,rp⟩:=r0.pure (by simpa [D.pure] using hp)
  cases rp with
  | @tup a xs _ _ e1 r =>
   refine ⟨a,rfl,.inr ⟨⟨xs,.of e1⟩,k _ H W ds ρ ⟨s,FrW.refl H W,λ_=>⟨Same.refl H,rfl,rfl⟩⟩ (λi H2 W2 f=>?_) q⟩⟩
   have e2:H2 a=some (.tup xs):=f.imm _ _ e1 rfl
   refine ⟨λhi=>⟨xs,.of e2,by rw [r.length];exact hi⟩,λd hd=>?_⟩
   obtain ⟨x,B,hx,rx,sx⟩:=r.get hd
   refine ⟨⟨xs,x,.of e2,hx⟩,λv H3 y=>?_⟩
   obtain ⟨rfl,y⟩:=y
   have:=y xs (.of e2)
   rw [hx] at this
   cases this
   exact ⟨Same.refl _,B,rx.keep f (λa ha=>(nomatch sx.subset ha)),(λa ha=>(nomatch sx.subset ha))⟩
 | lst ds =>
  generalize hfp:fp i=G at r0 nW
  cases r0 with
  | @lst a xs _ F e1 r =>
   refine ⟨a,rfl,.inl ⟨⟨xs,.of e1⟩,k _ H W ds ρ ⟨s,FrW.refl H W,λ_=>⟨Same.refl H,rfl,rfl⟩⟩ (λi H2 W2 f=>?_) q⟩⟩
   rw [U9] at f
   have e2:H2 a=some (.lst xs):=f.keep _ _ e1 (nW a List.mem_cons_self)
   refine ⟨λhi=>⟨xs,.of e2,by rw [r.length];exact hi⟩,λd hd=>?_⟩
   obtain ⟨x,B,hx,rx,sx⟩:=r.get hd
   refine ⟨⟨xs,x,.of e2,hx⟩,λv H3 y=>?_⟩
   obtain ⟨rfl,y⟩:=y
   have:=y xs (.of e2)
   rw [hx] at this
   cases this
   refine ⟨Same.refl _,B,rx.keep f λb hb=>nW b (List.mem_cons_of_mem _ (sx.subset hb)),λb hb hw=>?_⟩
   have hb':b∈a::F:=List.mem_cons_of_mem _ (sx.subset hb)
   rcases f.new b hw with h | h
   ·exact nW b hb' h
   ·obtain ⟨ob,e3,_⟩:=rx.dom b hb
    rw [h] at e3;cases e3
 | kc c =>
  cases c with
  | tup ks =>
   obtain ⟨-,rp⟩:=r0.pure (by rw [D.pure])
   cases rp with
   | kc h =>
    obtain ⟨a,xs,rfl,hs,ar⟩:=h.sqT
    exact ⟨a,rfl,.inr ⟨⟨xs,hs H⟩,k _ H W (ks.map kcD) ρ ⟨s,FrW.refl H W,λ_=>⟨Same.refl H,rfl,rfl⟩⟩ (Qqh hs ar) q⟩⟩
  | _=>exact (show False from q).elim
 | _=>exact (show False from q).elim
end
section
variable {i j:Int} {k:D->Prop} {kk:D->D->Prop} {kvs:List (List Key × D)} {xs:List D}
theorem sz0:(0<=sizeLine)=True:=propext ⟨λ_=>trivial,λ_=>by decide⟩
theorem sz1:(1<=sizeLine)=True:=propext ⟨λ_=>trivial,λ_=>by decide⟩
theorem sz2:(2<=sizeLine)=True:=propext ⟨λ_=>trivial,λ_=>by decide⟩
end
end PV
namespace L2
open PySem PySem.Spec PyProof.Rows
section
variable {X:Cx} {e:Expr} {te:TE}
def tFrz (te:TE):TE:=λσ H Q=>te σ H λv H1=>∃a xs,v=.ref a/\H1 a=some (.lst xs)/\∀o,Q v (upd H1 a (.frz o (.lst xs)))
theorem Qo8 (he:PE X e te):PE X e (tFrz te):=by
 intro pins s σ H Q I h
 refine thn (he pins s σ H _ I h) λv s1 ⟨x,H1,I1,r1,q⟩=>?_
 obtain ⟨a,xs,rfl,ha,q⟩:=q
 obtain ⟨z,its,n,rv,hob⟩:=(show Jo X.prog X.w H1 s1.heap a (.lst xs) from I1.hok a _ ha)
 exact ⟨.ref a,_,I1.write (x:=a) (e:=a) (o:=.frz _ (.lst xs)) (t':=s1.toks) (by rw [ha];trivial) (.inl rfl) (λb u _ q=>q) ⟨_,hob⟩ (show Jo X.prog X.w _ s1.heap a (.frz _ (.lst xs)) from ⟨hob,z,its,n,rv,hob⟩),r1,q _⟩
end
end L2
namespace PV
open PySem PySem.Spec L2 PyProof.Rows
section
variable {X:Cx} {T:Tg} {m o:Bool} {e:Expr} {w:WE} {tg:Expr}
def Qqp (d:D) (k:D->Prop):Prop:=match d with
 | .lst xs=>Qm xs=true/\k (.fls xs)
 | _=>False
def wFrz (w:WE):WE:=λρ Q=>w ρ λd ρ'=>Qqp d λd'=>Q d' ρ'
theorem Qqt (h:EV X T m true e w):EV X T m true e (wFrz w):=by
 obtain ⟨te,pe,ge⟩:=h
 refine ⟨_,Qo8 pe,λz R σ H W ρ Q Q' s hw k=>?_⟩
 refine ge z R σ H W ρ _ _ s hw λv H1 W1 d ρ1 F p q=>?_
 cases d with
 | lst xs =>
  obtain ⟨hp,q⟩:=q
  obtain ⟨sr,fr,calm,rep,own⟩:=p
  obtain ⟨nd,own⟩:=own rfl
  cases rep with
  | @lst a ys _ G e1 r =>
   obtain ⟨hG,r⟩:=r.pure hp
   subst hG
   obtain ⟨ha,hW⟩:=own a List.mem_cons_self
   have hR:¬R a:=s.nr ha
   refine ⟨a,ys,rfl,e1,λob=>?_⟩
   have im:ImmK H1 (upd H1 a (.frz ob (.lst ys))):=Vg e1 rfl
   have ne:∀{b:Addr} {u:HO},H b=some u->b≠a:=λ{b u} hb z=>by rw [z,ha] at hb;cases hb
   have sr':SR X.K T z R (upd H1 a (.frz ob (.lst ys))) W1 σ ρ1:=by
    obtain ⟨fp,s0⟩:=sr
    have off:∀i d,look ρ1 i=some d->∀b∈fp i,b≠a:=λi d hl b hb hz=>by
     subst hz
     cases ht:T.own i with
     | true=>exact hW ((s0.own i d hl ht).2 b hb)
     | false=>exact hR (s0.ro i d hl ht b hb)
    refine ⟨fp,s0.len,λb hb=>?_,λi d hl=>?_,s0.own,s0.ro,s0.wr,λb hb=>?_,s0.dis,s0.fix⟩
    ·obtain ⟨u,h1,h2⟩:=s0.wd b hb
     exact ⟨u,by rw [Qk (show b≠a from λhz=>hW (by rw [← hz];exact hb))];exact h1,h2⟩
    ·obtain ⟨v,h1,h2⟩:=s0.at_ i d hl
     exact ⟨v,h1,h2.frame im λb hb=>Qk (off i d hl b hb)⟩
    ·obtain ⟨u,h1,h2⟩:=s0.rd b hb
     exact ⟨u,by rw [Qk (show b≠a from λhz=>hR (by rw [← hz];exact hb))];exact h1,h2⟩
   have fr':FrW H W (upd H1 a (.frz ob (.lst ys))) W1:=by
    refine ⟨λb u hb hn=>?_,λb hb=>?_,λb u hb hi=>?_,fr.new⟩
    ·rw [Qk (ne hb)];exact fr.keep b u hb hn
    ·by_cases hz:b=a
     ·rw [hz];exact ha
     ·rw [Qk hz] at hb;exact fr.dom b hb
    ·rw [Qk (ne hb)];exact fr.imm b u hb hi
   refine k _ _ W1 (.fls xs) ρ1 [] ⟨sr',fr',λhm=>?_,.fls Qb (r.frame im λb hb=>nomatch hb),λ_=>⟨List.nodup_nil,λb hb=>nomatch hb⟩⟩ q
   obtain ⟨c1,c2,c3⟩:=calm hm
   exact ⟨λb u hb=>by rw [Qk (ne hb)];exact c1 b u hb,c2,c3⟩
 | _=>exact (show False from q).elim
end
end PV
namespace PV
open PySem PySem.Spec L2
open PyProof.Rows (envOfC)
section
variable {X:Cx} {T:Tg} {m:Bool} {w:WE} {pos:Pos} {x:Str}
end
end PV
namespace PV
open PySem PySem.Spec L2
section
variable {X:Cx} {T:Tg} {m o m0 m1 m2 m3 o1 o2:Bool} {e a b:Expr} {w wa wb we:WE} {pos p2 p:Pos} {es:List Expr} {wr:WA} {x y:Str} {wt:WT} {ws:WS}
end
end PV
namespace PV
open PySem PySem.Spec L2
section
variable {X:Cx} {T:Tg} {m o:Bool} {a:Expr} {pos p2 p:Pos} {wr:WA} {x:Str}
end
end PV
namespace PV
open PySem PySem.Spec L2
theorem V7 {α:Type} (xs:List α) (j:Nat):L2.atI xs (j:Int)=xs[j]?:=by
 unfold L2.atI ixN
 rw [if_pos (by omega)]
 by_cases h:j<xs.length
 ·rw [if_pos (by omega)];simp
 ·rw [if_neg (by omega)];simp;omega
theorem G3 {α:Type} (xs:List α):L2.atI xs 0=xs[0]?:=V7 xs 0
theorem Qav {α:Type} (xs:List α):L2.atI xs 1=xs[1]?:=V7 xs 1
theorem Y2 {n j:Nat} (h:j<n):ixN n (j:Int)=some j:=by
 unfold ixN
 rw [if_pos (by omega),if_pos (by omega)];simp
theorem Qr9 {n:Nat} (h:0<n):ixN n 0=some 0:=Y2 h
theorem Qr8 {n:Nat} (h:1<n):ixN n 1=some 1:=Y2 h
theorem Vd {n j:Nat} (h:j<n):seqIndex? (j:Int) n=some j:=(Qag (Y2 h)).1
theorem Ql2 {n:Nat} (h:0<n):seqIndex? 0 n=some 0:=Vd h
theorem Ql {α:Type} {d:α} {k:α->Prop}:oget (some d) k=k d:=rfl
theorem Qx {i:Nat} {ρ:Env} {Q:D->Env->Prop}:wVar i ρ Q=oget (look ρ i) λd=>Q d ρ:=by
 unfold wVar oget
 cases look ρ i <;> rfl
section
variable {i j:Int} {x y:Str} {xs ys:List D} {k:D->Prop} {b c:Bool} {d e:D} {kvs:List (Key × D)} {kts:List (List Key × D)}
theorem Qcn:dAdd (.int i) (.int j) k=k (.int (i+j)):=rfl
theorem Qkx:dAdd (.lst xs) (.lst ys) k=(Qm xs=true/\Qm ys=true/\xs.length+ys.length<=sizeLine/\k (.lst (xs++ys))):=rfl
theorem Qrf:dSub (.int i) (.int j) k=k (.int (i-j)):=rfl
theorem Qov:dMul (.int i) (.int j) k=(CMul i j/\k (.int (i*j))):=rfl
theorem Qot:dMul (.lst xs) (.int j) k=(Qm xs=true /\ -(2 ^ 63)<=j/\j<2 ^ 63/\xs.length*j.toNat<=sizeLine/\k (.lst (List.replicate j.toNat xs).flatten)):=rfl
theorem Qro:dDiv (.int i) (.int j) k=((0<j/\j<1073741824/\k (.int (i / j)))\/(j<0/\j.natAbs<1073741824/\k (.int (i.fdiv j)))):=rfl
theorem Qrk:dMod (.int i) (.int j) k=((0<j/\k (.int (i % j)))\/(j<0/\k (.int (i.fmod j)))):=rfl
theorem Qrh:dPow (.int i) (.int j) k=(CPow i j/\k (.int (i ^ j.toNat))):=rfl
theorem Qma:dNeg (.int i) k=k (.int (-i)):=rfl
theorem Qi6:dEq (.int i) (.int j) k=k (.bl (decide (i=j))):=rfl
theorem Qrj:dNe (.lst xs) d k=(eqOk 9 (.lst xs)=true/\eqOk 9 d=true/\(.lst xs=d->k (.bl false))/\(.lst xs≠d->k (.bl true))):=by cases d <;> rfl
theorem Qmc {f:Int->Int->Bool}:dCmp f (.int i) (.int j) k=k (.bl (f i j)):=rfl
theorem Qcj:dIx (.lst xs) (.int i) k=oget (L2.atI xs i) k:=rfl
theorem Ud:dIx (.tup xs) (.int i) k=oget (L2.atI xs i) k:=rfl
theorem Xj:dLen [.lst xs] k=k (.int xs.length):=rfl
theorem Qbf:dLen [.tup xs] k=k (.int xs.length):=rfl
theorem Qox:dInt [.bl b] k=k (.int (if b then 1 else 0)):=rfl
theorem Qrl:Qny [.int i,.int j] k=k (.int (if j<i then j else i)):=rfl
theorem Gh:Qie [.tup xs] k=(Qm xs=true/\k (.lst xs)):=rfl
theorem Qkt:Qbz [.lst xs] k=(Qm xs=true/\k (.tup xs)):=rfl
theorem Ql9:Qid [.int i] k=(0<=i/\i<=1000/\k (.lst (rngD 0 i.toNat))):=rfl
theorem Qmb {t:Ty}:dIsi [d,.ty t] k=oget (isiD d t) λb=>k (.bl b):=rfl
theorem Qoq {lo hi:Option Int}:dSl (.lst xs) lo hi k=(Qm xs=true/\k (.lst (cutD xs lo hi))):=rfl
theorem Qrg {lo hi:Option Int}:dSl (.kls xs) lo hi k=(Qm xs=true/\k (.lst (cutD xs lo hi))):=rfl
theorem Qd2:dSet (.lst xs) (.int i) d k=oget (ixN xs.length i) λn=>k (.lst (xs.set n d)):=rfl
theorem Ql8:dSet (.dik kvs) (.int i) d k=(kvs.length<sizeLine/\k (.dik (putD kvs (.inl i) d))):=rfl
theorem Qkv {n:Bool}:dIn n (.int i) (.dik kvs) k=k (.bl (xor n (valD kvs (.inl i)).isSome)):=rfl
variable {kk:D->D->Prop}
theorem G9:Zb (.lst xs) [d] kk=(xs.length<sizeLine/\kk .non (.lst (xs++[d]))):=rfl
theorem Qci:Qej (.lst xs) [.int i] kk=(-(2 ^ 63)<=i/\i<2 ^ 63/\oget (seqIndex? i xs.length) λj=>oget xs[j]? λd=>d.pure=true/\kk d (.lst (xs.eraseIdx j))):=rfl
theorem Qri:gPop (.lst xs) [] kk=oget xs[xs.length-1]? λd=>d.pure=true/\kk d (.lst xs.dropLast):=rfl
variable {ρ:Env} {w:WE} {QE:D->Env->Prop} {QL:List D->Env->Prop} {QB:Bool->Env->Prop}
end
section
variable {i j:Int} {k:D->Prop}
theorem Qgt (h:0<j) (h2:j<1073741824):dDiv (.int i) (.int j) k=k (.int (i / j)):=by
 rw [Qro]
 apply propext
 exact ⟨λq=>q.elim (λz=>z.2.2) (λz=>absurd z.1 (by omega)),λq=>.inl ⟨h,h2,q⟩⟩
theorem Qku (h:0<j):dMod (.int i) (.int j) k=k (.int (i % j)):=by
 rw [Qrk]
 apply propext
 exact ⟨λq=>q.elim (λz=>z.2) (λz=>absurd z.1 (by omega)),λq=>.inl ⟨h,q⟩⟩
theorem Z6 (h:-18446744073709551616<i) (h2:i<18446744073709551616):dMul (.int i) (.int j) k=k (.int (i*j)):=by
 rw [Qov]
 exact propext ⟨λq=>q.2,λq=>⟨.inl ⟨by omega,by omega⟩,q⟩⟩
theorem Qou (h:-18446744073709551616<j) (h2:j<18446744073709551616):dMul (.int i) (.int j) k=k (.int (i*j)):=by
 rw [Qov]
 exact propext ⟨λq=>q.2,λq=>⟨.inr ⟨by omega,by omega⟩,q⟩⟩
theorem Qos (h:0<=j) (h2:j<=1000000) (h3:-18446744073709551616<i) (h4:i<18446744073709551616):dPow (.int i) (.int j) k=k (.int (i ^ j.toNat)):=by
 rw [Qrh]
 exact propext ⟨λq=>q.2,λq=>⟨⟨h,h2,by omega⟩,q⟩⟩
end
def blOf (d:D) (k:Bool->Prop):Prop:=match d with
 | .bl b=>k b
 | _=>False
theorem r_bl {w:WE} {ρ:Env} {Q:Bool->Env->Prop}:wBl w ρ Q=w ρ λd ρ'=>blOf d λb=>Q b ρ':=by
 show (w ρ λd ρ'=>match d with | .bl b=>Q b ρ' | _=>False)=_
 rfl
theorem Yi {b:Bool} {k:Bool->Prop}:blOf (.bl b) k=k b:=rfl
def Qgh (d:D) (k:Bool->Prop):Prop:=oget (truD d) k
theorem X3 {w:WE} {ρ:Env} {Q:Bool->Env->Prop}:wTru w ρ Q=w ρ λd ρ'=>Qgh d λb=>Q b ρ':=by
 unfold wTru
 congr 1
 funext d ρ'
 unfold Qgh oget
 cases truD d <;> rfl
theorem Qd1 {b:Bool} {k:Bool->Prop}:Qgh (.bl b) k=k b:=rfl
theorem Qop {xs:List D} {k:Bool->Prop}:Qgh (.lst xs) k=k (!xs.isEmpty):=rfl
theorem Qoo {xs:List D} {k:Bool->Prop}:Qgh (.tup xs) k=k (!xs.isEmpty):=rfl
def Ql1 (d:D) (k:List D->Prop):Prop:=match d with
 | .tup ds=>Qm ds=true/\k ds
 | .lst ds=>k ds
 | .kc (.tup ks)=>k (ks.map kcD)
 | _=>False
theorem Qe6 {w:WE} {ρ:Env} {Q:List D->Env->Prop}:Vj w ρ Q=w ρ λd ρ'=>Ql1 d λds=>Q ds ρ':=by
 show (w ρ λd ρ'=>match d with | .tup ds=>Qm ds=true/\Q ds ρ' | .lst ds=>Q ds ρ' | .kc (.tup ks)=>Q (ks.map kcD) ρ' | _=>False)=_
 rfl
theorem Qor {xs:List D} {k:List D->Prop}:Ql1 (.tup xs) k=(Qm xs=true/\k xs):=rfl
theorem Xi {xs:List D} {k:List D->Prop}:Ql1 (.lst xs) k=k xs:=rfl
def Qp7 (d:D) (k:List D->Prop):Prop:=match d with
 | .kls ds=>k ds
 | _=>False
theorem Qrm {w:WE} {ρ:Env} {Q:List D->Env->Prop}:Qiw w ρ Q=w ρ λd ρ'=>Qp7 d λds=>Q ds ρ':=by
 show (w ρ λd ρ'=>match d with | .kls ds=>Q ds ρ' | _=>False)=_
 rfl
theorem Qow {xs:List D} {k:List D->Prop}:Qp7 (.kls xs) k=k xs:=rfl
def Qgb (d:D) (k:List D->Prop):Prop:=match d with
 | .dik kvs=>k (kvs.map (·.2))
 | _=>False
theorem Qon {w:WE} {ρ:Env} {Q:List D->Env->Prop}:Qlp w ρ Q=w ρ λd ρ'=>Qgb d λds=>Q ds ρ':=by
 show (w ρ λd ρ'=>match d with | .dik kvs=>Q (kvs.map (·.2)) ρ' | _=>False)=_
 rfl
theorem Ql7 {kvs:List (Key × D)} {k:List D->Prop}:Qgb (.dik kvs) k=k (kvs.map (·.2)):=rfl
def Qqn (d:D) (k:Option Int->Prop):Prop:=match d with
 | .int i=>k (some i)
 | _=>False
theorem Qgp {w:WE} {ρ:Env} {Q:Option Int->Env->Prop}:Qe0 w ρ Q=w ρ λd ρ'=>Qqn d λi=>Q i ρ':=by
 show (w ρ λd ρ'=>match d with | .int i=>Q (some i) ρ' | _=>False)=_
 rfl
theorem Qck {i:Int} {k:Option Int->Prop}:Qqn (.int i) k=k (some i):=rfl
def Qkr (ds:List D) (k:List D->Prop):Prop:=match ds with
 | [.int j]=>-(2 ^ 62)<=j/\j<2 ^ 62/\k (rngD 0 j.toNat)
 | _=>False
theorem Ur {wr:WA} {ρ:Env} {Q:List D->Env->Prop}:G8 wr ρ Q=wr ρ λds ρ'=>Qkr ds λl=>Q l ρ':=by
 show (wr ρ λds ρ'=>match ds with | [.int j]=>-(2 ^ 62)<=j/\j<2 ^ 62/\Q (rngD 0 j.toNat) ρ' | _=>False)=_
 rfl
theorem Y7 {j:Int} {k:List D->Prop}:Qkr [.int j] k=(-(2 ^ 62)<=j/\j<2 ^ 62/\k (rngD 0 j.toNat)):=rfl
def Qlc (ds:List D) (k:List D->Prop):Prop:=match ds with
 | [.tup es]=>Qm es=true/\k (Z4 0 es)
 | _=>False
theorem Qgs {wr:WA} {ρ:Env} {Q:List D->Env->Prop}:Qf6 wr ρ Q=wr ρ λds ρ'=>Qlc ds λl=>Q l ρ':=by
 show (wr ρ λds ρ'=>match ds with | [.tup es]=>Qm es=true/\Q (Z4 0 es) ρ' | _=>False)=_
 rfl
theorem Qcm {xs:List D} {k:List D->Prop}:Qlc [.tup xs] k=(Qm xs=true/\k (Z4 0 xs)):=rfl
theorem Qgq {n:Nat} {wgs:List D->Env->(Env->Prop)->Prop} {xs:List D} {ρ:Env} {Q:Env->Prop}:Qhz n wgs (.tup xs) ρ Q=(xs.length=n/\wgs xs ρ Q):=rfl
theorem Qcl {wg:WG} {wgs:List D->Env->(Env->Prop)->Prop} {d:D} {r:List D} {ρ:Env} {Q:Env->Prop}:Ut wg wgs (d::r) ρ Q=wg d ρ λρ'=>wgs r ρ' Q:=rfl
theorem Qgr {ρ:Env} {Q:Env->Prop}:Qh0 [] ρ Q=Q ρ:=rfl
theorem U1 {xs:List D} {t:String}:tyD (some (.lst xs)) t=(t == "list"):=rfl
theorem Z2 {xs:List D}:Zk (.lst xs)=Qm xs:=rfl
theorem Qrn {xs:List (Key × D)}:Zk (.dik xs)=xs.all λkv=>kv.2.pure:=rfl
theorem Qy {α:Type} {f:α->D} {l:List α} (h:∀a∈l,(f a).pure=true):Qm (l.map f)=true:=by
 rw [Gi]
 intro x hx
 obtain ⟨a,ha,rfl⟩:=List.mem_map.mp hx
 exact h a ha
theorem Y6 {α:Type} {f:α->D} {n:Nat} {l:List α} (h:∀a∈l,eqOk n (f a)=true):Yy n (l.map f)=true:=by
 rw [Qby]
 intro x hx
 obtain ⟨a,ha,rfl⟩:=List.mem_map.mp hx
 exact h a ha
theorem Qq4 {wl:WL} {we:WE} {ix:List Nat} {ρ:Env} {Q:D->Env->Prop} {f:D->D} (ds:List D) (ρ1:Env) (h:wl ρ=λq=>q ds ρ1) (hz:ds.length<sizeLine) (he:∀d∈ds,∀Q',Q' (f d) (blkE ρ1 d ix)->we (blkE ρ1 d ix) Q') (hQ:Q (.lst (ds.map f)) ρ1) :
  Va wl wAll we ix ρ Q:=by
 unfold Va
 rw [h]
 refine ⟨λi ys=>ys=(ds.take i).map f/\i<=ds.length,⟨by simp,Nat.zero_le _⟩,λi d ys hd ⟨hy,hi⟩=>?_,λys ⟨hy,_⟩=>?_⟩
 ·have hlt:=(List.getElem?_eq_some_iff.mp hd).1
  refine ⟨by rw [hy];simp;omega,?_⟩
  simp only [wAll,reduceIte]
  refine he d (List.mem_of_getElem? hd) _ ⟨?_,hlt⟩
  rw [hy,List.take_add_one,hd]
  simp
 ·rw [hy,List.take_length]
  exact ⟨by simp;omega,hQ⟩
def Qn2 (ds:List D) (wt:WT) (we:WE) (ρ1:Env) (ix:List Nat) (Q:D->Env->Prop):Prop:=∃I:Nat->List D->Prop,I 0 [] /\
 (∀i d ys,ds[i]? = some d->I i ys->ys.length<sizeLine/\wt (blkE ρ1 d ix) λb _=>if b=true then we (blkE ρ1 d ix) (λy _=>I (i+1) (ys++[y])) else I (i+1) ys) /\
 ∀ys,I ds.length ys->ys.length<=sizeLine/\Q (.lst ys) ρ1
theorem Qbg {wl:WL} {wt:WT} {we:WE} {ix:List Nat} {ρ:Env} {Q:D->Env->Prop}:Va wl wt we ix ρ Q=wl ρ λds ρ1=>Qn2 ds wt we ρ1 ix Q:=rfl
theorem Gy {ds:List D} {we:WE} {ρ1:Env} {ix:List Nat} {Q:D->Env->Prop} (f:D->D) (hz:ds.length<sizeLine) (he:∀d∈ds,∀Q':D->Env->Prop,Q' (f d) (blkE ρ1 d ix)->we (blkE ρ1 d ix) Q') (hQ:Q (.lst (ds.map f)) ρ1):Qn2 ds wAll we ρ1 ix Q:=by
 refine ⟨λi ys=>ys=(ds.take i).map f/\i<=ds.length,⟨by simp,Nat.zero_le _⟩,λi d ys hd ⟨hy,hi⟩=>?_,λys ⟨hy,_⟩=>?_⟩
 ·have hlt:=(List.getElem?_eq_some_iff.mp hd).1
  refine ⟨by rw [hy];simp;omega,?_⟩
  simp only [wAll,reduceIte]
  refine he d (List.mem_of_getElem? hd) _ ⟨?_,hlt⟩
  rw [hy,List.take_add_one,hd]
  simp
 ·rw [hy,List.take_length]
  exact ⟨by simp;omega,hQ⟩
def forI (ds:List D) (wg:WG) (wb:WS) (P:EndsP) (ρ1:Env):Prop:=∃I:Nat->Env->Prop,I 0 ρ1 /\
 (∀i d ρ,ds[i]? = some d->I i ρ->wg d ρ λρ'=>wb { P with nx:=I (i+1),ct:=I (i+1),bk:=P.nx } ρ')/\∀ρ,I ds.length ρ->P.nx ρ
theorem Ue {wl:WL} {wg:WG} {wb:WS} {P:EndsP} {ρ:Env}:wFor wl wg wb P ρ=wl ρ λds ρ1=>Qm ds=true/\forI ds wg wb P ρ1:=rfl
def forR (ds:List D) (i₀:Nat) (wb:WS) (P:EndsP) (ρ1:Env):Prop:=∃I:Nat->Env->Prop,I 0 ρ1 /\
 (∀i d ρ,ds[i]? = some d->I i ρ->wb { P with nx:=I (i+1),ct:=I (i+1),bk:=P.nx } (ρ.set i₀ (some d)))/\∀ρ,I ds.length ρ->P.nx ρ
theorem Qkw {wl:WL} {i₀:Nat} {wb:WS} {P:EndsP} {ρ:Env}:Qix wl i₀ wb P ρ=wl ρ λds ρ1=>forR ds i₀ wb P ρ1:=rfl
end PV
namespace PV
open PySem PySem.Spec L2
section
variable {X:Cx} {T:Tg} {m o o1 o2 o3:Bool} {a b c:Expr} {wa wb wc:WE} {pos p2 p:Pos} {wr:WA} {x:Str}
end
end PV
namespace PV
open PySem PySem.Spec L2
open PyProof.Rows (envOfC)
mutual
def D.bare:D->Bool
 | .non=>true
 | .bl _=>true
 | .int _=>true
 | .str _=>true
 | .ty _=>true
 | .tup xs=>U2 xs
 | .lst xs=>U2 xs
 | .dik kvs=>G1 kvs
 | .dit kvs=>Qkf kvs
 | .kls _=>false
 | .fdk _=>false
 | .ftp _=>false
 | .fls _=>false
 | .fdt _=>false
 | .obj _ _=>false
 | .clo _ _=>false
 | .kc _=>true
def U2:List D->Bool
 | []=>true
 | d::r=>d.bare && U2 r
def G1:List (Key × D)->Bool
 | []=>true
 | (_,d)::r=>d.bare && G1 r
def Qkf:List (List Key × D)->Bool
 | []=>true
 | (_,d)::r=>d.bare && Qkf r
end
theorem Qca {xs:List D}:U2 xs=true↔∀x∈xs,x.bare=true:=by
 induction xs with
 | nil=>simp [U2]
 | cons d r ih=>simp only [U2,Bool.and_eq_true,ih,List.mem_cons,forall_eq_or_imp]
theorem G0 {xs:List (Key × D)}:G1 xs=true↔∀x∈xs,x.2.bare=true:=by
 induction xs with
 | nil=>simp [G1]
 | cons d r ih=>simp only [G1,Bool.and_eq_true,ih,List.mem_cons,forall_eq_or_imp]
def Thaw (H H':Hp):Prop:=∀b ob,H b=some ob->(∀o u,ob ≠ .frz o u)->H' b=some ob
theorem Rep.bare {K:PySem.W.Frag} {H H':Hp} (hi:Thaw H H') {d:D} {v:V} {F:List Addr} (r:Rep K H d v F):d.bare=true->Rep K H' d v F:=by
 have no:∀{P:Prop} {b:Bool},b=false->b=true->P:=λh h'=>absurd (h.symm.trans h') (by simp)
 refine Rep.rec (motive_1:=λd v F _=>d.bare=true->Rep K H' d v F) (motive_2:=λd v F _=>U2 d=true->Reps K H' d v F) (motive_3:=λd v F _=>G1 d=true->RepK K H' d v F) (motive_4:=λd v F _=>Qkf d=true->RepT K H' d v F) ?_ ?_ ?_ ?_ ?_ ?_ ?_ ?_ ?_ ?_ ?_ ?_ ?_ ?_ ?_ ?_ ?_ ?_ ?_ ?_ ?_ ?_ ?_ r
 ·exact λ_=>.non
 ·exact λb _=>.bl b
 ·exact λb _=>.int b
 ·exact λb _=>.str b
 ·exact λe _ ih k=>.tup (hi _ _ e λ_ _ z=>by cases z) (ih (by rw [D.bare] at k;exact k))
 ·exact λe _ ih k=>.lst (hi _ _ e λ_ _ z=>by cases z) (ih (by rw [D.bare] at k;exact k))
 ·exact λe _ ih k=>.dik (hi _ _ e λ_ _ z=>by cases z) (ih (by rw [D.bare] at k;exact k))
 ·exact λe _ ih k=>.dit (hi _ _ e λ_ _ z=>by cases z) (ih (by rw [D.bare] at k;exact k))
 ·exact λ_ _ _=>no (by rw [D.bare])
 ·exact λt _=>.ty t
 ·exact λ_ _ _=>no (by rw [D.bare])
 ·exact λ_ _ _ _=>no (by rw [D.bare])
 ·exact λ_ _ _=>no (by rw [D.bare])
 ·exact λ_ _ _=>no (by rw [D.bare])
 ·exact λ_ _ _=>no (by rw [D.bare])
 ·exact λ_ _ _=>no (by rw [D.bare])
 ·exact λh _=>.kc h
 ·exact λ_=>.nil
 ·exact λ_ _ ih1 ih2 k=>by rw [U2,Bool.and_eq_true] at k;exact .cons (ih1 k.1) (ih2 k.2)
 ·exact λ_=>.nil
 ·exact λ_ _ ih1 ih2 k=>by rw [G1,Bool.and_eq_true] at k;exact .cons (ih1 k.1) (ih2 k.2)
 ·exact λ_=>.nil
 ·exact λ_ _ ih1 ih2 k=>by rw [Qkf,Bool.and_eq_true] at k;exact .cons (ih1 k.1) (ih2 k.2)
theorem Reps.bare {K:PySem.W.Frag} {H H':Hp} (hi:Thaw H H') {d:List D} {v:List V} {F:List Addr} (r:Reps K H d v F) (k:U2 d=true):Reps K H' d v F:=by
 induction d generalizing v F with
 | nil=>cases r;exact .nil
 | cons d ds ih =>
  cases r with
  | cons h r=>rw [U2,Bool.and_eq_true] at k;exact .cons (h.bare hi k.1) (ih r k.2)
section
variable {X:Cx} {T:Tg} {m o:Bool} {e:Expr} {w:WE} {pos p:Pos} {x:Str} {k:Nat} {ps:List Str} {L:Lam} {g:GA}
def Qf9 (i:Nat) (L:Lam) (g:GA) (w:WE):WE:=λρ Q=>oget (look ρ i) λc=>match c with
 | .clo L' cs=>L'=L/\w ρ λd ρ1=>g (d::cs) λr=>Q r ρ1
 | _=>False
theorem Qfn {i:Nat} (F:Qce X.prog X.w X.K X.mg X.base k L (spR X.K g)) (hr:Room k X.A) (he:EV X T false o e w) (hN:X.N[i]? = some x:=by rfl)
  (hv:Vis X.env.scope x:=by first | exact Or.inl rfl | exact Or.inr (Or.inl rfl) | exact Or.inr (Or.inr rfl)) (hd:(x == ("__debug__" : Str))=false:=by decide) (hcd:(x == ("__classdict__" : Str))=false:=by decide)
  (hs:starEach [e] X.env=(false,eval e X.env)::starEach [] X.env:=by rfl) (hpl:(backTo pos (starEach [] X.env)).any (·.1)=false:=by rfl) :
  EV X T false true (.Call (.Name x p) [e] [] pos) (Qf9 i L g w):=by
 obtain ⟨te,pe,ge⟩:=he
 refine ⟨_,Qfc F hr pe hN hv hd hcd hs hpl,λz R σ H W ρ Q Q' s hw k=>?_⟩
 obtain ⟨c,hl,hw⟩:=Qg hw
 obtain ⟨fp,s0⟩:=id s
 obtain ⟨v,h1,h2⟩:=s0.at_ i c hl
 generalize fp i=Fi at h2
 match c,h2,hw with
 | .clo L' cs,h2,hw =>
  obtain ⟨e0,hw2⟩:L'=L/\w ρ λd ρ1=>g (d::cs) λr=>Q r ρ1:=hw
  subst e0
  cases h2 with
  | @clo a _ xs _ _ ec rc =>
   refine ⟨a,xs,h1,ec,ge z R σ H W ρ _ _ s hw2 λy H1 W1 d ρ1 F1 pp q=>?_⟩
   obtain ⟨sm,hW,hρ⟩:=pp.calm rfl
   exact ⟨ec.keeps λb o u q=>sm b _ q,d::cs,_,_,.cons pp.rep (rc.same sm),q,λv H' dd F' fi hk=>k v H' W1 dd ρ1 F' (Post.fin pp.sr pp.fr pp.calm fi.same fi.rep fi.nd fi.new) hk⟩
def Qfp (ρ:Env):List Nat->Option (List D)
 | []=>some []
 | i::ix=>match look ρ i,Qfp ρ ix with
  | some d,some ds=>some (d::ds)
  | _,_=>none
theorem Xv {K:PySem.W.Frag} {z:Nat->V} {R:Addr->Prop} {H:Hp} {W:Addr->Prop} {σ:L2.St} {ρ:Env} (s:SR K T z R H W σ ρ):∀{ix:List Nat} {ds:List D},Qfp ρ ix=some ds->∃xs F,capd σ ix xs/\Reps K H ds xs F
 | [],ds,h=>by cases h;exact ⟨[],[],trivial,.nil⟩
 | i::ix,ds,h=>by
  unfold Qfp at h
  cases h1:look ρ i with
  | none=>rw [h1] at h;cases h
  | some d =>
   cases h2:Qfp ρ ix with
   | none=>rw [h1,h2] at h;cases h
   | some es =>
    rw [h1,h2] at h
    cases h
    obtain ⟨xs,F,c,r⟩:=Xv s h2
    obtain ⟨fp,s0⟩:=s
    obtain ⟨v,e1,e2⟩:=s0.at_ i d h1
    exact ⟨v::xs,_,⟨e1,c⟩,.cons e2 r⟩
def Qf8 (g:GA) (L:Lam) (ix:List Nat) (w:WE):WE:=λρ Q=>w ρ λd ρ1=>oget (Qfp ρ1 ix) λcs=>g [d,.clo L cs] λr=>r.bare=true/\Q r ρ1
theorem Qfm {lam:Expr} {ix:List Nat} {clos:List (Str × Addr)} (C:Cal X.prog X.w X.K X.mg X.base x k ps (spR X.K g)) (hr:Room k X.A) (he:EV X T m o e w)
  (hlam:PE X lam (λσ H Q=>∀f H',H f=none->Same H H'->Ux H' L f clos->Q (.ref f) H')) (hc:Qcg X ix clos) (hn:clos.map (·.1)=L.names) (hnd:(clos.map (·.2)).Nodup) (hg:Gl X x:=by rfl) (hdb:(x == ("__debug__" : Str))=false:=by decide)
  (hs:starEach [e,lam] X.env=(false,eval e X.env)::starEach [lam] X.env:=by rfl) (hs2:starEach [lam] X.env=(false,eval lam X.env)::starEach [] X.env:=by rfl) (hpl:(backTo pos (starEach [lam] X.env)).any (·.1)=false:=by rfl) :
  EV X T m true (.Call (.Name x p) [e,lam] [] pos) (Qf8 g L ix w):=by
 obtain ⟨f,fd,F,h1,h2,h3⟩:=C
 obtain ⟨te,pe,ge⟩:=he
 refine ⟨_,Qfb F hr hg h1 h2 h3 pe hlam hc hn hnd hdb hs hs2 hpl,λz R σ H W ρ Q Q' s hw k=>?_⟩
 refine ge z R σ H W ρ _ _ s hw λy H1 W1 d ρ1 F1 pp q=>?_
 obtain ⟨cs,hcs,q⟩:=Qg q
 obtain ⟨xs,Fc,cx,rc⟩:=Xv pp.sr hcs
 refine ⟨xs,cx,λf H2 n sm cA=>⟨[d,.clo L cs],_,_,.cons (pp.rep.same sm) (.cons (.clo cA (rc.same sm)) .nil),q,λv H3 dd F' fi hk H4 h4 h5=>?_⟩⟩
 exact k v H4 W1 dd ρ1 F' (Post.fin pp.sr pp.fr pp.calm (λb ob e=>h5 b ob e (fi.same b ob (sm b ob e))) (fi.rep.bare h4 hk.1) fi.nd λa ha=>sm.free (fi.new a ha)) hk.2
def spT (TB:List (Addr × Array Value)) (sp:Sp):Sp:=λvs H Q E=>Tabs TB H/\sp vs H Q E
theorem Qem {es:List Expr} {wr:WA} {TB:List (Addr × Array Value)} (C:Cal X.prog X.w X.K X.mg X.base x k ps (spT TB (spR X.K g))) (hr:Room k X.A) (hT:Tabs TB X.H₀) (ha:AV X T m o (e::es) wr) (hg:Gl X x:=by rfl)
  (hdb:(x == ("__debug__" : Str))=false:=by decide) (he:starEach (e::es) X.env=(false,eval e X.env)::starEach es X.env:=by rfl) (hpl:(backTo pos (starEach es X.env)).any (·.1)=false:=by rfl) :
  EV X T m true (.Call (.Name x p) (e::es) [] pos) (Qn g wr):=by
 obtain ⟨f,fd,F,h1,h2,h3⟩:=C
 obtain ⟨ta,pa,ga⟩:=ha
 have pe:PE X (.Call (.Name x p) (e::es) [] pos) (λσ H Q=>ta σ H λvs H1=>spR X.K g vs H1 Q E0):=by
  intro pins s σ H Q I h
  refine wpAny_Call_Name_kw (Qad I hg h1 ?_ hdb)
  refine PySem.W.callWith_K (h₀:=X.base) I.ok.mod.kin h2 (thn (pa pos pins s σ H _ I h) λus s1 ⟨vs,H1,I1,r,q⟩=>⟨I1.kIn,?_⟩) he hpl
  exact Qkq (E:=E0) F hr h3 .nil (λ_ _ _ _ _ _ _ z=>z.elim) I1 r (by rw [List.append_nil];exact ⟨hT.un I1.base,q⟩)
 refine ⟨_,pe,λz R σ H W ρ Q Q' s hw k=>?_⟩
 refine ga z R σ H W ρ _ _ s hw λvs H1 W1 ds ρ1 Fp pp q=>?_
 exact ⟨ds,Fp,_,pp.rep,q,λv H' d F' fi hk=>k v H' W1 d ρ1 F' (Post.fin pp.sr pp.fr pp.calm fi.same fi.rep fi.nd fi.new) hk⟩
end
section
variable {P:Program} {w:World} {K:PySem.W.Frag} {mg:Str->Option Value} {base:Heap} {x qual:Str} {st:Stmt} {f:Addr} {fd:FuncData} {N ps:List Str} {k:Nat} {T:Tg} {ww:WS} {TB:List (Addr × Array Value)}
theorem Qla {g:GA} (F:Fun K x qual st f fd) (S:FnScope N ps (Qd st)) (hio:T.io=[]) (hown:∀i,i<ps.length->T.own i=false) (hg:∀ds kk,g ds kk->ds.length=ps.length)
  (hb:∀(cdv:Value) (A:Around) (outer:List PySem.Env) (s:Shared) (H:Hp) (E:XK),Room k (A.deeper (envOfC qual (Qd st) s.heap.objs.size f cdv))->Tabs TB H->fd.code=cdv->SVs (cxOf CX0 P w K mg base N qual (Qd st) f cdv A outer s H E).nox T (Qr st) ww)
  (hr:∀ds kk,g ds kk->ww { nx:=λ_=>kk .non,rt:=λd _=>kk d } (env0 N ds)):FnOk P w K mg base CX0 (k+1) f fd ps (spT TB (spR K g)):=by
 obtain ⟨oc,od,kV,doc,pm,an,cdv,ct,osl,rfl,lk,hcd⟩:=F.ex
 refine Qqq lk hcd S (λvs H Q E h=>?_) λA outer s H vs Q E hroom h=>?_
 ·obtain ⟨_,ds,Fp,kk,rep,hgk,_⟩:=h
  rw [rep.length];exact hg ds kk hgk
 ·obtain ⟨hT,ds,Fp,kk,rep,hgk,q⟩:=h
  obtain ⟨ts,pts,gts⟩:=hb cdv A outer s H E hroom hT rfl
  have hl:=rep.length
  have hds:=hg ds kk hgk
  refine ⟨ts,pts.nox,gts (λ_=>.non) (Any H) (L2.start N vs) H (λ_=>False) (env0 N ds) _ _ (SR.readonly hio ?_ λi d hli=>?_) (hr ds kk hgk) ⟨?_,?_,?_,?_,λ_ _ _ _ _ _ _ _ hk=>hk.elim⟩⟩
  ·unfold env0 L2.start;simp [hl]
  ·unfold env0 at hli
   rw [Y1] at hli
   obtain ⟨v,B,h1,h2,_⟩:=rep.get hli
   exact ⟨hown i (by rw [← hds];exact (List.getElem?_eq_some_iff.mp hli).1),v,B,Zf h1,h2⟩
  ·intro R' σ' H' W' ρ' s' fr hk
   have sm:Same H H':=λb o e=>fr.keep b o e (λz=>z)
   exact q .non H' .non [] ⟨sm,.non,List.nodup_nil,λ_ m=>nomatch m⟩ hk
  ·exact λR' σ' H' W' ρ' s' fr hk=>hk.elim
  ·exact λR' σ' H' W' ρ' s' fr hk=>hk.elim
  ·intro R' v σ' H' W' ρ' d F' s' fr r nd nw hk
   have sm:Same H H':=λb o e=>fr.keep b o e (λz=>z)
   exact q v H' d F' ⟨sm,r,nd,λa ha=>(nw a ha).2.resolve_left id⟩ hk
theorem Qr6 {L:Lam} {p:Str} {g:GA} {m:Bool} {wb:WE} (S:LamScope L p) (hbind:∀(cl:List (Str × Addr)) (pm cdv ct u:Value),bindArgs (PySem.W.kla_fn "<lambda>" L.qual L.args L.body L.scope cl pm cdv ct) ⟨[u],[]⟩=pure [(p,u)])
  (hg:∀ds kk,g ds kk->U2 ds=true/\ds.length=L.names.length+1)
  (hb:∀(A:Around) (outer:List PySem.Env) (s:Shared) (H:Hp) (f:Addr) (cd:Value) (cl:List (Str × Addr)),Room k (A.deeper (PySem.W.envX L.qual L.scope s.heap.objs.size f cd cl))->EV (Qka P w K mg base L p f cd cl A outer s H) TR m true L.body wb)
  (hr:∀ds kk,g ds kk->wb (ds.map some) λd _=>kk d):Qce P w K mg base (k+1) L (spR K g):=by
 refine Qp4 S hbind λA outer s H f cd cl y xs Q hroom isC hsp=>?_
 obtain ⟨ds,Fp,kk,rep,hgk,q⟩:=hsp
 obtain ⟨hbr,hlen⟩:=hg ds kk hgk
 obtain ⟨t,pt,gt⟩:=hb A outer s (rmC H (cl.map (·.2))) f cd cl hroom
 have repR:Reps K (rmC H (cl.map (·.2))) ds (y::xs) Fp:=rep.bare (λb ob e nf=>by rw [Jm (isC.out e λo _ z _=>nf _ _ z)];exact e) hbr
 refine ⟨t,pt,gt (λ_=>.non) (Any _) _ _ (λ_=>False) (ds.map some) (λd _=>kk d) _ (SR.readonly rfl ?_ λi d hli=>?_) (hr ds kk hgk) λv H2 W2 d ρ2 F2 pp hk hn=>?_⟩
 ·have:=repR.length
  simp at this ⊢
  omega
 ·have hli':ds[i]? = some d:=by
   have:=Qac hli
   rw [List.getElem?_map] at this
   cases e:ds[i]? with
   | none=>rw [e] at this;cases this
   | some d'=>rw [e] at this;simp at this;rw [this]
  obtain ⟨v,B,h1,h2,_⟩:=repR.get hli'
  refine ⟨rfl,v,B,?_,h2⟩
  rw [show some y::xs.map some=(y::xs).map some from rfl,List.getElem?_map,h1];rfl
 ·refine q v (putC H2 H (cl.map (·.2))) d F2 ⟨λb ob e=>?_,?_,(pp.own rfl).1,λa ha=>?_⟩ hk
  ·by_cases hb':b∈cl.map (·.2)
   ·rw [Qcq hb'];exact e
   ·rw [J2 hb'];exact pp.fr.keep b ob (by rw [Jm hb'];exact e) λz=>z
  ·exact pp.rep.same λb ob e=>by rw [J2 λhb'=>by rw [hn b hb'] at e;cases e];exact e
  ·obtain ⟨ob,e1,_⟩:=pp.rep.dom a ha
   have:a∉cl.map (·.2):=λhb'=>by rw [hn a hb'] at e1;cases e1
   have:=((pp.own rfl).2 a ha).1
   rwa [Jm ‹_›] at this
end
end PV
namespace PV
open PySem PySem.Spec L2
section
variable {X:Cx} {T:Tg} {m o:Bool} {e:Expr} {w:WE} {pos p q:Pos} {x y:Str} {k:Nat}
def lsOf (d:D) (k:List D->Prop):Prop:=match d with
 | .lst xs=>k xs
 | _=>False
def Qga (i j:Nat):WS:=λP ρ=>oget (look ρ i) λc=>lsOf c λxs=>xs.length<sizeLine/\oget (look ρ j) λd=>P.nx ((ρ.set j none).set i (some (.lst (xs++[d]))))
theorem Qi2 {i j:Nat} {ap cp:Pos} (hij:i≠j:=by decide) (ti:T.own i=true:=by rfl) (tj:T.own j=true:=by rfl) (hi:X.N[i]? = some x:=by rfl) (hj:X.N[j]? = some y:=by rfl)
  (hv:Vis X.env.scope x:=by first | exact Or.inl rfl | exact Or.inr (Or.inl rfl) | exact Or.inr (Or.inr rfl)) (hd:(x == ("__debug__" : Str))=false:=by decide) (hcd:(x == ("__classdict__" : Str))=false:=by decide)
  (hv2:Vis X.env.scope y:=by first | exact Or.inl rfl | exact Or.inr (Or.inl rfl) | exact Or.inr (Or.inr rfl)) (hd2:(y == ("__debug__" : Str))=false:=by decide) (hcd2:(y == ("__classdict__" : Str))=false:=by decide)
  (b2:attributeBase (.Name x p) "append" X.env (eval (.Name x p) X.env)=eval (.Name x p) X.env:=by rfl)
  (f2:((backTo cp (starEach [.Name y q] X.env)).all (λx=>!x.1) && (backToKw cp (keywordEach [] X.env)).all (λx=>x.1.isSome)
   && decide (([.Name y q]:List Expr).length+([]:List Keyword).length+(if ([]:List Keyword).isEmpty then 0 else 1)<30))=true:=by rfl)
  (l2:(ap.endLine == cp.line)=true:=by rfl) (s2:starEach [.Name y q] X.env=(false,eval (.Name y q) X.env)::starEach [] X.env:=by rfl) (q2:(backTo cp (starEach [] X.env)).any (·.1)=false:=by rfl)
  (hs:swapsWith (.Call (.Attribute (.Name x p) "append" ap) [.Name y q] [] cp) none pos.line X.env=pure false:=by rfl) :
  SV X T (.Expr (.Call (.Attribute (.Name x p) "append" ap) [.Name y q] [] cp) pos) (Qga i j):=by
 refine ⟨_,Gj (Qfd PySem.F.plainAttrs_list PySem.F.slot_list_append PySem.F.type_list_append Zg (Jt hi hv hd hcd) (Yw (Jt hj hv2 hd2 hcd2) Us s2) b2 f2 l2 s2 q2) hs,λz R σ H W ρ P E s hw l=>?_⟩
 obtain ⟨c,hl0,hw⟩:=Qg hw
 obtain ⟨xs,rfl⟩:∃xs,c=D.lst xs:=by
  clear hl0
  cases c with
  | lst xs=>exact ⟨xs,rfl⟩
  | _=>exact (show False from hw).elim
 obtain ⟨hz,hw⟩:=hw
 obtain ⟨d,hlj,qn⟩:=Qg hw
 obtain ⟨fp,s0⟩:=s
 obtain ⟨v0,hv0,r0⟩:=s0.at_ i _ hl0
 obtain ⟨vj,hvj,rj⟩:=s0.at_ j d hlj
 obtain ⟨nd0,sw0⟩:=s0.own i _ hl0 ti
 obtain ⟨ndj,swj⟩:=s0.own j d hlj tj
 have dij:=s0.dis i j _ d hl0 hlj ti tj hij
 obtain ⟨l0,ys,G,rfl,e0,hF,rG⟩:∃(l0:Addr) (ys:List V) (G:List Addr),v0=.ref l0/\H l0=some (.lst ys)/\fp i=l0::G/\Reps X.K H xs ys G:=by
  generalize fp i=Fi at r0
  cases r0 with
  | @lst l0 ys _ G e r=>exact ⟨l0,ys,G,rfl,e,rfl,r⟩
 refine ⟨_,hv0,.inl ⟨rfl,_,.of e0⟩,vj,hvj,l0,ys,vj,rfl,rfl,e0,by rw [rG.length];exact hz,?_⟩
 have hm0:l0∈fp i:=by rw [hF];exact List.mem_cons_self
 have hWl:=sw0 l0 hm0
 have nl:l0∉fp j:=dij l0 hm0
 have nG:l0∉G:=by rw [hF] at nd0;exact (List.nodup_cons.mp nd0).1
 have key:∀k e,look (ρ.set j none) k=some e->k≠j/\look ρ k=some e:=λk e h=>by
  rw [Jh] at h
  split at h
  ·cases h
  ·refine ⟨λz=>?_,h⟩
   subst z
   rename_i hn
   exact hn ⟨rfl,Ve hlj⟩
 have s1:SR0 X.K T z R H (λa=>W a/\a∉fp j) σ (ρ.set j none) fp :=
  ⟨by rw [List.length_set];exact s0.len,λa h=>s0.wd a h.1,λk e h=>s0.at_ k e (key k e h).2,λk e h t=>⟨(s0.own k e (key k e h).2 t).1,λa ha=>⟨(s0.own k e (key k e h).2 t).2 a ha,λha'=>s0.dis k j e d (key k e h).2 hlj t tj (key k e h).1 a ha ha'⟩⟩,
   λk e h t=>s0.ro k e (key k e h).2 t,λa h=>s0.wr a h.1,s0.rd,λk n e e' h h' t t'=>s0.dis k n e e' (key k e h).2 (key n e' h').2 t t',s0.fix⟩
 have hli:look (ρ.set j none) i=some (.lst xs):=by rw [Qp hij];exact hl0
 have rep:Rep X.K (upd H l0 (.lst (ys++[vj]))) (.lst (xs++[d])) (.ref l0) (l0::(G++fp j)):=.lst Qb ((rG.upd e0 rfl nG).snoc (rj.upd e0 rfl nl))
 have nd':(l0::(G++fp j)).Nodup:=by
  have:=Vt nd0 ndj λa ha ha'=>dij a ha' ha
  rwa [hF] at this
 have sF:=s1.write hli ti hv0 hm0 (H':=upd H l0 (.lst (ys++[vj]))) Q8 ⟨_,Qb,rfl⟩ rep nd' (λa ha=>by
  rcases List.mem_cons.mp ha with rfl | ha
  ·exact .inl hm0
  ·rcases List.mem_append.mp ha with ha | ha
   ·exact .inl (by rw [hF];exact List.mem_cons_of_mem _ ha)
   ·exact .inr ⟨λh=>h.2 ha,s0.wr a (swj a ha)⟩)
 refine l.nx R σ _ _ _ sF ⟨λb ob e nb=>Q8 b ob e λz=>nb (by rw [z];exact hWl),λb e=>?_,Vg e0 rfl,λb hb=>.inl ?_⟩ qn
 ·by_cases hb:b=l0
  ·rw [hb,Qb] at e;cases e
  ·rw [Qk hb] at e;exact e
 ·rcases hb with hb | hb
  ·exact hb.1
  ·rcases List.mem_cons.mp hb with rfl | hb
   ·exact hWl
   ·rcases List.mem_append.mp hb with hb | hb
    ·exact sw0 b (by rw [hF];exact List.mem_cons_of_mem _ hb)
    ·exact swj b hb
def mk1:D->D->Option D
 | .dik kvs,.int j=>some (.dik (putD kvs (.inl j) (.bl true)))
 | .dit kvs,.tup l=>(Zh l).map λks=>.dit (putD kvs ks (.bl true))
 | _,_=>none
def Z3:D->List D->Option D
 | d,[]=>some d
 | d,e::r=>(mk1 d e).bind λd'=>Z3 d' r
def szD:D->Nat
 | .dik kvs=>kvs.length
 | .dit kvs=>kvs.length
 | _=>0
theorem Qcp {κ:Type} [DecidableEq κ] {kvs:List (κ × D)} {k:κ} {v:D} (h:(kvs.all λkv=>kv.2.pure)=true) (hv:v.pure=true):((putD kvs k v).all λkv=>kv.2.pure)=true:=by
 rw [List.all_eq_true] at h ⊢
 intro p hp
 unfold putD at hp
 split at hp
 ·obtain ⟨r,hr,rfl⟩:=List.mem_map.mp hp
  split
  ·exact hv
  ·exact h r hr
 ·rcases List.mem_append.mp hp with hp | hp
  ·exact h p hp
  ·rw [List.mem_singleton.mp hp];exact hv
theorem Qne {sd ed sd':D} (h:mk1 sd ed=some sd'):(∃kvs j,sd=.dik kvs/\ed=.int j)\/∃kvs l,sd=.dit kvs/\ed=.tup l:=by
 cases sd with
 | dik kvs=>cases ed with
  | int j=>exact .inl ⟨kvs,j,rfl,rfl⟩
  | _=>cases h
 | dit kvs=>cases ed with
  | tup l=>exact .inr ⟨kvs,l,rfl,rfl⟩
  | _=>cases h
 | _=>cases h
theorem Qpv {K:PySem.W.Frag} {H:Hp} {sd sd' ed:D} {a:Addr} {v:V} {F:List Addr} (r:Rep K H sd (.ref a) F) (hf:Zk sd=true) (hm:mk1 sd ed=some sd') (re:Rep K H ed v []) (hz:szD sd<sizeLine) :
  ∃ob,imm ob=false/\H a≠none/\(∃o0,H a=some o0/\imm o0=false)/\DPut H a v (.bl true) (upd H a ob)/\Rep K (upd H a ob) sd' (.ref a) [a]/\Zk sd'=true/\szD sd'<=szD sd+1:=by
 rcases Qne hm with ⟨kvs,j,rfl,rfl⟩ | ⟨kvs,l,rfl,rfl⟩
 ·cases hm
  obtain rfl:=re.iInt
  obtain ⟨a',vs,G,e0,_,e,r9⟩:=r.iDik
  cases e0
  have hG:=r9.pure hf
  subst hG
  obtain ⟨G',rp,sub⟩:=(r9.upd (ob':=.dK (putK vs (.inl j) (.bl true))) e rfl (by simp)).put (k:=.inl j) (.bl true)
  have:G'=[]:=List.sublist_nil.mp sub
  subst this
  exact ⟨_,rfl,by rw [e];simp,⟨_,e,rfl⟩,DPut.k (k:=.inl j) e (by rw [r9.length];exact hz),.dik Qb rp,Qcp hf rfl,Vf _ _ _⟩
 ·obtain ⟨ks,hk,rfl⟩:=Option.map_eq_some_iff.mp hm
  obtain ⟨b,ys,rfl,e2,r2⟩:=re.iTup
  have hx:=r2.keys hk
  subst hx
  obtain ⟨a',vs,G,e0,_,e,r9⟩:=r.iDit
  cases e0
  have hG:=r9.pure hf
  subst hG
  obtain ⟨G',rp,sub⟩:=(r9.upd (ob':=.dT (putK vs ks (.bl true))) e rfl (by simp)).put (k:=ks) (.bl true)
  have:G'=[]:=List.sublist_nil.mp sub
  subst this
  exact ⟨_,rfl,by rw [e];simp,⟨_,e,rfl⟩,DPut.t (k:=ks) e e2 (by rw [r9.length];exact hz),.dit Qb rp,Qcp hf rfl,Vf _ _ _⟩
theorem Xp:∀{ds:List D} {sd:D} {e:D},Z3 sd (ds++[e])=(Z3 sd ds).bind λd=>mk1 d e
 | [],sd,e=>by simp [Z3]
 | d::ds,sd,e=>by
  rw [List.cons_append]
  show (mk1 sd d).bind (λd'=>Z3 d' (ds++[e]))=((mk1 sd d).bind λd'=>Z3 d' ds).bind λd=>mk1 d e
  cases mk1 sd d with
  | none=>rfl
  | some d'=>exact Xp
theorem Qfh {ds:List D} {sd sd':D} (h:Z3 sd ds=some sd') (i:Nat):∃d,Z3 sd (ds.take i)=some d:=by
 induction ds generalizing sd i with
 | nil=>exact ⟨sd,by simp [Z3]⟩
 | cons e ds ih =>
  cases i with
  | zero=>exact ⟨sd,rfl⟩
  | succ i =>
   have h:(mk1 sd e).bind (λd'=>Z3 d' ds)=some sd':=h
   obtain ⟨d',h1,h2⟩:=Option.bind_eq_some_iff.mp h
   obtain ⟨d,h3⟩:=ih h2 i
   exact ⟨d,by show (mk1 sd e).bind (λd'=>Z3 d' (ds.take i))=some d;rw [h1];exact h3⟩
def Qlq (s j t:Nat):WS:=λP ρ=>oget (look ρ s) λsd=>oget (look ρ j) λg=>lsOf g λds=>t<ρ.length/\Qm ds=true/\Zk sd=true/\szD sd+ds.length<sizeLine/\oget (Z3 sd ds) λsd'=>oget ds.getLast? λe=>P.nx ((ρ.set s (some sd')).set t (some e))
theorem Qlw {s j t:Nat} {n:Str} {tp gp sp tp2 ps' apos bp:Pos} {bj} (hu:X.A.units+1<cLine) (hp:PassesOwn (model X.prog X.w) X.A X.env X.xe) (hN:X.N.Nodup) (hsj:s≠j:=by decide) (hst:s≠t:=by decide) (hjt:j≠t:=by decide)
  (ts:T.own s=true:=by rfl) (tj:T.own j=true:=by rfl) (hs:X.N[s]? = some x:=by rfl) (hj:X.N[j]? = some y:=by rfl) (ht:X.N[t]? = some n:=by rfl) (hto:t∉T.io:=by decide)
  (vs:Vis X.env.scope x:=by first | exact Or.inl rfl | exact Or.inr (Or.inl rfl) | exact Or.inr (Or.inr rfl)) (vj:Vis X.env.scope y:=by first | exact Or.inl rfl | exact Or.inr (Or.inl rfl) | exact Or.inr (Or.inr rfl)) (vt:Vis X.env.scope n:=by first | exact Or.inl rfl | exact Or.inr (Or.inl rfl) | exact Or.inr (Or.inr rfl))
  (lt:Loc X.env.scope n:=by first | exact Or.inl rfl | exact Or.inr rfl) (hf:X.fn n=true\/X.env.scope.names.lookup n=some .local:=by first | exact .inl rfl | exact .inr rfl | assumption)
  (d1:(x == ("__debug__" : Str))=false:=by decide) (d2:(y == ("__debug__" : Str))=false:=by decide) (d3:(n == ("__debug__" : Str))=false:=by decide) (k1:(x == ("__classdict__" : Str))=false:=by decide) (k2:(y == ("__classdict__" : Str))=false:=by decide) (k3:(n == ("__classdict__" : Str))=false:=by decide)
  (ha:∀v,assign (.Subscript (.Name x sp) (.Name n tp2) ps') X.env v=(do
   let ov ← holding [v] (eval (.Name x sp) X.env)
   let iv ← holding [v,ov] (eval (.Name n tp2) X.env)
   standAt ps'
   holding [v,ov,iv] (setItem ov iv v)
   release [v,ov,iv] []):=by intro _;rfl) (a1:swapsWithSole [.Subscript (.Name x sp) (.Name n tp2) ps'] (.Constant (.bool true) bj bp) apos.line X.env=pure false:=by rfl) (a2:swappedStores [.Subscript (.Name x sp) (.Name n tp2) ps'] (.Constant (.bool true) bj bp) X.env=pure none:=by rfl)
  (a3:(assignEach [.Subscript (.Name x sp) (.Name n tp2) ps'] X.env).map (·.2)=[assign (.Subscript (.Name x sp) (.Name n tp2) ps') X.env]:=by rfl) (hc:X.calm=true:=by rfl) (hfs:∀x,foldedSetIterable (.Name y gp) X.env x=pure x:=by intro _;rfl) :
  SV X T (.For (.Name n tp) (.Name y gp) [.Assign [.Subscript (.Name x sp) (.Name n tp2) ps'] (.Constant (.bool true) bj bp) apos] [] pos) (Qlq s j t):=by
 refine ⟨_,Qd4 hp hc (Xl (Jt hj vj d2 k2)) (X6 (i:=t) hN ht lt hf) (Qcr (Qgy Qpa (Qg3 (Jt hs vs d1 k1) (Jt ht vt d3 k3) (PSet.or Qdy (X1 hu)) ha) a1 a2 a3)) hfs,λz R σ H W ρ P E sr hw l=>?_⟩
 obtain ⟨sd,hls,hw⟩:=Qg hw
 obtain ⟨g,hlj,hw⟩:=Qg hw
 obtain ⟨ds,rfl⟩:∃ds,g=D.lst ds:=by
  clear hlj
  cases g with
  | lst ds=>exact ⟨ds,rfl⟩
  | _=>exact (show False from hw).elim
 obtain ⟨htl,hpu,hfl,hz,hw⟩:=hw
 obtain ⟨sd',hmk,hw⟩:=Qg hw
 obtain ⟨le,hle,qn⟩:=Qg hw
 obtain ⟨fp,s0⟩:=sr
 obtain ⟨vs0,hvs,rs⟩:=s0.at_ s _ hls
 obtain ⟨vj0,hvj,rj⟩:=s0.at_ j _ hlj
 obtain ⟨nds,sws⟩:=s0.own s _ hls ts
 obtain ⟨ndj,swj⟩:=s0.own j _ hlj tj
 have dsj:=s0.dis s j _ _ hls hlj ts tj hsj
 obtain ⟨a,rfl,hFs⟩:=rs.flat1 hfl
 obtain ⟨b,xs,rfl,eb,rx,hFj⟩:∃(b:Addr) (xs:List V),vj0=.ref b/\H b=some (.lst xs)/\Reps X.K H ds xs []/\fp j=[b]:=by
  generalize fp j=Fj at rj
  cases rj with
  | @lst b xs _ G e r =>
   obtain ⟨hG,r⟩:=r.pure hpu
   exact ⟨b,xs,rfl,e,r,by rw [hG]⟩
 have hab:b≠a:=λz=>dsj a (by rw [hFs];simp) (by rw [hFj,z];simp)
 have hxl:xs.length=ds.length:=rx.length
 have tlen:t<σ.length:=by rw [← s0.len];exact htl
 refine ⟨.ref b,hvj,b,rfl,.inl ⟨⟨xs,.of eb⟩,λi mm σ' H'=>mm=ds.length-i/\i<=ds.length/\∃sdi,Z3 sd (ds.take i)=some sdi/\σ'=(if i=0 then σ else σ.set t (xs[i-1]?))/\(∀c,c≠a->H' c=H c)/\Rep X.K H' sdi (.ref a) [a]/\Zk sdi=true/\szD sdi<=szD sd+i/\(∃o0,H' a=some o0/\imm o0=false),⟨ds.length,by simp,Nat.zero_le _,sd,rfl,by simp,λ_ _=>rfl,by rw [hFs] at rs;exact rs,hfl,Nat.le_refl _,?_⟩,?_⟩⟩
 ·exact s0.wd a (sws a (by rw [hFs];simp))
 rintro i mm σ2 H2 ⟨rfl,hi,sdi,m1,m2,m3,m4,m5,m6,m7⟩
 have e2:H2 b=some (.lst xs):=by rw [m3 b hab];exact eb
 by_cases hlt:i<ds.length
 ·refine .inr ⟨⟨xs,xs[i]'(by omega),.of e2,List.getElem?_eq_getElem (by omega)⟩,λσ' H'=>i+1<=ds.length/\∃sdi,Z3 sd (ds.take (i+1))=some sdi/\σ'=σ.set t (xs[i]?)/\(∀c,c≠a->H' c=H c)/\Rep X.K H' sdi (.ref a) [a]/\Zk sdi=true/\szD sdi<=szD sd+(i+1)/\(∃o0,H' a=some o0/\imm o0=false),λσ' H' ⟨h1,h2⟩=>⟨ds.length-(i+1),by omega,rfl,h1,by simpa using h2⟩,λv H3 yl=>?_⟩
  obtain ⟨rfl,yl⟩:=yl
  have hv:=yl xs (.of e2)
  obtain ⟨dn,hdn⟩:=Qfh hmk (i+1)
  rw [List.take_add_one,List.getElem?_eq_getElem hlt] at hdn
  have hdn':Z3 sd (ds.take i++[ds[i]])=some dn:=hdn
  rw [Xp,m1] at hdn'
  have hdn':mk1 sdi ds[i]=some dn:=hdn'
  obtain ⟨x1,B,hx1,rx1,sx1⟩:=rx.get (List.getElem?_eq_getElem hlt)
  rw [hv] at hx1
  cases hx1
  have hB:B=[]:=List.sublist_nil.mp sx1
  subst hB
  have rv2:Rep X.K H3 ds[i] v []:=rx1.frame (λc ob e him=>by
   by_cases hc':c=a
   ·obtain ⟨o1,g1,g2⟩:=s0.wd a (sws a (by rw [hFs];simp))
    rw [hc',g1] at e;cases e;rw [g2] at him;cases him
   ·rw [m3 c hc'];exact e) (λc hc'=>nomatch hc')
  obtain ⟨ob,i1,_,i3,i4,i5,i6,i7⟩:=Qpv m4 m5 hdn' rv2 (by omega)
  have hts:((σ2.set t (some v)):L2.St)[s]? = some (some (.ref a)):=by
   rw [List.getElem?_set_ne (Ne.symm hst),m2]
   split
   ·exact hvs
   ·rw [List.getElem?_set_ne (Ne.symm hst)];exact hvs
  have l2t:t<σ2.length:=by
   rw [m2]
   split
   ·exact tlen
   ·rw [List.length_set];exact tlen
  refine ⟨.ref a,hts,v,by rw [List.getElem?_set_self l2t],.inr ⟨a,_,rfl,i4,by omega,dn,?_,?_,λc hc'=>?_,i5,i6,by omega,⟨ob,Qb,i1⟩⟩⟩
  ·rw [List.take_add_one,List.getElem?_eq_getElem hlt];exact hdn
  ·rw [hv,m2]
   split
   ·rfl
   ·rw [List.set_set]
  ·rw [Qk hc'];exact m3 c hc'
 ·have ei:i=ds.length:=by omega
  subst ei
  rw [List.take_length] at m1
  rw [hmk] at m1
  cases m1
  have hne:ds≠[]:=λz=>by rw [z] at hle;cases hle
  have hpos:0<ds.length:=List.length_pos_iff.mpr hne
  have hlast:ds[ds.length-1]? = some le:=by rw [← hle,List.getLast?_eq_getElem?]
  obtain ⟨xl,B,hxl1,rxl,sxl⟩:=rx.get hlast
  have hB:B=[]:=List.sublist_nil.mp sxl
  subst hB
  rw [if_neg (by omega),hxl1] at m2
  refine .inl ⟨⟨xs,.of e2,by omega⟩,?_⟩
  have hWa:=sws a (by rw [hFs];simp)
  have kp:∀c u,H c=some u->c≠a->H2 c=some u:=λc u e hc'=>by rw [m3 c hc'];exact e
  have sF:=s0.write hls ts hvs (by rw [hFs];simp) kp m7 m4 (by simp) (λc hc'=>.inl (by rw [hFs];exact hc'))
  have fF:=(FrW.refl H W).write hWa (s0.wd a hWa) (H':=H2) kp m7 (F':=[a]) (λc hc'=>.inl (by rw [List.mem_singleton.mp hc'];exact hWa))
  have hpl:le.pure=true:=Gi.mp hpu le (List.mem_of_getElem? hlast)
  have rl2:Rep X.K H2 le xl []:=rxl.frame (λc ob e him=>by
   by_cases hc':c=a
   ·obtain ⟨o1,g1,g2⟩:=s0.wd a hWa
    rw [hc',g1] at e;cases e;rw [g2] at him;cases him
   ·exact kp c ob e hc') (λc hc'=>nomatch hc')
  obtain ⟨fp2,sF0⟩:=sF
  obtain ⟨R',sB⟩:=sF0.bind (i:=t) hto rl2 (by simp) (λc hc'=>nomatch hc')
  rw [m2]
  exact l.nx R' _ H2 _ _ sB (U7 fF λc hc'=>nomatch hc'.2) qn
end
end PV
namespace PV
open PySem PySem.Spec L2
theorem hu66 {k:Nat} {A:Around} (r:Room k A):A.units+66<cLine:=by have:=r.un;omega
theorem Ua:∀{ds:List D} {i:Nat},(Jd ds)[i]? = ds[i]?.map Q6
 | [],_=>by simp [Jd]
 | d::r,0=>by simp [Jd]
 | d::r,i+1=>by simpa [Jd] using Ua (ds:=r) (i:=i)
section
variable {X:Cx} {T:Tg} {m o:Bool} {e:Expr} {w:WE} {pos p q:Pos} {x y:Str} {k:Nat}
end
end PV
namespace PV
open PySem PySem.Spec L2
section
variable {X:Cx} {T:Tg} {K:PySem.W.Frag} {z:Nat->V} {R:Addr->Prop} {H:Hp} {W:Addr->Prop} {σ:L2.St} {ρ ρ':Env}
theorem SR.weaker (s:SR K T z R H W σ ρ) (hl:ρ'.length=ρ.length) (h:∀i d,look ρ' i=some d->look ρ i=some d):SR K T z R H W σ ρ':=by
 obtain ⟨fp,s⟩:=s
 exact ⟨fp,hl.trans s.len,s.wd,λi d e=>s.at_ i d (h i d e),λi d e=>s.own i d (h i d e),λi d e=>s.ro i d (h i d e),s.wr,s.rd,λi j d d' e e'=>s.dis i j d d' (h i d e) (h j d' e'),s.fix⟩
theorem SR.stored (s:SR K T z R H W σ ρ) {t:Nat} {v:V} (ht:look ρ t=none) (hio:t∉T.io):SR K T z R H W (σ.set t (some v)) ρ:=by
 obtain ⟨fp,s⟩:=s
 refine ⟨fp,by rw [List.length_set];exact s.len,s.wd,λi d e=>?_,s.own,s.ro,s.wr,s.rd,s.dis,λi hi=>?_⟩
 ·obtain ⟨u,h1,h2⟩:=s.at_ i d e
  refine ⟨u,?_,h2⟩
  rw [List.getElem?_set_ne (λq=>by rw [q,e] at ht;cases ht)]
  exact h1
 ·rw [List.getElem?_set_ne (show t≠i from λq=>hio (by rw [q];exact hi))]
  exact s.fix i hi
end
def appL (d:D):D->D
 | .lst xs=>.lst (xs++[d])
 | g=>g
def mixL (d:D) (ds:List D) (i:Nat):List D:=(ds.take i).map (appL d)++ds.drop i
theorem Qnf {d:D} {ds:List D} {i:Nat} (h:i<ds.length):(mixL d ds i)[i]? = some ds[i]/\(mixL d ds i).take i=(ds.take i).map (appL d)/\(mixL d ds i).drop (i+1)=ds.drop (i+1)/\mixL d ds (i+1)=(ds.take i).map (appL d)++appL d ds[i]::ds.drop (i+1):=by
 have hl:((ds.take i).map (appL d)).length=i:=by rw [List.length_map,List.length_take];omega
 unfold mixL
 refine ⟨?_,?_,?_,?_⟩
 ·rw [List.getElem?_append_right (by omega),hl,Nat.sub_self,List.drop_eq_getElem_cons h];rfl
 ·rw [List.take_append_of_le_length (by omega),List.take_of_length_le (by omega)]
 ·rw [List.drop_append,List.drop_of_length_le (by omega),hl,List.nil_append,List.drop_drop]
  congr 1
  omega
 ·rw [List.take_add_one,List.getElem?_eq_getElem h,List.map_append,List.append_assoc]
  rfl
section
variable {X:Cx} {T:Tg} {o:Bool} {e:Expr} {w:WE} {pos p q:Pos} {x y n:Str} {k:Nat}
def Z9 (j t:Nat) (w:WE):WS:=λP ρ=>oget (look ρ j) λc=>lsOf c λds=>t<ρ.length/\∃d:D,d.pure=true/\(∀g∈ds,∃xs,g=.lst xs/\xs.length<sizeLine)/\(∀(ρ':Env) (Q:D->Env->Prop),Q d ρ'->w ρ' Q)/\P.nx ((ρ.set j (some (.lst (ds.map (appL d))))).set t none)
theorem Qgm {j t:Nat} {tp gp tp2 ap cp ep:Pos} (hp:PassesOwn (model X.prog X.w) X.A X.env X.xe) (he:EV X T false true e w) (hN:X.N.Nodup) (hjt:j≠t:=by decide)
  (tj:T.own j=true:=by rfl) (hj:X.N[j]? = some y:=by rfl) (ht:X.N[t]? = some n:=by rfl) (hto:t∉T.io:=by decide)
  (vj:Vis X.env.scope y:=by first | exact Or.inl rfl | exact Or.inr (Or.inl rfl) | exact Or.inr (Or.inr rfl)) (vt:Vis X.env.scope n:=by first | exact Or.inl rfl | exact Or.inr (Or.inl rfl) | exact Or.inr (Or.inr rfl))
  (lt:Loc X.env.scope n:=by first | exact Or.inl rfl | exact Or.inr rfl) (hf:X.fn n=true\/X.env.scope.names.lookup n=some .local:=by first | exact .inl rfl | exact .inr rfl | assumption)
  (d2:(y == ("__debug__" : Str))=false:=by decide) (d3:(n == ("__debug__" : Str))=false:=by decide) (k2:(y == ("__classdict__" : Str))=false:=by decide) (k3:(n == ("__classdict__" : Str))=false:=by decide)
  (b2:attributeBase (.Name n tp2) "append" X.env (eval (.Name n tp2) X.env)=eval (.Name n tp2) X.env:=by rfl)
  (f2:((backTo cp (starEach [e] X.env)).all (λx=>!x.1) && (backToKw cp (keywordEach [] X.env)).all (λx=>x.1.isSome)
   && decide (([e]:List Expr).length+([]:List Keyword).length+(if ([]:List Keyword).isEmpty then 0 else 1)<30))=true:=by rfl)
  (l2:(ap.endLine == cp.line)=true:=by rfl) (s2:starEach [e] X.env=(false,eval e X.env)::starEach [] X.env:=by rfl) (q2:(backTo cp (starEach [] X.env)).any (·.1)=false:=by rfl)
  (hs:swapsWith (.Call (.Attribute (.Name n tp2) "append" ap) [e] [] cp) none ep.line X.env=pure false:=by rfl) (hc:X.calm=true:=by rfl) (hfs:∀x,foldedSetIterable (.Name y gp) X.env x=pure x:=by intro _;rfl) :
  SV X T (.For (.Name n tp) (.Name y gp) [.Expr (.Call (.Attribute (.Name n tp2) "append" ap) [e] [] cp) ep] [] pos) (Z9 j t w):=by
 obtain ⟨te,pe,ge⟩:=he
 refine ⟨_,Qd4 hp hc (Xl (Jt hj vj d2 k2)) (X6 (i:=t) hN ht lt hf) (Qcr (Gj (Qfd PySem.F.plainAttrs_list PySem.F.slot_list_append PySem.F.type_list_append Zg (Jt ht vt d3 k3) (Yw pe Us s2) b2 f2 l2 s2 q2) hs)) hfs,λz R σ H W ρ P E sr hw l=>?_⟩
 obtain ⟨g,hlj,hw⟩:=Qg hw
 obtain ⟨ds,rfl⟩:∃ds,g=D.lst ds:=by
  clear hlj
  cases g with
  | lst ds=>exact ⟨ds,rfl⟩
  | _=>exact (show False from hw).elim
 obtain ⟨htl,d,hpd,hall,hcst,qn⟩:=hw
 have jl:=Ve hlj
 obtain ⟨fp,s0⟩:=id sr
 obtain ⟨vj0,hvj,rj⟩:=s0.at_ j _ hlj
 obtain ⟨b,vs,F0,rfl,eb,r0⟩:∃(b:Addr) (vs:List V) (F0:List Addr),vj0=.ref b/\H b=some (.lst vs)/\Reps X.K H ds vs F0:=by
  generalize fp j=Fj at rj
  cases rj with
  | @lst b vs _ G e r=>exact ⟨b,vs,G,rfl,e,r⟩
 have hvl:vs.length=ds.length:=r0.length
 have tlen:t<σ.length:=by rw [← s0.len];exact htl
 refine ⟨.ref b,hvj,b,rfl,.inl ⟨⟨vs,.of eb⟩,λi mm σ' H'=>mm=ds.length-i/\i<=ds.length/\∃R' W',SR X.K T z R' H' W' σ' ((ρ.set j (some (.lst (mixL d ds i)))).set t none)/\FrW H W H' W'/\H' b=some (.lst vs)/\σ'[j]? = some (some (.ref b)),⟨ds.length,by simp,Nat.zero_le _,R,W,?_,FrW.refl _ _,eb,hvj⟩,?_⟩⟩
 ·refine sr.weaker (by rw [List.length_set,List.length_set]) λi d' hi=>?_
  rw [Jh] at hi
  split at hi
  ·cases hi
  ·rw [Jh] at hi
   split at hi
   ·rename_i h9
    rw [h9.1,hlj,← hi]
    simp [mixL]
   ·exact hi
 rintro i mm σ2 H2 ⟨rfl,hi,R2,W2,sr2,f2',e2,hj2⟩
 have hlm:look ((ρ.set j (some (.lst (mixL d ds i)))).set t none) j=some (.lst (mixL d ds i)):=by
  rw [Qp hjt,Ye jl]
 have hlt0:look ((ρ.set j (some (.lst (mixL d ds i)))).set t none) t=none:=by
  rw [Ye (by rw [List.length_set];exact htl)]
 by_cases hlt:i<ds.length
 ·refine .inr ⟨⟨vs,vs[i]'(by omega),.of e2,List.getElem?_eq_getElem (by omega)⟩,λσ' H'=>i+1<=ds.length/\∃R' W',SR X.K T z R' H' W' σ' ((ρ.set j (some (.lst (mixL d ds (i+1))))).set t none)/\FrW H W H' W'/\H' b=some (.lst vs)/\σ'[j]? = some (some (.ref b)),λσ' H' ⟨h1,h2⟩=>⟨ds.length-(i+1),by omega,rfl,h1,h2⟩,λv H3 yl=>?_⟩
  obtain ⟨rfl,yl⟩:=yl
  have hv:=yl vs (.of e2)
  have sr3:=sr2.stored (v:=v) hlt0 hto
  have hσt:(σ2.set t (some v))[t]? = some (some v):=by
   have h9:t<σ2.length:=by
    obtain ⟨fp9,s9⟩:=id sr2
    rw [← s9.len,List.length_set,List.length_set];exact htl
   rw [List.getElem?_set_self h9]
  obtain ⟨m1,m2,m3,m4⟩:=Qnf (d:=d) hlt
  obtain ⟨xs,hxs,hxz⟩:=hall ds[i] (List.getElem_mem hlt)
  -- what is known of the list ahead of the step
  obtain ⟨fp3,s3⟩:=id sr3
  have hσj:(σ2.set t (some v))[j]? = some (some (.ref b)):=by rw [List.getElem?_set_ne (Ne.symm hjt)];exact hj2
  have parts:∀(H4:Hp) (fp4:Nat->List Addr),H4 b=some (.lst vs)->Rep X.K H4 (.lst (mixL d ds i)) (.ref b) (fp4 j)->∃(l0:Addr) (ys:List V) (A G C:List Addr),v=.ref l0/\H4 l0=some (.lst ys)/\Reps X.K H4 xs ys G/\Reps X.K H4 ((ds.take i).map (appL d)) (vs.take i) A/\Reps X.K H4 (ds.drop (i+1)) (vs.drop (i+1)) C/\fp4 j=b::(A++(l0::G)++C):=λH4 fp4 e4 r4=>by
   generalize fp4 j=F4 at r4
   cases r4 with
   | @lst _ vs' _ G4 e5 r5 =>
    rw [e4] at e5
    cases e5
    obtain ⟨x1,A,B,C,hx1,hF,rB,rA,rC⟩:=r5.split m1
    rw [m2] at rA
    rw [m3] at rC
    rw [hv] at hx1
    cases hx1
    rw [hxs] at rB
    cases rB with
    | @lst l0 ys _ G el rl=>exact ⟨l0,ys,A,G,C,rfl,el,rl,rA,rC,by rw [hF]⟩
  obtain ⟨v3,hv3,rj3⟩:=s3.at_ j _ hlm
  rw [hσj] at hv3
  cases hv3
  obtain ⟨l0,ys,A,G,C,rfl,el,_,_,_,_⟩:=parts H3 fp3 e2 rj3
  refine ⟨.ref l0,hσt,.inl ⟨rfl,_,.of el⟩,?_⟩
  refine ge z R2 _ H3 W2 _ _ _ sr3 (hcst _ (λd' ρ9=>d'=d) rfl) λu H5 W5 d5 ρ5 F5 pp hq=>?_
  subst hq
  obtain ⟨sm,hW5,hρ5⟩:=pp.calm rfl
  subst hW5 hρ5
  obtain ⟨hF5,ru⟩:=pp.rep.pure hpd
  subst hF5
  obtain ⟨fp5,s5⟩:=id pp.sr
  obtain ⟨v5,hv5,rj5⟩:=s5.at_ j _ hlm
  rw [hσj] at hv5
  cases hv5
  obtain ⟨l5,ys5,A,G,C,e9,el5,rl,rA,rC,hF⟩:=parts H5 fp5 (sm _ _ e2) rj5
  cases e9
  have hylen:ys5.length=xs.length:=rl.length
  refine ⟨l0,ys5,u,rfl,rfl,el5,by rw [hylen];exact hxz,by omega,R2,λa=>W5 a\/a∈b::(A++(l0::G)++C),?_,?_,?_,hσj⟩
  all_goals (
   obtain ⟨nd5,sw5⟩:=s5.own j _ hlm tj
   rw [hF] at nd5 sw5
   have hbl:b≠l0:=λz9=>(List.nodup_cons.mp nd5).1 (by rw [z9];simp)
   have hm0:l0∈fp5 j:=by rw [hF];simp)
  ·have ndF:=(List.nodup_cons.mp nd5).2
   have nA:l0∉A:=λh9=>(List.nodup_append.mp (List.nodup_append.mp ndF).1).2.2 l0 h9 l0 (by simp) rfl
   have nG:l0∉G:=(List.nodup_cons.mp (List.nodup_append.mp (List.nodup_append.mp ndF).1).2.1).1
   have nC:l0∉C:=λh9=>(List.nodup_append.mp ndF).2.2 l0 (by simp) l0 h9 rfl
   have rep:Rep X.K (upd H5 l0 (.lst (ys5++[u]))) (.lst (mixL d5 ds (i+1))) (.ref b) (b::(A++(l0::G)++C)):=by
    refine .lst (by rw [Qk hbl];exact sm _ _ e2) ?_
    rw [m4,hxs]
    have hvs:vs=vs.take i ++ .ref l0::vs.drop (i+1):=by
     conv=>lhs;rw [← List.take_append_drop i vs]
     congr 1
     rw [List.drop_eq_getElem_cons (by omega)]
     congr 1
     rw [List.getElem?_eq_getElem (by omega)] at hv
     exact Option.some.inj hv
    rw [hvs,List.append_assoc]
    refine (rA.upd el5 rfl nA).append ?_
    have r9:Rep X.K (upd H5 l0 (.lst (ys5++[u]))) (.lst (xs++[d5])) (.ref l0) (l0::(G++[])):=.lst Qb ((rl.upd el5 rfl nG).snoc (ru.upd el5 rfl (λh9=>nomatch h9)))
    rw [List.append_nil] at r9
    exact .cons r9 (rC.upd el5 rfl nC)
   have sF:=s5.write hlm tj hσj hm0 (H':=upd H5 l0 (.lst (ys5++[u]))) Q8 ⟨_,Qb,rfl⟩ rep nd5 (λa ha=>.inl (by rw [hF];exact ha))
   refine sF.weaker (by simp) λk9 d9 h9=>?_
   rw [Jh] at h9
   split at h9
   ·cases h9
   ·rename_i hnt
    have h9':=h9
    rw [Jh] at h9'
    rw [Jh]
    by_cases hk:k9=j
    ·subst hk
     rw [if_pos ⟨rfl,by simpa using jl⟩]
     rw [if_pos ⟨rfl,jl⟩] at h9'
     exact h9'
    ·rw [if_neg (λz9=>hk z9.1),Jh,if_neg (λz9=>hnt ⟨z9.1,by simpa using z9.2⟩),Jh,if_neg (λz9=>hk z9.1)]
     rw [if_neg (λz9=>hk z9.1)] at h9'
     exact h9'
  ·have hWl:=sw5 l0 (by simp)
   exact (f2'.trans pp.fr).write hWl (s5.wd l0 hWl) (H':=upd H5 l0 (.lst (ys5++[u]))) Q8 ⟨_,Qb,rfl⟩ (F':=b::(A++(l0::G)++C)) (λa ha=>.inl (sw5 a ha))
  ·rw [Qk hbl];exact sm _ _ e2
 ·have ei:i=ds.length:=by omega
  subst ei
  refine .inl ⟨⟨vs,.of e2,by omega⟩,l.nx R2 σ2 H2 W2 _ sr2 f2' ?_⟩
  have:mixL d ds ds.length=ds.map (appL d):=by simp [mixL]
  rw [this];exact qn
end
end PV
namespace L2
open PySem PySem.Spec PyProof.Rows
def Qkj (H:Hp):Prop:=∀b,H b=none\/(∃o xs,H b=some (.frz o (.lst xs)))\/∃ps,H b=some (.tbl ps)
def tabH (TB:List (Addr × Array Value)) (H:Hp):Hp:=λb=>match TB.lookup b with
 | some ps=>some (.tbl ps)
 | none=>H b
theorem Yk:∀{TB:List (Addr × Array Value)} {a:Addr} {ps:Array Value},TB.lookup a=some ps->(a,ps)∈TB
 | [],_,_,e=>by cases e
 | (b,x)::r,a,o,e=>by
  rw [List.lookup_cons] at e
  cases hb:a == b with
  | true=>rw [hb] at e;cases e;rw [eq_of_beq hb];exact .head _
  | false=>rw [hb] at e;exact .tail _ (Yk e)
theorem Qhp {P:Program} {w:World} {K:PySem.W.Frag} {mg mb:Str->Option Value} {CX:CXT} {k:Nat} {fa a:Addr} {fd:FuncData} {x:Str} {sp:Sp} {s₁:Shared} {vs:List Value} {ns:List Int} {TB:List (Addr × Array Value)}
  (KX:K.In s₁.heap) (hnt:PySem.W.noTabs K=true) (hTB:∀p∈TB,s₁.heap.get? p.1=some (PySem.W.tabObj #[])) (hTC:∀p∈TB,isCodeTable s₁.heap p.1) (hTl:∀p∈TB,TB.lookup p.1=some p.2) (hbm:G7 mg s₁.heap)
  (hns:s₁.heap.Ns mainGlobals mg) (hb:s₁.heap.Ns builtinsNs mb) (hbb:∀x:Str,x ≠ "__name__" -> mb x=bootBuiltins x) (hlim:s₁.heap.NoLimit) (hg:s₁.gens = #[])
  (ha:s₁.heap.get? a=some { cls:=.type "list",data:=.seq vs.toArray }) (hi:IntsAre vs ns) (hl:ns.length<=sizeLine) (hr:Room k callerA)
  (F:∀base:Heap,K.In base->base.Ns mainGlobals mg->G7 mg base->FnOk P w K mg base CX k fa fd [x] sp) (hbind:∀(s:Shared) (u:Value),BindsTo s fd ⟨[u],[]⟩ [(x,u)])
  (hsp:∀H:Hp,Qkj H->Tabs TB H->SqL K H a (ns.map V.int)->sp [.ref a] H (λv _=>v=.bl true) λ_ _ _=>False)
  (hCX:∀H e s',CX [] H s₁ (λ_ _ _=>False) e s'->False) :
  codeAny (model P w) callerA (.call (.ref fa) ⟨[.ref a],[]⟩) (λr s'=>r=.ok (.ret (.bool true))/\OldK s₁.heap s'.heap/\s'.os=s₁.os/\AllBare s'.gens) s₁:=by
 have rv:=Qa6 hi
 have lenV:=hi.length
 have tabNo:∀{b:Addr} {o:Obj},s₁.heap.get? b=some o->o.cls ≠ .none\/(∃es ep,o.data=.dict es ep)->TB.lookup b=none:=λ{b o} e d=>by
  cases q:TB.lookup b with
  | none=>rfl
  | some ps =>
   have:=hTB _ (Yk q)
   rw [e] at this
   cases this
   rcases d with d | ⟨es,ep,d⟩
   ·exact absurd rfl d
   ·cases d
 have tabK:∀{b:Addr} {o:Obj},K.lookup b=some o->TB.lookup b=none:=λ{b o} e=>by
  cases q:TB.lookup b with
  | none=>rfl
  | some ps =>
   have h1:=hTB _ (Yk q)
   rw [KX b o e] at h1
   cases h1
   have h2:=List.all_eq_true.mp hnt (b,_) (PySem.W.mem_of_lookupK e)
   exact absurd (show false=true from h2) Bool.false_ne_true
 have core:∀H:Hp,Only H->SqL K H a (ns.map V.int)->HOk P w H s₁.heap->(∀b,H b≠none->b=a)->(H a≠none->K.lookup a=none) ->
   codeAny (model P w) callerA (.call (.ref fa) ⟨[.ref a],[]⟩) (λr s'=>r=.ok (.ret (.bool true))/\OldK s₁.heap s'.heap/\s'.os=s₁.os/\AllBare s'.gens) s₁:=by
  intro H0 hO0 hS0 hok0 hA0 hK0
  have tb0:∀{b:Addr},TB.lookup b=none->tabH TB H0 b=H0 b:=λ{b} e=>by unfold tabH;rw [e]
  have tb1:∀{b:Addr} {ps:Array Value},TB.lookup b=some ps->tabH TB H0 b=some (.tbl ps):=λ{b ps} e=>by unfold tabH;rw [e]
  have taN:TB.lookup a=none:=tabNo ha (.inl (by simp))
  have hOT:Qkj (tabH TB H0):=λb=>by
   cases q:TB.lookup b with
   | none=>rw [tb0 q];exact (hO0 b).imp id .inl
   | some ps=>exact .inr (.inr ⟨ps,tb1 q⟩)
  have hTT:Tabs TB (tabH TB H0):=λp hp=>⟨#[],by rw [tb1 (hTl p hp)];simp⟩
  have hST:SqL K (tabH TB H0) a (ns.map V.int):=by
   rcases hS0 with (h | ⟨o,h⟩) | h
   ·exact .inl (.inl (by rw [tb0 taN];exact h))
   ·exact .inl (.inr ⟨o,by rw [tb0 taN];exact h⟩)
   ·exact .inr h
  have hok:HOk P w (tabH TB H0) s₁.heap:=λb o e=>by
   cases q:TB.lookup b with
   | some ps =>
    rw [tb1 q] at e
    cases e
    exact ⟨#[],hTB _ (Yk q),.inl rfl⟩
   | none =>
    rw [tb0 q] at e
    have hb':b=a:=hA0 b (by rw [e];simp)
    rcases hO0 b with z | ⟨ob,xs,z⟩
    ·rw [z] at e;cases e
    ·rw [z] at e
     cases e
     exact hok0 b _ z
  have hne:∀{b:Addr},tabH TB H0 b≠none->b=a\/∃ps,TB.lookup b=some ps:=λ{b} h=>by
   cases q:TB.lookup b with
   | some ps=>exact .inr ⟨ps,rfl⟩
   | none=>rw [tb0 q] at h;exact .inl (hA0 b h)
  generalize hH:tabH TB H0=H at hOT hTT hST hok hne
  have base_of:∀{b:Addr} {o:Obj},s₁.heap.get? b=some o->H b=none->(hidT s₁.heap H).get? b=some o:=λe n=>Qju e n
  have noB:∀{b:Addr} {o:Obj},s₁.heap.get? b=some o->TB.lookup b=none->(b=a->False)->H b=none:=λ{b o} e q n=>by
   cases z:H b with
   | none=>rfl
   | some u =>
    rcases hne (b:=b) (by rw [z];simp) with e' | ⟨ps,e'⟩
    ·exact (n e').elim
    ·rw [q] at e';cases e'
  have noA:∀{b:Addr} {o:Obj} {es:Array DictEntry} {ep:Nat},s₁.heap.get? b=some o->o.data=.dict es ep->H b=none:=λ{b o es ep} e d =>
   noB e (tabNo e (.inr ⟨_,_,d⟩)) λe'=>by
    subst e'
    rw [ha] at e;cases e
    have d':Data.seq vs.toArray _=Data.dict es ep:=d
    cases d'
  have nsK:∀{b:Addr} {m:Str->Option Value},s₁.heap.Ns b m->(hidT s₁.heap H).Ns b m:=λ{b m} ⟨o,es,ep,e,d,r⟩=>⟨o,es,ep,base_of e (noA e d),d,r⟩
  have hKb:K.In (hidT s₁.heap H):=λb o e=>base_of (KX b o e) (by
   cases z:H b with
   | none=>rfl
   | some u =>
    rcases hne (b:=b) (by rw [z];simp) with e' | ⟨ps,e'⟩
    ·subst e'
     have:H0 b≠none:=by rw [← tb0 taN,hH,z];simp
     rw [hK0 this] at e;cases e
    ·rw [tabK e] at e';cases e')
  have hBb:G7 mg (hidT s₁.heap H):=by
   obtain ⟨bm,ob,b1,b2,b3,b4,b5,b6⟩:=hbm
   exact ⟨bm,ob,b1,b2,base_of b3 (noB b3 (tabNo b3 (.inl (by rw [b4];simp))) λe'=>by subst e';rw [ha] at b3;cases b3;cases b6),b4,b5,b6⟩
  have hM:Mod K mg (hidT s₁.heap H):=⟨hKb,nsK hns,⟨mb,nsK hb,hbb⟩,let ⟨mc,h1,h2⟩:=hlim;⟨mc,nsK h1,h2⟩⟩
  have e0:Env0 P w K mg (hidT s₁.heap H) callerA [] s₁ H:=⟨rfl,hM,λb o e=>Qm8 e,Nat.le_of_eq (Qhw _ _),trivial,λb hb=>absurd (show b∈([]:List Addr) from hb) (by simp),hok,.of_eq hg⟩
  refine codeAny_mono ((F _ hKb (nsK hns) hBb).run callerA [] s₁ H ⟨[.ref a],[]⟩ [.ref a] [.ref a] _ _ hr e0 (hbind s₁ (.ref a)) (.cons rfl .nil) (hsp H hOT hTT hST)) λr s' h=>?_
  cases r with
  | error e=>exact (hCX H e s' h).elim
  | ok fl =>
   cases fl with
   | next=>exact False.elim h
   | brk=>exact False.elim h
   | cont=>exact False.elim h
   | ret u =>
    obtain ⟨v,H',os,bare,un,hok',r',q⟩:=h
    have q':v=.bl true:=q
    subst q'
    obtain rfl:u=Value.bool true:=r'
    have grown:∀{b:Addr} {ps:Array Value},H b=some (.tbl ps)->∃ts,s'.heap.get? b=some (PySem.W.tabObj ts):=λ{b ps} z=>by
     obtain ⟨more,z2⟩:=un.tbls b ps z
     obtain ⟨ts,e2,_⟩:=hok' b _ z2
     exact ⟨ts,e2⟩
    have tabIs:∀{b:Addr} {ps:Array Value},H b=some (.tbl ps)->(b,ps)∈TB:=λ{b ps} z=>by
     cases q:TB.lookup b with
     | some ps' =>
      have:=tb1 q
      rw [hH,z] at this
      cases this
      exact Yk q
     | none =>
      have:=tb0 q
      rw [hH,z] at this
      rcases hO0 b with z' | ⟨ob,xs,z'⟩
      ·rw [z'] at this;cases this
      ·rw [z'] at this;cases this
    have keep:∀b o,s₁.heap.get? b=some o->(∀ps,H b≠some (.tbl ps))->s'.heap.get? b=some o:=λb o e nt=>by
     rcases hOT b with z | ⟨ob,xs,z⟩ | ⟨ps,z⟩
     ·exact un.keep b o e z (by intro z;exact absurd (show b∈([]:List Addr) from z) (by simp)) (by simp)
     ·have z2:=un.frzs b ob _ z
      obtain ⟨e1,_⟩:=hok b _ z
      obtain ⟨e2,_⟩:=hok' b _ z2
      rw [e] at e1;cases e1
      exact e2
     ·exact absurd z (nt ps)
    have alt:∀b,(∃ps,H b=some (.tbl ps))\/∀ps,H b≠some (.tbl ps):=λb=>by
     rcases hOT b with z | ⟨ob,xs,z⟩ | ⟨ps,z⟩
     ·exact .inr λps e=>by rw [z] at e;cases e
     ·exact .inr λps e=>by rw [z] at e;cases e
     ·exact .inl ⟨ps,z⟩
    refine ⟨rfl,⟨λb o e=>?_,λb o e=>?_⟩,os,bare⟩
    ·rcases alt b with ⟨ps,z⟩ | z
     ·obtain ⟨ts,e2⟩:=grown z
      have m:=tabIs z
      have e3:=hTB _ m
      rw [show ((b,ps):Addr × Array Value).1=b from rfl,e] at e3
      cases e3
      exact .inr (.inl ⟨hTC _ m,rfl,#[],ts,rfl,by rw [Array.empty_append];exact e2⟩)
     ·exact .inl (keep b o e z)
    ·rcases alt b with ⟨ps,z⟩ | z
     ·obtain ⟨ts,e2⟩:=grown z
      exact ⟨_,e2⟩
     ·exact ⟨o,keep b o e z⟩
 cases hk:K.lookup a with
 | some o =>
  have e:=KX a o hk
  rw [ha] at e
  cases e
  refine core (λ_=>none) (λ_=>.inl rfl) (.inr ⟨_,vs.toArray,_,hk,rfl,rfl,rfl,by rw [List.size_toArray,lenV];exact hl,by simpa using rv⟩) (λb u z=>by have z':(none:Option HO)=some u:=z;cases z') (λb z=>absurd rfl z) λz=>absurd rfl z
 | none =>
  refine core (λb=>if b=a then some (.frz { cls:=.type "list",data:=.seq vs.toArray } (.lst (ns.map V.int))) else none) (λb=>?_) (.inl (.inr ⟨{ cls:=.type "list",data:=.seq vs.toArray },if_pos rfl⟩)) (λb u z=>?_) (λb z=>?_) λ_=>hk
  ·by_cases hb:b=a
   ·exact .inr ⟨_,_,if_pos hb⟩
   ·exact .inl (if_neg hb)
  ·by_cases hb:b=a
   ·have z':=(if_pos hb).symm.trans z
    cases z'
    subst hb
    exact ⟨ha,by rw [List.length_map];exact hl,vs,_,rv,ha⟩
   ·have z':=(if_neg hb).symm.trans z
    cases z'
  ·by_cases hb:b=a
   ·exact hb
   ·exact absurd (if_neg hb) z
theorem Qiv {l:PySem.W.OpenLaw} {n k:Nat} {q:Program} {loose:List Str} {XP:(Str->Option Value)->Heap->Prop} {YP:World->Heap->Prop} {d:DefRec} {K:Params->PySem.W.Frag} {CX:World->CXT} {sp:World->Sp} {x:Str} {TB:List (Addr × Array Value)}
  (hn:l.most=some n) (hn2:n<=sizeLine) (hdf:d.params.defaults=[]) (hr:Room k callerA)
  (hY:∀(w:World) (h:Heap),YP w h->(K w.params).In h) (hT:∀(w:World) (h:Heap),YP w h->∀p∈TB,h.get? p.1=some (PySem.W.tabObj #[]))
  (hnt:∀w:World,PySem.W.noTabs (K w.params)=true) (hTl:∀p∈TB,TB.lookup p.1=some p.2)
  (F:∀(w:World) (mg:Str->Option Value) (fa:Addr) (h:Heap),(K w.params).In h->h.Ns mainGlobals mg->mg d.name=some (.ref fa) ->
   ∃fd:FuncData,(∀(s:Shared) (u:Value),BindsTo s fd ⟨[u],[]⟩ [(x,u)])/\(∀p∈TB,∃c,PySem.W.codeHdIn (K w.params) c p.1=true) /\
    ∀base:Heap,(K w.params).In base->base.Ns mainGlobals mg->G7 mg base->FnOk l.prog w (K w.params) mg base (CX w) k fa fd [x] (sp w))
  (hsp:∀(w:World) (H:Hp) (a:Addr) (ns:List Int),ns.length<=n->Qkj H->Tabs TB H->SqL (K w.params) H a (ns.map V.int)->sp w [.ref a] H (λv _=>v=.bl true) λ_ _ _=>False)
  (hCX:∀(w:World) (H:Hp) (s:Shared) (e:Value) (s':Shared),CX w [] H s (λ_ _ _=>False) e s'->False) :
  PySem.W.WalkO q loose XP YP l.row.toRowW d [] (λf vs=>PySem.call f vs):=by
 refine Att.Qdf hn hdf λw s₀ s₁ mg mb fa o pm cd doc a vs ns G Y ho hd hcd hmg hobj hints hlen hg=>?_
 have KX:=hY w _ Y
 obtain ⟨fd,hb,hTC,hF⟩:=F w mg fa _ KX G.T.g hmg
 refine Qhp KX (hnt w) (hT w _ Y) (λp hp=>?_) hTl G.T.bmain G.T.g G.T.b G.T.builtins G.T.nolimit hg hobj hints (Nat.le_trans hlen hn2) hr hF hb (λH hO ht hS=>hsp w H a ns hlen hO ht hS) λH e s'=>hCX w H s₁ e s'
 obtain ⟨c,hc⟩:=hTC p hp
 exact ((PySem.W.codeHd_of_K KX hc).tab (hT w _ Y p hp)).isCodeTable
theorem Qn5 {X:Cx}:Qcg X [] []:=trivial
theorem Qkc {X:Cx} {i:Nat} {ix:List Nat} {p:Str × Addr} {cl:List (Str × Addr)} (h1:X.N[i]? = some p.1) (h2:X.env.scope.names.lookup p.1=some .cell) (h3:X.env.cells.lookup p.1=some p.2) (h4:X.fn p.1=true) (h5:Qcg X ix cl):Qcg X (i::ix) (p::cl):=⟨h1,h2,h3,h4,h5⟩
def Qsa:Expr->Bool
 | .Lambda _ _ _ _=>true
 | _=>false
def Qp6:List Stmt->Expr
 | .Return (some (.Call _ as _ p)) _::r=>(as.find? Qsa).getD (.Name "" p)
 | _::r=>Qp6 r
 | []=>.Name "" ⟨0,0,0,0⟩
def Qr7 (q:Str) (ns:List Str):Expr->Lam
 | .Lambda a b s _=>⟨q,a,b,s,ns⟩
 | e=>⟨q,⟨[],[],none,[],[],none,[]⟩,e,⟨.function,[],false,false,[]⟩,ns⟩
def Qp5:Expr->Pos
 | .Lambda _ _ _ p=>p
 | _=>⟨0,0,0,0⟩
theorem Qbq {ts:List Addr} {tg:Array Value}:∀p∈ts.map (λP=>(P,tg)),(ts.map λP=>(P,tg)).lookup p.1=some p.2:=by
 intro p hp
 obtain ⟨P,hP,rfl⟩:=List.mem_map.mp hp
 clear hp
 induction ts with
 | nil=>cases hP
 | cons a ts ih =>
  rw [List.map_cons,List.lookup_cons]
  cases hb:P == a with
  | true=>rfl
  | false =>
   rcases List.mem_cons.mp hP with z | z
   ·subst z;simp at hb
   ·exact ih z
end L2
namespace PV
open PySem PySem.Spec L2
section
variable {i j:Int} {x y:Str} {xs ys:List D} {k:D->Prop} {b c:Bool} {d e:D} {kvs kus:List (Key × D)}
theorem Qgv {k:List (Key × D)->Prop}:Qnv (.dik kvs) k=k kvs:=rfl
theorem Qky {k:List D->Prop}:Qk5 (.lst xs) k=k xs:=rfl
theorem X4:Yo (.int i)=some (.inl i):=rfl
end
end PV
namespace PV
open PySem PySem.Spec L2
theorem U5:∀{a b:List Int},a.map D.int=b.map D.int->a=b
 | [],[],_=>rfl
 | [],_::_,h=>by simp at h
 | _::_,[],h=>by simp at h
 | x::a,y::b,h=>by
  simp only [List.map_cons,List.cons.injEq,D.int.injEq] at h
  rw [h.1,U5 h.2]
section
variable {ns:List Int} {n:Int} {k:D->Prop} {xs:List D} {kvs:List (Key × D)}
end
end PV
namespace PV
open PySem PySem.Spec L2
section
variable {i j:Int} {k:D->Prop} {xs ys:List D} {bs:List Bool} {d e:D}
end
end PV
namespace L2
open PySem PySem.Spec PyProof.Rows
open PySem.W (Dat kqdP kqdPs kqdOk)
section
variable {X:Cx}
mutual
inductive DVF (K:PySem.W.Frag) (H:Hp):V->Dat->Prop
 | non:DVF K H .non .none
 | int (i:Int):DVF K H (.int i) (.int i)
 | str (x:Str):DVF K H (.str x) (.str x)
 | tup {a:Addr} {xs:List V} {ds:List Dat} (e:SqT K H a xs) (r:DVFs K H xs ds):DVF K H (.ref a) (.tuple ds)
 | lst {a:Addr} {xs:List V} {ds:List Dat} (e:SqL K H a xs) (r:DVFs K H xs ds):DVF K H (.ref a) (.list ds)
inductive DVFs (K:PySem.W.Frag) (H:Hp):List V->List Dat->Prop
 | nil:DVFs K H [] []
 | cons {x:V} {d:Dat} {xs:List V} {ds:List Dat} (h:DVF K H x d) (r:DVFs K H xs ds):DVFs K H (x::xs) (d::ds)
end
mutual
theorem DVF.reads {pins:List (Addr × Obj)} {σ:St} {H:Hp} {s:Shared} (I:Inv X pins σ H s):∀{x:V} {d:Dat} {u:Value},DVF X.K H x d->RelV x u->∃as,Reads s.heap u (kqdP d) as
 | _,_,_,.non,r=>by cases r;exact ⟨_,by rw [kqdP];exact Reads.none⟩
 | _,_,_,.int i,r=>by obtain ⟨t,rfl⟩:=r;exact ⟨_,by rw [kqdP];exact Reads.int i t⟩
 | _,_,_,.str x,r=>by obtain ⟨t,rfl⟩:=r;exact ⟨_,by rw [kqdP];exact Reads.str x t⟩
 | _,_,_,.tup e q,r=>by
  cases r
  obtain ⟨its,rv,⟨o,h1,h2,n,h3⟩,_⟩:=I.tuple e
  obtain ⟨as,z⟩:=DVFs.reads I q rv
  rw [kqdP]
  exact ⟨as,reads_tuple_at h1 h2 h3 (by simpa using z)⟩
 | _,_,_,.lst e q,r=>by
  cases r
  obtain ⟨its,rv,⟨o,n,h1,h2,_,h3⟩,_⟩:=I.list e
  obtain ⟨as,z⟩:=DVFs.reads I q rv
  rw [kqdP]
  exact ⟨_,reads_list_at h1 h2 h3 (by simpa using z)⟩
theorem DVFs.reads {pins:List (Addr × Obj)} {σ:St} {H:Hp} {s:Shared} (I:Inv X pins σ H s):∀{xs:List V} {ds:List Dat} {us:List Value},DVFs X.K H xs ds->Vals xs us->∃as,ReadsAll s.heap us (kqdPs ds) as
 | _,_,_,.nil,r=>by cases r;exact ⟨_,by rw [kqdPs];exact ReadsAll.nil⟩
 | _,_,_,.cons p q,r=>by
  cases r with
  | cons r1 r2 =>
   obtain ⟨as,z⟩:=DVF.reads I p r1
   obtain ⟨bs,y⟩:=DVFs.reads I q r2
   rw [kqdPs]
   exact ⟨_,ReadsAll.cons z y⟩
end
def Qrr (K:PySem.W.Frag) (neg:Bool):R2:=λx y H Q=>∃d e n,DVF K H x d/\DVF K H y e/\kqdOk n d=true/\kqdOk n e=true/\n<=9/\((d=e->Q (.bl (!neg)) H)/\(d≠e->Q (.bl neg) H))
theorem Qpf (hu:X.A.units+64<cLine):OpR X (compareOp .NotEq) (Qrr X.K true):=by
 classical
 intro pins s σ H x y v u Q I rx ry h
 obtain ⟨d,e,n,dx,dy,hd,he,hn,q1,q2⟩:=h
 obtain ⟨as,ra⟩:=dx.reads I rx
 obtain ⟨bs,rb⟩:=dy.reads I ry
 refine ne_dataH ra rb (Jl hd hn) (Jl he hn) hu ?_
 rw [Qal hd he]
 by_cases hq:d=e
 ·rw [decide_eq_true hq];exact ⟨.bl false,H,I,rfl,q1 hq⟩
 ·rw [decide_eq_false hq];exact ⟨.bl true,H,I,rfl,q2 hq⟩
def Qrt (K:PySem.W.Frag):R2:=λx y H Q=>∃l b xs zs,x=.ref l/\y=.ref b/\SqL K H l xs/\SqL K H b zs/\xs.length+zs.length<=sizeLine/\∀p,H p=none->Q (.ref p) (upd H p (.lst (xs++zs)))
theorem Qm7:OpR X (binaryOp .Add) (Qrt X.K):=by
 intro pins s σ H x y v u Q I rx ry h
 obtain ⟨l,b,xs,zs,rfl,rfl,hH,hB,hz,q⟩:=h
 cases rx
 cases ry
 obtain ⟨its,r,⟨⟨c1,d1,t1,s1⟩,n,e,rfl,rfl,rfl⟩,hl⟩:=I.list hH
 obtain ⟨its2,r2,⟨⟨c2,d2,t2,s2⟩,n2,e2,rfl,rfl,rfl⟩,hl2⟩:=I.list hB
 have z1:=r.length
 have z2:=r2.length
 refine concat_meets ⟨_,e,rfl⟩ ⟨_,e2,rfl⟩ noFill_list_add seq_list_add PySem.F.slot_list_add PySem.F.entry_list_add (PySem.F.args_list_add_2 _ _) (list_addW l b its.toArray its2.toArray n n2 _ _ _ _ (by simp only [List.size_toArray];omega)) ⟨e,e2,?_⟩
 have ea:its.toArray++its2.toArray=(its++its2).toArray:=by simp
 rw [ea]
 exact ⟨.ref _,_,I.lnew (t':=s.toks) (r.append r2) (by rw [List.length_append];omega),rfl,q _ I.fresh⟩
def Qi7 (K:PySem.W.Frag):V->List V->Hp->VK->Prop:=λx vs H Q=>∃(l:Addr) (xs:List V) (y:V) (ds:List Dat) (d:Dat) (n i:Nat),x=.ref l/\vs=[y]/\H l=some (.lst xs)/\DVFs K H xs ds/\DVF K H y d/\(∀e∈ds,kqdOk n e=true)/\kqdOk n d=true/\n<=9/\ds[i]? = some d/\(∀j e,j<i->ds[j]? = some e->e≠d)/\Q .non (upd H l (.lst (xs.eraseIdx i)))
theorem DVFs.get {K:PySem.W.Frag} {H:Hp}:∀{xs:List V} {ds:List Dat} {i:Nat} {x:V},DVFs K H xs ds->xs[i]? = some x->∃d,ds[i]? = some d/\DVF K H x d
 | _,_,_,_,.nil,e=>by simp at e
 | _,_,0,_,.cons p q,e=>by simp at e;subst e;exact ⟨_,rfl,p⟩
 | _,_,i+1,_,.cons p q,e=>by
  obtain ⟨d,h1,h2⟩:=DVFs.get (i:=i) q (by simpa using e)
  exact ⟨d,by simpa using h1,h2⟩
theorem DVFs.len {K:PySem.W.Frag} {H:Hp}:∀{xs:List V} {ds:List Dat},DVFs K H xs ds->xs.length=ds.length
 | _,_,.nil=>rfl
 | _,_,.cons p q=>by simp [DVFs.len q]
theorem Qff (hu:X.A.units+66<cLine):MtM X "list.remove" (Qi7 X.K):=by
 classical
 intro pins s σ H x vs v us Q I rx rv h
 obtain ⟨l,xs,y,ds,d,n,i,rfl,rfl,hH,dxs,dy,hds,hd,hn,hi,hno,q⟩:=h
 cases rx
 obtain ⟨u,rfl,ru⟩:=rv.one
 obtain ⟨z,its,c,r,hl,e⟩:=I.lstM hH
 obtain ⟨bs,rb⟩:=dy.reads I ru
 have lenD:=dxs.len
 have hil:i<its.length:=by
  have:=(List.getElem?_eq_some_iff.mp hi).1
  omega
 have dat:∀(m:Nat) (hm:m<its.length),∃e as,ds[m]? = some e/\Reads s.heap its[m] (kqdP e) as/\kqdOk n e=true:=λm hm=>by
  have hx:xs[m]? = some (xs[m]'(by omega)):=List.getElem?_eq_getElem (by omega)
  obtain ⟨e,e1,e2⟩:=dxs.get hx
  obtain ⟨w,w1,w2⟩:=r.get hx
  rw [List.getElem?_eq_getElem hm] at w1
  cases w1
  obtain ⟨as,ra⟩:=e2.reads I w2
  exact ⟨e,as,e1,ra,hds e (List.mem_of_getElem? e1)⟩
 have eqs:∀(B:Around) (m:Nat) (hm:m<its.length),B.units+64<cLine->∃e,ds[m]? = some e/\SeqAt.EqAt B s its[m] u (decide (e=d)):=λB m hm hB=>by
  obtain ⟨e,as,e2,ra,he⟩:=dat m hm
  refine ⟨e,e2,?_⟩
  rw [← Qal he hd]
  exact SeqAt.eqAt_reads (kqdP e) (kqdP d) B s _ u as bs ra rb (SeqAt.canLay_of_shaped (Jl he hn)) (SeqAt.canLay_of_shaped (Jl hd hn)) (SeqAt.room_of_shaped (Jl he hn) hB)
 have hB:X.A.in1.units+64<cLine:=by
  show X.A.units+1+64<cLine
  omega
 refine call_meets F.slot_list_remove ⟨_,e,rfl⟩ F.entry_list_remove (F.args_list_remove_2 _ _) (Ql5 l its.toArray c u i (by simpa using hil) (by rw [List.size_toArray];omega)) ⟨e,?_,λm hm hlt=>?_,?_⟩
 ·obtain ⟨e',e1,e2⟩:=eqs X.A.in1 i hil hB
  rw [hi] at e1
  cases e1
  rw [decide_eq_true rfl] at e2
  simpa using e2
 ·have hm':m<its.length:=by simpa using hm
  obtain ⟨e',e1,e2⟩:=eqs X.A.in1 m hm' hB
  rw [decide_eq_false (hno m e' hlt e1)] at e2
  simpa using e2
 ·refine ⟨.non,_,I.lset (its':=its.eraseIdx i) hH e ?_ (r.eraseIdx i) ?_,rfl,q⟩
  ·show its.toArray.eraseIdxIfInBounds i=(its.eraseIdx i).toArray
   rw [List.eraseIdxIfInBounds_toArray]
  ·have:=Gp xs i
   omega
end
end L2
namespace PV
open PySem PySem.Spec L2 PyProof.Rows
section
variable {X:Cx} {T:Tg} {m o m1 m2 o1 o2:Bool} {e a b tg:Expr} {w wa wb:WE} {pos p q cp:Pos} {x y:Str}
def frzK (d:D) (k:D->Prop):Prop:=match d with
 | .lst xs=>Qm xs=true/\k (.kls xs)
 | _=>False
def Z1 (w:WE):WE:=λρ Q=>w ρ λd ρ'=>frzK d λd'=>Q d' ρ'
def asK (Q:D->Env->Prop) (d:D) (ρ:Env):Prop:=match d with
 | .fls xs=>Q (.kls xs) ρ
 | _=>False
theorem Gv (h:EV X T m true e w):EV X T m true e (Z1 w):=by
 obtain ⟨te,pe,ge⟩:=Qqt h
 refine ⟨te,pe,λz R σ H W ρ Q Q' s hw k=>ge z R σ H W ρ (asK Q) Q' s ?_ λv H1 W1 d ρ1 F pp qq=>?_⟩
 ·have:(λ(d:D) (ρ':Env)=>frzK d λd'=>Q d' ρ')=λd ρ'=>Qqp d λd'=>asK Q d' ρ':=by
   funext d ρ'
   cases d <;> rfl
  unfold Z1 at hw
  rw [this] at hw
  exact hw
 ·cases d with
  | fls xs =>
   obtain ⟨sr,fr,calm,rep,own⟩:=pp
   cases rep with
   | fls e1 r=>exact k _ H1 W1 (.kls xs) ρ1 [] ⟨sr,fr,calm,.kls (.inl ⟨_,e1⟩) r,own⟩ qq
  | _=>exact (show False from qq).elim
theorem Yr {xs:List D} {k:D->Prop}:frzK (.lst xs) k=(Qm xs=true/\k (.kls xs)):=rfl
mutual
def nF:D->D
 | .tup xs=>.tup (nFs xs)
 | .lst xs=>.lst (nFs xs)
 | .kls xs=>.lst (nFs xs)
 | .non=>.non
 | .int i=>.int i
 | .str x=>.str x
 | _=>.ty .int
def nFs:List D->List D
 | []=>[]
 | d::r=>nF d::nFs r
end
theorem Yx:∀xs:List D,nFs xs=xs.map nF
 | []=>by rw [nFs];rfl
 | d::r=>by rw [nFs,Yx r];rfl
theorem Rep.dvF {K:PySem.W.Frag} {H:Hp}:∀(n:Nat) {d:D} {v:V} {F:List Addr},Rep K H d v F->eqOk n (nF d)=true->DVF K H v (Q6 (nF d)):=by
 intro n
 induction n with
 | zero =>
  intro d v F r q
  cases d with
  | tup ds=>rw [nF] at q;simp [eqOk] at q
  | lst ds=>rw [nF] at q;simp [eqOk] at q
  | kls ds=>rw [nF] at q;simp [eqOk] at q
  | non=>cases r;rw [nF,Q6];exact .non
  | int i=>cases r;rw [nF,Q6];exact .int _
  | str i=>cases r;rw [nF,Q6];exact .str _
  | _=>simp [nF,eqOk] at q
 | succ n ih =>
  have all:∀{ds:List D} {xs:List V} {F:List Addr},Reps K H ds xs F->Yy n (nFs ds)=true->DVFs K H xs (Jd (nFs ds)):=by
   intro ds
   induction ds with
   | nil=>intro xs F r _;cases r;rw [nFs,Jd];exact .nil
   | cons c ks ih2 =>
    intro xs F r q
    cases r with
    | cons h r =>
     rw [nFs,Yy,Bool.and_eq_true] at q
     rw [nFs,Jd]
     exact .cons (ih h q.1) (ih2 r q.2)
  intro d v F r q
  cases d with
  | tup ds =>
   cases r with
   | tup e r=>rw [nF] at q ⊢;rw [eqOk] at q;rw [Q6];exact .tup (.of e) (all r q)
  | lst ds =>
   cases r with
   | lst e r=>rw [nF] at q ⊢;rw [eqOk] at q;rw [Q6];exact .lst (.of e) (all r q)
  | kls ds =>
   cases r with
   | kls e r=>rw [nF] at q ⊢;rw [eqOk] at q;rw [Q6];exact .lst e.sq (all r q)
  | non=>cases r;rw [nF,Q6];exact .non
  | int i=>cases r;rw [nF,Q6];exact .int _
  | str i=>cases r;rw [nF,Q6];exact .str _
  | _=>simp [nF,eqOk] at q
theorem Reps.dvF {K:PySem.W.Frag} {H:Hp} {n:Nat}:∀{ds:List D} {xs:List V} {F:List Addr},Reps K H ds xs F->Yy n (nFs ds)=true->DVFs K H xs (Jd (nFs ds))
 | [],_,_,r,_=>by cases r;rw [nFs,Jd];exact .nil
 | c::ks,_,_,r,q=>by
  cases r with
  | cons h r =>
   rw [nFs,Yy,Bool.and_eq_true] at q
   rw [nFs,Jd]
   exact .cons (h.dvF n q.1) (Reps.dvF r q.2)
def dNeF:G2:=λa b k=>eqOk 9 (nF a)=true/\eqOk 9 (nF b)=true/\(nF a=nF b->k (.bl false))/\(nF a≠nF b->k (.bl true))
theorem Qhg (hu:X.A.units+64<cLine):OpD X (compareOp .NotEq) dNeF:=by
 refine ⟨_,Qpf hu,λH a b x y F1 F2 k Q ra rb g q=>?_⟩
 obtain ⟨h1,h2,g1,g2⟩:=g
 refine ⟨Q6 (nF a),Q6 (nF b),9,ra.dvF 9 h1,rb.dvF 9 h2,Zz 9 _ h1,Zz 9 _ h2,Nat.le_refl _,λe=>?_,λe=>?_⟩
 ·exact q _ _ _ _ (.flat (.bl false)) (g1 (Vl 9 9 _ _ h1 h2 e))
 ·exact q _ _ _ _ (.flat (.bl true)) (g2 λz=>e (by rw [z]))
def dInK (neg:Bool):G2
 | .int i,.kls xs,k=>oget (inD (.int i) xs) λb=>k (.bl (xor neg b))
 | _,_,_=>False
theorem Qj7 {neg:Bool} {a b:D} {k:D->Prop} (g:dInK neg a b k):∃i xs,a=.int i/\b=.kls xs/\oget (inD (.int i) xs) λb=>k (.bl (xor neg b)):=by
 cases a with
 | int i=>cases b with
  | kls xs=>exact ⟨i,xs,rfl,rfl,g⟩
  | _=>exact (show False from g).elim
 | _=>exact (show False from g).elim
theorem Qbn (neg:Bool):OpD X (compareOp (if neg then .NotIn else .In)) (dInK neg):=by
 refine ⟨_,Qd6 neg,λH a b x y F1 F2 k Q ra rb g q=>?_⟩
 obtain ⟨i,xs,rfl,rfl,g⟩:=Qj7 g
 obtain ⟨b,h,g⟩:=Qg g
 obtain ⟨p,vs,rfl,_,e,r⟩:=rb.iKls
 obtain rfl:=ra.iInt
 obtain ⟨e1,e2⟩:=Qc5 r h
 refine ⟨p,vs,rfl,.inl e.sq,rfl,e1,?_⟩
 rw [e2]
 have:=q _ _ _ _ (.flat (.bl _)) g
 cases neg <;> simpa using this
def Qj9:G2
 | .kls xs,.kls ys,k=>Qm xs=true/\Qm ys=true/\xs.length+ys.length<=sizeLine/\k (.lst (xs++ys))
 | _,_,_=>False
theorem Qnc:OpD X (binaryOp .Add) Qj9:=by
 refine ⟨_,Qm7,λH a b x y F1 F2 k Q ra rb g q=>?_⟩
 obtain ⟨ds,es,rfl,rfl⟩:∃ds es,a=.kls ds/\b=.kls es:=by
  cases a with
  | kls i=>cases b with
   | kls j=>exact ⟨i,j,rfl,rfl⟩
   | _=>exact (show False from g).elim
  | _=>exact (show False from g).elim
 obtain ⟨a,xs,rfl,_,e1,r1⟩:=ra.iKls
 obtain ⟨b,ys,rfl,_,e2,r2⟩:=rb.iKls
 obtain ⟨p1,p2,hz,g⟩:=g
 have l1:=r1.length
 have l2:=r2.length
 refine ⟨a,b,xs,ys,rfl,rfl,e1.sq,e2.sq,by omega,λp hp=>?_⟩
 exact q _ _ _ [p] ⟨Qi hp,.lst Qb ((r1.append r2).same (Qi hp)),by simp,λc m=>by rw [List.mem_singleton.mp m];exact hp⟩ g
def Zw:GM
 | .lst xs,[d],k=>Yy 9 (nFs xs)=true/\eqOk 9 (nF d)=true/\d.pure=true/\∃(i:Nat) (e:D),xs[i]? = some e/\nF e=nF d/\(∀j e,j<i->xs[j]? = some e->nF e≠nF d)/\k .non (.lst (xs.eraseIdx i))
 | _,_,_=>False
theorem Xo (hu:X.A.units+66<cLine):MtD X "list.remove" Zw:=by
 refine ⟨_,Qff hu,λH d ds v xs F G k Q r nd rs ndG dis g q=>?_⟩
 cases d with
 | lst es =>
  cases ds with
  | nil=>exact (show False from g).elim
  | cons d ds =>
   cases ds with
   | cons _ _=>exact (show False from g).elim
   | nil =>
    obtain ⟨u,rfl,rd⟩:=rs.at1
    cases r with
    | @lst l ys _ F e r9 =>
     obtain ⟨h1,h2,hp,i,e0,hi,he0,hno,g⟩:=g
     obtain ⟨nl,nd⟩:=List.nodup_cons.mp nd
     obtain ⟨y,A,B,C,hy,hF,rB,rA,rC⟩:=r9.split hi
     have sub:=sub3 hF
     have nAC:l∉A++C:=λh=>nl (sub.subset h)
     refine ⟨l,ys,u,Jd (nFs es),Q6 (nF d),9,i,rfl,rfl,e,r9.dvF h1,rd.dvF 9 h2,λe' he'=>?_,Zz 9 _ h2,Nat.le_refl _,by rw [Ua,Yx,List.getElem?_map,hi];show some (Q6 (nF e0))=_;rw [he0],λj e' hj he' z=>?_,?_⟩
     ·exact List.all_eq_true.mp (V5 9 _ h1) e' he'
     ·rw [Ua,Yx,List.getElem?_map] at he'
      obtain ⟨e2,he2,rfl⟩:=Option.map_eq_some_iff.mp he'
      obtain ⟨e3,he3,rfl⟩:=Option.map_eq_some_iff.mp he2
      exact hno j e3 hj he3 (Vl 9 9 _ _ (Qby.mp h1 _ (by rw [Yx];exact List.mem_map.mpr ⟨e3,List.mem_of_getElem? he3,rfl⟩)) h2 z)
     ·refine q .non l _ .non _ (l::(A++C)) List.mem_cons_self rfl (.lst Qb ?_) (List.nodup_cons.mpr ⟨nAC,nd.sublist sub⟩) (λa ha=>?_) .non g
      ·rw [Zy,Zy]
       exact (rA.append rC).upd e rfl nAC
      ·rcases List.mem_cons.mp ha with rfl | ha
       ·exact .inl List.mem_cons_self
       ·exact .inl (List.mem_cons_of_mem _ (sub.subset ha))
 | _=>exact (show False from g).elim
theorem Qe9 {xs:List D} {d:D} {k:D->D->Prop}:Zw (.lst xs) [d] k=(Yy 9 (nFs xs)=true/\eqOk 9 (nF d)=true/\d.pure=true/\∃(i:Nat) (e:D),xs[i]? = some e/\nF e=nF d/\(∀j e,j<i->xs[j]? = some e->nF e≠nF d)/\k .non (.lst (xs.eraseIdx i))):=rfl
def Qao:GA
 | [.lst xs],k=>∃ns:List Int,xs=ns.map D.int/\ns.length<=100000/\∀out:List Int,out.Perm ns->out.Pairwise (· <= ·)->k (.lst (out.map D.int))
 | _,_=>False
theorem Reps.ints_inv {K:PySem.W.Frag} {H:Hp}:∀{ns:List Int} {vs:List V} {F:List Addr},Reps K H (ns.map D.int) vs F->vs=ns.map V.int
 | [],_,_,r=>by cases r;rfl
 | n::ns,_,_,r=>by cases r with | cons h r=>cases h;rw [Reps.ints_inv r];rfl
theorem Qij:G6 X (.builtin "sorted") Qao:=by
 refine ⟨_,Qda,λH ds xs F k Q r g q=>?_⟩
 cases ds with
 | nil=>exact (show False from g).elim
 | cons d ds =>
  cases ds with
  | cons _ _=>cases d <;> exact (show False from g).elim
  | nil =>
   cases d with
   | lst es =>
    obtain ⟨v,rfl,rd⟩:=r.at1
    obtain ⟨ns,rfl,hl,g⟩:=g
    obtain ⟨l,vs,G,rfl,_,e,r9⟩:=rd.iLst
    obtain rfl:=r9.ints_inv
    refine ⟨l,ns,rfl,.of e,hl,λout D hp ho hD=>?_⟩
    exact q _ _ _ [D] ⟨Qi hD,.lst Qb (Reps.ints out),by simp,λc m=>by rw [List.mem_singleton.mp m];exact hD⟩ (g out hp ho)
   | _=>exact (show False from g).elim
theorem Qe8 {xs:List D} {k:D->Prop}:Qao [.lst xs] k=∃ns:List Int,xs=ns.map D.int/\ns.length<=100000/\∀out:List Int,out.Perm ns->out.Pairwise (· <= ·)->k (.lst (out.map D.int)):=rfl
abbrev klsI (g:List Int):D:=.kls (g.map .int)
def Qan:GA
 | [.lst xs],k=>∃(gs:List (List Int)) (num:List Int->Int),xs=gs.map klsI/\gs.length<=100000/\(∀x∈gs,∀y∈gs,HT.Vy x y=decide (num x<num y)) /\
   ∀out:List (List Int),out.Perm gs->out.Pairwise (λx y=>num x<=num y)->k (.lst (out.map klsI))
 | _,_=>False
theorem Reps.kls_inv {K:PySem.W.Frag} {H:Hp}:∀{gs:List (List Int)} {vs:List V} {F:List Addr},Reps K H (gs.map klsI) vs F->∃ps:List (Addr × List Int),ps.map (·.2)=gs/\vs=(ps.map λp=>V.ref p.1)/\∀p∈ps,FzL K H p.1 (p.2.map V.int)
 | [],_,_,r=>by cases r;exact ⟨[],rfl,rfl,λ_ h=>nomatch h⟩
 | g::gs,_,_,r=>by
  cases r with
  | cons h r =>
   obtain ⟨ps,h1,h2,h3⟩:=Reps.kls_inv r
   obtain ⟨a,xs,rfl,_,e,r9⟩:=h.iKls
   obtain rfl:=r9.ints_inv
   refine ⟨(a,g)::ps,by rw [List.map_cons,h1],by rw [h2];rfl,λp hp=>?_⟩
   rcases List.mem_cons.mp hp with rfl | hp
   ·exact e
   ·exact h3 p hp
theorem Reps.kls_mk {K:PySem.W.Frag} {H:Hp}:∀{ps:List (Addr × List Int)},(∀p∈ps,FzL K H p.1 (p.2.map V.int))->Reps K H ((ps.map (·.2)).map klsI) (ps.map λp=>V.ref p.1) []
 | [],_=>.nil
 | p::ps,h=>.cons (F:=[]) (G:=[]) (.kls (h p List.mem_cons_self) (Reps.ints p.2)) (Reps.kls_mk λq hq=>h q (List.mem_cons_of_mem _ hq))
theorem Qii (hu:X.A.units+66<cLine):G6 X (.builtin "sorted") Qan:=by
 refine ⟨_,Qc9 hu,λH ds xs F k Q r g q=>?_⟩
 cases ds with
 | nil=>exact (show False from g).elim
 | cons d ds =>
  cases ds with
  | cons _ _=>cases d <;> exact (show False from g).elim
  | nil =>
   cases d with
   | lst es =>
    obtain ⟨v,rfl,rd⟩:=r.at1
    obtain ⟨gs,num,rfl,hl,hn,g⟩:=g
    obtain ⟨l,vs,G,rfl,_,e,r9⟩:=rd.iLst
    obtain ⟨ps,rfl,rfl,hz⟩:=r9.kls_inv
    refine ⟨l,ps,num,rfl,.of e,λp hp=>(hz p hp).sq,by rw [List.length_map] at hl;exact hl,λx hx y hy=>hn _ (List.mem_map.mpr ⟨x,hx,rfl⟩) _ (List.mem_map.mpr ⟨y,hy,rfl⟩),λout D hp ho hD=>?_⟩
    have sm:Same H (upd H D (.lst (out.map λp=>V.ref p.1))):=Qi hD
    exact q _ _ _ [D] ⟨sm,.lst Qb ((Reps.kls_mk λp h=>hz p (hp.mem_iff.mp h)).same sm),by simp,λc m=>by rw [List.mem_singleton.mp m];exact hD⟩ (g (out.map (·.2)) (hp.map _) (List.pairwise_map.mpr ho))
   | _=>exact (show False from g).elim
theorem Qe7 {xs:List D} {k:D->Prop}:Qan [.lst xs] k=∃(gs:List (List Int)) (num:List Int->Int),xs=gs.map klsI/\gs.length<=100000/\(∀x∈gs,∀y∈gs,HT.Vy x y=decide (num x<num y)) /\
   ∀out:List (List Int),out.Perm gs->out.Pairwise (λx y=>num x<=num y)->k (.lst (out.map klsI)):=rfl
def dlOf (c d:D) (k:List D->Prop):Prop:=match c,d with
 | .dik kvs,.int n=>oget (valD kvs (.inl n)) λv=>lsOf v k
 | _,_=>False
def Qf4 (i j:Nat):WL:=λρ Q=>oget (look ρ i) λc=>oget (look ρ j) λd=>dlOf c d λds=>Q ds ρ
theorem Qjt {i j:Nat} (hu:X.A.units+1<cLine) (ht:T.own i=false:=by rfl) (hN:X.N[i]? = some x:=by rfl) (hM:X.N[j]? = some y:=by rfl) (hv:Vis X.env.scope x:=by first | exact Or.inl rfl | exact Or.inr (Or.inl rfl) | exact Or.inr (Or.inr rfl)) (hd:(x == ("__debug__" : Str))=false:=by decide)
  (hcd:(x == ("__classdict__" : Str))=false:=by decide) (hv2:Vis X.env.scope y:=by first | exact Or.inl rfl | exact Or.inr (Or.inl rfl) | exact Or.inr (Or.inr rfl)) (hd2:(y == ("__debug__" : Str))=false:=by decide)
  (hcd2:(y == ("__classdict__" : Str))=false:=by decide) (hs:Qay (.Name y q):=by intro _ _;rfl):IV X T false true tg (.Subscript (.Name x p) (.Name y q) cp) (Qf4 i j):=by
 refine ⟨_,Xl (Qmw (Qc0 hu) (Jt hN hv hd hcd) (Jt hM hv2 hd2 hcd2) hs),λz R σ H W ρ Q RR s hw k=>?_⟩
 obtain ⟨c,hl,hw⟩:=Qg hw
 obtain ⟨d,hlj,hw⟩:=Qg hw
 obtain ⟨kvs,n,rfl,rfl,hw⟩:∃kvs n,c=D.dik kvs/\d=D.int n/\oget (valD kvs (.inl n)) λv=>lsOf v λds=>Q ds ρ:=by
  clear hl hlj
  cases c with
  | dik kvs=>cases d with
   | int n=>exact ⟨kvs,n,rfl,rfl,hw⟩
   | _=>exact (show False from hw).elim
  | _=>exact (show False from hw).elim
 obtain ⟨v,hval,hw⟩:=Qg hw
 obtain ⟨ds,rfl⟩:∃ds,v=D.lst ds:=by
  clear hval
  cases v with
  | lst ds=>exact ⟨ds,rfl⟩
  | _=>exact (show False from hw).elim
 have qn:Q ds ρ:=hw
 obtain ⟨fp,s0⟩:=id s
 obtain ⟨v0,h1,r0⟩:=s0.at_ i _ hl
 obtain ⟨v1,h2,r1⟩:=s0.at_ j _ hlj
 have nW:∀b∈fp i,¬W b:=λb hb hw=>s0.wr b hw (s0.ro i _ hl ht b hb)
 obtain rfl:=r1.iInt
 obtain ⟨a0,ws,G,rfl,hG,e0,rk⟩:=r0.iDik
 rcases rk.val (.inl n) with ⟨zz,_⟩ | ⟨d',v,B,g1,g2,g3,g4⟩
 ·rw [hval] at zz;cases zz
 rw [hval] at g1;cases g1
 obtain ⟨a,xs,F,rfl,rfl,e1,r⟩:=g3.iLst
 have inF:∀b∈a::F,b∈fp i:=λb hb=>by rw [hG];exact List.mem_cons_of_mem _ (g4.subset hb)
 refine ⟨.ref a0,h1,.int n,h2,a0,.ref a,rfl,g2 ▸ DGet.k (k:=.inl n) e0,a,rfl,.inl ⟨⟨xs,.of e1⟩,k _ H W ds ρ ⟨s,FrW.refl H W,λ_=>⟨Same.refl H,rfl,rfl⟩⟩ (λi H2 W2 f=>?_) qn⟩⟩
 rw [U9] at f
 have e2:H2 a=some (.lst xs):=f.keep _ _ e1 (nW a (inF a List.mem_cons_self))
 refine ⟨λhi=>⟨xs,.of e2,by rw [r.length];exact hi⟩,λd hd=>?_⟩
 obtain ⟨x,B,hx,rx,sx⟩:=r.get hd
 refine ⟨⟨xs,x,.of e2,hx⟩,λv H3 y=>?_⟩
 obtain ⟨rfl,y⟩:=y
 have:=y xs (.of e2)
 rw [hx] at this
 cases this
 refine ⟨Same.refl _,B,rx.keep f λb hb=>nW b (inF b (List.mem_cons_of_mem _ (sx.subset hb))),λb hb hw=>?_⟩
 have hb':b∈a::F:=List.mem_cons_of_mem _ (sx.subset hb)
 rcases f.new b hw with h | h
 ·exact nW b (inF b hb') h
 ·obtain ⟨ob,e3,_⟩:=rx.dom b hb
  rw [h] at e3;cases e3
theorem Qoz {kvs:List (Key × D)} {n:Int} {k:List D->Prop}:dlOf (.dik kvs) (.int n) k=oget (valD kvs (.inl n)) λv=>lsOf v k:=rfl
theorem Qco {neg:Bool} {i:Int} {xs:List D} {k:D->Prop}:dInK neg (.int i) (.kls xs) k=oget (inD (.int i) xs) λb=>k (.bl (xor neg b)):=rfl
theorem Qi8 {xs ys:List D} {k:D->Prop}:Qj9 (.kls xs) (.kls ys) k=(Qm xs=true/\Qm ys=true/\xs.length+ys.length<=sizeLine/\k (.lst (xs++ys))):=rfl
end
end PV
namespace PV
open PySem PySem.Spec L2
theorem Qeb {lo:Int} {n:Nat} {d:D} (h:d∈rngD lo n):∃i:Nat,i<n/\d=.int (lo+(i:Int)):=by
 obtain ⟨i,hi,rfl⟩:=List.mem_map.mp h
 exact ⟨i,List.mem_range.mp hi,rfl⟩
theorem Jr {lo:Int} {n:Nat}:(rngD lo n).length=n:=by simp [rngD]
theorem U4 {lo:Int} {n i:Nat} {d:D} (h:(rngD lo n)[i]? = some d):i<n/\d=.int (lo+(i:Int)):=by
 have hi:i<n:=by have:=(List.getElem?_eq_some_iff.mp h).1;rwa [Jr] at this
 simp only [rngD,List.getElem?_map,List.getElem?_range hi,Option.map_some,Option.some.injEq] at h
 exact ⟨hi,h.symm⟩
theorem Vp {lo:Int} {n:Nat}:Qm (rngD lo n)=true:=Qy λ_ _=>rfl
theorem Jj {ns:List Int}:Qm (ns.map D.int)=true:=Qy λ_ _=>rfl
theorem Qn1 {ds:List D} {a b:Nat} (h:a<=b) (hb:b<=ds.length):cutD ds (some (a:Int)) (some (b:Int))=(ds.drop a).take (b-a):=by
 unfold cutD
 rw [HT.X2,HT.X2,Nat.min_eq_left hb,Nat.min_eq_left (Nat.le_trans h hb)]
theorem Qkb {ds:List D} {a:Nat} (h:a<=ds.length):cutD ds (some (a:Int)) none=ds.drop a:=by
 unfold cutD
 rw [HT.X2,HT.Qdz,Nat.min_eq_left h,List.take_of_length_le (by simp)]
theorem Qqw {ds:List D} {b:Nat}:cutD ds none (some (b:Int))=ds.take b:=by
 unfold cutD
 rw [HT.X2,HT.Qdz,List.drop_zero,Nat.sub_zero]
 by_cases h:b<=ds.length
 ·rw [Nat.min_eq_left h]
 ·rw [Nat.min_eq_right (by omega),List.take_of_length_le (by omega),List.take_of_length_le (by omega)]
def rowD (c n:Int):D:=.lst [.int c,.int n]
def webD (m e:Nat) (A:Nat->Int) (r:Int):D:=.tup [.tup ((List.range m).map λk=>.tup ((List.range 4).map λj=>.int (A (4*k+j)))),.tup ((List.range e).map λj=>.int (A (4*m+j))),.int r]
structure Pr (N:Nat) (xs:List Int) (t:Nat) (L:List Nat) (Bs:List Int) (ps:List (Nat × Nat)):Prop where
 bl:Bs.length=N
 pl:ps.length=t
 perm:(ps.flatMap (λp=>[p.1,p.2])++L).Perm (List.range N)
 val:∀(s:Nat) p,ps[s]? = some p->∃x,xs[s]? = some x/\Bs[p.1]? = some x/\Bs[p.2]? = some x
theorem Pr.lt {N:Nat} {xs:List Int} {t:Nat} {L:List Nat} {Bs:List Int} {ps:List (Nat × Nat)} (h:Pr N xs t L Bs ps) {i:Nat} (hi:i∈L):i<N:=by
 have:=h.perm.mem_iff.mp (List.mem_append.mpr (.inr hi))
 exact List.mem_range.mp this
theorem Pr.nd {N:Nat} {xs:List Int} {t:Nat} {L:List Nat} {Bs:List Int} {ps:List (Nat × Nat)} (h:Pr N xs t L Bs ps):(ps.flatMap (λp=>[p.1,p.2])++L).Nodup:=h.perm.nodup_iff.mpr List.nodup_range
theorem Pr.start (N:Nat) (xs:List Int):Pr N xs 0 (List.range N) (List.replicate N 0) []:=⟨by simp,rfl,by simp,λs p h=>by simp at h⟩
theorem Xm {α:Type}:∀{l:List α} {i:Nat} (h:i<l.length),(l[i]::l.eraseIdx i).Perm l
 | a::l,0,_=>List.Perm.refl _
 | a::l,i+1,h=>by
  have:=Xm (l:=l) (i:=i) (by simpa using h)
  simp only [List.getElem_cons_succ,List.eraseIdx_cons_succ]
  exact (List.Perm.swap _ _ _).trans (this.cons a)
theorem Vw {α β:Type} {f:α->β}:∀{l:List α} {i:Nat},(l.map f).eraseIdx i=(l.eraseIdx i).map f
 | [],_=>rfl
 | a::l,0=>rfl
 | a::l,i+1=>by simp only [List.map_cons,List.eraseIdx_cons_succ,Vw]
theorem Pr.step {N:Nat} {xs:List Int} {t i s:Nat} {L:List Nat} {Bs:List Int} {ps:List (Nat × Nat)} {x:Int} (h:Pr N xs t (i::L) Bs ps) (hx:xs[t]? = some x) (hs:s<L.length) :
  Pr N xs (t+1) (L.eraseIdx s) ((Bs.set i x).set L[s] x) (ps++[(i,L[s])]):=by
 have nd:=h.nd
 obtain ⟨n1,n2,n3⟩:=List.nodup_append.mp nd
 have hjm:L[s]∈L:=List.getElem_mem hs
 have hij:i≠L[s]:=λz=>(List.nodup_cons.mp n2).1 (z ▸ hjm)
 have hi:=h.lt (List.mem_cons_self (a:=i))
 have hj:=h.lt (List.mem_cons_of_mem i hjm)
 refine ⟨by simp [h.bl],by simp [h.pl],?_,λs' p hp=>?_⟩
 ·rw [List.flatMap_append]
  refine List.Perm.trans ?_ h.perm
  rw [List.append_assoc]
  refine List.Perm.append_left _ ?_
  show (i::L[s]::L.eraseIdx s).Perm (i::L)
  exact List.Perm.cons _ (Xm hs)
 ·by_cases hs':s' < ps.length
  ·rw [List.getElem?_append_left hs'] at hp
   obtain ⟨y,h1,h2,h3⟩:=h.val s' p hp
   have mem:∀a,a=p.1\/a=p.2->a∈ps.flatMap (λp=>[p.1,p.2]):=λa ha=>List.mem_flatMap.mpr ⟨p,List.mem_of_getElem? hp,by simpa using ha⟩
   have ne:∀a,a=p.1\/a=p.2->i≠a/\L[s]≠a:=λa ha=>⟨λz=>n3 a (mem a ha) i List.mem_cons_self z.symm,λz=>n3 a (mem a ha) L[s] (List.mem_cons_of_mem _ hjm) z.symm⟩
   refine ⟨y,h1,?_,?_⟩
   ·rw [List.getElem?_set_ne (ne _ (.inl rfl)).2,List.getElem?_set_ne (ne _ (.inl rfl)).1];exact h2
   ·rw [List.getElem?_set_ne (ne _ (.inr rfl)).2,List.getElem?_set_ne (ne _ (.inr rfl)).1];exact h3
  ·have e:s'=t:=by
    have:=(List.getElem?_eq_some_iff.mp hp).1
    have:=h.pl
    simp at *
    omega
   subst e
   rw [List.getElem?_append_right (by omega),h.pl,Nat.sub_self] at hp
   simp at hp
   subst hp
   refine ⟨x,hx,?_,?_⟩
   ·rw [List.getElem?_set_ne (Ne.symm hij),List.getElem?_set_self (by rw [h.bl];exact hi)]
   ·rw [List.getElem?_set_self (by rw [List.length_set,h.bl];exact hj)]
theorem Pr.tw {N:Nat} {xs:List Int} {t:Nat} {Bs:List Int} {ps:List (Nat × Nat)} (h:Pr N xs t [] Bs ps) (nd:xs.Nodup):∃g,M.Tw N (λi=>Bs.getD i 0) g:=by
 have nf:=h.nd
 rw [List.append_nil] at nf
 have val:∀i,i<N->∃(s:Nat) (p:Nat × Nat) (x:Int),ps[s]? = some p/\(i=p.1\/i=p.2)/\xs[s]? = some x/\Bs.getD i 0=x:=λi hi=>by
  have:=h.perm.mem_iff.mpr (List.mem_range.mpr hi)
  rw [List.append_nil] at this
  obtain ⟨p,hp,hip⟩:=List.mem_flatMap.mp this
  obtain ⟨s,hs⟩:=List.mem_iff_getElem?.mp hp
  obtain ⟨x,h1,h2,h3⟩:=h.val s p hs
  have hip':i=p.1\/i=p.2:=by simpa using hip
  refine ⟨s,p,x,hs,hip',h1,?_⟩
  rcases hip' with z | z
  ·rw [List.getD_eq_getElem?_getD,z,h2];rfl
  ·rw [List.getD_eq_getElem?_getD,z,h3];rfl
 have ne:∀p∈ps,p.1≠p.2:=λp hp z=>by
  have:[p.1,p.2].Nodup:=by
   have hsub:[p.1,p.2].Sublist (ps.flatMap λp=>[p.1,p.2]):=by
    obtain ⟨a,b,rfl⟩:=List.append_of_mem hp
    rw [List.flatMap_append,List.flatMap_cons]
    exact (List.sublist_append_left _ _).trans (List.sublist_append_right _ _)
   exact nf.sublist hsub
  simp [z] at this
 have ltp:∀p∈ps,p.1<N/\p.2<N:=λp hp=>by
  have m1:=h.perm.mem_iff.mp (List.mem_append.mpr (.inl (List.mem_flatMap.mpr ⟨p,hp,List.mem_cons_self⟩)))
  have m2:=h.perm.mem_iff.mp (List.mem_append.mpr (.inl (List.mem_flatMap.mpr ⟨p,hp,List.mem_cons_of_mem _ List.mem_cons_self⟩)))
  exact ⟨List.mem_range.mp m1,List.mem_range.mp m2⟩
 have ex:∀i,∃j,i<N->j<N/\j≠i/\Bs.getD j 0=Bs.getD i 0/\∀k,k<N->Bs.getD k 0=Bs.getD i 0->k=i\/k=j:=λi=>by
  by_cases hi:i<N
  ·obtain ⟨s,p,x,hs,hip,hx,hv⟩:=val i hi
   have hp:=List.mem_of_getElem? hs
   obtain ⟨x',h1,h2,h3⟩:=h.val s p hs
   rw [hx] at h1;cases h1
   have only:∀k,k<N->Bs.getD k 0=Bs.getD i 0->k=p.1\/k=p.2:=λk hk e=>by
    obtain ⟨s',p',y,hs',hkp,hy,hw⟩:=val k hk
    rw [hw,hv] at e
    subst e
    have:s'=s:=by
     have l1:=(List.getElem?_eq_some_iff.mp hx)
     have l2:=(List.getElem?_eq_some_iff.mp hy)
     obtain ⟨a1,a2⟩:=l1
     obtain ⟨b1,b2⟩:=l2
     exact (List.getElem_inj nd).mp (b2.trans a2.symm)
    subst this
    rw [hs] at hs';cases hs'
    exact hkp
   rcases hip with z | z
   ·refine ⟨p.2,λ_=>⟨(ltp p hp).2,λq=>ne p hp (by rw [← z,q]),?_,λk hk e=>(only k hk e).imp (λq=>q.trans z.symm) id⟩⟩
    rw [hv,List.getD_eq_getElem?_getD,h3];rfl
   ·refine ⟨p.1,λ_=>⟨(ltp p hp).1,λq=>ne p hp (by rw [q,z]),?_,λk hk e=>(only k hk e).elim .inr (λq=>.inl (q.trans z.symm))⟩⟩
    rw [hv,List.getD_eq_getElem?_getD,h2];rfl
  ·exact ⟨0,λz=>absurd z hi⟩
 refine ⟨λi=>Classical.choose (ex i),λi hi=>(Classical.choose_spec (ex i) hi).1,λi hi=>(Classical.choose_spec (ex i) hi).2.1,λi hi=>(Classical.choose_spec (ex i) hi).2.2.1,λi k hi hk e=>(Classical.choose_spec (ex i) hi).2.2.2 k hk e⟩
theorem Zm {Bs:List Int} {a b:Nat} (h:a+b<=Bs.length):((Bs.map D.int).drop a).take b=(List.range b).map λj=>D.int (Bs.getD (a+j) 0):=by
 apply List.ext_getElem?
 intro j
 rw [List.getElem?_take,List.getElem?_map]
 by_cases hj:j<b
 ·rw [if_pos hj,List.getElem?_drop,List.getElem?_map,List.getElem?_range hj,List.getElem?_eq_getElem (by omega)]
  simp [List.getD_eq_getElem?_getD,List.getElem?_eq_getElem (show a+j<Bs.length by omega)]
 ·rw [if_neg hj,List.getElem?_eq_none (by simpa using hj)];rfl
def Qig (Bs:List Int):D->D
 | .int k=>.tup ((List.range 4).map λj=>.int (Bs.getD (4*k.toNat+j) 0))
 | d=>d
theorem Xt {Bs:List Int} {i:Nat}:Qig Bs (.int (0+(i:Int)))=.tup ((List.range 4).map λj=>.int (Bs.getD (4*i+j) 0)):=by
 show D.tup ((List.range 4).map λj=>.int (Bs.getD (4*(0+(i:Int)).toNat+j) 0))=_
 rw [show (0+(i:Int)).toNat=i by omega]
theorem Qfo {Bs:List Int} {m:Nat}:(rngD 0 m).map (Qig Bs)=(List.range m).map λk=>.tup ((List.range 4).map λj=>.int (Bs.getD (4*k+j) 0)):=by
 unfold rngD
 rw [List.map_map]
 apply List.map_congr_left
 intro i _
 exact Xt
theorem Qjw {Bs:List Int} {P:Int->Prop} (h0:P 0) (h:∀b∈Bs,P b) (i:Nat):P (Bs.getD i 0):=by
 rw [List.getD_eq_getElem?_getD]
 cases q:Bs[i]? with
 | none=>exact h0
 | some b=>exact h b (List.mem_of_getElem? q)
theorem len1 {α:Type}:∀{us:List α},us.length=1->∃a,us=[a]
 | [a],_=>⟨a,rfl⟩
theorem len2 {α:Type} {us:List α} (h:us.length=2):∃a b,us=[a,b]:=by
 cases us with
 | nil=>cases h
 | cons a us=>obtain ⟨b,rfl⟩:=len1 (Nat.succ.inj h);exact ⟨a,b,rfl⟩
theorem len3 {α:Type} {us:List α} (h:us.length=3):∃a b c,us=[a,b,c]:=by
 cases us with
 | nil=>cases h
 | cons a us=>obtain ⟨b,c,rfl⟩:=len2 (Nat.succ.inj h);exact ⟨a,b,c,rfl⟩
theorem len4 {α:Type} {us:List α} (h:us.length=4):∃a b c d,us=[a,b,c,d]:=by
 cases us with
 | nil=>cases h
 | cons a us=>obtain ⟨b,c,d,rfl⟩:=len3 (Nat.succ.inj h);exact ⟨a,b,c,d,rfl⟩
end PV
namespace PV
open PySem PySem.Spec L2
def spD (m i:Nat):D:=.tup [.int (M.sp m i).1,.int (M.sp m i).2]
def encP (s:Nat->D) (P:List (Int × List Nat)):List (Key × D):=P.map λe=>((.inl e.1:Key),D.lst (e.2.map s))
theorem Qh5 {s:Nat->D} {P:List (Int × List Nat)} (nd:(P.map (·.1)).Nodup):((encP s P).map (·.1)).Nodup:=by
 unfold encP
 rw [List.map_map]
 have:(P.map ((λ(x:Key × D)=>x.1) ∘ λe=>((.inl e.1:Key),D.lst (e.2.map s))))=(P.map (·.1)).map (λa=>(.inl a:Key)):=by rw [List.map_map];rfl
 rw [this,List.nodup_iff_pairwise_ne,List.pairwise_map]
 exact List.Pairwise.imp (λh z=>h (by injection z)) (List.nodup_iff_pairwise_ne.mp nd)
theorem Qep {s:Nat->D} {a:Int}:∀{P:List (Int × List Nat)},valD (encP s P) (.inl a)=(P.find? λe=>decide (e.1=a)).map λe=>D.lst (e.2.map s)
 | []=>rfl
 | e::P=>by
  show valD (((.inl e.1:Key),D.lst (e.2.map s))::encP s P) (.inl a)=_
  rw [Jc]
  by_cases h:e.1=a
  ·rw [if_pos (by rw [h]),List.find?_cons_of_pos (by simp [h])];rfl
  ·rw [if_neg (λz=>h (by injection z)),Qep,List.find?_cons_of_neg (by simp [h])]
theorem Qei {α β:Type} {f:α->β}:∀{l:List α} {a b:α},(l.map f).Nodup->a∈l->b∈l->f a=f b->a=b
 | [],_,_,_,h,_,_=>by cases h
 | x::l,a,b,nd,ha,hb,e=>by
  obtain ⟨n1,n2⟩:=List.nodup_cons.mp (show (f x::l.map f).Nodup from nd)
  rcases List.mem_cons.mp ha with za | ha
  ·rcases List.mem_cons.mp hb with zb | hb
   ·rw [za,zb]
   ·exact absurd (by rw [← za,e];exact List.mem_map.mpr ⟨b,hb,rfl⟩) n1
  ·rcases List.mem_cons.mp hb with zb | hb
   ·exact absurd (by rw [← zb,← e];exact List.mem_map.mpr ⟨a,ha,rfl⟩) n1
   ·exact Qei n2 ha hb e
theorem Ql3 {s:Nat->D} {P:List (Int × List Nat)} {a:Int} {i:Nat} (nd:(P.map (·.1)).Nodup):∃l:List Nat,(l=[]\/∃e∈P,l=e.2)/\valD (Yz (encP s P) (.inl a)) (.inl a)=some (.lst (l.map s)) /\
  putD (Yz (encP s P) (.inl a)) (.inl a) (.lst (l.map s++[s i]))=encP s (M.addP P a i):=by
 have hv:=Qep (s:=s) (a:=a) (P:=P)
 cases hf:P.find? λe=>decide (e.1=a) with
 | none =>
  rw [hf] at hv
  have hv:valD (encP s P) (.inl a)=none:=hv
  have e1:Yz (encP s P) (.inl a)=encP s P++[((.inl a:Key),.lst [])]:=by unfold Yz;rw [hv];rfl
  have hany:¬(P.any λe=>decide (e.1=a))=true:=λz=>by
   obtain ⟨e,he,h⟩:=List.any_eq_true.mp z
   exact List.find?_eq_none.mp hf e he h
  refine ⟨[],.inl rfl,?_,?_⟩
  ·rw [e1,Gd,hv];simp
  ·have hadd:M.addP P a i=P++[(a,[i])]:=by unfold M.addP;rw [if_neg hany]
   have hno:∀kv∈encP s P,kv.1≠(.inl a:Key):=λkv hkv z=>by
    obtain ⟨e,he,rfl⟩:=List.mem_map.mp hkv
    exact hany (List.any_eq_true.mpr ⟨e,he,by simpa using z⟩)
   rw [hadd,e1]
   unfold putD
   rw [if_pos (by simp),List.map_append]
   have:(encP s P).map (λkv=>if kv.1=(.inl a:Key) then (kv.1,D.lst (([]:List Nat).map s++[s i])) else kv)=encP s P:=by
    conv=>rhs;rw [← List.map_id (encP s P)]
    apply List.map_congr_left
    intro kv hkv
    rw [if_neg (hno kv hkv)];rfl
   rw [this]
   simp [encP]
 | some e =>
  rw [hf] at hv
  have hv:valD (encP s P) (.inl a)=some (.lst (e.2.map s)):=hv
  have he:=List.mem_of_find?_eq_some hf
  have hk:e.1=a:=by have:=List.find?_some hf;simpa using this
  have e1:Yz (encP s P) (.inl a)=encP s P:=by unfold Yz;rw [hv];rfl
  have hany:(P.any λe=>decide (e.1=a))=true:=List.any_eq_true.mpr ⟨e,he,by simpa using hk⟩
  refine ⟨e.2,.inr ⟨e,he,rfl⟩,by rw [e1];exact hv,?_⟩
  have hadd:M.addP P a i=P.map (λx=>if x.1=a then (x.1,x.2++[i]) else x):=by unfold M.addP;rw [if_pos hany]
  rw [e1,hadd]
  unfold putD
  rw [if_pos (by rw [Z0,hv];rfl)]
  unfold encP
  rw [List.map_map,List.map_map]
  apply List.map_congr_left
  intro x hx
  show (if (.inl x.1:Key)=.inl a then ((.inl x.1:Key),D.lst (e.2.map s++[s i])) else ((.inl x.1:Key),D.lst (x.2.map s)))=((.inl (if x.1=a then (x.1,x.2++[i]) else x).1:Key),D.lst ((if x.1=a then (x.1,x.2++[i]) else x).2.map s))
  by_cases q:x.1=a
  ·have:x=e:=Qei nd hx he (q.trans hk.symm)
   subst this
   rw [if_pos (by rw [q]),if_pos q]
   simp
  ·rw [if_neg (λz=>q (by injection z)),if_neg q]
theorem Qcs (A:Nat->Int):∀t,(M.plc A t).length<=t
 | 0=>Nat.le_refl _
 | t+1=>by
  rw [M.X5]
  have:=Qcs A t
  unfold M.addP
  split <;> simp <;> omega
theorem Qjf (A:Nat->Int) (t:Nat):∀e∈M.plc A t,e.2.length<=t:=λe he=>by
 obtain ⟨_,h2,_⟩:=M.Qg0 A t
 rw [(h2 e he).1]
 have:=List.length_filter_le (λi=>decide (A i=e.1)) (List.range t)
 simpa using this
theorem Vq:∀{ds:List D} {n:Nat},Qm ds=true->Qm (Z4 n ds)=true
 | [],_,_=>rfl
 | d::r,n,h=>by
  simp only [Qm,Bool.and_eq_true] at h
  simp only [Z4,Qm,D.pure,Bool.and_eq_true]
  exact ⟨⟨trivial,h.1,trivial⟩,Vq h.2⟩
theorem Qmk {m i:Nat}:(spD m i).pure=true:=rfl
end PV
namespace Orb
variable {n:Nat} {f:Nat->Nat}
end Orb
namespace M
end M
namespace PV
open PySem PySem.Spec L2
section
variable {κ:Type} [DecidableEq κ]
end
end PV
namespace Hang
theorem Vc {α:Type} {le:α->α->Prop} {a b:List α} (p:a.Perm b) (ha:a.Pairwise le) (hb:b.Pairwise le) (h:∀x∈a,∀y∈a,le x y->le y x->x=y):a=b:=by
 induction a generalizing b with
 | nil=>exact p.nil_eq
 | cons x a ih =>
  cases b with
  | nil=>exact absurd p.length_eq (by simp)
  | cons y b =>
   obtain ⟨a1,a2⟩:=List.pairwise_cons.mp ha
   obtain ⟨b1,b2⟩:=List.pairwise_cons.mp hb
   have hxy:x=y:=by
    have hx:x∈y::b:=p.mem_iff.mp List.mem_cons_self
    have hy:y∈x::a:=p.mem_iff.mpr List.mem_cons_self
    rcases List.mem_cons.mp hx with z | hx
    ·exact z
    ·rcases List.mem_cons.mp hy with z | hy
     ·exact z.symm
     ·exact h x List.mem_cons_self y (List.mem_cons_of_mem _ hy) (a1 y hy) (b1 x hx)
   subst hxy
   rw [ih (List.perm_cons _ |>.mp p) a2 b2 λu hu v hv=>h u (List.mem_cons_of_mem _ hu) v (List.mem_cons_of_mem _ hv)]
theorem Gk {α:Type} [DecidableEq α] {a b:List α} (na:a.Nodup) (nb:b.Nodup) (h:∀x,x∈a↔x∈b):a.Perm b:=by
 rw [List.perm_iff_count]
 intro x
 by_cases hx:x∈a
 ·rw [na.count,nb.count,if_pos hx,if_pos ((h x).mp hx)]
 ·rw [List.count_eq_zero_of_not_mem hx,List.count_eq_zero_of_not_mem λz=>hx ((h x).mpr z)]
inductive Con (E:Int->Int->Prop):Int->Int->Prop
 | refl (x:Int):Con E x x
 | step {x y z:Int} (h:Con E x y) (e:E y z):Con E x z
variable {E:Int->Int->Prop}
theorem Con.one {x y:Int} (e:E x y):Con E x y:=.step (.refl x) e
theorem Con.trans {x y z:Int} (h:Con E x y) (k:Con E y z):Con E x z:=by
 induction k with
 | refl=>exact h
 | step _ e ih=>exact .step ih e
theorem Con.symm (sy:∀x y,E x y->E y x) {x y:Int} (h:Con E x y):Con E y x:=by
 induction h with
 | refl=>exact .refl _
 | step _ e ih=>exact (Con.one (sy _ _ e)).trans ih
theorem Con.closed {S:Int->Prop} {x y:Int} (h:Con E x y) (hx:S x) (cl:∀u v,S u->E u v->S v):S y:=by
 induction h with
 | refl=>exact hx
 | step _ e ih=>exact cl _ _ ih e
open Classical in
noncomputable def pc (E:Int->Int->Prop) (Vs:List Int) (x:Int):List Int:=Vs.filter λy=>decide (Con E x y)
open Classical in
noncomputable def isL (E:Int->Int->Prop) (Vs:List Int) (x:Int):Bool:=decide (∀y∈Vs,Con E x y->x<=y)
theorem Qc2 {E:Int->Int->Prop} {Vs:List Int} {x:Int}:isL E Vs x=true↔∀y∈Vs,Con E x y->x<=y:=by unfold isL;exact @decide_eq_true_iff _ (_)
noncomputable def pcs (E:Int->Int->Prop) (Vs L:List Int):List (List Int):=(L.filter (isL E Vs)).map (pc E Vs)
structure Gr (E:Int->Int->Prop) (Vs:List Int):Prop where
 up:Vs.Pairwise (· < ·)
 sy:∀x y,E x y->E y x
 inl:∀x y,E x y->x∈Vs
variable {Vs:List Int}
theorem Gr.con_mem (G:Gr E Vs) {x y:Int} (h:Con E x y) (hx:x∈Vs):y∈Vs:=h.closed hx λu v _ e=>G.inl v u (G.sy u v e)
theorem Qbo {x y:Int}:y∈pc E Vs x↔y∈Vs/\Con E x y:=by unfold pc;rw [List.mem_filter];simp
theorem Gr.pc_up (G:Gr E Vs) (x:Int):(pc E Vs x).Pairwise (· < ·):=G.up.filter _
theorem Y8 {l:List Int} (h:l.Pairwise (· < ·)):l.Nodup:=h.imp λh=>by omega
theorem Gr.pc_eq (G:Gr E Vs) {x:Int} {l:List Int} (hx:x∈Vs) (hl:l.Pairwise (· <= ·)) (nd:l.Nodup) (h:∀y,y∈l↔Con E x y):l=pc E Vs x:=by
 refine Vc (le:=(· <= ·)) (Gk nd (Y8 (G.pc_up x)) λy=>?_) hl ((G.pc_up x).imp λh=>Int.le_of_lt h) λa _ b _ h1 h2=>Int.le_antisymm h1 h2
 rw [h y,Qbo]
 exact ⟨λq=>⟨G.con_mem q hx,q⟩,λq=>q.2⟩
theorem Gr.isL_iff (G:Gr E Vs) {t:Nat} (ht:t<Vs.length):isL E Vs Vs[t]=true↔¬∃u∈Vs.take t,Con E u Vs[t]:=by
 rw [Qc2]
 constructor
 ·rintro h ⟨u,hu,hc⟩
  have hlt:u<Vs[t]:=by
   obtain ⟨i,hi⟩:=List.getElem?_of_mem hu
   rw [List.getElem?_take] at hi
   split at hi
   ·rename_i hit
    obtain ⟨h1,h2⟩:=List.getElem?_eq_some_iff.mp hi
    rw [← h2]
    exact List.pairwise_iff_getElem.mp G.up i t h1 ht hit
   ·cases hi
  have:=h u (List.mem_of_mem_take hu) (hc.symm G.sy)
  omega
 ·intro h y hy hc
  obtain ⟨i,hi⟩:=List.getElem?_of_mem hy
  obtain ⟨h1,h2⟩:=List.getElem?_eq_some_iff.mp hi
  by_cases hit:i<t
  ·exact absurd ⟨y,List.mem_of_getElem? (i:=i) (by rw [List.getElem?_take,if_pos hit];exact hi),hc.symm G.sy⟩ h
  ·rw [← h2]
   rcases Nat.lt_or_ge t i with z | z
   ·exact Int.le_of_lt (List.pairwise_iff_getElem.mp G.up t i ht h1 z)
   ·have:i=t:=by omega
    subst this;exact Int.le_refl _
theorem Zd {α:Type} {p:α->Bool} {l:List α} {t:Nat} (ht:t<l.length):(l.take (t+1)).filter p=(l.take t).filter p++(if p l[t] then [l[t]] else []):=by
 rw [List.take_succ,List.getElem?_eq_getElem ht,List.filter_append]
 congr 1
 cases h:p l[t] <;> simp [h]
structure Part (E:Int->Int->Prop) (Vs:List Int) (gs:List (List Int)):Prop where
 ne:∀g∈gs,g≠[]
 up:∀g∈gs,g.Pairwise (· < ·)
 sub:∀g∈gs,∀x∈g,x∈Vs
 cov:∀x∈Vs,∃g∈gs,x∈g
 dis:gs.Pairwise λa b=>∀x∈a,x∉b
 con:∀g∈gs,∀x∈g,∀y∈g,Con E x y
variable {gs:List (List Int)}
theorem Uu {gs:List (List Int)} (d:gs.Pairwise λa b=>∀x∈a,x∉b):∀{a b:List Int} {x:Int},a∈gs->b∈gs->x∈a->x∈b->a=b:=by
 induction gs with
 | nil=>intro a b x ha;cases ha
 | cons g gs ih =>
  obtain ⟨d1,d2⟩:=List.pairwise_cons.mp d
  intro a b x ha hb xa xb
  rcases List.mem_cons.mp ha with z | ha
  ·rcases List.mem_cons.mp hb with w | hb
   ·rw [z,w]
   ·exact absurd xb (d1 b hb x (z ▸ xa))
  ·rcases List.mem_cons.mp hb with w | hb
   ·exact absurd xa (d1 a ha x (w ▸ xb))
   ·exact ih d2 ha hb xa xb
theorem Part.nd (P:Part E Vs gs):gs.Nodup:=by
 have:∀{l:List (List Int)},(∀g∈l,g≠[])->l.Pairwise (λa b=>∀x∈a,x∉b)->l.Nodup:=by
  intro l h d
  refine List.Pairwise.imp_of_mem (R:=λa b=>∀x∈a,x∉b) (λ{a b} ha hb hab z=>?_) d
  subst z
  cases a with
  | nil=>exact h [] ha rfl
  | cons x a=>exact hab x List.mem_cons_self List.mem_cons_self
 exact this P.ne P.dis
theorem Part.join (G:Gr E Vs) (P:Part E Vs gs) {a b c:List Int} (ha:a∈gs) (hb:b∈gs) (hab:a≠b) {x y:Int} (hx:x∈a) (hy:y∈b) (e:E x y) (hc:c.Perm (a++b)) (hcs:c.Pairwise (· <= ·)) :
  Part E Vs (((gs.erase a).erase b)++[c])/\(∀g∈gs,∃g'∈((gs.erase a).erase b)++[c],∀z∈g,z∈g')/\(((gs.erase a).erase b)++[c]).length+1=gs.length:=by
 have nd:=P.nd
 have hb':b∈gs.erase a:=(List.mem_erase_of_ne λz=>hab z.symm).mpr hb
 have mem:∀g,g∈(gs.erase a).erase b↔g∈gs/\g≠a/\g≠b:=λg=>by
  rw [(nd.erase a).mem_erase_iff,nd.mem_erase_iff]
  exact ⟨λh=>⟨h.2.2,h.2.1,h.1⟩,λh=>⟨h.2.2,h.2.1,h.1⟩⟩
 have cmem:∀z,z∈c↔z∈a\/z∈b:=λz=>by rw [hc.mem_iff,List.mem_append]
 have off:∀g,g∈gs->g≠a->g≠b->∀z∈g,z∉c:=λg hg h1 h2 z hz hzc=>by
  rcases (cmem z).mp hzc with q | q
  ·exact h1 (Uu P.dis hg ha hz q)
  ·exact h2 (Uu P.dis hg hb hz q)
 have all:∀g,g∈((gs.erase a).erase b)++[c]↔(g∈gs/\g≠a/\g≠b)\/g=c:=λg=>by rw [List.mem_append,mem g,List.mem_singleton]
 have cxy:Con E x y:=.one e
 refine ⟨⟨λg hg=>?_,λg hg=>?_,λg hg z hz=>?_,λz hz=>?_,?_,λg hg u hu v hv=>?_⟩,λg hg=>?_,?_⟩
 ·rcases (all g).mp hg with ⟨h,_⟩ | rfl
  ·exact P.ne g h
  ·exact λq=>absurd ((cmem x).mpr (.inl hx)) (by rw [q];exact List.not_mem_nil)
 ·rcases (all g).mp hg with ⟨h,_⟩ | rfl
  ·exact P.up g h
  ·have nc:g.Nodup:=by
    rw [hc.nodup_iff,List.nodup_append]
    exact ⟨Y8 (P.up a ha),Y8 (P.up b hb),λu hu v hv q=>hab (Uu P.dis ha hb hu (q ▸ hv))⟩
   refine List.Pairwise.imp_of_mem (R:=λu v:Int=>u<=v/\u≠v) (λ_ _ h=>by omega) (hcs.and nc)
 ·rcases (all g).mp hg with ⟨h,_⟩ | rfl
  ·exact P.sub g h z hz
  ·rcases (cmem z).mp hz with q | q
   ·exact P.sub a ha z q
   ·exact P.sub b hb z q
 ·obtain ⟨g,hg,hz⟩:=P.cov z hz
  by_cases h1:g=a
  ·exact ⟨c,(all c).mpr (.inr rfl),(cmem z).mpr (.inl (h1 ▸ hz))⟩
  ·by_cases h2:g=b
   ·exact ⟨c,(all c).mpr (.inr rfl),(cmem z).mpr (.inr (h2 ▸ hz))⟩
   ·exact ⟨g,(all g).mpr (.inl ⟨hg,h1,h2⟩),hz⟩
 ·refine List.pairwise_append.mpr ⟨(P.dis.sublist List.erase_sublist).sublist List.erase_sublist,List.pairwise_singleton _ _,λg hg d hd=>?_⟩
  rw [List.mem_singleton.mp hd]
  obtain ⟨h,h1,h2⟩:=(mem g).mp hg
  exact off g h h1 h2
 ·rcases (all g).mp hg with ⟨h,_⟩ | rfl
  ·exact P.con g h u hu v hv
  ·rcases (cmem u).mp hu with q | q
   ·rcases (cmem v).mp hv with r | r
    ·exact P.con a ha u q v r
    ·exact ((P.con a ha u q x hx).trans cxy).trans (P.con b hb y hy v r)
   ·rcases (cmem v).mp hv with r | r
    ·exact ((P.con b hb u q y hy).trans (cxy.symm G.sy)).trans (P.con a ha x hx v r)
    ·exact P.con b hb u q v r
 ·by_cases h1:g=a
  ·exact ⟨c,(all c).mpr (.inr rfl),λz hz=>(cmem z).mpr (.inl (h1 ▸ hz))⟩
  ·by_cases h2:g=b
   ·exact ⟨c,(all c).mpr (.inr rfl),λz hz=>(cmem z).mpr (.inr (h2 ▸ hz))⟩
   ·exact ⟨g,(all g).mpr (.inl ⟨hg,h1,h2⟩),λz hz=>hz⟩
 ·rw [List.length_append,List.length_erase_of_mem hb',List.length_erase_of_mem ha]
  have l1:=List.length_pos_of_mem hb'
  rw [List.length_erase_of_mem ha] at l1
  have l2:=List.length_pos_of_mem ha
  simp
  omega
def lead (g:List Int):Int:=g.headD 0
theorem Qjr (P:Part E Vs gs):∀x∈gs,∀y∈gs,HT.Vy x y=decide (lead x<lead y):=λx hx y hy=>by
 by_cases h:x=y
 ·subst h
  have:∀l:List Int,HT.Vy l l=false:=λl=>by
   induction l with
   | nil=>rfl
   | cons a l ih=>rw [HT.Uf,if_pos rfl,ih]
  rw [this]
  exact (decide_eq_false (by omega)).symm
 ·cases x with
  | nil=>exact absurd rfl (P.ne _ hx)
  | cons a x =>
   cases y with
   | nil=>exact absurd rfl (P.ne _ hy)
   | cons b y =>
    have hz:¬a=b:=λz=>h (Uu P.dis hx hy (x:=a) List.mem_cons_self (by rw [z];exact List.mem_cons_self))
    rw [HT.Uf,if_neg hz]
    rfl
theorem V0 {g:List Int} (h:g≠[]):lead g∈g:=by cases g with | nil=>exact absurd rfl h | cons a g=>exact List.mem_cons_self
theorem Qho {g:List Int} (h:g.Pairwise (· < ·)) {x:Int} (hx:x∈g):lead g<=x:=by
 cases g with
 | nil=>cases hx
 | cons a g =>
  rcases List.mem_cons.mp hx with rfl | hx
  ·exact Int.le_refl _
  ·exact Int.le_of_lt ((List.pairwise_cons.mp h).1 x hx)
theorem Part.fin (G:Gr E Vs) (P:Part E Vs gs) (full:∀x y,E x y->∃g∈gs,x∈g/\y∈g) {out:List (List Int)} (hp:out.Perm gs) (hs:out.Pairwise λx y=>lead x<=lead y):out=pcs E Vs Vs:=by
 have same:∀{g:List Int} {x y:Int},g∈gs->x∈g->Con E x y->y∈g:=λ{g x y} hg hx h=>h.closed (S:=λz=>z∈g) hx λu v hu e=>by
  obtain ⟨g',hg',h1,h2⟩:=full u v e
  rw [Uu P.dis hg hg' hu h1];exact h2
 have isg:∀{g:List Int} {x:Int},g∈gs->x∈g->g=pc E Vs x:=λ{g x} hg hx=>G.pc_eq (P.sub g hg x hx) ((P.up g hg).imp λh=>Int.le_of_lt h) (Y8 (P.up g hg)) λy=>⟨λhy=>P.con g hg x hx y hy,λh=>same hg hx h⟩
 have least:∀{g:List Int},g∈gs->isL E Vs (lead g)=true:=λ{g} hg=>by
  rw [Qc2]
  exact λy _ hc=>Qho (P.up g hg) (same hg (V0 (P.ne g hg)) hc)
 have leadpc:∀{x:Int},x∈Vs->isL E Vs x=true->lead (pc E Vs x)=x:=λ{x} hx hl=>by
  rw [Qc2] at hl
  have hm:x∈pc E Vs x:=Qbo.mpr ⟨hx,.refl x⟩
  have hne:pc E Vs x≠[]:=λz=>by rw [z] at hm;cases hm
  obtain ⟨h1,h2⟩:=Qbo.mp (V0 hne)
  exact Int.le_antisymm (Qho (G.pc_up x) hm) (hl _ h1 h2)
 have pm:∀g,g∈gs↔g∈pcs E Vs Vs:=λg=>by
  unfold pcs
  rw [List.mem_map]
  constructor
  ·intro hg
   have:=V0 (P.ne g hg)
   exact ⟨lead g,List.mem_filter.mpr ⟨P.sub g hg _ this,least hg⟩,(isg hg this).symm⟩
  ·rintro ⟨x,hx,rfl⟩
   obtain ⟨g,hg,hxg⟩:=P.cov x (List.mem_filter.mp hx).1
   rw [← isg hg hxg];exact hg
 have upl:(pcs E Vs Vs).Pairwise λx y=>lead x<lead y:=by
  unfold pcs
  rw [List.pairwise_map]
  refine List.Pairwise.imp_of_mem (R:=λa b:Int=>a<b) (λ{a b} ha hb hab=>?_) (G.up.filter _)
  obtain ⟨a1,a2⟩:=List.mem_filter.mp ha
  obtain ⟨b1,b2⟩:=List.mem_filter.mp hb
  rw [leadpc a1 a2,leadpc b1 b2];exact hab
 refine Vc (le:=λx y=>lead x<=lead y) (hp.trans (Gk P.nd ?_ pm)) hs (upl.imp λh=>Int.le_of_lt h) λx hx y hy h1 h2=>?_
 ·exact upl.imp λh z=>by rw [z] at h;omega
 ·have hx:=hp.mem_iff.mp hx
  have hy:=hp.mem_iff.mp hy
  have e:lead x=lead y:=Int.le_antisymm h1 h2
  exact Uu P.dis hx hy (V0 (P.ne x hx)) (e ▸ V0 (P.ne y hy))
end Hang
namespace K13
open PySem PySem.Spec L2 PV
open PyProof.Rows (envOfC)
def top (i:Nat):Stmt:=PySem.Challenge.pw_tanglehouse_k13_pieces_hang_together.main.body.getD i (.Pass ⟨0,0,0,0⟩)
def Qdh:Expr:=Qp6 (Qr (top 7))
def Jb:Lam:=Qr7 "pieces.<locals>.<lambda>" ["beside"] Qdh
def Vx:Pos:=Qp5 Qdh
abbrev TBof (ts:List Addr):List (Addr × Array Value):=ts.map λP=>(P,tgOf Vx Jb.qual)
structure Bn (mg:Str->Option Value):Prop where
 nb_bool:mg "bool" = none
 nb_enumerate:mg "enumerate" = none
 nb_int:mg "int" = none
 nb_isinstance:mg "isinstance" = none
 nb_len:mg "len" = none
 nb_list:mg "list" = none
 nb_min:mg "min" = none
 nb_range:mg "range" = none
 nb_sorted:mg "sorted" = none
 nb_tuple:mg "tuple" = none
 c_RIM:∃t:Tok,mg "RIM" = some (.int (-1) t)
def Qt:GI:=λds k=>∃c n b,ds=[rowD c n,.int b]/\0<b/\b<1073741824/\0<=n/\n<=1000000/\∀c' r,0<=r->r<b->k (.int r) (rowD c' (n+1))
abbrev Ja:Stmt:=top 10
theorem Yp:FnScope ["_law_row","_law_base","_law_rest","_law_number"] ["_law_row","_law_base"] (Qd Ja):=⟨rfl,rfl,rfl,by decide +kernel,rfl,by decide +kernel,by decide +kernel⟩
def Gf:Tg:={ own:=λi=>i == 0 || i == 2 || i == 3,io:=[0] }
def Gb:WS:=(wSeq (Vi 0 (wBin dAdd (wBin dIx (wVar 0) (wC (.int 1))) (wC (.int 1))) (wC (.int 1)))
 (wSeq (wIf (wBl (wBin (dCmp λi j=>decide (j<i)) (wBin dIx (wVar 0) (wC (.int 0))) (wBin dPow (wC (.int 10)) (wC (.int 18))))) (wSeq (wSet 2 (wBin dSub (wBin dIx (wVar 0) (wC (.int 0))) (wBin dPow (wC (.int 10)) (wC (.int 18)))))
 (wSeq (Vi 0 (wBin dAdd (wBin dPow (wC (.int 10)) (wC (.int 18))) (wBin dDiv (wVar 2) (wVar 1))) (wC (.int 0)))
 (wRet (wBin dMod (wVar 2) (wVar 1))))) Jp)
 (wSeq (wSet 3 (wBin dMod (wBin dAdd (wBin dAdd (wBin dMul (wBin dIx (wVar 0) (wC (.int 0))) (wC (.int 48271))) (wBin dMul (wBin dMul (wC (.int 7919)) (wBin dIx (wVar 0) (wC (.int 1)))) (wBin dIx (wVar 0) (wC (.int 1))))) (wC (.int 11))) (wC (.int 2147483629))))
 (wSeq (wSet 3 (wBin dMod (wBin dAdd (wBin dAdd (wBin dMul (wVar 3) (wVar 3)) (wBin dMul (wC (.int 69621)) (wBin dIx (wVar 0) (wC (.int 1))))) (wC (.int 7))) (wC (.int 2147483587))))
 (wRet (wBin dMod (wBin dDiv (wVar 3) (wC (.int 5))) (wVar 1)))))))
theorem Qdd {P:Program} {w:World} {K:PySem.W.Frag} {mg:Str->Option Value} {base:Heap} {f:Addr} (B:Bn mg):∀(cdv:Value) (A:Around) (outer:List PySem.Env) (s:Shared) (H:Hp) (E:XK),Room 0 (A.deeper (envOfC "_law_take" (Qd Ja) s.heap.objs.size f cdv))->SVs (cxOf CX0 P w K mg base ["_law_row","_law_base","_law_rest","_law_number"] "_law_take" (Qd Ja) f cdv A outer s H E).nox Gf (Qr Ja) Gb:=λcdv A outer s H E hr =>
  (Qf (Vn (i:=0) (Q5 hr) (Q7 Ys (Jw (Ju (Q5 hr)) (Qa 0) Qh) Qh) Qh)
  (Qf (Ub (Jx Qna (Jw (Ju (Q5 hr)) (Qa 0) Qh) (Q7 Qhf Qh Qh)) (Qf (Q9 (i:=2) (Q7 Qpn (Jw (Ju (Q5 hr)) (Qa 0) Qh) (Q7 Qhf Qh Qh)) Yp.nd)
  (Qf (Vn (i:=0) (Q5 hr) (Q7 Ys (Q7 Qhf Qh Qh) (Q7 Qhh (Qa 2) (Qa 1))) Qh)
  (Qo (Ze (Q7 Qd7 (Qa 2) (Qa 1)))))) Jz)
  (Qf (Q9 (i:=3) (Q7 Qd7 (Q7 Ys (Q7 Ys (Q7 J9 (Jw (Ju (Q5 hr)) (Qa 0) Qh) Qh) (Q7 J9 (Q7 J9 Qh (Jw (Ju (Q5 hr)) (Qa 0) Qh)) (Jw (Ju (Q5 hr)) (Qa 0) Qh))) Qh) Qh) Yp.nd)
  (Qf (Q9 (i:=3) (Q7 Qd7 (Q7 Ys (Q7 Ys (Q7 J9 (Qa 3) (Qa 3)) (Q7 J9 Qh (Jw (Ju (Q5 hr)) (Qa 0) Qh))) Qh) Qh) Yp.nd)
  (Qo (Ze (Q7 Qd7 (Q7 Qhh (Qa 3) Qh) (Qa 1))))))))
theorem Qbl {P:Program} {w:World} {K:PySem.W.Frag} {mg:Str->Option Value} {base:Heap} {f:Addr} {fd:FuncData} (F:Fun K "_law_take" "_law_take" Ja f fd) (B:Bn mg):FnOk P w K mg base CX0 1 f fd ["_law_row","_law_base"] (spI K 0 Qt):=by
 refine Qqr (T:=Gf) F Yp rfl rfl (λds kk h=>?_) (Qdd B) (λds kk h=>?_)
 ·obtain ⟨c,n,b,rfl,_⟩:=h
  exact ⟨rfl,_,rfl,rfl⟩
 ·obtain ⟨c,n,b,rfl,hb,hb2,hn,hn2,k⟩:=h
  have hn1:-18446744073709551616<n+1:=by omega
  have hn2':n+1<18446744073709551616:=by omega
  simp only [Gb,wSeq,Vi,wBin,env0,rowD,List.map_cons,List.map_nil,List.length_cons,List.length_nil,Nat.zero_add,Nat.reduceAdd,List.replicate,List.cons_append,List.nil_append,wC,wIf,wSet,wRet,Qx,Int.reduceLE,Int.reduceNeg,Int.reduceLT,Qos,Int.reduceToNat,Int.reducePow,Jp,r_bl,look,Option.isSome_some,List.set_cons_zero,List.set_cons_succ,Ql,true_and,Qd2,Nat.lt_add_one,Qr8,List.length_set,Nat.zero_lt_succ,Qr9,Z2,Qcj,G3,Qav,List.getElem?_cons_zero,Qm,Bool.and_true,Qrf,hb,Qku,hb2,Qgt,Qcn,D.pure,Bool.true_and,List.getElem?_cons_succ,Qou,Qmc,Yi,Z6,hn1,hn2']
  split
  ·exact k _ _ (Int.emod_nonneg _ (by omega)) (Int.emod_lt_of_pos _ hb)
  ·have hx:-18446744073709551616<(c*48271+7919*(n+1)*(n+1)+11) % 2147483629/\(c*48271+7919*(n+1)*(n+1)+11) % 2147483629<18446744073709551616:=by omega
   generalize (c*48271+7919*(n+1)*(n+1)+11) % 2147483629=x at hx
   simp only [Int.reduceNeg,hx.1,hx.2,Z6,Qcn,Int.reduceLT,Qku,Qgt,hb]
   exact k _ _ (Int.emod_nonneg _ (by omega)) (Int.emod_lt_of_pos _ hb)
def Zi:GI:=λds k=>∃(c n nr:Int) (m e:Nat),ds=[rowD c n,.int m,.int e,.int nr]/\m<=40/\e<=12/\e % 2=0/\0<=n/\n<=900000 /\
 ∀(c' n':Int) (A:Nat->Int) (g:Nat->Nat) (r:Int),M.Tw (4*m+e) A g->(∀i,0<=A i/\A i<1000000000)->n<=n'->n'<=n+1000->k (webD m e A r) (rowD c' n')
abbrev Je:Stmt:=top 11
theorem Jq:FnScope ["_law_row","_law_many","_law_ends","_law_near","_law_arcs","_law_left","_law_arc","_law_most","_law_crossings"] ["_law_row","_law_many","_law_ends","_law_near"] (Qd Je):=⟨rfl,rfl,rfl,by decide +kernel,rfl,by decide +kernel,by decide +kernel⟩
def Xf:Tg:={ own:=λi=>i == 0 || i == 4 || i == 5 || i == 6 || i == 7 || i == 8,io:=[0] }
def Xd:WS:=(wSeq (wSet 4 (wBin dMul (wLst (Qe (wC (.int 0)) wNil)) (wBin dAdd (wBin dMul (wC (.int 4)) (wVar 1)) (wVar 2))))
 (wSeq (wSet 5 (Qn Qid (Qe (wBin dAdd (wBin dMul (wC (.int 4)) (wVar 1)) (wVar 2)) wNil)))
 (wSeq (wFor (G8 (Qe (wBin dAdd (wBin dMul (wC (.int 2)) (wVar 1)) (wBin dDiv (wVar 2) (wC (.int 2)))) wNil)) (gN 6) (wSeq (Vi 4 (wBin dMul (wC (.int 7)) (wVar 6)) (wMt 5 "list" Qej (Qe (wC (.int 0)) wNil)))
 (wSeq (wSet 7 (Qn dLen (Qe (wVar 5) wNil)))
 (wSeq (wIf (wBl (wBin (dCmp λi j=>decide (j<i)) (wVar 3) (wC (.int 0)))) (wSet 7 (Qn Qny (Qe (wVar 7) (Qe (wVar 3) wNil)))) Jp)
 (Vi 4 (wBin dMul (wC (.int 7)) (wVar 6)) (wMt 5 "list" Qej (Qe (J8 0 Qt (Z8 0 (Qe (wVar 7) wNil))) wNil)))))))
 (wSeq (wSet 8 (Va (G8 (Qe (wVar 1) wNil)) wAll (Qn Qbz (Qe (wSl (wVar 1) (Qe0 (wBin dMul (wC (.int 4)) (wVar 0))) (Qe0 (wBin dAdd (wBin dMul (wC (.int 4)) (wVar 0)) (wC (.int 4))))) wNil)) [4]))
 (wRet (wTup (Qe (Qn Qbz (Qe (wVar 8) wNil)) (Qe (Qn Qbz (Qe (wSl (wVar 4) (Qe0 (wBin dMul (wC (.int 4)) (wVar 1))) Qf5) wNil)) (Qe (J8 0 Qt (Z8 0 (Qe (wC (.int 3)) wNil))) wNil)))))))))
theorem Qfq {P:Program} {w:World} {K:PySem.W.Frag} {mg:Str->Option Value} {base:Heap} {f:Addr} (B:Bn mg) (C__law_take:Cal P w K mg base "_law_take" 1 ["_law_row","_law_base"] (spI K 0 Qt)):∀(cdv:Value) (A:Around) (outer:List PySem.Env) (s:Shared) (H:Hp) (E:XK),Room 1 (A.deeper (envOfC "_law_web" (Qd Je) s.heap.objs.size f cdv))->SVs (cxOf CX0 P w K mg base ["_law_row","_law_many","_law_ends","_law_near","_law_arcs","_law_left","_law_arc","_law_most","_law_crossings"] "_law_web" (Qd Je) f cdv A outer s H E).nox Xf (Qr Je) Xd:=λcdv A outer s H E hr =>
  (Qf (Q9 (i:=4) (Q7 J9 (Yl (Qc Qh Qj)) (Q7 Ys (Q7 J9 Qh (Qa 1)) (Qa 2))) Jq.nd)
  (Qf (Q9 (i:=5) (Qbw B.nb_range B.nb_list (Qc (Q7 Ys (Q7 J9 Qh (Qa 1)) (Qa 2)) Qj)) Jq.nd)
  (Qf (Z5 PassesOwn.never (Y3 B.nb_range (Qc (Q7 Ys (Q7 J9 Qh (Qa 1)) (Q7 Qhh (Qa 2) Qh)) Qj)) (J0 (i:=6) Jq.nd) (Qf (Vn (i:=4) (Q5 hr) (Q7 J9 Qh (Qa 6)) (Qbv (i:=5) Qec PySem.F.plainAttrs_list PySem.F.slot_list_pop PySem.F.type_list_pop (Qc Qh Qj)))
  (Qf (Q9 (i:=7) (Q3 Uv B.nb_len Uw (Qc (Qa 5) Qj)) Jq.nd)
  (Qf (Ub (Jx Qna (Qa 3) Qh) (Qo (Q9 (i:=7) (Q3 (Qn3 rfl) B.nb_min Qqz (Qc (Qa 7) (Qc (Qa 3) Qj))) Jq.nd)) Jz)
  (Qo (Vn (i:=4) (Q5 hr) (Q7 J9 Qh (Qa 6)) (Qbv (i:=5) Qec PySem.F.plainAttrs_list PySem.F.slot_list_pop PySem.F.type_list_pop (Qc (Jk C__law_take (hr.mono (by decide)) (Ym (i:=0) (Qc (Qa 7) Qj))) Qj))))))))
  (Qf (Qdw (j:=8) (Zn [4] (Y3 B.nb_range (Qc (Qa 1) Qj)) (λ_ _ _ _ _=>Qif) (λ_ _ _ _ _=>(Y5 Qaq B.nb_tuple Qat (Qc (Qnq (Qa 1) (X7 (Q7 J9 Qh (Qa 0))) (X7 (Q7 Ys (Q7 J9 Qh (Qa 0)) Qh))) Qj)))) (Yv (Qd Je) ["_law_row","_law_many","_law_ends","_law_near","_law_arcs","_law_left","_law_arc","_law_most","_law_crossings"] (by decide +kernel)) Jq.nd)
  (Qo (Ze (Qh2 (Qc (Y5 Qaq B.nb_tuple Qat (Qc (Qa 8) Qj)) (Qc (Y5 Qaq B.nb_tuple Qat (Qc (Qnq (Qa 4) (X7 (Q7 J9 Qh (Qa 1))) Qg7) Qj)) (Qc (Jk C__law_take (hr.mono (by decide)) (Ym (i:=0) (Qc Qh Qj))) Qj))))))))))
theorem Qoi {q:Nat}:(((List.range q).map λ(t:Nat)=>7*(t:Int))).Nodup:=by
 refine List.pairwise_map.mpr (List.Pairwise.imp (R:=λa b:Nat=>a<b) (λh z=>?_) List.pairwise_lt_range)
 omega
theorem Qcu {P:Program} {w:World} {K:PySem.W.Frag} {mg:Str->Option Value} {base:Heap} {f:Addr} {fd:FuncData} (F:Fun K "_law_web" "_law_web" Je f fd) (B:Bn mg) (C1:Cal P w K mg base "_law_take" 1 ["_law_row","_law_base"] (spI K 0 Qt)) :
  FnOk P w K mg base CX0 2 f fd ["_law_row","_law_many","_law_ends","_law_near"] (spI K 0 Zi):=by
 refine Qqr (T:=Xf) F Jq rfl rfl (λds kk h=>?_) (Qfq B C1) (λds kk h=>?_)
 ·obtain ⟨c,n,nr,m,e,rfl,_⟩:=h
  exact ⟨rfl,_,rfl,rfl⟩
 ·obtain ⟨c,n,nr,m,e,rfl,hm,he,he2,hn,hn2,k⟩:=h
  simp only [Xd,wSeq,wSet,wBin,wLst,Qe,wC,wNil,List.length_cons,List.length_nil,Nat.zero_add,env0,rowD,List.map_cons,List.map_nil,Nat.reduceAdd,List.replicate,List.cons_append,List.nil_append,Qn,Ue,Ur,Qx,look,List.set_cons_succ,List.set_cons_zero,Ql,Int.reduceLT,Qgt,Int.reduceNeg,Z6,Qcn,Y7,Int.reducePow,Ql9,Qot,Qm,D.pure,Bool.and_self,true_and]
  have hN:(4*(m:Int)+(e:Int)).toNat=4*m+e:=by omega
  have e1:(List.replicate (4*(m:Int)+(e:Int)).toNat [D.int 0]).flatten=(List.replicate (4*m+e) (0:Int)).map D.int:=by rw [hN];simp
  have e2:rngD 0 (4*(m:Int)+(e:Int)).toNat=(List.range (4*m+e)).map λ(i:Nat)=>D.int (i:Int):=by rw [hN];simp [rngD]
  have big:∀n:Nat,n<=1000->n<sizeLine:=λn h=>Nat.lt_of_le_of_lt h (by decide)
  have hQ:(2*(m:Int)+(e:Int) / 2).toNat=2*m+e / 2:=by omega
  rw [e1,e2,hQ]
  obtain ⟨xs,hxs⟩:∃xs:List Int,xs=(List.range (2*m+e / 2)).map λ(t:Nat)=>7*(t:Int):=⟨_,rfl⟩
  have hl:xs.length=2*m+e / 2:=by rw [hxs];simp
  have nd:xs.Nodup:=by rw [hxs];exact Qoi
  refine ⟨by decide,by omega,by omega,by rw [hN];exact Nat.le_of_lt (big _ (by omega)),by omega,by omega,by omega,by omega,Vp,λt ρ=>∃(c' n':Int) (L:List Nat) (Bs:List Int) (ps:List (Nat × Nat)) (o1 o2:Option D),ρ=[some (rowD c' n'),some (.int m),some (.int e),some (.int nr),some (.lst (Bs.map D.int)),some (.lst (L.map λ(i:Nat)=>D.int (i:Int))),o1,o2,none]/\Pr (4*m+e) xs t L Bs ps/\L.length=4*m+e-2*t/\n'=n+t/\t<=xs.length/\∀b∈Bs,0<=b/\b<1000000000,
   ⟨c,n,List.range (4*m+e),List.replicate (4*m+e) 0,[],none,none,rfl,Pr.start _ _,by simp,by simp,Nat.zero_le _,λb hb=>by rw [(List.mem_replicate.mp hb).2];decide⟩,?_,?_⟩
  ·rintro t d ρ hd ⟨c',n',L,Bs,ps,o1,o2,rfl,hp,hL,hn',ht,hB⟩
   obtain ⟨htl,rfl⟩:=U4 hd
   have hx:xs[t]? = some (7*(t:Int)):=by rw [hxs,List.getElem?_map,List.getElem?_range htl];rfl
   have h7:7*(0+(t:Int))=7*(t:Int):=by omega
   cases L with
   | nil=>simp at hL;omega
   | cons i L =>
    simp only [List.length_cons] at hL
    have hi:=hp.lt (List.mem_cons_self (a:=i))
    have hbl:=hp.bl
    have hix:ixN Bs.length (i:Int)=some i:=Y2 (by omega)
    have hLp:0<L.length:=by omega
    -- what is drawn of
    have fin:∀(mo:Int) (o:Option D),0<mo->mo<=(L.length:Int)->∀r:Int,0<=r->r<mo->∃s:Nat,r=(s:Int)/\∃hs:s<L.length,L[s] < 4*m+e:=λmo o h1 h2 r h3 h4=>by
     obtain ⟨s,rfl⟩:=Int.eq_ofNat_of_zero_le h3
     have hs:s<L.length:=by omega
     exact ⟨s,rfl,hs,hp.lt (List.mem_cons_of_mem i (List.getElem_mem hs))⟩
    have rest:∀(s:Nat) (hs:s<L.length),∃ps',Pr (4*m+e) xs (t+1) (L.eraseIdx s) ((Bs.set i (7*(t:Int))).set L[s] (7*(t:Int))) ps'/\(L.eraseIdx s).length=4*m+e-2*(t+1)/\∀b∈(Bs.set i (7*(t:Int))).set L[s] (7*(t:Int)),0<=b/\b<1000000000:=λs hs=>by
     refine ⟨_,hp.step hx hs,by rw [List.length_eraseIdx_of_lt hs];omega,λb hb=>?_⟩
     rcases List.mem_or_eq_of_mem_set hb with hb | rfl
     ·rcases List.mem_or_eq_of_mem_set hb with hb | rfl
      ·exact hB b hb
      ·omega
     ·omega
    simp only [gN,wSeq,Vi,wBin,wC,rowD,List.map_cons,List.set_cons_succ,List.set_cons_zero,wMt,Qe,wNil,wSet,Qn,wIf,J8,Z8,Qm,Bool.and_true,List.nil_append,Qx,Jp,r_bl,look,Option.isSome_some,U1,BEq.rfl,Ql,Z2,D.pure,Bool.and_self,true_and,Int.reduceNeg,Int.reduceLT,Z6,h7,Qmc,Yi,Qci,Int.reducePow,Int.reduceLE,List.length_cons,List.length_map,Nat.zero_lt_succ,Ql2,Xj,Qrl,List.getElem?_cons_zero,List.eraseIdx_cons_zero,Qd2,hix]
    by_cases hnr:0<nr
    ·simp only [hnr,decide_true,reduceIte]
     refine ⟨c',n',(if nr<(L.length:Int) then nr else (L.length:Int)),rfl,by split <;> omega,by split <;> omega,by omega,by omega,λc2 r h1 h2=>?_⟩
     obtain ⟨s,rfl,hs,hj⟩:=fin _ none (by split <;> omega) (by split <;> omega) r h1 h2
     have hsx:seqIndex? (s:Int) L.length=some s:=Vd hs
     have hjx:ixN Bs.length ((L[s]:Nat):Int)=some L[s]:=Y2 (by omega)
     obtain ⟨ps',q1,q2,q3⟩:=rest s hs
     simp only [rowD,Qci,Int.reducePow,Int.reduceNeg,List.length_map,hsx,List.getElem?_map,Ql,List.getElem?_eq_getElem hs,Option.map_some,D.pure,Qd2,List.length_set,hjx,true_and]
     refine ⟨by omega,by omega,c2,n'+1,L.eraseIdx s,_,ps',some (.int (0+(t:Int))),some (.int (if nr<(L.length:Int) then nr else (L.length:Int))),?_,q1,q2,by omega,by omega,q3⟩
     simp [rowD,List.map_set,Vw]
    ·simp only [hnr,decide_false,Bool.false_eq_true,reduceIte]
     refine ⟨c',n',(L.length:Int),rfl,by omega,by omega,by omega,by omega,λc2 r h1 h2=>?_⟩
     obtain ⟨s,rfl,hs,hj⟩:=fin _ none (by omega) (Int.le_refl _) r h1 h2
     have hsx:seqIndex? (s:Int) L.length=some s:=Vd hs
     have hjx:ixN Bs.length ((L[s]:Nat):Int)=some L[s]:=Y2 (by omega)
     obtain ⟨ps',q1,q2,q3⟩:=rest s hs
     simp only [rowD,Qci,Int.reducePow,Int.reduceNeg,List.length_map,hsx,List.getElem?_map,Ql,List.getElem?_eq_getElem hs,Option.map_some,D.pure,Qd2,List.length_set,hjx,true_and]
     refine ⟨by omega,by omega,c2,n'+1,L.eraseIdx s,_,ps',some (.int (0+(t:Int))),some (.int (L.length:Int)),?_,q1,q2,by omega,by omega,q3⟩
     simp [rowD,List.map_set,Vw]
  ·rintro ρ ⟨c',n',L,Bs,ps,o1,o2,rfl,hp,hL,hn',ht,hB⟩
   simp only [Jr] at hp hL hn' ht
   have hL0:L=[]:=List.length_eq_zero_iff.mp (by omega)
   subst hL0
   rw [← hl] at hp
   obtain ⟨g,tw⟩:=hp.tw nd
   have hbl:=hp.bl
   simp only [wSeq,wSet,rowD,wRet,wTup,Qe,Qn,wNil,wSl,Qf5,J8,Z8,wC,Qm,D.pure,Bool.and_self,List.nil_append,List.length_cons,List.length_nil,Nat.zero_add,Nat.reduceAdd,true_and,Qgp,wBin,Qx,Qbg,Ur,look,Ql,Y7,Int.reducePow,Int.reduceNeg,Int.toNat_natCast]
   refine ⟨by omega,by omega,Gy (Qig Bs) (by rw [Jr];exact big _ (by omega)) (λd hd Q' hQ=>?_) ?_⟩
   ·obtain ⟨i,hi,rfl⟩:=Qeb hd
    have hb1:-18446744073709551616<0+(i:Int):=by omega
    have hb2:0+(i:Int)<18446744073709551616:=by omega
    have q1:4*(0+(i:Int))=((4*i:Nat):Int):=by omega
    have q2:((4*i:Nat):Int)+4=((4*i+4:Nat):Int):=by omega
    simp only [Qn,Qe,wSl,blkE,List.map_nil,List.map_cons,look,wNil,Qgp,wBin,wC,Qx,Ql,Int.reduceNeg,Int.reduceLT,Z6,Qcn,Qck,Qoq,Qkt]
    rw [q1,q2,Qn1 (by omega) (by rw [List.length_map];omega),show 4*i+4-4*i=4 by omega,Zm (by omega)]
    refine ⟨Jj,Qy λ_ _=>rfl,?_⟩
    rw [Xt] at hQ
    exact hQ
   ·simp only [List.set_cons_succ,List.set_cons_zero,look,Option.isSome_some,Ql,Z2,Qm,D.pure,Bool.and_self,true_and,Int.reduceNeg,Int.reduceLT,Z6,Qck,Qoq,Qkt]
    rw [Qfo,show (4*(m:Int))=((4*m:Nat):Int) by omega,Qkb (by rw [List.length_map];omega)]
    have e3:(Bs.map D.int).drop (4*m)=(List.range e).map λj=>.int (Bs.getD (4*m+j) 0):=by
     rw [← Zm (by omega),List.take_of_length_le (by simp;omega)]
    rw [e3]
    refine ⟨Qy λ_ _=>by simp only [D.pure];exact Qy λ_ _=>rfl,Jj,Qy λ_ _=>rfl,c',n',3,rfl,by decide,by decide,by omega,by omega,λc4 r4 h1 h2=>?_⟩
    simp only [rowD,Z2,Qm,D.pure,Bool.and_self,true_and]
    exact ⟨by decide,k c4 (n'+1) (λi=>Bs.getD i 0) g r4 tw (λi=>Qjw (by decide) hB i) (by omega) (by omega)⟩
end K13
namespace K13
open PySem PySem.Spec L2 PV
open PyProof.Rows (envOfC)
theorem big {n:Nat} (h:n<=1000):n<sizeLine:=Nat.lt_of_le_of_lt h (by decide)
def crD (A:Nat->Int) (k:Nat):D:=.tup ((List.range 4).map λj=>.int (A (4*k+j)))
def Zv:GA:=λds k=>∃(m e:Nat) (A:Nat->Int) (r:Int),ds=[webD m e A r]/\m<=100/\e<=100/\k (.dik (encP (spD m) (M.plc A (4*m+e))))
abbrev Yb:Stmt:=top 2
theorem J5:FnScope ["web","told","k","crossing","j","arc"] ["web"] (Qd Yb):=⟨rfl,rfl,rfl,by decide +kernel,rfl,by decide +kernel,by decide +kernel⟩
def Qdt:Tg:={ own:=λi=>i == 1 || i == 2 || i == 3 || i == 4 || i == 5,io:=[] }
def Qdk:WS:=(wSeq (wSet 1 (wC (.dik [])))
 (wSeq (wFor (Qf6 (Qe (wBin dIx (wVar 0) (wC (.int 0))) wNil)) (Qhz 2 (Ut (gN 2) (Ut (gN 3) Qh0))) (wFor (Qf6 (Qe (wVar 3) wNil)) (Qhz 2 (Ut (gN 4) (Ut (gN 5) Qh0))) (wSda 1 (wVar 5) (wTup (Qe (wVar 2) (Qe (wVar 4) wNil))))))
 (wSeq (wFor (Qf6 (Qe (wBin dIx (wVar 0) (wC (.int 1))) wNil)) (Qhz 2 (Ut (gN 4) (Ut (gN 5) Qh0))) (wSda 1 (wVar 5) (wTup (Qe (wC (.int (-1))) (Qe (wVar 4) wNil)))))
 (Qa2 1))))
theorem Qkg {P:Program} {w:World} {K:PySem.W.Frag} {mg:Str->Option Value} {base:Heap} {f:Addr} (B:Bn mg):∀(cdv:Value) (A:Around) (outer:List PySem.Env) (s:Shared) (H:Hp) (E:XK),Room 0 (A.deeper (envOfC "places" (Qd Yb) s.heap.objs.size f cdv))->SVs (cxOf CX0 P w K mg base ["web","told","k","crossing","j","arc"] "places" (Qd Yb) f cdv A outer s H E).nox Qdt (Qr Yb) Qdk:=λcdv A outer s H E hr =>
  (Qf (Q9 (i:=1) Qaj J5.nd)
  (Qf (Z5 PassesOwn.never (Qc1 B.nb_enumerate (Qc (Jw (Ju (Q5 hr)) (Qa 0) Qh) Qj)) (Qhx (Zu (J0 (i:=2) J5.nd) (Zu (J0 (i:=3) J5.nd) Qc6))) (Qo (Z5 PassesOwn.never (Qc1 B.nb_enumerate (Qc (Qa 3) Qj)) (Qhx (Zu (J0 (i:=4) J5.nd) (Zu (J0 (i:=5) J5.nd) Qc6))) (Qo (Qkn (i:=1) (Qa 5) (Qh2 (Qc (Qa 2) (Qc (Qa 4) Qj))))))))
  (Qf (Z5 PassesOwn.never (Qc1 B.nb_enumerate (Qc (Jw (Ju (Q5 hr)) (Qa 0) Qh) Qj)) (Qhx (Zu (J0 (i:=4) J5.nd) (Zu (J0 (i:=5) J5.nd) Qc6))) (Qo (Qkn (i:=1) (Qa 5) (Qh2 (Qc (Qh3 B.c_RIM.choose_spec) (Qc (Qa 4) Qj))))))
  (Qo (Qch (i:=1))))))
theorem Qg1 {m t:Nat} {A:Nat->Int} (ht:t<900) {P:EndsP} {ρ:PV.Env} {wk wv:WE} {a:Int} (ha:a=A t)
  (h1:look ρ 1=some (.dik (encP (spD m) (M.plc A t)))) (hk:∀Q,Q (.int a) ρ->wk ρ Q) (hv:∀d Q,Q (spD m t) (ρ.set 1 d)->wv (ρ.set 1 d) Q) (hn:P.nx (ρ.set 1 (some (.dik (encP (spD m) (M.plc A (t+1))))))):wSda 1 wk wv P ρ:=by
 obtain ⟨k1,k2,_⟩:=M.Qg0 A t
 unfold wSda
 rw [h1]
 obtain ⟨l,hl,v1,v2⟩:=Ql3 (s:=spD m) (P:=M.plc A t) (a:=a) (i:=t) k1
 have hlen:l.length<=t:=by
  rcases hl with rfl | ⟨e,he,rfl⟩
  ·exact Nat.zero_le _
  ·exact Qjf A t e he
 refine ⟨?_,Qh5 k1,hk _ ?_⟩
 ·have:=Qcs A t
  unfold encP
  rw [List.length_map]
  exact big (by omega)
 ·show oget (valD (Yz (encP (spD m) (M.plc A t)) (.inl a)) (.inl a)) _
  rw [v1]
  refine ⟨by rw [List.length_map];exact big (by omega),hv _ _ ⟨Qmk,?_⟩⟩
  rw [v2,ha,← M.X5]
  exact hn
theorem Qhb {P:Program} {w:World} {K:PySem.W.Frag} {mg:Str->Option Value} {base:Heap} {f:Addr} {fd:FuncData} (F:Fun K "places" "places" Yb f fd) (B:Bn mg):FnOk P w K mg base CX0 1 f fd ["web"] (spR K Zv):=by
 refine Qfl (T:=Qdt) F J5 rfl (by decide) (λds kk h=>?_) (Qkg B) (λds kk h=>?_)
 ·obtain ⟨m,e,A,r,rfl,_⟩:=h
  rfl
 ·obtain ⟨m,e,A,r,rfl,hm,he,k⟩:=h
  simp only [Qdk,wSeq,wSet,wC,Int.reduceNeg,env0,webD,List.map_cons,List.map_nil,List.length_cons,List.length_nil,Nat.zero_add,Nat.reduceAdd,List.replicate,List.cons_append,List.nil_append,List.set_cons_succ,List.set_cons_zero,Ue,Qgs,Qe,wBin,wNil,Qx,look,Ql,Ud,G3,List.getElem?_cons_zero,Qcm]
  have pc:Qm ((List.range m).map λk=>D.tup ((List.range 4).map λj=>.int (A (4*k+j))))=true:=Qy λ_ _=>by simp only [D.pure];exact Qy λ_ _=>rfl
  have pe:Qm ((List.range e).map λj=>D.int (A (4*m+j)))=true:=Qy λ_ _=>rfl
  refine ⟨pc,Vq pc,λk ρ=>∃o2 o3 o4 o5:Option D,ρ=[some (webD m e A r),some (.dik (encP (spD m) (M.plc A (4*k)))),o2,o3,o4,o5],⟨none,none,none,none,rfl⟩,?_,?_⟩
  ·rintro i d ρ hd ⟨o2,o3,o4,o5,rfl⟩
   rw [Zl] at hd
   have hi:i<m:=by
    cases q:((List.range m).map λk=>D.tup ((List.range 4).map λj=>.int (A (4*k+j))))[i]? with
    | none=>rw [q] at hd;cases hd
    | some z=>simpa using (List.getElem?_eq_some_iff.mp q).1
   rw [List.getElem?_map,List.getElem?_range hi] at hd
   have hd:=(Option.some.inj hd).symm
   subst hd
   have pi:Qm ((List.range 4).map λj=>D.int (A (4*i+j)))=true:=Qy λ_ _=>rfl
   simp only [Nat.zero_add,Int.reduceNeg,Ue,Qgs,Qe,wNil,Qx,Qgq,List.length_cons,List.length_nil,Nat.reduceAdd,Qcl,gN,List.set_cons_succ,List.set_cons_zero,Qgr,look,Ql,Qcm,true_and]
   refine ⟨pi,Vq pi,λj ρ=>∃o4 o5:Option D,ρ=[some (webD m e A r),some (.dik (encP (spD m) (M.plc A (4*i+j)))),some (.int (i:Int)),some (crD A i),o4,o5],⟨o4,o5,by simp [crD]⟩,?_,?_⟩
   ·rintro j d ρ hd ⟨o4,o5,rfl⟩
    rw [Zl] at hd
    have hj:j<4:=by
     cases q:((List.range 4).map λj=>D.int (A (4*i+j)))[j]? with
     | none=>rw [q] at hd;cases hd
     | some z=>simpa using (List.getElem?_eq_some_iff.mp q).1
    rw [List.getElem?_map,List.getElem?_range hj] at hd
    have hd:=(Option.some.inj hd).symm
    subst hd
    simp only [Nat.zero_add,Qgq,List.length_cons,List.length_nil,Nat.reduceAdd,Qcl,gN,List.set_cons_succ,List.set_cons_zero,Qgr,true_and]
    refine Qg1 (m:=m) (t:=4*i+j) (A:=A) (a:=A (4*i+j)) (by omega) rfl rfl (λQ hQ=>?_) (λd Q hQ=>?_) ?_
    ·simp only [Qx,look,Ql];exact hQ
    ·simp only [wTup,Qe,List.set_cons_succ,List.set_cons_zero,wNil,List.length_cons,List.length_nil,Nat.zero_add,Nat.reduceAdd,Qx,look,Ql]
     refine ⟨by decide,?_⟩
     simpa [spD,M.Qof hi hj] using hQ
    ·exact ⟨some (.int (j:Int)),some (.int (A (4*i+j))),by simp [Nat.add_assoc]⟩
   ·rintro ρ ⟨o4,o5,rfl⟩
    have hl:(Z4 0 ((List.range 4).map λj=>D.int (A (4*i+j)))).length=4:=by rw [J7];simp
    exact ⟨some (.int (i:Int)),some (crD A i),o4,o5,by rw [hl,Nat.mul_add]⟩
  ·rintro ρ ⟨o2,o3,o4,o5,rfl⟩
   have hl:(Z4 0 ((List.range m).map λk=>D.tup ((List.range 4).map λj=>.int (A (4*k+j))))).length=m:=by rw [J7];simp
   rw [hl]
   simp only [wSeq,Int.reduceNeg,webD,Ue,Qgs,Qe,wBin,wC,wNil,Qx,look,Ql,Ud,Qav,List.getElem?_cons_succ,List.getElem?_cons_zero,Qcm]
   refine ⟨pe,Vq pe,λj ρ=>∃o4 o5:Option D,ρ=[some (webD m e A r),some (.dik (encP (spD m) (M.plc A (4*m+j)))),o2,o3,o4,o5],⟨o4,o5,by simp [webD]⟩,?_,?_⟩
   ·rintro j d ρ hd ⟨o4,o5,rfl⟩
    rw [Zl] at hd
    have hj:j<e:=by
     cases q:((List.range e).map λj=>D.int (A (4*m+j)))[j]? with
     | none=>rw [q] at hd;cases hd
     | some z=>simpa using (List.getElem?_eq_some_iff.mp q).1
    rw [List.getElem?_map,List.getElem?_range hj] at hd
    have hd:=(Option.some.inj hd).symm
    subst hd
    simp only [Nat.zero_add,Int.reduceNeg,Qgq,List.length_cons,List.length_nil,Nat.reduceAdd,Qcl,gN,List.set_cons_succ,List.set_cons_zero,Qgr,true_and]
    refine Qg1 (m:=m) (t:=4*m+j) (A:=A) (a:=A (4*m+j)) (by omega) rfl rfl (λQ hQ=>?_) (λd Q hQ=>?_) ?_
    ·simp only [Qx,look,Ql];exact hQ
    ·simp only [wTup,Qe,wC,List.set_cons_succ,List.set_cons_zero,wNil,Int.reduceNeg,List.length_cons,List.length_nil,Nat.zero_add,Nat.reduceAdd,Qx,look,Ql]
     refine ⟨by decide,?_⟩
     simpa [spD,M.Qkp] using hQ
    ·exact ⟨some (.int (j:Int)),some (.int (A (4*m+j))),by simp [Nat.add_assoc]⟩
   ·rintro ρ ⟨o4,o5,rfl⟩
    have hl:(Z4 0 ((List.range e).map λj=>D.int (A (4*m+j)))).length=e:=by rw [J7];simp
    rw [hl]
    simp only [Qa2,look,Ql]
    exact k
def Vs (m e:Nat):List Int:=(if e=0 then [] else [-1])++(List.range m).map λ(k:Nat)=>(k:Int)
def Ks (m e:Nat):List Int:=((List.range m).map λ(k:Nat)=>(k:Int))++if e=0 then [] else [-1]
def Ed (m e:Nat) (g:Nat->Nat) (x y:Int):Prop:=∃i,i<4*m+e/\(M.sp m i).1=x/\(M.sp m (g i)).1=y
theorem Qaf (m e:Nat):(Vs m e).Perm (Ks m e):=List.perm_append_comm
theorem Qhk {m e:Nat} {x:Int}:x∈Vs m e↔(x = -1/\e≠0)\/∃k:Nat,k<m/\x=(k:Int):=by
 unfold Vs
 rw [List.mem_append,List.mem_map]
 constructor
 ·rintro (h | ⟨k,h,rfl⟩)
  ·split at h
   ·cases h
   ·exact .inl ⟨List.mem_singleton.mp h,by assumption⟩
  ·exact .inr ⟨k,List.mem_range.mp h,rfl⟩
 ·rintro (⟨rfl,h⟩ | ⟨k,h,rfl⟩)
  ·exact .inl (by rw [if_neg h];exact List.mem_singleton.mpr rfl)
  ·exact .inr ⟨k,List.mem_range.mpr h,rfl⟩
theorem Qe3 {m e i:Nat} (hi:i<4*m+e):(M.sp m i).1∈Vs m e:=by
 rw [Qhk]
 unfold M.sp
 split
 ·exact .inr ⟨i / 4,by omega,rfl⟩
 ·exact .inl ⟨rfl,by omega⟩
theorem Qiy (m e:Nat):(Vs m e).Pairwise (· < ·):=by
 unfold Vs
 refine List.pairwise_append.mpr ⟨by split <;> simp,?_,λa ha b hb=>?_⟩
 ·rw [List.pairwise_map]
  exact List.pairwise_lt_range.imp λh=>by omega
 ·obtain ⟨k,_,rfl⟩:=List.mem_map.mp hb
  split at ha
  ·cases ha
  ·rw [List.mem_singleton.mp ha];omega
theorem Qa3 (m e:Nat):(Vs m e).length<=m+1:=by
 unfold Vs
 rw [List.length_append,List.length_map,List.length_range]
 split <;> simp <;> omega
theorem gr {m e:Nat} {A:Nat->Int} {g:Nat->Nat} (tw:M.Tw (4*m+e) A g):Hang.Gr (Ed m e g) (Vs m e):=by
 refine ⟨Qiy m e,?_,?_⟩
 ·rintro x y ⟨i,hi,rfl,rfl⟩
  exact ⟨g i,tw.lt i hi,rfl,by rw [tw.inv hi]⟩
 ·rintro x y ⟨i,hi,rfl,rfl⟩
  exact Qe3 hi
abbrev liI (l:List Int):D:=.lst (l.map .int)
theorem Qi9 {κ:Type} [DecidableEq κ] {T:List (κ × D)} {k:κ} {v:D} (h:(valD T k).isSome=true):(putD T k v).map (·.1)=T.map (·.1):=by
 unfold putD
 rw [Z0,if_pos h,List.map_map]
 refine List.map_congr_left λp _=>?_
 show (if p.1=k then (p.1,v) else p).1=p.1
 split <;> rfl
theorem G0:∀{T:List (Key × D)},G1 T=true↔∀p∈T,p.2.bare=true
 | []=>by simp [G1]
 | (k,d)::T=>by simp only [G1,Bool.and_eq_true,G0 (T:=T),List.mem_cons,forall_eq_or_imp]
theorem Qb9 (l:List Int):(liI l).bare=true:=by
 simp only [D.bare]
 refine Qca.mpr λx hx=>?_
 obtain ⟨i,_,rfl⟩:=List.mem_map.mp hx
 rfl
theorem Qke {κ:Type} [DecidableEq κ] {T:List (κ × D)} {k:κ} {v:D} (h:∀p∈T,p.2.bare=true) (hv:v.bare=true):∀p∈putD T k v,p.2.bare=true:=λp hp=>by
 unfold putD at hp
 split at hp
 ·obtain ⟨q,hq,rfl⟩:=List.mem_map.mp hp
  split
  ·exact hv
  ·exact h q hq
 ·rcases List.mem_append.mp hp with hp | hp
  ·exact h p hp
  ·rw [List.mem_singleton.mp hp];exact hv
structure NbI (m e:Nat) (g:Nat->Nat) (T:List (Key × D)) (L:List Nat):Prop where
 keys:T.map (·.1)=(Ks m e).map Sum.inl
 val:∀v∈Vs m e,∃l:List Int,valD T (.inl v)=some (liI l)/\l.length<=L.length/\∀x,x∈l↔∃i∈L,(M.sp m i).1=v/\(M.sp m (g i)).1=x
 bare:∀p∈T,p.2.bare=true
theorem NbI.put {m e:Nat} {g:Nat->Nat} {T:List (Key × D)} {L:List Nat} (h:NbI m e g T L) {i:Nat} (hi:i<4*m+e) {l:List Int} (hl:valD T (.inl (M.sp m i).1)=some (liI l)) :
  NbI m e g (putD T (.inl (M.sp m i).1) (.lst (l.map D.int++[.int (M.sp m (g i)).1]))) (L++[i]):=by
 have e0:D.lst (l.map D.int++[.int (M.sp m (g i)).1])=liI (l++[(M.sp m (g i)).1]):=by simp [liI]
 rw [e0]
 obtain ⟨l',h1,h2,h3⟩:=h.val _ (Qe3 hi)
 have:l=l':=by
  rw [hl] at h1
  have:=Option.some.inj h1
  injection this with this
  have inj:∀{a b:List Int},a.map D.int=b.map D.int->a=b:=by
   intro a
   induction a with
   | nil=>intro b z;cases b with | nil=>rfl | cons _ _=>cases z
   | cons x a ih=>intro b z;cases b with | nil=>cases z | cons y b=>simp only [List.map_cons,List.cons.injEq,D.int.injEq] at z;rw [z.1,ih z.2]
  exact inj this
 subst this
 refine ⟨by rw [Qi9 (by rw [hl];rfl)];exact h.keys,λv hv=>?_,Qke h.bare (Qb9 _)⟩
 rw [Qdo]
 by_cases z:v=(M.sp m i).1
 ·subst z
  rw [if_pos rfl]
  refine ⟨_,rfl,by simp;omega,λx=>?_⟩
  rw [List.mem_append,h3 x,List.mem_singleton]
  constructor
  ·rintro (⟨j,a,b⟩ | rfl)
   ·exact ⟨j,List.mem_append.mpr (.inl a),b⟩
   ·exact ⟨i,List.mem_append.mpr (.inr (List.mem_singleton.mpr rfl)),rfl,rfl⟩
  ·rintro ⟨j,a,b,c⟩
   rcases List.mem_append.mp a with a | a
   ·exact .inl ⟨j,a,b,c⟩
   ·rw [List.mem_singleton.mp a] at c;exact .inr c.symm
 ·rw [if_neg λq=>z (by injection q)]
  obtain ⟨l2,a1,a2,a3⟩:=h.val v hv
  refine ⟨l2,a1,by simp;omega,λx=>?_⟩
  rw [a3 x]
  constructor
  ·rintro ⟨j,a,b⟩;exact ⟨j,List.mem_append.mpr (.inl a),b⟩
  ·rintro ⟨j,a,b,c⟩
   rcases List.mem_append.mp a with a | a
   ·exact ⟨j,a,b,c⟩
   ·rw [List.mem_singleton.mp a] at b;exact absurd b.symm z
structure NbOk (m e:Nat) (g:Nat->Nat) (T:List (Key × D)):Prop where
 keys:T.map (·.1)=(Ks m e).map Sum.inl
 val:∀v∈Vs m e,∃l:List Int,valD T (.inl v)=some (liI l)/\l.length<=400/\∀x,x∈l↔Ed m e g v x
 bare:G1 T=true
def ini (L:List Int):List (Key × D):=L.map λv=>((.inl v:Key),D.lst [])
theorem Qc4 {v:Int}:∀{L:List Int},valD (ini L) (.inl v)=if v∈L then some (D.lst []) else none
 | []=>rfl
 | u::L=>by
  show valD (((.inl u:Key),D.lst [])::ini L) (.inl v)=_
  rw [Jc]
  by_cases h:u=v
  ·rw [if_pos (by rw [h]),if_pos (by rw [h];exact List.mem_cons_self)]
  ·rw [if_neg λz=>h (by injection z),Qc4]
   have:v∈u::L↔v∈L:=by rw [List.mem_cons];exact ⟨λq=>q.resolve_left λz=>h z.symm,.inr⟩
   simp only [this]
theorem Qhu {v:Int} {L:List Int} (h:v∉L):putD (ini L) (.inl v) (.lst [])=ini (L++[v]):=by
 rw [Qd3 _ (by rw [Qc4,if_neg h])]
 simp [ini]
theorem Qah {L:List Int}:(ini L).map (·.1)=L.map Sum.inl:=by unfold ini;rw [List.map_map];rfl
theorem V1 {L:List Int} (h:L.Nodup):(L.map (Sum.inl:Int->Key)).Nodup:=List.pairwise_map.mpr (h.imp λh z=>h (by injection z))
theorem Qeh (m e:Nat):(Ks m e).Nodup:=(Qaf m e).nodup_iff.mp (Hang.Y8 (Qiy m e))
theorem Qqo {m e:Nat} {g:Nat->Nat}:NbI m e g (ini (Ks m e)) []:=by
 refine ⟨Qah,λv hv=>⟨[],?_,Nat.le_refl _,λx=>by simp⟩,λp hp=>?_⟩
 ·rw [Qc4,if_pos ((Qaf m e).mem_iff.mp hv)];rfl
 ·obtain ⟨v,_,rfl⟩:=List.mem_map.mp hp
  rfl
def J6:GA:=λds k=>∃(m e:Nat) (A:Nat->Int) (r:Int) (g:Nat->Nat),ds=[webD m e A r]/\m<=40/\e<=12/\M.Tw (4*m+e) A g/\∀T:List (Key × D),NbOk m e g T->k (.dik T)
abbrev Q1:Stmt:=top 5
theorem Ya:FnScope ["web","told","k","pair"] ["web"] (Qd Q1):=⟨rfl,rfl,rfl,by decide +kernel,rfl,by decide +kernel,by decide +kernel⟩
def Up:Tg:={ own:=λi=>i == 1 || i == 2,io:=[] }
def Um:WS:=(wSeq (wSet 1 (wC (.dik [])))
 (wSeq (wFor (G8 (Qe (Qn dLen (Qe (wBin dIx (wVar 0) (wC (.int 0))) wNil)) wNil)) (gN 2) (Qf3 1 (wLst wNil) (wVar 2)))
 (wSeq (wIf (wTru (wBin dIx (wVar 0) (wC (.int 1)))) (Qf3 1 (wLst wNil) (wC (.int (-1)))) Jp)
 (wSeq (Qix (Qlp (Qn Zv (Qe (wVar 0) wNil))) 3 (wSeq (wDka 1 (wBin dIx (wBin dIx (wVar 3) (wC (.int 0))) (wC (.int 0))) (wBin dIx (wBin dIx (wVar 3) (wC (.int 1))) (wC (.int 0))))
 (wDka 1 (wBin dIx (wBin dIx (wVar 3) (wC (.int 1))) (wC (.int 0))) (wBin dIx (wBin dIx (wVar 3) (wC (.int 0))) (wC (.int 0))))))
 (Qa2 1)))))
theorem Qcc {P:Program} {w:World} {K:PySem.W.Frag} {mg:Str->Option Value} {base:Heap} {f:Addr} (B:Bn mg) (C_places:Cal P w K mg base "places" 1 ["web"] (spR K Zv)):∀(cdv:Value) (A:Around) (outer:List PySem.Env) (s:Shared) (H:Hp) (E:XK),Room 1 (A.deeper (envOfC "neighbours" (Qd Q1) s.heap.objs.size f cdv))->SVs (cxOf CX0 P w K mg base ["web","told","k","pair"] "neighbours" (Qd Q1) f cdv A outer s H E).nox Up (Qr Q1) Um:=λcdv A outer s H E hr =>
  (Qf (Q9 (i:=1) Qaj Ya.nd)
  (Qf (Z5 PassesOwn.never (Y3 B.nb_range (Qc (Q3 Uv B.nb_len Uw (Qc (Jw (Ju (Q5 hr)) (Qa 0) Qh) Qj)) Qj)) (J0 (i:=2) Ya.nd) (Qo (Qgk (i:=1) (Q5 hr) (Yl Qj) (Qa 2))))
  (Qf (Ub (Ge (Jw (Ju (Q5 hr)) (Qa 0) Qh)) (Qo (Qgk (i:=1) (Q5 hr) (Yl Qj) (Qh3 B.c_RIM.choose_spec))) Jz)
  (Qf (Qgl (i₀:=3) PassesOwn.never (Qnm (V4 C_places (hr.mono (by decide)) (Qc (Qa 0) Qj))) (Qf (Qko (i:=1) (Q5 hr) (Jw (Ju (Q5 hr)) (Jw (Ju (Q5 hr)) (Qa 3) Qh) Qh) (Jw (Ju (Q5 hr)) (Jw (Ju (Q5 hr)) (Qa 3) Qh) Qh))
  (Qo (Qko (i:=1) (Q5 hr) (Jw (Ju (Q5 hr)) (Jw (Ju (Q5 hr)) (Qa 3) Qh) Qh) (Jw (Ju (Q5 hr)) (Jw (Ju (Q5 hr)) (Qa 3) Qh) Qh)))) Ya.nd)
  (Qo (Qch (i:=1)))))))
abbrev Qpq:WS:=wSeq (wDka 1 (wBin dIx (wBin dIx (wVar 3) (wC (.int 0))) (wC (.int 0))) (wBin dIx (wBin dIx (wVar 3) (wC (.int 1))) (wC (.int 0)))) (wDka 1 (wBin dIx (wBin dIx (wVar 3) (wC (.int 1))) (wC (.int 0))) (wBin dIx (wBin dIx (wVar 3) (wC (.int 0))) (wC (.int 0))))
theorem Qhi {m e:Nat} {A:Nat->Int} {r:Int} {g:Nat->Nat} {o2:Option D} {P:EndsP} (hm:m<=40) (he:e<=12) (tw:M.Tw (4*m+e) A g) (hP:∀T o3,NbOk m e g T->P.nx [some (webD m e A r),some (.dik T),o2,o3]) :
  Zv [webD m e A r] λd=>Qgb d λds=>forR ds 3 Qpq P [some (webD m e A r),some (.dik (ini (Ks m e))),o2,none]:=by
 obtain ⟨p1,p2⟩:=M.Qms tw
 refine ⟨m,e,A,r,rfl,by omega,by omega,?_⟩
 simp only [Ql7]
 have hlen:=Qcs A (4*m+e)
 refine ⟨λt ρ=>∃(T:List (Key × D)) (L:List Nat) (o3:Option D),ρ=[some (webD m e A r),some (.dik T),o2,o3]/\NbI m e g T L/\L.length=2*t/\(∀i∈L,i<4*m+e)/\∀q∈(M.plc A (4*m+e)).take t,∀i∈q.2,i∈L,⟨_,[],none,rfl,Qqo,rfl,(λ_ h=>nomatch h),λq hq=>by simp at hq⟩,?_,?_⟩
 ·rintro t d ρ hd ⟨T,L,o3,rfl,hI,hL,hLt,hT⟩
  unfold encP at hd
  rw [List.map_map,List.getElem?_map] at hd
  cases hq:(M.plc A (4*m+e))[t]? with
  | none=>rw [hq] at hd;cases hd
  | some q =>
   rw [hq] at hd
   have hd:=(Option.some.inj hd).symm
   subst hd
   obtain ⟨i,hi,hqi⟩:=p1 q (List.mem_of_getElem? hq)
   have htl:=(List.getElem?_eq_some_iff.mp hq).1
   have hg:=tw.lt i hi
   obtain ⟨l1,v1,b1,_⟩:=hI.val _ (Qe3 hi)
   have I1:=hI.put hi v1
   obtain ⟨l2,v2,b2,_⟩:=I1.val _ (Qe3 hg)
   have I2:=I1.put hg v2
   rw [tw.inv hi] at I2
   have b2:l2.length<=1000:=by rw [List.length_append] at b2;simp at b2;omega
   simp only [Function.comp,hqi,List.map_cons,spD,List.map_nil,List.set_cons_succ,List.set_cons_zero,wSeq,wDka,look,wBin,wC,Qx,Ql,Qcj,G3,List.getElem?_cons_zero,Ud,D.pure,true_and,Qav,List.getElem?_cons_succ,X4,Qgv,v1,liI,Qky]
   refine ⟨by rw [hI.keys];exact V1 (Qeh m e),by rw [List.length_map];exact big (by omega),?_⟩
   simp only [v2,liI,Ql,Qky]
   refine ⟨by rw [I1.keys];exact V1 (Qeh m e),by rw [List.length_map];exact big b2,_,L++[i]++[g i],_,rfl,I2,by simp;omega,λj hj=>?_,λq' hq' j hj=>?_⟩
   ·simp only [List.mem_append,List.mem_singleton] at hj
    rcases hj with (hj | rfl) | rfl
    ·exact hLt j hj
    ·exact hi
    ·exact hg
   ·simp only [List.mem_append,List.mem_singleton]
    rw [List.take_add_one,hq] at hq'
    rcases List.mem_append.mp hq' with h | h
    ·exact .inl (.inl (hT q' h j hj))
    ·have:q'=q:=by simpa using h
     subst this
     rw [hqi] at hj
     rcases List.mem_cons.mp hj with z | hj
     ·exact .inl (.inr z)
     ·exact .inr (List.mem_singleton.mp hj)
 ·rintro ρ ⟨T,L,o3,rfl,hI,hL,hLt,hT⟩
  have hln:(encP (spD m) (M.plc A (4*m+e))).length=(M.plc A (4*m+e)).length:=by unfold encP;simp
  rw [List.length_map,hln] at hL hT
  refine hP T o3 ⟨hI.keys,λv hv=>?_,G0.mpr hI.bare⟩
  obtain ⟨l,h1,h2,h3⟩:=hI.val v hv
  refine ⟨l,h1,by omega,λx=>?_⟩
  rw [h3 x]
  constructor
  ·rintro ⟨i,hi,a⟩;exact ⟨i,hLt i hi,a⟩
  ·rintro ⟨i,hi,a⟩
   obtain ⟨q,hq,hiq⟩:=p2 i hi
   exact ⟨i,hT q (by rw [List.take_of_length_le (Nat.le_refl _)];exact hq) i hiq,a⟩
theorem X9 {P:Program} {w:World} {K:PySem.W.Frag} {mg:Str->Option Value} {base:Heap} {f:Addr} {fd:FuncData} (F:Fun K "neighbours" "neighbours" Q1 f fd) (B:Bn mg) (C1:Cal P w K mg base "places" 1 ["web"] (spR K Zv)):FnOk P w K mg base CX0 2 f fd ["web"] (spR K J6):=by
 refine Qfl (T:=Up) F Ya rfl (by decide) (λds kk h=>?_) (Qcc B C1) (λds kk h=>?_)
 ·obtain ⟨m,e,A,r,g,rfl,_⟩:=h
  rfl
 ·obtain ⟨m,e,A,r,g,rfl,hm,he,tw,k⟩:=h
  simp only [Um,wSeq,wSet,wC,Int.reduceNeg,env0,webD,List.map_cons,List.map_nil,List.length_cons,List.length_nil,Nat.zero_add,Nat.reduceAdd,List.replicate,List.cons_append,List.nil_append,List.set_cons_succ,List.set_cons_zero,Ue,Ur,Qe,Qn,wBin,wNil,Qx,look,Ql,Ud,G3,List.getElem?_cons_zero,Qbf,Y7,Int.reducePow,Int.toNat_natCast]
  refine ⟨by simp <;> omega,by simp <;> omega,Vp,λt ρ=>∃o2:Option D,ρ=[some (webD m e A r),some (.dik (ini ((List.range t).map λ(k:Nat)=>(k:Int)))),o2,none]/\t<=m,⟨none,rfl,Nat.zero_le _⟩,?_,?_⟩
  ·rintro t d ρ hd ⟨o2,rfl,ht⟩
   obtain ⟨ht,rfl⟩:=U4 hd
   simp only [List.length_map,List.length_range] at ht
   simp only [gN,Qf3,wLst,wNil,List.length_nil,sz0,List.set_cons_succ,List.set_cons_zero,look,Option.isSome_some,Ql,Qgv,Qx,X4,true_and]
   have hnot:((0:Int)+(t:Int))∉(List.range t).map λ(k:Nat)=>(k:Int):=λz=>by
    obtain ⟨j,hj,hz⟩:=List.mem_map.mp z
    have:=List.mem_range.mp hj
    omega
   refine ⟨by unfold ini;simp;exact big (by omega),?_,some (.int (0+(t:Int))),?_,ht⟩
   ·rw [Qah]
    exact V1 (List.pairwise_map.mpr (List.nodup_range.imp λh z=>h (by omega)))
   ·rw [Qhu hnot]
    simp [List.range_succ]
  ·rintro ρ ⟨o2,rfl,ht⟩
   have hl:(rngD 0 ((List.range m).map λk=>D.tup ((List.range 4).map λj=>.int (A (4*k+j)))).length).length=m:=by rw [Jr];simp
   rw [hl] at ht ⊢
   simp only [wSeq,wIf,webD,Qf3,wLst,wNil,List.length_nil,sz0,wC,Int.reduceNeg,X4,Qkw,Qon,Qn,Qe,Qx,Ql,true_and,Jp,X3,wBin,look,Option.isSome_some,List.set_cons_succ,List.set_cons_zero,Qgv,Ud,Qav,List.getElem?_cons_succ,List.getElem?_cons_zero,Qoo]
   split
   ·rename_i hne
    have he0:¬e=0:=λz=>by subst z;simp at hne
    have hnot:(-1:Int)∉(List.range m).map λ(k:Nat)=>(k:Int):=λz=>by
     obtain ⟨j,hj,hz⟩:=List.mem_map.mp z
     omega
    refine ⟨by unfold ini;simp;exact big (by omega),?_,?_⟩
    ·rw [Qah]
     exact V1 (List.pairwise_map.mpr (List.nodup_range.imp λh z=>h (by omega)))
    rw [Qhu hnot,show ((List.range m).map λ(k:Nat)=>(k:Int))++[-1]=Ks m e by unfold Ks;rw [if_neg he0]]
    exact Qhi (o2:=o2) hm he tw λT o3 hT=>by simp only [Qa2,look,Ql];exact k T hT
   ·rename_i hne
    have he0:e=0:=by
     cases e with
     | zero=>rfl
     | succ e=>simp [List.range_succ] at hne
    rw [show ((List.range m).map λ(k:Nat)=>(k:Int))=Ks m e by unfold Ks;rw [if_pos he0,List.append_nil]]
    exact Qhi (o2:=o2) hm he tw λT o3 hT=>by simp only [Qa2,look,Ql];exact k T hT
end K13
namespace K13
open PySem PySem.Spec L2 PV
open PyProof.Rows (envOfC)
theorem Xy:∀{a b:List Int},a.Nodup->(∀x∈a,x∈b)->a.length<=b.length
 | [],_,_,_=>Nat.zero_le _
 | x::a,b,nd,h=>by
  obtain ⟨n1,n2⟩:=List.nodup_cons.mp nd
  have hx:x∈b:=h x List.mem_cons_self
  have:=Xy (b:=b.erase x) n2 λy hy=>(List.mem_erase_of_ne (λz:y=x=>n1 (by rw [← z];exact hy))).mpr (h y (List.mem_cons_of_mem _ hy))
  rw [List.length_erase_of_mem hx] at this
  have:=List.length_pos_of_mem hx
  simp only [List.length_cons]
  omega
abbrev mk (S:List Int):List (Key × D):=S.map λx=>((.inl x:Key),D.bl true)
theorem Qhj {x:Int}:∀{S:List Int},valD (mk S) (.inl x)=if x∈S then some (.bl true) else none
 | []=>rfl
 | u::L=>by
  show valD (((.inl u:Key),D.bl true)::mk L) (.inl x)=_
  rw [Jc]
  by_cases h:u=x
  ·rw [if_pos (by rw [h]),if_pos (by rw [h];exact List.mem_cons_self)]
  ·rw [if_neg λz=>h (by injection z),Qhj]
   have:x∈u::L↔x∈L:=by rw [List.mem_cons];exact ⟨λq=>q.resolve_left λz=>h z.symm,.inr⟩
   simp only [this]
theorem Qpu {x:Int} {S:List Int} (h:x∉S):putD (mk S) (.inl x) (.bl true)=mk (S++[x]):=by
 rw [Qd3 _ (by rw [Qhj,if_neg h])]
 simp [mk]
theorem Qnd {S:List Int}:(mk S).map (·.1)=S.map Sum.inl:=by unfold mk;rw [List.map_map];rfl
structure Fnd (m e:Nat) (g:Nat->Nat) (v:Int) (S W:List Int) (out:Int->Prop):Prop where
 nd:S.Nodup
 ndW:W.Nodup
 sub:∀x∈W,x∈S
 con:∀x∈S,Hang.Con (Ed m e g) v x
 fst:v∈S
 inn:∀x∈S,x∈Vs m e
 cl:∀u∈S,u∉W->¬out u->∀x,Ed m e g u x->x∈S
theorem Fnd.len {m e:Nat} {g:Nat->Nat} {v:Int} {S W:List Int} {out:Int->Prop} (h:Fnd m e g v S W out):S.length<=m+1/\W.length<=m+1/\S.length<=(Vs m e).length:=by
 have h1:=Xy h.nd h.inn
 have h2:=Xy h.ndW h.sub
 have h3:=Qa3 m e
 omega
theorem Fnd.add {m e:Nat} {g:Nat->Nat} {v x:Int} {S W:List Int} {out:Int->Prop} (h:Fnd m e g v S W out) (hx:x∉S) (hc:Hang.Con (Ed m e g) v x) (hv:x∈Vs m e):Fnd m e g v (S++[x]) (W++[x]) out:=by
 have ap:∀{L:List Int},L.Nodup->x∉L->(L++[x]).Nodup:=λ{L} h1 h2=>List.nodup_append.mpr ⟨h1,List.pairwise_singleton _ _,λa ha b hb z=>h2 (by rw [← List.mem_singleton.mp hb,← z];exact ha)⟩
 refine ⟨ap h.nd hx,ap h.ndW λz=>hx (h.sub x z),λy hy=>?_,λy hy=>?_,List.mem_append.mpr (.inl h.fst),λy hy=>?_,λu hu hW ho y hy=>?_⟩
 ·rcases List.mem_append.mp hy with q | q
  ·exact List.mem_append.mpr (.inl (h.sub y q))
  ·exact List.mem_append.mpr (.inr q)
 ·rcases List.mem_append.mp hy with q | q
  ·exact h.con y q
  ·rw [List.mem_singleton.mp q];exact hc
 ·rcases List.mem_append.mp hy with q | q
  ·exact h.inn y q
  ·rw [List.mem_singleton.mp q];exact hv
 ·rcases List.mem_append.mp hu with q | q
  ·exact List.mem_append.mpr (.inl (h.cl u q (λz=>hW (List.mem_append.mpr (.inl z))) ho y hy))
  ·exact absurd (List.mem_append.mpr (.inr q)) hW
def Yu:GA:=λds k=>∃(m e:Nat) (v:Int) (A:Nat->Int) (g:Nat->Nat) (T:List (Key × D)),ds=[.dik T,.int v]/\v∈Vs m e/\m<=40/\e<=12/\M.Tw (4*m+e) A g/\NbOk m e g T/\k (liI (Hang.pc (Ed m e g) (Vs m e) v))
abbrev Q0:Stmt:=top 6
theorem Jy:FnScope ["beside","first","found","waiting","number","reached"] ["beside","first"] (Qd Q0):=⟨rfl,rfl,rfl,by decide +kernel,rfl,by decide +kernel,by decide +kernel⟩
def Uo:Tg:={ own:=λi=>i == 2 || i == 3 || i == 4 || i == 5,io:=[] }
def Ul:WS:=(wSeq (wSet 2 (Qf7 (wVar 1) (wC (.bl true))))
 (wSeq (wSet 3 (wLst (Qe (Jv (wVar 1)) wNil)))
 (wSeq (Qkk (wTru (wVar 3)) (wSeq (wSet 4 (wMt 3 "list" gPop wNil))
 (wFor (Qf4 0 4) (gN 5) (wIf (wBl (wBin (dIn true) (wVar 5) (wVar 2))) (wSeq (Vi 2 (wC (.bl true)) (wVar 5))
 (Yn (wMt 3 "list" Zb (Qe (Jv (wVar 5)) wNil)))) Jp))))
 (wRet (Qn Qap (Qe (wVar 2) wNil))))))
theorem Qcb {P:Program} {w:World} {K:PySem.W.Frag} {mg:Str->Option Value} {base:Heap} {f:Addr} (B:Bn mg):∀(cdv:Value) (A:Around) (outer:List PySem.Env) (s:Shared) (H:Hp) (E:XK),Room 0 (A.deeper (envOfC "piece_from" (Qd Q0) s.heap.objs.size f cdv))->SVs (cxOf CX0 P w K mg base ["beside","first","found","waiting","number","reached"] "piece_from" (Qd Q0) f cdv A outer s H E).nox Uo (Qr Q0) Ul:=λcdv A outer s H E hr =>
  (Qf (Q9 (i:=2) (Qjz (Qa 1) Qbx) Jy.nd)
  (Qf (Q9 (i:=3) (Yl (Qc (J1 (Qa 1)) Qj)) Jy.nd)
  (Qf (Qi1 PassesOwn.never (Ge (Qa 3)) (Qf (Q9 (i:=4) (Qqs (i:=3) Qpx PySem.F.plainAttrs_list PySem.F.slot_list_pop PySem.F.type_list_pop) Jy.nd)
  (Qo (Z5 PassesOwn.never (Qjt (i:=0) (j:=4) (Q5 hr)) (J0 (i:=5) Jy.nd) (Qo (Ub (Jx (Qk1 (Q5 hr)) (Qa 5) (Qa 2)) (Qf (Vn (i:=2) (Q5 hr) Qbx (Qa 5))
  (Qo (Uc (Qbv (i:=3) Vv PySem.F.plainAttrs_list PySem.F.slot_list_append PySem.F.type_list_append (Qc (J1 (Qa 5)) Qj))))) Jz))))))
  (Qo (Ze (Q3 (Qb2 rfl) B.nb_sorted V6 (Qc (Qa 2) Qj)))))))
theorem X8 {P:Program} {w:World} {K:PySem.W.Frag} {mg:Str->Option Value} {base:Heap} {f:Addr} {fd:FuncData} (F:Fun K "piece_from" "piece_from" Q0 f fd) (B:Bn mg):FnOk P w K mg base CX0 1 f fd ["beside","first"] (spR K Yu):=by
 refine Qfl (T:=Uo) F Jy rfl (by decide) (λds kk h=>?_) (Qcb B) (λds kk h=>?_)
 ·obtain ⟨m,e,v,A,g,T,rfl,_⟩:=h
  rfl
 ·obtain ⟨m,e,v,A,g,T,rfl,hv,hm,he,tw,hT,k⟩:=h
  have G:=gr tw
  simp only [Ul,wSeq,wSet,Qf7,env0,List.map_cons,List.map_nil,List.length_cons,List.length_nil,Nat.zero_add,Nat.reduceAdd,List.replicate,List.cons_append,List.nil_append,wC,D.pure,wLst,Qe,Jv,wNil,sz1,true_and,Qx,look,List.set_cons_succ,List.set_cons_zero,Ql,X4]
  refine ⟨λn ρ=>∃(S W:List Int) (o4 o5:Option D),ρ=[some (.dik T),some (.int v),some (.dik (mk S)),some (liI W),o4,o5]/\Fnd m e g v S W (λ_=>False)/\n=2*((Vs m e).length-S.length)+W.length,
   ⟨_,[v],[v],none,none,rfl,⟨by simp,by simp,λx h=>h,λx h=>by rw [List.mem_singleton.mp h];exact .refl _,List.mem_singleton.mpr rfl,λx h=>by rw [List.mem_singleton.mp h];exact hv,λu h1 h2=>absurd h1 h2⟩,rfl⟩,?_⟩
  rintro n ρ ⟨S,W,o4,o5,rfl,hF,rfl⟩
  simp only [liI,wSeq,wSet,wMt,wNil,Ue,Qf4,wRet,Qn,Qe,Qx,X3,look,U1,BEq.rfl,List.set_cons_succ,List.set_cons_zero,Ql,Qri,true_and,Qbh,Qop]
  rcases List.eq_nil_or_concat W with rfl | ⟨W',u,rfl⟩
  ·-- nothing is left
   simp only [List.map_nil,List.isEmpty_nil,Bool.not_true,Bool.false_eq_true,List.length_nil,reduceIte]
   refine ⟨S,Qnd,by have:=hF.len;simp only [List.length_map];omega,λout hp hs=>?_⟩
   have:out=Hang.pc (Ed m e g) (Vs m e) v:=G.pc_eq hv hs (hp.nodup_iff.mpr hF.nd) λy=>by
    rw [hp.mem_iff]
    exact ⟨λh=>hF.con y h,λh=>h.closed (S:=λz=>z∈S) hF.fst λa b ha hab=>hF.cl a ha List.not_mem_nil (λz=>z) b hab⟩
   rw [this];exact k
  ·have hne:(!((W'.concat u).map D.int).isEmpty)=true:=by simp
   have hla:((W'.concat u).map D.int)[((W'.concat u).map D.int).length-1]? = some (.int u):=by simp
   have hdl:((W'.concat u).map D.int).dropLast=W'.map D.int:=by simp
   rw [List.concat_eq_append] at hF
   have huS:u∈S:=hF.sub u (by simp)
   obtain ⟨l,hval,hll,hadj⟩:=hT.val u (hF.inn u huS)
   have ndW:=hF.ndW
   rw [List.nodup_append] at ndW
   simp only [hne,hla,hdl,Ql,D.pure,Qoz,hval,liI,lsOf,true_and,reduceIte]
   have F0:Fnd m e g v S W' (λz=>z=u):=⟨hF.nd,ndW.1,λx hx=>hF.sub x (by simp [hx]),hF.con,hF.fst,hF.inn,λa ha hW ho x hx=>hF.cl a ha (by simp;exact ⟨hW,ho⟩) (λz=>z) x hx⟩
   have l0:=hF.len
   refine ⟨Jj,λt ρ=>∃(S' W2:List Int) (o5:Option D),ρ=[some (.dik T),some (.int v),some (.dik (mk S')),some (liI W2),some (.int u),o5]/\Fnd m e g v S' W2 (λz=>z=u)/\(∀y∈l.take t,y∈S')/\2*((Vs m e).length-S'.length)+W2.length<=2*((Vs m e).length-S.length)+W'.length,⟨S,W',o5,rfl,F0,(λy hy=>by simp at hy),Nat.le_refl _⟩,?_,?_⟩
   ·rintro t d ρ hd ⟨S',W2,o5,rfl,hF',hseen,hmea⟩
    rw [List.getElem?_map] at hd
    cases hx:l[t]? with
    | none=>rw [hx] at hd;cases hd
    | some x =>
     rw [hx] at hd
     have hd:=(Option.some.inj hd).symm
     subst hd
     have hux:Ed m e g u x:=(hadj x).mp (List.mem_of_getElem? hx)
     have hcx:Hang.Con (Ed m e g) v x:=.step (hF.con u huS) hux
     have hxV:x∈Vs m e:=G.con_mem hcx hv
     have l1:=hF'.len
     have htk:l.take (t+1)=l.take t++[x]:=by rw [List.take_add_one,hx];rfl
     simp only [gN,wIf,List.set_cons_succ,List.set_cons_zero,wSeq,Vi,wC,D.pure,Yn,wMt,Qe,Jv,wNil,Qx,true_and,Jp,r_bl,wBin,look,Option.isSome_some,U1,BEq.rfl,Ql,G9,Ql8,Qkv,Qhj,Yi]
     by_cases hxS:x∈S'
     ·simp only [hxS,reduceIte,Option.isSome_some,Bool.xor_true,Bool.not_true,Bool.false_eq_true]
      refine ⟨S',W2,_,rfl,hF',λy hy=>?_,hmea⟩
      rw [htk] at hy
      rcases List.mem_append.mp hy with q | q
      ·exact hseen y q
      ·rw [List.mem_singleton.mp q];exact hxS
     ·have F1:=hF'.add hxS hcx hxV
      have l2:=F1.len
      simp only [List.length_append,List.length_cons,List.length_nil] at l2
      simp only [hxS,reduceIte,Option.isSome_none,Bool.xor_false,Qpu hxS,liI]
      refine ⟨by simp only [List.length_map];exact big (by omega),by simp only [List.length_map];exact big (by omega),S'++[x],W2++[x],some (.int x),by simp [liI],F1,λy hy=>?_,?_⟩
      ·rw [htk] at hy
       rcases List.mem_append.mp hy with q | q
       ·exact List.mem_append.mpr (.inl (hseen y q))
       ·exact List.mem_append.mpr (.inr q)
      ·simp only [List.length_append,List.length_cons,List.length_nil]
       omega
   ·rintro ρ ⟨S',W2,o5,rfl,hF',hseen,hmea⟩
    rw [List.length_map,List.take_of_length_le (Nat.le_refl _)] at hseen
    refine ⟨_,?_,S',W2,_,o5,rfl,⟨hF'.nd,hF'.ndW,hF'.sub,hF'.con,hF'.fst,hF'.inn,λa ha hW _ x hx=>?_⟩,rfl⟩
    ·simp only [List.concat_eq_append,List.length_append,List.length_cons,List.length_nil]
     omega
    ·by_cases hz:a=u
     ·subst hz
      exact hseen x ((hadj x).mpr hx)
     ·exact hF'.cl a ha hW hz x hx
def Zj:GA:=λds k=>∃(m e:Nat) (v:Int) (A:Nat->Int) (g:Nat->Nat) (T:List (Key × D)),ds=[.int v,.dik T]/\v∈Vs m e/\m<=40/\e<=12/\M.Tw (4*m+e) A g/\NbOk m e g T/\k (liI (Hang.pc (Ed m e g) (Vs m e) v))
theorem Qfj {P:Program} {w:World} {K:PySem.W.Frag} {mg:Str->Option Value} {base:Heap} (B:Bn mg) (C_piece_from:Cal P w K mg base "piece_from" 1 ["beside","first"] (spR K Yu)):Qce P w K mg base 2 Jb (spR K Zj):=by
 refine Qr6 (p:="number") (m:=false) (wb:=Qn Yu (Qe (wVar 1) (Qe (wVar 0) wNil))) ⟨rfl,rfl,rfl,by decide +kernel,rfl,by decide +kernel,by decide +kernel,by decide +kernel⟩ (λcl pm cdv ct u=>rfl) (λds kk h=>?_) (λA outer s H f cd cl hr=>?_) (λds kk h=>?_)
 ·obtain ⟨m,e,v,A,g,T,rfl,_,_,_,_,hT,_⟩:=h
  exact ⟨by simp only [U2,D.bare,hT.bare,Bool.and_self],rfl⟩
 ·exact (V4 C_piece_from (hr.mono (by decide)) (Qc (Qa 1) (Qc (Qa 0) Qj)))
 ·obtain ⟨m,e,v,A,g,T,rfl,hv,hm,he,tw,hT,k⟩:=h
  simp only [Qn,Qe,List.map_cons,List.map_nil,wNil,Qx,look,Ql]
  exact ⟨m,e,v,A,g,T,rfl,hv,hm,he,tw,hT,k⟩
theorem Qhm:∀(l:List Int) (S:List (Key × D)),(S.all λkv=>kv.2.pure)=true->∃S',Z3 (.dik S) (l.map .int)=some (.dik S')/\S'.length<=S.length+l.length/\(S'.all λkv=>kv.2.pure)=true/\∀x:Int,(valD S' (.inl x)).isSome=true↔(valD S (.inl x)).isSome=true\/x∈l
 | [],S,h=>⟨S,rfl,Nat.le_refl _,h,λj=>by simp⟩
 | i::l,S,h=>by
  obtain ⟨S',h1,h2,h3,h4⟩:=Qhm l (putD S (.inl i) (.bl true)) (Qcp h rfl)
  refine ⟨S',h1,?_,h3,λx=>?_⟩
  ·have:=Vf S (.inl i) (.bl true)
   simp only [List.length_cons]
   omega
  ·rw [h4 x,Qdo,List.mem_cons]
   by_cases hx:x=i
   ·subst hx
    rw [if_pos rfl];simp
   ·rw [if_neg λz=>hx (by injection z)]
    constructor
    ·rintro (q | q)
     ·exact .inl q
     ·exact .inr (.inr q)
    ·rintro (q | q | q)
     ·exact .inl q
     ·exact absurd q hx
     ·exact .inr q
def V3:GA:=λds k=>∃(m e:Nat) (A:Nat->Int) (g:Nat->Nat) (T:List (Key × D)),ds=[.dik T,.clo Jb [.dik T]]/\m<=40/\e<=12/\M.Tw (4*m+e) A g/\NbOk m e g T/\k (.lst ((Hang.pcs (Ed m e g) (Vs m e) (Vs m e)).map liI))
abbrev Yd:Stmt:=top 4
theorem Y0:FnScope ["members","group_from","seen","groups","member","group","reached"] ["members","group_from"] (Qd Yd):=⟨rfl,rfl,rfl,by decide +kernel,rfl,by decide +kernel,by decide +kernel⟩
def Qdv:Tg:={ own:=λi=>i == 2 || i == 3 || i == 4 || i == 5 || i == 6,io:=[] }
def Qdm:WS:=(wSeq (wSet 2 (wC (.dik [])))
 (wSeq (wSet 3 (wLst wNil))
 (wSeq (wFor (Vj (Qn Qap (Qe (wVar 0) wNil))) (gN 4) (wIf (wBl (wBin (dIn true) (wVar 4) (wVar 2))) (wSeq (wSet 5 (Qf9 1 Jb Zj (Jv (wVar 4))))
 (wSeq (Qlq 2 5 6)
 (Qga 3 5))) Jp))
 (Qa2 3))))
theorem Qki {P:Program} {w:World} {K:PySem.W.Frag} {mg:Str->Option Value} {base:Heap} {f:Addr} (B:Bn mg) (Lm_pieces:Qce P w K mg base 2 Jb (spR K Zj)):∀(cdv:Value) (A:Around) (outer:List PySem.Env) (s:Shared) (H:Hp) (E:XK),Room 2 (A.deeper (envOfC "parted" (Qd Yd) s.heap.objs.size f cdv))->SVs (cxOf CX0 P w K mg base ["members","group_from","seen","groups","member","group","reached"] "parted" (Qd Yd) f cdv A outer s H E).nox Qdv (Qr Yd) Qdm:=λcdv A outer s H E hr =>
  (Qf (Q9 (i:=2) Qaj Y0.nd)
  (Qf (Q9 (i:=3) (Yl Qj) Y0.nd)
  (Qf (Z5 PassesOwn.never (Gq (Q3 (Qb2 rfl) B.nb_sorted V6 (Qc (Qa 0) Qj))) (J0 (i:=4) Y0.nd) (Qo (Ub (Jx (Qk1 (Q5 hr)) (Qa 4) (Qa 2)) (Qf (Q9 (i:=5) (Qfn (i:=1) (L:=Jb) Lm_pieces (hr.mono (by decide)) (J1 (Qa 4))) Y0.nd)
  (Qf (Qlw (s:=2) (j:=5) (t:=6) (Q5 hr) PassesOwn.never Y0.nd)
  (Qo (Qi2 (i:=3) (j:=5))))) Jz)))
  (Qo (Qch (i:=3))))))
theorem Qhd {P:Program} {w:World} {K:PySem.W.Frag} {mg:Str->Option Value} {base:Heap} {f:Addr} {fd:FuncData} (F:Fun K "parted" "parted" Yd f fd) (B:Bn mg) (Lm_pieces:Qce P w K mg base 2 Jb (spR K Zj)):FnOk P w K mg base CX0 3 f fd ["members","group_from"] (spR K V3):=by
 refine Qfl (T:=Qdv) F Y0 rfl (by decide) (λds kk h=>?_) (Qki B Lm_pieces) (λds kk h=>?_)
 ·obtain ⟨m,e,A,g,T,rfl,_⟩:=h
  rfl
 ·obtain ⟨m,e,A,g,T,rfl,hm,he,tw,hT,k⟩:=h
  have G:=gr tw
  have hvl:=Qa3 m e
  have hkl:T.length=(Vs m e).length:=by
   have:=congrArg List.length hT.keys
   rw [List.length_map,List.length_map] at this
   rw [this,(Qaf m e).length_eq]
  simp only [Qdm,wSeq,wSet,wC,wLst,wNil,List.length_nil,sz0,env0,List.map_cons,List.map_nil,List.length_cons,Nat.zero_add,Nat.reduceAdd,List.replicate,List.cons_append,List.nil_append,List.set_cons_succ,List.set_cons_zero,Ue,Qe6,Qn,Qe,Qx,look,Ql,Qbh,Xi,true_and]
  refine ⟨Ks m e,hT.keys,by omega,λout hp hs=>?_⟩
  have hout:out=Vs m e:=Hang.Vc (le:=(· <= ·)) (hp.trans (Qaf m e).symm) hs ((Qiy m e).imp λh=>Int.le_of_lt h) λa _ b _ h1 h2=>Int.le_antisymm h1 h2
  subst hout
  refine ⟨Jj,λt ρ=>∃(S:List (Key × D)) (o4 o6:Option D),ρ=[some (.dik T),some (.clo Jb [.dik T]),some (.dik S),some (.lst ((Hang.pcs (Ed m e g) (Vs m e) ((Vs m e).take t)).map liI)),o4,none,o6]/\t<=(Vs m e).length/\S.length<=t*(m+1)/\(S.all λkv=>kv.2.pure)=true/\(∀x,(valD S (.inl x)).isSome=true↔∃u∈(Vs m e).take t,Hang.Con (Ed m e g) u x),
   ⟨[],none,none,by simp [Hang.pcs],Nat.zero_le _,Nat.zero_le _,rfl,λx=>by simp [valD]⟩,?_,?_⟩
  ·rintro t d ρ hd ⟨S,o4,o6,rfl,ht,hS,hpu,hsn⟩
   have htl:t<(Vs m e).length:=by have:=(List.getElem?_eq_some_iff.mp hd).1;rw [List.length_map] at this;exact this
   rw [List.getElem?_map,List.getElem?_eq_getElem htl] at hd
   have hd:=(Option.some.inj hd).symm
   subst hd
   have hv:(Vs m e)[t]∈Vs m e:=List.getElem_mem htl
   have hL:=G.isL_iff htl
   have htk:(Vs m e).take (t+1)=(Vs m e).take t++[(Vs m e)[t]]:=by rw [List.take_add_one,List.getElem?_eq_getElem htl];rfl
   have hnext:Hang.pcs (Ed m e g) (Vs m e) ((Vs m e).take (t+1))=Hang.pcs (Ed m e g) (Vs m e) ((Vs m e).take t)++if Hang.isL (Ed m e g) (Vs m e) (Vs m e)[t]=true then [Hang.pc (Ed m e g) (Vs m e) (Vs m e)[t]] else []:=by
    unfold Hang.pcs
    rw [Hang.Zd htl,List.map_append]
    congr 1
    split <;> rfl
   generalize (Vs m e)[t]=v at hv hL htk hnext
   have hmul:(t+1)*(m+1)=t*(m+1)+(m+1):=Nat.succ_mul _ _
   have hsz:t*(m+1)<=41*41:=Nat.mul_le_mul (by omega) (by omega)
   simp only [gN,wIf,List.set_cons_succ,List.set_cons_zero,wSeq,wSet,Qf9,Jv,Qlq,lsOf,List.length_set,Qga,Qx,Jp,r_bl,wBin,look,List.length_cons,List.length_nil,Nat.zero_add,Nat.reduceAdd,Nat.lt_add_one,Ql,true_and,Qrn,D.pure,Qkv,Yi]
   cases hc:(valD S (.inl v)).isSome with
   | true =>
    have hno:¬Hang.isL (Ed m e g) (Vs m e) v=true:=λz=>hL.mp z ((hsn v).mp hc)
    simp only [Bool.xor_true,Bool.not_true,Bool.false_eq_true,reduceIte]
    rw [if_neg hno,List.append_nil] at hnext
    refine ⟨S,_,_,by rw [hnext],htl,by omega,hpu,λx=>?_⟩
    rw [hsn x,htk]
    constructor
    ·rintro ⟨u,hu,h⟩;exact ⟨u,List.mem_append.mpr (.inl hu),h⟩
    ·rintro ⟨u,hu,h⟩
     rcases List.mem_append.mp hu with q | q
     ·exact ⟨u,q,h⟩
     ·obtain ⟨u',hu',h'⟩:=(hsn v).mp hc
      rw [List.mem_singleton.mp q] at h
      exact ⟨u',hu',h'.trans h⟩
   | false =>
    have hyes:Hang.isL (Ed m e g) (Vs m e) v=true:=hL.mpr λz=>by
     have:=(hsn v).mpr z
     rw [hc] at this;cases this
    simp only [Bool.xor_false,reduceIte]
    rw [if_pos hyes] at hnext
    refine ⟨m,e,v,A,g,T,rfl,hv,hm,he,tw,hT,?_⟩
    have hpl:(Hang.pc (Ed m e g) (Vs m e) v).length<=m+1:=Nat.le_trans (List.length_filter_le _ _) hvl
    obtain ⟨S',h1,h2,h3,h4⟩:=Qhm (Hang.pc (Ed m e g) (Vs m e) v) S hpu
    have hne:(Hang.pc (Ed m e g) (Vs m e) v).map D.int≠[]:=λz=>by
     have:v∈Hang.pc (Ed m e g) (Vs m e) v:=Hang.Qbo.mpr ⟨hv,.refl v⟩
     rw [List.map_eq_nil_iff.mp z] at this;cases this
    show Qm _=true/\_
    refine ⟨Jj,hpu,?_,?_⟩
    ·show S.length+_<sizeLine
     rw [List.length_map]
     exact Nat.lt_of_le_of_lt (show _<=41*41+41 by omega) (by decide)
    ·rw [h1,List.getLast?_eq_some_getLast hne]
     simp only [Ql]
     have hgl:(Hang.pcs (Ed m e g) (Vs m e) ((Vs m e).take t)).length<=t:=by
      unfold Hang.pcs
      rw [List.length_map]
      exact Nat.le_trans (List.length_filter_le _ _) (by rw [List.length_take];omega)
     refine ⟨by rw [List.length_map];exact big (by omega),S',_,_,by rw [hnext,List.map_append];rfl,htl,by omega,h3,λx=>?_⟩
     rw [h4 x,hsn x,htk,Hang.Qbo]
     constructor
     ·rintro (⟨u,hu,h⟩ | h)
      ·exact ⟨u,List.mem_append.mpr (.inl hu),h⟩
      ·exact ⟨v,List.mem_append.mpr (.inr (List.mem_singleton.mpr rfl)),h.2⟩
     ·rintro ⟨u,hu,h⟩
      rcases List.mem_append.mp hu with q | q
      ·exact .inl ⟨u,q,h⟩
      ·rw [List.mem_singleton.mp q] at h
       exact .inr ⟨G.con_mem h hv,h⟩
  ·rintro ρ ⟨S,o4,o6,rfl,ht,hS,hpu,hsn⟩
   rw [List.length_map,List.take_of_length_le (Nat.le_refl _)]
   simp only [Qa2,look,Ql]
   exact k
def Yt:GA:=λds k=>∃(m e:Nat) (A:Nat->Int) (r:Int) (g:Nat->Nat),ds=[webD m e A r]/\m<=40/\e<=12/\M.Tw (4*m+e) A g/\k (.lst ((Hang.pcs (Ed m e g) (Vs m e) (Vs m e)).map liI))
abbrev Yc:Stmt:=top 7
theorem Qbb:FnScope ["web","beside"] ["web"] (Qd Yc):=⟨rfl,rfl,rfl,by decide +kernel,rfl,by decide +kernel,by decide +kernel⟩
def Qdu:Tg:={ own:=λi=>i == 1,io:=[] }
def Qdl:WS:=(wSeq (wSet 1 (Qn J6 (Qe (wVar 0) wNil)))
 (wRet (Qf8 V3 Jb [1] (wVar 1))))
theorem Qkh {P:Program} {w:World} {K:PySem.W.Frag} {mg:Str->Option Value} {base:Heap} {f:Addr} {TB:List (Addr × Array Value)} (B:Bn mg) (hB:G7 mg base) (C_neighbours:Cal P w K mg base "neighbours" 2 ["web"] (spR K J6)) (C_parted:Cal P w K mg base "parted" 3 ["members","group_from"] (spR K V3)) {c_pieces P_pieces:Addr} {fd:FuncData} (hcode_pieces:fd.code=.ref c_pieces) (hd_pieces:PySem.W.codeHdIn K c_pieces P_pieces=true) (hP_pieces:(P_pieces,tgOf Vx Jb.qual)∈TB):∀(cdv:Value) (A:Around) (outer:List PySem.Env) (s:Shared) (H:Hp) (E:XK),Room 3 (A.deeper (envOfC "pieces" (Qd Yc) s.heap.objs.size f cdv))->Tabs TB H->fd.code=cdv->SVs (cxOf CX0 P w K mg base ["web","beside"] "pieces" (Qd Yc) f cdv A outer s H E).nox Qdu (Qr Yc) Qdl:=λcdv A outer s H E hr hT hcv =>
  (Qf (Q9 (i:=1) (V4 C_neighbours (hr.mono (by decide)) (Qc (Qa 0) Qj)) Qbb.nd)
  (Qo (Ze (Qfm (ix:=[1]) (L:=Jb) (clos:=[("beside",s.heap.objs.size+1)]) C_parted (hr.mono (by decide)) (Qa 1) (Qo6 (L:=Jb) (P:=P_pieces) (c:=c_pieces) (hcv.symm.trans hcode_pieces) hd_pieces (hT _ hP_pieces) hB) (Qkc rfl rfl rfl rfl Qn5) rfl (by simp)))))
theorem Qhc {P:Program} {w:World} {K:PySem.W.Frag} {mg:Str->Option Value} {base:Heap} {f:Addr} {fd:FuncData} {TB:List (Addr × Array Value)} (F:Fun K "pieces" "pieces" Yc f fd) (B:Bn mg) (hB:G7 mg base) (C_neighbours:Cal P w K mg base "neighbours" 2 ["web"] (spR K J6)) (C_parted:Cal P w K mg base "parted" 3 ["members","group_from"] (spR K V3)) {c_pieces P_pieces:Addr} (hcode_pieces:fd.code=.ref c_pieces) (hd_pieces:PySem.W.codeHdIn K c_pieces P_pieces=true) (hP_pieces:(P_pieces,tgOf Vx Jb.qual)∈TB):FnOk P w K mg base CX0 4 f fd ["web"] (spT TB (spR K Yt)):=by
 refine Qla (T:=Qdu) F Qbb rfl (by decide) (λds kk h=>?_) (Qkh B hB C_neighbours C_parted hcode_pieces hd_pieces hP_pieces) (λds kk h=>?_)
 ·obtain ⟨m,e,A,r,g,rfl,_⟩:=h
  rfl
 ·obtain ⟨m,e,A,r,g,rfl,hm,he,tw,k⟩:=h
  simp only [Qdl,wSeq,wSet,Qn,Qe,env0,List.map_cons,List.map_nil,List.length_cons,List.length_nil,Nat.zero_add,Nat.reduceAdd,List.replicate,List.cons_append,List.nil_append,wNil,wRet,Qf8,Qfp,Qx,look,List.set_cons_succ,List.set_cons_zero,Ql]
  refine ⟨m,e,A,r,g,rfl,hm,he,tw,λT hT=>?_⟩
  simp only []
  refine ⟨m,e,A,g,T,rfl,hm,he,tw,hT,?_,k⟩
  simp only [D.bare]
  refine Qca.mpr λx hx=>?_
  obtain ⟨l,_,rfl⟩:=List.mem_map.mp hx
  exact Qb9 l
end K13
namespace K13
open PySem PySem.Spec L2 PV
open PyProof.Rows (envOfC)
theorem Gx {ds:List D} {wt:WT} {we:WE} {ρ1:PV.Env} {ix:List Nat} {Q:D->PV.Env->Prop} (f:D->D) (p:D->Bool) (hz:ds.length<sizeLine) (ht:∀d∈ds,∀k:Bool->PV.Env->Prop,k (p d) (blkE ρ1 d ix)->wt (blkE ρ1 d ix) k)
  (he:∀d∈ds,p d=true->∀Q':D->PV.Env->Prop,Q' (f d) (blkE ρ1 d ix)->we (blkE ρ1 d ix) Q') (hQ:Q (.lst ((ds.filter p).map f)) ρ1):Qn2 ds wt we ρ1 ix Q:=by
 have hlen:∀i,(((ds.take i).filter p).map f).length<=ds.length:=λi=>by
  rw [List.length_map]
  exact Nat.le_trans (List.length_filter_le _ _) (by rw [List.length_take];omega)
 refine ⟨λi ys=>ys=((ds.take i).filter p).map f,by simp,λi d ys hd hy=>⟨by rw [hy];exact Nat.lt_of_le_of_lt (hlen i) hz,?_⟩,λys hy=>⟨by rw [hy];exact Nat.le_of_lt (Nat.lt_of_le_of_lt (hlen _) hz),?_⟩⟩
 ·have hlt:=(List.getElem?_eq_some_iff.mp hd).1
  have hde:ds[i]=d:=by rw [List.getElem?_eq_getElem hlt] at hd;exact Option.some.inj hd
  have hs:=Hang.Zd (p:=p) hlt
  rw [hde] at hs
  refine ht d (List.mem_of_getElem? hd) _ ?_
  cases hp:p d with
  | true =>
   rw [if_pos rfl]
   refine he d (List.mem_of_getElem? hd) hp _ ?_
   show ys++[f d]=((ds.take (i+1)).filter p).map f
   rw [hs,hy,hp,if_pos rfl,List.map_append];rfl
  | false =>
   rw [if_neg (by decide)]
   show ys=((ds.take (i+1)).filter p).map f
   rw [hs,hy,hp,if_neg (by decide),List.append_nil]
 ·rw [hy,List.take_of_length_le (Nat.le_refl _)];exact hQ
theorem Za {i:Int}:∀{g:List Int},inD (.int i) (g.map .int)=some (decide (i∈g))
 | []=>rfl
 | x::g=>by
  show (inD (.int i) (g.map .int)).map (λb=>(x == i) || b)=_
  rw [Za]
  show some ((x == i) || decide (i∈g))=_
  congr 1
  by_cases h:x=i
  ·subst h;simp
  ·have:(x == i)=false:=by simpa using h
   have h2:i∈x::g↔i∈g:=by rw [List.mem_cons];exact ⟨λq=>q.resolve_left λz=>h z.symm,.inr⟩
   rw [this,Bool.false_or]
   exact decide_eq_decide.mpr h2.symm
def rowA (m e:Nat) (A:Nat->Int) (p:Nat):List Int:=if p<m then (List.range 4).map λj=>A (4*p+j) else (List.range e).map λj=>A (4*m+j)
def idp (m p:Nat):Int:=if p<m then (p:Int) else -1
theorem Qab {m e p:Nat} {A:Nat->Int} {a:Int} (hp:p<=m):a∈rowA m e A p↔∃i,i<4*m+e/\(M.sp m i).1=idp m p/\A i=a:=by
 unfold rowA idp
 by_cases h:p<m
 ·rw [if_pos h,if_pos h,List.mem_map]
  constructor
  ·rintro ⟨j,hj,rfl⟩
   have hj:=List.mem_range.mp hj
   exact ⟨4*p+j,by omega,by rw [M.Qof h hj],rfl⟩
  ·rintro ⟨i,hi,h1,rfl⟩
   unfold M.sp at h1
   split at h1
   ·have h1:((i / 4:Nat):Int)=(p:Int):=h1
    exact ⟨i % 4,List.mem_range.mpr (by omega),by congr 1;omega⟩
   ·have h1:(-1:Int)=(p:Int):=h1
    omega
 ·rw [if_neg h,if_neg h,List.mem_map]
  constructor
  ·rintro ⟨j,hj,rfl⟩
   have hj:=List.mem_range.mp hj
   exact ⟨4*m+j,by omega,by rw [M.Qkp],rfl⟩
  ·rintro ⟨i,hi,h1,rfl⟩
   unfold M.sp at h1
   split at h1
   ·have h1:((i / 4:Nat):Int) = -1:=h1
    omega
   ·exact ⟨i-4*m,List.mem_range.mpr (by omega),by congr 1;omega⟩
theorem Qk9 {m e:Nat} {x:Int}:x∈Vs m e->∃p,p<=m/\idp m p=x:=λh=>by
 rcases Qhk.mp h with ⟨rfl,_⟩ | ⟨k,hk,rfl⟩
 ·exact ⟨m,Nat.le_refl _,by unfold idp;rw [if_neg (Nat.lt_irrefl _)]⟩
 ·exact ⟨k,by omega,by unfold idp;rw [if_pos hk]⟩
theorem Qre {m e p q:Nat} {A:Nat->Int} {g:Nat->Nat} (tw:M.Tw (4*m+e) A g) (hp:p<=m) (hq:q<=m):(∃a,a∈rowA m e A p/\a∈rowA m e A q)->idp m p∈Vs m e/\idp m q∈Vs m e/\(idp m p=idp m q\/Ed m e g (idp m p) (idp m q)):=by
 rintro ⟨a,h1,h2⟩
 obtain ⟨i,hi,e1,rfl⟩:=(Qab hp).mp h1
 obtain ⟨j,hj,e2,h⟩:=(Qab hq).mp h2
 refine ⟨e1 ▸ Qe3 hi,e2 ▸ Qe3 hj,?_⟩
 rcases tw.only i j hi hj h with rfl | rfl
 ·exact .inl (e1.symm.trans e2)
 ·exact .inr ⟨i,hi,e1,e2⟩
theorem Qi3 {m e p q:Nat} {A:Nat->Int} {g:Nat->Nat} (tw:M.Tw (4*m+e) A g) (hp:p<=m) (hq:q<=m) (h:Ed m e g (idp m p) (idp m q)):∃a,a∈rowA m e A p/\a∈rowA m e A q:=by
 obtain ⟨i,hi,e1,e2⟩:=h
 exact ⟨A i,(Qab hp).mpr ⟨i,hi,e1,rfl⟩,(Qab hq).mpr ⟨g i,tw.lt i hi,e2,tw.eq i hi⟩⟩
theorem Qd0 {m e p:Nat} {A:Nat->Int} (hp:p<=m):((List.range (m+1)).map λp=>klsI (rowA m e A p))[p]? = some (klsI (rowA m e A p)):=by
 rw [List.getElem?_map,List.getElem?_range (by omega)];rfl
theorem Qeo {n:Nat} (gs:List (List Int)):Yy (n+1) (nFs (gs.map klsI))=true:=by
 rw [Yx,List.map_map]
 refine Y6 λl _=>?_
 show eqOk (n+1) (nF (klsI l))=true
 rw [klsI,nF,Yx,List.map_map,eqOk]
 exact Y6 λi _=>by show eqOk n (nF (.int i))=true;rw [nF];cases n <;> rfl
theorem Xn (l:List Int):nF (klsI l)=liI l:=by
 rw [klsI,nF,Yx,List.map_map]
 rfl
theorem Qr3 (l:List Int):nF (liI l)=liI l:=by
 show nF (.lst (l.map .int))=_
 rw [nF,Yx,List.map_map]
 rfl
theorem Qk6 {a b:List Int} (h:liI a=liI b):a=b:=by
 injection h with h
 induction a generalizing b with
 | nil=>cases b with | nil=>rfl | cons _ _=>cases h
 | cons x a ih=>cases b with | nil=>cases h | cons y b=>simp only [List.map_cons,List.cons.injEq,D.int.injEq] at h;rw [h.1,ih h.2]
def Y4:GA:=λds k=>∃(m e:Nat) (A:Nat->Int) (r:Int) (g:Nat->Nat),ds=[webD m e A r]/\m<=40/\e<=12/\M.Tw (4*m+e) A g/\k (.lst ((Hang.pcs (Ed m e g) (Vs m e) (Vs m e)).map klsI))
abbrev Qu:Stmt:=top 12
theorem Ji:FnScope ["_law_web_here","_law_some","_law_rows","_law_one","_law_other","_law_here","_law_there"] ["_law_web_here"] (Qd Qu):=⟨rfl,rfl,rfl,by decide +kernel,rfl,by decide +kernel,by decide +kernel⟩
def Xg:Tg:={ own:=λi=>i == 1 || i == 2 || i == 3 || i == 4 || i == 5 || i == 6,io:=[] }
def Xe:WS:=(wSeq (wSet 1 (Va (G8 (Qe (Qn dLen (Qe (wBin dIx (wVar 0) (wC (.int 0))) wNil)) wNil)) wAll (Z1 (wLst (Qe (Jv (wVar 0)) wNil))) []))
 (wSeq (wSet 2 (Va (Vj (wBin dIx (wVar 0) (wC (.int 0)))) wAll (Z1 (Qn Qie (Qe (wVar 0) wNil))) []))
 (wSeq (wIf (wBl (wBin (dCmp λi j=>decide (j<i)) (Qn dLen (Qe (wBin dIx (wVar 0) (wC (.int 1))) wNil)) (wC (.int 0)))) (wSet 1 (wBin dAdd (wLst (Qe (Z1 (wLst (Qe (wUn dNeg (wC (.int 1))) wNil))) wNil)) (wVar 1))) Jp)
 (wSeq (Yn (wMt 2 "list" Zb (Qe (Z1 (Qn Qie (Qe (wBin dIx (wVar 0) (wC (.int 1))) wNil))) wNil)))
 (wSeq (wFor (G8 (Qe (Qn dLen (Qe (wVar 2) wNil)) wNil)) (gN 3) (wFor (G8 (Qe (Qn dLen (Qe (wVar 2) wNil)) wNil)) (gN 4) (wIf (wBl (wBin dNe (Va (Qiw (wBin dIx (wVar 2) (wVar 3))) (wBl (wBin (dInK false) (wVar 0) (wBin dIx (wVar 2) (wVar 1)))) (Jv (wVar 0)) [4,2]) (wLst wNil))) (wSeq (wSet 5 (wBin dIx (Va (Vj (wVar 1)) (wOr (wBl (wBin (dInK false) (wVar 1) (wVar 0))) (wAnd (wBl (wBin dEq (wVar 1) (Qn dLen (Qe (wBin dIx (wVar 2) (wC (.int 0))) wNil)))) (wBl (wBin (dInK false) (wUn dNeg (wC (.int 1))) (wVar 0))))) (Jv (wVar 0)) [3,0]) (wC (.int 0))))
 (wSeq (wSet 6 (wBin dIx (Va (Vj (wVar 1)) (wOr (wBl (wBin (dInK false) (wVar 1) (wVar 0))) (wAnd (wBl (wBin dEq (wVar 1) (Qn dLen (Qe (wBin dIx (wVar 2) (wC (.int 0))) wNil)))) (wBl (wBin (dInK false) (wUn dNeg (wC (.int 1))) (wVar 0))))) (Jv (wVar 0)) [4,0]) (wC (.int 0))))
 (wIf (wBl (wBin dNeF (wVar 5) (wVar 6))) (wSeq (Yn (wMt 1 "list" Zw (Qe (Jv (wVar 5)) wNil)))
 (wSeq (Yn (wMt 1 "list" Zw (Qe (Jv (wVar 6)) wNil)))
 (Yn (wMt 1 "list" Zb (Qe (Z1 (Qn Qao (Qe (wBin Qj9 (wVar 5) (wVar 6)) wNil))) wNil))))) Jp))) Jp)))
 (wRet (Qn Qan (Qe (wVar 1) wNil))))))))
theorem Qfr {P:Program} {w:World} {K:PySem.W.Frag} {mg:Str->Option Value} {base:Heap} {f:Addr} (B:Bn mg):∀(cdv:Value) (A:Around) (outer:List PySem.Env) (s:Shared) (H:Hp) (E:XK),Room 0 (A.deeper (envOfC "_law_due" (Qd Qu) s.heap.objs.size f cdv))->SVs (cxOf CX0 P w K mg base ["_law_web_here","_law_some","_law_rows","_law_one","_law_other","_law_here","_law_there"] "_law_due" (Qd Qu) f cdv A outer s H E).nox Xg (Qr Qu) Xe:=λcdv A outer s H E hr =>
  (Qf (Qdw (j:=1) (Zn [] (Y3 B.nb_range (Qc (Q3 Uv B.nb_len Uw (Qc (Jw (Ju (Q5 hr)) (Qa 0) Qh) Qj)) Qj)) (λ_ _ _ _ _=>Qif) (λ_ _ _ _ _=>(Gv (Yl (Qc (J1 (Qa 0)) Qj))))) (Yv (Qd Qu) ["_law_web_here","_law_some","_law_rows","_law_one","_law_other","_law_here","_law_there"] (by decide +kernel)) Ji.nd)
  (Qf (Q9 (i:=2) (Zx (Zn [] (Gq (Jw (Ju (Q5 hr)) (Qa 0) Qh)) (λ_ _ _ _ _=>Qif) (λ_ _ _ _ _=>(Gv (Y5 Qik B.nb_list Qau (Qc (Qa 0) Qj))))) (Yv (Qd Qu) ["_law_web_here","_law_some","_law_rows","_law_one","_law_other","_law_here","_law_there"] (by decide +kernel))) Ji.nd)
  (Qf (Ub (Jx Qna (Q3 Uv B.nb_len Uw (Qc (Jw (Ju (Q5 hr)) (Qa 0) Qh) Qj)) Qh) (Qo (Q9 (i:=1) (Q7 Ys (Yl (Qc (Gv (Yl (Qc (Qnp Qgc Qh) Qj))) Qj)) (Qa 1)) Ji.nd)) Jz)
  (Qf (Uc (Qbv (i:=2) Vv PySem.F.plainAttrs_list PySem.F.slot_list_append PySem.F.type_list_append (Qc (Gv (Y5 Qik B.nb_list Qau (Qc (Jw (Ju (Q5 hr)) (Qa 0) Qh) Qj))) Qj)))
  (Qf (Z5 PassesOwn.never (Y3 B.nb_range (Qc (Q3 Uv B.nb_len Uw (Qc (Qa 2) Qj)) Qj)) (J0 (i:=3) Ji.nd) (Qo (Z5 PassesOwn.never (Y3 B.nb_range (Qc (Q3 Uv B.nb_len Uw (Qc (Qa 2) Qj)) Qj)) (J0 (i:=4) Ji.nd) (Qo (Ub (Jx (Qm9 hr.units) (Zx (Zn [4,2] (Qqm (Jw (Ju (Q5 hr)) (Qa 2) (Qa 3))) (λ_ _ _ _ _=>Qb0 (Jx (Qbn false) (Qa 0) (Jw (Ju (Q5 hr)) (Qa 2) (Qa 1)))) (λ_ _ _ _ _=>(J1 (Qa 0)))) (Yv (Qd Qu) ["_law_web_here","_law_some","_law_rows","_law_one","_law_other","_law_here","_law_there"] (by decide +kernel))) (Yl Qj)) (Qf (Q9 (i:=5) (Jw (Ju (Q5 hr)) (Zx (Zn [3,0] (Gq (Qa 1)) (λ_ _ _ _ _=>Qb0 (Vb (Qip (Jx (Qbn false) (Qa 1) (Qa 0)) (Qb4 (Vb (Qld (Jx (Qjp hr.units) (Qa 1) (Q3 Uv B.nb_len Uw (Qc (Jw (Ju (Q5 hr)) (Qa 2) Qh) Qj))) (Qiq (Jx (Qbn false) (Qnp Qgc Qh) (Qa 0))))))))) (λ_ _ _ _ _=>(J1 (Qa 0)))) (Yv (Qd Qu) ["_law_web_here","_law_some","_law_rows","_law_one","_law_other","_law_here","_law_there"] (by decide +kernel))) Qh) Ji.nd)
  (Qf (Q9 (i:=6) (Jw (Ju (Q5 hr)) (Zx (Zn [4,0] (Gq (Qa 1)) (λ_ _ _ _ _=>Qb0 (Vb (Qip (Jx (Qbn false) (Qa 1) (Qa 0)) (Qb4 (Vb (Qld (Jx (Qjp hr.units) (Qa 1) (Q3 Uv B.nb_len Uw (Qc (Jw (Ju (Q5 hr)) (Qa 2) Qh) Qj))) (Qiq (Jx (Qbn false) (Qnp Qgc Qh) (Qa 0))))))))) (λ_ _ _ _ _=>(J1 (Qa 0)))) (Yv (Qd Qu) ["_law_web_here","_law_some","_law_rows","_law_one","_law_other","_law_here","_law_there"] (by decide +kernel))) Qh) Ji.nd)
  (Qo (Ub (Jx (Qhg hr.units) (Qa 5) (Qa 6)) (Qf (Uc (Qbv (i:=1) (Xo (hu66 hr)) PySem.F.plainAttrs_list PySem.F.slot_list_remove PySem.F.type_list_remove (Qc (J1 (Qa 5)) Qj)))
  (Qf (Uc (Qbv (i:=1) (Xo (hu66 hr)) PySem.F.plainAttrs_list PySem.F.slot_list_remove PySem.F.type_list_remove (Qc (J1 (Qa 6)) Qj)))
  (Qo (Uc (Qbv (i:=1) Vv PySem.F.plainAttrs_list PySem.F.slot_list_append PySem.F.type_list_append (Qc (Gv (Q3 Qij B.nb_sorted V6 (Qc (Q7 Qnc (Qa 5) (Qa 6)) Qj))) Qj)))))) Jz)))) Jz)))))
  (Qo (Ze (Q3 (Qii (hu66 hr)) B.nb_sorted V6 (Qc (Qa 1) Qj)))))))))
abbrev Qnu:WS:=wIf (wBl (wBin dNe (Va (Qiw (wBin dIx (wVar 2) (wVar 3))) (wBl (wBin (dInK false) (wVar 0) (wBin dIx (wVar 2) (wVar 1)))) (Jv (wVar 0)) [4,2]) (wLst wNil))) (wSeq (wSet 5 (wBin dIx (Va (Vj (wVar 1)) (wOr (wBl (wBin (dInK false) (wVar 1) (wVar 0))) (wAnd (wBl (wBin dEq (wVar 1) (Qn dLen (Qe (wBin dIx (wVar 2) (wC (.int 0))) wNil)))) (wBl (wBin (dInK false) (wUn dNeg (wC (.int 1))) (wVar 0))))) (Jv (wVar 0)) [3,0]) (wC (.int 0)))) (wSeq (wSet 6 (wBin dIx (Va (Vj (wVar 1)) (wOr (wBl (wBin (dInK false) (wVar 1) (wVar 0))) (wAnd (wBl (wBin dEq (wVar 1) (Qn dLen (Qe (wBin dIx (wVar 2) (wC (.int 0))) wNil)))) (wBl (wBin (dInK false) (wUn dNeg (wC (.int 1))) (wVar 0))))) (Jv (wVar 0)) [4,0]) (wC (.int 0)))) (wIf (wBl (wBin dNeF (wVar 5) (wVar 6))) (wSeq (Yn (wMt 1 "list" Zw (Qe (Jv (wVar 5)) wNil))) (wSeq (Yn (wMt 1 "list" Zw (Qe (Jv (wVar 6)) wNil))) (Yn (wMt 1 "list" Zb (Qe (Z1 (Qn Qao (Qe (wBin Qj9 (wVar 5) (wVar 6)) wNil))) wNil))))) Jp))) Jp
theorem Qol {gs:List (List Int)} {a:List Int} (h:a∈gs):∃i:Nat,(gs.map klsI)[i]? = some (klsI a)/\(∀(j:Nat) (e:D),j<i->(gs.map klsI)[j]? = some e->nF e≠nF (klsI a))/\(gs.map klsI).eraseIdx i=(gs.erase a).map klsI:=by
 have main:∀{gs:List (List Int)} {a:List Int},a∈gs->∃i:Nat,gs[i]? = some a/\(∀j b,j<i->gs[j]? = some b->b≠a)/\gs.eraseIdx i=gs.erase a:=by
  intro gs
  induction gs with
  | nil=>intro a h;cases h
  | cons x gs ih =>
   intro a h
   by_cases hx:x=a
   ·subst hx
    exact ⟨0,rfl,λj b hj=>absurd hj (Nat.not_lt_zero _),by simp⟩
   ·obtain ⟨i,h1,h2,h3⟩:=ih ((List.mem_cons.mp h).resolve_left λz=>hx z.symm)
    refine ⟨i+1,by simpa using h1,λj b hj hb=>?_,?_⟩
    ·cases j with
     | zero =>
      have:x=b:=by simpa using hb
      rw [← this];exact hx
     | succ j=>exact h2 j b (by omega) (by simpa using hb)
    ·rw [List.eraseIdx_cons_succ,h3,List.erase_cons_tail (by simpa using hx)]
 obtain ⟨i,h1,h2,h3⟩:=main h
 refine ⟨i,by rw [List.getElem?_map,h1];rfl,λj e hj he=>?_,by rw [← h3,Vw]⟩
 rw [List.getElem?_map] at he
 obtain ⟨b,hb,rfl⟩:=Option.map_eq_some_iff.mp he
 rw [Xn,Xn]
 exact λz=>h2 j b hj hb (Qk6 z)
theorem Qen (l:List Int):eqOk 9 (nF (klsI l))=true:=by
 rw [Xn]
 simp only [liI,eqOk]
 exact Y6 λ_ _=>rfl
theorem Qg6 {E:Int->Int->Prop} {V:List Int} {gs:List (List Int)} (P:Hang.Part E V gs) {x:Int} (hx:x∈V):∃a,a∈gs/\x∈a/\gs.filter (λg=>decide (x∈g))=[a]:=by
 obtain ⟨a,ha,hxa⟩:=P.cov x hx
 refine ⟨a,ha,hxa,?_⟩
 have all:∀b∈gs.filter (λg=>decide (x∈g)),b=a:=λb hb=>by
  obtain ⟨h1,h2⟩:=List.mem_filter.mp hb
  exact Hang.Uu P.dis h1 ha (of_decide_eq_true h2) hxa
 have hin:a∈gs.filter (λg=>decide (x∈g)):=List.mem_filter.mpr ⟨ha,decide_eq_true hxa⟩
 have nd:(gs.filter (λg=>decide (x∈g))).Nodup:=P.nd.filter _
 generalize gs.filter (λg=>decide (x∈g))=l at all hin nd
 match l,all,hin,nd with
 | [],_,hin,_=>cases hin
 | [b],all,_,_=>rw [all b List.mem_cons_self]
 | b::c::l,all,_,nd=>exact absurd (by rw [all b List.mem_cons_self,all c (by simp)];exact List.mem_cons_self) (List.nodup_cons.mp nd).1
def selI (l:List Int):D->Bool
 | .int a=>decide (a∈l)
 | _=>false
def selG (x:Int):D->Bool
 | .kls ds=>(inD (.int x) ds).getD false
 | _=>false
theorem Qgn {x:Int} {gs:List (List Int)}:(gs.map klsI).filter (selG x)=(gs.filter λg=>decide (x∈g)).map klsI:=by
 rw [List.filter_map]
 congr 1
 refine List.filter_congr λg _=>?_
 show (inD (.int x) (g.map .int)).getD false=_
 rw [Za];rfl
theorem tst {m e p:Nat} {g:List Int} (hp:p<=m) (hg:∀x∈g,x∈Vs m e):(decide ((p:Int)∈g) || (decide (p=m) && decide ((-1:Int)∈g)))=decide (idp m p∈g):=by
 unfold idp
 by_cases h:p<m
 ·rw [if_pos h,decide_eq_false (show ¬p=m by omega),Bool.false_and,Bool.or_false]
 ·have hpm:p=m:=by omega
  have:¬((p:Int)∈g):=λz=>by
   rcases Qhk.mp (hg _ z) with ⟨q,_⟩ | ⟨k,hk,q⟩ <;> omega
  rw [if_neg h,decide_eq_false this,decide_eq_true hpm,Bool.true_and,Bool.false_or]
theorem Qj3 {m e p q:Nat} {A:Nat->Int} {r:Int} {g:Nat->Nat} {gs:List (List Int)} {o5 o6:Option D} {P:EndsP} (hm:m<=40) (he:e<=12) (tw:M.Tw (4*m+e) A g) (hp:p<=m) (hq:q<=m) (hP:Hang.Part (Ed m e g) (Vs m e) gs) (hl:gs.length<=50)
  (hk:∀gs' o5 o6,Hang.Part (Ed m e g) (Vs m e) gs'->gs'.length<=50->(∀a∈gs,∃b∈gs',∀z∈a,z∈b)->(Ed m e g (idp m p) (idp m q)->∃a∈gs',idp m p∈a/\idp m q∈a)->P.nx [some (webD m e A r),some (.lst (gs'.map klsI)),some (.lst ((List.range (m+1)).map λp=>klsI (rowA m e A p))),some (.int p),some (.int q),o5,o6]) :
  Qnu P [some (webD m e A r),some (.lst (gs.map klsI)),some (.lst ((List.range (m+1)).map λp=>klsI (rowA m e A p))),some (.int p),some (.int q),o5,o6]:=by
 have G:=gr tw
 have same:∀a∈gs,∃b∈gs,∀z∈a,z∈b:=λa ha=>⟨a,ha,λz hz=>hz⟩
 have rlen:∀p,(rowA m e A p).length<=20:=λp=>by unfold rowA;split <;> simp <;> omega
 simp only [Qnu,wIf,wSeq,wSet,wBin,wC,Yn,wMt,Qe,Jv,wNil,Z1,Qn,Qx,Jp,r_bl,dNeF,Yi,Bool.false_eq_true,reduceIte,Qbg,Qe6,wLst,List.length_nil,sz0,true_and,Qrm,look,Ql,Qcj,V7,Qd0 hp,Qow]
 refine Gx id (selI (rowA m e A q)) (by rw [List.length_map];exact big (by have:=rlen p;omega)) (λd hd k hk=>?_) (λd hd hs Q' hQ=>?_) ?_
 ·obtain ⟨a,_,rfl⟩:=List.mem_map.mp hd
  simp only [blkE,List.map_cons,look,List.map_nil,r_bl,wBin,Qx,Ql,Qcj,V7,Qd0 hq,Qco,Za,Bool.false_xor,Yi]
  exact hk
 ·obtain ⟨a,_,rfl⟩:=List.mem_map.mp hd
  simp only [Jv,blkE,List.map_cons,look,List.map_nil,Qx,Ql,D.pure,true_and]
  exact hQ
 have hf:(((rowA m e A p).map D.int).filter (selI (rowA m e A q))).map id=((rowA m e A p).filter λa=>decide (a∈rowA m e A q)).map D.int:=by
  rw [List.map_id,List.filter_map];rfl
 rw [hf]
 simp only [look,Ql,Xi,Qrj,Yi,Bool.false_eq_true,reduceIte]
 refine ⟨?_,rfl,λh=>?_,λh=>?_⟩
 ·simp only [eqOk]
  exact Y6 λ_ _=>rfl
 ·refine hk gs o5 o6 hP hl same λhE=>?_
  obtain ⟨a,h1,h2⟩:=Qi3 tw hp hq hE
  have:a∈(rowA m e A p).filter λa=>decide (a∈rowA m e A q):=List.mem_filter.mpr ⟨h1,decide_eq_true h2⟩
  injection h with h
  rw [List.map_eq_nil_iff.mp h] at this
  cases this
 ·have hsh:∃a,a∈rowA m e A p/\a∈rowA m e A q:=by
   cases hz:(rowA m e A p).filter λa=>decide (a∈rowA m e A q) with
   | nil=>exact absurd (by rw [hz];rfl) h
   | cons a l =>
    have:a∈(rowA m e A p).filter λa=>decide (a∈rowA m e A q):=by rw [hz];exact List.mem_cons_self
    obtain ⟨h1,h2⟩:=List.mem_filter.mp this
    exact ⟨a,h1,of_decide_eq_true h2⟩
  obtain ⟨vp,vq,hor⟩:=Qre tw hp hq hsh
  obtain ⟨a,ha,hpa,fa⟩:=Qg6 hP vp
  obtain ⟨b,hb,hqb,fb⟩:=Qg6 hP vq
  have glen:(gs.map klsI).length<sizeLine:=by rw [List.length_map];exact big (by omega)
  refine Gx id (selG (idp m p)) glen (λd hd k hk=>?_) (λd hd hs Q' hQ=>?_) ?_
  ·obtain ⟨c,hc,rfl⟩:=List.mem_map.mp hd
   have ht:=tst (m:=m) (e:=e) (p:=p) hp (hP.sub c hc)
   have h0:selG (idp m p) (klsI c)=decide (idp m p∈c):=by show (inD (.int (idp m p)) (c.map .int)).getD false=_;rw [Za];rfl
   rw [h0,← ht] at hk
   simp only [Int.reduceNeg,blkE,webD,List.map_cons,look,List.map_nil,wOr,wAnd,r_bl,wBin,wUn,wC,Qx,Qma,Qn,Qe,wNil,Ql,Qco,Za,Bool.false_xor,Yi,Ud,G3,List.getElem?_cons_zero,Qbf,Qi6] at hk ⊢
   have hlm:((List.range m).map λk=>D.tup ((List.range 4).map λj=>.int (A (4*k+j)))).length=m:=by simp
   have hpm:decide ((p:Int)=(m:Int))=decide (p=m):=decide_eq_decide.mpr (by omega)
   rw [hlm,hpm]
   generalize decide ((p:Int)∈c)=b1 at hk ⊢
   generalize decide (p=m)=b2 at hk ⊢
   cases b1 <;> cases b2 <;> exact hk
  ·obtain ⟨c,hc,rfl⟩:=List.mem_map.mp hd
   simp only [Jv,blkE,List.map_cons,look,List.map_nil,Qx,Ql,D.pure,true_and]
   exact hQ
  rw [List.map_id,Qgn,fa]
  simp only [List.map_cons,List.map_nil,List.set_cons_succ,List.set_cons_zero,look,Ql,Xi,Qcj,G3,List.getElem?_cons_zero]
  refine Gx id (selG (idp m q)) glen (λd hd k hk=>?_) (λd hd hs Q' hQ=>?_) ?_
  ·obtain ⟨c,hc,rfl⟩:=List.mem_map.mp hd
   have ht:=tst (m:=m) (e:=e) (p:=q) hq (hP.sub c hc)
   have h0:selG (idp m q) (klsI c)=decide (idp m q∈c):=by show (inD (.int (idp m q)) (c.map .int)).getD false=_;rw [Za];rfl
   rw [h0,← ht] at hk
   simp only [Int.reduceNeg,blkE,webD,List.map_cons,look,List.map_nil,wOr,wAnd,r_bl,wBin,wUn,wC,Qx,Qma,Qn,Qe,wNil,Ql,Qco,Za,Bool.false_xor,Yi,Ud,G3,List.getElem?_cons_zero,Qbf,Qi6] at hk ⊢
   have hlm:((List.range m).map λk=>D.tup ((List.range 4).map λj=>.int (A (4*k+j)))).length=m:=by simp
   have hpm:decide ((q:Int)=(m:Int))=decide (q=m):=decide_eq_decide.mpr (by omega)
   rw [hlm,hpm]
   generalize decide ((q:Int)∈c)=b1 at hk ⊢
   generalize decide (q=m)=b2 at hk ⊢
   cases b1 <;> cases b2 <;> exact hk
  ·obtain ⟨c,hc,rfl⟩:=List.mem_map.mp hd
   simp only [Jv,blkE,List.map_cons,look,List.map_nil,Qx,Ql,D.pure,true_and]
   exact hQ
  rw [List.map_id,Qgn,fb]
  simp only [List.map_cons,List.map_nil,List.set_cons_succ,List.set_cons_zero,look,U1,BEq.rfl,Ql,Qe9,G9,true_and,D.pure,Qcj,G3,List.getElem?_cons_zero,Qi8,Qe8,Yr]
  have la:∀{c:List Int},c∈gs->c.length<=41:=λ{c} hc=>by
   have h1:=Xy (Hang.Y8 (hP.up c hc)) (hP.sub c hc)
   have h2:=Qa3 m e
   omega
  have a41:=la ha
  have b41:=la hb
  refine ⟨Qen a,Qen b,λh=>?_,λh=>?_⟩
  ·rw [Xn,Xn] at h
   have hab:=Qk6 h
   subst hab
   exact hk gs _ _ hP hl same λ_=>⟨a,ha,hpa,hqb⟩
  ·have hab:a≠b:=λz=>h (by rw [z])
   have hE:Ed m e g (idp m p) (idp m q):=hor.resolve_left λz=>hab (Hang.Uu hP.dis ha hb hpa (z ▸ hqb))
   have hb':b∈gs.erase a:=(List.mem_erase_of_ne λz=>hab z.symm).mpr hb
   obtain ⟨i,i1,i2,i3⟩:=Qol ha
   obtain ⟨j,j1,j2,j3⟩:=Qol hb'
   refine ⟨Qeo (n:=8) gs,Qen a,i,klsI a,i1,rfl,i2,?_⟩
   rw [i3]
   refine ⟨Qeo (n:=8) _,Qen b,j,klsI b,j1,rfl,j2,Jj,Jj,by rw [List.length_map,List.length_map];exact Nat.le_of_lt (big (by omega)),a++b,by rw [List.map_append],by rw [List.length_append];omega,λout ho hs=>?_⟩
   rw [j3]
   obtain ⟨P',mono,len'⟩:=hP.join G ha hb hab hpa hqb hE ho hs
   have h9:=hk (((gs.erase a).erase b)++[out]) (some (klsI a)) (some (klsI b)) P' (by omega) mono λ_=>⟨out,by simp,ho.mem_iff.mpr (by simp [hpa]),ho.mem_iff.mpr (by simp [hqb])⟩
   rw [List.map_append] at h9
   rw [List.length_append] at len'
   exact ⟨Jj,by rw [List.length_map];exact big (by omega),h9⟩
abbrev Qak:WS:=wSeq (Yn (wMt 2 "list" Zb (Qe (Z1 (Qn Qie (Qe (wBin dIx (wVar 0) (wC (.int 1))) wNil))) wNil))) (wSeq (wFor (G8 (Qe (Qn dLen (Qe (wVar 2) wNil)) wNil)) (gN 3) (wFor (G8 (Qe (Qn dLen (Qe (wVar 2) wNil)) wNil)) (gN 4) Qnu)) (wRet (Qn Qan (Qe (wVar 1) wNil))))
theorem Qry {m e:Nat} {E:Int->Int->Prop}:Hang.Part E (Vs m e) ((Vs m e).map λx=>[x]):=by
 have nd:=Hang.Y8 (Qiy m e)
 refine ⟨λg hg=>?_,λg hg=>?_,λg hg x hx=>?_,λx hx=>⟨[x],List.mem_map.mpr ⟨x,hx,rfl⟩,List.mem_singleton.mpr rfl⟩,?_,λg hg x hx y hy=>?_⟩
 ·obtain ⟨x,_,rfl⟩:=List.mem_map.mp hg;simp
 ·obtain ⟨x,_,rfl⟩:=List.mem_map.mp hg;simp
 ·obtain ⟨y,hy,rfl⟩:=List.mem_map.mp hg
  rw [List.mem_singleton.mp hx];exact hy
 ·refine List.pairwise_map.mpr (nd.imp λh x hx hy=>h ?_)
  rw [← List.mem_singleton.mp hx,← List.mem_singleton.mp hy]
 ·obtain ⟨z,hz,rfl⟩:=List.mem_map.mp hg
  rw [List.mem_singleton.mp hx,List.mem_singleton.mp hy];exact .refl z
theorem Qeq {m e:Nat} {A:Nat->Int} {r:Int} {g:Nat->Nat} {P:EndsP} (hm:m<=40) (he:e<=12) (tw:M.Tw (4*m+e) A g) (hP:∀ρ,P.rt (.lst ((Hang.pcs (Ed m e g) (Vs m e) (Vs m e)).map klsI)) ρ) :
  Qak P [some (webD m e A r),some (.lst (((Vs m e).map λx=>[x]).map klsI)),some (.lst ((List.range m).map λp=>klsI (rowA m e A p))),none,none,none,none]:=by
 have G:=gr tw
 have hvl:=Qa3 m e
 have erow:klsI (rowA m e A m)=.kls ((List.range e).map λj=>.int (A (4*m+j))):=by
  unfold rowA klsI
  rw [if_neg (Nat.lt_irrefl _),List.map_map];rfl
 have erows:((List.range m).map λp=>klsI (rowA m e A p))++[.kls ((List.range e).map λj=>.int (A (4*m+j)))]=(List.range (m+1)).map λp=>klsI (rowA m e A p):=by
  rw [List.range_succ,List.map_append,← erow];rfl
 have pe:Qm ((List.range e).map λj=>D.int (A (4*m+j)))=true:=Qy λ_ _=>rfl
 simp only [Qak,wSeq,Yn,wMt,look,U1,BEq.rfl,Qe,Z1,Qn,wBin,webD,wC,wNil,Ue,Ur,Qx,List.set_cons_succ,List.set_cons_zero,Ql,G9,Xj,Y7,Int.reducePow,Int.reduceNeg,Int.toNat_natCast,Ud,Qav,List.getElem?_cons_succ,List.getElem?_cons_zero,Gh,Yr,true_and]
 refine ⟨pe,pe,by simp;exact big (by omega),?_⟩
 rw [erows]
 have hrl:((List.range (m+1)).map λp=>klsI (rowA m e A p)).length=m+1:=by simp
 simp only [Int.reduceNeg,hrl]
 refine ⟨by omega,by omega,Vp,λt ρ=>∃(gs:List (List Int)) (o3 o4 o5 o6:Option D),ρ=[some (webD m e A r),some (.lst (gs.map klsI)),some (.lst ((List.range (m+1)).map λp=>klsI (rowA m e A p))),o3,o4,o5,o6]/\Hang.Part (Ed m e g) (Vs m e) gs/\gs.length<=50/\∀p q,p<t->q<=m->Ed m e g (idp m p) (idp m q)->∃a∈gs,idp m p∈a/\idp m q∈a,
  ⟨_,none,none,none,none,rfl,Qry,by simp;omega,λp q h=>by omega⟩,?_,?_⟩
 ·rintro t d ρ hd ⟨gs,o3,o4,o5,o6,rfl,hp,hl,hdone⟩
  obtain ⟨ht,rfl⟩:=U4 hd
  have ht:t<=m:=by omega
  simp only [gN,Int.zero_add,List.set_cons_succ,List.set_cons_zero,Ue,Ur,Qe,Qn,wNil,Qx,look,Ql,Xj,hrl,Y7,Int.reducePow,Int.reduceNeg,Int.toNat_natCast]
  refine ⟨by omega,by omega,Vp,λs ρ=>∃(gs:List (List Int)) (o4 o5 o6:Option D),ρ=[some (webD m e A r),some (.lst (gs.map klsI)),some (.lst ((List.range (m+1)).map λp=>klsI (rowA m e A p))),some (.int (t:Int)),o4,o5,o6]/\Hang.Part (Ed m e g) (Vs m e) gs/\gs.length<=50/\(∀p q,p<t->q<=m->Ed m e g (idp m p) (idp m q)->∃a∈gs,idp m p∈a/\idp m q∈a)/\∀q,q<s->Ed m e g (idp m t) (idp m q)->∃a∈gs,idp m t∈a/\idp m q∈a,
   ⟨gs,o4,o5,o6,rfl,hp,hl,hdone,λq h=>by omega⟩,?_,?_⟩
  ·rintro s d ρ hd ⟨gs,o4,o5,o6,rfl,hp,hl,hdone,hrow⟩
   obtain ⟨hs,rfl⟩:=U4 hd
   have hs:s<=m:=by omega
   simp only [gN,List.set_cons_zero,List.set_cons_succ,Int.zero_add]
   refine Qj3 hm he tw ht hs hp hl λgs' o5 o6 hp' hl' mono hnew=>⟨gs',_,o5,o6,rfl,hp',hl',λp q h1 h2 hE=>?_,λq h1 hE=>?_⟩
   ·obtain ⟨a,ha,x1,x2⟩:=hdone p q h1 h2 hE
    obtain ⟨b,hb,hab⟩:=mono a ha
    exact ⟨b,hb,hab _ x1,hab _ x2⟩
   ·by_cases hq:q=s
    ·subst hq;exact hnew hE
    ·obtain ⟨a,ha,x1,x2⟩:=hrow q (by omega) hE
     obtain ⟨b,hb,hab⟩:=mono a ha
     exact ⟨b,hb,hab _ x1,hab _ x2⟩
  ·rintro ρ ⟨gs,o4,o5,o6,rfl,hp,hl,hdone,hrow⟩
   rw [Jr] at hrow
   refine ⟨gs,_,o4,o5,o6,rfl,hp,hl,λp q h1 h2 hE=>?_⟩
   by_cases hpt:p=t
   ·subst hpt;exact hrow q (by omega) hE
   ·exact hdone p q (by omega) h2 hE
 ·rintro ρ ⟨gs,o3,o4,o5,o6,rfl,hp,hl,hdone⟩
  rw [Jr] at hdone
  simp only [wRet,Qn,Qe,wNil,Qx,look,Ql,Qe7]
  refine ⟨gs,Hang.lead,rfl,by omega,Hang.Qjr hp,λout ho hs=>?_⟩
  have full:∀x y,Ed m e g x y->∃a∈gs,x∈a/\y∈a:=λx y hE=>by
   obtain ⟨p,hpm,rfl⟩:=Qk9 (G.inl x y hE)
   obtain ⟨q,hqm,rfl⟩:=Qk9 (G.inl y _ (G.sy _ y hE))
   exact hdone p q (by omega) hqm hE
  rw [hp.fin G full ho hs]
  exact hP _
theorem Qcv {P:Program} {w:World} {K:PySem.W.Frag} {mg:Str->Option Value} {base:Heap} {f:Addr} {fd:FuncData} (F:Fun K "_law_due" "_law_due" Qu f fd) (B:Bn mg):FnOk P w K mg base CX0 1 f fd ["_law_web_here"] (spR K Y4):=by
 refine Qfl (T:=Xg) F Ji rfl (by decide) (λds kk h=>?_) (Qfr B) (λds kk h=>?_)
 ·obtain ⟨m,e,A,r,g,rfl,_⟩:=h
  rfl
 ·obtain ⟨m,e,A,r,g,rfl,hm,he,tw,k⟩:=h
  have G:=gr tw
  simp only [Xe,wSeq,wSet,env0,webD,List.map_cons,List.map_nil,List.length_cons,List.length_nil,Nat.zero_add,Nat.reduceAdd,List.replicate,List.cons_append,List.nil_append,wIf,wBin,wLst,Qe,Z1,wUn,wC,wNil,sz1,Yn,wMt,Qn,Ue,Ur,Qx,true_and,Yr,Qm,Bool.and_true,Qma,D.pure,Int.reduceNeg,Jp,r_bl,Qbg,Qe6,look,Ql,Ud,G3,List.getElem?_cons_zero,Qbf,Y7,Int.reducePow,Int.toNat_natCast]
  have hlm:((List.range m).map λk=>D.tup ((List.range 4).map λj=>.int (A (4*k+j)))).length=m:=by simp
  rw [hlm]
  refine ⟨by omega,by omega,Gy (λd=>.kls [d]) (by rw [Jr];exact big (by omega)) (λd hd Q' hQ=>?_) ?_⟩
  ·obtain ⟨i,hi,rfl⟩:=Qeb hd
   simp only [Z1,wLst,Qe,Jv,blkE,List.map_nil,wNil,List.length_cons,List.length_nil,Nat.zero_add,sz1,Yr,Qm,Bool.and_true,true_and,Qx,look,Ql,D.pure]
   exact hQ
  have pc:Qm ((List.range m).map λk=>D.tup ((List.range 4).map λj=>.int (A (4*k+j))))=true:=Qy λ_ _=>by simp only [D.pure];exact Qy λ_ _=>rfl
  simp only [List.set_cons_succ,List.set_cons_zero,look,Int.reduceNeg,Ql,Ud,G3,List.getElem?_cons_zero,Qor]
  refine ⟨pc,Gy (λd=>match d with | .tup xs=>.kls xs | d=>d) (by rw [hlm];exact big (by omega)) (λd hd Q' hQ=>?_) ?_⟩
  ·obtain ⟨i,hi,rfl⟩:=List.mem_map.mp hd
   have pi:Qm ((List.range 4).map λj=>D.int (A (4*i+j)))=true:=Qy λ_ _=>rfl
   simp only [Z1,Qn,Qe,blkE,List.map_nil,wNil,Qx,look,Ql,Gh,Yr]
   exact ⟨pi,pi,hQ⟩
  have e1:(rngD 0 m).map (λd=>D.kls [d])=((List.range m).map λ(k:Nat)=>[(k:Int)]).map klsI:=by
   unfold rngD
   rw [List.map_map,List.map_map]
   refine List.map_congr_left λi _=>?_
   show D.kls [.int (0+(i:Int))]=D.kls [.int (i:Int)]
   rw [Int.zero_add]
  have e2:((List.range m).map λk=>D.tup ((List.range 4).map λj=>.int (A (4*k+j)))).map (λd=>match d with | .tup xs=>.kls xs | d=>d)=(List.range m).map λp=>klsI (rowA m e A p):=by
   rw [List.map_map]
   refine List.map_congr_left λi hi=>?_
   show D.kls ((List.range 4).map λj=>.int (A (4*i+j)))=klsI (rowA m e A i)
   unfold rowA klsI
   rw [if_pos (List.mem_range.mp hi),List.map_map];rfl
  rw [e1,e2]
  simp only [List.set_cons_succ,List.set_cons_zero,look,Int.reduceNeg,U1,BEq.rfl,Ql,G9,Xj,Y7,Int.reducePow,Int.toNat_natCast,Ud,Qav,List.getElem?_cons_succ,List.getElem?_cons_zero,Gh,Yr,true_and,Qkx,Qm,D.pure,Bool.and_self,List.length_cons,List.length_nil,Nat.zero_add,List.cons_append,List.nil_append,Qbf,Qmc,Yi]
  have hle:((List.range e).map λj=>D.int (A (4*m+j))).length=e:=by simp
  rw [hle]
  split
  ·rename_i h0
   have he0:¬e=0:=λz=>by subst z;simp at h0
   refine ⟨?_,by simp;exact Nat.le_of_lt (big (by omega)),?_⟩
   ·exact Qy λ_ _=>rfl
   have e3:D.kls [.int (-1)]::((List.range m).map λ(k:Nat)=>[(k:Int)]).map klsI=((Vs m e).map λx=>[x]).map klsI:=by
    unfold Vs
    rw [if_neg he0]
    simp [Function.comp_def]
   rw [e3]
   have h9:=Qeq (r:=r) (P:={ nx:=λ_=>kk .non,rt:=λd _=>kk d }) hm he tw λ_=>k
   simp only [Qak,wSeq,Yn,wMt,look,U1,BEq.rfl,Qe,Z1,Qn,wBin,webD,wC,wNil,Ue,Ur,Qx,List.set_cons_succ,List.set_cons_zero,Ql,G9,Xj,Y7,Int.reducePow,Int.reduceNeg,Int.toNat_natCast,Ud,Qav,List.getElem?_cons_succ,List.getElem?_cons_zero,Gh,Yr,true_and] at h9
   exact h9
  ·rename_i h0
   have he0:e=0:=by
    cases e with
    | zero=>rfl
    | succ e=>exact absurd (decide_eq_true (by omega)) h0
   have e3:((List.range m).map λ(k:Nat)=>[(k:Int)]).map klsI=((Vs m e).map λx=>[x]).map klsI:=by
    unfold Vs
    rw [if_pos he0]
    simp [Function.comp_def]
   rw [e3]
   have h9:=Qeq (r:=r) (P:={ nx:=λ_=>kk .non,rt:=λd _=>kk d }) hm he tw λ_=>k
   simp only [Qak,wSeq,Yn,wMt,look,U1,BEq.rfl,Qe,Z1,Qn,wBin,webD,wC,wNil,Ue,Ur,Qx,List.set_cons_succ,List.set_cons_zero,Ql,G9,Xj,Y7,Int.reducePow,Int.reduceNeg,Int.toNat_natCast,Ud,Qav,List.getElem?_cons_succ,List.getElem?_cons_zero,Gh,Yr,true_and] at h9
   exact h9
end K13
namespace K13
open PySem PySem.Spec L2 PV
open PyProof.Rows (envOfC)
def Yh:GA:=λds k=>∃fs:List (List Int),ds=[.lst (fs.map liI)]/\k (.bl true)
abbrev Qw:Stmt:=top 13
theorem Uq:FnScope ["_law_found","_law_group"] ["_law_found"] (Qd Qw):=⟨rfl,rfl,rfl,by decide +kernel,rfl,by decide +kernel,by decide +kernel⟩
def Gg:Tg:={ own:=λi=>false,io:=[] }
def Gc:WS:=(wSeq (wIf (wOr (wNot (wTru (Qn dIsi (Qe (wVar 0) (Qe (wC (.ty .list)) wNil))))) (wBl (wBin dNe (Va (Vj (wVar 0)) (wNot (wTru (Qn dIsi (Qe (wVar 0) (Qe (wC (.ty .list)) wNil))))) (Jv (wVar 0)) []) (wLst wNil)))) (wRet (wC (.bl false))) Jp)
 (wSeq (Qix (Vj (wVar 0)) 1 (wIf (wBl (wBin dNe (Va (Vj (wVar 1)) (wOr (wNot (wTru (Qn dIsi (Qe (wVar 0) (Qe (wC (.ty .int)) wNil))))) (wTru (Qn dIsi (Qe (wVar 0) (Qe (wC (.ty .bool)) wNil))))) (Jv (wVar 0)) []) (wLst wNil))) (wRet (wC (.bl false))) Jp))
 (wRet (wC (.bl true)))))
theorem Qde {P:Program} {w:World} {K:PySem.W.Frag} {mg:Str->Option Value} {base:Heap} {f:Addr} (B:Bn mg):∀(cdv:Value) (A:Around) (outer:List PySem.Env) (s:Shared) (H:Hp) (E:XK),Room 0 (A.deeper (envOfC "_law_made" (Qd Qw) s.heap.objs.size f cdv))->SVs (cxOf CX0 P w K mg base ["_law_found","_law_group"] "_law_made" (Qd Qw) f cdv A outer s H E).nox Gg (Qr Qw) Gc:=λcdv A outer s H E hr =>
  (Qf (Ub (Vb (Qip (Qdq (Ge (Q3 Qex B.nb_isinstance Yf (Qc (Qa 0) (Qc (Qjy .list B.nb_list Qau) Qj))))) (Qb4 (Jx (Qm9 hr.units) (Zx (Zn [] (Gq (Qa 0)) (λ_ _ _ _ _=>Qb0 (Qdq (Ge (Q3 Qex B.nb_isinstance Yf (Qc (Qa 0) (Qc (Qjy .list B.nb_list Qau) Qj)))))) (λ_ _ _ _ _=>(J1 (Qa 0)))) (Yv (Qd Qw) ["_law_found","_law_group"] (by decide +kernel))) (Yl Qj))))) (Qo (Ze Qbx)) Jz)
  (Qf (Qgl (i₀:=1) PassesOwn.never (Qql (i:=0)) (Qo (Ub (Jx (Qm9 hr.units) (Zx (Zn [] (Gq (Qa 1)) (λ_ _ _ _ _=>Qb0 (Vb (Qip (Qdq (Ge (Q3 Qex B.nb_isinstance Yf (Qc (Qa 0) (Qc (Qjy .int B.nb_int Qle) Qj))))) (Qb4 (Ge (Q3 Qex B.nb_isinstance Yf (Qc (Qa 0) (Qc (Qjy .bool B.nb_bool Qn6) Qj)))))))) (λ_ _ _ _ _=>(J1 (Qa 0)))) (Yv (Qd Qw) ["_law_found","_law_group"] (by decide +kernel))) (Yl Qj)) (Qo (Ze Qbx)) Jz)) Uq.nd)
  (Qo (Ze Qbx))))
theorem Qbm {P:Program} {w:World} {K:PySem.W.Frag} {mg:Str->Option Value} {base:Heap} {f:Addr} {fd:FuncData} (F:Fun K "_law_made" "_law_made" Qw f fd) (B:Bn mg):FnOk P w K mg base CX0 1 f fd ["_law_found"] (spR K Yh):=by
 refine Qfl (T:=Gg) F Uq rfl (by decide) (λds kk h=>?_) (Qde B) (λds kk h=>?_)
 ·obtain ⟨fs,rfl,_⟩:=h
  rfl
 ·obtain ⟨fs,rfl,k⟩:=h
  simp only [Gc,wSeq,wIf,wOr,wNot,env0,List.map_cons,List.map_nil,List.length_cons,List.length_nil,Nat.zero_add,Nat.reduceAdd,List.replicate,List.cons_append,List.nil_append,wRet,wC,Jp,Qkw,Qe6,Qx,reduceIte,r_bl,wBin,wLst,wNil,sz0,true_and,Qbg,X3,Qn,Qe,Qmb,isiD,Qd1,look,Ql,Xi,BEq.rfl,Bool.not_true,Bool.false_eq_true]
  refine ⟨λ_ ys=>ys=[],rfl,λi d ys hd hy=>?_,λys hy=>?_⟩
  ·subst hy
   obtain ⟨l,_,rfl⟩:=List.mem_map.mp (List.mem_of_getElem? hd)
   simp only [List.length_nil,wNot,blkE,liI,List.map_nil,Jv,List.nil_append,Qx,look,Ql,D.pure,Bool.false_eq_true,X3,Qn,Qe,wC,wNil,Qmb,isiD,Qd1,BEq.rfl,Bool.not_true,reduceIte,and_true]
   decide
  ·subst hy
   refine ⟨Nat.zero_le _,rfl,rfl,λ_=>?_,λz=>absurd rfl z⟩
   refine ⟨λt ρ=>∃o1:Option D,ρ=[some (.lst (fs.map liI)),o1],⟨none,rfl⟩,?_,?_⟩
   ·rintro t d ρ hd ⟨o1,rfl⟩
    obtain ⟨l,_,rfl⟩:=List.mem_map.mp (List.mem_of_getElem? hd)
    simp only [wIf,liI,List.set_cons_succ,List.set_cons_zero,wRet,wC,Jp,r_bl,wBin,wLst,wNil,List.length_nil,sz0,true_and,Qbg,Qe6,Qx,look,Ql,Xi]
    refine ⟨λ_ ys=>ys=[],rfl,λi d ys hd hy=>?_,λys hy=>?_⟩
    ·subst hy
     obtain ⟨j,_,rfl⟩:=List.mem_map.mp (List.mem_of_getElem? hd)
     simp only [List.length_nil,wOr,wNot,blkE,List.map_nil,Jv,List.nil_append,Qx,look,Ql,D.pure,true_and,reduceIte,X3,Qn,Qe,wC,wNil,Qmb,isiD,Qd1,BEq.rfl,Bool.not_true,Bool.false_eq_true]
     exact ⟨by decide,by rw [if_neg (by decide)];trivial⟩
    ·subst hy
     exact ⟨Nat.zero_le _,rfl,rfl,λ_=>⟨_,rfl⟩,λz=>absurd rfl z⟩
   ·rintro ρ ⟨o1,rfl⟩
    simp only [wRet,wC]
    exact k
theorem Qr4 (gs:List (List Int)):nF (.lst (gs.map klsI))=.lst (gs.map liI):=by
 rw [nF,Yx,List.map_map]
 congr 1
 exact List.map_congr_left λl _=>Xn l
theorem Qpr (gs:List (List Int)):nF (.lst (gs.map liI))=.lst (gs.map liI):=by
 rw [nF,Yx,List.map_map]
 congr 1
 exact List.map_congr_left λl _=>Qr3 l
theorem Qnt (gs:List (List Int)):eqOk 9 (.lst (gs.map liI))=true:=by
 simp only [eqOk]
 exact Y6 λl _=>by simp only [liI,eqOk];exact Y6 λ_ _=>rfl
theorem Qm2 {m e:Nat} {E:Int->Int->Prop}:(Hang.pcs E (Vs m e) (Vs m e)).length<=m+1/\∀l∈Hang.pcs E (Vs m e) (Vs m e),l.length<=m+1:=by
 have h:=Qa3 m e
 refine ⟨?_,λl hl=>?_⟩
 ·unfold Hang.pcs
  rw [List.length_map]
  exact Nat.le_trans (List.length_filter_le _ _) h
 ·obtain ⟨x,_,rfl⟩:=List.mem_map.mp hl
  exact Nat.le_trans (List.length_filter_le _ _) h
def Qhy:GA:=λds k=>∃ns:List Int,ds=[.kls (ns.map .int)]/\ns.length<=63/\k (.bl true)
abbrev U0:Stmt:=top 14
theorem Vo:FnScope ["_law_script","_law_cell","_law_row","_law_many","_law_web_here","_law_due_here","_law_found","_law_group"] ["_law_script"] (Qd U0):=⟨rfl,rfl,rfl,by decide +kernel,rfl,by decide +kernel,by decide +kernel⟩
def Qob:Tg:={ own:=λi=>i == 1 || i == 2 || i == 3 || i == 4 || i == 5 || i == 6 || i == 7,io:=[] }
def Qn7:WS:=(wSeq (wFor (Vj (wBin dAdd (wLst (Qe (wC (.int 0)) wNil)) (wSl (wVar 0) Qf5 (Qe0 (wC (.int 8)))))) (gN 1) (wSeq (wSet 2 (wLst (Qe (Jv (wVar 1)) (Qe (wC (.int 0)) wNil))))
 (wSeq (wSet 3 (wBin dIx (wLst (Qe (J8 2 Qt (Z8 2 (Qe (wC (.int 4)) wNil))) (Qe (J8 2 Qt (Z8 2 (Qe (wC (.int 11)) wNil))) wNil))) (Qn dInt (Qe (wBin dEq (J8 2 Qt (Z8 2 (Qe (wC (.int 3)) wNil))) (wC (.int 1))) wNil))))
 (wSeq (wIf (wBl (wBin dEq (J8 2 Qt (Z8 2 (Qe (wC (.int 8)) wNil))) (wC (.int 1)))) (wSet 3 (wBin dAdd (wC (.int 11)) (J8 2 Qt (Z8 2 (Qe (wC (.int 30)) wNil))))) Jp)
 (wSeq (wSet 4 (J8 2 Zi (Z8 2 (Qe (Jv (wVar 3)) (Qe (wBin dMul (wC (.int 2)) (J8 2 Qt (Z8 2 (Qe (wC (.int 5)) wNil)))) (Qe (wBin dMul (J8 2 Qt (Z8 2 (Qe (wC (.int 2)) wNil))) (wBin dAdd (wC (.int 1)) (J8 2 Qt (Z8 2 (Qe (wC (.int 6)) wNil))))) wNil))))))
 (wSeq (wSet 5 (Qn Y4 (Qe (wVar 4) wNil)))
 (wSeq (wSet 6 (Qn Yt (Qe (wVar 4) wNil)))
 (wSeq (wIf (wOr (wNot (wTru (Qn Yh (Qe (wVar 6) wNil)))) (wBl (wBin dNeF (wVar 6) (wVar 5)))) (wRet (wC (.bl false))) Jp)
 (wSeq (Z9 6 7 (wC (.int 99)))
 (wSeq (Yn (wMt 6 "list" Zb (Qe (wLst (Qe (wC (.int 99)) wNil)) wNil)))
 (wIf (wBl (wBin dNeF (Qn Yt (Qe (wVar 4) wNil)) (wVar 5))) (wRet (wC (.bl false))) Jp)))))))))))
 (wRet (wC (.bl true))))
theorem Qsj {P:Program} {w:World} {K:PySem.W.Frag} {mg:Str->Option Value} {base:Heap} {f:Addr} {TB:List (Addr × Array Value)} (B:Bn mg) (hB:G7 mg base) (C_pieces:Cal P w K mg base "pieces" 4 ["web"] (spT TB (spR K Yt))) (C__law_take:Cal P w K mg base "_law_take" 1 ["_law_row","_law_base"] (spI K 0 Qt)) (C__law_web:Cal P w K mg base "_law_web" 2 ["_law_row","_law_many","_law_ends","_law_near"] (spI K 0 Zi)) (C__law_due:Cal P w K mg base "_law_due" 1 ["_law_web_here"] (spR K Y4)) (C__law_made:Cal P w K mg base "_law_made" 1 ["_law_found"] (spR K Yh)) {fd:FuncData}:∀(cdv:Value) (A:Around) (outer:List PySem.Env) (s:Shared) (H:Hp) (E:XK),Room 4 (A.deeper (envOfC "law" (Qd U0) s.heap.objs.size f cdv))->Tabs TB H->fd.code=cdv->SVs (cxOf CX0 P w K mg base ["_law_script","_law_cell","_law_row","_law_many","_law_web_here","_law_due_here","_law_found","_law_group"] "law" (Qd U0) f cdv A outer s H E).nox Qob (Qr U0) Qn7:=λcdv A outer s H E hr hT hcv =>
  (Qf (Z5 PassesOwn.never (Gq (Q7 Ys (Yl (Qc Qh Qj)) (Qnq (Qa 0) Qg7 (X7 Qh)))) (J0 (i:=1) Vo.nd) (Qf (Q9 (i:=2) (Yl (Qc (J1 (Qa 1)) (Qc Qh Qj))) Vo.nd)
  (Qf (Q9 (i:=3) (Jw (Ju (Q5 hr)) (Yl (Qc (Jk C__law_take (hr.mono (by decide)) (Ym (i:=2) (Qc Qh Qj))) (Qc (Jk C__law_take (hr.mono (by decide)) (Ym (i:=2) (Qc Qh Qj))) Qj))) (Y5 Qqy B.nb_int Qle (Qc (Qqu (Qjp hr.units) (Jk C__law_take (hr.mono (by decide)) (Ym (i:=2) (Qc Qh Qj))) Qh) Qj))) Vo.nd)
  (Qf (Ub (Jx (Qjp hr.units) (Jk C__law_take (hr.mono (by decide)) (Ym (i:=2) (Qc Qh Qj))) Qh) (Qo (Q9 (i:=3) (Q7 Ys Qh (Jk C__law_take (hr.mono (by decide)) (Ym (i:=2) (Qc Qh Qj)))) Vo.nd)) Jz)
  (Qf (Q9 (i:=4) (Jk C__law_web (hr.mono (by decide)) (Ym (i:=2) (Qc (J1 (Qa 3)) (Qc (Q7 J9 Qh (Jk C__law_take (hr.mono (by decide)) (Ym (i:=2) (Qc Qh Qj)))) (Qc (Q7 J9 (Jk C__law_take (hr.mono (by decide)) (Ym (i:=2) (Qc Qh Qj))) (Q7 Ys Qh (Jk C__law_take (hr.mono (by decide)) (Ym (i:=2) (Qc Qh Qj))))) Qj))))) Vo.nd)
  (Qf (Q9 (i:=5) (V4 C__law_due (hr.mono (by decide)) (Qc (Qa 4) Qj)) Vo.nd)
  (Qf (Q9 (i:=6) (Qem C_pieces (hr.mono (by decide)) hT (Qc (Qa 4) Qj)) Vo.nd)
  (Qf (Ub (Vb (Qip (Qdq (Ge (V4 C__law_made (hr.mono (by decide)) (Qc (Qa 6) Qj)))) (Qb4 (Jx (Qhg hr.units) (Qa 6) (Qa 5))))) (Qo (Ze Qbx)) Jz)
  (Qf (Qgm (j:=6) (t:=7) PassesOwn.never Qh Vo.nd)
  (Qf (Uc (Qbv (i:=6) Vv PySem.F.plainAttrs_list PySem.F.slot_list_append PySem.F.type_list_append (Qc (Yl (Qc Qh Qj)) Qj)))
  (Qo (Ub (Jx (Qhg hr.units) (Qem C_pieces (hr.mono (by decide)) hT (Qc (Qa 4) Qj)) (Qa 5)) (Qo (Ze Qbx)) Jz))))))))))))
  (Qo (Ze Qbx)))
abbrev Qae:WS:=wSeq (wSet 5 (Qn Y4 (Qe (wVar 4) wNil))) (wSeq (wSet 6 (Qn Yt (Qe (wVar 4) wNil))) (wSeq (wIf (wOr (wNot (wTru (Qn Yh (Qe (wVar 6) wNil)))) (wBl (wBin dNeF (wVar 6) (wVar 5)))) (wRet (wC (.bl false))) Jp) (wSeq (Z9 6 7 (wC (.int 99))) (wSeq (Yn (wMt 6 "list" Zb (Qe (wLst (Qe (wC (.int 99)) wNil)) wNil))) (wIf (wBl (wBin dNeF (Qn Yt (Qe (wVar 4) wNil)) (wVar 5))) (wRet (wC (.bl false))) Jp)))))
theorem Qeg {m e:Nat} {A:Nat->Int} {r:Int} {g:Nat->Nat} {o0 o1 o2 o3 o5 o6 o7:Option D} {P:EndsP} (hm:m<=40) (he:e<=12) (tw:M.Tw (4*m+e) A g) (hP:∀o5 o6 o7,P.nx [o0,o1,o2,o3,some (webD m e A r),o5,o6,o7]) :
  Qae P [o0,o1,o2,o3,some (webD m e A r),o5,o6,o7]:=by
 have hfl:=Qm2 (m:=m) (e:=e) (E:=Ed m e g)
 simp only [Qae,wSeq,wSet,Qn,Qe,wNil,wIf,wOr,wNot,wRet,wC,Jp,Z9,lsOf,Yn,wMt,wLst,List.length_cons,List.length_nil,Nat.zero_add,sz1,r_bl,wBin,dNeF,Yi,Bool.false_eq_true,reduceIte,Qx,true_and,X3,List.length_set,look,List.set_cons_succ,List.set_cons_zero,Nat.reduceAdd,Nat.lt_add_one,U1,BEq.rfl,Ql,G9]
 refine ⟨m,e,A,r,g,rfl,hm,he,tw,?_⟩
 refine ⟨m,e,A,r,g,rfl,hm,he,tw,?_⟩
 refine ⟨_,rfl,?_⟩
 simp only [Qd1,Bool.not_true,Bool.false_eq_true,reduceIte]
 rw [Qr4,Qpr]
 have ok:=Qnt (Hang.pcs (Ed m e g) (Vs m e) (Vs m e))
 refine ⟨ok,ok,λ_=>?_,λz=>absurd rfl z⟩
 refine ⟨.int 99,rfl,λq hq=>?_,λρ' Q hQ=>hQ,?_,m,e,A,r,g,rfl,hm,he,tw,?_⟩
 ·obtain ⟨l,hl,rfl⟩:=List.mem_map.mp hq
  exact ⟨_,rfl,by rw [List.length_map];exact big (by have:=hfl.2 l hl;omega)⟩
 ·rw [List.length_map,List.length_map]
  exact big (by have:=hfl.1;omega)
 ·show eqOk 9 (nF (.lst _))=true/\_/\(nF (.lst _)=_->_)/\(nF (.lst _)≠_->_)
  rw [Qpr]
  exact ⟨ok,ok,λ_=>hP _ _ _,λz=>absurd rfl z⟩
theorem Qpm {P:Program} {w:World} {K:PySem.W.Frag} {mg:Str->Option Value} {base:Heap} {f:Addr} {fd:FuncData} {TB:List (Addr × Array Value)} (F:Fun K "law" "law" U0 f fd) (B:Bn mg) (hB:G7 mg base) (C_pieces:Cal P w K mg base "pieces" 4 ["web"] (spT TB (spR K Yt))) (C__law_take:Cal P w K mg base "_law_take" 1 ["_law_row","_law_base"] (spI K 0 Qt)) (C__law_web:Cal P w K mg base "_law_web" 2 ["_law_row","_law_many","_law_ends","_law_near"] (spI K 0 Zi)) (C__law_due:Cal P w K mg base "_law_due" 1 ["_law_web_here"] (spR K Y4)) (C__law_made:Cal P w K mg base "_law_made" 1 ["_law_found"] (spR K Yh)):FnOk P w K mg base CX0 5 f fd ["_law_script"] (spT TB (spR K Qhy)):=by
 refine Qla (T:=Qob) F Vo rfl (by decide) (λds kk h=>?_) (Qsj B hB C_pieces C__law_take C__law_web C__law_due C__law_made) (λds kk h=>?_)
 ·obtain ⟨ns,rfl,_⟩:=h
  rfl
 ·obtain ⟨ns,rfl,hns,k⟩:=h
  simp only [Qn7,wSeq,env0,List.map_cons,List.map_nil,List.length_cons,List.length_nil,Nat.zero_add,Nat.reduceAdd,List.replicate,List.cons_append,List.nil_append,Ue,Qe6,wBin,wLst,Qe,wC,wNil,sz1,wSl,Qf5,Qgp,Qck,Qx,look,Ql,Qrg,Qkx,Qm,D.pure,Bool.and_self,Xi,Bool.true_and,true_and]
  have ec:cutD (ns.map D.int) none (some 8)=(ns.take 8).map D.int:=by
   rw [show (some (8:Int))=some ((8:Nat):Int) from rfl,Qqw,List.map_take]
  rw [ec]
  refine ⟨Jj,Jj,by rw [List.length_map,List.length_take];exact Nat.le_of_lt (big (by omega)),Jj,λt ρ=>∃o1 o2 o3 o4 o5 o6 o7:Option D,ρ=[some (.kls (ns.map .int)),o1,o2,o3,o4,o5,o6,o7],⟨none,none,none,none,none,none,none,rfl⟩,?_,?_⟩
  ·rintro i d ρ hd ⟨o1,o2,o3,o4,o5,o6,o7,rfl⟩
   obtain ⟨c,rfl⟩:∃c,d=.int c:=by
    rcases List.mem_cons.mp (List.mem_of_getElem? hd) with z | z
    ·exact ⟨0,z⟩
    ·obtain ⟨c,_,rfl⟩:=List.mem_map.mp z
     exact ⟨c,rfl⟩
   simp only [gN,wSeq,wSet,wLst,Qe,Jv,List.set_cons_succ,List.set_cons_zero,wC,wNil,List.length_cons,List.length_nil,Nat.zero_add,Nat.reduceAdd,sz2,wBin,J8,Z8,Qm,D.pure,Bool.and_self,List.nil_append,Qn,wIf,Bool.and_true,wOr,wNot,wRet,Jp,Z9,lsOf,Yn,wMt,sz1,r_bl,dNeF,Yi,Bool.false_eq_true,reduceIte,Qx,true_and,X3,List.length_set,look,Option.isSome_some,Nat.lt_add_one,U1,BEq.rfl,Ql,G9,Z2]
   refine ⟨c,0,4,rfl,by decide,by decide,by decide,by decide,λc1 r1 a1 b1=>?_⟩
   simp only [rowD,Int.reduceAdd,Z2,Qm,D.pure,Bool.and_self,true_and]
   refine ⟨c1,1,11,rfl,by decide,by decide,by decide,by decide,λc2 r2 a2 b2=>?_⟩
   simp only [rowD,Int.reduceAdd,Z2,Qm,D.pure,Bool.and_self,true_and]
   refine ⟨c2,1+1,3,rfl,by decide,by decide,by decide,by decide,λc3 r3 a3 b3=>?_⟩
   simp only [rowD,Int.reduceAdd,Z2,Qm,D.pure,Bool.and_self,true_and,Qi6,Qox,Qcj]
   obtain ⟨m0,hm0,hat⟩:∃m:Nat,m<=10/\L2.atI [D.int r1,D.int r2] (if decide (r3=1)=true then 1 else 0)=some (.int (m:Int)):=by
    split
    ·exact ⟨r2.toNat,by omega,by rw [Qav,show ((r2.toNat:Nat):Int)=r2 by omega];rfl⟩
    ·exact ⟨r1.toNat,by omega,by rw [G3,show ((r1.toNat:Nat):Int)=r1 by omega];rfl⟩
   rw [hat]
   simp only [Ql,D.pure,Bool.true_and,true_and]
   refine ⟨c3,3,8,rfl,by decide,by decide,by decide,by decide,λc4 r4 a4 b4=>?_⟩
   simp only [rowD,Int.reduceAdd,Z2,Qm,D.pure,Bool.and_self,true_and,Qi6,Yi]
   split
   ·refine ⟨c4,4,30,rfl,by decide,by decide,by decide,by decide,λc5 r5 a5 b5=>?_⟩
    obtain ⟨m1,rfl⟩:=Int.eq_ofNat_of_zero_le a5
    simp only [rowD,Int.reduceAdd,Z2,Qm,D.pure,Bool.and_self,true_and,Qcn,Bool.true_and]
    refine ⟨c5,5,5,rfl,by decide,by decide,by decide,by decide,λc6 r6 a6 b6=>?_⟩
    obtain ⟨h,rfl⟩:=Int.eq_ofNat_of_zero_le a6
    simp only [rowD,Int.reduceAdd,Z2,Qm,D.pure,Bool.and_self,true_and,Int.reduceNeg,Int.reduceLT,Z6,Bool.true_and]
    refine ⟨c6,6,2,rfl,by decide,by decide,by decide,by decide,λc7 r7 a7 b7=>?_⟩
    simp only [rowD,Int.reduceAdd,Z2,Qm,D.pure,Bool.and_self,true_and]
    refine ⟨c7,7,6,rfl,by decide,by decide,by decide,by decide,λc8 r8 a8 b8=>?_⟩
    have hr1:-18446744073709551616<r7:=by omega
    have hr2:r7<18446744073709551616:=by omega
    have hr3:-18446744073709551616<1+r8:=by omega
    have hr4:1+r8<18446744073709551616:=by omega
    simp only [rowD,Int.reduceAdd,Z2,Qm,D.pure,Bool.and_self,true_and,Qcn,Int.reduceNeg,hr1,hr2,Z6]
    refine ⟨c8,8,r7*(1+r8),11+m1,2*h,by simp [rowD],by omega,by omega,by omega,by omega,by omega,λc9 n9 A g r tw hA _ _=>?_⟩
    have h9:=Qeg (r:=r) (o0:=some (.kls (ns.map .int))) (o1:=some (.int c)) (o2:=some (rowD c9 n9)) (o3:=some (.int ((11+m1:Nat):Int))) (o5:=o5) (o6:=o6) (o7:=o7) (P:={ nx:=λρ=>∃o1 o2 o3 o4 o5 o6 o7:Option D,ρ=[some (.kls (ns.map .int)),o1,o2,o3,o4,o5,o6,o7],rt:=λd _=>kk d }) (m:=11+m1) (e:=2*h) (by omega) (by omega) tw λ_ _ _=>⟨_,_,_,_,_,_,_,rfl⟩
    simp only [Qae,wSeq,wSet,Qn,Qe,wNil,wIf,wOr,wNot,wRet,wC,Jp,Z9,lsOf,Yn,wMt,wLst,List.length_cons,List.length_nil,Nat.zero_add,sz1,r_bl,wBin,dNeF,Yi,Bool.false_eq_true,reduceIte,Qx,true_and,X3,List.length_set,look,List.set_cons_succ,List.set_cons_zero,Nat.reduceAdd,Nat.lt_add_one,U1,BEq.rfl,Ql,G9] at h9
    exact h9
   ·refine ⟨c4,4,5,rfl,by decide,by decide,by decide,by decide,λc6 r6 a6 b6=>?_⟩
    obtain ⟨h,rfl⟩:=Int.eq_ofNat_of_zero_le a6
    simp only [rowD,Int.reduceAdd,Z2,Qm,D.pure,Bool.and_self,true_and,Int.reduceNeg,Int.reduceLT,Z6,Bool.true_and]
    refine ⟨c6,5,2,rfl,by decide,by decide,by decide,by decide,λc7 r7 a7 b7=>?_⟩
    simp only [rowD,Int.reduceAdd,Z2,Qm,D.pure,Bool.and_self,true_and]
    refine ⟨c7,6,6,rfl,by decide,by decide,by decide,by decide,λc8 r8 a8 b8=>?_⟩
    have hr1:-18446744073709551616<r7:=by omega
    have hr2:r7<18446744073709551616:=by omega
    have hr3:-18446744073709551616<1+r8:=by omega
    have hr4:1+r8<18446744073709551616:=by omega
    simp only [rowD,Int.reduceAdd,Z2,Qm,D.pure,Bool.and_self,true_and,Qcn,Int.reduceNeg,hr1,hr2,Z6]
    refine ⟨c8,7,r7*(1+r8),m0,2*h,by simp [rowD],by omega,by omega,by omega,by omega,by omega,λc9 n9 A g r tw hA _ _=>?_⟩
    have h9:=Qeg (r:=r) (o0:=some (.kls (ns.map .int))) (o1:=some (.int c)) (o2:=some (rowD c9 n9)) (o3:=some (.int ((m0:Nat):Int))) (o5:=o5) (o6:=o6) (o7:=o7) (P:={ nx:=λρ=>∃o1 o2 o3 o4 o5 o6 o7:Option D,ρ=[some (.kls (ns.map .int)),o1,o2,o3,o4,o5,o6,o7],rt:=λd _=>kk d }) (m:=m0) (e:=2*h) (by omega) (by omega) tw λ_ _ _=>⟨_,_,_,_,_,_,_,rfl⟩
    simp only [Qae,wSeq,wSet,Qn,Qe,wNil,wIf,wOr,wNot,wRet,wC,Jp,Z9,lsOf,Yn,wMt,wLst,List.length_cons,List.length_nil,Nat.zero_add,sz1,r_bl,wBin,dNeF,Yi,Bool.false_eq_true,reduceIte,Qx,true_and,X3,List.length_set,look,List.set_cons_succ,List.set_cons_zero,Nat.reduceAdd,Nat.lt_add_one,U1,BEq.rfl,Ql,G9] at h9
    exact h9
  ·rintro ρ ⟨o1,o2,o3,o4,o5,o6,o7,rfl⟩
   simp only [wRet,wC]
   exact k
end K13
namespace K13
open PySem PySem.Spec L2 PV
open PyProof.Rows (envOfC)
theorem Qq1 {l:PySem.W.OpenLaw} {w:World} {K:PySem.W.Frag} {h:Heap} {mg:Str->Option Value} {fa:Addr} (X:K.In h) (G:h.Ns mainGlobals mg) (hfa:mg "law" = some (.ref fa))
  {f1:Addr} {od1 an1:Option Addr} {sl1:Array (Option Value)} {oc1 kV1 dc1 pm1 cd1 ct1:Value}
  (a1:PySem.W.nsIn K mainGlobals "places" = some (some (.ref f1))) (l1:K.lookup f1=some ⟨oc1,od1,.func (PySem.W.fnOf "places" "places" (Js Yb) (Qr Yb) (Qd Yb) .none kV1 dc1 pm1 an1 cd1 ct1),sl1⟩) (c1:PySem.W.codeIn K cd1 "places" = true) (k1:PySem.W.keepIn K (.ref f1)=true)
  {f2:Addr} {od2 an2:Option Addr} {sl2:Array (Option Value)} {oc2 kV2 dc2 pm2 cd2 ct2:Value}
  (a2:PySem.W.nsIn K mainGlobals "neighbours" = some (some (.ref f2))) (l2:K.lookup f2=some ⟨oc2,od2,.func (PySem.W.fnOf "neighbours" "neighbours" (Js Q1) (Qr Q1) (Qd Q1) .none kV2 dc2 pm2 an2 cd2 ct2),sl2⟩) (c2:PySem.W.codeIn K cd2 "neighbours" = true) (k2:PySem.W.keepIn K (.ref f2)=true)
  {f3:Addr} {od3 an3:Option Addr} {sl3:Array (Option Value)} {oc3 kV3 dc3 pm3 cd3 ct3:Value}
  (a3:PySem.W.nsIn K mainGlobals "piece_from" = some (some (.ref f3))) (l3:K.lookup f3=some ⟨oc3,od3,.func (PySem.W.fnOf "piece_from" "piece_from" (Js Q0) (Qr Q0) (Qd Q0) .none kV3 dc3 pm3 an3 cd3 ct3),sl3⟩) (c3:PySem.W.codeIn K cd3 "piece_from" = true) (k3:PySem.W.keepIn K (.ref f3)=true)
  {f4:Addr} {od4 an4:Option Addr} {sl4:Array (Option Value)} {oc4 kV4 dc4 pm4 cd4 ct4:Value}
  (a4:PySem.W.nsIn K mainGlobals "parted" = some (some (.ref f4))) (l4:K.lookup f4=some ⟨oc4,od4,.func (PySem.W.fnOf "parted" "parted" (Js Yd) (Qr Yd) (Qd Yd) .none kV4 dc4 pm4 an4 cd4 ct4),sl4⟩) (c4:PySem.W.codeIn K cd4 "parted" = true) (k4:PySem.W.keepIn K (.ref f4)=true)
  {f5:Addr} {od5 an5:Option Addr} {sl5:Array (Option Value)} {oc5 kV5 dc5 pm5 cd5 ct5:Value}
  (a5:PySem.W.nsIn K mainGlobals "pieces" = some (some (.ref f5))) (l5:K.lookup f5=some ⟨oc5,od5,.func (PySem.W.fnOf "pieces" "pieces" (Js Yc) (Qr Yc) (Qd Yc) .none kV5 dc5 pm5 an5 cd5 ct5),sl5⟩) (c5:PySem.W.codeIn K cd5 "pieces" = true) (k5:PySem.W.keepIn K (.ref f5)=true)
  {f6:Addr} {od6 an6:Option Addr} {sl6:Array (Option Value)} {oc6 kV6 dc6 pm6 cd6 ct6:Value}
  (a6:PySem.W.nsIn K mainGlobals "_law_take" = some (some (.ref f6))) (l6:K.lookup f6=some ⟨oc6,od6,.func (PySem.W.fnOf "_law_take" "_law_take" (Js Ja) (Qr Ja) (Qd Ja) .none kV6 dc6 pm6 an6 cd6 ct6),sl6⟩) (c6:PySem.W.codeIn K cd6 "_law_take" = true) (k6:PySem.W.keepIn K (.ref f6)=true)
  {f7:Addr} {od7 an7:Option Addr} {sl7:Array (Option Value)} {oc7 kV7 dc7 pm7 cd7 ct7:Value}
  (a7:PySem.W.nsIn K mainGlobals "_law_web" = some (some (.ref f7))) (l7:K.lookup f7=some ⟨oc7,od7,.func (PySem.W.fnOf "_law_web" "_law_web" (Js Je) (Qr Je) (Qd Je) .none kV7 dc7 pm7 an7 cd7 ct7),sl7⟩) (c7:PySem.W.codeIn K cd7 "_law_web" = true) (k7:PySem.W.keepIn K (.ref f7)=true)
  {f8:Addr} {od8 an8:Option Addr} {sl8:Array (Option Value)} {oc8 kV8 dc8 pm8 cd8 ct8:Value}
  (a8:PySem.W.nsIn K mainGlobals "_law_due" = some (some (.ref f8))) (l8:K.lookup f8=some ⟨oc8,od8,.func (PySem.W.fnOf "_law_due" "_law_due" (Js Qu) (Qr Qu) (Qd Qu) .none kV8 dc8 pm8 an8 cd8 ct8),sl8⟩) (c8:PySem.W.codeIn K cd8 "_law_due" = true) (k8:PySem.W.keepIn K (.ref f8)=true)
  {f9:Addr} {od9 an9:Option Addr} {sl9:Array (Option Value)} {oc9 kV9 dc9 pm9 cd9 ct9:Value}
  (a9:PySem.W.nsIn K mainGlobals "_law_made" = some (some (.ref f9))) (l9:K.lookup f9=some ⟨oc9,od9,.func (PySem.W.fnOf "_law_made" "_law_made" (Js Qw) (Qr Qw) (Qd Qw) .none kV9 dc9 pm9 an9 cd9 ct9),sl9⟩) (c9:PySem.W.codeIn K cd9 "_law_made" = true) (k9:PySem.W.keepIn K (.ref f9)=true)
  {f10:Addr} {od10 an10:Option Addr} {sl10:Array (Option Value)} {oc10 kV10 dc10 pm10 cd10 ct10:Value}
  (a10:PySem.W.nsIn K mainGlobals "law" = some (some (.ref f10))) (l10:K.lookup f10=some ⟨oc10,od10,.func (PySem.W.fnOf "law" "law" (Js U0) (Qr U0) (Qd U0) .none kV10 dc10 pm10 an10 cd10 ct10),sl10⟩) (c10:PySem.W.codeIn K cd10 "law" = true) (k10:PySem.W.keepIn K (.ref f10)=true)
  (z_bool:PySem.W.nsIn K mainGlobals "bool" = some none)
  (z_enumerate:PySem.W.nsIn K mainGlobals "enumerate" = some none)
  (z_int:PySem.W.nsIn K mainGlobals "int" = some none)
  (z_isinstance:PySem.W.nsIn K mainGlobals "isinstance" = some none)
  (z_len:PySem.W.nsIn K mainGlobals "len" = some none)
  (z_list:PySem.W.nsIn K mainGlobals "list" = some none)
  (z_min:PySem.W.nsIn K mainGlobals "min" = some none)
  (z_range:PySem.W.nsIn K mainGlobals "range" = some none)
  (z_sorted:PySem.W.nsIn K mainGlobals "sorted" = some none)
  (z_tuple:PySem.W.nsIn K mainGlobals "tuple" = some none)
  {tk_RIM:Tok} (z_RIM:PySem.W.nsIn K mainGlobals "RIM" = some (some (.int (-1) tk_RIM)))
  {ts:List Addr} {c_pieces P_pieces:Addr} (z_pieces:cd5=.ref c_pieces) (x_tab:ts=[P_pieces]) (xh_pieces:PySem.W.codeHdIn K c_pieces P_pieces=true)
  : ∃fd:FuncData,(∀(s:Shared) (v:Value),BindsTo s fd ⟨[v],[]⟩ [("_law_script",v)])/\(∀p∈TBof ts,∃c,PySem.W.codeHdIn K c p.1=true)/\∀base:Heap,K.In base->base.Ns mainGlobals mg->G7 mg base->FnOk l.prog w K mg base CX0 5 fa fd ["_law_script"] (spT (TBof ts) (spR K Qhy)):=by
 have e:=hfa.symm.trans (PySem.W.mg_of X G a10)
 cases e
 have B:Bn mg:=⟨PySem.W.mg_none_of X G z_bool,PySem.W.mg_none_of X G z_enumerate,PySem.W.mg_none_of X G z_int,PySem.W.mg_none_of X G z_isinstance,PySem.W.mg_none_of X G z_len,PySem.W.mg_none_of X G z_list,PySem.W.mg_none_of X G z_min,PySem.W.mg_none_of X G z_range,PySem.W.mg_none_of X G z_sorted,PySem.W.mg_none_of X G z_tuple,⟨tk_RIM,PySem.W.mg_of X G z_RIM⟩⟩
 have F1:=Z7 (st:=Yb) l1 c1 k1
 have F2:=Z7 (st:=Q1) l2 c2 k2
 have F3:=Z7 (st:=Q0) l3 c3 k3
 have F4:=Z7 (st:=Yd) l4 c4 k4
 have F5:=Z7 (st:=Yc) l5 c5 k5
 have F6:=Z7 (st:=Ja) l6 c6 k6
 have F7:=Z7 (st:=Je) l7 c7 k7
 have F8:=Z7 (st:=Qu) l8 c8 k8
 have F9:=Z7 (st:=Qw) l9 c9 k9
 have F10:=Z7 (st:=U0) l10 c10 k10
 refine ⟨PySem.W.fnOf "law" "law" (Js U0) (Qr U0) (Qd U0) .none kV10 dc10 pm10 an10 cd10 ct10,λs v=>.of_eq rfl,(λp hp=>by obtain ⟨P,hP,rfl⟩:=List.mem_map.mp hp;rw [x_tab] at hP;rw [List.mem_singleton.mp hP];exact ⟨_,xh_pieces⟩),λbase _ _ hB=>?_⟩
 have hP_pieces:(P_pieces,tgOf Vx Jb.qual)∈TBof ts:=List.mem_map.mpr ⟨P_pieces,by rw [x_tab];simp,rfl⟩
 have C_places:Cal l.prog w K mg base "places" 1 ["web"] (spR K Zv):=⟨f1,_,Qhb F1 B,PySem.W.mg_of X G a1,k1,F1.binds λ_ _ _ _ _ _ us hl=>by obtain ⟨_,rfl⟩:=len1 hl;rfl⟩
 have C_neighbours:Cal l.prog w K mg base "neighbours" 2 ["web"] (spR K J6):=⟨f2,_,X9 F2 B C_places,PySem.W.mg_of X G a2,k2,F2.binds λ_ _ _ _ _ _ us hl=>by obtain ⟨_,rfl⟩:=len1 hl;rfl⟩
 have C_piece_from:Cal l.prog w K mg base "piece_from" 1 ["beside","first"] (spR K Yu):=⟨f3,_,X8 F3 B,PySem.W.mg_of X G a3,k3,F3.binds λ_ _ _ _ _ _ us hl=>by obtain ⟨_,_,rfl⟩:=len2 hl;rfl⟩
 have Lm_pieces:Qce l.prog w K mg base 2 Jb (spR K Zj):=Qfj B C_piece_from
 have C_parted:Cal l.prog w K mg base "parted" 3 ["members","group_from"] (spR K V3):=⟨f4,_,Qhd F4 B Lm_pieces,PySem.W.mg_of X G a4,k4,F4.binds λ_ _ _ _ _ _ us hl=>by obtain ⟨_,_,rfl⟩:=len2 hl;rfl⟩
 have C_pieces:Cal l.prog w K mg base "pieces" 4 ["web"] (spT (TBof ts) (spR K Yt)):=⟨f5,_,Qhc F5 B hB C_neighbours C_parted (c_pieces:=c_pieces) z_pieces xh_pieces hP_pieces,PySem.W.mg_of X G a5,k5,F5.binds λ_ _ _ _ _ _ us hl=>by obtain ⟨_,rfl⟩:=len1 hl;rfl⟩
 have C__law_take:Cal l.prog w K mg base "_law_take" 1 ["_law_row","_law_base"] (spI K 0 Qt):=⟨f6,_,Qbl F6 B,PySem.W.mg_of X G a6,k6,F6.binds λ_ _ _ _ _ _ us hl=>by obtain ⟨_,_,rfl⟩:=len2 hl;rfl⟩
 have C__law_web:Cal l.prog w K mg base "_law_web" 2 ["_law_row","_law_many","_law_ends","_law_near"] (spI K 0 Zi):=⟨f7,_,Qcu F7 B C__law_take,PySem.W.mg_of X G a7,k7,F7.binds λ_ _ _ _ _ _ us hl=>by obtain ⟨_,_,_,_,rfl⟩:=len4 hl;rfl⟩
 have C__law_due:Cal l.prog w K mg base "_law_due" 1 ["_law_web_here"] (spR K Y4):=⟨f8,_,Qcv F8 B,PySem.W.mg_of X G a8,k8,F8.binds λ_ _ _ _ _ _ us hl=>by obtain ⟨_,rfl⟩:=len1 hl;rfl⟩
 have C__law_made:Cal l.prog w K mg base "_law_made" 1 ["_law_found"] (spR K Yh):=⟨f9,_,Qbm F9 B,PySem.W.mg_of X G a9,k9,F9.binds λ_ _ _ _ _ _ us hl=>by obtain ⟨_,rfl⟩:=len1 hl;rfl⟩
 exact Qpm F10 B hB C_pieces C__law_take C__law_web C__law_due C__law_made
theorem Qp3 {K:PySem.W.Frag} {H:Hp} {a:Addr} {ns:List Int} {ts:List Addr} (hl:ns.length<=63) (ho:Qkj H) (hT:Tabs (TBof ts) H) (hS:SqL K H a (ns.map V.int)):spT (TBof ts) (spR K Qhy) [.ref a] H (λv _=>v=.bl true) λ_ _ _=>False:=by
 have fz:FzL K H a (ns.map V.int):=by
  rcases hS with (h | h) | h
  ·rcases ho a with z | ⟨o,xs,z⟩ | ⟨ps,z⟩
   ·rw [z] at h;cases h
   ·rw [z] at h;cases h
   ·rw [z] at h;cases h
  ·exact .inl h
  ·exact .inr h
 refine ⟨hT,[.kls (ns.map .int)],[],λd=>d=.bl true,?_,⟨ns,rfl,hl,rfl⟩,λv H' d F' fi hd=>?_⟩
 ·exact .cons (F:=[]) (G:=[]) (.kls fz (Reps.ints ns)) .nil
 ·subst hd
  exact Qks fi.rep
theorem walk {l:PySem.W.OpenLaw} {q:Program} {loose:List Str} {XP:(Str->Option Value)->Heap->Prop} {d:DefRec} {K:Params->PySem.W.Frag} {as:List Addr} {e:∀P,as=(K P).map (·.1)} {ts:List Addr} (hn:l.most=some 63) (hdf:d.params.defaults=[])
  (hnt:∀w:World,PySem.W.noTabs (K w.params)=true)
  (F:∀(w:World) (mg:Str->Option Value) (fa:Addr) (h:Heap),(K w.params).In h->h.Ns mainGlobals mg->mg d.name=some (.ref fa) ->
   ∃fd:FuncData,(∀(s:Shared) (u:Value),BindsTo s fd ⟨[u],[]⟩ [("_law_script",u)])/\(∀p∈TBof ts,∃c,PySem.W.codeHdIn (K w.params) c p.1=true)/\∀base:Heap,(K w.params).In base->base.Ns mainGlobals mg->G7 mg base->FnOk l.prog w (K w.params) mg base CX0 5 fa fd ["_law_script"] (spT (TBof ts) (spR (K w.params) Qhy))) :
  PySem.W.WalkO q loose XP (PySem.W.kmHook K as e ts).says l.row.toRowW d [] (λf vs=>PySem.call f vs) :=
 L2.Qiv (n:=63) (k:=5) (x:="_law_script") (CX:=λ_=>CX0) (TB:=TBof ts) (sp:=λw=>spT (TBof ts) (spR (K w.params) Qhy)) hn (by decide) hdf ⟨rfl,by decide,by decide⟩ (λw h Y=>PySem.W.km_in_of Y)
  (λw h Y p hp=>by obtain ⟨P,hP,rfl⟩:=List.mem_map.mp hp;exact PySem.W.km_tabs_of Y P hP) hnt Qbq F (λ_ _ a ns hl ho ht hS=>Qp3 hl ho ht hS) λ_ _ _ _ _ z=>z
end K13
open PySem PySem.W PyProof.Rows
def PySem.W.Fast.tw3956598938530502848:=0
def PySem.W.Fast.tw1393320940568460540:=0
def PySem.W.Fast.tw16294118644904789339:=0
def PySem.W.Fast.tw12459263881946020402:=0
def PySem.W.Fast.tw4852363352632450421:=0
def PySem.W.Fast.tw9832142324483352936:=0
def PySem.W.Fast.tw12515496343616564449:=0
def PySem.W.Fast.tw13785909411903435796:=0
def PySem.W.Fast.tw3698496602506608927:=0
def PySem.W.Fast.tw5841915780928018781:=0
def PySem.W.Fast.tw18438350403730374603:=0
def PySem.W.Fast.tw14395078387754058233:=0
def PySem.W.Fast.tw13771716858307823370:=0
def PySem.W.Fast.tw2419642605670245598:=0
def PySem.W.Fast.tw13699239491929678726:=0
def PySem.W.Fast.tw827334477861220416:=0
def PySem.W.Fast.tw2681842621179145430:=0
def PySem.W.Fast.tw16661178037390551417:=0
def PySem.W.Fast.tw16324610208143846588:=0
def PySem.W.Fast.tw13688404580681428264:=0
def PySem.W.Fast.tw14872209228286286628:=0
def PySem.W.Fast.tw11167300151471377532:=0
def PySem.W.Fast.tw1094959204311839535:=0
def PySem.W.Fast.tw14474318331688627083:=0
def PySem.W.Fast.tw2488276530784666894:=0
def PySem.W.Fast.tw301046223053621392:=0
def PySem.W.Fast.tw3222921191752336325:=0
def PySem.W.Fast.tw16220084158567715524:=0
def PySem.W.Fast.tw5347637533683968168:=0
def PySem.W.Fast.tw17307776308346953253:=0
def PySem.W.Fast.tw14896010117773679435:=0
def PySem.W.Fast.tw11892182372446425917:=0
def PySem.W.Fast.tw10503398056198065728:=0
def PySem.W.Fast.tw14498231642453488638:=0
def PySem.W.Fast.tw3731215296274373627:=0
def PySem.W.Fast.tw110099549233071052:=0
def PySem.W.Fast.tw4466879605948841492:=0
def PySem.W.Fast.tw7982112788996818557:=0
def PySem.W.Fast.tw1126390105988583825:=0
def PySem.W.Fast.tw16134702040075233581:=0
def PySem.W.Fast.tw13331047018412402202:=0
def PySem.W.Fast.tw15089171856913004124:=0
def PySem.W.Fast.tw16643594706017393636:=0
def PySem.W.Fast.tw16579471308261437749:=0
def PySem.W.Fast.tw17127469206389026525:=0
def PySem.W.Fast.tw2360924616122356323:=0
def PySem.W.Fast.tw13282923186922477041:=0
def PySem.W.Fast.tw6711754615951844392:=0
def PySem.W.Fast.tw6822869176850759649:=0
def PySem.W.Fast.tw15836147456414585291:=0
def PySem.W.Fast.tw11331441337662368482:=0
def PySem.W.Fast.tw16734132182908614309:=0
def PySem.W.Fast.tw17024346484531484630:=0
def PySem.W.Fast.tw1587648073134995112:=0
def PySem.W.Fast.tw16664622758516762398:=0
def PySem.W.Fast.tw11557671598126265611:=0
def PySem.W.Fast.tw10620472433658284192:=0
def PySem.W.Fast.tw4765007115233175256:=0
def PySem.W.Fast.tw1452262660492951906:=0
def PySem.W.Fast.tw8068085238678617359:=0
def PySem.W.Fast.tw17654942051584222675:=0
def PySem.W.Fast.tw5436922239841913624:=0
def PySem.W.Fast.tw3642180057800384988:=0
def PySem.W.Fast.tw1730500924227147362:=0
def PySem.W.Fast.tw9105771027769759980:=0
def PySem.W.Fast.tw3161100960613647060:=0
def PySem.W.Fast.tw4752435437343474315:=0
def PySem.W.Fast.tw13001630365008530507:=0
def PySem.W.Fast.tw5910261263471614569:=0
def PySem.W.Fast.tw14483209342466580483:=0
def PySem.W.Fast.tw14780747757203441913:=0
def PySem.W.Fast.tw17812296697766260527:=0
def PySem.W.Fast.tw14039758328723859676:=0
def PySem.W.Fast.tw13633091253865152372:=0
set_option maxRecDepth 100000 in
set_option maxHeartbeats 0 in
theorem PySem.Challenge.cw_tanglehouse_k13_pieces_hang_together_holds : PySem.Challenge.rw_tanglehouse_k13_pieces_hang_together.Holds := by
 w_on;o_law;k_head;(case hw=>w_witness2)
 k_fill
 refine K13.walk (l:=PySem.Challenge.rw_tanglehouse_k13_pieces_hang_together) rfl rfl ?nt9 ?F
 case nt9=>exact λw=>by kernel_rfl
 case F =>
  intro w mg fa h KX G hmg
  refine' K13.Qq1 KX G hmg ?a1 ?l1 ?c1 ?k1 ?a2 ?l2 ?c2 ?k2 ?a3 ?l3 ?c3 ?k3 ?a4 ?l4 ?c4 ?k4 ?a5 ?l5 ?c5 ?k5 ?a6 ?l6 ?c6 ?k6 ?a7 ?l7 ?c7 ?k7 ?a8 ?l8 ?c8 ?k8 ?a9 ?l9 ?c9 ?k9 ?a10 ?l10 ?c10 ?k10 ?z_bool ?z_enumerate ?z_int ?z_isinstance ?z_len ?z_list ?z_min ?z_range ?z_sorted ?z_tuple ?z_RIM ?z_pieces ?x_tab ?xh_pieces
  (case a1=>k_is)
  (case l1=>k_is)
  (case c1=>k_is)
  (case k1=>k_is)
  (case a2=>k_is)
  (case l2=>k_is)
  (case c2=>k_is)
  (case k2=>k_is)
  (case a3=>k_is)
  (case l3=>k_is)
  (case c3=>k_is)
  (case k3=>k_is)
  (case a4=>k_is)
  (case l4=>k_is)
  (case c4=>k_is)
  (case k4=>k_is)
  (case a5=>k_is)
  (case l5=>k_is)
  (case c5=>k_is)
  (case k5=>k_is)
  (case a6=>k_is)
  (case l6=>k_is)
  (case c6=>k_is)
  (case k6=>k_is)
  (case a7=>k_is)
  (case l7=>k_is)
  (case c7=>k_is)
  (case k7=>k_is)
  (case a8=>k_is)
  (case l8=>k_is)
  (case c8=>k_is)
  (case k8=>k_is)
  (case a9=>k_is)
  (case l9=>k_is)
  (case c9=>k_is)
  (case k9=>k_is)
  (case a10=>k_is)
  (case l10=>k_is)
  (case c10=>k_is)
  (case k10=>k_is)
  (case z_bool=>first | k_is | rfl | decide +kernel)
  (case z_enumerate=>first | k_is | rfl | decide +kernel)
  (case z_int=>first | k_is | rfl | decide +kernel)
  (case z_isinstance=>first | k_is | rfl | decide +kernel)
  (case z_len=>first | k_is | rfl | decide +kernel)
  (case z_list=>first | k_is | rfl | decide +kernel)
  (case z_min=>first | k_is | rfl | decide +kernel)
  (case z_range=>first | k_is | rfl | decide +kernel)
  (case z_sorted=>first | k_is | rfl | decide +kernel)
  (case z_tuple=>first | k_is | rfl | decide +kernel)
  (case z_RIM=>first | k_is | rfl | decide +kernel)
  (case z_pieces=>first | k_is | rfl | decide +kernel)
  (case x_tab=>first | k_is | rfl | decide +kernel)
  (case xh_pieces=>kernel_rfl)
