import PyProof.Rows.All
import Wide.All
import OpenK.AllK
import Wide.FinOn
import Lean
import PyProof.EqAt
import PyProof.EqKinds
import PyProof.TupleCall
import PyProof.EnumMake
import PyProof.EnumFor
import PyProof.Draws
import PyProof.DictWalks
import PyProof.ListRange
import PyProof.ZipIter
import PyProof.Rows.SortWalk
import PyProof.Rows.SumAny
import PyProof.TupleIter
import PyProof.MeetsStr2
import PyProof.StrWalks
import Wide.Txt
import PyProof.Rows.SortRuns
import PyProof.Rows.MinMaxN
import PyProof.ExcClass2
import PyProof.NsDelKeeps
import PyProof.ExcArgsOwn
import PyProof.ExcAttrAll.ValueError
import PyProof.ExcBaseAll.ValueError
import PyProof.ExcInit
import PyProof.InstStoreFacts
import PyProof.Rows.MatchSeqLen
import PySem.Challenge.RW_tanglehouse_k41_order_and_fronts
set_option Elab.async false
set_option linter.all false
set_option maxRecDepth 100000
set_option maxHeartbeats 4000000
variable {us:List PySem.Value}
namespace L2
open PySem PySem.Spec PyProof.Rows
abbrev Key:=Sum Int Str
def Qb8:Key->Value->Bool
 | .inl k,v=>Value.isInt k v
 | .inr x,v=>Value.isStrOf x v
def keyH (w:World):Key->Int
 | .inl k=>hashInt k
 | .inr x=>hashStr w x
theorem Q8:∀{k:Key} {v:Value},Qb8 k v=true->(∃i t,k=Sum.inl i/\v=Value.int i t)\/(∃x t,k=Sum.inr x/\v=Value.str x t)
 | .inl i,v,h=>by
  obtain ⟨t,e⟩:=Value.isInt_shape (k:=i) (v:=v) h
  exact .inl ⟨i,t,rfl,e⟩
 | .inr x,v,h=>by
  obtain ⟨t,e⟩:=Value.isStrOf_shape (x:=x) (v:=v) h
  exact .inr ⟨x,t,rfl,e⟩
theorem Qfo (i:Int) (t:Tok):Qb8 (.inl i) (.int i t)=true:=by simp [Qb8,Value.isInt]
theorem Qfn (x:Str) (t:Tok):Qb8 (.inr x) (.str x t)=true:=by simp [Qb8,Value.isStrOf]
theorem Qmv (a b:Int):decide ((Sum.inl a:Key)=Sum.inl b)=(a == b):=by
 by_cases e:a=b
 ·subst e;simp
 ·have h:¬(Sum.inl a:Key)=Sum.inl b:=λq=>e (Sum.inl.inj q)
  rw [decide_eq_false h]
  exact (beq_eq_false_iff_ne.mpr e).symm
theorem Qms (a b:Str):decide ((Sum.inr a:Key)=Sum.inr b)=decide (a=b):=by
 by_cases e:a=b
 ·subst e;simp
 ·have h:¬(Sum.inr a:Key)=Sum.inr b:=λq=>e (Sum.inr.inj q)
  rw [decide_eq_false h,decide_eq_false e]
theorem Qmu (a:Int) (b:Str):decide ((Sum.inl a:Key)=Sum.inr b)=false:=decide_eq_false (λq=>nomatch q)
theorem Qmt (a:Str) (b:Int):decide ((Sum.inr a:Key)=Sum.inl b)=false:=decide_eq_false (λq=>nomatch q)
def Jc (prog:Program) (w:World):PySem.KeyKind prog w Key where
 is:=Qb8
 hash:=keyH w
 inj:=λv a b ha hb=>by
  rcases Q8 ha with ⟨i,t,rfl,rfl⟩ | ⟨x,t,rfl,rfl⟩
  ·rcases Q8 hb with ⟨j,u,rfl,e⟩ | ⟨y,u,rfl,e⟩
   ·injection e with e1 _;rw [e1]
   ·exact nomatch e
  ·rcases Q8 hb with ⟨j,u,rfl,e⟩ | ⟨y,u,rfl,e⟩
   ·exact nomatch e
   ·injection e with e1 _;rw [e1]
 byValue:=λk v h=>by
  rcases Q8 h with ⟨i,t,rfl,rfl⟩ | ⟨x,t,rfl,rfl⟩ <;> rfl
 pyHash:=λhv h=>by
  rcases Q8 hv with ⟨i,t,rfl,rfl⟩ | ⟨x,t,rfl,rfl⟩
  ·exact wpAny_pyHash_int h
  ·exact wpAny_pyHash_str h
 eqBool:=λhu hv h=>by
  rcases Q8 hu with ⟨i,t,rfl,rfl⟩ | ⟨x,t,rfl,rfl⟩
  ·rcases Q8 hv with ⟨j,u,rfl,rfl⟩ | ⟨y,u,rfl,rfl⟩
   ·rw [Qmv] at h;exact wpAny_eqBool_int h
   ·rw [Qmu] at h;exact SeqAt.EqAt.int_str i t y u _ _ _ _ h
  ·rcases Q8 hv with ⟨j,u,rfl,rfl⟩ | ⟨y,u,rfl,rfl⟩
   ·rw [Qmt] at h;exact SeqAt.EqAt.str_int x t j u _ _ _ _ h
   ·rw [Qms] at h;exact wpAny_eqBool_str h
 «strs»:=λk x t v h=>by
  rcases Q8 h with ⟨i,u,rfl,e⟩ | ⟨y,u,rfl,e⟩
  ·exact nomatch e
  ·injection e with e1 _
   subst e1
   cases v <;> rfl
theorem Qdv (prog:Program) (w:World) (k:Key) (v:Value):(Jc prog w).is k v=Qb8 k v:=rfl
theorem Qb5 (prog:Program) (w:World) (i:Int) (t:Tok):(Jc prog w).is (.inl i) (.int i t)=true:=Qfo i t
theorem Qb4 (prog:Program) (w:World) (x:Str) (t:Tok):(Jc prog w).is (.inr x) (.str x t)=true:=Qfn x t
inductive V where
 | non | bl (b:Bool) | int (i:Int) | str (x:Str) | byt (b:Array UInt8) | flt (b:UInt64) | ref (a:Addr) | ty (n:String)
 deriving DecidableEq
def RelV:V->Value->Prop
 | .non,u=>u=Value.none
 | .bl b,u=>u=Value.bool b
 | .int i,u=>∃t,u=Value.int i t
 | .str x,u=>∃t,u=Value.str x t
 | .byt b,u=>∃t,u=Value.bytes b t
 | .flt b,u=>∃t,u=Value.float b t
 | .ref a,u=>u=Value.ref a
 | .ty n,u=>u=Value.type n
abbrev Vals:List V->List Value->Prop:=Paired RelV
theorem Vals.length {xs:List V} (r:Vals xs us):xs.length=us.length:=Paired.length r
theorem Vals.get:∀{xs:List V} {us:List Value} {i:Nat} {x:V},Vals xs us->xs[i]? = some x->∃u,us[i]? = some u/\RelV x u
 | _,_,_,_,.nil,e=>by simp at e
 | _,_,0,_,.cons r _,e=>by simp at e;subst e;exact ⟨_,rfl,r⟩
 | _,_,i+1,x,.cons _ t,e=>by
  obtain ⟨u,h1,h2⟩:=Vals.get (i:=i) (x:=x) t (by simpa using e)
  exact ⟨u,by simpa using h1,h2⟩
theorem Vals.set {x:V} {u:Value} (r:RelV x u):∀{xs:List V} {us:List Value} (i:Nat),Vals xs us->Vals (xs.set i x) (us.set i u)
 | _,_,_,.nil=>.nil
 | _,_,0,.cons _ t=>.cons r t
 | _,_,i+1,.cons q t=>.cons q (Vals.set r i t)
theorem Vals.append:∀{xs ys:List V} {us ws:List Value},Vals xs us->Vals ys ws->Vals (xs++ys) (us++ws)
 | _,_,_,_,.nil,s=>s
 | _,_,_,_,.cons r t,s=>.cons r (Vals.append t s)
theorem Vals.take:∀{xs:List V} {us:List Value} (n:Nat),Vals xs us->Vals (xs.take n) (us.take n)
 | _,_,0,_=>.nil
 | _,_,_+1,.nil=>.nil
 | _,_,n+1,.cons r t=>.cons r (Vals.take n t)
theorem Vals.drop:∀{xs:List V} {us:List Value} (n:Nat),Vals xs us->Vals (xs.drop n) (us.drop n)
 | _,_,0,r=>r
 | _,_,_+1,.nil=>.nil
 | _,_,n+1,.cons _ t=>Vals.drop n t
def RelO:Option V->Option Value->Prop
 | some v,some u=>RelV v u
 | none,none=>True
 | _,_=>False
def KV {κ:Type}:List (κ × V)->List (κ × Value)->Prop:=Paired λ(p:κ × V) (q:κ × Value)=>p.1=q.1/\RelV p.2 q.2
def kV:Key->V
 | .inl i=>.int i
 | .inr x=>.str x
inductive HO where
 | lst (xs:List V)
 | tup (xs:List V)
 | dK (kvs:List (Key × V)) | dT (kvs:List (List Key × V))
 | set (S:Int->Bool) (n:Nat)
 | ins (C dx:Addr) (fs:List (Str × V))
 | own (x:Addr)
 | xd (fs:List (Str × V))
 | met (f x:Addr)
 | rng (lo hi:Int)
 | frz (o:Obj) (u:HO)
 | tbl (ps:Array Value)
 | ext (φ:Heap->Prop)
abbrev Hp:=Addr->Option HO
end L2
variable {H H' H1 H2:L2.Hp} {a b L e:PySem.Addr} {o u ob:L2.HO} {P:PySem.Program} {w:PySem.World} {h g h':PySem.Heap} {p:PySem.Pos} {x:PySem.Str} {ex:List PySem.Addr}
namespace L2
open PySem PySem.Spec PyProof.Rows
def upd (H:Hp) (a:Addr) (o:HO):Hp:=λb=>if b=a then some o else H b
theorem Qg:upd H a o a=some o:=by unfold upd;rw [if_pos rfl]
theorem Qm (h:b≠a):upd H a o b=H b:=by unfold upd;rw [if_neg h]
theorem Qob (h:H a=some o) (h':H b=some u) (d:o≠u):a≠b:=by
 intro e;subst e;rw [h] at h';exact d (Option.some.inj h')
theorem Qq (h:H a=some o) (h':H b=none):a≠b:=by
 intro e;subst e;rw [h] at h';cases h'
section
variable (P:Program) (w:World)
def Jr (H:Hp) (h:Heap) (a:Addr):HO->Prop
 | .lst xs=>xs.length<=sizeLine/\∃(its:List Value) (n:Nat),Vals xs its/\h.get? a=some { cls:=.type "list",data:=.seq its.toArray n }
 | .tup xs=>xs.length<=sizeLine/\∃its:List Value,Vals xs its/\IsTup h a its.toArray
 | .dK kvs=>kvs.length<=sizeLine/\(a == sysModules)=false/\∃vs,KV kvs vs/\h.DictOf (Jc P w) a vs
 | .dT kvs=>kvs.length<=sizeLine/\(a == sysModules)=false/\∃xs:List (List Key × Addr × Value),
   Paired (λ(p:List Key × V) (q:List Key × Addr × Value)=>p.1=q.1/\H q.2.1=some (.tup (p.1.map kV))/\RelV p.2 q.2.2) kvs xs /\
   ∃o es ep,h.get? a=some o/\o.ExactDict/\o.data=.dict es ep/\es.toList=xs.map (entryOfKey (tupleKind (Jc P w)))/\(xs.map (·.1)).Nodup
 | .set S n=>h.SetOf (intKind P w) a S n
 | .ins C dx fs=>H dx=some (.own a)/\fs.length<=1000/\dx≠a/\h.get? a=some (PySem.W.instObj C dx) /\
   ∃mA,h.Ns1 dx mA/\(∀f,RelO (fs.lookup f) (mA f))/\PySem.Within mA (fs.map (·.1))
 | .own _=>∃o,h.get? a=some o
 | .xd fs=>∃mA,h.Ns1 a mA/\∀f,RelO (fs.lookup f) (mA f)
 | .rng lo hi=>∃t u v,h.get? a=some { cls:=.type "range",data:=.fields #[.int lo t,.int hi u,.int 1 v] }
 | .frz o u=>h.get? a=some o/\Jr H h a u
 | .tbl ps=>∃ts:Array Value,h.get? a=some { cls:=.none,data:=.fields ts }/\(ts = #[]\/∃(b:Addr) (oc:Obj) (u:HO) (vs:Array Value) (t:Tok) (q:Str) (t':Tok),ts = #[ps.getD 0 .none,ps.getD 1 .none,.ref b]/\H b=some (.frz oc u)/\oc.data=.fields vs/\ps.getD 2 .none=.str q t'/\vs[1]? = some (.str q t))
 | .met f x=>h.get? a=some (PySem.W.methodObj (.ref f) (.ref x))
 | .ext φ=>φ h/\(∃o,h.get? a=some o)/\∀h1 h2:Heap,φ h1->(∀o,h1.get? a=some o->h2.get? a=some o)->φ h2
def HOk (H:Hp) (h:Heap):Prop:=∀a o,H a=some o->Jr P w H h a o
end
theorem Jr.lt (x:Jr P w H h a o):a<h.objs.size:=by
 cases o with
 | lst xs=>obtain ⟨_,_,_,_,e⟩:=x;exact Heap.lt_size e
 | tup xs=>obtain ⟨_,_,_,p⟩:=x;exact p.lt
 | dK kvs=>obtain ⟨_,_,_,_,o,_,_,e,_⟩:=x;exact Heap.lt_size e
 | dT kvs=>obtain ⟨_,_,_,_,o,_,_,e,_⟩:=x;exact Heap.lt_size e
 | set S n=>obtain ⟨o,_,_,_,e,_⟩:=x;exact Heap.lt_size e
 | ins C dx fs=>obtain ⟨_,_,_,e,_⟩:=x;exact Heap.lt_size e
 | own y=>obtain ⟨_,e⟩:=x;exact Heap.lt_size e
 | xd fs=>obtain ⟨_,⟨_,_,_,e,_⟩,_⟩:=x;exact Heap.lt_size e
 | rng lo hi=>obtain ⟨_,_,_,e⟩:=x;exact Heap.lt_size e
 | frz ob u=>obtain ⟨e,_⟩:=x;exact Heap.lt_size e
 | tbl ps=>obtain ⟨_,e,_⟩:=x;exact Heap.lt_size e
 | met f y=>exact Heap.lt_size (show h.get? a=some _ from x)
 | ext φ=>obtain ⟨_,⟨_,e⟩,_⟩:=x;exact Heap.lt_size e
theorem Paired.mapP {α β:Type} {F G:α->β->Prop}:∀{l₁:List α} {l₂:List β},Paired F l₁ l₂->(∀a b,F a b->G a b)->Paired G l₁ l₂
 | _,_,.nil,_=>.nil
 | _,_,.cons r t,f=>.cons (f _ _ r) (Paired.mapP t f)
theorem Jr.stay (x:Jr P w H h a o) (k:∀b u,(b=a\/H b=some (.own a))->h.get? b=some u->h'.get? b=some u)
  (ho:∀b,H b=some (.own a)->H' b=some (.own a)) (ht:∀b xs,H b=some (.tup xs)->H' b=some (.tup xs)) (hf:∀b u v vs,H b=some (.frz u v)->u.data=.fields vs->H' b=some (.frz u v):=by exact λ_ _ _ _ q _=>q):Jr P w H' h' a o:=by
 induction o with
 | lst xs=>obtain ⟨z,its,n,r,e⟩:=x;exact ⟨z,its,n,r,k _ _ (.inl rfl) e⟩
 | tup xs=>obtain ⟨z,its,r,ob,e,c⟩:=x;exact ⟨z,its,r,ob,k _ _ (.inl rfl) e,c⟩
 | dK kvs=>obtain ⟨z,y,vs,r,ob,es,ep,e,c⟩:=x;exact ⟨z,y,vs,r,ob,es,ep,k _ _ (.inl rfl) e,c⟩
 | dT kvs =>
  obtain ⟨z,y,xs,r,ob,es,ep,e,c⟩:=x
  exact ⟨z,y,xs,Paired.mapP r λp q z=>⟨z.1,ht _ _ z.2.1,z.2.2⟩,ob,es,ep,k _ _ (.inl rfl) e,c⟩
 | set S n=>obtain ⟨ob,es,ep,t,e,c⟩:=x;exact ⟨ob,es,ep,t,k _ _ (.inl rfl) e,c⟩
 | ins C dx fs =>
  obtain ⟨d,z,ne,e,mA,⟨od,es,ep,e2,c⟩,r⟩:=x
  exact ⟨ho _ d,z,ne,k _ _ (.inl rfl) e,mA,⟨od,es,ep,k _ _ (.inr d) e2,c⟩,r⟩
 | own y=>obtain ⟨ob,e⟩:=x;exact ⟨ob,k _ _ (.inl rfl) e⟩
 | xd fs=>obtain ⟨mA,⟨od,es,ep,e,c⟩,r⟩:=x;exact ⟨mA,⟨od,es,ep,k _ _ (.inl rfl) e,c⟩,r⟩
 | rng lo hi=>obtain ⟨t,u,v,e⟩:=x;exact ⟨t,u,v,k _ _ (.inl rfl) e⟩
 | frz ob u ih=>obtain ⟨e,q⟩:=x;exact ⟨k _ _ (.inl rfl) e,ih q⟩
 | tbl ps =>
  obtain ⟨ts,e,r⟩:=x
  exact ⟨ts,k _ _ (.inl rfl) e,r.imp id λ⟨b,oc,u,vs,t,q,t',z1,z2,z3⟩=>⟨b,oc,u,vs,t,q,t',z1,hf _ _ _ _ z2 z3.1,z3⟩⟩
 | met f y =>
  have e:h.get? a=some (PySem.W.methodObj (.ref f) (.ref y)):=x
  show h'.get? a=some (PySem.W.methodObj (.ref f) (.ref y))
  exact k a _ (.inl rfl) e
 | ext φ=>obtain ⟨p,⟨o,e⟩,st⟩:=x;exact ⟨st _ _ p λo q=>k _ _ (.inl rfl) q,⟨o,k _ _ (.inl rfl) e⟩,st⟩
theorem HOk.lt (x:HOk P w H h) (e:H a=some o):a<h.objs.size:=(x a o e).lt
theorem HOk.fresh (x:HOk P w H h) (e:h.objs.size<=a):H a=none:=by
 cases q:H a with
 | none=>rfl
 | some u=>exact absurd (Nat.lt_of_lt_of_le (x.lt q) e) (Nat.lt_irrefl _)
theorem HOk.kept (x:HOk P w H h) (k:∀b u,h.get? b=some u->h'.get? b=some u):HOk P w H h':=λa o e =>
 (x a o e).stay (λb u _ q=>k b u q) (λ_ q=>q) λ_ _ q=>q
theorem HOk.laid (x:HOk P w H h) (k:∀b u,h.get? b=some u->h'.get? b=some u) (hp:h.objs.size<=a) (new:Jr P w (upd H a o) h' a o):HOk P w (upd H a o) h':=λb u e=>by
 have hn:=x.fresh hp
 by_cases hb:b=a
 ·subst hb;rw [Qg] at e;cases e;exact new
 ·rw [Qm hb] at e
  exact (x b u e).stay (λc v _ q=>k c v q) (λc q=>by rw [Qm (Qq q hn)];exact q) (λc xs q=>by rw [Qm (Qq q hn)];exact q) λc _ _ _ q _=>by rw [Qm (Qq q hn)];exact q
def Rd (H:Hp) (a:Addr) (u:HO):Prop:=H a=some u\/∃o,H a=some (.frz o u)
theorem Rd.of (h:H a=some u):Rd H a u:=.inl h
theorem Rd.ok (r:Rd H a u) (x:HOk P w H h):Jr P w H h a u:=by
 rcases r with r | ⟨o,r⟩
 ·exact x a u r
 ·obtain ⟨_,q⟩:=x a _ r
  exact q
def Mut:Option HO->Prop
 | some (.lst _)=>True
 | some (.dK _)=>True
 | some (.dT _)=>True
 | some (.set _ _)=>True
 | some (.ins _ _ _)=>True
 | some (.ext _)=>True
 | _=>False
section
variable {x:Addr} {o':HO}
theorem HOk.write (ok:HOk P w H h) (mu:Mut (H x)) (he:e=x\/H e=some (.own x)) (k:∀b u,b≠e->h.get? b=some u->h'.get? b=some u) (heo:∃u,h'.get? e=some u)
  (new:Jr P w (upd H x o') h' x o'):HOk P w (upd H x o') h':=λb u q=>by
 have nown:∀c y,H c=some (.own y)->c≠x:=λc y r z=>by subst z;rw [r] at mu;exact mu
 have ntup:∀c xs,H c=some (.tup xs)->c≠x:=λc xs r z=>by subst z;rw [r] at mu;exact mu
 have nfrz:∀c o v,H c=some (.frz o v)->c≠x:=λc o v r z=>by subst z;rw [r] at mu;exact mu
 by_cases hb:b=x
 ·subst hb;rw [Qg] at q;cases q;exact new
 ·rw [Qm hb] at q
  by_cases hbe:b=e
  ·have q':H b=some (.own x):=by
    rcases he with z | z
    ·exact absurd (hbe.trans z) hb
    ·rw [hbe];exact z
   rw [q] at q';cases q'
   obtain ⟨v,hv⟩:=heo
   exact ⟨v,by rw [hbe];exact hv⟩
  ·refine (ok b u q).stay (λc v hc r=>k c v ?_ r) (λc r=>by rw [Qm (nown c b r)];exact r) (λc xs r=>by rw [Qm (ntup c xs r)];exact r) λc o v _ r _=>by rw [Qm (nfrz c o v r)];exact r
   rcases hc with rfl | hc
   ·exact hbe
   ·rintro rfl
    rcases he with z | z
    ·exact nown c b hc z
    ·rw [hc] at z;cases z;exact hb rfl
end
structure Un (fs ex:List Addr) (H H':Hp) (h h':Heap):Prop where
 keep:∀b o,h.get? b=some o->H b=none->b∉fs->b∉ex->h'.get? b=some o
 slot:∀b o,h.get? b=some o->H b=none->b∈fs->b∉ex->∃sl,h'.get? b=some { o with slots:=sl }
 free:∀b o,h.get? b=some o->H b=none->b∉ex->H' b=none
 there:∀b o,h.get? b=some o->b∉ex->∃o',h'.get? b=some o'
 tups:∀b xs,H b=some (.tup xs)->H' b=some (.tup xs)
 frzs:∀b o u,H b=some (.frz o u)->H' b=some (.frz o u)
 tbls:∀b ps,H b=some (.tbl ps)->∃more,H' b=some (.tbl (ps++more))
section
variable {fs:List Addr} {h1:Heap} {x:Addr}
theorem Un.any (u:Un fs ex H H1 h h1) {ob:Obj} (q:h.get? b=some ob) (n:H b=none) (hx:b∉ex):∃sl,h1.get? b=some { ob with slots:=sl }:=by
 by_cases hb:b∈fs
 ·exact u.slot b ob q n hb hx
 ·exact ⟨ob.slots,u.keep b ob q n hb hx⟩
theorem Un.kept (k:∀b u,h.get? b=some u->h'.get? b=some u):Un fs ex H H h h' :=
 ⟨λb ob q _ _ _=>k b ob q,λb ob q _ _ _=>⟨ob.slots,k b ob q⟩,λ_ _ _ n _=>n,λb ob q _=>⟨ob,k b ob q⟩,λ_ _ q=>q,λ_ _ _ q=>q,λ_ ps q=>⟨#[],by rw [q];simp⟩⟩
theorem Un.refl:Un fs ex H H h h:=Un.kept λ_ _ q=>q
theorem Un.laid (k:∀b u,h.get? b=some u->h'.get? b=some u) (hp:h.objs.size<=a) (hn:H a=none):Un fs ex H (upd H a o) h h' where
 keep:=λb u q _ _ _=>k b u q
 slot:=λb u q _ _ _=>⟨u.slots,k b u q⟩
 free:=λb u q n _=>by rw [Qm (Nat.ne_of_lt (Nat.lt_of_lt_of_le (Heap.lt_size q) hp))];exact n
 there:=λb u q _=>⟨u,k b u q⟩
 tups:=λb xs q=>by rw [Qm (Qq q hn)];exact q
 frzs:=λb u xs q=>by rw [Qm (Qq q hn)];exact q
 tbls:=λb ps q=>⟨#[],by rw [Qm (Qq q hn),q];simp⟩
theorem Un.write (mu:Mut (H x)) (he:e=x\/H e=some (.own x)) (k:∀b u,b≠e->h.get? b=some u->h'.get? b=some u) (heo:∃u,h'.get? e=some u):Un fs ex H (upd H x o) h h':=by
 have hx:∀b,H b=none->b≠x:=λb n z=>by subst z;rw [n] at mu;exact mu
 have hb:∀b,H b=none->b≠e:=λb n z=>by
  subst z
  rcases he with r | r
  ·exact hx b n r
  ·rw [n] at r;cases r
 have hm:∀b u,H b=some u->¬Mut (some u)->b≠x:=λb u q nm z=>by subst z;rw [q] at mu;exact nm mu
 refine ⟨λb u q n _ _=>k b u (hb b n) q,λb u q n _ _=>⟨u.slots,k b u (hb b n) q⟩,λb u q n _=>by rw [Qm (hx b n)];exact n,λb u q _=>?_,
  λb xs q=>by rw [Qm (hm b _ q λz=>z)];exact q,λb u xs q=>by rw [Qm (hm b _ q λz=>z)];exact q,λb ps q=>⟨#[],by rw [Qm (hm b _ q λz=>z),q];simp⟩⟩
 by_cases hbe:b=e
 ·subst hbe;exact heo
 ·exact ⟨u,k b u hbe q⟩
end
def trk (h:Heap) (H:Hp):List Addr:=(List.range h.objs.size).filter λa=>(H a).isSome
def hidT (h:Heap) (H:Hp):Heap:=PySem.W.hideAll h (trk h H)
theorem Qfv (h:Heap) (H:Hp):(hidT h H).objs.size=h.objs.size:=PySem.W.hideAll_size _ _
theorem Qhn {o:Obj} (e:h.get? b=some o) (n:H b=none):(hidT h H).get? b=some o :=
 PySem.W.hideAll_get _ e λhm=>by
  have q:(H b).isSome=true:=(List.mem_filter.mp hm).2
  rw [n] at q;simp at q
theorem Qjz {o:Obj} (e:(hidT h H).get? b=some o):h.get? b=some o/\H b=none:=by
 have e':h.get? b=some o:=PySem.W.of_hideAll (trk h H) e
 refine ⟨e',?_⟩
 cases q:H b with
 | none=>rfl
 | some x =>
  have hm:b∈trk h H:=List.mem_filter.mpr ⟨List.mem_range.mpr (Heap.lt_size e'),by simp [q]⟩
  have z:(hidT h H).get? b=none:=PySem.W.hideAll_none (trk h H) hm
  rw [z] at e;cases e
def Qac (g h:Heap) (L:Addr):List (Addr × Obj):=(List.range h.objs.size).filterMap λa=>if a=L\/(g.get? a).isSome=true then none else (h.get? a).map λo=>(a,o)
theorem U8 {o:Obj} (h1:a≠L) (h2:g.get? a=none) (h3:h.get? a=some o):(a,o)∈Qac g h L :=
 List.mem_filterMap.mpr ⟨a,List.mem_range.mpr (Heap.lt_size h3),by simp [h1,h2,h3]⟩
theorem Gq {p:Addr × Obj} (hp:p∈Qac g h L):p.1≠L/\g.get? p.1=none/\h.get? p.1=some p.2:=by
 obtain ⟨b,_,e⟩:=List.mem_filterMap.mp hp
 split at e
 ·cases e
 ·rename_i hn
  cases q:h.get? b with
  | none=>rw [q] at e;simp at e
  | some u =>
   rw [q] at e
   simp only [Option.map_some,Option.some.injEq] at e
   subst e
   refine ⟨λz=>hn (.inl z),?_,q⟩
   show g.get? b=none
   cases r:g.get? b with
   | none=>rfl
   | some v=>exact (hn (.inr (by simp [r]))).elim
theorem Qhj:News g L h (Qac g h L):=λp hp=>let ⟨a,b,c⟩:=Gq hp;⟨c,a,b⟩
structure Mod (K:PySem.W.Frag) (mg:Str->Option Value) (base:Heap):Prop where
 kin:K.In base
 glob:base.Ns mainGlobals mg
 blt:∃mb,base.Ns builtinsNs mb/\∀x:Str,x ≠ "__name__" -> mb x=bootBuiltins x
 nolimit:base.NoLimit
structure Cx where
 prog:Program
 w:World
 K:PySem.W.Frag
 mg:Str->Option Value
 base:Heap
 A:Around
 N:List Str
 s₀:Shared
 H₀:Hp
 env:Env
 outer:List Env
 stack:List Env
 ex:List Addr
 fn:Str->Bool
 calm:Bool
 pn:List (Addr × Obj)
 xe:Value->Shared->Prop
end L2
variable {u:PySem.Value} {g':Array PySem.GenState} {t' i j:Nat} {d':PySem.Drawn} {ch:List PySem.Addr} {it:PySem.Addr} {N:List PySem.Str} {A:PySem.Around} {E:PySem.Value->PySem.Shared->Prop} {v:L2.V} {Q:Unit->PySem.Shared->Prop} {s' s:PySem.Shared} {X:L2.Cx} {pins:List (PySem.Addr × PySem.Obj)}
namespace L2
open PySem PySem.Spec PyProof.Rows
def frs (l:List Env):List Addr:=l.filterMap (·.frame)
abbrev Cx.fs (X:Cx):List Addr:=frs X.outer
def Vis (sc:Scope) (x:Str):Prop:=sc.names.lookup x=some .local\/sc.names.lookup x=some .cell\/sc.names.lookup x=some .free
def Loc (sc:Scope) (x:Str):Prop:=sc.names.lookup x=some .local\/sc.names.lookup x=some .cell
def Look (env:Env) (h:Heap) (m:Str->Option Value) (x:Str) (u:Value):Prop :=
 (env.kindOf x=some .local/\m x=some u)\/((env.kindOf x=some .cell\/env.kindOf x=some .free)/\∃c,env.cells.lookup x=some c/\h.IsCell c (some u))
structure Cx.Ok (X:Cx):Prop where
 mod:Mod X.K X.mg X.base
 kind:X.env.scope.kind=.function
 glob:X.env.globals=mainGlobals
 blt:X.env.builtins=builtinsNs
 above:X.s₀.heap.objs.size<=X.env.locals
 inj:∀x y c,X.env.cells.lookup x=some c->X.env.cells.lookup y=some c->x=y
 has:∀x,(X.env.kindOf x=some .cell\/X.env.kindOf x=some .free)->∃c,X.env.cells.lookup x=some c
 cab:∀x c,X.fn x=true->X.env.cells.lookup x=some c->X.s₀.heap.objs.size<=c
 hd:X.calm=true->X.A.handled=none
 frames:X.A.frames=some X.stack
 stk:X.stack=X.outer\/(X.stack=X.env::X.outer/\X.env.frame=some X.env.locals)
 exf:∀b∈X.ex,b≠X.env.locals/\∀x c,X.env.cells.lookup x=some c->c≠b
 bs:∀b o,X.base.get? b=some o->X.s₀.heap.get? b=some o/\X.H₀ b=none
 bsz:X.base.objs.size<=X.s₀.heap.objs.size
 noex:∀b o,X.base.get? b=some o->b∉X.ex
 exfs:∀b∈X.ex,b∉X.fs
 funs:X.s₀.heap.FunFrames X.base X.outer
 frf:∀b∈X.fs,X.H₀ b=none
structure Inv (X:Cx) (pins:List (Addr × Obj)) (σ:List (Option V)) (H:Hp) (s:Shared):Prop where
 ok:X.Ok
 os:s.os=X.s₀.os
 bare:AllBare s.gens
 base:Un X.fs X.ex X.H₀ H X.s₀.heap s.heap
 loc:∃m,s.heap.Ns X.env.locals m/\∀(i:Nat) (x:Str) (v:V),X.N[i]? = some x->σ[i]? = some (some v)->Vis X.env.scope x->∃u,RelV v u/\Look X.env s.heap m x u
 cell:∀x c,X.env.cells.lookup x=some c->∃v,s.heap.IsCell c v
 free:H X.env.locals=none
 freeC:∀x c,X.env.cells.lookup x=some c->H c=none
 pin:∀p∈X.pn++pins,s.heap.get? p.1=some p.2/\H p.1=none/\p.1≠X.env.locals/\p.1∉X.fs/\∀v,p.2.data ≠ .cell v
 hok:HOk X.prog X.w H s.heap
 len:σ.length=X.N.length
section
variable {σ:List (Option V)}
theorem Cx.Ok.nofr (ok:X.Ok) {o:Obj} (e:X.base.get? b=some o):b∉X.fs:=λhb=>by
 have:=(ok.funs.mem hb).1
 rw [e] at this;cases this
theorem Inv.bs (I:Inv X pins σ H s):∀b o,X.base.get? b=some o->s.heap.get? b=some o/\H b=none:=λb o e =>
 ⟨I.base.keep b o (I.ok.bs b o e).1 (I.ok.bs b o e).2 (I.ok.nofr e) (I.ok.noex b o e),I.base.free b o (I.ok.bs b o e).1 (I.ok.bs b o e).2 (I.ok.noex b o e)⟩
theorem Inv.bk (I:Inv X pins σ H s):∀b o,X.base.get? b=some o->s.heap.get? b=some o:=λb o e=>(I.bs b o e).1
theorem Inv.mod (I:Inv X pins σ H s):Mod X.K X.mg X.base:=I.ok.mod
theorem Inv.kIn (I:Inv X pins σ H s):X.K.In s.heap:=I.ok.mod.kin.keeps I.bk
theorem Inv.fr (I:Inv X pins σ H s):∃m,Fr X.base X.env.locals s.heap m :=
 let ⟨m,hn,_⟩:=I.loc
 ⟨m,hn,I.bk,Nat.le_trans I.ok.bsz I.ok.above⟩
theorem Inv.lt (I:Inv X pins σ H s):X.env.locals<s.heap.objs.size:=let ⟨_,hn,_⟩:=I.loc;hn.lt
theorem Inv.sz (I:Inv X pins σ H s):X.s₀.heap.objs.size<=s.heap.objs.size:=Nat.le_trans I.ok.above (Nat.le_of_lt I.lt)
theorem Inv.nofs (I:Inv X pins σ H s) (h:s.heap.objs.size<=a):a∉X.fs:=λhb=>by
 obtain ⟨_,o,ho,_⟩:=I.ok.funs.mem hb
 exact absurd (Nat.lt_of_lt_of_le (Heap.lt_size ho) (Nat.le_trans I.sz h)) (Nat.lt_irrefl _)
theorem Inv.cne (I:Inv X pins σ H s):∀x c,X.env.cells.lookup x=some c->c≠X.env.locals:=λx c e z=>by
 obtain ⟨v,o,ho,hd⟩:=I.cell x c e
 obtain ⟨m,⟨o',es,ep,ho',hd',_⟩,_⟩:=I.loc
 rw [z,ho'] at ho;cases ho;rw [hd'] at hd;cases hd
theorem Inv.funs (I:Inv X pins σ H s):s.heap.FunFrames X.base X.outer:=by
 have all:∀(l:List Env),(∀b∈frs l,b∈X.fs)->X.s₀.heap.FunFrames X.base l->s.heap.FunFrames X.base l:=by
  intro l
  induction l with
  | nil=>intro _ _;trivial
  | cons env r ih =>
   intro hs hl
   obtain ⟨hk,⟨L,o,hf,hn,ho,hd⟩,hr⟩:=hl
   have hL:L∈X.fs:=hs L (by unfold frs;rw [List.filterMap_cons,hf];exact List.mem_cons_self)
   obtain ⟨sl,e⟩:=I.base.slot L o ho (I.ok.frf L hL) hL λz=>I.ok.exfs L z hL
   exact ⟨hk,⟨L,_,hf,hn,e,hd⟩,ih (λb hb=>hs b (by unfold frs;rw [List.filterMap_cons,hf];exact List.mem_cons_of_mem _ hb)) hr⟩
 exact all X.outer (λ_ hb=>hb) I.ok.funs
theorem Inv.stack (I:Inv X pins σ H s):s.heap.FunFrames X.base X.stack:=by
 rcases I.ok.stk with e | ⟨e,hf⟩
 ·rw [e];exact I.funs
 ·rw [e]
  obtain ⟨m,hn,_⟩:=I.loc
  refine .cons (by rw [I.ok.kind];decide) hf hn ?_ I.funs
  exact Heap.get?_none_of_le (Nat.le_trans I.ok.bsz I.ok.above)
theorem Inv.stkSub (I:Inv X pins σ H s):∀b∈frs X.stack,b∈X.env.locals::X.fs:=λb hb=>by
 rcases I.ok.stk with e | ⟨e,hf⟩
 ·rw [e] at hb;exact List.mem_cons_of_mem _ hb
 ·rw [e] at hb
  unfold frs at hb
  rw [List.filterMap_cons,hf] at hb
  exact hb
theorem Inv.stkFree (I:Inv X pins σ H s):∀b∈frs X.stack,H b=none:=λb hb=>by
 rcases List.mem_cons.mp (I.stkSub b hb) with e | hb
 ·rw [e];exact I.free
 ·obtain ⟨_,o,ho,_⟩:=I.ok.funs.mem hb
  exact I.base.free b o ho (I.ok.frf b hb) λz=>I.ok.exfs b z hb
theorem Inv.step (I:Inv X pins σ H s)
  (hch:∀b∈ch,(b∈X.ex\/X.s₀.heap.objs.size<=b)/\b≠X.env.locals/\(∀x c,X.env.cells.lookup x=some c->c≠b)/\∀p∈X.pn++pins,p.1≠b)
  (keep:∀b o,b≠X.env.locals->b∉X.fs->b∉ch->s.heap.get? b=some o->H b=none->h'.get? b=some o)
  (slot:∀b o,b≠X.env.locals->b∈X.fs->b∉ch->s.heap.get? b=some o->H b=none->∃sl,h'.get? b=some { o with slots:=sl }) (free:∀b o,b∉ch->s.heap.get? b=some o->H b=none->H' b=none)
  (there:∀b o,b∉ch->s.heap.get? b=some o->∃o',h'.get? b=some o')
  (tups:∀b xs,H b=some (.tup xs)->H' b=some (.tup xs)) (frzs:∀b o u,H b=some (.frz o u)->H' b=some (.frz o u)) (tbls:∀b ps,H b=some (.tbl ps)->∃more,H' b=some (.tbl (ps++more)))
  (ns:∀m,s.heap.Ns X.env.locals m->h'.Ns X.env.locals m) (hok:HOk X.prog X.w H' h') (hg:AllBare g') :
  Inv X pins σ H' { s with heap:=h',gens:=g',drawn:=d',toks:=t' }:=by
 have neL:∀b o,X.s₀.heap.get? b=some o->b≠X.env.locals:=λb o e=>Nat.ne_of_lt (Nat.lt_of_lt_of_le (Heap.lt_size e) I.ok.above)
 have neC:∀b o,X.s₀.heap.get? b=some o->b∉X.ex->b∉ch:=λb o e hx hb=>by
  rcases (hch b hb).1 with z | z
  ·exact hx z
  ·exact absurd (Nat.lt_of_lt_of_le (Heap.lt_size e) z) (Nat.lt_irrefl _)
 have cellK:∀x c,X.env.cells.lookup x=some c->∀v,s.heap.IsCell c v->h'.IsCell c v:=λx c e v ⟨o,ho,hd⟩=>by
  have nch:c∉ch:=λz=>(hch c z).2.2.1 x c e rfl
  by_cases hc:c∈X.fs
  ·obtain ⟨sl,q⟩:=slot c o (I.cne x c e) hc nch ho (I.freeC x c e)
   exact ⟨_,q,hd⟩
  ·exact ⟨o,keep c o (I.cne x c e) hc nch ho (I.freeC x c e),hd⟩
 refine ⟨I.ok,I.os,hg,⟨λb o e n hb hx=>?_,λb o e n hb hx=>?_,λb o e n hx=>?_,λb o e hx=>?_,λb xs e=>tups b xs (I.base.tups b xs e),λb o xs e=>frzs b o xs (I.base.frzs b o xs e),λb ps e=>?_⟩,?_,λx c e=>?_,?_,λx c e=>?_,λp hp=>?_,hok,I.len⟩
 ·exact keep b o (neL b o e) hb (neC b o e hx) (I.base.keep b o e n hb hx) (I.base.free b o e n hx)
 ·obtain ⟨sl,e1⟩:=I.base.slot b o e n hb hx
  obtain ⟨sl',e2⟩:=slot b _ (neL b o e) hb (neC b o e hx) e1 (I.base.free b o e n hx)
  exact ⟨sl',e2⟩
 ·obtain ⟨o',e1⟩:=I.base.there b o e hx
  exact free b o' (neC b o e hx) e1 (I.base.free b o e n hx)
 ·obtain ⟨o',e1⟩:=I.base.there b o e hx
  exact there b o' (neC b o e hx) e1
 ·obtain ⟨m1,e1⟩:=I.base.tbls b ps e
  obtain ⟨m2,e2⟩:=tbls b _ e1
  exact ⟨m1++m2,by rw [e2,Array.append_assoc]⟩
 ·obtain ⟨m,hn,hl⟩:=I.loc
  refine ⟨m,ns m hn,λi x v e1 e2 e3=>?_⟩
  obtain ⟨u,r,l⟩:=hl i x v e1 e2 e3
  refine ⟨u,r,?_⟩
  rcases l with l | ⟨k,c,e,z⟩
  ·exact .inl l
  ·exact .inr ⟨k,c,e,cellK x c e _ z⟩
 ·obtain ⟨v,z⟩:=I.cell x c e
  exact ⟨v,cellK x c e v z⟩
 ·obtain ⟨m,⟨o,_,_,ho,_⟩,_⟩:=I.loc
  exact free _ o (λz=>(hch _ z).2.1 rfl) ho I.free
 ·obtain ⟨v,o,ho,hd⟩:=I.cell x c e
  exact free c o (λz=>(hch c z).2.2.1 x c e rfl) ho (I.freeC x c e)
 ·obtain ⟨e,n,ne,nf,d⟩:=I.pin p hp
  have nch:p.1∉ch:=λz=>(hch p.1 z).2.2.2 p hp rfl
  exact ⟨keep p.1 p.2 ne nf nch e n,free p.1 p.2 nch e n,ne,nf,d⟩
theorem Inv.un (I:Inv X pins σ H s) (u:Un X.fs [] H H' s.heap h') (hok:HOk X.prog X.w H' h'):Inv X pins σ H' { s with heap:=h',toks:=t' }:=by
 obtain ⟨m,⟨o,es,ep,ho,r⟩,_⟩:=id I.loc
 obtain ⟨sl,hL⟩:=u.any ho I.free (by simp)
 exact I.step (g':=s.gens) (d':=s.drawn) (ch:=[]) (λ_ z=>nomatch z) (λb o _ hb _ e n=>u.keep b o e n hb (by simp)) (λb o _ hb _ e n=>u.slot b o e n hb (by simp)) (λb o _ e n=>u.free b o e n (by simp)) (λb o _ e=>u.there b o e (by simp)) u.tups u.frzs u.tbls (λm' hm=>by
  obtain ⟨o',es',ep',ho',r'⟩:=hm
  rw [ho] at ho';cases ho'
  exact ⟨_,es',ep',hL,r'⟩) hok I.bare
theorem Inv.call (I:Inv X pins σ H s) (u:Un (frs X.stack) ch H H' s.heap h') (hok:HOk X.prog X.w H' h') (hg:AllBare g')
  (hch:∀b∈ch,(b∈X.ex\/X.s₀.heap.objs.size<=b)/\b≠X.env.locals/\(∀x c,X.env.cells.lookup x=some c->c≠b)/\∀p∈X.pn++pins,p.1≠b) :
  Inv X pins σ H' { s with heap:=h',gens:=g',drawn:=d',toks:=t' }:=by
 obtain ⟨m,⟨o,es,ep,ho,r⟩,_⟩:=id I.loc
 obtain ⟨sl,hL⟩:=u.any ho I.free λz=>(hch _ z).2.1 rfl
 exact I.step (ch:=ch) hch (λb o hL hb hc e n=>u.keep b o e n (λz=>(List.mem_cons.mp (I.stkSub b z)).elim hL hb) hc) (λb o _ _ hc e n=>u.any e n hc) (λb o hc e n=>u.free b o e n hc) (λb o hc e=>u.there b o e hc) u.tups u.frzs u.tbls (λm' hm=>by
  obtain ⟨o',es',ep',ho',r'⟩:=hm
  rw [ho] at ho';cases ho'
  exact ⟨_,es',ep',hL,r'⟩) hok hg
theorem Inv.turned (I:Inv X pins σ H s) (k:∀b o,b≠it->s.heap.get? b=some o->h'.get? b=some o) (hn:H it=none) (hL:it≠X.env.locals)
  (h1:it∈X.ex\/X.s₀.heap.objs.size<=it) (h2:∀x c,X.env.cells.lookup x=some c->c≠it) (h3:∀p∈X.pn++pins,p.1≠it):Inv X pins σ H { s with heap:=h',toks:=t' }:=by
 have nit:∀b u,H b=some u->b≠it:=λb u e z=>by rw [z,hn] at e;cases e
 refine I.step (g':=s.gens) (d':=s.drawn) (ch:=[it]) (λb hb=>?_) (λb o _ _ hc e _=>k b o (λz=>hc (by simp [z])) e) (λb o _ _ hc e _=>⟨o.slots,k b o (λz=>hc (by simp [z])) e⟩) (λ_ _ _ _ n=>n)
  (λb o hc e=>⟨o,k b o (λz=>hc (by simp [z])) e⟩) (λ_ _ e=>e) (λ_ _ _ e=>e) (λb ps e=>⟨#[],by rw [e];simp⟩) (λm hm=>?_) (λb u e=>?_) I.bare
 ·have e:b=it:=by simpa using hb
  subst e
  exact ⟨h1,hL,h2,h3⟩
 ·obtain ⟨o,es,ep,ho,r⟩:=hm
  exact ⟨o,es,ep,k _ o (Ne.symm hL) ho,r⟩
 ·refine (I.hok b u e).stay (λc v hc q=>k c v ?_ q) (λ_ q=>q) λ_ _ q=>q
  rcases hc with z | z
  ·rw [z];exact nit b u e
  ·exact nit c _ z
theorem Inv.tok (I:Inv X pins σ H s) (t:Nat):Inv X pins σ H { s with toks:=t }:=I.un (h':=s.heap) (t':=t) Un.refl I.hok
theorem Inv.kept (I:Inv X pins σ H s) (k:∀b u,s.heap.get? b=some u->h'.get? b=some u):Inv X pins σ H { s with heap:=h',toks:=t' }:=I.un (Un.kept k) (I.hok.kept k)
theorem Inv.laid (I:Inv X pins σ H s) (k:∀b u,s.heap.get? b=some u->h'.get? b=some u) (hp:s.heap.objs.size<=a) (new:Jr X.prog X.w (upd H a o) h' a o) :
  Inv X pins σ (upd H a o) { s with heap:=h',toks:=t' }:=I.un (Un.laid k hp (I.hok.fresh hp)) (I.hok.laid k hp new)
theorem Inv.write {x:Addr} (I:Inv X pins σ H s) (mu:Mut (H x)) (he:e=x\/H e=some (.own x)) (k:∀b u,b≠e->s.heap.get? b=some u->h'.get? b=some u) (heo:∃u,h'.get? e=some u)
  (new:Jr X.prog X.w (upd H x o) h' x o):Inv X pins σ (upd H x o) { s with heap:=h',toks:=t' }:=I.un (Un.write mu he k heo) (I.hok.write mu he k heo new)
theorem Inv.pins_of {pins':List (Addr × Obj)} (I:Inv X pins σ H s) (h:∀p∈pins',s.heap.get? p.1=some p.2/\H p.1=none/\p.1≠X.env.locals/\p.1∉X.fs/\∀v,p.2.data ≠ .cell v):Inv X pins' σ H s :=
 ⟨I.ok,I.os,I.bare,I.base,I.loc,I.cell,I.free,I.freeC,λp hp=>(List.mem_append.mp hp).elim (λz=>I.pin p (List.mem_append_left _ z)) (h p),I.hok,I.len⟩
theorem Qc4 (hN:N.Nodup) (a:N[i]? = some x) (b:N[j]? = some x):i=j:=by
 obtain ⟨h1,e1⟩:=List.getElem?_eq_some_iff.mp a
 obtain ⟨h2,e2⟩:=List.getElem?_eq_some_iff.mp b
 exact (List.getElem_inj hN).mp (e1.trans e2.symm)
theorem Qaj {M:Model} (I:Inv X pins σ H s) (hN:X.N.Nodup) (hi:X.N[i]? = some x) (hx:Loc X.env.scope x) (r:RelV v u)
  (h:∀s',Inv X pins (σ.set i (some v)) H s'->(∃a,Heap.SameBut a s.heap s'.heap/\(a=X.env.locals\/X.env.cells.lookup x=some a))->Q () s') (hf:X.fn x=true\/X.env.scope.names.lookup x=some .local:=by first | exact .inl rfl | exact .inr rfl | assumption):wpAny M A (storeName X.env x u) Q E s:=by
 obtain ⟨m,hn,hl⟩:=id I.loc
 have hcls:(X.env.scope.kind == .class || (X.env.scope.kind == .module && X.env.locals != X.env.globals))=false:=by rw [I.ok.kind];rfl
 have hiσ:i<σ.length:=by rw [I.len];exact (List.getElem?_eq_some_iff.mp hi).1
 have cne:=I.cne
 have tracked:∀{a:Addr} {h':Heap},(∃o,s.heap.get? a=some o/\H a=none)->Heap.SameBut a s.heap h'->HOk X.prog X.w H h':=λ{a h'} ha hs b ob e=>by
  obtain ⟨_,_,hfree⟩:=ha
  refine (I.hok b ob e).stay (λc w' hc q=>(hs.2 c ?_).trans q) (λ_ q=>q) λ_ _ q=>q
  rintro rfl
  rcases hc with rfl | hc
  ·rw [hfree] at e;cases e
  ·rw [hfree] at hc;cases hc
 rcases hx with hk | hk
 ·refine wpAny_storeName_local hk hn (λh' hn' hs=>?_) hcls
  obtain ⟨oL,_,_,hoL,_⟩:=id hn
  refine h _ ⟨I.ok,I.os,I.bare,⟨λb o e n hb hx=>?_,λb o e n hb hx=>?_,I.base.free,λb o e hx=>?_,I.base.tups,I.base.frzs,I.base.tbls⟩,⟨_,hn',λj y v' e1 e2 e3=>?_⟩,λy c e=>?_,I.free,I.freeC,λp hp=>?_,tracked ⟨oL,hoL,I.free⟩ hs,by simpa using I.len⟩ ⟨_,hs,.inl rfl⟩
  ·exact (hs.2 b (Nat.ne_of_lt (Nat.lt_of_lt_of_le (Heap.lt_size e) I.ok.above))).trans (I.base.keep b o e n hb hx)
  ·obtain ⟨sl,e1⟩:=I.base.slot b o e n hb hx
   exact ⟨sl,(hs.2 b (Nat.ne_of_lt (Nat.lt_of_lt_of_le (Heap.lt_size e) I.ok.above))).trans e1⟩
  ·obtain ⟨o',e1⟩:=I.base.there b o e hx
   exact ⟨o',(hs.2 b (Nat.ne_of_lt (Nat.lt_of_lt_of_le (Heap.lt_size e) I.ok.above))).trans e1⟩
  ·by_cases hj:j=i
   ·subst hj
    rw [hi] at e1;cases e1
    rw [List.getElem?_set_self hiσ] at e2
    cases e2
    exact ⟨u,r,.inl ⟨hk,by simp⟩⟩
   ·rw [List.getElem?_set_ne (Ne.symm hj)] at e2
    obtain ⟨u',r',q⟩:=hl j y v' e1 e2 e3
    refine ⟨u',r',?_⟩
    rcases q with ⟨k,e⟩ | ⟨k,c,e,z⟩
    ·refine .inl ⟨k,?_⟩
     have:y≠x:=λe=>hj (Qc4 hN e1 (e ▸ hi))
     simp [this,e]
    ·exact .inr ⟨k,c,e,z.sameBut hs (cne y c e)⟩
  ·obtain ⟨w',z⟩:=I.cell y c e
   exact ⟨w',z.sameBut hs (cne y c e)⟩
  ·obtain ⟨e,n,ne,nf,d⟩:=I.pin p hp
   exact ⟨(hs.2 p.1 ne).trans e,n,ne,nf,d⟩
 ·have hfn:X.fn x=true:=by
   rcases hf with z | z
   ·exact z
   ·rw [z] at hk;cases hk
  obtain ⟨c,hc⟩:=I.ok.has x (.inl hk)
  obtain ⟨w',z⟩:=I.cell x c hc
  refine wpAny_storeName_cell I.ok.kind hk hc z (λh' hc' hs=>?_)
  obtain ⟨oc,hoc,hocd⟩:=id z
  refine h { s with heap:=h' } ⟨I.ok,I.os,I.bare,⟨λb o e n hb hx=>?_,λb o e n hb hx=>?_,I.base.free,λb o e hx=>?_,I.base.tups,I.base.frzs,I.base.tbls⟩,⟨m,hn.sameBut hs (Ne.symm (cne x c hc)),λj y v' e1 e2 e3=>?_⟩,λy c' e=>?_,I.free,I.freeC,λp hp=>?_,tracked ⟨oc,hoc,I.freeC x c hc⟩ hs,by simpa using I.len⟩ ⟨c,hs,.inr hc⟩
  ·exact (hs.2 b (Nat.ne_of_lt (Nat.lt_of_lt_of_le (Heap.lt_size e) (I.ok.cab x c hfn hc)))).trans (I.base.keep b o e n hb hx)
  ·obtain ⟨sl,e1⟩:=I.base.slot b o e n hb hx
   exact ⟨sl,(hs.2 b (Nat.ne_of_lt (Nat.lt_of_lt_of_le (Heap.lt_size e) (I.ok.cab x c hfn hc)))).trans e1⟩
  ·obtain ⟨o',e1⟩:=I.base.there b o e hx
   exact ⟨o',(hs.2 b (Nat.ne_of_lt (Nat.lt_of_lt_of_le (Heap.lt_size e) (I.ok.cab x c hfn hc)))).trans e1⟩
  ·by_cases hj:j=i
   ·subst hj
    rw [hi] at e1;cases e1
    rw [List.getElem?_set_self hiσ] at e2
    cases e2
    exact ⟨u,r,.inr ⟨.inl hk,c,hc,hc'⟩⟩
   ·rw [List.getElem?_set_ne (Ne.symm hj)] at e2
    obtain ⟨u',r',q⟩:=hl j y v' e1 e2 e3
    refine ⟨u',r',?_⟩
    rcases q with q | ⟨k,c',e,z'⟩
    ·exact .inl q
    ·refine .inr ⟨k,c',e,z'.sameBut hs ?_⟩
     rintro rfl
     exact hj (Qc4 hN e1 (I.ok.inj _ _ _ e hc ▸ hi))
  ·by_cases hcc:c'=c
   ·subst hcc;exact ⟨_,hc'⟩
   ·obtain ⟨w2,z2⟩:=I.cell y c' e
    exact ⟨w2,z2.sameBut hs hcc⟩
  ·obtain ⟨e,n,ne,nf,d⟩:=I.pin p hp
   refine ⟨(hs.2 p.1 ?_).trans e,n,ne,nf,d⟩
   intro q
   rw [q,hoc] at e
   have q':oc=p.2:=Option.some.inj e
   exact d w' (by rw [← q'];exact hocd)
theorem Qcs {M:Model} (I:Inv X pins σ H s) (hN:X.N.Nodup) (hi:X.N[i]? = some x) (hx:Loc X.env.scope x) (r:RelV v u)
  (h:∀s',Inv X pins (σ.set i (some v)) H s'->Q () s') (hf:X.fn x=true\/X.env.scope.names.lookup x=some .local:=by first | exact .inl rfl | exact .inr rfl | assumption):wpAny M A (storeName X.env x u) Q E s :=
 Qaj I hN hi hx r (λs' I' _=>h s' I') hf
theorem Inv.call' (I:Inv X pins σ H s) (ho:s'.os=s.os) (u:Un (frs X.stack) ch H H' s.heap s'.heap) (hok:HOk X.prog X.w H' s'.heap) (hg:AllBare s'.gens)
  (hch:∀b∈ch,(b∈X.ex\/X.s₀.heap.objs.size<=b)/\b≠X.env.locals/\(∀x c,X.env.cells.lookup x=some c->c≠b)/\∀p∈X.pn++pins,p.1≠b):Inv X pins σ H' s':=by
 obtain ⟨h',g',d',t',o'⟩:=s'
 have e:o'=s.os:=ho
 subst e
 exact I.call (g':=g') (t':=t') (d':=d') u hok hg hch
end
abbrev XK:=Value->Option Addr->Hp->Prop
abbrev St:=List (Option V)
abbrev VK:=V->Hp->Prop
abbrev TE:=St->Hp->VK->Prop
abbrev TT:=St->Hp->(Bool->Hp->Prop)->Prop
abbrev TA:=St->Hp->(List V->Hp->Prop)->Prop
structure Ends where
 nx:St->Hp->Prop
 rt:VK
 bk:St->Hp->Prop:=λ_ _=>False
 ct:St->Hp->Prop:=λ_ _=>False
abbrev TS:=Ends->St->Hp->Prop
end L2
variable {xs ys:List L2.V} {e c:PySem.Expr} {Q:PySem.Value->PySem.Shared->Prop} {pos:PySem.Pos} {σ:L2.St} {y:L2.V} {K:PySem.W.Frag} {f:PySem.Value->PySem.Value->PySem.Sem PySem.Value} {st:PySem.Stmt} {tc:L2.TT} {te tb ta:L2.TE} {rest:List PySem.Expr}
namespace L2
open PySem PySem.Spec PyProof.Rows
def EP (X:Cx) (pins:List (Addr × Obj)) (σ:St) (Q:VK) (u:Value) (s':Shared):Prop:=∃v H',Inv X pins σ H' s'/\RelV v u/\Q v H'
def TP (X:Cx) (pins:List (Addr × Obj)) (σ:St) (Q:Bool->Hp->Prop) (b:Bool) (s':Shared):Prop:=∃H',Inv X pins σ H' s'/\Q b H'
def AP (X:Cx) (pins:List (Addr × Obj)) (σ:St) (Q:List V->Hp->Prop) (us:List Value) (s':Shared):Prop:=∃vs H',Inv X pins σ H' s'/\Vals vs us/\Q vs H'
def SP (X:Cx) (pins:List (Addr × Obj)) (D:Ends) (f:Flow) (s':Shared):Prop :=
 match f with
 | .next=>∃σ' H',Inv X pins σ' H' s'/\D.nx σ' H'
 | .brk=>∃σ' H',Inv X pins σ' H' s'/\D.bk σ' H'
 | .cont=>∃σ' H',Inv X pins σ' H' s'/\D.ct σ' H'
 | .ret u=>∃v σ' H',Inv X pins σ' H' s'/\RelV v u/\D.rt v H'
def PE (X:Cx) (e:Expr) (t:TE):Prop :=
 ∀(pins:List (Addr × Obj)) (s:Shared) (σ:St) (H:Hp) (Q:VK),Inv X pins σ H s->t σ H Q->wpAny (model X.prog X.w) X.A (eval e X.env) (EP X pins σ Q) X.xe s
def PT (X:Cx) (e:Expr) (t:TT):Prop :=
 ∀(pins:List (Addr × Obj)) (s:Shared) (σ:St) (H:Hp) (Q:Bool->Hp->Prop),Inv X pins σ H s->t σ H Q->wpAny (model X.prog X.w) X.A (isTrue e X.env (eval e X.env)) (TP X pins σ Q) X.xe s
def PW (X:Cx) (e:Expr) (t:TT):Prop :=
 ∀(whole:Sem Value) (pins:List (Addr × Obj)) (s:Shared) (σ:St) (H:Hp) (Q:Bool->Hp->Prop),Inv X pins σ H s->t σ H Q->wpAny (model X.prog X.w) X.A (isTrue e X.env whole) (TP X pins σ Q) X.xe s
theorem PW.pt {t:TT} (h:PW X e t):PT X e t:=h _
def PA (X:Cx) (es:List Expr) (t:TA):Prop :=
 ∀(pos:Pos) (pins:List (Addr × Obj)) (s:Shared) (σ:St) (H:Hp) (Q:List V->Hp->Prop),Inv X pins σ H s->t σ H Q->wpAny (model X.prog X.w) X.A (spliced (backTo pos (starEach es X.env))) (AP X pins σ Q) X.xe s
def PS (X:Cx) (st:Stmt) (t:TS):Prop :=
 ∀(pins:List (Addr × Obj)) (s:Shared) (σ:St) (H:Hp) (D:Ends),Inv X pins σ H s->t D σ H->wpAny (model X.prog X.w) X.A (exec st X.env) (SP X pins D) X.xe s
def PSs (X:Cx) (st:List Stmt) (t:TS):Prop :=
 ∀(pins:List (Addr × Obj)) (s:Shared) (σ:St) (H:Hp) (D:Ends),Inv X pins σ H s->t D σ H->wpAny (model X.prog X.w) X.A (execs st X.env) (SP X pins D) X.xe s
theorem thn {α:Type} {t:Sem α} {Q Q':α->Shared->Prop} {M:Model} (h:wpAny M A t Q E s) (hQ:∀a s,Q a s->Q' a s):wpAny M A t Q' E s:=wpAny_mono h hQ λ_ _ x=>x
def tVar (i:Nat):TE:=λσ H Q=>∃v,σ[i]? = some (some v)/\Q v H
def tC (v:V):TE:=λ_ H Q=>Q v H
theorem Y1 (hN:X.N[i]? = some x) (hv:Vis X.env.scope x) (hd:(x == ("__debug__" : Str))=false:=by decide) (hcd:(x == ("__classdict__" : Str))=false:=by decide):PE X (.Name x pos) (tVar i):=by
 intro pins s σ H Q I h
 obtain ⟨v,e,h⟩:=h
 obtain ⟨m,hn,hl⟩:=I.loc
 obtain ⟨u,r,l⟩:=hl i x v hN e hv
 have fin:EP X pins σ Q u s:=⟨v,H,I,r,h⟩
 rcases l with ⟨hk,hm⟩ | ⟨hk,c,hc,hcell⟩
 ·exact wpAny_Name (wpAny_loadName_local I.ok.kind hk hn hm fin) hd
 ·rcases hk with hk | hk
  ·exact wpAny_Name (wpAny_loadName_cell I.ok.kind hk hc hcell fin) hd
  ·exact wpAny_Name (wpAny_loadName_free I.ok.kind hk hc hcell fin hcd) hd
theorem Qe2 {i j pos}:PE X (.Constant (.int i) j pos) (tC (.int i)):=λ_ _ _ H _ I h=>wpAny_Constant_int ⟨.int i,H,I.tok _,⟨_,rfl⟩,h⟩
theorem Qn4 {b j pos}:PE X (.Constant (.bool b) j pos) (tC (.bl b)):=λ_ _ _ H _ I h=>Constant_bool ⟨.bl b,H,I,rfl,h⟩
def Gl (X:Cx) (x:Str):Prop:=X.env.kindOf x=some .globalImplicit
theorem Qfk (I:Inv X pins σ H s) (hg:Gl X x) (hm:X.mg x=some u) (h:Q u s)
  (hd:(x == ("__debug__" : Str))=false:=by decide):wpAny (model X.prog X.w) X.A (eval (.Name x pos) X.env) Q E s :=
 Calls.Name_function_global I.ok.kind hg (Calls.loadGlobal_global (by rw [I.ok.glob];exact I.mod.glob.keeps I.bk) hm h) hd
theorem Xc (I:Inv X pins σ H s) (hg:Gl X x) (hm:X.mg x=none) (hv:bootBuiltins x=some u) (h:Q u s)
  (hn:x ≠ "__name__":=by decide) (hd:(x == ("__debug__" : Str))=false:=by decide):wpAny (model X.prog X.w) X.A (eval (.Name x pos) X.env) Q E s:=by
 obtain ⟨mb,h1,h2⟩:=I.mod.blt
 exact Calls.Name_function_global I.ok.kind hg (Calls.loadGlobal_builtin (by rw [I.ok.glob];exact I.mod.glob.keeps I.bk) hm (by rw [I.ok.blt];exact h1.keeps I.bk) ((h2 x hn).trans hv) h) hd
theorem Qjr (hg:Gl X x) (hm:X.mg x=none) (hv:bootBuiltins x=some u) (r:RelV v u) (hn:x ≠ "__name__":=by decide) (hd:(x == ("__debug__" : Str))=false:=by decide):PE X (.Name x pos) (tC v) :=
 λ_ _ _ H _ I h=>Xc I hg hm hv ⟨v,H,I,r,h⟩ hn hd
section
variable {a b:Expr} {tA tB':TT}
def tOr (t u:TT):TT:=λσ H Q=>t σ H λc H1=>if c=true then Q true H1 else u σ H1 Q
def tNot (t:TT):TT:=λσ H Q=>t σ H λc H1=>Q (!c) H1
theorem Qlr (ha:PT X a tA):PW X (.BoolOp .Or [a] pos) tA:=by
 intro wh pins s σ H Q I h
 refine isTrue_or (thn (ha pins s σ H Q I h) λc s1 e=>?_)
 cases c with
 | false=>exact isTrue_or_nil e
 | true=>exact e
theorem Qnz (ha:PT X a tA) (hb:PW X (.BoolOp .Or (b::rest) pos) tB'):PW X (.BoolOp .Or (a::b::rest) pos) (tOr tA tB'):=by
 intro wh pins s σ H Q I h
 refine isTrue_or (thn (ha pins s σ H _ I h) λc s1 ⟨H1,I1,q1⟩=>?_)
 cases c with
 | true=>exact ⟨H1,I1,q1⟩
 | false=>exact hb wh pins s1 σ H1 Q I1 q1
theorem Qls (ha:PT X a tA):PT X (.UnaryOp .Not a pos) (tNot tA):=by
 intro pins s σ H Q I h
 exact isTrue_not (ha pins s σ H (λc H1=>Q (!c) H1) I h)
end
def SqL (K:PySem.W.Frag) (H:Hp) (a:Addr) (xs:List V):Prop :=
 Rd H a (.lst xs) \/
  ∃(o:Obj) (its:Array Value) (n:Nat),K.lookup a=some o/\o.cls=.type "list" /\ o.dict=none/\o.data=.seq its n/\its.size<=sizeLine/\Vals xs its.toList
def SqT (K:PySem.W.Frag) (H:Hp) (a:Addr) (xs:List V):Prop :=
 Rd H a (.tup xs) \/
  ∃(o:Obj) (its:Array Value) (n:Nat),K.lookup a=some o/\o.cls=.type "tuple" /\ o.data=.seq its n/\its.size<=sizeLine/\Vals xs its.toList
def absV:Value->Option V
 | .none=>some .non
 | .bool b=>some (.bl b)
 | .int i _=>some (.int i)
 | .str x _=>some (.str x)
 | .bytes b _=>some (.byt b)
 | .float b _=>some (.flt b)
 | .ref a=>some (.ref a)
 | .type n=>some (.ty n)
 | _=>none
theorem RelV.abs {x:V} (r:RelV x u):absV u=some x:=by
 cases x with
 | non=>cases r;rfl
 | bl _=>cases r;rfl
 | int _=>obtain ⟨t,rfl⟩:=r;rfl
 | str _=>obtain ⟨t,rfl⟩:=r;rfl
 | byt _=>obtain ⟨t,rfl⟩:=r;rfl
 | flt _=>obtain ⟨t,rfl⟩:=r;rfl
 | ref _=>cases r;rfl
 | ty _=>cases r;rfl
theorem RelV.inj {x:V} (r:RelV x u) (q:RelV y u):x=y:=Option.some.inj (r.abs.symm.trans q.abs)
theorem Vals.inj:∀{xs ys:List V} {us:List Value},Vals xs us->Vals ys us->xs=ys
 | _,_,_,.nil,.nil=>rfl
 | _,_,_,.cons r t,.cons r' t'=>by rw [r.inj r',Vals.inj t t']
theorem SqL.of (h:H a=some (.lst xs)):SqL K H a xs:=.inl (.inl h)
theorem SqT.of (h:H a=some (.tup xs)):SqT K H a xs:=.inl (.inl h)
theorem Inv.list (I:Inv X pins σ H s) (h:SqL X.K H a xs):∃its:List Value,Vals xs its/\PlainL s.heap a its.toArray/\xs.length<=sizeLine:=by
 rcases h with h | ⟨o,its,n,hk,hc,hd,hs,hz,r⟩
 ·obtain ⟨z,its,n,r,e⟩:=h.ok I.hok
  exact ⟨its,r,⟨_,n,e,rfl,rfl,rfl⟩,z⟩
 ·refine ⟨its.toList,r,⟨o,n,I.kIn a o hk,hc,hd,by simpa using hs⟩,?_⟩
  have e:=r.length
  simp only [Array.length_toList] at e
  omega
theorem Inv.tuple (I:Inv X pins σ H s) (h:SqT X.K H a xs):∃its:List Value,Vals xs its/\IsTup s.heap a its.toArray/\xs.length<=sizeLine:=by
 rcases h with h | ⟨o,its,n,hk,hc,hs,hz,r⟩
 ·obtain ⟨z,its,r,p⟩:=h.ok I.hok
  exact ⟨its,r,p,z⟩
 ·refine ⟨its.toList,r,⟨o,I.kIn a o hk,hc,n,by simpa using hs⟩,?_⟩
  have e:=r.length
  simp only [Array.length_toList] at e
  omega
theorem Inv.list_inj (I:Inv X pins σ H s) (h:SqL X.K H a xs) (h':SqL X.K H a ys):xs=ys:=by
 obtain ⟨its,r,⟨o,n,e,_,_,d⟩,_⟩:=I.list h
 obtain ⟨its',r',⟨o',n',e',_,_,d'⟩,_⟩:=I.list h'
 rw [e] at e';cases e'
 rw [d] at d'
 injection d' with d1 _
 have:its=its':=by simpa using congrArg Array.toList d1
 subst this
 exact r.inj r'
theorem Inv.tuple_inj (I:Inv X pins σ H s) (h:SqT X.K H a xs) (h':SqT X.K H a ys):xs=ys:=by
 obtain ⟨its,r,⟨o,e,_,n,d⟩,_⟩:=I.tuple h
 obtain ⟨its',r',⟨o',e',_,n',d'⟩,_⟩:=I.tuple h'
 rw [e] at e';cases e'
 rw [d] at d'
 injection d' with d1 _
 have:its=its':=by simpa using congrArg Array.toList d1
 subst this
 exact r.inj r'
abbrev Cx.wish (X:Cx) (E:Value->Shared->Prop):Cx:={ X with xe:=E }
abbrev Cx.nox (X:Cx):Cx:=X.wish λ_ _=>False
theorem Cx.Ok.wish (ok:X.Ok) (E:Value->Shared->Prop):(X.wish E).Ok :=
 ⟨ok.mod,ok.kind,ok.glob,ok.blt,ok.above,ok.inj,ok.has,ok.cab,ok.hd,ok.frames,ok.stk,ok.exf,ok.bs,ok.bsz,ok.noex,ok.exfs,ok.funs,ok.frf⟩
theorem Cx.Ok.unwish (ok:(X.wish E).Ok):X.Ok :=
 ⟨ok.mod,ok.kind,ok.glob,ok.blt,ok.above,ok.inj,ok.has,ok.cab,ok.hd,ok.frames,ok.stk,ok.exf,ok.bs,ok.bsz,ok.noex,ok.exfs,ok.funs,ok.frf⟩
theorem Inv.wish (I:Inv X pins σ H s) (E:Value->Shared->Prop):Inv (X.wish E) pins σ H s:=⟨I.ok.wish E,I.os,I.bare,I.base,I.loc,I.cell,I.free,I.freeC,I.pin,I.hok,I.len⟩
theorem Inv.unwish (I:Inv (X.wish E) pins σ H s):Inv X pins σ H s:=⟨I.ok.unwish,I.os,I.bare,I.base,I.loc,I.cell,I.free,I.freeC,I.pin,I.hok,I.len⟩
theorem SP.unwish {D:Ends} {f:Flow} (h:SP (X.wish E) pins D f s'):SP X pins D f s':=by
 cases f with
 | next=>obtain ⟨σ',H',I,q⟩:=h;exact ⟨σ',H',I.unwish,q⟩
 | brk=>obtain ⟨σ',H',I,q⟩:=h;exact ⟨σ',H',I.unwish,q⟩
 | cont=>obtain ⟨σ',H',I,q⟩:=h;exact ⟨σ',H',I.unwish,q⟩
 | ret u=>obtain ⟨v,σ',H',I,r,q⟩:=h;exact ⟨v,σ',H',I.unwish,r,q⟩
theorem PE.nox {t:TE} (h:PE X.nox e t):PE X e t:=λpins s σ H Q I hw =>
 wpAny_mono (h pins s σ H Q (I.wish _) hw) (λ_ _ ⟨v,H',I',r,q⟩=>⟨v,H',I'.unwish,r,q⟩) λ_ _ z=>False.elim z
theorem PSs.nox {st:List Stmt} {t:TS} (h:PSs X.nox st t):PSs X st t:=λpins s σ H D I hw =>
 wpAny_mono (h pins s σ H D (I.wish _) hw) (λ_ _ q=>q.unwish) λ_ _ z=>False.elim z
section
variable {rest:List Stmt} {t u:TS}
def Qnn:TS:=λD σ H=>D.nx σ H
def tSeq (t u:TS):TS:=λD σ H=>t { D with nx:=u D } σ H
theorem Qjj:PSs X [] Qnn:=λ_ _ σ H _ I h=>wpAny_execs_nil ⟨σ,H,I,h⟩
theorem Qg3 (h1:PS X st t) (h2:PSs X rest u):PSs X (st::rest) (tSeq t u):=by
 intro pins s σ H D I h
 refine wpAny_execs_cons (thn (h1 pins s σ H { D with nx:=u D } I h) λf s1 q=>?_)
 cases f with
 | next =>
  obtain ⟨σ',H',I',q⟩:=q
  exact h2 pins s1 σ' H' D I' q
 | ret v=>exact q
 | brk=>exact q
 | cont=>exact q
theorem Qji (h1:PS X st t):PSs X [st] t:=by
 intro pins s σ H D I h
 refine wpAny_execs_cons (thn (h1 pins s σ H D I h) λf s1 q=>?_)
 cases f with
 | next=>exact wpAny_execs_nil q
 | ret v=>exact q
 | brk=>exact q
 | cont=>exact q
theorem Inv.quiet (I:Inv X pins σ H s):interactive X.env=false:=by simp [interactive,I.ok.kind]
def Qno (te:TE):TS:=λD σ H=>te σ H λ_ H1=>D.nx σ H1
theorem Qbz (he:PE X e te) (hs:swapsWith e none pos.line X.env=pure false:=by rfl):PS X (.Expr e pos) (Qno te):=by
 intro pins s σ H D I h
 exact wpAny_Expr_any (thn (he pins s σ H _ I h) λv s1 ⟨x,H1,I1,r1,q1⟩=>⟨σ,H1,I1,q1⟩) I.quiet hs
def tRet (te:TE):TS:=λD σ H=>te σ H D.rt
theorem Qig (he:PE X e te):PS X (.Return (some e) pos) (tRet te):=by
 intro pins s σ H D I h
 exact wpAny_Return_some (thn (he pins s σ H _ I h) λv s1 ⟨x,H1,I1,r1,q1⟩=>⟨x,σ,H1,I1,r1,q1⟩)
def tIfS (c:TT) (t u:TS):TS:=λD σ H=>c σ H λb H1=>if b=true then t D σ H1 else u D σ H1
theorem Qn0 {a b:List Stmt} (hc:PT X c tc) (ha:PSs X a t) (hb:PSs X b u):PS X (.If c a b pos) (tIfS tc t u):=by
 intro pins s σ H D I h
 refine wpAny_If (thn (hc pins s σ H _ I h) λd s1 ⟨H1,I1,q1⟩=>?_)
 cases d with
 | true=>exact ha pins s1 σ H1 D I1 q1
 | false=>exact hb pins s1 σ H1 D I1 q1
end
abbrev TG:=V->St->Hp->(St->Hp->Prop)->Prop
abbrev TGs:=List V->St->Hp->(St->Hp->Prop)->Prop
def PG (X:Cx) (target:Expr) (t:TG):Prop :=
 ∀(pins:List (Addr × Obj)) (s:Shared) (σ:St) (H:Hp) (v:V) (u:Value) (Q:St->Hp->Prop),Inv X pins σ H s->RelV v u->t v σ H Q ->
  wpAny (model X.prog X.w) X.A (assign target X.env u) (λ_ s'=>∃σ' H',Inv X pins σ' H' s'/\Q σ' H') X.xe s
def PGs (X:Cx) (ts:List Expr) (t:TGs):Prop :=
 ∀(pins:List (Addr × Obj)) (s:Shared) (σ:St) (H:Hp) (vs:List V) (us:List Value) (Q:St->Hp->Prop),Inv X pins σ H s->Vals vs us->t vs σ H Q ->
  wpAny (model X.prog X.w) X.A (assignInOrder ((assignEach ts X.env).map (·.2)) us) (λ_ s'=>∃σ' H',Inv X pins σ' H' s'/\Q σ' H') X.xe s
abbrev TSet:=V->V->V->Hp->(Hp->Prop)->Prop
end L2
variable {o:PySem.Obj} {g:L2.TG} {es:List PySem.Expr} {n:Nat} {to:L2.TE} {tg:PySem.Expr} {pos':PySem.Pos} {body:List PySem.Stmt}
namespace L2
open PySem PySem.Spec PyProof.Rows
def PSet (X:Cx) (t:TSet):Prop :=
 ∀(pins:List (Addr × Obj)) (s:Shared) (σ:St) (H:Hp) (o i v:V) (ov iv u:Value) (Q:Hp->Prop),Inv X pins σ H s->RelV o ov->RelV i iv->RelV v u->t o i v H Q ->
  wpAny (model X.prog X.w) X.A (setItem ov iv u) (λ_ s'=>∃H',Inv X pins σ H' s'/\Q H') X.xe s
def Qa6 (i:Nat):TG:=λv σ H Q=>Q (σ.set i (some v)) H
theorem Xt (hN:X.N.Nodup) (hi:X.N[i]? = some x) (hx:Loc X.env.scope x) (hf:X.fn x=true\/X.env.scope.names.lookup x=some .local:=by first | exact .inl rfl | exact .inr rfl | assumption):PG X (.Name x pos) (Qa6 i):=by
 intro pins s σ H v u Q I r h
 exact wpAny_assign_Name (Qcs I hN hi hx r (λs' I'=>⟨_,H,I',h⟩) hf)
def gNil:TGs:=λvs σ H Q=>vs=[]/\Q σ H
def Qj7 (t:TG) (u:TGs):TGs:=λvs σ H Q=>∃v r,vs=v::r/\t v σ H λσ' H'=>u r σ' H' Q
theorem Qjo:PGs X [] gNil:=by
 intro pins s σ H vs us Q I r h
 obtain ⟨e,h⟩:=h
 subst e
 cases r
 exact assignInOrder_nil ⟨σ,H,I,h⟩
theorem Qcy {t:TG} {u:TGs} (h1:PG X e t) (h2:PGs X es u)
  (hs:(assignEach (e::es) X.env).map (·.2)=assign e X.env::(assignEach es X.env).map (·.2):=by rfl):PGs X (e::es) (Qj7 t u):=by
 intro pins s σ H vs us Q I r h
 obtain ⟨v,vr,e1,h⟩:=h
 subst e1
 cases r with
 | cons r rr =>
  rw [hs]
  refine assignInOrder_cons (thn (h1 pins s σ H _ _ _ I r h) λ_ s1 ⟨σ1,H1,I1,q1⟩=>?_)
  exact h2 pins s1 σ1 H1 _ _ Q I1 rr q1
def gTup (K:PySem.W.Frag) (n:Nat) (t:TGs):TG:=λv σ H Q=>∃a xs,v=.ref a/\SqT K H a xs/\xs.length=n/\t xs σ H Q
theorem Qlx {k:Nat} {t:TGs} (hc:X.calm=true) (h:PGs X es t)
  (hn:(assignEach es X.env).length=n:=by rfl) (hst:(assignEach es X.env).findIdx? (·.1)=none:=by rfl):PG X (.Tuple es k pos) (gTup X.K n t):=by
 intro pins s σ H v u Q I r hw
 obtain ⟨a,xs,e1,hq,hl,hw⟩:=hw
 subst e1
 cases r
 obtain ⟨its,rv,ht,hz⟩:=I.tuple hq
 refine assign_Tuple_tuple (I.ok.hd hc) ht (by simp [hn,← hl,rv.length]) hst λh' hx=>?_
 have I1:Inv X pins σ H { s with heap:=h' }:=I.kept (t':=s.toks) λb o e=>hx b o (Nat.ne_of_lt (Heap.lt_size e)) e
 exact h pins _ σ H xs _ Q I1 (by simpa using rv) hw
def gSub (to ti:TE) (t:TSet):TG:=λv σ H Q=>to σ H λo H1=>ti σ H1 λi H2=>t o i v H2 λH3=>Q σ H3
theorem Qly {o i:Expr} {ti:TE} {t:TSet} (ho:PE X o to) (hi:PE X i ti) (hs:PSet X t)
  (ha:∀v,assign (.Subscript o i pos) X.env v=(do
   let ov ← holding [v] (eval o X.env)
   let iv ← holding [v,ov] (eval i X.env)
   standAt pos
   holding [v,ov,iv] (setItem ov iv v)
   release [v,ov,iv] []):=by intro _;rfl):PG X (.Subscript o i pos) (gSub to ti t):=by
 intro pins s σ H v u Q I r h
 rw [ha]
 refine wpAny_bind (wpAny_holding (thn (ho pins s σ H _ I h) λov s1 ⟨x,H1,I1,r1,q1⟩=>?_))
 refine wpAny_bind (wpAny_holding (thn (hi pins s1 σ H1 _ I1 q1) λiv s2 ⟨y,H2,I2,r2,q2⟩=>?_))
 refine wpAny_bind (wpAny_standAt (wpAny_bind (wpAny_holding (thn (hs pins s2 σ H2 x y v ov iv u _ I2 r1 r2 r q2) λ_ s3 ⟨H3,I3,q3⟩=>?_))))
 exact wpAny_release ⟨σ,H3,I3,q3⟩
def tAsg (te:TE) (g:TG):TS:=λD σ H=>te σ H λx H1=>g x σ H1 D.nx
theorem Qlv (he:PE X e te) (hg:PG X tg g) (hs:swapsWithSole [tg] e pos.line X.env=pure false:=by rfl) (hw:swappedStores [tg] e X.env=pure none:=by rfl)
  (h1:(assignEach [tg] X.env).map (·.2)=[assign tg X.env]:=by rfl):PS X (.Assign [tg] e pos) (tAsg te g):=by
 intro pins s σ H D I h
 refine wpAny_Assign_stores (thn (he pins s σ H _ I h) λv s1 ⟨x,H1,I1,r1,q1⟩=>?_) hs hw
 rw [h1]
 exact thn (hg pins s1 σ H1 x v _ I1 r1 q1) λ_ s2 q=>q
theorem Qlt (hN:X.N.Nodup) (hi:X.N[i]? = some x) (hx:Loc X.env.scope x) (he:PE X e te) (hs:swapsWith e (some (.Name x pos')) pos.line X.env=pure false:=by rfl) (hf:X.fn x=true\/X.env.scope.names.lookup x=some .local:=by first | exact .inl rfl | exact .inr rfl | assumption) :
  PS X (.Assign [.Name x pos'] e pos) (tAsg te (Qa6 i)):=by
 intro pins s σ H D I h
 refine wpAny_Assign_Name (thn (he pins s σ H _ I h) λv s1 ⟨y,H1,I1,r1,q1⟩=>?_) hs
 exact Qcs I1 hN hi hx r1 (λs2 I2=>⟨_,H1,I2,q1⟩) hf
def Qk1 (c:TT) (tb:TS):TS:=λD σ H=>∃W:Nat->St->Hp->Prop,(∃m,W m σ H)/\∀m σ H,W m σ H ->
 c σ H λb H1=>if b=true then ∃N:St->Hp->Prop,(∀σ' H',N σ' H'->∃m',m' < m/\W m' σ' H')/\tb { D with nx:=N,ct:=N,bk:=D.nx } σ H1 else D.nx σ H1
theorem Qg4 {tb:TS} (hp:PassesOwn (model X.prog X.w) X.A X.env X.xe) (hc:PT X c tc) (hb:PSs X body tb):PS X (.While c body [] pos) (Qk1 tc tb):=by
 intro pins s σ H D I h
 obtain ⟨W,⟨m0,w0⟩,turn⟩:=h
 refine wpAny_While (codeAny_whileLoop (λn s'=>∃σ' H',Inv X pins σ' H' s'/\W n σ' H') ?_ m0 ⟨σ,H,I,w0⟩)
 rintro n s1 ⟨σ1,H1,I1,w1⟩
 refine wpAny_passesOwn hp (thn (hc pins s1 σ1 H1 _ I1 (turn n σ1 H1 w1)) λb s2 ⟨H2,I2,q2⟩=>?_)
 cases b with
 | true =>
  obtain ⟨N,hN,q2⟩:=q2
  rw [if_pos rfl]
  refine wpAny_passesOwn hp (thn (hb pins s2 σ1 H2 _ I2 q2) λf s3 q3=>?_)
  cases f with
  | next =>
   obtain ⟨σ3,H3,I3,n3⟩:=q3
   obtain ⟨m',hm,w3⟩:=hN σ3 H3 n3
   exact ⟨m',hm,σ3,H3,I3,w3⟩
  | cont =>
   obtain ⟨σ3,H3,I3,n3⟩:=q3
   obtain ⟨m',hm,w3⟩:=hN σ3 H3 n3
   exact ⟨m',hm,σ3,H3,I3,w3⟩
  | brk=>exact q3
  | ret v=>exact q3
 | false =>
  rw [if_neg Bool.false_ne_true]
  exact wpAny_execs_nil ⟨σ1,H2,I2,q2⟩
structure It where
 go:Nat->Hp->Prop
 yld:Nat->Hp->V->Hp->Prop
 stop:Nat->Hp->Prop
def FpOk (X:Cx) (pins:List (Addr × Obj)) (H:Hp) (b:Addr):Prop :=
 H b=none/\b≠X.env.locals/\b∉X.fs/\(b∈X.ex\/X.s₀.heap.objs.size<=b)/\(∀x c,X.env.cells.lookup x=some c->c≠b)/\∀p∈X.pn++pins,p.1≠b
theorem Inv.fpOk (I:Inv X pins σ H s) (hb:s.heap.objs.size<=b) (hn:H' b=none):FpOk X pins H' b:=by
 refine ⟨hn,Nat.ne_of_gt (Nat.lt_of_lt_of_le I.lt hb),I.nofs hb,.inr (Nat.le_trans I.sz hb),λx c e z=>?_,λp hp z=>?_⟩
 ·obtain ⟨v,q⟩:=I.cell x c e
  exact absurd (Nat.lt_of_lt_of_le q.lt (by rw [z];exact hb)) (Nat.lt_irrefl _)
 ·exact absurd (Nat.lt_of_lt_of_le (Heap.lt_size (I.pin p hp).1) (by rw [z];exact hb)) (Nat.lt_irrefl _)
structure Turn (P:Program) (w:World) (K:PySem.W.Frag) (tg:Expr) (J:It) (fp:List Addr) (it:Addr) (tn:Nat->Heap->Prop):Prop where
 mem:it∈fp
 obj:∀i h,tn i h->∀b∈fp,∃o,h.get? b=some o/\∀v,o.data ≠ .cell v
 keep:∀i h h',tn i h->(∀b∈fp,∀o,h.get? b=some o->h'.get? b=some o)->tn i h'
 item:∀(X:Cx),X.prog=P->X.w=w->X.K=K->X.calm=true->∀(i:Nat) (pins:List (Addr × Obj)) (s:Shared) (σ:St) (H:Hp) (E:Value->Shared->Prop),Inv X pins σ H s->(∀b∈fp,FpOk X pins H b)->tn i s.heap->J.go i H ->
  wpAny (model P w) X.A (pyNext (.ref it)) (λr s1=>∃u,r=some u /\
   wpAny (model P w) X.A (letOwnedTupleGo tg (.ref it) u) (λ_ s2=>∃x H',Inv X pins σ H' s2/\RelV x u/\J.yld i H x H'/\tn (i+1) s2.heap/\∀b∈fp,H' b=none) E s1) E s
 done:∀(X:Cx),X.prog=P->X.w=w->X.K=K->X.calm=true->∀(i:Nat) (pins:List (Addr × Obj)) (s:Shared) (σ:St) (H:Hp) (E:Value->Shared->Prop),Inv X pins σ H s->(∀b∈fp,FpOk X pins H b)->tn i s.heap->J.stop i H ->
  wpAny (model P w) X.A (pyNext (.ref it)) (λr s1=>r=none/\Inv X pins σ H s1) E s
 self:∀(A:Around) (i:Nat) (s:Shared) (Q:Value->Shared->Prop) (E:Value->Shared->Prop),tn i s.heap->Q (.ref it) s->wpAny (model P w) A (pyIter (.ref it)) Q E s
abbrev TI:=St->Hp->(It->Hp->Prop)->Prop
end L2
variable {vs:List L2.V} {R:PySem.Result->PySem.Shared->Prop} {lo hi:Option Int} {fp:List PySem.Addr} {iter:PySem.Expr} {wi:L2.TI}
namespace L2
open PySem PySem.Spec PyProof.Rows
def PIE (X:Cx) (pins:List (Addr × Obj)) (σ:St) (tg:Expr) (R:It->Hp->Prop) (itv:Value) (s2:Shared):Prop :=
 ∃(it:Addr) (fp:List Addr) (tn:Nat->Heap->Prop) (J:It) (H':Hp),itv=.ref it/\Inv X pins σ H' s2/\Turn X.prog X.w X.K tg J fp it tn/\tn 0 s2.heap/\(∀b∈fp,FpOk X pins H' b)/\R J H'
def PI (X:Cx) (tg iter:Expr) (wi:TI):Prop :=
 ∀(pins:List (Addr × Obj)) (s:Shared) (σ:St) (H:Hp) (R:It->Hp->Prop),Inv X pins σ H s->wi σ H R ->
  wpAny (model X.prog X.w) X.A (eval iter X.env) (λv s1=>wpAny (model X.prog X.w) X.A (pyIter v) (PIE X pins σ tg R) X.xe s1) X.xe s
theorem Qho {M:Model} {n:String} {vs:Array Value} {Q:Unit->Shared->Prop} (ho:s.heap.get? it=some o) (hc:o.cls=.type n) (hd:o.data=.fields vs)
    (hn:["enumerate","zip","dict_itemiterator","dict_reverseitemiterator","odict_iterator","itertools.zip_longest","itertools.pairwise"].contains n=false) (hQ:Q () s):wpAny M A (letOwnedTupleGo tg (.ref it) u) Q E s:=by
  unfold letOwnedTupleGo
  cases tg <;> first
    | exact wpAny_pure hQ
    | (cases u <;> first
        | exact wpAny_pure hQ
        | (refine wpAny_bind (wpAny_load ho ?_)
           rw [hc,hd]
           show wpAny M A (if (["enumerate","zip","dict_itemiterator","dict_reverseitemiterator","odict_iterator","itertools.zip_longest","itertools.pairwise"].contains n && vs[0]? == some (rawInt _))=true then _ else _) Q E s
           rw [if_neg (by intro h;rw [hn,Bool.false_and] at h;cases h)]
           exact wpAny_pure hQ))
def Itl (K:PySem.W.Frag) (a:Addr):It :=
 ⟨λi H=>∃xs x,SqL K H a xs/\xs[i]? = some x,λi H x H'=>H'=H/\∀xs,SqL K H a xs->xs[i]? = some x,λi H=>∃xs,SqL K H a xs/\xs.length<=i⟩
def Itt (K:PySem.W.Frag) (a:Addr):It :=
 ⟨λi H=>∃xs x,SqT K H a xs/\xs[i]? = some x,λi H x H'=>H'=H/\∀xs,SqT K H a xs->xs[i]? = some x,λi H=>∃xs,SqT K H a xs/\xs.length<=i⟩
def Itr (lo:Int) (n:Nat):It:=⟨λi _=>i<n,λi H x H'=>H'=H/\x=.int (lo+i),λi _=>n<=i⟩
theorem Qei (a it:Addr):Turn P w K tg (Itl K a) [it] it (λi h=>h.IsListIter it a i) where
 mem:=by simp
 obj:=λi h st b hb=>by
  have e:b=it:=by simpa using hb
  subst e
  obtain ⟨o,e,c,d⟩:=st
  exact ⟨o,e,λv z=>by rw [d] at z;cases z⟩
 keep:=λi h h' st k=>st.at λo e=>k it (by simp) o e
 item:=by
  intro X hP hw hK hc i pins s σ H E I hf st hg
  subst hP hw hK
  obtain ⟨xs,x,hq,hx⟩:=hg
  obtain ⟨its,rv,p,hz⟩:=I.list hq
  obtain ⟨u,hu,ru⟩:=rv.get hx
  obtain ⟨f0,f1,f2,f3,f4,f5⟩:=hf it (by simp)
  refine wpAny_pyNext_list_item st p.isList (x:=u) (by simpa using hu) λh' st' sb=>?_
  have I1:Inv X pins σ H { s with heap:=h' }:=I.turned (t':=s.toks) (λb o hb e=>(sb.2 b hb).trans e) f0 f1 f3 f4 f5
  obtain ⟨o,e,c,d⟩:=id st'
  exact ⟨u,rfl,Qho (s:={ s with heap:=h' }) e c d (by decide) ⟨x,H,I1,ru,⟨rfl,λys hy=>by rw [I.list_inj hy hq];exact hx⟩,st',λb hb=>(hf b hb).1⟩⟩
 done:=by
  intro X hP hw hK hc i pins s σ H E I hf st hg
  subst hP hw hK
  obtain ⟨xs,hq,hx⟩:=hg
  obtain ⟨its,rv,p,hz⟩:=I.list hq
  obtain ⟨f0,f1,f2,f3,f4,f5⟩:=hf it (by simp)
  have hl:=rv.length
  exact wpAny_pyNext_list_end (I.ok.hd hc) st p.isList (by simp;omega) λh' eb=>⟨rfl,I.turned (t':=s.toks) (λb o hb e=>eb b o hb e) f0 f1 f3 f4 f5⟩
 self:=λ_ _ _ _ _ st h=>wpAny_pyIter_listiter st h
theorem Qdn (a it:Addr):Turn P w K tg (Itt K a) [it] it (λi h=>h.IsTupleIter it a i) where
 mem:=by simp
 obj:=λi h st b hb=>by
  have e:b=it:=by simpa using hb
  subst e
  obtain ⟨o,e,c,d⟩:=st
  exact ⟨o,e,λv z=>by rw [d] at z;cases z⟩
 keep:=λi h h' st k=>st.at λo e=>k it (by simp) o e
 item:=by
  intro X hP hw hK hc i pins s σ H E I hf st hg
  subst hP hw hK
  obtain ⟨xs,x,hq,hx⟩:=hg
  obtain ⟨its,rv,p,hz⟩:=I.tuple hq
  obtain ⟨u,hu,ru⟩:=rv.get hx
  obtain ⟨f0,f1,f2,f3,f4,f5⟩:=hf it (by simp)
  refine wpAny_pyNext_tuple_item st (show s.heap.IsTuple a its.toArray from p) (x:=u) (by simpa using hu) λh' st' sb=>?_
  have I1:Inv X pins σ H { s with heap:=h' }:=I.turned (t':=s.toks) (λb o hb e=>(sb.2 b hb).trans e) f0 f1 f3 f4 f5
  obtain ⟨o,e,c,d⟩:=id st'
  exact ⟨u,rfl,Qho (s:={ s with heap:=h' }) e c d (by decide) ⟨x,H,I1,ru,⟨rfl,λys hy=>by rw [I.tuple_inj hy hq];exact hx⟩,st',λb hb=>(hf b hb).1⟩⟩
 done:=by
  intro X hP hw hK hc i pins s σ H E I hf st hg
  subst hP hw hK
  obtain ⟨xs,hq,hx⟩:=hg
  obtain ⟨its,rv,p,hz⟩:=I.tuple hq
  obtain ⟨f0,f1,f2,f3,f4,f5⟩:=hf it (by simp)
  have hl:=rv.length
  exact wpAny_pyNext_tuple_end (I.ok.hd hc) st (show s.heap.IsTuple a its.toArray from p) (by simp;omega) λh' eb=>⟨rfl,I.turned (t':=s.toks) (λb o hb e=>eb b o hb e) f0 f1 f3 f4 f5⟩
 self:=λ_ _ _ _ _ st h=>wpAny_pyIter_tupleiter st h
theorem Qdo (it:Addr) (lo:Int) (n:Nat):Turn P w K tg (Itr lo n) [it] it (λi h=>IsRangeIter h it (lo+(i:Nat)*1) ((n:Int)-(i:Nat)) 1) where
 mem:=by simp
 obj:=λi h st b hb=>by
  have e:b=it:=by simpa using hb
  subst e
  exact ⟨_,st,λv z=>by
   have z':Data.fields _=Data.cell v:=z
   cases z'⟩
 keep:=λi h h' st k=>k it (by simp) _ st
 item:=by
  intro X hP hw hK hc i pins s σ H E I hf st hg
  subst hP hw hK
  obtain ⟨f0,f1,f2,f3,f4,f5⟩:=hf it (by simp)
  have W:=Walks.range (prog:=X.prog) (w:=X.w) (I.ok.hd hc) it lo 1 n
  refine W.item i s _ _ hg st λv h' tk hv st' kk=>?_
  obtain ⟨t,rfl⟩:=hv
  have I1:Inv X pins σ H { s with heap:=h',toks:=tk }:=I.turned (λb o hb e=>kk b o (by simpa using hb) e) f0 f1 f3 f4 f5
  refine ⟨_,rfl,Qho (s:={ s with heap:=h',toks:=tk }) (n:="range_iterator") st' rfl rfl (by decide) ⟨.int (lo+i),H,I1,⟨t,?_⟩,⟨rfl,rfl⟩,st',λb hb=>(hf b hb).1⟩⟩
  rw [Int.mul_one]
 done:=by
  intro X hP hw hK hc i pins s σ H E I hf st hg
  subst hP hw hK
  obtain ⟨f0,f1,f2,f3,f4,f5⟩:=hf it (by simp)
  exact wpAny_pyNext_range_end (I.ok.hd hc) st (by have:n<=i:=hg;omega) λh' eb=>⟨rfl,I.turned (t':=s.toks) (λb o hb e=>eb b o hb e) f0 f1 f3 f4 f5⟩
 self:=λ_ _ _ _ _ st h=>wpAny_pyIter_rangeiter st h
theorem Qgx {R:It->Hp->Prop} {lo hi:Int} {t u v:Tok} {tk:Nat} (I:Inv X pins σ H s) (h1:-(2 ^ 62)<=lo) (h2:lo<2 ^ 62) (h3:-(2 ^ 62)<=hi) (h4:hi<2 ^ 62)
  (q:R (Itr lo (hi-lo).toNat) H):wpAny (model X.prog X.w) X.A (pyIter (.ref s.heap.objs.size)) (PIE X pins σ tg R) E { s with heap:=s.heap.push { cls:=.type "range",data:=.fields #[.int lo t,.int hi u,.int 1 v] },toks:=tk }:=by
 refine wpAny_pyIter_range (IsRange.new ..) (small_one h1 h2 h3 h4) ?_
 have I1:Inv X pins σ H { s with heap:=s.heap.push { cls:=.type "range",data:=.fields #[.int lo t,.int hi u,.int 1 v] },toks:=tk }:=I.kept λb o e=>Heap.get?_push_of_some _ e
 refine ⟨(s.heap.push { cls:=.type "range",data:=.fields #[.int lo t,.int hi u,.int 1 v] }).objs.size,[(s.heap.push { cls:=.type "range",data:=.fields #[.int lo t,.int hi u,.int 1 v] }).objs.size],_,_,H,rfl,
  I1.kept (t':=tk) λb o e=>Heap.get?_push_of_some _ e,Qdo _ lo (hi-lo).toNat,?_,λb hb=>?_,q⟩
 ·have e1:lo+((0:Nat):Int)*1=lo:=by simp
  have e2:(((hi-lo).toNat:Nat):Int)-((0:Nat):Int)=Builtin.Range.rangeSize lo hi 1:=by rw [rangeSize_one];split <;> omega
  show IsRangeIter _ _ (lo+((0:Nat):Int)*1) ((((hi-lo).toNat:Nat):Int)-((0:Nat):Int)) 1
  rw [e1,e2]
  exact Heap.get?_push_size _ rfl
 ·have e:b=(s.heap.push { cls:=.type "range",data:=.fields #[.int lo t,.int hi u,.int 1 v] }).objs.size:=by simpa using hb
  subst e
  exact I1.fpOk (Nat.le_refl _) (I1.hok.fresh (Nat.le_refl _))
def Qoh (ta:TA):TI:=λσ H R=>ta σ H λvs H1=>∃j:Int,vs=[.int j] /\ -(2 ^ 62)<=j/\j<2 ^ 62/\R (Itr 0 j.toNat) H1
theorem Qez {a:Expr} {ta:TA} (hg:Gl X "range") (hm:X.mg "range" = none) (ha:PA X [a] ta) (hs:starEach [a] X.env=[(false,eval a X.env)]:=by rfl):PI X tg (.Call (.Name "range" p) [a] [] pos) (Qoh ta):=by
 intro pins s σ H R I h
 refine Call_ (Xc I hg hm boot_range (PyProof.Rows.callWith_type1 (thn (ha pos pins s σ H _ I h) λus s1 ⟨vs,H1,I1,r1,q1⟩=>?_) hs rfl))
 obtain ⟨j,e,q1,q2,q⟩:=q1
 subst e
 cases r1 with
 | cons r rr =>
  cases rr
  obtain ⟨t,rfl⟩:=r
  exact call_range_1 (Qgx I1 (by omega) (by omega) q1 q2 (by simpa using q))
def tFor (wi:TI) (g:TG) (tb:TS):TS:=λD σ H=>wi σ H λJ H1=>∃W:Nat->Nat->St->Hp->Prop,(∃m,W 0 m σ H1)/\∀i m σ H,W i m σ H ->
 (J.stop i H/\D.nx σ H)\/(J.go i H/\∃N:St->Hp->Prop,(∀σ' H',N σ' H'->∃m',m' < m/\W (i+1) m' σ' H')/\∀x H',J.yld i H x H'->g x σ H' λσ2 H2=>tb { D with nx:=N,ct:=N,bk:=D.nx } σ2 H2)
def Qat (fp:List Addr) (h:Heap):List (Addr × Obj):=fp.filterMap λb=>(h.get? b).map λo=>(b,o)
theorem Zy (hb:b∈fp) (e:h.get? b=some o):(b,o)∈Qat fp h:=List.mem_filterMap.mpr ⟨b,hb,by rw [e];rfl⟩
theorem Qfa {p:Addr × Obj} (hp:p∈Qat fp h):p.1∈fp/\h.get? p.1=some p.2:=by
 obtain ⟨b,hb,e⟩:=List.mem_filterMap.mp hp
 cases q:h.get? b with
 | none=>rw [q] at e;cases e
 | some o =>
  rw [q] at e
  have e':(b,o)=p:=Option.some.inj e
  subst e'
  exact ⟨hb,q⟩
theorem Inv.pinned (I:Inv X pins σ H s) (hf:∀b∈fp,FpOk X pins H b) (ho:∀b∈fp,∃o,s.heap.get? b=some o/\∀v,o.data ≠ .cell v):Inv X (pins++Qat fp s.heap) σ H s :=
 I.pins_of λp hp=>(List.mem_append.mp hp).elim (λz=>I.pin p (List.mem_append_right _ z)) λz=>by
  obtain ⟨hb,e⟩:=Qfa z
  obtain ⟨f0,f1,f2,_⟩:=hf p.1 hb
  obtain ⟨o,e',d⟩:=ho p.1 hb
  rw [e] at e';cases e'
  exact ⟨e,f0,f1,f2,d⟩
theorem Inv.unpinned {pl:List (Addr × Obj)} (I:Inv X (pins++pl) σ H s):Inv X pins σ H s:=I.pins_of λp hp=>I.pin p (List.mem_append_right _ (List.mem_append_left _ hp))
theorem Qlu {tb:TS} (hp:PassesOwn (model X.prog X.w) X.A X.env X.xe) (hc:X.calm=true) (hi:PI X tg iter wi) (hg:PG X tg g) (hb:PSs X body tb)
  (hs:∀x,foldedSetIterable iter X.env x=pure x:=by intro _;rfl):PS X (.For tg iter body [] pos) (tFor wi g tb):=by
 intro pins s σ H D I h
 refine wpAny_For (thn (hi pins s σ H _ I h) λv s1 h1=>thn h1 λitv s2 h2=>?_) hs
 obtain ⟨it,fp,tn,J,H2,e,I2,T,st2,f2,W,⟨m0,w0⟩,turn⟩:=h2
 subst e
 -- what stays true of the iterator's objects through the loop
 have stat:∀{H':Hp},(∀b∈fp,H' b=none)->∀b∈fp,FpOk X pins H' b:=λhn b hb=>⟨hn b hb,(f2 b hb).2⟩
 refine codeAny_forLoop_any (λn s'=>∃i σ' H',Inv X pins σ' H' s'/\tn i s'.heap/\(∀b∈fp,H' b=none)/\W i n σ' H') ?_ m0 ⟨0,σ,H2,I2,st2,λb hb=>(f2 b hb).1,w0⟩
 rintro n s3 ⟨i,σ3,H3,I3,st3,fr3,w3⟩
 rcases turn i n σ3 H3 w3 with ⟨stop,qn⟩ | ⟨go,N,hN,step⟩
 ·refine wpAny_passesOwn hp (thn (T.done X rfl rfl rfl hc i pins s3 σ3 H3 X.xe I3 (stat fr3) st3 stop) λr s4 ⟨hr,I4⟩=>?_)
  subst hr
  exact wpAny_execs_nil ⟨σ3,H3,I4,qn⟩
 ·refine wpAny_passesOwn hp (thn (T.item X rfl rfl rfl hc i pins s3 σ3 H3 X.xe I3 (stat fr3) st3 go) λr s4 ⟨u,hr,h4⟩=>?_)
  subst hr
  refine wpAny_passesOwn hp (thn h4 λ_ s5 ⟨x,H5,I5,r5,y5,st5,fr5⟩=>?_)
  have I5':=I5.pinned (stat fr5) (T.obj _ _ st5)
  refine wpAny_passesOwn hp (thn (hg _ s5 σ3 H5 x u _ I5' r5 (step x H5 y5)) λ_ s6 ⟨σ6,H6,I6,q6⟩=>?_)
  refine wpAny_passesOwn hp (thn (hb _ s6 σ6 H6 _ I6 q6) λf s7 q7=>?_)
  have again:∀{σ7:St} {H7:Hp},Inv X (pins++Qat fp s5.heap) σ7 H7 s7->N σ7 H7->∃m,m<n/\∃i σ' H',Inv X pins σ' H' s7/\tn i s7.heap/\(∀b∈fp,H' b=none)/\W i m σ' H':=λ{σ7 H7} I7 n7=>by
   obtain ⟨m',hm,w7⟩:=hN σ7 H7 n7
   refine ⟨m',hm,i+1,σ7,H7,I7.unpinned,T.keep _ _ _ st5 λb hb o e=>(I7.pin (b,o) (List.mem_append_right _ (List.mem_append_right _ (Zy hb e)))).1,λb hb=>?_,w7⟩
   obtain ⟨o,e,d⟩:=T.obj _ _ st5 b hb
   exact (I7.pin (b,o) (List.mem_append_right _ (List.mem_append_right _ (Zy hb e)))).2.1
  cases f with
  | next=>obtain ⟨σ7,H7,I7,n7⟩:=q7;exact again I7 n7
  | cont=>obtain ⟨σ7,H7,I7,n7⟩:=q7;exact again I7 n7
  | brk=>obtain ⟨σ7,H7,I7,q7⟩:=q7;exact ⟨σ7,H7,I7.unpinned,q7⟩
  | ret v=>obtain ⟨x7,σ7,H7,I7,r7,q7⟩:=q7;exact ⟨x7,σ7,H7,I7.unpinned,r7,q7⟩
abbrev R2:=V->V->Hp->VK->Prop
end L2
variable {o:Option L2.V} {g:Int->Int->Int} {i:Int} {op:PySem.CmpOp} {r:L2.R2} {C dx:PySem.Addr} {its:List PySem.Value} {mA:PySem.Str->Option PySem.Value} {fs:List (PySem.Str × L2.V)}
namespace L2
open PySem PySem.Spec PyProof.Rows
def OpR (X:Cx) (f:Value->Value->Sem Value) (r:R2):Prop :=
 ∀(pins:List (Addr × Obj)) (s:Shared) (σ:St) (H:Hp) (x y:V) (v u:Value) (Q:VK),Inv X pins σ H s->RelV x v->RelV y u->r x y H Q ->
  wpAny (model X.prog X.w) X.A (f v u) (EP X pins σ Q) X.xe s
def Y4 (X:Cx) (f:Value) (r:List V->Hp->VK->Prop):Prop :=
 ∀(pins:List (Addr × Obj)) (s:Shared) (σ:St) (H:Hp) (xs:List V) (us:List Value) (Q:VK),Inv X pins σ H s->Vals xs us->r xs H Q ->
  wpAny (model X.prog X.w) X.A (call f us) (EP X pins σ Q) X.xe s
def TruR (X:Cx) (r:V->Hp->(Bool->Hp->Prop)->Prop):Prop :=
 ∀(pins:List (Addr × Obj)) (s:Shared) (σ:St) (H:Hp) (x:V) (v:Value) (Q:Bool->Hp->Prop),Inv X pins σ H s->RelV x v->r x H Q ->
  wpAny (model X.prog X.w) X.A (truthy v) (TP X pins σ Q) X.xe s
def tOp (r:R2) (ta tb:TE):TE:=λσ H Q=>ta σ H λx H1=>tb σ H1 λy H2=>r x y H2 Q
def rI (C:Int->Int->Prop) (g:Int->Int->V):R2:=λx y H Q=>∃i j,x=.int i/\y=.int j/\C i j/\Q (g i j) H
def rI0 (g:Int->Int->V):R2:=λx y H Q=>∃i j,x=.int i/\y=.int j/\Q (g i j) H
section
variable {a b:Expr}
theorem binT (ha:PE X a ta) (hb:PE X b tb) {R:V->V->Hp->Prop} (I:Inv X pins σ H s)
  (h:ta σ H λx H1=>tb σ H1 λy H2=>R x y H2)
  (hf:∀v u s2 x y H2,Inv X pins σ H2 s2->RelV x v->RelV y u->R x y H2->wpAny (model X.prog X.w) X.A (f v u) Q X.xe s2) :
  wpAny (model X.prog X.w) X.A (eval a X.env) (λv s₁=>wpAny (model X.prog X.w) X.A (eval b X.env) (λu s₂=>wpAny (model X.prog X.w) X.A (f v u) Q X.xe s₂) X.xe s₁) X.xe s:=by
 refine thn (ha pins s σ H _ I h) λv s1 ⟨x,H1,I1,r1,q1⟩=>?_
 refine thn (hb pins s1 σ H1 _ I1 q1) λu s2 ⟨y,H2,I2,r2,q2⟩=>?_
 exact hf v u s2 x y H2 I2 r1 r2 q2
theorem Qn3 {op:Operator} (ho:OpR X (binaryOp op) r) (ha:PE X a ta) (hb:PE X b tb):PE X (.BinOp a op b pos) (tOp r ta tb):=by
 intro pins s σ H Q I h
 exact wpAny_BinOp (binT ha hb I h λv u s2 x y H2 I2 rx ry q=>ho pins s2 σ H2 x y v u Q I2 rx ry q)
theorem opI {C:Int->Int->Prop}
  (rule:∀(i j:Int) (t u:Tok) (s:Shared) (Q:Value->Shared->Prop) (E:Value->Shared->Prop),C i j->Q (.int (g i j) s.toks) { s with toks:=s.toks+1 }->wpAny (model X.prog X.w) X.A (f (.int i t) (.int j u)) Q E s) :
  OpR X f (rI C λi j=>.int (g i j)):=by
 intro pins s σ H x y v u Q I rx ry h
 obtain ⟨i,j,rfl,rfl,hc,q⟩:=h
 obtain ⟨t,rfl⟩:=rx
 obtain ⟨t',rfl⟩:=ry
 exact rule i j t t' s _ _ hc ⟨.int (g i j),H,I.tok _,⟨_,rfl⟩,q⟩
theorem opI0
  (rule:∀(i j:Int) (t u:Tok) (s:Shared) (Q:Value->Shared->Prop) (E:Value->Shared->Prop),Q (.int (g i j) s.toks) { s with toks:=s.toks+1 }->wpAny (model X.prog X.w) X.A (f (.int i t) (.int j u)) Q E s) :
  OpR X f (rI0 λi j=>.int (g i j)):=by
 intro pins s σ H x y v u Q I rx ry h
 obtain ⟨i,j,rfl,rfl,q⟩:=h
 obtain ⟨t,rfl⟩:=rx
 obtain ⟨t',rfl⟩:=ry
 exact rule i j t t' s _ _ ⟨.int (g i j),H,I.tok _,⟨_,rfl⟩,q⟩
theorem opB0 {g:Int->Int->Bool}
  (rule:∀(i j:Int) (t u:Tok) (s:Shared) (Q:Value->Shared->Prop) (E:Value->Shared->Prop),Q (.bool (g i j)) s->wpAny (model X.prog X.w) X.A (f (.int i t) (.int j u)) Q E s) :
  OpR X f (rI0 λi j=>.bl (g i j)):=by
 intro pins s σ H x y v u Q I rx ry h
 obtain ⟨i,j,rfl,rfl,q⟩:=h
 obtain ⟨t,rfl⟩:=rx
 obtain ⟨t',rfl⟩:=ry
 exact rule i j t t' s _ _ ⟨.bl (g i j),H,I,rfl,q⟩
def CDiv (i j:Int):Prop:=0<j/\j<1073741824
def Qot (i j:Int):Prop:=j≠0/\j.natAbs<1073741824
def CPow (i j:Int):Prop:=0<=j/\j<=1000000/\i.natAbs<2 ^ 64
def CMul (i j:Int):Prop:=(-(2 ^ 64)<i/\i<2 ^ 64)\/(-(2 ^ 64)<j/\j<2 ^ 64)
theorem CMul.ok {j:Int} (h:CMul i j):IntMulOk i j:=by
 rcases h with ⟨h1,h2⟩ | ⟨h1,h2⟩
 ·exact .of_left (intBits_le_64 h1 h2)
 ·exact .of_right (intBits_le_64 h1 h2)
theorem Qmc:OpR X (binaryOp .Add) (rI0 λi j=>.int (i+j)):=opI0 λ_ _ _ _ _ _ _ q=>add_int q
theorem Ql3:OpR X (binaryOp .Sub) (rI0 λi j=>.int (i-j)):=opI0 λ_ _ _ _ _ _ _ q=>sub_int q
theorem Ql8:OpR X (binaryOp .Mult) (rI CMul λi j=>.int (i*j)):=opI λ_ _ _ _ _ _ _ hc q=>mul_int q hc.ok
theorem Qjt:OpR X (binaryOp .FloorDiv) (rI CDiv λi j=>.int (i / j)):=opI λi j _ _ _ _ _ hc q=>by
 have h1:(0:Int)<j:=hc.1
 have h2:j<1073741824:=hc.2
 exact floordiv_int (by omega) (by rw [Int.fdiv_eq_ediv_of_nonneg i (by omega)];exact q) (.inl (PyProof.noPylong_small (by omega)))
theorem Qhe:OpR X (binaryOp .FloorDiv) (rI Qot λi j=>.int (i.fdiv j)):=opI λ_ _ _ _ _ _ _ hc q=>floordiv_int hc.1 q (.inl (PyProof.noPylong_small hc.2))
theorem Ql9:OpR X (binaryOp .Mod) (rI (λ_ j=>0<j) λi j=>.int (i % j)):=opI λi j _ _ _ _ _ hc q=>by
 have h1:(0:Int)<j:=hc
 exact mod_int' (by omega) (by rw [Int.fmod_eq_emod_of_nonneg i (by omega)];exact q)
theorem Qjs:OpR X (binaryOp .Mod) (rI (λ_ j=>j≠0) λi j=>.int (i.fmod j)):=opI λ_ _ _ _ _ _ _ hc q=>mod_int' hc q
theorem Ql5:OpR X (binaryOp .Pow) (rI CPow λi j=>.int (i ^ j.toNat)):=opI λ_ _ _ _ _ _ _ hc q=>pow_int_small hc.1 hc.2.1 hc.2.2 q
end
def scal:V->V->Bool
 | .non,.non=>true | .non,.int _=>true | .int _,.non=>true | .non,.bl _=>true | .bl _,.non=>true | .non,.str _=>true | .str _,.non=>true
 | .int _,.int _=>true | .bl _,.bl _=>true | .str _,.str _=>true | .byt _,.byt _=>true
 | .int _,.str _=>true | .str _,.int _=>true | .bl _,.str _=>true | .str _,.bl _=>true
 | _,_=>false
def rEq:R2:=λx y H Q=>scal x y=true/\Q (.bl (decide (x=y))) H
def rNe:R2:=λx y H Q=>scal x y=true/\Q (.bl (!decide (x=y))) H
theorem Qf5 {j:Int}:decide (V.int i=V.int j)=(i == j):=by
 rw [Bool.eq_iff_iff]
 simp
theorem Qdd {i j:Bool}:decide (V.bl i=V.bl j)=(i == j):=by
 rw [Bool.eq_iff_iff]
 simp
theorem Qf4 {i j:Str}:decide (V.str i=V.str j)=(i == j):=by
 rw [Bool.eq_iff_iff]
 simp
theorem Qf6 {i j:Array UInt8}:decide (V.byt i=V.byt j)=(i.toList == j.toList):=by
 rw [Bool.eq_iff_iff]
 cases i
 cases j
 simp
section
variable {a b:Expr}
theorem Q1 {Q:VK} {k k':Bool} (I:Inv X pins σ H s) (q:Q (.bl k) H) (e:k=k'):EP X pins σ Q (.bool k') s:=by
 subst e
 exact ⟨.bl k,H,I,rfl,q⟩
theorem Qn8:OpR X (compareOp .Eq) rEq:=by
 intro pins s σ H x y v u Q I rx ry h
 obtain ⟨hs,q⟩:=h
 cases x with
 | non =>
  cases rx
  cases y with
  | non=>cases ry;exact PySem.EqNone.eq_none_none (Q1 I q (by simp))
  | bl j=>cases ry;exact PySem.EqNone.eq_none_bool (Q1 I q (by simp))
  | int j=>obtain ⟨t',rfl⟩:=ry;exact PySem.EqNone.eq_none_int (Q1 I q (by simp))
  | str j=>obtain ⟨t',rfl⟩:=ry;exact PySem.EqNone.eq_none_str (Q1 I q (by simp))
  | _=>exact absurd (show false=true from hs) Bool.false_ne_true
 | bl i =>
  cases rx
  cases y with
  | non=>cases ry;exact PySem.EqNone.eq_bool_none (Q1 I q (by simp))
  | bl j=>cases ry;exact eq_bool (Q1 I q Qdd)
  | str j=>obtain ⟨t',rfl⟩:=ry;exact PySem.EqMixed.eq_bool_str (Q1 I q (by simp))
  | _=>exact absurd (show false=true from hs) Bool.false_ne_true
 | int i =>
  obtain ⟨t,rfl⟩:=rx
  cases y with
  | non=>cases ry;exact PySem.EqNone.eq_int_none (Q1 I q (by simp))
  | int j=>obtain ⟨t',rfl⟩:=ry;exact eq_int (Q1 I q Qf5)
  | str j=>obtain ⟨t',rfl⟩:=ry;exact PySem.EqMixed.eq_int_str (Q1 I q (by simp))
  | _=>exact absurd (show false=true from hs) Bool.false_ne_true
 | str i =>
  obtain ⟨t,rfl⟩:=rx
  cases y with
  | non=>cases ry;exact PySem.EqNone.eq_str_none (Q1 I q (by simp))
  | bl j=>cases ry;exact PySem.EqMixed.eq_str_bool (Q1 I q (by simp))
  | int j=>obtain ⟨t',rfl⟩:=ry;exact PySem.EqMixed.eq_str_int (Q1 I q (by simp))
  | str j=>obtain ⟨t',rfl⟩:=ry;exact eq_str (Q1 I q Qf4)
  | _=>exact absurd (show false=true from hs) Bool.false_ne_true
 | byt i =>
  obtain ⟨t,rfl⟩:=rx
  cases y with
  | byt j=>obtain ⟨t',rfl⟩:=ry;exact PySem.W.eq_bytes (Q1 I q Qf6)
  | _=>exact absurd (show false=true from hs) Bool.false_ne_true
 | _=>cases y <;> exact absurd (show false=true from hs) Bool.false_ne_true
theorem Qn5:OpR X (compareOp .NotEq) rNe:=by
 intro pins s σ H x y v u Q I rx ry h
 obtain ⟨hs,q⟩:=h
 cases x with
 | non =>
  cases rx
  cases y with
  | non=>cases ry;exact PySem.EqNone.ne_none_none (Q1 I q (by simp))
  | bl j=>cases ry;exact PySem.EqNone.ne_none_bool (Q1 I q (by simp))
  | int j=>obtain ⟨t',rfl⟩:=ry;exact PySem.EqNone.ne_none_int (Q1 I q (by simp))
  | str j=>obtain ⟨t',rfl⟩:=ry;exact PySem.EqNone.ne_none_str (Q1 I q (by simp))
  | _=>exact absurd (show false=true from hs) Bool.false_ne_true
 | bl i =>
  cases rx
  cases y with
  | non=>cases ry;exact PySem.EqNone.ne_bool_none (Q1 I q (by simp))
  | bl j=>cases ry;exact ne_bool (Q1 I q (congrArg not Qdd))
  | str j=>obtain ⟨t',rfl⟩:=ry;exact PySem.EqMixed.ne_bool_str (Q1 I q (by simp))
  | _=>exact absurd (show false=true from hs) Bool.false_ne_true
 | int i =>
  obtain ⟨t,rfl⟩:=rx
  cases y with
  | non=>cases ry;exact PySem.EqNone.ne_int_none (Q1 I q (by simp))
  | int j=>obtain ⟨t',rfl⟩:=ry;exact ne_int (Q1 I q (congrArg not Qf5))
  | str j=>obtain ⟨t',rfl⟩:=ry;exact PySem.EqMixed.ne_int_str (Q1 I q (by simp))
  | _=>exact absurd (show false=true from hs) Bool.false_ne_true
 | str i =>
  obtain ⟨t,rfl⟩:=rx
  cases y with
  | non=>cases ry;exact PySem.EqNone.ne_str_none (Q1 I q (by simp))
  | bl j=>cases ry;exact PySem.EqMixed.ne_str_bool (Q1 I q (by simp))
  | int j=>obtain ⟨t',rfl⟩:=ry;exact PySem.EqMixed.ne_str_int (Q1 I q (by simp))
  | str j=>obtain ⟨t',rfl⟩:=ry;exact ne_str (Q1 I q (congrArg not Qf4))
  | _=>exact absurd (show false=true from hs) Bool.false_ne_true
 | byt i =>
  obtain ⟨t,rfl⟩:=rx
  cases y with
  | byt j=>obtain ⟨t',rfl⟩:=ry;exact PySem.W.ne_bytes (Q1 I q (congrArg not Qf6))
  | _=>exact absurd (show false=true from hs) Bool.false_ne_true
 | _=>cases y <;> exact absurd (show false=true from hs) Bool.false_ne_true
theorem Qn6:OpR X (compareOp .Lt) (rI0 λi j=>.bl (decide (i<j))):=opB0 λ_ _ _ _ _ _ _ q=>lt_int q
theorem Qn7:OpR X (compareOp .Gt) (rI0 λi j=>.bl (decide (j<i))):=opB0 λ_ _ _ _ _ _ _ q=>gt_int q
theorem Qe4:OpR X (compareOp .In) (λx y H Q=>∃i j,x=.str i/\y=.str j/\Q (.bl (!(Builtin.Str.occurrences j i 0 j.length 1).isEmpty)) H):=by
 intro pins s σ H x y v u Q I rx ry h
 obtain ⟨i,j,rfl,rfl,q⟩:=h
 obtain ⟨t,rfl⟩:=rx
 obtain ⟨t',rfl⟩:=ry
 exact in_str (Q1 I q rfl)
theorem OpR.or {r':R2} (h:OpR X f r) (h':OpR X f r'):OpR X f (λx y H Q=>r x y H Q\/r' x y H Q):=by
 intro pins s σ H x y v u Q I rx ry q
 rcases q with q | q
 ·exact h pins s σ H x y v u Q I rx ry q
 ·exact h' pins s σ H x y v u Q I rx ry q
theorem Qij (b:Expr) (h:op ≠ .In:=by decide) (h2:op ≠ .NotIn:=by decide):behindInMarks op b=false:=by
 have e1:(op == CmpOp.In)=false:=by cases op <;> first | rfl | exact absurd rfl h
 have e2:(op == CmpOp.NotIn)=false:=by cases op <;> first | rfl | exact absurd rfl h2
 cases b <;> simp [behindInMarks,e1,e2]
theorem Qjq (ho:OpR X (compareOp op) r) (ha:PE X a ta) (hb:PE X b tb) (hm:behindInMarks op b=false):PE X (.Compare a [op] [b] pos) (tOp r ta tb):=by
 intro pins s σ H Q I h
 exact wpAny_Compare1 (binT ha hb I h λv u s2 x y H2 I2 rx ry q=>ho pins s2 σ H2 x y v u Q I2 rx ry q) hm
def Qnl (t:TE):TT:=λσ H Q=>t σ H λx H'=>∃k,x=.bl k/\Q k H'
theorem Qjh (ho:OpR X (compareOp op) r) (ha:PE X a ta) (hb:PE X b tb) (hm:behindInMarks op b=false):PT X (.Compare a [op] [b] pos) (Qnl (tOp r ta tb)):=by
 intro pins s σ H Q I h
 refine wpAny_isTrue_Compare1 (thn (ha pins s σ H _ I h) λv s1 ⟨x,H1,I1,r1,q1⟩=>thn (hb pins s1 σ H1 _ I1 q1) λu s2 ⟨y,H2,I2,r2,q2⟩ =>
  thn (ho pins s2 σ H2 x y v u _ I2 r1 r2 q2) λc s3 ⟨z,H3,I3,r3,k,e,q3⟩=>?_) hm
 subst e
 cases r3
 exact wpAny_truthy_bool ⟨H3,I3,q3⟩
def TruV (K:PySem.W.Frag) (x:V) (H:Hp) (k:Bool):Prop :=
 match x with
 | .non=>k=false
 | .bl b=>k=b
 | .int i=>k=(i != 0)
 | .str y=>y.length<=sizeLine/\k=((y.length:Int) != 0)
 | .byt y=>y.size<=sizeLine/\k=((y.size:Int) != 0)
 | .ref p=>(∃xs,SqL K H p xs/\k = !xs.isEmpty)\/(∃xs,SqT K H p xs/\k = !xs.isEmpty)\/∃kvs,H p=some (.dK kvs)/\k = !kvs.isEmpty
 | _=>False
theorem Qd0 {κ:Type} {kvs:List (κ × V)} {vs:List (κ × Value)} (r:KV kvs vs):(!vs.isEmpty) = !kvs.isEmpty:=by
 cases r <;> rfl
theorem Xe (r:Vals xs its):(!its.toArray.isEmpty) = !xs.isEmpty:=by
 cases r <;> simp
theorem Xb:(sizeLine:Nat)<2 ^ 63:=by rw [sizeLine_eq];decide
theorem Qkz:TruR X (λx H Q=>∃k,TruV X.K x H k/\Q k H):=by
 intro pins s σ H x v Q I rx h
 obtain ⟨k,e,q⟩:=h
 have hl:=Xb
 have hs:sizeLine=16777216:=sizeLine_eq
 cases x with
 | non =>
  cases rx
  have e':k=false:=e
  subst e'
  exact truthy_none ⟨H,I,q⟩
 | bl b =>
  cases rx
  have e':k=b:=e
  subst e'
  exact wpAny_truthy_bool ⟨H,I,q⟩
 | int i =>
  obtain ⟨t,rfl⟩:=rx
  have e':k=(i != 0):=e
  subst e'
  exact PySem.P.truthy_int ⟨H,I,q⟩
 | str y =>
  obtain ⟨t,rfl⟩:=rx
  obtain ⟨hy,e'⟩:y.length<=sizeLine/\k=((y.length:Int) != 0):=e
  subst e'
  exact PySem.P.truthy_str (by omega) ⟨H,I.tok _,q⟩
 | byt y =>
  obtain ⟨t,rfl⟩:=rx
  obtain ⟨hy,e'⟩:y.size<=sizeLine/\k=((y.size:Int) != 0):=e
  subst e'
  exact PySem.W.truthy_bytes (by omega) ⟨H,I.tok _,q⟩
 | ref p =>
  cases rx
  have e':(∃xs,SqL X.K H p xs/\k = !xs.isEmpty)\/(∃xs,SqT X.K H p xs/\k = !xs.isEmpty)\/∃kvs,H p=some (.dK kvs)/\k = !kvs.isEmpty:=e
  rcases e' with ⟨xs,hx,e'⟩ | ⟨xs,hx,e'⟩ | ⟨kvs,hx,e'⟩
  ·subst e'
   obtain ⟨its,r,pl,hz⟩:=I.list hx
   have hlen:=r.length
   exact wpAny_truthy_list pl.isList (by simp only [List.size_toArray];omega) ⟨H,I.tok _,by rw [Xe r];exact q⟩
  ·subst e'
   obtain ⟨its,r,pl,hz⟩:=I.tuple hx
   have hlen:=r.length
   exact truthy_tuple pl (by simp only [List.size_toArray];omega) ⟨H,I.tok _,by rw [Xe r];exact q⟩
  ·subst e'
   obtain ⟨hz,hS,vs,r,m⟩:kvs.length<=sizeLine/\(p == sysModules)=false/\∃vs,KV kvs vs/\s.heap.DictOf (Jc X.prog X.w) p vs:=I.hok p _ hx
   have hlen:kvs.length=vs.length:=Paired.length r
   exact wpAny_truthy_dict hS m (by omega) ⟨H,I.tok _,by rw [Qd0 r];exact q⟩
 | _=>exact (show False from e).elim
theorem Qg2 (ha:PE X a ta) (he:∀whole,isTrue a X.env whole=(do let v ← whole;standAt a.pos;holding [v] (truthy v))) :
  PT X a (λσ H Q=>ta σ H λx H'=>∃k,TruV X.K x H' k/\Q k H'):=by
 intro pins s σ H Q I h
 exact isTrue_plain (thn (ha pins s σ H _ I h) λv s1 ⟨x,H1,I1,r1,q1⟩=>Qkz pins s1 σ H1 x v Q I1 r1 q1) (he _)
theorem Qdt:OpR X (binaryOp .Add) (λx y H Q=>∃i j,x=.str i/\y=.str j/\i.length+j.length<=sizeLine/\Q (.str (i++j)) H):=by
 intro pins s σ H x y v u Q I rx ry h
 obtain ⟨i,j,rfl,rfl,hz,q⟩:=h
 obtain ⟨t,rfl⟩:=rx
 obtain ⟨t',rfl⟩:=ry
 exact add_str (λt' tk=>⟨.str (i++j),H,I.tok _,⟨_,rfl⟩,q⟩) hz
theorem Xm {x:V} (r:Vals [x] us):∃u,us=[u]/\RelV x u:=by
 cases r with
 | cons r1 r2=>cases r2;exact ⟨_,rfl,r1⟩
theorem Qit {x:V} (r:Vals [x,y] us):∃u w',us=[u,w']/\RelV x u/\RelV y w':=by
 cases r with
 | cons r1 r2 =>
  cases r2 with
  | cons r3 r4=>cases r4;exact ⟨_,_,rfl,r1,r3⟩
theorem Qgf (hc:X.calm=true):Y4 X (.builtin "min") (λxs H Q=>∃i j,xs=[.int i,.int j]/\Q (.int (if j<i then j else i)) H):=by
 intro pins s σ H xs us Q I r h
 obtain ⟨i,j,rfl,q⟩:=h
 obtain ⟨u,w',rfl,⟨t,rfl⟩,⟨t',rfl⟩⟩:=Qit r
 refine min_two_ints (I.ok.hd hc) λh' tk k=>⟨_,H,I.kept k,?_,q⟩
 by_cases hj:j<i
 ·rw [if_pos hj,if_pos hj];exact ⟨_,rfl⟩
 ·rw [if_neg hj,if_neg hj];exact ⟨_,rfl⟩
theorem Qgi:Y4 X (.type "int") (λxs H Q=>(∃i,xs=[.int i]/\Q (.int i) H)\/∃k,xs=[.bl k]/\Q (.int (if k then 1 else 0)) H):=by
 intro pins s σ H xs us Q I r h
 rcases h with ⟨i,rfl,q⟩ | ⟨k,rfl,q⟩
 ·obtain ⟨u,rfl,t,rfl⟩:=Xm r
  exact call_int_int ⟨.int i,H,I,⟨_,rfl⟩,q⟩
 ·obtain ⟨u,rfl,r1⟩:=Xm r
  cases r1
  exact call_int_bool ⟨.int (if k then 1 else 0),H,I.tok _,⟨_,rfl⟩,q⟩
def LenV (K:PySem.W.Frag) (x:V) (H:Hp) (n:Nat):Prop :=
 match x with
 | .str y=>y.length<=sizeLine/\n=y.length
 | .byt y=>y.size<=sizeLine/\n=y.size
 | .ref p=>(∃xs,SqL K H p xs/\n=xs.length)\/∃xs,SqT K H p xs/\n=xs.length
 | _=>False
theorem Qh4:Y4 X (.builtin "len") (λxs H Q=>∃x n,xs=[x]/\LenV X.K x H n/\Q (.int n) H):=by
 intro pins s σ H xs us Q I r h
 obtain ⟨x,n,rfl,e,q⟩:=h
 obtain ⟨u,rfl,rx⟩:=Xm r
 have hl:=Xb
 have hs:sizeLine=16777216:=sizeLine_eq
 cases x with
 | str y =>
  obtain ⟨t,rfl⟩:=rx
  obtain ⟨hy,e'⟩:y.length<=sizeLine/\n=y.length:=e
  subst e'
  exact len_str (by omega) ⟨.int _,H,I.tok _,⟨_,rfl⟩,q⟩
 | byt y =>
  obtain ⟨t,rfl⟩:=rx
  obtain ⟨hy,e'⟩:y.size<=sizeLine/\n=y.size:=e
  subst e'
  exact PySem.W.len_bytes (by omega) ⟨.int _,H,I.tok _,⟨_,rfl⟩,q⟩
 | ref p =>
  cases rx
  have e':(∃xs,SqL X.K H p xs/\n=xs.length)\/∃xs,SqT X.K H p xs/\n=xs.length:=e
  rcases e' with ⟨xs,hx,e'⟩ | ⟨xs,hx,e'⟩
  ·subst e'
   obtain ⟨its,r',pl,hz⟩:=I.list hx
   have hlen:=r'.length
   exact Calls.call_len_list pl.isList (by simp only [List.size_toArray];omega) ⟨.int xs.length,H,I.tok _,⟨_,by simp only [List.size_toArray];rw [hlen]⟩,q⟩
  ·subst e'
   obtain ⟨its,r',pl,hz⟩:=I.tuple hx
   have hlen:=r'.length
   exact len_tuple pl (by simp only [List.size_toArray];omega) ⟨.int xs.length,H,I.tok _,⟨_,by simp only [List.size_toArray];rw [hlen]⟩,q⟩
 | _=>exact (show False from e).elim
end
structure ObjM (h:Heap) (x dx C:Addr) (mA:Str->Option Value):Prop where
 obj:h.get? x=some (PySem.W.instObj C dx)
 ns:h.Ns1 dx mA
 ne:dx≠x
theorem Qfj (n:h.Ns1 dx mA):∃od,h.get? dx=some od/\∀name,PySem.W.lookIn name od=some (mA name):=by
 obtain ⟨o,es,ep,ho,hd,hk,_,hm⟩:=n
 refine ⟨o,ho,λname=>?_⟩
 have e:=hm name
 unfold nsFind findBy at e
 rw [← Array.find?_toList] at e
 unfold PySem.W.lookIn
 rw [hd]
 dsimp only
 split
 ·rename_i y q
  rw [q] at e
  exact congrArg some e
 ·rename_i q
  rw [q] at e
  have a:es.toList.any (·.refKey)=false:=by
   rw [List.any_eq_false]
   intro y hy
   obtain ⟨z,t,hkey⟩:=hk y (Array.mem_toList_iff.mp hy)
   simp [DictEntry.refKey,hkey]
  have a':¬es.toList.any (·.refKey)=true:=by rw [a];exact Bool.false_ne_true
  rw [if_neg a']
  exact congrArg some e
theorem ObjM.look {x:Addr} (I:ObjM h x dx C mA):∃od,PySem.W.InstAt h x (PySem.W.instObj C dx) C (some od)/\∀name,PySem.W.lookIn name od=some (mA name) :=
 let ⟨od,ho,hl⟩:=Qfj I.ns
 ⟨od,⟨I.obj,rfl,rfl,ho⟩,hl⟩
theorem RelO.some_of {o:Option Value} (r:RelO (some v) o):∃u,o=some u/\RelV v u:=by
 cases o with
 | none=>exact (show False from r).elim
 | some u=>exact ⟨u,rfl,r⟩
theorem Qj6 (hok:HOk P w H h) (e:H a=some (.ins C dx fs)):∃mA,ObjM h a dx C mA/\(∀f,RelO (fs.lookup f) (mA f))/\PySem.Within mA (fs.map (·.1))/\fs.length<=1000/\H dx=some (.own a):=by
 obtain ⟨d,z,ne,ob,mA,n,r,q⟩:=(show Jr P w H h a (.ins C dx fs) from hok a _ e)
 exact ⟨mA,⟨ob,n,ne⟩,r,q,z,d⟩
structure Cls (K:PySem.W.Frag) (C:Addr):Prop where
 pg:PySem.W.plainGet K C Str.empty=true
 hd:PySem.W.hasDictIn K C=true
 po:PySem.W.plainOver K C=true
 sa:PySem.W.findIn K (.ref C) "__setattr__" = some (some (.builtin "object.__setattr__"))
theorem Cls.get (c:Cls K C) (f:Str):PySem.W.plainGet K C f=true:=c.pg
section
variable {c:Value} {b:Bool}
inductive TyOf (K:PySem.W.Frag) (H:Hp):V->Value->Prop where
 | non:TyOf K H .non (.type "NoneType")
 | bl (x:Bool):TyOf K H (.bl x) (.type "bool")
 | int (i:Int):TyOf K H (.int i) (.type "int")
 | str (x:Str):TyOf K H (.str x) (.type "str")
 | flt (x:UInt64):TyOf K H (.flt x) (.type "float")
 | lst {a:Addr} {xs:List V} (e:H a=some (.lst xs)):TyOf K H (.ref a) (.type "list")
 | frz {a:Addr} {o:Obj} {xs:List V} (e:H a=some (.frz o (.lst xs))):TyOf K H (.ref a) (.type "list")
 | tup {a:Addr} {xs:List V} (e:H a=some (.tup xs)):TyOf K H (.ref a) (.type "tuple")
 | dK {a:Addr} {kvs:List (Key × V)} (e:H a=some (.dK kvs)):TyOf K H (.ref a) (.type "dict")
 | dT {a:Addr} {kvs:List (List Key × V)} (e:H a=some (.dT kvs)):TyOf K H (.ref a) (.type "dict")
 | ins {a C dx:Addr} {fs:List (Str × V)} (e:H a=some (.ins C dx fs)) (cl:Cls K C) (ha:PySem.W.findIn K (.ref C) "__class__" = some (some (.builtin "object.__class__")))
   (hn:PySem.W.specialIn K (.builtin "object.__class__") "__get__" = some (some (.builtin "getset_descriptor.__get__"))) (htk:PySem.W.takesIn K (.builtin "object.__class__")=some true)
   (hm:PySem.W.mroIn K C (.type "object")=some true):TyOf K H (.ref a) (.ref C)
theorem Qfq {x:V} {t:Value} (I:Inv X pins σ H s) (rx:RelV x u) (ty:TyOf X.K H x t) (e:PySem.W.kitOne X.K t c=some b) (h:∀tk,Q (.bool b) { s with toks:=tk }) :
  wpAny (model X.prog X.w) A (call (.builtin "isinstance") [u,c]) Q E s:=by
 cases ty with
 | non=>cases (show u=Value.none from rx);exact PySem.W.kia_one PySem.W.kitx_none I.kIn True.intro e (λz=>nomatch z) h
 | bl y=>cases (show u=Value.bool y from rx);exact PySem.W.kia_one PySem.W.kitx_bool I.kIn True.intro e (λz=>nomatch z) h
 | int i=>obtain ⟨t,q⟩:=(show ∃t,u=Value.int i t from rx);cases q;exact PySem.W.kia_one PySem.W.kitx_int I.kIn True.intro e (λz=>nomatch z) h
 | str y=>obtain ⟨t,q⟩:=(show ∃t,u=Value.str y t from rx);cases q;exact PySem.W.kia_one PySem.W.kitx_str I.kIn True.intro e (λz=>nomatch z) h
 | flt y=>obtain ⟨t,q⟩:=(show ∃t,u=Value.float y t from rx);cases q;exact PySem.W.kia_one PySem.W.kitx_float I.kIn True.intro e (λz=>nomatch z) h
 | @lst a xs ea =>
  cases (show u=Value.ref a from rx)
  obtain ⟨_,_,n,_,h1⟩:=(show Jr X.prog X.w H s.heap a (.lst xs) from I.hok a _ ea)
  exact PySem.W.kia_one PySem.W.kitx_list I.kIn ⟨_,h1,rfl⟩ e (λz=>nomatch z) h
 | @frz a ob xs ea =>
  cases (show u=Value.ref a from rx)
  obtain ⟨_,_,_,n,_,h1⟩:=(show Jr X.prog X.w H s.heap a (.frz ob (.lst xs)) from I.hok a _ ea)
  exact PySem.W.kia_one PySem.W.kitx_list I.kIn ⟨_,h1,rfl⟩ e (λz=>nomatch z) h
 | @tup a xs ea =>
  cases (show u=Value.ref a from rx)
  obtain ⟨_,_,_,p⟩:=(show Jr X.prog X.w H s.heap a (.tup xs) from I.hok a _ ea)
  obtain ⟨o,h1,h2,_⟩:=p
  exact PySem.W.kia_one PySem.W.kitx_tuple I.kIn ⟨o,h1,h2⟩ e (λz=>nomatch z) h
 | @dK a kvs ea =>
  cases (show u=Value.ref a from rx)
  obtain ⟨_,_,vs,_,p⟩:=(show Jr X.prog X.w H s.heap a (.dK kvs) from I.hok a _ ea)
  obtain ⟨o,es,ep,h1,h2,_⟩:=p
  exact PySem.W.kia_one PySem.W.kitx_dict I.kIn ⟨o,h1,h2.1⟩ e (λz=>nomatch z) h
 | @dT a kvs ea =>
  cases (show u=Value.ref a from rx)
  obtain ⟨_,_,xs,_,o,es,ep,h1,h2,_⟩:=(show Jr X.prog X.w H s.heap a (.dT kvs) from I.hok a _ ea)
  exact PySem.W.kia_one PySem.W.kitx_dict I.kIn ⟨o,h1,h2.1⟩ e (λz=>nomatch z) h
 | @ins a C dx fs ea cl ha hn htk hm =>
  cases (show u=Value.ref a from rx)
  obtain ⟨mA,O,_⟩:=Qj6 I.hok ea
  obtain ⟨od,J,_⟩:=O.look
  exact PySem.W.kia_one (PySem.W.kitx_own (cl.get _) cl.hd ha hn htk hm) I.kIn J e (λz=>nomatch z) h
end
structure Room (k:Nat) (A:Around):Prop where
 hd:A.handled=none
 dp:A.depth+3*k+5<recursionLimit
 un:A.units+16*k+200<cLine
theorem Room.mono {k:Nat} (r:Room k A) (h:j<=k):Room j A:=⟨r.hd,by have:=r.dp;omega,by have:=r.un;omega⟩
theorem Room.deeper {k:Nat} (r:Room (k+1) A) (env:Env):Room k (A.deeper env) :=
 ⟨r.hd,by have:=r.dp;show A.depth+1+3*k+5<_;omega,by have:=r.un;show A.units+3+16*k+200<_;omega⟩
theorem Room.in1 {k:Nat} (r:Room (k+1) A):Room k A.in1 :=
 ⟨r.hd,by have:=r.dp;show A.depth+3*k+5<_;omega,by have:=r.un;show A.units+1+16*k+200<_;omega⟩
theorem Room.depth {k:Nat} (r:Room k A):A.depth<recursionLimit:=by have:=r.dp;omega
theorem Room.units {k:Nat} (r:Room k A):A.units+64<cLine:=by have:=r.un;omega
theorem Room.units0 {k:Nat} (r:Room k A):A.units<cLine:=by have:=r.un;omega
def tNil:TA:=λ_ H Q=>Q [] H
def Qnp (ta:TE) (tr:TA):TA:=λσ H Q=>ta σ H λx H1=>tr σ H1 λxs H2=>Q (x::xs) H2
section
variable {t:TA}
theorem Qav:PA X [] tNil:=λ_ _ _ _ H Q I h=>Calls.spliced_nil ⟨[],H,I,.nil,h⟩
theorem Vf (ha:PE X e te) (hr:PA X es t) (hs:starEach (e::es) X.env=(false,eval e X.env)::starEach es X.env:=by rfl):PA X (e::es) (Qnp te t):=by
 intro pos pins s σ H Q I h
 rw [hs]
 show wpAny _ _ (spliced ((false,eval e X.env)::backTo pos (starEach es X.env))) _ _ s
 refine Calls.spliced_cons (thn (ha pins s σ H _ I h) λu s1 ⟨x,H1,I1,r1,q1⟩=>?_)
 exact thn (hr pos pins s1 σ H1 _ I1 q1) λus s2 ⟨xs,H2,I2,r2,q2⟩=>⟨x::xs,H2,I2,.cons r1 r2,q2⟩
def tTup (t:TA):TE:=λσ H Q=>t σ H λxs H1=>xs.length<=sizeLine/\∀p,H1 p=none->Q (.ref p) (upd H1 p (.tup xs))
def tLst (t:TA):TE:=λσ H Q=>t σ H λxs H1=>xs.length<=sizeLine/\∀p,H1 p=none->Q (.ref p) (upd H1 p (.lst xs))
theorem Qih {x1} (h:PA X es t):PE X (.Tuple es x1 pos) (tTup t):=by
 intro pins s σ H Q I hq
 refine wpAny_Tuple_spliced (thn (h pos pins s σ H _ I hq) λus s1 ⟨xs,H1,I1,r,z,q⟩=>⟨by rw [← r.length];exact z,?_⟩)
 have hf:H1 s1.heap.objs.size=none:=I1.hok.fresh (Nat.le_refl _)
 refine ⟨.ref s1.heap.objs.size,upd H1 s1.heap.objs.size (.tup xs),I1.laid (t':=s1.toks) (λb u e=>Heap.get?_push_of_some _ e) (Nat.le_refl _) ?_,rfl,q _ hf⟩
 exact ⟨z,us,r,⟨_,Heap.get?_push_size _ rfl,rfl,_,rfl⟩⟩
theorem Qlz (h:PA X es t):PE X (.List es pos) (tLst t):=by
 intro pins s σ H Q I hq
 refine wpAny_List_spliced (thn (h pos pins s σ H _ I hq) λus s1 ⟨xs,H1,I1,r,z,q⟩=>⟨by rw [← r.length];exact z,?_⟩)
 have hf:H1 s1.heap.objs.size=none:=I1.hok.fresh (Nat.le_refl _)
 refine ⟨.ref s1.heap.objs.size,upd H1 s1.heap.objs.size (.lst xs),I1.laid (t':=s1.toks) (λb u e=>Heap.get?_push_of_some _ e) (Nat.le_refl _) ?_,rfl,q _ hf⟩
 exact ⟨z,us,0,r,Heap.get?_push_size _ rfl⟩
end
abbrev Sp:=List V->Hp->VK->XK->Prop
abbrev CXT:=List Env->Hp->Shared->XK->Value->Shared->Prop
end L2
variable {f:PySem.Addr} {r:L2.V->List L2.V->L2.Hp->L2.VK->Prop} {mg m:PySem.Str->Option PySem.Value} {base:PySem.Heap} {outer:List PySem.Env} {fd:PySem.FuncData} {ps:List PySem.Str} {CX:L2.CXT} {qual name:PySem.Str} {scope:PySem.Scope} {osl:Array (Option PySem.Value)} {sp:L2.Sp} {apos:PySem.Pos}
namespace L2
open PySem PySem.Spec PyProof.Rows
structure Env0 (P:Program) (w:World) (K:PySem.W.Frag) (mg:Str->Option Value) (base:Heap) (A:Around) (outer:List Env) (s:Shared) (H:Hp):Prop where
 frames:A.frames=some outer
 mod:Mod K mg base
 bs:∀b o,base.get? b=some o->s.heap.get? b=some o/\H b=none
 bsz:base.objs.size<=s.heap.objs.size
 funs:s.heap.FunFrames base outer
 frf:∀b∈frs outer,H b=none
 hok:HOk P w H s.heap
 bare:AllBare s.gens
def CE (outer:List Env) (P:Program) (w:World) (H:Hp) (s:Shared) (Q:VK) (u:Value) (s':Shared):Prop :=
 ∃v H',s'.os=s.os/\AllBare s'.gens/\Un (frs outer) [] H H' s.heap s'.heap/\HOk P w H' s'.heap/\RelV v u/\Q v H'
def CR (CX:CXT) (outer:List Env) (P:Program) (w:World) (H:Hp) (s:Shared) (Q:VK) (E:XK) (r:Result) (s':Shared):Prop :=
 match r with
 | .ok (.ret u)=>CE outer P w H s Q u s'
 | .ok _=>False
 | .error e=>CX outer H s E e s'
structure FnOk (P:Program) (w:World) (K:PySem.W.Frag) (mg:Str->Option Value) (base:Heap) (CX:CXT) (k:Nat) (f:Addr) (fd:FuncData) (ps:List Str) (sp:Sp):Prop where
 len:∀vs H Q E,sp vs H Q E->vs.length=ps.length
 run:∀(A:Around) (outer:List Env) (s:Shared) (H:Hp) (args:Args) (us:List Value) (vs:List V) (Q:VK) (E:XK),Room k A->Env0 P w K mg base A outer s H->BindsTo s fd args (ps.zip us)->Vals vs us->sp vs H Q E ->
  codeAny (model P w) A (.call (.ref f) args) (CR CX outer P w H s Q E) s
theorem Env0.in1 (e:Env0 P w K mg base A outer s H) :
  Env0 P w K mg base A.in1 outer s H:=⟨e.frames,e.mod,e.bs,e.bsz,e.funs,e.frf,e.hok,e.bare⟩
theorem Inv.env0 (I:Inv X pins σ H s):Env0 X.prog X.w X.K X.mg X.base X.A X.stack s H :=
 ⟨I.ok.frames,I.ok.mod,I.bs,Nat.le_trans I.ok.bsz I.sz,I.stack,I.stkFree,I.hok,I.bare⟩
theorem Inv.after {Q:VK} (I:Inv X pins σ H s) (h:CE X.stack X.prog X.w H s Q u s'):EP X pins σ Q u s':=by
 obtain ⟨v,H',os,bare,un,hok,r,q⟩:=h
 obtain ⟨hh,g,d,t,os'⟩:=s'
 obtain rfl:os'=s.os:=os
 exact ⟨v,H',I.call (h':=hh) (g':=g) (d':=d) (t':=t) (ch:=[]) un hok bare (λb z=>absurd z (by simp)),r,q⟩
def Qnq (sp:Sp) (dvs:List V) (E:XK) (t:TA):TE:=λσ H Q=>t σ H λvs H1=>sp (vs++dvs) H1 Q E
def Qbq (K:PySem.W.Frag) (fd:FuncData) (ps:List Str) (ds:List Value):Prop :=
 ∀(s:Shared) (us:List Value),K.In s.heap->(us++ds).length=ps.length->BindsTo s fd ⟨us,[]⟩ (ps.zip (us++ds))
theorem Qbq.all (h:∀us:List Value,us.length=ps.length->bindArgs fd ⟨us,[]⟩=pure (ps.zip us)):Qbq K fd ps []:=λs us _ hl=>by
 rw [List.append_nil] at hl ⊢
 exact .of_eq (h us hl)
def Qgn (CX:CXT) (X:Cx) (E:XK):Prop:=∀(pins:List (Addr × Obj)) (σ:St) (H:Hp) (s:Shared) (e:Value) (s':Shared),Inv X pins σ H s->CX X.stack H s E e s'->X.xe e s'
section
variable {k:Nat} {dvs:List V} {ds:List Value} {E:XK} {t:TA}
theorem Qib {Q:VK} (F:FnOk X.prog X.w X.K X.mg X.base CX k f fd ps sp) (hr:Room k X.A) (hb:Qbq X.K fd ps ds) (hd:Vals dvs ds) (hx:Qgn CX X E)
  (I:Inv X pins σ H s) (r:Vals vs us) (h:sp (vs++dvs) H Q E):wpAny (model X.prog X.w) X.A (call (.ref f) us) (EP X pins σ Q) X.xe s:=by
 have r2:Vals (vs++dvs) (us++ds):=r.append hd
 have hl:(us++ds).length=ps.length:=by rw [← r2.length];exact F.len _ _ _ _ h
 refine wpAny_call (codeAny_mono (F.run X.A X.stack s H ⟨us,[]⟩ (us++ds) (vs++dvs) Q E hr I.env0 (hb s us I.kIn hl) r2 h) λr s' hq=>?_)
 cases r with
 | error e=>exact hx pins σ H s e s' I hq
 | ok fl =>
  cases fl with
  | ret u=>exact I.after hq
  | next=>exact False.elim hq
  | brk=>exact False.elim hq
  | cont=>exact False.elim hq
theorem Qe3 (F:FnOk X.prog X.w X.K X.mg X.base CX k f fd ps sp) (hr:Room k X.A) (hg:Gl X x) (hm:X.mg x=some (.ref f)) (hk:PySem.W.keepIn X.K (.ref f)=true) (hb:Qbq X.K fd ps ds) (hd:Vals dvs ds) (hx:Qgn CX X E)
  (ha:PA X (e::es) t) (hdb:(x == ("__debug__" : Str))=false:=by decide) (he:starEach (e::es) X.env=(false,eval e X.env)::starEach es X.env:=by rfl) (hpl:(backTo pos (starEach es X.env)).any (·.1)=false:=by rfl) :
  PE X (.Call (.Name x p) (e::es) [] pos) (Qnq sp dvs E t):=by
 intro pins s σ H Q I h
 refine wpAny_Call_Name_kw (Qfk I hg hm ?_ hdb)
 refine PySem.W.callWith_K (h₀:=X.base) I.ok.mod.kin hk (thn (ha pos pins s σ H _ I h) λus s1 ⟨vs,H1,I1,r,q⟩=>⟨I1.kIn,?_⟩) he hpl
 exact Qib F hr hb hd hx I1 r q
end
structure FnScope (N P:List Str) (sc:Scope):Prop where
 kind:sc.kind=.function
 co:sc.isCoroutine=false
 gen:sc.isGenerator=false
 nd:N.Nodup
 pre:N.take P.length=P
 par:∀x∈P,sc.names.lookup x=some .local\/sc.names.lookup x=some .cell
 nofree:∀y∈sc.names,y.2 ≠ .free
theorem Qbj {kindOf:Str->Option NameKind} {x:Str}:∀{binds:List (Str × Value)} {m:Str->Option Value},(∀v,(x,v)∉binds)->bindL kindOf binds m x=m x
 | [],_,_=>rfl
 | (n,v)::r,m,h=>by
  unfold bindL
  rw [Qbj λw hw=>h w (List.mem_cons_of_mem _ hw)]
  split
  ·have:x≠n:=by rintro rfl;exact h v List.mem_cons_self
   simp [this]
  ·rfl
theorem Qbl {kindOf:Str->Option NameKind} {x:Str}:∀{binds:List (Str × Value)} {m:Str->Option Value},(∀v,(x,v)∉binds)->bindC kindOf binds m x=m x
 | [],_,_=>rfl
 | (n,v)::r,m,h=>by
  unfold bindC
  rw [Qbl λw hw=>h w (List.mem_cons_of_mem _ hw)]
  split
  ·rfl
  ·have:x≠n:=by rintro rfl;exact h v List.mem_cons_self
   simp [this]
theorem Qbk {kindOf:Str->Option NameKind} {x:Str} {v:Value}:∀{P:List Str} {vs:List Value} {i:Nat} {m:Str->Option Value},P.Nodup->P[i]? = some x->vs[i]? = some v->kindOf x=some .local ->
  bindL kindOf (P.zip vs) m x=some v
 | [],_,_,_,_,h,_,_=>by simp at h
 | _::_,[],_,_,_,_,h,_=>by simp at h
 | p::P,w::vs,0,m,nd,h1,h2,hk=>by
  simp at h1 h2;subst h1;subst h2
  show bindL kindOf ((p,w)::P.zip vs) m p=_
  unfold bindL
  rw [Qbj λv hv=>(List.nodup_cons.mp nd).1 (List.of_mem_zip hv).1,if_pos hk]
  simp
 | p::P,w::vs,i+1,m,nd,h1,h2,hk=>by
  show bindL kindOf ((p,w)::P.zip vs) m x=_
  unfold bindL
  exact Qbk (i:=i) (List.nodup_cons.mp nd).2 (by simpa using h1) (by simpa using h2) hk
theorem Qbm {kindOf:Str->Option NameKind} {x:Str} {v:Value}:∀{P:List Str} {vs:List Value} {i:Nat} {m:Str->Option Value},P.Nodup->P[i]? = some x->vs[i]? = some v->kindOf x≠some .local ->
  bindC kindOf (P.zip vs) m x=some v
 | [],_,_,_,_,h,_,_=>by simp at h
 | _::_,[],_,_,_,_,h,_=>by simp at h
 | p::P,w::vs,0,m,nd,h1,h2,hk=>by
  simp at h1 h2;subst h1;subst h2
  show bindC kindOf ((p,w)::P.zip vs) m p=_
  unfold bindC
  rw [Qbl λv hv=>(List.nodup_cons.mp nd).1 (List.of_mem_zip hv).1,if_neg hk]
  simp
 | p::P,w::vs,i+1,m,nd,h1,h2,hk=>by
  show bindC kindOf ((p,w)::P.zip vs) m x=_
  unfold bindC
  exact Qbm (i:=i) (List.nodup_cons.mp nd).2 (by simpa using h1) (by simpa using h2) hk
def start (N:List Str) (vs:List V):St:=vs.map some++List.replicate (N.length-vs.length) none
def cxOf (CX:CXT) (P:Program) (w:World) (K:PySem.W.Frag) (mg:Str->Option Value) (base:Heap) (N:List Str) (qual:Str) (scope:Scope) (f:Addr) (cd:Value) (A:Around) (outer:List Env) (s:Shared) (H:Hp) (E:XK):Cx where
 prog:=P
 w:=w
 K:=K
 mg:=mg
 base:=base
 A:=A.deeper (envOfC qual scope s.heap.objs.size f cd)
 N:=N
 s₀:=s
 H₀:=H
 env:=envOfC qual scope s.heap.objs.size f cd
 outer:=outer
 stack:=envOfC qual scope s.heap.objs.size f cd::outer
 ex:=[]
 calm:=true
 fn:=λ_=>true
 pn:=[]
 xe:=λe s'=>wpAny (model P w) (A.deeper (envOfC qual scope s.heap.objs.size f cd)) (leaving (envOfC qual scope s.heap.objs.size f cd) e) (λ_ s''=>CX outer H s E e s'') (λe' s''=>CX outer H s E e' s'') s'
theorem Qdj {sc:Scope} (h:sc.names.lookup x=some .cell):∃c,(cellsFrom n sc.names []).lookup x=some c:=by
 have q:=PySem.W.cellsFrom_some sc.names n [] (.inl h)
 exact Option.isSome_iff_exists.mp q
theorem Qfr {cd:Value} {s1:Shared} {E:XK}
  (S:FnScope N ps scope) (hd:A.handled=none) (e0:Env0 P w K mg base A outer s H) (hl:vs.length=ps.length) (r:Vals vs us)
  (x:InCallC s s.heap.objs.size (bindL (envOfC qual scope s.heap.objs.size f cd).kindOf (ps.zip us) λ_=>none) (cellsFrom (s.heap.objs.size+1) scope.names []) (bindC (envOfC qual scope s.heap.objs.size f cd).kindOf (ps.zip us) λ_=>none) s1) :
  Inv (cxOf CX P w K mg base N qual scope f cd A outer s H E) [] (start N vs) H s1:=by
 have hpl:ps.length<=N.length:=by have:=congrArg List.length S.pre;rw [List.length_take] at this;omega
 obtain ⟨h1,tk,rfl,hk⟩:=x.done
 have noA:∀b:Addr,b∉(cxOf CX P w K mg base N qual scope f cd A outer s H E).ex:=λb z=>absurd (show b∈([]:List Addr) from z) (by simp)
 refine ⟨⟨e0.mod,S.kind,rfl,rfl,Nat.le_refl _,λy z c h1 h2=>?_,λy hy=>?_,λy c _ h=>?_,λ_=>hd,Around.frames_deeper e0.frames,.inr ⟨rfl,rfl⟩,λb z=>absurd z (noA b),e0.bs,e0.bsz,λb _ _=>noA b,λb z=>absurd z (noA b),e0.funs,e0.frf⟩,
  rfl,e0.bare,Un.kept hk,⟨_,x.toInCall.ns,λi y v h1 h2 h3=>?_⟩,λy c h=>⟨_,x.cell y c h⟩,e0.hok.fresh (Nat.le_refl _),λy c h=>?_,λp hp=>absurd (show p∈([]:List (Addr × Obj)) from hp) (by simp),e0.hok.kept hk,?_⟩
 ·exact name_of_addr x.apart (PySem.mem_of_lookup h1) (PySem.mem_of_lookup h2)
 ·have hy:scope.names.lookup y=some .cell\/scope.names.lookup y=some .free:=hy
  rcases hy with hy | hy
  ·exact Qdj hy
  ·exact absurd rfl (S.nofree _ (PySem.mem_of_lookup hy))
 ·exact Nat.le_of_lt (x.above y c (PySem.mem_of_lookup h))
 ·have hi:i<vs.length:=by
   unfold start at h2
   by_cases hi:i<vs.length
   ·exact hi
   ·rw [List.getElem?_append_right (by simpa using hi)] at h2
    rw [List.getElem?_replicate] at h2
    split at h2 <;> cases h2
  have ha:vs[i]? = some v:=by
   unfold start at h2
   rw [List.getElem?_append_left (by simpa using hi),List.getElem?_map] at h2
   cases e:vs[i]? with
   | none=>rw [e] at h2;cases h2
   | some a=>rw [e] at h2;cases h2;rfl
  obtain ⟨u,hu,rv⟩:=r.get ha
  have hp:ps[i]? = some y:=by
   rw [← S.pre,List.getElem?_take_of_lt (by omega)];exact h1
  have ndP:ps.Nodup:=by rw [← S.pre];exact S.nd.sublist (List.take_sublist _ _)
  refine ⟨u,rv,?_⟩
  rcases S.par y (List.mem_of_getElem? hp) with k | k
  ·exact .inl ⟨k,Qbk ndP hp hu k⟩
  ·obtain ⟨c,e⟩:=Qdj (n:=s.heap.objs.size+1) k
   refine .inr ⟨.inl k,c,e,?_⟩
   have q:=x.cell y c e
   rw [Qbm ndP hp hu (by show scope.names.lookup y≠_;rw [k];decide)] at q
   exact q
 ·exact e0.hok.fresh (Nat.le_of_lt (x.above y c (PySem.mem_of_lookup h)))
 ·unfold start
  show _=N.length
  rw [List.length_append,List.length_map,List.length_replicate]
  omega
theorem Qm4 {k:Nat} {params:Arguments} {dV kV doc pm cdv ct oc:Value} {an od:Option Addr} (lk:K.lookup f=some ⟨oc,od,.func (PySem.W.fnOf name qual params body scope dV kV doc pm an cdv ct),osl⟩) (hcd:PySem.W.codeIn K cdv qual=true) (S:FnScope N ps scope)
  (len:∀vs H Q E,sp vs H Q E->vs.length=ps.length)
  (hbody:∀(A:Around) (outer:List Env) (s:Shared) (H:Hp) (vs:List V) (Q:VK) (E:XK),Room k (A.deeper (envOfC qual scope s.heap.objs.size f cdv))->sp vs H Q E ->
   ∃t,PSs (cxOf CX P w K mg base N qual scope f cdv A outer s H E) body t/\t { nx:=λ_ H'=>Q .non H',rt:=Q } (start N vs) H) :
  FnOk P w K mg base CX (k+1) f (PySem.W.fnOf name qual params body scope dV kV doc pm an cdv ct) ps sp:=by
 refine ⟨len,λA outer s H args us vs Q E hr e0 hb r hsp=>?_⟩
 have hl:=len _ _ _ _ hsp
 have KX:K.In s.heap:=e0.mod.kin.keeps λb o e=>(e0.bs b o e).1
 have lim:s.heap.NoLimit:=e0.mod.nolimit.keeps λb o e=>(e0.bs b o e).1
 have hkind:∀y∈ps.zip us,scope.names.lookup y.1=some .local\/(scope.names.lookup y.1=some .cell/\((cellsFrom (s.heap.objs.size+1) scope.names []).lookup y.1).isSome=true):=λ⟨n,v⟩ hy=>by
  rcases S.par n (List.of_mem_zip hy).1 with q | q
  ·exact .inl q
  ·exact .inr ⟨q,PySem.W.cellsFrom_some _ _ _ (.inl q)⟩
 refine codeAny_call_function hr.depth (KX _ _ lk) rfl S.co S.gen rfl (PySem.W.codeRec_of KX hcd) (hb _ _ _ _ ?_)
 refine wpAny_newFunctionEnv_cells S.kind hkind λenv he s1 x=>?_
 subst he
 refine ⟨lim.keeps x.toInCall.keep,codeAny_func ?_⟩
 obtain ⟨t,ht,hq⟩:=hbody A outer s H vs Q E (hr.deeper _) hsp
 have I:Inv (cxOf CX P w K mg base N qual scope f cdv A outer s H E) [] (start N vs) H s1:=Qfr S hr.hd e0 hl r x
 refine wpAny_mono (ht [] s1 (start N vs) H _ I hq) (λfl s' hs=>?_) λe s' hs=>hs
 have fin:∀{σ':St} {H':Hp} {v:V} {u:Value},Inv (cxOf CX P w K mg base N qual scope f cdv A outer s H E) [] σ' H' s'->RelV v u->Q v H'->CE outer P w H s Q u s' :=
  λ{σ' H' v u} J rv q=>⟨v,H',J.os,J.bare,J.base,J.hok,rv,q⟩
 cases fl with
 | ret u =>
  obtain ⟨v,σ',H',J,rv,q⟩:=hs
  exact fin J rv q
 | next =>
  obtain ⟨σ',H',J,q⟩:=hs
  exact fin (v:=V.non) (u:=Value.none) J rfl q
 | brk =>
  obtain ⟨_,_,_,q⟩:=hs
  exact False.elim q
 | cont =>
  obtain ⟨_,_,_,q⟩:=hs
  exact False.elim q
section
variable {t:TA} {id T:String} {r:List V->Hp->VK->Prop}
def tCB (r:List V->Hp->VK->Prop) (t:TA):TE:=λσ H Q=>t σ H λvs H1=>r vs H1 Q
theorem Qha (hc:Y4 X (.builtin id) r) (hg:Gl X x) (hm:X.mg x=none) (hv:bootBuiltins x=some (.builtin id)) (ha:PA X (e::es) t) (hn:x ≠ "__name__":=by decide) (hdb:(x == ("__debug__" : Str))=false:=by decide)
  (he:starEach (e::es) X.env=(false,eval e X.env)::starEach es X.env:=by rfl) (hpl:(backTo pos (starEach es X.env)).any (·.1)=false:=by rfl):PE X (.Call (.Name x p) (e::es) [] pos) (tCB r t):=by
 intro pins s σ H Q I h
 refine wpAny_Call_Name_kw (Xc I hg hm hv ?_ hn hdb)
 exact PyProof.Rows.callWith_builtin1 (thn (ha pos pins s σ H _ I h) λus s1 ⟨vs,H1,I1,r1,q1⟩=>hc pins s1 σ H1 vs us Q I1 r1 q1) he hpl
theorem Qau (hc:Y4 X (.type T) r) (hg:Gl X x) (hm:X.mg x=none) (hv:bootBuiltins x=some (.type T)) (ha:PA X (e::es) t) (hn:x ≠ "__name__":=by decide) (hdb:(x == ("__debug__" : Str))=false:=by decide)
  (he:starEach (e::es) X.env=(false,eval e X.env)::starEach es X.env:=by rfl) (hpl:(backTo pos (starEach es X.env)).any (·.1)=false:=by rfl):PE X (.Call (.Name x p) (e::es) [] pos) (tCB r t):=by
 intro pins s σ H Q I h
 refine wpAny_Call_Name_kw (Xc I hg hm hv ?_ hn hdb)
 exact PyProof.Rows.callWith_type1 (thn (ha pos pins s σ H _ I h) λus s1 ⟨vs,H1,I1,r1,q1⟩=>hc pins s1 σ H1 vs us Q I1 r1 q1) he hpl
end
end L2
namespace HT
open PySem PyProof.Rows
def Vg:List Int->List Int->Bool
 | [],[]=>false
 | [],_::_=>true
 | _::_,[]=>false
 | x::xs,y::ys=>if x=y then Vg xs ys else decide (x<y)
theorem Qdy (x y:Int) (xs ys:List Int):Vg (x::xs) (y::ys)=if x=y then Vg xs ys else decide (x<y):=rfl
theorem X2:Vg [] []=false:=rfl
theorem Gr (y:Int) (ys:List Int):Vg [] (y::ys)=true:=rfl
theorem Gs (x:Int) (xs:List Int):Vg (x::xs) []=false:=rfl
theorem Qhw (A:Around) (s:Shared) (a:Int) (t:Tok) (c:Int) (u:Tok):∃e,SeqAt.EqAt A s (.int a t) (.int c u) e/\(e=true↔a=c) :=
 ⟨(a == c),SeqAt.EqAt.int_int a t c u,by simp⟩
theorem Qgw (A:Around) (s:Shared) (a:Int) (t:Tok) (c:Int) (u:Tok) (prog:Program) (w:World) (E:Value->Shared->Prop) (Q:Value->Shared->Prop) (h:Q (.bool (decide (a<c))) s) :
  wpAny (model prog w) A (richCompare .Lt (.int a t) (.int c u)) Q E s :=
 (PyProof.Rows.lt_int h:wpAny (model prog w) A (compareOp .Lt (.int a t) (.int c u)) Q E s)
end HT
namespace HT
open PySem PyProof.Rows PySem.SeqAt
open PySem.AutoSeq1 (wpAny_loadPart')
open PySem.MeetsSeq PySem.MeetsSeq2 PySem.MeetsSeq3
theorem Xn (l b:Addr) (items items2:Array Value) (n n2:Nat) (dd dd2:Option Addr) (sl sl2:Array (Option Value)) (ns ms:List Int) (hi:IntsAre items.toList ns) (hj:IntsAre items2.toList ms) :
  Meets (Builtin.«tuple.__lt__» ⟨[.ref l,.ref b],[]⟩)
   (λ_ R s=>s.heap.get? l=some { cls:=.type "tuple",dict:=dd,data:=.seq items n,slots:=sl }/\s.heap.get? b=some { cls:=.type "tuple",dict:=dd2,data:=.seq items2 n2,slots:=sl2 } /\
    R (.ok (.ret (.bool (Vg ns ms)))) s) :=
 .of_wp λprog w A R s h=>by
  obtain ⟨hp,g,d,tk,os⟩:=s;obtain ⟨hl,hb,h⟩:=h
  have f2:=AutoSeq1.sub_tuple_tuple
  have z1:items.size=ns.length:=by rw [← hi.length];simp
  have z2:items2.size=ms.length:=by rw [← hj.length];simp
  wp_walk using wpAny_loadPart' hl,wpAny_loadPart' hb,wpAny_forIn_list _ (λrest b s'=>b.1=none/\s'=⟨hp,g,d,tk,os⟩/\∃(vs ws:List Value) (ns' ms':List Int),rest=vs.zip ws /\
   IntsAre vs ns'/\IntsAre ws ms'/\ns'.length+items2.size=ms'.length+items.size/\R (.ok (.ret (.bool (Vg ns' ms')))) ⟨hp,g,d,tk,os⟩) _
  case turn =>
   rintro ⟨y,x⟩ rest b s' ⟨hb',rfl,vs,ws,ns',ms',hz,hvi,hwi,hlen,hR⟩
   cases hvi with
   | nil=>rw [List.zip_nil_left] at hz;cases hz
   | cons a t hvi' =>
    cases hwi with
    | nil=>rw [List.zip_nil_right] at hz;cases hz
    | cons c u hwi' =>
     rw [List.zip_cons_cons] at hz
     injection hz with hyx hrest
     injection hyx with hy hx
     subst hy hx
     rw [Qdy] at hR
     simp only [List.length_cons] at hlen
     obtain ⟨e,he,hiff⟩:=Qhw A.in1 ⟨hp,g,d,tk,os⟩ a t c u
     refine wpAny_bind (he prog w _ _ ?_)
     cases e with
     | true =>
      rw [if_pos (hiff.mp rfl)] at hR
      wp_walk
      exact ⟨rfl,rfl,_,_,_,_,hrest,hvi',hwi',by omega,hR⟩
     | false =>
      rw [if_neg (λq=>absurd (hiff.mpr q) Bool.false_ne_true)] at hR
      have hri:=Qgw A.in1 ⟨hp,g,d,tk,os⟩ a t c u prog w
      wp_walk using hri
      exact ⟨_,rfl,by simpa using hR⟩
  case fin =>
   rintro ⟨b1,b2⟩ s' ⟨hb',rfl,vs,ws,ns',ms',hz,hvi,hwi,hlen,hR⟩
   simp only at hb'
   subst hb'
   have hv:Vg ns' ms'=decide (items.size<items2.size):=by
    cases hvi with
    | nil =>
     cases hwi with
     | nil =>
      simp only [List.length_nil] at hlen
      rw [X2]
      exact (decide_eq_false (by omega)).symm
     | cons c u hw =>
      simp only [List.length_nil,List.length_cons] at hlen
      rw [Gr]
      exact (decide_eq_true (by omega)).symm
    | cons a t hv =>
     cases hwi with
     | nil =>
      simp only [List.length_nil,List.length_cons] at hlen
      rw [Gs]
      exact (decide_eq_false (by omega)).symm
     | cons c u hw =>
      rw [List.zip_cons_cons] at hz
      cases hz
   rw [hv] at hR
   wp_walk
   exact ⟨_,rfl,by simpa [Builtin.Tuple.tupleCompareSizes] using hR⟩
  case h =>
   exact ⟨rfl,rfl,items.toList,items2.toList,ns,ms,rfl,hi,hj,by omega,h⟩
end HT
variable {l sl:PySem.Addr} {items:Array PySem.Value} {ns:List Int} {ws:List PySem.Value} {vl vu:PySem.Value} {prog:PySem.Program}
namespace HT
open PySem PyProof.Rows
theorem Qdx {items2:Array Value} {ms:List Int} (hl:IsTup s.heap l items) (hb:IsTup s.heap b items2) (hi:IntsAre items.toList ns) (hj:IntsAre items2.toList ms)
  (hu:A.units<cLine) (h:Q (.bool (Vg ns ms)) s):wpAny (model prog w) A (compareOp .Lt (.ref l) (.ref b)) Q E s:=by
 obtain ⟨⟨cls,dd,data,sl⟩,ho,hc,n,hd⟩:=id hl
 obtain ⟨⟨cls2,dd2,data2,sl2⟩,ho2,hc2,n2,hd2⟩:=id hb
 simp only at hc hd hc2 hd2
 subst hc hd hc2 hd2
 exact richCompare_meets_room (op:=.Lt) ⟨_,ho,rfl⟩ ⟨_,ho2,rfl⟩ PySem.F.slot_tuple_lt PySem.F.entry_tuple_lt (PySem.F.args_tuple_lt_2 _ _) (Xn l b items items2 n n2 dd dd2 sl sl2 ns ms hi hj)
  ⟨ho,ho2,show Value.bool (Vg ns ms)≠Value.notImplemented/\Q (.bool (Vg ns ms)) s from ⟨(λx=>nomatch x),h⟩⟩ hu
theorem Qkp {t:Addr} {vs:List Value} (ht:IsTup s.heap t vs.toArray) (hb:IsTup s.heap b ws.toArray) (hv:vs≠[])
  (h1:ws=[]->Q (.ref t) s) (h2:ws≠[]->Q (.ref s.heap.objs.size) { s with heap:=s.heap.push { cls:=.type "tuple",data:=.seq (vs++ws).toArray } })
  (hsz:vs.length+ws.length<=sizeLine):wpAny (model prog w) A (binaryOp .Add (.ref t) (.ref b)) Q E s:=by
 obtain ⟨⟨cls,dd,data,sl⟩,ho,hc,n,hd⟩:=id ht
 obtain ⟨⟨cls2,dd2,data2,sl2⟩,ho2,hc2,n2,hd2⟩:=id hb
 simp only at hc hd hc2 hd2
 subst hc hd hc2 hd2
 have e:vs.toArray++ws.toArray=(vs++ws).toArray:=by simp
 by_cases hw:ws=[]
 ·exact concat_meets ⟨_,ho,rfl⟩ ⟨_,ho2,rfl⟩ noFill_tuple_add seq_tuple_add PySem.F.slot_tuple_add PySem.F.entry_tuple_add (PySem.F.args_tuple_add_2 _ _)
   (tuple_addW1 t b vs.toArray ws.toArray n n2 dd dd2 sl sl2 (by simpa using hv) (by simp [hw])) ⟨ho,ho2,h1 hw⟩
 ·refine concat_meets ⟨_,ho,rfl⟩ ⟨_,ho2,rfl⟩ noFill_tuple_add seq_tuple_add PySem.F.slot_tuple_add PySem.F.entry_tuple_add (PySem.F.args_tuple_add_2 _ _)
   (tuple_addW2 t b vs.toArray ws.toArray n n2 dd dd2 sl sl2 (by simpa using hv) (by simpa using hw) (by rw [List.size_toArray,List.size_toArray];exact hsz)) ⟨ho,ho2,?_⟩
  rw [e]
  exact h2 hw
def sIx (n d:Nat):Option Int->Nat
 | none=>d
 | some v=>if v<0 then (v+(n:Int)).toNat else min v.toNat n
theorem Qct (n d:Nat):sIx n d none=d:=rfl
theorem Xq (n d k:Nat):sIx n d (some (k:Int))=min k n:=by
 show (if (k:Int)<0 then ((k:Int)+(n:Int)).toNat else min (k:Int).toNat n)=min k n
 rw [if_neg (by omega),Int.toNat_natCast]
theorem Qk7 (n d:Nat) (hd:d<=n) (o:Option Int):sIx n d o<=n:=by
 cases o with
 | none=>exact hd
 | some v =>
  show (if v<0 then (v+(n:Int)).toNat else min v.toNat n)<=n
  by_cases hv:v<0
  ·rw [if_pos hv];omega
  ·rw [if_neg hv];exact Nat.min_le_right _ _
theorem Qgd (v:Int) (n d:Nat):(if v<0 then max (v+(n:Int)) 0 else min v (n:Int))=((sIx n d (some v):Nat):Int):=by
 show (if v<0 then max (v+(n:Int)) 0 else min v (n:Int))=(((if v<0 then (v+(n:Int)).toNat else min v.toNat n):Nat):Int)
 by_cases hv:v<0
 ·simp only [if_pos hv];omega
 ·simp only [if_neg hv];omega
theorem Qd6 (lo hi:Option Int) (n:Nat):Builtin.Slice.sliceAdjust lo hi 1 (n:Int)=(((sIx n 0 lo:Nat):Int),((sIx n n hi:Nat):Int)):=by
 have h1:¬((1:Int)<0):=by omega
 unfold Builtin.Slice.sliceAdjust
 simp only [h1,if_false]
 refine Prod.ext ?_ ?_
 ·cases lo with
  | none=>rfl
  | some v=>exact Qgd v n 0
 ·cases hi with
  | none=>rfl
  | some v=>exact Qgd v n n
theorem Qds (i j:Nat):Builtin.Slice.slicePlaces (i:Int) (j:Int) 1=j-i:=by
 unfold Builtin.Slice.slicePlaces
 have h1:(1:Int) > 0:=by omega
 simp only [h1,if_true,Int.ediv_one]
 split <;> omega
theorem G5 {v:Value} {o:Option Int} {Q:Option Int->Shared->Prop} (p:IsPart v o) (h:Q o s):wpAny (model prog w) A (Builtin.Slice.slicePartIndex v) Q E s:=by
 cases p with
 | none=>exact slicePart_none h
 | int i t=>exact slicePart_int h
theorem Zc {Q:Int × Int × Nat->Shared->Prop} (hs:s.heap.IsSliceOf sl vl vu .none) (pl:IsPart vl lo) (pu:IsPart vu hi)
  (h:Q (((sIx n 0 lo:Nat):Int),1,sIx n n hi-sIx n 0 lo) s):wpAny (model prog w) A (Builtin.Slice.sliceApplied (.ref sl) (pure (n:Int))) Q E s:=by
 obtain ⟨os,hos,hcs,hds⟩:=id hs
 unfold Builtin.Slice.sliceApplied Builtin.Slice.sliceFields
 refine wpAny_bind (wpAny_bind (wpAny_field hos hds (x:=vl) rfl (wpAny_bind (wpAny_field hos hds (x:=vu) rfl (wpAny_bind (wpAny_field hos hds (x:=.none) rfl (wpAny_pure ?_)))))))
 refine wpAny_bind (slicePart_none ?_)
 show wpAny _ _ (if ((1:Int) == 0)=true then _ else _) _ _ s
 rw [if_neg (by decide)]
 refine wpAny_bind (G5 pl (wpAny_bind (G5 pu (wpAny_bind (wpAny_pure ?_)))))
 show wpAny _ _ (match Builtin.Slice.sliceAdjust lo hi 1 (n:Int) with | (lo,hi)=>pure (lo,(1:Int),Builtin.Slice.slicePlaces lo hi 1)) _ _ s
 rw [Qd6 lo hi n]
 show wpAny _ _ (pure (((sIx n 0 lo:Nat):Int),(1:Int),Builtin.Slice.slicePlaces ((sIx n 0 lo:Nat):Int) ((sIx n n hi:Nat):Int) 1)) _ _ s
 rw [Qds]
 exact wpAny_pure h
theorem Qg6 (xs:Array Value) (i k:Nat):((List.range k).filterMap λ(m:Nat)=>xs[((i:Int)+(m:Int)*1).toNat]?).toArray=((xs.toList.drop i).take k).toArray:=by
 have e:(λ(m:Nat)=>xs[((i:Int)+(m:Int)*1).toNat]?)=λm=>xs[i+m]?:=by
  funext m
  have:((i:Int)+(m:Int)*1).toNat=i+m:=by omega
  rw [this]
 rw [e]
 have:=pick_run xs i k
 rw [List.filterMap_map] at this
 have e2:((λx=>xs[x]?) ∘ λx=>i+x)=λm=>xs[i+m]?:=rfl
 rw [e2] at this
 rw [this]
theorem Ud {t:Addr} (ht:IsTup s.heap t items) (hs:s.heap.IsSliceOf sl vl vu .none) (pl:IsPart vl lo) (pu:IsPart vu hi)
  (hw:¬(sIx items.size 0 lo=0/\sIx items.size items.size hi=items.size))
  (h:Q (.ref s.heap.objs.size) { s with heap:=s.heap.push { cls:=.type "tuple",data:=.seq ((items.toList.drop (sIx items.size 0 lo)).take (sIx items.size items.size hi-sIx items.size 0 lo)).toArray } })
  (hsz:items.size<=sizeLine):wpAny (model prog w) A (getItem (.ref t) (.ref sl)) Q E s:=by
 have htake:sizeOk (.seq ((items.toList.drop (sIx items.size 0 lo)).take (sIx items.size items.size hi-sIx items.size 0 lo)).toArray):=by
  show ((items.toList.drop (sIx items.size 0 lo)).take (sIx items.size items.size hi-sIx items.size 0 lo)).toArray.size<=sizeLine
  rw [List.size_toArray,List.length_take,List.length_drop,Array.length_toList]
  omega
 have hj:sIx items.size items.size hi<=items.size:=Qk7 _ _ (Nat.le_refl _) hi
 obtain ⟨os,hos,hcs,hds⟩:=id hs
 have hTs:s.TypeIs (.ref sl) "slice":=⟨os,hos,hcs⟩
 unfold getItem
 try with_reducible refine wpAny_holding ?_
 first | refine wpAny_bind (wpAny_pure ?_) | skip
 refine wpAny_bind (wpAny_sequenceKey ht.typeIs (by decide) ?_)
 refine wpAny_bind (wpAny_callSpecial?_slot (name:=Str.ofString "__getitem__") ht.typeIs PyProof.Rows.slot_tuple_getitem
  (wpAny_call_entry PyProof.Rows.slot_tuple_getitem ht.typeIs entry_tuple_getitem ?_ (args_tuple_getitem _ _)))
 show wpAny _ _ (Builtin.Tuple.tupleItemsOf (.ref t) >>= _) _ _ s
 refine wpAny_bind (tupleItemsOf_ ht ?_)
 refine wpAny_bind (wpAny_typeOf hTs ?_)
 rw [if_pos (by decide)]
 refine wpAny_bind (Zc hs pl pu ?_)
 have hno:¬((((sIx items.size 0 lo:Nat):Int) == 0 && (1:Int) == 1 && (sIx items.size items.size hi-sIx items.size 0 lo) == items.size)=true):=by
  intro q
  rw [Bool.and_eq_true,Bool.and_eq_true] at q
  have q1:((sIx items.size 0 lo:Nat):Int)=0:=eq_of_beq q.1.1
  have q2:sIx items.size items.size hi-sIx items.size 0 lo=items.size:=eq_of_beq q.2
  exact hw ⟨by omega,by omega⟩
 show wpAny _ _ (if (((sIx items.size 0 lo:Nat):Int) == 0 && (1:Int) == 1 && (sIx items.size items.size hi-sIx items.size 0 lo) == items.size)=true then _ else _) _ _ s
 rw [if_neg hno,Qg6]
 first
  | exact wpAny_bind (m:=Builtin.Tuple.tupleExact _) (wpAny_newObj_type (wpAny_pure ⟨_,rfl,wpAny_pure h⟩) htake)
  | exact wpAny_bind (m:=Builtin.Tuple.tupleExact _) (wpAny_newObj_type (wpAny_bind (wpAny_pure (wpAny_pure ⟨_,rfl,wpAny_pure h⟩))) htake)
  | exact wpAny_bind (wpAny_bind (m:=Builtin.Tuple.tupleExact _) (wpAny_newObj_type (wpAny_pure (wpAny_pure ⟨_,rfl,wpAny_pure h⟩)) htake))
  | exact wpAny_bind (wpAny_bind (m:=Builtin.Tuple.tupleExact _) (wpAny_newObj_type (wpAny_pure ⟨_,rfl,wpAny_pure h⟩) htake))
end HT
namespace L2
open PySem PySem.Spec PyProof.Rows
abbrev TO:=St->Hp->(Option Int->Hp->Prop)->Prop
end L2
variable {xs:List (List L2.Key × PySem.Addr × PySem.Value)} {d:L2.V} {kvs:List (List L2.Key × L2.V)} {ks:Nat->List Int} {cpos p2:PySem.Pos}
namespace L2
open PySem PySem.Spec PyProof.Rows
def PO (X:Cx) (e:Option Expr) (t:TO):Prop :=
 ∀(pins:List (Addr × Obj)) (s:Shared) (σ:St) (H:Hp) (Q:Option Int->Hp->Prop),Inv X pins σ H s->t σ H Q ->
  wpAny (model X.prog X.w) X.A (evalPart e X.env) (λu s'=>∃o H',Inv X pins σ H' s'/\IsPart u o/\Q o H') X.xe s
def Qiv:TO:=λ_ H Q=>Q none H
def Qnm (t:TE):TO:=λσ H Q=>t σ H λx H1=>∃i,x=.int i/\Q (some i) H1
theorem Uc:∀{us:List Value},Vals (ns.map V.int) us->IntsAre us ns:=by
 induction ns with
 | nil=>intro us r;rw [List.map_nil] at r;cases r;exact .nil
 | cons n ns ih =>
  intro us r
  rw [List.map_cons] at r
  cases r with
  | cons r1 r2 =>
   obtain ⟨t,e⟩:=r1
   subst e
   exact .cons n t (ih r2)
section
variable {lo hi:Option Expr} {tl th:TO}
theorem Qjm:PO X none Qiv:=by
 intro pins s σ H Q I h
 rw [evalPart_none]
 exact wpAny_pure ⟨none,H,I,.none,h⟩
theorem Qjl (h:PE X e te):PO X (some e) (Qnm te):=by
 intro pins s σ H Q I hw
 rw [evalPart_some]
 refine thn (h pins s σ H _ I hw) λu s1 ⟨x,H1,I1,r1,q1⟩=>?_
 obtain ⟨i,rfl,q⟩:=q1
 obtain ⟨t,rfl⟩:=r1
 exact ⟨some i,H1,I1,.int i t,q⟩
def SlR (X:Cx) (r:V->Option Int->Option Int->Hp->VK->Prop):Prop :=
 ∀(pins:List (Addr × Obj)) (s:Shared) (σ:St) (H:Hp) (x:V) (v vl vu:Value) (lo hi:Option Int) (sl:Addr) (Q:VK),Inv X pins σ H s->RelV x v->s.heap.IsSliceOf sl vl vu .none->IsPart vl lo->IsPart vu hi->r x lo hi H Q ->
  ∃T id,typeLookup (.type T) "__getitem__" = pure (some (.builtin id))/\s.TypeIs v T/\wpAny (model X.prog X.w) X.A (getItem v (.ref sl)) (EP X pins σ Q) X.xe s
theorem SlR.or {r r':V->Option Int->Option Int->Hp->VK->Prop} (h:SlR X r) (h':SlR X r'):SlR X (λx lo hi H Q=>r x lo hi H Q\/r' x lo hi H Q):=by
 intro pins s σ H x v vl vu lo hi sl Q I rx hs pl pu q
 rcases q with q | q
 ·exact h pins s σ H x v vl vu lo hi sl Q I rx hs pl pu q
 ·exact h' pins s σ H x v vl vu lo hi sl Q I rx hs pl pu q
def tSl (r:V->Option Int->Option Int->Hp->VK->Prop) (te:TE) (tl th:TO):TE:=λσ H Q=>te σ H λx H1=>tl σ H1 λl H2=>th σ H2 λu H3=>r x l u H3 Q
theorem Qg7 {r:V->Option Int->Option Int->Hp->VK->Prop} (hr:SlR X r) (he:PE X e te) (hl:PO X lo tl) (hu:PO X hi th):PE X (.Subscript e (.Slice lo hi none p2) pos) (tSl r te tl th):=by
 intro pins s σ H Q I h
 refine Subscript_ (thn (he pins s σ H _ I h) λv s1 ⟨x,H1,I1,r1,q1⟩=>?_)
 refine wpAny_Slice (thn (hl pins s1 σ H1 _ I1 q1) λvl s2 ⟨l,H2,I2,pl,q2⟩=>thn (hu pins s2 σ H2 _ I2 q2) λvu s3 ⟨u,H3,I3,pu,q3⟩=>?_)
 rw [evalPart_none]
 refine wpAny_pure ?_
 have I4:Inv X pins σ H3 { s3 with heap:=s3.heap.push { cls:=.type "slice",data:=.fields #[vl,vu,.none] } }:=I3.kept (t':=s3.toks) λb ob q=>Heap.get?_push_of_some _ q
 obtain ⟨T,id,hT,ht,hg⟩:=hr pins { s3 with heap:=s3.heap.push { cls:=.type "slice",data:=.fields #[vl,vu,.none] } } σ H3 x v vl vu l u s3.heap.objs.size Q I4 r1 (Heap.IsSliceOf.new ..) pl pu q3
 show wpAny (model X.prog X.w) X.A (subscriptTail e (.Slice lo hi none p2) v (.ref s3.heap.objs.size)) (EP X pins σ Q) X.xe { s3 with heap:=s3.heap.push { cls:=.type "slice",data:=.fields #[vl,vu,.none] } }
 exact tail_any (ops:=[.ref s3.heap.objs.size,v]) ht hT hg (by with_unfolding_all rfl)
def cutV (xs:List V) (lo hi:Option Int):List V:=(xs.drop (HT.sIx xs.length 0 lo)).take (HT.sIx xs.length xs.length hi-HT.sIx xs.length 0 lo)
theorem Gi (xs:List V) (lo hi:Option Int):(cutV xs lo hi).length<=xs.length:=by
 unfold cutV
 rw [List.length_take,List.length_drop]
 omega
def rSlT (K:PySem.W.Frag):V->Option Int->Option Int->Hp->VK->Prop:=λx lo hi H Q=>∃a xs,x=.ref a/\SqT K H a xs /\
 ¬(HT.sIx xs.length 0 lo=0/\HT.sIx xs.length xs.length hi=xs.length)/\∀p,H p=none->Q (.ref p) (upd H p (.tup (cutV xs lo hi)))
theorem Qk5:SlR X (rSlT X.K):=by
 intro pins s σ H x v vl vu lo hi sl Q I rx hs pl pu h
 obtain ⟨a,xs,rfl,hx,hw,q⟩:=h
 cases rx
 obtain ⟨its,r,ht,hz⟩:=I.tuple hx
 have hlen:its.toArray.size=xs.length:=by rw [List.size_toArray];exact r.length.symm
 refine ⟨"tuple",_,PyProof.Rows.slot_tuple_getitem.lookup,ht.typeIs,?_⟩
 refine HT.Ud ht hs pl pu (by rw [hlen];exact hw) ?_ (by rw [hlen];exact hz)
 rw [hlen]
 refine ⟨.ref s.heap.objs.size,_,I.laid (t':=s.toks) (o:=.tup (cutV xs lo hi)) (λb ob q=>Heap.get?_push_of_some _ q) (Nat.le_refl _) ?_,rfl,q _ (I.hok.fresh (Nat.le_refl _))⟩
 exact ⟨Nat.le_trans (Gi xs lo hi) hz,_,(r.drop (HT.sIx xs.length 0 lo)).take (HT.sIx xs.length xs.length hi-HT.sIx xs.length 0 lo),IsTup.new _ _⟩
def Qnx (K:PySem.W.Frag):R2:=λx y H Q=>∃a b xs ys,x=.ref a/\y=.ref b/\SqT K H a xs/\SqT K H b ys/\xs≠[]/\xs.length+ys.length<=sizeLine /\
 (ys=[]->Q (.ref a) H)/\(ys≠[]->∀p,H p=none->Q (.ref p) (upd H p (.tup (xs++ys))))
theorem Vals.nil_iff {xs:List V} (r:Vals xs us):us=[]↔xs=[]:=by
 cases r with
 | nil=>simp
 | cons _ _=>simp
theorem Qjv:OpR X (binaryOp .Add) (Qnx X.K):=by
 intro pins s σ H x y v u Q I rx ry h
 obtain ⟨a,b,xs,ys,rfl,rfl,ha,hb,hx,hz,q1,q2⟩:=h
 cases rx
 cases ry
 obtain ⟨its,r1,p1,_⟩:=I.tuple ha
 obtain ⟨its2,r2,p2,_⟩:=I.tuple hb
 refine HT.Qkp p1 p2 (λz=>hx (r1.nil_iff.mp z)) (λz=>⟨.ref a,H,I,rfl,q1 (r2.nil_iff.mp z)⟩) (λz=>?_) (by rw [← r1.length,← r2.length];exact hz)
 refine ⟨.ref s.heap.objs.size,_,I.laid (t':=s.toks) (o:=.tup (xs++ys)) (λb ob q=>Heap.get?_push_of_some _ q) (Nat.le_refl _) ?_,rfl,q2 (λw=>z (r2.nil_iff.mpr w)) _ (I.hok.fresh (Nat.le_refl _))⟩
 exact ⟨by rw [List.length_append];exact hz,_,r1.append r2,IsTup.new _ _⟩
end
def ixN (n:Nat) (i:Int):Option Nat:=if 0<=i then (if i<n then some i.toNat else none) else if -(n:Int)<=i then some (i+n).toNat else none
def atI {α:Type} (xs:List α) (i:Int):Option α:=(ixN xs.length i).bind λj=>xs[j]?
theorem X3 (h:ixN n i=some j):seqIndex? i n=some j/\j<n /\ -(n:Int)<=i/\i<n:=by
 unfold ixN at h
 by_cases h0:0<=i
 ·rw [if_pos h0] at h
  by_cases h1:i<n
  ·rw [if_pos h1] at h
   have e:i.toNat=j:=Option.some.inj h
   exact ⟨by rw [seqIndex_of h0 h1,e],by omega,by omega,h1⟩
  ·rw [if_neg h1] at h;cases h
 ·rw [if_neg h0] at h
  by_cases h1:-(n:Int)<=i
  ·rw [if_pos h1] at h
   have e:(i+n).toNat=j:=Option.some.inj h
   exact ⟨by rw [seqIndex_neg (by omega) h1,e],by omega,h1,by omega⟩
  ·rw [if_neg h1] at h;cases h
theorem Qch {α:Type} {xs:List α} {v:α} (h:atI xs i=some v):∃j,seqIndex? i xs.length=some j/\xs[j]? = some v/\j<xs.length /\ -(xs.length:Int)<=i/\i<xs.length:=by
 unfold atI at h
 cases e:ixN xs.length i with
 | none=>rw [e] at h;cases h
 | some j =>
  rw [e] at h
  obtain ⟨h1,h2,h3,h4⟩:=X3 e
  exact ⟨j,h1,h,h2,h3,h4⟩
theorem Qgm {α:Type} {xs:List α} {v:α} (h:xs[j]? = some v):atI xs (j:Int)=some v:=by
 have hj:j<xs.length:=(List.getElem?_eq_some_iff.mp h).1
 have e:ixN xs.length (j:Int)=some j:=by
  unfold ixN
  rw [if_pos (by omega),if_pos (by omega)];simp
 unfold atI;rw [e];exact h
def Qck (b:Expr):Prop:=∀o i,subscripted b false o i=operate [o,i] (getItem o i)
def IxR (X:Cx) (r:R2):Prop :=
 ∀(value slice:Expr) (pins:List (Addr × Obj)) (s:Shared) (σ:St) (H:Hp) (x y:V) (v u:Value) (Q:VK),Inv X pins σ H s->RelV x v->RelV y u->r x y H Q ->
  subscripted slice false v u=operate [v,u] (getItem v u)->wpAny (model X.prog X.w) X.A (subscriptTail value slice v u) (EP X pins σ Q) X.xe s
def MtR (X:Cx) (id:String) (r:V->List V->Hp->VK->Prop):Prop :=
 ∀(pins:List (Addr × Obj)) (s:Shared) (σ:St) (H:Hp) (x:V) (xs:List V) (v:Value) (us:List Value) (Q:VK),Inv X pins σ H s->RelV x v->Vals xs us->r x xs H Q ->
  wpAny (model X.prog X.w) X.A (call (.builtin id) (v::us)) (EP X pins σ Q) X.xe s
section
variable {a b:Expr}
theorem IxR.or {r r':R2} (h:IxR X r) (h':IxR X r'):IxR X (λx y H Q=>r x y H Q\/r' x y H Q):=by
 intro value slice pins s σ H x y v u Q I rx ry q hs
 rcases q with q | q
 ·exact h value slice pins s σ H x y v u Q I rx ry q hs
 ·exact h' value slice pins s σ H x y v u Q I rx ry q hs
theorem Ql1 {r:R2} (hr:IxR X r) (ha:PE X a ta) (hb:PE X b tb) (hs:Qck b):PE X (.Subscript a b pos) (tOp r ta tb):=by
 intro pins s σ H Q I h
 exact Subscript_ (binT ha hb I h λv u s2 x y H2 I2 rx ry q=>hr a b pins s2 σ H2 x y v u Q I2 rx ry q (hs _ _))
def rIxL (K:PySem.W.Frag):R2:=λx y H Q=>∃p xs i v,x=.ref p/\y=.int i/\SqL K H p xs/\atI xs i=some v/\Q v H
def rIxT (K:PySem.W.Frag):R2:=λx y H Q=>∃p xs i v,x=.ref p/\y=.int i/\SqT K H p xs/\atI xs i=some v/\Q v H
def rIxS:R2:=λx y H Q=>∃z i c,x=.str z/\y=.int i/\z.length<=sizeLine/\atI z.cps.toList i=some c/\Q (.str ⟨#[c]⟩) H
theorem Qfp:IxR X (rIxL X.K):=by
 intro value slice pins s σ H x y v u Q I rx ry h hs
 obtain ⟨p,xs,i,z,rfl,rfl,hq,he,q⟩:=h
 cases rx
 obtain ⟨t,rfl⟩:=ry
 obtain ⟨its,r,pl,hz⟩:=I.list hq
 obtain ⟨j,h1,h2,h3,h4,h5⟩:=Qch he
 obtain ⟨w,ew,rw'⟩:=r.get h2
 have hl:=r.length
 have hn:=Xb
 have fin:EP X pins σ Q w s:=⟨z,H,I,rw',q⟩
 by_cases h0:0<=i
 ·have hj:i.toNat=j:=by
   rw [seqIndex_of h0 h5] at h1
   exact Option.some.inj h1
  exact item_listR pl.isList h0 (by omega) (by rw [hj];simpa using ew) fin hs
 ·have hj:(i+(its.toArray.size:Int)).toNat=j:=by
   rw [seqIndex_neg (by omega) h4] at h1
   rw [List.size_toArray,← hl]
   exact Option.some.inj h1
  exact subscriptTail_builtinR (x:=w) pl.isList.typeIs slot_list_getitem.lookup
   (wpAny_getItem_list_neg (Q:=λr s'=>r=w/\EP X pins σ Q r s') pl.isList (by omega) (by rw [List.size_toArray] <;> omega) (by omega) (by rw [hj];simpa using ew) ⟨rfl,fin⟩) hs
theorem Qmx:IxR X (rIxT X.K):=by
 intro value slice pins s σ H x y v u Q I rx ry h hs
 obtain ⟨p,xs,i,z,rfl,rfl,hq,he,q⟩:=h
 cases rx
 obtain ⟨t,rfl⟩:=ry
 obtain ⟨its,r,pl,hz⟩:=I.tuple hq
 obtain ⟨j,h1,h2,h3,h4,h5⟩:=Qch he
 obtain ⟨w,ew,rw'⟩:=r.get h2
 have hl:=r.length
 have hn:=Xb
 have fin:EP X pins σ Q w s:=⟨z,H,I,rw',q⟩
 exact subscriptTail_builtinR (x:=w) pl.typeIs slot_tuple_getitem.lookup
  (getItem_tuple (j:=j) (Q:=λr s'=>r=w/\EP X pins σ Q r s') pl (by omega) (by omega) (by rw [List.size_toArray,← hl];exact h1) (by simpa using ew) ⟨rfl,fin⟩) hs
theorem Qmy:IxR X rIxS:=by
 intro value slice pins s σ H x y v u Q I rx ry h hs
 obtain ⟨z,i,c,rfl,rfl,hz,he,q⟩:=h
 obtain ⟨t,rfl⟩:=rx
 obtain ⟨t',rfl⟩:=ry
 obtain ⟨j,h1,h2,h3,h4,h5⟩:=Qch he
 have hl:z.cps.toList.length=z.length:=by simp [Str.length]
 rw [hl] at h1 h4 h5
 have hn:=Xb
 exact tail_any (typeIs_str s z t) slot_str_getitem.lookup (getItem_str (c:=c) (by
  have e1:decide (i < -(2 ^ 63:Int))=false:=decide_eq_false (by omega)
  have e2:decide (i ≥ 2 ^ 63)=false:=decide_eq_false (by omega)
  rw [e1,e2,Bool.or_false]) (by rw [h1];simpa using h2) ⟨.str ⟨#[c]⟩,H,I.tok _,⟨_,rfl⟩,q⟩) hs
def rIx (K:PySem.W.Frag):R2:=λx y H Q=>rIxL K x y H Q\/rIxT K x y H Q\/rIxS x y H Q
theorem Qmz:IxR X (rIx X.K):=Qfp.or (Qmx.or Qmy)
theorem Qdw (its:List Value) (n j:Nat) (u:Value):Obj.mapSeq (·.setIfInBounds j u) { cls:=.type "list",data:=.seq its.toArray n }={ cls:=.type "list",data:=.seq (its.set j u).toArray n }:=by
 simp [Obj.mapSeq]
theorem Inv.lst {pins:List (Addr × Obj)} {σ:St} {H:Hp} {s:Shared} {p:Addr} {xs:List V} (I:Inv X pins σ H s) (h:H p=some (.lst xs)) :
  ∃(its:List Value) (n:Nat),Vals xs its/\s.heap.get? p=some { cls:=.type "list",data:=.seq its.toArray n }/\xs.length<=sizeLine:=by
 obtain ⟨z,its,n,r,e⟩:=I.hok p _ h
 exact ⟨its,n,r,e,z⟩
theorem Inv.lstUpd {p:Addr} {xs:List V} {its':List Value} {n':Nat} {f:Obj->Obj} (I:Inv X pins σ H s) (h:H p=some (.lst xs))
  (ho:s.heap.get? p=some { cls:=.type "list",data:=.seq its.toArray n }) (hf:f { cls:=.type "list",data:=.seq its.toArray n }={ cls:=.type "list",data:=.seq its'.toArray n' }) (r:Vals ys its') (hz:ys.length<=sizeLine) (t:Nat) :
  Inv X pins σ (upd H p (.lst ys)) { s with heap:=s.heap.update p f,toks:=t }:=by
 have e:(s.heap.update p f).get? p=some { cls:=.type "list",data:=.seq its'.toArray n' }:=by
  rw [Heap.get?_update_self f ho (by rw [hf] <;> rfl),hf]
 refine I.write (x:=p) (e:=p) (by rw [h];trivial) (.inl rfl) (λb u hb q=>(Heap.get?_update_other _ _ (Ne.symm hb)).trans q) ⟨_,e⟩ ?_
 exact ⟨hz,its',n',r,e⟩
def Qnv:V->V->V->Hp->(Hp->Prop)->Prop:=λo i v H Q=>∃p xs k j,o=.ref p/\i=.int k/\H p=some (.lst xs)/\ixN xs.length k=some j/\Q (upd H p (.lst (xs.set j v)))
theorem Qgt:PSet X Qnv:=by
 intro pins s σ H o i v ov iv u Q I ro ri rv h
 obtain ⟨p,xs,k,j,rfl,rfl,hp,hj,q⟩:=h
 cases ro
 obtain ⟨t,rfl⟩:=ri
 obtain ⟨its,n,r,ho,hz⟩:=I.lst hp
 obtain ⟨h1,h2,h3,h4⟩:=X3 hj
 have hl:=r.length
 have hn:=Xb
 have I':Inv X pins σ (upd H p (.lst (xs.set j v))) { s with heap:=s.heap.update p (Obj.mapSeq (·.setIfInBounds j u)) } :=
  I.lstUpd hp ho (Qdw its n j u) (r.set rv j) (by rw [List.length_set];exact hz) s.toks
 by_cases h0:0<=k
 ·have hk:k.toNat=j:=by
   rw [seqIndex_of h0 h4] at h1
   exact Option.some.inj h1
  exact PySem.W.ki_setAt ho h0 (by omega) (by rw [List.size_toArray,← hl];exact h4) (by rw [hk];exact ⟨_,I',q⟩)
 ·have hk:(k+(its.toArray.size:Int)).toNat=j:=by
   rw [seqIndex_neg (by omega) h3] at h1
   rw [List.size_toArray,← hl]
   exact Option.some.inj h1
  exact PySem.W.ki_setBack ho (by omega) (by rw [List.size_toArray,← hl];exact h3) (by omega) (by rw [hk];exact ⟨_,I',q⟩)
theorem Qak (lo hi:Option Int) (n:Nat):(sliceBounds lo hi none n).1=((HT.sIx n 0 lo:Nat):Int)/\(sliceBounds lo hi none n).2.1=((HT.sIx n n hi:Nat):Int)/\(sliceBounds lo hi none n).2.2=1:=by
 refine ⟨?_,?_,rfl⟩
 ·cases lo with
  | none=>simp [sliceBounds,HT.sIx]
  | some i =>
   simp only [sliceBounds,HT.sIx,Option.getD_none,show (1:Int) > 0 by decide,if_true]
   by_cases h:i<0
   ·simp only [h,if_true] <;> omega
   ·simp only [h,if_false] <;> omega
 ·cases hi with
  | none=>simp [sliceBounds,HT.sIx]
  | some i =>
   simp only [sliceBounds,HT.sIx,Option.getD_none,show (1:Int) > 0 by decide,if_true]
   by_cases h:i<0
   ·simp only [h,if_true] <;> omega
   ·simp only [h,if_false] <;> omega
theorem Xp (its:List Value) (lo hi:Option Int):slicePick its.toArray lo hi none=((its.drop (HT.sIx its.length 0 lo)).take (HT.sIx its.length its.length hi-HT.sIx its.length 0 lo)).toArray:=by
 obtain ⟨h1,h2,h3⟩:=Qak lo hi its.toArray.size
 unfold slicePick
 rw [h1,h2,h3]
 simp only [sliceRange_one,pick_run,List.size_toArray] <;> rfl
def rSlL (K:PySem.W.Frag):V->Option Int->Option Int->Hp->VK->Prop:=λx lo hi H Q=>∃a xs,x=.ref a/\SqL K H a xs/\∀p,H p=none->Q (.ref p) (upd H p (.lst (cutV xs lo hi)))
theorem Qi2:SlR X (rSlL X.K):=by
 intro pins s σ H x v vl vu lo hi sl Q I rx hs pl pu h
 obtain ⟨a,xs,rfl,hx,q⟩:=h
 cases rx
 obtain ⟨its,r,ht,hz⟩:=I.list hx
 have hlen:=r.length
 refine ⟨"list",_,slot_list_getitem.lookup,ht.isList.typeIs,?_⟩
 refine wpAny_getItem_list_slice ht.isList hs pl pu .none (by simp) ?_ (by rw [List.size_toArray] <;> omega)
 rw [Xp,← hlen]
 refine ⟨.ref s.heap.objs.size,_,I.laid (t':=s.toks) (o:=.lst (cutV xs lo hi)) (λb ob q=>Heap.get?_push_of_some _ q) (Nat.le_refl _) ?_,rfl,q _ (I.hok.fresh (Nat.le_refl _))⟩
 exact ⟨Nat.le_trans (Gi xs lo hi) hz,_,0,(r.drop (HT.sIx xs.length 0 lo)).take (HT.sIx xs.length xs.length hi-HT.sIx xs.length 0 lo),Heap.get?_push_size _ rfl⟩
def Gu:V->Bool
 | .non=>true
 | .bl _=>true
 | .int _=>true
 | .str _=>true
 | _=>false
def eqV:V->V->Bool
 | .non,.non=>true
 | .bl a,.bl b=>a == b
 | .bl a,.int b=>(if a then 1 else 0) == b
 | .int a,.bl b=>a == (if b then 1 else 0)
 | .int a,.int b=>a == b
 | .str a,.str b=>a == b
 | _,_=>false
theorem Qm8 {x:V} {v:Value} (ry:RelV y u) (rx:RelV x v) (fy:Gu y=true) (fx:Gu x=true):SeqAt.EqAt A s u v (eqV y x):=by
 cases y with
 | non =>
  cases ry
  cases x with
  | non=>cases rx;exact SeqAt.EqAt.same _
  | bl b=>cases rx;exact SeqAt.EqAt.none_bool b
  | int b=>obtain ⟨t,rfl⟩:=rx;exact SeqAt.EqAt.none_int b t
  | str b=>obtain ⟨t,rfl⟩:=rx;exact SeqAt.EqAt.none_str b t
  | _=>exact absurd (show false=true from fx) Bool.false_ne_true
 | bl a =>
  cases ry
  cases x with
  | non=>cases rx;exact SeqAt.EqAt.bool_none a
  | bl b=>cases rx;exact SeqAt.EqAt.bool_bool a b
  | int b=>obtain ⟨t,rfl⟩:=rx;exact SeqAt.EqAt.bool_int a b t
  | str b=>obtain ⟨t,rfl⟩:=rx;exact SeqAt.EqAt.bool_str a b t
  | _=>exact absurd (show false=true from fx) Bool.false_ne_true
 | int a =>
  obtain ⟨t',rfl⟩:=ry
  cases x with
  | non=>cases rx;exact SeqAt.EqAt.int_none a t'
  | bl b=>cases rx;exact SeqAt.EqAt.int_bool a t' b
  | int b=>obtain ⟨t,rfl⟩:=rx;exact SeqAt.EqAt.int_int a t' b t
  | str b=>obtain ⟨t,rfl⟩:=rx;exact SeqAt.EqAt.int_str a t' b t
  | _=>exact absurd (show false=true from fx) Bool.false_ne_true
 | str a =>
  obtain ⟨t',rfl⟩:=ry
  cases x with
  | non=>cases rx;exact SeqAt.EqAt.str_none a t'
  | bl b=>cases rx;exact SeqAt.EqAt.str_bool a t' b
  | int b=>obtain ⟨t,rfl⟩:=rx;exact SeqAt.EqAt.str_int a t' b t
  | str b=>obtain ⟨t,rfl⟩:=rx;exact SeqAt.EqAt.str_str a t' b t
  | _=>exact absurd (show false=true from fx) Bool.false_ne_true
 | _=>exact absurd (show false=true from fy) Bool.false_ne_true
def eqU (x:V) (u:Value):Bool:=match u with
 | .none=>eqV .non x
 | .bool b=>eqV (.bl b) x
 | .int i _=>eqV (.int i) x
 | .str z _=>eqV (.str z) x
 | _=>false
theorem Qio {x:V} (r:RelV y u) (f:Gu y=true):eqU x u=eqV y x:=by
 cases y with
 | non=>cases r;rfl
 | bl b=>cases r;rfl
 | int i=>obtain ⟨t,rfl⟩:=r;rfl
 | str z=>obtain ⟨t,rfl⟩:=r;rfl
 | _=>exact absurd (show false=true from f) Bool.false_ne_true
theorem Gn {x:V}:∀{xs:List V} {us:List Value},Vals xs us->xs.all Gu=true->us.any (eqU x)=xs.any λy=>eqV y x
 | _,_,.nil,_=>rfl
 | y::xs,u::us,.cons r t,f=>by
  rw [List.all_cons,Bool.and_eq_true] at f
  rw [List.any_cons,List.any_cons,Qio r f.1,Gn t f.2]
theorem Vu {A:Around} {s:Shared} {x:V} {v:Value} (rx:RelV x v) (fx:Gu x=true):∀{xs:List V} {us:List Value},Vals xs us->xs.all Gu=true->∀u∈us,SeqAt.EqAt A s u v (eqU x u)
 | _,_,.nil,_=>λu hu=>by cases hu
 | y::xs,u::us,.cons r t,f=>λu' hu=>by
  rw [List.all_cons,Bool.and_eq_true] at f
  rcases List.mem_cons.mp hu with rfl | hu
  ·rw [Qio r f.1];exact Qm8 r rx f.1 fx
  ·exact Vu rx fx t f.2 u' hu
def inV (x:V) (xs:List V):Bool:=xs.any λy=>eqV y x
def rIn (K:PySem.W.Frag) (neg:Bool):R2:=λx y H Q=>∃p xs,y=.ref p/\(SqL K H p xs\/SqT K H p xs)/\Gu x=true/\xs.all Gu=true/\Q (.bl (if neg then !inV x xs else inV x xs)) H
theorem Qe5:OpR X (compareOp .In) (rIn X.K false):=by
 intro pins s σ H x y v u Q I rx ry h
 obtain ⟨p,xs,rfl,hq,fx,fs,q⟩:=h
 cases ry
 rcases hq with hq | hq
 ·obtain ⟨its,r,pl,hz⟩:=I.list hq
  refine SeqAt.in_listAt (eqU x) pl.isList (λw hw=>Vu rx fx r fs w (by simpa using hw)) ⟨.bl _,H,I,rfl,?_⟩
  rw [show its.toArray.any (eqU x)=its.any (eqU x) by simp,Gn r fs]
  exact q
 ·obtain ⟨its,r,pl,hz⟩:=I.tuple hq
  refine SeqAt.in_tupleAt (eqU x) pl (λw hw=>Vu rx fx r fs w (by simpa using hw)) ⟨.bl _,H,I,rfl,?_⟩
  rw [show its.toArray.any (eqU x)=its.any (eqU x) by simp,Gn r fs]
  exact q
theorem Qax:OpR X (compareOp .NotIn) (rIn X.K true):=by
 intro pins s σ H x y v u Q I rx ry h
 obtain ⟨p,xs,rfl,hq,fx,fs,q⟩:=h
 cases ry
 rcases hq with hq | hq
 ·obtain ⟨its,r,pl,hz⟩:=I.list hq
  refine SeqAt.notIn_listAt (eqU x) pl.isList (λw hw=>Vu rx fx r fs w (by simpa using hw)) ⟨.bl _,H,I,rfl,?_⟩
  rw [show its.toArray.any (eqU x)=its.any (eqU x) by simp,Gn r fs]
  exact q
 ·obtain ⟨its,r,pl,hz⟩:=I.tuple hq
  refine SeqAt.notIn_tupleAt (eqU x) pl (λw hw=>Vu rx fx r fs w (by simpa using hw)) ⟨.bl _,H,I,rfl,?_⟩
  rw [show its.toArray.any (eqU x)=its.any (eqU x) by simp,Gn r fs]
  exact q
theorem Qaw:OpR X (compareOp .NotIn) (λx y H Q=>∃i j,x=.str i/\y=.str j/\Q (.bl (!(!(Builtin.Str.occurrences j i 0 j.length 1).isEmpty))) H):=by
 intro pins s σ H x y v u Q I rx ry h
 obtain ⟨i,j,rfl,rfl,q⟩:=h
 obtain ⟨t,rfl⟩:=rx
 obtain ⟨t',rfl⟩:=ry
 exact notIn_str ⟨.bl _,H,I,rfl,q⟩
theorem Y4.or {f:Value} {r r':List V->Hp->VK->Prop} (h:Y4 X f r) (h':Y4 X f r'):Y4 X f (λxs H Q=>r xs H Q\/r' xs H Q):=by
 intro pins s σ H xs us Q I rs q
 rcases q with q | q
 ·exact h pins s σ H xs us Q I rs q
 ·exact h' pins s σ H xs us Q I rs q
theorem Qbh:Y4 X (.type "list") (λxs H Q=>∃p ys,xs=[.ref p]/\(SqL X.K H p ys\/SqT X.K H p ys)/\∀l,H l=none->Q (.ref l) (upd H l (.lst ys))):=by
 intro pins s σ H xs us Q I r h
 obtain ⟨p,ys,rfl,hq,q⟩:=h
 obtain ⟨u,rfl,rx⟩:=Xm r
 cases rx
 have fin:∀(its:List Value),Vals ys its->ys.length<=sizeLine->∀(h':Heap) (c':Nat),(∀b o',s.heap.get? b=some o'->h'.get? b=some o') ->
   h'.get? s.heap.objs.size=some { cls:=.type "list",dict:=none,data:=.seq its.toArray c',slots:=#[] }->EP X pins σ Q (.ref s.heap.objs.size) { s with heap:=h' }:=λits r' hz h' c' kp e =>
  ⟨.ref s.heap.objs.size,_,I.laid (t':=s.toks) kp (Nat.le_refl _) (show Jr X.prog X.w _ h' _ (.lst ys) from ⟨hz,its,c',r',e⟩),rfl,q _ (I.hok.fresh (Nat.le_refl _))⟩
 rcases hq with hq | hq
 ·obtain ⟨its,r',pl,hz⟩:=I.list hq
  have hlen:=r'.length
  obtain ⟨o,ho,hc,n,hd⟩:=pl.isList
  exact call_list_seq p (.inl rfl) ho hc hd (λh' c' kp e=>fin its r' hz h' c' kp e) (by simp only [List.size_toArray] <;> omega)
 ·obtain ⟨its,r',pl,hz⟩:=I.tuple hq
  have hlen:=r'.length
  obtain ⟨o,ho,hc,n,hd⟩:=pl
  exact call_list_seq p (.inr rfl) ho hc hd (λh' c' kp e=>fin its r' hz h' c' kp e) (by simp only [List.size_toArray] <;> omega)
theorem X7:Y4 X (.type "tuple") (λxs H Q=>∃p ys,xs=[.ref p]/\((SqL X.K H p ys/\∀l,H l=none->Q (.ref l) (upd H l (.tup ys)))\/(SqT X.K H p ys/\Q (.ref p) H))):=by
 intro pins s σ H xs us Q I r h
 obtain ⟨p,ys,rfl,h⟩:=h
 obtain ⟨u,rfl,rx⟩:=Xm r
 cases rx
 rcases h with ⟨hq,q⟩ | ⟨hq,q⟩
 ·obtain ⟨its,r',pl,hz⟩:=I.list hq
  have hlen:=r'.length
  refine call_tuple_list pl.isList (λh' kp=>?_) (by simp only [List.size_toArray] <;> omega)
  have I1:Inv X pins σ H { s with heap:=h' }:=I.kept (t':=s.toks) kp
  have I2:Inv X pins σ (upd H h'.objs.size (.tup ys)) { s with heap:=h'.push { cls:=.type "tuple",data:=.seq its.toArray } } :=
   I1.laid (t':=s.toks) (λb o e=>Heap.get?_push_of_some _ e) (Nat.le_refl _) (show Jr X.prog X.w _ _ _ (.tup ys) from ⟨hz,its,r',IsTup.new _ _⟩)
  exact ⟨.ref h'.objs.size,_,I2,rfl,q _ (I1.hok.fresh (Nat.le_refl _))⟩
 ·obtain ⟨its,r',pl,hz⟩:=I.tuple hq
  exact call_tuple_same pl ⟨.ref p,H,I,rfl,q⟩
def tyV (K:PySem.W.Frag) (T:String) (x:V) (H:Hp):Prop:=match x with
 | .str _=>T = "str"
 | .int _=>T = "int"
 | .ref p=>(T = "list" /\ ∃xs,SqL K H p xs)\/(T = "tuple" /\ ∃o,K.lookup p=some o/\o.cls=.type "tuple" /\ o.dict=none) \/
   (T = "dict" /\ ((∃kvs,H p=some (.dK kvs))\/∃kvs,H p=some (.dT kvs)))\/(T = "set" /\ ∃S n,H p=some (.set S n))\/∃φ,H p=some (.ext φ)/\∀h,φ h->∃o,h.get? p=some o/\o.cls=.type T/\o.dict=none
 | _=>False
theorem Qky {T:String} {x:V} {v:Value} (I:Inv X pins σ H s) (r:RelV x v) (ty:tyV X.K T x H) :
  s.TypeIs v T/\∀a,v=.ref a->∃ob,s.heap.get? a=some ob/\ob.dict=none:=by
 cases x with
 | str z =>
  obtain ⟨t,rfl⟩:=r
  cases (show T = "str" from ty)
  exact ⟨typeIs_str s z t,λ_ e=>nomatch e⟩
 | int i =>
  obtain ⟨t,rfl⟩:=r
  cases (show T = "int" from ty)
  exact ⟨typeIs_int s i t,λ_ e=>nomatch e⟩
 | ref p =>
  cases r
  rcases ty with ⟨rfl,xs,hq⟩ | ⟨rfl,o,hk,hc,hd⟩ | ⟨rfl,hk⟩ | ⟨rfl,S,n,hk⟩ | ⟨φ,hk,hf⟩
  ·obtain ⟨its,_,pl,_⟩:=I.list hq
   refine ⟨pl.isList.typeIs,λa e=>?_⟩
   cases e
   obtain ⟨o,n,e,c,hd,_⟩:=pl
   exact ⟨o,e,hd⟩
  ·refine ⟨⟨o,I.kIn p o hk,hc⟩,λa e=>?_⟩
   cases e
   exact ⟨o,I.kIn _ o hk,hd⟩
  ·have z:∃o,s.heap.get? p=some o/\o.ExactDict:=by
    rcases hk with ⟨kvs,hk⟩ | ⟨kvs,hk⟩
    ·obtain ⟨_,_,_,_,o,_,_,e,ex,_⟩:=I.hok p _ hk
     exact ⟨o,e,ex⟩
    ·obtain ⟨_,_,_,_,o,_,_,e,ex,_⟩:=I.hok p _ hk
     exact ⟨o,e,ex⟩
   obtain ⟨o,e,ex⟩:=z
   refine ⟨⟨o,e,ex.1⟩,λa e2=>?_⟩
   cases e2
   exact ⟨o,e,ex.2.1⟩
  ·obtain ⟨o,_,_,_,e,ex,_⟩:=I.hok p _ hk
   refine ⟨⟨o,e,ex.1⟩,λa e2=>?_⟩
   cases e2
   exact ⟨o,e,ex.2.1⟩
  ·obtain ⟨h1,_⟩:=I.hok p _ hk
   obtain ⟨o,e,c,d⟩:=hf _ h1
   refine ⟨⟨o,e,c⟩,λa e2=>?_⟩
   cases e2
   exact ⟨o,e,d⟩
 | _=>exact False.elim ty
def tBM (K:PySem.W.Frag) (T:String) (r:V->List V->Hp->VK->Prop) (to:TE) (t:TA):TE:=λσ H Q=>to σ H λx H1=>tyV K T x H1/\t σ H1 λxs H2=>r x xs H2 Q
end
section
variable {o:Expr} {t:TA} {T id:String}
theorem Qhb (pa:PlainAttrs T) (slot:Slot T name id) (hty:typeOf (.builtin id)=pure (.type "method_descriptor")) (hm:MtR X id r) (ho:PE X o to) (ha:PA X (e::es) t)
  (hbase:attributeBase o name X.env (eval o X.env)=eval o X.env:=by rfl)
  (hfew:((backTo cpos (starEach (e::es) X.env)).all (λx=>!x.1) && (backToKw cpos (keywordEach [] X.env)).all (λx=>x.1.isSome)
   && decide ((e::es).length+([]:List Keyword).length+(if ([]:List Keyword).isEmpty then 0 else 1)<30))=true:=by rfl)
  (hline:(apos.endLine == cpos.line)=true:=by rfl) (hs:starEach (e::es) X.env=(false,eval e X.env)::starEach es X.env:=by rfl) (hplain:(backTo cpos (starEach es X.env)).any (·.1)=false:=by rfl) :
  PE X (.Call (.Attribute o name apos) (e::es) [] cpos) (tBM X.K T r to t):=by
 intro pins s σ H Q I h
 refine wpAny_Call_method_late hbase hfew hline rfl (thn (ho pins s σ H _ I h) λv s1 ⟨x,H1,I1,r1,ty,q1⟩=>?_)
 obtain ⟨h1,h2⟩:=Qky I1 r1 ty
 refine ⟨T,id,pa,slot,hty,h1,h2,?_⟩
 have hA:=ha cpos pins s1 σ H1 _ I1 q1
 rw [hs] at hA ⊢
 refine Calls.callWith_builtin (by show (false || (backTo cpos (starEach es X.env)).any (·.1))=false;rw [hplain] <;> rfl) (Calls.evalArgs_plain ?_)
 exact thn hA λus s2 ⟨vs,H2,I2,r2,q2⟩=>hm pins s2 σ H2 x vs v us Q I2 r1 r2 q2
end
def MtM (X:Cx) (id:String) (r:V->List V->Hp->VK->Prop):Prop :=
 ∀(pins:List (Addr × Obj)) (s:Shared) (σ:St) (H:Hp) (x:V) (xs:List V) (v:Value) (us:List Value) (Q:VK),Inv X pins σ H s->RelV x v->Vals xs us->r x xs H Q ->
  wpAny (model X.prog X.w) X.A (call (.builtin id) (v::us)) (EP X pins σ Q) X.xe s
theorem Vals.one:∀{x:V} {us:List Value},Vals [x] us->∃u,us=[u]/\RelV x u
 | _,_,.cons r .nil=>⟨_,rfl,r⟩
theorem Vals.eraseIdx:∀{xs:List V} {us:List Value} (i:Nat),Vals xs us->Vals (xs.eraseIdx i) (us.eraseIdx i)
 | _,_,_,.nil=>.nil
 | _,_,0,.cons _ t=>t
 | _,_,i+1,.cons r t=>.cons r (Vals.eraseIdx i t)
theorem Vals.rep {xs:List V} {us:List Value} (h:Vals xs us):∀k:Nat,Vals (List.replicate k xs).flatten (List.replicate k us).flatten
 | 0=>.nil
 | k+1=>by
  rw [List.replicate_succ,List.replicate_succ,List.flatten_cons,List.flatten_cons]
  exact Vals.append h (Vals.rep h k)
theorem Gd {α:Type}:∀(l:List α) (i:Nat),(l.eraseIdx i).length<=l.length
 | [],_=>Nat.le_refl _
 | _::_,0=>Nat.le_succ _
 | _::r,i+1=>Nat.succ_le_succ (Gd r i)
theorem Qa7 (its:List Value):∀(k:Nat) (acc:List Value),
  List.foldl (λx1 x2=>x1++x2) acc.toArray (List.replicate k its.toArray)=(acc++(List.replicate k its).flatten).toArray
 | 0,acc=>by simp
 | k+1,acc=>by
  have e:acc.toArray++its.toArray=(acc++its).toArray:=by simp
  have e2:(acc++its)++(List.replicate k its).flatten=acc++(List.replicate (k+1) its).flatten:=by
   rw [List.replicate_succ,List.flatten_cons,List.append_assoc]
  rw [← e2,← Qa7 its k (acc++its),← e,List.replicate_succ,List.foldl_cons]
section
variable {xs:List V}
theorem Inv.lset {its':List Value} {f:Array Value->Array Value} (I:Inv X pins σ H s) (hH:H l=some (.lst xs))
  (e:s.heap.get? l=some { cls:=.type "list",data:=.seq its.toArray n }) (hf:f its.toArray=its'.toArray) (hv:Vals ys its') (hz:ys.length<=sizeLine) :
  Inv X pins σ (upd H l (.lst ys)) { s with heap:=s.heap.update l (Obj.mapSeq f),toks:=t' }:=by
 have q:=PySem.IsL.update e f
 rw [hf] at q
 refine I.write (x:=l) (e:=l) (by rw [hH];exact trivial) (.inl rfl) (λb' u hb hu=>(Heap.get?_update_other s.heap (Obj.mapSeq f) (Ne.symm hb)).trans hu) ⟨_,q⟩ ?_
 exact ⟨hz,its',_,hv,q⟩
theorem Inv.lnew (I:Inv X pins σ H s) (hv:Vals ys its) (hz:ys.length<=sizeLine) :
  Inv X pins σ (upd H s.heap.objs.size (.lst ys)) { s with heap:=s.heap.push { cls:=.type "list",data:=.seq its.toArray },toks:=t' } :=
 I.laid (λ_ _ q=>Heap.get?_push_of_some _ q) (Nat.le_refl _) ⟨hz,its,0,hv,Heap.get?_push_size _ rfl⟩
theorem Inv.fresh (I:Inv X pins σ H s):H s.heap.objs.size=none:=I.hok.fresh (Nat.le_refl _)
theorem Inv.lstM (I:Inv X pins σ H s) (hH:H l=some (.lst xs)):xs.length<=sizeLine/\∃(its:List Value) (n:Nat),Vals xs its/\xs.length=its.length/\s.heap.get? l=some { cls:=.type "list",data:=.seq its.toArray n }:=by
 obtain ⟨z,its,n,r,e⟩:=I.hok l _ hH
 exact ⟨z,its,n,r,r.length,e⟩
theorem Qhi (h:n<=sizeLine):Builtin.List.listTooLong n=false:=by
 unfold Builtin.List.listTooLong
 exact decide_eq_false (by omega)
end
def Qjd:V->List V->Hp->VK->Prop:=λx vs H Q=>∃l xs y,x=.ref l/\vs=[y]/\H l=some (.lst xs)/\xs.length<sizeLine/\Q .non (upd H l (.lst (xs++[y])))
theorem U7:MtM X "list.append" Qjd:=by
 intro pins s σ H x vs v us Q I rx rv h
 obtain ⟨l,xs,y,rfl,rfl,hH,hz,q⟩:=h
 cases rx
 obtain ⟨u,rfl,ru⟩:=rv.one
 obtain ⟨z,its,n,r,hl,e⟩:=I.lstM hH
 refine call_meets F.slot_list_append ⟨_,e,rfl⟩ F.entry_list_append (F.args_list_append_2 _ _) (PySem.list_append l its.toArray n u (by rw [List.size_toArray];omega)) ⟨e,?_⟩
 refine ⟨.non,_,I.lset (its':=its++[u]) hH e (by simp) (r.append (.cons ru .nil)) ?_,rfl,q⟩
 rw [List.length_append,List.length_singleton]
 omega
def Qll:V->List V->Hp->VK->Prop:=λx vs H Q=>∃l xs i k y,x=.ref l/\vs=[.int i]/\H l=some (.lst xs) /\ -(2 ^ 63)<=i/\i<2 ^ 63/\seqIndex? i xs.length=some k/\xs[k]? = some y/\Q y (upd H l (.lst (xs.eraseIdx k)))
theorem Qhk:MtM X "list.pop" Qll:=by
 intro pins s σ H x vs v us Q I rx rv h
 obtain ⟨l,xs,i,k,y,rfl,rfl,hH,h1,h2,hk,hy,q⟩:=h
 cases rx
 obtain ⟨u,rfl,ru⟩:=rv.one
 obtain ⟨t,rfl⟩:=ru
 obtain ⟨z,its,n,r,hl,e⟩:=I.lstM hH
 obtain ⟨w,hw,rw'⟩:=r.get hy
 refine call_meets F.slot_list_pop ⟨_,e,rfl⟩ F.entry_list_pop (F.args_list_pop_2 _ _)
  (MeetsSeq.list_pop_at l its.toArray n i t k w (fitsIndex_both h1 h2) (by rw [List.size_toArray,← hl];exact hk) (by rw [← Array.getElem?_toList];exact hw) (by rw [List.size_toArray];omega)) ⟨e,?_⟩
 refine ⟨y,_,I.lset (its':=its.eraseIdx k) hH e ?_ (r.eraseIdx k) ?_,rw',q⟩
 ·show its.toArray.eraseIdxIfInBounds k=(its.eraseIdx k).toArray
  rw [List.eraseIdxIfInBounds_toArray]
 ·have:=Gd xs k
  omega
def rCat:R2:=λx y H Q=>∃l b xs zs,x=.ref l/\y=.ref b/\H l=some (.lst xs)/\H b=some (.lst zs)/\xs.length+zs.length<=sizeLine/\∀p,H p=none->Q (.ref p) (upd H p (.lst (xs++zs)))
theorem Qmb:OpR X (binaryOp .Add) rCat:=by
 intro pins s σ H x y v u Q I rx ry h
 obtain ⟨l,b,xs,zs,rfl,rfl,hH,hB,hz,q⟩:=h
 cases rx
 cases ry
 obtain ⟨z,its,n,r,hl,e⟩:=I.lstM hH
 obtain ⟨z2,its2,n2,r2,hl2,e2⟩:=I.lstM hB
 refine PySem.P.add_list e e2 ?_ (by rw [List.size_toArray,List.size_toArray];omega)
 have ea:its.toArray++its2.toArray=(its++its2).toArray:=by simp
 rw [ea]
 exact ⟨.ref _,_,I.lnew (t':=s.toks) (r.append r2) (by rw [List.length_append];omega),rfl,q _ I.fresh⟩
def rRep:R2:=λx y H Q=>∃l k xs,x=.ref l/\y=.int k/\H l=some (.lst xs) /\ -(2 ^ 63)<=k/\k<2 ^ 63/\xs.length*k.toNat<=sizeLine /\
 ∀p,H p=none->Q (.ref p) (upd H p (.lst (List.replicate k.toNat xs).flatten))
theorem Qj2 {α:Type} (xs:List α) (k:Nat):(List.replicate k xs).flatten.length=k*xs.length:=by
 induction k with
 | zero=>simp
 | succ k ih=>rw [List.replicate_succ,List.flatten_cons,List.length_append,ih,Nat.succ_mul,Nat.add_comm]
theorem Ql4:OpR X (binaryOp .Mult) rRep:=by
 intro pins s σ H x y v u Q I rx ry h
 obtain ⟨l,k,xs,rfl,rfl,hH,h1,h2,hz,q⟩:=h
 cases rx
 obtain ⟨t,rfl⟩:=ry
 obtain ⟨z,its,n,r,hl,e⟩:=I.lstM hH
 have hlen:its.toArray.size*k.toNat<=sizeLine:=by rw [List.size_toArray,← hl];exact hz
 have hcap:¬its.toArray.size*k.toNat > (2 ^ 63-1) / 8:=by
  have:(sizeLine:Nat)<=(2 ^ 63-1) / 8:=by decide
  omega
 have hfit:¬(!Builtin.List.listFitsIndex k)=true:=by
  rw [fitsIndex_both h1 h2]
  exact Bool.false_ne_true
 have hlong:¬Builtin.List.listTooLong (its.toArray.size*k.toNat)=true:=by
  rw [Qhi hlen]
  exact Bool.false_ne_true
 have hnew:List.foldl (λx1 x2=>x1++x2) #[] (List.replicate (if its.toArray.isEmpty=true then 0 else k.toNat) its.toArray)=(List.replicate k.toNat its).flatten.toArray:=by
  have f0:∀m:Nat,List.foldl (λx1 x2=>x1++x2) #[] (List.replicate m its.toArray)=(List.replicate m its).flatten.toArray:=λm=>by
   have:=Qa7 its m []
   rw [List.nil_append] at this
   exact this
  rw [f0]
  cases its with
  | nil=>simp
  | cons a r'=>rw [if_neg (by simp)]
 refine wpAny_binaryOp_repeat_ref (T:="list") (U:="int") (by decide) ⟨_,e,rfl⟩ (λs'=>typeIs_int s' k t) noFill_list_mul F.fills_int_mul F.slot_int_rmul repeat_list F.slot_int_index.lookup
  (call_meets F.slot_int_rmul (typeIs_int s k t) F.entry_int_rmul (F.args_int_rmul_2 _ _) (int___rmul___int_list k t l its.toArray n)
   ⟨e,rfl,⟨_,e,rfl⟩,call_meets F.slot_list_mul ⟨_,e,rfl⟩ F.entry_list_mul (F.args_list_mul_2 _ _) (AutoListH.list___mul___list_int_3 l its.toArray n k t hfit hcap hlong) ⟨e,?_⟩⟩)
 rw [hnew]
 exact ⟨.ref _,_,I.lnew (t':=s.toks) (r.rep k.toNat) (by rw [Qj2,Nat.mul_comm];exact hz),rfl,q _ I.fresh⟩
section
variable {κ:Type} [DecidableEq κ]
def valV (kvs:List (κ × V)) (k:κ):Option V:=(kvs.find? λkv=>decide (kv.1=k)).map (·.2)
def putK (kvs:List (κ × V)) (k:κ) (v:V):List (κ × V) :=
 if (kvs.any λkv=>decide (kv.1=k))=true then kvs.map (λkv=>if kv.1=k then (kv.1,v) else kv) else kvs++[(k,v)]
theorem Vm {p:κ × V} {r:List (κ × V)} {k:κ} (e:p.1=k):valV (p::r) k=some p.2:=by simp [valV,List.find?_cons,e]
theorem Vn {p:κ × V} {r:List (κ × V)} {k:κ} (e:¬p.1=k):valV (p::r) k=valV r k:=by simp [valV,List.find?_cons,e]
theorem Qco (k:κ):∀kvs:List (κ × V),(kvs.any λkv=>decide (kv.1=k))=(valV kvs k).isSome
 | []=>rfl
 | p::r=>by
  rw [List.any_cons]
  by_cases e:p.1=k
  ·simp only [Vm e,decide_eq_true e,Bool.true_or,Option.isSome_some]
  ·rw [Vn e,decide_eq_false e,Bool.false_or];exact Qco k r
theorem Gc (kvs:List (κ × V)) (k:κ) (v:V):(putK kvs k v).length<=kvs.length+1:=by
 unfold putK
 split
 ·rw [List.length_map];omega
 ·rw [List.length_append,List.length_cons,List.length_nil];omega
theorem RelO.isSome_eq {u:Option Value} (r:RelO o u):o.isSome=u.isSome:=by
 cases o with
 | none=>cases u with
  | none=>rfl
  | some _=>exact (show False from r).elim
 | some _=>cases u with
  | none=>exact (show False from r).elim
  | some _=>rfl
theorem RelO.getD {u:Option Value} {d':Value} (r:RelO o u) (rd:RelV d d'):RelV (o.getD d) (u.getD d'):=by
 cases o with
 | none=>cases u with
  | none=>exact rd
  | some _=>exact (show False from r).elim
 | some _=>cases u with
  | none=>exact (show False from r).elim
  | some _=>exact r
theorem KV.val {kvs:List (κ × V)} {vs:List (κ × Value)} (r:KV kvs vs) (k:κ):RelO (valV kvs k) (valueAt vs k):=by
 unfold KV at r
 induction r with
 | nil=>exact True.intro
 | @cons p q ps qs h t ih =>
  obtain ⟨h1,h2⟩:=h
  by_cases e:p.1=k
  ·have e':q.1=k:=h1.symm.trans e
   have b:valueAt (q::qs) k=some q.2:=by simp [valueAt,List.find?_cons,e']
   rw [Vm e,b];exact h2
  ·have e':¬q.1=k:=λz=>e (h1.trans z)
   have b:valueAt (q::qs) k=valueAt qs k:=by simp [valueAt,List.find?_cons,e']
   rw [Vn e,b];exact ih
theorem KV.any {kvs:List (κ × V)} {vs:List (κ × Value)} (r:KV kvs vs) (k:κ):(kvs.any λkv=>decide (kv.1=k))=vs.any λkv=>decide (kv.1=k):=by
 unfold KV at r
 induction r with
 | nil=>rfl
 | cons h t ih=>rw [List.any_cons,List.any_cons,ih,h.1]
theorem KV.repl {kvs:List (κ × V)} {vs:List (κ × Value)} (r:KV kvs vs) (k:κ) (ry:RelV y u) :
  KV (kvs.map λkv=>if kv.1=k then (kv.1,y) else kv) (vs.map λkv=>if kv.1=k then (kv.1,u) else kv):=by
 unfold KV at r ⊢
 induction r with
 | nil=>exact .nil
 | @cons p q ps qs h t ih =>
  rw [List.map_cons,List.map_cons]
  refine .cons ?_ ih
  obtain ⟨h1,h2⟩:=h
  by_cases e:p.1=k
  ·rw [if_pos e,if_pos (h1.symm.trans e)];exact ⟨h1,ry⟩
  ·rw [if_neg e,if_neg (λz=>e (h1.trans z))];exact ⟨h1,h2⟩
theorem KV.put {kvs:List (κ × V)} {vs:List (κ × Value)} (r:KV kvs vs) (k:κ) (ry:RelV y u):KV (putK kvs k y) (stored vs k u):=by
 unfold putK stored
 rw [r.any k]
 by_cases e:(vs.any λkv=>decide (kv.1=k))=true
 ·rw [if_pos e,if_pos e];exact r.repl k ry
 ·rw [if_neg e,if_neg e];exact Paired.snoc r ⟨rfl,ry⟩
theorem KV.length {kvs:List (κ × V)} {vs:List (κ × Value)} (r:KV kvs vs):kvs.length=vs.length:=Paired.length r
end
theorem Qdz {k:Key} (r:RelV (kV k) u):(Jc P w).is k u=true:=by
 cases k with
 | inl i=>obtain ⟨t,e⟩:=(show ∃t,u=Value.int i t from r);subst e;exact Qb5 P w i t
 | inr x=>obtain ⟨t,e⟩:=(show ∃t,u=Value.str x t from r);subst e;exact Qb4 P w x t
theorem Qa4 {P:Program} {w:World}:∀{ks:List Key} {us:List Value},Vals (ks.map kV) us->ItemsAre (Jc P w) ks us
 | [],_,r=>by rw [List.map_nil] at r;cases r;exact .nil
 | k::ks,_,r=>by
  rw [List.map_cons] at r
  cases r with
  | cons h t=>exact .cons (Qdz h) (Qa4 t)
abbrev KT (H:Hp):List (List Key × V)->List (List Key × Addr × Value)->Prop:=Paired λp q=>p.1=q.1/\H q.2.1=some (.tup (p.1.map kV))/\RelV p.2 q.2.2
theorem KT.val (r:KT H kvs xs) (k:List Key):RelO (valV kvs k) ((atKey xs k).map (·.2)):=by
 induction r with
 | nil=>exact True.intro
 | @cons p q ps qs h t ih =>
  obtain ⟨h1,_,h2⟩:=h
  by_cases e:p.1=k
  ·have e':q.1=k:=h1.symm.trans e
   have b:atKey (q::qs) k=some q.2:=by simp [atKey,List.find?_cons,e']
   rw [Vm e,b];exact h2
  ·have e':¬q.1=k:=λz=>e (h1.trans z)
   have b:atKey (q::qs) k=atKey qs k:=by simp [atKey,List.find?_cons,e']
   rw [Vn e,b];exact ih
theorem KT.repl (r:KT H kvs xs) (k:List Key) (ry:RelV y u) :
  KT H (kvs.map λkv=>if kv.1=k then (kv.1,y) else kv) (xs.map (putAt k u)):=by
 induction r with
 | nil=>exact .nil
 | @cons p q ps qs h t ih =>
  rw [List.map_cons,List.map_cons]
  refine .cons ?_ ih
  obtain ⟨h1,h2,h3⟩:=h
  unfold putAt
  by_cases e:p.1=k
  ·rw [if_pos e,if_pos (h1.symm.trans e)];exact ⟨h1,h2,ry⟩
  ·rw [if_neg e,if_neg (λz=>e (h1.trans z))];exact ⟨h1,h2,h3⟩
theorem KT.put (r:KT H kvs xs) (k:List Key) (hb:H b=some (.tup (k.map kV))) (ry:RelV y u) :
  KT H (putK kvs k y) (storedH xs k b u):=by
 have e:(kvs.any λkv=>decide (kv.1=k))=(atKey xs k).isSome:=by
  rw [Qco,(r.val k).isSome_eq,Option.isSome_map]
 unfold putK storedH
 rw [e]
 by_cases q:(atKey xs k).isSome=true
 ·rw [if_pos q,if_pos q];exact r.repl k ry
 ·rw [if_neg q,if_neg q];exact Paired.snoc r ⟨rfl,hb,ry⟩
theorem KT.keeps (r:KT H kvs xs) (ht:∀b ys,H b=some (.tup ys)->H' b=some (.tup ys)):KT H' kvs xs :=
 Paired.mapP r λ_ _ z=>⟨z.1,ht _ _ z.2.1,z.2.2⟩
theorem Qk9 {u:HO} (ok:HOk P w H h) (e:Rd H a u):Jr P w H h a u:=e.ok ok
theorem Qbb {kvs:List (Key × V)} (ok:HOk P w H h) (e:Rd H a (.dK kvs)):kvs.length<=sizeLine/\(a == sysModules)=false/\∃vs,KV kvs vs/\h.DictOf (Jc P w) a vs :=
 show Jr P w H h a (.dK kvs) from Qk9 ok e
theorem Qm9 {kvs:List (Key × V)} (ok:HOk P w H h) (e:H a=some (.dK kvs)):kvs.length<=sizeLine/\(a == sysModules)=false/\∃vs,KV kvs vs/\h.DictOf (Jc P w) a vs:=Qbb ok (.inl e)
theorem Xd {ks:List Key} (ok:HOk P w H h) (e:H a=some (.tup (ks.map kV))):(tupleKind (Jc P w)).is h ks a:=by
 obtain ⟨_,its,r,o,h1,h2,n,h3⟩:=(show Jr P w H h a (.tup (ks.map kV)) from ok a _ e)
 exact ⟨o,its.toArray,n,h1,h2,h3,by simpa using Qa4 r⟩
theorem Qca (ok:HOk P w H h) (e:Rd H a (.dT kvs)):kvs.length<=sizeLine/\(a == sysModules)=false /\
  ∃xs,KT H kvs xs/\h.DictOfH (tupleKind (Jc P w)) a xs:=by
 obtain ⟨z,y,xs,r,o,es,ep,h1,h2,h3,h4,h5⟩:=(show Jr P w H h a (.dT kvs) from Qk9 ok e)
 refine ⟨z,y,xs,r,o,es,ep,h1,h2,h3,h4,λx hx=>?_,h5⟩
 have all:∀{l:List (List Key × V)} {m:List (List Key × Addr × Value)},KT H l m->∀x∈m,(tupleKind (Jc P w)).is h x.1 x.2.1:=by
  intro l m q
  induction q with
  | nil=>intro x hx;exact nomatch hx
  | @cons p q ps qs hq t ih =>
   intro x hx
   rcases List.mem_cons.mp hx with e | hx
   ·subst e
    exact Xd ok (by rw [← hq.1];exact hq.2.1)
   ·exact ih x hx
 exact all r x hx
theorem Qon (ok:HOk P w H h) (e:H a=some (.dT kvs)):kvs.length<=sizeLine/\(a == sysModules)=false /\
  ∃xs,KT H kvs xs/\h.DictOfH (tupleKind (Jc P w)) a xs:=Qca ok (.inl e)
def DGet (H:Hp) (a:Addr) (y:V) (r:Option V):Prop :=
 (∃kvs k,Rd H a (.dK kvs)/\y=kV k/\r=valV kvs k)\/∃kvs k b,Rd H a (.dT kvs)/\y=.ref b/\H b=some (.tup (k.map kV))/\r=valV kvs k
def DPut (H:Hp) (a:Addr) (y v:V) (H':Hp):Prop :=
 (∃kvs k,H a=some (.dK kvs)/\y=kV k/\kvs.length<sizeLine/\H'=upd H a (.dK (putK kvs k v))) \/
 ∃kvs k b,H a=some (.dT kvs)/\y=.ref b/\H b=some (.tup (k.map kV))/\kvs.length<sizeLine/\H'=upd H a (.dT (putK kvs k v))
theorem DGet.k {H:Hp} {a:Addr} {kvs:List (Key × V)} {k:Key} (e:H a=some (.dK kvs)):DGet H a (kV k) (valV kvs k):=.inl ⟨kvs,k,.inl e,rfl,rfl⟩
theorem DGet.t {k:List Key} (e:H a=some (.dT kvs)) (eb:H b=some (.tup (k.map kV))):DGet H a (.ref b) (valV kvs k):=.inr ⟨kvs,k,b,.inl e,rfl,eb,rfl⟩
theorem DPut.k {H:Hp} {a:Addr} {kvs:List (Key × V)} {k:Key} {v:V} (e:H a=some (.dK kvs)) (hl:kvs.length<sizeLine):DPut H a (kV k) v (upd H a (.dK (putK kvs k v))):=.inl ⟨kvs,k,e,rfl,hl,rfl⟩
theorem DPut.t {k:List Key} (e:H a=some (.dT kvs)) (eb:H b=some (.tup (k.map kV))) (hl:kvs.length<sizeLine) :
  DPut H a (.ref b) v (upd H a (.dT (putK kvs k v))):=.inr ⟨kvs,k,b,e,rfl,eb,hl,rfl⟩
section
variable {r:Value}
theorem Inv.big (I:Inv X pins σ H s):sysModules<s.heap.objs.size:=by
 have h:mainGlobals<s.heap.objs.size:=(I.mod.glob.keeps I.bk).lt
 exact Nat.lt_trans (by decide) h
theorem Qf9 (hu:A.units+1<cLine) (I:Inv X pins σ H s) (g:DGet H a y (some v)) (ry:RelV y u) (h:∀w' s',Inv X pins σ H s'->RelV v w'->Q w' s') :
  wpAny (model X.prog X.w) A (getItem (.ref a) u) Q E s:=by
 rcases g with ⟨kvs,k,e,ey,l⟩ | ⟨kvs,k,b,e,ey,eb,l⟩
 ·subst ey
  obtain ⟨z,hd,vs,rel,dd⟩:=Qbb I.hok e
  obtain ⟨w',hw,rw'⟩:=RelO.some_of (v:=v) (o:=valueAt vs k) (by rw [l];exact rel.val k)
  exact wpAny_getItem_of (Qdz ry) dd.mapOf hw (h w' _ (I.tok _) rw')
 ·subst ey
  cases (show u=Value.ref b from ry)
  obtain ⟨z,hd,xs,rel,dd⟩:=Qca I.hok e
  obtain ⟨w',hw,rw'⟩:=RelO.some_of (v:=v) (o:=(atKey xs k).map (·.2)) (by rw [l];exact rel.val k)
  obtain ⟨p,hp,hp2⟩:=Option.map_eq_some_iff.mp hw
  refine wpAny_getItem_heap (tupleKind_room_in1 hu) (Xd I.hok eb) dd hp ?_
  rw [hp2]
  exact h w' _ (I.tok _) rw'
theorem d_in (hu:A.units+1<cLine) (I:Inv X pins σ H s) (g:DGet H a y o) (ry:RelV y u) (h:∀s',Inv X pins σ H s'->Q (.bool o.isSome) s') :
  wpAny (model X.prog X.w) A (compareOp .In u (.ref a)) Q E s:=by
 rcases g with ⟨kvs,k,e,ey,l⟩ | ⟨kvs,k,b,e,ey,eb,l⟩
 ·subst ey
  obtain ⟨z,hd,vs,rel,dd⟩:=Qbb I.hok e
  refine wpAny_in_of (Qdz ry) hd dd.mapOf ?_
  rw [← (rel.val k).isSome_eq,← l]
  exact h _ (I.tok _)
 ·subst ey
  cases (show u=Value.ref b from ry)
  obtain ⟨z,hd,xs,rel,dd⟩:=Qca I.hok e
  refine wpAny_in_heap (tupleKind_room_in1 hu) (Xd I.hok eb) hd dd ?_
  have q:=(rel.val k).isSome_eq
  rw [Option.isSome_map] at q
  rw [← q,← l]
  exact h _ (I.tok _)
theorem Qkd (hu:A.units+1<cLine) (I:Inv X pins σ H s) (g:DGet H a y o) (ry:RelV y u) (h:∀s',Inv X pins σ H s'->Q (.bool (!o.isSome)) s') :
  wpAny (model X.prog X.w) A (compareOp .NotIn u (.ref a)) Q E s:=by
 rcases g with ⟨kvs,k,e,ey,l⟩ | ⟨kvs,k,b,e,ey,eb,l⟩
 ·subst ey
  obtain ⟨z,hd,vs,rel,dd⟩:=Qbb I.hok e
  refine wpAny_notIn_of (Qdz ry) hd dd.mapOf ?_
  rw [← (rel.val k).isSome_eq,← l]
  exact h _ (I.tok _)
 ·subst ey
  cases (show u=Value.ref b from ry)
  obtain ⟨z,hd,xs,rel,dd⟩:=Qca I.hok e
  refine wpAny_notIn_heap (tupleKind_room_in1 hu) (Xd I.hok eb) hd dd ?_
  have q:=(rel.val k).isSome_eq
  rw [Option.isSome_map] at q
  rw [← q,← l]
  exact h _ (I.tok _)
theorem Qf7 (I:Inv X pins σ H s) (mu:Mut (H a)) (hs:Heap.SameBut a s.heap h') (he:∃q,h'.get? a=some q) (new:Jr X.prog X.w (upd H a ob) h' a ob) :
  Inv X pins σ (upd H a ob) { s with heap:=h',toks:=t' } :=
 I.write (x:=a) (e:=a) mu (.inl rfl) (λb q hb z=>(hs.2 b hb).trans z) he new
theorem Qna {kvs:List (Key × V)} {vs:List (Key × Value)} (z:kvs.length<=sizeLine) (hd:(a == sysModules)=false) (rel:KV kvs vs) (dd:h'.DictOf (Jc P w) a vs) :
  Jr P w H' h' a (.dK kvs):=⟨z,hd,vs,rel,dd⟩
theorem Qf8 {Q:Unit->Shared->Prop} (hu:A.units+1<cLine) (I:Inv X pins σ H s) (g:DPut H a y v H') (ry:RelV y u) (rv:RelV v r) (h:∀s',Inv X pins σ H' s'->Q () s') :
  wpAny (model X.prog X.w) A (setItem (.ref a) u r) Q E s:=by
 rcases g with ⟨kvs,k,e,ey,l,eH⟩ | ⟨kvs,k,b,e,ey,eb,l,eH⟩
 ·subst ey eH
  obtain ⟨z,hd,vs,rel,dd⟩:=Qm9 I.hok e
  have hz:vs.length<=sizeLine:=by rw [← rel.length];exact z
  have hl:(putK kvs k v).length<=sizeLine:=by have:=Gc kvs k v;omega
  refine wpAny_setItem_pairs (hsz:=hz) (Qdz ry) dd λh' dd' hs=>h _ ?_
  have he:∃q,h'.get? a=some q:=let ⟨q,_,_,hq,_⟩:=dd';⟨q,hq⟩
  exact Qf7 I (by rw [e];exact True.intro) hs he (Qna hl hd (rel.put k rv) dd')
 ·subst ey eH
  cases (show u=Value.ref b from ry)
  obtain ⟨z,hd,xs,rel,dd⟩:=Qon I.hok e
  have hz:xs.length<=sizeLine:=by rw [← Paired.length rel];exact z
  have hl:(putK kvs k v).length<=sizeLine:=by have:=Gc kvs k v;omega
  refine wpAny_setItem_heap (hsz:=hz) (tupleKind_room_in1 hu) (Xd I.hok eb) dd λh' dd' hs=>h _ ?_
  obtain ⟨q,es,ep,hq,h2,h3,h4,_,h5⟩:=dd'
  refine Qf7 I (by rw [e];exact True.intro) hs ⟨q,hq⟩ ⟨hl,hd,_,(rel.put k eb rv).keeps λc ys ec=>?_,q,es,ep,hq,h2,h3,h4,h5⟩
  rw [Qm (Qob ec e (λz=>nomatch z))]
  exact ec
end
section
variable {kvs:List (Key × V)}
theorem Qoo (I:Inv X pins σ H s) (e:Rd H a (.dK kvs)) (h:∀t s',Inv X pins σ H s'->Q (.int kvs.length t) s'):wpAny (model X.prog X.w) A (call (.builtin "len") [.ref a]) Q E s:=by
 obtain ⟨z,hd,vs,rel,dd⟩:=Qbb I.hok e
 refine call_len_dict hd dd (by rw [← rel.length];rw [sizeLine_eq] at z;omega) ?_
 rw [← rel.length]
 exact h _ _ (I.tok _)
end
theorem Qcb (I:Inv X pins σ H s) (g:DGet H a y o):s.TypeIs (.ref a) "dict":=by
 rcases g with ⟨kvs,k,e,_,_⟩ | ⟨kvs,k,b,e,_,_,_⟩
 ·obtain ⟨_,_,vs,_,dd⟩:=Qbb I.hok e
  exact dd.typeIs
 ·obtain ⟨_,_,xs,_,dd⟩:=Qca I.hok e
  exact dd.typeIs
theorem Qhx (h:Heap) (hb:sysModules<h.objs.size):Jr P w H (h.push { cls:=.type "dict",data:=.dict #[] }) h.objs.size (.dK []) :=
 ⟨Nat.zero_le _,beq_eq_false_iff_ne.mpr (Ne.symm (Nat.ne_of_lt hb)),[],.nil,Heap.DictOf.new h⟩
def Qk2:TE:=λ_ H Q=>∀p,H p=none->Q (.ref p) (upd H p (.dK []))
theorem Qg8:PE X (.Dict [] [] pos) Qk2:=λpins s σ H Q I h =>
 wpAny_Dict_empty ⟨.ref s.heap.objs.size,_,I.laid (a:=s.heap.objs.size) (o:=.dK []) (t':=s.toks) (λ_ _ q=>Heap.get?_push_of_some _ q) (Nat.le_refl _) (Qhx s.heap I.big),rfl,h _ (I.hok.fresh (Nat.le_refl _))⟩
structure M2 (X:Cx) (o:Expr) (m:Str) (apos:Pos) (e f:Expr) (cpos:Pos):Prop where
 base:attributeBase o m X.env (eval o X.env)=eval o X.env
 few:((backTo cpos (starEach [e,f] X.env)).all (λx=>!x.1) && (backToKw cpos (keywordEach [] X.env)).all (λx=>x.1.isSome)
  && decide (([e,f]:List Expr).length+([]:List Keyword).length+(if ([]:List Keyword).isEmpty then 0 else 1)<30))=true
 line:(apos.endLine == cpos.line)=true
 trees:backTo cpos (starEach [e,f] X.env)=[(false,eval e X.env),(false,eval f X.env)]
def IsD (H:Hp) (a:Addr):Prop:=(∃kvs,Rd H a (.dK kvs))\/∃kvs,Rd H a (.dT kvs)
theorem Qm1 (I:Inv X pins σ H s) (d:IsD H a) :
  s.TypeIs (.ref a) "dict" /\ (∀b,Value.ref a=.ref b->∃ob,s.heap.get? b=some ob/\ob.dict=none)/\(a == sysModules)=false:=by
 rcases d with ⟨kvs,e⟩ | ⟨kvs,e⟩
 ·obtain ⟨_,hd,vs,_,dd⟩:=Qbb I.hok e
  refine ⟨dd.typeIs,λb q=>?_,hd⟩
  cases q
  obtain ⟨ob,_,_,h1,h2,_⟩:=dd
  exact ⟨ob,h1,h2.2.1⟩
 ·obtain ⟨_,hd,xs,_,dd⟩:=Qca I.hok e
  refine ⟨dd.typeIs,λb q=>?_,hd⟩
  cases q
  obtain ⟨ob,_,_,h1,h2,_⟩:=dd
  exact ⟨ob,h1,h2.2.1⟩
section
variable {r:Value}
theorem Qnc (hu:A.units+1<cLine) (I:Inv X pins σ H s) (g:DGet H a y o) (ry:RelV y u) (rd:RelV d r) (h:∀w' s',Inv X pins σ H s'->RelV (o.getD d) w'->Q w' s') :
  wpAny (model X.prog X.w) A (call (.builtin "dict.get") [.ref a,u,r]) Q E s:=by
 rcases g with ⟨kvs,k,e,ey,l⟩ | ⟨kvs,k,b,e,ey,eb,l⟩
 ·subst ey
  obtain ⟨z,hd,vs,rel,dd⟩:=Qbb I.hok e
  refine call_meetsIn PySem.F.slot_dict_get dd.typeIs PySem.F.entry_dict_get (PySem.F.args_dict_get_3 _ _ _) (meets_dict_get_default (Jc X.prog X.w) a (Qdz ry) hd r) ⟨_,dd.mapOf,h _ _ (I.tok _) ?_⟩
  rw [l]
  exact (rel.val k).getD rd
 ·subst ey
  cases (show u=Value.ref b from ry)
  obtain ⟨z,hd,xs,rel,dd⟩:=Qca I.hok e
  refine call_meetsIn PySem.F.slot_dict_get dd.typeIs PySem.F.entry_dict_get (PySem.F.args_dict_get_3 _ _ _) (meetsH_dict_get_default (tupleKind (Jc X.prog X.w)) a b hd r) ⟨tupleKind_room_in1 hu,k,xs,Xd I.hok eb,dd,h _ _ (I.tok _) ?_⟩
  rw [l]
  exact (rel.val k).getD rd
end
def Qk3 (td ty tx:TE):TE:=λσ H Q=>td σ H λx H1=>∃a,x=.ref a/\IsD H1 a/\ty σ H1 λy H2=>tx σ H2 λz H3=>∃o,DGet H3 a y o/\Q (o.getD z) H3
section
variable {o f:Expr} {td ty tx:TE}
theorem Qg9 (hu:X.A.units+1<cLine) (ho:PE X o td) (he:PE X e ty) (hf:PE X f tx) (m:M2 X o "get" apos e f cpos):PE X (.Call (.Attribute o "get" apos) [e,f] [] cpos) (Qk3 td ty tx):=by
 intro pins s σ H Q I h
 refine wpAny_Call_method m.base m.few m.line PySem.F.plainAttrs_dict PySem.F.slot_dict_get PySem.F.type_dict_get (thn (ho pins s σ H _ I h) λu s1 ⟨x,H1,I1,rx,a,ex,d,q1⟩=>?_)
 subst ex
 obtain rfl:u=Value.ref a:=rx
 obtain ⟨t1,t2,_⟩:=Qm1 I1 d
 refine ⟨t1,t2,?_⟩
 rw [m.trees]
 refine Calls.callWith_builtin rfl (Calls.evalArgs_plain (Calls.spliced_cons (thn (he pins s1 σ H1 _ I1 q1) λiv s2 ⟨y,H2,I2,ry,q2⟩ =>
  Calls.spliced_cons (thn (hf pins s2 σ H2 _ I2 q2) λfv s3 ⟨z,H3,I3,rz,ov,g,q3⟩=>Calls.spliced_nil ?_))))
 exact Qnc hu I3 g ry rz λw' s4 I4 rw'=>⟨_,H3,I4,rw',q3⟩
end
end L2
variable {q:PySem.Program} {loose:List PySem.Str} {XP:(PySem.Str->Option PySem.Value)->PySem.Heap->Prop} {YP:PySem.World->PySem.Heap->Prop}
namespace Att
open PySem PySem.W PySem.Calls PyProof.Rows
theorem Ge {P:Params}:∀(ns:List Int) (vs:List Value),WellAll P h vs (ns.map WData.int)->IntsAre vs ns:=by
 intro ns
 induction ns with
 | nil =>
  intro vs w
  rw [List.map_nil] at w
  cases w
  exact .nil
 | cons n ns ih =>
  intro vs w
  rw [List.map_cons] at w
  cases w with
  | cons a b =>
   cases a
   exact .cons _ _ (ih _ b)
theorem Qeq {l:OpenLaw} (hn:l.most=some n) {P:Params} {args:List WData} {vals:List Value}
  (hpre:l.row.toRowW.claim.pre args=true) (hwl:WellAll P h vals args) :
  ∃a vs ns,vals=[Value.ref a]/\args=[WData.list (ns.map WData.int)]/\h.get? a=some { cls:=.type "list",data:=.seq vs.toArray }/\IntsAre vs ns/\ns.length<=n:=by
 have hsh:WShape.hasAll [] args [.list .int]=true:=(pre_splitW hpre).1
 have hc:l.pre.holds [] { args:=args }=true:=(pre_splitW hpre).2
 obtain ⟨d,r,rfl,h1,h2⟩:=hasAllW_cons hsh
 obtain rfl:=hasAllW_nil h2
 obtain ⟨xs,rfl,h3⟩:=hasW_list h1
 obtain ⟨ns,rfl⟩:=items_int h3
 have hlen:ns.length<=n:=by
  unfold OpenLaw.pre at hc
  have h4:(WTm.not (.lt (.lit (.int (n:Int))) (.len (.arg 0)))).holds [] { args:=[.list (ns.map .int)] }=true:=by
   have h4:=(holds_andW hc).1
   rw [hn] at h4
   exact h4
  have h5:=condW_of h4 (w_not (w_lt w_lit (w_len_list (w_arg rfl))))
  rw [List.length_map] at h5
  refine Nat.le_of_not_lt λq=>?_
  have q':(n:Int)<((ns.length:Nat):Int):=by omega
  first
   | (rw [decide_eq_true q'] at h5;exact absurd h5 (by decide))
   | (simp at h5;omega)
 cases hwl with
 | cons w1 w2 =>
  cases w2
  cases w1 with
  | list ho hall=>exact ⟨_,_,ns,rfl,rfl,ho,Ge ns _ hall,hlen⟩
theorem Qex (l:OpenLaw) (args:List WData):l.row.toRowW.claim.post args (.bool true) args=true :=
 postW_of (r:=l.row.toRowW) (X:=(true == true))
  (show WShape.has [] (.bool true) .bool=true by first | rfl | decide | simp [WShape.has,WShape.arms,WShape.armsAll])
  (show (WTm.eq .res (.lit (.bool true))).value [] { args:=args,res:=some (.bool true),after:=args }=some (.bool (true == true)) from w_eq_bool (w_res rfl) w_lit) rfl
theorem Qcg {l:OpenLaw} {d:DefRec}
  (hn:l.most=some n) (hdf:d.params.defaults=[])
  (call:∀(w:World) (s₀ s₁:Shared) (mg mb:Str->Option Value) (fa:Addr) (o:Obj) (pm cd doc:Value) (a:Addr) (vs:List Value) (ns:List Int),
   Ground q loose [] XP w s₀ mg mb s₁.heap->YP w s₁.heap ->
   s₁.heap.get? fa=some o->o.data=.func (docDef d.name d.params d.body d.scope pm cd doc)->s₁.heap.CodeRec cd d.name->mg d.name=some (.ref fa) ->
   s₁.heap.get? a=some { cls:=.type "list",data:=.seq vs.toArray }->IntsAre vs ns->ns.length<=n->s₁.gens = #[] ->
   codeAny (model l.prog w) callerA (.call (.ref fa) ⟨[.ref a],[]⟩) (λr s'=>r=.ok (.ret (.bool true))/\OldK s₁.heap s'.heap/\s'.os=s₁.os/\AllBare s'.gens) s₁) :
  WalkO q loose XP YP l.row.toRowW d [] (λf vs=>PySem.call f vs):=by
 intro w s₀ s₁ mg mb G Y fa o pm cd doc dV kV ho hd hcd hD hmg hg args vals as hpre hlay hrd hwl hlo
 obtain rfl:dV=.none:=Dflts.none hD hdf
 obtain rfl:kV=.none:=Dflts.noKw hD
 obtain ⟨a,vs,ns,rfl,rfl,hobj,hints,hlen⟩:=Qeq hn hpre hwl
 refine enter_call (codeAny_mono (call w s₀ s₁ mg mb fa o pm cd doc a vs ns G Y ho (fd_plain hd) hcd hmg hobj hints hlen hg) λr s' hq=>?_)
 obtain ⟨rfl,h2,h3,h4⟩:=hq
 exact ⟨.inl ⟨.bool true,.bool true,[],rfl,λ_=>rfl,.bool true,Qex l _,λ_=>⟨List.Pairwise.nil,λ_ hm=>(nomatch hm)⟩⟩,h2,h3,h4⟩
end Att
variable {o:L2.HO} {k:Nat} {ta:L2.TA} {env:PySem.Env} {tt:L2.TT} {cl:List (PySem.Str × PySem.Addr)} {elt:PySem.Expr} {ifs:List PySem.Expr} {ts:List PySem.Str} {gt:L2.TG} {ix:List Nat} {J:L2.It} {tn:Nat->PySem.Heap->Prop} {RR:PySem.Value->PySem.Addr->PySem.Result->PySem.Shared->Prop} {G:List L2.V->L2.Hp->Prop} {px py spos:PySem.Pos}
namespace L2
open PySem PySem.Spec PyProof.Rows
theorem Qah:∀{vs:List Value} {ns:List Int},IntsAre vs ns->Vals (ns.map V.int) vs
 | _,_,.nil=>.nil
 | _,_,.cons n t h=>.cons ⟨t,rfl⟩ (Qah h)
def Only (H:Hp):Prop:=∀b,H b=none\/∃o xs,H b=some (.frz o (.lst xs))
def Jm (s:Stmt):Arguments:=match s with
 | .FunctionDef _ a _ _ _ _ _ _ _ _=>a
 | _=>{ posonlyargs:=[],args:=[],vararg:=none,kwonlyargs:=[],kw_defaults:=[],kwarg:=none,defaults:=[] }
def Qr (s:Stmt):List Stmt:=match s with
 | .FunctionDef _ _ b _ _ _ _ _ _ _=>b
 | _=>[]
def Qb (s:Stmt):Scope:=match s with
 | .FunctionDef _ _ _ _ _ _ sc _ _ _=>sc
 | _=>{ kind:=.function,names:=[],isGenerator:=false,isCoroutine:=false }
abbrev CX0:CXT:=λ_ _ _ _ _ _=>False
abbrev E0:XK:=λ_ _ _=>False
theorem Ql2:Qgn CX0 X E0:=λ_ _ _ _ _ _ _ h=>h.elim
structure Fun (K:PySem.W.Frag) (x qual:Str) (st:Stmt) (f:Addr) (fd:FuncData):Prop where
 ex:∃(oc:Value) (od:Option Addr) (kV doc pm:Value) (an:Option Addr) (cdv ct:Value) (osl:Array (Option Value)),
  fd=PySem.W.fnOf x qual (Jm st) (Qr st) (Qb st) .none kV doc pm an cdv ct/\K.lookup f=some ⟨oc,od,.func fd,osl⟩/\PySem.W.codeIn K cdv qual=true
 kp:PySem.W.keepIn K (.ref f)=true
theorem Fun.ok (F:Fun K x qual st f fd) (S:FnScope N ps (Qb st)) (len:∀vs H Q E,sp vs H Q E->vs.length=ps.length)
  (hbody:∀(cdv:Value) (A:Around) (outer:List Env) (s:Shared) (H:Hp) (vs:List V) (Q:VK) (E:XK),Room k (A.deeper (envOfC qual (Qb st) s.heap.objs.size f cdv))->sp vs H Q E ->
   ∃t,PSs (cxOf CX0 P w K mg base N qual (Qb st) f cdv A outer s H E).nox (Qr st) t/\t { nx:=λ_ H'=>Q .non H',rt:=Q } (start N vs) H):FnOk P w K mg base CX0 (k+1) f fd ps sp:=by
 obtain ⟨oc,od,kV,doc,pm,an,cdv,ct,osl,rfl,lk,hcd⟩:=F.ex
 refine Qm4 lk hcd S len λA outer s H vs Q E hr hsp=>?_
 obtain ⟨t,h,q⟩:=hbody cdv A outer s H vs Q E hr hsp
 exact ⟨t,h.nox,q⟩
theorem Fun.binds (F:Fun K x qual st f fd)
  (h:∀(kV doc pm:Value) (an:Option Addr) (cdv ct:Value) (us:List Value),us.length=ps.length->bindArgs (PySem.W.fnOf x qual (Jm st) (Qr st) (Qb st) .none kV doc pm an cdv ct) ⟨us,[]⟩=pure (ps.zip us)):Qbq K fd ps []:=by
 obtain ⟨oc,od,kV,doc,pm,an,cdv,ct,osl,rfl,lk,hcd⟩:=F.ex
 exact .all (h kV doc pm an cdv ct)
theorem Zd {oc:Value} {od an:Option Addr} {kV doc pm cdv ct:Value} (l:K.lookup f=some ⟨oc,od,.func (PySem.W.fnOf x qual (Jm st) (Qr st) (Qb st) .none kV doc pm an cdv ct),osl⟩)
  (c:PySem.W.codeIn K cdv qual=true) (k:PySem.W.keepIn K (.ref f)=true):Fun K x qual st f (PySem.W.fnOf x qual (Jm st) (Qr st) (Qb st) .none kV doc pm an cdv ct):=⟨⟨oc,od,kV,doc,pm,an,cdv,ct,osl,rfl,l,c⟩,k⟩
theorem J6 (hr:Room k A):A.units+1<cLine:=Nat.lt_of_le_of_lt (Nat.add_le_add_left (by decide:1<=64) _) hr.units
theorem Qgg:Y4 X (.builtin "len") (λxs H Q=>∃a kvs,xs=[V.ref a]/\H a=some (.dK kvs)/\Q (.int kvs.length) H):=by
 intro pins s σ H xs us Q I r h
 obtain ⟨a,kvs,rfl,ha,q⟩:=h
 obtain ⟨u,rfl,ru⟩:=Xm r
 cases ru
 exact Qoo I (.inl ha) λt s' I'=>⟨.int kvs.length,H,I',⟨t,rfl⟩,q⟩
def Same (H H':Hp):Prop:=∀b o,H b=some o->H' b=some o
theorem Same.refl (H:Hp):Same H H:=λ_ _ h=>h
theorem Same.trans (a:Same H H1) (b:Same H1 H2):Same H H2:=λc o h=>b c o (a c o h)
theorem Same.free (e:Same H H') (h:H' l=Option.none):H l=Option.none:=by
 cases q:H l with
 | none=>rfl
 | some o =>
  rw [e l o q] at h
  cases h
theorem Vk {env:Env}:∀(names:List (Str × NameKind)) (acc:List (Str × Addr)),
  (∀x∈names,x.2=.free->∃c,env.cells.lookup x.1=some c)->(∀y c,acc.lookup y=some c->env.cells.lookup y=some c) ->
  ∃cl:List (Str × Addr),(forIn names acc (λ(x:Str × NameKind) (cs:List (Str × Addr)) =>
    if (x.2 == NameKind.free)=true then do
     let c ← cellOf env x.1
     pure (ForInStep.yield ((x.1,c)::cs))
    else pure (ForInStep.yield cs)):Sem (List (Str × Addr)))=pure cl /\
   (∀y c,cl.lookup y=some c->env.cells.lookup y=some c)/\(∀y,(acc.lookup y).isSome=true->(cl.lookup y).isSome=true) /\
   ∀x∈names,x.2=.free->(cl.lookup x.1).isSome=true
 | [],acc,_,ha=>⟨acc,by rw [List.forIn_nil],ha,λ_ h=>h,λ_ h=>nomatch h⟩
 | (n,k)::r,acc,hn,ha=>by
  rw [List.forIn_cons]
  by_cases hk:k=.free
  ·subst hk
   obtain ⟨c,hc⟩:=hn (n,.free) List.mem_cons_self rfl
   have hc':env.cells.lookup n=some c:=hc
   obtain ⟨cl,e,h1,h2,h3⟩:=Vk r ((n,c)::acc) (λx hx=>hn x (List.mem_cons_of_mem _ hx)) (λy c' h=>by
    rw [List.lookup_cons] at h
    cases q:y == n with
    | true=>rw [q] at h;cases h;rw [beq_iff_eq.mp q];exact hc'
    | false=>rw [q] at h;exact ha y c' h)
   refine ⟨cl,?_,h1,λy hy=>h2 y ?_,λx hx hf=>?_⟩
   ·have e0:cellOf env n=pure c:=by unfold cellOf;rw [hc']
    show ((if ((NameKind.free == NameKind.free)=true) then (cellOf env n >>= λc=>pure (ForInStep.yield ((n,c)::acc))) else pure (ForInStep.yield acc)) >>= _)=_
    rw [if_pos (by decide),e0]
    exact e
   ·rw [List.lookup_cons]
    cases q:y == n with
    | true=>rfl
    | false=>exact hy
   ·rcases List.mem_cons.mp hx with rfl | hx
    ·exact h2 n (by simp [List.lookup_cons])
    ·exact h3 x hx hf
  ·obtain ⟨cl,e,h1,h2,h3⟩:=Vk r acc (λx hx=>hn x (List.mem_cons_of_mem _ hx)) ha
   refine ⟨cl,?_,h1,h2,λx hx hf=>?_⟩
   ·show ((if ((k == NameKind.free)=true) then (cellOf env n >>= λc=>pure (ForInStep.yield ((n,c)::acc))) else pure (ForInStep.yield acc)) >>= _)=_
    rw [if_neg (by simpa using hk)]
    exact e
   ·rcases List.mem_cons.mp hx with rfl | hx
    ·exact absurd hf hk
    ·exact h3 x hx hf
theorem Vl (h:∀x∈scope.names,x.2=.free->∃c,env.cells.lookup x.1=some c) :
  ∃cl,closureFor scope env=pure cl/\(∀y c,cl.lookup y=some c->env.cells.lookup y=some c)/\∀x∈scope.names,x.2=.free->∃c,cl.lookup x.1=some c:=by
 obtain ⟨cl,e,h1,_,h3⟩:=Vk scope.names [] h (λy c q=>by simp at q)
 refine ⟨cl,?_,h1,λx hx hf=>Option.isSome_iff_exists.mp (h3 x hx hf)⟩
 simp only [closureFor]
 show (forIn scope.names [] _ >>= λr=>pure r)=_
 rw [e]
 rfl
theorem Yo {env:Env} {x:Str}:∀{names:List (Str × NameKind)},names.lookup x=some .free ->
  (names.map λ(n,k)=>if (k == NameKind.free && env.scope.kind == .function && env.kindOf n == some .cell) then (n,NameKind.cell) else (n,k)).lookup x=some .cell \/
  (names.map λ(n,k)=>if (k == NameKind.free && env.scope.kind == .function && env.kindOf n == some .cell) then (n,NameKind.cell) else (n,k)).lookup x=some .free
 | [],h=>by simp at h
 | (n,k)::r,h=>by
  have ih:=@Yo env x r
  show List.lookup x ((if (k == NameKind.free && env.scope.kind == .function && env.kindOf n == some .cell)=true then (n,NameKind.cell) else (n,k))::_)=_\/List.lookup x ((if (k == NameKind.free && env.scope.kind == .function && env.kindOf n == some .cell)=true then (n,NameKind.cell) else (n,k))::_)=_
  cases hx:x == n with
  | true =>
   simp only [List.lookup_cons,hx] at h
   cases h
   by_cases hc:(NameKind.free == NameKind.free && env.scope.kind == .function && env.kindOf n == some .cell)=true
   ·rw [if_pos hc];left;simp only [List.lookup_cons,hx]
   ·rw [if_neg hc];right;simp only [List.lookup_cons,hx]
  | false =>
   simp only [List.lookup_cons,hx] at h
   by_cases hc:(k == NameKind.free && env.scope.kind == .function && env.kindOf n == some .cell)=true
   ·rw [if_pos hc];simp only [List.lookup_cons,hx];exact ih h
   ·rw [if_neg hc];simp only [List.lookup_cons,hx];exact ih h
theorem Yv {env:Env} {x:Str} {q:NameKind}:∀{names:List (Str × NameKind)},(∀y∈names,y.2 ≠ .cell)->q=.cell\/q=.free ->
  (names.map λ(n,k)=>if (k == NameKind.free && env.scope.kind == .function && env.kindOf n == some .cell) then (n,NameKind.cell) else (n,k)).lookup x=some q->(x,NameKind.free)∈names
 | [],_,_,h=>by simp at h
 | (n,k)::r,hn,hq,h=>by
  have h:List.lookup x ((if (k == NameKind.free && env.scope.kind == .function && env.kindOf n == some .cell)=true then (n,NameKind.cell) else (n,k))::(r.map λ(n,k)=>if (k == NameKind.free && env.scope.kind == .function && env.kindOf n == some .cell) then (n,NameKind.cell) else (n,k)))=some q:=h
  by_cases hc:(k == NameKind.free && env.scope.kind == .function && env.kindOf n == some .cell)=true
  ·rw [if_pos hc] at h
   cases hx:x == n with
   | true =>
    have hk:k=.free:=by
     cases k <;> first | rfl | (simp at hc)
    rw [beq_iff_eq.mp hx,hk]
    exact List.mem_cons_self
   | false =>
    simp only [List.lookup_cons,hx] at h
    exact List.mem_cons_of_mem _ (Yv (λy hy=>hn y (List.mem_cons_of_mem _ hy)) hq h)
  ·rw [if_neg hc] at h
   cases hx:x == n with
   | true =>
    simp only [List.lookup_cons,hx] at h
    have hk:k=q:=Option.some.inj h
    have hk2:k=.free:=by
     rcases hq with rfl | rfl
     ·exact absurd hk (hn (n,k) List.mem_cons_self)
     ·exact hk
    rw [beq_iff_eq.mp hx,hk2]
    exact List.mem_cons_self
   | false =>
    simp only [List.lookup_cons,hx] at h
    exact List.mem_cons_of_mem _ (Yv (λy hy=>hn y (List.mem_cons_of_mem _ hy)) hq h)
def Jw (X:Cx) (scope:Scope) (cl:List (Str × Addr)) (C:Addr) (N:List Str) (s₀:Shared) (H₀:Hp) (fp:List Addr):Cx :=
 { X with N:=N,s₀:=s₀,H₀:=H₀,env:=compEnvC scope cl C X.env,outer:=X.stack,stack:=X.stack,ex:=fp,fn:=λ_=>false,pn:=[],xe:=λ_ _=>False }
structure BlkScope (env:Env) (scope:Scope) (x:Str):Prop where
 kind:scope.kind=.function
 cells:∀y∈scope.names,y.2 ≠ .cell
 names:∀y∈scope.names,y.2=.local->scope.names.lookup y.1=some .local
 lx:scope.names.lookup x=some .local
 free:∀y∈scope.names,y.2=.free->env.kindOf y.1=some .cell\/env.kindOf y.1=some .free
def bN (N:List Str) (x:Str) (ix:List Nat):List Str:=x::ix.map λi=>N.getD i Str.empty
def bS (σ:St) (o:Option V) (ix:List Nat):St:=o::ix.map λi=>(σ[i]?).getD none
def PIfs (X:Cx) (ifs:List Expr) (tt:TT):Prop :=
 ∀(pins:List (Addr × Obj)) (s:Shared) (σ:St) (H:Hp) (Q:Bool->Hp->Prop),Inv X pins σ H s->tt σ H Q ->
  wpAny (model X.prog X.w) X.A (forIn ifs true λc r=>if r=true then do let ok ← isTrue c X.env (eval c X.env);pure (ForInStep.yield ok) else pure (ForInStep.yield r)) (TP X pins σ Q) X.xe s
def tAll:TT:=λ_ H Q=>Q true H
theorem Qcx:PIfs X [] tAll:=by
 intro pins s σ H Q I h
 rw [List.forIn_nil]
 exact wpAny_pure ⟨H,I,h⟩
theorem Qg5 (h:PT X c tt):PIfs X [c] tt:=by
 intro pins s σ H Q I hw
 rw [List.forIn_cons]
 refine wpAny_bind ?_
 rw [if_pos rfl]
 refine wpAny_bind (thn (h pins s σ H _ I hw) λok s1 q=>wpAny_pure ?_)
 show wpAny _ _ (forIn [] ok _) _ _ s1
 rw [List.forIn_nil]
 exact wpAny_pure q
theorem Qng (I:Inv X pins σ H s) (B:BlkScope X.env scope x)
  (h1:∀y c,cl.lookup y=some c->X.env.cells.lookup y=some c) (h3:∀y∈scope.names,y.2=.free->∃c,cl.lookup y.1=some c) (hC:s.heap.objs.size<=C) (hf:∀b∈fp,FpOk X pins H b) (hl:∀b∈fp,b<s.heap.objs.size) :
  (Jw X scope cl C N s H fp).Ok where
 mod:=I.ok.mod
 kind:=by show (relabel scope X.env).kind=_;exact B.kind
 glob:=I.ok.glob
 blt:=I.ok.blt
 above:=hC
 inj:=λy z c q r=>I.ok.inj y z c (h1 y c q) (h1 z c r)
 has:=λy hy=>by
  have hy:(relabel scope X.env).names.lookup y=some .cell\/(relabel scope X.env).names.lookup y=some .free:=hy
  have m:(y,NameKind.free)∈scope.names:=by
   rcases hy with q | q
   ·exact Yv B.cells (.inl rfl) q
   ·exact Yv B.cells (.inr rfl) q
  exact h3 _ m rfl
 cab:=λy c q=>by cases (show false=true from q)
 hd:=I.ok.hd
 frames:=I.ok.frames
 stk:=.inl rfl
 exf:=λb hb=>⟨Nat.ne_of_lt (Nat.lt_of_lt_of_le (hl b hb) hC),λy c q=>(hf b hb).2.2.2.2.1 y c (h1 y c q)⟩
 bs:=I.bs
 bsz:=Nat.le_trans I.ok.bsz I.sz
 noex:=λb o e hb=>by
  rcases (hf b hb).2.2.2.1 with z | z
  ·exact I.ok.noex b o e z
  ·exact absurd (Nat.lt_of_lt_of_le (Heap.lt_size e) (Nat.le_trans I.ok.bsz z)) (Nat.lt_irrefl _)
 exfs:=λb hb z=>by
  have z':=I.stkSub b z
  rcases List.mem_cons.mp z' with q | q
  ·exact (hf b hb).2.1 q
  ·exact (hf b hb).2.2.1 q
 funs:=I.stack
 frf:=I.stkFree
theorem HOk.add (x:HOk P w H h) (hn:H a=none) (new:Jr P w (upd H a o) h a o):HOk P w (upd H a o) h:=λb u e=>by
 by_cases hb:b=a
 ·subst hb;rw [Qg] at e;cases e;exact new
 ·rw [Qm hb] at e
  exact (x b u e).stay (λc v _ q=>q) (λc q=>by rw [Qm (Qq q hn)];exact q) (λc xs q=>by rw [Qm (Qq q hn)];exact q) λc _ _ _ q _=>by rw [Qm (Qq q hn)];exact q
theorem Un.add {fs:List Addr} (u:Un fs ex H H' h h') (hn:h.get? a=none) (hH:H a=none):Un fs ex H (upd H' a o) h h' where
 keep:=u.keep
 slot:=u.slot
 free:=λb ob e n hx=>by
  have:b≠a:=λz=>by rw [z,hn] at e;cases e
  rw [Qm this];exact u.free b ob e n hx
 there:=u.there
 tups:=λb xs e=>by rw [Qm (Qq e hH)];exact u.tups b xs e
 frzs:=λb ob w e=>by rw [Qm (Qq e hH)];exact u.frzs b ob w e
 tbls:=λb ps e=>by rw [Qm (Qq e hH)];exact u.tbls b ps e
theorem Gv {target:Expr} {it acc:Value} (I:Nat->Shared->Prop)
  (turn:∀n s,I n s->wpAny (model prog w) A (pyNext it) (λr s₁=>match r with
   | none=>R (.ok .next) s₁
   | some v=>wpAny (model prog w) A (letOwnedTupleGo target it v) (λ_ s₀=>wpAny (model prog w) A (assign target env v) (λ_ s₂ =>
     wpAny (model prog w) A (forIn ifs true λc r=>if r=true then do let ok ← isTrue c env (eval c env);pure (ForInStep.yield ok) else pure (ForInStep.yield r)) (λok s₃ =>
      if ok=true then wpAny (model prog w) A (eval elt env) (λx s₄ =>
       wpAny (model prog w) A (call (.builtin "list.append") [acc,x]) (λ_ s₅=>∃m,m<n/\I m s₅) (notedBy (model prog w) A env λe s'=>R (.error e) s') s₄) (notedBy (model prog w) A env λe s'=>R (.error e) s') s₃
      else ∃m,m<n/\I m s₃) (notedBy (model prog w) A env λe s'=>R (.error e) s') s₂) (notedBy (model prog w) A env λe s'=>R (.error e) s') s₀) (notedBy (model prog w) A env λe s'=>R (.error e) s') s₁) (notedBy (model prog w) A env λe s'=>R (.error e) s') s)
  (n:Nat) (h:I n s):codeAny (model prog w) A (.compLoop (.ListComp elt [⟨target,iter,ifs,0⟩] scope pos) 0 it acc env) R s:=by
 refine codeAny_loop rfl I (λn s hI=>?_) n h
 show wpAny _ A ((compTurn (.ListComp elt [⟨target,iter,ifs,0⟩] scope pos) 0 it acc env).onRaise (λx=>do noteFrame x env;theTreesLotGoes x)) _ _ s
 refine wpAny_noted ?_
 rw [compTurn_list]
 refine wpAny_bind (wpAny_standAt (wpAny_bind (wpAny_mono (turn n s hI) (λr s₁ h₁=>?_) λ_ _ h'=>h')))
 cases r with
 | none=>exact wpAny_pure h₁
 | some v =>
  refine wpAny_bind (wpAny_mono h₁ (λ_ s₀ h₀=>?_) λ_ _ h'=>h')
  refine wpAny_bind (wpAny_mono h₀ (λ_ s₂ h₂=>wpAny_bind (wpAny_mono h₂ (λok s₃ h₃=>?_) λ_ _ h'=>h')) λ_ _ h'=>h')
  cases ok with
  | false=>exact wpAny_pure ⟨rfl,h₃⟩
  | true =>
   exact wpAny_bind (wpAny_bind (wpAny_mono h₃ (λx s₄ h₄=>wpAny_bind (wpAny_mono h₄ (λ_ s₅ h₅=>wpAny_pure (wpAny_pure ⟨rfl,h₅⟩)) λ_ _ h'=>h')) λ_ _ h'=>h'))
def bN2 (N:List Str) (ts:List Str) (ix:List Nat):List Str:=ts++ix.map λi=>N.getD i Str.empty
def bS2 (σ:St) (o:List (Option V)) (ix:List Nat):St:=o++ix.map λi=>(σ[i]?).getD none
theorem Qgc {RR:Value->PySem.Env->Result->Shared->Prop} {Px:Hp->Shared->Value->Shared->Prop}
  (I:Inv X pins σ H s) (hc:X.calm=true) (B:BlkScope X.env scope x) (h1:∀y c,cl.lookup y=some c->X.env.cells.lookup y=some c) (h3:∀y∈scope.names,y.2=.free->∃c,cl.lookup y.1=some c)
  (hix:∀i∈ix,∃y,X.N[i]? = some y/\scope.names.lookup y=some .free) (hN:(bN2 X.N ts ix).Nodup)
  (T:Turn X.prog X.w X.K tg J fp it tn) (st:tn 0 s.heap) (hf:∀b∈fp,FpOk X pins H b)
  (hg:∀cl C s₀ H₀ fp,PG (Jw X scope cl C (bN2 X.N ts ix) s₀ H₀ fp) tg gt)
  (he:∀cl C s₀ H₀ fp xe,(∀pins σ' H s e s',Inv (Jw X scope cl C (bN2 X.N ts ix) s₀ H₀ fp) pins σ' H s->Px H s e s'->xe e s')->PE ((Jw X scope cl C (bN2 X.N ts ix) s₀ H₀ fp).wish xe) elt te)
  (hi:∀cl C s₀ H₀ fp,PIfs (Jw X scope cl C (bN2 X.N ts ix) s₀ H₀ fp) ifs tt)
  (W:Nat->Nat->List V->Hp->Prop) (m₀:Nat) (w0:W 0 m₀ [] H)
  (turn:∀i m ys H,W i m ys H->(J.stop i H/\ys.length<=sizeLine/\G ys H)\/(J.go i H/\ys.length<sizeLine/\∀v H',J.yld i H v H'->∀o:List (Option V),o.length=ts.length->gt v (bS2 σ o ix) H' λσ2 H2=>∃o2:List (Option V),σ2=bS2 σ o2 ix/\o2.length=ts.length /\
    tt σ2 H2 λb H1=>if b=true then te σ2 H1 λy H2=>∃m',m' < m/\W (i+1) m' (ys++[y]) H2 else ∃m',m' < m/\W (i+1) m' ys H1))
  (hRR:∀D C cenv s' ys H',cenv.locals=C->Inv X pins σ (upd H' D (.lst ys)) s'->H' D=none->H' C=none->(∃m,s'.heap.Ns C m)->s.heap.objs.size<=C->D≠C->G ys H'->RR (.ref D) cenv (.ok .next) s')
  (hXX:∀D C cenv s' H' e s'',cenv.locals=C->cenv.frame=X.env.frame->Inv X pins σ H' s'->H' C=none->(∃m,s'.heap.Ns C m)->s.heap.objs.size<=C->C∉frs X.stack->Px H' s' e s''->notedBy (model X.prog X.w) X.A (compEnvC scope cl C X.env) (λe s'=>RR (.ref D) cenv (.error e) s') e s'') :
  wpAny (model X.prog X.w) X.A (newList []) (λacc s₃=>wpAny (model X.prog X.w) X.A (newFunctionEnv scope X.env.globals cl [] X.env.qual none .none (some X.env)) (λcenv s₄ =>
   codeAny (model X.prog X.w) X.A (.compStart (.ListComp elt [⟨tg,iter,ifs,0⟩] scope pos) 0 (.ref it) acc { cenv with scope:=relabel scope X.env }) (RR acc { cenv with scope:=relabel scope X.env }) s₄) E s₃) E s:=by
 have hl:∀b∈fp,b<s.heap.objs.size:=λb hb=>by obtain ⟨o,e,_⟩:=T.obj 0 _ st b hb;exact Heap.lt_size e
 refine wpAny_newObj_type (wpAny_newFunctionEnv B.cells (by intro y hy;simp at hy) (λh₁ hns₁ hsb₁=>?_) B.kind)
 dsimp only at hns₁ hsb₁ ⊢
 generalize hH2:s.heap.push { cls:=.type "list",dict:=none,data:=.seq ([]:List Value).toArray }=H2 at hns₁ hsb₁ ⊢
 have hC:H2.objs.size=s.heap.objs.size+1:=by rw [← hH2,Heap.size_push]
 generalize hD:s.heap.objs.size=D at hC hl hRR hXX ⊢
 generalize hCC:H2.objs.size=C at hC hns₁ hsb₁ ⊢
 have hDC:D≠C:=by omega
 have old:∀b o,s.heap.get? b=some o->h₁.get? b=some o:=λb o e=>hsb₁.extBut b o (Nat.ne_of_lt (by have z:=Heap.lt_size e;rw [hD] at z;exact Nat.lt_of_lt_of_le z (by rw [hC];exact Nat.le_succ _))) (Heap.get?_push_of_some _ (hH2 ▸ Heap.get?_push_of_some _ e))
 have hacc:h₁.get? D=some { cls:=.type "list",data:=.seq ([]:List Value).toArray 0 }:=hsb₁.extBut _ _ hDC (Heap.get?_push_of_some _ (hH2 ▸ (by rw [← hD];exact Heap.get?_push_size _ rfl)))
 have hfr:∀a,D<=a->s.heap.get? a=none:=λa ha=>by
  cases e:s.heap.get? a with
  | none=>rfl
  | some o=>exact absurd (Heap.lt_size e) (by rw [hD];exact Nat.not_lt.mpr ha)
 have hHn:∀a,D<=a->H a=none:=λa ha=>I.hok.fresh (by omega)
 have ok:(Jw X scope cl C (bN2 X.N ts ix) s H fp).Ok:=Qng I B h1 h3 (by omega) hf (by rw [hD];exact hl)
 generalize hK:Jw X scope cl C (bN2 X.N ts ix) s H fp=K at ok
 have kp:K.prog=X.prog:=by rw [← hK];rfl
 have kw:K.w=X.w:=by rw [← hK];rfl
 have kK:K.K=X.K:=by rw [← hK];rfl
 have kA:K.A=X.A:=by rw [← hK];rfl
 have kc:K.calm=true:=by rw [← hK];exact hc
 have kN:K.N=bN2 X.N ts ix:=by rw [← hK];rfl
 have kenv:K.env=compEnvC scope cl C X.env:=by rw [← hK];rfl
 have kloc:K.env.locals=C:=by rw [← hK];rfl
 have kfs:K.fs=frs X.stack:=by rw [← hK];rfl
 have kex:K.ex=fp:=by rw [← hK];rfl
 have kpn:K.pn=[]:=by rw [← hK];rfl
 have ks:K.s₀=s:=by rw [← hK];rfl
 have kH:K.H₀=H:=by rw [← hK];rfl
 have kx:K.xe=λ_ _=>False:=by rw [← hK];rfl
 have kcl:K.env.cells=cl:=by rw [← hK];rfl
 have cellLt:∀y c,cl.lookup y=some c->c<D:=λy c q=>by obtain ⟨v,z⟩:=I.cell y c (h1 y c q);rw [← hD];exact z.lt
 have stkLt:∀b∈frs X.stack,b<D:=λb hb=>by
  rcases List.mem_cons.mp (I.stkSub b hb) with q | q
  ·rw [q,← hD];exact I.lt
  ·rcases Nat.lt_or_ge b D with z | z
   ·exact z
   ·exact absurd q (I.nofs (by omega))
 -- the state at the block's begin
 have I0:∀tk,Inv K [(D,{ cls:=.type "list",data:=.seq ([]:List Value).toArray 0 })] (bS2 σ (ts.map λ_=>none) ix) H { s with heap:=h₁,toks:=tk }:=λtk=>by
  refine ⟨ok,by rw [ks],I.bare,by rw [ks,kH];exact Un.kept old,?_,?_,?_,?_,?_,by rw [kp,kw];exact I.hok.kept old,?_⟩
  ·refine ⟨_,by rw [kloc];exact hns₁,λi y v e1 e2 e3=>?_⟩
   rw [kN] at e1
   by_cases hlt:i<ts.length
   ·unfold bS2 at e2
    rw [List.getElem?_append_left (by simpa using hlt),List.getElem?_map] at e2
    cases hts:ts[i]? with
    | none=>rw [hts] at e2;cases e2
    | some y'=>rw [hts] at e2;have e2:(some (none:Option V))=some (some v):=e2;cases e2
   ·obtain ⟨i,rfl⟩:∃i',i=ts.length+i':=⟨i-ts.length,by omega⟩
    have e1':(ix.map λi=>X.N.getD i Str.empty)[i]? = some y:=by
     unfold bN2 at e1
     rw [List.getElem?_append_right (by omega),show ts.length+i-ts.length=i by omega] at e1
     exact e1
    have e2':(ix.map λi=>(σ[i]?).getD none)[i]? = some (some v):=by
     unfold bS2 at e2
     rw [List.getElem?_append_right (by rw [List.length_map];omega),List.length_map,show ts.length+i-ts.length=i by omega] at e2
     exact e2
    rw [List.getElem?_map] at e1' e2'
    cases q:ix[i]? with
    | none=>rw [q] at e1';cases e1'
    | some j =>
     rw [q] at e1' e2'
     obtain ⟨y',a1,a2⟩:=hix j (List.mem_of_getElem? q)
     have a3:X.N.getD j Str.empty=y':=by simp [List.getD,a1]
     have ey:y'=y:=by rw [← a3];exact Option.some.inj e1'
     subst ey
     have es:σ[j]? = some (some v):=by
      have z:(σ[j]?).getD none=some v:=Option.some.inj e2'
      cases w:σ[j]? with
      | none=>rw [w] at z;cases z
      | some o=>rw [w] at z;have z':o=some v:=z;rw [z']
     obtain ⟨m,hn,hlk⟩:=I.loc
     have hk:=B.free (y',.free) (PySem.mem_of_lookup a2) rfl
     have hk:X.env.kindOf y'=some .cell\/X.env.kindOf y'=some .free:=hk
     have vis:Vis X.env.scope y':=hk.elim (λz=>.inr (.inl z)) λz=>.inr (.inr z)
     obtain ⟨u,ru,lk⟩:=hlk j y' v a1 es vis
     refine ⟨u,ru,?_⟩
     rcases lk with ⟨k,_⟩ | ⟨_,c,ec,ce⟩
     ·rcases hk with z | z <;> (rw [k] at z;cases z)
     ·obtain ⟨c',ec'⟩:=h3 (y',.free) (PySem.mem_of_lookup a2) rfl
      have ec':cl.lookup y'=some c':=ec'
      have:c'=c:=Option.some.inj ((h1 y' c' ec').symm.trans ec)
      subst this
      refine .inr ⟨?_,c',by rw [kcl];exact ec',?_⟩
      ·show K.env.scope.names.lookup y'=_\/K.env.scope.names.lookup y'=_
       rw [kenv]
       exact Yo a2
      ·obtain ⟨oc,hoc,r⟩:=ce
       exact ⟨oc,old _ _ hoc,r⟩
  ·intro y c q
   rw [kcl] at q
   obtain ⟨v,oc,hoc,r⟩:=I.cell y c (h1 y c q)
   exact ⟨v,oc,old _ _ hoc,r⟩
  ·rw [kloc];exact hHn _ (by omega)
  ·intro y c q
   rw [kcl] at q
   exact I.freeC y c (h1 y c q)
  ·intro p hp
   rw [kpn] at hp
   have e:p=(D,{ cls:=.type "list",data:=.seq ([]:List Value).toArray 0 }):=by simpa using hp
   subst e
   refine ⟨hacc,hHn _ (Nat.le_refl _),by rw [kloc];exact hDC,?_,λv z=>?_⟩
   ·rw [kfs];intro z;exact absurd (stkLt D z) (Nat.lt_irrefl _)
   ·have z':Data.seq _ _=Data.cell v:=z
    cases z'
  ·rw [kN];simp [bS2,bN2]
 have stat:∀{H':Hp} {ob:Obj},(∀b∈fp,H' b=none)->∀b∈fp,FpOk K [(D,ob)] H' b:=λ{H' ob} hn b hb=>by
  refine ⟨hn b hb,?_,?_,.inl (by rw [kex];exact hb),?_,?_⟩
  ·rw [kloc];exact Nat.ne_of_lt (Nat.lt_of_lt_of_le (hl b hb) (by rw [hC];exact Nat.le_succ _))
  ·rw [kfs];intro z
   rcases List.mem_cons.mp (I.stkSub b z) with q | q
   ·exact (hf b hb).2.1 q
   ·exact (hf b hb).2.2.1 q
  ·intro y c q;rw [kcl] at q;exact (hf b hb).2.2.2.2.1 y c (h1 y c q)
  ·intro p hp;rw [kpn] at hp
   have e:p=(D,ob):=by simpa using hp
   subst e
   exact Nat.ne_of_gt (hl b hb)
 have st₁:tn 0 h₁:=T.keep _ _ _ st λb hb o e=>old b o e
 have loop:∀tk,codeAny (model X.prog X.w) X.A (.compLoop (.ListComp elt [⟨tg,iter,ifs,0⟩] scope pos) 0 (.ref it) (.ref D) (compEnvC scope cl C X.env)) (RR (.ref D) (compEnvC scope cl C X.env)) { s with heap:=h₁,toks:=tk }:=by
  intro tk
  refine Gv (λn s'=>∃i o H' ys its c,o.length=ts.length/\Inv K [(D,{ cls:=.type "list",data:=.seq (its:List Value).toArray c })] (bS2 σ o ix) H' s'/\Vals ys its/\tn i s'.heap/\(∀b∈fp,H' b=none)/\W i n ys H') ?_ m₀
   ⟨0,ts.map (λ_=>none),H,[],[],0,by simp,I0 tk,.nil,st₁,λb hb=>(hf b hb).1,w0⟩
  rintro n s1 ⟨i,o,H1,ys,its,c,ol,I1,rv,t1,f1,w1⟩
  rcases turn i n ys H1 w1 with ⟨stop,hz,g⟩ | ⟨go,hz,step⟩
  ·have dn:=T.done K kp kw kK kc i _ s1 _ H1 (notedBy (model X.prog X.w) X.A (compEnvC scope cl C X.env) λe s'=>RR (.ref D) (compEnvC scope cl C X.env) (.error e) s') I1 (stat f1) t1 stop
   rw [kA] at dn
   refine thn dn λr s2 ⟨hr,I2⟩=>?_
   subst hr
   obtain ⟨p1,p2,p3,p4,p5⟩:=I2.pin (D,{ cls:=.type "list",data:=.seq its.toArray c }) (List.mem_append_right _ (List.mem_singleton.mpr rfl))
   have u2:=I2.base
   rw [kfs,kex,kH,ks] at u2
   refine hRR D C (compEnvC scope cl C X.env) s2 ys H1 rfl ?_ p2 (by rw [← kloc];exact I2.free) (by obtain ⟨m,hm,_⟩:=I2.loc;rw [kloc] at hm;exact ⟨m,hm⟩) (by omega) hDC g
   have hk2:HOk X.prog X.w H1 s2.heap:=by have:=I2.hok;rw [kp,kw] at this;exact this
   refine I.call' (ch:=fp) (by have:=I2.os;rw [ks] at this;exact this) (u2.add (hfr D (Nat.le_refl _)) (hHn D (Nat.le_refl _))) (hk2.add p2 ⟨hz,its,c,rv,p1⟩) I2.bare λb hb=>?_
   exact ⟨(hf b hb).2.2.2.1,(hf b hb).2.1,(hf b hb).2.2.2.2.1,(hf b hb).2.2.2.2.2⟩
  ·have im:=T.item K kp kw kK kc i _ s1 _ H1 (notedBy (model X.prog X.w) X.A (compEnvC scope cl C X.env) λe s'=>RR (.ref D) (compEnvC scope cl C X.env) (.error e) s') I1 (stat f1) t1 go
   rw [kA] at im
   refine thn im λr s2 ⟨u,hr,h2⟩=>?_
   subst hr
   refine thn h2 λ_ s3 ⟨v,H3,I3,r3,y3,t3,f3⟩=>?_
   have q3:=step v H3 y3 o ol
   have I3':=I3.pinned (stat f3) (T.obj _ _ t3)
   have hg':=hg cl C s H fp
   rw [hK] at hg'
   have hgv:=hg' _ s3 _ H3 v u _ I3' r3 q3
   rw [kx,kp,kw,kA,kenv] at hgv
   refine wpAny_mono hgv (λ_ s4 ⟨σ4,H4,I4,o4,e4,l4,q4⟩=>?_) λ_ _ z=>z.elim
   subst e4
   have hi':=hi cl C s H fp
   rw [hK] at hi'
   have hiv:=hi' _ s4 _ H4 _ I4 q4
   rw [kx,kp,kw,kA,kenv] at hiv
   refine wpAny_mono hiv (λok s5 ⟨H5,I5,q5⟩=>?_) λ_ _ z=>z.elim
   have back:∀{H7:Hp} {s7:Shared} {o7:List (Option V)},Inv K ([(D,{ cls:=.type "list",data:=.seq its.toArray c })]++Qat fp s3.heap) (bS2 σ o7 ix) H7 s7->tn (i+1) s7.heap/\∀b∈fp,H7 b=none:=λ{H7 s7 o7} I7=>by
    refine ⟨T.keep _ _ _ t3 λb hb o e=>(I7.pin (b,o) (List.mem_append_right _ (List.mem_append_right _ (Zy hb e)))).1,λb hb=>?_⟩
    obtain ⟨ob,e,d⟩:=T.obj _ _ t3 b hb
    exact (I7.pin (b,ob) (List.mem_append_right _ (List.mem_append_right _ (Zy hb e)))).2.1
   cases ok with
   | false =>
    rw [if_neg Bool.false_ne_true]
    have q5:∃m',m' < n/\W (i+1) m' ys H5:=q5
    obtain ⟨m',hm,w5⟩:=q5
    obtain ⟨b1,b2⟩:=back I5
    exact ⟨m',hm,i+1,o4,H5,ys,its,c,l4,I5.unpinned,rv,b1,b2,w5⟩
   | true =>
    rw [if_pos rfl]
    have q5:te (bS2 σ o4 ix) H5 λy H2=>∃m',m' < n/\W (i+1) m' (ys++[y]) H2:=q5
    have hxe:∀pins' σ' H5 s5 e s',Inv K pins' σ' H5 s5->Px H5 s5 e s'->notedBy (model X.prog X.w) X.A (compEnvC scope cl C X.env) (λe s'=>RR (.ref D) (compEnvC scope cl C X.env) (.error e) s') e s':=by
     intro pins' σ' H5 s5 e s' J5 q
     have u5:=J5.base
     rw [kfs,kex,kH,ks] at u5
     refine hXX D C _ s5 H5 e s' rfl rfl ?_ (by rw [← kloc];exact J5.free) (by obtain ⟨m,hm,_⟩:=J5.loc;rw [kloc] at hm;exact ⟨m,hm⟩) (by omega) (λz=>Nat.lt_irrefl C (Nat.lt_trans (stkLt C z) (by omega))) q
     exact I.call' (ch:=fp) (by have:=J5.os;rw [ks] at this;exact this) u5 (by have:=J5.hok;rw [kp,kw] at this;exact this) J5.bare λb hb=>⟨(hf b hb).2.2.2.1,(hf b hb).2.1,(hf b hb).2.2.2.2.1,(hf b hb).2.2.2.2.2⟩
    have he':=he cl C s H fp _ (hK ▸ hxe)
    rw [hK] at he'
    have hev:=he' _ s5 _ H5 _ (I5.wish _) q5
    change wpAny (model K.prog K.w) K.A (eval elt K.env) _ _ s5 at hev
    rw [kp,kw,kA,kenv] at hev
    refine wpAny_mono hev (λy s6 ⟨yv,H6,I6,r6,m',hm,w6⟩=>?_) λ_ _ z=>z
    have I6:=I6.unwish
    obtain ⟨b1,b2⟩:=back I6
    have I6':=I6.unpinned
    obtain ⟨p1,p2,p3,p4,p5⟩:=I6'.pin (D,{ cls:=.type "list",data:=.seq its.toArray c }) (List.mem_append_right _ (List.mem_singleton.mpr rfl))
    have hlen:=rv.length
    refine call_meets F.slot_list_append ⟨_,p1,rfl⟩ F.entry_list_append (F.args_list_append_2 _ _) (PySem.list_append D its.toArray c y (by rw [List.size_toArray];omega)) ⟨p1,?_⟩
    have ea:its.toArray.push y=(its++[y]).toArray:=by simp
    obtain ⟨c',q⟩:∃c',(s6.heap.update D (Obj.mapSeq (·.push y))).get? D=some { cls:=.type "list",data:=.seq (its++[y]).toArray c' }:=⟨_,by rw [← ea];exact PySem.IsL.update p1 (·.push y)⟩
    refine ⟨m',hm,i+1,o4,H6,ys++[yv],its++[y],c',l4,?_,rv.append (.cons r6 .nil),T.keep _ _ _ b1 λb hb o e=>?_,b2,w6⟩
    ·have Id:Inv K [] (bS2 σ o4 ix) H6 s6:=I6'.pins_of λp hp=>by simp at hp
     have It:Inv K [] (bS2 σ o4 ix) H6 { s6 with heap:=s6.heap.update D (Obj.mapSeq (·.push y)) }:=Id.turned (t':=s6.toks) (it:=D) (λb o hb e=>(Heap.get?_update_other _ _ (Ne.symm hb)).trans e) p2 p3
      (.inr (by rw [ks];omega)) (λy' c' e=>by rw [kcl] at e;exact Nat.ne_of_lt (cellLt y' c' e)) (λp hp=>by rw [kpn] at hp;simp at hp)
     refine It.pins_of λp hp=>?_
     obtain rfl:p=(D,{ cls:=.type "list",data:=.seq (its++[y]).toArray c' }):=by simpa using hp
     refine ⟨q,p2,p3,p4,λv z=>?_⟩
     have z':Data.seq _ _=Data.cell v:=z
     cases z'
    ·exact (Heap.get?_update_other _ _ (Nat.ne_of_gt (hl b hb))).trans e
 have selfs:wpAny (model X.prog X.w) X.A (pyIter (.ref it)) (λit' s'=>codeAny (model X.prog X.w) X.A (.compLoop (.ListComp elt [⟨tg,iter,ifs,0⟩] scope pos) 0 it' (.ref D) (compEnvC scope cl C X.env)) (RR (.ref D) (compEnvC scope cl C X.env)) s')
   (notedBy (model X.prog X.w) X.A (compEnvC scope cl C X.env) λe s'=>RR (.ref D) (compEnvC scope cl C X.env) (.error e) s') { s with heap:=h₁,toks:=s.toks+([]:List (Str × Value)).length }:=T.self X.A 0 _ _ _ st₁ (loop _)
 exact codeAny_compStart_list (loop _) selfs
theorem Qbe
  (I:Inv X pins σ H s) (hc:X.calm=true) (B:BlkScope X.env scope x) (h1:∀y c,cl.lookup y=some c->X.env.cells.lookup y=some c) (h3:∀y∈scope.names,y.2=.free->∃c,cl.lookup y.1=some c)
  (hix:∀i∈ix,∃y,X.N[i]? = some y/\scope.names.lookup y=some .free) (hN:(bN2 X.N ts ix).Nodup)
  (T:Turn X.prog X.w X.K tg J fp it tn) (st:tn 0 s.heap) (hf:∀b∈fp,FpOk X pins H b)
  (hg:∀cl C s₀ H₀ fp,PG (Jw X scope cl C (bN2 X.N ts ix) s₀ H₀ fp) tg gt)
  (he:∀cl C s₀ H₀ fp,PE (Jw X scope cl C (bN2 X.N ts ix) s₀ H₀ fp) elt te)
  (hi:∀cl C s₀ H₀ fp,PIfs (Jw X scope cl C (bN2 X.N ts ix) s₀ H₀ fp) ifs tt)
  (W:Nat->Nat->List V->Hp->Prop) (m₀:Nat) (w0:W 0 m₀ [] H)
  (turn:∀i m ys H,W i m ys H->(J.stop i H/\ys.length<=sizeLine/\G ys H)\/(J.go i H/\ys.length<sizeLine/\∀v H',J.yld i H v H'->∀o:List (Option V),o.length=ts.length->gt v (bS2 σ o ix) H' λσ2 H2=>∃o2:List (Option V),σ2=bS2 σ o2 ix/\o2.length=ts.length /\
    tt σ2 H2 λb H1=>if b=true then te σ2 H1 λy H2=>∃m',m' < m/\W (i+1) m' (ys++[y]) H2 else ∃m',m' < m/\W (i+1) m' ys H1))
  (hRR:∀D C s' ys H',Inv X pins σ (upd H' D (.lst ys)) s'->H' D=none->H' C=none->(∃m,s'.heap.Ns C m)->s.heap.objs.size<=C->D≠C->G ys H'->RR (.ref D) C (.ok .next) s') :
  wpAny (model X.prog X.w) X.A (newList []) (λacc s₃=>wpAny (model X.prog X.w) X.A (newFunctionEnv scope X.env.globals cl [] X.env.qual none .none (some X.env)) (λcenv s₄ =>
   codeAny (model X.prog X.w) X.A (.compStart (.ListComp elt [⟨tg,iter,ifs,0⟩] scope pos) 0 (.ref it) acc { cenv with scope:=relabel scope X.env }) (RR acc cenv.locals) s₄) E s₃) E s :=
 Qgc (RR:=λacc cenv r s=>RR acc cenv.locals r s) (Px:=λ_ _ _ _=>False) I hc B h1 h3 hix hN T st hf hg (λcl C s₀ H₀ fp xe _=>PE.nox (he cl C s₀ H₀ fp)) hi W m₀ w0 turn (λD C cenv s' ys H' e=>by subst e;exact hRR _ _ _ _ _) λ_ _ _ _ _ _ _ _ _ _ _ _ _ _ z=>z.elim
theorem Qdi
  (I:Inv X pins σ H s) (hc:X.calm=true) (B:BlkScope X.env scope x) (h1:∀y c,cl.lookup y=some c->X.env.cells.lookup y=some c) (h3:∀y∈scope.names,y.2=.free->∃c,cl.lookup y.1=some c)
  (hix:∀i∈ix,∃y,X.N[i]? = some y/\scope.names.lookup y=some .free) (hN:(bN X.N x ix).Nodup)
  (T:Turn X.prog X.w X.K (.Name x px) J fp it tn) (st:tn 0 s.heap) (hf:∀b∈fp,FpOk X pins H b)
  (he:∀cl C s₀ H₀ fp,PE (Jw X scope cl C (bN X.N x ix) s₀ H₀ fp) elt te)
  (hi:∀cl C s₀ H₀ fp,PIfs (Jw X scope cl C (bN X.N x ix) s₀ H₀ fp) ifs tt)
  (W:Nat->Nat->List V->Hp->Prop) (m₀:Nat) (w0:W 0 m₀ [] H)
  (turn:∀i m ys H,W i m ys H->(J.stop i H/\ys.length<=sizeLine/\G ys H)\/(J.go i H/\ys.length<sizeLine/\∀v H',J.yld i H v H' ->
    tt (bS σ (some v) ix) H' λb H1=>if b=true then te (bS σ (some v) ix) H1 λy H2=>∃m',m' < m/\W (i+1) m' (ys++[y]) H2 else ∃m',m' < m/\W (i+1) m' ys H1))
  (hRR:∀D C s' ys H',Inv X pins σ (upd H' D (.lst ys)) s'->H' D=none->H' C=none->(∃m,s'.heap.Ns C m)->s.heap.objs.size<=C->D≠C->G ys H'->RR (.ref D) C (.ok .next) s') :
  wpAny (model X.prog X.w) X.A (newList []) (λacc s₃=>wpAny (model X.prog X.w) X.A (newFunctionEnv scope X.env.globals cl [] X.env.qual none .none (some X.env)) (λcenv s₄ =>
   codeAny (model X.prog X.w) X.A (.compStart (.ListComp elt [⟨.Name x px,iter,ifs,0⟩] scope pos) 0 (.ref it) acc { cenv with scope:=relabel scope X.env }) (RR acc cenv.locals) s₄) E s₃) E s :=
 Qbe (ts:=[x]) (gt:=Qa6 0) I hc B h1 h3 hix hN T st hf (λcl C s₀ H₀ fp=>Xt hN rfl (.inl (lookup_relabel_local B.lx)) (.inr (lookup_relabel_local B.lx))) he hi W m₀ w0 (λi m ys H hw=>(turn i m ys H hw).imp id λ⟨a,b,c⟩=>⟨a,b,λv H' hy o ho=>by
  match o,ho with
  | [o],_=>exact ⟨[some v],rfl,rfl,c v H' hy⟩⟩) hRR
def Qiw (wi:TI) (tt:TT) (te:TE) (ix:List Nat):TE:=λσ H Q=>wi σ H λJ H1=>∃(W:Nat->Nat->List V->Hp->Prop) (m₀:Nat),W 0 m₀ [] H1 /\
 ∀i m ys H,W i m ys H->(J.stop i H/\ys.length<=sizeLine/\∀l,H l=none->Q (.ref l) (upd H l (.lst ys)))\/(J.go i H/\ys.length<sizeLine/\∀v H',J.yld i H v H' ->
  tt (bS σ (some v) ix) H' λb H1=>if b=true then te (bS σ (some v) ix) H1 λy H2=>∃m',m' < m/\W (i+1) m' (ys++[y]) H2 else ∃m',m' < m/\W (i+1) m' ys H1)
theorem Qaa (I:Inv X pins σ H s) (B:BlkScope X.env scope x):∀y∈scope.names,y.2=.free->∃c,X.env.cells.lookup y.1=some c :=
 λy hy hf=>I.ok.has y.1 (B.free y hy hf)
theorem Inv.blkGone {s₀:Shared} {H₀:Hp} {σ₀:St} (I₀:Inv X pins σ₀ H₀ s₀) (I:Inv X pins σ H s) (hC:s₀.heap.objs.size<=C) (hn:H C=none) (hs:Heap.SameBut C s.heap h'):Inv X pins σ H { s with heap:=h' } :=
 I.turned (t':=s.toks) (it:=C) (λb o hb e=>(hs.2 b hb).trans e) hn (Nat.ne_of_gt (Nat.lt_of_lt_of_le I₀.lt hC)) (.inr (Nat.le_trans I₀.sz hC))
  (λx c e=>by obtain ⟨v,z⟩:=I₀.cell x c e;exact Nat.ne_of_lt (Nat.lt_of_lt_of_le z.lt hC)) (λp hp=>Nat.ne_of_lt (Nat.lt_of_lt_of_le (Heap.lt_size (I₀.pin p hp).1) hC))
theorem Qjp (ix:List Nat) (hc:X.calm=true) (B:BlkScope X.env scope x)
  (hix:∀i∈ix,∃y,X.N[i]? = some y/\scope.names.lookup y=some .free) (hN:(bN X.N x ix).Nodup) (hi:PI X (.Name x px) iter wi)
  (ht:∀cl C s₀ H₀ fp,PIfs (Jw X scope cl C (bN X.N x ix) s₀ H₀ fp) ifs tt)
  (he:∀cl C s₀ H₀ fp,PE (Jw X scope cl C (bN X.N x ix) s₀ H₀ fp) elt te)
  (hs:∀x,foldedSetIterable iter X.env x=pure x:=by intro _;rfl) :
  PE X (.ListComp elt [⟨.Name x px,iter,ifs,0⟩] scope pos) (Qiw wi tt te ix):=by
 intro pins s σ H Q I h
 obtain ⟨cl,hcl,h1,h3⟩:=Vl (Qaa I B)
 rw [eval_ListComp]
 refine wpAny_comprehension_free (use:=none) rfl hs hcl B.kind B.names (thn (hi pins s σ H _ I h) λv s1 h1'=>thn h1' λitv s2 h2=>?_)
 obtain ⟨it,fp,tn,J,H2,e,I2,T,st2,f2,W,m0,w0,turn⟩:=h2
 subst e
 refine Qdi (G:=λys H'=>∀l,H' l=none->Q (.ref l) (upd H' l (.lst ys))) I2 hc B h1 h3 hix hN T st2 f2 he ht W m0 w0 turn λD C s' ys H' I' hD hC hm hCs hDC g=>?_
 obtain ⟨m,hm⟩:=hm
 refine ⟨m,hm,λh' hsb=>⟨.ref D,upd H' D (.lst ys),I2.blkGone I' hCs (by rw [Qm (Ne.symm hDC)];exact hC) hsb,rfl,g D hD⟩⟩
theorem Qjk {y:Str} (ix:List Nat) (hc:X.calm=true) (B:BlkScope X.env scope x)
  (hNd:X.N.Nodup) (hj:X.N[j]? = some y) (hy:Loc X.env.scope y)
  (hsw:swapsWith (.ListComp elt [⟨.Name x px,iter,ifs,0⟩] scope pos) (some (.Name y py)) spos.line X.env=pure true)
  (hix:∀i∈ix,∃y,X.N[i]? = some y/\scope.names.lookup y=some .free) (hN:(bN X.N x ix).Nodup) (hi:PI X (.Name x px) iter wi)
  (ht:∀cl C s₀ H₀ fp,PIfs (Jw X scope cl C (bN X.N x ix) s₀ H₀ fp) ifs tt)
  (he:∀cl C s₀ H₀ fp,PE (Jw X scope cl C (bN X.N x ix) s₀ H₀ fp) elt te)
  (hf:X.fn y=true\/X.env.scope.names.lookup y=some .local:=by first | exact .inl rfl | exact .inr rfl | assumption)
  (hs:∀x,foldedSetIterable iter X.env x=pure x:=by intro _;rfl) :
  PS X (.Assign [.Name y py] (.ListComp elt [⟨.Name x px,iter,ifs,0⟩] scope pos) spos) (tAsg (Qiw wi tt te ix) (Qa6 j)):=by
 intro pins s σ H D0 I h
 obtain ⟨cl,hcl,h1,h3⟩:=Vl (Qaa I B)
 rw [exec_Assign_Name_used _ _ _ _ hsw]
 refine wpAny_bind (wpAny_standAt (wpAny_bind ?_))
 show wpAny _ X.A (do let _ ← comprehension (.ListComp elt [⟨.Name x px,iter,ifs,0⟩] scope pos) scope X.env _ (newList []) false (eval iter X.env) (some (assign (.Name y py) X.env))) _ _ s
 refine wpAny_bind (wpAny_mono (wpAny_comprehension_free (use:=some (assign (.Name y py) X.env)) (Q:=λ_ s'=>SP X pins D0 .next s') rfl hs hcl B.kind B.names
  (thn (hi pins s σ H _ I h) λv s1 h1'=>thn h1' λitv s2 h2=>?_)) (λ_ s' hq=>wpAny_pure (wpAny_pure hq)) λ_ _ e=>e)
 obtain ⟨it,fp,tn,J,H2,e,I2,T,st2,f2,W,m0,w0,turn⟩:=h2
 subst e
 refine Qdi (G:=λys H'=>∀l,H' l=none->Qa6 j (.ref l) σ (upd H' l (.lst ys)) D0.nx) I2 hc B h1 h3 hix hN T st2 f2 he ht W m0 w0 turn λD C s' ys H' I' hD hC hm hCs hDC g=>?_
 obtain ⟨m,hm⟩:=hm
 have hCn:upd H' D (.lst ys) C=none:=by rw [Qm (Ne.symm hDC)];exact hC
 show wpAny _ _ (assign (.Name y py) X.env (.ref D)) _ _ s'
 refine wpAny_assign_Name (Qaj I' hNd hj hy (show RelV (.ref D) (.ref D) from rfl) (λs3 I3 ⟨a,hsa,ha⟩=>?_) hf)
 have hCa:C≠a:=by
  rcases ha with z | z
  ·rw [z];exact Nat.ne_of_gt (Nat.lt_of_lt_of_le I2.lt hCs)
  ·obtain ⟨v,q⟩:=I2.cell y a z;exact Nat.ne_of_gt (Nat.lt_of_lt_of_le q.lt hCs)
 exact ⟨m,hm.sameBut hsa hCa,λh' hsb=>⟨_,_,I2.blkGone I3 hCs hCn hsb,g D hD⟩⟩
theorem Qc0 {α β:Type} {F:α->β->Prop}:∀{l₁:List α} {l₂:List β} {i:Nat} {a:α} {b:β},Paired F l₁ l₂->l₁[i]? = some a->l₂[i]? = some b->F a b
 | _,_,_,_,_,.nil,e,_=>by simp at e
 | _,_,0,_,_,.cons r _,e,e'=>by simp at e e';subst e;subst e';exact r
 | _,_,i+1,_,_,.cons _ t,e,e'=>Qc0 (i:=i) t (by simpa using e) (by simpa using e')
theorem Qiz (h:n<=1000):n<=2 ^ 24:=Nat.le_trans h (by decide)
theorem Qe0 {a:Expr} (hg:Gl X "range") (hm:X.mg "range" = none) (ha:PA X [a] ta) (hs:starEach [a] X.env=[(false,eval a X.env)]:=by rfl) :
  PE X (.Call (.Name "range" p) [a] [] pos) (λσ H Q=>ta σ H λvs H1=>∃j:Int,vs=[.int j]/\∀r,H1 r=none->Q (.ref r) (upd H1 r (.rng 0 j))):=by
 intro pins s σ H Q I h
 refine Call_ (Xc I hg hm boot_range (PyProof.Rows.callWith_type1 (thn (ha pos pins s σ H _ I h) λus s1 ⟨vs,H1,I1,r1,q1⟩=>?_) hs rfl))
 obtain ⟨j,e,q⟩:=q1
 subst e
 obtain ⟨u,rfl,ru⟩:=Xm r1
 obtain ⟨t,rfl⟩:=ru
 refine call_range_1 ?_
 refine ⟨.ref s1.heap.objs.size,_,I1.laid (o:=.rng 0 j) (λb u e=>Heap.get?_push_of_some _ e) (Nat.le_refl _) ?_,rfl,q _ (I1.hok.fresh (Nat.le_refl _))⟩
 exact ⟨_,_,_,Heap.get?_push_size _ rfl⟩
theorem X8 (hc:X.calm=true):Y4 X (.type "list") (λxs H Q=>∃r j,xs=[.ref r]/\H r=some (.rng 0 j)/\0<=j/\j<=1000/\∀l,H l=none->Q (.ref l) (upd H l (.lst ((List.range j.toNat).map λi=>.int (i:Nat))))):=by
 intro pins s σ H xs us Q I r h
 obtain ⟨a,j,rfl,ha,h0,h1,q⟩:=h
 obtain ⟨u,rfl,ru⟩:=Xm r
 cases ru
 obtain ⟨t,u,v,e⟩:=I.hok a _ ha
 refine call_list_range (n:=j.toNat) (I.ok.hd hc) (show IsRange s.heap a 0 j 1 t u v from e) (small_one (by omega) (by omega) (by omega) (by omega)) (by rw [rangeSize_one];split <;> omega) (Qiz (by omega)) λh' tk acc c' kp hl hacc=>?_
 obtain ⟨hsz,hit⟩:=hacc
 have rv:Vals ((List.range j.toNat).map λi=>V.int (i:Nat)) acc.toList:=by
  have gen:∀(n:Nat) (l:List Value),l.length=n->(∀(j:Nat) v,l[j]? = some v->∃t,v=.int (0+(j:Int)*1) t)->Vals ((List.range n).map λi=>V.int (i:Nat)) l:=by
   intro n
   induction n with
   | zero=>intro l hl _;cases l with | nil=>exact .nil | cons=>simp at hl
   | succ n ih =>
    intro l hl hj
    have hne:l≠[]:=by intro z;rw [z] at hl;simp at hl
    have el:l=l.dropLast++[l.getLast hne]:=(List.dropLast_concat_getLast hne).symm
    rw [List.range_succ,List.map_append,el]
    refine Vals.append (ih _ (by rw [List.length_dropLast,hl];rfl) λj v e=>hj j v ?_) (.cons ?_ .nil)
    ·rw [List.getElem?_dropLast] at e
     split at e
     ·exact e
     ·cases e
    ·obtain ⟨t,e⟩:=hj n (l.getLast hne) (by rw [List.getLast_eq_getElem,List.getElem?_eq_getElem (by omega)];congr 1;simp [hl])
     exact ⟨t,by rw [e];congr 1;omega⟩
  refine gen _ _ (by rw [Array.length_toList];exact hsz) λj v e=>hit j v (by simpa using e)
 have hlen:((List.range j.toNat).map λi=>V.int (i:Nat)).length<=sizeLine:=by rw [List.length_map,List.length_range];have:=(by decide:1000<sizeLine);omega
 refine ⟨.ref s.heap.objs.size,_,I.laid (o:=.lst ((List.range j.toNat).map λi=>V.int (i:Nat))) (t':=tk) kp (Nat.le_refl _) ?_,rfl,q _ (I.hok.fresh (Nat.le_refl _))⟩
 exact ⟨hlen,acc.toList,c',rv,by rw [Array.toArray_toList];exact hl⟩
end L2
namespace L2
open PySem PySem.Spec PyProof.Rows
open PySem.W (Dat kqdP kqdPs kqdOk)
mutual
inductive DV (H:Hp):V->Dat->Prop
 | non:DV H .non .none
 | int (i:Int):DV H (.int i) (.int i)
 | str (x:Str):DV H (.str x) (.str x)
 | tup {a:Addr} {xs:List V} {ds:List Dat} (e:H a=some (.tup xs)) (r:DVs H xs ds):DV H (.ref a) (.tuple ds)
 | lst {a:Addr} {xs:List V} {ds:List Dat} (e:H a=some (.lst xs)) (r:DVs H xs ds):DV H (.ref a) (.list ds)
inductive DVs (H:Hp):List V->List Dat->Prop
 | nil:DVs H [] []
 | cons {x:V} {d:Dat} {xs:List V} {ds:List Dat} (h:DV H x d) (r:DVs H xs ds):DVs H (x::xs) (d::ds)
end
mutual
theorem DV.reads {P:Program} {w:World} {H:Hp} {h:Heap} (ok:HOk P w H h):∀{x:V} {d:Dat} {u:Value},DV H x d->RelV x u->∃as,Reads h u (kqdP d) as
 | _,_,_,.non,r=>by cases r;exact ⟨_,by rw [kqdP];exact Reads.none⟩
 | _,_,_,.int i,r=>by obtain ⟨t,rfl⟩:=r;exact ⟨_,by rw [kqdP];exact Reads.int i t⟩
 | _,_,_,.str x,r=>by obtain ⟨t,rfl⟩:=r;exact ⟨_,by rw [kqdP];exact Reads.str x t⟩
 | _,_,_,.tup (a:=a) e q,r=>by
  cases r
  obtain ⟨_,its,rv,o,h1,h2,n,h3⟩:=ok a _ e
  obtain ⟨as,z⟩:=DVs.reads ok q rv
  rw [kqdP]
  exact ⟨as,reads_tuple_at h1 h2 h3 (by simpa using z)⟩
 | _,_,_,.lst (a:=a) e q,r=>by
  cases r
  obtain ⟨_,its,n,rv,h1⟩:=ok a _ e
  obtain ⟨as,z⟩:=DVs.reads ok q rv
  rw [kqdP]
  exact ⟨_,reads_list_at h1 rfl rfl (by simpa using z)⟩
theorem DVs.reads {P:Program} {w:World} {H:Hp} {h:Heap} (ok:HOk P w H h):∀{xs:List V} {ds:List Dat} {us:List Value},DVs H xs ds->Vals xs us->∃as,ReadsAll h us (kqdPs ds) as
 | _,_,_,.nil,r=>by cases r;exact ⟨_,by rw [kqdPs];exact ReadsAll.nil⟩
 | _,_,_,.cons p q,r=>by
  cases r with
  | cons r1 r2 =>
   obtain ⟨as,z⟩:=DV.reads ok p r1
   obtain ⟨bs,y⟩:=DVs.reads ok q r2
   rw [kqdPs]
   exact ⟨_,ReadsAll.cons z y⟩
end
theorem Jp {d:Dat} (h:kqdOk n d=true) (hn:n<=9):SeqAt.shaped (kqdP d)=true:=by
 have l:=PySem.W.kqd_lay n d h
 unfold SeqAt.shaped
 rw [l.1,Bool.true_and]
 exact decide_eq_true (Nat.le_trans l.2 (Nat.le_trans hn (by decide)))
open Classical in
theorem X6 {d e:Dat} (h:kqdOk n d=true) (h':kqdOk k e=true):PyData.eqv (kqdP d) (kqdP e)=decide (d=e):=by
 have q:=PySem.W.kqd_eqv n d e k h h'
 by_cases hq:d=e
 ·rw [decide_eq_true hq];exact q.mpr hq
 ·rw [decide_eq_false hq];exact Bool.eq_false_iff.mpr λx=>hq (q.mp x)
def rDat (neg:Bool):R2:=λx y H Q=>∃d e n,DV H x d/\DV H y e/\kqdOk n d=true/\kqdOk n e=true/\n<=9/\((d=e->Q (.bl (!neg)) H)/\(d≠e->Q (.bl neg) H))
theorem Qma (hu:X.A.units+64<cLine):OpR X (compareOp .Eq) (rDat false):=by
 classical
 intro pins s σ H x y v u Q I rx ry h
 obtain ⟨d,e,n,dx,dy,hd,he,hn,q1,q2⟩:=h
 obtain ⟨as,ra⟩:=dx.reads I.hok rx
 obtain ⟨bs,rb⟩:=dy.reads I.hok ry
 refine eq_dataH ra rb (Jp hd hn) (Jp he hn) hu ?_
 rw [X6 hd he]
 by_cases hq:d=e
 ·rw [decide_eq_true hq];exact ⟨.bl true,H,I,rfl,q1 hq⟩
 ·rw [decide_eq_false hq];exact ⟨.bl false,H,I,rfl,q2 hq⟩
theorem Ql7 (hu:X.A.units+64<cLine):OpR X (compareOp .NotEq) (rDat true):=by
 classical
 intro pins s σ H x y v u Q I rx ry h
 obtain ⟨d,e,n,dx,dy,hd,he,hn,q1,q2⟩:=h
 obtain ⟨as,ra⟩:=dx.reads I.hok rx
 obtain ⟨bs,rb⟩:=dy.reads I.hok ry
 refine ne_dataH ra rb (Jp hd hn) (Jp he hn) hu ?_
 rw [X6 hd he]
 by_cases hq:d=e
 ·rw [decide_eq_true hq];exact ⟨.bl false,H,I,rfl,q1 hq⟩
 ·rw [decide_eq_false hq];exact ⟨.bl true,H,I,rfl,q2 hq⟩
theorem Qcc:Y4 X (.builtin "isinstance") (λxs H Q=>∃x T t b,xs=[x,.ty T]/\TyOf X.K H x (.type t)/\PySem.W.kitOne X.K (.type t) (.type T)=some b/\Q (.bl b) H):=by
 intro pins s σ H xs us Q I r h
 obtain ⟨x,T,t,b,rfl,ty,e,q⟩:=h
 obtain ⟨u,c,rfl,ru,rc⟩:=Qit r
 cases (show c=Value.type T from rc)
 exact Qfq I ru ty e λtk=>⟨.bl b,H,I.tok _,rfl,q⟩
end L2
namespace SortT
open PySem PySem.W PyProof.Rows
structure Ord (f:Nat->Nat->Bool):Prop where
 asym:∀i j,f i j=true->f j i=false
 tr:∀i j k,f j i=false->f k j=false->f k i=false
section
variable {f:Nat->Nat->Bool} (O:Ord f)
include O in
abbrev at_ (p:Array Nat) (i:Nat):Nat:=p.getD i 0
end
end SortT
namespace L2
open PySem PySem.Spec PyProof.Rows
theorem Jr.there (x:Jr P w H h a o):∃ob,h.get? a=some ob:=by
 cases o with
 | lst xs=>obtain ⟨_,_,_,_,e⟩:=x;exact ⟨_,e⟩
 | tup xs=>obtain ⟨_,_,_,o,e,_⟩:=x;exact ⟨_,e⟩
 | dK kvs=>obtain ⟨_,_,_,_,o,_,_,e,_⟩:=x;exact ⟨_,e⟩
 | dT kvs=>obtain ⟨_,_,_,_,o,_,_,e,_⟩:=x;exact ⟨_,e⟩
 | set S n=>obtain ⟨o,_,_,_,e,_⟩:=x;exact ⟨_,e⟩
 | ins C dx fs=>obtain ⟨_,_,_,e,_⟩:=x;exact ⟨_,e⟩
 | own y=>exact x
 | xd fs=>obtain ⟨_,⟨_,_,_,e,_⟩,_⟩:=x;exact ⟨_,e⟩
 | rng lo hi=>obtain ⟨_,_,_,e⟩:=x;exact ⟨_,e⟩
 | frz ob u=>obtain ⟨e,_⟩:=x;exact ⟨_,e⟩
 | tbl ps=>obtain ⟨_,e,_⟩:=x;exact ⟨_,e⟩
 | met f y=>exact ⟨_,(show h.get? a=some _ from x)⟩
 | ext φ=>obtain ⟨_,e,_⟩:=x;exact e
theorem Qj0 {m':Str->Option Value} (a:h.Ns L m) (b:h.Ns L m'):m=m':=by
 obtain ⟨o,es,ep,e,d,_,q⟩:=a
 obtain ⟨o',es',ep',e',d',_,q'⟩:=b
 rw [e] at e';cases e'
 rw [d] at d';cases d'
 funext x
 rw [← q x,← q' x]
theorem Inv.ledgerNew {D:Addr} (I:Inv X pins σ H s) (hos:s'.os=s.os) (hg:s'.gens=s.gens) (F:Fr X.base X.env.locals s.heap m) (F':Fr X.base X.env.locals s'.heap m)
  (hk:∀p∈Qac X.base s.heap X.env.locals,s'.heap.get? p.1=some p.2) (hD:s.heap.get? D=none) (new:Jr X.prog X.w (upd H D o) s'.heap D o):Inv X pins σ (upd H D o) s':=by
 have hn:H D=none:=by
  cases e:H D with
  | none=>rfl
  | some u=>obtain ⟨ob,q⟩:=(I.hok D u e).there;rw [hD] at q;cases q
 have kp:∀b u,b≠X.env.locals->s.heap.get? b=some u->s'.heap.get? b=some u:=λb u hb e=>by
  cases q:X.base.get? b with
  | some v=>have:=F.keep b v q;rw [e] at this;cases this;exact F'.keep b _ q
  | none=>exact hk (b,u) (U8 hb q e)
 have hbD:∀b u,s.heap.get? b=some u->b≠D:=λb u e z=>by rw [z,hD] at e;cases e
 have hok:HOk X.prog X.w H s'.heap:=λb q e=>(I.hok b q e).stay (λc v hc z=>kp c v (λy=>by
  rcases hc with rfl | hc
  ·rw [y,I.free] at e;cases e
  ·rw [y,I.free] at hc;cases hc) z) (λ_ z=>z) λ_ _ z=>z
 obtain ⟨h',g',d',t',o'⟩:=s'
 obtain rfl:o'=s.os:=hos
 refine I.step (g':=g') (d':=d') (t':=t') (ch:=[]) (λb hb=>by simp at hb) (λb u hb _ _ e _=>kp b u hb e) (λb u hb _ _ e _=>⟨u.slots,kp b u hb e⟩) (λb u _ e n=>by rw [Qm (hbD b u e)];exact n) (λb u _ e=>?_)
  (λb xs e=>by rw [Qm (Qq e hn)];exact e) (λb ob u e=>by rw [Qm (Qq e hn)];exact e) (λb ps e=>⟨#[],by rw [Qm (Qq e hn),Array.append_empty];exact e⟩) (λm' hm'=>?_) (hok.add hn new) ?_
 ·by_cases hb:b=X.env.locals
  ·obtain ⟨ob,_,_,q,_⟩:=F'.ns;exact ⟨ob,by rw [hb];exact q⟩
  ·exact ⟨u,kp b u hb e⟩
 ·rw [Qj0 hm' F.ns];exact F'.ns
 ·have e:g'=s.gens:=hg
  rw [e];exact I.bare
theorem Qj4 {k:Key} (h:(Jc P w).is k u=true):RelV (kV k) u:=by
 rw [Qdv] at h
 rcases Q8 h with ⟨i,t,rfl,rfl⟩ | ⟨x,t,rfl,rfl⟩
 ·exact ⟨t,rfl⟩
 ·exact ⟨t,rfl⟩
def Itk (d:Addr) (o:Obj) (kvs:List (Key × V)):It :=
 ⟨λi H=>H d=some (.frz o (.dK kvs))/\i<kvs.length,λi H x H'=>H'=H/\∃k v,kvs[i]? = some (k,v)/\x=kV k,λi H=>H d=some (.frz o (.dK kvs))/\kvs.length<=i⟩
theorem Qej (d it:Addr) (o:Obj) (kvs:List (Key × V)) (vs:List (Key × Value)) (ep:Nat) (rel:KV kvs vs) (hdi:d≠it)
  (hd:∀h:Heap,h.get? d=some o->h.DictAt (Jc P w) d vs ep) :
  Turn P w K tg (Itk d o kvs) [it] it (λi h=>h.IsKeyIter it d i vs.length ep) where
 mem:=by simp
 obj:=λi h st b hb=>by
  have e:b=it:=by simpa using hb
  subst e
  obtain ⟨o,e,c,d⟩:=st
  exact ⟨o,e,λv z=>by rw [d] at z;cases z⟩
 keep:=λi h h' st k=>by
  obtain ⟨o,e,c,d⟩:=st
  exact ⟨o,k it (by simp) o e,c,d⟩
 item:=by
  intro X hP hw hK hc i pins s σ H E I hf st hg
  subst hP hw hK
  obtain ⟨hH,hlt⟩:=hg
  obtain ⟨e1,_⟩:=I.hok d _ hH
  obtain ⟨⟨k,y⟩,hx⟩:∃p,kvs[i]? = some p:=⟨kvs[i],by simp [hlt]⟩
  have hlen:kvs.length=vs.length:=Paired.length rel
  obtain ⟨⟨k',u⟩,hu⟩:∃p,vs[i]? = some p:=⟨vs[i]'(by omega),by simp [show i<vs.length by omega]⟩
  have rk:k=k':=(Qc0 rel hx hu).1
  subst rk
  obtain ⟨f0,f1,f2,f3,f4,f5⟩:=hf it (by simp)
  refine wpAny_pyNext_dict_item st (hd _ e1) hu λkey h' hk st' sb=>?_
  have I1:Inv X pins σ H { s with heap:=h' }:=I.turned (t':=s.toks) (λb o hb e=>(sb.2 b hb).trans e) f0 f1 f3 f4 f5
  obtain ⟨oi,e,c,dd⟩:=id st'
  exact ⟨key,rfl,Qho (s:={ s with heap:=h' }) e c dd (by decide) ⟨kV k,H,I1,Qj4 hk,⟨rfl,k,y,hx,rfl⟩,st',λb hb=>(hf b hb).1⟩⟩
 done:=by
  intro X hP hw hK hc i pins s σ H E I hf st hg
  subst hP hw hK
  obtain ⟨hH,hge⟩:=hg
  obtain ⟨e1,_⟩:=I.hok d _ hH
  have hlen:kvs.length=vs.length:=Paired.length rel
  obtain ⟨f0,f1,f2,f3,f4,f5⟩:=hf it (by simp)
  exact wpAny_pyNext_dict_end (I.ok.hd hc) st (hd _ e1) (List.getElem?_eq_none (by omega)) λh' eb=>⟨rfl,I.turned (t':=s.toks) (λb o hb e=>eb b o hb e) f0 f1 f3 f4 f5⟩
 self:=λ_ _ _ _ _ st h=>wpAny_pyIter_keyiter st h
def Qoi (to:TE):TI:=λσ H R=>to σ H λx H1=>∃d kvs,x=.ref d/\H1 d=some (.dK kvs)/\∀o,R (Itk d o kvs) (upd H1 d (.frz o (.dK kvs)))
theorem Qjn {o:Expr} (ho:PE X o to):PI X tg o (Qoi to):=by
 intro pins s σ H R I h
 refine thn (ho pins s σ H _ I h) λv s1 ⟨x,H1,I1,r1,d,kvs,e,hd,q⟩=>?_
 subst e
 cases r1
 obtain ⟨z,hs,vs,rel,dd⟩:=Qm9 I1.hok hd
 obtain ⟨ep,da⟩:=dd.dictAt
 obtain ⟨ob,es,hob,dr⟩:=id da
 refine wpAny_pyIter_dict (knd:=Jc X.prog X.w) (d:=d) (kvs:=vs) (ep:=ep) hs ⟨ob,es,hob,dr⟩ ?_
 have I3:=I1.kept (h':=s1.heap.push { cls:=.type "dict_keyiterator",data:=.fields #[.ref d,.int 0 0,.int vs.length 0,.int ep 0] }) (t':=s1.toks) λb u e=>Heap.get?_push_of_some _ e
 have hob3:=Heap.get?_push_of_some (h:=s1.heap) { cls:=.type "dict_keyiterator",data:=.fields #[.ref d,.int 0 0,.int vs.length 0,.int ep 0] } hob
 have I4:=I3.write (x:=d) (e:=d) (o:=.frz ob (.dK kvs)) (t':=s1.toks) (by rw [hd];trivial) (.inl rfl) (λb u _ q=>q) ⟨_,hob3⟩
  (show Jr X.prog X.w _ _ d (.frz ob (.dK kvs)) from ⟨hob3,z,hs,vs,rel,ob,es,ep,hob3,dr⟩)
 have hlt:d<s1.heap.objs.size:=Heap.lt_size hob
 refine ⟨s1.heap.objs.size,[s1.heap.objs.size],_,_,_,rfl,I4,
  Qej d _ ob kvs vs ep rel (Nat.ne_of_lt hlt) (λh e=>⟨ob,es,e,dr⟩),⟨_,Heap.get?_push_size _ rfl,rfl,rfl⟩,λb hb=>?_,q ob⟩
 have e:b=s1.heap.objs.size:=by simpa using hb
 subst e
 exact I1.fpOk (Nat.le_refl _) (by rw [Qm (Nat.ne_of_gt hlt)];exact I1.hok.fresh (Nat.le_refl _))
end L2
variable {t:String}
namespace HT
open PySem PySem.Spec PyProof.Rows L2
theorem Qh3 {t:Addr} (ht:IsTup s.heap t ([]:List Value).toArray) (hb:IsTup s.heap b ws.toArray) (h1:Q (.ref b) s):wpAny (model prog w) A (binaryOp .Add (.ref t) (.ref b)) Q E s:=by
 obtain ⟨⟨cls,dd,data,sl⟩,ho,hc,n,hd⟩:=id ht
 obtain ⟨⟨cls2,dd2,data2,sl2⟩,ho2,hc2,n2,hd2⟩:=id hb
 simp only at hc hd hc2 hd2
 subst hc hd hc2 hd2
 exact concat_meets ⟨_,ho,rfl⟩ ⟨_,ho2,rfl⟩ noFill_tuple_add seq_tuple_add PySem.F.slot_tuple_add PySem.F.entry_tuple_add (PySem.F.args_tuple_add_2 _ _)
   (tuple_addW0 t b ([]:List Value).toArray ws.toArray n n2 dd dd2 sl sl2 rfl) ⟨ho,ho2,h1⟩
theorem Vi {t:Addr} (ht:IsTup s.heap t items) (hs:s.heap.IsSliceOf sl vl vu .none) (pl:IsPart vl lo) (pu:IsPart vu hi)
  (hw:sIx items.size 0 lo=0/\sIx items.size items.size hi=items.size)
  (h:Q (.ref t) s):wpAny (model prog w) A (getItem (.ref t) (.ref sl)) Q E s:=by
 obtain ⟨os,hos,hcs,hds⟩:=id hs
 have hTs:s.TypeIs (.ref sl) "slice":=⟨os,hos,hcs⟩
 unfold getItem
 try with_reducible refine wpAny_holding ?_
 first | refine wpAny_bind (wpAny_pure ?_) | skip
 refine wpAny_bind (wpAny_sequenceKey ht.typeIs (by decide) ?_)
 refine wpAny_bind (wpAny_callSpecial?_slot (name:=Str.ofString "__getitem__") ht.typeIs PyProof.Rows.slot_tuple_getitem
  (wpAny_call_entry PyProof.Rows.slot_tuple_getitem ht.typeIs entry_tuple_getitem ?_ (args_tuple_getitem _ _)))
 show wpAny _ _ (Builtin.Tuple.tupleItemsOf (.ref t) >>= _) _ _ s
 refine wpAny_bind (tupleItemsOf_ ht ?_)
 refine wpAny_bind (wpAny_typeOf hTs ?_)
 rw [if_pos (by decide)]
 refine wpAny_bind (Zc hs pl pu ?_)
 have hyes:(((sIx items.size 0 lo:Nat):Int) == 0 && (1:Int) == 1 && (sIx items.size items.size hi-sIx items.size 0 lo) == items.size)=true:=by
  rw [hw.1,hw.2];simp
 show wpAny _ _ (if (((sIx items.size 0 lo:Nat):Int) == 0 && (1:Int) == 1 && (sIx items.size items.size hi-sIx items.size 0 lo) == items.size)=true then _ else _) _ _ s
 rw [if_pos hyes]
 refine wpAny_bind (wpAny_bind (wpAny_typeOf ht.typeIs (wpAny_pure ?_)))
 rw [if_pos (by decide)]
 refine wpAny_bind (wpAny_rule ?_)
 first
  | exact wpAny_bind (wpAny_pure (wpAny_pure ⟨_,rfl,wpAny_pure h⟩))
  | exact wpAny_pure ⟨_,rfl,wpAny_pure h⟩
  | exact wpAny_bind (wpAny_pure ⟨_,rfl,wpAny_pure h⟩)
end HT
namespace L2
open PySem PySem.Spec PyProof.Rows
def Qny (K:PySem.W.Frag):R2:=λx y H Q=>∃a b ys,x=.ref a/\y=.ref b/\SqT K H a []/\SqT K H b ys/\Q (.ref b) H
theorem Qjw:OpR X (binaryOp .Add) (Qny X.K):=by
 intro pins s σ H x y v u Q I rx ry h
 obtain ⟨a,b,ys,rfl,rfl,ha,hb,q⟩:=h
 cases rx
 cases ry
 obtain ⟨its,r1,p1,_⟩:=I.tuple ha
 obtain ⟨its2,r2,p2,_⟩:=I.tuple hb
 have:its=[]:=by cases r1;rfl
 subst this
 exact HT.Qh3 p1 p2 ⟨.ref b,H,I,rfl,q⟩
def rSlW (K:PySem.W.Frag):V->Option Int->Option Int->Hp->VK->Prop:=λx lo hi H Q=>∃a xs,x=.ref a/\SqT K H a xs /\
 (HT.sIx xs.length 0 lo=0/\HT.sIx xs.length xs.length hi=xs.length)/\Q (.ref a) H
theorem Qi1:SlR X (rSlW X.K):=by
 intro pins s σ H x v vl vu lo hi sl Q I rx hs pl pu h
 obtain ⟨a,xs,rfl,hx,hw,q⟩:=h
 cases rx
 obtain ⟨its,r,ht,hz⟩:=I.tuple hx
 have hlen:its.toArray.size=xs.length:=by rw [List.size_toArray];exact r.length.symm
 refine ⟨"tuple",_,PyProof.Rows.slot_tuple_getitem.lookup,ht.typeIs,?_⟩
 exact HT.Vi ht hs pl pu (by rw [hlen];exact hw) ⟨.ref a,H,I,rfl,q⟩
theorem Qc7:∀{ns:List Int} {its:List Value},Vals (ns.map V.int) its->IntsAre its ns
 | [],_,r=>by rw [List.map_nil] at r;cases r;exact .nil
 | n::ns,_,r=>by
  rw [List.map_cons] at r
  cases r with
  | cons h t=>obtain ⟨tk,rfl⟩:=h;exact .cons n tk (Qc7 t)
theorem Qa5:∀{ns:List Int} {its:List Value},IntsAre its ns->Vals (ns.map V.int) its
 | _,_,.nil=>.nil
 | _,_,.cons n t h=>.cons ⟨t,rfl⟩ (Qa5 h)
section
variable {t:TA}
def isN (n:Int):Value->Bool
 | .int m _=>m == n
 | _=>false
theorem Gk {n:Int}:∀{its:List Value} {ns:List Int},IntsAre its ns->its.countP (isN n)=ns.count n
 | _,_,.nil=>rfl
 | _,_,.cons m t h=>by
  rw [List.countP_cons,List.count_cons,Gk h]
  rfl
theorem Qfs (h:IntsAre its ns):∀v∈its,∃m t,v=Value.int m t:=by
 induction h with
 | nil=>intro v hv;cases hv
 | cons n t h ih =>
  intro v hv
  rcases List.mem_cons.mp hv with rfl | hv
  ·exact ⟨n,t,rfl⟩
  ·exact ih v hv
end
def Qia (ts:List Str) (wi:TI) (gt:TG) (tt:TT) (te:TE) (ix:List Nat):TE:=λσ H Q=>wi σ H λJ H1=>∃(W:Nat->Nat->List V->Hp->Prop) (m₀:Nat),W 0 m₀ [] H1 /\
 ∀i m ys H,W i m ys H->(J.stop i H/\ys.length<=sizeLine/\∀l,H l=none->Q (.ref l) (upd H l (.lst ys)))\/(J.go i H/\ys.length<sizeLine/\∀v H',J.yld i H v H'->∀o:List (Option V),o.length=ts.length->gt v (bS2 σ o ix) H' λσ2 H2=>∃o2:List (Option V),σ2=bS2 σ o2 ix/\o2.length=ts.length /\
  tt σ2 H2 λb H1=>if b=true then te σ2 H1 λy H2=>∃m',m' < m/\W (i+1) m' (ys++[y]) H2 else ∃m',m' < m/\W (i+1) m' ys H1)
theorem Qcz (ix:List Nat) (hc:X.calm=true) (B:BlkScope X.env scope x)
  (hix:∀i∈ix,∃y,X.N[i]? = some y/\scope.names.lookup y=some .free) (hN:(bN2 X.N ts ix).Nodup) (hi:PI X tg iter wi)
  (hg:∀cl C s₀ H₀ fp,PG (Jw X scope cl C (bN2 X.N ts ix) s₀ H₀ fp) tg gt)
  (ht:∀cl C s₀ H₀ fp,PIfs (Jw X scope cl C (bN2 X.N ts ix) s₀ H₀ fp) ifs tt)
  (he:∀cl C s₀ H₀ fp,PE (Jw X scope cl C (bN2 X.N ts ix) s₀ H₀ fp) elt te)
  (hs:∀x,foldedSetIterable iter X.env x=pure x:=by intro _;rfl) :
  PE X (.ListComp elt [⟨tg,iter,ifs,0⟩] scope pos) (Qia ts wi gt tt te ix):=by
 intro pins s σ H Q I h
 obtain ⟨cl,hcl,h1,h3⟩:=Vl (Qaa I B)
 rw [eval_ListComp]
 refine wpAny_comprehension_free (use:=none) rfl hs hcl B.kind B.names (thn (hi pins s σ H _ I h) λv s1 h1'=>thn h1' λitv s2 h2=>?_)
 obtain ⟨it,fp,tn,J,H2,e,I2,T,st2,f2,W,m0,w0,turn⟩:=h2
 subst e
 refine Qbe (G:=λys H'=>∀l,H' l=none->Q (.ref l) (upd H' l (.lst ys))) I2 hc B h1 h3 hix hN T st2 f2 hg he ht W m0 w0 turn λD C s' ys H' I' hD hC hm hCs hDC g=>?_
 obtain ⟨m,hm⟩:=hm
 refine ⟨m,hm,λh' hsb=>⟨.ref D,upd H' D (.lst ys),I2.blkGone I' hCs (by rw [Qm (Ne.symm hDC)];exact hC) hsb,rfl,g D hD⟩⟩
end L2
namespace Srt
open PySem PyProof.Rows PySem.SeqAt
open PySem.AutoSeq1 (wpAny_loadPart')
open PySem.MeetsSeq PySem.MeetsSeq2 PySem.MeetsSeq3
theorem Qfs {vs:List Value} (h:IntsAre vs ns):∀{i:Nat} (hi:i<ns.length),∃t,vs[i]? = some (.int ns[i] t):=by
 induction h with
 | nil=>intro i hi;exact absurd hi (Nat.not_lt_zero _)
 | cons n t _ ih =>
  intro i hi
  cases i with
  | zero=>exact ⟨t,rfl⟩
  | succ i=>obtain ⟨u,hu⟩:=ih (i:=i) (by simpa using hi);exact ⟨u,by simpa using hu⟩
end Srt
namespace Mx
open PySem PySem.Spec L2
abbrev MI:=Int ⊕ List Int
def Qoj:MI->Int
 | .inl i=>hashInt i
 | .inr l=>reduceHash (Builtin.Tuple.tupleHashOf (l.map hashInt))
abbrev KVM:=List (MI × V × V)
abbrev VM:=List (MI × Value × Value)
def RelE (p:MI × V × V) (q:MI × Value × Value):Prop:=p.1=q.1/\RelV p.2.1 q.2.1/\RelV p.2.2 q.2.2
def entI (q:MI × Value × Value):DictEntry:={ hash:=Qoj q.1,key:=q.2.1,val:=q.2.2 }
def phi (a:Addr) (kvs:KVM) (h:Heap):Prop:=(a == sysModules)=false/\kvs.length<=sizeLine/\(kvs.map (·.1)).Nodup/\∃vs:VM,Paired RelE kvs vs/\∃o es ep,h.get? a=some o/\o.ExactDict/\o.data=.dict es ep/\es.toList=vs.map entI
def mixO (a:Addr) (kvs:KVM):HO:=.ext (phi a kvs)
def Qos (H:Hp):MI->V->Prop
 | .inl i,y=>y=.int i
 | .inr l,y=>∃b,y=.ref b/\H b=some (.tup (l.map V.int))
def Keys (H:Hp) (kvs:KVM):Prop:=∀p∈kvs,Qos H p.1 p.2.1
end Mx
namespace L2
open PySem PySem.Spec PyProof.Rows
open PySem.W (Dat kqdP kqdPs kqdOk)
open AutoSeq1 (wpAny_loadPart')
open MeetsSeq (plain_remove_loop entry_remove_loop size_erased)
theorem Qi6 (l:Addr) (its:Array Value) (n:Nat) (x:Value) (j:Nat) (hj:j<its.size) (big:its.size<=sizeLine) (k:Nat) :
  ∀i:Nat,j-i=k->i<=j->Meets (Builtin.«list.remove.loop» ⟨[.ref l,x,rawInt i],[]⟩)
   (λA R s=>s.heap.get? l=some { cls:=.type "list",dict:=none,data:=.seq its n,slots:=#[] }/\SeqAt.EqAt A.in1 s its[j] x true/\(∀m (hm:m<its.size),m<j->SeqAt.EqAt A.in1 s its[m] x false)/\R (.ok (.ret .none)) { s with heap:=s.heap.update l (Obj.mapSeq λxs=>xs.eraseIdxIfInBounds j) }):=by
 induction k with
 | zero =>
  intro i hk le prog w A R s h
  obtain ⟨hp,g,d,tk,os⟩:=s;obtain ⟨hl,yes,no,h⟩:=h
  obtain rfl:i=j:=by omega
  wp_walk using wpAny_loadPart' hl
  have at_:its[((i:Nat):Int).toNat]? = some its[i]:=by simp [hj]
  rw [at_]
  refine wpAny_bind (yes prog w _ _ ?_)
  have Qi0:(its.eraseIdxIfInBounds i).size<=sizeLine+1:=Nat.le_trans (size_erased its _) (Nat.le_succ_of_le big)
  wp_walk using (wpAny_updateSeq hl rfl (hz:=big) (_hz':=Qi0)),wpAny_loadPart' hl
  simpa using h
 | succ k ih =>
  intro i hk le prog w A R s h
  obtain ⟨hp,g,d,tk,os⟩:=s;obtain ⟨hl,yes,no,h⟩:=h
  have lt:i<its.size:=by omega
  wp_walk using wpAny_loadPart' hl
  have at_:its[((i:Nat):Int).toNat]? = some its[i]:=by simp [lt]
  have up:((i:Int)+1)=((i+1:Nat):Int):=by push_cast;rfl
  rw [at_]
  refine wpAny_bind (no i lt (by omega) prog w _ _ ?_)
  wp_walk
  rw [up]
  exact ⟨plainId_quiet plain_remove_loop _,codeAny_builtin entry_remove_loop (by
   rw [Around.under_plainId plain_remove_loop _]
   exact ih (i+1) (by omega) (by omega) prog w A R _ ⟨hl,yes,no,h⟩)⟩
theorem Qi7 (l:Addr) (its:Array Value) (n:Nat) (x:Value) (j:Nat) (hj:j<its.size) (big:its.size<=sizeLine) :
  Meets (Builtin.«list.remove» ⟨[.ref l,x],[]⟩)
   (λA R s=>s.heap.get? l=some { cls:=.type "list",dict:=none,data:=.seq its n,slots:=#[] }/\SeqAt.EqAt A.in1 s its[j] x true/\(∀m (hm:m<its.size),m<j->SeqAt.EqAt A.in1 s its[m] x false)/\R (.ok (.ret .none)) { s with heap:=s.heap.update l (Obj.mapSeq λxs=>xs.eraseIdxIfInBounds j) }):=by
 intro prog w A R s h
 obtain ⟨hp,g,d,tk,os⟩:=s;obtain ⟨hl,yes,no,h⟩:=h
 wp_walk using wpAny_loadPart' hl
 exact ⟨plainId_quiet plain_remove_loop _,codeAny_builtin entry_remove_loop (by
  rw [Around.under_plainId plain_remove_loop _]
  exact Qi6 l its n x j hj big _ 0 rfl (Nat.zero_le _) prog w A R _ ⟨hl,yes,no,h⟩)⟩
def Qjb:V->List V->Hp->VK->Prop:=λx vs H Q=>∃(l:Addr) (xs:List V) (y:V) (ds:List Dat) (d:Dat) (n i:Nat),x=.ref l/\vs=[y]/\H l=some (.lst xs)/\DVs H xs ds/\DV H y d/\(∀e∈ds,kqdOk n e=true)/\kqdOk n d=true/\n<=9/\ds[i]? = some d/\(∀j e,j<i->ds[j]? = some e->e≠d)/\Q .non (upd H l (.lst (xs.eraseIdx i)))
theorem DVs.get {H:Hp}:∀{xs:List V} {ds:List Dat} {i:Nat} {x:V},DVs H xs ds->xs[i]? = some x->∃d,ds[i]? = some d/\DV H x d
 | _,_,_,_,.nil,e=>by simp at e
 | _,_,0,_,.cons p q,e=>by simp at e;subst e;exact ⟨_,rfl,p⟩
 | _,_,i+1,_,.cons p q,e=>by
  obtain ⟨d,h1,h2⟩:=DVs.get (i:=i) q (by simpa using e)
  exact ⟨d,by simpa using h1,h2⟩
theorem DVs.len {H:Hp}:∀{xs:List V} {ds:List Dat},DVs H xs ds->xs.length=ds.length
 | _,_,.nil=>rfl
 | _,_,.cons p q=>by simp [DVs.len q]
theorem Qfe (hu:X.A.units+66<cLine):MtM X "list.remove" Qjb:=by
 classical
 intro pins s σ H x vs v us Q I rx rv h
 obtain ⟨l,xs,y,ds,d,n,i,rfl,rfl,hH,dxs,dy,hds,hd,hn,hi,hno,q⟩:=h
 cases rx
 obtain ⟨u,rfl,ru⟩:=rv.one
 obtain ⟨z,its,c,r,hl,e⟩:=I.lstM hH
 obtain ⟨bs,rb⟩:=dy.reads I.hok ru
 have lenD:=dxs.len
 have hil:i<its.length:=by
  have:=(List.getElem?_eq_some_iff.mp hi).1
  omega
 -- the data of an item
 have dat:∀(m:Nat) (hm:m<its.length),∃e as,ds[m]? = some e/\Reads s.heap its[m] (kqdP e) as/\kqdOk n e=true:=λm hm=>by
  have hx:xs[m]? = some (xs[m]'(by omega)):=List.getElem?_eq_getElem (by omega)
  obtain ⟨e,e1,e2⟩:=dxs.get hx
  obtain ⟨w,w1,w2⟩:=r.get hx
  rw [List.getElem?_eq_getElem hm] at w1
  cases w1
  obtain ⟨as,ra⟩:=e2.reads I.hok w2
  exact ⟨e,as,e1,ra,hds e (List.mem_of_getElem? e1)⟩
 have eqs:∀(B:Around) (m:Nat) (hm:m<its.length),B.units+64<cLine->∃e,ds[m]? = some e/\SeqAt.EqAt B s its[m] u (decide (e=d)):=λB m hm hB=>by
  obtain ⟨e,as,e2,ra,he⟩:=dat m hm
  refine ⟨e,e2,?_⟩
  rw [← X6 he hd]
  exact SeqAt.eqAt_reads (kqdP e) (kqdP d) B s _ u as bs ra rb (SeqAt.canLay_of_shaped (Jp he hn)) (SeqAt.canLay_of_shaped (Jp hd hn)) (SeqAt.room_of_shaped (Jp he hn) hB)
 have hB:X.A.in1.units+64<cLine:=by
  show X.A.units+1+64<cLine
  omega
 refine call_meets F.slot_list_remove ⟨_,e,rfl⟩ F.entry_list_remove (F.args_list_remove_2 _ _) (Qi7 l its.toArray c u i (by simpa using hil) (by rw [List.size_toArray];omega)) ⟨e,?_,λm hm hlt=>?_,?_⟩
 ·obtain ⟨e',e1,e2⟩:=eqs X.A.in1 i hil hB
  rw [hi] at e1
  cases e1
  rw [decide_eq_true rfl] at e2
  simpa using e2
 ·have hm':m<its.length:=by simpa using hm
  obtain ⟨e',e1,e2⟩:=eqs X.A.in1 m hm' hB
  rw [decide_eq_false (hno m e' hlt e1)] at e2
  simpa using e2
 ·refine ⟨.non,_,I.lset (its':=its.eraseIdx i) hH e ?_ (r.eraseIdx i) ?_,rfl,q⟩
  ·show its.toArray.eraseIdxIfInBounds i=(its.eraseIdx i).toArray
   rw [List.eraseIdxIfInBounds_toArray]
  ·have:=Gd xs i
   omega
end L2
variable {i:Nat}
namespace M
structure Tw (n:Nat) (A:Nat->Int) (g:Nat->Nat):Prop where
 lt:∀i,i<n->g i<n
 ne:∀i,i<n->g i≠i
 eq:∀i,i<n->A (g i)=A i
 only:∀i k,i<n->k<n->A k=A i->k=i\/k=g i
theorem Tw.inv {A:Nat->Int} {g:Nat->Nat} (T:Tw n A g) (h:i<n):g (g i)=i:=by
 rcases T.only (g i) i (T.lt i h) h (T.eq i h).symm with z | z
 ·exact absurd z.symm (T.ne i h)
 ·exact z.symm
end M
namespace L2
open PySem PySem.Spec PyProof.Rows
structure Lam where
 qual:Str
 args:Arguments
 body:Expr
 scope:Scope
 names:List Str
end L2
variable {xs:List L2.V} {L:L2.Lam} {cs:List PySem.Addr} {Q':L2.VK}
namespace L2
open PySem PySem.Spec PyProof.Rows
abbrev anyO:HO:=.ext λ_=>True
abbrev Lam.obj (L:Lam) (cl:List (Str × Addr)) (pm:Value) (c':Addr) (ctv:Value):Obj:=PySem.W.kla_obj "<lambda>" L.qual L.args L.body L.scope cl pm c' ctv
def V6 (H:Hp) (L:Lam) (a:Addr) (cl:List (Str × Addr)):Prop :=
 ∃(c':Addr) (oc:Obj) (vs:Array Value) (t:Tok) (pm ctv:Value) (u:HO),H a=some (.frz (L.obj cl pm c' ctv) anyO)/\H c'=some (.frz oc u)/\oc.data=.fields vs/\vs[1]? = some (.str L.qual t)
def Js (H:Hp):List (Str × Addr)->List V->Prop
 | [],[]=>True
 | p::cl,x::xs=>(∃oo v,H p.2=some (.frz oo anyO)/\oo.data=.cell (some v)/\RelV x v)/\Js H cl xs
 | _,_=>False
def Qd7 (H:Hp) (L:Lam) (a:Addr) (xs:List V):Prop :=
 ∃cl:List (Str × Addr),V6 H L a cl/\cl.map (·.1)=L.names/\(cl.map (·.2)).Nodup/\Js H cl xs
theorem V6.keeps (hi:∀b o u,H b=some (.frz o u)->H' b=some (.frz o u)) (x:V6 H L a cl):V6 H' L a cl:=by
 obtain ⟨c',oc,vs,t,pm,ctv,u,h1,h2,r⟩:=x
 exact ⟨c',oc,vs,t,pm,ctv,u,hi _ _ _ h1,hi _ _ _ h2,r⟩
theorem Js.keeps (hi:∀b o u,H b=some (.frz o u)->H' b=some (.frz o u)):∀{cl:List (Str × Addr)} {xs:List V},Js H cl xs->Js H' cl xs
 | [],[],_=>trivial
 | p::cl,x::xs,⟨⟨oo,v,h1,r⟩,q⟩=>⟨⟨oo,v,hi _ _ _ h1,r⟩,Js.keeps hi q⟩
 | [],_::_,h=>h.elim
 | _::_,[],h=>h.elim
theorem Qd7.keeps (hi:∀b o u,H b=some (.frz o u)->H' b=some (.frz o u)) (x:Qd7 H L a xs):Qd7 H' L a xs:=by
 obtain ⟨cl,h1,h2,h3,h4⟩:=x
 exact ⟨cl,h1.keeps hi,h2,h3,h4.keeps hi⟩
theorem Js.mem:∀{cl:List (Str × Addr)} {xs:List V},Js H cl xs->∀p∈cl,∃oo v,H p.2=some (.frz oo anyO)/\oo.data=.cell (some v)
 | p::cl,x::xs,⟨⟨oo,v,h1,h2,_⟩,q⟩,p',h=>by
  rcases List.mem_cons.mp h with rfl | h
  ·exact ⟨oo,v,h1,h2⟩
  ·exact Js.mem q p' h
 | _::_,[],h,_,_=>h.elim
theorem Js.length:∀{cl:List (Str × Addr)} {xs:List V},Js H cl xs->cl.length=xs.length
 | [],[],_=>rfl
 | p::cl,x::xs,⟨_,q⟩=>by rw [List.length_cons,List.length_cons,Js.length q]
 | [],_::_,h=>h.elim
 | _::_,[],h=>h.elim
theorem Js.get:∀{cl:List (Str × Addr)} {xs:List V} {i:Nat} {x:V},Js H cl xs->xs[i]? = some x->∃p oo v,cl[i]? = some p/\H p.2=some (.frz oo anyO)/\oo.data=.cell (some v)/\RelV x v
 | p::cl,x::xs,0,y,⟨⟨oo,v,h⟩,q⟩,e=>by
  simp at e;subst e
  exact ⟨p,oo,v,by simp,h⟩
 | p::cl,x::xs,i+1,y,⟨_,q⟩,e=>by
  obtain ⟨p',oo,v,h⟩:=Js.get (i:=i) q (by simpa using e)
  exact ⟨p',oo,v,by simpa using h⟩
 | [],[],_,_,_,e=>by simp at e
 | [],_::_,_,_,h,_=>h.elim
 | _::_,[],_,_,h,_=>h.elim
def rmC (H:Hp) (cs:List Addr):Hp:=λb=>if b∈cs then none else H b
def putC (H2 H:Hp) (cs:List Addr):Hp:=λb=>if b∈cs then H b else H2 b
theorem Qal (h:b∈cs):rmC H cs b=none:=if_pos h
theorem Jq (h:b∉cs):rmC H cs b=H b:=if_neg h
theorem Zw (h:H b=none):rmC H cs b=none:=by unfold rmC;split <;> first | rfl | exact h
theorem Qby (h:b∈cs):putC H2 H cs b=H b:=if_pos h
theorem Yc (h:b∉cs):putC H2 H cs b=H2 b:=if_neg h
def Yj (H:Hp) (cs:List Addr):Prop:=∀b∈cs,∃oo v,H b=some (.frz oo anyO)/\oo.data=.cell v
theorem Yj.out (c:Yj H cs) (e:H b=some o) (n:∀oo v,o=.frz oo anyO->oo.data=.cell v->False):b∉cs:=λhb=>by
 obtain ⟨oo,v,e1,e2⟩:=c b hb
 rw [e] at e1
 cases e1
 exact n oo v rfl e2
theorem HOk.rm (ok:HOk P w H h) (c:Yj H cs):HOk P w (rmC H cs) h:=λa o e=>by
 have ha:a∉cs:=λz=>by rw [Qal z] at e;cases e
 rw [Jq ha] at e
 refine (ok a o e).stay (λb u _ q=>q) (λb q=>?_) (λb xs q=>?_) λb u v vs q hd=>?_
 ·rw [Jq (c.out q λ_ _ z _=>by cases z)];exact q
 ·rw [Jq (c.out q λ_ _ z _=>by cases z)];exact q
 ·rw [Jq (c.out q λoo v z hd'=>by cases z;rw [hd] at hd';cases hd')];exact q
theorem Env0.rm (e:Env0 P w K mg base A outer s H) (c:Yj H cs):Env0 P w K mg base A outer s (rmC H cs) :=
 ⟨e.frames,e.mod,λb o q=>⟨(e.bs b o q).1,Zw (e.bs b o q).2⟩,e.bsz,e.funs,λb hb=>Zw (e.frf b hb),e.hok.rm c,e.bare⟩
theorem CE.back {Q:VK} (e:Env0 P w K mg base A outer s H) (c:Yj H cs) (x:CE outer P w (rmC H cs) s Q' u s') (hq:∀v H2,(∀b∈cs,H2 b=none)->Q' v H2->Q v (putC H2 H cs)):CE outer P w H s Q u s':=by
 obtain ⟨v,H2,os,bare,un,hok,r,q⟩:=x
 have gone:∀b∈cs,H2 b=none:=λb hb=>by
  obtain ⟨oo,v,e1,_⟩:=c b hb
  obtain ⟨e2,_⟩:=e.hok b _ e1
  exact un.free b _ e2 (Qal hb) (by simp)
 have outN:∀b,H b=none->b∉cs:=λb n hb=>by
  obtain ⟨oo,v,e1,_⟩:=c b hb
  rw [n] at e1;cases e1
 have out2:∀b o,H2 b=some o->b∉cs:=λb o q hb=>by rw [gone b hb] at q;cases q
 refine ⟨v,putC H2 H cs,os,bare,⟨λb o q n=>un.keep b o q (Zw n),λb o q n=>un.slot b o q (Zw n),λb o q n hx=>?_,un.there,λb xs q=>?_,λb o v' q=>?_,λb ps q=>?_⟩,λa o q=>?_,r,hq v H2 gone q⟩
 ·rw [Yc (outN b n)];exact un.free b o q (Zw n) hx
 ·have z:=c.out q λ_ _ z _=>by cases z
  rw [Yc z];exact un.tups b xs (by rw [Jq z];exact q)
 ·by_cases z:b∈cs
  ·rw [Qby z];exact q
  ·rw [Yc z];exact un.frzs b o v' (by rw [Jq z];exact q)
 ·have z:=c.out q λ_ _ z _=>by cases z
  obtain ⟨more,e1⟩:=un.tbls b ps (by rw [Jq z];exact q)
  exact ⟨more,by rw [Yc z];exact e1⟩
 ·by_cases z:a∈cs
  ·rw [Qby z] at q
   obtain ⟨oo,v',e1,_⟩:=c a z
   rw [e1] at q
   cases q
   obtain ⟨e2,_⟩:=e.hok a _ e1
   have e3:=un.keep a _ e2 (Qal z) (λhb=>by rw [e.frf a hb] at e1;cases e1) (by simp)
   exact ⟨e3,trivial,⟨_,e3⟩,λ_ _ _ _=>trivial⟩
  ·rw [Yc z] at q
   refine (hok a o q).stay (λb u _ q=>q) (λb q=>?_) (λb xs q=>?_) λb u v vs q _=>?_
   ·rw [Yc (out2 b _ q)];exact q
   ·rw [Yc (out2 b _ q)];exact q
   ·rw [Yc (out2 b _ q)];exact q
def addC (H:Hp) (h:Heap) (cs:List Addr):Hp:=λb=>if b∈cs then (h.get? b).map λo=>.frz o anyO else H b
theorem Qad {o:Obj} (hb:b∈cs) (e:h.get? b=some o):addC H h cs b=some (.frz o anyO):=by unfold addC;rw [if_pos hb,e];rfl
theorem Yd (hb:b∉cs):addC H h cs b=H b:=if_neg hb
theorem V5 (n:∀b∈cs,H b=none):∀b o,H b=some o->addC H h cs b=some o:=λb o e=>by
 rw [Yd λhb=>by rw [n b hb] at e;cases e];exact e
theorem HOk.addC {h:Heap} (ok:HOk P w H h) (n:∀b∈cs,H b=none) (t:∀b∈cs,∃o,h.get? b=some o):HOk P w (addC H h cs) h:=λa o e=>by
 by_cases z:a∈cs
 ·obtain ⟨ob,eb⟩:=t a z
  rw [Qad z eb] at e
  cases e
  exact ⟨eb,trivial,⟨_,eb⟩,λ_ _ _ _=>trivial⟩
 ·rw [Yd z] at e
  exact (ok a o e).stay (λb u _ q=>q) (λb q=>V5 n b _ q) (λb xs q=>V5 n b _ q) λb u v vs q _=>V5 n b _ q
theorem Env0.addC (e:Env0 P w K mg base A outer s H) (n:∀b∈cs,H b=none) (t:∀b∈cs,∃o,s.heap.get? b=some o) (hb:∀b∈cs,base.get? b=none) (hf:∀b∈cs,b∉frs outer):Env0 P w K mg base A outer s (addC H s.heap cs) :=
 ⟨e.frames,e.mod,λb o q=>⟨(e.bs b o q).1,by rw [Yd λz=>by rw [hb b z] at q;cases q];exact (e.bs b o q).2⟩,e.bsz,e.funs,λb z=>by rw [Yd λy=>hf b y z];exact e.frf b z,e.hok.addC n t,e.bare⟩
theorem CE.unC {Q:VK} (n:∀b∈cs,H b=none) (t:∀b∈cs,∃o,s.heap.get? b=some o/\∃v,o.data=.cell v) (x:CE outer P w (addC H s.heap cs) s Q' u s') (hq:∀v H2,Yj H2 cs->Q' v H2->Q v (rmC H2 cs)):CE outer P w H s Q u s':=by
 obtain ⟨v,H2,os,bare,un,hok,r,q⟩:=x
 have isC:Yj H2 cs:=λb hb=>by
  obtain ⟨o,e,v,hv⟩:=t b hb
  exact ⟨o,v,un.frzs b o _ (Qad hb e),hv⟩
 have outS:∀b o,H b=some o->b∉cs:=λb o q hb=>by rw [n b hb] at q;cases q
 have kept:∀b∈cs,∀o,s.heap.get? b=some o->s'.heap.get? b=some o:=λb hb o e=>(hok b _ (un.frzs b o _ (Qad hb e))).1
 refine ⟨v,rmC H2 cs,os,bare,⟨λb o q n' hb hx=>?_,λb o q n' hb hx=>?_,λb o q n' hx=>?_,λb o q hx=>?_,λb xs q=>?_,λb o v' q=>?_,λb ps q=>?_⟩,hok.rm isC,r,hq v H2 isC q⟩
 ·by_cases z:b∈cs
  ·exact kept b z o q
  ·exact un.keep b o q (by rw [Yd z];exact n') hb hx
 ·by_cases z:b∈cs
  ·exact ⟨o.slots,kept b z o q⟩
  ·exact un.slot b o q (by rw [Yd z];exact n') hb hx
 ·by_cases z:b∈cs
  ·exact Qal z
  ·rw [Jq z];exact un.free b o q (by rw [Yd z];exact n') hx
 ·exact un.there b o q hx
 ·have z:=outS b _ q
  rw [Jq z];exact un.tups b xs (by rw [Yd z];exact q)
 ·have z:=outS b _ q
  rw [Jq z];exact un.frzs b o v' (by rw [Yd z];exact q)
 ·have z:=outS b _ q
  obtain ⟨more,e⟩:=un.tbls b ps (by rw [Yd z];exact q)
  exact ⟨more,by rw [Jq z];exact e⟩
end L2
variable {more:Array PySem.Value} {clos:List (PySem.Str × PySem.Addr)}
namespace L2
open PySem PySem.Spec PyProof.Rows
open PySem.W (kla_obj kla_fn envX CodeHd codeHd_of_K codeHdIn tabObj)
def Zu (mg:Str->Option Value) (base:Heap):Prop:=∃bm ob,mg "__builtins__" = some (.ref bm)/\bm≠builtinsNs/\base.get? bm=some ob/\ob.cls=.type "module" /\ ob.dict=some builtinsNs/\ob.data=.plain
def Tabs (TB:List (Addr × Array Value)) (H:Hp):Prop:=∀p∈TB,∃more,H p.1=some (.tbl (p.2++more))
theorem Tabs.un {TB:List (Addr × Array Value)} {fs:List Addr} (t:Tabs TB H) (u:Un fs ex H H' h h'):Tabs TB H':=λp hp=>by
 obtain ⟨m,e⟩:=t p hp
 obtain ⟨m2,e2⟩:=u.tbls _ _ e
 exact ⟨m++m2,by rw [e2,Array.append_assoc]⟩
abbrev tgOf (pos:Pos) (q:Str):Array Value:=#[rawInt pos.line,rawInt pos.col,.str q 0]
theorem tg0 {a b c:Value}:(#[a,b,c]++more).getD 0 .none=a:=by rw [Array.getD_eq_getD_getElem?,Array.getElem?_append_left (by show 0<3;decide)];rfl
theorem tg1 {a b c:Value}:(#[a,b,c]++more).getD 1 .none=b:=by rw [Array.getD_eq_getD_getElem?,Array.getElem?_append_left (by show 1<3;decide)];rfl
theorem tg2 {a b c:Value}:(#[a,b,c]++more).getD 2 .none=c:=by rw [Array.getD_eq_getD_getElem?,Array.getElem?_append_left (by show 2<3;decide)];rfl
theorem Ql0 {c P:Addr} {lpos:Pos} (hcode:X.env.code=.ref c) (hd:codeHdIn X.K c P=true) (hT:∃more,X.H₀ P=some (.tbl (tgOf lpos L.qual++more))) (hb:Zu X.mg X.base)
  (hq:X.env.qual ++ "<lambda>" = L.qual:=by rfl) (hcl:closureFor L.scope X.env=pure clos:=by rfl) (hdef:defaultsOf L.args X.env=([],[]):=by rfl) :
  PE X (.Lambda L.args L.body L.scope lpos) (λσ H Q=>∀f H',H f=none->Same H H'->V6 H' L f clos->Q (.ref f) H'):=by
 intro pins s σ H Q I h
 refine PySem.W.kla_eval hdef ?_
 rw [hq]
 obtain ⟨more0,e0⟩:=hT
 obtain ⟨more,eP⟩:=I.base.tbls P _ e0
 rw [Array.append_assoc] at eP
 obtain ⟨ts,eT,alt⟩:=I.hok P _ eP
 rw [tg0,tg1,tg2] at alt
 obtain ⟨bm,ob,b1,b2,b3,b4,b5,b6⟩:=hb
 have hbm:=I.bs bm ob b3
 have hPbm:bm≠P:=λz=>by rw [z] at hbm;rw [eP] at hbm;cases hbm.2
 obtain ⟨og,esg,epg,eg,dg,rg⟩:=id I.mod.glob
 have hGP:mainGlobals≠P:=λz=>by
  have:=(I.bs _ og eg).2
  rw [z,eP] at this;cases this
 have hbmG:bm≠mainGlobals:=λz=>by
  rw [z,eg] at b3
  cases b3
  rw [dg] at b6;cases b6
 have hgl:s.heap.Ns mainGlobals X.mg:=I.mod.glob.keeps I.bk
 have BA:s.heap.BuiltinsAt X.mg P:=⟨bm,ob,b1,b2,hbmG,hPbm,hbm.1,b4,b5,b6⟩
 have C:CodeHd s.heap c P:=codeHd_of_K I.kIn hd
 rcases alt with rfl | ⟨k,oc,u,vs,t,q,t',z1,z2,z3,z4,z5⟩
 ·refine PySem.W.kla_makeFunction hcl I.ok.glob hgl hcode C eT trivial rfl hGP BA λc' ctv h' tk hx hge hlt hrec htb=>?_
  obtain ⟨c2,oc,vs,t,e2,hoc,hod,hv⟩:=hrec
  cases e2
  generalize hpm:(X.mg "__name__").getD .none=pm
  have hcn:H c'=none:=I.hok.fresh hge
  have hfn:H h'.objs.size=none:=I.hok.fresh (Nat.le_trans hge (Nat.le_of_lt hlt))
  have hfc:h'.objs.size≠c':=Nat.ne_of_gt hlt
  have old:∀b o,s.heap.get? b=some o->b≠P->(h'.push (L.obj clos pm c' ctv)).get? b=some o:=λb o e n=>Heap.get?_push_of_some _ (hx b o n e)
  have lt:∀b o,s.heap.get? b=some o->b≠h'.objs.size/\b≠c':=λb o e=>⟨Nat.ne_of_lt (Nat.lt_trans (Nat.lt_of_lt_of_le (Heap.lt_size e) hge) hlt),Nat.ne_of_lt (Nat.lt_of_lt_of_le (Heap.lt_size e) hge)⟩
  have nP:∀b,H b=none->b≠P:=λb n z=>by rw [z,eP] at n;cases n
  have sm:∀b o,H b=some o->upd (upd H c' (.frz oc anyO)) h'.objs.size (.frz (L.obj clos pm c' ctv) anyO) b=some o:=λb o e=>by
   rw [Qm (Qq e hfn),Qm (Qq e hcn)];exact e
  have hc2:upd (upd H c' (.frz oc anyO)) h'.objs.size (.frz (L.obj clos pm c' ctv) anyO) c'=some (.frz oc anyO):=by rw [Qm (Ne.symm hfc),Qg]
  have I':Inv X pins σ (upd (upd H c' (.frz oc anyO)) h'.objs.size (.frz (L.obj clos pm c' ctv) anyO)) { s with heap:=h'.push (L.obj clos pm c' ctv),toks:=tk }:=by
   refine I.un ⟨λb o e n _ _=>old b o e (nP b n),λb o e n _ _=>⟨o.slots,old b o e (nP b n)⟩,λb o e n _=>?_,λb o e _=>?_,λb xs e=>sm _ _ e,λb o v e=>sm _ _ e,λb ps e=>⟨#[],by rw [sm _ _ e];simp⟩⟩ λa o e=>?_
   ·rw [Qm (lt b o e).1,Qm (lt b o e).2];exact n
   ·by_cases z:b=P
    ·exact ⟨_,by rw [z];exact Heap.get?_push_of_some _ htb⟩
    ·exact ⟨_,old b o e z⟩
   ·by_cases z1:a=h'.objs.size
    ·subst z1
     rw [Qg] at e
     cases e
     have e3:=Heap.get?_push_size h' (o:=L.obj clos pm c' ctv) rfl
     exact ⟨e3,trivial,⟨_,e3⟩,λ_ _ _ _=>trivial⟩
    ·rw [Qm z1] at e
     by_cases z2:a=c'
     ·subst z2
      rw [Qg] at e
      cases e
      have e3:=Heap.get?_push_of_some (L.obj clos pm a ctv) hoc
      exact ⟨e3,trivial,⟨_,e3⟩,λ_ _ _ _=>trivial⟩
     ·rw [Qm z2] at e
      by_cases z3:a=P
      ·subst z3
       rw [eP] at e
       cases e
       refine ⟨_,Heap.get?_push_of_some _ htb,.inr ⟨c',oc,anyO,vs,t,L.qual,0,?_,hc2,hod,tg2,hv⟩⟩
       rw [tg0,tg1];rfl
      ·refine (I.hok a o e).stay (λb u hb q=>old b u q λz=>?_) (λb q=>sm _ _ q) (λb xs q=>sm _ _ q) λb u v vs q _=>sm _ _ q
       rcases hb with hb | hb
       ·exact z3 (hb ▸ z)
       ·rw [z,eP] at hb;cases hb
  exact ⟨.ref h'.objs.size,_,I',rfl,h _ _ hfn sm ⟨c',oc,vs,t,pm,ctv,anyO,Qg,hc2,hod,hv⟩⟩
 ·cases z4
  refine PySem.W.kla_makeFunctionHit (cv:=.ref k) hcl I.ok.glob hgl hcode C eT (by rw [z1];exact trivial) (by rw [z1];simp [codeAmong,rawInt]) BA λctv h' tk hk hsz=>?_
  generalize hpm:(X.mg "__name__").getD .none=pm
  have hfn:H h'.objs.size=none:=I.hok.fresh hsz
  have e3:=Heap.get?_push_size h' (o:=L.obj clos pm k ctv) rfl
  have sm:∀b o,H b=some o->upd H h'.objs.size (.frz (L.obj clos pm k ctv) anyO) b=some o:=λb o e=>by rw [Qm (Qq e hfn)];exact e
  exact ⟨.ref h'.objs.size,_,I.laid (o:=.frz (L.obj clos pm k ctv) anyO) (λb o e=>Heap.get?_push_of_some _ (hk b o e)) hsz ⟨e3,trivial,⟨_,e3⟩,λ_ _ _ _=>trivial⟩,rfl,h _ _ hfn sm ⟨k,oc,vs,t,pm,ctv,u,Qg,sm _ _ z2,z3,z5⟩⟩
def Qae (P:Program) (w:World) (K:PySem.W.Frag) (mg:Str->Option Value) (base:Heap) (k:Nat) (L:Lam) (sp:Sp):Prop :=
 ∀(A:Around) (outer:List Env) (s:Shared) (H:Hp) (u:Value) (y:V) (xs:List V) (a:Addr) (Q:VK),Room k A->Env0 P w K mg base A outer s H->Qd7 H L a xs->RelV y u->sp (y::xs) H Q E0 ->
  codeAny (model P w) A (.call (.ref a) ⟨[u],[]⟩) (CR CX0 outer P w H s Q E0) s
def Qh0 (P:Program) (w:World) (K:PySem.W.Frag) (mg:Str->Option Value) (base:Heap) (L:Lam) (p:Str) (f:Addr) (cd:Value) (cl:List (Str × Addr)) (A:Around) (outer:List Env) (s:Shared) (H:Hp):Cx where
 prog:=P
 w:=w
 K:=K
 mg:=mg
 base:=base
 A:=A.deeper (envX L.qual L.scope s.heap.objs.size f cd cl)
 N:=p::L.names
 s₀:=s
 H₀:=H
 env:=envX L.qual L.scope s.heap.objs.size f cd cl
 outer:=outer
 stack:=envX L.qual L.scope s.heap.objs.size f cd cl::outer
 ex:=[]
 calm:=true
 fn:=λx=>decide (x=p)
 pn:=[]
 xe:=λ_ _=>False
structure LamScope (L:Lam) (p:Str):Prop where
 kind:L.scope.kind=.function
 co:L.scope.isCoroutine=false
 gen:L.scope.isGenerator=false
 cell:∀x∈L.scope.names,x.2 ≠ .cell
 par:L.scope.names.lookup p=some .local
 free:∀x∈L.scope.names,x.2=.free->x.1∈L.names
 vis:∀x∈L.names,L.scope.names.lookup x=some .free
 nd:(p::L.names).Nodup
theorem Ga:∀{cl:List (Str × Addr)} {i:Nat} {q:Str × Addr},(cl.map (·.1)).Nodup->cl[i]? = some q->cl.lookup q.1=some q.2
 | p::cl,0,q,_,e=>by
  simp at e;subst e
  simp [List.lookup]
 | p::cl,i+1,q,nd,e=>by
  have nd':=List.nodup_cons.mp nd
  have e':cl[i]? = some q:=by simpa using e
  have:q.1≠p.1:=λz=>nd'.1 (by show p.1∈_;rw [← z];exact List.mem_map_of_mem (f:=λx:Str × Addr=>x.1) (List.mem_of_getElem? e'))
  obtain ⟨p1,p2⟩:=p
  rw [List.lookup_cons,show (q.1 == p1)=false by simpa using this]
  exact Ga nd'.2 e'
 | [],_,_,_,e=>by simp at e
theorem Qml {p:Str} (S:LamScope L p)
  (hbind:∀(cl:List (Str × Addr)) (pm cdv ct u:Value),bindArgs (kla_fn "<lambda>" L.qual L.args L.body L.scope cl pm cdv ct) ⟨[u],[]⟩=pure [(p,u)])
  (hbody:∀(A:Around) (outer:List Env) (s:Shared) (H:Hp) (f:Addr) (cd:Value) (cl:List (Str × Addr)) (y:V) (xs:List V) (Q:VK),Room k (A.deeper (envX L.qual L.scope s.heap.objs.size f cd cl))->Yj H (cl.map (·.2))->sp (y::xs) H Q E0 ->
   ∃t,PE (Qh0 P w K mg base L p f cd cl A outer s (rmC H (cl.map (·.2)))) L.body t/\t (some y::xs.map some) (rmC H (cl.map (·.2))) (λv H2=>(∀b∈cl.map (·.2),H2 b=none)->Q v (putC H2 H (cl.map (·.2))))) :
  Qae P w K mg base (k+1) L sp:=by
 intro A outer s H u y xs a Q hr e0 hc ry hsp
 obtain ⟨cl,⟨c',oc,vs,t,pm,ctv,u1,h1,h2,h3,h4⟩,hnm,hnd,hcs⟩:=hc
 have ha:=(e0.hok a _ h1).1
 have hcode:=(e0.hok c' _ h2).1
 have isC:Yj H (cl.map (·.2)):=λb hb=>by
  obtain ⟨q,hq,rfl⟩:=List.mem_map.mp hb
  obtain ⟨oo,v,e1,e2⟩:=hcs.mem q hq
  exact ⟨oo,_,e1,e2⟩
 have ndn:(cl.map (·.1)).Nodup:=by rw [hnm];exact (List.nodup_cons.mp S.nd).2
 have KX:K.In s.heap:=e0.mod.kin.keeps λb o e=>(e0.bs b o e).1
 have lim:s.heap.NoLimit:=e0.mod.nolimit.keeps λb o e=>(e0.bs b o e).1
 refine PySem.W.kla_callFunE hr.depth ha rfl S.co S.gen rfl ⟨c',oc,vs,t,rfl,hcode,h3,h4⟩ ?_
 rw [hbind]
 refine wpAny_pure (wpAny_newFunctionEnv S.cell (λz hz=>by rw [List.mem_singleton.mp hz];exact S.par) (λh₁ hns hsb=>⟨lim.fresh _ hsb,?_⟩) S.kind)
 show codeAny _ _ (.expr L.body (envX L.qual L.scope s.heap.objs.size a (.ref c') cl)) _ _
 have hk₁:∀b o,s.heap.get? b=some o->h₁.get? b=some o:=λb o e=>hsb.extBut b o (Nat.ne_of_lt (Heap.lt_size e)) (Heap.get?_push_of_some _ e)
 have er:=e0.rm isC
 obtain ⟨tt,ht,hq⟩:=hbody A outer s H a (.ref c') cl y xs Q (hr.deeper _) isC hsp
 have cellAt:∀x c,cl.lookup x=some c->∃v,h₁.IsCell c v:=λx c e=>by
  obtain ⟨oo,v,e1,e2⟩:=isC c (List.mem_map.mpr ⟨(x,c),PySem.mem_of_lookup e,rfl⟩)
  exact ⟨_,oo,hk₁ _ _ (e0.hok c _ e1).1,e2⟩
 have noA:∀b:Addr,b∉(Qh0 P w K mg base L p a (.ref c') cl A outer s (rmC H (cl.map (·.2)))).ex:=λb z=>absurd (show b∈([]:List Addr) from z) (by simp)
 have lkN:∀y c,cl.lookup y=some c->y∈L.names:=λy c e=>by rw [← hnm];exact List.mem_map.mpr ⟨(y,c),PySem.mem_of_lookup e,rfl⟩
 have I:Inv (Qh0 P w K mg base L p a (.ref c') cl A outer s (rmC H (cl.map (·.2)))) [] (some y::xs.map some) (rmC H (cl.map (·.2))) { s with heap:=h₁,toks:=s.toks+1 }:=by
  refine ⟨⟨e0.mod,S.kind,rfl,rfl,Nat.le_refl _,λy z c h1 h2=>?_,λy hy=>?_,λy c hf h=>?_,λ_=>hr.hd,Around.frames_deeper e0.frames,.inr ⟨rfl,rfl⟩,λb z=>absurd z (noA b),er.bs,er.bsz,λb _ _=>noA b,λb z=>absurd z (noA b),er.funs,er.frf⟩,
   rfl,e0.bare,Un.kept hk₁,⟨_,hns,λi z v h1 h2 h3=>?_⟩,cellAt,Zw (e0.hok.fresh (Nat.le_refl _)),λy c h=>Qal (List.mem_map.mpr ⟨(y,c),PySem.mem_of_lookup h,rfl⟩),λq hq=>absurd (show q∈([]:List (Addr × Obj)) from hq) (by simp),er.hok.kept hk₁,?_⟩
  ·have m1:=PySem.mem_of_lookup h1
   have m2:=PySem.mem_of_lookup h2
   obtain ⟨i,hi,e1⟩:=List.getElem_of_mem m1
   obtain ⟨j,hj,e2⟩:=List.getElem_of_mem m2
   have:i=j:=by
    have hi2:i<cl.length:=hi
    have hj2:j<cl.length:=hj
    have e1:cl[i]=_:=e1
    have e2:cl[j]=_:=e2
    have hi':i<(cl.map λq:Str × Addr=>q.2).length:=by rw [List.length_map];exact hi2
    have hj':j<(cl.map λq:Str × Addr=>q.2).length:=by rw [List.length_map];exact hj2
    exact (List.getElem_inj (h₀:=hi') (h₁:=hj') hnd).mp (by rw [List.getElem_map,List.getElem_map,e1,e2])
   subst this
   rw [e1] at e2
   cases e2;rfl
  ·have hy:L.scope.names.lookup y=some .cell\/L.scope.names.lookup y=some .free:=hy
   rcases hy with hy | hy
   ·exact absurd rfl (S.cell _ (PySem.mem_of_lookup hy))
   ·have:=S.free _ (PySem.mem_of_lookup hy) rfl
    rw [← hnm] at this
    obtain ⟨q,hq,e⟩:=List.mem_map.mp this
    obtain ⟨i,hi⟩:=List.getElem?_of_mem hq
    have e:q.1=y:=e
    exact ⟨q.2,by rw [← e];exact Ga ndn hi⟩
  ·have hf:decide (y=p)=true:=hf
   have:=of_decide_eq_true hf
   subst this
   exact absurd (lkN _ _ h) (List.nodup_cons.mp S.nd).1
  ·cases i with
   | zero =>
    simp at h2
    subst h2
    have:z=p:=by
     have h1:(p::L.names)[0]? = some z:=h1
     simpa using h1.symm
    subst this
    exact ⟨u,ry,.inl ⟨S.par,by simp [List.lookup]⟩⟩
   | succ i =>
    have hx:xs[i]? = some v:=by
     rw [List.getElem?_cons_succ,List.getElem?_map] at h2
     cases q:xs[i]? with
     | none=>rw [q] at h2;cases h2
     | some x=>rw [q] at h2;simp at h2;rw [h2]
    have hz:L.names[i]? = some z:=by
     have h1:(p::L.names)[i+1]? = some z:=h1
     simpa using h1
    obtain ⟨q,oo,uv,e1,e2,e3,e4⟩:=hcs.get hx
    have e5:q.1=z:=by
     rw [← hnm,List.getElem?_map,e1] at hz
     simpa using hz
    refine ⟨uv,e4,.inr ⟨.inr (S.vis z (List.mem_of_getElem? hz)),q.2,by rw [← e5];exact Ga ndn e1,oo,hk₁ _ _ (e0.hok q.2 _ e2).1,e3⟩⟩
  ·show (some y::xs.map some).length=(p::L.names).length
   rw [List.length_cons,List.length_map,List.length_cons,← hnm,List.length_map,hcs.length]
 refine PySem.W.kla_codeExpr (wpAny_mono (ht [] _ _ _ _ I hq) (λv s' hz=>?_) λe s' hz=>hz.elim)
 obtain ⟨v',H2,J,rv,q⟩:=hz
 have ce:CE outer P w (rmC H (cl.map (·.2))) s (λv H2=>(∀b∈cl.map (·.2),H2 b=none)->Q v (putC H2 H (cl.map (·.2)))) v s':=⟨v',H2,J.os,J.bare,J.base,J.hok,rv,q⟩
 exact CE.back e0 isC ce λv H2 hn hq=>hq hn
def capd (σ:St):List Nat->List V->Prop
 | [],[]=>True
 | i::ix,x::xs=>σ[i]? = some (some x)/\capd σ ix xs
 | _,_=>False
def Qaf (X:Cx):List Nat->List (Str × Addr)->Prop
 | [],[]=>True
 | i::ix,p::cl=>X.N[i]? = some p.1/\X.env.scope.names.lookup p.1=some .cell/\X.env.cells.lookup p.1=some p.2/\X.fn p.1=true/\Qaf X ix cl
 | _,_=>False
theorem Xl {pins:List (Addr × Obj)} {σ:St} {H H':Hp} {s:Shared} (I:Inv X pins σ H s):∀{ix:List Nat} {cl:List (Str × Addr)} {xs:List V},Qaf X ix cl->capd σ ix xs->(∀p∈cl,∀o,s.heap.get? p.2=some o->H' p.2=some (.frz o anyO))->Js H' cl xs
 | [],[],[],_,_,_=>trivial
 | i::ix,p::cl,x::xs,⟨h1,h2,h3,_,h5⟩,⟨g1,g2⟩,hk=>by
  obtain ⟨m,_,hl⟩:=I.loc
  obtain ⟨u,r,l⟩:=hl i p.1 x h1 g1 (.inr (.inl h2))
  refine ⟨?_,Xl I h5 g2 λq hq=>hk q (List.mem_cons_of_mem _ hq)⟩
  rcases l with ⟨k,_⟩ | ⟨_,c,e,oo,e1,e2⟩
  ·have k:X.env.scope.names.lookup p.1=some .local:=k
   rw [h2] at k;cases k
  ·rw [h3] at e
   cases e
   exact ⟨oo,u,hk p List.mem_cons_self oo e1,e2,r⟩
 | [],[],_::_,_,h,_=>h.elim
 | _::_,_::_,[],_,h,_=>h.elim
 | [],_::_,_,h,_,_=>h.elim
 | _::_,[],_,h,_,_=>h.elim
theorem Ug:∀{ix:List Nat} {cl:List (Str × Addr)},Qaf X ix cl->∀p∈cl,X.env.cells.lookup p.1=some p.2/\X.fn p.1=true
 | i::ix,q::cl,⟨_,_,h3,h4,h5⟩,p,h=>by
  rcases List.mem_cons.mp h with rfl | h
  ·exact ⟨h3,h4⟩
  ·exact Ug h5 p h
 | [],_::_,h,_,_=>h.elim
end L2
variable {kp:PySem.Pos} {lam:PySem.Expr}
namespace L2
open PySem PySem.Spec PyProof.Rows
theorem Inv.swap {q:Addr × Obj} {o':Obj} (I:Inv X (q::pins) σ H s) (kp:∀b o,b≠q.1->s.heap.get? b=some o->h'.get? b=some o) (e:h'.get? q.1=some o') (hd:∀v,o'.data ≠ .cell v)
  (hf:∀H,H q.1=none->FpOk X pins H q.1):Inv X ((q.1,o')::pins) σ H { s with heap:=h',toks:=t' }:=by
 obtain ⟨g1,g2,g3,g4,_⟩:=I.pin q (List.mem_append_right _ (.head _))
 obtain ⟨_,_,_,f1,f2,f3⟩:=hf H g2
 have I1:Inv X pins σ H s:=I.pins_of λp hp=>I.pin p (List.mem_append_right _ (.tail _ hp))
 have I2:Inv X pins σ H { s with heap:=h',toks:=t' }:=I1.turned kp g2 g3 f1 f2 f3
 refine I2.pins_of λp hp=>?_
 rcases List.mem_cons.mp hp with rfl | hp
 ·exact ⟨e,g2,g3,g4,hd⟩
 ·exact I2.pin p (List.mem_append_right _ hp)
theorem Inv.flip {p q:Addr × Obj} (I:Inv X (p::q::pins) σ H s):Inv X (q::p::pins) σ H s:=I.pins_of λr hr=>I.pin r (List.mem_append_right _ (by
 simp only [List.mem_cons] at hr ⊢
 rcases hr with h | h | h <;> simp [h]))
theorem Qj3 {Q:VK} (I:Inv X pins σ H s) (F:Qae X.prog X.w X.K X.mg X.base k L sp) (hr:Room k X.A.in1)
  (hc:Qaf X ix clos) (hn:clos.map (·.1)=L.names) (hnd:(clos.map (·.2)).Nodup) (cp:V6 H L f clos) (cx:capd σ ix xs) (r:RelV y u)
  (q:∀HA,Same H HA->sp (y::xs) HA (λv H3=>∀H4,(∀b ob,H3 b=some ob->(∀o u,ob ≠ .frz o u)->H4 b=some ob)->(∀b ob,H b=some ob->H3 b=some ob->H4 b=some ob)->Q v H4) E0) :
  wpAny (model X.prog X.w) X.A.in1 (call (.ref f) [u]) (EP X pins σ Q) (λ_ _=>False) s:=by
 have cN:∀b∈clos.map (·.2),H b=none:=λb hb=>by
  obtain ⟨q,hq,rfl⟩:=List.mem_map.mp hb
  exact I.freeC q.1 q.2 (Ug hc q hq).1
 have cT:∀b∈clos.map (·.2),∃o,s.heap.get? b=some o/\∃v,o.data=.cell v:=λb hb=>by
  obtain ⟨q,hq,rfl⟩:=List.mem_map.mp hb
  obtain ⟨v,o,ho,hd⟩:=I.cell q.1 q.2 (Ug hc q hq).1
  exact ⟨o,ho,v,hd⟩
 have cU:∀b∈clos.map (·.2),X.s₀.heap.objs.size<=b:=λb hb=>by
  obtain ⟨q,hq,rfl⟩:=List.mem_map.mp hb
  exact I.ok.cab q.1 q.2 (Ug hc q hq).2 (Ug hc q hq).1
 have cB:∀b∈clos.map (·.2),X.base.get? b=none:=λb hb=>Heap.get?_none_of_le (Nat.le_trans I.ok.bsz (cU b hb))
 have cF:∀b∈clos.map (·.2),b∉frs X.stack:=λb hb z=>by
  rcases List.mem_cons.mp (I.stkSub b z) with z | z
  ·obtain ⟨q,hq,rfl⟩:=List.mem_map.mp hb
   exact I.cne q.1 q.2 (Ug hc q hq).1 z
  ·obtain ⟨_,o,ho,_⟩:=I.ok.funs.mem z
   exact absurd (Nat.lt_of_lt_of_le (Heap.lt_size ho) (cU b hb)) (Nat.lt_irrefl _)
 have eA:=(I.env0.addC cN (λb hb=>let ⟨o,e,_⟩:=cT b hb;⟨o,e⟩) cB cF).in1
 have smA:Same H (addC H s.heap (clos.map (·.2))):=V5 cN
 have cA:Qd7 (addC H s.heap (clos.map (·.2))) L f xs:=⟨clos,cp.keeps λb o u e=>smA b _ e,hn,hnd,Xl I hc cx λq hq o e=>Qad (List.mem_map_of_mem hq) e⟩
 refine wpAny_call (codeAny_mono (F X.A.in1 X.stack s _ u y xs f _ hr eA cA r (q _ smA)) λr s' hq=>?_)
 cases r with
 | error e=>exact hq.elim
 | ok fl =>
  cases fl with
  | next=>exact False.elim hq
  | brk=>exact False.elim hq
  | cont=>exact False.elim hq
  | ret u =>
   refine I.after (CE.unC (Q:=Q) cN cT hq λv H3 isC hv=>hv _ (λb ob e nf=>?_) λb ob e e3=>?_)
   ·rw [Jq (isC.out e λo _ z _=>nf _ _ z)];exact e
   ·rw [Jq λhb=>by rw [cN b hb] at e;cases e];exact e3
def MkT (X:Cx) (σ:St) (H:Hp) (xs:List V) (ks:Nat->List Int) (key:Value):Prop :=
 ∀(j:Nat) (pins:List (Addr × Obj)) (Hj:Hp) (sj:Shared) (y:V) (u:Value),Inv X pins σ Hj sj->Same H Hj->xs[j]? = some y->RelV y u ->
  (key=.none->EP X pins σ (λv H'=>∃a,v=.ref a/\H' a=some (.tup ((ks j).map V.int))/\Same Hj H') u sj) /\
  ∀f,key=.ref f->wpAny (model X.prog X.w) X.A.in1 (call key [u]) (EP X pins σ λv H'=>∃a,v=.ref a/\H' a=some (.tup ((ks j).map V.int))/\Same Hj H') (λ_ _=>False) sj
abbrev btK (ks:Nat->List Int):Nat->Nat->Bool:=λi j=>HT.Vg (ks i) (ks j)
theorem Qj1 {S I:Addr} {key:Value} (hkey:key=.none\/∃f,key=.ref f) (hh:X.A.handled=none) (hu:X.A.in1.units<cLine)
  (hl:H l=some (.lst xs)) (hlI:l≠I) (hSI:S≠I) (fS:∀p H,H S=none->FpOk X ((I,p)::pins) H S) (fI:∀p H,H I=none->FpOk X ((S,p)::pins) H I)
  (turn:MkT X σ H xs ks key)
  (hR:∀(Hn:Hp) (sn:Shared) (y:V) (u:Value),Inv X pins σ Hn sn->Same H Hn->xs[argBest (btK ks) (xs.length-1)]? = some y->RelV y u->R (.ok (.ret u)) sn) :
  ∀(r j:Nat) (Hj:Hp) (sj:Shared) (vb:Value) (y:V) (a:Addr) (c:Nat) (oI:Obj),xs.length-(j+1)=r->j+1<=xs.length->Inv X ((S,seqObj "list" #[vb,.ref a] c)::(I,oI)::pins) σ Hj sj->sj.heap.IsListIter I l (j+1)->Same H Hj ->
   xs[argBest (btK ks) j]? = some y->RelV y vb->Hj a=some (.tup ((ks (argBest (btK ks) j)).map V.int))->codeAny (model X.prog X.w) X.A (.builtin "min.loop" ⟨[.ref I,key,.ref S],[]⟩) R sj:=by
 have hname:(toString "min" ++ toString ".loop" : String) = "min.loop":=by decide
 intro r
 induction r with
 | zero =>
  intro j Hj sj vb y a c oI hr hj J hit sm hy ry ha
  have hin:j+1=xs.length:=by omega
  have nS:=J.pin (S,seqObj "list" #[vb,.ref a] c) (List.mem_append_right _ (.head _))
  obtain ⟨hz,its,n,rv,hlen,e⟩:=J.lstM (sm _ _ hl)
  have hlst:sj.heap.IsList l its.toArray:=⟨_,e,rfl,n,rfl⟩
  refine codeAny_builtin PySem.F.entry_min_loop ?_
  rw [Around.under_plainId PySem.F.plain_min_loop _]
  show wpAny _ X.A.in1 (seqItems? (.ref S) >>= _) _ _ _
  refine wpAny_bind (wpAny_seqItems nS.1 rfl ?_)
  show wpAny _ X.A.in1 (tryCatch (pyNext (.ref I)) _ >>= _) _ _ _
  refine wpAny_bind (wpAny_tryCatch (wpAny_pyNext_list_end hh hit hlst (by rw [hin,hlen];simp) λh' hk'=>?_))
  have J0:Inv X ((S,seqObj "list" #[vb,.ref a] c)::pins) σ Hj sj:=J.flip.pins_of λp hp=>J.flip.pin p (List.mem_append_right _ (.tail _ hp))
  have nI:=J.pin (I,oI) (List.mem_append_right _ (.tail _ (.head _)))
  obtain ⟨_,_,_,f1,f2,f3⟩:=fI (seqObj "list" #[vb,.ref a] c) Hj nI.2.1
  have J1:Inv X ((S,seqObj "list" #[vb,.ref a] c)::pins) σ Hj { sj with heap:=h',toks:=sj.toks }:=J0.turned (λb o hb e=>hk' b o hb e) nI.2.1 nI.2.2.1 f1 f2 f3
  have nS1:=J1.pin (S,seqObj "list" #[vb,.ref a] c) (List.mem_append_right _ (.head _))
  show wpAny _ X.A.in1 (updateSeq S (λ_=>#[]) >>= _) _ _ _
  refine wpAny_bind ?_
  refine wpAny_updateSeq nS1.1 rfl (wpAny_bind (wpAny_letGo (wpAny_pure ?_)))
  have J2:=J1.swap (h':=h'.update S (Obj.mapSeq λ_=>(#[]:Array Value))) (t':=sj.toks) (λb o hb e=>(Heap.get?_update_other _ _ (Ne.symm hb)).trans e) (get?_update_seq nS1.1 λ_=>#[]) (λv z=>by cases z) λH hn=>by
   obtain ⟨z1,z2,z3,z4,z5,z6⟩:=fS oI H hn
   exact ⟨z1,z2,z3,z4,z5,λp hp=>z6 p ((List.mem_append.mp hp).elim (List.mem_append_left _) λh=>List.mem_append_right _ (.tail _ h))⟩
  exact hR Hj _ y vb (J2.pins_of λp hp=>J2.pin p (List.mem_append_right _ (.tail _ hp))) sm (by rw [← hin];exact hy) ry
 | succ r ih =>
  intro j Hj sj vb y a c oI hr hj J hit sm hy ry ha
  have hlt:j+1<xs.length:=by omega
  have nS:=J.pin (S,seqObj "list" #[vb,.ref a] c) (List.mem_append_right _ (.head _))
  obtain ⟨hz,its,n,rv,hlen,e⟩:=J.lstM (sm _ _ hl)
  have hlst:sj.heap.IsList l its.toArray:=⟨_,e,rfl,n,rfl⟩
  refine codeAny_builtin PySem.F.entry_min_loop ?_
  rw [Around.under_plainId PySem.F.plain_min_loop _]
  show wpAny _ X.A.in1 (seqItems? (.ref S) >>= _) _ _ _
  refine wpAny_bind (wpAny_seqItems nS.1 rfl ?_)
  show wpAny _ X.A.in1 (tryCatch (pyNext (.ref I)) _ >>= _) _ _ _
  obtain ⟨u,hu1,hu2⟩:=rv.get (List.getElem?_eq_getElem hlt)
  refine wpAny_bind (wpAny_tryCatch (wpAny_pyNext_list_item hit hlst (x:=u) (by simpa using hu1) λh' hit' hk'=>?_))
  obtain ⟨oI',hoI',hoc,hod⟩:=id hit'
  have J1:=J.flip.swap (h':=h') (t':=sj.toks) (o':=oI') (λb o hb e=>hk'.extBut b o hb e) hoI' (λv z=>by rw [hod] at z;cases z) (fI _)
  have J1:=J1.flip
  have turn1:=turn (j+1) _ Hj { sj with heap:=h',toks:=sj.toks } xs[j+1] u J1 sm (List.getElem?_eq_getElem hlt) hu2
  have rest:∀(x:Value) (s'':Shared),EP X ((S,seqObj "list" #[vb,.ref a] c)::(I,oI')::pins) σ (λv H'=>∃a,v=.ref a/\H' a=some (.tup ((ks (j+1)).map V.int))/\Same Hj H') x s'' ->
    ∃a2 H2,x=.ref a2/\Inv X ((S,seqObj "list" #[vb,.ref a] c)::(I,oI')::pins) σ H2 s''/\H2 a2=some (.tup ((ks (j+1)).map V.int))/\H2 a=some (.tup ((ks (argBest (btK ks) j)).map V.int))/\Same H H2:=by
   rintro x s'' ⟨v,H2,J2,rx,a2,rfl,ha2,sm2⟩
   exact ⟨a2,H2,rx,J2,ha2,sm2 _ _ ha,sm.trans sm2⟩
  have cmp:∀(a2:Addr) (H2:Hp) (s'':Shared) (Q:Value->Shared->Prop) (E:Value->Shared->Prop),Inv X ((S,seqObj "list" #[vb,.ref a] c)::(I,oI')::pins) σ H2 s''->H2 a2=some (.tup ((ks (j+1)).map V.int))->H2 a=some (.tup ((ks (argBest (btK ks) j)).map V.int)) ->
    Q (.bool (btK ks (j+1) (argBest (btK ks) j))) s''->wpAny (model X.prog X.w) X.A.in1 (richCompare .Lt (.ref a2) (.ref a)) Q E s'':=by
   intro a2 H2 s'' Q E J2 e2 e1 q
   obtain ⟨i1,r1,p1,_⟩:=J2.tuple (.inl (.inl e2))
   obtain ⟨i2,r2,p2,_⟩:=J2.tuple (.inl (.inl e1))
   exact HT.Qdx (A:=X.A.in1) p1 p2 (Uc r1) (Uc r2) hu q
  have fin1:∀(a2:Addr) (H2:Hp) (s'':Shared),Inv X ((S,seqObj "list" #[vb,.ref a] c)::(I,oI')::pins) σ H2 s''->H2 a2=some (.tup ((ks (j+1)).map V.int))->Same H H2->btK ks (j+1) (argBest (btK ks) j)=true ->
    codeAny (model X.prog X.w) X.A (.builtin "min.loop" ⟨[.ref I,key,.ref S],[]⟩) R { s'' with heap:=s''.heap.update S (Obj.mapSeq λ_=>#[u,.ref a2]) }:=by
   intro a2 H2 s'' J2 e2 sm2 hb
   have n2:=J2.pin (S,seqObj "list" #[vb,.ref a] c) (List.mem_append_right _ (.head _))
   have nI2:=J2.pin (I,oI') (List.mem_append_right _ (.tail _ (.head _)))
   have J3:=J2.swap (h':=s''.heap.update S (Obj.mapSeq λ_=>#[u,.ref a2])) (t':=s''.toks) (λb o hb e=>(Heap.get?_update_other _ _ (Ne.symm hb)).trans e) (get?_update_seq n2.1 λ_=>#[u,.ref a2]) (λv z=>by cases z) (fS _)
   have eb:argBest (btK ks) (j+1)=j+1:=by simp only [argBest,hb,if_true]
   refine ih (j+1) H2 _ u xs[j+1] a2 _ oI' (by omega) hlt J3 ⟨oI',(Heap.get?_update_other _ _ hSI).trans nI2.1,hoc,hod⟩ sm2 (by rw [eb];exact List.getElem?_eq_getElem hlt) hu2 (by rw [eb];exact e2)
  have fin0:∀(H2:Hp) (s'':Shared),Inv X ((S,seqObj "list" #[vb,.ref a] c)::(I,oI')::pins) σ H2 s''->H2 a=some (.tup ((ks (argBest (btK ks) j)).map V.int))->Same H H2->btK ks (j+1) (argBest (btK ks) j)=false ->
    codeAny (model X.prog X.w) X.A (.builtin "min.loop" ⟨[.ref I,key,.ref S],[]⟩) R s'':=by
   intro H2 s'' J2 e2 sm2 hb
   have nI2:=J2.pin (I,oI') (List.mem_append_right _ (.tail _ (.head _)))
   have eb:argBest (btK ks) (j+1)=argBest (btK ks) j:=by simp only [argBest,hb,Bool.false_eq_true,if_false]
   exact ih (j+1) H2 _ vb y a c oI' (by omega) hlt J2 ⟨oI',nI2.1,hoc,hod⟩ sm2 (by rw [eb];exact hy) ry (by rw [eb];exact e2)
  rcases hkey with rfl | ⟨f,rfl⟩
  ·obtain ⟨a2,H2,rfl,J2,e2,e1,sm2⟩:=rest u _ (turn1.1 rfl)
   have n2:=J2.pin (S,seqObj "list" #[vb,.ref a] c) (List.mem_append_right _ (.head _))
   show wpAny _ X.A.in1 (tryCatch (holding [.ref a2,.ref a2] (richCompare .Lt (.ref a2) (.ref a) >>= _)) _ >>= _) _ _ _
   refine wpAny_bind (wpAny_tryCatch (wpAny_holding (wpAny_bind (cmp a2 H2 _ _ _ J2 e2 e1 ?_))))
   refine wpAny_bind (wpAny_holding (wpAny_truthy_bool ?_))
   refine wpAny_bind (wpAny_letGo (wpAny_pure ?_))
   cases hb:btK ks (j+1) (argBest (btK ks) j) with
   | true =>
    simp only [if_true]
    refine wpAny_bind ?_
    refine wpAny_updateSeq n2.1 rfl (wpAny_bind (wpAny_letGo ?_))
    rw [hname]
    exact wpAny_pure ⟨plainId_quiet PySem.F.plain_min_loop _,fin1 a2 H2 _ J2 e2 sm2 hb⟩
   | false =>
    simp only [Bool.false_eq_true,if_false]
    refine wpAny_bind (wpAny_letGo ?_)
    rw [hname]
    exact wpAny_pure ⟨plainId_quiet PySem.F.plain_min_loop _,fin0 H2 _ J2 e1 sm2 hb⟩
  ·show wpAny _ X.A.in1 (tryCatch (holding [u] (call (.ref f) [u])) _ >>= _) _ _ _
   refine wpAny_bind (wpAny_tryCatch (wpAny_holding (wpAny_mono (turn1.2 f rfl) (λx s'' he=>?_) λ_ _ hF=>hF.elim)))
   obtain ⟨a2,H2,rfl,J2,e2,e1,sm2⟩:=rest x s'' he
   have n2:=J2.pin (S,seqObj "list" #[vb,.ref a] c) (List.mem_append_right _ (.head _))
   show wpAny _ X.A.in1 (tryCatch (holding [u,.ref a2] (richCompare .Lt (.ref a2) (.ref a) >>= _)) _ >>= _) _ _ _
   refine wpAny_bind (wpAny_tryCatch (wpAny_holding (wpAny_bind (cmp a2 H2 s'' _ _ J2 e2 e1 ?_))))
   refine wpAny_bind (wpAny_holding (wpAny_truthy_bool ?_))
   refine wpAny_bind (wpAny_letGo (wpAny_pure ?_))
   cases hb:btK ks (j+1) (argBest (btK ks) j) with
   | true =>
    simp only [if_true]
    refine wpAny_bind ?_
    refine wpAny_updateSeq n2.1 rfl (wpAny_bind (wpAny_letGo ?_))
    rw [hname]
    exact wpAny_pure ⟨plainId_quiet PySem.F.plain_min_loop _,fin1 a2 H2 s'' J2 e2 sm2 hb⟩
   | false =>
    simp only [Bool.false_eq_true,if_false]
    refine wpAny_bind (wpAny_letGo ?_)
    rw [hname]
    exact wpAny_pure ⟨plainId_quiet PySem.F.plain_min_loop _,fin0 H2 s'' J2 e1 sm2 hb⟩
theorem Qik {key:Value} {kw:List (Str × Value)} {Q:VK} (hkey:key=.none/\kw=[]\/∃f,key=.ref f/\kw=[(Str.ofString "key",key)]) (I:Inv X pins σ H s) (hh:X.A.handled=none) (hu:X.A.in1.units<cLine)
  (hl:H l=some (.lst xs)) (hne:0<xs.length) (turn:MkT X σ H xs ks key)
  (hQ:∀(Hn:Hp) (y:V),Same H Hn->xs[argBest (btK ks) (xs.length-1)]? = some y->Q y Hn) :
  wpAny (model X.prog X.w) X.A (call (.builtin "min") [.ref l] kw) (EP X pins σ Q) X.xe s:=by
 have hname:(toString "min" ++ toString ".loop" : String) = "min.loop":=by decide
 obtain ⟨hz,its,n,rv,hlen,e⟩:=I.lstM hl
 have hlst:s.heap.IsList l its.toArray:=⟨_,e,rfl,n,rfl⟩
 have hll:l<s.heap.objs.size:=Heap.lt_size e
 have hkey1:key=.none\/∃f,key=.ref f:=hkey.imp (λh=>h.1) λ⟨f,h,_⟩=>⟨f,h⟩
 generalize hI:s.heap.objs.size=I0 at hll
 generalize hS:(s.heap.push { cls:=.type "list_iterator",data:=.fields #[.ref l,.int 0 0] }).objs.size=S0
 have hSI1:S0=I0+1:=by rw [← hS,← hI];exact size_push' ..
 have hSI:S0≠I0:=by omega
 have hlI:l≠I0:=Nat.ne_of_lt hll
 let h2:Heap:=(s.heap.push { cls:=.type "list_iterator",data:=.fields #[.ref l,.int 0 0] }).push { cls:=.type "list",data:=.seq ([]:List Value).toArray }
 have old:∀b o,s.heap.get? b=some o->h2.get? b=some o:=λb o e=>Heap.get?_push_of_some _ (Heap.get?_push_of_some _ e)
 have gI:h2.get? I0=some { cls:=.type "list_iterator",data:=.fields #[.ref l,.int 0 0] }:=by
  rw [← hI];exact Heap.get?_push_of_some _ (Heap.get?_push_size _ rfl)
 have gS:h2.get? S0=some (seqObj "list" #[] 0):=by
  rw [← hS];exact Heap.get?_push_size _ rfl
 have hnI:H I0=none:=I.hok.fresh (by omega)
 have hnS:H S0=none:=I.hok.fresh (by omega)
 have fI:∀p H,H I0=none->FpOk X ((S0,p)::pins) H I0:=λp H' hn=>by
  obtain ⟨z1,z2,z3,z4,z5,z6⟩:=I.fpOk (b:=I0) (H':=H') (by omega) hn
  refine ⟨z1,z2,z3,z4,z5,λq hq=>?_⟩
  rcases List.mem_append.mp hq with hq | hq
  ·exact z6 q (List.mem_append_left _ hq)
  ·rcases List.mem_cons.mp hq with rfl | hq
   ·exact hSI
   ·exact z6 q (List.mem_append_right _ hq)
 have fS:∀p H,H S0=none->FpOk X ((I0,p)::pins) H S0:=λp H' hn=>by
  obtain ⟨z1,z2,z3,z4,z5,z6⟩:=I.fpOk (b:=S0) (H':=H') (by omega) hn
  refine ⟨z1,z2,z3,z4,z5,λq hq=>?_⟩
  rcases List.mem_append.mp hq with hq | hq
  ·exact z6 q (List.mem_append_left _ hq)
  ·rcases List.mem_cons.mp hq with rfl | hq
   ·exact Ne.symm hSI
   ·exact z6 q (List.mem_append_right _ hq)
 have I1:∀tk,Inv X pins σ H { s with heap:=h2,toks:=tk }:=λtk=>I.kept old
 have go:∀(tk:Nat) (R:Result->Shared->Prop),(∀(u:Value) (s':Shared),EP X pins σ Q u s'->R (.ok (.ret u)) s')->codeAny (model X.prog X.w) X.A (.builtin "min.loop" ⟨[.ref I0,key,.ref S0],[]⟩) R { s with heap:=h2,toks:=tk }:=by
  intro tk R hR
  have lp:=Qj1 (pins:=pins) (R:=R) hkey1 hh hu hl hlI hSI fS fI turn λHn sn y u J sm hy ry=>hR u sn ⟨y,Hn,J,ry,hQ Hn y sm hy⟩
  have J:Inv X ((S0,seqObj "list" #[] 0)::(I0,{ cls:=.type "list_iterator",data:=.fields #[.ref l,.int 0 0] })::pins) σ H { s with heap:=h2,toks:=tk }:=(I1 tk).pins_of λp hp=>by
   rcases List.mem_cons.mp hp with rfl | hp
   ·exact ⟨gS,hnS,(fS default H hnS).2.1,(fS default H hnS).2.2.1,λv z=>by cases z⟩
   ·rcases List.mem_cons.mp hp with rfl | hp
    ·exact ⟨gI,hnI,(fI default H hnI).2.1,(fI default H hnI).2.2.1,λv z=>by cases z⟩
    ·exact (I1 tk).pin p (List.mem_append_right _ hp)
  have hlst2:h2.IsList l its.toArray:=⟨_,old _ _ e,rfl,n,rfl⟩
  refine codeAny_builtin PySem.F.entry_min_loop ?_
  rw [Around.under_plainId PySem.F.plain_min_loop _]
  show wpAny _ X.A.in1 (seqItems? (.ref S0) >>= _) _ _ _
  refine wpAny_bind (wpAny_seqItems gS rfl ?_)
  show wpAny _ X.A.in1 (tryCatch (pyNext (.ref I0)) _ >>= _) _ _ _
  obtain ⟨u,hu1,hu2⟩:=rv.get (List.getElem?_eq_getElem hne)
  refine wpAny_bind (wpAny_tryCatch (wpAny_pyNext_list_item (i:=0) ⟨_,gI,rfl,rfl⟩ hlst2 (x:=u) (by simpa using hu1) λh' hit' hk'=>?_))
  obtain ⟨oI',hoI',hoc,hod⟩:=id hit'
  have J1:=(J.flip.swap (h':=h') (t':=tk) (o':=oI') (λb o hb e=>hk'.extBut b o hb e) hoI' (λv z=>by rw [hod] at z;cases z) (fI _)).flip
  have turn1:=turn 0 _ H { s with heap:=h',toks:=tk } xs[0] u J1 (Same.refl _) (List.getElem?_eq_getElem hne) hu2
  have fin:∀(a2:Addr) (H2:Hp) (s'':Shared),Inv X ((S0,seqObj "list" #[] 0)::(I0,oI')::pins) σ H2 s''->H2 a2=some (.tup ((ks 0).map V.int))->Same H H2 ->
    codeAny (model X.prog X.w) X.A (.builtin "min.loop" ⟨[.ref I0,key,.ref S0],[]⟩) R { s'' with heap:=s''.heap.update S0 (Obj.mapSeq λ_=>#[u,.ref a2]) }:=by
   intro a2 H2 s'' J2 e2 sm2
   have n2:=J2.pin (S0,seqObj "list" #[] 0) (List.mem_append_right _ (.head _))
   have nI2:=J2.pin (I0,oI') (List.mem_append_right _ (.tail _ (.head _)))
   have J3:=J2.swap (h':=s''.heap.update S0 (Obj.mapSeq λ_=>#[u,.ref a2])) (t':=s''.toks) (λb o hb e=>(Heap.get?_update_other _ _ (Ne.symm hb)).trans e) (get?_update_seq n2.1 λ_=>#[u,.ref a2]) (λv z=>by cases z) (fS _)
   exact lp _ 0 H2 _ u xs[0] a2 _ oI' rfl hne J3 ⟨oI',(Heap.get?_update_other _ _ hSI).trans nI2.1,hoc,hod⟩ sm2 (List.getElem?_eq_getElem hne) hu2 e2
  rcases hkey1 with rfl | ⟨f,rfl⟩
  ·obtain ⟨v,H2,J2,rx,a2,rfl,ha2,sm2⟩:=turn1.1 rfl
   cases rx
   have n2:=J2.pin (S0,seqObj "list" #[] 0) (List.mem_append_right _ (.head _))
   show wpAny _ X.A.in1 (updateSeq S0 (λ_=>#[.ref a2,.ref a2]) >>= _) _ _ _
   refine wpAny_bind ?_
   refine wpAny_updateSeq n2.1 rfl ?_
   rw [hname]
   exact wpAny_pure ⟨plainId_quiet PySem.F.plain_min_loop _,fin a2 H2 _ J2 ha2 sm2⟩
  ·show wpAny _ X.A.in1 (tryCatch (holding [u] (call (.ref f) [u])) _ >>= _) _ _ _
   refine wpAny_bind (wpAny_tryCatch (wpAny_holding (wpAny_mono (turn1.2 f rfl) (λx s'' he=>?_) λ_ _ hF=>hF.elim)))
   obtain ⟨v,H2,J2,rx,a2,rfl,ha2,sm2⟩:=he
   cases rx
   have n2:=J2.pin (S0,seqObj "list" #[] 0) (List.mem_append_right _ (.head _))
   show wpAny _ X.A.in1 (updateSeq S0 (λ_=>#[u,.ref a2]) >>= _) _ _ _
   refine wpAny_bind ?_
   refine wpAny_updateSeq n2.1 rfl ?_
   rw [hname]
   exact wpAny_pure ⟨plainId_quiet PySem.F.plain_min_loop _,fin a2 H2 _ J2 ha2 sm2⟩
 rcases hkey with ⟨rfl,rfl⟩ | ⟨f,rfl,rfl⟩
 ·refine kmk_tree PySem.F.kind_min PySem.F.plain_min PySem.F.entry_min (PySem.F.args_min1 _) ?_
  show wpAny _ X.A.in1 (Builtin.Builtins.bindParams "min" ["key","default"] 0 ⟨[],[]⟩ >>= _) _ _ s
  refine wpAny_bind (wpAny_of_eq (show Builtin.Builtins.bindParams "min" ["key","default"] 0 ⟨[],[]⟩=pure [none,none] from rfl) ?_)
  refine wpAny_bind (wpAny_pure ?_)
  refine wpAny_bind (wpAny_pyIter_list hlst ?_)
  refine wpAny_bind (wpAny_newList ?_ (Nat.zero_le _))
  rw [hname]
  subst hI hS
  exact wpAny_pure ⟨plainId_quiet PySem.F.plain_min_loop _,go s.toks _ λu s' h=>h⟩
 ·refine kmk_tree PySem.F.kind_min PySem.F.plain_min PySem.F.entry_min (kmk_min_key _ _) ?_
  show wpAny _ X.A.in1 (Builtin.Builtins.bindParams "min" ["key","default"] 0 ⟨[],[(Str.ofString "key",.ref f)]⟩ >>= _) _ _ s
  refine wpAny_bind (wpAny_of_eq (show Builtin.Builtins.bindParams "min" ["key","default"] 0 ⟨[],[(Str.ofString "key",.ref f)]⟩=pure [some (.ref f),none] from rfl) ?_)
  refine wpAny_bind (wpAny_pure ?_)
  refine wpAny_bind (wpAny_pyIter_list hlst ?_)
  refine wpAny_bind (wpAny_newList ?_ (Nat.zero_le _))
  rw [hname]
  subst hI hS
  exact wpAny_pure ⟨plainId_quiet PySem.F.plain_min_loop _,go s.toks _ λu s' h=>h⟩
theorem Qe1 (F:Qae X.prog X.w X.K X.mg X.base k L sp) (hr:Room (k+1) X.A) (hg:Gl X x) (hm:X.mg x=none) (hv:bootBuiltins x=some (.builtin "min"))
  (he:PE X e te) (hlam:PE X lam (λσ H Q=>∀f H',H f=none->Same H H'->V6 H' L f clos->Q (.ref f) H')) (hc:Qaf X ix clos) (hn:clos.map (·.1)=L.names) (hnd:(clos.map (·.2)).Nodup) (hn0:x ≠ "__name__":=by decide) (hdb:(x == ("__debug__" : Str))=false:=by decide)
  (hs:starEach [e] X.env=(false,eval e X.env)::starEach [] X.env:=by rfl) (hs0:backTo pos (starEach [e] X.env)=(false,eval e X.env)::backTo pos (starEach [] X.env):=by rfl) (hpl:(backTo pos (starEach [e] X.env)).any (·.1)=false:=by rfl) :
  PE X (.Call (.Name x p) [e] [⟨some "key",lam,kp⟩] pos) (λσ H Q=>te σ H λy H1=>∃l vs cap ks,y=.ref l/\H1 l=some (.lst vs)/\0<vs.length/\capd σ ix cap /\
   (∀j y Hj HA,vs[j]? = some y->Same H1 Hj->Same Hj HA->sp (y::cap) HA (λv H3=>∀H4,(∀b ob,H3 b=some ob->(∀o u,ob ≠ .frz o u)->H4 b=some ob)->(∀b ob,Hj b=some ob->H3 b=some ob->H4 b=some ob)->∃a,v=.ref a/\H4 a=some (.tup ((ks j).map V.int))/\Same Hj H4) E0) /\
   ∀Hn y,Same H1 Hn->vs[argBest (btK ks) (vs.length-1)]? = some y->Q y Hn):=by
 intro pins s σ H Q I h
 refine wpAny_Call_Name_kw (Xc I hg hm hv ?_ hn0 hdb)
 refine callWith_kw ?_ hs0 hpl
 rw [hs]
 refine Calls.spliced_cons (thn (he pins s σ H _ I h) λu s1 ⟨y,H1,I1,r1,l,vs,cap,ks,hy,hl,hne,cx,tn,q1⟩=>?_)
 refine Calls.spliced_nil ?_
 subst hy
 cases r1
 refine kws_cons (thn (hlam pins s1 σ H1 (λv H2=>∃f,v=.ref f/\H1 f=none/\Same H1 H2/\V6 H2 L f clos) I1 λf H' n sm cp=>⟨f,rfl,n,sm,cp⟩) λu2 s2 z=>?_)
 obtain ⟨v2,H2,I2,r2,f2,rfl,n2,sm2,cp2⟩:=z
 cases r2
 refine kws_nil ?_
 show wpAny (model X.prog X.w) X.A (call (.builtin "min") [.ref l] [(Str.ofString "key",.ref f2)]) (EP X pins σ Q) X.xe s2
 refine Qik (ks:=ks) (.inr ⟨f2,rfl,rfl⟩) I2 hr.hd hr.in1.units0 (sm2 _ _ hl) hne (λj pj Hj sj y u J sm hy ry=>⟨(λz=>by cases z),λf hf=>?_⟩) λHn y sm hy=>q1 Hn y (sm2.trans sm) hy
 exact Qj3 J F hr.in1 hc hn hnd (cp2.keeps λb o u e=>sm b _ e) cx ry λHA smA=>tn j y Hj HA hy (sm2.trans sm) smA
theorem Qge (hc:X.calm=true) (hu:X.A.in1.units<cLine):Y4 X (.builtin "min") (λxs H Q=>∃l vs ks,xs=[.ref l]/\H l=some (.lst vs)/\0<vs.length/\(∀j y,vs[j]? = some y->∃a,y=.ref a/\H a=some (.tup ((ks j).map V.int))) /\
   ∀Hn y,Same H Hn->vs[argBest (btK ks) (vs.length-1)]? = some y->Q y Hn):=by
 intro pins s σ H xs us Q I r h
 obtain ⟨l,vs,ks,rfl,hl,hne,hk,q⟩:=h
 cases r with
 | cons r1 r2 =>
  cases r2
  cases r1
  refine Qik (ks:=ks) (.inl ⟨rfl,rfl⟩) I (I.ok.hd hc) hu hl hne (λj pj Hj sj y u J sm hy ry=>⟨λ_=>?_,(λf hf=>by cases hf)⟩) q
  obtain ⟨a,rfl,e⟩:=hk j y hy
  exact ⟨_,Hj,J,ry,a,rfl,sm _ _ e,Same.refl _⟩
def Qlk:List V->Hp->VK->Prop:=λxs H Q=>∃(l:Addr) (ns:List Int),xs=[.ref l]/\H l=some (.lst (ns.map V.int))/\ns.length<64/\∀(out:List Int) D,out.Perm ns->out.Pairwise (· <= ·)->H D=none->Q (.ref D) (upd H D (.lst (out.map V.int)))
theorem Qd2:Y4 X (.builtin "sorted") Qlk:=by
 intro pins s σ H xs us Q I r h
 obtain ⟨l,ns,rfl,hl,h64,q⟩:=h
 obtain ⟨u,rfl,ru⟩:=Xm r
 cases ru
 obtain ⟨z,its,n,rv,e⟩:=I.hok l _ hl
 obtain ⟨m,F⟩:=I.fr
 have hlist:s.heap.IsList l its.toArray:=⟨_,e,rfl,n,rfl⟩
 refine PySem.W.kso_sorted (vs:=its) F Qhj hlist (Uc rv) h64 λD vs' ns' c h' F' N' hlt hi hlen hp ho _=>?_
 have nD:=N' (D,_) List.mem_cons_self
 have hDn:s.heap.get? D=none:=by
  cases q:s.heap.get? D with
  | none=>rfl
  | some o=>exact absurd (hlt (D,o) (U8 nD.2.1 nD.2.2 q)) (Nat.lt_irrefl _)
 have hDH:H D=none:=by
  cases e:H D with
  | none=>rfl
  | some u=>obtain ⟨ob,q⟩:=(I.hok D u e).there;rw [hDn] at q;cases q
 have hz:(ns'.map V.int).length<=sizeLine:=by rw [List.length_map,hlen];exact Nat.le_trans (Nat.le_of_lt h64) (by decide)
 have I2:=I.ledgerNew (o:=.lst (ns'.map V.int)) (s':={ s with heap:=h' }) rfl rfl F F' (λp hp=>(N' p (List.mem_cons_of_mem _ hp)).1) hDn ⟨hz,vs',c,Qa5 hi,nD.1⟩
 exact ⟨.ref D,_,I2,rfl,q ns' D hp ho hDH⟩
end L2
namespace PV
open PySem PySem.Spec L2
inductive Ty where
 | int | bool | str | tuple | list | dict
 deriving DecidableEq
def Ty.nm:Ty->String
 | .int=>"int" | .bool=>"bool" | .str=>"str" | .tuple=>"tuple" | .list=>"list" | .dict=>"dict"
inductive KC where
 | any (a:Addr)
 | fn (x:Str)
 | int (i:Int)
 | tup (ks:List KC)
mutual
inductive IsKC (K:PySem.W.Frag):KC->V->Prop
 | any (a:Addr):IsKC K (.any a) (.ref a)
 | fn {x:Str} {f:Addr} (h:PySem.W.nsIn K mainGlobals x=some (some (.ref f))):IsKC K (.fn x) (.ref f)
 | int (i:Int):IsKC K (.int i) (.int i)
 | tup {a:Addr} {xs:List V} {ks:List KC} {o:Obj} {its:Array Value} {n:Nat} (h1:K.lookup a=some o) (h2:o.cls=.type "tuple") (h3:o.data=.seq its n) (h4:its.size<=sizeLine) (h5:Vals xs its.toList) (r:AreKC K ks xs):IsKC K (.tup ks) (.ref a)
inductive AreKC (K:PySem.W.Frag):List KC->List V->Prop
 | nil:AreKC K [] []
 | cons {c:KC} {v:V} {cs:List KC} {vs:List V} (h:IsKC K c v) (r:AreKC K cs vs):AreKC K (c::cs) (v::vs)
end
inductive D where
 | non
 | bl (b:Bool)
 | int (i:Int)
 | str (x:Str)
 | tup (xs:List D)
 | lst (xs:List D)
 | dik (kvs:List (Key × D))
 | dit (kvs:List (List Key × D))
 | kls (xs:List D)
 | ty (t:Ty)
 | fdk (kvs:List (Key × D))
 | ftp (xs:List D)
 | fls (xs:List D)
 | fdt (kvs:List (List Key × D))
 | obj (x:Str) (fs:List (Str × Int))
 | clo (L:Lam) (ds:List D)
 | kc (c:KC)
 | dmx (kvs:List (Mx.MI × D))
 | fmx (kvs:List (Mx.MI × D))
 | lsa (a:Addr) (xs:List D)
 | ist (x:Str) (ds:List D)
end PV
variable {o:Option PV.D} {x:L2.V} {k:PV.D->Prop} {d:PV.D} {ks:List PV.KC} {G F:List PySem.Addr} {ds:List (L2.Key × PV.D)}
namespace PV
open PySem PySem.Spec L2
def imm:HO->Bool
 | .tup _=>true
 | .frz _ _=>true
 | .ins _ _ _=>true
 | _=>false
def FzL (K:PySem.W.Frag) (H:Hp) (a:Addr) (xs:List V):Prop :=
 (∃o,H a=some (.frz o (.lst xs))) \/
  ∃(o:Obj) (its:Array Value) (n:Nat),K.lookup a=some o/\o.cls=.type "list" /\ o.dict=none/\o.data=.seq its n/\its.size<=sizeLine/\Vals xs its.toList
theorem FzL.sq (h:FzL K H a xs):SqL K H a xs:=by
 rcases h with h | h
 ·exact .inl (.inr h)
 ·exact .inr h
def fldN:Nat->List Str
 | 0=>[]
 | 1=>["one"]
 | _=>["one","other"]
mutual
inductive Rep (K:PySem.W.Frag) (H:Hp):D->V->List Addr->Prop
 | non:Rep K H .non .non []
 | bl (b:Bool):Rep K H (.bl b) (.bl b) []
 | int (i:Int):Rep K H (.int i) (.int i) []
 | str (x:Str):Rep K H (.str x) (.str x) []
 | tup {a:Addr} {xs:List V} {ds:List D} {F:List Addr} (e:H a=some (.tup xs)) (r:Reps K H ds xs F):Rep K H (.tup ds) (.ref a) F
 | lst {a:Addr} {xs:List V} {ds:List D} {F:List Addr} (e:H a=some (.lst xs)) (r:Reps K H ds xs F):Rep K H (.lst ds) (.ref a) (a::F)
 | dik {a:Addr} {kvs:List (Key × V)} {ds:List (Key × D)} {F:List Addr} (e:H a=some (.dK kvs)) (r:RepK K H ds kvs F):Rep K H (.dik ds) (.ref a) (a::F)
 | dit {a:Addr} {kvs:List (List Key × V)} {ds:List (List Key × D)} {F:List Addr} (e:H a=some (.dT kvs)) (r:RepT K H ds kvs F):Rep K H (.dit ds) (.ref a) (a::F)
 | kls {a:Addr} {xs:List V} {ds:List D} (e:FzL K H a xs) (r:Reps K H ds xs []):Rep K H (.kls ds) (.ref a) []
 | ty (t:Ty):Rep K H (.ty t) (.ty t.nm) []
 | fdk {a:Addr} {o:Obj} {kvs:List (Key × V)} {ds:List (Key × D)} {F:List Addr} (e:H a=some (.frz o (.dK kvs))) (r:RepK K H ds kvs F):Rep K H (.fdk ds) (.ref a) F
 | ftp {a:Addr} {o:Obj} {xs:List V} {ds:List D} (e:H a=some (.frz o (.tup xs))) (hd:o.dict=none) (r:Reps K H ds xs []):Rep K H (.ftp ds) (.ref a) []
 | fls {a:Addr} {o:Obj} {xs:List V} {ds:List D} (e:H a=some (.frz o (.lst xs))) (r:Reps K H ds xs []):Rep K H (.fls ds) (.ref a) []
 | fdt {a:Addr} {o:Obj} {kvs:List (List Key × V)} {ds:List (List Key × D)} {F:List Addr} (e:H a=some (.frz o (.dT kvs))) (r:RepT K H ds kvs F):Rep K H (.fdt ds) (.ref a) F
 | obj {a:Addr} {x:Str} {o:Obj} {φ:Heap->Prop} {fs:List (Str × Int)} (e:H a=some (.frz o (.ext φ))) (hc:∃C,o.cls=.ref C/\PySem.W.nsIn K mainGlobals x=some (some (.ref C))) (hf:fs=[]\/∃dx od vs,o.dict=some dx/\o.data=.fields vs/\H dx=some (.frz od (.xd (fs.map λp=>(p.1,V.int p.2))))):Rep K H (.obj x fs) (.ref a) []
 | clo {a:Addr} {L:Lam} {xs:List V} {ds:List D} {F:List Addr} (e:Qd7 H L a xs) (r:Reps K H ds xs F):Rep K H (.clo L ds) (.ref a) F
 | kc {c:KC} {v:V} (h:IsKC K c v):Rep K H (.kc c) v []
 | dmx {a:Addr} {kvs:Mx.KVM} {ds:List (Mx.MI × D)} (e:H a=some (Mx.mixO a kvs)) (hk:Mx.Keys H kvs) (hm:kvs.map (·.1)=ds.map (·.1)) (r:Reps K H (ds.map (·.2)) (kvs.map (·.2.2)) []):Rep K H (.dmx ds) (.ref a) [a]
 | fmx {a:Addr} {o:Obj} {kvs:Mx.KVM} {ds:List (Mx.MI × D)} (e:H a=some (.frz o (Mx.mixO a kvs))) (hk:Mx.Keys H kvs) (hm:kvs.map (·.1)=ds.map (·.1)) (r:Reps K H (ds.map (·.2)) (kvs.map (·.2.2)) []):Rep K H (.fmx ds) (.ref a) []
 | lsa {a:Addr} {xs:List V} {ds:List D} {F:List Addr} (e:H a=some (.lst xs)) (r:Reps K H ds xs F):Rep K H (.lsa a ds) (.ref a) (a::F)
 | ist {a C dx:Addr} {x:Str} {fs:List (Str × V)} {ds:List D} (e:H a=some (.ins C dx fs)) (hc:PySem.W.nsIn K mainGlobals x=some (some (.ref C))) (hn:fs.map (·.1)=fldN ds.length) (r:Reps K H ds (fs.map (·.2)) []):Rep K H (.ist x ds) (.ref a) []
inductive Reps (K:PySem.W.Frag) (H:Hp):List D->List V->List Addr->Prop
 | nil:Reps K H [] [] []
 | cons {d:D} {v:V} {ds:List D} {vs:List V} {F G:List Addr} (h:Rep K H d v F) (r:Reps K H ds vs G):Reps K H (d::ds) (v::vs) (F++G)
inductive RepK (K:PySem.W.Frag) (H:Hp):List (Key × D)->List (Key × V)->List Addr->Prop
 | nil:RepK K H [] [] []
 | cons {k:Key} {d:D} {v:V} {ds:List (Key × D)} {vs:List (Key × V)} {F G:List Addr} (h:Rep K H d v F) (r:RepK K H ds vs G):RepK K H ((k,d)::ds) ((k,v)::vs) (F++G)
inductive RepT (K:PySem.W.Frag) (H:Hp):List (List Key × D)->List (List Key × V)->List Addr->Prop
 | nil:RepT K H [] [] []
 | cons {k:List Key} {d:D} {v:V} {ds:List (List Key × D)} {vs:List (List Key × V)} {F G:List Addr} (h:Rep K H d v F) (r:RepT K H ds vs G):RepT K H ((k,d)::ds) ((k,v)::vs) (F++G)
end
def ImmK (H H':Hp):Prop:=∀b ob,H b=some ob->imm ob=true->H' b=some ob
theorem ImmK.fzL (hi:ImmK H H') (e:FzL K H a xs):FzL K H' a xs:=by
 rcases e with ⟨o,e⟩ | e
 ·exact .inl ⟨o,hi _ _ e rfl⟩
 ·exact .inr e
theorem ImmK.keys {H H':Hp} (hi:ImmK H H') {kvs:Mx.KVM} (h:Mx.Keys H kvs):Mx.Keys H' kvs:=λp hp=>by
 have:=h p hp
 revert this
 cases p.1 with
 | inl i=>exact id
 | inr l=>exact λ⟨b,e1,e2⟩=>⟨b,e1,hi _ _ e2 rfl⟩
theorem Rep.frame (hi:ImmK H H') (r:Rep K H d v F):(∀a∈F,H' a=H a)->Rep K H' d v F:=by
 refine Rep.rec (motive_1:=λd v F _=>(∀a∈F,H' a=H a)->Rep K H' d v F) (motive_2:=λd v F _=>(∀a∈F,H' a=H a)->Reps K H' d v F) (motive_3:=λd v F _=>(∀a∈F,H' a=H a)->RepK K H' d v F) (motive_4:=λd v F _=>(∀a∈F,H' a=H a)->RepT K H' d v F) ?_ ?_ ?_ ?_ ?_ ?_ ?_ ?_ ?_ ?_ ?_ ?_ ?_ ?_ ?_ ?_ ?_ ?_ ?_ ?_ ?_ ?_ ?_ ?_ ?_ ?_ ?_ r
 ·exact λ_=>.non
 ·exact λb _=>.bl b
 ·exact λb _=>.int b
 ·exact λb _=>.str b
 ·exact λe _ ih k=>.tup (hi _ _ e rfl) (ih k)
 ·exact λe _ ih k=>.lst ((k _ (List.mem_cons_self)).trans e) (ih λa h=>k a (List.mem_cons_of_mem _ h))
 ·exact λe _ ih k=>.dik ((k _ (List.mem_cons_self)).trans e) (ih λa h=>k a (List.mem_cons_of_mem _ h))
 ·exact λe _ ih k=>.dit ((k _ (List.mem_cons_self)).trans e) (ih λa h=>k a (List.mem_cons_of_mem _ h))
 ·exact λe _ ih k=>.kls (hi.fzL e) (ih k)
 ·exact λt _=>.ty t
 ·exact λe _ ih k=>.fdk (hi _ _ e rfl) (ih k)
 ·exact λe hd _ ih k=>.ftp (hi _ _ e rfl) hd (ih k)
 ·exact λe _ ih k=>.fls (hi _ _ e rfl) (ih k)
 ·exact λe _ ih k=>.fdt (hi _ _ e rfl) (ih k)
 ·exact λe hc hf _=>.obj (hi _ _ e rfl) hc (hf.imp id λ⟨dx,od,vs,h1,h0,h2⟩=>⟨dx,od,vs,h1,h0,hi _ _ h2 rfl⟩)
 ·exact λe _ ih k=>.clo (e.keeps λ_ _ _ q=>hi _ _ q rfl) (ih k)
 ·exact λh _=>.kc h
 ·exact λe hk hm _ ih k=>.dmx ((k _ (List.mem_cons_self)).trans e) (hi.keys hk) hm (ih λa h=>nomatch h)
 ·exact λe hk hm _ ih k=>.fmx (hi _ _ e rfl) (hi.keys hk) hm (ih λa h=>nomatch h)
 ·exact λe _ ih k=>.lsa ((k _ (List.mem_cons_self)).trans e) (ih λa h=>k a (List.mem_cons_of_mem _ h))
 ·exact λe hc hn _ ih k=>.ist (hi _ _ e rfl) hc hn (ih λa h=>nomatch h)
 ·exact λ_=>.nil
 ·exact λ_ _ ih1 ih2 k=>.cons (ih1 λa q=>k a (List.mem_append.mpr (.inl q))) (ih2 λa q=>k a (List.mem_append.mpr (.inr q)))
 ·exact λ_=>.nil
 ·exact λ_ _ ih1 ih2 k=>.cons (ih1 λa q=>k a (List.mem_append.mpr (.inl q))) (ih2 λa q=>k a (List.mem_append.mpr (.inr q)))
 ·exact λ_=>.nil
 ·exact λ_ _ ih1 ih2 k=>.cons (ih1 λa q=>k a (List.mem_append.mpr (.inl q))) (ih2 λa q=>k a (List.mem_append.mpr (.inr q)))
theorem Reps.frame (hi:ImmK H H') {d:List D} {v:List V} (r:Reps K H d v F) (k:∀a∈F,H' a=H a):Reps K H' d v F:=by
 induction d generalizing v F with
 | nil=>cases r;exact .nil
 | cons d ds ih=>cases r with | cons h r=>exact .cons (Rep.frame hi h λa q=>k a (List.mem_append.mpr (.inl q))) (ih r λa q=>k a (List.mem_append.mpr (.inr q)))
theorem RepK.frame (hi:ImmK H H') {d:List (Key × D)} {v:List (Key × V)} (r:RepK K H d v F) (k:∀a∈F,H' a=H a):RepK K H' d v F:=by
 induction d generalizing v F with
 | nil=>cases r;exact .nil
 | cons d ds ih=>cases r with | cons h r=>exact .cons (Rep.frame hi h λa q=>k a (List.mem_append.mpr (.inl q))) (ih r λa q=>k a (List.mem_append.mpr (.inr q)))
theorem RepT.frame (hi:ImmK H H') {d:List (List Key × D)} {v:List (List Key × V)} (r:RepT K H d v F) (k:∀a∈F,H' a=H a):RepT K H' d v F:=by
 induction d generalizing v F with
 | nil=>cases r;exact .nil
 | cons d ds ih=>cases r with | cons h r=>exact .cons (Rep.frame hi h λa q=>k a (List.mem_append.mpr (.inl q))) (ih r λa q=>k a (List.mem_append.mpr (.inr q)))
theorem Rep.dom (r:Rep K H d v F):∀a∈F,∃ob,H a=some ob/\imm ob=false:=by
 have cn:∀{b:Addr} {F:List Addr} {ob:HO},H b=some ob->imm ob=false->(∀a∈F,∃ob,H a=some ob/\imm ob=false)->∀a∈b::F,∃ob,H a=some ob/\imm ob=false:=λe hb ih a m=>(List.mem_cons.mp m).elim (λz=>z ▸ ⟨_,e,hb⟩) (ih a)
 have ap:∀{F G:List Addr},(∀a∈F,∃ob,H a=some ob/\imm ob=false)->(∀a∈G,∃ob,H a=some ob/\imm ob=false)->∀a∈F++G,∃ob,H a=some ob/\imm ob=false:=λih1 ih2 a m=>(List.mem_append.mp m).elim (ih1 a) (ih2 a)
 have no:∀a∈([]:List Addr),∃ob,H a=some ob/\imm ob=false:=λ_ m=>nomatch m
 refine Rep.rec (motive_1:=λ_ _ F _=>∀a∈F,∃ob,H a=some ob/\imm ob=false) (motive_2:=λ_ _ F _=>∀a∈F,∃ob,H a=some ob/\imm ob=false) (motive_3:=λ_ _ F _=>∀a∈F,∃ob,H a=some ob/\imm ob=false) (motive_4:=λ_ _ F _=>∀a∈F,∃ob,H a=some ob/\imm ob=false) no (λ_=>no) (λ_=>no) (λ_=>no) (λ_ _ ih=>ih) (λe _ ih=>cn e rfl ih) (λe _ ih=>cn e rfl ih) (λe _ ih=>cn e rfl ih) (λ_ _ _=>no) (λ_=>no) (λ_ _ ih=>ih) (λ_ _ _ _=>no) (λ_ _ _=>no) (λ_ _ ih=>ih) (λ_ _ _=>no) (λ_ _ ih=>ih) (λ_=>no) (λe _ _ _ _=>cn e rfl no) (λ_ _ _ _ _=>no) (λe _ ih=>cn e rfl ih) (λ_ _ _ _ _=>no) no (λ_ _=>ap) no (λ_ _=>ap) no (λ_ _=>ap) r
theorem Reps.dom {d:List D} {v:List V} (r:Reps K H d v F):∀a∈F,∃ob,H a=some ob/\imm ob=false:=by
 induction d generalizing v F with
 | nil=>cases r;exact λ_ m=>nomatch m
 | cons d ds ih=>cases r with | cons h r=>exact λa m=>(List.mem_append.mp m).elim (Rep.dom h a) (ih r a)
mutual
def D.pure:D->Bool
 | .tup xs=>Qs xs
 | .lst _=>false
 | .dik _=>false
 | .dit _=>false
 | .kls _=>true
 | .non=>true
 | .bl _=>true
 | .int _=>true
 | .str _=>true
 | .ty _=>true
 | .fdk kvs=>kvs.isEmpty
 | .ftp _=>true
 | .fls _=>true
 | .fdt _=>false
 | .obj _ _=>true
 | .clo _ _=>false
 | .kc _=>true
 | .dmx _=>false
 | .fmx _=>false
 | .lsa _ _=>false
 | .ist _ _=>true
def Qs:List D->Bool
 | []=>true
 | d::r=>d.pure && Qs r
end
theorem Qas {xs:List D}:Qs xs=true↔∀x∈xs,x.pure=true:=by
 induction xs with
 | nil=>simp [Qs]
 | cons d r ih=>simp only [Qs,Bool.and_eq_true,ih,List.mem_cons,forall_eq_or_imp]
theorem Rep.pure (r:Rep K H d v F):d.pure=true->F=[]/\Rep K H d v []:=by
 have no:∀{P:Prop} {b:Bool},b=false->b=true->P:=λh h'=>absurd (h.symm.trans h') (by simp)
 refine Rep.rec (motive_1:=λd v F _=>d.pure=true->F=[]/\Rep K H d v []) (motive_2:=λd v F _=>Qs d=true->F=[]/\Reps K H d v []) (motive_3:=λ_ _ _ _=>True) (motive_4:=λ_ _ _ _=>True) ?_ ?_ ?_ ?_ ?_ ?_ ?_ ?_ ?_ ?_ ?_ ?_ ?_ ?_ ?_ ?_ ?_ ?_ ?_ ?_ ?_ ?_ ?_ trivial (λ_ _ _ _=>trivial) trivial (λ_ _ _ _=>trivial) r
 ·exact λ_=>⟨rfl,.non⟩
 ·exact λb _=>⟨rfl,.bl b⟩
 ·exact λb _=>⟨rfl,.int b⟩
 ·exact λb _=>⟨rfl,.str b⟩
 ·exact λe _ ih p=>⟨(ih (by rw [D.pure] at p;exact p)).1,.tup e (ih (by rw [D.pure] at p;exact p)).2⟩
 ·exact λ_ _ _=>no (by rw [D.pure])
 ·exact λ_ _ _=>no (by rw [D.pure])
 ·exact λ_ _ _=>no (by rw [D.pure])
 ·exact λe r _ _=>⟨rfl,.kls e r⟩
 ·exact λb _=>⟨rfl,.ty b⟩
 ·intro a o kvs ds F e r _ p
  have hd:ds=[]:=by rw [D.pure] at p;exact List.isEmpty_iff.mp p
  subst hd
  cases r
  exact ⟨rfl,.fdk e .nil⟩
 ·exact λe hd r _ _=>⟨rfl,.ftp e hd r⟩
 ·exact λe r _ _=>⟨rfl,.fls e r⟩
 ·exact λ_ _ _=>no (by rw [D.pure])
 ·exact λe hc hf _=>⟨rfl,.obj e hc hf⟩
 ·exact λ_ _ _=>no (by rw [D.pure])
 ·exact λh _=>⟨rfl,.kc h⟩
 ·exact λ_ _ _ _ _=>no (by rw [D.pure])
 ·exact λ_ _ _ _ _=>no (by rw [D.pure])
 ·exact λ_ _ _=>no (by rw [D.pure])
 ·exact λe hc hn r _ _=>⟨rfl,.ist e hc hn r⟩
 ·exact λ_=>⟨rfl,.nil⟩
 ·intro _ _ _ _ _ _ _ _ ih1 ih2 p
  rw [Qs,Bool.and_eq_true] at p
  obtain ⟨e1,r1⟩:=ih1 p.1
  obtain ⟨e2,r2⟩:=ih2 p.2
  subst e1 e2
  exact ⟨rfl,.cons (F:=[]) (G:=[]) r1 r2⟩
theorem Reps.pure {d:List D} {v:List V} (r:Reps K H d v F) (p:Qs d=true):F=[]/\Reps K H d v []:=by
 induction d generalizing v F with
 | nil=>cases r;exact ⟨rfl,.nil⟩
 | cons d ds ih =>
  cases r with
  | cons h r =>
   rw [Qs,Bool.and_eq_true] at p
   obtain ⟨e1,r1⟩:=h.pure p.1
   obtain ⟨e2,r2⟩:=ih r p.2
   subst e1 e2
   exact ⟨rfl,.cons (F:=[]) (G:=[]) r1 r2⟩
theorem Reps.length {ds:List D} (r:Reps K H ds xs F):xs.length=ds.length:=by
 induction ds generalizing xs F with
 | nil=>cases r;rfl
 | cons d ds ih=>cases r with | cons h r=>simp [ih r]
theorem Reps.append {ds es:List D} (r:Reps K H ds xs F) (q:Reps K H es ys G):Reps K H (ds++es) (xs++ys) (F++G):=by
 induction ds generalizing xs F with
 | nil=>cases r;exact q
 | cons d ds ih=>cases r with | cons h r=>rw [List.append_assoc];exact .cons h (ih r)
theorem Reps.one (h:Rep K H d x F):Reps K H [d] [x] F:=by
 have:=Reps.cons h (Reps.nil (K:=K) (H:=H))
 rwa [List.append_nil] at this
theorem Reps.snoc {ds:List D} (r:Reps K H ds xs F) (h:Rep K H d x G):Reps K H (ds++[d]) (xs++[x]) (F++G):=r.append (.one h)
theorem Reps.split {ds:List D} (r:Reps K H ds xs F) (h:ds[i]? = some d) :
  ∃x A B C,xs[i]? = some x/\F=A++B++C/\Rep K H d x B/\Reps K H (ds.take i) (xs.take i) A/\Reps K H (ds.drop (i+1)) (xs.drop (i+1)) C:=by
 induction ds generalizing xs F i with
 | nil=>simp at h
 | cons e ds ih =>
  cases r with
  | @cons _ v _ vs F G p r =>
   cases i with
   | zero =>
    simp at h
    subst h
    exact ⟨v,[],F,G,rfl,by simp,p,.nil,by simpa using r⟩
   | succ i =>
    obtain ⟨x,A,B,C,h1,h2,h3,h4,h5⟩:=ih r (i:=i) (by simpa using h)
    exact ⟨x,F++A,B,C,by simpa using h1,by rw [h2];simp,h3,by simpa using Reps.cons p h4,by simpa using h5⟩
theorem Reps.get {ds:List D} (r:Reps K H ds xs F) (h:ds[i]? = some d):∃x B,xs[i]? = some x/\Rep K H d x B/\B.Sublist F:=by
 obtain ⟨x,A,B,C,h1,h2,h3,_⟩:=r.split h
 exact ⟨x,B,h1,h3,h2 ▸ (List.sublist_append_right A B).trans (List.sublist_append_left _ C)⟩
theorem Vq {α:Type} {l:List α} {a:α} (h:i<l.length):l.set i a=l.take i++a::l.drop (i+1):=by
 rw [List.set_eq_take_append_cons_drop,if_pos h]
theorem Uu {α:Type} (l:List α) (i:Nat):l.eraseIdx i=l.take i++l.drop (i+1):=List.eraseIdx_eq_take_drop_succ l i
theorem Reps.take {ds:List D} (i:Nat) (r:Reps K H ds xs F):∃G,Reps K H (ds.take i) (xs.take i) G/\G.Sublist F:=by
 induction ds generalizing xs F i with
 | nil=>cases r;exact ⟨[],by simpa using Reps.nil,List.Sublist.slnil⟩
 | cons d ds ih =>
  cases r with
  | @cons _ v _ vs F G p r =>
   cases i with
   | zero=>exact ⟨[],by simpa using Reps.nil,List.nil_sublist _⟩
   | succ i =>
    obtain ⟨G',q,s⟩:=ih i r
    exact ⟨F++G',by simpa using Reps.cons p q,List.Sublist.append (List.Sublist.refl _) s⟩
theorem Reps.drop {ds:List D} (i:Nat) (r:Reps K H ds xs F):∃G,Reps K H (ds.drop i) (xs.drop i) G/\G.Sublist F:=by
 induction ds generalizing xs F i with
 | nil=>cases r;exact ⟨[],by simpa using Reps.nil,List.Sublist.slnil⟩
 | cons d ds ih =>
  cases i with
  | zero=>exact ⟨F,by simpa using r,List.Sublist.refl _⟩
  | succ i =>
   cases r with
   | @cons _ v _ vs F G p r =>
    obtain ⟨G',q,s⟩:=ih i r
    exact ⟨G',by simpa using q,s.trans (List.sublist_append_right _ _)⟩
theorem Reps.ints (ns:List Int):Reps K H (ns.map D.int) (ns.map V.int) []:=by
 induction ns with
 | nil=>exact .nil
 | cons n ns ih=>exact .cons (F:=[]) (G:=[]) (.int n) ih
theorem Reps.of_ints (r:Reps K H (ns.map D.int) xs F):xs=ns.map V.int/\F=[]:=by
 induction ns generalizing xs F with
 | nil=>cases r;exact ⟨rfl,rfl⟩
 | cons n ns ih =>
  cases r with
  | cons h r =>
   cases h
   obtain ⟨e1,e2⟩:=ih r
   exact ⟨by rw [e1];rfl,by rw [e2];rfl⟩
def kcD:KC->D
 | .int i=>.int i
 | .any a=>.kc (.any a)
 | .fn x=>.kc (.fn x)
 | .tup ks=>.kc (.tup ks)
theorem IsKC.rep {c:KC} (h:IsKC K c v):Rep K H (kcD c) v []:=by
 cases h with
 | int i=>exact .int i
 | any a=>exact .kc (.any a)
 | fn h=>exact .kc (.fn h)
 | tup h1 h2 h3 h4 h5 r=>exact .kc (.tup h1 h2 h3 h4 h5 r)
theorem AreKC.reps {cs:List KC} (h:AreKC K cs vs):Reps K H (cs.map kcD) vs []:=by
 induction cs generalizing vs with
 | nil=>cases h;exact .nil
 | cons c cs ih=>cases h with | cons h r=>exact .cons (F:=[]) (G:=[]) h.rep (ih r)
theorem IsKC.sqT (h:IsKC K (.tup ks) v):∃a xs,v=.ref a/\(∀H,SqT K H a xs)/\AreKC K ks xs:=by
 cases h with
 | tup h1 h2 h3 h4 h5 r=>exact ⟨_,_,rfl,λH=>.inr ⟨_,_,_,h1,h2,h3,h4,h5⟩,r⟩
theorem Rep.iInt {i:Int} (r:Rep K H (.int i) v F):v=.int i:=by cases r;rfl
theorem Rep.iStr {i:Str} (r:Rep K H (.str i) v F):v=.str i:=by cases r;rfl
theorem Rep.iBl {i:Bool} (r:Rep K H (.bl i) v F):v=.bl i:=by cases r;rfl
theorem Rep.iTup {ds:List D} (r:Rep K H (.tup ds) v F):∃a xs,v=.ref a/\H a=some (.tup xs)/\Reps K H ds xs F:=by cases r with | tup e r=>exact ⟨_,_,rfl,e,r⟩
theorem Rep.iLst {ds:List D} (r:Rep K H (.lst ds) v F):∃a xs G,v=.ref a/\F=a::G/\H a=some (.lst xs)/\Reps K H ds xs G:=by cases r with | lst e r=>exact ⟨_,_,_,rfl,rfl,e,r⟩
theorem Rep.iDik (r:Rep K H (.dik ds) v F):∃a xs G,v=.ref a/\F=a::G/\H a=some (.dK xs)/\RepK K H ds xs G:=by cases r with | dik e r=>exact ⟨_,_,_,rfl,rfl,e,r⟩
theorem Rep.iDit {ds:List (List Key × D)} (r:Rep K H (.dit ds) v F):∃a xs G,v=.ref a/\F=a::G/\H a=some (.dT xs)/\RepT K H ds xs G:=by cases r with | dit e r=>exact ⟨_,_,_,rfl,rfl,e,r⟩
theorem Rep.iKls {ds:List D} (r:Rep K H (.kls ds) v F):∃a xs,v=.ref a/\F=[]/\FzL K H a xs/\Reps K H ds xs []:=by cases r with | kls e r=>exact ⟨_,_,rfl,rfl,e,r⟩
theorem Rep.iFdk (r:Rep K H (.fdk ds) v F):∃a o xs,v=.ref a/\H a=some (.frz o (.dK xs))/\RepK K H ds xs F:=by cases r with | fdk e r=>exact ⟨_,_,_,rfl,e,r⟩
section
variable {κ:Type} [DecidableEq κ]
def valD (kvs:List (κ × D)) (k:κ):Option D:=(kvs.find? λkv=>decide (kv.1=k)).map (·.2)
def putD (kvs:List (κ × D)) (k:κ) (v:D):List (κ × D) :=
 if (kvs.any λkv=>decide (kv.1=k))=true then kvs.map (λkv=>if kv.1=k then (kv.1,v) else kv) else kvs++[(k,v)]
theorem Vo {p:κ × D} {r:List (κ × D)} {k:κ}:valD (p::r) k=if p.1=k then some p.2 else valD r k:=by
 unfold valD
 by_cases h:p.1=k
 ·rw [List.find?_cons_of_pos (by simpa using h),if_pos h];rfl
 ·rw [List.find?_cons_of_neg (by simpa using h),if_neg h]
end
theorem RepK.length {xs:List (Key × V)} (r:RepK K H ds xs F):xs.length=ds.length:=by
 induction ds generalizing xs F with
 | nil=>cases r;rfl
 | cons d ds ih=>cases r with | cons h r=>simp [ih r]
theorem RepK.keys {xs:List (Key × V)} (r:RepK K H ds xs F):xs.map (·.1)=ds.map (·.1):=by
 induction ds generalizing xs F with
 | nil=>cases r;rfl
 | cons d ds ih=>cases r with | cons h r=>simp [ih r]
theorem RepK.val {xs:List (Key × V)} (r:RepK K H ds xs F) (k:Key) :
  (valD ds k=none/\valV xs k=none)\/∃d v B,valD ds k=some d/\valV xs k=some v/\Rep K H d v B/\B.Sublist F:=by
 induction ds generalizing xs F with
 | nil=>cases r;exact .inl ⟨rfl,rfl⟩
 | cons d ds ih =>
  cases r with
  | @cons j d v _ vs F G h r =>
   rw [Vo]
   by_cases e:j=k
   ·rw [Vm e,if_pos e]
    exact .inr ⟨d,v,F,rfl,rfl,h,List.sublist_append_left _ _⟩
   ·rw [Vn e,if_neg e]
    rcases ih r with q | ⟨d',v',B,h1,h2,h3,h4⟩
    ·exact .inl q
    ·exact .inr ⟨d',v',B,h1,h2,h3,h4.trans (List.sublist_append_right _ _)⟩
theorem RepK.append {es:List (Key × D)} {xs ys:List (Key × V)} (r:RepK K H ds xs F) (q:RepK K H es ys G):RepK K H (ds++es) (xs++ys) (F++G):=by
 induction ds generalizing xs F with
 | nil=>cases r;exact q
 | cons d ds ih=>cases r with | cons h r=>rw [List.append_assoc];exact .cons h (ih r)
theorem RepK.put {xs:List (Key × V)} {k:Key} (r:RepK K H ds xs F) (h:Rep K H d v []):∃G,RepK K H (putD ds k d) (putK xs k v) G/\G.Sublist F:=by
 have hk:(xs.any λkv=>decide (kv.1=k))=(ds.any λkv=>decide (kv.1=k)):=by
  have e:=r.keys
  rw [show (xs.any λkv=>decide (kv.1=k))=(xs.map (·.1)).any (λj=>decide (j=k)) by rw [List.any_map];rfl,e,List.any_map];rfl
 unfold putD putK
 rw [hk]
 split
 ·clear hk
  rename_i hc
  clear hc
  induction ds generalizing xs F with
  | nil=>cases r;exact ⟨[],.nil,List.Sublist.slnil⟩
  | cons e ds ih =>
   cases r with
   | @cons j e u _ us F G p r =>
    obtain ⟨G',q,s⟩:=ih r
    by_cases ej:j=k
    ·exact ⟨[]++G',by simpa [ej] using RepK.cons (k:=k) h q,s.trans (List.sublist_append_right _ _)⟩
    ·exact ⟨F++G',by simpa [ej] using RepK.cons (k:=j) p q,List.Sublist.append (List.Sublist.refl _) s⟩
 ·refine ⟨F++[],r.append ?_,by simp⟩
  exact RepK.cons (F:=[]) (G:=[]) h .nil
theorem RepT.length {ds:List (List Key × D)} {xs:List (List Key × V)} (r:RepT K H ds xs F):xs.length=ds.length:=by
 induction ds generalizing xs F with
 | nil=>cases r;rfl
 | cons d ds ih=>cases r with | cons h r=>simp [ih r]
theorem RepT.keys {ds:List (List Key × D)} {xs:List (List Key × V)} (r:RepT K H ds xs F):xs.map (·.1)=ds.map (·.1):=by
 induction ds generalizing xs F with
 | nil=>cases r;rfl
 | cons d ds ih=>cases r with | cons h r=>simp [ih r]
theorem RepT.val {ds:List (List Key × D)} {xs:List (List Key × V)} (r:RepT K H ds xs F) (k:List Key) :
  (valD ds k=none/\valV xs k=none)\/∃d v B,valD ds k=some d/\valV xs k=some v/\Rep K H d v B/\B.Sublist F:=by
 induction ds generalizing xs F with
 | nil=>cases r;exact .inl ⟨rfl,rfl⟩
 | cons d ds ih =>
  cases r with
  | @cons j d v _ vs F G h r =>
   rw [Vo]
   by_cases e:j=k
   ·rw [Vm e,if_pos e]
    exact .inr ⟨d,v,F,rfl,rfl,h,List.sublist_append_left _ _⟩
   ·rw [Vn e,if_neg e]
    rcases ih r with q | ⟨d',v',B,h1,h2,h3,h4⟩
    ·exact .inl q
    ·exact .inr ⟨d',v',B,h1,h2,h3,h4.trans (List.sublist_append_right _ _)⟩
theorem RepT.append {ds es:List (List Key × D)} {xs ys:List (List Key × V)} (r:RepT K H ds xs F) (q:RepT K H es ys G):RepT K H (ds++es) (xs++ys) (F++G):=by
 induction ds generalizing xs F with
 | nil=>cases r;exact q
 | cons d ds ih=>cases r with | cons h r=>rw [List.append_assoc];exact .cons h (ih r)
theorem RepT.put {ds:List (List Key × D)} {xs:List (List Key × V)} {k:List Key} (r:RepT K H ds xs F) (h:Rep K H d v []):∃G,RepT K H (putD ds k d) (putK xs k v) G/\G.Sublist F:=by
 have hk:(xs.any λkv=>decide (kv.1=k))=(ds.any λkv=>decide (kv.1=k)):=by
  have e:=r.keys
  rw [show (xs.any λkv=>decide (kv.1=k))=(xs.map (·.1)).any (λj=>decide (j=k)) by rw [List.any_map];rfl,e,List.any_map];rfl
 unfold putD putK
 rw [hk]
 split
 ·clear hk
  rename_i hc
  clear hc
  induction ds generalizing xs F with
  | nil=>cases r;exact ⟨[],.nil,List.Sublist.slnil⟩
  | cons e ds ih =>
   cases r with
   | @cons j e u _ us F G p r =>
    obtain ⟨G',q,s⟩:=ih r
    by_cases ej:j=k
    ·exact ⟨[]++G',by simpa [ej] using RepT.cons (k:=k) h q,s.trans (List.sublist_append_right _ _)⟩
    ·exact ⟨F++G',by simpa [ej] using RepT.cons (k:=j) p q,List.Sublist.append (List.Sublist.refl _) s⟩
 ·refine ⟨F++[],r.append ?_,by simp⟩
  exact RepT.cons (F:=[]) (G:=[]) h .nil
abbrev Env:=List (Option D)
def look:Env->Nat->Option D
 | [],_=>none
 | a::_,0=>a
 | _::r,n+1=>look r n
theorem X1:∀{ρ:Env} {i:Nat} {d:D},look ρ i=some d->ρ[i]? = some (some d)
 | _::_,0,_,h=>by simpa [look] using h
 | _::r,n+1,_,h=>by simpa using X1 (ρ:=r) (i:=n) (by simpa [look] using h)
theorem Gb {ρ:Env} (h:look ρ i=some d):i<ρ.length:=by
 have:=X1 h
 exact (List.getElem?_eq_some_iff.mp this).1
theorem Zz {o:Option D}:∀{ρ:Env} {i j:Nat},look (ρ.set i o) j=if j=i/\i<ρ.length then o else look ρ j
 | [],i,j=>by simp [look]
 | a::r,0,0=>by simp [look]
 | a::r,0,j+1=>by simp [look]
 | a::r,i+1,0=>by simp [look]
 | a::r,i+1,j+1=>by
  have:=Zz (o:=o) (ρ:=r) (i:=i) (j:=j)
  simp only [List.set_cons_succ,look,this,List.length_cons,Nat.add_right_cancel_iff,Nat.add_lt_add_iff_right]
theorem Vw {ρ:Env} (h:i<ρ.length):look (ρ.set i o) i=o:=by rw [Zz,if_pos ⟨rfl,h⟩]
theorem Qo {ρ:Env} (h:j≠i):look (ρ.set i o) j=look ρ j:=by rw [Zz,if_neg (λz=>h z.1)]
structure Tg where
 own:Nat->Bool
 io:List Nat
 xe:D->St->Hp->Prop:=λ_ _ _=>False
end PV
variable {R W1 W':PySem.Addr->Prop} {ρ:PV.Env} {z:Nat->L2.V}
namespace PV
open PySem PySem.Spec L2
structure SR0 (K:PySem.W.Frag) (T:Tg) (z:Nat->V) (R:Addr->Prop) (H:Hp) (W:Addr->Prop) (σ:St) (ρ:Env) (fp:Nat->List Addr):Prop where
 len:ρ.length=σ.length
 wd:∀a,W a->∃ob,H a=some ob/\imm ob=false
 at_:∀i d,look ρ i=some d->∃v,σ[i]? = some (some v)/\Rep K H d v (fp i)
 own:∀i d,look ρ i=some d->T.own i=true->(fp i).Nodup/\∀a∈fp i,W a
 ro:∀i d,look ρ i=some d->T.own i=false->∀a∈fp i,R a
 wr:∀a,W a->¬R a
 rd:∀a,R a->∃ob,H a=some ob/\imm ob=false
 dis:∀i j d e,look ρ i=some d->look ρ j=some e->T.own i=true->T.own j=true->i≠j->∀a∈fp i,a∉fp j
 fix:∀i∈T.io,σ[i]? = some (some (z i))
def SR (K:PySem.W.Frag) (T:Tg) (z:Nat->V) (R:Addr->Prop) (H:Hp) (W:Addr->Prop) (σ:St) (ρ:Env):Prop:=∃fp,SR0 K T z R H W σ ρ fp
structure FrW (H:Hp) (W:Addr->Prop) (H':Hp) (W':Addr->Prop):Prop where
 keep:∀b ob,H b=some ob->¬W b->H' b=some ob
 dom:∀b,H' b=none->H b=none
 imm:ImmK H H'
 new:∀b,W' b->W b\/H b=none
theorem FrW.refl (H:Hp) (W:Addr->Prop):FrW H W H W:=⟨λ_ _ h _=>h,λ_ h=>h,λ_ _ h _=>h,λ_ h=>.inl h⟩
theorem FrW.trans {W W2:Addr->Prop} (a:FrW H W H1 W1) (b:FrW H1 W1 H2 W2):FrW H W H2 W2 where
 keep:=λc ob h n=>b.keep c ob (a.keep c ob h n) λw=>by
  rcases a.new c w with w | w
  ·exact n w
  ·rw [w] at h;cases h
 dom:=λc h=>a.dom c (b.dom c h)
 imm:=λc ob h i=>b.imm c ob (a.imm c ob h i) i
 new:=λc h=>by
  rcases b.new c h with w | w
  ·exact a.new c w
  ·exact .inr (a.dom c w)
theorem Same.imm (s:Same H H'):ImmK H H':=λb ob h _=>s b ob h
theorem FrW.same (W:Addr->Prop) (s:Same H H'):FrW H W H' W:=⟨λb ob h _=>s b ob h,λb h=>s.free h,Same.imm s,λ_ h=>.inl h⟩
theorem Rep.same (r:Rep K H d v F) (s:Same H H'):Rep K H' d v F :=
 r.frame (Same.imm s) λa m=>by
  obtain ⟨ob,h,_⟩:=r.dom a m
  rw [h];exact s _ _ h
theorem Reps.same {d:List D} {v:List V} (r:Reps K H d v F) (s:Same H H'):Reps K H' d v F :=
 r.frame (Same.imm s) λa m=>by
  obtain ⟨ob,h,_⟩:=r.dom a m
  rw [h];exact s _ _ h
theorem Rep.keep {W:Addr->Prop} (r:Rep K H d v F) (f:FrW H W H' W') (n:∀a∈F,¬W a):Rep K H' d v F :=
 r.frame f.imm λa m=>by
  obtain ⟨ob,h,_⟩:=r.dom a m
  rw [h];exact f.keep _ _ h (n a m)
section
variable {T:Tg} {W:Addr->Prop}
theorem SR.same (s:SR K T z R H W σ ρ) (k:Same H H'):SR K T z R H' W σ ρ:=by
 obtain ⟨fp,r⟩:=s
 exact ⟨fp,r.len,λa h=>(r.wd a h).imp λob q=>⟨k _ _ q.1,q.2⟩,λi d h=>(r.at_ i d h).imp λv q=>⟨q.1,q.2.same k⟩,r.own,r.ro,r.wr,λa h=>(r.rd a h).imp λob q=>⟨k _ _ q.1,q.2⟩,r.dis,r.fix⟩
theorem SR.wd (s:SR K T z R H W σ ρ):∀a,W a->∃ob,H a=some ob/\imm ob=false:=by obtain ⟨fp,r⟩:=s;exact r.wd
theorem SR.rd (s:SR K T z R H W σ ρ):∀a,R a->∃ob,H a=some ob/\imm ob=false:=by obtain ⟨fp,r⟩:=s;exact r.rd
theorem SR.nr (s:SR K T z R H W σ ρ) (h:H a=none):¬R a:=λw=>by
 obtain ⟨ob,q,_⟩:=s.rd a w
 rw [h] at q;cases q
theorem SR.nw (s:SR K T z R H W σ ρ) (h:H a=none):¬W a:=λw=>by
 obtain ⟨ob,q,_⟩:=s.wd a w
 rw [h] at q;cases q
end
abbrev WE:=Env->(D->Env->Prop)->Prop
end PV
variable {a b:PV.D} {o m m1 m2 o1 o2:Bool} {i:Int} {ρ1:PV.Env} {wb wa:PV.WE}
namespace PV
open PySem PySem.Spec L2
structure Post (K:PySem.W.Frag) (T:Tg) (z:Nat->V) (R:Addr->Prop) (m o:Bool) (H:Hp) (W:Addr->Prop) (σ:St) (ρ:Env) (H':Hp) (W':Addr->Prop) (ρ':Env) (d:D) (v:V) (F:List Addr):Prop where
 sr:SR K T z R H' W' σ ρ'
 fr:FrW H W H' W'
 calm:m=false->Same H H'/\W'=W/\ρ'=ρ
 rep:Rep K H' d v F
 own:o=true->F.Nodup/\∀a∈F,H a=none/\¬W' a
def EV (X:Cx) (T:Tg) (m o:Bool) (e:Expr) (w:WE):Prop :=
 ∃te,PE X e te/\∀(z:Nat->V) (R:Addr->Prop) (σ:St) (H:Hp) (W:Addr->Prop) (ρ:Env) (Q:D->Env->Prop) (Q':VK),SR X.K T z R H W σ ρ->w ρ Q ->
  (∀v H' W' d ρ' F,Post X.K T z R m o H W σ ρ H' W' ρ' d v F->Q d ρ'->Q' v H')->te σ H Q'
section
variable {T:Tg} {W W2:Addr->Prop} {ρ2:Env} {d1 d2:D} {v1 v2:V} {F1 F2:List Addr}
theorem Post.first (p:Post K T z R m1 o1 H W σ ρ H1 W1 ρ1 d1 v1 F1) (q:Post K T z R m2 o2 H1 W1 σ ρ1 H2 W2 ρ2 d2 v2 F2) (hc:o1=true\/m2=false):Rep K H2 d1 v1 F1:=by
 rcases hc with hc | hc
 ·exact p.rep.keep q.fr λa h=>((p.own hc).2 a h).2
 ·exact p.rep.same (q.calm hc).1
theorem Post.firstOwn (p:Post K T z R m1 o1 H W σ ρ H1 W1 ρ1 d1 v1 F1) (q:Post K T z R m2 o2 H1 W1 σ ρ1 H2 W2 ρ2 d2 v2 F2) (h:o1=true):F1.Nodup/\∀a∈F1,H a=none/\¬W2 a:=by
 obtain ⟨h1,h2⟩:=p.own h
 refine ⟨h1,λa m=>⟨(h2 a m).1,λw=>?_⟩⟩
 rcases q.fr.new a w with w | w
 ·exact (h2 a m).2 w
 ·obtain ⟨ob,e,_⟩:=p.rep.dom a m
  rw [e] at w;cases w
theorem Post.lastOwn (p:Post K T z R m1 o1 H W σ ρ H1 W1 ρ1 d1 v1 F1) (q:Post K T z R m2 o2 H1 W1 σ ρ1 H2 W2 ρ2 d2 v2 F2) (h:o2=true):F2.Nodup/\∀a∈F2,H a=none/\¬W2 a:=by
 obtain ⟨h1,h2⟩:=q.own h
 exact ⟨h1,λa m=>⟨p.fr.dom a (h2 a m).1,(h2 a m).2⟩⟩
theorem Post.calm2 (p:Post K T z R m1 o1 H W σ ρ H1 W1 ρ1 d1 v1 F1) (q:Post K T z R m2 o2 H1 W1 σ ρ1 H2 W2 ρ2 d2 v2 F2) (h:(m1 || m2)=false):Same H H2/\W2=W/\ρ2=ρ:=by
 rw [Bool.or_eq_false_iff] at h
 obtain ⟨a1,a2,a3⟩:=p.calm h.1
 obtain ⟨b1,b2,b3⟩:=q.calm h.2
 exact ⟨a1.trans b1,b2.trans a2,b3.trans a3⟩
theorem Post.fin (s:SR K T z R H1 W1 σ ρ1) (f:FrW H W H1 W1) (c:m=false->Same H H1/\W1=W/\ρ1=ρ) (k:Same H1 H2) (r:Rep K H2 d v F) (nd:F.Nodup) (nw:∀a∈F,H1 a=none) :
  Post K T z R m true H W σ ρ H2 W1 ρ1 d v F where
 sr:=s.same k
 fr:=f.trans (FrW.same W1 k)
 calm:=λh=>⟨(c h).1.trans k,(c h).2⟩
 rep:=r
 own:=λ_=>⟨nd,λa m=>⟨f.dom a (nw a m),s.nw (nw a m)⟩⟩
theorem Post.flat (s:SR K T z R H1 W1 σ ρ1) (f:FrW H W H1 W1) (c:m=false->Same H H1/\W1=W/\ρ1=ρ) (r:Rep K H1 d v []):Post K T z R m true H W σ ρ H1 W1 ρ1 d v [] where
 sr:=s
 fr:=f
 calm:=c
 rep:=r
 own:=λ_=>⟨List.nodup_nil,λa m=>nomatch m⟩
end
section
variable {T:Tg} {a b:Expr} {w:WE}
theorem EV.lift (h:EV X T m o e w):EV X T m true e (λρ Q=>w ρ λd ρ'=>d.pure=true/\Q d ρ'):=by
 obtain ⟨te,p,g⟩:=h
 refine ⟨te,p,λz R σ H W ρ Q Q' s hw k=>g z R σ H W ρ _ Q' s hw λv H' W' d ρ' F q ⟨hp,hq⟩=>?_⟩
 obtain ⟨e,r⟩:=q.rep.pure hp
 exact k v H' W' d ρ' [] ⟨q.sr,q.fr,q.calm,r,λ_=>⟨List.nodup_nil,λa m=>nomatch m⟩⟩ hq
def wVar (i:Nat):WE:=λρ Q=>match look ρ i with
 | some d=>Q d ρ
 | none=>False
def wC (d:D):WE:=λρ Q=>Q d ρ
theorem Qol (i:Nat) (h:PE X e (tVar i)):EV X T false false e (wVar i):=by
 refine ⟨_,h,λz R σ H W ρ Q Q' s hw k=>?_⟩
 unfold wVar at hw
 cases hl:look ρ i with
 | none=>rw [hl] at hw;exact hw.elim
 | some d =>
  rw [hl] at hw
  obtain ⟨fp,r⟩:=s
  obtain ⟨v,h1,h2⟩:=r.at_ i d hl
  exact ⟨v,h1,k v H W d ρ (fp i) ⟨⟨fp,r⟩,FrW.refl H W,λ_=>⟨Same.refl H,rfl,rfl⟩,h2,λh=>nomatch h⟩ hw⟩
theorem Qc (i:Nat) {x:Str} (hN:X.N[i]? = some x:=by rfl) (hv:Vis X.env.scope x:=by first | exact Or.inl rfl | exact Or.inr (Or.inl rfl) | exact Or.inr (Or.inr rfl)) (hd:(x == ("__debug__" : Str))=false:=by decide)
  (hcd:(x == ("__classdict__" : Str))=false:=by decide):EV X T false false (.Name x pos) (wVar i):=Qol i (Y1 hN hv hd hcd)
theorem X5 (h:PE X e (tC v)) (r:∀H,Rep X.K H d v []):EV X T false true e (wC d) :=
 ⟨_,h,λz R σ H W ρ Q Q' s hw k=>k v H W d ρ [] (Post.flat s (FrW.refl H W) (λ_=>⟨Same.refl H,rfl,rfl⟩) (r H)) hw⟩
theorem Qf {j pos}:EV X T false true (.Constant (.int i) j pos) (wC (.int i)):=X5 Qe2 λ_=>.int i
theorem Qf1 {i:Bool} {j pos}:EV X T false true (.Constant (.bool i) j pos) (wC (.bl i)):=X5 Qn4 λ_=>.bl i
abbrev G2:=D->D->(D->Prop)->Prop
structure Fin (K:PySem.W.Frag) (H H':Hp) (d:D) (v:V) (F:List Addr):Prop where
 same:Same H H'
 rep:Rep K H' d v F
 nd:F.Nodup
 new:∀a∈F,H a=none
theorem Fin.flat (r:Rep K H d v []):Fin K H H d v []:=⟨Same.refl H,r,List.nodup_nil,λ_ m=>nomatch m⟩
theorem Qh {p:Addr} (h:H p=none):Same H (upd H p ob):=λb u e=>by rw [Qm (Qq e h)];exact e
def OpD (X:Cx) (f:Value->Value->Sem Value) (g:G2):Prop :=
 ∃r,OpR X f r/\∀(H:Hp) (a b:D) (x y:V) (F1 F2:List Addr) (k:D->Prop) (Q:VK),Rep X.K H a x F1->Rep X.K H b y F2->g a b k ->
  (∀v H' d F,Fin X.K H H' d v F->k d->Q v H')->r x y H Q
def wBin (g:G2) (wa wb:WE):WE:=λρ Q=>wa ρ λx ρ1=>wb ρ1 λy ρ2=>g x y λd=>Q d ρ2
theorem two {ta:TE} {W:Addr->Prop} {RR:V->V->Hp->Prop} {Q2:D->D->Env->Prop}
  (ga:∀(z:Nat->V) (R:Addr->Prop) (σ:St) (H:Hp) (W:Addr->Prop) (ρ:Env) (Q:D->Env->Prop) (Q':VK),SR X.K T z R H W σ ρ->wa ρ Q->(∀v H' W' d ρ' F,Post X.K T z R m1 o1 H W σ ρ H' W' ρ' d v F->Q d ρ'->Q' v H')->ta σ H Q')
  (gb:∀(z:Nat->V) (R:Addr->Prop) (σ:St) (H:Hp) (W:Addr->Prop) (ρ:Env) (Q:D->Env->Prop) (Q':VK),SR X.K T z R H W σ ρ->wb ρ Q->(∀v H' W' d ρ' F,Post X.K T z R m2 o2 H W σ ρ H' W' ρ' d v F->Q d ρ'->Q' v H')->tb σ H Q')
  (hc:o1=true\/m2=false) (s:SR X.K T z R H W σ ρ) (hw:wa ρ λx ρ1=>wb ρ1 λy ρ2=>Q2 x y ρ2)
  (k:∀x y H2 W2 d1 d2 ρ2 F1 F2,SR X.K T z R H2 W2 σ ρ2->FrW H W H2 W2->((m1 || m2)=false->Same H H2/\W2=W/\ρ2=ρ)->Rep X.K H2 d1 x F1->Rep X.K H2 d2 y F2 ->
   (o1=true->F1.Nodup/\∀a∈F1,H a=none/\¬W2 a)->(o2=true->F2.Nodup/\∀a∈F2,H a=none/\¬W2 a)->(o2=true->∀a∈F1,a∉F2)->Q2 d1 d2 ρ2->RR x y H2) :
  ta σ H λx H1=>tb σ H1 λy H2=>RR x y H2:=by
 refine ga z R σ H W ρ _ _ s hw λv1 H1 W1 d1 ρ1 F1 p q1=>?_
 refine gb z R σ H1 W1 ρ1 _ _ p.sr q1 λv2 H2 W2 d2 ρ2 F2 q q2=>?_
 refine k v1 v2 H2 W2 d1 d2 ρ2 F1 F2 q.sr (p.fr.trans q.fr) (p.calm2 q) (p.first q hc) q.rep (p.firstOwn q) (p.lastOwn q) (λh a m1 m2=>?_) q2
 obtain ⟨ob,e,_⟩:=p.rep.dom a m1
 rw [((q.own h).2 a m2).1] at e
 cases e
theorem Qw {op:Operator} {g:G2} (ho:OpD X (binaryOp op) g) (ha:EV X T m1 o1 a wa) (hb:EV X T m2 o2 b wb) (hc:o1=true\/m2=false:=by first | exact .inl rfl | exact .inr rfl) :
  EV X T (m1 || m2) true (.BinOp a op b pos) (wBin g wa wb):=by
 obtain ⟨r,ro,gr⟩:=ho
 obtain ⟨ta,pa,ga⟩:=ha
 obtain ⟨tb,pb,gb⟩:=hb
 refine ⟨_,Qn3 ro pa pb,λz R σ H W ρ Q Q' s hw k=>?_⟩
 refine two ga gb hc s hw λx y H2 W2 d1 d2 ρ2 F1 F2 s2 f2 c2 r1 r2 _ _ _ q2=>?_
 exact gr H2 d1 d2 x y F1 F2 _ Q' r1 r2 q2 λv H' d F fi hk=>k v H' W2 d ρ2 F (Post.fin s2 f2 c2 fi.same fi.rep fi.nd fi.new) hk
theorem Qm6 {g:G2} (ho:OpD X (compareOp op) g) (ha:EV X T m1 o1 a wa) (hb:EV X T m2 o2 b wb) (hc:o1=true\/m2=false:=by first | exact .inl rfl | exact .inr rfl)
  (hm:behindInMarks op b=false:=by first | exact Qij _ | with_unfolding_all rfl):EV X T (m1 || m2) true (.Compare a [op] [b] pos) (wBin g wa wb):=by
 obtain ⟨r,ro,gr⟩:=ho
 obtain ⟨ta,pa,ga⟩:=ha
 obtain ⟨tb,pb,gb⟩:=hb
 refine ⟨_,Qjq ro pa pb hm,λz R σ H W ρ Q Q' s hw k=>?_⟩
 refine two ga gb hc s hw λx y H2 W2 d1 d2 ρ2 F1 F2 s2 f2 c2 r1 r2 _ _ _ q2=>?_
 exact gr H2 d1 d2 x y F1 F2 _ Q' r1 r2 q2 λv H' d F fi hk=>k v H' W2 d ρ2 F (Post.fin s2 f2 c2 fi.same fi.rep fi.nd fi.new) hk
abbrev WT:=Env->(Bool->Env->Prop)->Prop
structure PostT (K:PySem.W.Frag) (T:Tg) (z:Nat->V) (R:Addr->Prop) (m:Bool) (H:Hp) (W:Addr->Prop) (σ:St) (ρ:Env) (H':Hp) (W':Addr->Prop) (ρ':Env):Prop where
 sr:SR K T z R H' W' σ ρ'
 fr:FrW H W H' W'
 calm:m=false->Same H H'/\W'=W/\ρ'=ρ
def TV (X:Cx) (T:Tg) (m:Bool) (e:Expr) (w:WT):Prop :=
 ∃tt,PT X e tt/\∀(z:Nat->V) (R:Addr->Prop) (σ:St) (H:Hp) (W:Addr->Prop) (ρ:Env) (Q:Bool->Env->Prop) (Q':Bool->Hp->Prop),SR X.K T z R H W σ ρ->w ρ Q ->
  (∀b H' W' ρ',PostT X.K T z R m H W σ ρ H' W' ρ'->Q b ρ'->Q' b H')->tt σ H Q'
def truD:D->Option Bool
 | .non=>some false
 | .bl b=>some b
 | .int i=>some (i != 0)
 | .str y=>if y.length<=sizeLine then some ((y.length:Int) != 0) else none
 | .lst xs=>some (!xs.isEmpty)
 | .tup xs=>some (!xs.isEmpty)
 | .dik kvs=>some (!kvs.isEmpty)
 | .kls xs=>some (!xs.isEmpty)
 | .dit _=>none
 | .ty _=>none
 | .fdk _=>none
 | .ftp _=>none
 | .fls _=>none
 | .fdt _=>none
 | .obj _ _=>none
 | .clo _ _=>none
 | .kc _=>none
 | .dmx _=>none
 | .fmx _=>none
 | .lsa _ _=>none
 | .ist _ _=>none
def wTru (wa:WE):WT:=λρ Q=>wa ρ λd ρ'=>match truD d with
 | some b=>Q b ρ'
 | none=>False
theorem Reps.emp {ds:List D} (r:Reps K H ds xs F):ds.isEmpty=xs.isEmpty:=by
 have:=r.length
 cases ds <;> cases xs <;> simp at this <;> rfl
theorem RepK.emp {xs:List (Key × V)} (r:RepK K H ds xs F):ds.isEmpty=xs.isEmpty:=by
 have:=r.length
 cases ds <;> cases xs <;> simp at this <;> rfl
theorem Qiu {b:Bool} (r:Rep K H d x F) (h:truD d=some b):TruV K x H b:=by
 cases r with
 | non=>exact (Option.some.inj h).symm
 | bl c=>exact (Option.some.inj h).symm
 | int c=>exact (Option.some.inj h).symm
 | str y =>
  have h:(if y.length<=sizeLine then some ((y.length:Int) != 0) else none)=some b:=h
  split at h
  ·rename_i hl;exact ⟨hl,(Option.some.inj h).symm⟩
  ·cases h
 | tup e r =>
  refine .inr (.inl ⟨_,.of e,?_⟩)
  rw [← Option.some.inj h,r.emp]
 | lst e r =>
  refine .inl ⟨_,.of e,?_⟩
  rw [← Option.some.inj h,r.emp]
 | kls e r =>
  refine .inl ⟨_,e.sq,?_⟩
  rw [← Option.some.inj h,r.emp]
 | dik e r =>
  refine .inr (.inr ⟨_,e,?_⟩)
  rw [← Option.some.inj h,r.emp]
 | dit e r=>cases h
 | ty t=>cases h
 | fdk e r=>cases h
 | ftp e hd r=>cases h
 | fls e r=>cases h
 | fdt e r=>cases h
 | obj e hc hf=>cases h
 | clo e r=>cases h
 | kc a=>cases h
 | dmx e hk hm r=>cases h
 | fmx e hk hm r=>cases h
 | lsa e r=>cases h
 | ist e hc hn r=>cases h
theorem G1 (ha:EV X T m o a wa) (he:∀whole,isTrue a X.env whole=(do let v ← whole;standAt a.pos;holding [v] (truthy v)):=by intro _;rfl):TV X T m a (wTru wa):=by
 obtain ⟨ta,pa,ga⟩:=ha
 refine ⟨_,Qg2 pa he,λz R σ H W ρ Q Q' s hw k=>?_⟩
 refine ga z R σ H W ρ _ _ s hw λv1 H1 W1 d1 ρ1 F1 p q1=>?_
 cases ht:truD d1 with
 | none=>rw [ht] at q1;exact q1.elim
 | some b =>
  rw [ht] at q1
  exact ⟨b,Qiu p.rep ht,k b H1 W1 ρ1 ⟨p.sr,p.fr,p.calm⟩ q1⟩
def wBl (wa:WE):WT:=λρ Q=>wa ρ λd ρ'=>match d with
 | .bl b=>Q b ρ'
 | _=>False
theorem Qid {b:Bool} (r:Rep K H (.bl b) x F):x=.bl b:=by cases r;rfl
theorem Zb {g:G2} (ho:OpD X (compareOp op) g) (ha:EV X T m1 o1 a wa) (hb:EV X T m2 o2 b wb) (hc:o1=true\/m2=false:=by first | exact .inl rfl | exact .inr rfl)
  (hm:behindInMarks op b=false:=by first | exact Qij _ | with_unfolding_all rfl):TV X T (m1 || m2) (.Compare a [op] [b] pos) (wBl (wBin g wa wb)):=by
 obtain ⟨r,ro,gr⟩:=ho
 obtain ⟨ta,pa,ga⟩:=ha
 obtain ⟨tb,pb,gb⟩:=hb
 refine ⟨_,Qjh ro pa pb hm,λz R σ H W ρ Q Q' s hw k=>?_⟩
 refine two ga gb hc s hw λx y H2 W2 d1 d2 ρ2 F1 F2 s2 f2 c2 r1 r2 _ _ _ q2=>?_
 refine gr H2 d1 d2 x y F1 F2 _ _ r1 r2 q2 λv H' d F fi hk=>?_
 cases d with
 | bl b=>exact ⟨b,Qid fi.rep,k b H' W2 ρ2 ⟨s2.same fi.same,f2.trans (FrW.same W2 fi.same),λh=>⟨(c2 h).1.trans fi.same,(c2 h).2⟩⟩ hk⟩
 | _=>exact hk.elim
end
section
variable {T:Tg} {a b:Expr} {w:WE} {wt wu:WT}
def wNot (wt:WT):WT:=λρ Q=>wt ρ λb ρ'=>Q (!b) ρ'
def wOr (wt wu:WT):WT:=λρ Q=>wt ρ λb ρ'=>if b=true then Q true ρ' else wu ρ' Q
theorem Qcp (ha:TV X T m a wt):TV X T m (.UnaryOp .Not a pos) (wNot wt):=by
 obtain ⟨ta,pa,ga⟩:=ha
 exact ⟨_,Qls pa,λz R σ H W ρ Q Q' s hw k=>ga z R σ H W ρ _ _ s hw λb H1 W1 ρ1 p q1=>k (!b) H1 W1 ρ1 p q1⟩
def BV (X:Cx) (T:Tg) (m:Bool) (e:Expr) (w:WT):Prop :=
 ∃tt,PW X e tt/\∀(z:Nat->V) (R:Addr->Prop) (σ:St) (H:Hp) (W:Addr->Prop) (ρ:Env) (Q:Bool->Env->Prop) (Q':Bool->Hp->Prop),SR X.K T z R H W σ ρ->w ρ Q ->
  (∀b H' W' ρ',PostT X.K T z R m H W σ ρ H' W' ρ'->Q b ρ'->Q' b H')->tt σ H Q'
theorem PostT.seq {W W2:Addr->Prop} {ρ2:Env} (p:PostT K T z R m1 H W σ ρ H1 W1 ρ1) (q:PostT K T z R m2 H1 W1 σ ρ1 H2 W2 ρ2):PostT K T z R (m1 || m2) H W σ ρ H2 W2 ρ2 where
 sr:=q.sr
 fr:=p.fr.trans q.fr
 calm:=λh=>by
  rw [Bool.or_eq_false_iff] at h
  obtain ⟨a1,a2,a3⟩:=p.calm h.1
  obtain ⟨b1,b2,b3⟩:=q.calm h.2
  exact ⟨a1.trans b1,b2.trans a2,b3.trans a3⟩
theorem PostT.left {W:Addr->Prop} (p:PostT K T z R m1 H W σ ρ H1 W1 ρ1):PostT K T z R (m1 || m2) H W σ ρ H1 W1 ρ1 :=
 ⟨p.sr,p.fr,λh=>p.calm (Bool.or_eq_false_iff.mp h).1⟩
theorem Qgj (ha:TV X T m a wt):BV X T m (.BoolOp .Or [a] pos) wt:=by
 obtain ⟨ta,pa,ga⟩:=ha
 exact ⟨_,Qlr pa,ga⟩
theorem Qgk (ha:TV X T m1 a wt) (hb:BV X T m2 (.BoolOp .Or (b::rest) pos) wu):BV X T (m1 || m2) (.BoolOp .Or (a::b::rest) pos) (wOr wt wu):=by
 obtain ⟨ta,pa,ga⟩:=ha
 obtain ⟨tb,pb,gb⟩:=hb
 refine ⟨_,Qnz pa pb,λz R σ H W ρ Q Q' s hw k=>ga z R σ H W ρ _ _ s hw λc H1 W1 ρ1 p q1=>?_⟩
 cases c with
 | false=>exact gb z R σ H1 W1 ρ1 Q Q' p.sr q1 λb H2 W2 ρ2 q q2=>k b H2 W2 ρ2 (p.seq q) q2
 | true=>exact k true H1 W1 ρ1 p.left q1
theorem Qbt (h:BV X T m e wt):TV X T m e wt:=by
 obtain ⟨ta,pa,ga⟩:=h
 exact ⟨_,pa.pt,ga⟩
end
end PV
variable {neg:Bool}
namespace PV
open PySem PySem.Spec L2
open PySem.W (Dat kqdP kqdPs kqdOk)
mutual
def Ja:D->Dat
 | .non=>.none
 | .bl b=>.bool b
 | .int i=>.int i
 | .str x=>.str x
 | .tup xs=>.tuple (Jf xs)
 | .lst xs=>.list (Jf xs)
 | .dik _=>.none
 | .dit _=>.none
 | .kls _=>.none
 | .ty _=>.none
 | .fdk _=>.none
 | .ftp _=>.none
 | .fls _=>.none
 | .fdt _=>.none
 | .obj _ _=>.none
 | .clo _ _=>.none
 | .kc _=>.none
 | .dmx _=>.none
 | .fmx _=>.none
 | .lsa _ _=>.none
 | .ist _ _=>.none
def Jf:List D->List Dat
 | []=>[]
 | d::r=>Ja d::Jf r
end
mutual
def eqOk:Nat->D->Bool
 | _,.non=>true
 | _,.int _=>true
 | _,.str x=>PyData.strOk x
 | n+1,.tup xs=>Yh n xs
 | n+1,.lst xs=>Yh n xs
 | _,_=>false
def Yh:Nat->List D->Bool
 | _,[]=>true
 | n,d::r=>eqOk n d && Yh n r
end
theorem Qba {xs:List D}:Yh n xs=true↔∀x∈xs,eqOk n x=true:=by
 induction xs with
 | nil=>simp [Yh]
 | cons d r ih=>simp only [Yh,Bool.and_eq_true,ih,List.mem_cons,forall_eq_or_imp]
mutual
theorem Z1:∀(n:Nat) (d:D),eqOk n d=true->kqdOk n (Ja d)=true
 | _,.non,_=>by simp [Ja,kqdOk]
 | _,.bl _,h=>by cases ‹Nat› <;> simp [eqOk] at h
 | _,.int _,_=>by simp [Ja,kqdOk]
 | _,.str x,h=>by
  cases ‹Nat› <;> (simp only [eqOk] at h;simpa [Ja,kqdOk] using h)
 | 0,.tup _,h=>by simp [eqOk] at h
 | 0,.lst _,h=>by simp [eqOk] at h
 | n+1,.tup xs,h=>by
  simp only [eqOk] at h
  rw [Ja];simp only [kqdOk]
  exact Vz n xs h
 | n+1,.lst xs,h=>by
  simp only [eqOk] at h
  rw [Ja];simp only [kqdOk]
  exact Vz n xs h
 | n,.dik _,h=>by cases n <;> simp [eqOk] at h
 | n,.dit _,h=>by cases n <;> simp [eqOk] at h
 | n,.kls _,h=>by cases n <;> simp [eqOk] at h
 | n,.ty _,h=>by cases n <;> simp [eqOk] at h
 | n,.fdk _,h=>by cases n <;> simp [eqOk] at h
 | n,.ftp _,h=>by cases n <;> simp [eqOk] at h
 | n,.fls _,h=>by cases n <;> simp [eqOk] at h
 | n,.fdt _,h=>by cases n <;> simp [eqOk] at h
 | n,.obj _ _,h=>by cases n <;> simp [eqOk] at h
 | n,.clo _ _,h=>by cases n <;> simp [eqOk] at h
 | n,.kc _,h=>by cases n <;> simp [eqOk] at h
theorem Vz:∀(n:Nat) (xs:List D),Yh n xs=true->(Jf xs).all (kqdOk n)=true
 | _,[],_=>by simp [Jf]
 | n,d::r,h=>by
  simp only [Yh,Bool.and_eq_true] at h
  rw [Jf,List.all_cons,Z1 n d h.1,Vz n r h.2];rfl
end
mutual
theorem Vp:∀(n k:Nat) (a b:D),eqOk n a=true->eqOk k b=true->Ja a=Ja b->a=b
 | n,k,a,b,ha,hb,h=>by
  cases a with
  | non=>cases b <;> first | rfl | (simp [Ja] at h;done) | (cases k <;> simp [eqOk] at hb)
  | bl x=>cases n <;> simp [eqOk] at ha
  | int x=>cases b <;> first | (simp [Ja] at h;rw [h]) | (simp [Ja] at h)
  | str x=>cases b <;> first | (simp [Ja] at h;rw [h]) | (simp [Ja] at h)
  | tup xs =>
   cases b with
   | tup ys =>
    cases n with
    | zero=>simp [eqOk] at ha
    | succ n =>
     cases k with
     | zero=>simp [eqOk] at hb
     | succ k =>
      simp only [eqOk] at ha hb
      simp only [Ja,Dat.tuple.injEq] at h
      rw [V8 n k xs ys ha hb h]
   | _=>simp [Ja] at h
  | lst xs =>
   cases b with
   | lst ys =>
    cases n with
    | zero=>simp [eqOk] at ha
    | succ n =>
     cases k with
     | zero=>simp [eqOk] at hb
     | succ k =>
      simp only [eqOk] at ha hb
      simp only [Ja,Dat.list.injEq] at h
      rw [V8 n k xs ys ha hb h]
   | _=>simp [Ja] at h
  | dik x=>cases n <;> simp [eqOk] at ha
  | dit x=>cases n <;> simp [eqOk] at ha
  | kls x=>cases n <;> simp [eqOk] at ha
  | ty x=>cases n <;> simp [eqOk] at ha
  | fdk x=>cases n <;> simp [eqOk] at ha
  | ftp x=>cases n <;> simp [eqOk] at ha
  | fls x=>cases n <;> simp [eqOk] at ha
  | fdt x=>cases n <;> simp [eqOk] at ha
  | obj x y=>cases n <;> simp [eqOk] at ha
  | clo x y=>cases n <;> simp [eqOk] at ha
  | kc x=>cases n <;> simp [eqOk] at ha
  | dmx x=>cases n <;> simp [eqOk] at ha
  | fmx x=>cases n <;> simp [eqOk] at ha
  | lsa x y=>cases n <;> simp [eqOk] at ha
  | ist x y=>cases n <;> simp [eqOk] at ha
theorem V8:∀(n k:Nat) (a b:List D),Yh n a=true->Yh k b=true->Jf a=Jf b->a=b
 | n,k,[],b,ha,hb,h=>by
  cases b with
  | nil=>rfl
  | cons=>simp [Jf] at h
 | n,k,x::a,b,ha,hb,h=>by
  cases b with
  | nil=>simp [Jf] at h
  | cons y b =>
   simp only [Jf,List.cons.injEq] at h
   simp only [Yh,Bool.and_eq_true] at ha hb
   rw [Vp n k x y ha.1 hb.1 h.1,V8 n k a b ha.2 hb.2 h.2]
end
theorem Rep.dv (n:Nat) (r:Rep K H d v F):eqOk n d=true->DV H v (Ja d):=by
 have no:∀{P:Prop} {n:Nat} {d:D},(∀n,eqOk n d=false)->eqOk n d=true->P:=λh h'=>absurd ((h _).symm.trans h') (by simp)
 refine Rep.rec (motive_1:=λd v _ _=>∀n,eqOk n d=true->DV H v (Ja d)) (motive_2:=λd v _ _=>∀n,Yh n d=true->DVs H v (Jf d)) (motive_3:=λ_ _ _ _=>True) (motive_4:=λ_ _ _ _=>True) ?_ ?_ ?_ ?_ ?_ ?_ ?_ ?_ ?_ ?_ ?_ ?_ ?_ ?_ ?_ ?_ ?_ ?_ ?_ ?_ ?_ ?_ ?_ trivial (λ_ _ _ _=>trivial) trivial (λ_ _ _ _=>trivial) r n
 ·exact λ_ _=>by rw [Ja];exact .non
 ·exact λb n=>no λn=>by cases n <;> rfl
 ·exact λi _ _=>by rw [Ja];exact .int i
 ·exact λi _ _=>by rw [Ja];exact .str i
 ·intro _ _ _ _ e _ ih n h
  cases n with
  | zero=>simp [eqOk] at h
  | succ n=>rw [eqOk] at h;rw [Ja];exact .tup e (ih n h)
 ·intro _ _ _ _ e _ ih n h
  cases n with
  | zero=>simp [eqOk] at h
  | succ n=>rw [eqOk] at h;rw [Ja];exact .lst e (ih n h)
 ·exact λ_ _ _ n=>no λn=>by cases n <;> rfl
 ·exact λ_ _ _ n=>no λn=>by cases n <;> rfl
 ·exact λ_ _ _ n=>no λn=>by cases n <;> rfl
 ·exact λ_ n=>no λn=>by cases n <;> rfl
 ·exact λ_ _ _ n=>no λn=>by cases n <;> rfl
 ·exact λ_ _ _ _ n=>no λn=>by cases n <;> rfl
 ·exact λ_ _ _ n=>no λn=>by cases n <;> rfl
 ·exact λ_ _ _ n=>no λn=>by cases n <;> rfl
 ·exact λ_ _ _ n=>no λn=>by cases n <;> rfl
 ·exact λ_ _ _ n=>no λn=>by cases n <;> rfl
 ·exact λ_ n=>no λn=>by cases n <;> rfl
 ·exact λ_ _ _ _ _ n=>no λn=>by cases n <;> rfl
 ·exact λ_ _ _ _ _ n=>no λn=>by cases n <;> rfl
 ·exact λ_ _ _ n=>no λn=>by cases n <;> rfl
 ·exact λ_ _ _ _ _ n=>no λn=>by cases n <;> rfl
 ·exact λ_ _=>by rw [Jf];exact .nil
 ·intro _ _ _ _ _ _ _ _ ih1 ih2 n q
  rw [Yh,Bool.and_eq_true] at q
  rw [Jf];exact .cons (ih1 n q.1) (ih2 n q.2)
theorem Reps.dv {d:List D} {v:List V} (n:Nat) (r:Reps K H d v F) (q:Yh n d=true):DVs H v (Jf d):=by
 induction d generalizing v F with
 | nil=>cases r;rw [Jf];exact .nil
 | cons d ds ih =>
  cases r with
  | cons h r =>
   rw [Yh,Bool.and_eq_true] at q
   rw [Jf];exact .cons (h.dv n q.1) (ih r q.2)
def dAdd:G2
 | .int i,.int j,k=>k (.int (i+j))
 | .str x,.str y,k=>x.length+y.length<=sizeLine/\k (.str (x++y))
 | .tup xs,.tup ys,k=>Qs xs=true/\Qs ys=true/\xs≠[]/\xs.length+ys.length<=sizeLine/\k (.tup (xs++ys))
 | .lst xs,.lst ys,k=>Qs xs=true/\Qs ys=true/\xs.length+ys.length<=sizeLine/\k (.lst (xs++ys))
 | _,_,_=>False
def dSub:G2
 | .int i,.int j,k=>k (.int (i-j))
 | _,_,_=>False
def dMul:G2
 | .int i,.int j,k=>CMul i j/\k (.int (i*j))
 | .lst xs,.int n,k=>Qs xs=true /\ -(2 ^ 63)<=n/\n<2 ^ 63/\xs.length*n.toNat<=sizeLine/\k (.lst (List.replicate n.toNat xs).flatten)
 | _,_,_=>False
def dDiv:G2
 | .int i,.int j,k=>(0<j/\j<1073741824/\k (.int (i / j)))\/(j<0/\j.natAbs<1073741824/\k (.int (i.fdiv j)))
 | _,_,_=>False
def dMod:G2
 | .int i,.int j,k=>(0<j/\k (.int (i % j)))\/(j<0/\k (.int (i.fmod j)))
 | _,_,_=>False
def dPow:G2
 | .int i,.int j,k=>CPow i j/\k (.int (i ^ j.toNat))
 | _,_,_=>False
def dEq:G2
 | .int i,.int j,k=>k (.bl (decide (i=j)))
 | .bl i,.bl j,k=>k (.bl (i == j))
 | .str i,.str j,k=>k (.bl (decide (i=j)))
 | a,b,k=>eqOk 9 a=true/\eqOk 9 b=true/\(a=b->k (.bl true))/\(a≠b->k (.bl false))
def dNe:G2
 | .int i,.int j,k=>k (.bl (!decide (i=j)))
 | .bl i,.bl j,k=>k (.bl (!(i == j)))
 | .str i,.str j,k=>k (.bl (!decide (i=j)))
 | a,b,k=>eqOk 9 a=true/\eqOk 9 b=true/\(a=b->k (.bl false))/\(a≠b->k (.bl true))
def dCmp (f:Int->Int->Bool):G2
 | .int i,.int j,k=>k (.bl (f i j))
 | _,_,_=>False
theorem Qes (r:Rep K H (.int i) x F):x=.int i:=by cases r;rfl
theorem Reps.flatten {K:PySem.W.Frag} {H:Hp} {ds:List D} {xs:List V} (r:Reps K H ds xs []):∀n:Nat,Reps K H (List.replicate n ds).flatten (List.replicate n xs).flatten []
 | 0=>.nil
 | n+1=>by
  have:=r.append (Reps.flatten r n)
  simpa [List.replicate_succ,List.flatten_cons] using this
theorem Qhz (g:dAdd a b k):(∃i j,a=.int i/\b=.int j)\/(∃i j,a=.str i/\b=.str j)\/(∃i j,a=.tup i/\b=.tup j)\/∃i j,a=.lst i/\b=.lst j:=by
 cases a with
 | int i=>cases b with
  | int j=>exact .inl ⟨i,j,rfl,rfl⟩
  | _=>exact (show False from g).elim
 | str i=>cases b with
  | str j=>exact .inr (.inl ⟨i,j,rfl,rfl⟩)
  | _=>exact (show False from g).elim
 | tup i=>cases b with
  | tup j=>exact .inr (.inr (.inl ⟨i,j,rfl,rfl⟩))
  | _=>exact (show False from g).elim
 | lst i=>cases b with
  | lst j=>exact .inr (.inr (.inr ⟨i,j,rfl,rfl⟩))
  | _=>exact (show False from g).elim
 | _=>exact (show False from g).elim
theorem Qmh:OpD X (binaryOp .Add) dAdd:=by
 refine ⟨_,OpR.or Qmc (OpR.or Qmb (OpR.or Qjv Qdt)),λH a b x y F1 F2 k Q ra rb g q=>?_⟩
 rcases Qhz g with ⟨i,j,rfl,rfl⟩ | ⟨i,j,rfl,rfl⟩ | ⟨ds,es,rfl,rfl⟩ | ⟨ds,es,rfl,rfl⟩
 ·exact .inl ⟨_,_,ra.iInt,rb.iInt,q _ _ _ _ (.flat (.int _)) g⟩
 ·exact .inr (.inr (.inr ⟨_,_,ra.iStr,rb.iStr,g.1,q _ _ _ _ (.flat (.str _)) g.2⟩))
 ·obtain ⟨a,xs,rfl,e1,r1⟩:=ra.iTup
  obtain ⟨b,ys,rfl,e2,r2⟩:=rb.iTup
  obtain ⟨p1,p2,hne,hz,g⟩:=g
  obtain ⟨-,r1⟩:=r1.pure p1
  obtain ⟨-,r2⟩:=r2.pure p2
  have l1:=r1.length
  have l2:=r2.length
  refine .inr (.inr (.inl ⟨a,b,xs,ys,rfl,rfl,.of e1,.of e2,λz=>hne (List.length_eq_zero_iff.mp (by rw [← l1,z];rfl)),by omega,λz=>?_,λz p hp=>?_⟩))
  ·have:es=[]:=List.length_eq_zero_iff.mp (by rw [← l2,z];rfl)
   subst this
   rw [List.append_nil] at g
   exact q _ _ _ _ (.flat (.tup e1 r1)) g
  ·refine q _ _ _ [] ⟨Qh hp,.tup Qg ?_,List.nodup_nil,λ_ m=>nomatch m⟩ g
   exact (r1.append r2).same (Qh hp)
 ·obtain ⟨a,xs,_,rfl,_,e1,r1⟩:=ra.iLst
  obtain ⟨b,ys,_,rfl,_,e2,r2⟩:=rb.iLst
  obtain ⟨p1,p2,hz,g⟩:=g
  obtain ⟨-,r1⟩:=r1.pure p1
  obtain ⟨-,r2⟩:=r2.pure p2
  have l1:=r1.length
  have l2:=r2.length
  refine .inr (.inl ⟨a,b,xs,ys,rfl,rfl,e1,e2,by omega,λp hp=>?_⟩)
  refine q _ _ _ [p] ⟨Qh hp,.lst Qg ((r1.append r2).same (Qh hp)),by simp,λc m=>by rw [List.mem_singleton.mp m];exact hp⟩ g
theorem Qii:OpD X (binaryOp .Sub) dSub:=by
 refine ⟨_,Ql3,λH a b x y F1 F2 k Q ra rb g q=>?_⟩
 (cases ra <;> first | exact (show False from g).elim | skip) <;> (cases rb <;> first | exact (show False from g).elim | skip)
 exact ⟨_,_,rfl,rfl,q _ _ _ _ (.flat (.int _)) g⟩
theorem Qhy (g:dMul a b k):(∃i j,a=.int i/\b=.int j)\/∃i j,a=.lst i/\b=.int j:=by
 cases a with
 | int i=>cases b with
  | int j=>exact .inl ⟨i,j,rfl,rfl⟩
  | _=>exact (show False from g).elim
 | lst i=>cases b with
  | int j=>exact .inr ⟨i,j,rfl,rfl⟩
  | _=>exact (show False from g).elim
 | _=>exact (show False from g).elim
theorem Jt:OpD X (binaryOp .Mult) dMul:=by
 refine ⟨_,OpR.or Ql8 Ql4,λH a b x y F1 F2 k Q ra rb g q=>?_⟩
 rcases Qhy g with ⟨i,j,rfl,rfl⟩ | ⟨ds,n,rfl,rfl⟩
 ·exact .inl ⟨_,_,ra.iInt,rb.iInt,g.1,q _ _ _ _ (.flat (.int _)) g.2⟩
 ·obtain ⟨a,xs,_,rfl,_,e1,r1⟩:=ra.iLst
  obtain rfl:=rb.iInt
  obtain ⟨p1,h1,h2,hz,g⟩:=g
  obtain ⟨-,r1⟩:=r1.pure p1
  have l1:=r1.length
  refine .inr ⟨a,n,xs,rfl,rfl,e1,h1,h2,by rw [l1];exact hz,λp hp=>?_⟩
  refine q _ _ _ [p] ⟨Qh hp,.lst Qg ((r1.flatten _).same (Qh hp)),by simp,λc m=>by rw [List.mem_singleton.mp m];exact hp⟩ g
theorem Qc3:OpD X (binaryOp .FloorDiv) dDiv:=by
 refine ⟨_,OpR.or Qjt Qhe,λH a b x y F1 F2 k Q ra rb g q=>?_⟩
 (cases ra <;> first | exact (show False from g).elim | skip) <;> (cases rb <;> first | exact (show False from g).elim | skip)
 rcases (show _\/_ from g) with ⟨h1,h2,g⟩ | ⟨h1,h2,g⟩
 ·exact .inl ⟨_,_,rfl,rfl,⟨h1,h2⟩,q _ _ _ _ (.flat (.int _)) g⟩
 ·exact .inr ⟨_,_,rfl,rfl,⟨by omega,h2⟩,q _ _ _ _ (.flat (.int _)) g⟩
theorem Qa2:OpD X (binaryOp .Mod) dMod:=by
 refine ⟨_,OpR.or Ql9 Qjs,λH a b x y F1 F2 k Q ra rb g q=>?_⟩
 (cases ra <;> first | exact (show False from g).elim | skip) <;> (cases rb <;> first | exact (show False from g).elim | skip)
 rcases (show _\/_ from g) with ⟨h1,g⟩ | ⟨h1,g⟩
 ·exact .inl ⟨_,_,rfl,rfl,h1,q _ _ _ _ (.flat (.int _)) g⟩
 ·exact .inr ⟨_,_,rfl,rfl,by omega,q _ _ _ _ (.flat (.int _)) g⟩
theorem Qfb:OpD X (binaryOp .Pow) dPow:=by
 refine ⟨_,Ql5,λH a b x y F1 F2 k Q ra rb g q=>?_⟩
 (cases ra <;> first | exact (show False from g).elim | skip) <;> (cases rb <;> first | exact (show False from g).elim | skip)
 exact ⟨_,_,rfl,rfl,g.1,q _ _ _ _ (.flat (.int _)) g.2⟩
theorem Qfc {f:Int->Int->Bool} (h:OpR X (compareOp op) (rI0 λi j=>.bl (f i j))):OpD X (compareOp op) (dCmp f):=by
 refine ⟨_,h,λH a b x y F1 F2 k Q ra rb g q=>?_⟩
 (cases ra <;> first | exact (show False from g).elim | skip) <;> (cases rb <;> first | exact (show False from g).elim | skip)
 exact ⟨_,_,rfl,rfl,q _ _ _ _ (.flat (.bl _)) g⟩
theorem Qn9:OpD X (compareOp .Lt) (dCmp λi j=>decide (i<j)):=Qfc Qn6
theorem Qoa:OpD X (compareOp .Gt) (dCmp λi j=>decide (j<i)):=Qfc Qn7
theorem Qf2 {F1 F2:List Addr} {Q:VK} (ra:Rep X.K H a x F1) (rb:Rep X.K H b y F2)
  (h1:eqOk 9 a=true) (h2:eqOk 9 b=true) (g1:a=b->k (.bl (!neg))) (g2:a≠b->k (.bl neg)) (q:∀v H' d F,Fin X.K H H' d v F->k d->Q v H'):rDat neg x y H Q:=by
 refine ⟨Ja a,Ja b,9,ra.dv 9 h1,rb.dv 9 h2,Z1 _ _ h1,Z1 _ _ h2,Nat.le_refl _,λe=>?_,λe=>?_⟩
 ·exact q _ _ _ _ (.flat (.bl _)) (g1 (Vp 9 9 a b h1 h2 e))
 ·exact q _ _ _ _ (.flat (.bl _)) (g2 λz=>e (by rw [z]))
theorem Qkj (g:dEq a b k):(∃i j,a=.int i/\b=.int j)\/(∃i j,a=.bl i/\b=.bl j)\/(∃i j,a=.str i/\b=.str j)\/(eqOk 9 a=true/\eqOk 9 b=true/\(a=b->k (.bl true))/\(a≠b->k (.bl false))):=by
 cases a with
 | int i=>cases b with
  | int j=>exact .inl ⟨i,j,rfl,rfl⟩
  | _=>exact .inr (.inr (.inr g))
 | bl i=>cases b with
  | bl j=>exact .inr (.inl ⟨i,j,rfl,rfl⟩)
  | _=>exact .inr (.inr (.inr g))
 | str i=>cases b with
  | str j=>exact .inr (.inr (.inl ⟨i,j,rfl,rfl⟩))
  | _=>exact .inr (.inr (.inr g))
 | _=>exact .inr (.inr (.inr g))
theorem Qhh (hu:X.A.units+64<cLine):OpD X (compareOp .Eq) dEq:=by
 refine ⟨_,OpR.or Qn8 (Qma hu),λH a b x y F1 F2 k Q ra rb g q=>?_⟩
 rcases Qkj g with ⟨i,j,rfl,rfl⟩ | ⟨i,j,rfl,rfl⟩ | ⟨i,j,rfl,rfl⟩ | ⟨h1,h2,g1,g2⟩
 ·obtain rfl:=ra.iInt
  obtain rfl:=rb.iInt
  refine .inl ⟨rfl,?_⟩
  have e:decide (V.int i=V.int j)=decide (i=j):=by simp
  rw [e]
  exact q _ _ _ _ (.flat (.bl _)) g
 ·obtain rfl:=ra.iBl
  obtain rfl:=rb.iBl
  refine .inl ⟨rfl,?_⟩
  rw [Qdd]
  exact q _ _ _ _ (.flat (.bl _)) g
 ·obtain rfl:=ra.iStr
  obtain rfl:=rb.iStr
  refine .inl ⟨rfl,?_⟩
  have e:decide (V.str i=V.str j)=decide (i=j):=by simp
  rw [e]
  exact q _ _ _ _ (.flat (.bl _)) g
 ·exact .inr (Qf2 ra rb h1 h2 g1 g2 q)
theorem Qke (g:dNe a b k):(∃i j,a=.int i/\b=.int j)\/(∃i j,a=.bl i/\b=.bl j)\/(∃i j,a=.str i/\b=.str j)\/(eqOk 9 a=true/\eqOk 9 b=true/\(a=b->k (.bl false))/\(a≠b->k (.bl true))):=by
 cases a with
 | int i=>cases b with
  | int j=>exact .inl ⟨i,j,rfl,rfl⟩
  | _=>exact .inr (.inr (.inr g))
 | bl i=>cases b with
  | bl j=>exact .inr (.inl ⟨i,j,rfl,rfl⟩)
  | _=>exact .inr (.inr (.inr g))
 | str i=>cases b with
  | str j=>exact .inr (.inr (.inl ⟨i,j,rfl,rfl⟩))
  | _=>exact .inr (.inr (.inr g))
 | _=>exact .inr (.inr (.inr g))
theorem Qmf (hu:X.A.units+64<cLine):OpD X (compareOp .NotEq) dNe:=by
 refine ⟨_,OpR.or Qn5 (Ql7 hu),λH a b x y F1 F2 k Q ra rb g q=>?_⟩
 rcases Qke g with ⟨i,j,rfl,rfl⟩ | ⟨i,j,rfl,rfl⟩ | ⟨i,j,rfl,rfl⟩ | ⟨h1,h2,g1,g2⟩
 ·obtain rfl:=ra.iInt
  obtain rfl:=rb.iInt
  refine .inl ⟨rfl,?_⟩
  have e:(!decide (V.int i=V.int j)) = !decide (i=j):=by simp
  rw [e]
  exact q _ _ _ _ (.flat (.bl _)) g
 ·obtain rfl:=ra.iBl
  obtain rfl:=rb.iBl
  refine .inl ⟨rfl,?_⟩
  rw [Qdd]
  exact q _ _ _ _ (.flat (.bl _)) g
 ·obtain rfl:=ra.iStr
  obtain rfl:=rb.iStr
  refine .inl ⟨rfl,?_⟩
  have e:(!decide (V.str i=V.str j)) = !decide (i=j):=by simp
  rw [e]
  exact q _ _ _ _ (.flat (.bl _)) g
 ·exact .inr (Qf2 (neg:=true) ra rb h1 h2 g1 g2 q)
end PV
variable {a:PySem.Expr} {kvs:List (L2.Key × L2.V)} {m3:Bool}
namespace PV
open PySem PySem.Spec L2
open PyProof.Rows (subscriptTail)
def Zo:List D->Option (List Key)
 | []=>some []
 | .int i::r=>(Zo r).map λl=>.inl i::l
 | .str x::r=>(Zo r).map λl=>.inr x::l
 | _::_=>none
theorem Reps.keys {K:PySem.W.Frag} {H:Hp}:∀{ds:List D} {xs:List V} {F:List Addr} {l:List Key},Reps K H ds xs F->Zo ds=some l->xs=l.map kV
 | [],_,_,_,r,h=>by
  cases r
  simp only [Zo,Option.some.injEq] at h
  subst h
  rfl
 | d::ds,_,_,_,r,h=>by
  cases r with
  | cons p r =>
   cases d with
   | int i =>
    simp only [Zo,Option.map_eq_some_iff] at h
    obtain ⟨l',h1,rfl⟩:=h
    cases p
    rw [Reps.keys r h1]
    rfl
   | str i =>
    simp only [Zo,Option.map_eq_some_iff] at h
    obtain ⟨l',h1,rfl⟩:=h
    cases p
    rw [Reps.keys r h1]
    rfl
   | _=>simp [Zo] at h
theorem Reps.atI {ds:List D} (r:Reps K H ds xs F) (h:L2.atI ds i=some d):∃x B,L2.atI xs i=some x/\Rep K H d x B/\B.Sublist F:=by
 unfold L2.atI at h
 cases hj:ixN ds.length i with
 | none=>rw [hj] at h;cases h
 | some j =>
  rw [hj] at h
  obtain ⟨x,B,h1,h2,h3⟩:=r.get (i:=j) h
  refine ⟨x,B,?_,h2,h3⟩
  unfold L2.atI
  rw [r.length,hj]
  exact h1
def oget {α:Type} (o:Option α) (k:α->Prop):Prop:=match o with
 | some d=>k d
 | none=>False
def onI (b:D) (k:Int->Prop):Prop:=match b with
 | .int i=>k i
 | _=>False
def onK (b:D) (k:Key->Prop):Prop:=match b with
 | .int i=>k (.inl i)
 | .str i=>k (.inr i)
 | _=>False
def onT (b:D) (k:List D->Prop):Prop:=match b with
 | .tup l=>k l
 | _=>False
theorem U4 {k:Int->Prop} (h:onI b k):∃i,b=.int i/\k i:=by
 cases b with
 | int i=>exact ⟨i,rfl,h⟩
 | _=>exact (show False from h).elim
theorem Qe8 {k:List D->Prop} (h:onT b k):∃i,b=.tup i/\k i:=by
 cases b with
 | tup i=>exact ⟨i,rfl,h⟩
 | _=>exact (show False from h).elim
theorem Qb1 {k:Key->Prop} (h:onK b k):∃key,k key/\∀{K:PySem.W.Frag} {H:Hp} {v:V} {F:List Addr},Rep K H b v F->v=kV key:=by
 cases b with
 | int i=>exact ⟨.inl i,h,λr=>r.iInt⟩
 | str i=>exact ⟨.inr i,h,λr=>r.iStr⟩
 | _=>exact (show False from h).elim
def dIx:G2:=λa b k=>match a with
 | .lst xs=>onI b λi=>oget (L2.atI xs i) k
 | .tup xs=>onI b λi=>oget (L2.atI xs i) k
 | .kls xs=>onI b λi=>oget (L2.atI xs i) k
 | .str z=>onI b λi=>z.length<=sizeLine/\oget (L2.atI z.cps.toList i) λc=>k (.str ⟨#[c]⟩)
 | .dik kvs=>onK b λkey=>oget (valD kvs key) k
 | .dit kvs=>onT b λl=>oget (Zo l) λks=>oget (valD kvs ks) k
 | .fdk kvs=>onK b λkey=>oget (valD kvs key) k
 | _=>False
theorem Ql {α:Type} {o:Option α} {k:α->Prop} (h:oget o k):∃d,o=some d/\k d:=by
 cases o with
 | none=>exact h.elim
 | some d=>exact ⟨d,rfl,h⟩
theorem Qel {s₂:Shared} {value slice:Expr} {o i:Value} {T id:String}
  (hl:typeLookup (.type T) "__getitem__" = pure (some (.builtin id))) (hs:subscripted slice false o i=operate [o,i] (getItem o i)) (hT:s₂.TypeIs o T) (h₂:wpAny (model prog w) A (getItem o i) Q E s₂) :
  wpAny (model prog w) A (subscriptTail value slice o i) Q E s₂:=by
 unfold subscriptTail
 refine wpAny_bind ?_
 rw [getitemInPython_of_ne hT.not_modules]
 refine wpAny_bind (wpAny_specialOf hT hl ?_)
 have fin:wpAny (model prog w) A (subscripted slice false o i) (λr s₃=>wpAny (model prog w) A (letTemporaryGo value o r >>= λ_=>pure r) Q E s₃) E s₂:=by
  rw [hs]
  exact wpAny_operating (wpAny_mono h₂ (λr s₃ h₃=>wpAny_bind (wpAny_letTemporaryGo (wpAny_pure h₃))) λ_ _ x=>x)
 first
  | exact wpAny_pure (wpAny_bind fin)
  | exact wpAny_bind (wpAny_pure (wpAny_bind fin))
  | exact wpAny_bind fin
theorem Qj5 (hu:X.A.units+1<cLine):IxR X (λx y H Q=>∃a v,x=.ref a/\DGet H a y (some v)/\Q v H):=by
 intro value slice pins s σ H x y v u Q I rx ry h hs
 obtain ⟨a,z,rfl,g,q⟩:=h
 cases rx
 exact Qel PySem.F.slot_dict_getitem.lookup hs (Qcb I g) (Qf9 hu I g ry λw' s3 I3 rw'=>⟨z,H,I3,rw',q⟩)
def IxD (X:Cx) (g:G2):Prop :=
 ∃r,IxR X r/\∀(H:Hp) (a b:D) (x y:V) (F1 F2:List Addr) (k:D->Prop) (Q:VK),Rep X.K H a x F1->Rep X.K H b y F2->g a b k ->
  (∀v d F,Rep X.K H d v F->F.Sublist F1->k d->Q v H)->r x y H Q
theorem Yy (hu:X.A.units+1<cLine):IxD X dIx:=by
 refine ⟨_,IxR.or Qmz (Qj5 hu),λH a b x y F1 F2 k Q ra rb g q=>?_⟩
 cases a with
 | str z =>
  obtain ⟨i,rfl,hz,g⟩:=U4 g
  obtain ⟨c,e,g⟩:=Ql g
  exact .inl (.inr (.inr ⟨_,_,c,ra.iStr,rb.iInt,hz,e,q _ _ _ (.str _) (List.nil_sublist _) g⟩))
 | tup ds =>
  obtain ⟨i,rfl,g⟩:=U4 g
  obtain ⟨a,xs,rfl,e,r⟩:=ra.iTup
  obtain ⟨d,h,g⟩:=Ql g
  obtain ⟨v,B,h1,h2,h3⟩:=r.atI h
  exact .inl (.inr (.inl ⟨a,xs,i,v,rfl,rb.iInt,.of e,h1,q _ _ _ h2 h3 g⟩))
 | lst ds =>
  obtain ⟨i,rfl,g⟩:=U4 g
  obtain ⟨a,xs,G,rfl,rfl,e,r⟩:=ra.iLst
  obtain ⟨d,h,g⟩:=Ql g
  obtain ⟨v,B,h1,h2,h3⟩:=r.atI h
  exact .inl (.inl ⟨a,xs,i,v,rfl,rb.iInt,.of e,h1,q _ _ _ h2 (h3.trans (List.sublist_cons_self _ _)) g⟩)
 | dik ds =>
  obtain ⟨key,g,hy⟩:=Qb1 (show onK b (λkey=>oget (valD ds key) k) from g)
  obtain ⟨a,kvs,G,rfl,rfl,e,r⟩:=ra.iDik
  obtain rfl:=hy rb
  obtain ⟨d,h,g⟩:=Ql g
  rcases r.val key with ⟨z,_⟩ | ⟨d',v,B,h1,h2,h3,h4⟩
  ·rw [h] at z;cases z
  ·rw [h] at h1;cases h1
   exact .inr ⟨a,v,rfl,h2 ▸ DGet.k (k:=key) e,q _ _ _ h3 (h4.trans (List.sublist_cons_self _ _)) g⟩
 | dit ds =>
  obtain ⟨l,rfl,g⟩:=Qe8 g
  obtain ⟨a,kvs,G,rfl,rfl,e,r⟩:=ra.iDit
  obtain ⟨b,xs,rfl,e2,r2⟩:=rb.iTup
  obtain ⟨ks,hk,g⟩:=Ql g
  obtain ⟨d,h,g⟩:=Ql g
  have hx:=r2.keys hk
  subst hx
  rcases r.val ks with ⟨z,_⟩ | ⟨d',v,B,h1,h2,h3,h4⟩
  ·rw [h] at z;cases z
  ·rw [h] at h1;cases h1
   exact .inr ⟨a,v,rfl,h2 ▸ DGet.t (k:=ks) e e2,q _ _ _ h3 (h4.trans (List.sublist_cons_self _ _)) g⟩
 | kls ds =>
  obtain ⟨i,rfl,g⟩:=U4 g
  obtain ⟨a,xs,rfl,rfl,e,r⟩:=ra.iKls
  obtain ⟨d,h,g⟩:=Ql g
  obtain ⟨v,B,h1,h2,h3⟩:=r.atI h
  exact .inl (.inl ⟨a,xs,i,v,rfl,rb.iInt,e.sq,h1,q _ _ _ h2 h3 g⟩)
 | fdk ds =>
  obtain ⟨key,g,hy⟩:=Qb1 (show onK b (λkey=>oget (valD ds key) k) from g)
  obtain ⟨a,ob,kvs,rfl,e,r⟩:=ra.iFdk
  obtain rfl:=hy rb
  obtain ⟨d,h,g⟩:=Ql g
  rcases r.val key with ⟨z,_⟩ | ⟨d',v,B,h1,h2,h3,h4⟩
  ·rw [h] at z;cases z
  ·rw [h] at h1;cases h1
   exact .inr ⟨a,v,rfl,.inl ⟨kvs,key,.inr ⟨ob,e⟩,rfl,h2.symm⟩,q _ _ _ h3 h4 g⟩
 | _=>exact (show False from g).elim
section
variable {T:Tg} {b:Expr} {w:WE}
theorem Yz {g:G2} (hg:IxD X g) (ha:EV X T m1 o1 a wa) (hb:EV X T m2 o2 b wb) (hc:o1=true\/m2=false:=by first | exact .inl rfl | exact .inr rfl) (hs:Qck b:=by intro _ _;rfl) :
  EV X T (m1 || m2) o1 (.Subscript a b pos) (wBin g wa wb):=by
 obtain ⟨r,ro,gr⟩:=hg
 obtain ⟨ta,pa,ga⟩:=ha
 obtain ⟨tb,pb,gb⟩:=hb
 refine ⟨_,Ql1 ro pa pb hs,λz R σ H W ρ Q Q' s hw k=>?_⟩
 refine two ga gb hc s hw λx y H2 W2 d1 d2 ρ2 F1 F2 s2 f2 c2 r1 r2 o1 _ _ q2=>?_
 exact gr H2 d1 d2 x y F1 F2 _ Q' r1 r2 q2 λv d F rd sub hk=>k v H2 W2 d ρ2 F ⟨s2,f2,c2,rd,λh=>⟨(o1 h).1.sublist sub,λa m=>(o1 h).2 a (sub.subset m)⟩⟩ hk
def inD:D->List D->Option Bool
 | .int i,[]=>some false
 | .int i,.int j::r=>(inD (.int i) r).map λb=>(j == i) || b
 | .str i,[]=>some false
 | .str i,.str j::r=>(inD (.str i) r).map λb=>(j == i) || b
 | _,_=>none
def dIn (neg:Bool):G2
 | .int i,.dik kvs,k=>k (.bl (xor neg (valD kvs (.inl i)).isSome))
 | .str i,.dik kvs,k=>k (.bl (xor neg (valD kvs (.inr i)).isSome))
 | .tup l,.dit kvs,k=>oget (Zo l) λks=>k (.bl (xor neg (valD kvs ks).isSome))
 | .int i,.lst xs,k=>oget (inD (.int i) xs) λb=>k (.bl (xor neg b))
 | .int i,.tup xs,k=>oget (inD (.int i) xs) λb=>k (.bl (xor neg b))
 | .str i,.lst xs,k=>oget (inD (.str i) xs) λb=>k (.bl (xor neg b))
 | .str i,.tup xs,k=>oget (inD (.str i) xs) λb=>k (.bl (xor neg b))
 | .str i,.str j,k=>k (.bl (xor neg (!(Builtin.Str.occurrences j i 0 j.length 1).isEmpty)))
 | _,_,_=>False
theorem Qfu {K:PySem.W.Frag} {H:Hp} {i:Int}:∀{ds:List D} {xs:List V} {F:List Addr} {b:Bool},Reps K H ds xs F->inD (.int i) ds=some b->xs.all Gu=true/\inV (.int i) xs=b
 | [],_,_,_,r,h=>by
  cases r
  simp only [inD,Option.some.injEq] at h
  subst h
  exact ⟨rfl,rfl⟩
 | d::ds,_,_,_,r,h=>by
  cases r with
  | cons p r =>
   cases d with
   | int j =>
    simp only [inD,Option.map_eq_some_iff] at h
    obtain ⟨b',h1,rfl⟩:=h
    cases p
    obtain ⟨e1,e2⟩:=Qfu r h1
    refine ⟨by rw [List.all_cons,e1];rfl,?_⟩
    unfold inV at e2 ⊢
    rw [List.any_cons,e2]
    rfl
   | _=>simp [inD] at h
theorem Qft {K:PySem.W.Frag} {H:Hp} {i:Str}:∀{ds:List D} {xs:List V} {F:List Addr} {b:Bool},Reps K H ds xs F->inD (.str i) ds=some b->xs.all Gu=true/\inV (.str i) xs=b
 | [],_,_,_,r,h=>by
  cases r
  simp only [inD,Option.some.injEq] at h
  subst h
  exact ⟨rfl,rfl⟩
 | d::ds,_,_,_,r,h=>by
  cases r with
  | cons p r =>
   cases d with
   | str j =>
    simp only [inD,Option.map_eq_some_iff] at h
    obtain ⟨b',h1,rfl⟩:=h
    cases p
    obtain ⟨e1,e2⟩:=Qft r h1
    refine ⟨by rw [List.all_cons,e1];rfl,?_⟩
    unfold inV at e2 ⊢
    rw [List.any_cons,e2]
    rfl
   | _=>simp [inD] at h
theorem Qju (neg:Bool) (hu:X.A.units+1<cLine):OpR X (compareOp (if neg then .NotIn else .In)) (λy x H Q=>∃a o,x=.ref a/\DGet H a y o/\Q (.bl (xor neg o.isSome)) H):=by
 intro pins s σ H y x u v Q I ry rx h
 obtain ⟨a,ov,rfl,g,q⟩:=h
 cases rx
 cases neg with
 | false=>exact d_in hu I g ry λs3 I3=>⟨.bl ov.isSome,H,I3,rfl,by simpa using q⟩
 | true=>exact Qkd hu I g ry λs3 I3=>⟨.bl (!ov.isSome),H,I3,rfl,by simpa using q⟩
theorem Qhd (neg:Bool):OpR X (compareOp (if neg then .NotIn else .In)) (rIn X.K neg):=by
 cases neg with
 | false=>exact Qe5
 | true=>exact Qax
theorem Qhc (neg:Bool):OpR X (compareOp (if neg then .NotIn else .In)) (λx y H Q=>∃i j,x=.str i/\y=.str j/\Q (.bl (xor neg (!(Builtin.Str.occurrences j i 0 j.length 1).isEmpty))) H):=by
 cases neg with
 | false=>simpa using Qe4 (X:=X)
 | true=>simpa using Qaw (X:=X)
theorem Qam {a:Addr} {k:Key} (e:H a=some (.dK kvs)) (r:RepK X.K H ds kvs F):∃o,DGet H a (kV k) o/\o.isSome=(valD ds k).isSome:=by
 refine ⟨_,DGet.k (k:=k) e,?_⟩
 rcases r.val k with ⟨h1,h2⟩ | ⟨d,v,B,h1,h2,_⟩ <;> simp [h1,h2]
theorem Qki {a b:D} (g:dIn neg a b k):(∃i z,a=.int i/\b=.tup z)\/(∃i z,a=.int i/\b=.lst z)\/(∃i z,a=.int i/\b=.dik z)\/(∃i z,a=.str i/\b=.str z)\/(∃i z,a=.str i/\b=.tup z)\/(∃i z,a=.str i/\b=.lst z)\/(∃i z,a=.str i/\b=.dik z)\/∃i z,a=.tup i/\b=.dit z:=by
 cases a with
 | int i=>cases b with
  | tup z=>exact .inl ⟨i,z,rfl,rfl⟩
  | lst z=>exact .inr (.inl ⟨i,z,rfl,rfl⟩)
  | dik z=>exact .inr (.inr (.inl ⟨i,z,rfl,rfl⟩))
  | _=>exact (show False from g).elim
 | str i=>cases b with
  | str z=>exact .inr (.inr (.inr (.inl ⟨i,z,rfl,rfl⟩)))
  | tup z=>exact .inr (.inr (.inr (.inr (.inl ⟨i,z,rfl,rfl⟩))))
  | lst z=>exact .inr (.inr (.inr (.inr (.inr (.inl ⟨i,z,rfl,rfl⟩)))))
  | dik z=>exact .inr (.inr (.inr (.inr (.inr (.inr (.inl ⟨i,z,rfl,rfl⟩))))))
  | _=>exact (show False from g).elim
 | tup i=>cases b with
  | dit z=>exact .inr (.inr (.inr (.inr (.inr (.inr (.inr ⟨i,z,rfl,rfl⟩))))))
  | _=>exact (show False from g).elim
 | _=>exact (show False from g).elim
theorem Qmg (neg:Bool) (hu:X.A.units+1<cLine):OpD X (compareOp (if neg then .NotIn else .In)) (dIn neg):=by
 refine ⟨_,OpR.or (Qju neg hu) (OpR.or (Qhd neg) (Qhc neg)),λH a b x y F1 F2 k Q ra rb g q=>?_⟩
 have seqI:∀{i:Int} {p:Addr} {ds:List D} {xs:List V} {F:List Addr},x=.int i->y=.ref p->Reps X.K H ds xs F->(SqL X.K H p xs\/SqT X.K H p xs)->oget (inD (.int i) ds) (λb=>k (.bl (xor neg b)))->rIn X.K neg x y H Q:=λ{i p ds xs F} ex ey r hs g=>by
  subst ex ey
  obtain ⟨b,h,g⟩:=Ql g
  obtain ⟨e1,e2⟩:=Qfu r h
  refine ⟨p,xs,rfl,hs,rfl,e1,?_⟩
  rw [e2]
  have:=q _ _ _ _ (.flat (.bl _)) g
  cases neg <;> simpa using this
 have seqS:∀{i:Str} {p:Addr} {ds:List D} {xs:List V} {F:List Addr},x=.str i->y=.ref p->Reps X.K H ds xs F->(SqL X.K H p xs\/SqT X.K H p xs)->oget (inD (.str i) ds) (λb=>k (.bl (xor neg b)))->rIn X.K neg x y H Q:=λ{i p ds xs F} ex ey r hs g=>by
  subst ex ey
  obtain ⟨b,h,g⟩:=Ql g
  obtain ⟨e1,e2⟩:=Qft r h
  refine ⟨p,xs,rfl,hs,rfl,e1,?_⟩
  rw [e2]
  have:=q _ _ _ _ (.flat (.bl _)) g
  cases neg <;> simpa using this
 rcases Qki g with ⟨i,z,rfl,rfl⟩ | ⟨i,z,rfl,rfl⟩ | ⟨i,ds,rfl,rfl⟩ | ⟨i,z,rfl,rfl⟩ | ⟨i,z,rfl,rfl⟩ | ⟨i,z,rfl,rfl⟩ | ⟨i,ds,rfl,rfl⟩ | ⟨l,ds,rfl,rfl⟩
 ·obtain ⟨p,xs,ey,e,r⟩:=rb.iTup
  exact .inr (.inl (seqI ra.iInt ey r (.inr (.of e)) g))
 ·obtain ⟨p,xs,G,ey,_,e,r⟩:=rb.iLst
  exact .inr (.inl (seqI ra.iInt ey r (.inl (.of e)) g))
 ·obtain ⟨a,kvs,G,rfl,_,e,r⟩:=rb.iDik
  obtain rfl:=ra.iInt
  obtain ⟨o,h1,h2⟩:=Qam (k:=.inl i) e r
  refine .inl ⟨a,o,rfl,h1,?_⟩
  rw [h2]
  exact q _ _ _ _ (.flat (.bl _)) g
 ·exact .inr (.inr ⟨_,_,ra.iStr,rb.iStr,q _ _ _ _ (.flat (.bl _)) g⟩)
 ·obtain ⟨p,xs,ey,e,r⟩:=rb.iTup
  exact .inr (.inl (seqS ra.iStr ey r (.inr (.of e)) g))
 ·obtain ⟨p,xs,G,ey,_,e,r⟩:=rb.iLst
  exact .inr (.inl (seqS ra.iStr ey r (.inl (.of e)) g))
 ·obtain ⟨a,kvs,G,rfl,_,e,r⟩:=rb.iDik
  obtain rfl:=ra.iStr
  obtain ⟨o,h1,h2⟩:=Qam (k:=.inr i) e r
  refine .inl ⟨a,o,rfl,h1,?_⟩
  rw [h2]
  exact q _ _ _ _ (.flat (.bl _)) g
 ·obtain ⟨b,xs,rfl,e2,r2⟩:=ra.iTup
  obtain ⟨a,kvs,G,rfl,_,e,r⟩:=rb.iDit
  obtain ⟨ks,hk,g⟩:=Ql g
  have hx:=r2.keys hk
  subst hx
  refine .inl ⟨a,valV kvs ks,rfl,DGet.t (k:=ks) e e2,?_⟩
  have h2:(valV kvs ks).isSome=(valD ds ks).isSome:=by
   rcases r.val ks with ⟨h1,h2⟩ | ⟨d,v,B,h1,h2,_⟩ <;> simp [h1,h2]
  rw [h2]
  exact q _ _ _ _ (.flat (.bl _)) g
theorem Qme (hu:X.A.units+1<cLine):OpD X (compareOp .NotIn) (dIn true):=Qmg true hu
abbrev WA:=Env->(List D->Env->Prop)->Prop
structure PostA (K:PySem.W.Frag) (T:Tg) (z:Nat->V) (R:Addr->Prop) (m o:Bool) (H:Hp) (W:Addr->Prop) (σ:St) (ρ:Env) (H':Hp) (W':Addr->Prop) (ρ':Env) (ds:List D) (vs:List V) (F:List Addr):Prop where
 sr:SR K T z R H' W' σ ρ'
 fr:FrW H W H' W'
 calm:m=false->Same H H'/\W'=W/\ρ'=ρ
 rep:Reps K H' ds vs F
 own:o=true->F.Nodup/\∀a∈F,H a=none/\¬W' a
def AV (X:Cx) (T:Tg) (m o:Bool) (es:List Expr) (w:WA):Prop :=
 ∃ta,PA X es ta/\∀(z:Nat->V) (R:Addr->Prop) (σ:St) (H:Hp) (W:Addr->Prop) (ρ:Env) (Q:List D->Env->Prop) (Q':List V->Hp->Prop),SR X.K T z R H W σ ρ->w ρ Q ->
  (∀vs H' W' ds ρ' F,PostA X.K T z R m o H W σ ρ H' W' ρ' ds vs F->Q ds ρ'->Q' vs H')->ta σ H Q'
end
section
variable {T:Tg} {b:Expr} {w:WE} {wr:WA}
def wNil:WA:=λρ Q=>Q [] ρ
def Qd (w:WE) (wr:WA):WA:=λρ Q=>w ρ λd ρ1=>wr ρ1 λds ρ2=>Q (d::ds) ρ2
theorem Qe:AV X T false true [] wNil:=⟨_,Qav,λz R σ H W ρ Q Q' s hw k=>k [] H W [] ρ [] ⟨s,FrW.refl H W,λ_=>⟨Same.refl H,rfl,rfl⟩,.nil,λ_=>⟨List.nodup_nil,λa m=>nomatch m⟩⟩ hw⟩
theorem Qa (he:EV X T m1 o1 e w) (hr:AV X T m2 o2 es wr) (hc:o1=true\/m2=false:=by first | exact .inl rfl | exact .inr rfl) (hs:starEach (e::es) X.env=(false,eval e X.env)::starEach es X.env:=by rfl) :
  AV X T (m1 || m2) (o1 && o2) (e::es) (Qd w wr):=by
 obtain ⟨te,pe,ge⟩:=he
 obtain ⟨ta,pa,ga⟩:=hr
 refine ⟨_,Vf pe pa hs,λz R σ H W ρ Q Q' s hw k=>?_⟩
 refine ge z R σ H W ρ _ _ s hw λv1 H1 W1 d1 ρ1 F1 p q1=>?_
 refine ga z R σ H1 W1 ρ1 _ _ p.sr q1 λvs H2 W2 ds ρ2 F2 q q2=>?_
 have r1:Rep X.K H2 d1 v1 F1:=by
  rcases hc with hc | hc
  ·exact p.rep.keep q.fr λa h=>((p.own hc).2 a h).2
  ·exact p.rep.same (q.calm hc).1
 refine k (v1::vs) H2 W2 (d1::ds) ρ2 (F1++F2) ⟨q.sr,p.fr.trans q.fr,λh=>?_,.cons r1 q.rep,λh=>?_⟩ q2
 ·rw [Bool.or_eq_false_iff] at h
  obtain ⟨a1,a2,a3⟩:=p.calm h.1
  obtain ⟨b1,b2,b3⟩:=q.calm h.2
  exact ⟨a1.trans b1,b2.trans a2,b3.trans a3⟩
 ·rw [Bool.and_eq_true] at h
  obtain ⟨n1,k1⟩:=p.own h.1
  obtain ⟨n2,k2⟩:=q.own h.2
  refine ⟨List.nodup_append.mpr ⟨n1,n2,λa ma b mb e=>?_⟩,λa ma=>?_⟩
  ·subst e
   obtain ⟨ob,e,_⟩:=p.rep.dom a ma
   rw [(k2 a mb).1] at e;cases e
  ·rcases List.mem_append.mp ma with ma | ma
   ·refine ⟨(k1 a ma).1,λw=>?_⟩
    rcases q.fr.new a w with w | w
    ·exact (k1 a ma).2 w
    ·obtain ⟨ob,e,_⟩:=p.rep.dom a ma
     rw [w] at e;cases e
   ·exact ⟨p.fr.dom a (k2 a ma).1,(k2 a ma).2⟩
def wTup (wr:WA):WE:=λρ Q=>wr ρ λds ρ'=>ds.length<=sizeLine/\Q (.tup ds) ρ'
def wLst (wr:WA):WE:=λρ Q=>wr ρ λds ρ'=>ds.length<=sizeLine/\Q (.lst ds) ρ'
theorem Qdb {x1} (h:AV X T m o es wr):EV X T m o (.Tuple es x1 pos) (wTup wr):=by
 obtain ⟨ta,pa,ga⟩:=h
 refine ⟨_,Qih pa,λz R σ H W ρ Q Q' s hw k=>?_⟩
 refine ga z R σ H W ρ _ _ s hw λvs H1 W1 ds ρ1 F p q=>?_
 obtain ⟨hz,q⟩:=q
 refine ⟨by rw [p.rep.length];exact hz,λa ha=>k _ _ W1 (.tup ds) ρ1 F ⟨p.sr.same (Qh ha),p.fr.trans (FrW.same W1 (Qh ha)),λh=>⟨(p.calm h).1.trans (Qh ha),(p.calm h).2⟩,.tup Qg (p.rep.same (Qh ha)),p.own⟩ q⟩
theorem Yx (h:AV X T m o es wr):EV X T m o (.List es pos) (wLst wr):=by
 obtain ⟨ta,pa,ga⟩:=h
 refine ⟨_,Qlz pa,λz R σ H W ρ Q Q' s hw k=>?_⟩
 refine ga z R σ H W ρ _ _ s hw λvs H1 W1 ds ρ1 F p q=>?_
 obtain ⟨hz,q⟩:=q
 refine ⟨by rw [p.rep.length];exact hz,λa ha=>k _ _ W1 (.lst ds) ρ1 (a::F) ⟨p.sr.same (Qh ha),p.fr.trans (FrW.same W1 (Qh ha)),λh=>⟨(p.calm h).1.trans (Qh ha),(p.calm h).2⟩,.lst Qg (p.rep.same (Qh ha)),λh=>?_⟩ q⟩
 obtain ⟨n1,k1⟩:=p.own h
 refine ⟨List.nodup_cons.mpr ⟨λm=>?_,n1⟩,λb mb=>?_⟩
 ·obtain ⟨ob,e,_⟩:=p.rep.dom a m
  rw [ha] at e;cases e
 ·rcases List.mem_cons.mp mb with rfl | mb
  ·exact ⟨p.fr.dom _ ha,p.sr.nw ha⟩
  ·exact k1 b mb
theorem Qhr:EV X T false true (.Dict [] [] pos) (wC (.dik [])) :=
 ⟨_,Qg8,λz R σ H W ρ Q Q' s hw k a ha=>k _ _ W (.dik []) ρ [a] (Post.fin s (FrW.refl H W) (λ_=>⟨Same.refl H,rfl,rfl⟩) (Qh ha) (.dik Qg .nil) (by simp) (λb m=>by rw [List.mem_singleton.mp m];exact ha)) hw⟩
abbrev GA:=List D->(D->Prop)->Prop
end
end PV
variable {g:PV.GA} {x:PySem.Str} {Q:PV.D->PV.Env->Prop} {T':String}
namespace PV
open PySem PySem.Spec L2
open PyProof.Rows (subscriptTail)
section
variable {wr:WA}
def Gy (X:Cx) (f:Value) (g:GA):Prop :=
 ∃r,Y4 X f r/\∀(H:Hp) (ds:List D) (xs:List V) (F:List Addr) (k:D->Prop) (Q:VK),Reps X.K H ds xs F->g ds k->(∀v H' d F',Fin X.K H H' d v F'->k d->Q v H')->r xs H Q
def Qk (g:GA) (wr:WA):WE:=λρ Q=>wr ρ λds ρ'=>g ds λd=>Q d ρ'
end
section
variable {T:Tg} {b:Expr} {wr:WA} {id:String}
theorem Qdm {r:List V->Hp->VK->Prop} (gr:∀(H:Hp) (ds:List D) (xs:List V) (F:List Addr) (k:D->Prop) (Q:VK),Reps X.K H ds xs F->g ds k->(∀v H' d F',Fin X.K H H' d v F'->k d->Q v H')->r xs H Q) (ga:∀(z:Nat->V) (R:Addr->Prop) (σ:St) (H:Hp) (W:Addr->Prop) (ρ:Env) (Q:List D->Env->Prop) (Q':List V->Hp->Prop),SR X.K T z R H W σ ρ->wr ρ Q ->
   (∀vs H' W' ds ρ' F,PostA X.K T z R m o H W σ ρ H' W' ρ' ds vs F->Q ds ρ'->Q' vs H')->ta σ H Q') {W:Addr->Prop} (s:SR X.K T z R H W σ ρ) (hw:Qk g wr ρ Q)
  (k:∀v H' W' d ρ' F,Post X.K T z R m true H W σ ρ H' W' ρ' d v F->Q d ρ'->Q' v H'):ta σ H λvs H1=>r vs H1 Q':=by
 refine ga z R σ H W ρ _ _ s hw λvs H1 W1 ds ρ1 F p q=>?_
 exact gr H1 ds vs F _ Q' p.rep q λv H' d F' fi hk=>k v H' W1 d ρ1 F' (Post.fin p.sr p.fr p.calm fi.same fi.rep fi.nd fi.new) hk
theorem Q4 (hc:Gy X (.builtin id) g) (hm:X.mg x=none) (hv:bootBuiltins x=some (.builtin id)) (ha:AV X T m o (e::es) wr) (hg:Gl X x:=by rfl) (hn:x ≠ "__name__":=by decide) (hdb:(x == ("__debug__" : Str))=false:=by decide)
  (he:starEach (e::es) X.env=(false,eval e X.env)::starEach es X.env:=by rfl) (hpl:(backTo pos (starEach es X.env)).any (·.1)=false:=by rfl):EV X T m true (.Call (.Name x p) (e::es) [] pos) (Qk g wr):=by
 obtain ⟨r,rc,gr⟩:=hc
 obtain ⟨ta,pa,ga⟩:=ha
 exact ⟨_,Qha rc hg hm hv pa hn hdb he hpl,λz R σ H W ρ Q Q' s hw k=>Qdm gr ga s hw k⟩
theorem Ye (hc:Gy X (.type T') g) (hm:X.mg x=none) (hv:bootBuiltins x=some (.type T')) (ha:AV X T m o (e::es) wr) (hg:Gl X x:=by rfl) (hn:x ≠ "__name__":=by decide) (hdb:(x == ("__debug__" : Str))=false:=by decide)
  (he:starEach (e::es) X.env=(false,eval e X.env)::starEach es X.env:=by rfl) (hpl:(backTo pos (starEach es X.env)).any (·.1)=false:=by rfl):EV X T m true (.Call (.Name x p) (e::es) [] pos) (Qk g wr):=by
 obtain ⟨r,rc,gr⟩:=hc
 obtain ⟨ta,pa,ga⟩:=ha
 exact ⟨_,Qau rc hg hm hv pa hn hdb he hpl,λz R σ H W ρ Q Q' s hw k=>Qdm gr ga s hw k⟩
theorem Qfz (t:Ty) (hm:X.mg x=none) (hv:bootBuiltins x=some (.type t.nm)) (hg:Gl X x:=by rfl) (hn:x ≠ "__name__":=by decide) (hdb:(x == ("__debug__" : Str))=false:=by decide):EV X T false true (.Name x pos) (wC (.ty t)) :=
 X5 (Qjr hg hm hv (v:=.ty t.nm) rfl hn hdb) λ_=>.ty t
theorem Reps.at1 (r:Reps K H [d] xs F):∃v,xs=[v]/\Rep K H d v F:=by
 cases r with
 | cons h r=>cases r;rw [List.append_nil];exact ⟨_,rfl,h⟩
theorem Reps.at2 {e:D} (r:Reps K H [d,e] xs F):∃v u F1 F2,xs=[v,u]/\Rep K H d v F1/\Rep K H e u F2:=by
 cases r with
 | cons h r =>
  obtain ⟨u,rfl,h2⟩:=r.at1
  exact ⟨_,_,_,_,rfl,h,h2⟩
def dLen:GA
 | [.lst xs],k=>k (.int xs.length)
 | [.tup xs],k=>k (.int xs.length)
 | [.kls xs],k=>k (.int xs.length)
 | [.dik xs],k=>k (.int xs.length)
 | [.str z],k=>z.length<=sizeLine/\k (.int z.length)
 | _,_=>False
theorem V0:Gy X (.builtin "len") dLen:=by
 refine ⟨_,Y4.or Qh4 Qgg,λH ds xs F k Q r g q=>?_⟩
 cases ds with
 | nil=>exact (show False from g).elim
 | cons d ds =>
  cases ds with
  | cons _ _=>cases d <;> exact (show False from g).elim
  | nil =>
   cases d with
   | lst es =>
    obtain ⟨v,rfl,rd⟩:=r.at1
    clear r
    cases rd with
    | lst e r9=>exact .inl ⟨_,_,rfl,.inl ⟨_,.of e,rfl⟩,by rw [r9.length];exact q _ _ _ _ (.flat (.int _)) g⟩
   | tup es =>
    obtain ⟨v,rfl,rd⟩:=r.at1
    clear r
    cases rd with
    | tup e r9=>exact .inl ⟨_,_,rfl,.inr ⟨_,.of e,rfl⟩,by rw [r9.length];exact q _ _ _ _ (.flat (.int _)) g⟩
   | kls es =>
    obtain ⟨v,rfl,rd⟩:=r.at1
    clear r
    cases rd with
    | kls e r9=>exact .inl ⟨_,_,rfl,.inl ⟨_,e.sq,rfl⟩,by rw [r9.length];exact q _ _ _ _ (.flat (.int _)) g⟩
   | dik es =>
    obtain ⟨v,rfl,rd⟩:=r.at1
    clear r
    cases rd with
    | dik e r9=>exact .inr ⟨_,_,rfl,e,by rw [r9.length];exact q _ _ _ _ (.flat (.int _)) g⟩
   | str es =>
    obtain ⟨v,rfl,rd⟩:=r.at1
    clear r
    cases rd
    exact .inl ⟨_,_,rfl,⟨g.1,rfl⟩,q _ _ _ _ (.flat (.int _)) g.2⟩
   | _=>exact (show False from g).elim
def dInt:GA
 | [.int i],k=>k (.int i)
 | [.bl b],k=>k (.int (if b then 1 else 0))
 | _,_=>False
theorem Qnf:Gy X (.type "int") dInt:=by
 refine ⟨_,Qgi,λH ds xs F k Q r g q=>?_⟩
 cases ds with
 | nil=>exact (show False from g).elim
 | cons d ds =>
  cases ds with
  | cons _ _=>cases d <;> exact (show False from g).elim
  | nil =>
   cases d with
   | int i =>
    obtain ⟨v,rfl,rd⟩:=r.at1
    cases rd
    exact .inl ⟨_,rfl,q _ _ _ _ (.flat (.int _)) g⟩
   | bl i =>
    obtain ⟨v,rfl,rd⟩:=r.at1
    cases rd
    exact .inr ⟨_,rfl,q _ _ _ _ (.flat (.int _)) g⟩
   | _=>exact (show False from g).elim
def Qkg:GA
 | [.int i,.int j],k=>k (.int (if j<i then j else i))
 | _,_=>False
theorem Qkn (hc:X.calm=true):Gy X (.builtin "min") Qkg:=by
 refine ⟨_,Qgf hc,λH ds xs F k Q r g q=>?_⟩
 cases ds with
 | nil=>exact (show False from g).elim
 | cons d ds =>
  cases ds with
  | nil=>cases d <;> exact (show False from g).elim
  | cons d2 ds =>
   cases d with
   | int i =>
    cases d2 with
    | int j =>
     cases ds with
     | nil =>
      obtain ⟨v,u,F1,F2,rfl,r1,r2⟩:=r.at2
      cases r1;cases r2
      exact ⟨_,_,rfl,q _ _ _ _ (.flat (.int _)) g⟩
     | cons _ _=>exact (show False from g).elim
    | _=>exact (show False from g).elim
   | _=>exact (show False from g).elim
def Qkh:GA
 | [.lst xs],k=>Qs xs=true/\k (.lst xs)
 | [.tup xs],k=>Qs xs=true/\k (.lst xs)
 | [.kls xs],k=>Qs xs=true/\k (.lst xs)
 | _,_=>False
theorem Qko:Gy X (.type "list") Qkh:=by
 refine ⟨_,Qbh,λH ds xs F k Q r g q=>?_⟩
 cases ds with
 | nil=>exact (show False from g).elim
 | cons d ds =>
  cases ds with
  | cons _ _=>cases d <;> exact (show False from g).elim
  | nil =>
   cases d with
   | lst es =>
    obtain ⟨v,rfl,rd⟩:=r.at1
    clear r
    cases rd with
    | lst e r9=>exact ⟨_,_,rfl,.inl (.of e),λl hl=>q _ _ _ [l] ⟨Qh hl,.lst Qg ((r9.pure g.1).2.same (Qh hl)),by simp,λb m=>by rw [List.mem_singleton.mp m];exact hl⟩ g.2⟩
   | tup es =>
    obtain ⟨v,rfl,rd⟩:=r.at1
    clear r
    cases rd with
    | tup e r9=>exact ⟨_,_,rfl,.inr (.of e),λl hl=>q _ _ _ [l] ⟨Qh hl,.lst Qg ((r9.pure g.1).2.same (Qh hl)),by simp,λb m=>by rw [List.mem_singleton.mp m];exact hl⟩ g.2⟩
   | kls es =>
    obtain ⟨v,rfl,rd⟩:=r.at1
    clear r
    cases rd with
    | kls e r9=>exact ⟨_,_,rfl,.inl e.sq,λl hl=>q _ _ _ [l] ⟨Qh hl,.lst Qg ((r9.pure g.1).2.same (Qh hl)),by simp,λb m=>by rw [List.mem_singleton.mp m];exact hl⟩ g.2⟩
   | _=>exact (show False from g).elim
def Uk:GA
 | [.lst xs],k=>Qs xs=true/\k (.tup xs)
 | [.tup xs],k=>Qs xs=true/\k (.tup xs)
 | [.kls xs],k=>Qs xs=true/\k (.tup xs)
 | _,_=>False
theorem Z2:Gy X (.type "tuple") Uk:=by
 refine ⟨_,X7,λH ds xs F k Q r g q=>?_⟩
 cases ds with
 | nil=>exact (show False from g).elim
 | cons d ds =>
  cases ds with
  | cons _ _=>cases d <;> exact (show False from g).elim
  | nil =>
   cases d with
   | lst es =>
    obtain ⟨v,rfl,rd⟩:=r.at1
    clear r
    cases rd with
    | lst e r9=>exact ⟨_,_,rfl,.inl ⟨.of e,λl hl=>q _ _ _ [] ⟨Qh hl,.tup Qg ((r9.pure g.1).2.same (Qh hl)),by simp,λb m=>nomatch m⟩ g.2⟩⟩
   | tup es =>
    obtain ⟨v,rfl,rd⟩:=r.at1
    clear r
    cases rd with
    | tup e r9=>exact ⟨_,_,rfl,.inr ⟨.of e,q _ _ _ _ (.flat (.tup e (r9.pure g.1).2)) g.2⟩⟩
   | kls es =>
    obtain ⟨v,rfl,rd⟩:=r.at1
    clear r
    cases rd with
    | kls e r9=>exact ⟨_,_,rfl,.inl ⟨e.sq,λl hl=>q _ _ _ [] ⟨Qh hl,.tup Qg ((r9.pure g.1).2.same (Qh hl)),by simp,λb m=>nomatch m⟩ g.2⟩⟩
   | _=>exact (show False from g).elim
end
end PV
variable {b:PySem.Expr} {w:PV.WE} {i:Nat} {fp:Nat->List PySem.Addr} {F':List PySem.Addr} {ob':L2.HO} {wr:PV.WA} {wt:PV.WT} {m0:Bool}
namespace PV
open PySem PySem.Spec L2
section
variable {T:Tg}
def isiD:D->Ty->Option Bool
 | .non,_=>some false
 | .bl _,t=>some (t == .bool || t == .int)
 | .int _,t=>some (t == .int)
 | .str _,t=>some (t == .str)
 | .tup _,t=>some (t == .tuple)
 | .lst _,t=>some (t == .list)
 | .dik _,t=>some (t == .dict)
 | .dit _,t=>some (t == .dict)
 | .kls _,_=>none
 | .ty _,_=>none
 | .fdk _,t=>some (t == .dict)
 | .ftp _,_=>none
 | .fls _,t=>some (t == .list)
 | .fdt _,_=>none
 | .obj _ _,_=>none
 | .clo _ _,_=>none
 | .kc _,_=>none
 | .dmx _,_=>none
 | .fmx _,_=>none
 | .lsa _ _,_=>none
 | .ist _ _,_=>none
def dIsi:GA
 | [d,.ty t],k=>oget (isiD d t) λb=>k (.bl b)
 | _,_=>False
theorem Qmp (t:Ty):PySem.W.kitOne K (.type "NoneType") (.type t.nm)=some false:=by
 cases t <;> (unfold PySem.W.kitOne;rw [if_neg (by decide)];rfl)
theorem Qmr (t:Ty):PySem.W.kitOne K (.type "bool") (.type t.nm)=some (t == .bool || t == .int):=by
 cases t <;> first | (unfold PySem.W.kitOne;rw [if_pos (by decide)];rfl) | (unfold PySem.W.kitOne;rw [if_neg (by decide)];rfl)
theorem Qmq (t:Ty):PySem.W.kitOne K (.type "int") (.type t.nm)=some (t == .int):=by
 cases t <;> first | (unfold PySem.W.kitOne;rw [if_pos (by decide)];rfl) | (unfold PySem.W.kitOne;rw [if_neg (by decide)];rfl)
theorem Qmo (t:Ty):PySem.W.kitOne K (.type "str") (.type t.nm)=some (t == .str):=by
 cases t <;> first | (unfold PySem.W.kitOne;rw [if_pos (by decide)];rfl) | (unfold PySem.W.kitOne;rw [if_neg (by decide)];rfl)
theorem Qmn (t:Ty):PySem.W.kitOne K (.type "tuple") (.type t.nm)=some (t == .tuple):=by
 cases t <;> first | (unfold PySem.W.kitOne;rw [if_pos (by decide)];rfl) | (unfold PySem.W.kitOne;rw [if_neg (by decide)];rfl)
theorem Qim (t:Ty):PySem.W.kitOne K (.type "list") (.type t.nm)=some (t == .list):=by
 cases t <;> first | (unfold PySem.W.kitOne;rw [if_pos (by decide)];rfl) | (unfold PySem.W.kitOne;rw [if_neg (by decide)];rfl)
theorem Qfm (t:Ty):PySem.W.kitOne K (.type "dict") (.type t.nm)=some (t == .dict):=by
 cases t <;> first | (unfold PySem.W.kitOne;rw [if_pos (by decide)];rfl) | (unfold PySem.W.kitOne;rw [if_neg (by decide)];rfl)
theorem Qgh:Y4 X (.builtin "isinstance") (λxs H Q=>∃a o kvs T b,xs=[.ref a,.ty T]/\H a=some (.frz o (.dK kvs))/\PySem.W.kitOne X.K (.type "dict") (.type T)=some b/\Q (.bl b) H):=by
 intro pins s σ H xs us Q I r h
 obtain ⟨a,o,kvs,T,b,rfl,ea,e,q⟩:=h
 obtain ⟨u,c,rfl,ru,rc⟩:=Qit r
 cases (show c=Value.type T from rc)
 cases (show u=Value.ref a from ru)
 obtain ⟨_,_,_,vs,_,p⟩:=(show Jr X.prog X.w H s.heap a (.frz o (.dK kvs)) from I.hok a _ ea)
 obtain ⟨o',es,ep,h1,h2,_⟩:=p
 exact PySem.W.kia_one PySem.W.kitx_dict I.kIn ⟨o',h1,h2.1⟩ e (λz=>nomatch z) λtk=>⟨.bl b,H,I.tok _,rfl,q⟩
theorem Qbg:Gy X (.builtin "isinstance") dIsi:=by
 refine ⟨_,Y4.or Qcc Qgh,λH ds xs F k Q r g q=>?_⟩
 match ds,r,g with
 | [d,.ty t],r,g =>
  obtain ⟨v,u,F1,F2,rfl,r1,r2⟩:=r.at2
  obtain ⟨b,hb,g⟩:=Ql g
  cases r2
  have fin:=q _ _ _ _ (.flat (.bl b)) g
  cases r1 with
  | non=>exact .inl ⟨_,_,_,_,rfl,.non,Qmp t,by cases hb;exact fin⟩
  | bl c=>exact .inl ⟨_,_,_,_,rfl,.bl c,Qmr t,by cases hb;exact fin⟩
  | int c=>exact .inl ⟨_,_,_,_,rfl,.int c,Qmq t,by cases hb;exact fin⟩
  | str c=>exact .inl ⟨_,_,_,_,rfl,.str c,Qmo t,by cases hb;exact fin⟩
  | tup e _=>exact .inl ⟨_,_,_,_,rfl,.tup e,Qmn t,by cases hb;exact fin⟩
  | lst e _=>exact .inl ⟨_,_,_,_,rfl,.lst e,Qim t,by cases hb;exact fin⟩
  | dik e _=>exact .inl ⟨_,_,_,_,rfl,.dK e,Qfm t,by cases hb;exact fin⟩
  | dit e _=>exact .inl ⟨_,_,_,_,rfl,.dT e,Qfm t,by cases hb;exact fin⟩
  | kls _ _=>cases hb
  | ty _=>cases hb
  | fdk e _=>exact .inr ⟨_,_,_,_,_,rfl,e,Qfm t,by cases hb;exact fin⟩
  | ftp _ _ _=>cases hb
  | fls e _=>exact .inl ⟨_,_,_,_,rfl,.frz e,Qim t,by cases hb;exact fin⟩
  | fdt _ _=>cases hb
  | obj _ _ _=>cases hb
  | clo _ _=>cases hb
  | kc _=>cases hb
  | dmx _ _ _ _=>cases hb
  | fmx _ _ _ _=>cases hb
  | lsa _ _=>cases hb
  | ist _ _ _ _=>cases hb
theorem SR0.write {W:Addr->Prop} {d':D} (s:SR0 K T z R H W σ ρ fp)
  (hl:look ρ i=some d) (ht:T.own i=true) (hv:σ[i]? = some (some v)) (hm:l∈fp i) (hk:∀b u,H b=some u->b≠l->H' b=some u) (hnew:∃ob,H' l=some ob/\imm ob=false) (r:Rep K H' d' v F') (nd:F'.Nodup)
  (sub:∀a∈F',a∈fp i\/(¬W a/\¬R a)):SR K T z R H' (λa=>W a\/a∈F') σ (ρ.set i (some d')):=by
 have hW:W l:=(s.own i d hl ht).2 l hm
 have hi:ImmK H H':=λb ob' e im=>by
  obtain ⟨ol,e1,e2⟩:=s.wd l hW
  have:b≠l:=λz=>by rw [z,e1] at e;cases e;rw [e2] at im;cases im
  exact hk b _ e this
 refine ⟨λj=>if j=i then F' else fp j,?_,?_,?_,?_,?_,?_,?_,?_,s.fix⟩
 ·rw [List.length_set];exact s.len
 ·intro a ha
  by_cases e:a=l
  ·subst e;exact hnew
  ·rcases ha with ha | ha
   ·exact (s.wd a ha).imp λob q=>⟨hk a ob q.1 e,q.2⟩
   ·exact r.dom a ha
 ·intro j e hj
  by_cases hji:j=i
  ·subst hji
   rw [Vw (Gb hl)] at hj
   cases hj
   exact ⟨v,hv,by rw [if_pos rfl];exact r⟩
  ·rw [Qo hji] at hj
   obtain ⟨u,h1,h2⟩:=s.at_ j e hj
   refine ⟨u,h1,?_⟩
   rw [if_neg hji]
   refine h2.frame hi λa ha=>?_
   obtain ⟨oa,e1,_⟩:=h2.dom a ha
   rw [e1]
   refine hk a _ e1 λz=>?_
   subst z
   cases hto:T.own j with
   | true=>exact s.dis i j d e hl hj ht hto (λz=>hji z.symm) _ hm ha
   | false=>exact s.wr _ hW (s.ro j e hj hto _ ha)
 ·intro j e hj hto
  by_cases hji:j=i
  ·subst hji;simp only [if_pos];exact ⟨nd,λa h=>.inr h⟩
  ·rw [Qo hji] at hj
   simp only [if_neg hji]
   exact ⟨(s.own j e hj hto).1,λa h=>.inl ((s.own j e hj hto).2 a h)⟩
 ·intro j e hj hto
  have hji:j≠i:=λz=>by subst z;rw [ht] at hto;cases hto
  rw [Qo hji] at hj
  simp only [if_neg hji]
  exact s.ro j e hj hto
 ·intro a ha hr
  rcases ha with ha | ha
  ·exact s.wr a ha hr
  ·rcases sub a ha with h | h
   ·exact s.wr a ((s.own i d hl ht).2 a h) hr
   ·exact h.2 hr
 ·intro a hr
  have:a≠l:=λz=>by subst z;exact s.wr _ hW hr
  exact (s.rd a hr).imp λob q=>⟨hk a ob q.1 this,q.2⟩
 ·intro j k e e' hj hk tj tk hne a ha ha'
  by_cases hji:j=i
  ·subst hji
   have hkj:k≠j:=λz=>hne z.symm
   rw [Qo hkj] at hk
   simp only [if_pos,if_neg hkj] at ha ha'
   rcases sub a ha with h | h
   ·exact s.dis j k d e' hl hk ht tk hne a h ha'
   ·exact h.1 ((s.own k e' hk tk).2 a ha')
  ·rw [Qo hji] at hj
   simp only [if_neg hji] at ha
   by_cases hki:k=i
   ·subst hki
    simp only [if_pos] at ha'
    rcases sub a ha' with h | h
    ·exact s.dis j k e d hj hl tj ht hne a ha h
    ·exact h.1 ((s.own j e hj tj).2 a ha)
   ·rw [Qo hki] at hk
    simp only [if_neg hki] at ha'
    exact s.dis j k e e' hj hk tj tk hne a ha ha'
theorem FrW.write {H0:Hp} {W0 W:Addr->Prop} (f:FrW H0 W0 H W) (hl:W l) (hm:∃ol,H l=some ol/\PV.imm ol=false) (hk:∀b u,H b=some u->b≠l->H' b=some u) (hnew:∃ob,H' l=some ob/\PV.imm ob=false)
  (sub:∀a∈F',W a\/H0 a=none):FrW H0 W0 H' (λa=>W a\/a∈F') where
 keep:=λb ob' e n=>by
  have:b≠l:=λz=>by
   subst z
   rcases f.new _ hl with h | h
   ·exact n h
   ·rw [h] at e;cases e
  exact hk b _ (f.keep b ob' e n) this
 dom:=λb e=>by
  by_cases h:b=l
  ·subst h
   obtain ⟨ob,e1,_⟩:=hnew
   rw [e1] at e;cases e
  ·refine f.dom b ?_
   cases q:H b with
   | none=>rfl
   | some u=>rw [hk b u q h] at e;cases e
 imm:=λb ob' e im=>by
  have e':=f.imm b ob' e im
  obtain ⟨ol,e1,e2⟩:=hm
  have:b≠l:=λz=>by rw [z,e1] at e';cases e';rw [e2] at im;cases im
  exact hk b _ e' this
 new:=λb h=>by
  rcases h with h | h
  ·exact f.new b h
  ·rcases sub b h with h | h
   ·exact f.new b h
   ·exact .inr h
theorem Yr:∀b u,H b=some u->b≠l->upd H l ob b=some u:=λb u e n=>by rw [Qm n];exact e
abbrev GM:=D->List D->(D->D->Prop)->Prop
def MtD (X:Cx) (id:String) (g:GM):Prop :=
 ∃r,MtR X id r/\∀(H:Hp) (d:D) (ds:List D) (v:V) (xs:List V) (F G:List Addr) (k:D->D->Prop) (Q:VK),Rep X.K H d v F->F.Nodup->Reps X.K H ds xs G->G.Nodup->(∀a∈G,a∉F)->g d ds k ->
  (∀u l ob e d' F',l∈F->imm ob=false->Rep X.K (upd H l ob) d' v F'->F'.Nodup->(∀a∈F',a∈F\/a∈G)->Rep X.K (upd H l ob) e u []->k e d'->Q u (upd H l ob))->r v xs H Q
def tyD:Option D->String->Bool
 | some (.lst _),t=>t == "list"
 | some (.dik _),t=>t == "dict"
 | some (.dit _),t=>t == "dict"
 | some (.dmx _),t=>t == "dict"
 | _,_=>false
theorem Qkx (r:Rep K H d v F) (h:tyD (some d) t=true):tyV K t v H:=by
 cases r <;> try (simp [tyD] at h)
 ·subst h;exact .inl ⟨rfl,_,.of ‹_›⟩
 ·subst h;exact .inr (.inr (.inl ⟨rfl,.inl ⟨_,‹_›⟩⟩))
 ·subst h;exact .inr (.inr (.inl ⟨rfl,.inr ⟨_,‹_›⟩⟩))
 ·rename_i e hk hm r
  subst h
  refine .inr (.inr (.inr (.inr ⟨Mx.phi _ _,e,λh p=>?_⟩)))
  obtain ⟨_,_,_,_,_,o,_,_,e,x,_⟩:=p
  exact ⟨o,e,x.1,x.2.1⟩
def wMt (i:Nat) (t:String) (g:GM) (wr:WA):WE:=λρ Q=>tyD (look ρ i) t=true/\wr ρ λds ρ1=>oget (look ρ1 i) λd=>g d ds λe d'=>Q e (ρ1.set i (some d'))
theorem Qmi {g:GM} (ht:T.own i=true)
  (gr:∀(H:Hp) (d:D) (ds:List D) (v:V) (xs:List V) (F G:List Addr) (k:D->D->Prop) (Q:VK),Rep X.K H d v F->F.Nodup->Reps X.K H ds xs G->G.Nodup->(∀a∈G,a∉F)->g d ds k ->
   (∀u l ob e d' F',l∈F->imm ob=false->Rep X.K (upd H l ob) d' v F'->F'.Nodup->(∀a∈F',a∈F\/a∈G)->Rep X.K (upd H l ob) e u []->k e d'->Q u (upd H l ob))->r v xs H Q) (ga:∀(z:Nat->V) (R:Addr->Prop) (σ:St) (H:Hp) (W:Addr->Prop) (ρ:Env) (Q:List D->Env->Prop) (Q':List V->Hp->Prop),SR X.K T z R H W σ ρ->wr ρ Q ->
   (∀vs H' W' ds ρ' F,PostA X.K T z R m true H W σ ρ H' W' ρ' ds vs F->Q ds ρ'->Q' vs H')->ta σ H Q') {W:Addr->Prop} (s:SR X.K T z R H W σ ρ) (hw:wMt i t g wr ρ Q)
  (k:∀v H' W' d ρ' F,Post X.K T z R true true H W σ ρ H' W' ρ' d v F->Q d ρ'->Q' v H'):tVar i σ H λx H1=>tyV X.K t x H1/\ta σ H1 λxs H2=>r x xs H2 Q':=by
 obtain ⟨hty,hw⟩:=hw
 obtain ⟨fp0,s0⟩:=id s
 cases hl:look ρ i with
 | none=>rw [hl] at hty;cases hty
 | some d0 =>
  obtain ⟨v,hv,r0⟩:=s0.at_ i d0 hl
  refine ⟨v,hv,Qkx r0 (by rw [hl] at hty;exact hty),?_⟩
  refine ga z R σ H W ρ _ _ s hw λvs H1 W1 ds ρ1 G p q=>?_
  obtain ⟨d,hd,q⟩:=Ql q
  obtain ⟨fp,s1⟩:=id p.sr
  obtain ⟨v',hv',r1⟩:=s1.at_ i d hd
  have:v'=v:=by rw [hv] at hv';cases hv';rfl
  subst this
  obtain ⟨nd1,sw⟩:=s1.own i d hd ht
  obtain ⟨ndG,kG⟩:=p.own rfl
  refine gr H1 d ds v' vs (fp i) G _ Q' r1 nd1 p.rep ndG (λa ha hf=>(kG a ha).2 (sw a hf)) q λu l ob e d' F' hlF him rd' ndF sub re hk=>?_
  have hWl:=sw l hlF
  refine k u _ (λa=>W1 a\/a∈F') e _ [] ⟨s1.write hd ht hv' hlF Yr ⟨ob,Qg,him⟩ rd' ndF (λa ha=>?_),p.fr.write hWl (s1.wd l hWl) Yr ⟨ob,Qg,him⟩ (λa ha=>?_),(λh=>nomatch h),re,λ_=>⟨List.nodup_nil,λa m=>nomatch m⟩⟩ hk
  ·rcases sub a ha with h | h
   ·exact .inl h
   ·exact .inr ⟨(kG a h).2,s.nr (kG a h).1⟩
  ·rcases sub a ha with h | h
   ·exact .inl (sw a h)
   ·exact .inr (kG a h).1
end
section
variable {T:Tg} {id:String}
theorem Qa9 {g:GM} (hm:MtD X id g) (pa:PlainAttrs T') (slot:Slot T' name id) (hty:typeOf (.builtin id)=pure (.type "method_descriptor")) (ha:AV X T m true (e::es) wr)
  (ht:T.own i=true:=by rfl) (hN:X.N[i]? = some x:=by rfl) (hv:Vis X.env.scope x:=by first | exact Or.inl rfl | exact Or.inr (Or.inl rfl) | exact Or.inr (Or.inr rfl)) (hd:(x == ("__debug__" : Str))=false:=by decide)
  (hcd:(x == ("__classdict__" : Str))=false:=by decide)
  (hbase:attributeBase (.Name x p) name X.env (eval (.Name x p) X.env)=eval (.Name x p) X.env:=by rfl)
  (hfew:((backTo cpos (starEach (e::es) X.env)).all (λx=>!x.1) && (backToKw cpos (keywordEach [] X.env)).all (λx=>x.1.isSome)
   && decide ((e::es).length+([]:List Keyword).length+(if ([]:List Keyword).isEmpty then 0 else 1)<30))=true:=by rfl)
  (hline:(apos.endLine == cpos.line)=true:=by rfl) (hs:starEach (e::es) X.env=(false,eval e X.env)::starEach es X.env:=by rfl) (hplain:(backTo cpos (starEach es X.env)).any (·.1)=false:=by rfl) :
  EV X T true true (.Call (.Attribute (.Name x p) name apos) (e::es) [] cpos) (wMt i T' g wr):=by
 obtain ⟨r,mr,gr⟩:=hm
 obtain ⟨ta,pa',ga⟩:=ha
 exact ⟨_,Qhb pa slot hty mr (Y1 hN hv hd hcd) pa' hbase hfew hline hs hplain,λz R σ H W ρ Q Q' s hw k=>Qmi ht gr ga s hw k⟩
def Vj:GM
 | .lst xs,[d],k=>xs.length<sizeLine/\k .non (.lst (xs++[d]))
 | _,_,_=>False
theorem Vt {α:Type} {F G:List α} (h:F.Nodup) (h':G.Nodup) (d:∀a∈G,a∉F):(F++G).Nodup :=
 List.nodup_append.mpr ⟨h,h',λa ha b hb e=>d b hb (e ▸ ha)⟩
theorem Vh (h:H l=some ob) (hi:imm ob=false):ImmK H (upd H l ob'):=λb u e im=>by
 have:b≠l:=λz=>by rw [z,h] at e;cases e;rw [hi] at im;cases im
 rw [Qm this];exact e
theorem Reps.upd {ds:List D} (r:Reps K H ds xs F) (h:H l=some ob) (hi:imm ob=false) (hn:l∉F):Reps K (L2.upd H l ob') ds xs F :=
 r.frame (Vh h hi) λa ha=>Qm λz=>hn (z ▸ ha)
theorem Rep.upd {x:V} (r:Rep K H d x F) (h:H l=some ob) (hi:imm ob=false) (hn:l∉F):Rep K (L2.upd H l ob') d x F :=
 r.frame (Vh h hi) λa ha=>Qm λz=>hn (z ▸ ha)
theorem RepK.upd {xs:List (Key × V)} (r:RepK K H ds xs F) (h:H l=some ob) (hi:imm ob=false) (hn:l∉F):RepK K (L2.upd H l ob') ds xs F :=
 r.frame (Vh h hi) λa ha=>Qm λz=>hn (z ▸ ha)
theorem RepT.upd {ds:List (List Key × D)} {xs:List (List Key × V)} (r:RepT K H ds xs F) (h:H l=some ob) (hi:imm ob=false) (hn:l∉F):RepT K (L2.upd H l ob') ds xs F :=
 r.frame (Vh h hi) λa ha=>Qm λz=>hn (z ▸ ha)
theorem U9:MtD X "list.append" Vj:=by
 refine ⟨_,U7,λH d ds v xs F G k Q r nd rs ndG dis g q=>?_⟩
 cases d with
 | lst es =>
  cases ds with
  | nil=>exact (show False from g).elim
  | cons d ds =>
   cases ds with
   | cons _ _=>exact (show False from g).elim
   | nil =>
    obtain ⟨u,rfl,rd⟩:=rs.at1
    cases r with
    | @lst l ys _ F e r9 =>
     obtain ⟨hz,g⟩:=g
     obtain ⟨nl,nd⟩:=List.nodup_cons.mp nd
     have hG:l∉G:=λh=>dis l h List.mem_cons_self
     refine ⟨l,ys,u,rfl,rfl,e,by rw [r9.length];exact hz,?_⟩
     refine q .non l _ .non _ (l::(F++G)) List.mem_cons_self rfl (.lst Qg ((r9.upd e rfl nl).snoc (rd.upd e rfl hG))) (List.nodup_cons.mpr ⟨λh=>(List.mem_append.mp h).elim nl hG,Vt nd ndG λa ha hf=>dis a ha (List.mem_cons_of_mem _ hf)⟩) (λa ha=>?_) .non g
     rcases List.mem_cons.mp ha with rfl | ha
     ·exact .inl List.mem_cons_self
     ·rcases List.mem_append.mp ha with ha | ha
      ·exact .inl (List.mem_cons_of_mem _ ha)
      ·exact .inr ha
 | _=>exact (show False from g).elim
def Xf:GM
 | .lst xs,[.int i],k=>-(2 ^ 63)<=i/\i<2 ^ 63/\oget (seqIndex? i xs.length) λj=>oget xs[j]? λd=>d.pure=true/\k d (.lst (xs.eraseIdx j))
 | _,_,_=>False
theorem sub3 {α:Type} {F A B C:List α} (h:F=A++B++C):(A++C).Sublist F:=by
 rw [h,List.append_assoc]
 exact List.Sublist.append (List.Sublist.refl _) (List.sublist_append_right _ _)
theorem Ut:MtD X "list.pop" Xf:=by
 refine ⟨_,Qhk,λH d ds v xs F G k Q r nd rs ndG dis g q=>?_⟩
 cases d with
 | lst es =>
  cases ds with
  | nil=>exact (show False from g).elim
  | cons d ds =>
   cases ds with
   | cons _ _=>cases d <;> exact (show False from g).elim
   | nil =>
    cases d with
    | int i =>
     obtain ⟨u,rfl,rd⟩:=rs.at1
     cases rd
     cases r with
     | @lst l ys _ F e r9 =>
      obtain ⟨h1,h2,g⟩:=g
      obtain ⟨j,hj,g⟩:=Ql g
      obtain ⟨d,hd,hp,g⟩:=Ql g
      obtain ⟨nl,nd⟩:=List.nodup_cons.mp nd
      obtain ⟨y,A,B,C,hy,hF,rB,rA,rC⟩:=r9.split hd
      obtain ⟨hB,rB⟩:=rB.pure hp
      have sub:=sub3 hF
      have nAC:l∉A++C:=λh=>nl (sub.subset h)
      refine ⟨l,ys,i,j,y,rfl,rfl,e,h1,h2,by rw [r9.length];exact hj,hy,?_⟩
      refine q y l _ d _ (l::(A++C)) List.mem_cons_self rfl (.lst Qg ?_) (List.nodup_cons.mpr ⟨nAC,nd.sublist sub⟩) (λa ha=>?_) (rB.upd e rfl (λh=>nomatch h)) g
      ·rw [Uu,Uu]
       exact (rA.append rC).upd e rfl nAC
      ·rcases List.mem_cons.mp ha with rfl | ha
       ·exact .inl List.mem_cons_self
       ·exact .inl (List.mem_cons_of_mem _ (sub.subset ha))
    | _=>exact (show False from g).elim
 | _=>exact (show False from g).elim
end
def spR (K:PySem.W.Frag) (g:GA):Sp:=λvs H Q _=>∃(ds:List D) (F:List Addr) (k:D->Prop),Reps K H ds vs F/\g ds k/\∀v H' d F',Fin K H H' d v F'->k d->Q v H'
abbrev GI:=List D->(D->D->Prop)->Prop
def spI (K:PySem.W.Frag) (p:Nat) (g:GI):Sp:=λvs H Q _=>∃(ds:List D) (a:Addr) (k:D->D->Prop),Reps K H ds vs [a]/\vs[p]? = some (.ref a)/\g ds k /\
 ∀v H' d d' F',Rep K H' d' (.ref a) [a]->Rep K H' d v F'->F'.Nodup->(∀b∈F',H b=none)->(∀b o,H b=some o->b≠a->H' b=some o)->k d d'->Q v H'
def Gg:D->Bool
 | .lst xs=>Qs xs
 | .dik kvs=>kvs.all λkv=>kv.2.pure
 | .dit kvs=>kvs.all λkv=>kv.2.pure
 | .dmx _=>true
 | _=>false
theorem RepK.pure {K:PySem.W.Frag} {H:Hp}:∀{ds:List (Key × D)} {xs:List (Key × V)} {F:List Addr},RepK K H ds xs F->(ds.all λkv=>kv.2.pure)=true->F=[]
 | [],_,_,r,_=>by cases r;rfl
 | d::ds,_,_,r,h=>by
  rw [List.all_cons,Bool.and_eq_true] at h
  cases r with
  | cons p r=>rw [(p.pure h.1).1,RepK.pure r h.2];rfl
theorem RepT.pure {K:PySem.W.Frag} {H:Hp}:∀{ds:List (List Key × D)} {xs:List (List Key × V)} {F:List Addr},RepT K H ds xs F->(ds.all λkv=>kv.2.pure)=true->F=[]
 | [],_,_,r,_=>by cases r;rfl
 | d::ds,_,_,r,h=>by
  rw [List.all_cons,Bool.and_eq_true] at h
  cases r with
  | cons p r=>rw [(p.pure h.1).1,RepT.pure r h.2];rfl
theorem Rep.flat1 (r:Rep K H d v F) (h:Gg d=true):∃a,v=.ref a/\F=[a]:=by
 cases r with
 | lst e r=>exact ⟨_,rfl,by rw [(r.pure (by simpa [Gg] using h)).1]⟩
 | dik e r=>exact ⟨_,rfl,by rw [r.pure (by simpa [Gg] using h)]⟩
 | dit e r=>exact ⟨_,rfl,by rw [r.pure (by simpa [Gg] using h)]⟩
 | dmx e _ _ _=>exact ⟨_,rfl,rfl⟩
 | _=>simp [Gg] at h
section
variable {T:Tg} {k:Nat}
theorem Qkc (F:FnOk X.prog X.w X.K X.mg X.base CX0 k f fd ps (spR X.K g)) (hr:Room k X.A) (hm:X.mg x=some (.ref f)) (hk:PySem.W.keepIn X.K (.ref f)=true) (hb:Qbq X.K fd ps []) (ha:AV X T m o (e::es) wr) (hg:Gl X x:=by rfl)
  (hdb:(x == ("__debug__" : Str))=false:=by decide) (he:starEach (e::es) X.env=(false,eval e X.env)::starEach es X.env:=by rfl) (hpl:(backTo pos (starEach es X.env)).any (·.1)=false:=by rfl) :
  EV X T m true (.Call (.Name x p) (e::es) [] pos) (Qk g wr):=by
 obtain ⟨ta,pa,ga⟩:=ha
 refine ⟨_,Qe3 F hr hg hm hk hb .nil Ql2 pa hdb he hpl,λz R σ H W ρ Q Q' s hw k=>?_⟩
 refine ga z R σ H W ρ _ _ s hw λvs H1 W1 ds ρ1 F p q=>?_
 refine ⟨ds,F,_,by rw [List.append_nil];exact p.rep,q,λv H' d F' fi hk=>k v H' W1 d ρ1 F' (Post.fin p.sr p.fr p.calm fi.same fi.rep fi.nd fi.new) hk⟩
abbrev WI:=Env->(List D->List D->Env->Prop)->Prop
def AI (X:Cx) (T:Tg) (m:Bool) (i p:Nat) (es:List Expr) (w:WI):Prop :=
 ∃ta,PA X es ta/\∀(z:Nat->V) (R:Addr->Prop) (σ:St) (H:Hp) (W:Addr->Prop) (ρ:Env) (Q:List D->List D->Env->Prop) (Q':List V->Hp->Prop),SR X.K T z R H W σ ρ->w ρ Q ->
  (∀v xs ys H' W' pre post ρ',PostT X.K T z R m H W σ ρ H' W' ρ'->σ[i]? = some (some v)->Reps X.K H' pre xs []->Reps X.K H' post ys []->pre.length=p->Q pre post ρ'->Q' (xs++v::ys) H')->ta σ H Q'
def J4 (i:Nat) (wr:WA):WI:=λρ Q=>(look ρ i).isSome=true/\wr ρ λds ρ'=>Qs ds=true/\Q [] ds ρ'
theorem Jx (hr:AV X T m o es wr) (hN:X.N[i]? = some x:=by rfl) (hv:Vis X.env.scope x:=by first | exact Or.inl rfl | exact Or.inr (Or.inl rfl) | exact Or.inr (Or.inr rfl)) (hd:(x == ("__debug__" : Str))=false:=by decide)
  (hcd:(x == ("__classdict__" : Str))=false:=by decide) (hs:starEach (.Name x p::es) X.env=(false,eval (.Name x p) X.env)::starEach es X.env:=by rfl):AI X T m i 0 (.Name x p::es) (J4 i wr):=by
 obtain ⟨ta,pa,ga⟩:=hr
 refine ⟨_,Vf (Y1 hN hv hd hcd) pa hs,λz R σ H W ρ Q Q' s hw k=>?_⟩
 obtain ⟨h1,hw⟩:=hw
 obtain ⟨d,hl⟩:=Option.isSome_iff_exists.mp h1
 obtain ⟨fp,s0⟩:=id s
 obtain ⟨v,hv',_⟩:=s0.at_ i d hl
 refine ⟨v,hv',ga z R σ H W ρ _ _ s hw λvs H1 W1 ds ρ1 F p q=>?_⟩
 exact k v [] vs H1 W1 [] ds ρ1 ⟨p.sr,p.fr,p.calm⟩ hv' .nil (p.rep.pure q.1).2 rfl q.2
def Q0 (i:Nat) (g:GI) (wi:WI):WE:=λρ Q=>wi ρ λpre post ρ1=>oget (look ρ1 i) λd0=>Gg d0=true/\g (pre++d0::post) λd d'=>Q d (ρ1.set i (some d'))
theorem Qhu {q:Nat} {g:GI} {wi:WI} (F:FnOk X.prog X.w X.K X.mg X.base CX0 k f fd ps (spI X.K q g)) (hr:Room k X.A) (hm:X.mg x=some (.ref f)) (hk:PySem.W.keepIn X.K (.ref f)=true) (hb:Qbq X.K fd ps []) (ha:AI X T m i q (e::es) wi)
  (ht:T.own i=true:=by rfl) (hg:Gl X x:=by rfl)
  (hdb:(x == ("__debug__" : Str))=false:=by decide) (he:starEach (e::es) X.env=(false,eval e X.env)::starEach es X.env:=by rfl) (hpl:(backTo pos (starEach es X.env)).any (·.1)=false:=by rfl) :
  EV X T true true (.Call (.Name x p) (e::es) [] pos) (Q0 i g wi):=by
 obtain ⟨ta,pa,ga⟩:=ha
 refine ⟨_,Qe3 F hr hg hm hk hb .nil Ql2 pa hdb he hpl,λz R σ H W ρ Q Q' s hw k=>?_⟩
 refine ga z R σ H W ρ _ _ s hw λv xs ys H1 W1 pre post ρ1 p hv rp rq hl q=>?_
 obtain ⟨d0,hd,hf,q⟩:=Ql q
 obtain ⟨fp,s1⟩:=id p.sr
 obtain ⟨v',hv',r0⟩:=s1.at_ i d0 hd
 have:v'=v:=by rw [hv] at hv';cases hv';rfl
 subst this
 obtain ⟨a,rfl,hF⟩:=r0.flat1 hf
 rw [hF] at r0
 have sw:=(s1.own i d0 hd ht).2
 have hWa:W1 a:=sw a (by rw [hF];exact List.mem_singleton.mpr rfl)
 refine ⟨pre++d0::post,a,_,?_,?_,q,λv H' d d' F' rd' rd nd new kp hk=>?_⟩
 ·rw [List.append_nil]
  have:=rp.append (.cons r0 rq)
  simpa using this
 ·rw [List.append_nil]
  have hx:=rp.length
  rw [List.getElem?_append_right (by omega),show _-xs.length=0 by omega]
  rfl
 ·obtain ⟨oa,ea,ia⟩:=s1.wd a hWa
  have hnew:∃ob,H' a=some ob/\imm ob=false:=rd'.dom a (List.mem_singleton.mpr rfl)
  have nd1:([a]:List Addr).Nodup:=by simp
  have sN:=s1.write (H':=H') (d':=d') (F':=[a]) hd ht hv' (by rw [hF];exact List.mem_singleton.mpr rfl) (λb u e n=>kp b u e n) hnew rd' nd1 (λb hb=>.inl (by rw [hF];exact hb))
  have fN:=p.fr.write (H':=H') (F':=[a]) hWa ⟨oa,ea,ia⟩ (λb u e n=>kp b u e n) hnew (λb hb=>.inl (by rw [List.mem_singleton.mp hb];exact hWa))
  refine k v H' _ d _ F' ⟨sN,fN,(λh=>nomatch h),rd,λ_=>⟨nd,λb hb=>⟨p.fr.dom b (new b hb),λhw=>?_⟩⟩⟩ hk
  rcases hw with hw | hw
  ·exact p.sr.nw (new b hb) hw
  ·rw [List.mem_singleton.mp hw] at hb
   rw [new a hb] at ea;cases ea
abbrev WL:=Env->(List D->Env->Prop)->Prop
def JD (K:PySem.W.Frag) (J:It) (H:Hp) (W:Addr->Prop) (ds:List D):Prop :=
 ∀(i:Nat) (H1:Hp) (W1:Addr->Prop),FrW H W H1 W1->(ds.length<=i->J.stop i H1)/\∀d,ds[i]? = some d->J.go i H1/\∀v H2,J.yld i H1 v H2->Same H1 H2/\∃F,Rep K H2 d v F/\∀a∈F,¬W1 a
def wz (pr:Bool) (W:Addr->Prop):Addr->Prop:=λa=>pr=true/\W a
def IV (X:Cx) (T:Tg) (m pr:Bool) (tg iter:Expr) (w:WL):Prop :=
 ∃wi,PI X tg iter wi/\∀(z:Nat->V) (R:Addr->Prop) (σ:St) (H:Hp) (W:Addr->Prop) (ρ:Env) (Q:List D->Env->Prop) (RR:It->Hp->Prop),SR X.K T z R H W σ ρ->w ρ Q ->
  (∀J H' W' ds ρ',PostT X.K T z R m H W σ ρ H' W' ρ'->JD X.K J H' (wz pr W') ds->Q ds ρ'->RR J H')->wi σ H RR
end
section
variable {T:Tg} {k:Nat}
theorem Qey {l:Expr} {tl:TE} (hl:PE X l tl):PI X tg l (λσ H R=>tl σ H λx H1=>∃a,x=.ref a/\(((∃xs,SqL X.K H1 a xs)/\R (Itl X.K a) H1)\/((∃xs,SqT X.K H1 a xs)/\R (Itt X.K a) H1))):=by
 intro pins s σ H R I h
 refine thn (hl pins s σ H _ I h) λv s1 ⟨x,H1,I1,r1,q1⟩=>?_
 obtain ⟨a,e,q⟩:=q1
 subst e
 cases r1
 rcases q with ⟨⟨xs,hq⟩,q⟩ | ⟨⟨xs,hq⟩,q⟩
 ·obtain ⟨its,rv,p,hz⟩:=I1.list hq
  refine wpAny_pyIter_list p.isList ?_
  refine ⟨s1.heap.objs.size,[s1.heap.objs.size],_,_,H1,rfl,I1.kept (t':=s1.toks) λb o e=>Heap.get?_push_of_some _ e,Qei a _,⟨_,Heap.get?_push_size _ rfl,rfl,rfl⟩,λb hb=>?_,q⟩
  have e:b=s1.heap.objs.size:=by simpa using hb
  subst e
  exact I1.fpOk (Nat.le_refl _) (I1.hok.fresh (Nat.le_refl _))
 ·obtain ⟨its,rv,p,hz⟩:=I1.tuple hq
  refine wpAny_pyIter_tuple (show s1.heap.IsTuple a its.toArray from p) ?_
  refine ⟨s1.heap.objs.size,[s1.heap.objs.size],_,_,H1,rfl,I1.kept (t':=s1.toks) λb o e=>Heap.get?_push_of_some _ e,Qdn a _,⟨_,Heap.get?_push_size _ rfl,rfl,rfl⟩,λb hb=>?_,q⟩
  have e:b=s1.heap.objs.size:=by simpa using hb
  subst e
  exact I1.fpOk (Nat.le_refl _) (I1.hok.fresh (Nat.le_refl _))
def Zh (w:WE):WL:=λρ Q=>w ρ λd ρ'=>match d with
 | .tup ds=>Qs ds=true/\Q ds ρ'
 | .lst ds=>Q ds ρ'
 | .kc (.tup ks)=>Q (ks.map kcD) ρ'
 | _=>False
theorem Qmw {W:Addr->Prop} {a:Addr} (hs:∀H,SqT K H a xs) (ar:AreKC K ks xs):JD K (Itt K a) H W (ks.map kcD):=by
 intro i H2 W2 f
 have r:Reps K H2 (ks.map kcD) xs []:=ar.reps
 refine ⟨λhi=>⟨xs,hs H2,by rw [r.length];exact hi⟩,λd hd=>?_⟩
 obtain ⟨x,B,hx,rx,sx⟩:=r.get hd
 refine ⟨⟨xs,x,hs H2,hx⟩,λv H3 y=>?_⟩
 obtain ⟨rfl,y⟩:=y
 have:=y xs (hs _)
 rw [hx] at this
 cases this
 exact ⟨Same.refl _,B,rx,λa ha=>nomatch sx.subset ha⟩
theorem Vx (h:EV X T m o e w):IV X T m o tg e (Zh w):=by
 obtain ⟨te,pe,ge⟩:=h
 refine ⟨_,Qey pe,λz R σ H W ρ Q RR s hw k=>?_⟩
 refine ge z R σ H W ρ _ _ s hw λv H1 W1 d ρ1 F p q=>?_
 cases d with
 | tup ds =>
  obtain ⟨hp,q⟩:=q
  obtain ⟨hF,rp⟩:=p.rep.pure (by simpa [D.pure] using hp)
  cases rp with
  | @tup a xs _ _ e1 r =>
   refine ⟨a,rfl,.inr ⟨⟨xs,.of e1⟩,k _ H1 W1 ds ρ1 ⟨p.sr,p.fr,p.calm⟩ (λi H2 W2 f=>?_) q⟩⟩
   have e2:H2 a=some (.tup xs):=f.imm _ _ e1 rfl
   refine ⟨λhi=>⟨xs,.of e2,by rw [r.length];exact hi⟩,λd hd=>?_⟩
   obtain ⟨x,B,hx,rx,sx⟩:=r.get hd
   refine ⟨⟨xs,x,.of e2,hx⟩,λv H3 y=>?_⟩
   obtain ⟨rfl,y⟩:=y
   have:=y xs (.of e2)
   rw [hx] at this
   cases this
   exact ⟨Same.refl _,B,rx.keep f (λa ha=>(nomatch sx.subset ha)),(λa ha=>(nomatch sx.subset ha))⟩
 | lst ds =>
  obtain ⟨p1,p2,p3,p4,p5⟩:=p
  cases p4 with
  | @lst a xs _ F e1 r =>
   refine ⟨a,rfl,.inl ⟨⟨xs,.of e1⟩,k _ H1 W1 ds ρ1 ⟨p1,p2,p3⟩ (λi H2 W2 f=>?_) q⟩⟩
   have nW:∀b∈a::F,¬wz o W1 b:=λb hb hw=>by
    obtain ⟨h1,h2⟩:=hw
    exact ((p5 h1).2 b hb).2 h2
   have e2:H2 a=some (.lst xs):=f.keep _ _ e1 (nW a List.mem_cons_self)
   refine ⟨λhi=>⟨xs,.of e2,by rw [r.length];exact hi⟩,λd hd=>?_⟩
   obtain ⟨x,B,hx,rx,sx⟩:=r.get hd
   refine ⟨⟨xs,x,.of e2,hx⟩,λv H3 y=>?_⟩
   obtain ⟨rfl,y⟩:=y
   have:=y xs (.of e2)
   rw [hx] at this
   cases this
   refine ⟨Same.refl _,B,rx.keep f λb hb=>nW b (List.mem_cons_of_mem _ (sx.subset hb)),λb hb hw=>?_⟩
   have hb':b∈a::F:=List.mem_cons_of_mem _ (sx.subset hb)
   rcases f.new b hw with h | h
   ·exact nW b hb' h
   ·obtain ⟨ob,e3,_⟩:=rx.dom b hb
    rw [h] at e3;cases e3
 | kc c =>
  cases c with
  | tup ks =>
   obtain ⟨-,rp⟩:=p.rep.pure (by rw [D.pure])
   cases rp with
   | kc h =>
    obtain ⟨a,xs,rfl,hs,ar⟩:=h.sqT
    exact ⟨a,rfl,.inr ⟨⟨xs,hs H1⟩,k _ H1 W1 (ks.map kcD) ρ1 ⟨p.sr,p.fr,p.calm⟩ (Qmw hs ar) q⟩⟩
  | _=>exact (show False from q).elim
 | _=>exact q.elim
def rngD (lo:Int) (n:Nat):List D:=(List.range n).map λ(i:Nat)=>.int (lo+(i:Int))
theorem Qhl {W:Addr->Prop} {lo:Int}:JD K (Itr lo n) H W (rngD lo n):=by
 intro i H1 W1 f
 have hl:(rngD lo n).length=n:=by simp [rngD]
 refine ⟨λh=>by rw [hl] at h;exact h,λd hd=>?_⟩
 have hi:i<n:=by have:=(List.getElem?_eq_some_iff.mp hd).1;rwa [hl] at this
 have hd':d=.int (lo+(i:Int)):=by
  simp only [rngD,List.getElem?_map,List.getElem?_range hi,Option.map_some,Option.some.injEq] at hd
  exact hd.symm
 refine ⟨hi,λv H2 y=>?_⟩
 obtain ⟨rfl,rfl⟩:=y
 exact ⟨Same.refl _,[],by rw [hd'];exact .int _,λa m=>nomatch m⟩
def Qag (wr:WA):WL:=λρ Q=>wr ρ λds ρ'=>match ds with
 | [.int j]=>-(2 ^ 62)<=j/\j<2 ^ 62/\Q (rngD 0 j.toNat) ρ'
 | _=>False
theorem Zp (hm:X.mg "range" = none) (ha:AV X T m o [a] wr) (hg:Gl X "range":=by rfl) (hs:starEach [a] X.env=[(false,eval a X.env)]:=by rfl):IV X T m true tg (.Call (.Name "range" p) [a] [] pos) (Qag wr):=by
 obtain ⟨ta,pa,ga⟩:=ha
 refine ⟨_,Qez hg hm pa hs,λz R σ H W ρ Q RR s hw k=>?_⟩
 refine ga z R σ H W ρ _ _ s hw λvs H1 W1 ds ρ1 F p q=>?_
 obtain ⟨j,rfl⟩:∃j,ds=[D.int j]:=by
  clear p
  cases ds with
  | nil=>exact (show False from q).elim
  | cons d0 r0 =>
   cases r0 with
   | nil =>
    cases d0 with
    | int j=>exact ⟨j,rfl⟩
    | _=>exact (show False from q).elim
   | cons _ _=>cases d0 <;> exact (show False from q).elim
 obtain ⟨v,rfl,rd⟩:=p.rep.at1
 cases rd
 exact ⟨j,rfl,q.1,q.2.1,k _ H1 W1 _ ρ1 ⟨p.sr,p.fr,p.calm⟩ Qhl q.2.2⟩
end
structure EndsP where
 nx:Env->Prop
 rt:D->Env->Prop
 bk:Env->Prop:=λ_=>False
 ct:Env->Prop:=λ_=>False
 xc:D->Env->Prop:=λ_ _=>False
abbrev WS:=EndsP->Env->Prop
structure Lk (K:PySem.W.Frag) (T:Tg) (z:Nat->V) (H:Hp) (W:Addr->Prop) (P:EndsP) (E:Ends):Prop where
 nx:∀R σ' H' W' ρ',SR K T z R H' W' σ' ρ'->FrW H W H' W'->P.nx ρ'->E.nx σ' H'
 bk:∀R σ' H' W' ρ',SR K T z R H' W' σ' ρ'->FrW H W H' W'->P.bk ρ'->E.bk σ' H'
 ct:∀R σ' H' W' ρ',SR K T z R H' W' σ' ρ'->FrW H W H' W'->P.ct ρ'->E.ct σ' H'
 rt:∀R v σ' H' W' ρ' d F,SR K T z R H' W' σ' ρ'->FrW H W H' W'->Rep K H' d v F->F.Nodup->(∀a∈F,¬W' a/\(W a\/H a=none))->P.rt d ρ'->E.rt v H'
 xc:∀R σ' H' W' ρ' d,SR K T z R H' W' σ' ρ'->FrW H W H' W'->P.xc d ρ'->T.xe d σ' H'
theorem Lk.step {T:Tg} {W:Addr->Prop} {P:EndsP} {E:Ends} (l:Lk K T z H W P E) (f:FrW H W H1 W1):Lk K T z H1 W1 P E where
 nx:=λR σ' H' W' ρ' s g q=>l.nx R σ' H' W' ρ' s (f.trans g) q
 bk:=λR σ' H' W' ρ' s g q=>l.bk R σ' H' W' ρ' s (f.trans g) q
 ct:=λR σ' H' W' ρ' s g q=>l.ct R σ' H' W' ρ' s (f.trans g) q
 rt:=λR v σ' H' W' ρ' d F s g r nd k q=>l.rt R v σ' H' W' ρ' d F s (f.trans g) r nd (λa ha=>⟨(k a ha).1,by
  rcases (k a ha).2 with h | h
  ·exact f.new a h
  ·exact .inr (f.dom a h)⟩) q
 xc:=λR σ' H' W' ρ' d s g q=>l.xc R σ' H' W' ρ' d s (f.trans g) q
def SV (X:Cx) (T:Tg) (st:Stmt) (w:WS):Prop :=
 ∃ts,PS X st ts/\∀(z:Nat->V) (R:Addr->Prop) (σ:St) (H:Hp) (W:Addr->Prop) (ρ:Env) (P:EndsP) (E:Ends),SR X.K T z R H W σ ρ->w P ρ->Lk X.K T z H W P E->ts E σ H
def SVs (X:Cx) (T:Tg) (st:List Stmt) (w:WS):Prop :=
 ∃ts,PSs X st ts/\∀(z:Nat->V) (R:Addr->Prop) (σ:St) (H:Hp) (W:Addr->Prop) (ρ:Env) (P:EndsP) (E:Ends),SR X.K T z R H W σ ρ->w P ρ->Lk X.K T z H W P E->ts E σ H
section
variable {T:Tg} {rest:List Stmt} {ws wu:WS}
def V7:WS:=λP ρ=>P.nx ρ
def wSeq (w u:WS):WS:=λP ρ=>w { P with nx:=u P } ρ
theorem U2:SVs X T [] V7:=⟨_,Qjj,λz R σ H W ρ P E s hw l=>l.nx R σ H W ρ s (FrW.refl H W) hw⟩
theorem Qx (h:SV X T st ws):SVs X T [st] ws:=by
 obtain ⟨t,pt,g⟩:=h
 exact ⟨_,Qji pt,g⟩
theorem Qi (h:SV X T st ws) (hr:SVs X T rest wu):SVs X T (st::rest) (wSeq ws wu):=by
 obtain ⟨t,pt,g⟩:=h
 obtain ⟨u,pu,gu⟩:=hr
 refine ⟨_,Qg3 pt pu,λz R σ H W ρ P E s hw l=>g z R σ H W ρ _ _ s hw ⟨λR' σ' H' W' ρ' s' f q=>gu z R' σ' H' W' ρ' P E s' q (l.step f),l.bk,l.ct,l.rt,l.xc⟩⟩
def Go (w:WE):WS:=λP ρ=>w ρ λ_ ρ'=>P.nx ρ'
theorem Xo (he:EV X T m o e w) (hs:swapsWith e none pos.line X.env=pure false:=by rfl):SV X T (.Expr e pos) (Go w):=by
 obtain ⟨te,pe,ge⟩:=he
 exact ⟨_,Qbz pe hs,λz R σ H W ρ P E s hw l=>ge z R σ H W ρ _ _ s hw λv H1 W1 d ρ1 F p q=>l.nx R σ H1 W1 ρ1 p.sr p.fr q⟩
def wRet (w:WE):WS:=λP ρ=>w ρ λd ρ'=>P.rt d ρ'
theorem Yk (he:EV X T m true e w):SV X T (.Return (some e) pos) (wRet w):=by
 obtain ⟨te,pe,ge⟩:=he
 exact ⟨_,Qig pe,λz R σ H W ρ P E s hw l=>ge z R σ H W ρ _ _ s hw λv H1 W1 d ρ1 F p q=>l.rt R v σ H1 W1 ρ1 d F p.sr p.fr p.rep (p.own rfl).1 (λa ha=>⟨((p.own rfl).2 a ha).2,.inr ((p.own rfl).2 a ha).1⟩) q⟩
def Qeb (i:Nat):WS:=λP ρ=>oget (look ρ i) λd=>P.rt d (ρ.set i none)
theorem Qen (ht:T.own i=true:=by rfl) (hN:X.N[i]? = some x:=by rfl) (hv:Vis X.env.scope x:=by first | exact Or.inl rfl | exact Or.inr (Or.inl rfl) | exact Or.inr (Or.inr rfl)) (hd:(x == ("__debug__" : Str))=false:=by decide)
  (hcd:(x == ("__classdict__" : Str))=false:=by decide):SV X T (.Return (some (.Name x p)) pos) (Qeb i):=by
 refine ⟨_,Qig (Y1 hN hv hd hcd),λz R σ H W ρ P E s hw l=>?_⟩
 obtain ⟨d,hl,q⟩:=Ql hw
 obtain ⟨fp,s0⟩:=s
 obtain ⟨v,h1,h2⟩:=s0.at_ i d hl
 have key:∀j e,look (ρ.set i none) j=some e->j≠i/\look ρ j=some e:=λj e h=>by
  rw [Zz] at h
  split at h
  ·cases h
  ·refine ⟨λz=>?_,h⟩
   subst z
   rename_i hn
   exact hn ⟨rfl,Gb hl⟩
 refine ⟨v,h1,l.rt R v σ H (λa=>W a/\a∉fp i) (ρ.set i none) d (fp i) ⟨fp,?_⟩ ?_ h2 (s0.own i d hl ht).1 (λa ha=>⟨λh=>h.2 ha,.inl ((s0.own i d hl ht).2 a ha)⟩) q⟩
 ·refine ⟨by rw [List.length_set];exact s0.len,λa h=>s0.wd a h.1,λj e h=>s0.at_ j e (key j e h).2,λj e h t=>⟨(s0.own j e (key j e h).2 t).1,λa ha=>⟨(s0.own j e (key j e h).2 t).2 a ha,λha'=>s0.dis j i e d (key j e h).2 hl t ht (key j e h).1 a ha ha'⟩⟩,
   λj e h t=>s0.ro j e (key j e h).2 t,λa h=>s0.wr a h.1,s0.rd,λj k e e' h h' t t'=>s0.dis j k e e' (key j e h).2 (key k e' h').2 t t',s0.fix⟩
 ·exact ⟨λb ob e _=>e,λb e=>e,λb ob e _=>e,λb h=>.inl h.1⟩
theorem SR0.bindE {W:Addr->Prop} (s:SR0 K T z R H W σ ρ fp) (hio:i∉T.io) (r:Rep K H d v F) (nd:F.Nodup) (nw:∀a∈F,¬W a/\¬R a) :
  SR K T z (λa=>R a\/(T.own i=false/\a∈F)) H (λa=>W a\/(T.own i=true/\a∈F)) (σ.set i (some v)) (ρ.set i (some d)):=by
 refine ⟨λj=>if j=i then F else fp j,?_,?_,?_,?_,?_,?_,?_,?_,?_⟩
 ·rw [List.length_set,List.length_set];exact s.len
 ·intro a ha
  rcases ha with ha | ⟨_,ha⟩
  ·exact s.wd a ha
  ·exact r.dom a ha
 ·intro j e hj
  rw [Zz] at hj
  split at hj
  ·rename_i h
   obtain ⟨rfl,hlt⟩:=h
   cases hj
   exact ⟨v,by rw [List.getElem?_set_self (by rw [← s.len];exact hlt)],by rw [if_pos rfl];exact r⟩
  ·rename_i h
   obtain ⟨u,h1,h2⟩:=s.at_ j e hj
   have hji:j≠i:=λz=>h ⟨z,by rw [← z];exact Gb hj⟩
   exact ⟨u,by rw [List.getElem?_set_ne (Ne.symm hji)];exact h1,by rw [if_neg hji];exact h2⟩
 ·intro j e hj hto
  by_cases hji:j=i
  ·subst hji;simp only [if_pos];exact ⟨nd,λa h=>.inr ⟨hto,h⟩⟩
  ·rw [Qo hji] at hj
   simp only [if_neg hji]
   exact ⟨(s.own j e hj hto).1,λa h=>.inl ((s.own j e hj hto).2 a h)⟩
 ·intro j e hj hto
  by_cases hji:j=i
  ·subst hji;simp only [if_pos];exact λa h=>.inr ⟨hto,h⟩
  ·rw [Qo hji] at hj
   simp only [if_neg hji]
   exact λa h=>.inl (s.ro j e hj hto a h)
 ·intro a ha hr
  rcases ha with ha | ⟨t,ha⟩
  ·rcases hr with hr | ⟨_,hr⟩
   ·exact s.wr a ha hr
   ·exact (nw a hr).1 ha
  ·rcases hr with hr | ⟨t',hr⟩
   ·exact (nw a ha).2 hr
   ·rw [t] at t';cases t'
 ·intro a hr
  rcases hr with hr | ⟨_,hr⟩
  ·exact s.rd a hr
  ·exact r.dom a hr
 ·intro j k e e' hj hk tj tk hne a ha ha'
  by_cases hji:j=i
  ·subst hji
   have hkj:k≠j:=λz=>hne z.symm
   rw [Qo hkj] at hk
   simp only [if_pos,if_neg hkj] at ha ha'
   exact (nw a ha).1 ((s.own k e' hk tk).2 a ha')
  ·rw [Qo hji] at hj
   simp only [if_neg hji] at ha
   by_cases hki:k=i
   ·subst hki
    simp only [if_pos] at ha'
    exact (nw a ha').1 ((s.own j e hj tj).2 a ha)
   ·rw [Qo hki] at hk
    simp only [if_neg hki] at ha'
    exact s.dis j k e e' hj hk tj tk hne a ha ha'
 ·intro j hj
  have hji:j≠i:=λz=>hio (z ▸ hj)
  rw [List.getElem?_set_ne (Ne.symm hji)]
  exact s.fix j hj
theorem SR0.bind {W:Addr->Prop} (s:SR0 K T z R H W σ ρ fp) (hio:i∉T.io) (r:Rep K H d v F) (nd:F.Nodup) (nw:∀a∈F,¬W a/\¬R a) :
  ∃R',SR K T z R' H (λa=>W a\/(T.own i=true/\a∈F)) (σ.set i (some v)) (ρ.set i (some d)):=⟨_,s.bindE hio r nd nw⟩
def wSet (i:Nat) (w:WE):WS:=λP ρ=>w ρ λd ρ'=>P.nx (ρ'.set i (some d))
theorem X4 {W:Addr->Prop} {G:Addr->Prop} (f:FrW H W H' W') (n:∀a,G a->H a=none):FrW H W H' (λa=>W' a\/G a) :=
 ⟨f.keep,f.dom,f.imm,λb h=>h.elim (f.new b) λh=>.inr (n b h)⟩
theorem Jd (he:EV X T m true e w) (hN:X.N.Nodup) (hi:X.N[i]? = some x:=by rfl) (hio:i∉T.io:=by decide) (hx:Loc X.env.scope x:=by first | exact Or.inl rfl | exact Or.inr rfl) (hs:swapsWith e (some (.Name x pos')) pos.line X.env=pure false:=by rfl)
  (hf:X.fn x=true\/X.env.scope.names.lookup x=some .local:=by first | exact .inl rfl | exact .inr rfl | assumption):SV X T (.Assign [.Name x pos'] e pos) (wSet i w):=by
 obtain ⟨te,pe,ge⟩:=he
 refine ⟨_,Qlt hN hi hx pe hs hf,λz R σ H W ρ P E s hw l=>ge z R σ H W ρ _ _ s hw λv H1 W1 d ρ1 F p q=>?_⟩
 obtain ⟨fp,s1⟩:=p.sr
 obtain ⟨nd,nw⟩:=p.own rfl
 obtain ⟨R',s2⟩:=s1.bind (i:=i) hio p.rep nd (λa ha=>⟨(nw a ha).2,s.nr (nw a ha).1⟩)
 exact l.nx R' _ H1 _ _ s2 (X4 p.fr λa h=>(nw a h.2).1) q
theorem Qix (he:∃te,PS X (.Assign [.Name x pos'] e pos) (tAsg te (Qa6 i))/\∀(z:Nat->V) (R:Addr->Prop) (σ:St) (H:Hp) (W:Addr->Prop) (ρ:Env) (Q:D->Env->Prop) (Q':VK),SR X.K T z R H W σ ρ->w ρ Q ->
  (∀v H' W' d ρ' F,Post X.K T z R m true H W σ ρ H' W' ρ' d v F->Q d ρ'->Q' v H')->te σ H Q') (hio:i∉T.io:=by decide):SV X T (.Assign [.Name x pos'] e pos) (wSet i w):=by
 obtain ⟨te,pe,ge⟩:=he
 refine ⟨_,pe,λz R σ H W ρ P E s hw l=>ge z R σ H W ρ _ _ s hw λv H1 W1 d ρ1 F p q=>?_⟩
 obtain ⟨fp,s1⟩:=p.sr
 obtain ⟨nd,nw⟩:=p.own rfl
 obtain ⟨R',s2⟩:=s1.bind (i:=i) hio p.rep nd (λa ha=>⟨(nw a ha).2,s.nr (nw a ha).1⟩)
 exact l.nx R' _ H1 _ _ s2 (X4 p.fr λa h=>(nw a h.2).1) q
abbrev WG:=D->Env->(Env->Prop)->Prop
def GV (X:Cx) (T:Tg) (tg:Expr) (wg:WG):Prop :=
 ∃t,PG X tg t/\∀(z:Nat->V) (R:Addr->Prop) (σ:St) (H:Hp) (W:Addr->Prop) (ρ:Env) (d:D) (v:V) (Q:Env->Prop) (Q':St->Hp->Prop),SR X.K T z R H W σ ρ->Rep X.K H d v []->d.pure=true->wg d ρ Q ->
  (∀R' W' σ' ρ',SR X.K T z R' H W' σ' ρ'->FrW H W H W'->Q ρ'->Q' σ' H)->t v σ H Q'
def gN (i:Nat):WG:=λd ρ Q=>Q (ρ.set i (some d))
theorem Gf (hN:X.N.Nodup) (hi:X.N[i]? = some x:=by rfl) (hio:i∉T.io:=by decide) (hx:Loc X.env.scope x:=by first | exact Or.inl rfl | exact Or.inr rfl) (hf:X.fn x=true\/X.env.scope.names.lookup x=some .local:=by first | exact .inl rfl | exact .inr rfl | assumption):GV X T (.Name x pos) (gN i):=by
 refine ⟨_,Xt hN hi hx hf,λz R σ H W ρ d v Q Q' s r hp hw k=>?_⟩
 obtain ⟨fp,s1⟩:=s
 obtain ⟨R',s2⟩:=s1.bind (i:=i) hio r List.nodup_nil (λa ha=>nomatch ha)
 exact k R' _ _ _ s2 (X4 (FrW.refl H W) λa h=>nomatch h.2) hw
def dSet (s c d:D) (k:D->Prop):Prop:=match s with
 | .lst xs=>onI c λj=>oget (ixN xs.length j) λn=>k (.lst (xs.set n d))
 | .dik kvs=>onK c λkey=>kvs.length<sizeLine/\k (.dik (putD kvs key d))
 | .dit kvs=>onT c λl=>kvs.length<sizeLine/\oget (Zo l) λks=>k (.dit (putD kvs ks d))
 | _=>False
theorem Qgu (hu:X.A.units+1<cLine):PSet X (λo i v H Q=>∃a H',o=.ref a/\DPut H a i v H'/\Q H'):=by
 intro pins s σ H o i v ov iv u Q I ro ri rv h
 obtain ⟨a,H',rfl,g,q⟩:=h
 cases ro
 exact Qf8 hu I g ri rv λs' I'=>⟨H',I',q⟩
theorem PSet.or {t u:TSet} (h:PSet X t) (h':PSet X u):PSet X (λo i v H Q=>t o i v H Q\/u o i v H Q):=by
 intro pins s σ H o i v ov iv u Q I ro ri rv q
 rcases q with q | q
 ·exact h pins s σ H o i v ov iv u Q I ro ri rv q
 ·exact h' pins s σ H o i v ov iv u Q I ro ri rv q
def Za (i:Nat) (wv wi:WE):WS:=λP ρ=>wv ρ λd ρ1=>d.pure=true/\(look ρ1 i).isSome=true/\wi ρ1 λc ρ2=>oget (look ρ2 i) λs=>dSet s c d λs'=>P.nx (ρ2.set i (some s'))
theorem Y6 {v ix:Expr} {wv wi:WE} {ps':Pos} (hu:X.A.units+1<cLine) (hv:EV X T m1 o1 v wv) (hi:EV X T m2 o2 ix wi) (ht:T.own i=true:=by rfl) (hN:X.N[i]? = some x:=by rfl)
  (hvis:Vis X.env.scope x:=by first | exact Or.inl rfl | exact Or.inr (Or.inl rfl) | exact Or.inr (Or.inr rfl)) (hd:(x == ("__debug__" : Str))=false:=by decide) (hcd:(x == ("__classdict__" : Str))=false:=by decide)
  (ha:∀v,assign (.Subscript (.Name x px) ix ps') X.env v=(do
   let ov ← holding [v] (eval (.Name x px) X.env)
   let iv ← holding [v,ov] (eval ix X.env)
   standAt ps'
   holding [v,ov,iv] (setItem ov iv v)
   release [v,ov,iv] []):=by intro _;rfl) (hs:swapsWithSole [.Subscript (.Name x px) ix ps'] v pos.line X.env=pure false:=by rfl) (hw:swappedStores [.Subscript (.Name x px) ix ps'] v X.env=pure none:=by rfl)
  (h1:(assignEach [.Subscript (.Name x px) ix ps'] X.env).map (·.2)=[assign (.Subscript (.Name x px) ix ps') X.env]:=by rfl):SV X T (.Assign [.Subscript (.Name x px) ix ps'] v pos) (Za i wv wi):=by
 obtain ⟨tv,pv,gv⟩:=hv
 obtain ⟨ti,pi,gi⟩:=hi
 refine ⟨_,Qlv pv (Qly (Y1 hN hvis hd hcd) pi (PSet.or Qgt (Qgu hu)) ha) hs hw h1,λz R σ H W ρ P E s hw l=>?_⟩
 refine gv z R σ H W ρ _ _ s hw λv1 H1 W1 d ρ1 F1 p ⟨hp,hso,q⟩=>?_
 obtain ⟨-,rv⟩:=p.rep.pure hp
 obtain ⟨d0,hl0⟩:=Option.isSome_iff_exists.mp hso
 obtain ⟨fp0,s0⟩:=id p.sr
 obtain ⟨u,hu',_⟩:=s0.at_ i d0 hl0
 refine ⟨u,hu',gi z R σ H1 W1 ρ1 _ _ p.sr q λv2 H2 W2 c ρ2 F2 p2 q2=>?_⟩
 obtain ⟨d1,hl,q2⟩:=Ql q2
 obtain ⟨fp,s2⟩:=id p2.sr
 obtain ⟨u',hu2,ru⟩:=s2.at_ i d1 hl
 have:u'=u:=by rw [hu'] at hu2;cases hu2;rfl
 subst this
 have rv2:Rep X.K H2 d v1 []:=rv.keep p2.fr λa m=>nomatch m
 obtain ⟨nd,sw⟩:=s2.own i d1 hl ht
 have fin:∀(lad:Addr) (ob:HO) (d':D) (F':List Addr),lad∈fp i->imm ob=false->Rep X.K (upd H2 lad ob) d' u' F'->F'.Nodup->(∀a∈F',a∈fp i)->P.nx (ρ2.set i (some d'))->E.nx σ (upd H2 lad ob):=λlad ob d' F' hm him r' nd' sub hq=>by
  have hW:=sw lad hm
  exact l.nx R σ _ _ _ (s2.write hl ht hu2 hm Yr ⟨ob,Qg,him⟩ r' nd' λa ha=>.inl (sub a ha)) ((p.fr.trans p2.fr).write hW (s2.wd lad hW) Yr ⟨ob,Qg,him⟩ λa ha=>.inl (sw a (sub a ha))) hq
 have nilnot:∀a:Addr,a∉([]:List Addr):=λa h=>nomatch h
 generalize hF:fp i=F at *
 cases d1 with
 | lst ds =>
  obtain ⟨j,rfl,q2⟩:=U4 q2
  obtain ⟨a,xs,G,rfl,rfl,e,r⟩:=ru.iLst
  obtain ⟨n,hn,hq⟩:=Ql q2
  have rc:=p2.rep.iInt
  subst rc
  have hlt:=(X3 hn).2.1
  obtain ⟨dn,hdn⟩:∃dn,ds[n]? = some dn:=⟨ds[n],List.getElem?_eq_getElem hlt⟩
  obtain ⟨y,A,B,C,hy,hG,rB,rA,rC⟩:=r.split hdn
  obtain ⟨na,ndG⟩:=List.nodup_cons.mp nd
  have sub:=sub3 hG
  have nAC:a∉A++C:=λh=>na (sub.subset h)
  have hxl:n<xs.length:=by rw [r.length];exact hlt
  refine .inl ⟨a,xs,j,n,rfl,rfl,e,by rw [r.length];exact hn,?_⟩
  refine fin a _ _ (a::(A++C)) List.mem_cons_self rfl (.lst Qg ?_) (List.nodup_cons.mpr ⟨nAC,ndG.sublist sub⟩) (λb hb=>?_) hq
  ·rw [Vq hlt,Vq hxl]
   have:=(rA.upd (ob':=.lst (xs.take n++v1::xs.drop (n+1))) e rfl (λh=>nAC (List.mem_append.mpr (.inl h)))).append (.cons (rv2.upd e rfl (nilnot a)) (rC.upd e rfl λh=>nAC (List.mem_append.mpr (.inr h))))
   simpa using this
  ·rcases List.mem_cons.mp hb with rfl | hb
   ·exact List.mem_cons_self
   ·exact List.mem_cons_of_mem _ (sub.subset hb)
 | dik ds =>
  obtain ⟨key,⟨hz,hq⟩,hy⟩:=Qb1 (show onK c (λkey=>ds.length<sizeLine/\P.nx (ρ2.set i (some (.dik (putD ds key d))))) from q2)
  obtain ⟨a,kvs,G,rfl,rfl,e,r⟩:=ru.iDik
  obtain rfl:=hy p2.rep
  obtain ⟨na,ndG⟩:=List.nodup_cons.mp nd
  obtain ⟨G',rp,sub⟩:=(r.upd (ob':=.dK (putK kvs key v1)) e rfl na).put (k:=key) (rv2.upd e rfl (nilnot a))
  refine .inr ⟨a,_,rfl,DPut.k (k:=key) e (by rw [r.length];exact hz),?_⟩
  refine fin a _ _ (a::G') List.mem_cons_self rfl (.dik Qg rp) (List.nodup_cons.mpr ⟨λh=>na (sub.subset h),ndG.sublist sub⟩) (λb hb=>?_) hq
  rcases List.mem_cons.mp hb with rfl | hb
  ·exact List.mem_cons_self
  ·exact List.mem_cons_of_mem _ (sub.subset hb)
 | dit ds =>
  obtain ⟨l',rfl,hz,q2⟩:=Qe8 q2
  obtain ⟨a,kvs,G,rfl,rfl,e,r⟩:=ru.iDit
  obtain ⟨na,ndG⟩:=List.nodup_cons.mp nd
  obtain ⟨ks,hk,hq⟩:=Ql q2
  obtain ⟨b,ys,rfl,e2,r2⟩:=p2.rep.iTup
  have hx:=r2.keys hk
  subst hx
  obtain ⟨G',rp,sub⟩:=(r.upd (ob':=.dT (putK kvs ks v1)) e rfl na).put (k:=ks) (rv2.upd e rfl (nilnot a))
  refine .inr ⟨a,_,rfl,DPut.t (k:=ks) e e2 (by rw [r.length];exact hz),?_⟩
  refine fin a _ _ (a::G') List.mem_cons_self rfl (.dit Qg rp) (List.nodup_cons.mpr ⟨λh=>na (sub.subset h),ndG.sublist sub⟩) (λb hb=>?_) hq
  rcases List.mem_cons.mp hb with rfl | hb
  ·exact List.mem_cons_self
  ·exact List.mem_cons_of_mem _ (sub.subset hb)
 | _=>exact (show False from q2).elim
def wIf (wt:WT) (w u:WS):WS:=λP ρ=>wt ρ λb ρ'=>if b=true then w P ρ' else u P ρ'
theorem Qdp {sa sb:List Stmt} (hc:TV X T m c wt) (ha:SVs X T sa ws) (hb:SVs X T sb wu):SV X T (.If c sa sb pos) (wIf wt ws wu):=by
 obtain ⟨tc,pc,gc⟩:=hc
 obtain ⟨ta,pa,ga⟩:=ha
 obtain ⟨tb,pb,gb⟩:=hb
 refine ⟨_,Qn0 pc pa pb,λz R σ H W ρ P E s hw l=>gc z R σ H W ρ _ _ s hw λb H1 W1 ρ1 p q=>?_⟩
 cases b with
 | true=>exact ga z R σ H1 W1 ρ1 P E p.sr q (l.step p.fr)
 | false=>exact gb z R σ H1 W1 ρ1 P E p.sr q (l.step p.fr)
def Qd9 (wt:WT) (wb:WS):WS:=λP ρ=>∃I:Nat->Env->Prop,(∃n,I n ρ)/\∀n ρ,I n ρ->wt ρ λb ρ1=>if b=true then wb { P with nx:=λρ'=>∃n',n' < n/\I n' ρ',ct:=λρ'=>∃n',n' < n/\I n' ρ',bk:=P.nx } ρ1 else P.nx ρ1
theorem Qcr (hp:PassesOwn (model X.prog X.w) X.A X.env X.xe) (hc:TV X T m c wt) (hb:SVs X T body ws):SV X T (.While c body [] pos) (Qd9 wt ws):=by
 obtain ⟨tc,pc,gc⟩:=hc
 obtain ⟨tb,pb,gb⟩:=hb
 refine ⟨_,Qg4 hp pc pb,λz R σ H W ρ P E s hw l=>?_⟩
 obtain ⟨I,⟨n,h0⟩,hI⟩:=hw
 refine ⟨λn σ' H'=>∃R' W' ρ',SR X.K T z R' H' W' σ' ρ'/\FrW H W H' W'/\I n ρ',⟨n,R,W,ρ,s,FrW.refl H W,h0⟩,?_⟩
 rintro n σ1 H1 ⟨R1,W1,ρ1,s1,f1,i1⟩
 refine gc z R1 σ1 H1 W1 ρ1 _ _ s1 (hI n ρ1 i1) λb H2 W2 ρ2 p q=>?_
 cases b with
 | true =>
  refine ⟨λσ' H'=>∃n',n' < n/\∃R' W' ρ',SR X.K T z R' H' W' σ' ρ'/\FrW H W H' W'/\I n' ρ',λσ' H' ⟨n',h,r⟩=>⟨n',h,r⟩,?_⟩
  refine gb z R1 σ1 H2 W2 ρ2 _ _ p.sr q ⟨?_,?_,?_,?_,?_⟩
  ·exact λR' σ' H' W' ρ' s' f' ⟨n',h,i'⟩=>⟨n',h,R',W',ρ',s',(f1.trans p.fr).trans f',i'⟩
  ·exact λR' σ' H' W' ρ' s' f' h=>l.nx R' σ' H' W' ρ' s' ((f1.trans p.fr).trans f') h
  ·exact λR' σ' H' W' ρ' s' f' ⟨n',h,i'⟩=>⟨n',h,R',W',ρ',s',(f1.trans p.fr).trans f',i'⟩
  ·exact ((l.step f1).step p.fr).rt
  ·exact ((l.step f1).step p.fr).xc
 | false=>exact l.nx R1 σ1 H2 W2 ρ2 p.sr (f1.trans p.fr) q
def wFor (wl:WL) (wg:WG) (wb:WS):WS:=λP ρ=>wl ρ λds ρ1=>Qs ds=true/\∃I:Nat->Env->Prop,I 0 ρ1 /\
 (∀i d ρ,ds[i]? = some d->I i ρ->wg d ρ λρ'=>wb { P with nx:=I (i+1),ct:=I (i+1),bk:=P.nx } ρ')/\∀ρ,I ds.length ρ->P.nx ρ
theorem Qbr (W:Addr->Prop):wz true W=W:=by funext a;simp [wz]
theorem Qai {wl:WL} {wg:WG} (hp:PassesOwn (model X.prog X.w) X.A X.env X.xe) (hi:IV X T m true tg iter wl) (hg:GV X T tg wg) (hb:SVs X T body ws) (hc:X.calm=true:=by rfl)
  (hs:∀x,foldedSetIterable iter X.env x=pure x:=by intro _;rfl):SV X T (.For tg iter body [] pos) (wFor wl wg ws):=by
 obtain ⟨ti,pi,gi⟩:=hi
 obtain ⟨tt,pt,gt⟩:=hg
 obtain ⟨tb,pb,gb⟩:=hb
 refine ⟨_,Qlu hp hc pi pt pb hs,λz R σ H W ρ P E s hw l=>gi z R σ H W ρ _ _ s hw λJ H1 W1 ds ρ1 p jd q=>?_⟩
 rw [Qbr] at jd
 obtain ⟨hpu,I,h0,hI,hd⟩:=q
 refine ⟨λi n σ' H'=>n=ds.length-i/\i<=ds.length/\∃R' W' ρ',SR X.K T z R' H' W' σ' ρ'/\FrW H1 W1 H' W'/\I i ρ',⟨ds.length,by simp,Nat.zero_le _,R,W1,ρ1,p.sr,FrW.refl _ _,h0⟩,?_⟩
 rintro i n σ2 H2 ⟨rfl,hi,R2,W2,ρ2,s2,f2,i2⟩
 obtain ⟨j1,j2⟩:=jd i H2 W2 f2
 by_cases hlt:i<ds.length
 ·have hdi:ds[i]? = some ds[i]:=List.getElem?_eq_getElem hlt
  obtain ⟨hgo,hy⟩:=j2 _ hdi
  have hpd:(ds[i]).pure=true:=Qas.mp hpu _ (List.getElem_mem hlt)
  refine .inr ⟨hgo,λσ' H'=>i+1<=ds.length/\∃R' W' ρ',SR X.K T z R' H' W' σ' ρ'/\FrW H1 W1 H' W'/\I (i+1) ρ',λσ' H' ⟨h1,h2⟩=>⟨ds.length-(i+1),by omega,rfl,h1,h2⟩,λv H3 yl=>?_⟩
  obtain ⟨sm,F,rv,_⟩:=hy v H3 yl
  obtain ⟨-,rv⟩:=rv.pure hpd
  have f3:FrW H1 W1 H3 W2:=f2.trans (FrW.same W2 sm)
  refine gt z R2 σ2 H3 W2 ρ2 _ v _ _ (s2.same sm) rv hpd (hI i _ ρ2 hdi i2) λR4 W4 σ4 ρ4 s4 f4 q4=>?_
  refine gb z R4 σ4 H3 W4 ρ4 _ _ s4 q4 ⟨?_,?_,?_,?_,?_⟩
  ·exact λR' σ' H' W' ρ' s' f' h=>⟨hlt,R',W',ρ',s',(f3.trans f4).trans f',h⟩
  ·exact λR' σ' H' W' ρ' s' f' h=>l.nx R' σ' H' W' ρ' s' (((p.fr.trans f3).trans f4).trans f') h
  ·exact λR' σ' H' W' ρ' s' f' h=>⟨hlt,R',W',ρ',s',(f3.trans f4).trans f',h⟩
  ·exact (((l.step p.fr).step f3).step f4).rt
  ·exact (((l.step p.fr).step f3).step f4).xc
 ·have e:i=ds.length:=by omega
  subst e
  exact .inl ⟨j1 (Nat.le_refl _),l.nx R2 σ2 H2 W2 ρ2 s2 (p.fr.trans f2) (hd ρ2 i2)⟩
end
end PV
variable {y:PySem.Str} {wl:PV.WL} {pr:Bool} {we:PV.WE} {ww:PV.WS}
namespace PV
open PySem PySem.Spec L2
open PyProof.Rows (envOfC)
def TR:Tg:={ own:=λ_=>false,io:=[] }
def Any (H:Hp):Addr->Prop:=λa=>∃ob,H a=some ob/\imm ob=false
theorem SR.readonly {T:Tg} (hio:T.io=[]) (hlen:ρ.length=σ.length) (h:∀i d,look ρ i=some d->T.own i=false/\∃v F,σ[i]? = some (some v)/\Rep K H d v F) :
  SR K T z (Any H) H (λ_=>False) σ ρ:=by
 have ch:∀i,∃F,∀d,look ρ i=some d->∃v,σ[i]? = some (some v)/\Rep K H d v F:=λi=>by
  cases hl:look ρ i with
  | none=>exact ⟨[],λd e=>nomatch e⟩
  | some d =>
   obtain ⟨_,v,F,h1,h2⟩:=h i d hl
   exact ⟨F,λd' e=>by cases e;exact ⟨v,h1,h2⟩⟩
 refine ⟨λi=>Classical.choose (ch i),hlen,λa h=>h.elim,λi d hl=>Classical.choose_spec (ch i) d hl,λi d hl ht=>?_,λi d hl ht a ha=>?_,λa h=>h.elim,λa h=>h,λi j d e hl hl' ht=>?_,λi hi=>?_⟩
 ·rw [(h i d hl).1] at ht;cases ht
 ·obtain ⟨v,_,r⟩:=Classical.choose_spec (ch i) d hl
  exact r.dom a ha
 ·rw [(h i d hl).1] at ht;cases ht
 ·rw [hio] at hi;cases hi
theorem Y2:∀{ds:List D} {n i:Nat},look (ds.map some++List.replicate n none) i=ds[i]?
 | [],0,i=>by simp [look]
 | [],n+1,0=>by simp [look,List.replicate_succ]
 | [],n+1,i+1=>by
  have:=Y2 (ds:=[]) (n:=n) (i:=i)
  simpa [look,List.replicate_succ] using this
 | d::ds,n,0=>by simp [look]
 | d::ds,n,i+1=>by
  have:=Y2 (ds:=ds) (n:=n) (i:=i)
  simpa [look] using this
theorem Zj (h:vs[i]? = some v):(L2.start N vs)[i]? = some (some v):=by
 have hi:=(List.getElem?_eq_some_iff.mp h).1
 unfold L2.start
 rw [List.getElem?_append_left (by simpa using hi),List.getElem?_map,h]
 rfl
section
variable {w:World} {k:Nat} {T:Tg}
def env0 (N:List Str) (ds:List D):Env:=ds.map some++List.replicate (N.length-ds.length) none
theorem Qj8 (F:Fun K x qual st f fd) (S:FnScope N ps (Qb st)) (hio:T.io=[]) (hown:∀i,i<ps.length->T.own i=false) (hg:∀ds kk,g ds kk->ds.length=ps.length)
  (hb:∀(cdv:Value) (A:Around) (outer:List PySem.Env) (s:Shared) (H:Hp) (E:XK),Room k (A.deeper (envOfC qual (Qb st) s.heap.objs.size f cdv))->SVs (cxOf CX0 P w K mg base N qual (Qb st) f cdv A outer s H E).nox T (Qr st) ww)
  (hr:∀ds kk,g ds kk->ww { nx:=λ_=>kk .non,rt:=λd _=>kk d } (env0 N ds)):FnOk P w K mg base CX0 (k+1) f fd ps (spR K g):=by
 refine F.ok S (λvs H Q E h=>?_) (λcdv A outer s H vs Q E hroom h=>?_)
 ·obtain ⟨ds,Fp,kk,rep,hgk,_⟩:=h
  rw [rep.length];exact hg ds kk hgk
 ·obtain ⟨ds,Fp,kk,rep,hgk,q⟩:=h
  obtain ⟨ts,pts,gts⟩:=hb cdv A outer s H E hroom
  have hl:=rep.length
  have hds:=hg ds kk hgk
  refine ⟨ts,pts,gts (λ_=>.non) (Any H) (L2.start N vs) H (λ_=>False) (env0 N ds) _ _ (SR.readonly hio ?_ λi d hli=>?_) (hr ds kk hgk) ⟨?_,?_,?_,?_,λ_ _ _ _ _ _ _ _ hk=>hk.elim⟩⟩
  ·unfold env0 L2.start;simp [hl]
  ·unfold env0 at hli
   rw [Y2] at hli
   obtain ⟨v,B,h1,h2,_⟩:=rep.get hli
   exact ⟨hown i (by rw [← hds];exact (List.getElem?_eq_some_iff.mp hli).1),v,B,Zj h1,h2⟩
  ·intro R' σ' H' W' ρ' s' fr hk
   have sm:Same H H':=λb o e=>fr.keep b o e (λz=>z)
   exact q .non H' .non [] ⟨sm,.non,List.nodup_nil,λ_ m=>nomatch m⟩ hk
  ·exact λR' σ' H' W' ρ' s' fr hk=>hk.elim
  ·exact λR' σ' H' W' ρ' s' fr hk=>hk.elim
  ·intro R' v σ' H' W' ρ' d F' s' fr r nd nw hk
   have sm:Same H H':=λb o e=>fr.keep b o e (λz=>z)
   exact q v H' d F' ⟨sm,r,nd,λa ha=>(nw a ha).2.resolve_left id⟩ hk
theorem Qhq {p:Nat} {g:GI} (F:Fun K x qual st f fd) (S:FnScope N ps (Qb st)) (hio:T.io=[p]) (hown:T.own p=true) (hg:∀ds kk,g ds kk->ds.length=ps.length/\∃d0,ds[p]? = some d0/\Gg d0=true)
  (hb:∀(cdv:Value) (A:Around) (outer:List PySem.Env) (s:Shared) (H:Hp) (E:XK),Room k (A.deeper (envOfC qual (Qb st) s.heap.objs.size f cdv))->SVs (cxOf CX0 P w K mg base N qual (Qb st) f cdv A outer s H E).nox T (Qr st) ww)
  (hr:∀ds kk,g ds kk->ww { nx:=λρ=>oget (look ρ p) λd'=>Gg d'=true/\kk .non d',rt:=λd ρ=>oget (look ρ p) λd'=>Gg d'=true/\kk d d' } (env0 N ds)):FnOk P w K mg base CX0 (k+1) f fd ps (spI K p g):=by
 refine F.ok S (λvs H Q E h=>?_) (λcdv A outer s H vs Q E hroom h=>?_)
 ·obtain ⟨ds,a,kk,rep,hp,hgk,_⟩:=h
  rw [rep.length];exact (hg ds kk hgk).1
 ·obtain ⟨ds,a,kk,rep,hp,hgk,q⟩:=h
  obtain ⟨ts,pts,gts⟩:=hb cdv A outer s H E hroom
  have hl:=rep.length
  obtain ⟨hds,d0,hd0,hf0⟩:=hg ds kk hgk
  obtain ⟨v0,A',B,C,h1,h2,r0,rA,rC⟩:=rep.split hd0
  rw [hp] at h1;cases h1
  obtain ⟨a',e1,e2⟩:=r0.flat1 hf0
  cases e1
  subst e2
  have hA:A'=[]:=by
   cases A' with
   | nil=>rfl
   | cons y A'=>simp at h2
  subst hA
  have hC:C=[]:=by
   cases C with
   | nil=>rfl
   | cons y C=>simp at h2
  subst hC
  have oth:∀i d,i≠p->ds[i]? = some d->∃v,vs[i]? = some v/\Rep K H d v []:=λi d hne hd=>by
   rcases Nat.lt_or_gt_of_ne hne with h | h
   ·obtain ⟨v,B,h1,h2,h3⟩:=rA.get (i:=i) (by rw [List.getElem?_take_of_lt h];exact hd)
    rw [List.getElem?_take_of_lt h] at h1
    have:=List.sublist_nil.mp h3
    subst this
    exact ⟨v,h1,h2⟩
   ·obtain ⟨v,B,h1,h2,h3⟩:=rC.get (i:=i-(p+1)) (by rw [List.getElem?_drop,show p+1+(i-(p+1))=i by omega];exact hd)
    rw [List.getElem?_drop,show p+1+(i-(p+1))=i by omega] at h1
    have:=List.sublist_nil.mp h3
    subst this
    exact ⟨v,h1,h2⟩
  obtain ⟨oa,ea,ia⟩:=r0.dom a (List.mem_singleton.mpr rfl)
  have fin:∀R' v σ' H' W' ρ' d F',SR K T (λ_=>.ref a) R' H' W' σ' ρ'->FrW H (λb=>b=a) H' W'->Rep K H' d v F'->F'.Nodup->(∀b∈F',¬W' b/\(b=a\/H b=none))->(oget (look ρ' p) λd'=>Gg d'=true/\kk d d')->Q v H':=λR' v σ' H' W' ρ' d F' s' fr r nd nw hk=>by
   obtain ⟨d',hl',hf',hk⟩:=Ql hk
   obtain ⟨fp,s0⟩:=s'
   obtain ⟨u,hu,ru⟩:=s0.at_ p d' hl'
   have hfx:=s0.fix p (by rw [hio];exact List.mem_singleton.mpr rfl)
   rw [hu] at hfx
   cases hfx
   obtain ⟨a'',e1,e2⟩:=ru.flat1 hf'
   cases e1
   rw [e2] at ru
   have hWa:W' a:=(s0.own p d' hl' hown).2 a (by rw [e2];exact List.mem_singleton.mpr rfl)
   refine q v H' d d' F' ru r nd (λb hb=>?_) (λb o e hne=>fr.keep b o e hne) hk
   rcases (nw b hb).2 with h | h
   ·exact absurd hWa (by rw [← h];exact (nw b hb).1)
   ·exact h
  refine ⟨ts,pts,gts (λ_=>.ref a) (λb=>b≠a/\Any H b) (L2.start N vs) H (λb=>b=a) (env0 N ds) _ _ ⟨λi=>if i=p then [a] else [],?_,?_,?_,?_,?_,?_,?_,?_,?_⟩ (hr ds kk hgk) ⟨?_,?_,?_,?_,λ_ _ _ _ _ _ _ _ hk=>hk.elim⟩⟩
  ·unfold env0 L2.start;simp [hl]
  ·rintro b rfl;exact ⟨oa,ea,ia⟩
  ·intro i d hli
   unfold env0 at hli
   rw [Y2] at hli
   by_cases hip:i=p
   ·subst hip
    rw [hd0] at hli;cases hli
    exact ⟨.ref a,Zj hp,by rw [if_pos rfl];exact r0⟩
   ·obtain ⟨v,h1,h2⟩:=oth i d hip hli
    exact ⟨v,Zj h1,by rw [if_neg hip];exact h2⟩
  ·intro i d _ _
   by_cases hip:i=p
   ·rw [if_pos hip];exact ⟨by simp,λb hb=>List.mem_singleton.mp hb⟩
   ·rw [if_neg hip];exact ⟨by simp,λb hb=>nomatch hb⟩
  ·intro i d _ ht b hb
   have hip:i≠p:=λz=>by subst z;rw [hown] at ht;cases ht
   rw [if_neg hip] at hb;cases hb
  ·rintro b rfl ⟨h,_⟩;exact h rfl
  ·exact λb h=>h.2
  ·intro i j d e _ _ _ _ hne b hb hb'
   by_cases hip:i=p
   ·have hjp:j≠p:=λz=>hne (hip.trans z.symm)
    rw [if_neg hjp] at hb';cases hb'
   ·rw [if_neg hip] at hb;cases hb
  ·intro i hi
   rw [hio] at hi
   rw [List.mem_singleton.mp hi]
   exact Zj hp
  ·exact λR' σ' H' W' ρ' s' fr hk=>fin R' .non σ' H' W' ρ' .non [] s' fr .non List.nodup_nil (λb hb=>nomatch hb) hk
  ·exact λR' σ' H' W' ρ' s' fr hk=>hk.elim
  ·exact λR' σ' H' W' ρ' s' fr hk=>hk.elim
  ·exact λR' v σ' H' W' ρ' d F' s' fr r nd nw hk=>fin R' v σ' H' W' ρ' d F' s' fr r nd nw hk
end
section
variable {T:Tg}
def CV (X:Cx) (ifs:List Expr) (w:WT):Prop :=
 ∃tt,PIfs X ifs tt/\∀(z:Nat->V) (R:Addr->Prop) (σ:St) (H:Hp) (W:Addr->Prop) (ρ:Env) (Q:Bool->Env->Prop) (Q':Bool->Hp->Prop),SR X.K TR z R H W σ ρ->w ρ Q ->
  (∀b H' W' ρ',PostT X.K TR z R false H W σ ρ H' W' ρ'->Q b ρ'->Q' b H')->tt σ H Q'
def wAll:WT:=λρ Q=>Q true ρ
theorem Xi:CV X [] wAll:=⟨_,Qcx,λz R σ H W ρ Q Q' s hw k=>k true H W ρ ⟨s,FrW.refl H W,λ_=>⟨Same.refl H,rfl,rfl⟩⟩ hw⟩
theorem Qbd (h:TV X TR false c wt):CV X [c] wt:=by
 obtain ⟨tt,pt,g⟩:=h
 exact ⟨_,Qg5 pt,g⟩
def blkE (ρ:Env) (d:D) (ix:List Nat):Env:=some d::ix.map (look ρ)
theorem X0 {f:Nat->Option D}:∀{ix:List Nat} {j:Nat},look (ix.map f) j=ix[j]?.bind f
 | [],_=>by simp [look]
 | i::r,0=>by simp [look]
 | i::r,j+1=>by simpa [look] using X0 (f:=f) (ix:=r) (j:=j)
def Vb (wl:WL) (wt:WT) (we:WE) (ix:List Nat):WE:=λρ Q=>wl ρ λds ρ1=>∃I:Nat->List D->Prop,I 0 [] /\
 (∀i d ys,ds[i]? = some d->I i ys->ys.length<sizeLine/\wt (blkE ρ1 d ix) λb _=>if b=true then we (blkE ρ1 d ix) (λy _=>I (i+1) (ys++[y])) else I (i+1) ys) /\
 ∀ys,I ds.length ys->ys.length<=sizeLine/\Q (.lst ys) ρ1
def Qbp (X:Cx) (T:Tg) (m:Bool) (elt iter:Expr) (x:Str) (px:Pos) (scope:Scope) (ifs:List Expr) (ix:List Nat) (w:WE):Prop :=
 ∃(wi:TI) (tt:TT) (te:TE),PI X (.Name x px) iter wi/\(∀cl C s₀ H₀ fp,PIfs (Jw X scope cl C (bN X.N x ix) s₀ H₀ fp) ifs tt)/\(∀cl C s₀ H₀ fp,PE (Jw X scope cl C (bN X.N x ix) s₀ H₀ fp) elt te) /\
  ∀(z:Nat->V) (R:Addr->Prop) (σ:St) (H:Hp) (W:Addr->Prop) (ρ:Env) (Q:D->Env->Prop) (Q':VK),SR X.K T z R H W σ ρ->w ρ Q ->
   (∀v H' W' d ρ' F,Post X.K T z R m true H W σ ρ H' W' ρ' d v F->Q d ρ'->Q' v H')->Qiw wi tt te ix σ H Q'
theorem Y0 (ix:List Nat) (hi:IV X T m pr (.Name x px) iter wl)
  (ht:∀cl C s₀ H₀ fp,CV (Jw X scope cl C (bN X.N x ix) s₀ H₀ fp) ifs wt) (he:∀cl C s₀ H₀ fp,EV (Jw X scope cl C (bN X.N x ix) s₀ H₀ fp) TR false true elt we) :
  Qbp X T m elt iter x px scope ifs ix (Vb wl wt we ix):=by
 obtain ⟨wi,pi,gi⟩:=hi
 refine ⟨wi,λσ H Q=>∀cl C s₀ H₀ fp,Classical.choose (ht cl C s₀ H₀ fp) σ H Q,λσ H Q=>∀cl C s₀ H₀ fp,Classical.choose (he cl C s₀ H₀ fp) σ H Q,pi,
  λcl C s₀ H₀ fp pins s σ H Q I h=>(Classical.choose_spec (ht cl C s₀ H₀ fp)).1 pins s σ H Q I (h cl C s₀ H₀ fp),λcl C s₀ H₀ fp pins s σ H Q I h=>(Classical.choose_spec (he cl C s₀ H₀ fp)).1 pins s σ H Q I (h cl C s₀ H₀ fp),?_⟩
 intro z R σ H W ρ Q Q' s hw k
 refine gi z R σ H W ρ _ _ s hw λJ H1 W1 ds ρ1 p jd q=>?_
 obtain ⟨I,h0,hI,hd⟩:=q
 refine ⟨λi n ys H2=>n=ds.length-i/\i<=ds.length/\Same H1 H2/\∃es F,Reps X.K H2 es ys F/\F.Nodup/\(∀a∈F,H1 a=none)/\I i es,ds.length,⟨by simp,Nat.zero_le _,Same.refl _,[],[],.nil,List.nodup_nil,(λa m=>(nomatch m)),h0⟩,?_⟩
 rintro i n ys H2 ⟨rfl,hi,sm,es,F,re,nd,nw,i2⟩
 obtain ⟨j1,j2⟩:=jd i H2 (wz pr W1) (FrW.same _ sm)
 by_cases hlt:i<ds.length
 ·have hdi:ds[i]? = some ds[i]:=List.getElem?_eq_getElem hlt
  obtain ⟨hgo,hy⟩:=j2 _ hdi
  obtain ⟨hz,q1⟩:=hI i _ es hdi i2
  refine .inr ⟨hgo,by rw [re.length];exact hz,λv H3 yl=>?_⟩
  obtain ⟨sm3,Fv,rv,_⟩:=hy v H3 yl
  have srB:∀z',SR X.K TR z' (Any H3) H3 (λ_=>False) (bS σ (some v) ix) (blkE ρ1 ds[i] ix):=λz'=>by
   refine SR.readonly rfl (by simp [bS,blkE]) λj d hj=>⟨rfl,?_⟩
   cases j with
   | zero =>
    simp only [blkE,look,Option.some.injEq] at hj
    subst hj
    exact ⟨v,Fv,rfl,rv⟩
   | succ j =>
    have hj':look (ix.map (look ρ1)) j=some d:=hj
    rw [X0] at hj'
    cases hx:ix[j]? with
    | none=>rw [hx] at hj';cases hj'
    | some q =>
     rw [hx] at hj'
     obtain ⟨fp,s1⟩:=(p.sr.same sm).same sm3
     obtain ⟨u,hu,ru⟩:=s1.at_ q d hj'
     refine ⟨u,fp q,?_,ru⟩
     show (ix.map λi=>(σ[i]?).getD none)[j]? = some (some u)
     rw [List.getElem?_map,hx]
     simp [hu]
  intro cl C s₀ H₀ fp
  refine (Classical.choose_spec (ht cl C s₀ H₀ fp)).2 (λ_=>.non) (Any H3) (bS σ (some v) ix) H3 (λ_=>False) (blkE ρ1 ds[i] ix) _ _ (srB _) q1 λbb H4 W4 ρ4 p4 q4=>?_
  obtain ⟨sm4,hW4,hρ4⟩:=p4.calm rfl
  have re4:=((re.same sm3).same sm4)
  cases bb with
  | false=>exact ⟨ds.length-(i+1),by omega,rfl,hlt,(sm.trans sm3).trans sm4,es,F,re4,nd,nw,q4⟩
  | true =>
   show if true=true then _ else _
   rw [if_pos rfl]
   intro cl C s₀ H₀ fp
   refine (Classical.choose_spec (he cl C s₀ H₀ fp)).2 (λ_=>.non) (Any H3) (bS σ (some v) ix) H4 W4 (blkE ρ1 ds[i] ix) _ _ (hρ4 ▸ p4.sr) (by simpa using q4) λu H5 W5 y ρ5 Fy p5 q5=>?_
   obtain ⟨sm5,_,_⟩:=p5.calm rfl
   obtain ⟨ny,ky⟩:=p5.own rfl
   have sm15:Same H1 H5:=((sm.trans sm3).trans sm4).trans sm5
   refine ⟨ds.length-(i+1),by omega,rfl,hlt,sm15,es++[y],F++Fy,(re4.same sm5).snoc p5.rep,Vt nd ny λa ha hf=>?_,λa ha=>?_,q5⟩
   ·obtain ⟨ob,e1,_⟩:=re4.dom a hf
    rw [(ky a ha).1] at e1;cases e1
   ·rcases List.mem_append.mp ha with ha | ha
    ·exact nw a ha
    ·exact ((sm.trans sm3).trans sm4).free (ky a ha).1
 ·have e:i=ds.length:=by omega
  subst e
  obtain ⟨hz,q1⟩:=hd es i2
  refine .inl ⟨j1 (Nat.le_refl _),by rw [re.length];exact hz,λl hl=>?_⟩
  have hl1:H1 l=none:=sm.free hl
  refine k _ _ W1 (.lst es) ρ1 (l::F) ⟨(p.sr.same sm).same (Qh hl),(p.fr.trans (FrW.same W1 sm)).trans (FrW.same W1 (Qh hl)),λh=>⟨((p.calm h).1.trans sm).trans (Qh hl),(p.calm h).2⟩,.lst Qg (re.same (Qh hl)),λ_=>⟨List.nodup_cons.mpr ⟨λh=>?_,nd⟩,λb hb=>?_⟩⟩ q1
  ·obtain ⟨ob,e1,_⟩:=re.dom l h
   rw [hl] at e1;cases e1
  ·rcases List.mem_cons.mp hb with rfl | hb
   ·exact ⟨p.fr.dom _ hl1,p.sr.nw hl1⟩
   ·exact ⟨p.fr.dom _ (nw b hb),p.sr.nw (nw b hb)⟩
theorem Qkb (h:Qbp X T m elt iter x px scope ifs ix w) (B:BlkScope X.env scope x)
  (hix:∀i∈ix,∃y,X.N[i]? = some y/\scope.names.lookup y=some .free) (hN:(bN X.N x ix).Nodup) (hc:X.calm=true:=by rfl)
  (hs:∀x,foldedSetIterable iter X.env x=pure x:=by intro _;rfl):EV X T m true (.ListComp elt [⟨.Name x px,iter,ifs,0⟩] scope pos) w:=by
 obtain ⟨wi,tt,te,h1,h2,h3,h4⟩:=h
 exact ⟨_,Qjp ix hc B hix hN h1 h2 h3 hs,h4⟩
theorem Qiy (h:Qbp X T m elt iter x px scope ifs ix w) (B:BlkScope X.env scope x) (hNd:X.N.Nodup)
  (hix:∀i∈ix,∃y,X.N[i]? = some y/\scope.names.lookup y=some .free) (hN:(bN X.N x ix).Nodup) (hj:X.N[j]? = some y:=by rfl) (hy:Loc X.env.scope y:=by first | exact Or.inl rfl | exact Or.inr rfl) (hio:j∉T.io:=by decide)
  (hsw:swapsWith (.ListComp elt [⟨.Name x px,iter,ifs,0⟩] scope pos) (some (.Name y py)) spos.line X.env=pure true:=by rfl)
  (hf:X.fn y=true\/X.env.scope.names.lookup y=some .local:=by first | exact .inl rfl | exact .inr rfl | assumption) (hc:X.calm=true:=by rfl)
  (hs:∀x,foldedSetIterable iter X.env x=pure x:=by intro _;rfl):SV X T (.Assign [.Name y py] (.ListComp elt [⟨.Name x px,iter,ifs,0⟩] scope pos) spos) (wSet j w):=by
 obtain ⟨wi,tt,te,h1,h2,h3,h4⟩:=h
 exact Qix ⟨_,Qjk ix hc B hNd hj hy hsw hix hN h1 h2 h3 hf hs,h4⟩ hio
end
end PV
namespace PV
open PySem PySem.Spec L2
abbrev WO:=Env->(Option Int->Env->Prop)->Prop
end PV
variable {xs:List PV.D} {s kt:Nat} {ws:PV.WS} {pt:PySem.Pos} {me:Bool}
namespace PV
open PySem PySem.Spec L2
section
variable {T:Tg}
def OV (X:Cx) (T:Tg) (m:Bool) (e:Option Expr) (w:WO):Prop :=
 ∃t,PO X e t/\∀(z:Nat->V) (R:Addr->Prop) (σ:St) (H:Hp) (W:Addr->Prop) (ρ:Env) (Q:Option Int->Env->Prop) (Q':Option Int->Hp->Prop),SR X.K T z R H W σ ρ->w ρ Q ->
  (∀b H' W' ρ',PostT X.K T z R m H W σ ρ H' W' ρ'->Q b ρ'->Q' b H')->t σ H Q'
def Uy:WO:=λρ Q=>Q none ρ
def Ul (w:WE):WO:=λρ Q=>w ρ λd ρ'=>match d with
 | .int i=>Q (some i) ρ'
 | _=>False
theorem Xu:OV X T false none Uy:=⟨_,Qjm,λz R σ H W ρ Q Q' s hw k=>k none H W ρ ⟨s,FrW.refl H W,λ_=>⟨Same.refl H,rfl,rfl⟩⟩ hw⟩
theorem Zn (h:EV X T m o e w):OV X T m (some e) (Ul w):=by
 obtain ⟨t,pt,g⟩:=h
 refine ⟨_,Qjl pt,λz R σ H W ρ Q Q' s hw k=>g z R σ H W ρ _ _ s hw λv H1 W1 d ρ1 F p q=>?_⟩
 cases d with
 | int i=>exact ⟨i,Qes p.rep,k (some i) H1 W1 ρ1 ⟨p.sr,p.fr,p.calm⟩ q⟩
 | _=>exact q.elim
def cutD (xs:List D) (lo hi:Option Int):List D:=(xs.drop (HT.sIx xs.length 0 lo)).take (HT.sIx xs.length xs.length hi-HT.sIx xs.length 0 lo)
theorem Reps.cut {ds:List D} {xs:List V} (r:Reps K H ds xs []):Reps K H (cutD ds lo hi) (cutV xs lo hi) []:=by
 unfold cutD cutV
 rw [r.length]
 obtain ⟨G,r1,s1⟩:=r.drop (HT.sIx ds.length 0 lo)
 obtain ⟨G',r2,s2⟩:=r1.take (HT.sIx ds.length ds.length hi-HT.sIx ds.length 0 lo)
 have:=List.sublist_nil.mp s1
 subst this
 have:=List.sublist_nil.mp s2
 subst this
 exact r2
theorem Qk6:SlR X (λx lo hi H Q=>rSlL X.K x lo hi H Q\/rSlT X.K x lo hi H Q):=SlR.or Qi2 Qk5
def Qbc:GA
 | [.int j],k=>0<=j/\j<=1000/\k (.lst (rngD 0 j.toNat))
 | _,_=>False
theorem Zr {p3 p4 pos2:Pos} (hm:X.mg "range" = none) (hm2:X.mg "list" = none) (ha:AV X T m o [a] wr) (hg:Gl X "range":=by rfl) (hg2:Gl X "list":=by rfl) (hc:X.calm=true:=by rfl) (hs:starEach [a] X.env=[(false,eval a X.env)]:=by rfl)
  (hs2:starEach [.Call (.Name "range" p4) [a] [] pos2] X.env=(false,eval (.Call (.Name "range" p4) [a] [] pos2) X.env)::starEach [] X.env:=by rfl) :
  EV X T m true (.Call (.Name "list" p3) [.Call (.Name "range" p4) [a] [] pos2] [] pos) (Qk Qbc wr):=by
 obtain ⟨ta,pa,ga⟩:=ha
 refine ⟨_,Qau (X8 hc) hg2 hm2 (by rfl) (Vf (Qe0 hg hm pa hs) Qav hs2),λz R σ H W ρ Q Q' s hw k=>?_⟩
 refine ga z R σ H W ρ _ _ s hw λvs H1 W1 ds ρ1 F p q=>?_
 obtain ⟨j,rfl⟩:∃j,ds=[D.int j]:=by
  clear p
  cases ds with
  | nil=>exact (show False from q).elim
  | cons d0 r0 =>
   cases r0 with
   | nil =>
    cases d0 with
    | int j=>exact ⟨j,rfl⟩
    | _=>exact (show False from q).elim
   | cons _ _=>cases d0 <;> exact (show False from q).elim
 obtain ⟨v,rfl,rd⟩:=p.rep.at1
 cases rd
 refine ⟨j,rfl,λr hr=>⟨r,j,rfl,Qg,q.1,q.2.1,λl hl=>?_⟩⟩
 have s12:Same H1 (upd (upd H1 r (.rng 0 j)) l (.lst ((List.range j.toNat).map λi=>.int (i:Nat)))):=(Qh hr).trans (Qh hl)
 refine k _ _ W1 (.lst (rngD 0 j.toNat)) ρ1 [l] (Post.fin p.sr p.fr p.calm s12 (.lst Qg ?_) (by simp) λb mb=>by rw [List.mem_singleton.mp mb];exact (Qh hr).free hl) q.2.2
 have e1:rngD 0 j.toNat=((List.range j.toNat).map λ(i:Nat)=>(i:Int)).map D.int:=by simp [rngD]
 have e2:((List.range j.toNat).map λ(i:Nat)=>V.int (i:Nat))=((List.range j.toNat).map λ(i:Nat)=>(i:Int)).map V.int:=by simp
 rw [e1,e2]
 exact Reps.ints _
def Qnd:D->D->D->(D->Prop)->Prop
 | .dik kvs,.int i,d,k=>k ((valD kvs (.inl i)).getD d)
 | .dik kvs,.str i,d,k=>k ((valD kvs (.inr i)).getD d)
 | .dit kvs,.tup l,d,k=>oget (Zo l) λks=>k ((valD kvs ks).getD d)
 | _,_,_,_=>False
theorem RepK.get {K:PySem.W.Frag} {H:Hp}:∀{ds:List (Key × D)} {xs:List (Key × V)} {F:List Addr} {i:Nat} {k:Key} {v:V},RepK K H ds xs F->xs[i]? = some (k,v)->∃d B,ds[i]? = some (k,d)/\Rep K H d v B/\B.Sublist F
 | [],_,_,_,_,_,r,h=>by cases r;simp at h
 | d::ds,_,_,i,_,_,r,h=>by
  cases r with
  | @cons j d v _ vs F G p r =>
   cases i with
   | zero =>
    simp at h
    obtain ⟨rfl,rfl⟩:=h
    exact ⟨d,F,rfl,p,List.sublist_append_left _ _⟩
   | succ i =>
    obtain ⟨d',B,h1,h2,h3⟩:=RepK.get r (i:=i) (by simpa using h)
    exact ⟨d',B,by simpa using h1,h2,h3.trans (List.sublist_append_right _ _)⟩
end
section
variable {κ:Type} [DecidableEq κ]
theorem Qjf {j k:κ} {y:D} {r:List (κ × D)} (h:¬j=k):putD ((j,d)::r) k y=(j,d)::putD r k y:=by
 unfold putD
 by_cases q:(r.any λkv=>decide (kv.1=k))=true
 ·rw [if_pos (by rw [List.any_cons,q];simp),if_pos q,List.map_cons,if_neg h]
 ·rw [if_neg (by rw [List.any_cons];simp only [h,decide_false,Bool.false_or];exact q),if_neg q];rfl
theorem Qc5 {k:κ} {y:D}:∀{r:List (κ × D)},k∉r.map (·.1)->(r.map λkv=>if kv.1=k then (kv.1,y) else kv)=r
 | [],_=>rfl
 | p::r,h=>by
  simp only [List.map_cons,List.mem_cons,not_or] at h
  rw [List.map_cons,if_neg (λz=>h.1 z.symm),Qc5 h.2]
theorem Qjg {k:κ} {y:D} {r:List (κ × D)} (h:k∉r.map (·.1)):putD ((k,d)::r) k y=(k,y)::r:=by
 unfold putD
 rw [if_pos (by rw [List.any_cons];simp),List.map_cons,if_pos rfl,Qc5 h]
end
theorem Qbi:bootBuiltins "sorted" = some (.builtin "sorted"):=by decide +kernel
theorem J8:bootBuiltins "isinstance" = some (.builtin "isinstance"):=by decide +kernel
theorem Qgl:bootBuiltins "min" = some (.builtin "min"):=by decide +kernel
theorem V1:bootBuiltins "len" = some (.builtin "len"):=by decide +kernel
theorem Qiq:bootBuiltins "int" = some (.type "int"):=by decide +kernel
theorem Qkr:bootBuiltins "bool" = some (.type "bool"):=by decide +kernel
theorem X9:bootBuiltins "list" = some (.type "list"):=by decide +kernel
theorem Z3:bootBuiltins "tuple" = some (.type "tuple"):=by decide +kernel
def Yf (w:WE):WE:=λρ Q=>w ρ λd ρ'=>d.pure=true/\Q d ρ'
def Cal (P:Program) (w:World) (K:PySem.W.Frag) (mg:Str->Option Value) (base:Heap) (x:Str) (k:Nat) (ps:List Str) (sp:Sp):Prop :=
 ∃f fd,FnOk P w K mg base CX0 k f fd ps sp/\mg x=some (.ref f)/\PySem.W.keepIn K (.ref f)=true/\Qbq K fd ps []
section
variable {T:Tg} {k:Nat}
theorem Yg (h:EV X T m o e w):EV X T m true e (Yf w):=h.lift
theorem Vy (C:Cal X.prog X.w X.K X.mg X.base x k ps (spR X.K g)) (hr:Room k X.A) (ha:AV X T m o (e::es) wr) (hg:Gl X x:=by rfl)
  (hdb:(x == ("__debug__" : Str))=false:=by decide) (he:starEach (e::es) X.env=(false,eval e X.env)::starEach es X.env:=by rfl) (hpl:(backTo pos (starEach es X.env)).any (·.1)=false:=by rfl) :
  EV X T m true (.Call (.Name x p) (e::es) [] pos) (Qk g wr):=by
 obtain ⟨f,fd,F,h1,h2,h3⟩:=C
 exact Qkc F hr h1 h2 h3 ha hg hdb he hpl
theorem Q3 {q:Nat} {g:GI} {wi:WI} (C:Cal X.prog X.w X.K X.mg X.base x k ps (spI X.K q g)) (hr:Room k X.A) (ha:AI X T m i q (e::es) wi) (ht:T.own i=true:=by rfl) (hg:Gl X x:=by rfl)
  (hdb:(x == ("__debug__" : Str))=false:=by decide) (he:starEach (e::es) X.env=(false,eval e X.env)::starEach es X.env:=by rfl) (hpl:(backTo pos (starEach es X.env)).any (·.1)=false:=by rfl) :
  EV X T true true (.Call (.Name x p) (e::es) [] pos) (Q0 i g wi):=by
 obtain ⟨f,fd,F,h1,h2,h3⟩:=C
 exact Qhu F hr h1 h2 h3 ha ht hg hdb he hpl
def Qh2 (sc scope:Scope) (N:List Str) (x:Str) (ix:List Nat):Bool :=
 (scope.kind == .function) && scope.names.all (λy=>y.2 != .cell) && scope.names.all (λy=>y.2 != .local || scope.names.lookup y.1 == some .local) && (scope.names.lookup x == some .local) &&
  scope.names.all (λy=>y.2 != .free || (sc.names.lookup y.1 == some .cell || sc.names.lookup y.1 == some .free)) &&
  ix.all (λi=>match N[i]? with | some y=>scope.names.lookup y == some .free | none=>false) && decide (bN N x ix).Nodup
structure CompB (X:Cx) (scope:Scope) (x:Str) (ix:List Nat):Prop where
 B:BlkScope X.env scope x
 hix:∀i∈ix,∃y,X.N[i]? = some y/\scope.names.lookup y=some .free
 hN:(bN X.N x ix).Nodup
theorem Jv (sc:Scope) (N:List Str) (h:Qh2 sc scope N x ix=true) (h1:X.env.scope=sc:=by rfl) (h2:X.N=N:=by rfl):CompB X scope x ix:=by
 subst h1 h2
 simp only [Qh2,Bool.and_eq_true,List.all_eq_true,Bool.or_eq_true,decide_eq_true_eq,beq_iff_eq,bne_iff_ne] at h
 obtain ⟨⟨⟨⟨⟨⟨a1,a2⟩,a3⟩,a4⟩,a5⟩,a6⟩,a7⟩:=h
 refine ⟨⟨a1,a2,λy hy e=>(a3 y hy).resolve_left (λz=>z e),a4,λy hy e=>(a5 y hy).resolve_left (λz=>z e)⟩,λi hi=>?_,a7⟩
 have:=a6 i hi
 cases q:X.N[i]? with
 | none=>rw [q] at this;cases this
 | some y =>
  rw [q] at this
  exact ⟨y,rfl,by simpa using this⟩
theorem Z0 (h:Qbp X T m elt iter x px scope ifs ix w) (B:CompB X scope x ix) (hc:X.calm=true:=by rfl)
  (hs:∀x,foldedSetIterable iter X.env x=pure x:=by intro _;rfl):EV X T m true (.ListComp elt [⟨.Name x px,iter,ifs,0⟩] scope pos) w:=Qkb h B.B B.hix B.hN hc hs
theorem Ur (h:Qbp X T m elt iter x px scope ifs ix w) (B:CompB X scope x ix) (hNd:X.N.Nodup)
  (hj:X.N[j]? = some y:=by rfl) (hy:Loc X.env.scope y:=by first | exact Or.inl rfl | exact Or.inr rfl) (hio:j∉T.io:=by decide)
  (hsw:swapsWith (.ListComp elt [⟨.Name x px,iter,ifs,0⟩] scope pos) (some (.Name y py)) spos.line X.env=pure true:=by rfl)
  (hf:X.fn y=true\/X.env.scope.names.lookup y=some .local:=by first | exact .inl rfl | exact .inr rfl | assumption) (hc:X.calm=true:=by rfl)
  (hs:∀x,foldedSetIterable iter X.env x=pure x:=by intro _;rfl):SV X T (.Assign [.Name y py] (.ListComp elt [⟨.Name x px,iter,ifs,0⟩] scope pos) spos) (wSet j w):=Qiy h B.B hNd B.hix B.hN hj hy hio hsw hf hc hs
end
section
variable {T:Tg}
def Qed (wd wk wx:WE):WE:=λρ Q=>wd ρ λd ρ1=>noDct d=false/\wk ρ1 λk ρ2=>wx ρ2 λx ρ3=>x.pure=true/\Qnd d k x λr=>r.pure=true/\Q r ρ3
where noDct:D->Bool
 | .dik _=>false
 | .dit _=>false
 | _=>true
theorem Rep.isD (r:Rep K H d v F) (h:Qed.noDct d=false):∃a,v=.ref a/\IsD H a:=by
 cases r with
 | dik e _=>exact ⟨_,rfl,.inl ⟨_,.of e⟩⟩
 | dit e _=>exact ⟨_,rfl,.inr ⟨_,.of e⟩⟩
 | _=>cases h
theorem Qka {oe ek ex:Expr} {wd wk wx:WE} (hu:X.A.units+1<cLine) (hd:EV X T false o1 oe wd) (hk:EV X T false o2 ek wk) (hx:EV X T false o ex wx)
  (m:M2 X oe "get" apos ek ex cpos:=by exact ⟨rfl,rfl,rfl,rfl⟩):EV X T false true (.Call (.Attribute oe "get" apos) [ek,ex] [] cpos) (Qed wd wk wx):=by
 obtain ⟨td,pd,gd⟩:=hd
 obtain ⟨tk,pk,gk⟩:=hk
 obtain ⟨tx,px,gx⟩:=hx
 refine ⟨_,Qg9 hu pd pk px m,λz R σ H W ρ Q Q' s hw k=>?_⟩
 refine gd z R σ H W ρ _ _ s hw λv H1 W1 d ρ1 F p ⟨hn,q⟩=>?_
 obtain ⟨sm1,rfl,rfl⟩:=p.calm rfl
 obtain ⟨ad,rfl,isd⟩:=p.rep.isD hn
 refine ⟨ad,rfl,isd,gk z R σ H1 W1 ρ1 _ _ p.sr q λvk H2 W2 kd ρ2 F2 p2 q2=>?_⟩
 obtain ⟨sm2,rfl,rfl⟩:=p2.calm rfl
 refine gx z R σ H2 W2 ρ2 _ _ p2.sr q2 λvx H3 W3 xd ρ3 F3 p3 q3=>?_
 obtain ⟨sm3,rfl,rfl⟩:=p3.calm rfl
 obtain ⟨hxp,q⟩:=q3
 obtain ⟨-,rx⟩:=p3.rep.pure hxp
 have rd:=(p.rep.same sm2).same sm3
 have rk:=p2.rep.same sm3
 have fin:∀(o':Option V) (od:Option D),((od=none/\o'=none)\/∃d v B,od=some d/\o'=some v/\Rep X.K H3 d v B)->((od.getD xd).pure=true/\Q (od.getD xd) ρ3)->Q' (o'.getD vx) H3:=λo' od hh ⟨hp,hq⟩=>by
  have sm:Same H H3:=(sm1.trans sm2).trans sm3
  rcases hh with ⟨rfl,rfl⟩ | ⟨dd,v,B,rfl,rfl,r⟩
  ·exact k _ H3 W3 _ ρ3 [] (Post.flat p3.sr (FrW.same W3 sm) (λ_=>⟨sm,rfl,rfl⟩) rx) hq
  ·obtain ⟨-,r⟩:=r.pure hp
   exact k _ H3 W3 _ ρ3 [] (Post.flat p3.sr (FrW.same W3 sm) (λ_=>⟨sm,rfl,rfl⟩) r) hq
 cases rd with
 | @dik a kvs ds G e r =>
  cases kd with
  | int i =>
   have:=Qes rk;subst this
   refine ⟨valV kvs (.inl i),DGet.k (k:=.inl i) e,fin _ (valD ds (.inl i)) ?_ q⟩
   rcases r.val (.inl i) with h | ⟨d,v,B,h1,h2,h3,_⟩
   ·exact .inl h
   ·exact .inr ⟨d,v,B,h1,h2,h3⟩
  | str i =>
   have:vk=.str i:=by cases rk;rfl
   subst this
   refine ⟨valV kvs (.inr i),DGet.k (k:=.inr i) e,fin _ (valD ds (.inr i)) ?_ q⟩
   rcases r.val (.inr i) with h | ⟨d,v,B,h1,h2,h3,_⟩
   ·exact .inl h
   ·exact .inr ⟨d,v,B,h1,h2,h3⟩
  | _=>exact (show False from q).elim
 | @dit a kvs ds G e r =>
  cases kd with
  | tup l =>
   obtain ⟨ks,hks,q⟩:=Ql q
   cases rk with
   | @tup b xs _ _ eb rb =>
    have hx:=rb.keys hks
    subst hx
    refine ⟨valV kvs ks,DGet.t (k:=ks) e eb,fin _ (valD ds ks) ?_ q⟩
    rcases r.val ks with h | ⟨d,v,B,h1,h2,h3,_⟩
    ·exact .inl h
    ·exact .inr ⟨d,v,B,h1,h2,h3⟩
  | _=>exact (show False from q).elim
 | _=>cases hn
def kD:Key->D
 | .inl i=>.int i
 | .inr x=>.str x
theorem Qk8 (k:Key):Rep K H (kD k) (kV k) []:=by
 cases k with
 | inl i=>exact .int i
 | inr x=>exact .str x
def Qb7 (kvs:List (Key × D)):List D:=kvs.map λkv=>kD kv.1
def Ya:G2
 | .int i,.int j,k=>k (.int (i+j))
 | .str x,.str y,k=>x.length+y.length<=sizeLine/\k (.str (x++y))
 | .tup xs,.tup ys,k=>Qs xs=true/\Qs ys=true/\xs.length+ys.length<=sizeLine/\k (.tup (xs++ys))
 | .lst xs,.lst ys,k=>Qs xs=true/\Qs ys=true/\xs.length+ys.length<=sizeLine/\k (.lst (xs++ys))
 | _,_,_=>False
theorem Qh8 {a b:D} (g:Ya a b k):(∃i j,a=.int i/\b=.int j)\/(∃i j,a=.str i/\b=.str j)\/(∃i j,a=.lst i/\b=.lst j)\/∃i j,a=.tup i/\b=.tup j:=by
 cases a with
 | int i=>cases b with
  | int j=>exact .inl ⟨i,j,rfl,rfl⟩
  | _=>exact (show False from g).elim
 | str i=>cases b with
  | str j=>exact .inr (.inl ⟨i,j,rfl,rfl⟩)
  | _=>exact (show False from g).elim
 | lst i=>cases b with
  | lst j=>exact .inr (.inr (.inl ⟨i,j,rfl,rfl⟩))
  | _=>exact (show False from g).elim
 | tup i=>cases b with
  | tup j=>exact .inr (.inr (.inr ⟨i,j,rfl,rfl⟩))
  | _=>cases i <;> exact (show False from g).elim
 | _=>exact (show False from g).elim
theorem Q7:OpD X (binaryOp .Add) Ya:=by
 obtain ⟨r0,o0,g0⟩:=Qmh (X:=X)
 refine ⟨_,OpR.or Qjw o0,λH a b x y F1 F2 k Q ra rb g q=>?_⟩
 rcases Qh8 g with ⟨i,j,rfl,rfl⟩ | ⟨i,j,rfl,rfl⟩ | ⟨i,j,rfl,rfl⟩ | ⟨i,ys,rfl,rfl⟩
 ·exact .inr (g0 H _ _ x y F1 F2 k Q ra rb g q)
 ·exact .inr (g0 H _ _ x y F1 F2 k Q ra rb g q)
 ·exact .inr (g0 H _ _ x y F1 F2 k Q ra rb g q)
 ·cases i with
  | nil =>
   cases ra with
   | @tup p _ _ _ e1 r1 =>
    cases r1
    cases rb with
    | @tup p' us _ _ e2 r2=>exact .inl ⟨p,p',us,rfl,rfl,.of e1,.of e2,q _ _ _ _ (.flat (.tup e2 (r2.pure g.2.1).2)) g.2.2.2⟩
  | cons d xs=>exact .inr (g0 H _ _ x y F1 F2 k Q ra rb ⟨g.1,g.2.1,by simp,g.2.2⟩ q)
def dSlT:D->Option Int->Option Int->(D->Prop)->Prop
 | .lst xs,lo,hi,k=>Qs xs=true/\k (.lst (cutD xs lo hi))
 | .kls xs,lo,hi,k=>Qs xs=true/\k (.lst (cutD xs lo hi))
 | .tup xs,lo,hi,k=>Qs xs=true/\k (.tup (cutD xs lo hi))
 | _,_,_,_=>False
theorem Qi4 (g:dSlT d lo hi k):(∃ds,d=.lst ds)\/(∃ds,d=.kls ds)\/∃ds,d=.tup ds:=by
 cases d with
 | lst ds=>exact .inl ⟨ds,rfl⟩
 | kls ds=>exact .inr (.inl ⟨ds,rfl⟩)
 | tup ds=>exact .inr (.inr ⟨ds,rfl⟩)
 | _=>exact (show False from g).elim
theorem Qi3:SlR X (λx lo hi H Q=>(rSlL X.K x lo hi H Q\/rSlT X.K x lo hi H Q)\/rSlW X.K x lo hi H Q):=SlR.or Qk6 Qi1
def wSlT (w:WE) (wl wh:WO):WE:=λρ Q=>w ρ λd ρ1=>wl ρ1 λlo ρ2=>wh ρ2 λhi ρ3=>dSlT d lo hi λd'=>Q d' ρ3
theorem Qga (h:HT.sIx xs.length 0 lo=0/\HT.sIx xs.length xs.length hi=xs.length):cutD xs lo hi=xs:=by
 unfold cutD
 rw [h.1,h.2]
 simp
theorem Xg {lo hi:Option Expr} {wl wh:WO} (he:EV X T m1 o1 e w) (hl:OV X T m2 lo wl) (hh:OV X T m3 hi wh) (hc:o1=true\/(m2 || m3)=false:=by first | exact .inl rfl | exact .inr rfl) :
  EV X T (m1 || (m2 || m3)) true (.Subscript e (.Slice lo hi none p2) pos) (wSlT w wl wh):=by
 obtain ⟨te,pe,ge⟩:=he
 obtain ⟨tl,pl,gl⟩:=hl
 obtain ⟨th,ph,gh⟩:=hh
 refine ⟨_,Qg7 Qi3 pe pl ph,λz R σ H W ρ Q Q' s hw k=>?_⟩
 refine ge z R σ H W ρ _ _ s hw λv H1 W1 d ρ1 F p q=>?_
 refine gl z R σ H1 W1 ρ1 _ _ p.sr q λlo H2 W2 ρ2 p2 q2=>?_
 refine gh z R σ H2 W2 ρ2 _ _ p2.sr q2 λhi H3 W3 ρ3 p3 q3=>?_
 have pp:=p2.seq p3
 have r3:Rep X.K H3 d v F:=by
  rcases hc with hc | hc
  ·exact p.rep.keep pp.fr λa h=>((p.own hc).2 a h).2
  ·exact p.rep.same (pp.calm hc).1
 have fin:∀ad d' v' Fn,Fin X.K H3 ad d' v' Fn->Q d' ρ3->Q' v' ad:=λH' d' v' F' fi hq=>by
  refine k v' H' W3 d' ρ3 F' (Post.fin p3.sr (p.fr.trans pp.fr) (λh=>?_) fi.same fi.rep fi.nd fi.new) hq
  rw [Bool.or_eq_false_iff] at h
  obtain ⟨a1,a2,a3⟩:=p.calm h.1
  obtain ⟨b1,b2,b3⟩:=pp.calm h.2
  exact ⟨a1.trans b1,b2.trans a2,b3.trans a3⟩
 have q4:dSlT d lo hi λd'=>Q d' ρ3:=q3
 clear q3
 rcases Qi4 q4 with ⟨ds,rfl⟩ | ⟨ds,rfl⟩ | ⟨ds,rfl⟩
 ·have q3:=q4
  cases r3 with
  | @lst a xs _ F e1 r9 =>
   obtain ⟨hp,hq⟩:=q3
   obtain ⟨_,r9⟩:=r9.pure hp
   exact .inl (.inl ⟨a,xs,rfl,.of e1,λl hl=>fin _ _ _ [l] ⟨Qh hl,.lst Qg (r9.cut.same (Qh hl)),by simp,λb m=>by rw [List.mem_singleton.mp m];exact hl⟩ hq⟩)
 ·have q3:=q4
  cases r3 with
  | @kls a xs _ e1 r9 =>
   obtain ⟨hp,hq⟩:=q3
   exact .inl (.inl ⟨a,xs,rfl,e1.sq,λl hl=>fin _ _ _ [l] ⟨Qh hl,.lst Qg (r9.cut.same (Qh hl)),by simp,λb m=>by rw [List.mem_singleton.mp m];exact hl⟩ hq⟩)
 ·have q3:=q4
  cases r3 with
  | @tup a xs _ F e1 r9 =>
   obtain ⟨hp,hq⟩:=q3
   obtain ⟨_,r9⟩:=r9.pure hp
   by_cases hn:HT.sIx ds.length 0 lo=0/\HT.sIx ds.length ds.length hi=ds.length
   ·rw [Qga hn] at hq
    exact .inr ⟨a,xs,rfl,.of e1,by rw [r9.length];exact hn,fin _ _ _ [] (.flat (.tup e1 r9)) hq⟩
   ·exact .inl (.inr ⟨a,xs,rfl,.of e1,by rw [r9.length];exact hn,λl hl=>fin _ _ _ [] ⟨Qh hl,.tup Qg (r9.cut.same (Qh hl)),by simp,λb m=>nomatch m⟩ hq⟩)
def Qnb (d:D) (k:List (Key × D)->Prop):Prop:=match d with
 | .dik kvs=>k kvs
 | _=>False
theorem SR0.freeze {W:Addr->Prop} {a:Addr} {ob:Obj} (h:SR0 K T z R H W σ ρ fp)
  (hl:look ρ s=some (.dik ds)) (ht:T.own s=true) (hv:σ[s]? = some (some (.ref a))) (e:H a=some (.dK kvs)) (r:RepK K H ds kvs F) (hF:fp s=a::F) :
  SR K T z R (upd H a (.frz ob (.dK kvs))) (λb=>W b/\b≠a) σ (ρ.set s (some (.fdk ds))):=by
 obtain ⟨nd,sw⟩:=h.own s _ hl ht
 rw [hF] at nd sw
 obtain ⟨na,ndF⟩:=List.nodup_cons.mp nd
 have hWa:=sw a List.mem_cons_self
 have hRa:¬R a:=h.wr a hWa
 have hi:ImmK H (upd H a (.frz ob (.dK kvs))):=Vh e rfl
 have notin:∀j d,look ρ j=some d->j≠s->a∉fp j:=λj d hj hne ha=>by
  cases hto:T.own j with
  | true=>exact h.dis s j _ d hl hj ht hto (λz=>hne z.symm) a (by rw [hF];exact List.mem_cons_self) ha
  | false=>exact hRa (h.ro j d hj hto a ha)
 refine ⟨λj=>if j=s then F else fp j,?_,?_,?_,?_,?_,?_,?_,?_,h.fix⟩
 ·rw [List.length_set];exact h.len
 ·rintro b ⟨hb,hne⟩
  rw [Qm hne];exact h.wd b hb
 ·intro j d hj
  by_cases hjs:j=s
  ·subst hjs
   rw [Vw (Gb hl)] at hj
   cases hj
   exact ⟨_,hv,by rw [if_pos rfl];exact .fdk Qg (r.upd e rfl na)⟩
  ·rw [Qo hjs] at hj
   obtain ⟨u,h1,h2⟩:=h.at_ j d hj
   refine ⟨u,h1,?_⟩
   rw [if_neg hjs]
   exact h2.frame hi λb hb=>Qm λz=>notin j d hj hjs (z ▸ hb)
 ·intro j d hj hto
  by_cases hjs:j=s
  ·subst hjs
   simp only [if_pos]
   exact ⟨ndF,λb hb=>⟨sw b (List.mem_cons_of_mem _ hb),λz=>na (z ▸ hb)⟩⟩
  ·rw [Qo hjs] at hj
   simp only [if_neg hjs]
   exact ⟨(h.own j d hj hto).1,λb hb=>⟨(h.own j d hj hto).2 b hb,λz=>notin j d hj hjs (z ▸ hb)⟩⟩
 ·intro j d hj hto
  have hjs:j≠s:=λz=>by subst z;rw [ht] at hto;cases hto
  rw [Qo hjs] at hj
  simp only [if_neg hjs]
  exact h.ro j d hj hto
 ·exact λb hb hr=>h.wr b hb.1 hr
 ·intro b hr
  rw [Qm (show b≠a from λz=>hRa (z ▸ hr))];exact h.rd b hr
 ·intro j k d d' hj hk tj tk hne b hb hb'
  by_cases hjs:j=s
  ·subst hjs
   have hkj:k≠j:=λz=>hne z.symm
   rw [Qo hkj] at hk
   simp only [if_pos,if_neg hkj] at hb hb'
   exact h.dis j k _ d' hl hk ht tk hne b (by rw [hF];exact List.mem_cons_of_mem _ hb) hb'
  ·rw [Qo hjs] at hj
   simp only [if_neg hjs] at hb
   by_cases hks:k=s
   ·subst hks
    simp only [if_pos] at hb'
    exact h.dis j k d _ hj hl tj ht hne b hb (by rw [hF];exact List.mem_cons_of_mem _ hb')
   ·rw [Qo hks] at hk
    simp only [if_neg hks] at hb'
    exact h.dis j k d d' hj hk tj tk hne b hb hb'
def Qec (s:Nat):WL:=λρ Q=>oget (look ρ s) λc=>Qnb c λkvs=>Q (Qb7 kvs) (ρ.set s (some (.fdk kvs)))
theorem Qhm (ht:T.own s=true:=by rfl) (hN:X.N[s]? = some x:=by rfl) (hv:Vis X.env.scope x:=by first | exact Or.inl rfl | exact Or.inr (Or.inl rfl) | exact Or.inr (Or.inr rfl)) (hd:(x == ("__debug__" : Str))=false:=by decide)
  (hcd:(x == ("__classdict__" : Str))=false:=by decide):IV X T true true tg (.Name x p) (Qec s):=by
 refine ⟨_,Qjn (Y1 hN hv hd hcd),λz R σ H W ρ Q RR sr hw k=>?_⟩
 obtain ⟨c,hl,hw⟩:=Ql hw
 obtain ⟨ds,rfl⟩:∃ds,c=D.dik ds:=by
  clear hl
  cases c with
  | dik ds=>exact ⟨ds,rfl⟩
  | _=>exact (show False from hw).elim
 obtain ⟨fp,s0⟩:=id sr
 obtain ⟨v,hv0,r0⟩:=s0.at_ s _ hl
 obtain ⟨a,kvs,F,rfl,e,r,hF⟩:∃(a:Addr) (kvs:List (Key × V)) (F:List Addr),v=.ref a/\H a=some (.dK kvs)/\RepK X.K H ds kvs F/\fp s=a::F:=by
  generalize fp s=Fi at r0
  cases r0 with
  | @dik a kv _ F e1 r=>exact ⟨a,kv,F,rfl,e1,r,rfl⟩
 have hWa:W a:=(s0.own s _ hl ht).2 a (by rw [hF];exact List.mem_cons_self)
 refine ⟨_,hv0,a,kvs,rfl,e,λob=>k _ _ (λb=>W b/\b≠a) (Qb7 ds) _ ⟨s0.freeze hl ht hv0 e r hF,⟨λb u eb nb=>?_,λb eb=>?_,Vh e rfl,λb hb=>.inl hb.1⟩,λh=>nomatch h⟩ ?_ hw⟩
 ·rw [Qm (show b≠a from λz=>nb (z ▸ hWa))];exact eb
 ·by_cases hb:b=a
  ·rw [hb,Qg] at eb;cases eb
  ·rw [Qm hb] at eb;exact eb
 ·rw [Qbr]
  intro i H2 W2 f
  have e2:H2 a=some (.frz ob (.dK kvs)):=f.imm _ _ Qg rfl
  have hlen:kvs.length=ds.length:=r.length
  refine ⟨λhi=>⟨e2,by rw [Qb7,List.length_map] at hi;omega⟩,λd hd=>?_⟩
  have hi:i<ds.length:=by have:=(List.getElem?_eq_some_iff.mp hd).1;rwa [Qb7,List.length_map] at this
  refine ⟨⟨e2,by omega⟩,λv H3 y=>?_⟩
  obtain ⟨rfl,kk,vv,hk,rfl⟩:=y
  obtain ⟨d',B,h1,h2,h3⟩:=r.get hk
  rw [Qb7,List.getElem?_map,h1] at hd
  cases hd
  exact ⟨Same.refl _,[],Qk8 kk,λa ha=>nomatch ha⟩
end
section
variable {T:Tg}
def TB (q:Nat):Tg:={ own:=λi=>i == q,io:=[q] }
def dAll:GA
 | [.lst ds],k=>∃bs:List Bool,ds=bs.map D.bl/\k (.bl (bs.all id))
 | _,_=>False
def Qab (ρ:Env) (d1 d2:D) (ix:List Nat):Env:=some d1::some d2::ix.map (look ρ)
def two2 (d:D) (k:D->D->Prop):Prop:=match d with
 | .tup [a,b]=>k a b
 | .kc (.tup [a,b])=>k (kcD a) (kcD b)
 | _=>False
theorem two2_rep {k:D->D->Prop} (r:Rep K H d v F) (q:two2 d k):∃av v1 v2 d1 d2 F1 F2,v=.ref av/\SqT K H av [v1,v2]/\Rep K H d1 v1 F1/\Rep K H d2 v2 F2/\k d1 d2:=by
 cases r with
 | @tup a xs ds F e r =>
  match ds,r,q with
  | [d1,d2],r,q =>
   obtain ⟨v1,v2,F1,F2,rfl,r1,r2⟩:=r.at2
   exact ⟨a,v1,v2,d1,d2,F1,F2,rfl,.of e,r1,r2,q⟩
 | @kc c v h =>
  match c,h,q with
  | .tup [d1,d2],h,q =>
   obtain ⟨a,xs,rfl,hs,ar⟩:=h.sqT
   have r:Reps K H [kcD d1,kcD d2] xs []:=ar.reps
   obtain ⟨v1,v2,F1,F2,rfl,r1,r2⟩:=r.at2
   exact ⟨a,v1,v2,kcD d1,kcD d2,F1,F2,rfl,hs H,r1,r2,q⟩
 | _=>exact (show False from q).elim
def Qne (ds:List D) (wt:WT) (we:WE) (ρ1:Env) (ix:List Nat) (Q:D->Env->Prop):Prop:=∃I:Nat->List D->Prop,I 0 [] /\
 (∀i d ys,ds[i]? = some d->I i ys->ys.length<sizeLine/\two2 d λd1 d2=>wt (Qab ρ1 d1 d2 ix) λb _=>if b=true then we (Qab ρ1 d1 d2 ix) (λy _=>I (i+1) (ys++[y])) else I (i+1) ys) /\
 ∀ys,I ds.length ys->ys.length<=sizeLine/\Q (.lst ys) ρ1
def Qef (wl:WL) (wt:WT) (we:WE) (ix:List Nat):WE:=λρ Q=>wl ρ λds ρ1=>Qne ds wt we ρ1 ix Q
def Qgo (X:Cx) (T:Tg) (m:Bool) (elt iter tg:Expr) (ts:List Str) (gt:TG) (scope:Scope) (ifs:List Expr) (ix:List Nat) (w:WE):Prop :=
 ∃(wi:TI) (tt:TT) (te:TE),PI X tg iter wi/\(∀cl C s₀ H₀ fp,PIfs (Jw X scope cl C (bN2 X.N ts ix) s₀ H₀ fp) ifs tt)/\(∀cl C s₀ H₀ fp,PE (Jw X scope cl C (bN2 X.N ts ix) s₀ H₀ fp) elt te) /\
  ∀(z:Nat->V) (R:Addr->Prop) (σ:St) (H:Hp) (W:Addr->Prop) (ρ:Env) (Q:D->Env->Prop) (Q':VK),SR X.K T z R H W σ ρ->w ρ Q ->
   (∀v H' W' d ρ' F,Post X.K T z R m true H W σ ρ H' W' ρ' d v F->Q d ρ'->Q' v H')->Qia ts wi gt tt te ix σ H Q'
def g2 (K:PySem.W.Frag):TG:=gTup K 2 (Qj7 (Qa6 0) (Qj7 (Qa6 1) gNil))
theorem Qh1 (ix:List Nat) (hi:IV X T m pr (.Tuple [.Name x px,.Name y py] kt pt) iter wl)
  (ht:∀cl C s₀ H₀ fp,CV (Jw X scope cl C (bN2 X.N [x,y] ix) s₀ H₀ fp) ifs wt) (he:∀cl C s₀ H₀ fp,EV (Jw X scope cl C (bN2 X.N [x,y] ix) s₀ H₀ fp) TR false true elt we) :
  Qgo X T m elt iter (.Tuple [.Name x px,.Name y py] kt pt) [x,y] (g2 X.K) scope ifs ix (Qef wl wt we ix):=by
 obtain ⟨wi,pi,gi⟩:=hi
 refine ⟨wi,λσ H Q=>∀cl C s₀ H₀ fp,Classical.choose (ht cl C s₀ H₀ fp) σ H Q,λσ H Q=>∀cl C s₀ H₀ fp,Classical.choose (he cl C s₀ H₀ fp) σ H Q,pi,
  λcl C s₀ H₀ fp pins s σ H Q I h=>(Classical.choose_spec (ht cl C s₀ H₀ fp)).1 pins s σ H Q I (h cl C s₀ H₀ fp),λcl C s₀ H₀ fp pins s σ H Q I h=>(Classical.choose_spec (he cl C s₀ H₀ fp)).1 pins s σ H Q I (h cl C s₀ H₀ fp),?_⟩
 intro z R σ H W ρ Q Q' s hw k
 refine gi z R σ H W ρ _ _ s hw λJ H1 W1 ds ρ1 p jd q=>?_
 obtain ⟨I,h0,hI,hd⟩:=q
 refine ⟨λi n ys H2=>n=ds.length-i/\i<=ds.length/\Same H1 H2/\∃es F,Reps X.K H2 es ys F/\F.Nodup/\(∀a∈F,H1 a=none)/\I i es,ds.length,⟨by simp,Nat.zero_le _,Same.refl _,[],[],.nil,List.nodup_nil,(λa m=>(nomatch m)),h0⟩,?_⟩
 rintro i n ys H2 ⟨rfl,hi,sm,es,F,re,nd,nw,i2⟩
 obtain ⟨j1,j2⟩:=jd i H2 (wz pr W1) (FrW.same _ sm)
 by_cases hlt:i<ds.length
 ·have hdi:ds[i]? = some ds[i]:=List.getElem?_eq_getElem hlt
  obtain ⟨hgo,hy⟩:=j2 _ hdi
  obtain ⟨hz,q1⟩:=hI i _ es hdi i2
  refine .inr ⟨hgo,by rw [re.length];exact hz,λv H3 yl o ol=>?_⟩
  obtain ⟨sm3,Fv,rv,_⟩:=hy v H3 yl
  generalize ds[i]=dd at q1 rv
  obtain ⟨av,v1,v2,d1,d2,F1,F2,rfl,ev,r1,r2,q1⟩:=two2_rep rv q1
  ··refine ⟨av,[v1,v2],rfl,ev,rfl,v1,[v2],rfl,v2,[],rfl,rfl,[some v1,some v2],?_,rfl,?_⟩
    ·match o,ol with
     | [o1,o2],_=>rfl
    have srB:∀z',SR X.K TR z' (Any H3) H3 (λ_=>False) (((bS2 σ o ix).set 0 (some v1)).set 1 (some v2)) (Qab ρ1 d1 d2 ix):=λz'=>by
     have eS:((bS2 σ o ix).set 0 (some v1)).set 1 (some v2)=bS2 σ [some v1,some v2] ix:=by
      match o,ol with
      | [o1,o2],_=>rfl
     rw [eS]
     refine SR.readonly rfl (by simp [bS2,Qab]) λj d hj=>⟨rfl,?_⟩
     match j with
     | 0 =>
      simp only [Qab,look,Option.some.injEq] at hj
      subst hj
      exact ⟨v1,F1,rfl,r1⟩
     | 1 =>
      simp only [Qab,look,Option.some.injEq] at hj
      subst hj
      exact ⟨v2,F2,rfl,r2⟩
     | j+2 =>
      have hj':look (ix.map (look ρ1)) j=some d:=hj
      rw [X0] at hj'
      cases hx:ix[j]? with
      | none=>rw [hx] at hj';cases hj'
      | some q =>
       rw [hx] at hj'
       obtain ⟨fp,s1⟩:=(p.sr.same sm).same sm3
       obtain ⟨u,hu,ru⟩:=s1.at_ q d hj'
       refine ⟨u,fp q,?_,ru⟩
       show (ix.map λi=>(σ[i]?).getD none)[j]? = some (some u)
       rw [List.getElem?_map,hx]
       simp [hu]
    intro cl C s₀ H₀ fp
    refine (Classical.choose_spec (ht cl C s₀ H₀ fp)).2 (λ_=>.non) (Any H3) _ H3 (λ_=>False) (Qab ρ1 d1 d2 ix) _ _ (srB _) q1 λbb H4 W4 ρ4 p4 q4=>?_
    obtain ⟨sm4,hW4,hρ4⟩:=p4.calm rfl
    have re4:=((re.same sm3).same sm4)
    cases bb with
    | false=>exact ⟨ds.length-(i+1),by omega,rfl,hlt,(sm.trans sm3).trans sm4,es,F,re4,nd,nw,q4⟩
    | true =>
     show if true=true then _ else _
     rw [if_pos rfl]
     intro cl C s₀ H₀ fp
     refine (Classical.choose_spec (he cl C s₀ H₀ fp)).2 (λ_=>.non) (Any H3) _ H4 W4 (Qab ρ1 d1 d2 ix) _ _ (hρ4 ▸ p4.sr) (by simpa using q4) λu H5 W5 y ρ5 Fy p5 q5=>?_
     obtain ⟨sm5,_,_⟩:=p5.calm rfl
     obtain ⟨ny,ky⟩:=p5.own rfl
     have sm15:Same H1 H5:=((sm.trans sm3).trans sm4).trans sm5
     refine ⟨ds.length-(i+1),by omega,rfl,hlt,sm15,es++[y],F++Fy,(re4.same sm5).snoc p5.rep,Vt nd ny λa ha hf=>?_,λa ha=>?_,q5⟩
     ·obtain ⟨ob,e1,_⟩:=re4.dom a hf
      rw [(ky a ha).1] at e1;cases e1
     ·rcases List.mem_append.mp ha with ha | ha
      ·exact nw a ha
      ·exact ((sm.trans sm3).trans sm4).free (ky a ha).1
 ·have e:i=ds.length:=by omega
  subst e
  obtain ⟨hz,q1⟩:=hd es i2
  refine .inl ⟨j1 (Nat.le_refl _),by rw [re.length];exact hz,λl hl=>?_⟩
  have hl1:H1 l=none:=sm.free hl
  refine k _ _ W1 (.lst es) ρ1 (l::F) ⟨(p.sr.same sm).same (Qh hl),(p.fr.trans (FrW.same W1 sm)).trans (FrW.same W1 (Qh hl)),λh=>⟨((p.calm h).1.trans sm).trans (Qh hl),(p.calm h).2⟩,.lst Qg (re.same (Qh hl)),λ_=>⟨List.nodup_cons.mpr ⟨λh=>?_,nd⟩,λb hb=>?_⟩⟩ q1
  ·obtain ⟨ob,e1,_⟩:=re.dom l h
   rw [hl] at e1;cases e1
  ·rcases List.mem_cons.mp hb with rfl | hb
   ·exact ⟨p.fr.dom _ hl1,p.sr.nw hl1⟩
   ·exact ⟨p.fr.dom _ (nw b hb),p.sr.nw (nw b hb)⟩
structure CompB2 (X:Cx) (scope:Scope) (x y:Str) (ix:List Nat):Prop where
 B1:CompB X scope x ix
 B2:CompB X scope y ix
 nd:(bN2 X.N [x,y] ix).Nodup
theorem Qbf (sc:Scope) (N:List Str) (h:(Qh2 sc scope N x ix && Qh2 sc scope N y ix && decide (bN2 N [x,y] ix).Nodup)=true) (h1:X.env.scope=sc:=by rfl) (h2:X.N=N:=by rfl):CompB2 X scope x y ix:=by
 simp only [Bool.and_eq_true,decide_eq_true_eq] at h
 exact ⟨Jv sc N h.1.1 h1 h2,Jv sc N h.1.2 h1 h2,by rw [h2];exact h.2⟩
theorem pg2 (B:CompB2 X scope x y ix) (hc:X.calm=true) (cl:List (Str × Addr)) (C:Addr) (s₀:Shared) (H₀:Hp) (fp:List Addr) :
  PG (Jw X scope cl C (bN2 X.N [x,y] ix) s₀ H₀ fp) (.Tuple [.Name x px,.Name y py] kt pt) (g2 X.K):=by
 have l1:(Jw X scope cl C (bN2 X.N [x,y] ix) s₀ H₀ fp).env.scope.names.lookup x=some .local:=lookup_relabel_local B.B1.B.lx
 have l2:(Jw X scope cl C (bN2 X.N [x,y] ix) s₀ H₀ fp).env.scope.names.lookup y=some .local:=lookup_relabel_local B.B2.B.lx
 exact Qlx hc (Qcy (Xt (i:=0) B.nd rfl (.inl l1) (.inr l1)) (Qcy (Xt (i:=1) B.nd rfl (.inl l2) (.inr l2)) Qjo))
theorem Qht (h:Qgo X T m elt iter (.Tuple [.Name x px,.Name y py] kt pt) [x,y] (g2 X.K) scope ifs ix w) (B:CompB2 X scope x y ix) (hc:X.calm=true:=by rfl)
  (hs:∀x,foldedSetIterable iter X.env x=pure x:=by intro _;rfl):EV X T m true (.ListComp elt [⟨.Tuple [.Name x px,.Name y py] kt pt,iter,ifs,0⟩] scope pos) w:=by
 obtain ⟨wi,tt,te,h1,h2,h3,h4⟩:=h
 exact ⟨_,Qcz ix hc B.B1.B B.B1.hix B.nd h1 (pg2 B hc) h2 h3 hs,h4⟩
end
end PV
variable {j:Int} {kvs:List (L2.Key × PV.D)} {kk:PV.D->PV.D->Prop}
namespace PV
open PySem PySem.Spec L2 PyProof.Rows
section
variable {T:Tg} {k:Nat}
theorem Qm0 (ht:T.own i=false:=by rfl) (hN:X.N[i]? = some x:=by rfl) (hv:Vis X.env.scope x:=by first | exact Or.inl rfl | exact Or.inr (Or.inl rfl) | exact Or.inr (Or.inr rfl)) (hd:(x == ("__debug__" : Str))=false:=by decide)
  (hcd:(x == ("__classdict__" : Str))=false:=by decide):IV X T false true tg (.Name x p) (Zh (wVar i)):=by
 refine ⟨_,Qey (Y1 hN hv hd hcd),λz R σ H W ρ Q RR s hw k=>?_⟩
 unfold Zh wVar at hw
 cases hl:look ρ i with
 | none=>rw [hl] at hw;exact hw.elim
 | some d =>
 rw [hl] at hw
 have q:=hw
 obtain ⟨fp,s0⟩:=id s
 obtain ⟨v,h1,r0⟩:=s0.at_ i d hl
 have nW:∀b∈fp i,¬W b:=λb hb hw=>s0.wr b hw (s0.ro i d hl ht b hb)
 refine ⟨v,h1,?_⟩
 cases d with
 | tup ds =>
  obtain ⟨hp,q⟩:=q
  obtain ⟨hF,rp⟩:=r0.pure (by simpa [D.pure] using hp)
  cases rp with
  | @tup a xs _ _ e1 r =>
   refine ⟨a,rfl,.inr ⟨⟨xs,.of e1⟩,k _ H W ds ρ ⟨s,FrW.refl H W,λ_=>⟨Same.refl H,rfl,rfl⟩⟩ (λi H2 W2 f=>?_) q⟩⟩
   have e2:H2 a=some (.tup xs):=f.imm _ _ e1 rfl
   refine ⟨λhi=>⟨xs,.of e2,by rw [r.length];exact hi⟩,λd hd=>?_⟩
   obtain ⟨x,B,hx,rx,sx⟩:=r.get hd
   refine ⟨⟨xs,x,.of e2,hx⟩,λv H3 y=>?_⟩
   obtain ⟨rfl,y⟩:=y
   have:=y xs (.of e2)
   rw [hx] at this
   cases this
   exact ⟨Same.refl _,B,rx.keep f (λa ha=>(nomatch sx.subset ha)),(λa ha=>(nomatch sx.subset ha))⟩
 | lst ds =>
  generalize hfp:fp i=G at r0 nW
  cases r0 with
  | @lst a xs _ F e1 r =>
   refine ⟨a,rfl,.inl ⟨⟨xs,.of e1⟩,k _ H W ds ρ ⟨s,FrW.refl H W,λ_=>⟨Same.refl H,rfl,rfl⟩⟩ (λi H2 W2 f=>?_) q⟩⟩
   rw [Qbr] at f
   have e2:H2 a=some (.lst xs):=f.keep _ _ e1 (nW a List.mem_cons_self)
   refine ⟨λhi=>⟨xs,.of e2,by rw [r.length];exact hi⟩,λd hd=>?_⟩
   obtain ⟨x,B,hx,rx,sx⟩:=r.get hd
   refine ⟨⟨xs,x,.of e2,hx⟩,λv H3 y=>?_⟩
   obtain ⟨rfl,y⟩:=y
   have:=y xs (.of e2)
   rw [hx] at this
   cases this
   refine ⟨Same.refl _,B,rx.keep f λb hb=>nW b (List.mem_cons_of_mem _ (sx.subset hb)),λb hb hw=>?_⟩
   have hb':b∈a::F:=List.mem_cons_of_mem _ (sx.subset hb)
   rcases f.new b hw with h | h
   ·exact nW b hb' h
   ·obtain ⟨ob,e3,_⟩:=rx.dom b hb
    rw [h] at e3;cases e3
 | kc c =>
  cases c with
  | tup ks =>
   obtain ⟨-,rp⟩:=r0.pure (by rw [D.pure])
   cases rp with
   | kc h =>
    obtain ⟨a,xs,rfl,hs,ar⟩:=h.sqT
    exact ⟨a,rfl,.inr ⟨⟨xs,hs H⟩,k _ H W (ks.map kcD) ρ ⟨s,FrW.refl H W,λ_=>⟨Same.refl H,rfl,rfl⟩⟩ (Qmw hs ar) q⟩⟩
  | _=>exact (show False from q).elim
 | _=>exact (show False from q).elim
end
theorem sz0:(0<=sizeLine)=True:=propext ⟨λ_=>trivial,λ_=>by decide⟩
theorem sz1:(1<=sizeLine)=True:=propext ⟨λ_=>trivial,λ_=>by decide⟩
theorem sz2:(2<=sizeLine)=True:=propext ⟨λ_=>trivial,λ_=>by decide⟩
end PV
variable {a N t:Nat} {b c:Bool} {L:List Nat} {r leap off:Int} {ps:List (Nat × Nat)} {ys ds:List PV.D} {Bs:List Int}
namespace PV
open PySem PySem.Spec L2
theorem Qbo {α:Type} (xs:List α) (j:Nat):L2.atI xs (j:Int)=xs[j]?:=by
 unfold L2.atI ixN
 rw [if_pos (by omega)]
 by_cases h:j<xs.length
 ·rw [if_pos (by omega)];simp
 ·rw [if_neg (by omega)];simp;omega
theorem Qci {α:Type} (xs:List α):L2.atI xs 0=xs[0]?:=Qbo xs 0
theorem Qkt {α:Type} (xs:List α):L2.atI xs 1=xs[1]?:=Qbo xs 1
theorem Yq {j:Nat} (h:j<n):ixN n (j:Int)=some j:=by
 unfold ixN
 rw [if_pos (by omega),if_pos (by omega)];simp
theorem Qog (h:0<n):ixN n 0=some 0:=Yq h
theorem Qof (h:1<n):ixN n 1=some 1:=Yq h
theorem Vc {j:Nat} (h:j<n):seqIndex? (j:Int) n=some j:=(X3 (Yq h)).1
theorem Qep (h:0<n):seqIndex? 0 n=some 0:=Vc h
theorem Qn {α:Type} {d:α} {k:α->Prop}:oget (some d) k=k d:=rfl
theorem Jb:wVar i ρ Q=oget (look ρ i) λd=>Q d ρ:=by
 unfold wVar oget
 cases look ρ i <;> rfl
section
variable {i:Int}
theorem Qlb:dSub (.int i) (.int j) k=k (.int (i-j)):=rfl
theorem Qlg:dMul (.int i) (.int j) k=(CMul i j/\k (.int (i*j))):=rfl
theorem Qie:dMul (.lst xs) (.int j) k=(Qs xs=true /\ -(2 ^ 63)<=j/\j<2 ^ 63/\xs.length*j.toNat<=sizeLine/\k (.lst (List.replicate j.toNat xs).flatten)):=rfl
theorem Qnu:dDiv (.int i) (.int j) k=((0<j/\j<1073741824/\k (.int (i / j)))\/(j<0/\j.natAbs<1073741824/\k (.int (i.fdiv j)))):=rfl
theorem Qns:dMod (.int i) (.int j) k=((0<j/\k (.int (i % j)))\/(j<0/\k (.int (i.fmod j)))):=rfl
theorem Qnr:dPow (.int i) (.int j) k=(CPow i j/\k (.int (i ^ j.toNat))):=rfl
theorem Qg0:dEq (.int i) (.int j) k=k (.bl (decide (i=j))):=rfl
theorem Qle:dNe (.lst xs) d k=(eqOk 9 (.lst xs)=true/\eqOk 9 d=true/\(.lst xs=d->k (.bl false))/\(.lst xs≠d->k (.bl true))):=by cases d <;> rfl
theorem Qli {f:Int->Int->Bool}:dCmp f (.int i) (.int j) k=k (.bl (f i j)):=rfl
theorem Qgz:dIx (.lst xs) (.int i) k=oget (L2.atI xs i) k:=rfl
theorem Qdq:dIx (.tup xs) (.int i) k=oget (L2.atI xs i) k:=rfl
theorem G8:dLen [.lst xs] k=k (.int xs.length):=rfl
theorem Qif:dLen [.tup xs] k=k (.int xs.length):=rfl
theorem Qlh:dInt [.bl b] k=k (.int (if b then 1 else 0)):=rfl
theorem Qnt:Qkg [.int i,.int j] k=k (.int (if j<i then j else i)):=rfl
theorem Qi9:Qkh [.tup xs] k=(Qs xs=true/\k (.lst xs)):=rfl
theorem Qcu:Uk [.lst xs] k=(Qs xs=true/\k (.tup xs)):=rfl
theorem Qbv:Qbc [.int i] k=(0<=i/\i<=1000/\k (.lst (rngD 0 i.toNat))):=rfl
theorem Qja {t:Ty}:dIsi [d,.ty t] k=oget (isiD d t) λb=>k (.bl b):=rfl
theorem Qan:dSet (.lst xs) (.int i) d k=oget (ixN xs.length i) λn=>k (.lst (xs.set n d)):=rfl
theorem Qi8:dSet (.dik kvs) (.int i) d k=(kvs.length<sizeLine/\k (.dik (putD kvs (.inl i) d))):=rfl
end
section
variable {i:Int}
theorem Qlj:Vj (.lst xs) [d] kk=(xs.length<sizeLine/\kk .non (.lst (xs++[d]))):=rfl
theorem Xs:Xf (.lst xs) [.int i] kk=(-(2 ^ 63)<=i/\i<2 ^ 63/\oget (seqIndex? i xs.length) λj=>oget xs[j]? λd=>d.pure=true/\kk d (.lst (xs.eraseIdx j))):=rfl
end
section
variable {i:Int}
theorem Qcv (h:0<j) (h2:j<1073741824):dDiv (.int i) (.int j) k=k (.int (i / j)):=by
 rw [Qnu]
 apply propext
 exact ⟨λq=>q.elim (λz=>z.2.2) (λz=>absurd z.1 (by omega)),λq=>.inl ⟨h,h2,q⟩⟩
theorem Qev (h:0<j):dMod (.int i) (.int j) k=k (.int (i % j)):=by
 rw [Qns]
 apply propext
 exact ⟨λq=>q.elim (λz=>z.2) (λz=>absurd z.1 (by omega)),λq=>.inl ⟨h,q⟩⟩
theorem Z9 (h:-18446744073709551616<i) (h2:i<18446744073709551616):dMul (.int i) (.int j) k=k (.int (i*j)):=by
 rw [Qlg]
 exact propext ⟨λq=>q.2,λq=>⟨.inl ⟨by omega,by omega⟩,q⟩⟩
theorem Qlf (h:-18446744073709551616<j) (h2:j<18446744073709551616):dMul (.int i) (.int j) k=k (.int (i*j)):=by
 rw [Qlg]
 exact propext ⟨λq=>q.2,λq=>⟨.inr ⟨by omega,by omega⟩,q⟩⟩
theorem Qld (h:0<=j) (h2:j<=1000000) (h3:-18446744073709551616<i) (h4:i<18446744073709551616):dPow (.int i) (.int j) k=k (.int (i ^ j.toNat)):=by
 rw [Qnr]
 exact propext ⟨λq=>q.2,λq=>⟨⟨h,h2,by omega⟩,q⟩⟩
end
def blOf (d:D) (k:Bool->Prop):Prop:=match d with
 | .bl b=>k b
 | _=>False
theorem r_bl {Q:Bool->Env->Prop}:wBl w ρ Q=w ρ λd ρ'=>blOf d λb=>Q b ρ':=by
 show (w ρ λd ρ'=>match d with | .bl b=>Q b ρ' | _=>False)=_
 rfl
theorem Zm {k:Bool->Prop}:blOf (.bl b) k=k b:=rfl
def Qgr (d:D) (k:Bool->Prop):Prop:=oget (truD d) k
theorem Qgy {Q:Bool->Env->Prop}:wTru w ρ Q=w ρ λd ρ'=>Qgr d λb=>Q b ρ':=by
 unfold wTru
 congr 1
 funext d ρ'
 unfold Qgr oget
 cases truD d <;> rfl
theorem Qeu {k:Bool->Prop}:Qgr (.bl b) k=k b:=rfl
theorem Qla {k:Bool->Prop}:Qgr (.lst xs) k=k (!xs.isEmpty):=rfl
def Qi5 (d:D) (k:List D->Prop):Prop:=match d with
 | .tup ds=>Qs ds=true/\k ds
 | .lst ds=>k ds
 | .kc (.tup ks)=>k (ks.map kcD)
 | _=>False
theorem Xr {Q:List D->Env->Prop}:Zh w ρ Q=w ρ λd ρ'=>Qi5 d λds=>Q ds ρ':=by
 show (w ρ λd ρ'=>match d with | .tup ds=>Qs ds=true/\Q ds ρ' | .lst ds=>Q ds ρ' | .kc (.tup ks)=>Q (ks.map kcD) ρ' | _=>False)=_
 rfl
theorem Qlc {k:List D->Prop}:Qi5 (.tup xs) k=(Qs xs=true/\k xs):=rfl
theorem Vr {k:List D->Prop}:Qi5 (.lst xs) k=k xs:=rfl
def Qm2 (d:D) (k:Option Int->Prop):Prop:=match d with
 | .int i=>k (some i)
 | _=>False
theorem G7 {Q:Option Int->Env->Prop}:Ul w ρ Q=w ρ λd ρ'=>Qm2 d λi=>Q i ρ':=by
 show (w ρ λd ρ'=>match d with | .int i=>Q (some i) ρ' | _=>False)=_
 rfl
theorem Ua {i:Int} {k:Option Int->Prop}:Qm2 (.int i) k=k (some i):=rfl
def Qic (ds:List D) (k:List D->Prop):Prop:=match ds with
 | [.int j]=>-(2 ^ 62)<=j/\j<2 ^ 62/\k (rngD 0 j.toNat)
 | _=>False
theorem Qao {Q:List D->Env->Prop}:Qag wr ρ Q=wr ρ λds ρ'=>Qic ds λl=>Q l ρ':=by
 show (wr ρ λds ρ'=>match ds with | [.int j]=>-(2 ^ 62)<=j/\j<2 ^ 62/\Q (rngD 0 j.toNat) ρ' | _=>False)=_
 rfl
theorem U3 {k:List D->Prop}:Qic [.int j] k=(-(2 ^ 62)<=j/\j<2 ^ 62/\k (rngD 0 j.toNat)):=rfl
theorem Qet {t:String}:tyD (some (.lst xs)) t=(t == "list"):=rfl
theorem Ze:Gg (.lst xs)=Qs xs:=rfl
theorem Jg {α:Type} {f:α->D} {l:List α} (h:∀a∈l,(f a).pure=true):Qs (l.map f)=true:=by
 rw [Qas]
 intro x hx
 obtain ⟨a,ha,rfl⟩:=List.mem_map.mp hx
 exact h a ha
theorem Gh {α:Type} {f:α->D} {l:List α} (h:∀a∈l,eqOk n (f a)=true):Yh n (l.map f)=true:=by
 rw [Qba]
 intro x hx
 obtain ⟨a,ha,rfl⟩:=List.mem_map.mp hx
 exact h a ha
def Qkl (ds:List D) (wt:WT) (we:WE) (ρ1:Env) (ix:List Nat) (Q:D->Env->Prop):Prop:=∃I:Nat->List D->Prop,I 0 [] /\
 (∀i d ys,ds[i]? = some d->I i ys->ys.length<sizeLine/\wt (blkE ρ1 d ix) λb _=>if b=true then we (blkE ρ1 d ix) (λy _=>I (i+1) (ys++[y])) else I (i+1) ys) /\
 ∀ys,I ds.length ys->ys.length<=sizeLine/\Q (.lst ys) ρ1
theorem Uj:Vb wl wt we ix ρ Q=wl ρ λds ρ1=>Qkl ds wt we ρ1 ix Q:=rfl
theorem Zt (f:D->D) (hz:ds.length<sizeLine) (he:∀d∈ds,∀Q':D->Env->Prop,Q' (f d) (blkE ρ1 d ix)->we (blkE ρ1 d ix) Q') (hQ:Q (.lst (ds.map f)) ρ1):Qkl ds wAll we ρ1 ix Q:=by
 refine ⟨λi ys=>ys=(ds.take i).map f/\i<=ds.length,⟨by simp,Nat.zero_le _⟩,λi d ys hd ⟨hy,hi⟩=>?_,λys ⟨hy,_⟩=>?_⟩
 ·have hlt:=(List.getElem?_eq_some_iff.mp hd).1
  refine ⟨by rw [hy];simp;omega,?_⟩
  simp only [wAll,reduceIte]
  refine he d (List.mem_of_getElem? hd) _ ⟨?_,hlt⟩
  rw [hy,List.take_add_one,hd]
  simp
 ·rw [hy,List.take_length]
  exact ⟨by simp;omega,hQ⟩
def forI (ds:List D) (wg:WG) (wb:WS) (P:EndsP) (ρ1:Env):Prop:=∃I:Nat->Env->Prop,I 0 ρ1 /\
 (∀i d ρ,ds[i]? = some d->I i ρ->wg d ρ λρ'=>wb { P with nx:=I (i+1),ct:=I (i+1),bk:=P.nx } ρ')/\∀ρ,I ds.length ρ->P.nx ρ
theorem Qew {wg:WG} {wb:WS} {P:EndsP}:wFor wl wg wb P ρ=wl ρ λds ρ1=>Qs ds=true/\forI ds wg wb P ρ1:=rfl
section
variable {i:Int}
theorem Va:Ya (.int i) (.int j) k=k (.int (i+j)):=rfl
theorem Qbw:Ya (.lst xs) (.lst ys) k=(Qs xs=true/\Qs ys=true/\xs.length+ys.length<=sizeLine/\k (.lst (xs++ys))):=rfl
theorem Qap:dSlT (.lst xs) lo hi k=(Qs xs=true/\k (.lst (cutD xs lo hi))):=rfl
theorem Qln:dSlT (.kls xs) lo hi k=(Qs xs=true/\k (.lst (cutD xs lo hi))):=rfl
theorem Qje:dIx (.fdk kvs) (.int i) k=oget (valD kvs (.inl i)) k:=rfl
theorem Qlo:Qed.noDct (.dik kvs)=false:=rfl
theorem Qlp:Qnd (.dik kvs) (.int i) d k=k ((valD kvs (.inl i)).getD d):=rfl
theorem Qlq {k:List (Key × D)->Prop}:Qnb (.dik kvs) k=k kvs:=rfl
end
section
variable {e:D}
theorem Qlm {k:D->D->Prop}:two2 (.tup [d,e]) k=k d e:=rfl
end
theorem Qn2 {a b c:D} (h0:0<=r) (h1:r<3):L2.atI [a,b,c] r=some a\/L2.atI [a,b,c] r=some b\/L2.atI [a,b,c] r=some c:=by
 have:r=0\/r=1\/r=2:=by omega
 rcases this with rfl | rfl | rfl
 ·exact .inl rfl
 ·exact .inr (.inl rfl)
 ·exact .inr (.inr rfl)
theorem Qn1 {a b c:D} (h0:0<=r) (h1:r<4):L2.atI [a,b,c,d] r=some a\/L2.atI [a,b,c,d] r=some b\/L2.atI [a,b,c,d] r=some c\/L2.atI [a,b,c,d] r=some d:=by
 have:r=0\/r=1\/r=2\/r=3:=by omega
 rcases this with rfl | rfl | rfl | rfl
 ·exact .inl rfl
 ·exact .inr (.inl rfl)
 ·exact .inr (.inr (.inl rfl))
 ·exact .inr (.inr (.inr rfl))
theorem Zx {lo:Int} (h:d∈rngD lo n):∃i:Nat,i<n/\d=.int (lo+(i:Int)):=by
 obtain ⟨i,hi,rfl⟩:=List.mem_map.mp h
 exact ⟨i,List.mem_range.mp hi,rfl⟩
theorem Ym {lo:Int}:(rngD lo n).length=n:=by simp [rngD]
theorem Qz:Qs (ns.map D.int)=true:=Jg λ_ _=>rfl
def isP (p:Int):Prop:=p=101\/p=10007\/p=999999937
theorem cop (p:Nat) (hp:p=101\/p=10007\/p=999999937):∀d:Nat,d<101->0<d->Nat.gcd p d=1:=by
 rcases hp with rfl | rfl | rfl <;> decide +kernel
theorem Qku {p:Int} (hp:isP p) (h1:0<leap) (h2:leap<p) {j:Nat} (hi:i<101) (hij:j<i) (h:(off+(i:Int)*leap) % p=(off+(j:Int)*leap) % p):False:=by
 obtain ⟨q,rfl⟩:=Int.eq_ofNat_of_zero_le (show 0<=leap by omega)
 obtain ⟨P,rfl⟩:∃P:Nat,p=(P:Int):=Int.eq_ofNat_of_zero_le (by rcases hp with z | z | z <;> omega)
 have hP:P=101\/P=10007\/P=999999937:=by
  rcases hp with z | z | z
  ·exact .inl (by omega)
  ·exact .inr (.inl (by omega))
  ·exact .inr (.inr (by omega))
 have e:=Int.emod_eq_emod_iff_emod_sub_eq_zero.mp h
 have e2:off+(i:Int)*(q:Int)-(off+(j:Int)*(q:Int))=(((i-j)*q:Nat):Int):=by
  rw [Int.natCast_mul,Int.ofNat_sub (by omega),Int.sub_mul]
  omega
 rw [e2] at e
 have e3:((i-j)*q) % P=0:=by exact_mod_cast e
 have d1:P ∣ (i-j)*q:=Nat.dvd_of_mod_eq_zero e3
 have c1:Nat.gcd P (i-j)=1:=cop P hP _ (by omega) (by omega)
 have d2:P ∣ q:=Nat.Coprime.dvd_of_dvd_mul_left c1 d1
 have:=Nat.le_of_dvd (by omega) d2
 omega
theorem Qd5 {p:Int} (hp:isP p) (h1:0<leap) (h2:leap<p) {q:Nat} (hq:q<=101):((List.range q).map λ(i:Nat)=>(off+(i:Int)*leap) % p).Nodup:=by
 rw [List.nodup_iff_pairwise_ne,List.pairwise_map]
 refine List.Pairwise.imp_of_mem ?_ (List.pairwise_lt_range)
 intro i j hi hj hlt h
 exact Qku hp h1 h2 (by have:=List.mem_range.mp hj;omega) hlt h.symm
theorem Qgb {b:Nat} (h:a<=b) (hb:b<=ds.length):cutD ds (some (a:Int)) (some (b:Int))=(ds.drop a).take (b-a):=by
 unfold cutD
 rw [HT.Xq,HT.Xq,Nat.min_eq_left hb,Nat.min_eq_left (Nat.le_trans h hb)]
theorem Qdf (h:a<=ds.length):cutD ds (some (a:Int)) none=ds.drop a:=by
 unfold cutD
 rw [HT.Xq,HT.Qct,Nat.min_eq_left h,List.take_of_length_le (by simp)]
theorem Qip {b:Nat}:cutD ds none (some (b:Int))=ds.take b:=by
 unfold cutD
 rw [HT.Xq,HT.Qct,List.drop_zero,Nat.sub_zero]
 by_cases h:b<=ds.length
 ·rw [Nat.min_eq_left h]
 ·rw [Nat.min_eq_right (by omega),List.take_of_length_le (by omega),List.take_of_length_le (by omega)]
def rowD (c n:Int):D:=.lst [.int c,.int n]
def webD (m e:Nat) (A:Nat->Int) (r:Int):D:=.tup [.tup ((List.range m).map λk=>.tup ((List.range 4).map λj=>.int (A (4*k+j)))),.tup ((List.range e).map λj=>.int (A (4*m+j))),.int r]
structure Pr (N:Nat) (xs:List Int) (t:Nat) (L:List Nat) (Bs:List Int) (ps:List (Nat × Nat)):Prop where
 bl:Bs.length=N
 pl:ps.length=t
 perm:(ps.flatMap (λp=>[p.1,p.2])++L).Perm (List.range N)
 val:∀(s:Nat) p,ps[s]? = some p->∃x,xs[s]? = some x/\Bs[p.1]? = some x/\Bs[p.2]? = some x
theorem Pr.lt {xs:List Int} (h:Pr N xs t L Bs ps) (hi:i∈L):i<N:=by
 have:=h.perm.mem_iff.mp (List.mem_append.mpr (.inr hi))
 exact List.mem_range.mp this
theorem Pr.nd {xs:List Int} (h:Pr N xs t L Bs ps):(ps.flatMap (λp=>[p.1,p.2])++L).Nodup:=h.perm.nodup_iff.mpr List.nodup_range
theorem Pr.start (N:Nat) (xs:List Int):Pr N xs 0 (List.range N) (List.replicate N 0) []:=⟨by simp,rfl,by simp,λs p h=>by simp at h⟩
theorem Xa {α:Type}:∀{l:List α} {i:Nat} (h:i<l.length),(l[i]::l.eraseIdx i).Perm l
 | a::l,0,_=>List.Perm.refl _
 | a::l,i+1,h=>by
  have:=Xa (l:=l) (i:=i) (by simpa using h)
  simp only [List.getElem_cons_succ,List.eraseIdx_cons_succ]
  exact (List.Perm.swap _ _ _).trans (this.cons a)
theorem Vv {α β:Type} {f:α->β}:∀{l:List α} {i:Nat},(l.map f).eraseIdx i=(l.eraseIdx i).map f
 | [],_=>rfl
 | a::l,0=>rfl
 | a::l,i+1=>by simp only [List.map_cons,List.eraseIdx_cons_succ,Vv]
theorem Pr.step {xs:List Int} {x:Int} (h:Pr N xs t (i::L) Bs ps) (hx:xs[t]? = some x) (hs:s<L.length) :
  Pr N xs (t+1) (L.eraseIdx s) ((Bs.set i x).set L[s] x) (ps++[(i,L[s])]):=by
 have nd:=h.nd
 obtain ⟨n1,n2,n3⟩:=List.nodup_append.mp nd
 have hjm:L[s]∈L:=List.getElem_mem hs
 have hij:i≠L[s]:=λz=>(List.nodup_cons.mp n2).1 (z ▸ hjm)
 have hi:=h.lt (List.mem_cons_self (a:=i))
 have hj:=h.lt (List.mem_cons_of_mem i hjm)
 refine ⟨by simp [h.bl],by simp [h.pl],?_,λs' p hp=>?_⟩
 ·rw [List.flatMap_append]
  refine List.Perm.trans ?_ h.perm
  rw [List.append_assoc]
  refine List.Perm.append_left _ ?_
  show (i::L[s]::L.eraseIdx s).Perm (i::L)
  exact List.Perm.cons _ (Xa hs)
 ·by_cases hs':s' < ps.length
  ·rw [List.getElem?_append_left hs'] at hp
   obtain ⟨y,h1,h2,h3⟩:=h.val s' p hp
   have mem:∀a,a=p.1\/a=p.2->a∈ps.flatMap (λp=>[p.1,p.2]):=λa ha=>List.mem_flatMap.mpr ⟨p,List.mem_of_getElem? hp,by simpa using ha⟩
   have ne:∀a,a=p.1\/a=p.2->i≠a/\L[s]≠a:=λa ha=>⟨λz=>n3 a (mem a ha) i List.mem_cons_self z.symm,λz=>n3 a (mem a ha) L[s] (List.mem_cons_of_mem _ hjm) z.symm⟩
   refine ⟨y,h1,?_,?_⟩
   ·rw [List.getElem?_set_ne (ne _ (.inl rfl)).2,List.getElem?_set_ne (ne _ (.inl rfl)).1];exact h2
   ·rw [List.getElem?_set_ne (ne _ (.inr rfl)).2,List.getElem?_set_ne (ne _ (.inr rfl)).1];exact h3
  ·have e:s'=t:=by
    have:=(List.getElem?_eq_some_iff.mp hp).1
    have:=h.pl
    simp at *
    omega
   subst e
   rw [List.getElem?_append_right (by omega),h.pl,Nat.sub_self] at hp
   simp at hp
   subst hp
   refine ⟨x,hx,?_,?_⟩
   ·rw [List.getElem?_set_ne (Ne.symm hij),List.getElem?_set_self (by rw [h.bl];exact hi)]
   ·rw [List.getElem?_set_self (by rw [List.length_set,h.bl];exact hj)]
theorem Pr.tw {xs:List Int} (h:Pr N xs t [] Bs ps) (nd:xs.Nodup):∃g,M.Tw N (λi=>Bs.getD i 0) g:=by
 have nf:=h.nd
 rw [List.append_nil] at nf
 have val:∀i,i<N->∃(s:Nat) (p:Nat × Nat) (x:Int),ps[s]? = some p/\(i=p.1\/i=p.2)/\xs[s]? = some x/\Bs.getD i 0=x:=λi hi=>by
  have:=h.perm.mem_iff.mpr (List.mem_range.mpr hi)
  rw [List.append_nil] at this
  obtain ⟨p,hp,hip⟩:=List.mem_flatMap.mp this
  obtain ⟨s,hs⟩:=List.mem_iff_getElem?.mp hp
  obtain ⟨x,h1,h2,h3⟩:=h.val s p hs
  have hip':i=p.1\/i=p.2:=by simpa using hip
  refine ⟨s,p,x,hs,hip',h1,?_⟩
  rcases hip' with z | z
  ·rw [List.getD_eq_getElem?_getD,z,h2];rfl
  ·rw [List.getD_eq_getElem?_getD,z,h3];rfl
 have ne:∀p∈ps,p.1≠p.2:=λp hp z=>by
  have:[p.1,p.2].Nodup:=by
   have hsub:[p.1,p.2].Sublist (ps.flatMap λp=>[p.1,p.2]):=by
    obtain ⟨a,b,rfl⟩:=List.append_of_mem hp
    rw [List.flatMap_append,List.flatMap_cons]
    exact (List.sublist_append_left _ _).trans (List.sublist_append_right _ _)
   exact nf.sublist hsub
  simp [z] at this
 have ltp:∀p∈ps,p.1<N/\p.2<N:=λp hp=>by
  have m1:=h.perm.mem_iff.mp (List.mem_append.mpr (.inl (List.mem_flatMap.mpr ⟨p,hp,List.mem_cons_self⟩)))
  have m2:=h.perm.mem_iff.mp (List.mem_append.mpr (.inl (List.mem_flatMap.mpr ⟨p,hp,List.mem_cons_of_mem _ List.mem_cons_self⟩)))
  exact ⟨List.mem_range.mp m1,List.mem_range.mp m2⟩
 have ex:∀i,∃j,i<N->j<N/\j≠i/\Bs.getD j 0=Bs.getD i 0/\∀k,k<N->Bs.getD k 0=Bs.getD i 0->k=i\/k=j:=λi=>by
  by_cases hi:i<N
  ·obtain ⟨s,p,x,hs,hip,hx,hv⟩:=val i hi
   have hp:=List.mem_of_getElem? hs
   obtain ⟨x',h1,h2,h3⟩:=h.val s p hs
   rw [hx] at h1;cases h1
   have only:∀k,k<N->Bs.getD k 0=Bs.getD i 0->k=p.1\/k=p.2:=λk hk e=>by
    obtain ⟨s',p',y,hs',hkp,hy,hw⟩:=val k hk
    rw [hw,hv] at e
    subst e
    have:s'=s:=by
     have l1:=(List.getElem?_eq_some_iff.mp hx)
     have l2:=(List.getElem?_eq_some_iff.mp hy)
     obtain ⟨a1,a2⟩:=l1
     obtain ⟨b1,b2⟩:=l2
     exact (List.getElem_inj nd).mp (b2.trans a2.symm)
    subst this
    rw [hs] at hs';cases hs'
    exact hkp
   rcases hip with z | z
   ·refine ⟨p.2,λ_=>⟨(ltp p hp).2,λq=>ne p hp (by rw [← z,q]),?_,λk hk e=>(only k hk e).imp (λq=>q.trans z.symm) id⟩⟩
    rw [hv,List.getD_eq_getElem?_getD,h3];rfl
   ·refine ⟨p.1,λ_=>⟨(ltp p hp).1,λq=>ne p hp (by rw [q,z]),?_,λk hk e=>(only k hk e).elim .inr (λq=>.inl (q.trans z.symm))⟩⟩
    rw [hv,List.getD_eq_getElem?_getD,h2];rfl
  ·exact ⟨0,λz=>absurd z hi⟩
 refine ⟨λi=>Classical.choose (ex i),λi hi=>(Classical.choose_spec (ex i) hi).1,λi hi=>(Classical.choose_spec (ex i) hi).2.1,λi hi=>(Classical.choose_spec (ex i) hi).2.2.1,λi k hi hk e=>(Classical.choose_spec (ex i) hi).2.2.2 k hk e⟩
theorem J7 {b:Nat} (h:a+b<=Bs.length):((Bs.map D.int).drop a).take b=(List.range b).map λj=>D.int (Bs.getD (a+j) 0):=by
 apply List.ext_getElem?
 intro j
 rw [List.getElem?_take,List.getElem?_map]
 by_cases hj:j<b
 ·rw [if_pos hj,List.getElem?_drop,List.getElem?_map,List.getElem?_range hj,List.getElem?_eq_getElem (by omega)]
  simp [List.getD_eq_getElem?_getD,List.getElem?_eq_getElem (show a+j<Bs.length by omega)]
 ·rw [if_neg hj,List.getElem?_eq_none (by simpa using hj)];rfl
def Qdg (Bs:List Int):D->D
 | .int k=>.tup ((List.range 4).map λj=>.int (Bs.getD (4*k.toNat+j) 0))
 | d=>d
theorem Uf:Qdg Bs (.int (0+(i:Int)))=.tup ((List.range 4).map λj=>.int (Bs.getD (4*i+j) 0)):=by
 show D.tup ((List.range 4).map λj=>.int (Bs.getD (4*(0+(i:Int)).toNat+j) 0))=_
 rw [show (0+(i:Int)).toNat=i by omega]
theorem Xj {m:Nat}:(rngD 0 m).map (Qdg Bs)=(List.range m).map λk=>.tup ((List.range 4).map λj=>.int (Bs.getD (4*k+j) 0)):=by
 unfold rngD
 rw [List.map_map]
 apply List.map_congr_left
 intro i _
 exact Uf
theorem Qda {P:Int->Prop} (h0:P 0) (h:∀b∈Bs,P b) (i:Nat):P (Bs.getD i 0):=by
 rw [List.getD_eq_getElem?_getD]
 cases q:Bs[i]? with
 | none=>exact h0
 | some b=>exact h b (List.mem_of_getElem? q)
theorem len1 {α:Type}:∀{us:List α},us.length=1->∃a,us=[a]
 | [a],_=>⟨a,rfl⟩
theorem len2 {α:Type} {us:List α} (h:us.length=2):∃a b,us=[a,b]:=by
 cases us with
 | nil=>cases h
 | cons a us=>obtain ⟨b,rfl⟩:=len1 (Nat.succ.inj h);exact ⟨a,b,rfl⟩
theorem len3 {α:Type} {us:List α} (h:us.length=3):∃a b c,us=[a,b,c]:=by
 cases us with
 | nil=>cases h
 | cons a us=>obtain ⟨b,c,rfl⟩:=len2 (Nat.succ.inj h);exact ⟨a,b,c,rfl⟩
section
variable {T:Tg} {id:String}
theorem Qm5 {g:GM} (hm:MtD X id g) (pa:PlainAttrs T') (slot:Slot T' name id) (hty:typeOf (.builtin id)=pure (.type "method_descriptor")) (ha:AV X T m o (e::es) wr) (ho:o=true:=by rfl)
  (ht:T.own i=true:=by rfl) (hN:X.N[i]? = some x:=by rfl) (hv:Vis X.env.scope x:=by first | exact Or.inl rfl | exact Or.inr (Or.inl rfl) | exact Or.inr (Or.inr rfl)) (hd:(x == ("__debug__" : Str))=false:=by decide)
  (hcd:(x == ("__classdict__" : Str))=false:=by decide)
  (hbase:attributeBase (.Name x p) name X.env (eval (.Name x p) X.env)=eval (.Name x p) X.env:=by rfl)
  (hfew:((backTo cpos (starEach (e::es) X.env)).all (λx=>!x.1) && (backToKw cpos (keywordEach [] X.env)).all (λx=>x.1.isSome)
   && decide ((e::es).length+([]:List Keyword).length+(if ([]:List Keyword).isEmpty then 0 else 1)<30))=true:=by rfl)
  (hline:(apos.endLine == cpos.line)=true:=by rfl) (hs:starEach (e::es) X.env=(false,eval e X.env)::starEach es X.env:=by rfl) (hplain:(backTo cpos (starEach es X.env)).any (·.1)=false:=by rfl) :
  EV X T true true (.Call (.Attribute (.Name x p) name apos) (e::es) [] cpos) (wMt i T' g wr):=by
 subst ho
 exact Qa9 hm pa slot hty ha ht hN hv hd hcd hbase hfew hline hs hplain
end
end PV
namespace S03
open PySem PySem.Spec L2 PV
open PySem.Builtin.Str (glued)
theorem Qi0 (h:n<=100000):n<sizeLine:=Nat.lt_of_le_of_lt h (by decide)
end S03
namespace Pol
abbrev T:=List (Int × Int)
def get:T->Int->Int
 | [],_=>0
 | t::a,p=>if t.1=p then t.2 else get a p
def put:T->Int->Int->T
 | [],p,n=>[(p,n)]
 | t::a,p,n=>if t.1=p then (p,n)::a else t::put a p n
theorem Qcw {p n:Int}:∀{a:T} {q:Int},q∈(put a p n).map (·.1)->q=p\/q∈a.map (·.1)
 | [],q,h=>.inl (by simpa [put] using h)
 | t::a,q,h=>by
  unfold put at h
  by_cases e:t.1=p
  ·rw [if_pos e] at h
   rcases List.mem_cons.mp h with h | h
   ·exact .inl h
   ·exact .inr (List.mem_cons_of_mem _ h)
  ·rw [if_neg e] at h
   rcases List.mem_cons.mp h with h | h
   ·exact .inr (by rw [h];exact List.mem_cons_self)
   ·exact (Qcw h).imp id λh=>List.mem_cons_of_mem _ h
theorem Qar {p n:Int}:∀{a:T},(a.map (·.1)).Nodup->((put a p n).map (·.1)).Nodup
 | [],_=>by simp [put]
 | t::a,h=>by
  obtain ⟨h1,h2⟩:=List.nodup_cons.mp h
  unfold put
  by_cases e:t.1=p
  ·rw [if_pos e]
   exact List.nodup_cons.mpr ⟨by show p∉_;rw [← e];exact h1,h2⟩
  ·rw [if_neg e]
   refine List.nodup_cons.mpr ⟨λhq=>?_,Qar h2⟩
   rcases Qcw hq with h | h
   ·exact e h
   ·exact h1 h
theorem G9 {p n:Int}:∀{a:T},(put a p n).length<=a.length+1
 | []=>by simp [put]
 | t::a=>by
  unfold put
  by_cases e:t.1=p
  ·rw [if_pos e];simp
  ·rw [if_neg e];have:=G9 (p:=p) (n:=n) (a:=a);simpa using this
end Pol
variable {a:Pol.T}
namespace Dct
open PySem PySem.Spec L2 PV Pol
theorem Qi0 (h:n<=1000000):n<sizeLine:=Nat.lt_of_le_of_lt h (by decide)
def enc (a:T):List (Key × D):=a.map λt=>(.inl t.1,.int t.2)
theorem Qf3:(enc a).length=a.length:=List.length_map ..
theorem Qdc:(enc a).map (·.1)=(a.map (·.1)).map Sum.inl:=by
 unfold enc
 rw [List.map_map,List.map_map];rfl
theorem Qcm {p:Int}:∀{a:T},p∉a.map (·.1)->valD (enc a) (.inl p)=none
 | [],_=>rfl
 | t::a,h=>by
  have h1:¬t.1=p:=λe=>h (by rw [← e];exact List.mem_cons_self)
  have h2:p∉a.map (·.1):=λe=>h (List.mem_cons_of_mem _ e)
  show valD ((.inl t.1,.int t.2)::enc a) (.inl p)=none
  rw [Vo,if_neg (λe=>h1 (Sum.inl.inj e)),Qcm h2]
theorem Uq {p:Int}:∀{a:T},p∈a.map (·.1)->valD (enc a) (.inl p)=some (.int (get a p))
 | t::a,h=>by
  show valD ((.inl t.1,.int t.2)::enc a) (.inl p)=_
  rw [Vo]
  unfold Pol.get
  by_cases e:t.1=p
  ·rw [if_pos (by rw [e]),if_pos e]
  ·rw [if_neg (λz=>e (Sum.inl.inj z)),if_neg e]
   refine Uq ?_
   rcases List.mem_cons.mp h with h | h
   ·exact absurd h.symm e
   ·exact h
theorem Qc9 {p:Int}:∀{a:T},p∉a.map (·.1)->get a p=0
 | [],_=>rfl
 | t::a,h=>by
  have h1:¬t.1=p:=λe=>h (by rw [← e];exact List.mem_cons_self)
  have h2:p∉a.map (·.1):=λe=>h (List.mem_cons_of_mem _ e)
  unfold Pol.get
  rw [if_neg h1,Qc9 h2]
theorem Qcn {p:Int}:(valD (enc a) (.inl p)).getD (.int 0)=.int (get a p):=by
 by_cases h:p∈a.map (·.1)
 ·rw [Uq h];rfl
 ·rw [Qcm h,Qc9 h];rfl
theorem Qbx {p n:Int}:∀{a:T},(a.map (·.1)).Nodup->putD (enc a) (.inl p) (.int n)=enc (put a p n)
 | [],_=>rfl
 | t::a,h=>by
  obtain ⟨h1,h2⟩:=List.nodup_cons.mp h
  show putD ((.inl t.1,.int t.2)::enc a) (.inl p) (.int n)=_
  unfold put
  by_cases e:t.1=p
  ·rw [if_pos e,e]
   rw [Qjg]
   ·rfl
   ·rw [Qdc]
    intro hm
    obtain ⟨q,hq,hqe⟩:=List.mem_map.mp hm
    have:q=p:=Sum.inl.inj hqe
    subst this
    exact h1 (by show t.1∈_;rw [e];exact hq)
  ·rw [if_neg e,Qjf (λz=>e (Sum.inl.inj z)),Qbx h2];rfl
end Dct
variable {L:L2.Lam} {k:Nat} {ps:List PySem.Str}
namespace PV
open PySem PySem.Spec L2
open PyProof.Rows (envOfC)
mutual
def D.bare:D->Bool
 | .non=>true
 | .bl _=>true
 | .int _=>true
 | .str _=>true
 | .ty _=>true
 | .tup xs=>V3 xs
 | .lst xs=>V3 xs
 | .dik kvs=>Qh6 kvs
 | .dit kvs=>Qh5 kvs
 | .kls _=>false
 | .fdk _=>false
 | .ftp _=>false
 | .fls _=>false
 | .fdt _=>false
 | .obj _ _=>false
 | .clo _ _=>false
 | .kc _=>true
 | .dmx _=>false
 | .fmx _=>false
 | .lsa _ xs=>V3 xs
 | .ist _ xs=>V3 xs
def V3:List D->Bool
 | []=>true
 | d::r=>d.bare && V3 r
def Qh6:List (Key × D)->Bool
 | []=>true
 | (_,d)::r=>d.bare && Qh6 r
def Qh5:List (List Key × D)->Bool
 | []=>true
 | (_,d)::r=>d.bare && Qh5 r
end
theorem V2:V3 xs=true↔∀x∈xs,x.bare=true:=by
 induction xs with
 | nil=>simp [V3]
 | cons d r ih=>simp only [V3,Bool.and_eq_true,ih,List.mem_cons,forall_eq_or_imp]
def Thaw (H H':Hp):Prop:=∀b ob,H b=some ob->(∀o u,ob ≠ .frz o u)->H' b=some ob
theorem Rep.bare (hi:Thaw H H') (r:Rep K H d v F):d.bare=true->Rep K H' d v F:=by
 have no:∀{P:Prop} {b:Bool},b=false->b=true->P:=λh h'=>absurd (h.symm.trans h') (by simp)
 refine Rep.rec (motive_1:=λd v F _=>d.bare=true->Rep K H' d v F) (motive_2:=λd v F _=>V3 d=true->Reps K H' d v F) (motive_3:=λd v F _=>Qh6 d=true->RepK K H' d v F) (motive_4:=λd v F _=>Qh5 d=true->RepT K H' d v F) ?_ ?_ ?_ ?_ ?_ ?_ ?_ ?_ ?_ ?_ ?_ ?_ ?_ ?_ ?_ ?_ ?_ ?_ ?_ ?_ ?_ ?_ ?_ ?_ ?_ ?_ ?_ r
 ·exact λ_=>.non
 ·exact λb _=>.bl b
 ·exact λb _=>.int b
 ·exact λb _=>.str b
 ·exact λe _ ih k=>.tup (hi _ _ e λ_ _ z=>by cases z) (ih (by rw [D.bare] at k;exact k))
 ·exact λe _ ih k=>.lst (hi _ _ e λ_ _ z=>by cases z) (ih (by rw [D.bare] at k;exact k))
 ·exact λe _ ih k=>.dik (hi _ _ e λ_ _ z=>by cases z) (ih (by rw [D.bare] at k;exact k))
 ·exact λe _ ih k=>.dit (hi _ _ e λ_ _ z=>by cases z) (ih (by rw [D.bare] at k;exact k))
 ·exact λ_ _ _=>no (by rw [D.bare])
 ·exact λt _=>.ty t
 ·exact λ_ _ _=>no (by rw [D.bare])
 ·exact λ_ _ _ _=>no (by rw [D.bare])
 ·exact λ_ _ _=>no (by rw [D.bare])
 ·exact λ_ _ _=>no (by rw [D.bare])
 ·exact λ_ _ _=>no (by rw [D.bare])
 ·exact λ_ _ _=>no (by rw [D.bare])
 ·exact λh _=>.kc h
 ·exact λ_ _ _ _ _=>no (by rw [D.bare])
 ·exact λ_ _ _ _ _=>no (by rw [D.bare])
 ·exact λe _ ih k=>.lsa (hi _ _ e λ_ _ z=>by cases z) (ih (by rw [D.bare] at k;exact k))
 ·exact λe hc hn _ ih k=>.ist (hi _ _ e λ_ _ z=>by cases z) hc hn (ih (by rw [D.bare] at k;exact k))
 ·exact λ_=>.nil
 ·exact λ_ _ ih1 ih2 k=>by rw [V3,Bool.and_eq_true] at k;exact .cons (ih1 k.1) (ih2 k.2)
 ·exact λ_=>.nil
 ·exact λ_ _ ih1 ih2 k=>by rw [Qh6,Bool.and_eq_true] at k;exact .cons (ih1 k.1) (ih2 k.2)
 ·exact λ_=>.nil
 ·exact λ_ _ ih1 ih2 k=>by rw [Qh5,Bool.and_eq_true] at k;exact .cons (ih1 k.1) (ih2 k.2)
theorem Reps.bare (hi:Thaw H H') {d:List D} {v:List V} (r:Reps K H d v F) (k:V3 d=true):Reps K H' d v F:=by
 induction d generalizing v F with
 | nil=>cases r;exact .nil
 | cons d ds ih =>
  cases r with
  | cons h r=>rw [V3,Bool.and_eq_true] at k;exact .cons (h.bare hi k.1) (ih r k.2)
section
variable {T:Tg}
def Qd1 (ρ:Env):List Nat->Option (List D)
 | []=>some []
 | i::ix=>match look ρ i,Qd1 ρ ix with
  | some d,some ds=>some (d::ds)
  | _,_=>none
theorem Xk {K:PySem.W.Frag} {z:Nat->V} {R:Addr->Prop} {H:Hp} {W:Addr->Prop} {σ:L2.St} {ρ:Env} (s:SR K T z R H W σ ρ):∀{ix:List Nat} {ds:List D},Qd1 ρ ix=some ds->∃xs F,capd σ ix xs/\Reps K H ds xs F
 | [],ds,h=>by cases h;exact ⟨[],[],trivial,.nil⟩
 | i::ix,ds,h=>by
  unfold Qd1 at h
  cases h1:look ρ i with
  | none=>rw [h1] at h;cases h
  | some d =>
   cases h2:Qd1 ρ ix with
   | none=>rw [h1,h2] at h;cases h
   | some es =>
    rw [h1,h2] at h
    cases h
    obtain ⟨xs,F,c,r⟩:=Xk s h2
    obtain ⟨fp,s0⟩:=s
    obtain ⟨v,e1,e2⟩:=s0.at_ i d h1
    exact ⟨v::xs,_,⟨e1,c⟩,.cons e2 r⟩
def spT (TB:List (Addr × Array Value)) (sp:Sp):Sp:=λvs H Q E=>Tabs TB H/\sp vs H Q E
theorem Y9 {TB:List (Addr × Array Value)} (C:Cal X.prog X.w X.K X.mg X.base x k ps (spT TB (spR X.K g))) (hr:Room k X.A) (hT:Tabs TB X.H₀) (ha:AV X T m o (e::es) wr) (hg:Gl X x:=by rfl)
  (hdb:(x == ("__debug__" : Str))=false:=by decide) (he:starEach (e::es) X.env=(false,eval e X.env)::starEach es X.env:=by rfl) (hpl:(backTo pos (starEach es X.env)).any (·.1)=false:=by rfl) :
  EV X T m true (.Call (.Name x p) (e::es) [] pos) (Qk g wr):=by
 obtain ⟨f,fd,F,h1,h2,h3⟩:=C
 obtain ⟨ta,pa,ga⟩:=ha
 have pe:PE X (.Call (.Name x p) (e::es) [] pos) (λσ H Q=>ta σ H λvs H1=>spR X.K g vs H1 Q E0):=by
  intro pins s σ H Q I h
  refine wpAny_Call_Name_kw (Qfk I hg h1 ?_ hdb)
  refine PySem.W.callWith_K (h₀:=X.base) I.ok.mod.kin h2 (thn (pa pos pins s σ H _ I h) λus s1 ⟨vs,H1,I1,r,q⟩=>⟨I1.kIn,?_⟩) he hpl
  exact Qib (E:=E0) F hr h3 .nil (λ_ _ _ _ _ _ _ z=>z.elim) I1 r (by rw [List.append_nil];exact ⟨hT.un I1.base,q⟩)
 refine ⟨_,pe,λz R σ H W ρ Q Q' s hw k=>?_⟩
 refine ga z R σ H W ρ _ _ s hw λvs H1 W1 ds ρ1 Fp pp q=>?_
 exact ⟨ds,Fp,_,pp.rep,q,λv H' d F' fi hk=>k v H' W1 d ρ1 F' (Post.fin pp.sr pp.fr pp.calm fi.same fi.rep fi.nd fi.new) hk⟩
end
section
variable {w:World} {N:List Str} {T:Tg} {TB:List (Addr × Array Value)}
theorem Qa8 (F:Fun K x qual st f fd) (S:FnScope N ps (Qb st)) (hio:T.io=[]) (hown:∀i,i<ps.length->T.own i=false) (hg:∀ds kk,g ds kk->ds.length=ps.length)
  (hb:∀(cdv:Value) (A:Around) (outer:List PySem.Env) (s:Shared) (H:Hp) (E:XK),Room k (A.deeper (envOfC qual (Qb st) s.heap.objs.size f cdv))->Tabs TB H->fd.code=cdv->SVs (cxOf CX0 P w K mg base N qual (Qb st) f cdv A outer s H E).nox T (Qr st) ww)
  (hr:∀ds kk,g ds kk->ww { nx:=λ_=>kk .non,rt:=λd _=>kk d } (env0 N ds)):FnOk P w K mg base CX0 (k+1) f fd ps (spT TB (spR K g)):=by
 obtain ⟨oc,od,kV,doc,pm,an,cdv,ct,osl,rfl,lk,hcd⟩:=F.ex
 refine Qm4 lk hcd S (λvs H Q E h=>?_) λA outer s H vs Q E hroom h=>?_
 ·obtain ⟨_,ds,Fp,kk,rep,hgk,_⟩:=h
  rw [rep.length];exact hg ds kk hgk
 ·obtain ⟨hT,ds,Fp,kk,rep,hgk,q⟩:=h
  obtain ⟨ts,pts,gts⟩:=hb cdv A outer s H E hroom hT rfl
  have hl:=rep.length
  have hds:=hg ds kk hgk
  refine ⟨ts,pts.nox,gts (λ_=>.non) (Any H) (L2.start N vs) H (λ_=>False) (env0 N ds) _ _ (SR.readonly hio ?_ λi d hli=>?_) (hr ds kk hgk) ⟨?_,?_,?_,?_,λ_ _ _ _ _ _ _ _ hk=>hk.elim⟩⟩
  ·unfold env0 L2.start;simp [hl]
  ·unfold env0 at hli
   rw [Y2] at hli
   obtain ⟨v,B,h1,h2,_⟩:=rep.get hli
   exact ⟨hown i (by rw [← hds];exact (List.getElem?_eq_some_iff.mp hli).1),v,B,Zj h1,h2⟩
  ·intro R' σ' H' W' ρ' s' fr hk
   have sm:Same H H':=λb o e=>fr.keep b o e (λz=>z)
   exact q .non H' .non [] ⟨sm,.non,List.nodup_nil,λ_ m=>nomatch m⟩ hk
  ·exact λR' σ' H' W' ρ' s' fr hk=>hk.elim
  ·exact λR' σ' H' W' ρ' s' fr hk=>hk.elim
  ·intro R' v σ' H' W' ρ' d F' s' fr r nd nw hk
   have sm:Same H H':=λb o e=>fr.keep b o e (λz=>z)
   exact q v H' d F' ⟨sm,r,nd,λa ha=>(nw a ha).2.resolve_left id⟩ hk
theorem Qoc {p:Str} (S:LamScope L p) (hbind:∀(cl:List (Str × Addr)) (pm cdv ct u:Value),bindArgs (PySem.W.kla_fn "<lambda>" L.qual L.args L.body L.scope cl pm cdv ct) ⟨[u],[]⟩=pure [(p,u)])
  (hg:∀ds kk,g ds kk->V3 ds=true/\ds.length=L.names.length+1)
  (hb:∀(A:Around) (outer:List PySem.Env) (s:Shared) (H:Hp) (f:Addr) (cd:Value) (cl:List (Str × Addr)),Room k (A.deeper (PySem.W.envX L.qual L.scope s.heap.objs.size f cd cl))->EV (Qh0 P w K mg base L p f cd cl A outer s H) TR m true L.body wb)
  (hr:∀ds kk,g ds kk->wb (ds.map some) λd _=>kk d):Qae P w K mg base (k+1) L (spR K g):=by
 refine Qml S hbind λA outer s H f cd cl y xs Q hroom isC hsp=>?_
 obtain ⟨ds,Fp,kk,rep,hgk,q⟩:=hsp
 obtain ⟨hbr,hlen⟩:=hg ds kk hgk
 obtain ⟨t,pt,gt⟩:=hb A outer s (rmC H (cl.map (·.2))) f cd cl hroom
 have repR:Reps K (rmC H (cl.map (·.2))) ds (y::xs) Fp:=rep.bare (λb ob e nf=>by rw [Jq (isC.out e λo _ z _=>nf _ _ z)];exact e) hbr
 refine ⟨t,pt,gt (λ_=>.non) (Any _) _ _ (λ_=>False) (ds.map some) (λd _=>kk d) _ (SR.readonly rfl ?_ λi d hli=>?_) (hr ds kk hgk) λv H2 W2 d ρ2 F2 pp hk hn=>?_⟩
 ·have:=repR.length
  simp at this ⊢
  omega
 ·have hli':ds[i]? = some d:=by
   have:=X1 hli
   rw [List.getElem?_map] at this
   cases e:ds[i]? with
   | none=>rw [e] at this;cases this
   | some d'=>rw [e] at this;simp at this;rw [this]
  obtain ⟨v,B,h1,h2,_⟩:=repR.get hli'
  refine ⟨rfl,v,B,?_,h2⟩
  rw [show some y::xs.map some=(y::xs).map some from rfl,List.getElem?_map,h1];rfl
 ·refine q v (putC H2 H (cl.map (·.2))) d F2 ⟨λb ob e=>?_,?_,(pp.own rfl).1,λa ha=>?_⟩ hk
  ·by_cases hb':b∈cl.map (·.2)
   ·rw [Qby hb'];exact e
   ·rw [Yc hb'];exact pp.fr.keep b ob (by rw [Jq hb'];exact e) λz=>z
  ·exact pp.rep.same λb ob e=>by rw [Yc λhb'=>by rw [hn b hb'] at e;cases e];exact e
  ·obtain ⟨ob,e1,_⟩:=pp.rep.dom a ha
   have:a∉cl.map (·.2):=λhb'=>by rw [hn a hb'] at e1;cases e1
   have:=((pp.own rfl).2 a ha).1
   rwa [Jq ‹_›] at this
end
end PV
namespace PV
open PySem PySem.Spec L2
def lsOf (d:D) (k:List D->Prop):Prop:=match d with
 | .lst xs=>k xs
 | _=>False
theorem hu66 (r:Room k A):A.units+66<cLine:=by have:=r.un;omega
theorem V9:∀{ds:List D} {i:Nat},(Jf ds)[i]? = ds[i]?.map Ja
 | [],_=>by simp [Jf]
 | d::r,0=>by simp [Jf]
 | d::r,i+1=>by simpa [Jf] using V9 (ds:=r) (i:=i)
section
variable {q:Pos}
def Qb9:GM
 | .lst xs,[d],k=>Yh 9 xs=true/\eqOk 9 d=true/\d.pure=true/\∃i:Nat,xs[i]? = some d/\(∀j e,j<i->xs[j]? = some e->e≠d)/\k .non (.lst (xs.eraseIdx i))
 | _,_,_=>False
theorem Qfi (hu:X.A.units+66<cLine):MtD X "list.remove" Qb9:=by
 refine ⟨_,Qfe hu,λH d ds v xs F G k Q r nd rs ndG dis g q=>?_⟩
 cases d with
 | lst es =>
  cases ds with
  | nil=>exact (show False from g).elim
  | cons d ds =>
   cases ds with
   | cons _ _=>exact (show False from g).elim
   | nil =>
    obtain ⟨u,rfl,rd⟩:=rs.at1
    cases r with
    | @lst l ys _ F e r9 =>
     obtain ⟨h1,h2,hp,i,hi,hno,g⟩:=g
     obtain ⟨nl,nd⟩:=List.nodup_cons.mp nd
     obtain ⟨y,A,B,C,hy,hF,rB,rA,rC⟩:=r9.split hi
     have sub:=sub3 hF
     have nAC:l∉A++C:=λh=>nl (sub.subset h)
     refine ⟨l,ys,u,Jf es,Ja d,9,i,rfl,rfl,e,r9.dv 9 h1,rd.dv 9 h2,λe' he'=>?_,Z1 9 d h2,Nat.le_refl _,by rw [V9,hi];rfl,λj e' hj he' z=>?_,?_⟩
     ·exact List.all_eq_true.mp (Vz 9 es h1) e' he'
     ·rw [V9] at he'
      obtain ⟨e2,he2,rfl⟩:=Option.map_eq_some_iff.mp he'
      exact hno j e2 hj he2 (Vp 9 9 e2 d (Qba.mp h1 e2 (List.mem_of_getElem? he2)) h2 z)
     ·refine q .non l _ .non _ (l::(A++C)) List.mem_cons_self rfl (.lst Qg ?_) (List.nodup_cons.mpr ⟨nAC,nd.sublist sub⟩) (λa ha=>?_) .non g
      ·rw [Uu,Uu]
       exact (rA.append rC).upd e rfl nAC
      ·rcases List.mem_cons.mp ha with rfl | ha
       ·exact .inl List.mem_cons_self
       ·exact .inl (List.mem_cons_of_mem _ (sub.subset ha))
 | _=>exact (show False from g).elim
theorem Qdr {k:D->D->Prop}:Qb9 (.lst xs) [d] k=(Yh 9 xs=true/\eqOk 9 d=true/\d.pure=true/\∃i:Nat,xs[i]? = some d/\(∀j e,j<i->xs[j]? = some e->e≠d)/\k .non (.lst (xs.eraseIdx i))):=rfl
end
end PV
namespace L2
open PySem PySem.Spec PyProof.Rows
open PySem.W (Dat kqdP kqdPs kqdOk)
mutual
inductive DVF (K:PySem.W.Frag) (H:Hp):V->Dat->Prop
 | non:DVF K H .non .none
 | int (i:Int):DVF K H (.int i) (.int i)
 | str (x:Str):DVF K H (.str x) (.str x)
 | tup {a:Addr} {xs:List V} {ds:List Dat} (e:SqT K H a xs) (r:DVFs K H xs ds):DVF K H (.ref a) (.tuple ds)
 | lst {a:Addr} {xs:List V} {ds:List Dat} (e:SqL K H a xs) (r:DVFs K H xs ds):DVF K H (.ref a) (.list ds)
inductive DVFs (K:PySem.W.Frag) (H:Hp):List V->List Dat->Prop
 | nil:DVFs K H [] []
 | cons {x:V} {d:Dat} {xs:List V} {ds:List Dat} (h:DVF K H x d) (r:DVFs K H xs ds):DVFs K H (x::xs) (d::ds)
end
mutual
theorem DVF.reads {pins:List (Addr × Obj)} {σ:St} {H:Hp} {s:Shared} (I:Inv X pins σ H s):∀{x:V} {d:Dat} {u:Value},DVF X.K H x d->RelV x u->∃as,Reads s.heap u (kqdP d) as
 | _,_,_,.non,r=>by cases r;exact ⟨_,by rw [kqdP];exact Reads.none⟩
 | _,_,_,.int i,r=>by obtain ⟨t,rfl⟩:=r;exact ⟨_,by rw [kqdP];exact Reads.int i t⟩
 | _,_,_,.str x,r=>by obtain ⟨t,rfl⟩:=r;exact ⟨_,by rw [kqdP];exact Reads.str x t⟩
 | _,_,_,.tup e q,r=>by
  cases r
  obtain ⟨its,rv,⟨o,h1,h2,n,h3⟩,_⟩:=I.tuple e
  obtain ⟨as,z⟩:=DVFs.reads I q rv
  rw [kqdP]
  exact ⟨as,reads_tuple_at h1 h2 h3 (by simpa using z)⟩
 | _,_,_,.lst e q,r=>by
  cases r
  obtain ⟨its,rv,⟨o,n,h1,h2,_,h3⟩,_⟩:=I.list e
  obtain ⟨as,z⟩:=DVFs.reads I q rv
  rw [kqdP]
  exact ⟨_,reads_list_at h1 h2 h3 (by simpa using z)⟩
theorem DVFs.reads {pins:List (Addr × Obj)} {σ:St} {H:Hp} {s:Shared} (I:Inv X pins σ H s):∀{xs:List V} {ds:List Dat} {us:List Value},DVFs X.K H xs ds->Vals xs us->∃as,ReadsAll s.heap us (kqdPs ds) as
 | _,_,_,.nil,r=>by cases r;exact ⟨_,by rw [kqdPs];exact ReadsAll.nil⟩
 | _,_,_,.cons p q,r=>by
  cases r with
  | cons r1 r2 =>
   obtain ⟨as,z⟩:=DVF.reads I p r1
   obtain ⟨bs,y⟩:=DVFs.reads I q r2
   rw [kqdPs]
   exact ⟨_,ReadsAll.cons z y⟩
end
def Qnw (K:PySem.W.Frag) (neg:Bool):R2:=λx y H Q=>∃d e n,DVF K H x d/\DVF K H y e/\kqdOk n d=true/\kqdOk n e=true/\n<=9/\((d=e->Q (.bl (!neg)) H)/\(d≠e->Q (.bl neg) H))
theorem Ql6 (hu:X.A.units+64<cLine):OpR X (compareOp .NotEq) (Qnw X.K true):=by
 classical
 intro pins s σ H x y v u Q I rx ry h
 obtain ⟨d,e,n,dx,dy,hd,he,hn,q1,q2⟩:=h
 obtain ⟨as,ra⟩:=dx.reads I rx
 obtain ⟨bs,rb⟩:=dy.reads I ry
 refine ne_dataH ra rb (Jp hd hn) (Jp he hn) hu ?_
 rw [X6 hd he]
 by_cases hq:d=e
 ·rw [decide_eq_true hq];exact ⟨.bl false,H,I,rfl,q1 hq⟩
 ·rw [decide_eq_false hq];exact ⟨.bl true,H,I,rfl,q2 hq⟩
end L2
variable {a:PySem.Addr}
namespace PV
open PySem PySem.Spec L2 PyProof.Rows
section
variable {a b:Expr} {q:Pos}
mutual
def nF:D->D
 | .tup xs=>.tup (nFs xs)
 | .lst xs=>.lst (nFs xs)
 | .kls xs=>.lst (nFs xs)
 | .non=>.non
 | .int i=>.int i
 | .str x=>.str x
 | _=>.ty .int
def nFs:List D->List D
 | []=>[]
 | d::r=>nF d::nFs r
end
theorem Xx:∀xs:List D,nFs xs=xs.map nF
 | []=>by rw [nFs];rfl
 | d::r=>by rw [nFs,Xx r];rfl
theorem Rep.dvF:∀(n:Nat) {d:D} {v:V} {F:List Addr},Rep K H d v F->eqOk n (nF d)=true->DVF K H v (Ja (nF d)):=by
 intro n
 induction n with
 | zero =>
  intro d v F r q
  cases d with
  | tup ds=>rw [nF] at q;simp [eqOk] at q
  | lst ds=>rw [nF] at q;simp [eqOk] at q
  | kls ds=>rw [nF] at q;simp [eqOk] at q
  | non=>cases r;rw [nF,Ja];exact .non
  | int i=>cases r;rw [nF,Ja];exact .int _
  | str i=>cases r;rw [nF,Ja];exact .str _
  | _=>simp [nF,eqOk] at q
 | succ n ih =>
  have all:∀{ds:List D} {xs:List V} {F:List Addr},Reps K H ds xs F->Yh n (nFs ds)=true->DVFs K H xs (Jf (nFs ds)):=by
   intro ds
   induction ds with
   | nil=>intro xs F r _;cases r;rw [nFs,Jf];exact .nil
   | cons c ks ih2 =>
    intro xs F r q
    cases r with
    | cons h r =>
     rw [nFs,Yh,Bool.and_eq_true] at q
     rw [nFs,Jf]
     exact .cons (ih h q.1) (ih2 r q.2)
  intro d v F r q
  cases d with
  | tup ds =>
   cases r with
   | tup e r=>rw [nF] at q ⊢;rw [eqOk] at q;rw [Ja];exact .tup (.of e) (all r q)
  | lst ds =>
   cases r with
   | lst e r=>rw [nF] at q ⊢;rw [eqOk] at q;rw [Ja];exact .lst (.of e) (all r q)
  | kls ds =>
   cases r with
   | kls e r=>rw [nF] at q ⊢;rw [eqOk] at q;rw [Ja];exact .lst e.sq (all r q)
  | non=>cases r;rw [nF,Ja];exact .non
  | int i=>cases r;rw [nF,Ja];exact .int _
  | str i=>cases r;rw [nF,Ja];exact .str _
  | _=>simp [nF,eqOk] at q
def dNeF:G2:=λa b k=>eqOk 9 (nF a)=true/\eqOk 9 (nF b)=true/\(nF a=nF b->k (.bl false))/\(nF a≠nF b->k (.bl true))
theorem Qc2 (hu:X.A.units+64<cLine):OpD X (compareOp .NotEq) dNeF:=by
 refine ⟨_,Ql6 hu,λH a b x y F1 F2 k Q ra rb g q=>?_⟩
 obtain ⟨h1,h2,g1,g2⟩:=g
 refine ⟨Ja (nF a),Ja (nF b),9,ra.dvF 9 h1,rb.dvF 9 h2,Z1 9 _ h1,Z1 9 _ h2,Nat.le_refl _,λe=>?_,λe=>?_⟩
 ·exact q _ _ _ _ (.flat (.bl false)) (g1 (Vp 9 9 _ _ h1 h2 e))
 ·exact q _ _ _ _ (.flat (.bl true)) (g2 λz=>e (by rw [z]))
end
end PV
namespace L2
open PySem PySem.Spec PyProof.Rows
open PySem.Sem (wp)
def DK (h h':Heap):Prop:=∀b o,h.get? b=some o->∃o',h'.get? b=some o'/\o'.dict=o.dict/\∀vs,o.data=.fields vs->∃vs':Array Value,o'.data=.fields vs'/\vs'[2]? = vs[2]?
structure KD {α:Type} (t:Sem α):Prop where
 out:∀(M:Model) (Γ:PySem.Ctx) (Q:α->Pos->Shared->Prop) (E:Value->Pos->Shared->Prop) (p:Pos) (s:Shared),wp M Γ t Q E p s->wp M Γ t (λa p' s'=>Q a p' s'/\DK s.heap s'.heap) (λe p' s'=>E e p' s'/\DK s.heap s'.heap) p s
end L2
namespace L2
open PySem PySem.Spec PyProof.Rows
open PySem.W (findIn subIn mroIn clsIn Looks looks_findIn looks_subIn)
open Builtin Builtin.ObjectAttr
abbrev Qok (C t:Addr) (dx:Option Addr):Obj:={ cls:=.ref C,dict:=dx,data:=.fields #[.ref t,.none,.none,.none,.bool false,.none] }
end L2
namespace L2
open PySem PySem.Spec PyProof.Rows
open PySem.W (findIn subIn mroIn clsIn Looks looks_findIn looks_subIn hideAll of_hideAll hideAll_get hideAll_none funFrames_hide)
def exO (a C:Addr) (dx:Option Addr):HO:=.ext λh=>∃t,h.get? a=some (Qok C t dx)
section
variable {attr:Str} {d:Addr}
def spI (K:PySem.W.Frag) (C:Addr) (attr:Str):Sp:=λvs H Q _=>∃a v,vs=[.ref a,v]/\H a=some (exO a C none)/\∀d,H d=none->d≠a->Q .non (upd (upd H a (exO a C (some d))) d (.xd [(attr,v)]))
end
end L2
namespace PV
open PySem PySem.Spec L2
open PyProof.Rows (envOfC)
abbrev XC:=D->Env->Prop
abbrev WX:=Env->(D->Env->Prop)->XC->Prop
abbrev WAX:=Env->(List D->Env->Prop)->XC->Prop
end PV
namespace L2
open PySem PySem.Spec PyProof.Rows
def Qjc:V->List V->Hp->VK->Prop:=λx vs H Q=>∃(a:Addr) (ns:List Int) (n:Int),x=.ref a/\vs=[.int n]/\H a=some (.lst (ns.map V.int))/\Q (.int (ns.count n)) H
theorem Qff:MtM X "list.count" Qjc:=by
 intro pins s σ H x vs v us Q I rx rv h
 obtain ⟨a,ns,n,rfl,rfl,hH,q⟩:=h
 cases rx
 obtain ⟨u,rfl,t,rfl⟩:=rv.one
 obtain ⟨hz,its,c,r',e1⟩:=I.hok a _ hH
 have hi:=Qc7 r'
 refine call_meets PySem.F.slot_list_count ⟨_,e1,rfl⟩ PySem.F.entry_list_count (PySem.F.args_list_count_2 _ _) (SeqAt.list_countAt a its.toArray c none #[] (.int n t) (isN n)) ⟨e1,λy hy=>?_,?_⟩
 ·obtain ⟨m,tk,rfl⟩:=Qfs hi y (by simpa using hy)
  exact SeqAt.EqAt.int_int m tk n t
 ·refine ⟨.int (ns.count n),H,I.tok _,⟨s.toks,?_⟩,q⟩
  rw [show its.toArray.toList=its from rfl,Gk hi]
end L2
namespace PV
open PySem PySem.Spec L2
section
variable {T:Tg}
def lcOf (d:D) (ds:List D) (k:D->Prop):Prop:=match d,ds with
 | .lst xs,[.int n]=>∃ns:List Int,xs=ns.map D.int/\k (.int (ns.count n:Nat))
 | _,_=>False
def isLs:D->Bool
 | .lst _=>true
 | _=>false
def Qbs (w:WE) (wr:WA):WE:=λρ Q=>w ρ λd ρ1=>isLs d=true/\wr ρ1 λds ρ2=>lcOf d ds λr=>Q r ρ2
theorem Qf0 {oe:Expr} (ho:EV X T false o oe w) (ha:AV X T false o2 [e] wr)
  (hbase:attributeBase oe "count" X.env (eval oe X.env)=eval oe X.env:=by rfl)
  (hfew:((backTo cpos (starEach [e] X.env)).all (λx=>!x.1) && (backToKw cpos (keywordEach [] X.env)).all (λx=>x.1.isSome)
   && decide (([e]:List Expr).length+([]:List Keyword).length+(if ([]:List Keyword).isEmpty then 0 else 1)<30))=true:=by rfl)
  (hline:(apos.endLine == cpos.line)=true:=by rfl) (hs:starEach [e] X.env=(false,eval e X.env)::starEach [] X.env:=by rfl) (hplain:(backTo cpos (starEach [] X.env)).any (·.1)=false:=by rfl) :
  EV X T false true (.Call (.Attribute oe "count" apos) [e] [] cpos) (Qbs w wr):=by
 obtain ⟨te,pe,ge⟩:=ho
 obtain ⟨ta,pa,ga⟩:=ha
 refine ⟨_,Qhb PySem.F.plainAttrs_list PySem.F.slot_list_count PySem.F.type_list_count Qff pe pa hbase hfew hline hs hplain,λz R σ H W ρ Q Q' s hw k=>?_⟩
 refine ge z R σ H W ρ _ _ s hw λv1 H1 W1 d1 ρ1 F1 p q1=>?_
 obtain ⟨hft,q1⟩:=q1
 cases d1 <;> try (simp [isLs] at hft;done)
 rename_i xs
 have rp:=p.rep
 obtain ⟨c1,c2,c3⟩:=p.calm rfl
 subst c2 c3
 obtain ⟨a,ys,G,rfl,rfl,e1,r3⟩:=rp.iLst
 refine ⟨.inl ⟨rfl,_,.of e1⟩,ga z R σ H1 _ _ _ _ p.sr q1 λvs H2 W2 ds ρ2 F2 q q2=>?_⟩
 obtain ⟨b1,b2,b3⟩:=q.calm rfl
 subst b2 b3
 match ds,q.rep,q2 with
 | [.int n],rq,q3 =>
  obtain ⟨ns,rfl,q4⟩:=q3
  obtain ⟨u,rfl,ru⟩:=rq.at1
  cases ru
  obtain ⟨rfl,-⟩:=r3.of_ints
  exact ⟨_,ns,n,rfl,rfl,b1 _ _ e1,k _ H2 _ _ _ [] (Post.flat (s.same (c1.trans b1)) (FrW.same _ (c1.trans b1)) (λ_=>⟨c1.trans b1,rfl,rfl⟩) (.int _)) q4⟩
end
end PV
variable {j:Nat} {ks:List Nat}
namespace PV
open PySem PySem.Spec L2
open PyProof.Rows (envOfC)
theorem Qm3 (r:Room k A):A.in1.units<cLine:=by
 have:=r.un
 show A.units+1<cLine
 omega
section
variable {T:Tg}
def Qde:GA
 | [.lst xs],k=>∃ns:List Int,xs=ns.map D.int/\ns.length<64/\∀out:List Int,out.Perm ns->out.Pairwise (· <= ·)->k (.lst (out.map D.int))
 | _,_=>False
theorem Qdk:Gy X (.builtin "sorted") Qde:=by
 refine ⟨_,Qd2,λH ds xs F k Q r g q=>?_⟩
 cases ds with
 | nil=>exact (show False from g).elim
 | cons d ds =>
  cases ds with
  | cons _ _=>cases d <;> exact (show False from g).elim
  | nil =>
   cases d with
   | lst es =>
    obtain ⟨v,rfl,rd⟩:=r.at1
    obtain ⟨ns,rfl,h64,g⟩:=g
    obtain ⟨a,vs,G,rfl,rfl,e,r9⟩:=rd.iLst
    obtain ⟨rfl,_⟩:=r9.of_ints
    refine ⟨_,ns,rfl,e,h64,λout D hp ho hD=>?_⟩
    exact q _ _ _ [D] ⟨Qh hD,.lst Qg (Reps.ints out),by simp,λc m=>by rw [List.mem_singleton.mp m];exact hD⟩ (g out hp ho)
   | _=>exact (show False from g).elim
theorem Qaq {k:D->Prop}:Qde [.lst xs] k=∃ns:List Int,xs=ns.map D.int/\ns.length<64/\∀out:List Int,out.Perm ns->out.Pairwise (· <= ·)->k (.lst (out.map D.int)):=rfl
abbrev tpI (ns:List Int):D:=.tup (ns.map .int)
def Qkf:GA
 | [.lst xs],k=>∃ks:List (List Int),xs=ks.map tpI/\ks≠[]/\∀y,ks[argBest (btK λj=>ks.getD j []) (ks.length-1)]? = some y->k (tpI y)
 | _,_=>False
theorem Qg1 {k:D->Prop}:Qkf [.lst xs] k=∃ks:List (List Int),xs=ks.map tpI/\ks≠[]/\∀y,ks[argBest (btK λj=>ks.getD j []) (ks.length-1)]? = some y->k (tpI y):=rfl
theorem Reps.at_tps {ks:List (List Int)} (r:Reps K H (ks.map tpI) vs F) {y:V} (h:vs[j]? = some y):∃a,y=.ref a/\∃k,ks[j]? = some k/\H a=some (.tup (k.map V.int)):=by
 have hj:j<ks.length:=by
  have:=r.length
  rw [List.length_map] at this
  rw [← this];exact (List.getElem?_eq_some_iff.mp h).1
 obtain ⟨x,B,h1,h2,_⟩:=r.get (i:=j) (d:=tpI ks[j]) (by rw [List.getElem?_map,List.getElem?_eq_getElem hj];rfl)
 rw [h] at h1;cases h1
 obtain ⟨a,xs,rfl,e,rr⟩:=h2.iTup
 obtain ⟨rfl,_⟩:=rr.of_ints
 exact ⟨a,rfl,_,List.getElem?_eq_getElem hj,e⟩
theorem Z4 (bt:Nat->Nat->Bool):∀n,argBest bt n<=n
 | 0=>Nat.le_refl _
 | n+1=>by
  unfold argBest
  split
  ·exact Nat.le_refl _
  ·exact Nat.le_succ_of_le (Z4 bt n)
theorem Qkm (hu:X.A.in1.units<cLine) (hc:X.calm=true:=by rfl):Gy X (.builtin "min") Qkf:=by
 refine ⟨_,Qge hc hu,λH ds xs F k Q r g q=>?_⟩
 cases ds with
 | nil=>exact (show False from g).elim
 | cons d ds =>
  cases ds with
  | cons _ _=>cases d <;> exact (show False from g).elim
  | nil =>
   cases d with
   | lst es =>
    obtain ⟨v,rfl,rd⟩:=r.at1
    obtain ⟨ks,rfl,hne,g⟩:=g
    obtain ⟨a,vs,G,rfl,rfl,e,r9⟩:=rd.iLst
    have hl:=r9.length
    rw [List.length_map] at hl
    have hp:0<ks.length:=List.length_pos_iff.mpr hne
    refine ⟨a,vs,λj=>ks.getD j [],rfl,e,by omega,λj y hy=>?_,λHn y sm hy=>?_⟩
    ·obtain ⟨b,rfl,kk,h1,h2⟩:=r9.at_tps hy
     exact ⟨b,rfl,by simp only [List.getD_eq_getElem?_getD,h1];exact h2⟩
    ·obtain ⟨b,rfl,kk,h1,h2⟩:=r9.at_tps hy
     rw [hl] at h1
     exact q _ _ _ [] ⟨sm,.tup (sm _ _ h2) (Reps.ints kk),by simp,λc m=>nomatch m⟩ (g kk h1)
   | _=>exact (show False from g).elim
def Qis (g:GA) (L:Lam) (ix:List Nat) (w:WE):WE:=λρ Q=>w ρ λd ρ1=>oget (Qd1 ρ1 ix) λcs=>∃(ns:List Int) (ks:Nat->List Int),d=.lst (ns.map .int)/\ns≠[]/\(∀j n,ns[j]? = some n->g (.int n::cs) λr=>r=tpI (ks j)) /\
 ∀y,ns[argBest (btK ks) (ns.length-1)]? = some y->Q (.int y) ρ1
theorem Qj9 (F:Qae X.prog X.w X.K X.mg X.base k L (spR X.K g)) (hr:Room (k+1) X.A) (hm:X.mg x=none) (hv:bootBuiltins x=some (.builtin "min")) (he:EV X T m o e w)
  (hlam:PE X lam (λσ H Q=>∀f H',H f=none->Same H H'->V6 H' L f clos->Q (.ref f) H')) (hc:Qaf X ix clos) (hn:clos.map (·.1)=L.names) (hnd:(clos.map (·.2)).Nodup) (hg:Gl X x:=by rfl) (hn0:x ≠ "__name__":=by decide) (hdb:(x == ("__debug__" : Str))=false:=by decide)
  (hs:starEach [e] X.env=(false,eval e X.env)::starEach [] X.env:=by rfl) (hs0:backTo pos (starEach [e] X.env)=(false,eval e X.env)::backTo pos (starEach [] X.env):=by rfl) (hpl:(backTo pos (starEach [e] X.env)).any (·.1)=false:=by rfl) :
  EV X T m true (.Call (.Name x p) [e] [⟨some "key",lam,kp⟩] pos) (Qis g L ix w):=by
 obtain ⟨te,pe,ge⟩:=he
 refine ⟨_,Qe1 F hr hg hm hv pe hlam hc hn hnd hn0 hdb hs hs0 hpl,λz R σ H W ρ Q Q' s hw k=>?_⟩
 refine ge z R σ H W ρ _ _ s hw λy H1 W1 d ρ1 F1 pp q=>?_
 obtain ⟨cs,hcs,ns,ks,rfl,hne,hk,hq⟩:=Ql q
 obtain ⟨xs,Fc,cx,rc⟩:=Xk pp.sr hcs
 obtain ⟨a,vs,G,rfl,rfl,e,r9⟩:=pp.rep.iLst
 obtain ⟨rfl,_⟩:=r9.of_ints
 refine ⟨a,_,xs,ks,rfl,e,by rw [List.length_map];exact List.length_pos_iff.mpr hne,cx,λj y Hj HA hy smj smA=>?_,λHn y sm hy=>?_⟩
 ·rw [List.getElem?_map] at hy
  cases hj:ns[j]? with
  | none=>rw [hj] at hy;cases hy
  | some n =>
   rw [hj] at hy;cases hy
   refine ⟨.int n::cs,_,_,.cons (.int n) (rc.same (smj.trans smA)),hk j n hj,λv H3 dd F' fi hd H4 h4 h5=>?_⟩
   subst hd
   obtain ⟨b,ys,rfl,eb,rb⟩:=fi.rep.iTup
   obtain ⟨rfl,_⟩:=rb.of_ints
   exact ⟨b,rfl,h4 b _ eb (λ_ _ z=>by cases z),λc ob ec=>h5 c ob ec (fi.same c ob (smA c ob ec))⟩
 ·rw [List.length_map,List.getElem?_map] at hy
  cases hj:ns[argBest (btK ks) (ns.length-1)]? with
  | none=>rw [hj] at hy;cases hy
  | some n =>
   rw [hj] at hy;cases hy
   exact k _ Hn W1 (.int n) ρ1 [] (Post.fin pp.sr pp.fr pp.calm sm (.int n) List.nodup_nil λa ha=>nomatch ha) (hq n hj)
end
section
variable {T:Tg} {q:Pos} {kx:Str}
def Qea (i j:Nat):WE:=λρ Q=>match look ρ i with
 | some (.kc (.any a))=>∃(ds:List D) (n:Nat) (k:D) (xs:List D),look ρ j=some (.lst ds)/\ds[n]? = some (.tup [k,.lsa a xs])/\Q (.lst xs) ρ
 | some d=>Q d ρ
 | none=>False
theorem Rep.iLsa (r:Rep K H (.lsa a ds) v F):∃xs G,v=.ref a/\F=a::G/\H a=some (.lst xs)/\Reps K H ds xs G:=by cases r with | lsa e r=>exact ⟨_,_,rfl,rfl,e,r⟩
theorem Qfy (hN:X.N[i]? = some x:=by rfl) (hv:Vis X.env.scope x:=by first | exact Or.inl rfl | exact Or.inr (Or.inl rfl) | exact Or.inr (Or.inr rfl)) (hd:(x == ("__debug__" : Str))=false:=by decide) (hcd:(x == ("__classdict__" : Str))=false:=by decide) :
  EV X T false false (.Name x pos) (Qea i j):=by
 refine ⟨_,Y1 hN hv hd hcd,λz R σ H W ρ Q Q' s hw k=>?_⟩
 unfold Qea at hw
 obtain ⟨fp,s0⟩:=id s
 split at hw
 ·rename_i a hl
  obtain ⟨ds,n,kk,xs,hj,hn,hq⟩:=hw
  obtain ⟨v,h1,h2⟩:=s0.at_ i _ hl
  obtain ⟨u,h3,h4⟩:=s0.at_ j _ hj
  have ev:v=.ref a:=by
   generalize fp i=Fi at h2
   cases h2 with | kc h=>cases h;rfl
  subst ev
  obtain ⟨l,ys,G,rfl,hF,e1,r1⟩:=h4.iLst
  obtain ⟨w2,B,g1,g2,_⟩:=r1.get hn
  obtain ⟨t,zs,rfl,e2,r2⟩:=g2.iTup
  obtain ⟨v1,v2,F1,F2,rfl,r3,r4⟩:=r2.at2
  obtain ⟨ws,G2,rfl,rfl,e3,r5⟩:=r4.iLsa
  exact ⟨_,h1,k _ H W (.lst xs) ρ _ ⟨s,FrW.refl H W,λ_=>⟨Same.refl _,rfl,rfl⟩,.lst e3 r5,λh=>nomatch h⟩ hq⟩
 ·rename_i d _ hl
  obtain ⟨v,h1,h2⟩:=s0.at_ i _ hl
  exact ⟨_,h1,k _ H W d ρ _ ⟨s,FrW.refl H W,λ_=>⟨Same.refl _,rfl,rfl⟩,h2,λh=>nomatch h⟩ hw⟩
 ·exact hw.elim
def Qeg (i c j:Nat):WS:=λP ρ=>oget (look ρ i) λdr=>lsOf dr λxs=>xs.length<sizeLine/\oget (look ρ c) λdk=>dk.pure=true/\oget (look ρ j) λdf=>lsOf df λfs =>
 ∀a,P.nx ((ρ.set j (some (.kc (.any a)))).set i (some (.lst (xs++[.tup [dk,.lsa a fs]]))))
theorem Xz {k:List D->Prop} (h:lsOf d k):∃xs,d=.lst xs/\k xs:=by
 cases d with
 | lst xs=>exact ⟨xs,rfl,h⟩
 | _=>exact (show False from h).elim
theorem Qgs {c tc:Nat} {ap cp tp:Pos} (hij:i≠j:=by decide) (ti:T.own i=true:=by rfl) (tj:T.own j=true:=by rfl) (hi:X.N[i]? = some x:=by rfl) (hk:X.N[c]? = some kx:=by rfl) (hj:X.N[j]? = some y:=by rfl)
  (hv:Vis X.env.scope x:=by first | exact Or.inl rfl | exact Or.inr (Or.inl rfl) | exact Or.inr (Or.inr rfl)) (hd:(x == ("__debug__" : Str))=false:=by decide) (hcd:(x == ("__classdict__" : Str))=false:=by decide)
  (hv1:Vis X.env.scope kx:=by first | exact Or.inl rfl | exact Or.inr (Or.inl rfl) | exact Or.inr (Or.inr rfl)) (hd1:(kx == ("__debug__" : Str))=false:=by decide) (hcd1:(kx == ("__classdict__" : Str))=false:=by decide)
  (hv2:Vis X.env.scope y:=by first | exact Or.inl rfl | exact Or.inr (Or.inl rfl) | exact Or.inr (Or.inr rfl)) (hd2:(y == ("__debug__" : Str))=false:=by decide) (hcd2:(y == ("__classdict__" : Str))=false:=by decide)
  (b2:attributeBase (.Name x p) "append" X.env (eval (.Name x p) X.env)=eval (.Name x p) X.env:=by rfl)
  (f2:((backTo cp (starEach [.Tuple [.Name kx kp,.Name y q] tc tp] X.env)).all (λx=>!x.1) && (backToKw cp (keywordEach [] X.env)).all (λx=>x.1.isSome)
   && decide (([.Tuple [.Name kx kp,.Name y q] tc tp]:List Expr).length+([]:List Keyword).length+(if ([]:List Keyword).isEmpty then 0 else 1)<30))=true:=by rfl)
  (l2:(ap.endLine == cp.line)=true:=by rfl) (s2:starEach [.Tuple [.Name kx kp,.Name y q] tc tp] X.env=(false,eval (.Tuple [.Name kx kp,.Name y q] tc tp) X.env)::starEach [] X.env:=by rfl) (q2:(backTo cp (starEach [] X.env)).any (·.1)=false:=by rfl)
  (s3:starEach [.Name kx kp,.Name y q] X.env=(false,eval (.Name kx kp) X.env)::starEach [.Name y q] X.env:=by rfl) (s4:starEach [.Name y q] X.env=(false,eval (.Name y q) X.env)::starEach [] X.env:=by rfl)
  (hs:swapsWith (.Call (.Attribute (.Name x p) "append" ap) [.Tuple [.Name kx kp,.Name y q] tc tp] [] cp) none pos.line X.env=pure false:=by rfl) :
  SV X T (.Expr (.Call (.Attribute (.Name x p) "append" ap) [.Tuple [.Name kx kp,.Name y q] tc tp] [] cp) pos) (Qeg i c j):=by
 refine ⟨_,Qbz (Qhb PySem.F.plainAttrs_list PySem.F.slot_list_append PySem.F.type_list_append U7 (Y1 hi hv hd hcd) (Vf (Qih (Vf (Y1 hk hv1 hd1 hcd1) (Vf (Y1 hj hv2 hd2 hcd2) Qav s4) s3)) Qav s2) b2 f2 l2 s2 q2) hs,λz R σ H W ρ P E s hw l=>?_⟩
 obtain ⟨dr,hl0,hw⟩:=Ql hw
 obtain ⟨xs,rfl,hz,hw⟩:=Xz hw
 obtain ⟨dk,hlk,pk,hw⟩:=Ql hw
 obtain ⟨df,hlj,hw⟩:=Ql hw
 obtain ⟨fs,rfl,qn⟩:=Xz hw
 obtain ⟨fp,s0⟩:=s
 obtain ⟨v0,hv0,r0⟩:=s0.at_ i _ hl0
 obtain ⟨vk,hvk,rk⟩:=s0.at_ c _ hlk
 obtain ⟨vj,hvj,rj⟩:=s0.at_ j _ hlj
 obtain ⟨nd0,sw0⟩:=s0.own i _ hl0 ti
 obtain ⟨ndj,swj⟩:=s0.own j _ hlj tj
 have dij:=s0.dis i j _ _ hl0 hlj ti tj hij
 obtain ⟨l0,ys,G,rfl,hF,e0,rG⟩:=r0.iLst
 obtain ⟨aj,ws,Gj,rfl,hFj,ej,rGj⟩:=rj.iLst
 obtain ⟨_,rk0⟩:=rk.pure pk
 refine ⟨_,hv0,.inl ⟨rfl,_,.of e0⟩,vk,hvk,.ref aj,hvj,(by show 2<=sizeLine;decide),λt ht=>?_⟩
 have sm1:Same H (upd H t (.tup [vk,.ref aj])):=Qh ht
 have hl0t:l0≠t:=λh=>by rw [h,ht] at e0;cases e0
 refine ⟨l0,ys,.ref t,rfl,rfl,sm1 _ _ e0,by rw [rG.length];exact hz,?_⟩
 generalize hH1:upd H t (.tup [vk,.ref aj])=H1 at sm1
 have et:H1 t=some (.tup [vk,.ref aj]):=by rw [← hH1];exact Qg
 have hm0:l0∈fp i:=by rw [hF];exact List.mem_cons_self
 have hWl:=sw0 l0 hm0
 have nl:l0∉fp j:=dij l0 hm0
 have nG:l0∉G:=by rw [hF] at nd0;exact (List.nodup_cons.mp nd0).1
 have key:∀k e,look (ρ.set j (some (.kc (.any aj)))) k=some e->(k=j/\e=.kc (.any aj))\/(k≠j/\look ρ k=some e):=λk e h=>by
  rw [Zz] at h
  split at h
  ·rename_i hh;cases h;exact .inl ⟨hh.1,rfl⟩
  ·refine .inr ⟨λz=>?_,h⟩
   subst z
   rename_i hn
   exact hn ⟨rfl,Gb hlj⟩
 have s1:SR0 X.K T z R H1 (λa=>W a/\a∉fp j) σ (ρ.set j (some (.kc (.any aj)))) (λk=>if k=j then [] else fp k):=by
  refine ⟨by rw [List.length_set];exact s0.len,λa h=>(s0.wd a h.1).imp λob q=>⟨sm1 _ _ q.1,q.2⟩,λk e h=>?_,λk e h t=>?_,λk e h t=>?_,λa h=>s0.wr a h.1,λa h=>(s0.rd a h).imp λob q=>⟨sm1 _ _ q.1,q.2⟩,λk n e e' h h' t t' hne a ha ha'=>?_,s0.fix⟩
  ·rcases key k e h with ⟨rfl,rfl⟩ | ⟨hk,h⟩
   ·exact ⟨_,hvj,by rw [if_pos rfl];exact .kc (.any aj)⟩
   ·rw [if_neg hk];exact (s0.at_ k e h).imp λv q=>⟨q.1,q.2.same sm1⟩
  ·rcases key k e h with ⟨rfl,rfl⟩ | ⟨hk,h⟩
   ·rw [if_pos rfl];exact ⟨List.nodup_nil,λa ha=>nomatch ha⟩
   ·rw [if_neg hk];exact ⟨(s0.own k e h t).1,λa ha=>⟨(s0.own k e h t).2 a ha,λha'=>s0.dis k j e _ h hlj t tj hk a ha ha'⟩⟩
  ·rcases key k e h with ⟨rfl,rfl⟩ | ⟨hk,h⟩
   ·rw [tj] at t;cases t
   ·rw [if_neg hk];exact s0.ro k e h t
  ·rcases key k e h with ⟨rfl,rfl⟩ | ⟨hk,h⟩
   ·rw [if_pos rfl] at ha;cases ha
   ·rcases key n e' h' with ⟨rfl,rfl⟩ | ⟨hn,h'⟩
    ·rw [if_pos rfl] at ha';cases ha'
    ·rw [if_neg hk] at ha;rw [if_neg hn] at ha';exact s0.dis k n e e' h h' t t' hne a ha ha'
 have hli:look (ρ.set j (some (.kc (.any aj)))) i=some (.lst xs):=by rw [Qo hij];exact hl0
 have e01:H1 l0=some (.lst ys):=sm1 _ _ e0
 have nlj:l0≠aj:=λh=>nl (by rw [hFj,h];exact List.mem_cons_self)
 have rj2:Rep X.K H1 (.lsa aj fs) (.ref aj) (fp j):=by rw [hFj];exact .lsa (sm1 _ _ ej) (rGj.same sm1)
 have rt:Rep X.K (upd H1 l0 (.lst (ys++[.ref t]))) (.tup [dk,.lsa aj fs]) (.ref t) (fp j):=by
  refine .tup (by rw [Qm (Ne.symm hl0t)];exact et) ?_
  have:=Reps.cons (K:=X.K) (H:=upd H1 l0 (.lst (ys++[.ref t]))) ((rk0.same sm1).upd e01 rfl (by simp)) (Reps.one (rj2.upd e01 rfl nl))
  simpa using this
 have rep:Rep X.K (upd H1 l0 (.lst (ys++[.ref t]))) (.lst (xs++[.tup [dk,.lsa aj fs]])) (.ref l0) (l0::(G++fp j)):=.lst Qg (((rG.same sm1).upd e01 rfl nG).snoc rt)
 have nd':(l0::(G++fp j)).Nodup:=by
  have:=Vt nd0 ndj λa ha ha'=>dij a ha' ha
  rwa [hF] at this
 have sF:=s1.write hli ti hv0 (l:=l0) (by rw [if_neg hij];exact hm0) (H':=upd H1 l0 (.lst (ys++[.ref t]))) Yr ⟨_,Qg,rfl⟩ rep nd' (λa ha=>by
  rcases List.mem_cons.mp ha with rfl | ha
  ·exact .inl (by rw [if_neg hij];exact hm0)
  ·rcases List.mem_append.mp ha with ha | ha
   ·exact .inl (by rw [if_neg hij,hF];exact List.mem_cons_of_mem _ ha)
   ·exact .inr ⟨λh=>h.2 ha,s0.wr a (swj a ha)⟩)
 have fr1:FrW H W H1 W:=FrW.same W sm1
 refine l.nx R σ _ _ _ sF (fr1.trans ⟨λb ob e nb=>Yr b ob e λz=>nb (by rw [z];exact hWl),λb e=>?_,Vh e01 rfl,λb hb=>.inl ?_⟩) (qn aj)
 ·by_cases hb:b=l0
  ·rw [hb,Qg] at e;cases e
  ·rw [Qm hb] at e;exact e
 ·rcases hb with hb | hb
  ·exact hb.1
  ·rcases List.mem_cons.mp hb with rfl | hb
   ·exact hWl
   ·rcases List.mem_append.mp hb with hb | hb
    ·exact sw0 b (by rw [hF];exact List.mem_cons_of_mem _ hb)
    ·exact swj b hb
end
abbrev pr2 (p:D × D):D:=.tup [p.1,p.2]
theorem Reps.seconds {K:PySem.W.Frag} {H:Hp}:∀{ps:List (D × D)} {xs:List V} {G:List Addr},Reps K H (ps.map pr2) xs G ->
  ∃(vs:List V) (G':List Addr),vs.length=xs.length/\(∀(i:Nat) (x:V),xs[i]? = some x->∃(t:Addr) (u v:V),x=.ref t/\vs[i]? = some v/\H t=some (.tup [u,v]))/\Reps K H (ps.map (·.2)) vs G'/\G'.Sublist G
 | [],xs,G,r=>by
  cases r
  exact ⟨[],[],rfl,λi x h=>by simp at h,.nil,List.Sublist.slnil⟩
 | p::ps,xs,G,r=>by
  rw [List.map_cons] at r
  cases r with
  | @cons _ v _ vs F G h r =>
   obtain ⟨t,zs,rfl,e,r2⟩:=h.iTup
   cases r2 with
   | @cons _ u _ ws F1 F2 h1 h2 =>
    obtain ⟨w,rfl,h3⟩:=h2.at1
    obtain ⟨vs2,G',g1,g2,g3,g4⟩:=Reps.seconds r
    refine ⟨w::vs2,F2++G',by simp [g1],λi x hx=>?_,.cons h3 g3,List.Sublist.append (List.sublist_append_right _ _) g4⟩
    cases i with
    | zero=>simp at hx;subst hx;exact ⟨t,u,w,rfl,rfl,e⟩
    | succ i=>simpa using g2 i x (by simpa using hx)
section
variable {T:Tg}
def Qee (w:WE):WE:=λρ Q=>w ρ λd ρ1=>lsOf d λds=>∃ps:List (D × D),ds=ps.map pr2/\ds.length<sizeLine/\Q (.lst (ps.map (·.2))) ρ1
theorem Qhs {pz:Pos} (he:EV X T m true iter w) (B:CompB2 X scope x y []) (hc:X.calm=true:=by rfl)
  (hd:(y == ("__debug__" : Str))=false:=by decide) (hcd:(y == ("__classdict__" : Str))=false:=by decide)
  (hs:∀x,foldedSetIterable iter X.env x=pure x:=by intro _;rfl):EV X T m true (.ListComp (.Name y pz) [⟨.Tuple [.Name x px,.Name y py] kt pt,iter,[],0⟩] scope pos) (Qee w):=by
 obtain ⟨te,pe,ge⟩:=he
 have l2:∀cl C s₀ H₀ fp,(Jw X scope cl C (bN2 X.N [x,y] []) s₀ H₀ fp).env.scope.names.lookup y=some .local:=λcl C s₀ H₀ fp=>lookup_relabel_local B.B2.B.lx
 refine ⟨_,Qcz [] hc B.B1.B B.B1.hix B.nd (Qey pe) (pg2 B hc) (λcl C s₀ H₀ fp=>Qcx) (λcl C s₀ H₀ fp=>Y1 (i:=1) rfl (.inl (l2 cl C s₀ H₀ fp)) hd hcd) hs,λz R σ H W ρ Q Q' s hw k=>?_⟩
 refine ge z R σ H W ρ _ _ s hw λv H1 W1 d ρ1 F p q=>?_
 obtain ⟨ds,rfl,ps,rfl,hz,hq⟩:=Xz q
 obtain ⟨a,xs,G,rfl,rfl,e1,r1⟩:=p.rep.iLst
 obtain ⟨nd,nw⟩:=p.own rfl
 obtain ⟨vs,G',g1,g2,g3,g4⟩:=r1.seconds
 have hlen:=r1.length
 refine ⟨a,rfl,.inl ⟨⟨xs,.of e1⟩,λi n ys H2=>H2=H1/\n=xs.length-i/\i<=xs.length/\ys=vs.take i,xs.length,⟨rfl,by simp,Nat.zero_le _,by simp⟩,?_⟩⟩
 rintro i n ys H2 ⟨rfl,rfl,hi,rfl⟩
 by_cases hlt:i<xs.length
 ·refine .inr ⟨⟨xs,xs[i],.of e1,List.getElem?_eq_getElem hlt⟩,by rw [List.length_take];omega,λv H3 yl o ol=>?_⟩
  obtain ⟨rfl,yl⟩:=yl
  have hv:=yl xs (.of e1)
  obtain ⟨t,u,v2,rfl,h2,h3⟩:=g2 i v hv
  refine ⟨t,[u,v2],rfl,.of h3,rfl,u,[v2],rfl,v2,[],rfl,rfl,[some u,some v2],?_,rfl,?_⟩
  ·match o,ol with
   | [o1,o2],_=>rfl
  ·unfold tAll
   dsimp only
   rw [if_pos rfl]
   have eS:((bS2 σ o []).set 0 (some u)).set 1 (some v2)=bS2 σ [some u,some v2] []:=by
    match o,ol with
    | [o1,o2],_=>rfl
   rw [eS]
   refine ⟨v2,rfl,xs.length-(i+1),by omega,rfl,rfl,hlt,?_⟩
   rw [List.take_add_one,h2];rfl
 ·have e:i=xs.length:=by omega
  subst e
  refine .inl ⟨⟨xs,.of e1,Nat.le_refl _⟩,by rw [List.length_take];omega,λl hl=>?_⟩
  rw [List.take_of_length_le (by omega)]
  refine k _ _ W1 (.lst (ps.map (·.2))) ρ1 (l::G') ⟨p.sr.same (Qh hl),p.fr.trans (FrW.same W1 (Qh hl)),λh=>⟨(p.calm h).1.trans (Qh hl),(p.calm h).2⟩,.lst Qg (g3.same (Qh hl)),λ_=>⟨List.nodup_cons.mpr ⟨λh=>?_,g4.nodup (List.nodup_cons.mp nd).2⟩,λb hb=>?_⟩⟩ hq
  ·obtain ⟨ob,e2,_⟩:=g3.dom l h
   rw [hl] at e2;cases e2
  ·rcases List.mem_cons.mp hb with rfl | hb
   ·exact ⟨p.fr.dom _ hl,p.sr.nw hl⟩
   ·exact nw b (List.mem_cons_of_mem _ (g4.subset hb))
end
def un1:D->D
 | .tup [k,.lsa _ l]=>.tup [k,.lst l]
 | d=>d
def unA:D->D
 | .lst xs=>.lst (xs.map un1)
 | d=>d
theorem Rep.un1 {K:PySem.W.Frag} {H:Hp} {d:D} {v:V} {F:List Addr} (r:Rep K H d v F):Rep K H (un1 d) v F:=by
 unfold PV.un1
 split
 ·rename_i k a l
  obtain ⟨t,zs,rfl,e,r2⟩:=r.iTup
  cases r2 with
  | @cons _ u _ ws F1 F2 h1 h2 =>
   obtain ⟨w,rfl,h3⟩:=h2.at1
   obtain ⟨xs,G,rfl,rfl,e3,r5⟩:=h3.iLsa
   exact .tup e (.cons h1 (.one (.lst e3 r5)))
 ·exact r
theorem Reps.un1 {K:PySem.W.Frag} {H:Hp}:∀{ds:List D} {vs:List V} {F:List Addr},Reps K H ds vs F->Reps K H (ds.map PV.un1) vs F
 | [],_,_,r=>by cases r;exact .nil
 | d::ds,_,_,r=>by cases r with | cons h r=>exact .cons h.un1 r.un1
theorem Rep.unA {K:PySem.W.Frag} {H:Hp} {d:D} {v:V} {F:List Addr} (r:Rep K H d v F):Rep K H (unA d) v F:=by
 unfold PV.unA
 split
 ·obtain ⟨a,xs,G,rfl,rfl,e,r⟩:=r.iLst
  exact .lst e r.un1
 ·exact r
theorem FnOk.unA {w:World} {TB:List (Addr × Array Value)} {g':GA} (F:FnOk P w K mg base CX0 k f fd ps (spT TB (spR K g')))
  (h:∀ds kk,g ds kk->g' ds λd=>kk (PV.unA d)):FnOk P w K mg base CX0 k f fd ps (spT TB (spR K g)):=by
 have go:∀vs H Q E,spT TB (spR K g) vs H Q E->spT TB (spR K g') vs H Q E:=by
  rintro vs H Q E ⟨hT,ds,Fp,kk,rep,hg,q⟩
  exact ⟨hT,ds,Fp,_,rep,h ds kk hg,λv H' d F' fi hk=>q v H' _ F' ⟨fi.same,fi.rep.unA,fi.nd,fi.new⟩ hk⟩
 exact ⟨λvs H Q E q=>F.len vs H Q E (go vs H Q E q),λA outer s H args us vs Q E hr e b r q=>F.run A outer s H args us vs Q E hr e b r (go vs H Q E q)⟩
section
variable {T:Tg}
def wTk0 (i:Nat) (n:Int):WS:=λP ρ=>oget (look ρ i) λd=>∃(xs:List D) (ds:List D),d=.lst (.lst xs::ds)/\Qs xs=true/\xs.length<sizeLine/\P.nx (ρ.set i (some (.lst (.lst (xs++[.int n])::ds))))
theorem Qk4 {n:Int} {j1 j2} {ps1 ap2 cp2 p1:Pos} (ht:T.own i=true:=by rfl) (hN:X.N[i]? = some x:=by rfl)
  (hvis:Vis X.env.scope x:=by first | exact Or.inl rfl | exact Or.inr (Or.inl rfl) | exact Or.inr (Or.inr rfl)) (hd:(x == ("__debug__" : Str))=false:=by decide) (hcd:(x == ("__classdict__" : Str))=false:=by decide) (hs1:Qck (.Constant (.int 0) j1 p1):=by intro _ _;rfl)
  (b2:attributeBase (.Subscript (.Name x p) (.Constant (.int 0) j1 p1) ps1) "append" X.env (eval (.Subscript (.Name x p) (.Constant (.int 0) j1 p1) ps1) X.env)=eval (.Subscript (.Name x p) (.Constant (.int 0) j1 p1) ps1) X.env:=by rfl)
  (f2:((backTo cp2 (starEach [.Constant (.int n) j2 p2] X.env)).all (λx=>!x.1) && (backToKw cp2 (keywordEach [] X.env)).all (λx=>x.1.isSome)
   && decide (([.Constant (.int n) j2 p2]:List Expr).length+([]:List Keyword).length+(if ([]:List Keyword).isEmpty then 0 else 1)<30))=true:=by rfl)
  (l2:(ap2.endLine == cp2.line)=true:=by rfl) (s2:starEach [.Constant (.int n) j2 p2] X.env=(false,eval (.Constant (.int n) j2 p2) X.env)::starEach [] X.env:=by rfl) (q2:(backTo cp2 (starEach [] X.env)).any (·.1)=false:=by rfl)
  (hs:swapsWith (.Call (.Attribute (.Subscript (.Name x p) (.Constant (.int 0) j1 p1) ps1) "append" ap2) [.Constant (.int n) j2 p2] [] cp2) none pos.line X.env=pure false:=by rfl) :
  SV X T (.Expr (.Call (.Attribute (.Subscript (.Name x p) (.Constant (.int 0) j1 p1) ps1) "append" ap2) [.Constant (.int n) j2 p2] [] cp2) pos) (wTk0 i n):=by
 refine ⟨_,Qbz (Qhb PySem.F.plainAttrs_list PySem.F.slot_list_append PySem.F.type_list_append U7 (Ql1 Qfp (Y1 hN hvis hd hcd) Qe2 hs1) (Vf Qe2 Qav s2) b2 f2 l2 s2 q2) hs,λz R σ H W ρ P E s hw l=>?_⟩
 obtain ⟨sd,hl0,xs,ds,rfl,h1,h3,qn⟩:=Ql hw
 obtain ⟨fp,s0⟩:=id s
 obtain ⟨v0,hv0,r0⟩:=s0.at_ i _ hl0
 obtain ⟨nd0,sw0⟩:=s0.own i _ hl0 ht
 obtain ⟨tp,vs,G,rfl,hF,e1,r⟩:=r0.iLst
 cases r with
 | @cons _ v _ us F1 F2 ra rb =>
  obtain ⟨l0,ys,F3,rfl,rfl,e2,r3⟩:=ra.iLst
  obtain ⟨z3,r3⟩:=r3.pure h1
  subst z3
  have hm:l0∈fp i:=by rw [hF];simp
  rw [hF] at nd0
  have n1:tp≠l0:=λz=>(List.nodup_cons.mp nd0).1 (by rw [z];simp)
  have n2:l0∉F2:=by
   have:=(List.nodup_cons.mp nd0).2
   simp only [List.cons_append,List.nil_append] at this
   exact (List.nodup_cons.mp this).1
  refine ⟨_,hv0,tp,_,0,.ref l0,rfl,rfl,.of e1,Qgm (j:=0) rfl,.inl ⟨rfl,_,.of e2⟩,l0,ys,.int n,rfl,rfl,e2,by rw [r3.length];exact h3,?_⟩
  have hWl:=sw0 l0 hm
  have hrep:Rep X.K (upd H l0 (.lst (ys++[.int n]))) (.lst (.lst (xs++[.int n])::ds)) (.ref tp) (tp::([l0]++F2)):=by
   refine .lst (by rw [Qm n1];exact e1) (.cons (.lst (F:=[]) Qg ?_) (rb.upd e2 rfl n2))
   exact Reps.append (F:=[]) (G:=[]) (r3.upd e2 rfl (by simp)) (Reps.one (.int n))
  have sF:=s0.write hl0 ht hv0 hm Yr ⟨_,Qg,rfl⟩ hrep nd0 (λa ha=>.inl (by rw [hF];exact ha))
  have fF:=(FrW.refl H W).write hWl (s0.wd l0 hWl) (H':=upd H l0 (.lst (ys++[.int n]))) Yr ⟨_,Qg,rfl⟩ (F':=tp::([l0]++F2)) (λa ha=>.inl (sw0 a (by rw [hF];exact ha)))
  exact l.nx R σ _ _ _ sF fF qn
end
end PV
variable {w:PySem.World} {l:List Int} {d:PySem.DefRec} {ts:List PySem.Addr} {fa:PySem.Addr}
namespace L2
open PySem PySem.Spec PyProof.Rows
def Qh9 (H:Hp):Prop:=∀b,H b=none\/(∃o xs,H b=some (.frz o (.lst xs)))\/∃ps,H b=some (.tbl ps)
def tabH (TB:List (Addr × Array Value)) (H:Hp):Hp:=λb=>match TB.lookup b with
 | some ps=>some (.tbl ps)
 | none=>H b
theorem Yp:∀{TB:List (Addr × Array Value)} {a:Addr} {ps:Array Value},TB.lookup a=some ps->(a,ps)∈TB
 | [],_,_,e=>by cases e
 | (b,x)::r,a,o,e=>by
  rw [List.lookup_cons] at e
  cases hb:a == b with
  | true=>rw [hb] at e;cases e;rw [eq_of_beq hb];exact .head _
  | false=>rw [hb] at e;exact .tail _ (Yp e)
theorem Qfl {mb:Str->Option Value} {s₁:Shared} {vs:List Value} {TB:List (Addr × Array Value)}
  (KX:K.In s₁.heap) (hnt:PySem.W.noTabs K=true) (hTB:∀p∈TB,s₁.heap.get? p.1=some (PySem.W.tabObj #[])) (hTC:∀p∈TB,isCodeTable s₁.heap p.1) (hTl:∀p∈TB,TB.lookup p.1=some p.2) (hbm:Zu mg s₁.heap)
  (hns:s₁.heap.Ns mainGlobals mg) (hb:s₁.heap.Ns builtinsNs mb) (hbb:∀x:Str,x ≠ "__name__" -> mb x=bootBuiltins x) (hlim:s₁.heap.NoLimit) (hg:s₁.gens = #[])
  (ha:s₁.heap.get? a=some { cls:=.type "list",data:=.seq vs.toArray }) (hi:IntsAre vs ns) (hl:ns.length<=sizeLine) (hr:Room k callerA)
  (F:∀base:Heap,K.In base->base.Ns mainGlobals mg->Zu mg base->FnOk P w K mg base CX k fa fd [x] sp) (hbind:∀(s:Shared) (u:Value),BindsTo s fd ⟨[u],[]⟩ [(x,u)])
  (hsp:∀H:Hp,Qh9 H->Tabs TB H->SqL K H a (ns.map V.int)->sp [.ref a] H (λv _=>v=.bl true) λ_ _ _=>False)
  (hCX:∀H e s',CX [] H s₁ (λ_ _ _=>False) e s'->False) :
  codeAny (model P w) callerA (.call (.ref fa) ⟨[.ref a],[]⟩) (λr s'=>r=.ok (.ret (.bool true))/\OldK s₁.heap s'.heap/\s'.os=s₁.os/\AllBare s'.gens) s₁:=by
 have rv:=Qah hi
 have lenV:=hi.length
 have tabNo:∀{b:Addr} {o:Obj},s₁.heap.get? b=some o->o.cls ≠ .none\/(∃es ep,o.data=.dict es ep)->TB.lookup b=none:=λ{b o} e d=>by
  cases q:TB.lookup b with
  | none=>rfl
  | some ps =>
   have:=hTB _ (Yp q)
   rw [e] at this
   cases this
   rcases d with d | ⟨es,ep,d⟩
   ·exact absurd rfl d
   ·cases d
 have tabK:∀{b:Addr} {o:Obj},K.lookup b=some o->TB.lookup b=none:=λ{b o} e=>by
  cases q:TB.lookup b with
  | none=>rfl
  | some ps =>
   have h1:=hTB _ (Yp q)
   rw [KX b o e] at h1
   cases h1
   have h2:=List.all_eq_true.mp hnt (b,_) (PySem.W.mem_of_lookupK e)
   exact absurd (show false=true from h2) Bool.false_ne_true
 have core:∀H:Hp,Only H->SqL K H a (ns.map V.int)->HOk P w H s₁.heap->(∀b,H b≠none->b=a)->(H a≠none->K.lookup a=none) ->
   codeAny (model P w) callerA (.call (.ref fa) ⟨[.ref a],[]⟩) (λr s'=>r=.ok (.ret (.bool true))/\OldK s₁.heap s'.heap/\s'.os=s₁.os/\AllBare s'.gens) s₁:=by
  intro H0 hO0 hS0 hok0 hA0 hK0
  have tb0:∀{b:Addr},TB.lookup b=none->tabH TB H0 b=H0 b:=λ{b} e=>by unfold tabH;rw [e]
  have tb1:∀{b:Addr} {ps:Array Value},TB.lookup b=some ps->tabH TB H0 b=some (.tbl ps):=λ{b ps} e=>by unfold tabH;rw [e]
  have taN:TB.lookup a=none:=tabNo ha (.inl (by simp))
  have hOT:Qh9 (tabH TB H0):=λb=>by
   cases q:TB.lookup b with
   | none=>rw [tb0 q];exact (hO0 b).imp id .inl
   | some ps=>exact .inr (.inr ⟨ps,tb1 q⟩)
  have hTT:Tabs TB (tabH TB H0):=λp hp=>⟨#[],by rw [tb1 (hTl p hp)];simp⟩
  have hST:SqL K (tabH TB H0) a (ns.map V.int):=by
   rcases hS0 with (h | ⟨o,h⟩) | h
   ·exact .inl (.inl (by rw [tb0 taN];exact h))
   ·exact .inl (.inr ⟨o,by rw [tb0 taN];exact h⟩)
   ·exact .inr h
  have hok:HOk P w (tabH TB H0) s₁.heap:=λb o e=>by
   cases q:TB.lookup b with
   | some ps =>
    rw [tb1 q] at e
    cases e
    exact ⟨#[],hTB _ (Yp q),.inl rfl⟩
   | none =>
    rw [tb0 q] at e
    have hb':b=a:=hA0 b (by rw [e];simp)
    rcases hO0 b with z | ⟨ob,xs,z⟩
    ·rw [z] at e;cases e
    ·rw [z] at e
     cases e
     exact hok0 b _ z
  have hne:∀{b:Addr},tabH TB H0 b≠none->b=a\/∃ps,TB.lookup b=some ps:=λ{b} h=>by
   cases q:TB.lookup b with
   | some ps=>exact .inr ⟨ps,rfl⟩
   | none=>rw [tb0 q] at h;exact .inl (hA0 b h)
  generalize hH:tabH TB H0=H at hOT hTT hST hok hne
  have base_of:∀{b:Addr} {o:Obj},s₁.heap.get? b=some o->H b=none->(hidT s₁.heap H).get? b=some o:=λe n=>Qhn e n
  have noB:∀{b:Addr} {o:Obj},s₁.heap.get? b=some o->TB.lookup b=none->(b=a->False)->H b=none:=λ{b o} e q n=>by
   cases z:H b with
   | none=>rfl
   | some u =>
    rcases hne (b:=b) (by rw [z];simp) with e' | ⟨ps,e'⟩
    ·exact (n e').elim
    ·rw [q] at e';cases e'
  have noA:∀{b:Addr} {o:Obj} {es:Array DictEntry} {ep:Nat},s₁.heap.get? b=some o->o.data=.dict es ep->H b=none:=λ{b o es ep} e d =>
   noB e (tabNo e (.inr ⟨_,_,d⟩)) λe'=>by
    subst e'
    rw [ha] at e;cases e
    have d':Data.seq vs.toArray _=Data.dict es ep:=d
    cases d'
  have nsK:∀{b:Addr} {m:Str->Option Value},s₁.heap.Ns b m->(hidT s₁.heap H).Ns b m:=λ{b m} ⟨o,es,ep,e,d,r⟩=>⟨o,es,ep,base_of e (noA e d),d,r⟩
  have hKb:K.In (hidT s₁.heap H):=λb o e=>base_of (KX b o e) (by
   cases z:H b with
   | none=>rfl
   | some u =>
    rcases hne (b:=b) (by rw [z];simp) with e' | ⟨ps,e'⟩
    ·subst e'
     have:H0 b≠none:=by rw [← tb0 taN,hH,z];simp
     rw [hK0 this] at e;cases e
    ·rw [tabK e] at e';cases e')
  have hBb:Zu mg (hidT s₁.heap H):=by
   obtain ⟨bm,ob,b1,b2,b3,b4,b5,b6⟩:=hbm
   exact ⟨bm,ob,b1,b2,base_of b3 (noB b3 (tabNo b3 (.inl (by rw [b4];simp))) λe'=>by subst e';rw [ha] at b3;cases b3;cases b6),b4,b5,b6⟩
  have hM:Mod K mg (hidT s₁.heap H):=⟨hKb,nsK hns,⟨mb,nsK hb,hbb⟩,let ⟨mc,h1,h2⟩:=hlim;⟨mc,nsK h1,h2⟩⟩
  have e0:Env0 P w K mg (hidT s₁.heap H) callerA [] s₁ H:=⟨rfl,hM,λb o e=>Qjz e,Nat.le_of_eq (Qfv _ _),trivial,λb hb=>absurd (show b∈([]:List Addr) from hb) (by simp),hok,.of_eq hg⟩
  refine codeAny_mono ((F _ hKb (nsK hns) hBb).run callerA [] s₁ H ⟨[.ref a],[]⟩ [.ref a] [.ref a] _ _ hr e0 (hbind s₁ (.ref a)) (.cons rfl .nil) (hsp H hOT hTT hST)) λr s' h=>?_
  cases r with
  | error e=>exact (hCX H e s' h).elim
  | ok fl =>
   cases fl with
   | next=>exact False.elim h
   | brk=>exact False.elim h
   | cont=>exact False.elim h
   | ret u =>
    obtain ⟨v,H',os,bare,un,hok',r',q⟩:=h
    have q':v=.bl true:=q
    subst q'
    obtain rfl:u=Value.bool true:=r'
    have grown:∀{b:Addr} {ps:Array Value},H b=some (.tbl ps)->∃ts,s'.heap.get? b=some (PySem.W.tabObj ts):=λ{b ps} z=>by
     obtain ⟨more,z2⟩:=un.tbls b ps z
     obtain ⟨ts,e2,_⟩:=hok' b _ z2
     exact ⟨ts,e2⟩
    have tabIs:∀{b:Addr} {ps:Array Value},H b=some (.tbl ps)->(b,ps)∈TB:=λ{b ps} z=>by
     cases q:TB.lookup b with
     | some ps' =>
      have:=tb1 q
      rw [hH,z] at this
      cases this
      exact Yp q
     | none =>
      have:=tb0 q
      rw [hH,z] at this
      rcases hO0 b with z' | ⟨ob,xs,z'⟩
      ·rw [z'] at this;cases this
      ·rw [z'] at this;cases this
    have keep:∀b o,s₁.heap.get? b=some o->(∀ps,H b≠some (.tbl ps))->s'.heap.get? b=some o:=λb o e nt=>by
     rcases hOT b with z | ⟨ob,xs,z⟩ | ⟨ps,z⟩
     ·exact un.keep b o e z (by intro z;exact absurd (show b∈([]:List Addr) from z) (by simp)) (by simp)
     ·have z2:=un.frzs b ob _ z
      obtain ⟨e1,_⟩:=hok b _ z
      obtain ⟨e2,_⟩:=hok' b _ z2
      rw [e] at e1;cases e1
      exact e2
     ·exact absurd z (nt ps)
    have alt:∀b,(∃ps,H b=some (.tbl ps))\/∀ps,H b≠some (.tbl ps):=λb=>by
     rcases hOT b with z | ⟨ob,xs,z⟩ | ⟨ps,z⟩
     ·exact .inr λps e=>by rw [z] at e;cases e
     ·exact .inr λps e=>by rw [z] at e;cases e
     ·exact .inl ⟨ps,z⟩
    refine ⟨rfl,⟨λb o e=>?_,λb o e=>?_⟩,os,bare⟩
    ·rcases alt b with ⟨ps,z⟩ | z
     ·obtain ⟨ts,e2⟩:=grown z
      have m:=tabIs z
      have e3:=hTB _ m
      rw [show ((b,ps):Addr × Array Value).1=b from rfl,e] at e3
      cases e3
      exact .inr (.inl ⟨hTC _ m,rfl,#[],ts,rfl,by rw [Array.empty_append];exact e2⟩)
     ·exact .inl (keep b o e z)
    ·rcases alt b with ⟨ps,z⟩ | z
     ·obtain ⟨ts,e2⟩:=grown z
      exact ⟨_,e2⟩
     ·exact ⟨o,keep b o e z⟩
 cases hk:K.lookup a with
 | some o =>
  have e:=KX a o hk
  rw [ha] at e
  cases e
  refine core (λ_=>none) (λ_=>.inl rfl) (.inr ⟨_,vs.toArray,_,hk,rfl,rfl,rfl,by rw [List.size_toArray,lenV];exact hl,by simpa using rv⟩) (λb u z=>by have z':(none:Option HO)=some u:=z;cases z') (λb z=>absurd rfl z) λz=>absurd rfl z
 | none =>
  refine core (λb=>if b=a then some (.frz { cls:=.type "list",data:=.seq vs.toArray } (.lst (ns.map V.int))) else none) (λb=>?_) (.inl (.inr ⟨{ cls:=.type "list",data:=.seq vs.toArray },if_pos rfl⟩)) (λb u z=>?_) (λb z=>?_) λ_=>hk
  ·by_cases hb:b=a
   ·exact .inr ⟨_,_,if_pos hb⟩
   ·exact .inl (if_neg hb)
  ·by_cases hb:b=a
   ·have z':=(if_pos hb).symm.trans z
    cases z'
    subst hb
    exact ⟨ha,by rw [List.length_map];exact hl,vs,_,rv,ha⟩
   ·have z':=(if_neg hb).symm.trans z
    cases z'
  ·by_cases hb:b=a
   ·exact hb
   ·exact absurd (if_neg hb) z
theorem Qgp {l:PySem.W.OpenLaw} {K:Params->PySem.W.Frag} {CX:World->CXT} {sp:World->Sp} {TB:List (Addr × Array Value)}
  (hn:l.most=some n) (hn2:n<=sizeLine) (hdf:d.params.defaults=[]) (hr:Room k callerA)
  (hY:∀(w:World) (h:Heap),YP w h->(K w.params).In h) (hT:∀(w:World) (h:Heap),YP w h->∀p∈TB,h.get? p.1=some (PySem.W.tabObj #[]))
  (hnt:∀w:World,PySem.W.noTabs (K w.params)=true) (hTl:∀p∈TB,TB.lookup p.1=some p.2)
  (F:∀(w:World) (mg:Str->Option Value) (fa:Addr) (h:Heap),(K w.params).In h->h.Ns mainGlobals mg->mg d.name=some (.ref fa) ->
   ∃fd:FuncData,(∀(s:Shared) (u:Value),BindsTo s fd ⟨[u],[]⟩ [(x,u)])/\(∀p∈TB,∃c,PySem.W.codeHdIn (K w.params) c p.1=true) /\
    ∀base:Heap,(K w.params).In base->base.Ns mainGlobals mg->Zu mg base->FnOk l.prog w (K w.params) mg base (CX w) k fa fd [x] (sp w))
  (hsp:∀(w:World) (H:Hp) (a:Addr) (ns:List Int),ns.length<=n->Qh9 H->Tabs TB H->SqL (K w.params) H a (ns.map V.int)->sp w [.ref a] H (λv _=>v=.bl true) λ_ _ _=>False)
  (hCX:∀(w:World) (H:Hp) (s:Shared) (e:Value) (s':Shared),CX w [] H s (λ_ _ _=>False) e s'->False) :
  PySem.W.WalkO q loose XP YP l.row.toRowW d [] (λf vs=>PySem.call f vs):=by
 refine Att.Qcg hn hdf λw s₀ s₁ mg mb fa o pm cd doc a vs ns G Y ho hd hcd hmg hobj hints hlen hg=>?_
 have KX:=hY w _ Y
 obtain ⟨fd,hb,hTC,hF⟩:=F w mg fa _ KX G.T.g hmg
 refine Qfl KX (hnt w) (hT w _ Y) (λp hp=>?_) hTl G.T.bmain G.T.g G.T.b G.T.builtins G.T.nolimit hg hobj hints (Nat.le_trans hlen hn2) hr hF hb (λH hO ht hS=>hsp w H a ns hlen hO ht hS) λH e s'=>hCX w H s₁ e s'
 obtain ⟨c,hc⟩:=hTC p hp
 exact ((PySem.W.codeHd_of_K KX hc).tab (hT w _ Y p hp)).isCodeTable
theorem Qkq:Qaf X [] []:=trivial
theorem Qdl {p:Str × Addr} (h1:X.N[i]? = some p.1) (h2:X.env.scope.names.lookup p.1=some .cell) (h3:X.env.cells.lookup p.1=some p.2) (h4:X.fn p.1=true) (h5:Qaf X ix cl):Qaf X (i::ix) (p::cl):=⟨h1,h2,h3,h4,h5⟩
def isLam:Expr->Bool
 | .Lambda _ _ _ _=>true
 | _=>false
def Qod (q:Str) (ns:List Str):Expr->Lam
 | .Lambda a b s _=>⟨q,a,b,s,ns⟩
 | e=>⟨q,⟨[],[],none,[],[],none,[]⟩,e,⟨.function,[],false,false,[]⟩,ns⟩
def Qmm:Expr->Pos
 | .Lambda _ _ _ p=>p
 | _=>⟨0,0,0,0⟩
theorem Qa3 {tg:Array Value}:∀p∈ts.map (λP=>(P,tg)),(ts.map λP=>(P,tg)).lookup p.1=some p.2:=by
 intro p hp
 obtain ⟨P,hP,rfl⟩:=List.mem_map.mp hp
 clear hp
 induction ts with
 | nil=>cases hP
 | cons a ts ih =>
  rw [List.map_cons,List.lookup_cons]
  cases hb:P == a with
  | true=>rfl
  | false =>
   rcases List.mem_cons.mp hP with z | z
   ·subst z;simp at hb
   ·exact ih z
end L2
variable {g:Nat->Nat} {L:List Int} {x:Int} {e m:Nat} {A:Nat->Int} {ps:List Nat}
namespace Fnt
open PySem L2
theorem Qb6:∀{a b:List Int},a.Pairwise (· < ·)->b.Pairwise (· < ·)->(∀x,x∈a↔x∈b)->a=b
 | [],[],_,_,_=>rfl
 | [],y::b,_,_,h=>by have:=(h y).mpr List.mem_cons_self;cases this
 | x::a,[],_,_,h=>by have:=(h x).mp List.mem_cons_self;cases this
 | x::a,y::b,ha,hb,h=>by
  have ha':=List.pairwise_cons.mp ha
  have hb':=List.pairwise_cons.mp hb
  have e:x=y:=by
   have h1:=(h x).mp List.mem_cons_self
   have h2:=(h y).mpr List.mem_cons_self
   rcases List.mem_cons.mp h1 with z | z
   ·exact z
   ·rcases List.mem_cons.mp h2 with w | w
    ·exact w.symm
    ·have:=hb'.1 x z
     have:=ha'.1 y w
     omega
  subst e
  rw [Qb6 ha'.2 hb'.2 λz=>?_]
  constructor
  ·intro hz
   rcases List.mem_cons.mp ((h z).mp (List.mem_cons_of_mem _ hz)) with w | w
   ·subst w;have:=ha'.1 z hz;omega
   ·exact w
  ·intro hz
   rcases List.mem_cons.mp ((h z).mpr (List.mem_cons_of_mem _ hz)) with w | w
   ·subst w;have:=hb'.1 z hz;omega
   ·exact w
theorem Qmj (nd:l.Nodup) (s:l.Pairwise (· <= ·)):l.Pairwise (· < ·):=by
 have:=s.and nd
 exact this.imp λh=>by have:=h.1;have:=h.2;omega
def ones (l:List Int):List Int:=(l.filter λx=>decide (l.count x=1)).mergeSort λa b=>decide (a<=b)
theorem Qay:(l.filter λx=>decide (l.count x=1)).Nodup:=by
 refine List.nodup_iff_count.mpr λa=>?_
 by_cases h:l.count a=1
 ·rw [List.count_filter (by simpa using h)];omega
 ·rw [List.count_eq_zero_of_not_mem λz=>h (by simpa using (List.mem_filter.mp z).2)];omega
theorem Vs (l:List Int):(ones l).Perm (l.filter λx=>decide (l.count x=1)):=List.mergeSort_perm _ _
theorem Xv (l:List Int):(ones l).Nodup:=(Vs l).nodup_iff.mpr Qay
theorem Yi:x∈ones l↔l.count x=1:=by
 rw [(Vs l).mem_iff,List.mem_filter,decide_eq_true_eq]
 exact ⟨λh=>h.2,λh=>⟨List.count_pos_iff.mp (by omega),h⟩⟩
theorem Qjx (l:List Int):(ones l).Pairwise (· <= ·):=by
 have:=List.pairwise_mergeSort (le:=λa b:Int=>decide (a<=b)) (λa b c h1 h2=>by simp at *;omega) (λa b=>by simp;omega) (l.filter λx=>decide (l.count x=1))
 exact this.imp λh=>by simpa using h
theorem Qb0 (l:List Int):(ones l).Pairwise (· < ·):=Qmj (Xv l) (Qjx l)
theorem Qe7 {out:List Int} (nd:out.Nodup) (s:out.Pairwise (· <= ·)) (h:∀x,x∈out↔l.count x=1):out=ones l:=Qb6 (Qmj nd s) (Qb0 l) λx=>(h x).trans Yi.symm
theorem Qjy {l':List Int} (h:∀x,l.count x=1↔l'.count x=1):ones l=ones l':=Qb6 (Qb0 l) (Qb0 l') λx=>by rw [Yi,Yi,h x]
theorem Qdu (l:List Int) (x:Int):(ones l).count x=if l.count x=1 then 1 else 0:=by
 split
 ·rename_i h
  have h1:=List.count_pos_iff.mpr (Yi.mpr h)
  have h2:=List.nodup_iff_count.mp (Xv l) x
  omega
 ·rename_i h
  exact List.count_eq_zero_of_not_mem λz=>h (Yi.mp z)
theorem Qe6 {c:List Int} (h:∀x,(l++c).count x<=2):ones (ones l++c)=ones (l++c):=Qjy λx=>by
 have:=h x
 rw [List.count_append] at this
 rw [List.count_append,List.count_append,Qdu]
 split <;> omega
theorem Qeo:∀{o:List Int},o.Nodup->(o.map λx=>L.count x).sum<=L.length:=by
 induction L with
 | nil=>intro o _;induction o with
  | nil=>simp
  | cons a o ih=>simpa using ih (List.nodup_cons.mp ‹_›).2
 | cons b L ih =>
  intro o nd
  have key:∀o:List Int,o.Nodup->(o.map λx=>(b::L).count x).sum<=(o.map λx=>L.count x).sum+1/\(b∉o->(o.map λx=>(b::L).count x).sum=(o.map λx=>L.count x).sum):=by
   intro o
   induction o with
   | nil=>intro _;simp
   | cons a o ih =>
    intro nd
    obtain ⟨h1,h2⟩:=List.nodup_cons.mp nd
    obtain ⟨i1,i2⟩:=ih h2
    simp only [List.map_cons,List.sum_cons,List.count_cons]
    simp only [List.count_cons] at i1 i2
    by_cases e:b=a
    ·subst e
     have:=i2 h1
     simp only [beq_self_eq_true,if_true]
     refine ⟨by omega,λh=>absurd List.mem_cons_self h⟩
    ·have e':(b == a)=false:=by simpa using e
     simp only [e',Bool.false_eq_true,if_false,Nat.add_zero]
     refine ⟨by omega,λh=>?_⟩
     have:=i2 λz=>h (List.mem_cons_of_mem _ z)
     omega
  have:=(key o nd).1
  have:=ih nd
  simp only [List.length_cons]
  omega
def pl (k:Nat):List Nat:=(List.range 4).map λj=>4*k+j
def cr (A:Nat->Int) (k:Nat):List Int:=(List.range 4).map λj=>A (4*k+j)
def al (A:Nat->Int) (ks:List Nat):List Int:=ks.flatMap (cr A)
theorem Qcj:al A (ks++[k])=al A ks++cr A k:=by simp [al]
theorem Qnj (ks:List Nat):al A ks=(ks.flatMap pl).map A:=by
 unfold al
 induction ks with
 | nil=>rfl
 | cons k ks ih=>rw [List.flatMap_cons,List.flatMap_cons,List.map_append,ih];simp [cr,pl]
theorem Qfh {p:Nat}:p∈pl k↔p / 4=k:=by
 unfold pl
 rw [List.mem_map]
 constructor
 ·rintro ⟨j,h,rfl⟩
  have:=List.mem_range.mp h
  omega
 ·intro h
  exact ⟨p % 4,List.mem_range.mpr (by omega),by omega⟩
theorem Qlw:∀{ks:List Nat},ks.Nodup->(ks.flatMap pl).Nodup
 | [],_=>by simp
 | k::ks,h=>by
  obtain ⟨h1,h2⟩:=List.nodup_cons.mp h
  rw [List.flatMap_cons]
  refine List.nodup_append.mpr ⟨?_,Qlw h2,λa ha b hb z=>?_⟩
  ·unfold pl
   exact List.pairwise_map.mpr (List.Pairwise.imp (R:=λa b:Nat=>a<b) (λh=>by omega) List.pairwise_lt_range)
  ·subst z
   obtain ⟨q,hq,hp⟩:=List.mem_flatMap.mp hb
   rw [Qfh] at ha hp
   exact h1 (by rw [← ha,hp];exact hq)
theorem two_le (tw:M.Tw n A g) (nd:ps.Nodup) (h:∀p∈ps,p<n) (x:Int):(ps.map A).count x<=2:=by
 have gen:∀ps:List Nat,ps.Nodup->(∀p∈ps,p<n)->(ps.map A).count x<=2/\∀i,i<n->A i=x->i∉ps->((ps.map A).count x<=1/\(g i∉ps->(ps.map A).count x=0)):=by
  intro ps
  induction ps with
  | nil=>intro _ _;simp
  | cons p ps ih =>
   intro nd h
   obtain ⟨n1,n2⟩:=List.nodup_cons.mp nd
   obtain ⟨i1,i2⟩:=ih n2 λq hq=>h q (List.mem_cons_of_mem _ hq)
   have hp:=h p List.mem_cons_self
   simp only [List.map_cons,List.count_cons]
   by_cases e:A p=x
   ·obtain ⟨j1,j2⟩:=i2 p hp e n1
    have e':(A p == x)=true:=by simpa using e
    simp only [e',if_true]
    refine ⟨by omega,λi hi ei hn=>?_⟩
    have hip:i≠p:=λz=>hn (by rw [z];exact List.mem_cons_self)
    have hg:i=g p:=(tw.only p i hp hi (ei.trans e.symm)).resolve_left hip
    have:g p∉ps:=λz=>hn (by rw [hg];exact List.mem_cons_of_mem _ z)
    refine ⟨by have:=j2 this;omega,λhgi=>?_⟩
    exfalso
    apply hgi
    rw [hg,tw.inv hp];exact List.mem_cons_self
   ·have e':(A p == x)=false:=by simpa using e
    simp only [e',Bool.false_eq_true,if_false,Nat.add_zero]
    exact ⟨i1,λi hi ei hn=>⟨(i2 i hi ei λz=>hn (List.mem_cons_of_mem _ z)).1,λhgi=>(i2 i hi ei λz=>hn (List.mem_cons_of_mem _ z)).2 λz=>hgi (List.mem_cons_of_mem _ z)⟩⟩
 exact (gen ps nd h).1
theorem Qni (tw:M.Tw (4*m+e) A g) (nd:ks.Nodup) (h:∀k∈ks,k<m) (x:Int):(al A ks).count x<=2:=by
 rw [Qnj]
 refine two_le tw (Qlw nd) (λp hp=>?_) x
 obtain ⟨k,hk,hp⟩:=List.mem_flatMap.mp hp
 have:=h k hk
 rw [Qfh] at hp
 omega
theorem Qhf (tw:M.Tw (4*m+e) A g) (h:∀x∈l,∃i,i<4*m+e/\A i=x):2*(ones l).length<=4*m+e:=by
 have h1:=Qeo (L:=(List.range (4*m+e)).map A) (Xv l)
 rw [List.length_map,List.length_range] at h1
 refine Nat.le_trans ?_ h1
 have h2:∀x∈ones l,2<=((List.range (4*m+e)).map A).count x:=λx hx=>by
  have:x∈l:=List.count_pos_iff.mp (by rw [Yi.mp hx];decide)
  obtain ⟨i,hi,rfl⟩:=h x this
  have gen:∀(ps:List Nat) (a b:Nat),a≠b->a∈ps->b∈ps->A a=A b->2<=(ps.map A).count (A a):=by
   intro ps
   induction ps with
   | nil=>intro a b _ h;cases h
   | cons p ps ih =>
    intro a b hne ha hb e
    simp only [List.map_cons,List.count_cons]
    rcases List.mem_cons.mp ha with rfl | ha1
    ·have hb:=(List.mem_cons.mp hb).resolve_left (Ne.symm hne)
     have:0<(ps.map A).count (A a):=List.count_pos_iff.mpr (by rw [e];exact List.mem_map_of_mem hb)
     simp only [beq_self_eq_true,if_true];omega
    ·rcases List.mem_cons.mp hb with rfl | hb1
     ·have:0<(ps.map A).count (A a):=List.count_pos_iff.mpr (List.mem_map_of_mem ha1)
      rw [← e]
      simp only [beq_self_eq_true,if_true];omega
     ·have:=ih a b hne ha1 hb1 e
      omega
  exact gen _ i (g i) (Ne.symm (tw.ne i hi)) (List.mem_range.mpr hi) (List.mem_range.mpr (tw.lt i hi)) (tw.eq i hi).symm
 have gen:∀o:List Int,(∀x∈o,2<=((List.range (4*m+e)).map A).count x)->2*o.length<=(o.map λx=>((List.range (4*m+e)).map A).count x).sum:=by
  intro o
  induction o with
  | nil=>simp
  | cons a o ih =>
   intro h
   have:=ih λx hx=>h x (List.mem_cons_of_mem _ hx)
   have:=h a List.mem_cons_self
   simp only [List.length_cons,List.map_cons,List.sum_cons]
   omega
 exact gen _ h2
def lft (m:Nat) (ks:List Nat):List Nat:=(List.range m).filter λk=>decide (k∉ks)
def key (A:Nat->Int) (ks:List Nat) (k:Nat):List Int:=[((ones (al A (ks++[k]))).length:Int),(k:Int)]
def keys (A:Nat->Int) (ks l:List Nat):Nat->List Int:=λj=>key A ks (l.getD j 0)
def nxt (A:Nat->Int) (ks l:List Nat):Nat:=l.getD (argBest (btK (keys A ks l)) (l.length-1)) 0
def ord (A:Nat->Int) (m:Nat):Nat->List Nat
 | 0=>[]
 | t+1=>ord A m t++[nxt A (ord A m t) (lft m (ord A m t))]
theorem Qfd {l:List Nat} (h:l≠[]):nxt A ks l∈l:=by
 have h0:0<l.length:=List.length_pos_iff.mpr h
 have h1:=PV.Z4 (btK (keys A ks l)) (l.length-1)
 unfold nxt
 rw [List.getD_eq_getElem?_getD,List.getElem?_eq_getElem (by omega)]
 exact List.getElem_mem _
theorem Qil (m:Nat) (ks:List Nat):(lft m ks).Nodup:=List.nodup_range.filter _
theorem Xy:k∈lft m ks↔k<m/\k∉ks:=by
 unfold lft
 rw [List.mem_filter,List.mem_range,decide_eq_true_eq]
theorem Qc6:lft m (ks++[k])=(lft m ks).erase k:=by
 rw [(Qil m ks).erase_eq_filter]
 unfold lft
 rw [List.filter_filter]
 refine List.filter_congr λx _=>?_
 rw [Bool.eq_iff_iff]
 simp [not_or,and_comm]
structure OrdOk (A:Nat->Int) (m t:Nat):Prop where
 len:(ord A m t).length=t
 nd:(ord A m t).Nodup
 lt:∀k∈ord A m t,k<m
 left:(lft m (ord A m t)).length=m-t
theorem Yn (A:Nat->Int) (m:Nat):∀t,t<=m->OrdOk A m t
 | 0,_=>⟨rfl,List.nodup_nil,(λ_ h=>by cases h),by unfold lft ord;rw [List.filter_eq_self.mpr (λa _=>by simp),List.length_range];omega⟩
 | t+1,h=>by
  have o:=Yn A m t (by omega)
  have hne:lft m (ord A m t)≠[]:=λz=>by have:=o.left;rw [z] at this;simp at this;omega
  have hm:=Qfd (A:=A) (ks:=ord A m t) hne
  have hm':=Xy.mp hm
  refine ⟨by simp [ord,o.len],?_,λk hk=>?_,?_⟩
  ·unfold ord
   refine List.nodup_append.mpr ⟨o.nd,by simp,λa ha b hb z=>?_⟩
   rw [List.mem_singleton.mp hb] at z
   exact hm'.2 (z ▸ ha)
  ·unfold ord at hk
   rcases List.mem_append.mp hk with hk | hk
   ·exact o.lt k hk
   ·rw [List.mem_singleton.mp hk];exact hm'.1
  ·unfold ord
   rw [Qc6,List.length_erase_of_mem hm,o.left];omega
theorem Qc1 (A:Nat->Int) {m:Nat}:∀{t s:Nat},s<=t->t<=m->(ord A m t).take s=ord A m s
 | 0,s,h,_=>by
  have:s=0:=by omega
  subst this;rfl
 | t+1,s,h,hm=>by
  have o:=Yn A m t (by omega)
  by_cases e:s=t+1
  ·subst e;exact List.take_of_length_le (by rw [(Yn A m (t+1) hm).len];omega)
  ·show (ord A m t++[nxt A (ord A m t) (lft m (ord A m t))]).take s=ord A m s
   rw [List.take_append_of_le_length (by rw [o.len];omega),Qc1 A (by omega) (by omega)]
end Fnt
namespace K41
open PySem PySem.Spec L2 PV
open PyProof.Rows (envOfC)
def top (i:Nat):Stmt:=PySem.Challenge.pw_tanglehouse_k41_order_and_fronts.main.body.getD i (.Pass ⟨0,0,0,0⟩)
def Qoe:List Stmt->Expr
 | .Return (some (.Call _ _ [k] _)) _::_=>k.value
 | _=>.Name "" ⟨0,0,0,0⟩
def Zf:Expr:=Qoe (Qr (top 2))
def Qp:Lam:=Qod "next_crossing.<locals>.<lambda>" ["web","front"] Zf
def Ju:Pos:=Qmm Zf
abbrev TBof (ts:List Addr):List (Addr × Array Value):=ts.map λP=>(P,tgOf Ju Qp.qual)
structure Bn (mg:Str->Option Value):Prop where
 nb_bool:mg "bool" = none
 nb_int:mg "int" = none
 nb_isinstance:mg "isinstance" = none
 nb_len:mg "len" = none
 nb_list:mg "list" = none
 nb_min:mg "min" = none
 nb_range:mg "range" = none
 nb_sorted:mg "sorted" = none
 nb_tuple:mg "tuple" = none
def Qj:GI:=λds k=>∃c n b,ds=[rowD c n,.int b]/\0<b/\b<1073741824/\0<=n/\n<=1000000/\∀c' r,0<=r->r<b->k (.int r) (rowD c' (n+1))
abbrev Je:Stmt:=top 8
theorem Ys:FnScope ["_law_row","_law_base","_law_rest","_law_number"] ["_law_row","_law_base"] (Qb Je):=⟨rfl,rfl,rfl,by decide +kernel,rfl,by decide +kernel,by decide +kernel⟩
def Uz:Tg:={ own:=λi=>i == 0 || i == 2 || i == 3,io:=[0] }
def Uv:WS:=(wSeq (Za 0 (wBin Ya (wBin dIx (wVar 0) (wC (.int 1))) (wC (.int 1))) (wC (.int 1)))
 (wSeq (wIf (wBl (wBin (dCmp λi j=>decide (j<i)) (wBin dIx (wVar 0) (wC (.int 0))) (wBin dPow (wC (.int 10)) (wC (.int 18))))) (wSeq (wSet 2 (wBin dSub (wBin dIx (wVar 0) (wC (.int 0))) (wBin dPow (wC (.int 10)) (wC (.int 18)))))
 (wSeq (Za 0 (wBin Ya (wBin dPow (wC (.int 10)) (wC (.int 18))) (wBin dDiv (wVar 2) (wVar 1))) (wC (.int 0)))
 (wRet (wBin dMod (wVar 2) (wVar 1))))) V7)
 (wSeq (wSet 3 (wBin dMod (wBin Ya (wBin Ya (wBin dMul (wBin dIx (wVar 0) (wC (.int 0))) (wC (.int 48271))) (wBin dMul (wBin dMul (wC (.int 7919)) (wBin dIx (wVar 0) (wC (.int 1)))) (wBin dIx (wVar 0) (wC (.int 1))))) (wC (.int 11))) (wC (.int 2147483629))))
 (wSeq (wSet 3 (wBin dMod (wBin Ya (wBin Ya (wBin dMul (wVar 3) (wVar 3)) (wBin dMul (wC (.int 69621)) (wBin dIx (wVar 0) (wC (.int 1))))) (wC (.int 7))) (wC (.int 2147483587))))
 (wRet (wBin dMod (wBin dDiv (wVar 3) (wC (.int 5))) (wVar 1)))))))
theorem Qcd (B:Bn mg):∀(cdv:Value) (A:Around) (outer:List PySem.Env) (s:Shared) (H:Hp) (E:XK),Room 0 (A.deeper (envOfC "_law_take" (Qb Je) s.heap.objs.size f cdv))->SVs (cxOf CX0 P w K mg base ["_law_row","_law_base","_law_rest","_law_number"] "_law_take" (Qb Je) f cdv A outer s H E).nox Uz (Qr Je) Uv:=λcdv A outer s H E hr =>
  (Qi (Y6 (i:=0) (J6 hr) (Qw Q7 (Yz (Yy (J6 hr)) (Qc 0) Qf) Qf) Qf)
  (Qi (Qdp (Zb Qoa (Yz (Yy (J6 hr)) (Qc 0) Qf) (Qw Qfb Qf Qf)) (Qi (Jd (i:=2) (Qw Qii (Yz (Yy (J6 hr)) (Qc 0) Qf) (Qw Qfb Qf Qf)) Ys.nd)
  (Qi (Y6 (i:=0) (J6 hr) (Qw Q7 (Qw Qfb Qf Qf) (Qw Qc3 (Qc 2) (Qc 1))) Qf)
  (Qx (Yk (Qw Qa2 (Qc 2) (Qc 1)))))) U2)
  (Qi (Jd (i:=3) (Qw Qa2 (Qw Q7 (Qw Q7 (Qw Jt (Yz (Yy (J6 hr)) (Qc 0) Qf) Qf) (Qw Jt (Qw Jt Qf (Yz (Yy (J6 hr)) (Qc 0) Qf)) (Yz (Yy (J6 hr)) (Qc 0) Qf))) Qf) Qf) Ys.nd)
  (Qi (Jd (i:=3) (Qw Qa2 (Qw Q7 (Qw Q7 (Qw Jt (Qc 3) (Qc 3)) (Qw Jt Qf (Yz (Yy (J6 hr)) (Qc 0) Qf))) Qf) Qf) Ys.nd)
  (Qx (Yk (Qw Qa2 (Qw Qc3 (Qc 3) Qf) (Qc 1))))))))
theorem Qaz (F:Fun K "_law_take" "_law_take" Je f fd) (B:Bn mg):FnOk P w K mg base CX0 1 f fd ["_law_row","_law_base"] (spI K 0 Qj):=by
 refine Qhq (T:=Uz) F Ys rfl rfl (λds kk h=>?_) (Qcd B) (λds kk h=>?_)
 ·obtain ⟨c,n,b,rfl,_⟩:=h
  exact ⟨rfl,_,rfl,rfl⟩
 ·obtain ⟨c,n,b,rfl,hb,hb2,hn,hn2,k⟩:=h
  have hn1:-18446744073709551616<n+1:=by omega
  have hn2':n+1<18446744073709551616:=by omega
  simp only [Uv,wSeq,Za,wBin,env0,rowD,List.map_cons,List.map_nil,List.length_cons,List.length_nil,Nat.zero_add,Nat.reduceAdd,List.replicate,List.cons_append,List.nil_append,wC,wIf,wSet,wRet,Jb,Int.reduceLE,Int.reduceNeg,Int.reduceLT,Qld,Int.reduceToNat,Int.reducePow,V7,r_bl,look,Option.isSome_some,List.set_cons_zero,List.set_cons_succ,Qn,true_and,Qan,Nat.lt_add_one,Qof,List.length_set,Nat.zero_lt_succ,Qog,Ze,Qgz,Qci,Qkt,List.getElem?_cons_zero,Qs,Bool.and_true,Qlb,hb,Qev,hb2,Qcv,Va,D.pure,Bool.true_and,List.getElem?_cons_succ,Qlf,Qli,Zm,Z9,hn1,hn2']
  split
  ·exact k _ _ (Int.emod_nonneg _ (by omega)) (Int.emod_lt_of_pos _ hb)
  ·have hx:-18446744073709551616<(c*48271+7919*(n+1)*(n+1)+11) % 2147483629/\(c*48271+7919*(n+1)*(n+1)+11) % 2147483629<18446744073709551616:=by omega
   generalize (c*48271+7919*(n+1)*(n+1)+11) % 2147483629=x at hx
   simp only [Int.reduceNeg,hx.1,hx.2,Z9,Va,Int.reduceLT,Qev,Qcv,hb]
   exact k _ _ (Int.emod_nonneg _ (by omega)) (Int.emod_lt_of_pos _ hb)
def arcF (r l p:Int):D->D
 | .int i=>.int ((r+i*l) % p)
 | d=>d
def Jz:GI:=λds k=>∃(c n:Int) (q:Nat),ds=[rowD c n,.int q]/\q<=100/\0<=n/\n<=999990/\∀(c':Int) (xs:List Int),xs.length=q->xs.Nodup->(∀x∈xs,0<=x/\x<1000000000)->k (.lst (xs.map .int)) (rowD c' (n+3))
abbrev Q6:Stmt:=top 9
theorem Yu:FnScope ["_law_row","_law_many","_law_prime","_law_leap","_law_offset"] ["_law_row","_law_many"] (Qb Q6):=⟨rfl,rfl,rfl,by decide +kernel,rfl,by decide +kernel,by decide +kernel⟩
def U1:Tg:={ own:=λi=>i == 0 || i == 2 || i == 3 || i == 4,io:=[0] }
def Ux:WS:=(wSeq (wSet 2 (wBin dIx (wLst (Qd (wC (.int 101)) (Qd (wC (.int 10007)) (Qd (wC (.int 999999937)) wNil)))) (Q0 0 Qj (J4 0 (Qd (wC (.int 3)) wNil)))))
 (wSeq (wSet 3 (wBin Ya (wC (.int 1)) (Q0 0 Qj (J4 0 (Qd (wBin dSub (wVar 2) (wC (.int 1))) wNil)))))
 (wSeq (wSet 4 (Q0 0 Qj (J4 0 (Qd (wVar 2) wNil))))
 (wRet (Vb (Qag (Qd (wVar 1) wNil)) wAll (wBin dMod (wBin Ya (wVar 2) (wBin dMul (wVar 0) (wVar 1))) (wVar 3)) [3,4,2])))))
theorem Qcf (B:Bn mg) (C__law_take:Cal P w K mg base "_law_take" 1 ["_law_row","_law_base"] (spI K 0 Qj)):∀(cdv:Value) (A:Around) (outer:List PySem.Env) (s:Shared) (H:Hp) (E:XK),Room 1 (A.deeper (envOfC "_law_arcs" (Qb Q6) s.heap.objs.size f cdv))->SVs (cxOf CX0 P w K mg base ["_law_row","_law_many","_law_prime","_law_leap","_law_offset"] "_law_arcs" (Qb Q6) f cdv A outer s H E).nox U1 (Qr Q6) Ux:=λcdv A outer s H E hr =>
  (Qi (Jd (i:=2) (Yz (Yy (J6 hr)) (Yx (Qa Qf (Qa Qf (Qa Qf Qe)))) (Q3 C__law_take (hr.mono (by decide)) (Jx (i:=0) (Qa Qf Qe)))) Yu.nd)
  (Qi (Jd (i:=3) (Qw Q7 Qf (Q3 C__law_take (hr.mono (by decide)) (Jx (i:=0) (Qa (Qw Qii (Qc 2) Qf) Qe)))) Yu.nd)
  (Qi (Jd (i:=4) (Q3 C__law_take (hr.mono (by decide)) (Jx (i:=0) (Qa (Qc 2) Qe))) Yu.nd)
  (Qx (Yk (Z0 (Y0 [3,4,2] (Zp B.nb_range (Qa (Qc 1) Qe)) (λ_ _ _ _ _=>Xi) (λ_ _ _ _ _=>(Qw Qa2 (Qw Q7 (Qc 2) (Qw Jt (Qc 0) (Qc 1))) (Qc 3)))) (Jv (Qb Q6) ["_law_row","_law_many","_law_prime","_law_leap","_law_offset"] (by decide +kernel))))))))
theorem Qa1 (F:Fun K "_law_arcs" "_law_arcs" Q6 f fd) (B:Bn mg) (C1:Cal P w K mg base "_law_take" 1 ["_law_row","_law_base"] (spI K 0 Qj)):FnOk P w K mg base CX0 2 f fd ["_law_row","_law_many"] (spI K 0 Jz):=by
 refine Qhq (T:=U1) F Yu rfl rfl (λds kk h=>?_) (Qcf B C1) (λds kk h=>?_)
 ·obtain ⟨c,n,q,rfl,_⟩:=h
  exact ⟨rfl,_,rfl,rfl⟩
 ·obtain ⟨c,n,q,rfl,hq,hn,hn2,k⟩:=h
  simp only [Ux,wSeq,wSet,wBin,wLst,Qd,wC,wNil,List.length_cons,List.length_nil,Nat.zero_add,Nat.reduceAdd,Q0,J4,env0,rowD,List.map_cons,List.map_nil,List.replicate,List.cons_append,List.nil_append,look,Option.isSome_some,Qs,D.pure,Bool.and_self,List.set_cons_zero,List.set_cons_succ,Bool.and_true,wRet,Uj,Qao,Jb,Qn,U3,Int.reducePow,Int.reduceNeg,Int.toNat_natCast,true_and,Ze]
  refine ⟨by decide,c,n,3,rfl,by decide,by decide,hn,by omega,λc1 r1 h1 h2=>?_⟩
  obtain ⟨p,hat,hp⟩:∃p,L2.atI [D.int 101,D.int 10007,D.int 999999937] r1=some (.int p)/\isP p:=by
   rcases Qn2 (a:=D.int 101) (b:=.int 10007) (c:=.int 999999937) h1 h2 with e | e | e
   ·exact ⟨_,e,.inl rfl⟩
   ·exact ⟨_,e,.inr (.inl rfl)⟩
   ·exact ⟨_,e,.inr (.inr rfl)⟩
  have hpb:100<p/\p<1073741824:=by rcases hp with z | z | z <;> omega
  simp only [rowD,Ze,Qs,D.pure,Bool.and_self,Int.reduceNeg,true_and,Qgz,hat,Qn,Qlb]
  refine ⟨c1,n+1,p-1,rfl,by omega,by omega,by omega,by omega,λc2 r2 h3 h4=>?_⟩
  simp only [rowD,Ze,Qs,D.pure,Bool.and_self,Int.reduceNeg,true_and,Va]
  refine ⟨c2,n+1+1,p,rfl,by omega,by omega,by omega,by omega,λc3 r3 h5 h6=>?_⟩
  simp only [Int.reduceNeg,rowD]
  refine ⟨by omega,by omega,Zt (arcF r3 (1+r2) p) (by rw [Ym];exact Nat.lt_of_le_of_lt (show _<=1000 by omega) (by decide)) (λd hd Q' hQ=>?_) ?_⟩
  ·obtain ⟨i,hi,rfl⟩:=Zx hd
   have hi1:-18446744073709551616<0+(i:Int):=by omega
   have hi2:0+(i:Int)<18446744073709551616:=by omega
   have hp0:0<p:=by omega
   simp only [wBin,blkE,List.map_cons,look,List.map_nil,Jb,Qn,Int.reduceNeg,hi1,hi2,Z9,Va,hp0,Qev]
   exact hQ
  ·simp only [look,Qn,Ze,Qs,D.pure,Bool.and_self,true_and]
   have e:(rngD 0 q).map (arcF r3 (1+r2) p)=((List.range q).map λ(i:Nat)=>(r3+(i:Int)*(1+r2)) % p).map D.int:=by
    simp [rngD,arcF]
   rw [e]
   have:=k c3 ((List.range q).map λ(i:Nat)=>(r3+(i:Int)*(1+r2)) % p) (by simp) (Qd5 hp (by omega) (by omega) (by omega)) (λx hx=>by
    obtain ⟨i,_,rfl⟩:=List.mem_map.mp hx
    refine ⟨Int.emod_nonneg _ (by omega),Int.lt_of_lt_of_le (Int.emod_lt_of_pos _ (by omega)) (by rcases hp with z | z | z <;> omega)⟩)
   simpa [rowD,Int.add_assoc] using this
def Y3:GI:=λds k=>∃(c n:Int) (m e:Nat),ds=[rowD c n,.int m,.int e]/\m<=40/\e<=12/\e % 2=0/\0<=n/\n<=900000 /\
 ∀(c' n':Int) (A:Nat->Int) (g:Nat->Nat) (r:Int),M.Tw (4*m+e) A g->(∀i,0<=A i/\A i<1000000000)->(r=0\/r=1\/r=2\/r=20)->n<=n'->n'<=n+1000->k (webD m e A r) (rowD c' n')
abbrev Jj:Stmt:=top 10
theorem Yl:FnScope ["_law_row","_law_many","_law_ends","_law_arcs_here","_law_left","_law_arc","_law_crossings"] ["_law_row","_law_many","_law_ends"] (Qb Jj):=⟨rfl,rfl,rfl,by decide +kernel,rfl,by decide +kernel,by decide +kernel⟩
def G4:Tg:={ own:=λi=>i == 0 || i == 3 || i == 4 || i == 5 || i == 6,io:=[0] }
def G0:WS:=(wSeq (wSet 3 (wBin dMul (wLst (Qd (wC (.int 0)) wNil)) (wBin Ya (wBin dMul (wC (.int 4)) (wVar 1)) (wVar 2))))
 (wSeq (wSet 4 (Qk Qbc (Qd (wBin Ya (wBin dMul (wC (.int 4)) (wVar 1)) (wVar 2)) wNil)))
 (wSeq (wFor (Zh (Q0 0 Jz (J4 0 (Qd (wBin Ya (wBin dMul (wC (.int 2)) (wVar 1)) (wBin dDiv (wVar 2) (wC (.int 2)))) wNil)))) (gN 5) (wSeq (Za 3 (wVar 5) (wMt 4 "list" Xf (Qd (wC (.int 0)) wNil)))
 (Za 3 (wVar 5) (wMt 4 "list" Xf (Qd (Q0 0 Qj (J4 0 (Qd (Qk dLen (Qd (wVar 4) wNil)) wNil))) wNil)))))
 (wSeq (wSet 6 (Vb (Qag (Qd (wVar 1) wNil)) wAll (Qk Uk (Qd (wSlT (wVar 1) (Ul (wBin dMul (wC (.int 4)) (wVar 0))) (Ul (wBin Ya (wBin dMul (wC (.int 4)) (wVar 0)) (wC (.int 4))))) wNil)) [3]))
 (wRet (wTup (Qd (Qk Uk (Qd (wVar 6) wNil)) (Qd (Qk Uk (Qd (wSlT (wVar 3) (Ul (wBin dMul (wC (.int 4)) (wVar 1))) Uy) wNil)) (Qd (wBin dIx (wLst (Qd (wC (.int 0)) (Qd (wC (.int 1)) (Qd (wC (.int 2)) (Qd (wC (.int 20)) wNil))))) (Q0 0 Qj (J4 0 (Qd (wC (.int 4)) wNil)))) wNil)))))))))
theorem Qd4 (B:Bn mg) (C__law_take:Cal P w K mg base "_law_take" 1 ["_law_row","_law_base"] (spI K 0 Qj)) (C__law_arcs:Cal P w K mg base "_law_arcs" 2 ["_law_row","_law_many"] (spI K 0 Jz)):∀(cdv:Value) (A:Around) (outer:List PySem.Env) (s:Shared) (H:Hp) (E:XK),Room 2 (A.deeper (envOfC "_law_web" (Qb Jj) s.heap.objs.size f cdv))->SVs (cxOf CX0 P w K mg base ["_law_row","_law_many","_law_ends","_law_arcs_here","_law_left","_law_arc","_law_crossings"] "_law_web" (Qb Jj) f cdv A outer s H E).nox G4 (Qr Jj) G0:=λcdv A outer s H E hr =>
  (Qi (Jd (i:=3) (Qw Jt (Yx (Qa Qf Qe)) (Qw Q7 (Qw Jt Qf (Qc 1)) (Qc 2))) Yl.nd)
  (Qi (Jd (i:=4) (Zr B.nb_range B.nb_list (Qa (Qw Q7 (Qw Jt Qf (Qc 1)) (Qc 2)) Qe)) Yl.nd)
  (Qi (Qai PassesOwn.never (Vx (Q3 C__law_arcs (hr.mono (by decide)) (Jx (i:=0) (Qa (Qw Q7 (Qw Jt Qf (Qc 1)) (Qw Qc3 (Qc 2) Qf)) Qe)))) (Gf (i:=5) Yl.nd) (Qi (Y6 (i:=3) (J6 hr) (Qc 5) (Qa9 (i:=4) Ut PySem.F.plainAttrs_list PySem.F.slot_list_pop PySem.F.type_list_pop (Qa Qf Qe)))
  (Qx (Y6 (i:=3) (J6 hr) (Qc 5) (Qa9 (i:=4) Ut PySem.F.plainAttrs_list PySem.F.slot_list_pop PySem.F.type_list_pop (Qa (Q3 C__law_take (hr.mono (by decide)) (Jx (i:=0) (Qa (Q4 V0 B.nb_len V1 (Qa (Qc 4) Qe)) Qe))) Qe))))))
  (Qi (Ur (j:=6) (Y0 [3] (Zp B.nb_range (Qa (Qc 1) Qe)) (λ_ _ _ _ _=>Xi) (λ_ _ _ _ _=>(Ye Z2 B.nb_tuple Z3 (Qa (Xg (Qc 1) (Zn (Qw Jt Qf (Qc 0))) (Zn (Qw Q7 (Qw Jt Qf (Qc 0)) Qf))) Qe)))) (Jv (Qb Jj) ["_law_row","_law_many","_law_ends","_law_arcs_here","_law_left","_law_arc","_law_crossings"] (by decide +kernel)) Yl.nd)
  (Qx (Yk (Qdb (Qa (Ye Z2 B.nb_tuple Z3 (Qa (Qc 6) Qe)) (Qa (Ye Z2 B.nb_tuple Z3 (Qa (Xg (Qc 3) (Zn (Qw Jt Qf (Qc 1))) Xu) Qe)) (Qa (Yz (Yy (J6 hr)) (Yx (Qa Qf (Qa Qf (Qa Qf (Qa Qf Qe))))) (Q3 C__law_take (hr.mono (by decide)) (Jx (i:=0) (Qa Qf Qe)))) Qe))))))))))
theorem Qb3 (F:Fun K "_law_web" "_law_web" Jj f fd) (B:Bn mg) (C1:Cal P w K mg base "_law_take" 1 ["_law_row","_law_base"] (spI K 0 Qj)) (C2:Cal P w K mg base "_law_arcs" 2 ["_law_row","_law_many"] (spI K 0 Jz)) :
  FnOk P w K mg base CX0 3 f fd ["_law_row","_law_many","_law_ends"] (spI K 0 Y3):=by
 refine Qhq (T:=G4) F Yl rfl rfl (λds kk h=>?_) (Qd4 B C1 C2) (λds kk h=>?_)
 ·obtain ⟨c,n,m,e,rfl,_⟩:=h
  exact ⟨rfl,_,rfl,rfl⟩
 ·obtain ⟨c,n,m,e,rfl,hm,he,he2,hn,hn2,k⟩:=h
  simp only [G0,wSeq,wSet,wBin,wLst,Qd,wC,wNil,List.length_cons,List.length_nil,Nat.zero_add,env0,rowD,List.map_cons,List.map_nil,Nat.reduceAdd,List.replicate,List.cons_append,List.nil_append,Qk,Qew,Xr,Q0,J4,Qs,Bool.and_true,Jb,look,List.set_cons_succ,List.set_cons_zero,Option.isSome_some,Qn,Ze,D.pure,Bool.and_self,true_and,Int.reduceLT,Qcv,Int.reduceNeg,Z9,Va,Qbv,Qie,Int.reducePow]
  have hN:(4*(m:Int)+(e:Int)).toNat=4*m+e:=by omega
  have e1:(List.replicate (4*(m:Int)+(e:Int)).toNat [D.int 0]).flatten=(List.replicate (4*m+e) (0:Int)).map D.int:=by rw [hN];simp
  have e2:rngD 0 (4*(m:Int)+(e:Int)).toNat=(List.range (4*m+e)).map λ(i:Nat)=>D.int (i:Int):=by rw [hN];simp [rngD]
  have big:∀n:Nat,n<=1000->n<sizeLine:=λn h=>Nat.lt_of_le_of_lt h (by decide)
  rw [e1,e2]
  refine ⟨by decide,by omega,by omega,by rw [hN];exact Nat.le_of_lt (big _ (by omega)),by omega,by omega,c,n,2*m+e / 2,by simp [rowD],by omega,hn,by omega,λc1 xs hl nd hxs=>?_⟩
  simp only [rowD,Vr]
  refine ⟨Qz,λt ρ=>∃(c' n':Int) (L:List Nat) (Bs:List Int) (ps:List (Nat × Nat)) (o:Option D),ρ=[some (rowD c' n'),some (.int m),some (.int e),some (.lst (Bs.map D.int)),some (.lst (L.map λ(i:Nat)=>D.int (i:Int))),o,none]/\Pr (4*m+e) xs t L Bs ps/\L.length=4*m+e-2*t/\n'=n+3+t/\t<=xs.length/\∀b∈Bs,0<=b/\b<1000000000,
   ⟨c1,n+3,List.range (4*m+e),List.replicate (4*m+e) 0,[],none,rfl,Pr.start _ _,by simp,by simp,Nat.zero_le _,λb hb=>by rw [(List.mem_replicate.mp hb).2];decide⟩,?_,?_⟩
  ·rintro t d ρ hd ⟨c',n',L,Bs,ps,o,rfl,hp,hL,hn',ht,hB⟩
   obtain ⟨x,hx,rfl⟩:∃x,xs[t]? = some x/\d=.int x:=by
    rw [List.getElem?_map] at hd
    cases q:xs[t]? with
    | none=>rw [q] at hd;cases hd
    | some x=>rw [q] at hd;exact ⟨x,rfl,(Option.some.inj hd).symm⟩
   have htl:=(List.getElem?_eq_some_iff.mp hx).1
   cases L with
   | nil=>simp at hL;omega
   | cons i L =>
    simp only [List.length_cons] at hL
    have hi:=hp.lt (List.mem_cons_self (a:=i))
    have hbl:=hp.bl
    have hix:ixN Bs.length (i:Int)=some i:=Yq (by omega)
    simp only [gN,wSeq,Za,rowD,List.map_cons,List.set_cons_succ,List.set_cons_zero,wMt,Qd,wC,wNil,Q0,J4,Qk,Qs,Bool.and_true,List.nil_append,Jb,look,Option.isSome_some,Qet,BEq.rfl,Qn,Ze,D.pure,Bool.and_self,true_and,Xs,Int.reducePow,Int.reduceNeg,Int.reduceLE,Int.reduceLT,List.length_cons,List.length_map,Nat.zero_lt_succ,Qep,G8,List.getElem?_cons_zero,List.eraseIdx_cons_zero,Qan,hix]
    refine ⟨c',n',(L.length:Int),rfl,by omega,by omega,by omega,by omega,λc2 r h1 h2=>?_⟩
    obtain ⟨s,rfl⟩:=Int.eq_ofNat_of_zero_le h1
    have hs:s<L.length:=by omega
    have hj:=hp.lt (List.mem_cons_of_mem i (List.getElem_mem hs))
    have hsx:seqIndex? (s:Int) L.length=some s:=Vc hs
    have hjx:ixN Bs.length ((L[s]:Nat):Int)=some L[s]:=Yq (by omega)
    simp only [rowD,Xs,Int.reducePow,Int.reduceNeg,List.length_map,hsx,List.getElem?_map,Qn,List.getElem?_eq_getElem hs,Option.map_some,D.pure,Qan,List.length_set,hjx,true_and]
    refine ⟨by omega,by omega,c2,n'+1,L.eraseIdx s,(Bs.set i x).set L[s] x,ps++[(i,L[s])],some (.int x),?_,hp.step hx hs,?_,by omega,by omega,λb hb=>?_⟩
    ·simp [rowD,List.map_set,Vv]
    ·rw [List.length_eraseIdx_of_lt hs];omega
    ·rcases List.mem_or_eq_of_mem_set hb with hb | rfl
     ·rcases List.mem_or_eq_of_mem_set hb with hb | rfl
      ·exact hB b hb
      ·exact hxs _ (List.mem_of_getElem? hx)
     ·exact hxs _ (List.mem_of_getElem? hx)
  ·rintro ρ ⟨c',n',L,Bs,ps,o,rfl,hp,hL,hn',ht,hB⟩
   simp only [List.length_map] at hp hL hn' ht
   have hL0:L=[]:=List.length_eq_zero_iff.mp (by omega)
   subst hL0
   obtain ⟨g,tw⟩:=hp.tw nd
   have hbl:=hp.bl
   simp only [wSeq,wSet,rowD,wRet,wTup,Qd,Qk,wNil,wSlT,Uy,wBin,wLst,wC,List.length_cons,List.length_nil,Nat.zero_add,Nat.reduceAdd,Q0,J4,Qs,D.pure,Bool.and_self,List.nil_append,true_and,G7,Jb,Uj,Qao,look,Qn,U3,Int.reducePow,Int.reduceNeg,Int.toNat_natCast]
   refine ⟨by omega,by omega,Zt (Qdg Bs) (by rw [Ym];exact big _ (by omega)) (λd hd Q' hQ=>?_) ?_⟩
   ·obtain ⟨i,hi,rfl⟩:=Zx hd
    have hb1:-18446744073709551616<0+(i:Int):=by omega
    have hb2:0+(i:Int)<18446744073709551616:=by omega
    have q1:4*(0+(i:Int))=((4*i:Nat):Int):=by omega
    have q2:((4*i:Nat):Int)+4=((4*i+4:Nat):Int):=by omega
    simp only [Qk,Qd,wSlT,blkE,List.map_nil,List.map_cons,look,wNil,G7,wBin,wC,Jb,Qn,Int.reduceNeg,Int.reduceLT,Z9,Va,Ua,Qap,Qcu]
    rw [q1,q2,Qgb (by omega) (by rw [List.length_map];omega),show 4*i+4-4*i=4 by omega,J7 (by omega)]
    refine ⟨Qz,Jg λ_ _=>rfl,?_⟩
    rw [Uf] at hQ
    exact hQ
   ·simp only [List.set_cons_succ,List.set_cons_zero,look,Option.isSome_some,Qn,Ze,Qs,D.pure,Bool.and_self,true_and,Int.reduceNeg,Int.reduceLT,Z9,Ua,Qap,Qcu]
    rw [Xj,show (4*(m:Int))=((4*m:Nat):Int) by omega,Qdf (by rw [List.length_map];omega)]
    have e3:(Bs.map D.int).drop (4*m)=(List.range e).map λj=>.int (Bs.getD (4*m+j) 0):=by
     rw [← J7 (by omega),List.take_of_length_le (by simp;omega)]
    rw [e3]
    refine ⟨Jg λ_ _=>by simp only [D.pure];exact Jg λ_ _=>rfl,Qz,Jg λ_ _=>rfl,by decide,c',n',4,rfl,by decide,by decide,by omega,by omega,λc4 r4 h1 h2=>?_⟩
    obtain ⟨p,hat,hp4⟩:∃p,L2.atI [D.int 0,D.int 1,D.int 2,D.int 20] r4=some (.int p)/\(p=0\/p=1\/p=2\/p=20):=by
     rcases Qn1 (a:=D.int 0) (b:=.int 1) (c:=.int 2) (d:=.int 20) h1 h2 with q | q | q | q
     ·exact ⟨_,q,.inl rfl⟩
     ·exact ⟨_,q,.inr (.inl rfl)⟩
     ·exact ⟨_,q,.inr (.inr (.inl rfl))⟩
     ·exact ⟨_,q,.inr (.inr (.inr rfl))⟩
    simp only [rowD,Ze,Qs,D.pure,Bool.and_self,true_and,Qgz,hat,Qn]
    exact ⟨by decide,k c4 (n'+1) (λi=>Bs.getD i 0) g p tw (λi=>Qda (by decide) hB i) hp4 (by omega) (by omega)⟩
def Jo:GI:=λds k=>∃(c n:Int) (m e:Nat),ds=[rowD c n,.int m,.int e]/\m<=40/\e<=12/\e % 2=0/\0<=n/\n<=900000 /\
 ∀(c' n':Int) (A:Nat->Int) (g:Nat->Nat),M.Tw (4*m+e) A g->(∀i,0<=A i/\A i<1000000000)->n<=n'->n'<=n+1000->k (webD m e A 0) (rowD c' n')
abbrev Qu:Stmt:=top 11
theorem Jk:FnScope ["_law_row","_law_many","_law_ends","_law_spots","_law_arcs_here","_law_arc","_law_crossings"] ["_law_row","_law_many","_law_ends"] (Qb Qu):=⟨rfl,rfl,rfl,by decide +kernel,rfl,by decide +kernel,by decide +kernel⟩
def Z8:Tg:={ own:=λi=>i == 0 || i == 3 || i == 4 || i == 5 || i == 6,io:=[0] }
def Z6:WS:=(wSeq (wSet 3 (Qk Qbc (Qd (wBin Ya (wBin dMul (wC (.int 4)) (wVar 1)) (wVar 2)) wNil)))
 (wSeq (wSet 4 (wBin dMul (wLst (Qd (wC (.int 0)) wNil)) (wBin Ya (wBin dMul (wC (.int 4)) (wVar 1)) (wVar 2))))
 (wSeq (wFor (Zh (Q0 0 Jz (J4 0 (Qd (wBin Ya (wBin dMul (wC (.int 2)) (wVar 1)) (wBin dDiv (wVar 2) (wC (.int 2)))) wNil)))) (gN 5) (wSeq (Za 4 (wVar 5) (wMt 3 "list" Xf (Qd (wC (.int 0)) wNil)))
 (Za 4 (wVar 5) (wMt 3 "list" Xf (Qd (Q0 0 Qj (J4 0 (Qd (Qk Qkg (Qd (Qk dLen (Qd (wVar 3) wNil)) (Qd (wC (.int 5)) wNil))) wNil))) wNil)))))
 (wSeq (wSet 6 (Vb (Qag (Qd (wVar 1) wNil)) wAll (Qk Uk (Qd (wSlT (wVar 1) (Ul (wBin dMul (wC (.int 4)) (wVar 0))) (Ul (wBin Ya (wBin dMul (wC (.int 4)) (wVar 0)) (wC (.int 4))))) wNil)) [4]))
 (wRet (wTup (Qd (Qk Uk (Qd (wVar 6) wNil)) (Qd (Qk Uk (Qd (wSlT (wVar 4) (Ul (wBin dMul (wC (.int 4)) (wVar 1))) Uy) wNil)) (Qd (wC (.int 0)) wNil)))))))))
theorem Gx (B:Bn mg) (C__law_take:Cal P w K mg base "_law_take" 1 ["_law_row","_law_base"] (spI K 0 Qj)) (C__law_arcs:Cal P w K mg base "_law_arcs" 2 ["_law_row","_law_many"] (spI K 0 Jz)):∀(cdv:Value) (A:Around) (outer:List PySem.Env) (s:Shared) (H:Hp) (E:XK),Room 2 (A.deeper (envOfC "_law_chained" (Qb Qu) s.heap.objs.size f cdv))->SVs (cxOf CX0 P w K mg base ["_law_row","_law_many","_law_ends","_law_spots","_law_arcs_here","_law_arc","_law_crossings"] "_law_chained" (Qb Qu) f cdv A outer s H E).nox Z8 (Qr Qu) Z6:=λcdv A outer s H E hr =>
  (Qi (Jd (i:=3) (Zr B.nb_range B.nb_list (Qa (Qw Q7 (Qw Jt Qf (Qc 1)) (Qc 2)) Qe)) Jk.nd)
  (Qi (Jd (i:=4) (Qw Jt (Yx (Qa Qf Qe)) (Qw Q7 (Qw Jt Qf (Qc 1)) (Qc 2))) Jk.nd)
  (Qi (Qai PassesOwn.never (Vx (Q3 C__law_arcs (hr.mono (by decide)) (Jx (i:=0) (Qa (Qw Q7 (Qw Jt Qf (Qc 1)) (Qw Qc3 (Qc 2) Qf)) Qe)))) (Gf (i:=5) Jk.nd) (Qi (Y6 (i:=4) (J6 hr) (Qc 5) (Qa9 (i:=3) Ut PySem.F.plainAttrs_list PySem.F.slot_list_pop PySem.F.type_list_pop (Qa Qf Qe)))
  (Qx (Y6 (i:=4) (J6 hr) (Qc 5) (Qa9 (i:=3) Ut PySem.F.plainAttrs_list PySem.F.slot_list_pop PySem.F.type_list_pop (Qa (Q3 C__law_take (hr.mono (by decide)) (Jx (i:=0) (Qa (Q4 (Qkn rfl) B.nb_min Qgl (Qa (Q4 V0 B.nb_len V1 (Qa (Qc 3) Qe)) (Qa Qf Qe))) Qe))) Qe))))))
  (Qi (Ur (j:=6) (Y0 [4] (Zp B.nb_range (Qa (Qc 1) Qe)) (λ_ _ _ _ _=>Xi) (λ_ _ _ _ _=>(Ye Z2 B.nb_tuple Z3 (Qa (Xg (Qc 1) (Zn (Qw Jt Qf (Qc 0))) (Zn (Qw Q7 (Qw Jt Qf (Qc 0)) Qf))) Qe)))) (Jv (Qb Qu) ["_law_row","_law_many","_law_ends","_law_spots","_law_arcs_here","_law_arc","_law_crossings"] (by decide +kernel)) Jk.nd)
  (Qx (Yk (Qdb (Qa (Ye Z2 B.nb_tuple Z3 (Qa (Qc 6) Qe)) (Qa (Ye Z2 B.nb_tuple Z3 (Qa (Xg (Qc 4) (Zn (Qw Jt Qf (Qc 1))) Xu) Qe)) (Qa Qf Qe))))))))))
theorem U6 (F:Fun K "_law_chained" "_law_chained" Qu f fd) (B:Bn mg) (C1:Cal P w K mg base "_law_take" 1 ["_law_row","_law_base"] (spI K 0 Qj)) (C2:Cal P w K mg base "_law_arcs" 2 ["_law_row","_law_many"] (spI K 0 Jz)) :
  FnOk P w K mg base CX0 3 f fd ["_law_row","_law_many","_law_ends"] (spI K 0 Jo):=by
 refine Qhq (T:=Z8) F Jk rfl rfl (λds kk h=>?_) (Gx B C1 C2) (λds kk h=>?_)
 ·obtain ⟨c,n,m,e,rfl,_⟩:=h
  exact ⟨rfl,_,rfl,rfl⟩
 ·obtain ⟨c,n,m,e,rfl,hm,he,he2,hn,hn2,k⟩:=h
  simp only [Z6,wSeq,wSet,Qk,Qd,wBin,wC,env0,rowD,List.map_cons,List.map_nil,List.length_cons,List.length_nil,Nat.zero_add,Nat.reduceAdd,List.replicate,List.cons_append,List.nil_append,wNil,wLst,Qew,Xr,Q0,J4,Qs,Bool.and_true,Jb,look,List.set_cons_succ,List.set_cons_zero,Option.isSome_some,Qn,Ze,D.pure,Bool.and_self,true_and,Int.reduceLT,Qcv,Int.reduceNeg,Z9,Va,Qie,Int.reducePow,Qbv]
  have hN:(4*(m:Int)+(e:Int)).toNat=4*m+e:=by omega
  have e1:(List.replicate (4*(m:Int)+(e:Int)).toNat [D.int 0]).flatten=(List.replicate (4*m+e) (0:Int)).map D.int:=by rw [hN];simp
  have e2:rngD 0 (4*(m:Int)+(e:Int)).toNat=(List.range (4*m+e)).map λ(i:Nat)=>D.int (i:Int):=by rw [hN];simp [rngD]
  have big:∀n:Nat,n<=1000->n<sizeLine:=λn h=>Nat.lt_of_le_of_lt h (by decide)
  rw [e1,e2]
  refine ⟨by omega,by omega,by decide,by omega,by omega,by rw [hN];exact Nat.le_of_lt (big _ (by omega)),c,n,2*m+e / 2,by simp [rowD],by omega,hn,by omega,λc1 xs hl nd hxs=>?_⟩
  simp only [rowD,Vr]
  refine ⟨Qz,λt ρ=>∃(c' n':Int) (L:List Nat) (Bs:List Int) (ps:List (Nat × Nat)) (o:Option D),ρ=[some (rowD c' n'),some (.int m),some (.int e),some (.lst (L.map λ(i:Nat)=>D.int (i:Int))),some (.lst (Bs.map D.int)),o,none]/\Pr (4*m+e) xs t L Bs ps/\L.length=4*m+e-2*t/\n'=n+3+t/\t<=xs.length/\∀b∈Bs,0<=b/\b<1000000000,
   ⟨c1,n+3,List.range (4*m+e),List.replicate (4*m+e) 0,[],none,rfl,Pr.start _ _,by simp,by simp,Nat.zero_le _,λb hb=>by rw [(List.mem_replicate.mp hb).2];decide⟩,?_,?_⟩
  ·rintro t d ρ hd ⟨c',n',L,Bs,ps,o,rfl,hp,hL,hn',ht,hB⟩
   obtain ⟨x,hx,rfl⟩:∃x,xs[t]? = some x/\d=.int x:=by
    rw [List.getElem?_map] at hd
    cases q:xs[t]? with
    | none=>rw [q] at hd;cases hd
    | some x=>rw [q] at hd;exact ⟨x,rfl,(Option.some.inj hd).symm⟩
   have htl:=(List.getElem?_eq_some_iff.mp hx).1
   cases L with
   | nil=>simp at hL;omega
   | cons i L =>
    simp only [List.length_cons] at hL
    have hi:=hp.lt (List.mem_cons_self (a:=i))
    have hbl:=hp.bl
    have hix:ixN Bs.length (i:Int)=some i:=Yq (by omega)
    simp only [gN,wSeq,Za,rowD,List.map_cons,List.set_cons_succ,List.set_cons_zero,wMt,Qd,wC,wNil,Q0,J4,Qk,Qs,Bool.and_true,List.nil_append,Jb,look,Option.isSome_some,Qet,BEq.rfl,Qn,Ze,D.pure,Bool.and_self,true_and,Xs,Int.reducePow,Int.reduceNeg,Int.reduceLE,Int.reduceLT,List.length_cons,List.length_map,Nat.zero_lt_succ,Qep,G8,Qnt,List.getElem?_cons_zero,List.eraseIdx_cons_zero,Qan,hix]
    refine ⟨c',n',(if 5<(L.length:Int) then 5 else (L.length:Int)),rfl,by split <;> omega,by split <;> omega,by omega,by omega,λc2 r h1 h2=>?_⟩
    have h2:r<(L.length:Int):=by split at h2 <;> omega
    obtain ⟨s,rfl⟩:=Int.eq_ofNat_of_zero_le h1
    have hs:s<L.length:=by omega
    have hj:=hp.lt (List.mem_cons_of_mem i (List.getElem_mem hs))
    have hsx:seqIndex? (s:Int) L.length=some s:=Vc hs
    have hjx:ixN Bs.length ((L[s]:Nat):Int)=some L[s]:=Yq (by omega)
    simp only [rowD,Xs,Int.reducePow,Int.reduceNeg,List.length_map,hsx,List.getElem?_map,Qn,List.getElem?_eq_getElem hs,Option.map_some,D.pure,Qan,List.length_set,hjx,true_and]
    refine ⟨by omega,by omega,c2,n'+1,L.eraseIdx s,(Bs.set i x).set L[s] x,ps++[(i,L[s])],some (.int x),?_,hp.step hx hs,?_,by omega,by omega,λb hb=>?_⟩
    ·simp [rowD,List.map_set,Vv]
    ·rw [List.length_eraseIdx_of_lt hs];omega
    ·rcases List.mem_or_eq_of_mem_set hb with hb | rfl
     ·rcases List.mem_or_eq_of_mem_set hb with hb | rfl
      ·exact hB b hb
      ·exact hxs _ (List.mem_of_getElem? hx)
     ·exact hxs _ (List.mem_of_getElem? hx)
  ·rintro ρ ⟨c',n',L,Bs,ps,o,rfl,hp,hL,hn',ht,hB⟩
   simp only [List.length_map] at hp hL hn' ht
   have hL0:L=[]:=List.length_eq_zero_iff.mp (by omega)
   subst hL0
   obtain ⟨g,tw⟩:=hp.tw nd
   have hbl:=hp.bl
   simp only [wSeq,wSet,rowD,wRet,wTup,Qd,Qk,wNil,wSlT,Uy,wC,List.length_cons,List.length_nil,Nat.zero_add,Nat.reduceAdd,G7,wBin,Jb,Uj,Qao,look,Qn,U3,Int.reducePow,Int.reduceNeg,Int.toNat_natCast]
   refine ⟨by omega,by omega,Zt (Qdg Bs) (by rw [Ym];exact big _ (by omega)) (λd hd Q' hQ=>?_) ?_⟩
   ·obtain ⟨i,hi,rfl⟩:=Zx hd
    have hb1:-18446744073709551616<0+(i:Int):=by omega
    have hb2:0+(i:Int)<18446744073709551616:=by omega
    have q1:4*(0+(i:Int))=((4*i:Nat):Int):=by omega
    have q2:((4*i:Nat):Int)+4=((4*i+4:Nat):Int):=by omega
    simp only [Qk,Qd,wSlT,blkE,List.map_nil,List.map_cons,look,wNil,G7,wBin,wC,Jb,Qn,Int.reduceNeg,Int.reduceLT,Z9,Va,Ua,Qap,Qcu]
    rw [q1,q2,Qgb (by omega) (by rw [List.length_map];omega),show 4*i+4-4*i=4 by omega,J7 (by omega)]
    refine ⟨Qz,Jg λ_ _=>rfl,?_⟩
    rw [Uf] at hQ
    exact hQ
   ·simp only [List.set_cons_succ,List.set_cons_zero,look,Qn,Ze,Qs,D.pure,Bool.and_self,true_and,Int.reduceNeg,Int.reduceLT,Z9,Ua,Qap,Qcu]
    rw [Xj,show (4*(m:Int))=((4*m:Nat):Int) by omega,Qdf (by rw [List.length_map];omega)]
    have e3:(Bs.map D.int).drop (4*m)=(List.range e).map λj=>.int (Bs.getD (4*m+j) 0):=by
     rw [← J7 (by omega),List.take_of_length_le (by simp;omega)]
    rw [e3]
    exact ⟨Jg λ_ _=>by simp only [D.pure];exact Jg λ_ _=>rfl,Qz,Jg λ_ _=>rfl,by decide,k c' n' (λi=>Bs.getD i 0) g tw (λi=>Qda (by decide) hB i) (by omega) (by omega)⟩
end K41
variable {c_next_crossing P_next_crossing:PySem.Addr} {as:List PySem.Addr}
namespace K41
open PySem PySem.Spec L2 PV Fnt
open PyProof.Rows (envOfC)
theorem Um {α:Type} {p:α->Bool} {l:List α} (ht:t<l.length):(l.take (t+1)).filter p=(l.take t).filter p++(if p l[t] then [l[t]] else []):=by
 rw [List.take_succ,List.getElem?_eq_getElem ht,List.filter_append]
 congr 1
 cases h:p l[t] <;> simp [h]
theorem Zs (f:D->D) (p:D->Bool) (hz:ds.length<sizeLine) (ht:∀d∈ds,∀k:Bool->PV.Env->Prop,k (p d) (blkE ρ1 d ix)->wt (blkE ρ1 d ix) k)
  (he:∀d∈ds,p d=true->∀Q':D->PV.Env->Prop,Q' (f d) (blkE ρ1 d ix)->we (blkE ρ1 d ix) Q') (hQ:Q (.lst ((ds.filter p).map f)) ρ1):Qkl ds wt we ρ1 ix Q:=by
 have hlen:∀i,(((ds.take i).filter p).map f).length<=ds.length:=λi=>by
  rw [List.length_map]
  exact Nat.le_trans (List.length_filter_le _ _) (by rw [List.length_take];omega)
 refine ⟨λi ys=>ys=((ds.take i).filter p).map f,by simp,λi d ys hd hy=>⟨by rw [hy];exact Nat.lt_of_le_of_lt (hlen i) hz,?_⟩,λys hy=>⟨by rw [hy];exact Nat.le_of_lt (Nat.lt_of_le_of_lt (hlen _) hz),?_⟩⟩
 ·have hlt:=(List.getElem?_eq_some_iff.mp hd).1
  have hde:ds[i]=d:=by rw [List.getElem?_eq_getElem hlt] at hd;exact Option.some.inj hd
  have hs:=Um (p:=p) hlt
  rw [hde] at hs
  refine ht d (List.mem_of_getElem? hd) _ ?_
  cases hp:p d with
  | true =>
   rw [if_pos rfl]
   refine he d (List.mem_of_getElem? hd) hp _ ?_
   show ys++[f d]=((ds.take (i+1)).filter p).map f
   rw [hs,hy,hp,if_pos rfl,List.map_append];rfl
  | false =>
   rw [if_neg (by decide)]
   show ys=((ds.take (i+1)).filter p).map f
   rw [hs,hy,hp,if_neg (by decide),List.append_nil]
 ·rw [hy,List.take_of_length_le (Nat.le_refl _)];exact hQ
theorem big (h:n<=1000):n<sizeLine:=Nat.lt_of_le_of_lt h (by decide)
theorem Ue {p:D->Bool} {q:Int->Bool} (h:∀i,p (.int i)=q i):∀l:List Int,(l.map D.int).filter p=(l.filter q).map D.int
 | []=>rfl
 | i::l=>by
  rw [List.map_cons,List.filter_cons,List.filter_cons,h i,Ue h l]
  split <;> rfl
abbrev liI (l:List Int):D:=.lst (l.map .int)
def is1 (l:List Int):D->Bool
 | .int i=>decide (l.count i=1)
 | _=>false
def Q9:GA:=λds k=>∃(f c:List Int),ds=[liI f,.tup (c.map .int)]/\f.length<=100/\c.length<=100/\(ones (f++c)).length<64/\k (liI (ones (f++c)))
abbrev Qt:Stmt:=top 1
theorem Zl:FnScope ["front","crossing","arcs"] ["front","crossing"] (Qb Qt):=⟨rfl,rfl,rfl,by decide +kernel,rfl,by decide +kernel,by decide +kernel⟩
def Z7:Tg:={ own:=λi=>i == 2,io:=[] }
def Z5:WS:=(wSeq (wSet 2 (wBin Ya (wVar 0) (Qk Qkh (Qd (wVar 1) wNil))))
 (wRet (Qk Qde (Qd (Vb (Zh (wVar 2)) (wBl (wBin dEq (Qbs (wVar 1) (Qd (wVar 0) wNil)) (wC (.int 1)))) (Yf (wVar 0)) [2]) wNil))))
theorem Gw (B:Bn mg):∀(cdv:Value) (A:Around) (outer:List PySem.Env) (s:Shared) (H:Hp) (E:XK),Room 0 (A.deeper (envOfC "front_behind" (Qb Qt) s.heap.objs.size f cdv))->SVs (cxOf CX0 P w K mg base ["front","crossing","arcs"] "front_behind" (Qb Qt) f cdv A outer s H E).nox Z7 (Qr Qt) Z5:=λcdv A outer s H E hr =>
  (Qi (Jd (i:=2) (Qw Q7 (Qc 0) (Ye Qko B.nb_list X9 (Qa (Qc 1) Qe))) Zl.nd)
  (Qx (Yk (Q4 Qdk B.nb_sorted Qbi (Qa (Z0 (Y0 [2] (Vx (Qc 2)) (λ_ _ _ _ _=>Qbd (Zb (Qhh hr.units) (Qf0 (Qc 1) (Qa (Qc 0) Qe)) Qf)) (λ_ _ _ _ _=>(Yg (Qc 0)))) (Jv (Qb Qt) ["front","crossing","arcs"] (by decide +kernel))) Qe)))))
theorem U5 (F:Fun K "front_behind" "front_behind" Qt f fd) (B:Bn mg):FnOk P w K mg base CX0 1 f fd ["front","crossing"] (spR K Q9):=by
 refine Qj8 (T:=Z7) F Zl rfl (by decide) (λds kk h=>?_) (Gw B) (λds kk h=>?_)
 ·obtain ⟨f,c,rfl,_⟩:=h
  rfl
 ·obtain ⟨f,c,rfl,hf,hc,h64,k⟩:=h
  simp only [Z5,wSeq,wSet,wBin,env0,List.map_cons,List.map_nil,List.length_cons,List.length_nil,Nat.zero_add,Nat.reduceAdd,List.replicate,List.cons_append,List.nil_append,Qk,Qd,wNil,wRet,Uj,Xr,Jb,look,List.set_cons_succ,List.set_cons_zero,Qn,Qi9,Qbw,Vr]
  have el:(f.map D.int)++(c.map D.int)=(f++c).map D.int:=by rw [List.map_append]
  rw [el]
  refine ⟨Qz,Qz,Qz,by rw [List.length_map,List.length_map];exact Nat.le_of_lt (big (by omega)),Zs id (is1 (f++c)) (by rw [List.length_map,List.length_append];exact big (by omega)) (λd hd k' hk=>?_) (λd hd hp Q' hQ=>?_) ?_⟩
  ·obtain ⟨i,_,rfl⟩:=List.mem_map.mp hd
   simp only [blkE,List.map_cons,look,List.map_nil,r_bl,wBin,Qbs,isLs,Qd,wNil,lcOf,wC,Qg0,Zm,Jb,Qn,true_and]
   refine ⟨f++c,rfl,?_⟩
   have e:(((f++c).count i:Nat):Int)=1↔(f++c).count i=1:=by omega
   simp only [is1,e] at hk ⊢
   exact hk
  ·obtain ⟨i,_,rfl⟩:=List.mem_map.mp hd
   simp only [Yf,blkE,List.map_cons,look,List.map_nil,Jb,Qn,D.pure,true_and]
   exact hQ
  ·rw [List.map_id,Ue (q:=λi=>decide ((f++c).count i=1)) λi=>rfl]
   have hl:((f++c).filter λi=>decide ((f++c).count i=1)).length<64:=by rw [← (Vs (f++c)).length_eq];exact h64
   simp only [Qaq]
   refine ⟨_,rfl,hl,λout hp ho=>?_⟩
   rw [Qe7 (l:=f++c) (hp.nodup_iff.mpr Qay) ho λx=>by rw [hp.mem_iff,← (Vs (f++c)).mem_iff,Yi]]
   exact k
abbrev crD (A:Nat->Int) (k:Nat):D:=.tup ((cr A k).map .int)
theorem Y5:webD m e A r=.tup [.tup ((List.range m).map (crD A)),.tup ((List.range e).map λj=>.int (A (4*m+j))),.int r]:=by
 simp [webD,cr,crD]
def Jh:GA:=λds k=>∃(m e:Nat) (A:Nat->Int) (g:Nat->Nat) (r:Int) (ks:List Nat) (j:Nat),ds=[.int j,webD m e A r,liI (ones (al A ks))]/\M.Tw (4*m+e) A g/\m<=16/\e<=8/\(ks++[j]).Nodup/\(∀i∈ks++[j],i<m)/\k (tpI (key A ks j))
theorem few (tw:M.Tw (4*m+e) A g) (hm:m<=16) (he:e<=8) (h:∀i∈ks,i<m):(ones (al A ks)).length<=36:=by
 have:=Qhf tw (l:=al A ks) λx hx=>by
  rw [Qnj] at hx
  obtain ⟨p,hp,rfl⟩:=List.mem_map.mp hx
  obtain ⟨k,hk,hp⟩:=List.mem_flatMap.mp hp
  have:=h k hk
  rw [Qfh] at hp
  exact ⟨p,by omega,rfl⟩
 omega
theorem step (tw:M.Tw (4*m+e) A g) (nd:(ks++[j]).Nodup) (h:∀i∈ks++[j],i<m):ones (ones (al A ks)++cr A j)=ones (al A (ks++[j])):=by
 rw [Qcj]
 exact Qe6 λx=>by rw [← Qcj];exact Qni tw nd h x
theorem Qdh (A:Nat->Int) (k:Nat):(cr A k).length=4:=by simp [cr]
theorem Qkk (h:k<m):L2.atI ((List.range m).map (crD A)) (k:Int)=some (crD A k):=by
 exact L2.Qgm (by simp [h])
theorem Ub (B:Bn mg) (C_front_behind:Cal P w K mg base "front_behind" 1 ["front","crossing"] (spR K Q9)):Qae P w K mg base 2 Qp (spR K Jh):=by
 refine Qoc (p:="k") (m:=false) (wb:=wTup (Qd (Qk dLen (Qd (Qk Q9 (Qd (wVar 2) (Qd (wBin dIx (wBin dIx (wVar 1) (wC (.int 0))) (wVar 0)) wNil))) wNil)) (Qd (Yf (wVar 0)) wNil))) ⟨rfl,rfl,rfl,by decide +kernel,rfl,by decide +kernel,by decide +kernel,by decide +kernel⟩ (λcl pm cdv ct u=>rfl) (λds kk h=>?_) (λA outer s H f cd cl hr=>?_) (λds kk h=>?_)
 ·obtain ⟨m,e,A,g,r,ks,j,rfl,_⟩:=h
  refine ⟨?_,rfl⟩
  simp only [webD,V3,D.bare,Bool.and_true,Bool.and_eq_true]
  refine ⟨trivial,⟨?_,?_⟩,?_⟩
  ·refine V2.mpr λx hx=>?_
   obtain ⟨i,_,rfl⟩:=List.mem_map.mp hx
   simp only [D.bare]
   refine V2.mpr λx hx=>?_
   obtain ⟨i,_,rfl⟩:=List.mem_map.mp hx
   rfl
  ·refine V2.mpr λx hx=>?_
   obtain ⟨i,_,rfl⟩:=List.mem_map.mp hx
   rfl
  ·refine V2.mpr λx hx=>?_
   obtain ⟨i,_,rfl⟩:=List.mem_map.mp hx
   rfl
 ·exact (Qdb (Qa (Q4 V0 B.nb_len V1 (Qa (Vy C_front_behind (hr.mono (by decide)) (Qa (Qc 2) (Qa (Yz (Yy (J6 hr)) (Yz (Yy (J6 hr)) (Qc 1) Qf) (Qc 0)) Qe))) Qe)) (Qa (Yg (Qc 0)) Qe)))
 ·obtain ⟨m,e,A,g,r,ks,j,rfl,tw,hm,he,nd,hlt,k⟩:=h
  have hj:=hlt j (by simp)
  rw [Y5]
  simp only [wTup,Qd,Qk,List.map_cons,List.map_nil,wBin,wC,wNil,Yf,List.length_cons,List.length_nil,Nat.zero_add,Nat.reduceAdd,sz2,true_and,Jb,look,Qn,D.pure,Qdq,Qci,List.getElem?_cons_zero,Qkk hj]
  have hks:∀i∈ks,i<m:=λi hi=>hlt i (List.mem_append_left _ hi)
  refine ⟨ones (al A ks),cr A j,rfl,by have:=few tw hm he hks;omega,by rw [Qdh];omega,?_,?_⟩
  ·rw [step tw nd hlt];have:=few tw hm he hlt;omega
  ·rw [step tw nd hlt]
   simp only [G8,List.length_map]
   exact k
def Jl:GA:=λds k=>∃(m e:Nat) (A:Nat->Int) (g:Nat->Nat) (r:Int) (ks:List Nat),ds=[webD m e A r,liI (ones (al A ks)),.lst ((lft m ks).map λ(i:Nat)=>.int (i:Int))]/\M.Tw (4*m+e) A g/\m<=16/\e<=8/\ks.Nodup/\(∀i∈ks,i<m)/\lft m ks≠[]/\k (.int (nxt A ks (lft m ks):Nat))
abbrev Qv:Stmt:=top 2
theorem Uo:FnScope ["web","front","left"] ["web","front","left"] (Qb Qv):=⟨rfl,rfl,rfl,by decide +kernel,rfl,by decide +kernel,by decide +kernel⟩
def Zi:Tg:={ own:=λi=>false,io:=[] }
def Zg:WS:=(wRet (Qis Jh Qp [0,1] (wVar 2)))
theorem Gm {TB:List (Addr × Array Value)} (B:Bn mg) (hB:Zu mg base) (Lm_next_crossing:Qae P w K mg base 2 Qp (spR K Jh)) (hcode_next_crossing:fd.code=.ref c_next_crossing) (hd_next_crossing:PySem.W.codeHdIn K c_next_crossing P_next_crossing=true) (hP_next_crossing:(P_next_crossing,tgOf Ju Qp.qual)∈TB):∀(cdv:Value) (A:Around) (outer:List PySem.Env) (s:Shared) (H:Hp) (E:XK),Room 3 (A.deeper (envOfC "next_crossing" (Qb Qv) s.heap.objs.size f cdv))->Tabs TB H->fd.code=cdv->SVs (cxOf CX0 P w K mg base ["web","front","left"] "next_crossing" (Qb Qv) f cdv A outer s H E).nox Zi (Qr Qv) Zg:=λcdv A outer s H E hr hT hcv =>
  (Qx (Yk (Qj9 (ix:=[0,1]) (L:=Qp) (clos:=[("web",s.heap.objs.size+1),("front",s.heap.objs.size+1+1)]) Lm_next_crossing (hr.mono (by decide)) B.nb_min Qgl (Qc 2) (Ql0 (L:=Qp) (P:=P_next_crossing) (c:=c_next_crossing) (hcv.symm.trans hcode_next_crossing) hd_next_crossing (hT _ hP_next_crossing) hB) (Qdl rfl rfl rfl rfl (Qdl rfl rfl rfl rfl Qkq)) rfl (by simp))))
theorem Up {TB:List (Addr × Array Value)} (F:Fun K "next_crossing" "next_crossing" Qv f fd) (B:Bn mg) (hB:Zu mg base) (Lm_next_crossing:Qae P w K mg base 2 Qp (spR K Jh)) (hcode_next_crossing:fd.code=.ref c_next_crossing) (hd_next_crossing:PySem.W.codeHdIn K c_next_crossing P_next_crossing=true) (hP_next_crossing:(P_next_crossing,tgOf Ju Qp.qual)∈TB):FnOk P w K mg base CX0 4 f fd ["web","front","left"] (spT TB (spR K Jl)):=by
 refine Qa8 (T:=Zi) F Uo rfl (by decide) (λds kk h=>?_) (Gm B hB Lm_next_crossing hcode_next_crossing hd_next_crossing hP_next_crossing) (λds kk h=>?_)
 ·obtain ⟨m,e,A,g,r,ks,rfl,_⟩:=h
  rfl
 ·obtain ⟨m,e,A,g,r,ks,rfl,tw,hm,he,nd,hlt,hne,k⟩:=h
  simp only [Zg,wRet,Qis,env0,List.map_cons,List.map_nil,List.length_cons,List.length_nil,Nat.zero_add,Nat.reduceAdd,List.cons_append,List.nil_append,Qd1,Jb,look,Qn]
  refine ⟨(lft m ks).map λ(i:Nat)=>(i:Int),keys A ks (lft m ks),by rw [List.map_map];rfl,by simpa using hne,λj n hj=>?_,λy hy=>?_⟩
  ·rw [List.getElem?_map] at hj
   cases hq:(lft m ks)[j]? with
   | none=>rw [hq] at hj;cases hj
   | some i =>
    rw [hq] at hj
    cases hj
    obtain ⟨h1,h2⟩:=Xy.mp (List.mem_of_getElem? hq)
    refine ⟨m,e,A,g,r,ks,i,rfl,tw,hm,he,List.nodup_append.mpr ⟨nd,by simp,λa ha b hb z=>?_⟩,λa ha=>?_,?_⟩
    ·rw [List.mem_singleton.mp hb] at z;exact h2 (z ▸ ha)
    ·rcases List.mem_append.mp ha with ha | ha
     ·exact hlt a ha
     ·rw [List.mem_singleton.mp ha];exact h1
    ·unfold keys
     rw [List.getD_eq_getElem?_getD,hq];rfl
  ·rw [List.length_map,List.getElem?_map] at hy
   cases hq:(lft m ks)[argBest (btK (keys A ks (lft m ks))) ((lft m ks).length-1)]? with
   | none=>rw [hq] at hy;cases hy
   | some i =>
    rw [hq] at hy
    cases hy
    have e:nxt A ks (lft m ks)=i:=by unfold nxt;rw [List.getD_eq_getElem?_getD,hq];rfl
    rw [← e];exact k
abbrev frT (A:Nat->Int) (m t:Nat):List Int:=ones (al A (ord A m t))
abbrev kT (A:Nat->Int) (m t:Nat):Nat:=nxt A (ord A m t) (lft m (ord A m t))
def Ve (A:Nat->Int) (m:Nat) (as:List Addr):List D:=(List.range as.length).map λt=>.tup [.int (kT A m t:Nat),.lsa (as.getD t 0) ((frT A m (t+1)).map .int)]
def Gp (A:Nat->Int) (m n:Nat):List D:=(List.range n).map λt=>.tup [.int (kT A m t:Nat),liI (frT A m (t+1))]
theorem G6:Ve A m (as++[a])=Ve A m as++[.tup [.int (kT A m as.length:Nat),.lsa a ((frT A m (as.length+1)).map .int)]]:=by
 unfold Ve
 rw [List.length_append,List.length_singleton,List.range_succ,List.map_append]
 congr 1
 ·refine List.map_congr_left λt ht=>?_
  have:=List.mem_range.mp ht
  simp [List.getD_eq_getElem?_getD,List.getElem?_append_left this]
 ·simp
theorem Qgv:unA (.lst (Ve A m as))=.lst (Gp A m as.length):=by
 unfold unA Ve Gp
 simp [un1]
def FrOk (A:Nat->Int) (m:Nat) (as:List Addr) (fr:D):Prop:=(as=[]/\fr=.lst [])\/∃as' a,as=as'++[a]/\fr=.kc (.any a)
theorem fr0:frT A m 0=[]:=by
 refine List.eq_nil_iff_forall_not_mem.mpr λx hx=>?_
 have:=Yi.mp hx
 simp [al,ord] at this
theorem Qeh {fr:D} {w l o:Option D} (h:FrOk A m as fr) (q:Q (liI (frT A m as.length)) [w,some (.lst (Ve A m as)),some fr,l,o]):Qea 2 1 [w,some (.lst (Ve A m as)),some fr,l,o] Q:=by
 rcases h with ⟨rfl,rfl⟩ | ⟨as',a,rfl,rfl⟩
 ·show Q (.lst []) _
  rw [List.length_nil,fr0] at q
  exact q
 ·refine ⟨Ve A m (as'++[a]),as'.length,.int (kT A m as'.length:Nat),(frT A m (as'.length+1)).map .int,rfl,?_,?_⟩
  ·have hl:(Ve A m as').length=as'.length:=by simp [Ve]
   rw [G6,List.getElem?_append_right (by omega),hl,Nat.sub_self];rfl
  ·rw [List.length_append,List.length_singleton] at q
   exact q
theorem Xh:∀(l:List Nat),Yh 9 (l.map λ(i:Nat)=>D.int (i:Int))=true
 | []=>rfl
 | i::l=>by rw [List.map_cons,Yh,Xh l];rfl
theorem Qhv {l:List Nat} (nd:l.Nodup) (h:k∈l):∃i:Nat,l[i]? = some k/\(∀j x,j<i->l[j]? = some x->x≠k)/\l.eraseIdx i=l.erase k:=by
 obtain ⟨i,hi,e⟩:=List.getElem_of_mem h
 refine ⟨i,by rw [List.getElem?_eq_getElem hi,e],λj x hj hx z=>?_,?_⟩
 ·subst z
  obtain ⟨hj',e'⟩:=List.getElem?_eq_some_iff.mp hx
  have:=(List.getElem_inj (h₀:=hj') (h₁:=hi) nd).mp (e'.trans e.symm)
  omega
 ·rw [List.erase_eq_eraseIdx_of_idxOf (i:=i)]
  rw [← e];exact nd.idxOf_getElem i hi
def Zq:GA:=λds k=>∃(m e:Nat) (A:Nat->Int) (g:Nat->Nat) (r:Int),ds=[webD m e A r]/\M.Tw (4*m+e) A g/\m<=16/\e<=8/\k (.lst (Gp A m m))
def Qhp:GA:=λds k=>∃(m e:Nat) (A:Nat->Int) (g:Nat->Nat) (r:Int),ds=[webD m e A r]/\M.Tw (4*m+e) A g/\m<=16/\e<=8/\∀as:List Addr,as.length=m->k (.lst (Ve A m as))
abbrev Y8:Stmt:=top 3
theorem Zv:FnScope ["web","rows","front","left","k"] ["web"] (Qb Y8):=⟨rfl,rfl,rfl,by decide +kernel,rfl,by decide +kernel,by decide +kernel⟩
def Qem:Tg:={ own:=λi=>i == 1 || i == 2 || i == 3 || i == 4,io:=[] }
def Qd8:WS:=(wSeq (wSet 1 (wLst wNil))
 (wSeq (wSet 2 (wLst wNil))
 (wSeq (wSet 3 (Qk Qbc (Qd (Qk dLen (Qd (wBin dIx (wVar 0) (wC (.int 0))) wNil)) wNil)))
 (wSeq (Qd9 (wTru (wVar 3)) (wSeq (wSet 4 (Qk Jl (Qd (wVar 0) (Qd (Qea 2 1) (Qd (wVar 3) wNil)))))
 (wSeq (Go (wMt 3 "list" Qb9 (Qd (Yf (wVar 4)) wNil)))
 (wSeq (wSet 2 (Qk Q9 (Qd (Qea 2 1) (Qd (wBin dIx (wBin dIx (wVar 0) (wC (.int 0))) (wVar 4)) wNil))))
 (Qeg 1 4 2)))))
 (Qeb 1)))))
theorem Qks {TB:List (Addr × Array Value)} (B:Bn mg) (hB:Zu mg base) (C_front_behind:Cal P w K mg base "front_behind" 1 ["front","crossing"] (spR K Q9)) (C_next_crossing:Cal P w K mg base "next_crossing" 4 ["web","front","left"] (spT TB (spR K Jl))):∀(cdv:Value) (A:Around) (outer:List PySem.Env) (s:Shared) (H:Hp) (E:XK),Room 4 (A.deeper (envOfC "taken" (Qb Y8) s.heap.objs.size f cdv))->Tabs TB H->fd.code=cdv->SVs (cxOf CX0 P w K mg base ["web","rows","front","left","k"] "taken" (Qb Y8) f cdv A outer s H E).nox Qem (Qr Y8) Qd8:=λcdv A outer s H E hr hT hcv =>
  (Qi (Jd (i:=1) (Yx Qe) Zv.nd)
  (Qi (Jd (i:=2) (Yx Qe) Zv.nd)
  (Qi (Jd (i:=3) (Zr B.nb_range B.nb_list (Qa (Q4 V0 B.nb_len V1 (Qa (Yz (Yy (J6 hr)) (Qc 0) Qf) Qe)) Qe)) Zv.nd)
  (Qi (Qcr PassesOwn.never (G1 (Qc 3)) (Qi (Jd (i:=4) (Y9 C_next_crossing (hr.mono (by decide)) hT (Qa (Qc 0) (Qa (Qfy (i:=2) (j:=1)) (Qa (Qc 3) Qe)))) Zv.nd)
  (Qi (Xo (Qa9 (i:=3) (Qfi (hu66 hr)) PySem.F.plainAttrs_list PySem.F.slot_list_remove PySem.F.type_list_remove (Qa (Yg (Qc 4)) Qe)))
  (Qi (Jd (i:=2) (Vy C_front_behind (hr.mono (by decide)) (Qa (Qfy (i:=2) (j:=1)) (Qa (Yz (Yy (J6 hr)) (Yz (Yy (J6 hr)) (Qc 0) Qf) (Qc 4)) Qe))) Zv.nd)
  (Qx (Qgs (i:=1) (c:=4) (j:=2)))))))
  (Qx (Qen (i:=1)))))))
theorem Qhg {TB:List (Addr × Array Value)} (F:Fun K "taken" "taken" Y8 f fd) (B:Bn mg) (hB:Zu mg base) (C_front_behind:Cal P w K mg base "front_behind" 1 ["front","crossing"] (spR K Q9)) (C_next_crossing:Cal P w K mg base "next_crossing" 4 ["web","front","left"] (spT TB (spR K Jl))):FnOk P w K mg base CX0 5 f fd ["web"] (spT TB (spR K Zq)):=by
 refine FnOk.unA (g':=Qhp) (Qa8 (T:=Qem) F Zv rfl (by decide) (λds kk h=>?_) (Qks B hB C_front_behind C_next_crossing) (λds kk h=>?_)) λds kk h=>?_
 ·obtain ⟨m,e,A,g,r,rfl,_⟩:=h
  rfl
 ·obtain ⟨m,e,A,g,r,rfl,tw,hm,he,k⟩:=h
  simp only [Qd8,env0,rowD,List.length_cons,List.length_nil,List.map_cons,List.map_nil,List.cons_append,List.nil_append,List.replicate]
  rw [Y5]
  simp only [wSeq,wSet,wLst,wNil,List.length_nil,sz0,Qk,Qd,wBin,List.set_cons_succ,List.set_cons_zero,wC,Jb,look,Qn,Qdq,Qci,List.getElem?_cons_zero,Qif,List.length_map,List.length_range,Qbv,Int.toNat_natCast,true_and]
  rw [← Y5 (e:=e) (r:=r)]
  refine ⟨by omega,by omega,λn ρ=>∃(as:List Addr) (fr:D) (o:Option D),as.length<=m/\n=m-as.length/\FrOk A m as fr/\ρ=[some (webD m e A r),some (.lst (Ve A m as)),some fr,some (.lst ((lft m (ord A m as.length)).map λ(i:Nat)=>.int (i:Int))),o],
   ⟨m,[],.lst [],none,Nat.zero_le _,rfl,.inl ⟨rfl,rfl⟩,?_⟩,?_⟩
  ·have e1:lft m (ord A m 0)=List.range m:=by unfold lft ord;exact List.filter_eq_self.mpr λa _=>by simp
   simp only [List.length_nil,e1]
   simp [Ve,rngD]
  ·rintro n ρ ⟨as,fr,o,hle,rfl,hfr,rfl⟩
   have ok:=Yn A m as.length hle
   simp only [wSeq,wSet,Qk,Qd,wNil,Go,wMt,Yf,wBin,wC,Qeg,lsOf,Jb,Qeb,Qgy,look,Qn,Qla,List.isEmpty_map]
   by_cases hlt:as.length<m
   ·have hne:lft m (ord A m as.length)≠[]:=λz=>by have:=ok.left;rw [z] at this;simp at this;omega
    have hem:(lft m (ord A m as.length)).isEmpty=false:=by simpa using hne
    simp only [hem,Bool.not_false,reduceIte]
    refine Qeh hfr ?_
    simp only [look,List.set_cons_succ,List.set_cons_zero,Qet,BEq.rfl,Qn,Qdr,true_and]
    refine ⟨m,e,A,g,r,ord A m as.length,rfl,tw,hm,he,ok.nd,ok.lt,hne,?_⟩
    have hk:=Qfd (A:=A) (ks:=ord A m as.length) hne
    obtain ⟨hk1,hk2⟩:=Xy.mp hk
    obtain ⟨i,hi1,hi2,hi3⟩:=Qhv (Qil m (ord A m as.length)) hk
    simp only [D.pure,true_and]
    refine ⟨Xh _,rfl,i,by rw [List.getElem?_map,hi1];rfl,λj x hj hx z=>?_,?_⟩
    ·subst z
     rw [List.getElem?_map] at hx
     cases hq:(lft m (ord A m as.length))[j]? with
     | none=>rw [hq] at hx;cases hx
     | some y =>
      rw [hq] at hx
      have hx:=Option.some.inj hx
      injection hx with hx
      exact hi2 j y hj hq (by omega)
    ·refine Qeh hfr ?_
     rw [Y5]
     simp only [look,List.set_cons_succ,List.set_cons_zero,Qn,D.pure,true_and,Qdq,Qci,List.getElem?_cons_zero,Qkk hk1]
     have nd2:=(Yn A m (as.length+1) hlt).nd
     have lt2:=(Yn A m (as.length+1) hlt).lt
     have hst:=step tw nd2 lt2
     refine ⟨frT A m as.length,cr A (kT A m as.length),rfl,Nat.le_trans (few tw hm he ok.lt) (by decide),by rw [Qdh];omega,by rw [hst];exact Nat.lt_of_le_of_lt (few tw hm he lt2) (by decide),?_⟩
     rw [hst,← Y5 (e:=e) (r:=r)]
     simp only []
     have hrl:(Ve A m as).length=as.length:=by simp [Ve]
     refine ⟨by rw [hrl];exact big (by omega),λa=>⟨m-(as.length+1),by omega,as++[a],.kc (.any a),some (.int (kT A m as.length:Nat)),by simp;omega,by simp,.inr ⟨as,a,rfl,rfl⟩,?_⟩⟩
     rw [G6]
     simp only [List.length_append,List.length_singleton]
     have e3:lft m (ord A m (as.length+1))=(lft m (ord A m as.length)).eraseIdx i:=by rw [hi3];exact Qc6
     rw [e3,Vv]
     rfl
   ·have hl:as.length=m:=by omega
    have hem:(lft m (ord A m as.length))=[]:=List.length_eq_zero_iff.mp (by rw [ok.left];omega)
    simp only [hem,List.isEmpty_nil,Bool.not_true,Bool.false_eq_true,reduceIte]
    exact k as hl
 ·obtain ⟨m,e,A,g,r,rfl,tw,hm,he,k⟩:=h
  exact ⟨m,e,A,g,r,rfl,tw,hm,he,λas ha=>by show kk (unA _);rw [Qgv,ha];exact k⟩
def Jy:GA:=λds k=>∃(m e:Nat) (A:Nat->Int) (g:Nat->Nat) (r:Int),ds=[webD m e A r]/\M.Tw (4*m+e) A g/\m<=16/\e<=8/\k (.lst ((ord A m m).map λ(i:Nat)=>.int (i:Int)))
abbrev Ji:Stmt:=top 4
theorem Qbu:FnScope ["web"] ["web"] (Qb Ji):=⟨rfl,rfl,rfl,by decide +kernel,rfl,by decide +kernel,by decide +kernel⟩
def G3:Tg:={ own:=λi=>false,io:=[] }
def Gz:WS:=(wRet (Qef (Zh (Qk Zq (Qd (wVar 0) wNil))) wAll (Yf (wVar 0)) []))
theorem Qd3 {TB:List (Addr × Array Value)} (B:Bn mg) (hB:Zu mg base) (C_taken:Cal P w K mg base "taken" 5 ["web"] (spT TB (spR K Zq))):∀(cdv:Value) (A:Around) (outer:List PySem.Env) (s:Shared) (H:Hp) (E:XK),Room 5 (A.deeper (envOfC "order_of" (Qb Ji) s.heap.objs.size f cdv))->Tabs TB H->fd.code=cdv->SVs (cxOf CX0 P w K mg base ["web"] "order_of" (Qb Ji) f cdv A outer s H E).nox G3 (Qr Ji) Gz:=λcdv A outer s H E hr hT hcv =>
  (Qx (Yk (Qht (Qh1 [] (Vx (Y9 C_taken (hr.mono (by decide)) hT (Qa (Qc 0) Qe))) (λ_ _ _ _ _=>Xi) (λ_ _ _ _ _=>(Yg (Qc 0)))) (Qbf (Qb Ji) ["web"] (by decide +kernel)))))
theorem Qb2 {TB:List (Addr × Array Value)} (F:Fun K "order_of" "order_of" Ji f fd) (B:Bn mg) (hB:Zu mg base) (C_taken:Cal P w K mg base "taken" 5 ["web"] (spT TB (spR K Zq))):FnOk P w K mg base CX0 6 f fd ["web"] (spT TB (spR K Jy)):=by
 refine Qa8 (T:=G3) F Qbu rfl (by decide) (λds kk h=>?_) (Qd3 B hB C_taken) (λds kk h=>?_)
 ·obtain ⟨m,e,A,g,r,rfl,_⟩:=h
  rfl
 ·obtain ⟨m,e,A,g,r,rfl,tw,hm,he,k⟩:=h
  simp only [Gz,wRet,Qef,env0,List.map_cons,List.map_nil,List.length_cons,List.length_nil,Nat.zero_add,List.cons_append,List.nil_append,Xr,Qk,Qd,wNil,Jb,look,Qn]
  refine ⟨m,e,A,g,r,rfl,tw,hm,he,?_⟩
  simp only [Vr]
  refine ⟨λi ys=>ys=(ord A m i).map (λ(i:Nat)=>D.int (i:Int))/\i<=m,⟨rfl,Nat.zero_le _⟩,λi d ys hd hy=>?_,λys hy=>?_⟩
  ·obtain ⟨rfl,hi⟩:=hy
   have hlt:i<m:=by
    have:=(List.getElem?_eq_some_iff.mp hd).1
    simpa [Gp] using this
   unfold Gp at hd
   rw [List.getElem?_map,List.getElem?_range hlt] at hd
   have hd:=(Option.some.inj hd).symm
   subst hd
   refine ⟨by rw [List.length_map,(Yn A m i hi).len];exact big (by omega),?_⟩
   simp only [wAll,Yf,Qab,List.map_nil,Jb,look,Qn,reduceIte,Qlm,D.pure,true_and]
   exact ⟨by simp [ord],hlt⟩
  ·have hl:(Gp A m m).length=m:=by simp [Gp]
   rw [hl] at hy
   obtain ⟨rfl,_⟩:=hy
   exact ⟨by rw [List.length_map,(Yn A m m (Nat.le_refl _)).len];exact Nat.le_of_lt (big (by omega)),k⟩
def frsD (A:Nat->Int) (m:Nat):List D:=(List.range m).map λt=>liI (frT A m (t+1))
def Yw:GA:=λds k=>∃(m e:Nat) (A:Nat->Int) (g:Nat->Nat) (r:Int),ds=[webD m e A r]/\M.Tw (4*m+e) A g/\m<=16/\e<=8/\k (.lst (frsD A m))
abbrev Yb:Stmt:=top 5
theorem Qer:FnScope ["web"] ["web"] (Qb Yb):=⟨rfl,rfl,rfl,by decide +kernel,rfl,by decide +kernel,by decide +kernel⟩
def Qcq:Tg:={ own:=λi=>false,io:=[] }
def Qcl:WS:=(wRet (Qee (Qk Zq (Qd (wVar 0) wNil))))
theorem Qh7 {TB:List (Addr × Array Value)} (B:Bn mg) (hB:Zu mg base) (C_taken:Cal P w K mg base "taken" 5 ["web"] (spT TB (spR K Zq))):∀(cdv:Value) (A:Around) (outer:List PySem.Env) (s:Shared) (H:Hp) (E:XK),Room 5 (A.deeper (envOfC "fronts" (Qb Yb) s.heap.objs.size f cdv))->Tabs TB H->fd.code=cdv->SVs (cxOf CX0 P w K mg base ["web"] "fronts" (Qb Yb) f cdv A outer s H E).nox Qcq (Qr Yb) Qcl:=λcdv A outer s H E hr hT hcv =>
  (Qx (Yk (Qhs (Y9 C_taken (hr.mono (by decide)) hT (Qa (Qc 0) Qe)) (Qbf (Qb Yb) ["web"] (by decide +kernel)))))
theorem Qe9 {TB:List (Addr × Array Value)} (F:Fun K "fronts" "fronts" Yb f fd) (B:Bn mg) (hB:Zu mg base) (C_taken:Cal P w K mg base "taken" 5 ["web"] (spT TB (spR K Zq))):FnOk P w K mg base CX0 6 f fd ["web"] (spT TB (spR K Yw)):=by
 refine Qa8 (T:=Qcq) F Qer rfl (by decide) (λds kk h=>?_) (Qh7 B hB C_taken) (λds kk h=>?_)
 ·obtain ⟨m,e,A,g,r,rfl,_⟩:=h
  rfl
 ·obtain ⟨m,e,A,g,r,rfl,tw,hm,he,k⟩:=h
  simp only [Qcl,wRet,Qee,Qk,Qd,env0,List.map_cons,List.map_nil,List.length_cons,List.length_nil,Nat.zero_add,List.cons_append,List.nil_append,wNil,lsOf,Jb,look,Qn]
  refine ⟨m,e,A,g,r,rfl,tw,hm,he,(List.range m).map λt=>(D.int (kT A m t:Nat),liI (frT A m (t+1))),?_,?_,?_⟩
  ·unfold Gp;rw [List.map_map];rfl
  ·have hl:(Gp A m m).length=m:=by simp [Gp]
   rw [hl];exact big (by omega)
  ·rw [List.map_map];exact k
end K41
namespace K41
open PySem PySem.Spec L2 PV Fnt
open PyProof.Rows (envOfC)
open Dct (enc Qf3 Qdc Qcn Qbx Uq)
theorem Qfw {p n q:Int}:∀{a:Pol.T},Pol.get (Pol.put a p n) q=if q=p then n else Pol.get a q
 | []=>by
  unfold Pol.put Pol.get
  by_cases h:p=q
  ·rw [if_pos h,if_pos h.symm]
  ·rw [if_neg h,if_neg (Ne.symm h)];rfl
 | t::a=>by
  unfold Pol.put
  by_cases e:t.1=p
  ·rw [if_pos e]
   unfold Pol.get
   by_cases h:q=p
   ·rw [if_pos h.symm,if_pos h]
   ·rw [if_neg (Ne.symm h),if_neg h,if_neg (by rw [e];exact Ne.symm h)]
  ·rw [if_neg e]
   unfold Pol.get
   by_cases h:t.1=q
   ·rw [if_pos h,if_pos h,if_neg (by rw [← h];exact e)]
   ·rw [if_neg h,if_neg h,Qfw]
theorem Qfg {p n q:Int}:∀{a:Pol.T},q∈(Pol.put a p n).map (·.1)↔q=p\/q∈a.map (·.1)
 | []=>by simp [Pol.put]
 | t::a=>by
  unfold Pol.put
  by_cases e:t.1=p
  ·rw [if_pos e]
   simp only [List.map_cons,List.mem_cons,e]
   constructor
   ·rintro (h | h)
    ·exact .inl h
    ·exact .inr (.inr h)
   ·rintro (h | h | h)
    ·exact .inl h
    ·exact .inl h
    ·exact .inr h
  ·rw [if_neg e]
   simp only [List.map_cons,List.mem_cons,Qfg]
   constructor
   ·rintro (h | h | h)
    ·exact .inr (.inl h)
    ·exact .inl h
    ·exact .inr (.inr h)
   ·rintro (h | h | h)
    ·exact .inr (.inl h)
    ·exact .inl h
    ·exact .inr (.inr h)
structure CntOk (l:List Int) (a:Pol.T):Prop where
 nd:(a.map (·.1)).Nodup
 get:∀x,Pol.get a x=(l.count x:Nat)
 mem:∀x,x∈a.map (·.1)↔x∈l
 len:a.length<=l.length
theorem CntOk.nil:CntOk [] []:=⟨List.nodup_nil,λ_=>rfl,λx=>by simp,Nat.le_refl _⟩
theorem CntOk.add {a:Pol.T} (h:CntOk l a) (x:Int):CntOk (l++[x]) (Pol.put a x (Pol.get a x+1)):=by
 refine ⟨Pol.Qar h.nd,λy=>?_,λy=>?_,?_⟩
 ·rw [Qfw,List.count_append,h.get,h.get]
  by_cases e:y=x
  ·subst e;rw [if_pos rfl];simp
  ·rw [if_neg e];simp [Ne.symm e]
 ·rw [Qfg,h.mem,List.mem_append,List.mem_singleton,or_comm]
 ·have:=Pol.G9 (p:=x) (n:=Pol.get a x+1) (a:=a)
  have:=h.len
  simp only [List.length_append,List.length_singleton]
  omega
def Jn:GA:=λds k=>∃(m e:Nat) (A:Nat->Int) (g:Nat->Nat) (r:Int) (ks:List Nat),ds=[webD m e A r,.lst (ks.map λ(i:Nat)=>.int (i:Int))]/\M.Tw (4*m+e) A g/\m<=16/\e<=8/\ks.length<=16/\(∀i∈ks,i<m)/\k (liI (ones (al A ks)))
abbrev Q5:Stmt:=top 12
theorem Yt:FnScope ["_law_web_here","_law_done","_law_counts","_law_k","_law_arc"] ["_law_web_here","_law_done"] (Qb Q5):=⟨rfl,rfl,rfl,by decide +kernel,rfl,by decide +kernel,by decide +kernel⟩
def U0:Tg:={ own:=λi=>i == 2 || i == 3 || i == 4,io:=[] }
def Uw:WS:=(wSeq (wSet 2 (wC (.dik [])))
 (wSeq (wFor (Zh (wVar 1)) (gN 3) (wFor (Zh (Yf (wBin dIx (wBin dIx (wVar 0) (wC (.int 0))) (wVar 3)))) (gN 4) (Za 2 (wBin Ya (Qed (wVar 2) (wVar 4) (wC (.int 0))) (wC (.int 1))) (wVar 4))))
 (wRet (Qk Qde (Qd (Vb (Qec 2) (wBl (wBin dEq (wBin dIx (wVar 1) (wVar 0)) (wC (.int 1)))) (Yf (wVar 0)) [2]) wNil)))))
theorem Qce (B:Bn mg):∀(cdv:Value) (A:Around) (outer:List PySem.Env) (s:Shared) (H:Hp) (E:XK),Room 0 (A.deeper (envOfC "_law_open" (Qb Q5) s.heap.objs.size f cdv))->SVs (cxOf CX0 P w K mg base ["_law_web_here","_law_done","_law_counts","_law_k","_law_arc"] "_law_open" (Qb Q5) f cdv A outer s H E).nox U0 (Qr Q5) Uw:=λcdv A outer s H E hr =>
  (Qi (Jd (i:=2) Qhr Yt.nd)
  (Qi (Qai PassesOwn.never (Qm0 (i:=1)) (Gf (i:=3) Yt.nd) (Qx (Qai PassesOwn.never (Vx (Yg (Yz (Yy (J6 hr)) (Yz (Yy (J6 hr)) (Qc 0) Qf) (Qc 3)))) (Gf (i:=4) Yt.nd) (Qx (Y6 (i:=2) (J6 hr) (Qw Q7 (Qka (J6 hr) (Qc 2) (Qc 4) Qf) Qf) (Qc 4))))))
  (Qx (Yk (Q4 Qdk B.nb_sorted Qbi (Qa (Z0 (Y0 [2] (Qhm (s:=2)) (λ_ _ _ _ _=>Qbd (Zb (Qhh hr.units) (Yz (Yy (J6 hr)) (Qc 1) (Qc 0)) Qf)) (λ_ _ _ _ _=>(Yg (Qc 0)))) (Jv (Qb Q5) ["_law_web_here","_law_done","_law_counts","_law_k","_law_arc"] (by decide +kernel))) Qe))))))
theorem Qkv (h:ks[t]? = some k):al A (ks.take (t+1))=al A (ks.take t)++cr A k:=by
 rw [List.take_add_one,h,← Qcj];rfl
theorem Qir (ks:List Nat):(al A ks).length=4*ks.length:=by
 induction ks with
 | nil=>rfl
 | cons k ks ih=>unfold al at ih ⊢;rw [List.flatMap_cons,List.length_append,Qdh,ih,List.length_cons];omega
theorem Qa0 (F:Fun K "_law_open" "_law_open" Q5 f fd) (B:Bn mg):FnOk P w K mg base CX0 1 f fd ["_law_web_here","_law_done"] (spR K Jn):=by
 refine Qj8 (T:=U0) F Yt rfl (by decide) (λds kk h=>?_) (Qce B) (λds kk h=>?_)
 ·obtain ⟨m,e,A,g,r,ks,rfl,_⟩:=h
  rfl
 ·obtain ⟨m,e,A,g,r,ks,rfl,tw,hm,he,hk,hlt,k⟩:=h
  simp only [Uw,wSeq,wSet,wC,env0,List.map_cons,List.map_nil,List.length_cons,List.length_nil,Nat.zero_add,Nat.reduceAdd,List.replicate,List.cons_append,List.nil_append,List.set_cons_succ,List.set_cons_zero,Qew,Xr,Jb,look,Qn,Vr]
  refine ⟨Jg λ_ _=>rfl,λt ρ=>∃(a:Pol.T) (o3 o4:Option D),ρ=[some (webD m e A r),some (.lst (ks.map λ(i:Nat)=>.int (i:Int))),some (.dik (enc a)),o3,o4]/\CntOk (al A (ks.take t)) a,⟨[],none,none,rfl,.nil⟩,?_,?_⟩
  ·rintro t d ρ hd ⟨a,o3,o4,rfl,ca⟩
   rw [List.getElem?_map] at hd
   cases hq:ks[t]? with
   | none=>rw [hq] at hd;cases hd
   | some i =>
    rw [hq] at hd
    have hd:=(Option.some.inj hd).symm
    subst hd
    have hi:=hlt i (List.mem_of_getElem? hq)
    have htl:=(List.getElem?_eq_some_iff.mp hq).1
    rw [Y5]
    simp only [gN,List.set_cons_succ,List.set_cons_zero,Qew,Xr,Yf,wBin,wC,Jb,look,Qn,Qdq,Qci,List.getElem?_cons_zero,Qkk hi,D.pure,Qlc]
    rw [← Y5 (e:=e) (r:=r)]
    refine ⟨Qz,Qz,Qz,λj ρ=>∃(a:Pol.T) (o4:Option D),ρ=[some (webD m e A r),some (.lst (ks.map λ(i:Nat)=>.int (i:Int))),some (.dik (enc a)),some (.int (i:Int)),o4]/\CntOk (al A (ks.take t)++(cr A i).take j) a,⟨a,o4,rfl,by simpa using ca⟩,?_,?_⟩
    ·rintro j d ρ hd ⟨a,o4,rfl,ca⟩
     rw [List.getElem?_map] at hd
     cases hx:(cr A i)[j]? with
     | none=>rw [hx] at hd;cases hd
     | some x =>
      rw [hx] at hd
      have hd:=(Option.some.inj hd).symm
      subst hd
      have hlen:a.length<1000:=by
       have:=ca.len
       rw [List.length_append,Qir,List.length_take,List.length_take,Qdh] at this
       omega
      simp only [gN,Za,wBin,Qed,List.set_cons_succ,List.set_cons_zero,wC,D.pure,Jb,true_and,look,Option.isSome_some,Qn,Qi8,Qlo,Qlp,Qcn,Va]
      refine ⟨by rw [Qf3];exact big (by omega),_,_,by rw [Qbx ca.nd],?_⟩
      have:=ca.add x
      rw [List.append_assoc] at this
      rw [List.take_add_one,hx]
      exact this
    ·rintro ρ ⟨a,o4,rfl,ca⟩
     refine ⟨a,_,o4,rfl,?_⟩
     rw [Qkv hq]
     rw [List.length_map,List.take_of_length_le (Nat.le_refl _)] at ca
     exact ca
  ·rintro ρ ⟨a,o3,o4,rfl,ca⟩
   rw [List.length_map,List.take_of_length_le (Nat.le_refl _)] at ca
   have ek:Qb7 (enc a)=(a.map (·.1)).map D.int:=by unfold Qb7 enc;simp [kD]
   have hlen:a.length<1000:=by
    have:=ca.len
    rw [Qir] at this
    omega
   simp only [wRet,Qk,Qd,wNil,Uj,Qec,look,List.set_cons_succ,List.set_cons_zero,Qn,Qlq]
   rw [ek]
   refine Zs id (is1 (al A ks)) (by rw [List.length_map,List.length_map];exact big (by omega)) (λd hd k' hk=>?_) (λd hd hp Q' hQ=>?_) ?_
   ·obtain ⟨i,hi,rfl⟩:=List.mem_map.mp hd
    simp only [blkE,List.map_cons,look,List.map_nil,r_bl,wBin,wC,Jb,Qn,Qje,Uq hi,ca.get,Qg0,Zm]
    have e:(((al A ks).count i:Nat):Int)=1↔(al A ks).count i=1:=by omega
    simp only [is1,e] at hk ⊢
    exact hk
   ·obtain ⟨i,_,rfl⟩:=List.mem_map.mp hd
    simp only [Yf,blkE,List.map_cons,look,List.map_nil,Jb,Qn,D.pure,true_and]
    exact hQ
   ·rw [List.map_id,Ue (q:=λi=>decide ((al A ks).count i=1)) λi=>rfl]
    have nd:((a.map (·.1)).filter λi=>decide ((al A ks).count i=1)).Nodup:=ca.nd.filter _
    have hmem:∀x,x∈((a.map (·.1)).filter λi=>decide ((al A ks).count i=1))↔(al A ks).count x=1:=λx=>by
     rw [List.mem_filter,ca.mem,decide_eq_true_eq]
     exact ⟨λh=>h.2,λh=>⟨List.count_pos_iff.mp (by omega),h⟩⟩
    have hl:((a.map (·.1)).filter λi=>decide ((al A ks).count i=1)).length<64:=by
     have hp:((a.map (·.1)).filter λi=>decide ((al A ks).count i=1)).Perm (ones (al A ks)):=by
      refine (List.perm_ext_iff_of_nodup nd (Xv _)).mpr λx=>?_
      rw [hmem,Yi]
     rw [hp.length_eq]
     exact Nat.lt_of_le_of_lt (few tw hm he hlt) (by decide)
    simp only [Qaq]
    refine ⟨_,rfl,hl,λout hp ho=>?_⟩
    rw [Qe7 (l:=al A ks) (hp.nodup_iff.mpr nd) ho λx=>by rw [hp.mem_iff,hmem]]
    exact k
def J9:GA:=λds k=>∃(m e:Nat) (A:Nat->Int) (g:Nat->Nat) (r:Int),ds=[webD m e A r]/\M.Tw (4*m+e) A g/\m<=16/\e<=8/\k (.lst ((ord A m m).map λ(i:Nat)=>.int (i:Int)))
abbrev Qy:Stmt:=top 13
theorem Y7:FnScope ["_law_web_here","_law_done","_law_left"] ["_law_web_here"] (Qb Qy):=⟨rfl,rfl,rfl,by decide +kernel,rfl,by decide +kernel,by decide +kernel⟩
def Ui:Tg:={ own:=λi=>i == 1 || i == 2,io:=[] }
def Uh:WS:=(wSeq (wSet 1 (wLst wNil))
 (wSeq (Qd9 (wBl (wBin (dCmp λi j=>decide (i<j)) (Qk dLen (Qd (wVar 1) wNil)) (Qk dLen (Qd (wBin dIx (wVar 0) (wC (.int 0))) wNil)))) (wSeq (wSet 2 (Vb (Qag (Qd (Qk dLen (Qd (wBin dIx (wVar 0) (wC (.int 0))) wNil)) wNil)) (wBl (wBin (dIn true) (wVar 0) (wVar 1))) (Yf (wVar 0)) [1]))
 (Go (wMt 1 "list" Vj (Qd (wBin dIx (Qk Qkf (Qd (Vb (Zh (wVar 2)) wAll (Yf (wTup (Qd (Qk dLen (Qd (Qk Jn (Qd (wVar 2) (Qd (wBin Ya (wVar 1) (wLst (Qd (Yf (wVar 0)) wNil))) wNil))) wNil)) (Qd (wVar 0) wNil)))) [1,0]) wNil)) (wC (.int 1))) wNil)))))
 (Qeb 1)))
theorem Qbn (B:Bn mg) (C__law_open:Cal P w K mg base "_law_open" 1 ["_law_web_here","_law_done"] (spR K Jn)):∀(cdv:Value) (A:Around) (outer:List PySem.Env) (s:Shared) (H:Hp) (E:XK),Room 1 (A.deeper (envOfC "_law_order" (Qb Qy) s.heap.objs.size f cdv))->SVs (cxOf CX0 P w K mg base ["_law_web_here","_law_done","_law_left"] "_law_order" (Qb Qy) f cdv A outer s H E).nox Ui (Qr Qy) Uh:=λcdv A outer s H E hr =>
  (Qi (Jd (i:=1) (Yx Qe) Y7.nd)
  (Qi (Qcr PassesOwn.never (Zb Qn9 (Q4 V0 B.nb_len V1 (Qa (Qc 1) Qe)) (Q4 V0 B.nb_len V1 (Qa (Yz (Yy (J6 hr)) (Qc 0) Qf) Qe))) (Qi (Ur (j:=2) (Y0 [1] (Zp B.nb_range (Qa (Q4 V0 B.nb_len V1 (Qa (Yz (Yy (J6 hr)) (Qc 0) Qf) Qe)) Qe)) (λ_ _ _ _ _=>Qbd (Zb (Qme (J6 hr)) (Qc 0) (Qc 1))) (λ_ _ _ _ _=>(Yg (Qc 0)))) (Jv (Qb Qy) ["_law_web_here","_law_done","_law_left"] (by decide +kernel)) Y7.nd)
  (Qx (Xo (Qm5 (i:=1) U9 PySem.F.plainAttrs_list PySem.F.slot_list_append PySem.F.type_list_append (Qa (Yz (Yy (J6 hr)) (Q4 (Qkm (Qm3 hr)) B.nb_min Qgl (Qa (Z0 (Y0 [1,0] (Vx (Qc 2)) (λ_ _ _ _ _=>Xi) (λ_ _ _ _ _=>(Yg (Qdb (Qa (Q4 V0 B.nb_len V1 (Qa (Vy C__law_open (hr.mono (by decide)) (Qa (Qc 2) (Qa (Qw Q7 (Qc 1) (Yx (Qa (Yg (Qc 0)) Qe))) Qe))) Qe)) (Qa (Qc 0) Qe)))))) (Jv (Qb Qy) ["_law_web_here","_law_done","_law_left"] (by decide +kernel))) Qe)) Qf) Qe))))))
  (Qx (Qen (i:=1)))))
def nin (l:List Nat):D->Bool
 | .int i=>decide (i.toNat∉l)
 | _=>false
theorem Qc8 {i:Nat}:∀{l:List Nat},inD (.int (i:Int)) (l.map λ(j:Nat)=>D.int (j:Int))=some (decide (i∈l))
 | []=>rfl
 | j::l=>by
  show (inD (.int (i:Int)) (l.map λ(j:Nat)=>D.int (j:Int))).map (λb=>((j:Int) == (i:Int)) || b)=_
  rw [Qc8]
  show some (((j:Int) == (i:Int)) || decide (i∈l))=_
  congr 1
  by_cases h:j=i
  ·subst h;simp
  ·have h1:((j:Int) == (i:Int))=false:=by simpa using λz:(j:Int)=(i:Int)=>h (by omega)
   have h2:i∈j::l↔i∈l:=by rw [List.mem_cons];exact ⟨λq=>q.resolve_left λz=>h z.symm,.inr⟩
   rw [h1,Bool.false_or]
   exact decide_eq_decide.mpr h2.symm
theorem V4 {bt bt':Nat->Nat->Bool}:∀{n:Nat},(∀i j,i<=n->j<=n->bt i j=bt' i j)->argBest bt n=argBest bt' n
 | 0,_=>rfl
 | n+1,h=>by
  have ih:=V4 (n:=n) λi j hi hj=>h i j (by omega) (by omega)
  unfold argBest
  rw [ih,h (n+1) _ (Nat.le_refl _) (by have:=Z4 bt' n;omega)]
def keyF (A:Nat->Int) (ks:List Nat):D->D
 | .int i=>tpI (key A ks i.toNat)
 | d=>d
theorem Xw (F:Fun K "_law_order" "_law_order" Qy f fd) (B:Bn mg) (C__law_open:Cal P w K mg base "_law_open" 1 ["_law_web_here","_law_done"] (spR K Jn)):FnOk P w K mg base CX0 2 f fd ["_law_web_here"] (spR K J9):=by
 refine Qj8 (T:=Ui) F Y7 rfl (by decide) (λds kk h=>?_) (Qbn B C__law_open) (λds kk h=>?_)
 ·obtain ⟨m,e,A,g,r,rfl,_⟩:=h
  rfl
 ·obtain ⟨m,e,A,g,r,rfl,tw,hm,he,k⟩:=h
  simp only [Uh,wSeq,wSet,wLst,wNil,List.length_nil,sz0,env0,List.map_cons,List.map_nil,List.length_cons,Nat.zero_add,Nat.reduceAdd,List.replicate,List.cons_append,List.nil_append,List.set_cons_succ,List.set_cons_zero,true_and]
  refine ⟨λn ρ=>∃(t:Nat) (o:Option D),t<=m/\n=m-t/\ρ=[some (webD m e A r),some (.lst ((ord A m t).map λ(i:Nat)=>.int (i:Int))),o],⟨m,0,none,Nat.zero_le _,rfl,rfl⟩,?_⟩
  rintro n ρ ⟨t,o,ht,rfl,rfl⟩
  have ok:=Yn A m t ht
  rw [Y5]
  simp only [wSeq,wSet,Go,wMt,Qd,wBin,Qk,wNil,wC,Uj,Xr,Jb,Qao,Qeb,r_bl,look,Qn,Qdq,Qci,List.getElem?_cons_zero,Qif,List.length_map,List.length_range,U3,Int.reducePow,Int.reduceNeg,Int.toNat_natCast,G8,ok.len,Qli,Zm]
  rw [← Y5 (e:=e) (r:=r)]
  by_cases hlt:t<m
  ·have h1:(t:Int)<(m:Int):=by omega
   have hne:lft m (ord A m t)≠[]:=λz=>by have:=ok.left;rw [z] at this;simp at this;omega
   have hll:=ok.left
   simp only [h1,decide_true,Int.reduceNeg,reduceIte]
   refine ⟨by omega,by omega,Zs id (nin (ord A m t)) (by rw [Ym];exact big (by omega)) (λd hd k' hk=>?_) (λd hd hp Q' hQ=>?_) ?_⟩
   ·obtain ⟨i,hi,rfl⟩:=Zx hd
    have e0:(0:Int)+(i:Int)=(i:Int):=by omega
    rw [e0] at hk ⊢
    simp only [blkE,List.map_cons,look,List.map_nil,r_bl,wBin,Jb,Qn] at hk ⊢
    show oget (inD _ _) _
    rw [Qc8]
    have e5:xor true (decide (i∈ord A m t))=nin (ord A m t) (.int (i:Int)):=by
     show _=decide ((i:Int).toNat∉ord A m t)
     rw [Int.toNat_natCast,Bool.true_xor,decide_not]
    show k' (xor true (decide (i∈ord A m t))) _
    rw [e5]
    exact hk
   ·obtain ⟨i,hi,rfl⟩:=Zx hd
    simp only [Yf,blkE,List.map_cons,look,List.map_nil,Jb,Qn,D.pure,true_and]
    exact hQ
   ·have ef:((rngD 0 m).filter (nin (ord A m t)))=(lft m (ord A m t)).map λ(i:Nat)=>D.int (i:Int):=by
     unfold lft rngD
     rw [List.filter_map]
     simp only [Int.zero_add]
     rfl
    rw [List.map_id,ef]
    simp only [List.set_cons_succ,List.set_cons_zero,look,Qet,BEq.rfl,Qn,Vr,true_and]
    refine Zt (keyF A (ord A m t)) (by rw [List.length_map];exact big (by omega)) (λd hd Q' hQ=>?_) ?_
    ·obtain ⟨i,hi,rfl⟩:=List.mem_map.mp hd
     obtain ⟨h2,h3⟩:=Xy.mp hi
     simp only [Yf,wTup,Qd,Qk,blkE,List.map_cons,look,List.map_nil,wBin,wLst,wNil,List.length_cons,List.length_nil,Nat.zero_add,sz1,Nat.reduceAdd,sz2,D.pure,Qs,Bool.and_true,true_and,Jb,Qn,Qbw,Bool.and_self]
     refine ⟨Jg λ_ _=>rfl,by rw [List.length_map,ok.len];exact Nat.le_of_lt (big (by omega)),m,e,A,g,r,ord A m t++[i],by simp,tw,hm,he,by rw [List.length_append,ok.len,List.length_singleton];omega,λj hj=>?_,?_⟩
     ·rcases List.mem_append.mp hj with hj | hj
      ·exact ok.lt j hj
      ·rw [List.mem_singleton.mp hj];exact h2
     ·simp only [G8,D.pure,List.length_map,true_and]
      exact hQ
    ·simp only [look,List.set_cons_succ,List.set_cons_zero,Qn,Qlj,Qg1,Qdq,Qkt]
     have hl:((lft m (ord A m t)).map (key A (ord A m t))).length=(lft m (ord A m t)).length:=List.length_map _
     refine ⟨(lft m (ord A m t)).map (key A (ord A m t)),by rw [List.map_map,List.map_map];rfl,by simpa using hne,λy hy=>?_⟩
     have hp:0<(lft m (ord A m t)).length:=List.length_pos_iff.mpr hne
     have eb:argBest (btK λj=>((lft m (ord A m t)).map (key A (ord A m t))).getD j []) ((lft m (ord A m t)).length-1)=argBest (btK (keys A (ord A m t) (lft m (ord A m t)))) ((lft m (ord A m t)).length-1):=V4 λi j hi hj=>by
      have gen:∀i,i<=(lft m (ord A m t)).length-1->((lft m (ord A m t)).map (key A (ord A m t))).getD i []=keys A (ord A m t) (lft m (ord A m t)) i:=λi hi=>by
       unfold keys
       rw [List.getD_eq_getElem?_getD,List.getElem?_map,List.getElem?_eq_getElem (by omega),List.getD_eq_getElem?_getD,List.getElem?_eq_getElem (by omega)]
       rfl
      show HT.Vg (List.getD _ i []) (List.getD _ j [])=HT.Vg _ _
      rw [gen i hi,gen j hj]
     rw [hl,eb,List.getElem?_map] at hy
     have hle:=Z4 (btK (keys A (ord A m t) (lft m (ord A m t)))) ((lft m (ord A m t)).length-1)
     have en:(lft m (ord A m t))[argBest (btK (keys A (ord A m t) (lft m (ord A m t)))) ((lft m (ord A m t)).length-1)]? = some (kT A m t):=by
      unfold kT nxt
      rw [List.getD_eq_getElem?_getD,List.getElem?_eq_getElem (by omega)];rfl
     rw [en] at hy
     cases hy
     show oget (some (D.int (kT A m t:Nat))) _
     refine ⟨by rw [List.length_map,ok.len];exact big (by omega),m-(t+1),by omega,t+1,some (.lst ((lft m (ord A m t)).map λ(i:Nat)=>.int (i:Int))),hlt,rfl,?_⟩
     simp [ord]
  ·have h1:¬(t:Int)<(m:Int):=by omega
   have e1:t=m:=by omega
   subst e1
   simp only [h1,Int.reduceNeg]
   exact k
end K41
variable {l:PySem.W.OpenLaw}
namespace K41
open PySem PySem.Spec L2 PV Fnt
open PyProof.Rows (envOfC)
def Qfx:GA:=λds k=>∃s:List Int,ds=[.kls (s.map .int)]/\s.length<=63/\k (.bl true)
abbrev Vd:Stmt:=top 14
theorem Zk:FnScope ["_law_script","_law_cell","_law_row","_law_many","_law_ends","_law_web_here","_law_due","_law_front","_law_found","_law_order_here"] ["_law_script"] (Qb Vd):=⟨rfl,rfl,rfl,by decide +kernel,rfl,by decide +kernel,by decide +kernel⟩
def Qk0:Tg:={ own:=λi=>i == 1 || i == 2 || i == 3 || i == 4 || i == 5 || i == 6 || i == 7 || i == 8 || i == 9,io:=[] }
def Qkw:WS:=(wSeq (wFor (Zh (wBin Ya (wLst (Qd (wC (.int 0)) wNil)) (wSlT (wVar 0) Uy (Ul (wC (.int 12)))))) (gN 1) (wSeq (wSet 2 (wLst (Qd (Yf (wVar 1)) (Qd (wC (.int 0)) wNil))))
 (wSeq (wSet 3 (wBin dIx (wLst (Qd (Q0 2 Qj (J4 2 (Qd (wC (.int 8)) wNil))) (Qd (Q0 2 Qj (J4 2 (Qd (wC (.int 17)) wNil))) wNil))) (Qk dInt (Qd (wBin dEq (Q0 2 Qj (J4 2 (Qd (wC (.int 8)) wNil))) (wC (.int 1))) wNil))))
 (wSeq (wSet 4 (wBin dMul (wC (.int 2)) (Q0 2 Qj (J4 2 (Qd (wC (.int 5)) wNil)))))
 (wSeq (wIf (wBl (wBin dEq (Q0 2 Qj (J4 2 (Qd (wC (.int 2)) wNil))) (wC (.int 0)))) (wSet 5 (Q0 2 Y3 (J4 2 (Qd (wVar 3) (Qd (wVar 4) wNil))))) (wSet 5 (Q0 2 Jo (J4 2 (Qd (wVar 3) (Qd (wVar 4) wNil))))))
 (wSeq (wSet 6 (Qk J9 (Qd (wVar 5) wNil)))
 (wSeq (wSet 7 (Vb (Qag (Qd (Qk dLen (Qd (wVar 6) wNil)) wNil)) wAll (Qk Jn (Qd (wVar 2) (Qd (wSlT (wVar 1) Uy (Ul (wBin Ya (wVar 0) (wC (.int 1))))) wNil))) [6,5]))
 (wSeq (wSet 8 (Qk Yw (Qd (wVar 5) wNil)))
 (wSeq (wSet 9 (Qk Jy (Qd (wVar 5) wNil)))
 (wSeq (wIf (wOr (wNot (wTru (Qk dIsi (Qd (wVar 8) (Qd (wC (.ty .list)) wNil))))) (wOr (wNot (wTru (Qk dIsi (Qd (wVar 9) (Qd (wC (.ty .list)) wNil))))) (wOr (wBl (wBin dNeF (wVar 8) (wVar 7))) (wBl (wBin dNeF (wVar 9) (wVar 6)))))) (wRet (wC (.bl false))) V7)
 (wSeq (wIf (wBl (wBin dNe (Vb (Zh (wVar 8)) (wNot (wTru (Qk dIsi (Qd (wVar 0) (Qd (wC (.ty .list)) wNil))))) (Yf (wVar 0)) []) (wLst wNil))) (wRet (wC (.bl false))) V7)
 (wSeq (wIf (wBl (wBin dNe (Vb (Zh (wVar 9)) (wOr (wTru (Qk dIsi (Qd (wVar 0) (Qd (wC (.ty .bool)) wNil)))) (wNot (wTru (Qk dIsi (Qd (wVar 0) (Qd (wC (.ty .int)) wNil)))))) (Yf (wVar 0)) []) (wLst wNil))) (wRet (wC (.bl false))) V7)
 (wSeq (Go (wMt 9 "list" Vj (Qd (wC (.int 0)) wNil)))
 (wSeq (Go (wMt 8 "list" Vj (Qd (wLst wNil) wNil)))
 (wSeq (wTk0 8 0)
 (wIf (wOr (wBl (wBin dNeF (Qk Jy (Qd (wVar 5) wNil)) (wVar 6))) (wBl (wBin dNeF (Qk Yw (Qd (wVar 5) wNil)) (wVar 7)))) (wRet (wC (.bl false))) V7))))))))))))))))
 (wRet (wC (.bl true))))
theorem Qop {TB:List (Addr × Array Value)} (B:Bn mg) (hB:Zu mg base) (C_order_of:Cal P w K mg base "order_of" 6 ["web"] (spT TB (spR K Jy))) (C_fronts:Cal P w K mg base "fronts" 6 ["web"] (spT TB (spR K Yw))) (C__law_take:Cal P w K mg base "_law_take" 1 ["_law_row","_law_base"] (spI K 0 Qj)) (C__law_web:Cal P w K mg base "_law_web" 3 ["_law_row","_law_many","_law_ends"] (spI K 0 Y3)) (C__law_chained:Cal P w K mg base "_law_chained" 3 ["_law_row","_law_many","_law_ends"] (spI K 0 Jo)) (C__law_open:Cal P w K mg base "_law_open" 1 ["_law_web_here","_law_done"] (spR K Jn)) (C__law_order:Cal P w K mg base "_law_order" 2 ["_law_web_here"] (spR K J9)):∀(cdv:Value) (A:Around) (outer:List PySem.Env) (s:Shared) (H:Hp) (E:XK),Room 6 (A.deeper (envOfC "law" (Qb Vd) s.heap.objs.size f cdv))->Tabs TB H->fd.code=cdv->SVs (cxOf CX0 P w K mg base ["_law_script","_law_cell","_law_row","_law_many","_law_ends","_law_web_here","_law_due","_law_front","_law_found","_law_order_here"] "law" (Qb Vd) f cdv A outer s H E).nox Qk0 (Qr Vd) Qkw:=λcdv A outer s H E hr hT hcv =>
  (Qi (Qai PassesOwn.never (Vx (Qw Q7 (Yx (Qa Qf Qe)) (Xg (Qc 0) Xu (Zn Qf)))) (Gf (i:=1) Zk.nd) (Qi (Jd (i:=2) (Yx (Qa (Yg (Qc 1)) (Qa Qf Qe))) Zk.nd)
  (Qi (Jd (i:=3) (Yz (Yy (J6 hr)) (Yx (Qa (Q3 C__law_take (hr.mono (by decide)) (Jx (i:=2) (Qa Qf Qe))) (Qa (Q3 C__law_take (hr.mono (by decide)) (Jx (i:=2) (Qa Qf Qe))) Qe))) (Ye Qnf B.nb_int Qiq (Qa (Qm6 (Qhh hr.units) (Q3 C__law_take (hr.mono (by decide)) (Jx (i:=2) (Qa Qf Qe))) Qf) Qe))) Zk.nd)
  (Qi (Jd (i:=4) (Qw Jt Qf (Q3 C__law_take (hr.mono (by decide)) (Jx (i:=2) (Qa Qf Qe)))) Zk.nd)
  (Qi (Qdp (Zb (Qhh hr.units) (Q3 C__law_take (hr.mono (by decide)) (Jx (i:=2) (Qa Qf Qe))) Qf) (Qx (Jd (i:=5) (Q3 C__law_web (hr.mono (by decide)) (Jx (i:=2) (Qa (Qc 3) (Qa (Qc 4) Qe)))) Zk.nd)) (Qx (Jd (i:=5) (Q3 C__law_chained (hr.mono (by decide)) (Jx (i:=2) (Qa (Qc 3) (Qa (Qc 4) Qe)))) Zk.nd)))
  (Qi (Jd (i:=6) (Vy C__law_order (hr.mono (by decide)) (Qa (Qc 5) Qe)) Zk.nd)
  (Qi (Ur (j:=7) (Y0 [6,5] (Zp B.nb_range (Qa (Q4 V0 B.nb_len V1 (Qa (Qc 6) Qe)) Qe)) (λ_ _ _ _ _=>Xi) (λ_ _ _ _ _=>(Vy C__law_open (hr.mono (by decide)) (Qa (Qc 2) (Qa (Xg (Qc 1) Xu (Zn (Qw Q7 (Qc 0) Qf))) Qe))))) (Jv (Qb Vd) ["_law_script","_law_cell","_law_row","_law_many","_law_ends","_law_web_here","_law_due","_law_front","_law_found","_law_order_here"] (by decide +kernel)) Zk.nd)
  (Qi (Jd (i:=8) (Y9 C_fronts (hr.mono (by decide)) hT (Qa (Qc 5) Qe)) Zk.nd)
  (Qi (Jd (i:=9) (Y9 C_order_of (hr.mono (by decide)) hT (Qa (Qc 5) Qe)) Zk.nd)
  (Qi (Qdp (Qbt (Qgk (Qcp (G1 (Q4 Qbg B.nb_isinstance J8 (Qa (Qc 8) (Qa (Qfz .list B.nb_list X9) Qe))))) (Qgk (Qcp (G1 (Q4 Qbg B.nb_isinstance J8 (Qa (Qc 9) (Qa (Qfz .list B.nb_list X9) Qe))))) (Qgk (Zb (Qc2 hr.units) (Qc 8) (Qc 7)) (Qgj (Zb (Qc2 hr.units) (Qc 9) (Qc 6))))))) (Qx (Yk Qf1)) U2)
  (Qi (Qdp (Zb (Qmf hr.units) (Z0 (Y0 [] (Vx (Qc 8)) (λ_ _ _ _ _=>Qbd (Qcp (G1 (Q4 Qbg B.nb_isinstance J8 (Qa (Qc 0) (Qa (Qfz .list B.nb_list X9) Qe)))))) (λ_ _ _ _ _=>(Yg (Qc 0)))) (Jv (Qb Vd) ["_law_script","_law_cell","_law_row","_law_many","_law_ends","_law_web_here","_law_due","_law_front","_law_found","_law_order_here"] (by decide +kernel))) (Yx Qe)) (Qx (Yk Qf1)) U2)
  (Qi (Qdp (Zb (Qmf hr.units) (Z0 (Y0 [] (Vx (Qc 9)) (λ_ _ _ _ _=>Qbd (Qbt (Qgk (G1 (Q4 Qbg B.nb_isinstance J8 (Qa (Qc 0) (Qa (Qfz .bool B.nb_bool Qkr) Qe)))) (Qgj (Qcp (G1 (Q4 Qbg B.nb_isinstance J8 (Qa (Qc 0) (Qa (Qfz .int B.nb_int Qiq) Qe))))))))) (λ_ _ _ _ _=>(Yg (Qc 0)))) (Jv (Qb Vd) ["_law_script","_law_cell","_law_row","_law_many","_law_ends","_law_web_here","_law_due","_law_front","_law_found","_law_order_here"] (by decide +kernel))) (Yx Qe)) (Qx (Yk Qf1)) U2)
  (Qi (Xo (Qa9 (i:=9) U9 PySem.F.plainAttrs_list PySem.F.slot_list_append PySem.F.type_list_append (Qa Qf Qe)))
  (Qi (Xo (Qa9 (i:=8) U9 PySem.F.plainAttrs_list PySem.F.slot_list_append PySem.F.type_list_append (Qa (Yx Qe) Qe)))
  (Qi (Qk4 (i:=8))
  (Qx (Qdp (Qbt (Qgk (Zb (Qc2 hr.units) (Y9 C_order_of (hr.mono (by decide)) hT (Qa (Qc 5) Qe)) (Qc 6)) (Qgj (Zb (Qc2 hr.units) (Y9 C_fronts (hr.mono (by decide)) hT (Qa (Qc 5) Qe)) (Qc 7))))) (Qx (Yk Qf1)) U2)))))))))))))))))
  (Qx (Yk Qf1)))
def T3:WS:=(wSeq (Go (wMt 9 "list" Vj (Qd (wC (.int 0)) wNil)))
 (wSeq (Go (wMt 8 "list" Vj (Qd (wLst wNil) wNil)))
 (wSeq (wTk0 8 0)
 (wIf (wOr (wBl (wBin dNeF (Qk Jy (Qd (wVar 5) wNil)) (wVar 6))) (wBl (wBin dNeF (Qk Yw (Qd (wVar 5) wNil)) (wVar 7)))) (wRet (wC (.bl false))) V7))))
def T2:WS:=(wSeq (wIf (wOr (wNot (wTru (Qk dIsi (Qd (wVar 8) (Qd (wC (.ty .list)) wNil))))) (wOr (wNot (wTru (Qk dIsi (Qd (wVar 9) (Qd (wC (.ty .list)) wNil))))) (wOr (wBl (wBin dNeF (wVar 8) (wVar 7))) (wBl (wBin dNeF (wVar 9) (wVar 6)))))) (wRet (wC (.bl false))) V7)
 (wSeq (wIf (wBl (wBin dNe (Vb (Zh (wVar 8)) (wNot (wTru (Qk dIsi (Qd (wVar 0) (Qd (wC (.ty .list)) wNil))))) (Yf (wVar 0)) []) (wLst wNil))) (wRet (wC (.bl false))) V7)
 (wSeq (wIf (wBl (wBin dNe (Vb (Zh (wVar 9)) (wOr (wTru (Qk dIsi (Qd (wVar 0) (Qd (wC (.ty .bool)) wNil)))) (wNot (wTru (Qk dIsi (Qd (wVar 0) (Qd (wC (.ty .int)) wNil)))))) (Yf (wVar 0)) []) (wLst wNil))) (wRet (wC (.bl false))) V7)
 T3)))
def T1:WS:=(wSeq (wSet 6 (Qk J9 (Qd (wVar 5) wNil)))
 (wSeq (wSet 7 (Vb (Qag (Qd (Qk dLen (Qd (wVar 6) wNil)) wNil)) wAll (Qk Jn (Qd (wVar 2) (Qd (wSlT (wVar 1) Uy (Ul (wBin Ya (wVar 0) (wC (.int 1))))) wNil))) [6,5]))
 (wSeq (wSet 8 (Qk Yw (Qd (wVar 5) wNil)))
 (wSeq (wSet 9 (Qk Jy (Qd (wVar 5) wNil)))
 T2))))
theorem Qgq:Qkw=(wSeq (wFor (Zh (wBin Ya (wLst (Qd (wC (.int 0)) wNil)) (wSlT (wVar 0) Uy (Ul (wC (.int 12)))))) (gN 1) (wSeq (wSet 2 (wLst (Qd (Yf (wVar 1)) (Qd (wC (.int 0)) wNil))))
 (wSeq (wSet 3 (wBin dIx (wLst (Qd (Q0 2 Qj (J4 2 (Qd (wC (.int 8)) wNil))) (Qd (Q0 2 Qj (J4 2 (Qd (wC (.int 17)) wNil))) wNil))) (Qk dInt (Qd (wBin dEq (Q0 2 Qj (J4 2 (Qd (wC (.int 8)) wNil))) (wC (.int 1))) wNil))))
 (wSeq (wSet 4 (wBin dMul (wC (.int 2)) (Q0 2 Qj (J4 2 (Qd (wC (.int 5)) wNil)))))
 (wSeq (wIf (wBl (wBin dEq (Q0 2 Qj (J4 2 (Qd (wC (.int 2)) wNil))) (wC (.int 0)))) (wSet 5 (Q0 2 Y3 (J4 2 (Qd (wVar 3) (Qd (wVar 4) wNil))))) (wSet 5 (Q0 2 Jo (J4 2 (Qd (wVar 3) (Qd (wVar 4) wNil))))))
 T1)))))
 (wRet (wC (.bl true)))):=rfl
theorem Qek (h:j<m):((ord A m m).map λ(i:Nat)=>D.int (i:Int)).take (j+1)=(ord A m (j+1)).map λ(i:Nat)=>D.int (i:Int):=by
 rw [← List.map_take,Qc1 A (by omega) (Nat.le_refl _)]
def opF (A:Nat->Int) (m:Nat):D->D
 | .int i=>liI (frT A m (i.toNat+1))
 | d=>d
abbrev naD (l:List Nat):D:=.lst (l.map λ(i:Nat)=>.int (i:Int))
theorem Qom {l:List Int}:eqOk (n+2) (nF (liI l))=true:=by
 show Yh (n+1) (nFs (l.map D.int))=true
 rw [Xx,List.map_map]
 exact Gh λ_ _=>rfl
theorem Qm7 {l:List Nat}:eqOk 9 (nF (naD l))=true:=by
 show Yh 8 (nFs _)=true
 rw [Xx,List.map_map]
 exact Gh λ_ _=>rfl
theorem Qin:eqOk 9 (nF (.lst (frsD A m)))=true:=by
 show Yh 8 (nFs (frsD A m))=true
 unfold frsD
 rw [Xx,List.map_map]
 exact Gh λt _=>Qom
theorem Us {a:D} {k:D->Prop} (h:eqOk 9 (nF a)=true) (q:k (.bl false)):dNeF a a k:=⟨h,h,λ_=>q,λz=>absurd rfl z⟩
section
variable {P:EndsP} {s o1 o2 o3 o4 o6 o7 o8 o9:Option D}
theorem Qoq (tw:M.Tw (4*m+e) A g) (hm:m<=16) (he:e<=8) (hn:∀o6 o7 o8 o9:Option D,P.nx [s,o1,o2,o3,o4,some (webD m e A r),o6,o7,o8,o9]):T3 P [s,o1,o2,o3,o4,some (webD m e A r),some (naD (ord A m m)),some (.lst (frsD A m)),some (.lst (frsD A m)),some (naD (ord A m m))]:=by
 have ok:=Yn A m m (Nat.le_refl _)
 have hl:(frsD A m).length=m:=by simp [frsD]
 simp only [T3,wSeq,Go,wMt,look,Qet,BEq.rfl,Qd,wC,wNil,List.set_cons_succ,List.set_cons_zero,wLst,List.length_nil,sz0,wTk0,wIf,wOr,wRet,V7,reduceIte,r_bl,wBin,Qk,Jb,Qn,Qlj,true_and]
 refine ⟨by rw [List.length_map,ok.len];exact big (by omega),by rw [hl];exact big (by omega),?_⟩
 obtain ⟨xs,ds,hx,hz⟩:∃(xs:List Int) (ds:List D),frsD A m++[.lst []] = .lst (xs.map .int)::ds/\xs.length<=100:=by
  unfold frsD
  cases m with
  | zero=>exact ⟨[],[],rfl,Nat.zero_le _⟩
  | succ m=>exact ⟨frT A (m+1) 1,_,by rw [List.range_succ_eq_map];rfl,Nat.le_trans (few tw hm he (Yn A (m+1) 1 (by omega)).lt) (by decide)⟩
 refine ⟨xs.map .int,ds,by rw [hx],Qz,by rw [List.length_map];exact big (by omega),m,e,A,g,r,rfl,tw,hm,he,Us Qm7 ?_⟩
 simp only [Zm,Bool.false_eq_true,reduceIte]
 refine ⟨m,e,A,g,r,rfl,tw,hm,he,Us Qin ?_⟩
 simp only [Zm,Bool.false_eq_true,reduceIte]
 exact hn _ _ _ _
theorem Qor (tw:M.Tw (4*m+e) A g) (hm:m<=16) (he:e<=8) (hn:∀o6 o7 o8 o9:Option D,P.nx [s,o1,o2,o3,o4,some (webD m e A r),o6,o7,o8,o9]):T2 P [s,o1,o2,o3,o4,some (webD m e A r),some (naD (ord A m m)),some (.lst (frsD A m)),some (.lst (frsD A m)),some (naD (ord A m m))]:=by
 have ok:=Yn A m m (Nat.le_refl _)
 have hl:(frsD A m).length=m:=by simp [frsD]
 simp only [T2,wSeq,wIf,wOr,wNot,wRet,wC,V7,r_bl,wBin,wLst,wNil,List.length_nil,sz0,true_and,Uj,Xr,Jb,reduceIte,Qgy,Qk,Qd,Qja,isiD,Qeu,look,Qn,Vr,BEq.rfl,Bool.not_true,Bool.false_eq_true]
 refine Us Qin ?_
 simp only [Zm,Bool.false_eq_true,reduceIte]
 refine Us Qm7 ?_
 simp only [Zm,Bool.false_eq_true,reduceIte]
 refine Zs id (λ_=>false) (by rw [hl];exact big (by omega)) (λd hd k' hk=>?_) (λd hd hp=>nomatch hp) ?_
 ·unfold frsD at hd
  obtain ⟨i,_,rfl⟩:=List.mem_map.mp hd
  simp only [blkE,List.map_nil,wNot,Qgy,Qk,Qd,wC,wNil,Qja,isiD,Qeu,Jb,look,Qn,BEq.rfl,Bool.not_true] at hk ⊢
  exact hk
 ·have ef:((frsD A m).filter λ_=>false)=[]:=List.filter_eq_nil_iff.mpr λ_ _ z=>nomatch z
  rw [ef]
  simp only [List.map_nil,look,Qn,Vr,Qle,Zm,Bool.false_eq_true,reduceIte]
  refine ⟨rfl,rfl,λ_=>?_,λz=>absurd rfl z⟩
  refine Zs id (λ_=>false) (by rw [List.length_map,ok.len];exact big (by omega)) (λd hd k' hk=>?_) (λd hd hp=>nomatch hp) ?_
  ·obtain ⟨i,_,rfl⟩:=List.mem_map.mp hd
   simp only [blkE,List.map_nil,wOr,wNot,Qgy,Qk,Qd,wC,wNil,Qja,isiD,Qeu,Jb,look,Qn,BEq.rfl,Bool.not_true] at hk ⊢
   exact hk
  ·have ef:(((ord A m m).map λ(i:Nat)=>D.int (i:Int)).filter λ_=>false)=[]:=List.filter_eq_nil_iff.mpr λ_ _ z=>nomatch z
   rw [ef]
   simp only [List.map_nil,Qle,Zm,Bool.false_eq_true,reduceIte]
   exact ⟨rfl,rfl,λ_=>Qoq tw hm he hn,λz=>absurd rfl z⟩
theorem Qnk (tw:M.Tw (4*m+e) A g) (hm:m<=16) (he:e<=8) (hn:∀o6 o7 o8 o9:Option D,P.nx [s,o1,o2,o3,o4,some (webD m e A r),o6,o7,o8,o9]):T1 P [s,o1,o2,o3,o4,some (webD m e A r),o6,o7,o8,o9]:=by
 simp only [T1,wSeq,wSet,Qk,Qd,wNil,Jb,look,Qn]
 refine ⟨m,e,A,g,r,rfl,tw,hm,he,?_⟩
 have ok:=Yn A m m (Nat.le_refl _)
 simp only [List.set_cons_succ,List.set_cons_zero,Uj,Qao,Qd,Qk,wNil,Jb,look,Qn,G8,List.length_map,ok.len,U3,Int.reducePow,Int.reduceNeg,Int.toNat_natCast]
 refine ⟨by omega,by omega,Zt (opF A m) (by rw [Ym];exact big (by omega)) (λd hd Q' hQ=>?_) ?_⟩
 ·obtain ⟨i,hi,rfl⟩:=Zx hd
  have e0:(0:Int)+(i:Int)=(i:Int):=by omega
  rw [e0] at hQ ⊢
  simp only [blkE,List.map_cons,look,List.map_nil,Qk,Qd,wSlT,Uy,wNil,G7,wBin,wC,Jb,Qn,Va,Ua,Qap] at hQ ⊢
  rw [show ((i:Int)+1)=((i+1:Nat):Int) by omega,Qip,Qek hi]
  refine ⟨Jg λ_ _=>rfl,m,e,A,g,r,ord A m (i+1),rfl,tw,hm,he,by rw [(Yn A m (i+1) hi).len];omega,(Yn A m (i+1) hi).lt,?_⟩
  exact hQ
 ·have ef:(rngD 0 m).map (opF A m)=frsD A m:=by
   unfold rngD frsD
   rw [List.map_map]
   refine List.map_congr_left λt _=>?_
   show opF A m (.int (0+(t:Int)))=_
   rw [Int.zero_add]
   rfl
  rw [ef]
  simp only [wSeq,wSet,Qk,Qd,wNil,Jb,look,Qn,List.set_cons_zero,List.set_cons_succ]
  refine ⟨m,e,A,g,r,rfl,tw,hm,he,?_⟩
  simp only [wSeq,wSet,Qk,Qd,wNil,Jb,look,Qn,List.set_cons_zero,List.set_cons_succ]
  exact ⟨m,e,A,g,r,rfl,tw,hm,he,Qor tw hm he hn⟩
end
theorem Qmd {TB:List (Addr × Array Value)} (F:Fun K "law" "law" Vd f fd) (B:Bn mg) (hB:Zu mg base) (C_order_of:Cal P w K mg base "order_of" 6 ["web"] (spT TB (spR K Jy))) (C_fronts:Cal P w K mg base "fronts" 6 ["web"] (spT TB (spR K Yw))) (C__law_take:Cal P w K mg base "_law_take" 1 ["_law_row","_law_base"] (spI K 0 Qj)) (C__law_web:Cal P w K mg base "_law_web" 3 ["_law_row","_law_many","_law_ends"] (spI K 0 Y3)) (C__law_chained:Cal P w K mg base "_law_chained" 3 ["_law_row","_law_many","_law_ends"] (spI K 0 Jo)) (C__law_open:Cal P w K mg base "_law_open" 1 ["_law_web_here","_law_done"] (spR K Jn)) (C__law_order:Cal P w K mg base "_law_order" 2 ["_law_web_here"] (spR K J9)):FnOk P w K mg base CX0 7 f fd ["_law_script"] (spT TB (spR K Qfx)):=by
 refine Qa8 (T:=Qk0) F Zk rfl (by decide) (λds kk h=>?_) (Qop B hB C_order_of C_fronts C__law_take C__law_web C__law_chained C__law_open C__law_order) (λds kk h=>?_)
 ·obtain ⟨s,rfl,_⟩:=h
  rfl
 ·obtain ⟨s,rfl,hs,k⟩:=h
  rw [Qgq]
  simp only [wSeq,env0,List.map_cons,List.map_nil,List.length_cons,List.length_nil,Nat.zero_add,Nat.reduceAdd,List.replicate,List.cons_append,List.nil_append,Qew,Xr,wBin,wLst,Qd,wC,wNil,sz1,wSlT,Uy,G7,Ua,Jb,look,Qn,Qln,Qbw,Qs,D.pure,Bool.and_self,Vr,Bool.true_and,true_and]
  have ec:cutD (s.map D.int) none (some 12)=(s.take 12).map D.int:=by
   rw [show (some (12:Int))=some ((12:Nat):Int) from rfl,Qip,List.map_take]
  rw [ec]
  refine ⟨Qz,Qz,by rw [List.length_map,List.length_take];exact Nat.le_of_lt (big (by omega)),Qz,λt ρ=>∃o1 o2 o3 o4 o5 o6 o7 o8 o9:Option D,ρ=[some (.kls (s.map .int)),o1,o2,o3,o4,o5,o6,o7,o8,o9],⟨none,none,none,none,none,none,none,none,none,rfl⟩,?_,?_⟩
  ·rintro i d ρ hd ⟨o1,o2,o3,o4,o5,o6,o7,o8,o9,rfl⟩
   obtain ⟨c,rfl⟩:∃c,d=.int c:=by
    rcases List.mem_cons.mp (List.mem_of_getElem? hd) with z | z
    ·exact ⟨0,z⟩
    ·obtain ⟨c,_,rfl⟩:=List.mem_map.mp z
     exact ⟨c,rfl⟩
   simp only [gN,wSeq,wSet,wLst,Qd,Yf,List.set_cons_succ,List.set_cons_zero,wC,wNil,List.length_cons,List.length_nil,Nat.zero_add,Nat.reduceAdd,sz2,wBin,Q0,J4,Qs,D.pure,Bool.and_self,List.nil_append,Qk,wIf,Bool.and_true,Jb,r_bl,true_and,look,Option.isSome_some,Qn,Ze]
   refine ⟨c,0,8,rfl,by decide,by decide,by decide,by decide,λc1 r1 a1 b1=>?_⟩
   simp only [rowD,Int.reduceAdd,Ze,Qs,D.pure,Bool.and_self,true_and]
   refine ⟨c1,1,17,rfl,by decide,by decide,by decide,by decide,λc2 r2 a2 b2=>?_⟩
   simp only [rowD,Int.reduceAdd,Ze,Qs,D.pure,Bool.and_self,true_and]
   refine ⟨c2,1+1,8,rfl,by decide,by decide,by decide,by decide,λc3 r3 a3 b3=>?_⟩
   simp only [rowD,Int.reduceAdd,Ze,Qs,D.pure,Bool.and_self,true_and,Qg0,Qlh,Qgz]
   obtain ⟨m,hm,hat⟩:∃m:Nat,m<=16/\L2.atI [D.int r1,D.int r2] (if decide (r3=1)=true then 1 else 0)=some (.int (m:Int)):=by
    split
    ·exact ⟨r2.toNat,by omega,by rw [Qkt,show ((r2.toNat:Nat):Int)=r2 by omega];rfl⟩
    ·exact ⟨r1.toNat,by omega,by rw [Qci,show ((r1.toNat:Nat):Int)=r1 by omega];rfl⟩
   rw [hat]
   simp only [Qn,D.pure,Bool.true_and]
   refine ⟨c3,3,5,rfl,by decide,by decide,by decide,by decide,λc4 r4 a4 b4=>?_⟩
   simp only [rowD,Int.reduceAdd,Ze,Qs,D.pure,Bool.and_self,true_and,Int.reduceNeg,Int.reduceLT,Z9]
   obtain ⟨q4,rfl⟩:∃q4:Nat,r4=(q4:Int):=⟨r4.toNat,by omega⟩
   have he:2*(q4:Int)=((2*q4:Nat):Int):=by omega
   refine ⟨c4,4,2,rfl,by decide,by decide,by decide,by decide,λc5 r5 a5 b5=>?_⟩
   simp only [rowD,Int.reduceAdd,Ze,Qs,D.pure,Bool.and_self,true_and,Qg0,Zm]
   by_cases h5:r5=0
   ·simp only [h5,decide_true,reduceIte]
    refine ⟨c5,5,m,2*q4,by rw [he];rfl,by omega,by omega,by omega,by decide,by decide,λc' n' A g r tw _ _ _ _=>?_⟩
    exact Qnk tw hm (by omega) λ_ _ _ _=>⟨_,_,_,_,_,_,_,_,_,rfl⟩
   ·simp only [h5,decide_false,Bool.false_eq_true,reduceIte]
    refine ⟨c5,5,m,2*q4,by rw [he];rfl,by omega,by omega,by omega,by decide,by decide,λc' n' A g tw _ _ _=>?_⟩
    exact Qnk tw hm (by omega) λ_ _ _ _=>⟨_,_,_,_,_,_,_,_,_,rfl⟩
  ·rintro ρ ⟨o1,o2,o3,o4,o5,o6,o7,o8,o9,rfl⟩
   simp only [wRet,wC]
   exact k
theorem Qnh (X:K.In h) (G:h.Ns mainGlobals mg) (hfa:mg "law" = some (.ref fa))
  {f1:Addr} {od1 an1:Option Addr} {sl1:Array (Option Value)} {oc1 kV1 dc1 pm1 cd1 ct1:Value}
  (a1:PySem.W.nsIn K mainGlobals "front_behind" = some (some (.ref f1))) (l1:K.lookup f1=some ⟨oc1,od1,.func (PySem.W.fnOf "front_behind" "front_behind" (Jm Qt) (Qr Qt) (Qb Qt) .none kV1 dc1 pm1 an1 cd1 ct1),sl1⟩) (c1:PySem.W.codeIn K cd1 "front_behind" = true) (k1:PySem.W.keepIn K (.ref f1)=true)
  {f2:Addr} {od2 an2:Option Addr} {sl2:Array (Option Value)} {oc2 kV2 dc2 pm2 cd2 ct2:Value}
  (a2:PySem.W.nsIn K mainGlobals "next_crossing" = some (some (.ref f2))) (l2:K.lookup f2=some ⟨oc2,od2,.func (PySem.W.fnOf "next_crossing" "next_crossing" (Jm Qv) (Qr Qv) (Qb Qv) .none kV2 dc2 pm2 an2 cd2 ct2),sl2⟩) (c2:PySem.W.codeIn K cd2 "next_crossing" = true) (k2:PySem.W.keepIn K (.ref f2)=true)
  {f3:Addr} {od3 an3:Option Addr} {sl3:Array (Option Value)} {oc3 kV3 dc3 pm3 cd3 ct3:Value}
  (a3:PySem.W.nsIn K mainGlobals "taken" = some (some (.ref f3))) (l3:K.lookup f3=some ⟨oc3,od3,.func (PySem.W.fnOf "taken" "taken" (Jm Y8) (Qr Y8) (Qb Y8) .none kV3 dc3 pm3 an3 cd3 ct3),sl3⟩) (c3:PySem.W.codeIn K cd3 "taken" = true) (k3:PySem.W.keepIn K (.ref f3)=true)
  {f4:Addr} {od4 an4:Option Addr} {sl4:Array (Option Value)} {oc4 kV4 dc4 pm4 cd4 ct4:Value}
  (a4:PySem.W.nsIn K mainGlobals "order_of" = some (some (.ref f4))) (l4:K.lookup f4=some ⟨oc4,od4,.func (PySem.W.fnOf "order_of" "order_of" (Jm Ji) (Qr Ji) (Qb Ji) .none kV4 dc4 pm4 an4 cd4 ct4),sl4⟩) (c4:PySem.W.codeIn K cd4 "order_of" = true) (k4:PySem.W.keepIn K (.ref f4)=true)
  {f5:Addr} {od5 an5:Option Addr} {sl5:Array (Option Value)} {oc5 kV5 dc5 pm5 cd5 ct5:Value}
  (a5:PySem.W.nsIn K mainGlobals "fronts" = some (some (.ref f5))) (l5:K.lookup f5=some ⟨oc5,od5,.func (PySem.W.fnOf "fronts" "fronts" (Jm Yb) (Qr Yb) (Qb Yb) .none kV5 dc5 pm5 an5 cd5 ct5),sl5⟩) (c5:PySem.W.codeIn K cd5 "fronts" = true) (k5:PySem.W.keepIn K (.ref f5)=true)
  {f6:Addr} {od6 an6:Option Addr} {sl6:Array (Option Value)} {oc6 kV6 dc6 pm6 cd6 ct6:Value}
  (a6:PySem.W.nsIn K mainGlobals "_law_take" = some (some (.ref f6))) (l6:K.lookup f6=some ⟨oc6,od6,.func (PySem.W.fnOf "_law_take" "_law_take" (Jm Je) (Qr Je) (Qb Je) .none kV6 dc6 pm6 an6 cd6 ct6),sl6⟩) (c6:PySem.W.codeIn K cd6 "_law_take" = true) (k6:PySem.W.keepIn K (.ref f6)=true)
  {f7:Addr} {od7 an7:Option Addr} {sl7:Array (Option Value)} {oc7 kV7 dc7 pm7 cd7 ct7:Value}
  (a7:PySem.W.nsIn K mainGlobals "_law_arcs" = some (some (.ref f7))) (l7:K.lookup f7=some ⟨oc7,od7,.func (PySem.W.fnOf "_law_arcs" "_law_arcs" (Jm Q6) (Qr Q6) (Qb Q6) .none kV7 dc7 pm7 an7 cd7 ct7),sl7⟩) (c7:PySem.W.codeIn K cd7 "_law_arcs" = true) (k7:PySem.W.keepIn K (.ref f7)=true)
  {f8:Addr} {od8 an8:Option Addr} {sl8:Array (Option Value)} {oc8 kV8 dc8 pm8 cd8 ct8:Value}
  (a8:PySem.W.nsIn K mainGlobals "_law_web" = some (some (.ref f8))) (l8:K.lookup f8=some ⟨oc8,od8,.func (PySem.W.fnOf "_law_web" "_law_web" (Jm Jj) (Qr Jj) (Qb Jj) .none kV8 dc8 pm8 an8 cd8 ct8),sl8⟩) (c8:PySem.W.codeIn K cd8 "_law_web" = true) (k8:PySem.W.keepIn K (.ref f8)=true)
  {f9:Addr} {od9 an9:Option Addr} {sl9:Array (Option Value)} {oc9 kV9 dc9 pm9 cd9 ct9:Value}
  (a9:PySem.W.nsIn K mainGlobals "_law_chained" = some (some (.ref f9))) (l9:K.lookup f9=some ⟨oc9,od9,.func (PySem.W.fnOf "_law_chained" "_law_chained" (Jm Qu) (Qr Qu) (Qb Qu) .none kV9 dc9 pm9 an9 cd9 ct9),sl9⟩) (c9:PySem.W.codeIn K cd9 "_law_chained" = true) (k9:PySem.W.keepIn K (.ref f9)=true)
  {f10:Addr} {od10 an10:Option Addr} {sl10:Array (Option Value)} {oc10 kV10 dc10 pm10 cd10 ct10:Value}
  (a10:PySem.W.nsIn K mainGlobals "_law_open" = some (some (.ref f10))) (l10:K.lookup f10=some ⟨oc10,od10,.func (PySem.W.fnOf "_law_open" "_law_open" (Jm Q5) (Qr Q5) (Qb Q5) .none kV10 dc10 pm10 an10 cd10 ct10),sl10⟩) (c10:PySem.W.codeIn K cd10 "_law_open" = true) (k10:PySem.W.keepIn K (.ref f10)=true)
  {f11:Addr} {od11 an11:Option Addr} {sl11:Array (Option Value)} {oc11 kV11 dc11 pm11 cd11 ct11:Value}
  (a11:PySem.W.nsIn K mainGlobals "_law_order" = some (some (.ref f11))) (l11:K.lookup f11=some ⟨oc11,od11,.func (PySem.W.fnOf "_law_order" "_law_order" (Jm Qy) (Qr Qy) (Qb Qy) .none kV11 dc11 pm11 an11 cd11 ct11),sl11⟩) (c11:PySem.W.codeIn K cd11 "_law_order" = true) (k11:PySem.W.keepIn K (.ref f11)=true)
  {f12:Addr} {od12 an12:Option Addr} {sl12:Array (Option Value)} {oc12 kV12 dc12 pm12 cd12 ct12:Value}
  (a12:PySem.W.nsIn K mainGlobals "law" = some (some (.ref f12))) (l12:K.lookup f12=some ⟨oc12,od12,.func (PySem.W.fnOf "law" "law" (Jm Vd) (Qr Vd) (Qb Vd) .none kV12 dc12 pm12 an12 cd12 ct12),sl12⟩) (c12:PySem.W.codeIn K cd12 "law" = true) (k12:PySem.W.keepIn K (.ref f12)=true)
  (z_bool:PySem.W.nsIn K mainGlobals "bool" = some none)
  (z_int:PySem.W.nsIn K mainGlobals "int" = some none)
  (z_isinstance:PySem.W.nsIn K mainGlobals "isinstance" = some none)
  (z_len:PySem.W.nsIn K mainGlobals "len" = some none)
  (z_list:PySem.W.nsIn K mainGlobals "list" = some none)
  (z_min:PySem.W.nsIn K mainGlobals "min" = some none)
  (z_range:PySem.W.nsIn K mainGlobals "range" = some none)
  (z_sorted:PySem.W.nsIn K mainGlobals "sorted" = some none)
  (z_tuple:PySem.W.nsIn K mainGlobals "tuple" = some none) (z_next_crossing:cd2=.ref c_next_crossing) (x_tab:ts=[P_next_crossing]) (xh_next_crossing:PySem.W.codeHdIn K c_next_crossing P_next_crossing=true)
  : ∃fd:FuncData,(∀(s:Shared) (v:Value),BindsTo s fd ⟨[v],[]⟩ [("_law_script",v)])/\(∀p∈TBof ts,∃c,PySem.W.codeHdIn K c p.1=true)/\∀base:Heap,K.In base->base.Ns mainGlobals mg->Zu mg base->FnOk l.prog w K mg base CX0 7 fa fd ["_law_script"] (spT (TBof ts) (spR K Qfx)):=by
 have e:=hfa.symm.trans (PySem.W.mg_of X G a12)
 cases e
 have B:Bn mg:=⟨PySem.W.mg_none_of X G z_bool,PySem.W.mg_none_of X G z_int,PySem.W.mg_none_of X G z_isinstance,PySem.W.mg_none_of X G z_len,PySem.W.mg_none_of X G z_list,PySem.W.mg_none_of X G z_min,PySem.W.mg_none_of X G z_range,PySem.W.mg_none_of X G z_sorted,PySem.W.mg_none_of X G z_tuple⟩
 have F1:=Zd (st:=Qt) l1 c1 k1
 have F2:=Zd (st:=Qv) l2 c2 k2
 have F3:=Zd (st:=Y8) l3 c3 k3
 have F4:=Zd (st:=Ji) l4 c4 k4
 have F5:=Zd (st:=Yb) l5 c5 k5
 have F6:=Zd (st:=Je) l6 c6 k6
 have F7:=Zd (st:=Q6) l7 c7 k7
 have F8:=Zd (st:=Jj) l8 c8 k8
 have F9:=Zd (st:=Qu) l9 c9 k9
 have F10:=Zd (st:=Q5) l10 c10 k10
 have F11:=Zd (st:=Qy) l11 c11 k11
 have F12:=Zd (st:=Vd) l12 c12 k12
 refine ⟨PySem.W.fnOf "law" "law" (Jm Vd) (Qr Vd) (Qb Vd) .none kV12 dc12 pm12 an12 cd12 ct12,λs v=>.of_eq rfl,(λp hp=>by obtain ⟨P,hP,rfl⟩:=List.mem_map.mp hp;rw [x_tab] at hP;rw [List.mem_singleton.mp hP];exact ⟨_,xh_next_crossing⟩),λbase _ _ hB=>?_⟩
 have hP_next_crossing:(P_next_crossing,tgOf Ju Qp.qual)∈TBof ts:=List.mem_map.mpr ⟨P_next_crossing,by rw [x_tab];simp,rfl⟩
 have C_front_behind:Cal l.prog w K mg base "front_behind" 1 ["front","crossing"] (spR K Q9):=⟨f1,_,U5 F1 B,PySem.W.mg_of X G a1,k1,F1.binds λ_ _ _ _ _ _ us hl=>by obtain ⟨_,_,rfl⟩:=len2 hl;rfl⟩
 have Lm_next_crossing:Qae l.prog w K mg base 2 Qp (spR K Jh):=Ub B C_front_behind
 have C_next_crossing:Cal l.prog w K mg base "next_crossing" 4 ["web","front","left"] (spT (TBof ts) (spR K Jl)):=⟨f2,_,Up F2 B hB Lm_next_crossing (c_next_crossing:=c_next_crossing) z_next_crossing xh_next_crossing hP_next_crossing,PySem.W.mg_of X G a2,k2,F2.binds λ_ _ _ _ _ _ us hl=>by obtain ⟨_,_,_,rfl⟩:=len3 hl;rfl⟩
 have C_taken:Cal l.prog w K mg base "taken" 5 ["web"] (spT (TBof ts) (spR K Zq)):=⟨f3,_,Qhg F3 B hB C_front_behind C_next_crossing,PySem.W.mg_of X G a3,k3,F3.binds λ_ _ _ _ _ _ us hl=>by obtain ⟨_,rfl⟩:=len1 hl;rfl⟩
 have C_order_of:Cal l.prog w K mg base "order_of" 6 ["web"] (spT (TBof ts) (spR K Jy)):=⟨f4,_,Qb2 F4 B hB C_taken,PySem.W.mg_of X G a4,k4,F4.binds λ_ _ _ _ _ _ us hl=>by obtain ⟨_,rfl⟩:=len1 hl;rfl⟩
 have C_fronts:Cal l.prog w K mg base "fronts" 6 ["web"] (spT (TBof ts) (spR K Yw)):=⟨f5,_,Qe9 F5 B hB C_taken,PySem.W.mg_of X G a5,k5,F5.binds λ_ _ _ _ _ _ us hl=>by obtain ⟨_,rfl⟩:=len1 hl;rfl⟩
 have C__law_take:Cal l.prog w K mg base "_law_take" 1 ["_law_row","_law_base"] (spI K 0 Qj):=⟨f6,_,Qaz F6 B,PySem.W.mg_of X G a6,k6,F6.binds λ_ _ _ _ _ _ us hl=>by obtain ⟨_,_,rfl⟩:=len2 hl;rfl⟩
 have C__law_arcs:Cal l.prog w K mg base "_law_arcs" 2 ["_law_row","_law_many"] (spI K 0 Jz):=⟨f7,_,Qa1 F7 B C__law_take,PySem.W.mg_of X G a7,k7,F7.binds λ_ _ _ _ _ _ us hl=>by obtain ⟨_,_,rfl⟩:=len2 hl;rfl⟩
 have C__law_web:Cal l.prog w K mg base "_law_web" 3 ["_law_row","_law_many","_law_ends"] (spI K 0 Y3):=⟨f8,_,Qb3 F8 B C__law_take C__law_arcs,PySem.W.mg_of X G a8,k8,F8.binds λ_ _ _ _ _ _ us hl=>by obtain ⟨_,_,_,rfl⟩:=len3 hl;rfl⟩
 have C__law_chained:Cal l.prog w K mg base "_law_chained" 3 ["_law_row","_law_many","_law_ends"] (spI K 0 Jo):=⟨f9,_,U6 F9 B C__law_take C__law_arcs,PySem.W.mg_of X G a9,k9,F9.binds λ_ _ _ _ _ _ us hl=>by obtain ⟨_,_,_,rfl⟩:=len3 hl;rfl⟩
 have C__law_open:Cal l.prog w K mg base "_law_open" 1 ["_law_web_here","_law_done"] (spR K Jn):=⟨f10,_,Qa0 F10 B,PySem.W.mg_of X G a10,k10,F10.binds λ_ _ _ _ _ _ us hl=>by obtain ⟨_,_,rfl⟩:=len2 hl;rfl⟩
 have C__law_order:Cal l.prog w K mg base "_law_order" 2 ["_law_web_here"] (spR K J9):=⟨f11,_,Xw F11 B C__law_open,PySem.W.mg_of X G a11,k11,F11.binds λ_ _ _ _ _ _ us hl=>by obtain ⟨_,rfl⟩:=len1 hl;rfl⟩
 exact Qmd F12 B hB C_order_of C_fronts C__law_take C__law_web C__law_chained C__law_open C__law_order
theorem Qmk (hl:ns.length<=63) (ho:Qh9 H) (hT:Tabs (TBof ts) H) (hS:SqL K H a (ns.map V.int)):spT (TBof ts) (spR K Qfx) [.ref a] H (λv _=>v=.bl true) λ_ _ _=>False:=by
 have fz:FzL K H a (ns.map V.int):=by
  rcases hS with (h | h) | h
  ·rcases ho a with z | ⟨o,xs,z⟩ | ⟨ps,z⟩
   ·rw [z] at h;cases h
   ·rw [z] at h;cases h
   ·rw [z] at h;cases h
  ·exact .inl h
  ·exact .inr h
 refine ⟨hT,[.kls (ns.map .int)],[],λd=>d=.bl true,?_,⟨ns,rfl,hl,rfl⟩,λv H' d F' fi hd=>?_⟩
 ·exact .cons (F:=[]) (G:=[]) (.kls fz (Reps.ints ns)) .nil
 ·subst hd
  exact Qid fi.rep
theorem walk {K:Params->PySem.W.Frag} {e:∀P,as=(K P).map (·.1)} (hn:l.most=some 63) (hdf:d.params.defaults=[])
  (hnt:∀w:World,PySem.W.noTabs (K w.params)=true)
  (F:∀(w:World) (mg:Str->Option Value) (fa:Addr) (h:Heap),(K w.params).In h->h.Ns mainGlobals mg->mg d.name=some (.ref fa) ->
   ∃fd:FuncData,(∀(s:Shared) (u:Value),BindsTo s fd ⟨[u],[]⟩ [("_law_script",u)])/\(∀p∈TBof ts,∃c,PySem.W.codeHdIn (K w.params) c p.1=true)/\∀base:Heap,(K w.params).In base->base.Ns mainGlobals mg->Zu mg base->FnOk l.prog w (K w.params) mg base CX0 7 fa fd ["_law_script"] (spT (TBof ts) (spR (K w.params) Qfx))) :
  PySem.W.WalkO q loose XP (PySem.W.kmHook K as e ts).says l.row.toRowW d [] (λf vs=>PySem.call f vs) :=
 L2.Qgp (n:=63) (k:=7) (x:="_law_script") (CX:=λ_=>CX0) (TB:=TBof ts) (sp:=λw=>spT (TBof ts) (spR (K w.params) Qfx)) hn (by decide) hdf ⟨rfl,by decide,by decide⟩ (λw h Y=>PySem.W.km_in_of Y)
  (λw h Y p hp=>by obtain ⟨P,hP,rfl⟩:=List.mem_map.mp hp;exact PySem.W.km_tabs_of Y P hP) hnt Qa3 F (λ_ _ a ns hl ho ht hS=>Qmk hl ho ht hS) λ_ _ _ _ _ z=>z
end K41
open PySem PySem.W PyProof.Rows
def PySem.W.Fast.tw17213775587482180663:=0
def PySem.W.Fast.tw13744188678395898660:=0
def PySem.W.Fast.tw14271095656232160010:=0
def PySem.W.Fast.tw414396479473181679:=0
def PySem.W.Fast.tw8847126330807811501:=0
def PySem.W.Fast.tw5147563971664995161:=0
def PySem.W.Fast.tw12553862533617475450:=0
def PySem.W.Fast.tw8212072703556922055:=0
def PySem.W.Fast.tw14764105635579861814:=0
def PySem.W.Fast.tw11647941863226092953:=0
def PySem.W.Fast.tw12267965121167691900:=0
def PySem.W.Fast.tw16057313774112126:=0
def PySem.W.Fast.tw12214490803045210999:=0
def PySem.W.Fast.tw2033375653560938457:=0
def PySem.W.Fast.tw689971886704347452:=0
def PySem.W.Fast.tw16736331097139175892:=0
def PySem.W.Fast.tw16634284679352278527:=0
def PySem.W.Fast.tw2952124062597804166:=0
def PySem.W.Fast.tw9624351401382581740:=0
def PySem.W.Fast.tw11329576958000563570:=0
def PySem.W.Fast.tw17385549143336383721:=0
def PySem.W.Fast.tw5248939188524630059:=0
def PySem.W.Fast.tw3357306632157972094:=0
def PySem.W.Fast.tw3976369674431730755:=0
def PySem.W.Fast.tw13968566654672124807:=0
def PySem.W.Fast.tw11235399363589771993:=0
def PySem.W.Fast.tw9512524627972069565:=0
def PySem.W.Fast.tw17841432856180099086:=0
def PySem.W.Fast.tw14770454557256619553:=0
def PySem.W.Fast.tw7116655084084366889:=0
def PySem.W.Fast.tw12495427643916993545:=0
def PySem.W.Fast.tw9870239537786492742:=0
def PySem.W.Fast.tw3699088739929103387:=0
def PySem.W.Fast.tw7164539722064212648:=0
def PySem.W.Fast.tw13623244117653702712:=0
def PySem.W.Fast.tw17376998719984598921:=0
def PySem.W.Fast.tw16582658825672478320:=0
def PySem.W.Fast.tw14965449844271944774:=0
def PySem.W.Fast.tw13431857819781109839:=0
def PySem.W.Fast.tw16918916578213714918:=0
def PySem.W.Fast.tw9985509621863011186:=0
def PySem.W.Fast.tw3134842532892213642:=0
def PySem.W.Fast.tw7046653661837813069:=0
def PySem.W.Fast.tw3417304051671945052:=0
def PySem.W.Fast.tw806439968107136107:=0
def PySem.W.Fast.tw12882903027399647921:=0
def PySem.W.Fast.tw6060454076161410890:=0
def PySem.W.Fast.tw10875660148636798733:=0
def PySem.W.Fast.tw11019006067839425750:=0
def PySem.W.Fast.tw13835979467179348242:=0
def PySem.W.Fast.tw16553871944665342174:=0
def PySem.W.Fast.tw2235916584757834140:=0
def PySem.W.Fast.tw15941295251175286838:=0
def PySem.W.Fast.tw3583121406925352702:=0
def PySem.W.Fast.tw14863546807468789746:=0
def PySem.W.Fast.tw6266493816882153599:=0
def PySem.W.Fast.tw2642209274827590794:=0
def PySem.W.Fast.tw14004471823572205911:=0
def PySem.W.Fast.tw9335490105821852232:=0
def PySem.W.Fast.tw4835321883156821662:=0
def PySem.W.Fast.tw17334783121614436851:=0
def PySem.W.Fast.tw3740415772728151168:=0
def PySem.W.Fast.tw10973063601549601101:=0
def PySem.W.Fast.tw18069713553326774721:=0
def PySem.W.Fast.tw2706993215306476482:=0
def PySem.W.Fast.tw11917540912005469732:=0
def PySem.W.Fast.tw16215830163962468884:=0
def PySem.W.Fast.tw6806635539680513447:=0
def PySem.W.Fast.tw8244816078776602890:=0
def PySem.W.Fast.tw10612115340818175415:=0
def PySem.W.Fast.tw17554779953262319066:=0
def PySem.W.Fast.tw18314782377665752110:=0
def PySem.W.Fast.tw2671016069546578270:=0
def PySem.W.Fast.tw12174731024987522157:=0
set_option maxRecDepth 100000 in
set_option maxHeartbeats 0 in
theorem PySem.Challenge.cw_tanglehouse_k41_order_and_fronts_holds : PySem.Challenge.rw_tanglehouse_k41_order_and_fronts.Holds := by
 w_on;o_law;k_head;(case hw=>w_witness2)
 k_fill
 refine K41.walk (l:=PySem.Challenge.rw_tanglehouse_k41_order_and_fronts) rfl rfl ?nt9 ?F
 case nt9=>exact λw=>by kernel_rfl
 case F =>
  intro w mg fa h KX G hmg
  refine' K41.Qnh KX G hmg ?a1 ?l1 ?c1 ?k1 ?a2 ?l2 ?c2 ?k2 ?a3 ?l3 ?c3 ?k3 ?a4 ?l4 ?c4 ?k4 ?a5 ?l5 ?c5 ?k5 ?a6 ?l6 ?c6 ?k6 ?a7 ?l7 ?c7 ?k7 ?a8 ?l8 ?c8 ?k8 ?a9 ?l9 ?c9 ?k9 ?a10 ?l10 ?c10 ?k10 ?a11 ?l11 ?c11 ?k11 ?a12 ?l12 ?c12 ?k12 ?z_bool ?z_int ?z_isinstance ?z_len ?z_list ?z_min ?z_range ?z_sorted ?z_tuple ?z_next_crossing ?x_tab ?xh_next_crossing
  (case a1=>k_is)
  (case l1=>k_is)
  (case c1=>k_is)
  (case k1=>k_is)
  (case a2=>k_is)
  (case l2=>k_is)
  (case c2=>k_is)
  (case k2=>k_is)
  (case a3=>k_is)
  (case l3=>k_is)
  (case c3=>k_is)
  (case k3=>k_is)
  (case a4=>k_is)
  (case l4=>k_is)
  (case c4=>k_is)
  (case k4=>k_is)
  (case a5=>k_is)
  (case l5=>k_is)
  (case c5=>k_is)
  (case k5=>k_is)
  (case a6=>k_is)
  (case l6=>k_is)
  (case c6=>k_is)
  (case k6=>k_is)
  (case a7=>k_is)
  (case l7=>k_is)
  (case c7=>k_is)
  (case k7=>k_is)
  (case a8=>k_is)
  (case l8=>k_is)
  (case c8=>k_is)
  (case k8=>k_is)
  (case a9=>k_is)
  (case l9=>k_is)
  (case c9=>k_is)
  (case k9=>k_is)
  (case a10=>k_is)
  (case l10=>k_is)
  (case c10=>k_is)
  (case k10=>k_is)
  (case a11=>k_is)
  (case l11=>k_is)
  (case c11=>k_is)
  (case k11=>k_is)
  (case a12=>k_is)
  (case l12=>k_is)
  (case c12=>k_is)
  (case k12=>k_is)
  (case z_bool=>first | k_is | rfl | decide +kernel)
  (case z_int=>first | k_is | rfl | decide +kernel)
  (case z_isinstance=>first | k_is | rfl | decide +kernel)
  (case z_len=>first | k_is | rfl | decide +kernel)
  (case z_list=>first | k_is | rfl | decide +kernel)
  (case z_min=>first | k_is | rfl | decide +kernel)
  (case z_range=>first | k_is | rfl | decide +kernel)
  (case z_sorted=>first | k_is | rfl | decide +kernel)
  (case z_tuple=>first | k_is | rfl | decide +kernel)
  (case z_next_crossing=>first | k_is | rfl | decide +kernel)
  (case x_tab=>first | k_is | rfl | decide +kernel)
  (case xh_next_crossing=>kernel_rfl)
