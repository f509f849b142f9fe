import PyProof.Rows.All
import Wide.All
import OpenK.AllK
import Wide.FinOn
import Lean
import PyProof.EqAt
import PyProof.EqKinds
import PyProof.TupleCall
import PyProof.EnumMake
import PyProof.EnumFor
import PyProof.Draws
import PyProof.DictWalks
import PyProof.ListRange
import PyProof.ZipIter
import PyProof.Rows.SortWalk
import PyProof.Rows.SumAny
import PyProof.TupleIter
import PyProof.MeetsStr2
import PyProof.StrWalks
import Wide.Txt
import PyProof.Rows.SortRuns
import PyProof.Rows.MinMaxN
import PyProof.ExcClass2
import PyProof.NsDelKeeps
import PyProof.ExcArgsOwn
import OpenK.KMake
import PyProof.StrCalls6
import PyProof.ExcAttrAll.ValueError
import PyProof.ExcBaseAll.ValueError
import PyProof.StrLawsReplace
import PyProof.ExcInit
import PyProof.InstStoreFacts
import PyProof.Rows.MatchSeqLen
import PySem.Challenge.RW_tanglehouse_k58_parts_written_and_read
set_option Elab.async false
set_option linter.all false
set_option maxRecDepth 100000
set_option maxHeartbeats 4000000
variable {us:List PySem.Value}
namespace L2
open PySem PySem.Spec PyProof.Rows
abbrev Key:=Sum Int Str
def Qdp:Key->Value->Bool
 | .inl k,v=>Value.isInt k v
 | .inr x,v=>Value.isStrOf x v
def keyH (w:World):Key->Int
 | .inl k=>hashInt k
 | .inr x=>hashStr w x
theorem Q9:∀{k:Key} {v:Value},Qdp k v=true->(∃i t,k=Sum.inl i/\v=Value.int i t)\/(∃x t,k=Sum.inr x/\v=Value.str x t)
 | .inl i,v,h=>by
  obtain ⟨t,e⟩:=Value.isInt_shape (k:=i) (v:=v) h
  exact .inl ⟨i,t,rfl,e⟩
 | .inr x,v,h=>by
  obtain ⟨t,e⟩:=Value.isStrOf_shape (x:=x) (v:=v) h
  exact .inr ⟨x,t,rfl,e⟩
theorem Qfu (i:Int) (t:Tok):Qdp (.inl i) (.int i t)=true:=by simp [Qdp,Value.isInt]
theorem Qft (x:Str) (t:Tok):Qdp (.inr x) (.str x t)=true:=by simp [Qdp,Value.isStrOf]
theorem Qn5 (a b:Int):decide ((Sum.inl a:Key)=Sum.inl b)=(a == b):=by
 by_cases e:a=b
 ·subst e;simp
 ·have h:¬(Sum.inl a:Key)=Sum.inl b:=λq=>e (Sum.inl.inj q)
  rw [decide_eq_false h]
  exact (beq_eq_false_iff_ne.mpr e).symm
theorem Qn2 (a b:Str):decide ((Sum.inr a:Key)=Sum.inr b)=decide (a=b):=by
 by_cases e:a=b
 ·subst e;simp
 ·have h:¬(Sum.inr a:Key)=Sum.inr b:=λq=>e (Sum.inr.inj q)
  rw [decide_eq_false h,decide_eq_false e]
theorem Qn4 (a:Int) (b:Str):decide ((Sum.inl a:Key)=Sum.inr b)=false:=decide_eq_false (λq=>nomatch q)
theorem Qn3 (a:Str) (b:Int):decide ((Sum.inr a:Key)=Sum.inl b)=false:=decide_eq_false (λq=>nomatch q)
def Jx (prog:Program) (w:World):PySem.KeyKind prog w Key where
 is:=Qdp
 hash:=keyH w
 inj:=λv a b ha hb=>by
  rcases Q9 ha with ⟨i,t,rfl,rfl⟩ | ⟨x,t,rfl,rfl⟩
  ·rcases Q9 hb with ⟨j,u,rfl,e⟩ | ⟨y,u,rfl,e⟩
   ·injection e with e1 _;rw [e1]
   ·exact nomatch e
  ·rcases Q9 hb with ⟨j,u,rfl,e⟩ | ⟨y,u,rfl,e⟩
   ·exact nomatch e
   ·injection e with e1 _;rw [e1]
 byValue:=λk v h=>by
  rcases Q9 h with ⟨i,t,rfl,rfl⟩ | ⟨x,t,rfl,rfl⟩ <;> rfl
 pyHash:=λhv h=>by
  rcases Q9 hv with ⟨i,t,rfl,rfl⟩ | ⟨x,t,rfl,rfl⟩
  ·exact wpAny_pyHash_int h
  ·exact wpAny_pyHash_str h
 eqBool:=λhu hv h=>by
  rcases Q9 hu with ⟨i,t,rfl,rfl⟩ | ⟨x,t,rfl,rfl⟩
  ·rcases Q9 hv with ⟨j,u,rfl,rfl⟩ | ⟨y,u,rfl,rfl⟩
   ·rw [Qn5] at h;exact wpAny_eqBool_int h
   ·rw [Qn4] at h;exact SeqAt.EqAt.int_str i t y u _ _ _ _ h
  ·rcases Q9 hv with ⟨j,u,rfl,rfl⟩ | ⟨y,u,rfl,rfl⟩
   ·rw [Qn3] at h;exact SeqAt.EqAt.str_int x t j u _ _ _ _ h
   ·rw [Qn2] at h;exact wpAny_eqBool_str h
 «strs»:=λk x t v h=>by
  rcases Q9 h with ⟨i,u,rfl,e⟩ | ⟨y,u,rfl,e⟩
  ·exact nomatch e
  ·injection e with e1 _
   subst e1
   cases v <;> rfl
theorem Qbx (prog:Program) (w:World) (i:Int) (t:Tok):(Jx prog w).is (.inl i) (.int i t)=true:=Qfu i t
theorem Qbw (prog:Program) (w:World) (x:Str) (t:Tok):(Jx prog w).is (.inr x) (.str x t)=true:=Qft x t
inductive V where
 | non | bl (b:Bool) | int (i:Int) | str (x:Str) | byt (b:Array UInt8) | flt (b:UInt64) | ref (a:Addr) | ty (n:String)
 deriving DecidableEq
def RelV:V->Value->Prop
 | .non,u=>u=Value.none
 | .bl b,u=>u=Value.bool b
 | .int i,u=>∃t,u=Value.int i t
 | .str x,u=>∃t,u=Value.str x t
 | .byt b,u=>∃t,u=Value.bytes b t
 | .flt b,u=>∃t,u=Value.float b t
 | .ref a,u=>u=Value.ref a
 | .ty n,u=>u=Value.type n
abbrev Vals:List V->List Value->Prop:=Paired RelV
theorem Vals.length {xs:List V} (r:Vals xs us):xs.length=us.length:=Paired.length r
theorem Vals.get:∀{xs:List V} {us:List Value} {i:Nat} {x:V},Vals xs us->xs[i]? = some x->∃u,us[i]? = some u/\RelV x u
 | _,_,_,_,.nil,e=>by simp at e
 | _,_,0,_,.cons r _,e=>by simp at e;subst e;exact ⟨_,rfl,r⟩
 | _,_,i+1,x,.cons _ t,e=>by
  obtain ⟨u,h1,h2⟩:=Vals.get (i:=i) (x:=x) t (by simpa using e)
  exact ⟨u,by simpa using h1,h2⟩
theorem Vals.set {x:V} {u:Value} (r:RelV x u):∀{xs:List V} {us:List Value} (i:Nat),Vals xs us->Vals (xs.set i x) (us.set i u)
 | _,_,_,.nil=>.nil
 | _,_,0,.cons _ t=>.cons r t
 | _,_,i+1,.cons q t=>.cons q (Vals.set r i t)
theorem Vals.append:∀{xs ys:List V} {us ws:List Value},Vals xs us->Vals ys ws->Vals (xs++ys) (us++ws)
 | _,_,_,_,.nil,s=>s
 | _,_,_,_,.cons r t,s=>.cons r (Vals.append t s)
theorem Vals.take:∀{xs:List V} {us:List Value} (n:Nat),Vals xs us->Vals (xs.take n) (us.take n)
 | _,_,0,_=>.nil
 | _,_,_+1,.nil=>.nil
 | _,_,n+1,.cons r t=>.cons r (Vals.take n t)
theorem Vals.drop:∀{xs:List V} {us:List Value} (n:Nat),Vals xs us->Vals (xs.drop n) (us.drop n)
 | _,_,0,r=>r
 | _,_,_+1,.nil=>.nil
 | _,_,n+1,.cons _ t=>Vals.drop n t
def RelO:Option V->Option Value->Prop
 | some v,some u=>RelV v u
 | none,none=>True
 | _,_=>False
def KV {κ:Type}:List (κ × V)->List (κ × Value)->Prop:=Paired λ(p:κ × V) (q:κ × Value)=>p.1=q.1/\RelV p.2 q.2
def kV:Key->V
 | .inl i=>.int i
 | .inr x=>.str x
inductive HO where
 | lst (xs:List V)
 | tup (xs:List V)
 | dK (kvs:List (Key × V)) | dT (kvs:List (List Key × V))
 | set (S:Int->Bool) (n:Nat)
 | ins (C dx:Addr) (fs:List (Str × V))
 | own (x:Addr)
 | xd (fs:List (Str × V))
 | met (f x:Addr)
 | rng (lo hi:Int)
 | frz (o:Obj) (u:HO)
 | tbl (ps:Array Value)
 | ext (φ:Heap->Prop)
abbrev Hp:=Addr->Option HO
end L2
variable {H H' H1 H2:L2.Hp} {a b e:PySem.Addr} {o u ob:L2.HO} {P:PySem.Program} {w:PySem.World} {x:PySem.Str} {h':PySem.Heap}
namespace L2
open PySem PySem.Spec PyProof.Rows
def upd (H:Hp) (a:Addr) (o:HO):Hp:=λb=>if b=a then some o else H b
theorem Qj:upd H a o a=some o:=by unfold upd;rw [if_pos rfl]
theorem Qk (h:b≠a):upd H a o b=H b:=by unfold upd;rw [if_neg h]
theorem Qdy:upd (upd H a o) a u=upd H a u:=by
 funext b;unfold upd;split <;> rfl
theorem Qp2 (h:H a=some o) (h':H b=some u) (d:o≠u):a≠b:=by
 intro e;subst e;rw [h] at h';exact d (Option.some.inj h')
theorem Qz (h:H a=some o) (h':H b=none):a≠b:=by
 intro e;subst e;rw [h] at h';cases h'
section
variable (P:Program) (w:World)
def J0 (H:Hp) (h:Heap) (a:Addr):HO->Prop
 | .lst xs=>xs.length<=sizeLine/\∃(its:List Value) (n:Nat),Vals xs its/\h.get? a=some { cls:=.type "list",data:=.seq its.toArray n }
 | .tup xs=>xs.length<=sizeLine/\∃its:List Value,Vals xs its/\IsTup h a its.toArray
 | .dK kvs=>kvs.length<=sizeLine/\(a == sysModules)=false/\∃vs,KV kvs vs/\h.DictOf (Jx P w) a vs
 | .dT kvs=>kvs.length<=sizeLine/\(a == sysModules)=false/\∃xs:List (List Key × Addr × Value),
   Paired (λ(p:List Key × V) (q:List Key × Addr × Value)=>p.1=q.1/\H q.2.1=some (.tup (p.1.map kV))/\RelV p.2 q.2.2) kvs xs /\
   ∃o es ep,h.get? a=some o/\o.ExactDict/\o.data=.dict es ep/\es.toList=xs.map (entryOfKey (tupleKind (Jx P w)))/\(xs.map (·.1)).Nodup
 | .set S n=>h.SetOf (intKind P w) a S n
 | .ins C dx fs=>H dx=some (.own a)/\fs.length<=1000/\dx≠a/\h.get? a=some (PySem.W.instObj C dx) /\
   ∃mA,h.Ns1 dx mA/\(∀f,RelO (fs.lookup f) (mA f))/\PySem.Within mA (fs.map (·.1))
 | .own _=>∃o,h.get? a=some o
 | .xd fs=>∃mA,h.Ns1 a mA/\∀f,RelO (fs.lookup f) (mA f)
 | .rng lo hi=>∃t u v,h.get? a=some { cls:=.type "range",data:=.fields #[.int lo t,.int hi u,.int 1 v] }
 | .frz o u=>h.get? a=some o/\J0 H h a u
 | .tbl ps=>∃ts:Array Value,h.get? a=some { cls:=.none,data:=.fields ts }/\(ts = #[]\/∃(b:Addr) (oc:Obj) (u:HO) (vs:Array Value) (t:Tok) (q:Str) (t':Tok),ts = #[ps.getD 0 .none,ps.getD 1 .none,.ref b]/\H b=some (.frz oc u)/\oc.data=.fields vs/\ps.getD 2 .none=.str q t'/\vs[1]? = some (.str q t))
 | .met f x=>h.get? a=some (PySem.W.methodObj (.ref f) (.ref x))
 | .ext φ=>φ h/\(∃o,h.get? a=some o)/\∀h1 h2:Heap,φ h1->(∀o,h1.get? a=some o->h2.get? a=some o)->φ h2
def HOk (H:Hp) (h:Heap):Prop:=∀a o,H a=some o->J0 P w H h a o
end
section
variable {h:Heap}
theorem J0.lt (x:J0 P w H h a o):a<h.objs.size:=by
 cases o with
 | lst xs=>obtain ⟨_,_,_,_,e⟩:=x;exact Heap.lt_size e
 | tup xs=>obtain ⟨_,_,_,p⟩:=x;exact p.lt
 | dK kvs=>obtain ⟨_,_,_,_,o,_,_,e,_⟩:=x;exact Heap.lt_size e
 | dT kvs=>obtain ⟨_,_,_,_,o,_,_,e,_⟩:=x;exact Heap.lt_size e
 | set S n=>obtain ⟨o,_,_,_,e,_⟩:=x;exact Heap.lt_size e
 | ins C dx fs=>obtain ⟨_,_,_,e,_⟩:=x;exact Heap.lt_size e
 | own y=>obtain ⟨_,e⟩:=x;exact Heap.lt_size e
 | xd fs=>obtain ⟨_,⟨_,_,_,e,_⟩,_⟩:=x;exact Heap.lt_size e
 | rng lo hi=>obtain ⟨_,_,_,e⟩:=x;exact Heap.lt_size e
 | frz ob u=>obtain ⟨e,_⟩:=x;exact Heap.lt_size e
 | tbl ps=>obtain ⟨_,e,_⟩:=x;exact Heap.lt_size e
 | met f y=>exact Heap.lt_size (show h.get? a=some _ from x)
 | ext φ=>obtain ⟨_,⟨_,e⟩,_⟩:=x;exact Heap.lt_size e
theorem Paired.mapP {α β:Type} {F G:α->β->Prop}:∀{l₁:List α} {l₂:List β},Paired F l₁ l₂->(∀a b,F a b->G a b)->Paired G l₁ l₂
 | _,_,.nil,_=>.nil
 | _,_,.cons r t,f=>.cons (f _ _ r) (Paired.mapP t f)
theorem J0.stay (x:J0 P w H h a o) (k:∀b u,(b=a\/H b=some (.own a))->h.get? b=some u->h'.get? b=some u)
  (ho:∀b,H b=some (.own a)->H' b=some (.own a)) (ht:∀b xs,H b=some (.tup xs)->H' b=some (.tup xs)) (hf:∀b u v vs,H b=some (.frz u v)->u.data=.fields vs->H' b=some (.frz u v):=by exact λ_ _ _ _ q _=>q):J0 P w H' h' a o:=by
 induction o with
 | lst xs=>obtain ⟨z,its,n,r,e⟩:=x;exact ⟨z,its,n,r,k _ _ (.inl rfl) e⟩
 | tup xs=>obtain ⟨z,its,r,ob,e,c⟩:=x;exact ⟨z,its,r,ob,k _ _ (.inl rfl) e,c⟩
 | dK kvs=>obtain ⟨z,y,vs,r,ob,es,ep,e,c⟩:=x;exact ⟨z,y,vs,r,ob,es,ep,k _ _ (.inl rfl) e,c⟩
 | dT kvs =>
  obtain ⟨z,y,xs,r,ob,es,ep,e,c⟩:=x
  exact ⟨z,y,xs,Paired.mapP r λp q z=>⟨z.1,ht _ _ z.2.1,z.2.2⟩,ob,es,ep,k _ _ (.inl rfl) e,c⟩
 | set S n=>obtain ⟨ob,es,ep,t,e,c⟩:=x;exact ⟨ob,es,ep,t,k _ _ (.inl rfl) e,c⟩
 | ins C dx fs =>
  obtain ⟨d,z,ne,e,mA,⟨od,es,ep,e2,c⟩,r⟩:=x
  exact ⟨ho _ d,z,ne,k _ _ (.inl rfl) e,mA,⟨od,es,ep,k _ _ (.inr d) e2,c⟩,r⟩
 | own y=>obtain ⟨ob,e⟩:=x;exact ⟨ob,k _ _ (.inl rfl) e⟩
 | xd fs=>obtain ⟨mA,⟨od,es,ep,e,c⟩,r⟩:=x;exact ⟨mA,⟨od,es,ep,k _ _ (.inl rfl) e,c⟩,r⟩
 | rng lo hi=>obtain ⟨t,u,v,e⟩:=x;exact ⟨t,u,v,k _ _ (.inl rfl) e⟩
 | frz ob u ih=>obtain ⟨e,q⟩:=x;exact ⟨k _ _ (.inl rfl) e,ih q⟩
 | tbl ps =>
  obtain ⟨ts,e,r⟩:=x
  exact ⟨ts,k _ _ (.inl rfl) e,r.imp id λ⟨b,oc,u,vs,t,q,t',z1,z2,z3⟩=>⟨b,oc,u,vs,t,q,t',z1,hf _ _ _ _ z2 z3.1,z3⟩⟩
 | met f y =>
  have e:h.get? a=some (PySem.W.methodObj (.ref f) (.ref y)):=x
  show h'.get? a=some (PySem.W.methodObj (.ref f) (.ref y))
  exact k a _ (.inl rfl) e
 | ext φ=>obtain ⟨p,⟨o,e⟩,st⟩:=x;exact ⟨st _ _ p λo q=>k _ _ (.inl rfl) q,⟨o,k _ _ (.inl rfl) e⟩,st⟩
theorem HOk.lt (x:HOk P w H h) (e:H a=some o):a<h.objs.size:=(x a o e).lt
theorem HOk.fresh (x:HOk P w H h) (e:h.objs.size<=a):H a=none:=by
 cases q:H a with
 | none=>rfl
 | some u=>exact absurd (Nat.lt_of_lt_of_le (x.lt q) e) (Nat.lt_irrefl _)
theorem HOk.kept (x:HOk P w H h) (k:∀b u,h.get? b=some u->h'.get? b=some u):HOk P w H h':=λa o e =>
 (x a o e).stay (λb u _ q=>k b u q) (λ_ q=>q) λ_ _ q=>q
theorem HOk.laid (x:HOk P w H h) (k:∀b u,h.get? b=some u->h'.get? b=some u) (hp:h.objs.size<=a) (new:J0 P w (upd H a o) h' a o):HOk P w (upd H a o) h':=λb u e=>by
 have hn:=x.fresh hp
 by_cases hb:b=a
 ·subst hb;rw [Qj] at e;cases e;exact new
 ·rw [Qk hb] at e
  exact (x b u e).stay (λc v _ q=>k c v q) (λc q=>by rw [Qk (Qz q hn)];exact q) (λc xs q=>by rw [Qk (Qz q hn)];exact q) λc _ _ _ q _=>by rw [Qk (Qz q hn)];exact q
end
def Rd (H:Hp) (a:Addr) (u:HO):Prop:=H a=some u\/∃o,H a=some (.frz o u)
theorem Rd.ok {h:Heap} (r:Rd H a u) (x:HOk P w H h):J0 P w H h a u:=by
 rcases r with r | ⟨o,r⟩
 ·exact x a u r
 ·obtain ⟨_,q⟩:=x a _ r
  exact q
def Mut:Option HO->Prop
 | some (.lst _)=>True
 | some (.dK _)=>True
 | some (.dT _)=>True
 | some (.set _ _)=>True
 | some (.ins _ _ _)=>True
 | some (.ext _)=>True
 | _=>False
section
variable {h:Heap} {x:Addr} {o':HO}
theorem HOk.write (ok:HOk P w H h) (mu:Mut (H x)) (he:e=x\/H e=some (.own x)) (k:∀b u,b≠e->h.get? b=some u->h'.get? b=some u) (heo:∃u,h'.get? e=some u)
  (new:J0 P w (upd H x o') h' x o'):HOk P w (upd H x o') h':=λb u q=>by
 have nown:∀c y,H c=some (.own y)->c≠x:=λc y r z=>by subst z;rw [r] at mu;exact mu
 have ntup:∀c xs,H c=some (.tup xs)->c≠x:=λc xs r z=>by subst z;rw [r] at mu;exact mu
 have nfrz:∀c o v,H c=some (.frz o v)->c≠x:=λc o v r z=>by subst z;rw [r] at mu;exact mu
 by_cases hb:b=x
 ·subst hb;rw [Qj] at q;cases q;exact new
 ·rw [Qk hb] at q
  by_cases hbe:b=e
  ·have q':H b=some (.own x):=by
    rcases he with z | z
    ·exact absurd (hbe.trans z) hb
    ·rw [hbe];exact z
   rw [q] at q';cases q'
   obtain ⟨v,hv⟩:=heo
   exact ⟨v,by rw [hbe];exact hv⟩
  ·refine (ok b u q).stay (λc v hc r=>k c v ?_ r) (λc r=>by rw [Qk (nown c b r)];exact r) (λc xs r=>by rw [Qk (ntup c xs r)];exact r) λc o v _ r _=>by rw [Qk (nfrz c o v r)];exact r
   rcases hc with rfl | hc
   ·exact hbe
   ·rintro rfl
    rcases he with z | z
    ·exact nown c b hc z
    ·rw [hc] at z;cases z;exact hb rfl
end
structure Un (fs ex:List Addr) (H H':Hp) (h h':Heap):Prop where
 keep:∀b o,h.get? b=some o->H b=none->b∉fs->b∉ex->h'.get? b=some o
 slot:∀b o,h.get? b=some o->H b=none->b∈fs->b∉ex->∃sl,h'.get? b=some { o with slots:=sl }
 free:∀b o,h.get? b=some o->H b=none->b∉ex->H' b=none
 there:∀b o,h.get? b=some o->b∉ex->∃o',h'.get? b=some o'
 tups:∀b xs,H b=some (.tup xs)->H' b=some (.tup xs)
 frzs:∀b o u,H b=some (.frz o u)->H' b=some (.frz o u)
 tbls:∀b ps,H b=some (.tbl ps)->∃more,H' b=some (.tbl (ps++more))
section
variable {fs ex:List Addr} {h h1:Heap} {x:Addr}
theorem Un.any (u:Un fs ex H H1 h h1) {ob:Obj} (q:h.get? b=some ob) (n:H b=none) (hx:b∉ex):∃sl,h1.get? b=some { ob with slots:=sl }:=by
 by_cases hb:b∈fs
 ·exact u.slot b ob q n hb hx
 ·exact ⟨ob.slots,u.keep b ob q n hb hx⟩
theorem Un.kept (k:∀b u,h.get? b=some u->h'.get? b=some u):Un fs ex H H h h' :=
 ⟨λb ob q _ _ _=>k b ob q,λb ob q _ _ _=>⟨ob.slots,k b ob q⟩,λ_ _ _ n _=>n,λb ob q _=>⟨ob,k b ob q⟩,λ_ _ q=>q,λ_ _ _ q=>q,λ_ ps q=>⟨#[],by rw [q];simp⟩⟩
theorem Un.refl:Un fs ex H H h h:=Un.kept λ_ _ q=>q
theorem Un.laid (k:∀b u,h.get? b=some u->h'.get? b=some u) (hp:h.objs.size<=a) (hn:H a=none):Un fs ex H (upd H a o) h h' where
 keep:=λb u q _ _ _=>k b u q
 slot:=λb u q _ _ _=>⟨u.slots,k b u q⟩
 free:=λb u q n _=>by rw [Qk (Nat.ne_of_lt (Nat.lt_of_lt_of_le (Heap.lt_size q) hp))];exact n
 there:=λb u q _=>⟨u,k b u q⟩
 tups:=λb xs q=>by rw [Qk (Qz q hn)];exact q
 frzs:=λb u xs q=>by rw [Qk (Qz q hn)];exact q
 tbls:=λb ps q=>⟨#[],by rw [Qk (Qz q hn),q];simp⟩
theorem Un.write (mu:Mut (H x)) (he:e=x\/H e=some (.own x)) (k:∀b u,b≠e->h.get? b=some u->h'.get? b=some u) (heo:∃u,h'.get? e=some u):Un fs ex H (upd H x o) h h':=by
 have hx:∀b,H b=none->b≠x:=λb n z=>by subst z;rw [n] at mu;exact mu
 have hb:∀b,H b=none->b≠e:=λb n z=>by
  subst z
  rcases he with r | r
  ·exact hx b n r
  ·rw [n] at r;cases r
 have hm:∀b u,H b=some u->¬Mut (some u)->b≠x:=λb u q nm z=>by subst z;rw [q] at mu;exact nm mu
 refine ⟨λb u q n _ _=>k b u (hb b n) q,λb u q n _ _=>⟨u.slots,k b u (hb b n) q⟩,λb u q n _=>by rw [Qk (hx b n)];exact n,λb u q _=>?_,
  λb xs q=>by rw [Qk (hm b _ q λz=>z)];exact q,λb u xs q=>by rw [Qk (hm b _ q λz=>z)];exact q,λb ps q=>⟨#[],by rw [Qk (hm b _ q λz=>z),q];simp⟩⟩
 by_cases hbe:b=e
 ·subst hbe;exact heo
 ·exact ⟨u,k b u hbe q⟩
end
def trk (h:Heap) (H:Hp):List Addr:=(List.range h.objs.size).filter λa=>(H a).isSome
def hidT (h:Heap) (H:Hp):Heap:=PySem.W.hideAll h (trk h H)
theorem Qf0 (h:Heap) (H:Hp):(hidT h H).objs.size=h.objs.size:=PySem.W.hideAll_size _ _
theorem Qhk {h:Heap} {o:Obj} (e:h.get? b=some o) (n:H b=none):(hidT h H).get? b=some o :=
 PySem.W.hideAll_get _ e λhm=>by
  have q:(H b).isSome=true:=(List.mem_filter.mp hm).2
  rw [n] at q;simp at q
theorem Qkt {h:Heap} {o:Obj} (e:(hidT h H).get? b=some o):h.get? b=some o/\H b=none:=by
 have e':h.get? b=some o:=PySem.W.of_hideAll (trk h H) e
 refine ⟨e',?_⟩
 cases q:H b with
 | none=>rfl
 | some x =>
  have hm:b∈trk h H:=List.mem_filter.mpr ⟨List.mem_range.mpr (Heap.lt_size e'),by simp [q]⟩
  have z:(hidT h H).get? b=none:=PySem.W.hideAll_none (trk h H) hm
  rw [z] at e;cases e
structure Mod (K:PySem.W.Frag) (mg:Str->Option Value) (base:Heap):Prop where
 kin:K.In base
 glob:base.Ns mainGlobals mg
 blt:∃mb,base.Ns builtinsNs mb/\∀x:Str,x ≠ "__name__" -> mb x=bootBuiltins x
 nolimit:base.NoLimit
structure Cx where
 prog:Program
 w:World
 K:PySem.W.Frag
 mg:Str->Option Value
 base:Heap
 A:Around
 N:List Str
 s₀:Shared
 H₀:Hp
 env:Env
 outer:List Env
 stack:List Env
 ex:List Addr
 fn:Str->Bool
 calm:Bool
 pn:List (Addr × Obj)
 xe:Value->Shared->Prop
end L2
variable {u:PySem.Value} {g':Array PySem.GenState} {t' i j:Nat} {d':PySem.Drawn} {ch:List PySem.Addr} {it:PySem.Addr} {N:List PySem.Str} {A:PySem.Around} {E:PySem.Value->PySem.Shared->Prop} {v:L2.V} {Q:Unit->PySem.Shared->Prop} {s' s:PySem.Shared} {X:L2.Cx} {pins:List (PySem.Addr × PySem.Obj)}
namespace L2
open PySem PySem.Spec PyProof.Rows
def frs (l:List Env):List Addr:=l.filterMap (·.frame)
abbrev Cx.fs (X:Cx):List Addr:=frs X.outer
def Vis (sc:Scope) (x:Str):Prop:=sc.names.lookup x=some .local\/sc.names.lookup x=some .cell\/sc.names.lookup x=some .free
def Loc (sc:Scope) (x:Str):Prop:=sc.names.lookup x=some .local\/sc.names.lookup x=some .cell
def Look (env:Env) (h:Heap) (m:Str->Option Value) (x:Str) (u:Value):Prop :=
 (env.kindOf x=some .local/\m x=some u)\/((env.kindOf x=some .cell\/env.kindOf x=some .free)/\∃c,env.cells.lookup x=some c/\h.IsCell c (some u))
structure Cx.Ok (X:Cx):Prop where
 mod:Mod X.K X.mg X.base
 kind:X.env.scope.kind=.function
 glob:X.env.globals=mainGlobals
 blt:X.env.builtins=builtinsNs
 above:X.s₀.heap.objs.size<=X.env.locals
 inj:∀x y c,X.env.cells.lookup x=some c->X.env.cells.lookup y=some c->x=y
 has:∀x,(X.env.kindOf x=some .cell\/X.env.kindOf x=some .free)->∃c,X.env.cells.lookup x=some c
 cab:∀x c,X.fn x=true->X.env.cells.lookup x=some c->X.s₀.heap.objs.size<=c
 hd:X.calm=true->X.A.handled=none
 frames:X.A.frames=some X.stack
 stk:X.stack=X.outer\/(X.stack=X.env::X.outer/\X.env.frame=some X.env.locals)
 exf:∀b∈X.ex,b≠X.env.locals/\∀x c,X.env.cells.lookup x=some c->c≠b
 bs:∀b o,X.base.get? b=some o->X.s₀.heap.get? b=some o/\X.H₀ b=none
 bsz:X.base.objs.size<=X.s₀.heap.objs.size
 noex:∀b o,X.base.get? b=some o->b∉X.ex
 exfs:∀b∈X.ex,b∉X.fs
 funs:X.s₀.heap.FunFrames X.base X.outer
 frf:∀b∈X.fs,X.H₀ b=none
structure Inv (X:Cx) (pins:List (Addr × Obj)) (σ:List (Option V)) (H:Hp) (s:Shared):Prop where
 ok:X.Ok
 os:s.os=X.s₀.os
 bare:AllBare s.gens
 base:Un X.fs X.ex X.H₀ H X.s₀.heap s.heap
 loc:∃m,s.heap.Ns X.env.locals m/\∀(i:Nat) (x:Str) (v:V),X.N[i]? = some x->σ[i]? = some (some v)->Vis X.env.scope x->∃u,RelV v u/\Look X.env s.heap m x u
 cell:∀x c,X.env.cells.lookup x=some c->∃v,s.heap.IsCell c v
 free:H X.env.locals=none
 freeC:∀x c,X.env.cells.lookup x=some c->H c=none
 pin:∀p∈X.pn++pins,s.heap.get? p.1=some p.2/\H p.1=none/\p.1≠X.env.locals/\p.1∉X.fs/\∀v,p.2.data ≠ .cell v
 hok:HOk X.prog X.w H s.heap
 len:σ.length=X.N.length
section
variable {σ:List (Option V)}
theorem Cx.Ok.nofr (ok:X.Ok) {o:Obj} (e:X.base.get? b=some o):b∉X.fs:=λhb=>by
 have:=(ok.funs.mem hb).1
 rw [e] at this;cases this
theorem Inv.bs (I:Inv X pins σ H s):∀b o,X.base.get? b=some o->s.heap.get? b=some o/\H b=none:=λb o e =>
 ⟨I.base.keep b o (I.ok.bs b o e).1 (I.ok.bs b o e).2 (I.ok.nofr e) (I.ok.noex b o e),I.base.free b o (I.ok.bs b o e).1 (I.ok.bs b o e).2 (I.ok.noex b o e)⟩
theorem Inv.bk (I:Inv X pins σ H s):∀b o,X.base.get? b=some o->s.heap.get? b=some o:=λb o e=>(I.bs b o e).1
theorem Inv.mod (I:Inv X pins σ H s):Mod X.K X.mg X.base:=I.ok.mod
theorem Inv.kIn (I:Inv X pins σ H s):X.K.In s.heap:=I.ok.mod.kin.keeps I.bk
theorem Inv.lt (I:Inv X pins σ H s):X.env.locals<s.heap.objs.size:=let ⟨_,hn,_⟩:=I.loc;hn.lt
theorem Inv.sz (I:Inv X pins σ H s):X.s₀.heap.objs.size<=s.heap.objs.size:=Nat.le_trans I.ok.above (Nat.le_of_lt I.lt)
theorem Inv.nofs (I:Inv X pins σ H s) (h:s.heap.objs.size<=a):a∉X.fs:=λhb=>by
 obtain ⟨_,o,ho,_⟩:=I.ok.funs.mem hb
 exact absurd (Nat.lt_of_lt_of_le (Heap.lt_size ho) (Nat.le_trans I.sz h)) (Nat.lt_irrefl _)
theorem Inv.cne (I:Inv X pins σ H s):∀x c,X.env.cells.lookup x=some c->c≠X.env.locals:=λx c e z=>by
 obtain ⟨v,o,ho,hd⟩:=I.cell x c e
 obtain ⟨m,⟨o',es,ep,ho',hd',_⟩,_⟩:=I.loc
 rw [z,ho'] at ho;cases ho;rw [hd'] at hd;cases hd
theorem Inv.funs (I:Inv X pins σ H s):s.heap.FunFrames X.base X.outer:=by
 have all:∀(l:List Env),(∀b∈frs l,b∈X.fs)->X.s₀.heap.FunFrames X.base l->s.heap.FunFrames X.base l:=by
  intro l
  induction l with
  | nil=>intro _ _;trivial
  | cons env r ih =>
   intro hs hl
   obtain ⟨hk,⟨L,o,hf,hn,ho,hd⟩,hr⟩:=hl
   have hL:L∈X.fs:=hs L (by unfold frs;rw [List.filterMap_cons,hf];exact List.mem_cons_self)
   obtain ⟨sl,e⟩:=I.base.slot L o ho (I.ok.frf L hL) hL λz=>I.ok.exfs L z hL
   exact ⟨hk,⟨L,_,hf,hn,e,hd⟩,ih (λb hb=>hs b (by unfold frs;rw [List.filterMap_cons,hf];exact List.mem_cons_of_mem _ hb)) hr⟩
 exact all X.outer (λ_ hb=>hb) I.ok.funs
theorem Inv.stack (I:Inv X pins σ H s):s.heap.FunFrames X.base X.stack:=by
 rcases I.ok.stk with e | ⟨e,hf⟩
 ·rw [e];exact I.funs
 ·rw [e]
  obtain ⟨m,hn,_⟩:=I.loc
  refine .cons (by rw [I.ok.kind];decide) hf hn ?_ I.funs
  exact Heap.get?_none_of_le (Nat.le_trans I.ok.bsz I.ok.above)
theorem Inv.stkSub (I:Inv X pins σ H s):∀b∈frs X.stack,b∈X.env.locals::X.fs:=λb hb=>by
 rcases I.ok.stk with e | ⟨e,hf⟩
 ·rw [e] at hb;exact List.mem_cons_of_mem _ hb
 ·rw [e] at hb
  unfold frs at hb
  rw [List.filterMap_cons,hf] at hb
  exact hb
theorem Inv.stkFree (I:Inv X pins σ H s):∀b∈frs X.stack,H b=none:=λb hb=>by
 rcases List.mem_cons.mp (I.stkSub b hb) with e | hb
 ·rw [e];exact I.free
 ·obtain ⟨_,o,ho,_⟩:=I.ok.funs.mem hb
  exact I.base.free b o ho (I.ok.frf b hb) λz=>I.ok.exfs b z hb
theorem Inv.step (I:Inv X pins σ H s)
  (hch:∀b∈ch,(b∈X.ex\/X.s₀.heap.objs.size<=b)/\b≠X.env.locals/\(∀x c,X.env.cells.lookup x=some c->c≠b)/\∀p∈X.pn++pins,p.1≠b)
  (keep:∀b o,b≠X.env.locals->b∉X.fs->b∉ch->s.heap.get? b=some o->H b=none->h'.get? b=some o)
  (slot:∀b o,b≠X.env.locals->b∈X.fs->b∉ch->s.heap.get? b=some o->H b=none->∃sl,h'.get? b=some { o with slots:=sl }) (free:∀b o,b∉ch->s.heap.get? b=some o->H b=none->H' b=none)
  (there:∀b o,b∉ch->s.heap.get? b=some o->∃o',h'.get? b=some o')
  (tups:∀b xs,H b=some (.tup xs)->H' b=some (.tup xs)) (frzs:∀b o u,H b=some (.frz o u)->H' b=some (.frz o u)) (tbls:∀b ps,H b=some (.tbl ps)->∃more,H' b=some (.tbl (ps++more)))
  (ns:∀m,s.heap.Ns X.env.locals m->h'.Ns X.env.locals m) (hok:HOk X.prog X.w H' h') (hg:AllBare g') :
  Inv X pins σ H' { s with heap:=h',gens:=g',drawn:=d',toks:=t' }:=by
 have neL:∀b o,X.s₀.heap.get? b=some o->b≠X.env.locals:=λb o e=>Nat.ne_of_lt (Nat.lt_of_lt_of_le (Heap.lt_size e) I.ok.above)
 have neC:∀b o,X.s₀.heap.get? b=some o->b∉X.ex->b∉ch:=λb o e hx hb=>by
  rcases (hch b hb).1 with z | z
  ·exact hx z
  ·exact absurd (Nat.lt_of_lt_of_le (Heap.lt_size e) z) (Nat.lt_irrefl _)
 have cellK:∀x c,X.env.cells.lookup x=some c->∀v,s.heap.IsCell c v->h'.IsCell c v:=λx c e v ⟨o,ho,hd⟩=>by
  have nch:c∉ch:=λz=>(hch c z).2.2.1 x c e rfl
  by_cases hc:c∈X.fs
  ·obtain ⟨sl,q⟩:=slot c o (I.cne x c e) hc nch ho (I.freeC x c e)
   exact ⟨_,q,hd⟩
  ·exact ⟨o,keep c o (I.cne x c e) hc nch ho (I.freeC x c e),hd⟩
 refine ⟨I.ok,I.os,hg,⟨λb o e n hb hx=>?_,λb o e n hb hx=>?_,λb o e n hx=>?_,λb o e hx=>?_,λb xs e=>tups b xs (I.base.tups b xs e),λb o xs e=>frzs b o xs (I.base.frzs b o xs e),λb ps e=>?_⟩,?_,λx c e=>?_,?_,λx c e=>?_,λp hp=>?_,hok,I.len⟩
 ·exact keep b o (neL b o e) hb (neC b o e hx) (I.base.keep b o e n hb hx) (I.base.free b o e n hx)
 ·obtain ⟨sl,e1⟩:=I.base.slot b o e n hb hx
  obtain ⟨sl',e2⟩:=slot b _ (neL b o e) hb (neC b o e hx) e1 (I.base.free b o e n hx)
  exact ⟨sl',e2⟩
 ·obtain ⟨o',e1⟩:=I.base.there b o e hx
  exact free b o' (neC b o e hx) e1 (I.base.free b o e n hx)
 ·obtain ⟨o',e1⟩:=I.base.there b o e hx
  exact there b o' (neC b o e hx) e1
 ·obtain ⟨m1,e1⟩:=I.base.tbls b ps e
  obtain ⟨m2,e2⟩:=tbls b _ e1
  exact ⟨m1++m2,by rw [e2,Array.append_assoc]⟩
 ·obtain ⟨m,hn,hl⟩:=I.loc
  refine ⟨m,ns m hn,λi x v e1 e2 e3=>?_⟩
  obtain ⟨u,r,l⟩:=hl i x v e1 e2 e3
  refine ⟨u,r,?_⟩
  rcases l with l | ⟨k,c,e,z⟩
  ·exact .inl l
  ·exact .inr ⟨k,c,e,cellK x c e _ z⟩
 ·obtain ⟨v,z⟩:=I.cell x c e
  exact ⟨v,cellK x c e v z⟩
 ·obtain ⟨m,⟨o,_,_,ho,_⟩,_⟩:=I.loc
  exact free _ o (λz=>(hch _ z).2.1 rfl) ho I.free
 ·obtain ⟨v,o,ho,hd⟩:=I.cell x c e
  exact free c o (λz=>(hch c z).2.2.1 x c e rfl) ho (I.freeC x c e)
 ·obtain ⟨e,n,ne,nf,d⟩:=I.pin p hp
  have nch:p.1∉ch:=λz=>(hch p.1 z).2.2.2 p hp rfl
  exact ⟨keep p.1 p.2 ne nf nch e n,free p.1 p.2 nch e n,ne,nf,d⟩
theorem Inv.un (I:Inv X pins σ H s) (u:Un X.fs [] H H' s.heap h') (hok:HOk X.prog X.w H' h'):Inv X pins σ H' { s with heap:=h',toks:=t' }:=by
 obtain ⟨m,⟨o,es,ep,ho,r⟩,_⟩:=id I.loc
 obtain ⟨sl,hL⟩:=u.any ho I.free (by simp)
 exact I.step (g':=s.gens) (d':=s.drawn) (ch:=[]) (λ_ z=>nomatch z) (λb o _ hb _ e n=>u.keep b o e n hb (by simp)) (λb o _ hb _ e n=>u.slot b o e n hb (by simp)) (λb o _ e n=>u.free b o e n (by simp)) (λb o _ e=>u.there b o e (by simp)) u.tups u.frzs u.tbls (λm' hm=>by
  obtain ⟨o',es',ep',ho',r'⟩:=hm
  rw [ho] at ho';cases ho'
  exact ⟨_,es',ep',hL,r'⟩) hok I.bare
theorem Inv.call (I:Inv X pins σ H s) (u:Un (frs X.stack) ch H H' s.heap h') (hok:HOk X.prog X.w H' h') (hg:AllBare g')
  (hch:∀b∈ch,(b∈X.ex\/X.s₀.heap.objs.size<=b)/\b≠X.env.locals/\(∀x c,X.env.cells.lookup x=some c->c≠b)/\∀p∈X.pn++pins,p.1≠b) :
  Inv X pins σ H' { s with heap:=h',gens:=g',drawn:=d',toks:=t' }:=by
 obtain ⟨m,⟨o,es,ep,ho,r⟩,_⟩:=id I.loc
 obtain ⟨sl,hL⟩:=u.any ho I.free λz=>(hch _ z).2.1 rfl
 exact I.step (ch:=ch) hch (λb o hL hb hc e n=>u.keep b o e n (λz=>(List.mem_cons.mp (I.stkSub b z)).elim hL hb) hc) (λb o _ _ hc e n=>u.any e n hc) (λb o hc e n=>u.free b o e n hc) (λb o hc e=>u.there b o e hc) u.tups u.frzs u.tbls (λm' hm=>by
  obtain ⟨o',es',ep',ho',r'⟩:=hm
  rw [ho] at ho';cases ho'
  exact ⟨_,es',ep',hL,r'⟩) hok hg
theorem Inv.turned (I:Inv X pins σ H s) (k:∀b o,b≠it->s.heap.get? b=some o->h'.get? b=some o) (hn:H it=none) (hL:it≠X.env.locals)
  (h1:it∈X.ex\/X.s₀.heap.objs.size<=it) (h2:∀x c,X.env.cells.lookup x=some c->c≠it) (h3:∀p∈X.pn++pins,p.1≠it):Inv X pins σ H { s with heap:=h',toks:=t' }:=by
 have nit:∀b u,H b=some u->b≠it:=λb u e z=>by rw [z,hn] at e;cases e
 refine I.step (g':=s.gens) (d':=s.drawn) (ch:=[it]) (λb hb=>?_) (λb o _ _ hc e _=>k b o (λz=>hc (by simp [z])) e) (λb o _ _ hc e _=>⟨o.slots,k b o (λz=>hc (by simp [z])) e⟩) (λ_ _ _ _ n=>n)
  (λb o hc e=>⟨o,k b o (λz=>hc (by simp [z])) e⟩) (λ_ _ e=>e) (λ_ _ _ e=>e) (λb ps e=>⟨#[],by rw [e];simp⟩) (λm hm=>?_) (λb u e=>?_) I.bare
 ·have e:b=it:=by simpa using hb
  subst e
  exact ⟨h1,hL,h2,h3⟩
 ·obtain ⟨o,es,ep,ho,r⟩:=hm
  exact ⟨o,es,ep,k _ o (Ne.symm hL) ho,r⟩
 ·refine (I.hok b u e).stay (λc v hc q=>k c v ?_ q) (λ_ q=>q) λ_ _ q=>q
  rcases hc with z | z
  ·rw [z];exact nit b u e
  ·exact nit c _ z
theorem Inv.tok (I:Inv X pins σ H s) (t:Nat):Inv X pins σ H { s with toks:=t }:=I.un (h':=s.heap) (t':=t) Un.refl I.hok
theorem Inv.kept (I:Inv X pins σ H s) (k:∀b u,s.heap.get? b=some u->h'.get? b=some u):Inv X pins σ H { s with heap:=h',toks:=t' }:=I.un (Un.kept k) (I.hok.kept k)
theorem Inv.laid (I:Inv X pins σ H s) (k:∀b u,s.heap.get? b=some u->h'.get? b=some u) (hp:s.heap.objs.size<=a) (new:J0 X.prog X.w (upd H a o) h' a o) :
  Inv X pins σ (upd H a o) { s with heap:=h',toks:=t' }:=I.un (Un.laid k hp (I.hok.fresh hp)) (I.hok.laid k hp new)
theorem Inv.write {x:Addr} (I:Inv X pins σ H s) (mu:Mut (H x)) (he:e=x\/H e=some (.own x)) (k:∀b u,b≠e->s.heap.get? b=some u->h'.get? b=some u) (heo:∃u,h'.get? e=some u)
  (new:J0 X.prog X.w (upd H x o) h' x o):Inv X pins σ (upd H x o) { s with heap:=h',toks:=t' }:=I.un (Un.write mu he k heo) (I.hok.write mu he k heo new)
theorem Inv.pins_of {pins':List (Addr × Obj)} (I:Inv X pins σ H s) (h:∀p∈pins',s.heap.get? p.1=some p.2/\H p.1=none/\p.1≠X.env.locals/\p.1∉X.fs/\∀v,p.2.data ≠ .cell v):Inv X pins' σ H s :=
 ⟨I.ok,I.os,I.bare,I.base,I.loc,I.cell,I.free,I.freeC,λp hp=>(List.mem_append.mp hp).elim (λz=>I.pin p (List.mem_append_left _ z)) (h p),I.hok,I.len⟩
theorem Qct (hN:N.Nodup) (a:N[i]? = some x) (b:N[j]? = some x):i=j:=by
 obtain ⟨h1,e1⟩:=List.getElem?_eq_some_iff.mp a
 obtain ⟨h2,e2⟩:=List.getElem?_eq_some_iff.mp b
 exact (List.getElem_inj hN).mp (e1.trans e2.symm)
theorem Qd4 {M:Model} (I:Inv X pins σ H s) (hN:X.N.Nodup) (hi:X.N[i]? = some x) (hx:Loc X.env.scope x) (r:RelV v u)
  (h:∀s',Inv X pins (σ.set i (some v)) H s'->(∃a,Heap.SameBut a s.heap s'.heap/\(a=X.env.locals\/X.env.cells.lookup x=some a))->Q () s') (hf:X.fn x=true\/X.env.scope.names.lookup x=some .local:=by first | exact .inl rfl | exact .inr rfl | assumption):wpAny M A (storeName X.env x u) Q E s:=by
 obtain ⟨m,hn,hl⟩:=id I.loc
 have hcls:(X.env.scope.kind == .class || (X.env.scope.kind == .module && X.env.locals != X.env.globals))=false:=by rw [I.ok.kind];rfl
 have hiσ:i<σ.length:=by rw [I.len];exact (List.getElem?_eq_some_iff.mp hi).1
 have cne:=I.cne
 have tracked:∀{a:Addr} {h':Heap},(∃o,s.heap.get? a=some o/\H a=none)->Heap.SameBut a s.heap h'->HOk X.prog X.w H h':=λ{a h'} ha hs b ob e=>by
  obtain ⟨_,_,hfree⟩:=ha
  refine (I.hok b ob e).stay (λc w' hc q=>(hs.2 c ?_).trans q) (λ_ q=>q) λ_ _ q=>q
  rintro rfl
  rcases hc with rfl | hc
  ·rw [hfree] at e;cases e
  ·rw [hfree] at hc;cases hc
 rcases hx with hk | hk
 ·refine wpAny_storeName_local hk hn (λh' hn' hs=>?_) hcls
  obtain ⟨oL,_,_,hoL,_⟩:=id hn
  refine h _ ⟨I.ok,I.os,I.bare,⟨λb o e n hb hx=>?_,λb o e n hb hx=>?_,I.base.free,λb o e hx=>?_,I.base.tups,I.base.frzs,I.base.tbls⟩,⟨_,hn',λj y v' e1 e2 e3=>?_⟩,λy c e=>?_,I.free,I.freeC,λp hp=>?_,tracked ⟨oL,hoL,I.free⟩ hs,by simpa using I.len⟩ ⟨_,hs,.inl rfl⟩
  ·exact (hs.2 b (Nat.ne_of_lt (Nat.lt_of_lt_of_le (Heap.lt_size e) I.ok.above))).trans (I.base.keep b o e n hb hx)
  ·obtain ⟨sl,e1⟩:=I.base.slot b o e n hb hx
   exact ⟨sl,(hs.2 b (Nat.ne_of_lt (Nat.lt_of_lt_of_le (Heap.lt_size e) I.ok.above))).trans e1⟩
  ·obtain ⟨o',e1⟩:=I.base.there b o e hx
   exact ⟨o',(hs.2 b (Nat.ne_of_lt (Nat.lt_of_lt_of_le (Heap.lt_size e) I.ok.above))).trans e1⟩
  ·by_cases hj:j=i
   ·subst hj
    rw [hi] at e1;cases e1
    rw [List.getElem?_set_self hiσ] at e2
    cases e2
    exact ⟨u,r,.inl ⟨hk,by simp⟩⟩
   ·rw [List.getElem?_set_ne (Ne.symm hj)] at e2
    obtain ⟨u',r',q⟩:=hl j y v' e1 e2 e3
    refine ⟨u',r',?_⟩
    rcases q with ⟨k,e⟩ | ⟨k,c,e,z⟩
    ·refine .inl ⟨k,?_⟩
     have:y≠x:=λe=>hj (Qct hN e1 (e ▸ hi))
     simp [this,e]
    ·exact .inr ⟨k,c,e,z.sameBut hs (cne y c e)⟩
  ·obtain ⟨w',z⟩:=I.cell y c e
   exact ⟨w',z.sameBut hs (cne y c e)⟩
  ·obtain ⟨e,n,ne,nf,d⟩:=I.pin p hp
   exact ⟨(hs.2 p.1 ne).trans e,n,ne,nf,d⟩
 ·have hfn:X.fn x=true:=by
   rcases hf with z | z
   ·exact z
   ·rw [z] at hk;cases hk
  obtain ⟨c,hc⟩:=I.ok.has x (.inl hk)
  obtain ⟨w',z⟩:=I.cell x c hc
  refine wpAny_storeName_cell I.ok.kind hk hc z (λh' hc' hs=>?_)
  obtain ⟨oc,hoc,hocd⟩:=id z
  refine h { s with heap:=h' } ⟨I.ok,I.os,I.bare,⟨λb o e n hb hx=>?_,λb o e n hb hx=>?_,I.base.free,λb o e hx=>?_,I.base.tups,I.base.frzs,I.base.tbls⟩,⟨m,hn.sameBut hs (Ne.symm (cne x c hc)),λj y v' e1 e2 e3=>?_⟩,λy c' e=>?_,I.free,I.freeC,λp hp=>?_,tracked ⟨oc,hoc,I.freeC x c hc⟩ hs,by simpa using I.len⟩ ⟨c,hs,.inr hc⟩
  ·exact (hs.2 b (Nat.ne_of_lt (Nat.lt_of_lt_of_le (Heap.lt_size e) (I.ok.cab x c hfn hc)))).trans (I.base.keep b o e n hb hx)
  ·obtain ⟨sl,e1⟩:=I.base.slot b o e n hb hx
   exact ⟨sl,(hs.2 b (Nat.ne_of_lt (Nat.lt_of_lt_of_le (Heap.lt_size e) (I.ok.cab x c hfn hc)))).trans e1⟩
  ·obtain ⟨o',e1⟩:=I.base.there b o e hx
   exact ⟨o',(hs.2 b (Nat.ne_of_lt (Nat.lt_of_lt_of_le (Heap.lt_size e) (I.ok.cab x c hfn hc)))).trans e1⟩
  ·by_cases hj:j=i
   ·subst hj
    rw [hi] at e1;cases e1
    rw [List.getElem?_set_self hiσ] at e2
    cases e2
    exact ⟨u,r,.inr ⟨.inl hk,c,hc,hc'⟩⟩
   ·rw [List.getElem?_set_ne (Ne.symm hj)] at e2
    obtain ⟨u',r',q⟩:=hl j y v' e1 e2 e3
    refine ⟨u',r',?_⟩
    rcases q with q | ⟨k,c',e,z'⟩
    ·exact .inl q
    ·refine .inr ⟨k,c',e,z'.sameBut hs ?_⟩
     rintro rfl
     exact hj (Qct hN e1 (I.ok.inj _ _ _ e hc ▸ hi))
  ·by_cases hcc:c'=c
   ·subst hcc;exact ⟨_,hc'⟩
   ·obtain ⟨w2,z2⟩:=I.cell y c' e
    exact ⟨w2,z2.sameBut hs hcc⟩
  ·obtain ⟨e,n,ne,nf,d⟩:=I.pin p hp
   refine ⟨(hs.2 p.1 ?_).trans e,n,ne,nf,d⟩
   intro q
   rw [q,hoc] at e
   have q':oc=p.2:=Option.some.inj e
   exact d w' (by rw [← q'];exact hocd)
theorem Qck {M:Model} (I:Inv X pins σ H s) (hN:X.N.Nodup) (hi:X.N[i]? = some x) (hx:Loc X.env.scope x) (r:RelV v u)
  (h:∀s',Inv X pins (σ.set i (some v)) H s'->Q () s') (hf:X.fn x=true\/X.env.scope.names.lookup x=some .local:=by first | exact .inl rfl | exact .inr rfl | assumption):wpAny M A (storeName X.env x u) Q E s :=
 Qd4 I hN hi hx r (λs' I' _=>h s' I') hf
theorem Inv.call' (I:Inv X pins σ H s) (ho:s'.os=s.os) (u:Un (frs X.stack) ch H H' s.heap s'.heap) (hok:HOk X.prog X.w H' s'.heap) (hg:AllBare s'.gens)
  (hch:∀b∈ch,(b∈X.ex\/X.s₀.heap.objs.size<=b)/\b≠X.env.locals/\(∀x c,X.env.cells.lookup x=some c->c≠b)/\∀p∈X.pn++pins,p.1≠b):Inv X pins σ H' s':=by
 obtain ⟨h',g',d',t',o'⟩:=s'
 have e:o'=s.os:=ho
 subst e
 exact I.call (g':=g') (t':=t') (d':=d') u hok hg hch
end
abbrev XK:=Value->Option Addr->Hp->Prop
abbrev St:=List (Option V)
abbrev VK:=V->Hp->Prop
abbrev TE:=St->Hp->VK->Prop
abbrev TT:=St->Hp->(Bool->Hp->Prop)->Prop
abbrev TA:=St->Hp->(List V->Hp->Prop)->Prop
structure Ends where
 nx:St->Hp->Prop
 rt:VK
 bk:St->Hp->Prop:=λ_ _=>False
 ct:St->Hp->Prop:=λ_ _=>False
abbrev TS:=Ends->St->Hp->Prop
end L2
variable {xs ys:List L2.V} {e c:PySem.Expr} {Q:PySem.Value->PySem.Shared->Prop} {pos:PySem.Pos} {σ:L2.St} {y:L2.V} {K:PySem.W.Frag} {f:PySem.Value->PySem.Value->PySem.Sem PySem.Value} {st:PySem.Stmt} {te ta tb:L2.TE} {rest:List PySem.Expr}
namespace L2
open PySem PySem.Spec PyProof.Rows
def EP (X:Cx) (pins:List (Addr × Obj)) (σ:St) (Q:VK) (u:Value) (s':Shared):Prop:=∃v H',Inv X pins σ H' s'/\RelV v u/\Q v H'
def TP (X:Cx) (pins:List (Addr × Obj)) (σ:St) (Q:Bool->Hp->Prop) (b:Bool) (s':Shared):Prop:=∃H',Inv X pins σ H' s'/\Q b H'
def AP (X:Cx) (pins:List (Addr × Obj)) (σ:St) (Q:List V->Hp->Prop) (us:List Value) (s':Shared):Prop:=∃vs H',Inv X pins σ H' s'/\Vals vs us/\Q vs H'
def SP (X:Cx) (pins:List (Addr × Obj)) (D:Ends) (f:Flow) (s':Shared):Prop :=
 match f with
 | .next=>∃σ' H',Inv X pins σ' H' s'/\D.nx σ' H'
 | .brk=>∃σ' H',Inv X pins σ' H' s'/\D.bk σ' H'
 | .cont=>∃σ' H',Inv X pins σ' H' s'/\D.ct σ' H'
 | .ret u=>∃v σ' H',Inv X pins σ' H' s'/\RelV v u/\D.rt v H'
def PE (X:Cx) (e:Expr) (t:TE):Prop :=
 ∀(pins:List (Addr × Obj)) (s:Shared) (σ:St) (H:Hp) (Q:VK),Inv X pins σ H s->t σ H Q->wpAny (model X.prog X.w) X.A (eval e X.env) (EP X pins σ Q) X.xe s
def PT (X:Cx) (e:Expr) (t:TT):Prop :=
 ∀(pins:List (Addr × Obj)) (s:Shared) (σ:St) (H:Hp) (Q:Bool->Hp->Prop),Inv X pins σ H s->t σ H Q->wpAny (model X.prog X.w) X.A (isTrue e X.env (eval e X.env)) (TP X pins σ Q) X.xe s
def PW (X:Cx) (e:Expr) (t:TT):Prop :=
 ∀(whole:Sem Value) (pins:List (Addr × Obj)) (s:Shared) (σ:St) (H:Hp) (Q:Bool->Hp->Prop),Inv X pins σ H s->t σ H Q->wpAny (model X.prog X.w) X.A (isTrue e X.env whole) (TP X pins σ Q) X.xe s
theorem PW.pt {t:TT} (h:PW X e t):PT X e t:=h _
def PA (X:Cx) (es:List Expr) (t:TA):Prop :=
 ∀(pos:Pos) (pins:List (Addr × Obj)) (s:Shared) (σ:St) (H:Hp) (Q:List V->Hp->Prop),Inv X pins σ H s->t σ H Q->wpAny (model X.prog X.w) X.A (spliced (backTo pos (starEach es X.env))) (AP X pins σ Q) X.xe s
def PS (X:Cx) (st:Stmt) (t:TS):Prop :=
 ∀(pins:List (Addr × Obj)) (s:Shared) (σ:St) (H:Hp) (D:Ends),Inv X pins σ H s->t D σ H->wpAny (model X.prog X.w) X.A (exec st X.env) (SP X pins D) X.xe s
def PSs (X:Cx) (st:List Stmt) (t:TS):Prop :=
 ∀(pins:List (Addr × Obj)) (s:Shared) (σ:St) (H:Hp) (D:Ends),Inv X pins σ H s->t D σ H->wpAny (model X.prog X.w) X.A (execs st X.env) (SP X pins D) X.xe s
theorem thn {α:Type} {t:Sem α} {Q Q':α->Shared->Prop} {M:Model} (h:wpAny M A t Q E s) (hQ:∀a s,Q a s->Q' a s):wpAny M A t Q' E s:=wpAny_mono h hQ λ_ _ x=>x
def tVar (i:Nat):TE:=λσ H Q=>∃v,σ[i]? = some (some v)/\Q v H
def tC (v:V):TE:=λ_ H Q=>Q v H
theorem Zh (hN:X.N[i]? = some x) (hv:Vis X.env.scope x) (hd:(x == ("__debug__" : Str))=false:=by decide) (hcd:(x == ("__classdict__" : Str))=false:=by decide):PE X (.Name x pos) (tVar i):=by
 intro pins s σ H Q I h
 obtain ⟨v,e,h⟩:=h
 obtain ⟨m,hn,hl⟩:=I.loc
 obtain ⟨u,r,l⟩:=hl i x v hN e hv
 have fin:EP X pins σ Q u s:=⟨v,H,I,r,h⟩
 rcases l with ⟨hk,hm⟩ | ⟨hk,c,hc,hcell⟩
 ·exact wpAny_Name (wpAny_loadName_local I.ok.kind hk hn hm fin) hd
 ·rcases hk with hk | hk
  ·exact wpAny_Name (wpAny_loadName_cell I.ok.kind hk hc hcell fin) hd
  ·exact wpAny_Name (wpAny_loadName_free I.ok.kind hk hc hcell fin hcd) hd
theorem Qjg {i j pos}:PE X (.Constant (.int i) j pos) (tC (.int i)):=λ_ _ _ H _ I h=>wpAny_Constant_int ⟨.int i,H,I.tok _,⟨_,rfl⟩,h⟩
theorem Qpx {b j pos}:PE X (.Constant (.bool b) j pos) (tC (.bl b)):=λ_ _ _ H _ I h=>Constant_bool ⟨.bl b,H,I,rfl,h⟩
theorem Qjf {x j pos}:PE X (.Constant (.str x) j pos) (tC (.str x)):=λ_ _ _ H _ I h=>Calls.Constant_str ⟨.str x,H,I.tok _,⟨_,rfl⟩,h⟩
def Gl (X:Cx) (x:Str):Prop:=X.env.kindOf x=some .globalImplicit
theorem X3 (I:Inv X pins σ H s) (hg:Gl X x) (hm:X.mg x=some u) (h:Q u s)
  (hd:(x == ("__debug__" : Str))=false:=by decide):wpAny (model X.prog X.w) X.A (eval (.Name x pos) X.env) Q E s :=
 Calls.Name_function_global I.ok.kind hg (Calls.loadGlobal_global (by rw [I.ok.glob];exact I.mod.glob.keeps I.bk) hm h) hd
theorem Qfp (I:Inv X pins σ H s) (hg:Gl X x) (hm:X.mg x=none) (hv:bootBuiltins x=some u) (h:Q u s)
  (hn:x ≠ "__name__":=by decide) (hd:(x == ("__debug__" : Str))=false:=by decide):wpAny (model X.prog X.w) X.A (eval (.Name x pos) X.env) Q E s:=by
 obtain ⟨mb,h1,h2⟩:=I.mod.blt
 exact Calls.Name_function_global I.ok.kind hg (Calls.loadGlobal_builtin (by rw [I.ok.glob];exact I.mod.glob.keeps I.bk) hm (by rw [I.ok.blt];exact h1.keeps I.bk) ((h2 x hn).trans hv) h) hd
theorem Qfg (hg:Gl X x) (hm:X.mg x=some u) (r:RelV v u) (hd:(x == ("__debug__" : Str))=false:=by decide):PE X (.Name x pos) (tC v) :=
 λ_ _ _ H _ I h=>X3 I hg hm ⟨v,H,I,r,h⟩ hd
theorem Qkn (hg:Gl X x) (hm:X.mg x=none) (hv:bootBuiltins x=some u) (r:RelV v u) (hn:x ≠ "__name__":=by decide) (hd:(x == ("__debug__" : Str))=false:=by decide):PE X (.Name x pos) (tC v) :=
 λ_ _ _ H _ I h=>Qfp I hg hm hv ⟨v,H,I,r,h⟩ hn hd
section
variable {a b:Expr} {tA tB':TT}
def tAnd (t u:TT):TT:=λσ H Q=>t σ H λc H1=>if c=true then u σ H1 Q else Q false H1
def tOr (t u:TT):TT:=λσ H Q=>t σ H λc H1=>if c=true then Q true H1 else u σ H1 Q
def tNot (t:TT):TT:=λσ H Q=>t σ H λc H1=>Q (!c) H1
theorem Qkf (ha:PT X a tA):PW X (.BoolOp .And [a] pos) tA:=by
 intro wh pins s σ H Q I h
 refine isTrue_and (thn (ha pins s σ H Q I h) λc s1 e=>?_)
 cases c with
 | true=>exact isTrue_and_nil e
 | false=>exact e
theorem Qmz (ha:PT X a tA):PW X (.BoolOp .Or [a] pos) tA:=by
 intro wh pins s σ H Q I h
 refine isTrue_or (thn (ha pins s σ H Q I h) λc s1 e=>?_)
 cases c with
 | false=>exact isTrue_or_nil e
 | true=>exact e
theorem Qm0 (ha:PT X a tA) (hb:PW X (.BoolOp .And (b::rest) pos) tB'):PW X (.BoolOp .And (a::b::rest) pos) (tAnd tA tB'):=by
 intro wh pins s σ H Q I h
 refine isTrue_and (thn (ha pins s σ H _ I h) λc s1 ⟨H1,I1,q1⟩=>?_)
 cases c with
 | true=>exact hb wh pins s1 σ H1 Q I1 q1
 | false=>exact ⟨H1,I1,q1⟩
theorem Qpp (ha:PT X a tA) (hb:PW X (.BoolOp .Or (b::rest) pos) tB'):PW X (.BoolOp .Or (a::b::rest) pos) (tOr tA tB'):=by
 intro wh pins s σ H Q I h
 refine isTrue_or (thn (ha pins s σ H _ I h) λc s1 ⟨H1,I1,q1⟩=>?_)
 cases c with
 | true=>exact ⟨H1,I1,q1⟩
 | false=>exact hb wh pins s1 σ H1 Q I1 q1
theorem Qm1 (ha:PT X a tA):PT X (.UnaryOp .Not a pos) (tNot tA):=by
 intro pins s σ H Q I h
 exact isTrue_not (ha pins s σ H (λc H1=>Q (!c) H1) I h)
def tOrV (ta tb:TE):TE:=λσ H Q=>ta σ H λx H1=>∃c,x=.bl c/\if c=true then Q (.bl true) H1 else tb σ H1 Q
theorem Qm9 {op} {t:TE} (h:PE X a t):PE X (.BoolOp op [a] pos) t:=λpins s σ H Q I hw=>BoolOp_one (h pins s σ H Q I hw)
theorem Qpv (ha:PE X a ta) (hb:PE X (.BoolOp .Or (b::rest) pos) tb):PE X (.BoolOp .Or (a::b::rest) pos) (tOrV ta tb):=by
 intro pins s σ H Q I h
 refine BoolOp_or (thn (ha pins s σ H _ I h) λv s1 ⟨x,H1,I1,r1,q1⟩=>?_)
 obtain ⟨c,rfl,q1⟩:=q1
 cases r1
 refine wpAny_truthy_bool ?_
 cases c with
 | false=>exact hb pins s1 σ H1 Q I1 q1
 | true=>exact ⟨.bl true,H1,I1,rfl,q1⟩
end
def SqL (K:PySem.W.Frag) (H:Hp) (a:Addr) (xs:List V):Prop :=
 Rd H a (.lst xs) \/
  ∃(o:Obj) (its:Array Value) (n:Nat),K.lookup a=some o/\o.cls=.type "list" /\ o.dict=none/\o.data=.seq its n/\its.size<=sizeLine/\Vals xs its.toList
def SqT (K:PySem.W.Frag) (H:Hp) (a:Addr) (xs:List V):Prop :=
 Rd H a (.tup xs) \/
  ∃(o:Obj) (its:Array Value) (n:Nat),K.lookup a=some o/\o.cls=.type "tuple" /\ o.data=.seq its n/\its.size<=sizeLine/\Vals xs its.toList
def absV:Value->Option V
 | .none=>some .non
 | .bool b=>some (.bl b)
 | .int i _=>some (.int i)
 | .str x _=>some (.str x)
 | .bytes b _=>some (.byt b)
 | .float b _=>some (.flt b)
 | .ref a=>some (.ref a)
 | .type n=>some (.ty n)
 | _=>none
theorem RelV.abs {x:V} (r:RelV x u):absV u=some x:=by
 cases x with
 | non=>cases r;rfl
 | bl _=>cases r;rfl
 | int _=>obtain ⟨t,rfl⟩:=r;rfl
 | str _=>obtain ⟨t,rfl⟩:=r;rfl
 | byt _=>obtain ⟨t,rfl⟩:=r;rfl
 | flt _=>obtain ⟨t,rfl⟩:=r;rfl
 | ref _=>cases r;rfl
 | ty _=>cases r;rfl
theorem RelV.inj {x:V} (r:RelV x u) (q:RelV y u):x=y:=Option.some.inj (r.abs.symm.trans q.abs)
theorem Vals.inj:∀{xs ys:List V} {us:List Value},Vals xs us->Vals ys us->xs=ys
 | _,_,_,.nil,.nil=>rfl
 | _,_,_,.cons r t,.cons r' t'=>by rw [r.inj r',Vals.inj t t']
theorem SqL.of (h:H a=some (.lst xs)):SqL K H a xs:=.inl (.inl h)
theorem SqT.of (h:H a=some (.tup xs)):SqT K H a xs:=.inl (.inl h)
theorem Inv.list (I:Inv X pins σ H s) (h:SqL X.K H a xs):∃its:List Value,Vals xs its/\PlainL s.heap a its.toArray/\xs.length<=sizeLine:=by
 rcases h with h | ⟨o,its,n,hk,hc,hd,hs,hz,r⟩
 ·obtain ⟨z,its,n,r,e⟩:=h.ok I.hok
  exact ⟨its,r,⟨_,n,e,rfl,rfl,rfl⟩,z⟩
 ·refine ⟨its.toList,r,⟨o,n,I.kIn a o hk,hc,hd,by simpa using hs⟩,?_⟩
  have e:=r.length
  simp only [Array.length_toList] at e
  omega
theorem Inv.tuple (I:Inv X pins σ H s) (h:SqT X.K H a xs):∃its:List Value,Vals xs its/\IsTup s.heap a its.toArray/\xs.length<=sizeLine:=by
 rcases h with h | ⟨o,its,n,hk,hc,hs,hz,r⟩
 ·obtain ⟨z,its,r,p⟩:=h.ok I.hok
  exact ⟨its,r,p,z⟩
 ·refine ⟨its.toList,r,⟨o,I.kIn a o hk,hc,n,by simpa using hs⟩,?_⟩
  have e:=r.length
  simp only [Array.length_toList] at e
  omega
theorem Inv.list_inj (I:Inv X pins σ H s) (h:SqL X.K H a xs) (h':SqL X.K H a ys):xs=ys:=by
 obtain ⟨its,r,⟨o,n,e,_,_,d⟩,_⟩:=I.list h
 obtain ⟨its',r',⟨o',n',e',_,_,d'⟩,_⟩:=I.list h'
 rw [e] at e';cases e'
 rw [d] at d'
 injection d' with d1 _
 have:its=its':=by simpa using congrArg Array.toList d1
 subst this
 exact r.inj r'
theorem Inv.tuple_inj (I:Inv X pins σ H s) (h:SqT X.K H a xs) (h':SqT X.K H a ys):xs=ys:=by
 obtain ⟨its,r,⟨o,e,_,n,d⟩,_⟩:=I.tuple h
 obtain ⟨its',r',⟨o',e',_,n',d'⟩,_⟩:=I.tuple h'
 rw [e] at e';cases e'
 rw [d] at d'
 injection d' with d1 _
 have:its=its':=by simpa using congrArg Array.toList d1
 subst this
 exact r.inj r'
abbrev Cx.wish (X:Cx) (E:Value->Shared->Prop):Cx:={ X with xe:=E }
abbrev Cx.nox (X:Cx):Cx:=X.wish λ_ _=>False
theorem Cx.Ok.wish (ok:X.Ok) (E:Value->Shared->Prop):(X.wish E).Ok :=
 ⟨ok.mod,ok.kind,ok.glob,ok.blt,ok.above,ok.inj,ok.has,ok.cab,ok.hd,ok.frames,ok.stk,ok.exf,ok.bs,ok.bsz,ok.noex,ok.exfs,ok.funs,ok.frf⟩
theorem Cx.Ok.unwish (ok:(X.wish E).Ok):X.Ok :=
 ⟨ok.mod,ok.kind,ok.glob,ok.blt,ok.above,ok.inj,ok.has,ok.cab,ok.hd,ok.frames,ok.stk,ok.exf,ok.bs,ok.bsz,ok.noex,ok.exfs,ok.funs,ok.frf⟩
theorem Inv.wish (I:Inv X pins σ H s) (E:Value->Shared->Prop):Inv (X.wish E) pins σ H s:=⟨I.ok.wish E,I.os,I.bare,I.base,I.loc,I.cell,I.free,I.freeC,I.pin,I.hok,I.len⟩
theorem Inv.unwish (I:Inv (X.wish E) pins σ H s):Inv X pins σ H s:=⟨I.ok.unwish,I.os,I.bare,I.base,I.loc,I.cell,I.free,I.freeC,I.pin,I.hok,I.len⟩
theorem SP.unwish {D:Ends} {f:Flow} (h:SP (X.wish E) pins D f s'):SP X pins D f s':=by
 cases f with
 | next=>obtain ⟨σ',H',I,q⟩:=h;exact ⟨σ',H',I.unwish,q⟩
 | brk=>obtain ⟨σ',H',I,q⟩:=h;exact ⟨σ',H',I.unwish,q⟩
 | cont=>obtain ⟨σ',H',I,q⟩:=h;exact ⟨σ',H',I.unwish,q⟩
 | ret u=>obtain ⟨v,σ',H',I,r,q⟩:=h;exact ⟨v,σ',H',I.unwish,r,q⟩
theorem PE.nox {t:TE} (h:PE X.nox e t):PE X e t:=λpins s σ H Q I hw =>
 wpAny_mono (h pins s σ H Q (I.wish _) hw) (λ_ _ ⟨v,H',I',r,q⟩=>⟨v,H',I'.unwish,r,q⟩) λ_ _ z=>False.elim z
theorem PSs.nox {st:List Stmt} {t:TS} (h:PSs X.nox st t):PSs X st t:=λpins s σ H D I hw =>
 wpAny_mono (h pins s σ H D (I.wish _) hw) (λ_ _ q=>q.unwish) λ_ _ z=>False.elim z
section
variable {rest:List Stmt} {t u:TS}
def Qpd:TS:=λD σ H=>D.nx σ H
def tSeq (t u:TS):TS:=λD σ H=>t { D with nx:=u D } σ H
theorem Qkh:PSs X [] Qpd:=λ_ _ σ H _ I h=>wpAny_execs_nil ⟨σ,H,I,h⟩
theorem Xz (h1:PS X st t) (h2:PSs X rest u):PSs X (st::rest) (tSeq t u):=by
 intro pins s σ H D I h
 refine wpAny_execs_cons (thn (h1 pins s σ H { D with nx:=u D } I h) λf s1 q=>?_)
 cases f with
 | next =>
  obtain ⟨σ',H',I',q⟩:=q
  exact h2 pins s1 σ' H' D I' q
 | ret v=>exact q
 | brk=>exact q
 | cont=>exact q
theorem Gi (h1:PS X st t):PSs X [st] t:=by
 intro pins s σ H D I h
 refine wpAny_execs_cons (thn (h1 pins s σ H D I h) λf s1 q=>?_)
 cases f with
 | next=>exact wpAny_execs_nil q
 | ret v=>exact q
 | brk=>exact q
 | cont=>exact q
theorem Inv.quiet (I:Inv X pins σ H s):interactive X.env=false:=by simp [interactive,I.ok.kind]
def Qpf (te:TE):TS:=λD σ H=>te σ H λ_ H1=>D.nx σ H1
theorem Qfa (he:PE X e te) (hs:swapsWith e none pos.line X.env=pure false:=by rfl):PS X (.Expr e pos) (Qpf te):=by
 intro pins s σ H D I h
 exact wpAny_Expr_any (thn (he pins s σ H _ I h) λv s1 ⟨x,H1,I1,r1,q1⟩=>⟨σ,H1,I1,q1⟩) I.quiet hs
def tRet (te:TE):TS:=λD σ H=>te σ H D.rt
theorem Qm3 (he:PE X e te):PS X (.Return (some e) pos) (tRet te):=by
 intro pins s σ H D I h
 exact wpAny_Return_some (thn (he pins s σ H _ I h) λv s1 ⟨x,H1,I1,r1,q1⟩=>⟨x,σ,H1,I1,r1,q1⟩)
def tIfS (c:TT) (t u:TS):TS:=λD σ H=>c σ H λb H1=>if b=true then t D σ H1 else u D σ H1
theorem Qpr {a b:List Stmt} {tc:TT} (hc:PT X c tc) (ha:PSs X a t) (hb:PSs X b u):PS X (.If c a b pos) (tIfS tc t u):=by
 intro pins s σ H D I h
 refine wpAny_If (thn (hc pins s σ H _ I h) λd s1 ⟨H1,I1,q1⟩=>?_)
 cases d with
 | true=>exact ha pins s1 σ H1 D I1 q1
 | false=>exact hb pins s1 σ H1 D I1 q1
end
abbrev TG:=V->St->Hp->(St->Hp->Prop)->Prop
def PG (X:Cx) (target:Expr) (t:TG):Prop :=
 ∀(pins:List (Addr × Obj)) (s:Shared) (σ:St) (H:Hp) (v:V) (u:Value) (Q:St->Hp->Prop),Inv X pins σ H s->RelV v u->t v σ H Q ->
  wpAny (model X.prog X.w) X.A (assign target X.env u) (λ_ s'=>∃σ' H',Inv X pins σ' H' s'/\Q σ' H') X.xe s
abbrev TSet:=V->V->V->Hp->(Hp->Prop)->Prop
end L2
variable {o:PySem.Obj} {to:L2.TE} {tg:PySem.Expr} {g:L2.TG} {pos':PySem.Pos}
namespace L2
open PySem PySem.Spec PyProof.Rows
def PSet (X:Cx) (t:TSet):Prop :=
 ∀(pins:List (Addr × Obj)) (s:Shared) (σ:St) (H:Hp) (o i v:V) (ov iv u:Value) (Q:Hp->Prop),Inv X pins σ H s->RelV o ov->RelV i iv->RelV v u->t o i v H Q ->
  wpAny (model X.prog X.w) X.A (setItem ov iv u) (λ_ s'=>∃H',Inv X pins σ H' s'/\Q H') X.xe s
def Qk8 (i:Nat):TG:=λv σ H Q=>Q (σ.set i (some v)) H
theorem Qfe (hN:X.N.Nodup) (hi:X.N[i]? = some x) (hx:Loc X.env.scope x) (hf:X.fn x=true\/X.env.scope.names.lookup x=some .local:=by first | exact .inl rfl | exact .inr rfl | assumption):PG X (.Name x pos) (Qk8 i):=by
 intro pins s σ H v u Q I r h
 exact wpAny_assign_Name (Qck I hN hi hx r (λs' I'=>⟨_,H,I',h⟩) hf)
def gSub (to ti:TE) (t:TSet):TG:=λv σ H Q=>to σ H λo H1=>ti σ H1 λi H2=>t o i v H2 λH3=>Q σ H3
theorem Qm7 {o i:Expr} {ti:TE} {t:TSet} (ho:PE X o to) (hi:PE X i ti) (hs:PSet X t)
  (ha:∀v,assign (.Subscript o i pos) X.env v=(do
   let ov ← holding [v] (eval o X.env)
   let iv ← holding [v,ov] (eval i X.env)
   standAt pos
   holding [v,ov,iv] (setItem ov iv v)
   release [v,ov,iv] []):=by intro _;rfl):PG X (.Subscript o i pos) (gSub to ti t):=by
 intro pins s σ H v u Q I r h
 rw [ha]
 refine wpAny_bind (wpAny_holding (thn (ho pins s σ H _ I h) λov s1 ⟨x,H1,I1,r1,q1⟩=>?_))
 refine wpAny_bind (wpAny_holding (thn (hi pins s1 σ H1 _ I1 q1) λiv s2 ⟨y,H2,I2,r2,q2⟩=>?_))
 refine wpAny_bind (wpAny_standAt (wpAny_bind (wpAny_holding (thn (hs pins s2 σ H2 x y v ov iv u _ I2 r1 r2 r q2) λ_ s3 ⟨H3,I3,q3⟩=>?_))))
 exact wpAny_release ⟨σ,H3,I3,q3⟩
def tAsg (te:TE) (g:TG):TS:=λD σ H=>te σ H λx H1=>g x σ H1 D.nx
theorem Qm5 (he:PE X e te) (hg:PG X tg g) (hs:swapsWithSole [tg] e pos.line X.env=pure false:=by rfl) (hw:swappedStores [tg] e X.env=pure none:=by rfl)
  (h1:(assignEach [tg] X.env).map (·.2)=[assign tg X.env]:=by rfl):PS X (.Assign [tg] e pos) (tAsg te g):=by
 intro pins s σ H D I h
 refine wpAny_Assign_stores (thn (he pins s σ H _ I h) λv s1 ⟨x,H1,I1,r1,q1⟩=>?_) hs hw
 rw [h1]
 exact thn (hg pins s1 σ H1 x v _ I1 r1 q1) λ_ s2 q=>q
theorem Qm2 (hN:X.N.Nodup) (hi:X.N[i]? = some x) (hx:Loc X.env.scope x) (he:PE X e te) (hs:swapsWith e (some (.Name x pos')) pos.line X.env=pure false:=by rfl) (hf:X.fn x=true\/X.env.scope.names.lookup x=some .local:=by first | exact .inl rfl | exact .inr rfl | assumption) :
  PS X (.Assign [.Name x pos'] e pos) (tAsg te (Qk8 i)):=by
 intro pins s σ H D I h
 refine wpAny_Assign_Name (thn (he pins s σ H _ I h) λv s1 ⟨y,H1,I1,r1,q1⟩=>?_) hs
 exact Qck I1 hN hi hx r1 (λs2 I2=>⟨_,H1,I2,q1⟩) hf
structure It where
 go:Nat->Hp->Prop
 yld:Nat->Hp->V->Hp->Prop
 stop:Nat->Hp->Prop
def FpOk (X:Cx) (pins:List (Addr × Obj)) (H:Hp) (b:Addr):Prop :=
 H b=none/\b≠X.env.locals/\b∉X.fs/\(b∈X.ex\/X.s₀.heap.objs.size<=b)/\(∀x c,X.env.cells.lookup x=some c->c≠b)/\∀p∈X.pn++pins,p.1≠b
theorem Inv.fpOk (I:Inv X pins σ H s) (hb:s.heap.objs.size<=b) (hn:H' b=none):FpOk X pins H' b:=by
 refine ⟨hn,Nat.ne_of_gt (Nat.lt_of_lt_of_le I.lt hb),I.nofs hb,.inr (Nat.le_trans I.sz hb),λx c e z=>?_,λp hp z=>?_⟩
 ·obtain ⟨v,q⟩:=I.cell x c e
  exact absurd (Nat.lt_of_lt_of_le q.lt (by rw [z];exact hb)) (Nat.lt_irrefl _)
 ·exact absurd (Nat.lt_of_lt_of_le (Heap.lt_size (I.pin p hp).1) (by rw [z];exact hb)) (Nat.lt_irrefl _)
structure Turn (P:Program) (w:World) (K:PySem.W.Frag) (tg:Expr) (J:It) (fp:List Addr) (it:Addr) (tn:Nat->Heap->Prop):Prop where
 mem:it∈fp
 obj:∀i h,tn i h->∀b∈fp,∃o,h.get? b=some o/\∀v,o.data ≠ .cell v
 keep:∀i h h',tn i h->(∀b∈fp,∀o,h.get? b=some o->h'.get? b=some o)->tn i h'
 item:∀(X:Cx),X.prog=P->X.w=w->X.K=K->X.calm=true->∀(i:Nat) (pins:List (Addr × Obj)) (s:Shared) (σ:St) (H:Hp) (E:Value->Shared->Prop),Inv X pins σ H s->(∀b∈fp,FpOk X pins H b)->tn i s.heap->J.go i H ->
  wpAny (model P w) X.A (pyNext (.ref it)) (λr s1=>∃u,r=some u /\
   wpAny (model P w) X.A (letOwnedTupleGo tg (.ref it) u) (λ_ s2=>∃x H',Inv X pins σ H' s2/\RelV x u/\J.yld i H x H'/\tn (i+1) s2.heap/\∀b∈fp,H' b=none) E s1) E s
 done:∀(X:Cx),X.prog=P->X.w=w->X.K=K->X.calm=true->∀(i:Nat) (pins:List (Addr × Obj)) (s:Shared) (σ:St) (H:Hp) (E:Value->Shared->Prop),Inv X pins σ H s->(∀b∈fp,FpOk X pins H b)->tn i s.heap->J.stop i H ->
  wpAny (model P w) X.A (pyNext (.ref it)) (λr s1=>r=none/\Inv X pins σ H s1) E s
 self:∀(A:Around) (i:Nat) (s:Shared) (Q:Value->Shared->Prop) (E:Value->Shared->Prop),tn i s.heap->Q (.ref it) s->wpAny (model P w) A (pyIter (.ref it)) Q E s
abbrev TI:=St->Hp->(It->Hp->Prop)->Prop
end L2
variable {n:Nat} {vs:List L2.V} {R:PySem.Result->PySem.Shared->Prop} {lo hi:Option Int} {p:PySem.Pos} {fp:List PySem.Addr} {pl:PySem.Sem Bool} {iter:PySem.Expr} {body:List PySem.Stmt} {wi:L2.TI}
namespace L2
open PySem PySem.Spec PyProof.Rows
def PIE (X:Cx) (pins:List (Addr × Obj)) (σ:St) (tg:Expr) (R:It->Hp->Prop) (itv:Value) (s2:Shared):Prop :=
 ∃(it:Addr) (fp:List Addr) (tn:Nat->Heap->Prop) (J:It) (H':Hp),itv=.ref it/\Inv X pins σ H' s2/\Turn X.prog X.w X.K tg J fp it tn/\tn 0 s2.heap/\(∀b∈fp,FpOk X pins H' b)/\R J H'
def PI (X:Cx) (tg iter:Expr) (wi:TI):Prop :=
 ∀(pins:List (Addr × Obj)) (s:Shared) (σ:St) (H:Hp) (R:It->Hp->Prop),Inv X pins σ H s->wi σ H R ->
  wpAny (model X.prog X.w) X.A (eval iter X.env) (λv s1=>wpAny (model X.prog X.w) X.A (pyIter v) (PIE X pins σ tg R) X.xe s1) X.xe s
theorem Qk5 {M:Model} {n:String} {vs:Array Value} {Q:Unit->Shared->Prop} (ho:s.heap.get? it=some o) (hc:o.cls=.type n) (hd:o.data=.fields vs)
    (hn:["enumerate","zip","dict_itemiterator","dict_reverseitemiterator","odict_iterator","itertools.zip_longest","itertools.pairwise"].contains n=false) (hQ:Q () s):wpAny M A (letOwnedTupleGo tg (.ref it) u) Q E s:=by
  unfold letOwnedTupleGo
  cases tg <;> first
    | exact wpAny_pure hQ
    | (cases u <;> first
        | exact wpAny_pure hQ
        | (refine wpAny_bind (wpAny_load ho ?_)
           rw [hc,hd]
           show wpAny M A (if (["enumerate","zip","dict_itemiterator","dict_reverseitemiterator","odict_iterator","itertools.zip_longest","itertools.pairwise"].contains n && vs[0]? == some (rawInt _))=true then _ else _) Q E s
           rw [if_neg (by intro h;rw [hn,Bool.false_and] at h;cases h)]
           exact wpAny_pure hQ))
def Itl (K:PySem.W.Frag) (a:Addr):It :=
 ⟨λi H=>∃xs x,SqL K H a xs/\xs[i]? = some x,λi H x H'=>H'=H/\∀xs,SqL K H a xs->xs[i]? = some x,λi H=>∃xs,SqL K H a xs/\xs.length<=i⟩
def Itt (K:PySem.W.Frag) (a:Addr):It :=
 ⟨λi H=>∃xs x,SqT K H a xs/\xs[i]? = some x,λi H x H'=>H'=H/\∀xs,SqT K H a xs->xs[i]? = some x,λi H=>∃xs,SqT K H a xs/\xs.length<=i⟩
def Itr (lo:Int) (n:Nat):It:=⟨λi _=>i<n,λi H x H'=>H'=H/\x=.int (lo+i),λi _=>n<=i⟩
theorem Qdz (a it:Addr):Turn P w K tg (Itl K a) [it] it (λi h=>h.IsListIter it a i) where
 mem:=by simp
 obj:=λi h st b hb=>by
  have e:b=it:=by simpa using hb
  subst e
  obtain ⟨o,e,c,d⟩:=st
  exact ⟨o,e,λv z=>by rw [d] at z;cases z⟩
 keep:=λi h h' st k=>st.at λo e=>k it (by simp) o e
 item:=by
  intro X hP hw hK hc i pins s σ H E I hf st hg
  subst hP hw hK
  obtain ⟨xs,x,hq,hx⟩:=hg
  obtain ⟨its,rv,p,hz⟩:=I.list hq
  obtain ⟨u,hu,ru⟩:=rv.get hx
  obtain ⟨f0,f1,f2,f3,f4,f5⟩:=hf it (by simp)
  refine wpAny_pyNext_list_item st p.isList (x:=u) (by simpa using hu) λh' st' sb=>?_
  have I1:Inv X pins σ H { s with heap:=h' }:=I.turned (t':=s.toks) (λb o hb e=>(sb.2 b hb).trans e) f0 f1 f3 f4 f5
  obtain ⟨o,e,c,d⟩:=id st'
  exact ⟨u,rfl,Qk5 (s:={ s with heap:=h' }) e c d (by decide) ⟨x,H,I1,ru,⟨rfl,λys hy=>by rw [I.list_inj hy hq];exact hx⟩,st',λb hb=>(hf b hb).1⟩⟩
 done:=by
  intro X hP hw hK hc i pins s σ H E I hf st hg
  subst hP hw hK
  obtain ⟨xs,hq,hx⟩:=hg
  obtain ⟨its,rv,p,hz⟩:=I.list hq
  obtain ⟨f0,f1,f2,f3,f4,f5⟩:=hf it (by simp)
  have hl:=rv.length
  exact wpAny_pyNext_list_end (I.ok.hd hc) st p.isList (by simp;omega) λh' eb=>⟨rfl,I.turned (t':=s.toks) (λb o hb e=>eb b o hb e) f0 f1 f3 f4 f5⟩
 self:=λ_ _ _ _ _ st h=>wpAny_pyIter_listiter st h
theorem Qc6 (a it:Addr):Turn P w K tg (Itt K a) [it] it (λi h=>h.IsTupleIter it a i) where
 mem:=by simp
 obj:=λi h st b hb=>by
  have e:b=it:=by simpa using hb
  subst e
  obtain ⟨o,e,c,d⟩:=st
  exact ⟨o,e,λv z=>by rw [d] at z;cases z⟩
 keep:=λi h h' st k=>st.at λo e=>k it (by simp) o e
 item:=by
  intro X hP hw hK hc i pins s σ H E I hf st hg
  subst hP hw hK
  obtain ⟨xs,x,hq,hx⟩:=hg
  obtain ⟨its,rv,p,hz⟩:=I.tuple hq
  obtain ⟨u,hu,ru⟩:=rv.get hx
  obtain ⟨f0,f1,f2,f3,f4,f5⟩:=hf it (by simp)
  refine wpAny_pyNext_tuple_item st (show s.heap.IsTuple a its.toArray from p) (x:=u) (by simpa using hu) λh' st' sb=>?_
  have I1:Inv X pins σ H { s with heap:=h' }:=I.turned (t':=s.toks) (λb o hb e=>(sb.2 b hb).trans e) f0 f1 f3 f4 f5
  obtain ⟨o,e,c,d⟩:=id st'
  exact ⟨u,rfl,Qk5 (s:={ s with heap:=h' }) e c d (by decide) ⟨x,H,I1,ru,⟨rfl,λys hy=>by rw [I.tuple_inj hy hq];exact hx⟩,st',λb hb=>(hf b hb).1⟩⟩
 done:=by
  intro X hP hw hK hc i pins s σ H E I hf st hg
  subst hP hw hK
  obtain ⟨xs,hq,hx⟩:=hg
  obtain ⟨its,rv,p,hz⟩:=I.tuple hq
  obtain ⟨f0,f1,f2,f3,f4,f5⟩:=hf it (by simp)
  have hl:=rv.length
  exact wpAny_pyNext_tuple_end (I.ok.hd hc) st (show s.heap.IsTuple a its.toArray from p) (by simp;omega) λh' eb=>⟨rfl,I.turned (t':=s.toks) (λb o hb e=>eb b o hb e) f0 f1 f3 f4 f5⟩
 self:=λ_ _ _ _ _ st h=>wpAny_pyIter_tupleiter st h
theorem Qc7 (it:Addr) (lo:Int) (n:Nat):Turn P w K tg (Itr lo n) [it] it (λi h=>IsRangeIter h it (lo+(i:Nat)*1) ((n:Int)-(i:Nat)) 1) where
 mem:=by simp
 obj:=λi h st b hb=>by
  have e:b=it:=by simpa using hb
  subst e
  exact ⟨_,st,λv z=>by
   have z':Data.fields _=Data.cell v:=z
   cases z'⟩
 keep:=λi h h' st k=>k it (by simp) _ st
 item:=by
  intro X hP hw hK hc i pins s σ H E I hf st hg
  subst hP hw hK
  obtain ⟨f0,f1,f2,f3,f4,f5⟩:=hf it (by simp)
  have W:=Walks.range (prog:=X.prog) (w:=X.w) (I.ok.hd hc) it lo 1 n
  refine W.item i s _ _ hg st λv h' tk hv st' kk=>?_
  obtain ⟨t,rfl⟩:=hv
  have I1:Inv X pins σ H { s with heap:=h',toks:=tk }:=I.turned (λb o hb e=>kk b o (by simpa using hb) e) f0 f1 f3 f4 f5
  refine ⟨_,rfl,Qk5 (s:={ s with heap:=h',toks:=tk }) (n:="range_iterator") st' rfl rfl (by decide) ⟨.int (lo+i),H,I1,⟨t,?_⟩,⟨rfl,rfl⟩,st',λb hb=>(hf b hb).1⟩⟩
  rw [Int.mul_one]
 done:=by
  intro X hP hw hK hc i pins s σ H E I hf st hg
  subst hP hw hK
  obtain ⟨f0,f1,f2,f3,f4,f5⟩:=hf it (by simp)
  exact wpAny_pyNext_range_end (I.ok.hd hc) st (by have:n<=i:=hg;omega) λh' eb=>⟨rfl,I.turned (t':=s.toks) (λb o hb e=>eb b o hb e) f0 f1 f3 f4 f5⟩
 self:=λ_ _ _ _ _ st h=>wpAny_pyIter_rangeiter st h
theorem Qg1 {R:It->Hp->Prop} {lo hi:Int} {t u v:Tok} {tk:Nat} (I:Inv X pins σ H s) (h1:-(2 ^ 62)<=lo) (h2:lo<2 ^ 62) (h3:-(2 ^ 62)<=hi) (h4:hi<2 ^ 62)
  (q:R (Itr lo (hi-lo).toNat) H):wpAny (model X.prog X.w) X.A (pyIter (.ref s.heap.objs.size)) (PIE X pins σ tg R) E { s with heap:=s.heap.push { cls:=.type "range",data:=.fields #[.int lo t,.int hi u,.int 1 v] },toks:=tk }:=by
 refine wpAny_pyIter_range (IsRange.new ..) (small_one h1 h2 h3 h4) ?_
 have I1:Inv X pins σ H { s with heap:=s.heap.push { cls:=.type "range",data:=.fields #[.int lo t,.int hi u,.int 1 v] },toks:=tk }:=I.kept λb o e=>Heap.get?_push_of_some _ e
 refine ⟨(s.heap.push { cls:=.type "range",data:=.fields #[.int lo t,.int hi u,.int 1 v] }).objs.size,[(s.heap.push { cls:=.type "range",data:=.fields #[.int lo t,.int hi u,.int 1 v] }).objs.size],_,_,H,rfl,
  I1.kept (t':=tk) λb o e=>Heap.get?_push_of_some _ e,Qc7 _ lo (hi-lo).toNat,?_,λb hb=>?_,q⟩
 ·have e1:lo+((0:Nat):Int)*1=lo:=by simp
  have e2:(((hi-lo).toNat:Nat):Int)-((0:Nat):Int)=Builtin.Range.rangeSize lo hi 1:=by rw [rangeSize_one];split <;> omega
  show IsRangeIter _ _ (lo+((0:Nat):Int)*1) ((((hi-lo).toNat:Nat):Int)-((0:Nat):Int)) 1
  rw [e1,e2]
  exact Heap.get?_push_size _ rfl
 ·have e:b=(s.heap.push { cls:=.type "range",data:=.fields #[.int lo t,.int hi u,.int 1 v] }).objs.size:=by simpa using hb
  subst e
  exact I1.fpOk (Nat.le_refl _) (I1.hok.fresh (Nat.le_refl _))
def Qp5 (ta:TA):TI:=λσ H R=>ta σ H λvs H1=>∃j:Int,vs=[.int j] /\ -(2 ^ 62)<=j/\j<2 ^ 62/\R (Itr 0 j.toNat) H1
theorem Qfd {a:Expr} {ta:TA} (hg:Gl X "range") (hm:X.mg "range" = none) (ha:PA X [a] ta) (hs:starEach [a] X.env=[(false,eval a X.env)]:=by rfl):PI X tg (.Call (.Name "range" p) [a] [] pos) (Qp5 ta):=by
 intro pins s σ H R I h
 refine Call_ (Qfp I hg hm boot_range (PyProof.Rows.callWith_type1 (thn (ha pos pins s σ H _ I h) λus s1 ⟨vs,H1,I1,r1,q1⟩=>?_) hs rfl))
 obtain ⟨j,e,q1,q2,q⟩:=q1
 subst e
 cases r1 with
 | cons r rr =>
  cases rr
  obtain ⟨t,rfl⟩:=r
  exact call_range_1 (Qg1 I1 (by omega) (by omega) q1 q2 (by simpa using q))
def tFor (wi:TI) (g:TG) (tb:TS):TS:=λD σ H=>wi σ H λJ H1=>∃W:Nat->Nat->St->Hp->Prop,(∃m,W 0 m σ H1)/\∀i m σ H,W i m σ H ->
 (J.stop i H/\D.nx σ H)\/(J.go i H/\∃N:St->Hp->Prop,(∀σ' H',N σ' H'->∃m',m' < m/\W (i+1) m' σ' H')/\∀x H',J.yld i H x H'->g x σ H' λσ2 H2=>tb { D with nx:=N,ct:=N,bk:=D.nx } σ2 H2)
def Qav (fp:List Addr) (h:Heap):List (Addr × Obj):=fp.filterMap λb=>(h.get? b).map λo=>(b,o)
theorem Zy {h:Heap} (hb:b∈fp) (e:h.get? b=some o):(b,o)∈Qav fp h:=List.mem_filterMap.mpr ⟨b,hb,by rw [e];rfl⟩
theorem Qfk {h:Heap} {p:Addr × Obj} (hp:p∈Qav fp h):p.1∈fp/\h.get? p.1=some p.2:=by
 obtain ⟨b,hb,e⟩:=List.mem_filterMap.mp hp
 cases q:h.get? b with
 | none=>rw [q] at e;cases e
 | some o =>
  rw [q] at e
  have e':(b,o)=p:=Option.some.inj e
  subst e'
  exact ⟨hb,q⟩
theorem Inv.pinned (I:Inv X pins σ H s) (hf:∀b∈fp,FpOk X pins H b) (ho:∀b∈fp,∃o,s.heap.get? b=some o/\∀v,o.data ≠ .cell v):Inv X (pins++Qav fp s.heap) σ H s :=
 I.pins_of λp hp=>(List.mem_append.mp hp).elim (λz=>I.pin p (List.mem_append_right _ z)) λz=>by
  obtain ⟨hb,e⟩:=Qfk z
  obtain ⟨f0,f1,f2,_⟩:=hf p.1 hb
  obtain ⟨o,e',d⟩:=ho p.1 hb
  rw [e] at e';cases e'
  exact ⟨e,f0,f1,f2,d⟩
theorem Inv.unpinned {pl:List (Addr × Obj)} (I:Inv X (pins++pl) σ H s):Inv X pins σ H s:=I.pins_of λp hp=>I.pin p (List.mem_append_right _ (List.mem_append_left _ hp))
theorem Qm4 {tb:TS} (hp:PassesOwn (model X.prog X.w) X.A X.env X.xe) (hc:X.calm=true) (hi:PI X tg iter wi) (hg:PG X tg g) (hb:PSs X body tb)
  (hs:∀x,foldedSetIterable iter X.env x=pure x:=by intro _;rfl):PS X (.For tg iter body [] pos) (tFor wi g tb):=by
 intro pins s σ H D I h
 refine wpAny_For (thn (hi pins s σ H _ I h) λv s1 h1=>thn h1 λitv s2 h2=>?_) hs
 obtain ⟨it,fp,tn,J,H2,e,I2,T,st2,f2,W,⟨m0,w0⟩,turn⟩:=h2
 subst e
 -- what stays true of the iterator's objects through the loop
 have stat:∀{H':Hp},(∀b∈fp,H' b=none)->∀b∈fp,FpOk X pins H' b:=λhn b hb=>⟨hn b hb,(f2 b hb).2⟩
 refine codeAny_forLoop_any (λn s'=>∃i σ' H',Inv X pins σ' H' s'/\tn i s'.heap/\(∀b∈fp,H' b=none)/\W i n σ' H') ?_ m0 ⟨0,σ,H2,I2,st2,λb hb=>(f2 b hb).1,w0⟩
 rintro n s3 ⟨i,σ3,H3,I3,st3,fr3,w3⟩
 rcases turn i n σ3 H3 w3 with ⟨stop,qn⟩ | ⟨go,N,hN,step⟩
 ·refine wpAny_passesOwn hp (thn (T.done X rfl rfl rfl hc i pins s3 σ3 H3 X.xe I3 (stat fr3) st3 stop) λr s4 ⟨hr,I4⟩=>?_)
  subst hr
  exact wpAny_execs_nil ⟨σ3,H3,I4,qn⟩
 ·refine wpAny_passesOwn hp (thn (T.item X rfl rfl rfl hc i pins s3 σ3 H3 X.xe I3 (stat fr3) st3 go) λr s4 ⟨u,hr,h4⟩=>?_)
  subst hr
  refine wpAny_passesOwn hp (thn h4 λ_ s5 ⟨x,H5,I5,r5,y5,st5,fr5⟩=>?_)
  have I5':=I5.pinned (stat fr5) (T.obj _ _ st5)
  refine wpAny_passesOwn hp (thn (hg _ s5 σ3 H5 x u _ I5' r5 (step x H5 y5)) λ_ s6 ⟨σ6,H6,I6,q6⟩=>?_)
  refine wpAny_passesOwn hp (thn (hb _ s6 σ6 H6 _ I6 q6) λf s7 q7=>?_)
  have again:∀{σ7:St} {H7:Hp},Inv X (pins++Qav fp s5.heap) σ7 H7 s7->N σ7 H7->∃m,m<n/\∃i σ' H',Inv X pins σ' H' s7/\tn i s7.heap/\(∀b∈fp,H' b=none)/\W i m σ' H':=λ{σ7 H7} I7 n7=>by
   obtain ⟨m',hm,w7⟩:=hN σ7 H7 n7
   refine ⟨m',hm,i+1,σ7,H7,I7.unpinned,T.keep _ _ _ st5 λb hb o e=>(I7.pin (b,o) (List.mem_append_right _ (List.mem_append_right _ (Zy hb e)))).1,λb hb=>?_,w7⟩
   obtain ⟨o,e,d⟩:=T.obj _ _ st5 b hb
   exact (I7.pin (b,o) (List.mem_append_right _ (List.mem_append_right _ (Zy hb e)))).2.1
  cases f with
  | next=>obtain ⟨σ7,H7,I7,n7⟩:=q7;exact again I7 n7
  | cont=>obtain ⟨σ7,H7,I7,n7⟩:=q7;exact again I7 n7
  | brk=>obtain ⟨σ7,H7,I7,q7⟩:=q7;exact ⟨σ7,H7,I7.unpinned,q7⟩
  | ret v=>obtain ⟨x7,σ7,H7,I7,r7,q7⟩:=q7;exact ⟨x7,σ7,H7,I7.unpinned,r7,q7⟩
abbrev R2:=V->V->Hp->VK->Prop
end L2
variable {o:Option PySem.Value} {i:Int} {g:Int->Int->Int} {r:L2.R2} {C dx:PySem.Addr} {its:List PySem.Value} {mA:PySem.Str->Option PySem.Value} {ns:List Int} {kw:List (PySem.Str × PySem.Value)} {m name:PySem.Str} {prog:PySem.Program} {env:PySem.Env} {fs:List (PySem.Str × L2.V)} {es:List PySem.Expr}
namespace L2
open PySem PySem.Spec PyProof.Rows
def OpR (X:Cx) (f:Value->Value->Sem Value) (r:R2):Prop :=
 ∀(pins:List (Addr × Obj)) (s:Shared) (σ:St) (H:Hp) (x y:V) (v u:Value) (Q:VK),Inv X pins σ H s->RelV x v->RelV y u->r x y H Q ->
  wpAny (model X.prog X.w) X.A (f v u) (EP X pins σ Q) X.xe s
def UnR (X:Cx) (f:Value->Sem Value) (r:V->Hp->VK->Prop):Prop :=
 ∀(pins:List (Addr × Obj)) (s:Shared) (σ:St) (H:Hp) (x:V) (v:Value) (Q:VK),Inv X pins σ H s->RelV x v->r x H Q ->
  wpAny (model X.prog X.w) X.A (f v) (EP X pins σ Q) X.xe s
def V1 (X:Cx) (f:Value) (r:List V->Hp->VK->Prop):Prop :=
 ∀(pins:List (Addr × Obj)) (s:Shared) (σ:St) (H:Hp) (xs:List V) (us:List Value) (Q:VK),Inv X pins σ H s->Vals xs us->r xs H Q ->
  wpAny (model X.prog X.w) X.A (call f us) (EP X pins σ Q) X.xe s
def TruR (X:Cx) (r:V->Hp->(Bool->Hp->Prop)->Prop):Prop :=
 ∀(pins:List (Addr × Obj)) (s:Shared) (σ:St) (H:Hp) (x:V) (v:Value) (Q:Bool->Hp->Prop),Inv X pins σ H s->RelV x v->r x H Q ->
  wpAny (model X.prog X.w) X.A (truthy v) (TP X pins σ Q) X.xe s
def tOp (r:R2) (ta tb:TE):TE:=λσ H Q=>ta σ H λx H1=>tb σ H1 λy H2=>r x y H2 Q
def tUn (r:V->Hp->VK->Prop) (ta:TE):TE:=λσ H Q=>ta σ H λx H1=>r x H1 Q
def rI (C:Int->Int->Prop) (g:Int->Int->V):R2:=λx y H Q=>∃i j,x=.int i/\y=.int j/\C i j/\Q (g i j) H
def rI0 (g:Int->Int->V):R2:=λx y H Q=>∃i j,x=.int i/\y=.int j/\Q (g i j) H
def rU (g:Int->V):V->Hp->VK->Prop:=λx H Q=>∃i,x=.int i/\Q (g i) H
section
variable {a b:Expr}
theorem binT (ha:PE X a ta) (hb:PE X b tb) {R:V->V->Hp->Prop} (I:Inv X pins σ H s)
  (h:ta σ H λx H1=>tb σ H1 λy H2=>R x y H2)
  (hf:∀v u s2 x y H2,Inv X pins σ H2 s2->RelV x v->RelV y u->R x y H2->wpAny (model X.prog X.w) X.A (f v u) Q X.xe s2) :
  wpAny (model X.prog X.w) X.A (eval a X.env) (λv s₁=>wpAny (model X.prog X.w) X.A (eval b X.env) (λu s₂=>wpAny (model X.prog X.w) X.A (f v u) Q X.xe s₂) X.xe s₁) X.xe s:=by
 refine thn (ha pins s σ H _ I h) λv s1 ⟨x,H1,I1,r1,q1⟩=>?_
 refine thn (hb pins s1 σ H1 _ I1 q1) λu s2 ⟨y,H2,I2,r2,q2⟩=>?_
 exact hf v u s2 x y H2 I2 r1 r2 q2
theorem Qpw {op:Operator} (ho:OpR X (binaryOp op) r) (ha:PE X a ta) (hb:PE X b tb):PE X (.BinOp a op b pos) (tOp r ta tb):=by
 intro pins s σ H Q I h
 exact wpAny_BinOp (binT ha hb I h λv u s2 x y H2 I2 rx ry q=>ho pins s2 σ H2 x y v u Q I2 rx ry q)
theorem Qpu {op:UnaryOp} {r:V->Hp->VK->Prop} (ho:UnR X (unaryOp op) r) (ha:PE X a ta):PE X (.UnaryOp op a pos) (tUn r ta):=by
 intro pins s σ H Q I h
 exact UnaryOp_ (thn (ha pins s σ H _ I h) λv s1 ⟨x,H1,I1,r1,q1⟩=>ho pins s1 σ H1 x v Q I1 r1 q1)
theorem opI {C:Int->Int->Prop}
  (rule:∀(i j:Int) (t u:Tok) (s:Shared) (Q:Value->Shared->Prop) (E:Value->Shared->Prop),C i j->Q (.int (g i j) s.toks) { s with toks:=s.toks+1 }->wpAny (model X.prog X.w) X.A (f (.int i t) (.int j u)) Q E s) :
  OpR X f (rI C λi j=>.int (g i j)):=by
 intro pins s σ H x y v u Q I rx ry h
 obtain ⟨i,j,rfl,rfl,hc,q⟩:=h
 obtain ⟨t,rfl⟩:=rx
 obtain ⟨t',rfl⟩:=ry
 exact rule i j t t' s _ _ hc ⟨.int (g i j),H,I.tok _,⟨_,rfl⟩,q⟩
theorem opI0
  (rule:∀(i j:Int) (t u:Tok) (s:Shared) (Q:Value->Shared->Prop) (E:Value->Shared->Prop),Q (.int (g i j) s.toks) { s with toks:=s.toks+1 }->wpAny (model X.prog X.w) X.A (f (.int i t) (.int j u)) Q E s) :
  OpR X f (rI0 λi j=>.int (g i j)):=by
 intro pins s σ H x y v u Q I rx ry h
 obtain ⟨i,j,rfl,rfl,q⟩:=h
 obtain ⟨t,rfl⟩:=rx
 obtain ⟨t',rfl⟩:=ry
 exact rule i j t t' s _ _ ⟨.int (g i j),H,I.tok _,⟨_,rfl⟩,q⟩
theorem opB0 {g:Int->Int->Bool}
  (rule:∀(i j:Int) (t u:Tok) (s:Shared) (Q:Value->Shared->Prop) (E:Value->Shared->Prop),Q (.bool (g i j)) s->wpAny (model X.prog X.w) X.A (f (.int i t) (.int j u)) Q E s) :
  OpR X f (rI0 λi j=>.bl (g i j)):=by
 intro pins s σ H x y v u Q I rx ry h
 obtain ⟨i,j,rfl,rfl,q⟩:=h
 obtain ⟨t,rfl⟩:=rx
 obtain ⟨t',rfl⟩:=ry
 exact rule i j t t' s _ _ ⟨.bl (g i j),H,I,rfl,q⟩
def CDiv (i j:Int):Prop:=0<j/\j<1073741824
def Qql (i j:Int):Prop:=j≠0/\j.natAbs<1073741824
def CPow (i j:Int):Prop:=0<=j/\j<=1000000/\i.natAbs<2 ^ 64
def CMul (i j:Int):Prop:=(-(2 ^ 64)<i/\i<2 ^ 64)\/(-(2 ^ 64)<j/\j<2 ^ 64)
theorem CMul.ok {j:Int} (h:CMul i j):IntMulOk i j:=by
 rcases h with ⟨h1,h2⟩ | ⟨h1,h2⟩
 ·exact .of_left (intBits_le_64 h1 h2)
 ·exact .of_right (intBits_le_64 h1 h2)
theorem Qno:OpR X (binaryOp .Add) (rI0 λi j=>.int (i+j)):=opI0 λ_ _ _ _ _ _ _ q=>add_int q
theorem Qng:OpR X (binaryOp .Sub) (rI0 λi j=>.int (i-j)):=opI0 λ_ _ _ _ _ _ _ q=>sub_int q
theorem Qnk:OpR X (binaryOp .Mult) (rI CMul λi j=>.int (i*j)):=opI λ_ _ _ _ _ _ _ hc q=>mul_int q hc.ok
theorem Qkp:OpR X (binaryOp .FloorDiv) (rI CDiv λi j=>.int (i / j)):=opI λi j _ _ _ _ _ hc q=>by
 have h1:(0:Int)<j:=hc.1
 have h2:j<1073741824:=hc.2
 exact floordiv_int (by omega) (by rw [Int.fdiv_eq_ediv_of_nonneg i (by omega)];exact q) (.inl (PyProof.noPylong_small (by omega)))
theorem Qha:OpR X (binaryOp .FloorDiv) (rI Qql λi j=>.int (i.fdiv j)):=opI λ_ _ _ _ _ _ _ hc q=>floordiv_int hc.1 q (.inl (PyProof.noPylong_small hc.2))
theorem Qnl:OpR X (binaryOp .Mod) (rI (λ_ j=>0<j) λi j=>.int (i % j)):=opI λi j _ _ _ _ _ hc q=>by
 have h1:(0:Int)<j:=hc
 exact mod_int' (by omega) (by rw [Int.fmod_eq_emod_of_nonneg i (by omega)];exact q)
theorem Qko:OpR X (binaryOp .Mod) (rI (λ_ j=>j≠0) λi j=>.int (i.fmod j)):=opI λ_ _ _ _ _ _ _ hc q=>mod_int' hc q
theorem Qni:OpR X (binaryOp .Pow) (rI CPow λi j=>.int (i ^ j.toNat)):=opI λ_ _ _ _ _ _ _ hc q=>pow_int_small hc.1 hc.2.1 hc.2.2 q
theorem unI {f:Value->Sem Value} {g:Int->Int}
  (rule:∀(i:Int) (t:Tok) (s:Shared) (Q:Value->Shared->Prop) (E:Value->Shared->Prop),Q (.int (g i) s.toks) { s with toks:=s.toks+1 }->wpAny (model X.prog X.w) X.A (f (.int i t)) Q E s) :
  UnR X f (rU λi=>.int (g i)):=by
 intro pins s σ H x v Q I rx h
 obtain ⟨i,rfl,q⟩:=h
 obtain ⟨t,rfl⟩:=rx
 exact rule i t s _ _ ⟨.int (g i),H,I.tok _,⟨_,rfl⟩,q⟩
theorem Qlv:UnR X (unaryOp .USub) (rU λi=>.int (-i)):=unI λ_ _ _ _ _ q=>neg_int q
end
def scal:V->V->Bool
 | .non,.non=>true | .non,.int _=>true | .int _,.non=>true | .non,.bl _=>true | .bl _,.non=>true | .non,.str _=>true | .str _,.non=>true
 | .int _,.int _=>true | .bl _,.bl _=>true | .str _,.str _=>true | .byt _,.byt _=>true
 | .int _,.str _=>true | .str _,.int _=>true | .bl _,.str _=>true | .str _,.bl _=>true
 | _,_=>false
def rEq:R2:=λx y H Q=>scal x y=true/\Q (.bl (decide (x=y))) H
def rNe:R2:=λx y H Q=>scal x y=true/\Q (.bl (!decide (x=y))) H
theorem Qgd {j:Int}:decide (V.int i=V.int j)=(i == j):=by
 rw [Bool.eq_iff_iff]
 simp
theorem Qc3 {i j:Bool}:decide (V.bl i=V.bl j)=(i == j):=by
 rw [Bool.eq_iff_iff]
 simp
theorem Qgc {i j:Str}:decide (V.str i=V.str j)=(i == j):=by
 rw [Bool.eq_iff_iff]
 simp
theorem Qge {i j:Array UInt8}:decide (V.byt i=V.byt j)=(i.toList == j.toList):=by
 rw [Bool.eq_iff_iff]
 cases i
 cases j
 simp
section
variable {a b:Expr}
theorem Q0 {Q:VK} {k k':Bool} (I:Inv X pins σ H s) (q:Q (.bl k) H) (e:k=k'):EP X pins σ Q (.bool k') s:=by
 subst e
 exact ⟨.bl k,H,I,rfl,q⟩
theorem Qp1:OpR X (compareOp .Eq) rEq:=by
 intro pins s σ H x y v u Q I rx ry h
 obtain ⟨hs,q⟩:=h
 cases x with
 | non =>
  cases rx
  cases y with
  | non=>cases ry;exact PySem.EqNone.eq_none_none (Q0 I q (by simp))
  | bl j=>cases ry;exact PySem.EqNone.eq_none_bool (Q0 I q (by simp))
  | int j=>obtain ⟨t',rfl⟩:=ry;exact PySem.EqNone.eq_none_int (Q0 I q (by simp))
  | str j=>obtain ⟨t',rfl⟩:=ry;exact PySem.EqNone.eq_none_str (Q0 I q (by simp))
  | _=>exact absurd (show false=true from hs) Bool.false_ne_true
 | bl i =>
  cases rx
  cases y with
  | non=>cases ry;exact PySem.EqNone.eq_bool_none (Q0 I q (by simp))
  | bl j=>cases ry;exact eq_bool (Q0 I q Qc3)
  | str j=>obtain ⟨t',rfl⟩:=ry;exact PySem.EqMixed.eq_bool_str (Q0 I q (by simp))
  | _=>exact absurd (show false=true from hs) Bool.false_ne_true
 | int i =>
  obtain ⟨t,rfl⟩:=rx
  cases y with
  | non=>cases ry;exact PySem.EqNone.eq_int_none (Q0 I q (by simp))
  | int j=>obtain ⟨t',rfl⟩:=ry;exact eq_int (Q0 I q Qgd)
  | str j=>obtain ⟨t',rfl⟩:=ry;exact PySem.EqMixed.eq_int_str (Q0 I q (by simp))
  | _=>exact absurd (show false=true from hs) Bool.false_ne_true
 | str i =>
  obtain ⟨t,rfl⟩:=rx
  cases y with
  | non=>cases ry;exact PySem.EqNone.eq_str_none (Q0 I q (by simp))
  | bl j=>cases ry;exact PySem.EqMixed.eq_str_bool (Q0 I q (by simp))
  | int j=>obtain ⟨t',rfl⟩:=ry;exact PySem.EqMixed.eq_str_int (Q0 I q (by simp))
  | str j=>obtain ⟨t',rfl⟩:=ry;exact eq_str (Q0 I q Qgc)
  | _=>exact absurd (show false=true from hs) Bool.false_ne_true
 | byt i =>
  obtain ⟨t,rfl⟩:=rx
  cases y with
  | byt j=>obtain ⟨t',rfl⟩:=ry;exact PySem.W.eq_bytes (Q0 I q Qge)
  | _=>exact absurd (show false=true from hs) Bool.false_ne_true
 | _=>cases y <;> exact absurd (show false=true from hs) Bool.false_ne_true
theorem Qpy:OpR X (compareOp .NotEq) rNe:=by
 intro pins s σ H x y v u Q I rx ry h
 obtain ⟨hs,q⟩:=h
 cases x with
 | non =>
  cases rx
  cases y with
  | non=>cases ry;exact PySem.EqNone.ne_none_none (Q0 I q (by simp))
  | bl j=>cases ry;exact PySem.EqNone.ne_none_bool (Q0 I q (by simp))
  | int j=>obtain ⟨t',rfl⟩:=ry;exact PySem.EqNone.ne_none_int (Q0 I q (by simp))
  | str j=>obtain ⟨t',rfl⟩:=ry;exact PySem.EqNone.ne_none_str (Q0 I q (by simp))
  | _=>exact absurd (show false=true from hs) Bool.false_ne_true
 | bl i =>
  cases rx
  cases y with
  | non=>cases ry;exact PySem.EqNone.ne_bool_none (Q0 I q (by simp))
  | bl j=>cases ry;exact ne_bool (Q0 I q (congrArg not Qc3))
  | str j=>obtain ⟨t',rfl⟩:=ry;exact PySem.EqMixed.ne_bool_str (Q0 I q (by simp))
  | _=>exact absurd (show false=true from hs) Bool.false_ne_true
 | int i =>
  obtain ⟨t,rfl⟩:=rx
  cases y with
  | non=>cases ry;exact PySem.EqNone.ne_int_none (Q0 I q (by simp))
  | int j=>obtain ⟨t',rfl⟩:=ry;exact ne_int (Q0 I q (congrArg not Qgd))
  | str j=>obtain ⟨t',rfl⟩:=ry;exact PySem.EqMixed.ne_int_str (Q0 I q (by simp))
  | _=>exact absurd (show false=true from hs) Bool.false_ne_true
 | str i =>
  obtain ⟨t,rfl⟩:=rx
  cases y with
  | non=>cases ry;exact PySem.EqNone.ne_str_none (Q0 I q (by simp))
  | bl j=>cases ry;exact PySem.EqMixed.ne_str_bool (Q0 I q (by simp))
  | int j=>obtain ⟨t',rfl⟩:=ry;exact PySem.EqMixed.ne_str_int (Q0 I q (by simp))
  | str j=>obtain ⟨t',rfl⟩:=ry;exact ne_str (Q0 I q (congrArg not Qgc))
  | _=>exact absurd (show false=true from hs) Bool.false_ne_true
 | byt i =>
  obtain ⟨t,rfl⟩:=rx
  cases y with
  | byt j=>obtain ⟨t',rfl⟩:=ry;exact PySem.W.ne_bytes (Q0 I q (congrArg not Qge))
  | _=>exact absurd (show false=true from hs) Bool.false_ne_true
 | _=>cases y <;> exact absurd (show false=true from hs) Bool.false_ne_true
theorem Qpz:OpR X (compareOp .Lt) (rI0 λi j=>.bl (decide (i<j))):=opB0 λ_ _ _ _ _ _ _ q=>lt_int q
theorem Qp0:OpR X (compareOp .Gt) (rI0 λi j=>.bl (decide (j<i))):=opB0 λ_ _ _ _ _ _ _ q=>gt_int q
theorem OpR.or {r':R2} (h:OpR X f r) (h':OpR X f r'):OpR X f (λx y H Q=>r x y H Q\/r' x y H Q):=by
 intro pins s σ H x y v u Q I rx ry q
 rcases q with q | q
 ·exact h pins s σ H x y v u Q I rx ry q
 ·exact h' pins s σ H x y v u Q I rx ry q
theorem Qjk (b:Expr) {op:CmpOp} (h:op ≠ .In:=by decide) (h2:op ≠ .NotIn:=by decide):behindInMarks op b=false:=by
 have e1:(op == CmpOp.In)=false:=by cases op <;> first | rfl | exact absurd rfl h
 have e2:(op == CmpOp.NotIn)=false:=by cases op <;> first | rfl | exact absurd rfl h2
 cases b <;> simp [behindInMarks,e1,e2]
theorem Qkm {op:CmpOp} (ho:OpR X (compareOp op) r) (ha:PE X a ta) (hb:PE X b tb) (hm:behindInMarks op b=false):PE X (.Compare a [op] [b] pos) (tOp r ta tb):=by
 intro pins s σ H Q I h
 exact wpAny_Compare1 (binT ha hb I h λv u s2 x y H2 I2 rx ry q=>ho pins s2 σ H2 x y v u Q I2 rx ry q) hm
def Qpb (t:TE):TT:=λσ H Q=>t σ H λx H'=>∃k,x=.bl k/\Q k H'
theorem Qkg {op:CmpOp} (ho:OpR X (compareOp op) r) (ha:PE X a ta) (hb:PE X b tb) (hm:behindInMarks op b=false):PT X (.Compare a [op] [b] pos) (Qpb (tOp r ta tb)):=by
 intro pins s σ H Q I h
 refine wpAny_isTrue_Compare1 (thn (ha pins s σ H _ I h) λv s1 ⟨x,H1,I1,r1,q1⟩=>thn (hb pins s1 σ H1 _ I1 q1) λu s2 ⟨y,H2,I2,r2,q2⟩ =>
  thn (ho pins s2 σ H2 x y v u _ I2 r1 r2 q2) λc s3 ⟨z,H3,I3,r3,k,e,q3⟩=>?_) hm
 subst e
 cases r3
 exact wpAny_truthy_bool ⟨H3,I3,q3⟩
def TruV (K:PySem.W.Frag) (x:V) (H:Hp) (k:Bool):Prop :=
 match x with
 | .non=>k=false
 | .bl b=>k=b
 | .int i=>k=(i != 0)
 | .str y=>y.length<=sizeLine/\k=((y.length:Int) != 0)
 | .byt y=>y.size<=sizeLine/\k=((y.size:Int) != 0)
 | .ref p=>(∃xs,SqL K H p xs/\k = !xs.isEmpty)\/(∃xs,SqT K H p xs/\k = !xs.isEmpty)\/∃kvs,H p=some (.dK kvs)/\k = !kvs.isEmpty
 | _=>False
theorem Qdr {κ:Type} {kvs:List (κ × V)} {vs:List (κ × Value)} (r:KV kvs vs):(!vs.isEmpty) = !kvs.isEmpty:=by
 cases r <;> rfl
theorem Xl (r:Vals xs its):(!its.toArray.isEmpty) = !xs.isEmpty:=by
 cases r <;> simp
theorem Xk:(sizeLine:Nat)<2 ^ 63:=by rw [sizeLine_eq];decide
theorem Qlx:TruR X (λx H Q=>∃k,TruV X.K x H k/\Q k H):=by
 intro pins s σ H x v Q I rx h
 obtain ⟨k,e,q⟩:=h
 have hl:=Xk
 have hs:sizeLine=16777216:=sizeLine_eq
 cases x with
 | non =>
  cases rx
  have e':k=false:=e
  subst e'
  exact truthy_none ⟨H,I,q⟩
 | bl b =>
  cases rx
  have e':k=b:=e
  subst e'
  exact wpAny_truthy_bool ⟨H,I,q⟩
 | int i =>
  obtain ⟨t,rfl⟩:=rx
  have e':k=(i != 0):=e
  subst e'
  exact PySem.P.truthy_int ⟨H,I,q⟩
 | str y =>
  obtain ⟨t,rfl⟩:=rx
  obtain ⟨hy,e'⟩:y.length<=sizeLine/\k=((y.length:Int) != 0):=e
  subst e'
  exact PySem.P.truthy_str (by omega) ⟨H,I.tok _,q⟩
 | byt y =>
  obtain ⟨t,rfl⟩:=rx
  obtain ⟨hy,e'⟩:y.size<=sizeLine/\k=((y.size:Int) != 0):=e
  subst e'
  exact PySem.W.truthy_bytes (by omega) ⟨H,I.tok _,q⟩
 | ref p =>
  cases rx
  have e':(∃xs,SqL X.K H p xs/\k = !xs.isEmpty)\/(∃xs,SqT X.K H p xs/\k = !xs.isEmpty)\/∃kvs,H p=some (.dK kvs)/\k = !kvs.isEmpty:=e
  rcases e' with ⟨xs,hx,e'⟩ | ⟨xs,hx,e'⟩ | ⟨kvs,hx,e'⟩
  ·subst e'
   obtain ⟨its,r,pl,hz⟩:=I.list hx
   have hlen:=r.length
   exact wpAny_truthy_list pl.isList (by simp only [List.size_toArray];omega) ⟨H,I.tok _,by rw [Xl r];exact q⟩
  ·subst e'
   obtain ⟨its,r,pl,hz⟩:=I.tuple hx
   have hlen:=r.length
   exact truthy_tuple pl (by simp only [List.size_toArray];omega) ⟨H,I.tok _,by rw [Xl r];exact q⟩
  ·subst e'
   obtain ⟨hz,hS,vs,r,m⟩:kvs.length<=sizeLine/\(p == sysModules)=false/\∃vs,KV kvs vs/\s.heap.DictOf (Jx X.prog X.w) p vs:=I.hok p _ hx
   have hlen:kvs.length=vs.length:=Paired.length r
   exact wpAny_truthy_dict hS m (by omega) ⟨H,I.tok _,by rw [Qdr r];exact q⟩
 | _=>exact (show False from e).elim
theorem Qg4 (ha:PE X a ta) (he:∀whole,isTrue a X.env whole=(do let v ← whole;standAt a.pos;holding [v] (truthy v))) :
  PT X a (λσ H Q=>ta σ H λx H'=>∃k,TruV X.K x H' k/\Q k H'):=by
 intro pins s σ H Q I h
 exact isTrue_plain (thn (ha pins s σ H _ I h) λv s1 ⟨x,H1,I1,r1,q1⟩=>Qlx pins s1 σ H1 x v Q I1 r1 q1) (he _)
theorem Qdk:OpR X (binaryOp .Add) (λx y H Q=>∃i j,x=.str i/\y=.str j/\i.length+j.length<=sizeLine/\Q (.str (i++j)) H):=by
 intro pins s σ H x y v u Q I rx ry h
 obtain ⟨i,j,rfl,rfl,hz,q⟩:=h
 obtain ⟨t,rfl⟩:=rx
 obtain ⟨t',rfl⟩:=ry
 exact add_str (λt' tk=>⟨.str (i++j),H,I.tok _,⟨_,rfl⟩,q⟩) hz
theorem Qjz {x:V} (r:Vals [x] us):∃u,us=[u]/\RelV x u:=by
 cases r with
 | cons r1 r2=>cases r2;exact ⟨_,rfl,r1⟩
theorem Qjy {x:V} (r:Vals [x,y] us):∃u w',us=[u,w']/\RelV x u/\RelV y w':=by
 cases r with
 | cons r1 r2 =>
  cases r2 with
  | cons r3 r4=>cases r4;exact ⟨_,_,rfl,r1,r3⟩
def LenV (K:PySem.W.Frag) (x:V) (H:Hp) (n:Nat):Prop :=
 match x with
 | .str y=>y.length<=sizeLine/\n=y.length
 | .byt y=>y.size<=sizeLine/\n=y.size
 | .ref p=>(∃xs,SqL K H p xs/\n=xs.length)\/∃xs,SqT K H p xs/\n=xs.length
 | _=>False
theorem Qhw:V1 X (.builtin "len") (λxs H Q=>∃x n,xs=[x]/\LenV X.K x H n/\Q (.int n) H):=by
 intro pins s σ H xs us Q I r h
 obtain ⟨x,n,rfl,e,q⟩:=h
 obtain ⟨u,rfl,rx⟩:=Qjz r
 have hl:=Xk
 have hs:sizeLine=16777216:=sizeLine_eq
 cases x with
 | str y =>
  obtain ⟨t,rfl⟩:=rx
  obtain ⟨hy,e'⟩:y.length<=sizeLine/\n=y.length:=e
  subst e'
  exact len_str (by omega) ⟨.int _,H,I.tok _,⟨_,rfl⟩,q⟩
 | byt y =>
  obtain ⟨t,rfl⟩:=rx
  obtain ⟨hy,e'⟩:y.size<=sizeLine/\n=y.size:=e
  subst e'
  exact PySem.W.len_bytes (by omega) ⟨.int _,H,I.tok _,⟨_,rfl⟩,q⟩
 | ref p =>
  cases rx
  have e':(∃xs,SqL X.K H p xs/\n=xs.length)\/∃xs,SqT X.K H p xs/\n=xs.length:=e
  rcases e' with ⟨xs,hx,e'⟩ | ⟨xs,hx,e'⟩
  ·subst e'
   obtain ⟨its,r',pl,hz⟩:=I.list hx
   have hlen:=r'.length
   exact Calls.call_len_list pl.isList (by simp only [List.size_toArray];omega) ⟨.int xs.length,H,I.tok _,⟨_,by simp only [List.size_toArray];rw [hlen]⟩,q⟩
  ·subst e'
   obtain ⟨its,r',pl,hz⟩:=I.tuple hx
   have hlen:=r'.length
   exact len_tuple pl (by simp only [List.size_toArray];omega) ⟨.int xs.length,H,I.tok _,⟨_,by simp only [List.size_toArray];rw [hlen]⟩,q⟩
 | _=>exact (show False from e).elim
end
structure ObjM (h:Heap) (x dx C:Addr) (mA:Str->Option Value):Prop where
 obj:h.get? x=some (PySem.W.instObj C dx)
 ns:h.Ns1 dx mA
 ne:dx≠x
theorem Qfo {h:Heap} (n:h.Ns1 dx mA):∃od,h.get? dx=some od/\∀name,PySem.W.lookIn name od=some (mA name):=by
 obtain ⟨o,es,ep,ho,hd,hk,_,hm⟩:=n
 refine ⟨o,ho,λname=>?_⟩
 have e:=hm name
 unfold nsFind findBy at e
 rw [← Array.find?_toList] at e
 unfold PySem.W.lookIn
 rw [hd]
 dsimp only
 split
 ·rename_i y q
  rw [q] at e
  exact congrArg some e
 ·rename_i q
  rw [q] at e
  have a:es.toList.any (·.refKey)=false:=by
   rw [List.any_eq_false]
   intro y hy
   obtain ⟨z,t,hkey⟩:=hk y (Array.mem_toList_iff.mp hy)
   simp [DictEntry.refKey,hkey]
  have a':¬es.toList.any (·.refKey)=true:=by rw [a];exact Bool.false_ne_true
  rw [if_neg a']
  exact congrArg some e
theorem ObjM.look {h:Heap} {x:Addr} (I:ObjM h x dx C mA):∃od,PySem.W.InstAt h x (PySem.W.instObj C dx) C (some od)/\∀name,PySem.W.lookIn name od=some (mA name) :=
 let ⟨od,ho,hl⟩:=Qfo I.ns
 ⟨od,⟨I.obj,rfl,rfl,ho⟩,hl⟩
section
variable {x f:Addr} {v:Value}
theorem Qk7 {expr:Bool} (X:K.In s.heap) (I:ObjM s.heap x dx C mA) (hg:PySem.W.plainGet K C name=true) (hh:PySem.W.hasDictIn K C=true)
  (ha:PySem.W.findIn K (.ref C) name=some none) (hv:mA name=some v) (hv':PySem.W.handedIn v=true) (h:Q v { s with toks:=s.toks+1 }) :
  wpAny (model prog w) A (getAttr (.ref x) name expr) Q E s:=by
 obtain ⟨od,J,hl⟩:=I.look
 exact PySem.W.get_value X J (PySem.W.plainGet_of hg).1 (PySem.W.findObj_own hh ha rfl (by rw [hl,hv])) hv' h
theorem Qhl {Q:Value × List Value->Shared->Prop} (X:K.In s.heap) (I:ObjM s.heap x dx C mA) (hg:PySem.W.plainGet K C name=true)
  (hf:PySem.W.findIn K (.ref C) name=some (some (.ref f))) (ht:PySem.W.isFn K (.ref f)=true) (hv:mA name=none) (h:Q (.ref f,[.ref x]) s) :
  wpAny (model prog w) A (getMethod (.ref x) name pl) Q E s:=by
 obtain ⟨od,J,hl⟩:=I.look
 exact PySem.W.method_fn X J (PySem.W.plainGet_of hg).1 (PySem.W.plainGet_of hg).2 hf (beq_iff_eq.mp ht) (by show (PySem.W.lookIn name od).map (·.isSome)=some false;rw [hl,hv];rfl) h
theorem Qj6 {ns:List Str} {Q:Unit->Shared->Prop} (X:K.In s.heap) (I:ObjM s.heap x dx C mA)
  (hs:PySem.W.findIn K (.ref C) "__setattr__" = some (some (.builtin "object.__setattr__"))) (hp:PySem.W.plainOver K C=true) (ht:PySem.W.takerIn K C name=some none) (hh:PySem.W.hasDictIn K C=true)
  (hw:PySem.Within mA ns) (hsz:ns.length<=sizeLine)
  (h:∀h',ObjM h' x dx C (λy=>if y=name then some v else mA y)->Heap.SameBut dx s.heap h'->Q () { s with heap:=h',toks:=s.toks+2 }) :
  wpAny (model prog w) A (setAttr (.ref x) name v) Q E s:=by
 obtain ⟨od,J,hl⟩:=I.look
 refine PySem.W.set_plain X J hs (PySem.W.osa_open (s:={ s with toks:=s.toks+1 }) (r:=none) X J hp ht λb=>?_)
 obtain ⟨cd,hc,hd'⟩:=PySem.W.any_some hh
 have hx:s.heap.get? x=some ⟨.ref C,some dx,.plain,#[]⟩:=I.obj
 refine wpAny_bind (wpAny_pure (wpAny_bind (wpAny_bind (wpAny_loadPart hx (wpAny_bind (PySem.W.Looks.here (s:={ s with toks:=s.toks+1 }) (PySem.W.looks_clsIn X hc) ?_))))))
 rw [hd']
 refine wpAny_pure (a:=some dx) (wpAny_bind (wpAny_pure (wpAny_bind ?_)))
 refine wpAny_nsSet1 (s:={ s with toks:=s.toks+1 }) I.ns λh' hn2 hs2=>?_
 obtain ⟨oD,esD,epD,hoD,hdD,hcD⟩:=hn2.count (PySem.Within.cons name v hw)
 refine wpAny_bind (wpAny_lookBehind hoD (by rw [hdD];exact pastItsLine_dict (Nat.le_trans hcD (by rw [List.length_cons];omega))) ?_)
 exact wpAny_pure (h _ ⟨(hs2.2 _ (Ne.symm I.ne)).trans I.obj,hn2,I.ne⟩ hs2)
theorem Qhf {vs:List Value} (X:K.In s.heap) (hm:PySem.W.makesIn K C=true)
  (hi:PySem.W.findIn K (.ref C) "__init__" = some (some (.ref f))) (hf:PySem.W.typeIn K (.ref f)=some (.type "function"))
  (h:codeAny (model prog w) (A.under (.builtin "type.__call__" ⟨.ref C::vs,kw⟩)) (.call (.ref f) ⟨.ref (s.heap.objs.size+1)::vs,kw⟩) (PySem.W.InitBack (s.heap.objs.size+1) R)
   { s with heap:=(s.heap.push PySem.W.emptyDict).push (PySem.W.instObj C s.heap.objs.size) }) :
  codeAny (model prog w) A (.call (.ref C) ⟨vs,kw⟩) R s:=by
 obtain ⟨hh,g,d,t,os⟩:=s
 exact PySem.W.make_core (PySem.W.makes_of X hm) (PySem.W.looks_findIn X hi) (λself=>PySem.W.bind_fn X self hf) (.inl rfl) h
theorem Qfn (X:K.In s.heap) (hm:PySem.W.makesIn K C=true)
  (hi:PySem.W.findIn K (.ref C) "__init__" = some (some (.builtin "object.__init__")))
  (hb:∀self,PySem.W.Looks (model prog w) s.heap (bindSpecial (.builtin "object.__init__") self) (.builtin "object.__init__",[self]))
  (h:codeAny (model prog w) (A.under (.builtin "type.__call__" ⟨[.ref C],[]⟩)) (.call (.builtin "object.__init__") ⟨[.ref (s.heap.objs.size+1)],[]⟩) (PySem.W.InitBack (s.heap.objs.size+1) R)
   { s with heap:=(s.heap.push PySem.W.emptyDict).push (PySem.W.instObj C s.heap.objs.size) }) :
  codeAny (model prog w) A (.call (.ref C) ⟨[],[]⟩) R s:=by
 obtain ⟨hh,g,d,t,os⟩:=s
 exact PySem.W.make_core (PySem.W.makes_of X hm) (PySem.W.looks_findIn X hi) hb (.inr ⟨rfl,rfl⟩) h
end
def putF (f:Str) (v:V):List (Str × V)->List (Str × V)
 | []=>[(f,v)]
 | (g,x)::r=>if g=f then (g,v)::r else (g,x)::putF f v r
theorem Gq (f g:Str) (v:V):∀fs:List (Str × V),(putF f v fs).lookup g=if g=f then some v else fs.lookup g
 | []=>by
  show List.lookup g [(f,v)]=_
  by_cases h:g=f
  ·have hb:(g == f)=true:=beq_iff_eq.mpr h
   simp only [List.lookup,hb,if_pos h]
  ·have hb:(g == f)=false:=beq_eq_false_iff_ne.mpr h
   simp only [List.lookup,hb,if_neg h]
 | (k,x)::r=>by
  have ih:=Gq f g v r
  rw [show putF f v ((k,x)::r)=(if k=f then (k,v)::r else (k,x)::putF f v r) from rfl]
  by_cases hk:k=f
  ·rw [if_pos hk]
   by_cases h:g=k
   ·have hb:(g == k)=true:=beq_iff_eq.mpr h
    simp only [List.lookup,hb,if_pos (h.trans hk)]
   ·have hb:(g == k)=false:=beq_eq_false_iff_ne.mpr h
    simp only [List.lookup,hb,if_neg (λe:g=f=>h (e.trans hk.symm))]
  ·rw [if_neg hk]
   by_cases h:g=k
   ·have hb:(g == k)=true:=beq_iff_eq.mpr h
    simp only [List.lookup,hb,if_neg (λe:g=f=>hk (h.symm.trans e))]
   ·have hb:(g == k)=false:=beq_eq_false_iff_ne.mpr h
    simp only [List.lookup,hb]
    exact ih
theorem Gu (f:Str) (v:V):∀fs:List (Str × V),f∈(putF f v fs).map (·.1)/\∀g,g∈fs.map (·.1)->g∈(putF f v fs).map (·.1)
 | []=>⟨by simp [putF],λg h=>by simp at h⟩
 | (k,x)::r=>by
  obtain ⟨i1,i2⟩:=Gu f v r
  rw [show putF f v ((k,x)::r)=(if k=f then (k,v)::r else (k,x)::putF f v r) from rfl]
  by_cases hk:k=f
  ·rw [if_pos hk]
   subst hk
   exact ⟨by simp,λg h=>by simpa using h⟩
  ·rw [if_neg hk]
   refine ⟨?_,λg h=>?_⟩
   ·rw [List.map_cons]
    exact List.mem_cons_of_mem _ i1
   ·rw [List.map_cons] at h ⊢
    rcases List.mem_cons.mp h with e | e
    ·exact List.mem_cons.mpr (.inl e)
    ·exact List.mem_cons_of_mem _ (i2 g e)
theorem Gs (f:Str) (v:V):∀fs:List (Str × V),(putF f v fs).length<=fs.length+1
 | []=>by simp [putF]
 | (k,x)::r=>by
  have ih:=Gs f v r
  rw [show putF f v ((k,x)::r)=(if k=f then (k,v)::r else (k,x)::putF f v r) from rfl]
  by_cases hk:k=f
  ·rw [if_pos hk,List.length_cons,List.length_cons];omega
  ·rw [if_neg hk,List.length_cons,List.length_cons];omega
theorem RelO.some_of (r:RelO (some v) o):∃u,o=some u/\RelV v u:=by
 cases o with
 | none=>exact (show False from r).elim
 | some u=>exact ⟨u,rfl,r⟩
theorem RelO.none_of (r:RelO none o):o=none:=by
 cases o with
 | none=>rfl
 | some u=>exact (show False from r).elim
theorem Qf1 (r:RelV v u):PySem.W.handedIn u=true:=by
 cases v with
 | non=>cases (show u=Value.none from r);rfl
 | bl b=>cases (show u=Value.bool b from r);rfl
 | int i=>obtain ⟨t,e⟩:=(show ∃t,u=Value.int i t from r);cases e;rfl
 | str x=>obtain ⟨t,e⟩:=(show ∃t,u=Value.str x t from r);cases e;rfl
 | byt b=>obtain ⟨t,e⟩:=(show ∃t,u=Value.bytes b t from r);cases e;rfl
 | flt b=>obtain ⟨t,e⟩:=(show ∃t,u=Value.float b t from r);cases e;rfl
 | ref a=>cases (show u=Value.ref a from r);rfl
 | ty n=>cases (show u=Value.type n from r);rfl
section
variable {h:Heap}
theorem X5 (hok:HOk P w H h) (e:H a=some (.ins C dx fs)):∃mA,ObjM h a dx C mA/\(∀f,RelO (fs.lookup f) (mA f))/\PySem.Within mA (fs.map (·.1))/\fs.length<=1000/\H dx=some (.own a):=by
 obtain ⟨d,z,ne,ob,mA,n,r,q⟩:=(show J0 P w H h a (.ins C dx fs) from hok a _ e)
 exact ⟨mA,⟨ob,n,ne⟩,r,q,z,d⟩
end
structure Cls (K:PySem.W.Frag) (C:Addr):Prop where
 pg:PySem.W.plainGet K C Str.empty=true
 hd:PySem.W.hasDictIn K C=true
 po:PySem.W.plainOver K C=true
 sa:PySem.W.findIn K (.ref C) "__setattr__" = some (some (.builtin "object.__setattr__"))
theorem Cls.get (c:Cls K C) (f:Str):PySem.W.plainGet K C f=true:=c.pg
def Q1 (K:PySem.W.Frag) (C:Addr) (f:Str):Prop:=PySem.W.findIn K (.ref C) f=some none
theorem Q1.taker {f:Str} (n:Q1 K C f):PySem.W.takerIn K C f=some none:=by
 unfold PySem.W.takerIn
 rw [show PySem.W.findIn K (.ref C) f=some none from n]
 rfl
structure Meth (K:PySem.W.Frag) (C:Addr) (m:Str) (f:Addr):Prop where
 at_:PySem.W.findIn K (.ref C) m=some (some (.ref f))
 fn:PySem.W.isFn K (.ref f)=true
 kp:PySem.W.keepIn K (.ref f)=true
section
variable {f:Str}
theorem Qdt {b:Bool} (I:Inv X pins σ H s) (e:H a=some (.ins C dx fs)) (c:Cls X.K C) (n:Q1 X.K C f) (l:fs.lookup f=some v)
  (h:∀u s',Inv X pins σ H s'->RelV v u->Q u s'):wpAny (model X.prog X.w) A (getAttr (.ref a) f b) Q E s:=by
 obtain ⟨mA,O,r,_,_,_⟩:=X5 I.hok e
 obtain ⟨u,hu,ru⟩:=RelO.some_of (v:=v) (o:=mA f) (by rw [← l];exact r f)
 exact Qk7 I.kIn O (c.get f) c.hd n hu (Qf1 ru) (h u _ (I.tok _) ru)
theorem Qds {g:Addr} {Q:Value × List Value->Shared->Prop} (I:Inv X pins σ H s) (e:H a=some (.ins C dx fs)) (c:Cls X.K C) (k:Meth X.K C m g) (l:fs.lookup m=none)
  (h:Q (.ref g,[.ref a]) s):wpAny (model X.prog X.w) A (getMethod (.ref a) m pl) Q E s:=by
 obtain ⟨mA,O,r,_,_,_⟩:=X5 I.hok e
 have hn:mA m=none:=RelO.none_of (by rw [← l];exact r m)
 exact Qhl I.kIn O (c.get m) k.at_ k.fn hn h
theorem Qdb {Q:Unit->Shared->Prop} (I:Inv X pins σ H s) (e:H a=some (.ins C dx fs)) (c:Cls X.K C) (n:Q1 X.K C f) (hl:fs.length<1000) (ry:RelV y u)
  (h:∀s',Inv X pins σ (upd H a (.ins C dx (putF f y fs))) s'->Q () s'):wpAny (model X.prog X.w) A (setAttr (.ref a) f u) Q E s:=by
 obtain ⟨mA,O,r,wi,_,ho⟩:=X5 I.hok e
 have hz:(fs.map (·.1)).length<=sizeLine:=by rw [List.length_map,sizeLine_eq];omega
 refine Qj6 I.kIn O c.sa c.po n.taker c.hd wi hz λh' O' sb=>h _ ?_
 have hd:∃o,h'.get? dx=some o:=let ⟨o,_,_,e',_⟩:=O'.ns;⟨o,e'⟩
 refine I.write (x:=a) (e:=dx) (by rw [e];exact True.intro) (.inr ho) (λb q hb z=>(sb.2 b hb).trans z) hd ?_
 refine ⟨by rw [Qk O.ne];exact ho,?_,O.ne,O'.obj,_,O'.ns,λg=>?_,λg hg=>?_⟩
 ·have:=Gs f y fs;omega
 ·show RelO ((putF f y fs).lookup g) (if g=f then some u else mA g)
  rw [Gq]
  by_cases q:g=f
  ·rw [if_pos q,if_pos q];exact ry
  ·rw [if_neg q,if_neg q];exact r g
 ·by_cases q:g=f
  ·rw [q];exact (Gu f y fs).1
  ·refine (Gu f y fs).2 g (wi g λz=>hg ?_)
   show (if g=f then some u else mA g)=none
   rw [if_neg q];exact z
theorem Inv.made (I:Inv X pins σ H s):Inv X pins σ (upd (upd H s.heap.objs.size (.own (s.heap.objs.size+1))) (s.heap.objs.size+1) (.ins C s.heap.objs.size []))
  { s with heap:=(s.heap.push PySem.W.emptyDict).push (PySem.W.instObj C s.heap.objs.size) }:=by
 have e1:(s.heap.push PySem.W.emptyDict).get? s.heap.objs.size=some PySem.W.emptyDict:=Heap.get?_push_size s.heap rfl
 have e2:((s.heap.push PySem.W.emptyDict).push (PySem.W.instObj C s.heap.objs.size)).get? (s.heap.objs.size+1)=some (PySem.W.instObj C s.heap.objs.size):=by
  have:=Heap.get?_push_size (s.heap.push PySem.W.emptyDict) (o:=PySem.W.instObj C s.heap.objs.size) rfl
  rwa [Heap.size_push] at this
 have e3:(s.heap.push PySem.W.emptyDict).Ns s.heap.objs.size (λ_=>none):=⟨PySem.W.emptyDict,#[],_,e1,rfl,(λe he=>absurd he (by simp)),λ_=>rfl⟩
 have I1:=I.laid (a:=s.heap.objs.size) (o:=.own (s.heap.objs.size+1)) (h':=s.heap.push PySem.W.emptyDict) (t':=s.toks) (λb u q=>Heap.get?_push_of_some _ q) (Nat.le_refl _) ⟨_,e1⟩
 refine I1.laid (a:=s.heap.objs.size+1) (o:=.ins C s.heap.objs.size []) (t':=s.toks) (λb u q=>Heap.get?_push_of_some _ q) (Nat.le_of_eq (Heap.size_push _ _)) ?_
 have ne:s.heap.objs.size≠s.heap.objs.size+1:=Nat.ne_of_lt (Nat.lt_succ_self _)
 refine ⟨by rw [Qk ne,Qj],Nat.zero_le _,ne,e2,λ_=>none,(Heap.Ns1.of_empty e3).at λo q=>Heap.get?_push_of_some _ q,λ_=>True.intro,λy hy=>absurd rfl hy⟩
theorem Qlo {f:Str} (hb:attributeBase e f env (eval e env)=eval e env)
  (h:wpAny (model prog w) A (eval e env) (λo s₁=>wpAny (model prog w) A (getAttr o f true) Q E s₁) E s):wpAny (model prog w) A (eval (.Attribute e f pos) env) Q E s :=
 Attribute_any_ h (by rw [arm_eval_Attribute,hb])
end
def tFld (K:PySem.W.Frag) (ta:TE) (f:Str):TE:=λσ H Q=>ta σ H λx H1=>∃a C dx fs v,x=.ref a/\H1 a=some (.ins C dx fs)/\Cls K C/\Q1 K C f/\fs.lookup f=some v/\Q v H1
def sFld (K:PySem.W.Frag) (ta tv:TE) (f:Str):TS:=λD σ H=>tv σ H λy H1=>ta σ H1 λx H2=>∃a C dx fs,x=.ref a/\H2 a=some (.ins C dx fs)/\Cls K C/\Q1 K C f/\fs.length<1000 /\
 D.nx σ (upd H2 a (.ins C dx (putF f y fs)))
section
variable {o value:Expr} {f:Str} {tv:TE}
theorem Qnd (he:PE X e ta) (hb:attributeBase e f X.env (eval e X.env)=eval e X.env):PE X (.Attribute e f pos) (tFld X.K ta f):=by
 intro pins s σ H Q I h
 refine Qlo hb (thn (he pins s σ H _ I h) λu s1 ⟨x,H1,I1,rx,a,C,dx,fs,v,ex,ea,c,n,l,q⟩=>?_)
 subst ex
 obtain rfl:u=Value.ref a:=rx
 exact Qdt I1 ea c n l λu' s2 I2 ru=>⟨v,H1,I2,ru,q⟩
theorem Xi (ha:PE X o ta) (hv:PE X value tv) (hs:swapsWith value (some (.Attribute o f pos')) pos.line X.env=pure false):PS X (.Assign [.Attribute o f pos'] value pos) (sFld X.K ta tv f):=by
 intro pins s σ H D I h
 refine plainObj_wpAny_Assign_Attribute (thn (hv pins s σ H _ I h) λu s1 ⟨y,H1,I1,ry,q⟩=>thn (ha pins s1 σ H1 _ I1 q) λov s2 ⟨x,H2,I2,rx,a,C,dx,fs,ex,ea,c,n,l,q2⟩=>?_) hs
 subst ex
 obtain rfl:ov=Value.ref a:=rx
 exact Qdb I2 ea c n l ry λs3 I3=>⟨σ,_,I3,q2⟩
end
section
variable {c:Value} {b:Bool}
inductive TyOf (K:PySem.W.Frag) (H:Hp):V->Value->Prop where
 | non:TyOf K H .non (.type "NoneType")
 | bl (x:Bool):TyOf K H (.bl x) (.type "bool")
 | int (i:Int):TyOf K H (.int i) (.type "int")
 | str (x:Str):TyOf K H (.str x) (.type "str")
 | flt (x:UInt64):TyOf K H (.flt x) (.type "float")
 | lst {a:Addr} {xs:List V} (e:H a=some (.lst xs)):TyOf K H (.ref a) (.type "list")
 | frz {a:Addr} {o:Obj} {xs:List V} (e:H a=some (.frz o (.lst xs))):TyOf K H (.ref a) (.type "list")
 | tup {a:Addr} {xs:List V} (e:H a=some (.tup xs)):TyOf K H (.ref a) (.type "tuple")
 | dK {a:Addr} {kvs:List (Key × V)} (e:H a=some (.dK kvs)):TyOf K H (.ref a) (.type "dict")
 | dT {a:Addr} {kvs:List (List Key × V)} (e:H a=some (.dT kvs)):TyOf K H (.ref a) (.type "dict")
 | ins {a C dx:Addr} {fs:List (Str × V)} (e:H a=some (.ins C dx fs)) (cl:Cls K C) (ha:PySem.W.findIn K (.ref C) "__class__" = some (some (.builtin "object.__class__")))
   (hn:PySem.W.specialIn K (.builtin "object.__class__") "__get__" = some (some (.builtin "getset_descriptor.__get__"))) (htk:PySem.W.takesIn K (.builtin "object.__class__")=some true)
   (hm:PySem.W.mroIn K C (.type "object")=some true):TyOf K H (.ref a) (.ref C)
theorem Qbc {x:V} {t:Value} (I:Inv X pins σ H s) (rx:RelV x u) (ty:TyOf X.K H x t) (e:PySem.W.kitOne X.K t c=some b) (h:∀tk,Q (.bool b) { s with toks:=tk }) :
  wpAny (model X.prog X.w) A (call (.builtin "isinstance") [u,c]) Q E s:=by
 cases ty with
 | non=>cases (show u=Value.none from rx);exact PySem.W.kia_one PySem.W.kitx_none I.kIn True.intro e (λz=>nomatch z) h
 | bl y=>cases (show u=Value.bool y from rx);exact PySem.W.kia_one PySem.W.kitx_bool I.kIn True.intro e (λz=>nomatch z) h
 | int i=>obtain ⟨t,q⟩:=(show ∃t,u=Value.int i t from rx);cases q;exact PySem.W.kia_one PySem.W.kitx_int I.kIn True.intro e (λz=>nomatch z) h
 | str y=>obtain ⟨t,q⟩:=(show ∃t,u=Value.str y t from rx);cases q;exact PySem.W.kia_one PySem.W.kitx_str I.kIn True.intro e (λz=>nomatch z) h
 | flt y=>obtain ⟨t,q⟩:=(show ∃t,u=Value.float y t from rx);cases q;exact PySem.W.kia_one PySem.W.kitx_float I.kIn True.intro e (λz=>nomatch z) h
 | @lst a xs ea =>
  cases (show u=Value.ref a from rx)
  obtain ⟨_,_,n,_,h1⟩:=(show J0 X.prog X.w H s.heap a (.lst xs) from I.hok a _ ea)
  exact PySem.W.kia_one PySem.W.kitx_list I.kIn ⟨_,h1,rfl⟩ e (λz=>nomatch z) h
 | @frz a ob xs ea =>
  cases (show u=Value.ref a from rx)
  obtain ⟨_,_,_,n,_,h1⟩:=(show J0 X.prog X.w H s.heap a (.frz ob (.lst xs)) from I.hok a _ ea)
  exact PySem.W.kia_one PySem.W.kitx_list I.kIn ⟨_,h1,rfl⟩ e (λz=>nomatch z) h
 | @tup a xs ea =>
  cases (show u=Value.ref a from rx)
  obtain ⟨_,_,_,p⟩:=(show J0 X.prog X.w H s.heap a (.tup xs) from I.hok a _ ea)
  obtain ⟨o,h1,h2,_⟩:=p
  exact PySem.W.kia_one PySem.W.kitx_tuple I.kIn ⟨o,h1,h2⟩ e (λz=>nomatch z) h
 | @dK a kvs ea =>
  cases (show u=Value.ref a from rx)
  obtain ⟨_,_,vs,_,p⟩:=(show J0 X.prog X.w H s.heap a (.dK kvs) from I.hok a _ ea)
  obtain ⟨o,es,ep,h1,h2,_⟩:=p
  exact PySem.W.kia_one PySem.W.kitx_dict I.kIn ⟨o,h1,h2.1⟩ e (λz=>nomatch z) h
 | @dT a kvs ea =>
  cases (show u=Value.ref a from rx)
  obtain ⟨_,_,xs,_,o,es,ep,h1,h2,_⟩:=(show J0 X.prog X.w H s.heap a (.dT kvs) from I.hok a _ ea)
  exact PySem.W.kia_one PySem.W.kitx_dict I.kIn ⟨o,h1,h2.1⟩ e (λz=>nomatch z) h
 | @ins a C dx fs ea cl ha hn htk hm =>
  cases (show u=Value.ref a from rx)
  obtain ⟨mA,O,_⟩:=X5 I.hok ea
  obtain ⟨od,J,_⟩:=O.look
  exact PySem.W.kia_one (PySem.W.kitx_own (cl.get _) cl.hd ha hn htk hm) I.kIn J e (λz=>nomatch z) h
end
structure Room (k:Nat) (A:Around):Prop where
 hd:A.handled=none
 dp:A.depth+3*k+5<recursionLimit
 un:A.units+16*k+200<cLine
theorem Room.mono {k:Nat} (r:Room k A) (h:j<=k):Room j A:=⟨r.hd,by have:=r.dp;omega,by have:=r.un;omega⟩
theorem Room.deeper {k:Nat} (r:Room (k+1) A) (env:Env):Room k (A.deeper env) :=
 ⟨r.hd,by have:=r.dp;show A.depth+1+3*k+5<_;omega,by have:=r.un;show A.units+3+16*k+200<_;omega⟩
theorem Qdo:(A.under (.builtin "type.__call__" ⟨.ref C::us,kw⟩)).depth=A.depth+1:=by
 first | rfl | simp [Around.under,Code.weight,Code.isCreation,Code.isGuard,Code.isCaller,Code.frames,Code.isFrame,guardIds]
theorem Qdn:(A.under (.builtin "type.__call__" ⟨.ref C::us,kw⟩)).units=A.units+1:=by
 first | rfl | simp [Around.under,Code.cUnits,Code.frames,Code.isFrame]
theorem Room.make {k:Nat} (r:Room (k+1) A) (C:Addr) (us:List Value) (kw:List (Str × Value)):Room k (A.under (.builtin "type.__call__" ⟨.ref C::us,kw⟩)) :=
 ⟨r.hd,by have:=r.dp;rw [Qdo];omega,by have:=r.un;rw [Qdn];omega⟩
theorem Room.depth {k:Nat} (r:Room k A):A.depth<recursionLimit:=by have:=r.dp;omega
theorem Room.units {k:Nat} (r:Room k A):A.units+64<cLine:=by have:=r.un;omega
def tNil:TA:=λ_ H Q=>Q [] H
def Qpg (ta:TE) (tr:TA):TA:=λσ H Q=>ta σ H λx H1=>tr σ H1 λxs H2=>Q (x::xs) H2
section
variable {t:TA}
theorem Qcr:PA X [] tNil:=λ_ _ _ _ H Q I h=>Calls.spliced_nil ⟨[],H,I,.nil,h⟩
theorem V6 (ha:PE X e te) (hr:PA X es t) (hs:starEach (e::es) X.env=(false,eval e X.env)::starEach es X.env:=by rfl):PA X (e::es) (Qpg te t):=by
 intro pos pins s σ H Q I h
 rw [hs]
 show wpAny _ _ (spliced ((false,eval e X.env)::backTo pos (starEach es X.env))) _ _ s
 refine Calls.spliced_cons (thn (ha pins s σ H _ I h) λu s1 ⟨x,H1,I1,r1,q1⟩=>?_)
 exact thn (hr pos pins s1 σ H1 _ I1 q1) λus s2 ⟨xs,H2,I2,r2,q2⟩=>⟨x::xs,H2,I2,.cons r1 r2,q2⟩
def tTup (t:TA):TE:=λσ H Q=>t σ H λxs H1=>xs.length<=sizeLine/\∀p,H1 p=none->Q (.ref p) (upd H1 p (.tup xs))
def tLst (t:TA):TE:=λσ H Q=>t σ H λxs H1=>xs.length<=sizeLine/\∀p,H1 p=none->Q (.ref p) (upd H1 p (.lst xs))
theorem Qm8 {x1} (h:PA X es t):PE X (.Tuple es x1 pos) (tTup t):=by
 intro pins s σ H Q I hq
 refine wpAny_Tuple_spliced (thn (h pos pins s σ H _ I hq) λus s1 ⟨xs,H1,I1,r,z,q⟩=>⟨by rw [← r.length];exact z,?_⟩)
 have hf:H1 s1.heap.objs.size=none:=I1.hok.fresh (Nat.le_refl _)
 refine ⟨.ref s1.heap.objs.size,upd H1 s1.heap.objs.size (.tup xs),I1.laid (t':=s1.toks) (λb u e=>Heap.get?_push_of_some _ e) (Nat.le_refl _) ?_,rfl,q _ hf⟩
 exact ⟨z,us,r,⟨_,Heap.get?_push_size _ rfl,rfl,_,rfl⟩⟩
theorem Qnb (h:PA X es t):PE X (.List es pos) (tLst t):=by
 intro pins s σ H Q I hq
 refine wpAny_List_spliced (thn (h pos pins s σ H _ I hq) λus s1 ⟨xs,H1,I1,r,z,q⟩=>⟨by rw [← r.length];exact z,?_⟩)
 have hf:H1 s1.heap.objs.size=none:=I1.hok.fresh (Nat.le_refl _)
 refine ⟨.ref s1.heap.objs.size,upd H1 s1.heap.objs.size (.lst xs),I1.laid (t':=s1.toks) (λb u e=>Heap.get?_push_of_some _ e) (Nat.le_refl _) ?_,rfl,q _ hf⟩
 exact ⟨z,us,0,r,Heap.get?_push_size _ rfl⟩
end
abbrev Sp:=List V->Hp->VK->XK->Prop
abbrev CXT:=List Env->Hp->Shared->XK->Value->Shared->Prop
end L2
variable {o:Option L2.V} {f:PySem.Addr} {r:L2.V->List L2.V->L2.Hp->L2.VK->Prop} {mg:PySem.Str->Option PySem.Value} {base:PySem.Heap} {CX:L2.CXT} {fd:PySem.FuncData} {ps:List PySem.Str} {sp:L2.Sp} {outer:List PySem.Env} {qual:PySem.Str} {scope:PySem.Scope} {osl:Array (Option PySem.Value)} {T:String} {apos:PySem.Pos}
namespace L2
open PySem PySem.Spec PyProof.Rows
structure Env0 (P:Program) (w:World) (K:PySem.W.Frag) (mg:Str->Option Value) (base:Heap) (A:Around) (outer:List Env) (s:Shared) (H:Hp):Prop where
 frames:A.frames=some outer
 mod:Mod K mg base
 bs:∀b o,base.get? b=some o->s.heap.get? b=some o/\H b=none
 bsz:base.objs.size<=s.heap.objs.size
 funs:s.heap.FunFrames base outer
 frf:∀b∈frs outer,H b=none
 hok:HOk P w H s.heap
 bare:AllBare s.gens
def CE (outer:List Env) (P:Program) (w:World) (H:Hp) (s:Shared) (Q:VK) (u:Value) (s':Shared):Prop :=
 ∃v H',s'.os=s.os/\AllBare s'.gens/\Un (frs outer) [] H H' s.heap s'.heap/\HOk P w H' s'.heap/\RelV v u/\Q v H'
def CR (CX:CXT) (outer:List Env) (P:Program) (w:World) (H:Hp) (s:Shared) (Q:VK) (E:XK) (r:Result) (s':Shared):Prop :=
 match r with
 | .ok (.ret u)=>CE outer P w H s Q u s'
 | .ok _=>False
 | .error e=>CX outer H s E e s'
structure FnOk (P:Program) (w:World) (K:PySem.W.Frag) (mg:Str->Option Value) (base:Heap) (CX:CXT) (k:Nat) (f:Addr) (fd:FuncData) (ps:List Str) (sp:Sp):Prop where
 len:∀vs H Q E,sp vs H Q E->vs.length=ps.length
 run:∀(A:Around) (outer:List Env) (s:Shared) (H:Hp) (args:Args) (us:List Value) (vs:List V) (Q:VK) (E:XK),Room k A->Env0 P w K mg base A outer s H->BindsTo s fd args (ps.zip us)->Vals vs us->sp vs H Q E ->
  codeAny (model P w) A (.call (.ref f) args) (CR CX outer P w H s Q E) s
theorem FnOk.mono {k:Nat} (F:FnOk P w K mg base CX j f fd ps sp) (h:j<=k) :
  FnOk P w K mg base CX k f fd ps sp:=⟨F.len,λA outer s H args us vs Q E hr=>F.run A outer s H args us vs Q E (hr.mono h)⟩
theorem Env0.make (e:Env0 P w K mg base A outer s H) (C:Addr) (us:List Value) (kw:List (Str × Value)) :
  Env0 P w K mg base (A.under (.builtin "type.__call__" ⟨.ref C::us,kw⟩)) outer s H:=⟨by first | exact e.frames | (simpa [Around.under,Code.envs,Code.isFrame,pushEnvs] using e.frames),e.mod,e.bs,e.bsz,e.funs,e.frf,e.hok,e.bare⟩
theorem Inv.env0 (I:Inv X pins σ H s):Env0 X.prog X.w X.K X.mg X.base X.A X.stack s H :=
 ⟨I.ok.frames,I.ok.mod,I.bs,Nat.le_trans I.ok.bsz I.sz,I.stack,I.stkFree,I.hok,I.bare⟩
theorem Inv.after {Q:VK} (I:Inv X pins σ H s) (h:CE X.stack X.prog X.w H s Q u s'):EP X pins σ Q u s':=by
 obtain ⟨v,H',os,bare,un,hok,r,q⟩:=h
 obtain ⟨hh,g,d,t,os'⟩:=s'
 obtain rfl:os'=s.os:=os
 exact ⟨v,H',I.call (h':=hh) (g':=g) (d':=d) (t':=t) (ch:=[]) un hok bare (λb z=>absurd z (by simp)),r,q⟩
def Qph (sp:Sp) (dvs:List V) (E:XK) (t:TA):TE:=λσ H Q=>t σ H λvs H1=>sp (vs++dvs) H1 Q E
def Qpe (C:Addr) (sp:Sp) (dvs:List V) (E:XK) (t:TA):TE:=λσ H Q=>t σ H λvs H1=>∀x dx,H1 x=none->H1 dx=none->dx≠x ->
 sp (.ref x::(vs++dvs)) (upd (upd H1 dx (.own x)) x (.ins C dx [])) (λv H2=>v=.non/\Q (.ref x) H2) E
def Yt (K:PySem.W.Frag) (fd:FuncData) (ps:List Str) (ds:List Value):Prop :=
 ∀(s:Shared) (us:List Value),K.In s.heap->(us++ds).length=ps.length->BindsTo s fd ⟨us,[]⟩ (ps.zip (us++ds))
theorem Yt.all (h:∀us:List Value,us.length=ps.length->bindArgs fd ⟨us,[]⟩=pure (ps.zip us)):Yt K fd ps []:=λs us _ hl=>by
 rw [List.append_nil] at hl ⊢
 exact .of_eq (h us hl)
def Qbl (CX:CXT) (X:Cx) (E:XK):Prop:=∀(pins:List (Addr × Obj)) (σ:St) (H:Hp) (s:Shared) (e:Value) (s':Shared),Inv X pins σ H s->CX X.stack H s E e s'->X.xe e s'
section
variable {k:Nat} {dvs:List V} {ds:List Value} {E:XK} {t:TA}
theorem Qh9 {Q:VK} (F:FnOk X.prog X.w X.K X.mg X.base CX k f fd ps sp) (hr:Room k X.A) (hb:Yt X.K fd ps ds) (hd:Vals dvs ds) (hx:Qbl CX X E)
  (I:Inv X pins σ H s) (r:Vals vs us) (h:sp (vs++dvs) H Q E):wpAny (model X.prog X.w) X.A (call (.ref f) us) (EP X pins σ Q) X.xe s:=by
 have r2:Vals (vs++dvs) (us++ds):=r.append hd
 have hl:(us++ds).length=ps.length:=by rw [← r2.length];exact F.len _ _ _ _ h
 refine wpAny_call (codeAny_mono (F.run X.A X.stack s H ⟨us,[]⟩ (us++ds) (vs++dvs) Q E hr I.env0 (hb s us I.kIn hl) r2 h) λr s' hq=>?_)
 cases r with
 | error e=>exact hx pins σ H s e s' I hq
 | ok fl =>
  cases fl with
  | ret u=>exact I.after hq
  | next=>exact False.elim hq
  | brk=>exact False.elim hq
  | cont=>exact False.elim hq
theorem Qfh (F:FnOk X.prog X.w X.K X.mg X.base CX k f fd ps sp) (hr:Room k X.A) (hg:Gl X x) (hm:X.mg x=some (.ref f)) (hk:PySem.W.keepIn X.K (.ref f)=true) (hb:Yt X.K fd ps ds) (hd:Vals dvs ds) (hx:Qbl CX X E)
  (ha:PA X (e::es) t) (hdb:(x == ("__debug__" : Str))=false:=by decide) (he:starEach (e::es) X.env=(false,eval e X.env)::starEach es X.env:=by rfl) (hpl:(backTo pos (starEach es X.env)).any (·.1)=false:=by rfl) :
  PE X (.Call (.Name x p) (e::es) [] pos) (Qph sp dvs E t):=by
 intro pins s σ H Q I h
 refine wpAny_Call_Name_kw (X3 I hg hm ?_ hdb)
 refine PySem.W.callWith_K (h₀:=X.base) I.ok.mod.kin hk (thn (ha pos pins s σ H _ I h) λus s1 ⟨vs,H1,I1,r,q⟩=>⟨I1.kIn,?_⟩) he hpl
 exact Qh9 F hr hb hd hx I1 r q
structure Mk (K:PySem.W.Frag) (C f:Addr):Prop where
 makes:PySem.W.makesIn K C=true
 init:PySem.W.findIn K (.ref C) "__init__" = some (some (.ref f))
 fn:PySem.W.isFn K (.ref f)=true
 kp:PySem.W.keepIn K (.ref C)=true
theorem Qgz {Q:VK} (M:Mk X.K C f) (F:FnOk X.prog X.w X.K X.mg X.base CX k f fd ps sp) (hr:Room (k+1) X.A) (hb:Yt X.K fd ps ds) (hd:Vals dvs ds)
  (hx:Qbl CX X E) (I:Inv X pins σ H s) (r:Vals vs us)
  (h:∀x dx,H x=none->H dx=none->dx≠x->sp (.ref x::(vs++dvs)) (upd (upd H dx (.own x)) x (.ins C dx [])) (λv H2=>v=.non/\Q (.ref x) H2) E) :
  wpAny (model X.prog X.w) X.A (call (.ref C) us) (EP X pins σ Q) X.xe s:=by
 have hq:=h (s.heap.objs.size+1) s.heap.objs.size (I.hok.fresh (Nat.le_succ _)) (I.hok.fresh (Nat.le_refl _)) (Nat.ne_of_lt (Nat.lt_succ_self _))
 have I2:=Inv.made (C:=C) I
 have r2:Vals (V.ref (s.heap.objs.size+1)::(vs++dvs)) (Value.ref (s.heap.objs.size+1)::(us++ds)):=.cons rfl (r.append hd)
 have hl:(Value.ref (s.heap.objs.size+1)::us++ds).length=ps.length:=by
  have e:=r2.length
  rw [F.len _ _ _ _ hq] at e
  exact e.symm
 refine wpAny_call (Qhf (f:=f) I.kIn M.makes M.init (beq_iff_eq.mp M.fn) (codeAny_mono (F.run _ X.stack _ _ ⟨Value.ref (s.heap.objs.size+1)::us,[]⟩ (Value.ref (s.heap.objs.size+1)::(us++ds)) _ _ E (hr.make C us [])
  (I2.env0.make C us []) (hb _ (Value.ref (s.heap.objs.size+1)::us) I2.kIn hl) r2 hq) λr s' hq'=>?_))
 cases r with
 | error e=>exact hx pins σ _ _ e s' I2 hq'
 | ok fl =>
  cases fl with
  | ret u =>
   obtain ⟨v,H',I3,rv,ev,q3⟩:=I2.after hq'
   subst ev
   exact ⟨rv,⟨V.ref (s.heap.objs.size+1),H',I3,rfl,q3⟩⟩
  | next=>exact False.elim hq'
  | brk=>exact False.elim hq'
  | cont=>exact False.elim hq'
theorem Qkk (M:Mk X.K C f) (F:FnOk X.prog X.w X.K X.mg X.base CX k f fd ps sp) (hr:Room (k+1) X.A) (hg:Gl X x) (hm:X.mg x=some (.ref C)) (hb:Yt X.K fd ps ds) (hd:Vals dvs ds) (hx:Qbl CX X E)
  (ha:PA X (e::es) t) (hdb:(x == ("__debug__" : Str))=false:=by decide) (he:starEach (e::es) X.env=(false,eval e X.env)::starEach es X.env:=by rfl) (hpl:(backTo pos (starEach es X.env)).any (·.1)=false:=by rfl) :
  PE X (.Call (.Name x p) (e::es) [] pos) (Qpe C sp dvs E t):=by
 intro pins s σ H Q I h
 refine wpAny_Call_Name_kw (X3 I hg hm ?_ hdb)
 refine PySem.W.callWith_K (h₀:=X.base) I.ok.mod.kin M.kp (thn (ha pos pins s σ H _ I h) λus s1 ⟨vs,H1,I1,r,q⟩=>⟨I1.kIn,?_⟩) he hpl
 exact Qgz M F hr hb hd hx I1 r q
end
structure FnScope (N P:List Str) (sc:Scope):Prop where
 kind:sc.kind=.function
 co:sc.isCoroutine=false
 gen:sc.isGenerator=false
 nd:N.Nodup
 pre:N.take P.length=P
 par:∀x∈P,sc.names.lookup x=some .local\/sc.names.lookup x=some .cell
 nofree:∀y∈sc.names,y.2 ≠ .free
theorem Qbh {kindOf:Str->Option NameKind} {x:Str}:∀{binds:List (Str × Value)} {m:Str->Option Value},(∀v,(x,v)∉binds)->bindL kindOf binds m x=m x
 | [],_,_=>rfl
 | (n,v)::r,m,h=>by
  unfold bindL
  rw [Qbh λw hw=>h w (List.mem_cons_of_mem _ hw)]
  split
  ·have:x≠n:=by rintro rfl;exact h v List.mem_cons_self
   simp [this]
  ·rfl
theorem Qbj {kindOf:Str->Option NameKind} {x:Str}:∀{binds:List (Str × Value)} {m:Str->Option Value},(∀v,(x,v)∉binds)->bindC kindOf binds m x=m x
 | [],_,_=>rfl
 | (n,v)::r,m,h=>by
  unfold bindC
  rw [Qbj λw hw=>h w (List.mem_cons_of_mem _ hw)]
  split
  ·rfl
  ·have:x≠n:=by rintro rfl;exact h v List.mem_cons_self
   simp [this]
theorem Qbi {kindOf:Str->Option NameKind} {x:Str} {v:Value}:∀{P:List Str} {vs:List Value} {i:Nat} {m:Str->Option Value},P.Nodup->P[i]? = some x->vs[i]? = some v->kindOf x=some .local ->
  bindL kindOf (P.zip vs) m x=some v
 | [],_,_,_,_,h,_,_=>by simp at h
 | _::_,[],_,_,_,_,h,_=>by simp at h
 | p::P,w::vs,0,m,nd,h1,h2,hk=>by
  simp at h1 h2;subst h1;subst h2
  show bindL kindOf ((p,w)::P.zip vs) m p=_
  unfold bindL
  rw [Qbh λv hv=>(List.nodup_cons.mp nd).1 (List.of_mem_zip hv).1,if_pos hk]
  simp
 | p::P,w::vs,i+1,m,nd,h1,h2,hk=>by
  show bindL kindOf ((p,w)::P.zip vs) m x=_
  unfold bindL
  exact Qbi (i:=i) (List.nodup_cons.mp nd).2 (by simpa using h1) (by simpa using h2) hk
theorem Qbk {kindOf:Str->Option NameKind} {x:Str} {v:Value}:∀{P:List Str} {vs:List Value} {i:Nat} {m:Str->Option Value},P.Nodup->P[i]? = some x->vs[i]? = some v->kindOf x≠some .local ->
  bindC kindOf (P.zip vs) m x=some v
 | [],_,_,_,_,h,_,_=>by simp at h
 | _::_,[],_,_,_,_,h,_=>by simp at h
 | p::P,w::vs,0,m,nd,h1,h2,hk=>by
  simp at h1 h2;subst h1;subst h2
  show bindC kindOf ((p,w)::P.zip vs) m p=_
  unfold bindC
  rw [Qbj λv hv=>(List.nodup_cons.mp nd).1 (List.of_mem_zip hv).1,if_neg hk]
  simp
 | p::P,w::vs,i+1,m,nd,h1,h2,hk=>by
  show bindC kindOf ((p,w)::P.zip vs) m x=_
  unfold bindC
  exact Qbk (i:=i) (List.nodup_cons.mp nd).2 (by simpa using h1) (by simpa using h2) hk
def Zo (N:List Str) (vs:List V):St:=vs.map some++List.replicate (N.length-vs.length) none
def cxOf (CX:CXT) (P:Program) (w:World) (K:PySem.W.Frag) (mg:Str->Option Value) (base:Heap) (N:List Str) (qual:Str) (scope:Scope) (f:Addr) (cd:Value) (A:Around) (outer:List Env) (s:Shared) (H:Hp) (E:XK):Cx where
 prog:=P
 w:=w
 K:=K
 mg:=mg
 base:=base
 A:=A.deeper (envOfC qual scope s.heap.objs.size f cd)
 N:=N
 s₀:=s
 H₀:=H
 env:=envOfC qual scope s.heap.objs.size f cd
 outer:=outer
 stack:=envOfC qual scope s.heap.objs.size f cd::outer
 ex:=[]
 calm:=true
 fn:=λ_=>true
 pn:=[]
 xe:=λe s'=>wpAny (model P w) (A.deeper (envOfC qual scope s.heap.objs.size f cd)) (leaving (envOfC qual scope s.heap.objs.size f cd) e) (λ_ s''=>CX outer H s E e s'') (λe' s''=>CX outer H s E e' s'') s'
theorem Qc4 {sc:Scope} (h:sc.names.lookup x=some .cell):∃c,(cellsFrom n sc.names []).lookup x=some c:=by
 have q:=PySem.W.cellsFrom_some sc.names n [] (.inl h)
 exact Option.isSome_iff_exists.mp q
theorem Qbd {cd:Value} {s1:Shared} {E:XK}
  (S:FnScope N ps scope) (hd:A.handled=none) (e0:Env0 P w K mg base A outer s H) (hl:vs.length=ps.length) (r:Vals vs us)
  (x:InCallC s s.heap.objs.size (bindL (envOfC qual scope s.heap.objs.size f cd).kindOf (ps.zip us) λ_=>none) (cellsFrom (s.heap.objs.size+1) scope.names []) (bindC (envOfC qual scope s.heap.objs.size f cd).kindOf (ps.zip us) λ_=>none) s1) :
  Inv (cxOf CX P w K mg base N qual scope f cd A outer s H E) [] (Zo N vs) H s1:=by
 have hpl:ps.length<=N.length:=by have:=congrArg List.length S.pre;rw [List.length_take] at this;omega
 obtain ⟨h1,tk,rfl,hk⟩:=x.done
 have noA:∀b:Addr,b∉(cxOf CX P w K mg base N qual scope f cd A outer s H E).ex:=λb z=>absurd (show b∈([]:List Addr) from z) (by simp)
 refine ⟨⟨e0.mod,S.kind,rfl,rfl,Nat.le_refl _,λy z c h1 h2=>?_,λy hy=>?_,λy c _ h=>?_,λ_=>hd,Around.frames_deeper e0.frames,.inr ⟨rfl,rfl⟩,λb z=>absurd z (noA b),e0.bs,e0.bsz,λb _ _=>noA b,λb z=>absurd z (noA b),e0.funs,e0.frf⟩,
  rfl,e0.bare,Un.kept hk,⟨_,x.toInCall.ns,λi y v h1 h2 h3=>?_⟩,λy c h=>⟨_,x.cell y c h⟩,e0.hok.fresh (Nat.le_refl _),λy c h=>?_,λp hp=>absurd (show p∈([]:List (Addr × Obj)) from hp) (by simp),e0.hok.kept hk,?_⟩
 ·exact name_of_addr x.apart (PySem.mem_of_lookup h1) (PySem.mem_of_lookup h2)
 ·have hy:scope.names.lookup y=some .cell\/scope.names.lookup y=some .free:=hy
  rcases hy with hy | hy
  ·exact Qc4 hy
  ·exact absurd rfl (S.nofree _ (PySem.mem_of_lookup hy))
 ·exact Nat.le_of_lt (x.above y c (PySem.mem_of_lookup h))
 ·have hi:i<vs.length:=by
   unfold Zo at h2
   by_cases hi:i<vs.length
   ·exact hi
   ·rw [List.getElem?_append_right (by simpa using hi)] at h2
    rw [List.getElem?_replicate] at h2
    split at h2 <;> cases h2
  have ha:vs[i]? = some v:=by
   unfold Zo at h2
   rw [List.getElem?_append_left (by simpa using hi),List.getElem?_map] at h2
   cases e:vs[i]? with
   | none=>rw [e] at h2;cases h2
   | some a=>rw [e] at h2;cases h2;rfl
  obtain ⟨u,hu,rv⟩:=r.get ha
  have hp:ps[i]? = some y:=by
   rw [← S.pre,List.getElem?_take_of_lt (by omega)];exact h1
  have ndP:ps.Nodup:=by rw [← S.pre];exact S.nd.sublist (List.take_sublist _ _)
  refine ⟨u,rv,?_⟩
  rcases S.par y (List.mem_of_getElem? hp) with k | k
  ·exact .inl ⟨k,Qbi ndP hp hu k⟩
  ·obtain ⟨c,e⟩:=Qc4 (n:=s.heap.objs.size+1) k
   refine .inr ⟨.inl k,c,e,?_⟩
   have q:=x.cell y c e
   rw [Qbk ndP hp hu (by show scope.names.lookup y≠_;rw [k];decide)] at q
   exact q
 ·exact e0.hok.fresh (Nat.le_of_lt (x.above y c (PySem.mem_of_lookup h)))
 ·unfold Zo
  show _=N.length
  rw [List.length_append,List.length_map,List.length_replicate]
  omega
theorem Qp9 {k:Nat} {params:Arguments} {dV kV doc pm cdv ct oc:Value} {an od:Option Addr} (lk:K.lookup f=some ⟨oc,od,.func (PySem.W.fnOf name qual params body scope dV kV doc pm an cdv ct),osl⟩) (hcd:PySem.W.codeIn K cdv qual=true) (S:FnScope N ps scope)
  (len:∀vs H Q E,sp vs H Q E->vs.length=ps.length)
  (hbody:∀(A:Around) (outer:List Env) (s:Shared) (H:Hp) (vs:List V) (Q:VK) (E:XK),Room k (A.deeper (envOfC qual scope s.heap.objs.size f cdv))->sp vs H Q E ->
   ∃t,PSs (cxOf CX P w K mg base N qual scope f cdv A outer s H E) body t/\t { nx:=λ_ H'=>Q .non H',rt:=Q } (Zo N vs) H) :
  FnOk P w K mg base CX (k+1) f (PySem.W.fnOf name qual params body scope dV kV doc pm an cdv ct) ps sp:=by
 refine ⟨len,λA outer s H args us vs Q E hr e0 hb r hsp=>?_⟩
 have hl:=len _ _ _ _ hsp
 have KX:K.In s.heap:=e0.mod.kin.keeps λb o e=>(e0.bs b o e).1
 have lim:s.heap.NoLimit:=e0.mod.nolimit.keeps λb o e=>(e0.bs b o e).1
 have hkind:∀y∈ps.zip us,scope.names.lookup y.1=some .local\/(scope.names.lookup y.1=some .cell/\((cellsFrom (s.heap.objs.size+1) scope.names []).lookup y.1).isSome=true):=λ⟨n,v⟩ hy=>by
  rcases S.par n (List.of_mem_zip hy).1 with q | q
  ·exact .inl q
  ·exact .inr ⟨q,PySem.W.cellsFrom_some _ _ _ (.inl q)⟩
 refine codeAny_call_function hr.depth (KX _ _ lk) rfl S.co S.gen rfl (PySem.W.codeRec_of KX hcd) (hb _ _ _ _ ?_)
 refine wpAny_newFunctionEnv_cells S.kind hkind λenv he s1 x=>?_
 subst he
 refine ⟨lim.keeps x.toInCall.keep,codeAny_func ?_⟩
 obtain ⟨t,ht,hq⟩:=hbody A outer s H vs Q E (hr.deeper _) hsp
 have I:Inv (cxOf CX P w K mg base N qual scope f cdv A outer s H E) [] (Zo N vs) H s1:=Qbd S hr.hd e0 hl r x
 refine wpAny_mono (ht [] s1 (Zo N vs) H _ I hq) (λfl s' hs=>?_) λe s' hs=>hs
 have fin:∀{σ':St} {H':Hp} {v:V} {u:Value},Inv (cxOf CX P w K mg base N qual scope f cdv A outer s H E) [] σ' H' s'->RelV v u->Q v H'->CE outer P w H s Q u s' :=
  λ{σ' H' v u} J rv q=>⟨v,H',J.os,J.bare,J.base,J.hok,rv,q⟩
 cases fl with
 | ret u =>
  obtain ⟨v,σ',H',J,rv,q⟩:=hs
  exact fin J rv q
 | next =>
  obtain ⟨σ',H',J,q⟩:=hs
  exact fin (v:=V.non) (u:=Value.none) J rfl q
 | brk =>
  obtain ⟨_,_,_,q⟩:=hs
  exact False.elim q
 | cont =>
  obtain ⟨_,_,_,q⟩:=hs
  exact False.elim q
section
variable {t:TA} {id:String} {r:List V->Hp->VK->Prop}
def tCB (r:List V->Hp->VK->Prop) (t:TA):TE:=λσ H Q=>t σ H λvs H1=>r vs H1 Q
theorem Qcq (hc:V1 X (.builtin id) r) (hg:Gl X x) (hm:X.mg x=none) (hv:bootBuiltins x=some (.builtin id)) (ha:PA X (e::es) t) (hn:x ≠ "__name__":=by decide) (hdb:(x == ("__debug__" : Str))=false:=by decide)
  (he:starEach (e::es) X.env=(false,eval e X.env)::starEach es X.env:=by rfl) (hpl:(backTo pos (starEach es X.env)).any (·.1)=false:=by rfl):PE X (.Call (.Name x p) (e::es) [] pos) (tCB r t):=by
 intro pins s σ H Q I h
 refine wpAny_Call_Name_kw (Qfp I hg hm hv ?_ hn hdb)
 exact PyProof.Rows.callWith_builtin1 (thn (ha pos pins s σ H _ I h) λus s1 ⟨vs,H1,I1,r1,q1⟩=>hc pins s1 σ H1 vs us Q I1 r1 q1) he hpl
end
end L2
variable {ws:List PySem.Value} {sl:PySem.Addr} {vl vu:PySem.Value} {items:Array PySem.Value}
namespace HT
open PySem PyProof.Rows
theorem Qln {t:Addr} {vs:List Value} (ht:IsTup s.heap t vs.toArray) (hb:IsTup s.heap b ws.toArray) (hv:vs≠[])
  (h1:ws=[]->Q (.ref t) s) (h2:ws≠[]->Q (.ref s.heap.objs.size) { s with heap:=s.heap.push { cls:=.type "tuple",data:=.seq (vs++ws).toArray } })
  (hsz:vs.length+ws.length<=sizeLine):wpAny (model prog w) A (binaryOp .Add (.ref t) (.ref b)) Q E s:=by
 obtain ⟨⟨cls,dd,data,sl⟩,ho,hc,n,hd⟩:=id ht
 obtain ⟨⟨cls2,dd2,data2,sl2⟩,ho2,hc2,n2,hd2⟩:=id hb
 simp only at hc hd hc2 hd2
 subst hc hd hc2 hd2
 have e:vs.toArray++ws.toArray=(vs++ws).toArray:=by simp
 by_cases hw:ws=[]
 ·exact concat_meets ⟨_,ho,rfl⟩ ⟨_,ho2,rfl⟩ noFill_tuple_add seq_tuple_add PySem.F.slot_tuple_add PySem.F.entry_tuple_add (PySem.F.args_tuple_add_2 _ _)
   (tuple_addW1 t b vs.toArray ws.toArray n n2 dd dd2 sl sl2 (by simpa using hv) (by simp [hw])) ⟨ho,ho2,h1 hw⟩
 ·refine concat_meets ⟨_,ho,rfl⟩ ⟨_,ho2,rfl⟩ noFill_tuple_add seq_tuple_add PySem.F.slot_tuple_add PySem.F.entry_tuple_add (PySem.F.args_tuple_add_2 _ _)
   (tuple_addW2 t b vs.toArray ws.toArray n n2 dd dd2 sl sl2 (by simpa using hv) (by simpa using hw) (by rw [List.size_toArray,List.size_toArray];exact hsz)) ⟨ho,ho2,?_⟩
  rw [e]
  exact h2 hw
def sIx (n d:Nat):Option Int->Nat
 | none=>d
 | some v=>if v<0 then (v+(n:Int)).toNat else min v.toNat n
theorem Qgy (n d:Nat):sIx n d none=d:=rfl
theorem Qj9 (n d k:Nat):sIx n d (some (k:Int))=min k n:=by
 show (if (k:Int)<0 then ((k:Int)+(n:Int)).toNat else min (k:Int).toNat n)=min k n
 rw [if_neg (by omega),Int.toNat_natCast]
theorem Ql5 (n d:Nat) (hd:d<=n) (o:Option Int):sIx n d o<=n:=by
 cases o with
 | none=>exact hd
 | some v =>
  show (if v<0 then (v+(n:Int)).toNat else min v.toNat n)<=n
  by_cases hv:v<0
  ·rw [if_pos hv];omega
  ·rw [if_neg hv];exact Nat.min_le_right _ _
theorem Qgn (v:Int) (n d:Nat):(if v<0 then max (v+(n:Int)) 0 else min v (n:Int))=((sIx n d (some v):Nat):Int):=by
 show (if v<0 then max (v+(n:Int)) 0 else min v (n:Int))=(((if v<0 then (v+(n:Int)).toNat else min v.toNat n):Nat):Int)
 by_cases hv:v<0
 ·simp only [if_pos hv];omega
 ·simp only [if_neg hv];omega
theorem Qdw (lo hi:Option Int) (n:Nat):Builtin.Slice.sliceAdjust lo hi 1 (n:Int)=(((sIx n 0 lo:Nat):Int),((sIx n n hi:Nat):Int)):=by
 have h1:¬((1:Int)<0):=by omega
 unfold Builtin.Slice.sliceAdjust
 simp only [h1,if_false]
 refine Prod.ext ?_ ?_
 ·cases lo with
  | none=>rfl
  | some v=>exact Qgn v n 0
 ·cases hi with
  | none=>rfl
  | some v=>exact Qgn v n n
theorem Qdi (i j:Nat):Builtin.Slice.slicePlaces (i:Int) (j:Int) 1=j-i:=by
 unfold Builtin.Slice.slicePlaces
 have h1:(1:Int) > 0:=by omega
 simp only [h1,if_true,Int.ediv_one]
 split <;> omega
theorem Xe {v:Value} {o:Option Int} {Q:Option Int->Shared->Prop} (p:IsPart v o) (h:Q o s):wpAny (model prog w) A (Builtin.Slice.slicePartIndex v) Q E s:=by
 cases p with
 | none=>exact slicePart_none h
 | int i t=>exact slicePart_int h
theorem Zg {Q:Int × Int × Nat->Shared->Prop} (hs:s.heap.IsSliceOf sl vl vu .none) (pl:IsPart vl lo) (pu:IsPart vu hi)
  (h:Q (((sIx n 0 lo:Nat):Int),1,sIx n n hi-sIx n 0 lo) s):wpAny (model prog w) A (Builtin.Slice.sliceApplied (.ref sl) (pure (n:Int))) Q E s:=by
 obtain ⟨os,hos,hcs,hds⟩:=id hs
 unfold Builtin.Slice.sliceApplied Builtin.Slice.sliceFields
 refine wpAny_bind (wpAny_bind (wpAny_field hos hds (x:=vl) rfl (wpAny_bind (wpAny_field hos hds (x:=vu) rfl (wpAny_bind (wpAny_field hos hds (x:=.none) rfl (wpAny_pure ?_)))))))
 refine wpAny_bind (slicePart_none ?_)
 show wpAny _ _ (if ((1:Int) == 0)=true then _ else _) _ _ s
 rw [if_neg (by decide)]
 refine wpAny_bind (Xe pl (wpAny_bind (Xe pu (wpAny_bind (wpAny_pure ?_)))))
 show wpAny _ _ (match Builtin.Slice.sliceAdjust lo hi 1 (n:Int) with | (lo,hi)=>pure (lo,(1:Int),Builtin.Slice.slicePlaces lo hi 1)) _ _ s
 rw [Qdw lo hi n]
 show wpAny _ _ (pure (((sIx n 0 lo:Nat):Int),(1:Int),Builtin.Slice.slicePlaces ((sIx n 0 lo:Nat):Int) ((sIx n n hi:Nat):Int) 1)) _ _ s
 rw [Qdi]
 exact wpAny_pure h
theorem Qg6 (xs:Array Value) (i k:Nat):((List.range k).filterMap λ(m:Nat)=>xs[((i:Int)+(m:Int)*1).toNat]?).toArray=((xs.toList.drop i).take k).toArray:=by
 have e:(λ(m:Nat)=>xs[((i:Int)+(m:Int)*1).toNat]?)=λm=>xs[i+m]?:=by
  funext m
  have:((i:Int)+(m:Int)*1).toNat=i+m:=by omega
  rw [this]
 rw [e]
 have:=pick_run xs i k
 rw [List.filterMap_map] at this
 have e2:((λx=>xs[x]?) ∘ λx=>i+x)=λm=>xs[i+m]?:=rfl
 rw [e2] at this
 rw [this]
theorem V9 {t:Addr} (ht:IsTup s.heap t items) (hs:s.heap.IsSliceOf sl vl vu .none) (pl:IsPart vl lo) (pu:IsPart vu hi)
  (hw:¬(sIx items.size 0 lo=0/\sIx items.size items.size hi=items.size))
  (h:Q (.ref s.heap.objs.size) { s with heap:=s.heap.push { cls:=.type "tuple",data:=.seq ((items.toList.drop (sIx items.size 0 lo)).take (sIx items.size items.size hi-sIx items.size 0 lo)).toArray } })
  (hsz:items.size<=sizeLine):wpAny (model prog w) A (getItem (.ref t) (.ref sl)) Q E s:=by
 have htake:sizeOk (.seq ((items.toList.drop (sIx items.size 0 lo)).take (sIx items.size items.size hi-sIx items.size 0 lo)).toArray):=by
  show ((items.toList.drop (sIx items.size 0 lo)).take (sIx items.size items.size hi-sIx items.size 0 lo)).toArray.size<=sizeLine
  rw [List.size_toArray,List.length_take,List.length_drop,Array.length_toList]
  omega
 have hj:sIx items.size items.size hi<=items.size:=Ql5 _ _ (Nat.le_refl _) hi
 obtain ⟨os,hos,hcs,hds⟩:=id hs
 have hTs:s.TypeIs (.ref sl) "slice":=⟨os,hos,hcs⟩
 unfold getItem
 try with_reducible refine wpAny_holding ?_
 first | refine wpAny_bind (wpAny_pure ?_) | skip
 refine wpAny_bind (wpAny_sequenceKey ht.typeIs (by decide) ?_)
 refine wpAny_bind (wpAny_callSpecial?_slot (name:=Str.ofString "__getitem__") ht.typeIs PyProof.Rows.slot_tuple_getitem
  (wpAny_call_entry PyProof.Rows.slot_tuple_getitem ht.typeIs entry_tuple_getitem ?_ (args_tuple_getitem _ _)))
 show wpAny _ _ (Builtin.Tuple.tupleItemsOf (.ref t) >>= _) _ _ s
 refine wpAny_bind (tupleItemsOf_ ht ?_)
 refine wpAny_bind (wpAny_typeOf hTs ?_)
 rw [if_pos (by decide)]
 refine wpAny_bind (Zg hs pl pu ?_)
 have hno:¬((((sIx items.size 0 lo:Nat):Int) == 0 && (1:Int) == 1 && (sIx items.size items.size hi-sIx items.size 0 lo) == items.size)=true):=by
  intro q
  rw [Bool.and_eq_true,Bool.and_eq_true] at q
  have q1:((sIx items.size 0 lo:Nat):Int)=0:=eq_of_beq q.1.1
  have q2:sIx items.size items.size hi-sIx items.size 0 lo=items.size:=eq_of_beq q.2
  exact hw ⟨by omega,by omega⟩
 show wpAny _ _ (if (((sIx items.size 0 lo:Nat):Int) == 0 && (1:Int) == 1 && (sIx items.size items.size hi-sIx items.size 0 lo) == items.size)=true then _ else _) _ _ s
 rw [if_neg hno,Qg6]
 first
  | exact wpAny_bind (m:=Builtin.Tuple.tupleExact _) (wpAny_newObj_type (wpAny_pure ⟨_,rfl,wpAny_pure h⟩) htake)
  | exact wpAny_bind (m:=Builtin.Tuple.tupleExact _) (wpAny_newObj_type (wpAny_bind (wpAny_pure (wpAny_pure ⟨_,rfl,wpAny_pure h⟩))) htake)
  | exact wpAny_bind (wpAny_bind (m:=Builtin.Tuple.tupleExact _) (wpAny_newObj_type (wpAny_pure (wpAny_pure ⟨_,rfl,wpAny_pure h⟩)) htake))
  | exact wpAny_bind (wpAny_bind (m:=Builtin.Tuple.tupleExact _) (wpAny_newObj_type (wpAny_pure ⟨_,rfl,wpAny_pure h⟩) htake))
end HT
namespace L2
open PySem PySem.Spec PyProof.Rows
abbrev TO:=St->Hp->(Option Int->Hp->Prop)->Prop
end L2
variable {xs:List (List L2.Key × PySem.Addr × PySem.Value)} {kvs:List (List L2.Key × L2.V)} {l:PySem.W.OpenLaw} {p2 cpos:PySem.Pos}
namespace L2
open PySem PySem.Spec PyProof.Rows
def PO (X:Cx) (e:Option Expr) (t:TO):Prop :=
 ∀(pins:List (Addr × Obj)) (s:Shared) (σ:St) (H:Hp) (Q:Option Int->Hp->Prop),Inv X pins σ H s->t σ H Q ->
  wpAny (model X.prog X.w) X.A (evalPart e X.env) (λu s'=>∃o H',Inv X pins σ H' s'/\IsPart u o/\Q o H') X.xe s
def Qj1:TO:=λ_ H Q=>Q none H
def Qpc (t:TE):TO:=λσ H Q=>t σ H λx H1=>∃i,x=.int i/\Q (some i) H1
section
variable {lo hi:Option Expr} {tl th:TO}
theorem Qkj:PO X none Qj1:=by
 intro pins s σ H Q I h
 rw [evalPart_none]
 exact wpAny_pure ⟨none,H,I,.none,h⟩
theorem Qki (h:PE X e te):PO X (some e) (Qpc te):=by
 intro pins s σ H Q I hw
 rw [evalPart_some]
 refine thn (h pins s σ H _ I hw) λu s1 ⟨x,H1,I1,r1,q1⟩=>?_
 obtain ⟨i,rfl,q⟩:=q1
 obtain ⟨t,rfl⟩:=r1
 exact ⟨some i,H1,I1,.int i t,q⟩
def SlR (X:Cx) (r:V->Option Int->Option Int->Hp->VK->Prop):Prop :=
 ∀(pins:List (Addr × Obj)) (s:Shared) (σ:St) (H:Hp) (x:V) (v vl vu:Value) (lo hi:Option Int) (sl:Addr) (Q:VK),Inv X pins σ H s->RelV x v->s.heap.IsSliceOf sl vl vu .none->IsPart vl lo->IsPart vu hi->r x lo hi H Q ->
  ∃T id,typeLookup (.type T) "__getitem__" = pure (some (.builtin id))/\s.TypeIs v T/\wpAny (model X.prog X.w) X.A (getItem v (.ref sl)) (EP X pins σ Q) X.xe s
theorem SlR.or {r r':V->Option Int->Option Int->Hp->VK->Prop} (h:SlR X r) (h':SlR X r'):SlR X (λx lo hi H Q=>r x lo hi H Q\/r' x lo hi H Q):=by
 intro pins s σ H x v vl vu lo hi sl Q I rx hs pl pu q
 rcases q with q | q
 ·exact h pins s σ H x v vl vu lo hi sl Q I rx hs pl pu q
 ·exact h' pins s σ H x v vl vu lo hi sl Q I rx hs pl pu q
def tSl (r:V->Option Int->Option Int->Hp->VK->Prop) (te:TE) (tl th:TO):TE:=λσ H Q=>te σ H λx H1=>tl σ H1 λl H2=>th σ H2 λu H3=>r x l u H3 Q
theorem Qg7 {r:V->Option Int->Option Int->Hp->VK->Prop} (hr:SlR X r) (he:PE X e te) (hl:PO X lo tl) (hu:PO X hi th):PE X (.Subscript e (.Slice lo hi none p2) pos) (tSl r te tl th):=by
 intro pins s σ H Q I h
 refine Subscript_ (thn (he pins s σ H _ I h) λv s1 ⟨x,H1,I1,r1,q1⟩=>?_)
 refine wpAny_Slice (thn (hl pins s1 σ H1 _ I1 q1) λvl s2 ⟨l,H2,I2,pl,q2⟩=>thn (hu pins s2 σ H2 _ I2 q2) λvu s3 ⟨u,H3,I3,pu,q3⟩=>?_)
 rw [evalPart_none]
 refine wpAny_pure ?_
 have I4:Inv X pins σ H3 { s3 with heap:=s3.heap.push { cls:=.type "slice",data:=.fields #[vl,vu,.none] } }:=I3.kept (t':=s3.toks) λb ob q=>Heap.get?_push_of_some _ q
 obtain ⟨T,id,hT,ht,hg⟩:=hr pins { s3 with heap:=s3.heap.push { cls:=.type "slice",data:=.fields #[vl,vu,.none] } } σ H3 x v vl vu l u s3.heap.objs.size Q I4 r1 (Heap.IsSliceOf.new ..) pl pu q3
 show wpAny (model X.prog X.w) X.A (subscriptTail e (.Slice lo hi none p2) v (.ref s3.heap.objs.size)) (EP X pins σ Q) X.xe { s3 with heap:=s3.heap.push { cls:=.type "slice",data:=.fields #[vl,vu,.none] } }
 exact tail_any (ops:=[.ref s3.heap.objs.size,v]) ht hT hg (by with_unfolding_all rfl)
def cutV (xs:List V) (lo hi:Option Int):List V:=(xs.drop (HT.sIx xs.length 0 lo)).take (HT.sIx xs.length xs.length hi-HT.sIx xs.length 0 lo)
theorem Gx (xs:List V) (lo hi:Option Int):(cutV xs lo hi).length<=xs.length:=by
 unfold cutV
 rw [List.length_take,List.length_drop]
 omega
def rSlT (K:PySem.W.Frag):V->Option Int->Option Int->Hp->VK->Prop:=λx lo hi H Q=>∃a xs,x=.ref a/\SqT K H a xs /\
 ¬(HT.sIx xs.length 0 lo=0/\HT.sIx xs.length xs.length hi=xs.length)/\∀p,H p=none->Q (.ref p) (upd H p (.tup (cutV xs lo hi)))
theorem Ql2:SlR X (rSlT X.K):=by
 intro pins s σ H x v vl vu lo hi sl Q I rx hs pl pu h
 obtain ⟨a,xs,rfl,hx,hw,q⟩:=h
 cases rx
 obtain ⟨its,r,ht,hz⟩:=I.tuple hx
 have hlen:its.toArray.size=xs.length:=by rw [List.size_toArray];exact r.length.symm
 refine ⟨"tuple",_,PyProof.Rows.slot_tuple_getitem.lookup,ht.typeIs,?_⟩
 refine HT.V9 ht hs pl pu (by rw [hlen];exact hw) ?_ (by rw [hlen];exact hz)
 rw [hlen]
 refine ⟨.ref s.heap.objs.size,_,I.laid (t':=s.toks) (o:=.tup (cutV xs lo hi)) (λb ob q=>Heap.get?_push_of_some _ q) (Nat.le_refl _) ?_,rfl,q _ (I.hok.fresh (Nat.le_refl _))⟩
 exact ⟨Nat.le_trans (Gx xs lo hi) hz,_,(r.drop (HT.sIx xs.length 0 lo)).take (HT.sIx xs.length xs.length hi-HT.sIx xs.length 0 lo),IsTup.new _ _⟩
def Qpm (K:PySem.W.Frag):R2:=λx y H Q=>∃a b xs ys,x=.ref a/\y=.ref b/\SqT K H a xs/\SqT K H b ys/\xs≠[]/\xs.length+ys.length<=sizeLine /\
 (ys=[]->Q (.ref a) H)/\(ys≠[]->∀p,H p=none->Q (.ref p) (upd H p (.tup (xs++ys))))
theorem Vals.nil_iff {xs:List V} (r:Vals xs us):us=[]↔xs=[]:=by
 cases r with
 | nil=>simp
 | cons _ _=>simp
theorem Qkq:OpR X (binaryOp .Add) (Qpm X.K):=by
 intro pins s σ H x y v u Q I rx ry h
 obtain ⟨a,b,xs,ys,rfl,rfl,ha,hb,hx,hz,q1,q2⟩:=h
 cases rx
 cases ry
 obtain ⟨its,r1,p1,_⟩:=I.tuple ha
 obtain ⟨its2,r2,p2,_⟩:=I.tuple hb
 refine HT.Qln p1 p2 (λz=>hx (r1.nil_iff.mp z)) (λz=>⟨.ref a,H,I,rfl,q1 (r2.nil_iff.mp z)⟩) (λz=>?_) (by rw [← r1.length,← r2.length];exact hz)
 refine ⟨.ref s.heap.objs.size,_,I.laid (t':=s.toks) (o:=.tup (xs++ys)) (λb ob q=>Heap.get?_push_of_some _ q) (Nat.le_refl _) ?_,rfl,q2 (λw=>z (r2.nil_iff.mpr w)) _ (I.hok.fresh (Nat.le_refl _))⟩
 exact ⟨by rw [List.length_append];exact hz,_,r1.append r2,IsTup.new _ _⟩
end
def ixN (n:Nat) (i:Int):Option Nat:=if 0<=i then (if i<n then some i.toNat else none) else if -(n:Int)<=i then some (i+n).toNat else none
def atI {α:Type} (xs:List α) (i:Int):Option α:=(ixN xs.length i).bind λj=>xs[j]?
theorem X4 (h:ixN n i=some j):seqIndex? i n=some j/\j<n /\ -(n:Int)<=i/\i<n:=by
 unfold ixN at h
 by_cases h0:0<=i
 ·rw [if_pos h0] at h
  by_cases h1:i<n
  ·rw [if_pos h1] at h
   have e:i.toNat=j:=Option.some.inj h
   exact ⟨by rw [seqIndex_of h0 h1,e],by omega,by omega,h1⟩
  ·rw [if_neg h1] at h;cases h
 ·rw [if_neg h0] at h
  by_cases h1:-(n:Int)<=i
  ·rw [if_pos h1] at h
   have e:(i+n).toNat=j:=Option.some.inj h
   exact ⟨by rw [seqIndex_neg (by omega) h1,e],by omega,h1,by omega⟩
  ·rw [if_neg h1] at h;cases h
theorem Qcd {α:Type} {xs:List α} {v:α} (h:atI xs i=some v):∃j,seqIndex? i xs.length=some j/\xs[j]? = some v/\j<xs.length /\ -(xs.length:Int)<=i/\i<xs.length:=by
 unfold atI at h
 cases e:ixN xs.length i with
 | none=>rw [e] at h;cases h
 | some j =>
  rw [e] at h
  obtain ⟨h1,h2,h3,h4⟩:=X4 e
  exact ⟨j,h1,h,h2,h3,h4⟩
def Qce (b:Expr):Prop:=∀o i,subscripted b false o i=operate [o,i] (getItem o i)
def IxR (X:Cx) (r:R2):Prop :=
 ∀(value slice:Expr) (pins:List (Addr × Obj)) (s:Shared) (σ:St) (H:Hp) (x y:V) (v u:Value) (Q:VK),Inv X pins σ H s->RelV x v->RelV y u->r x y H Q ->
  subscripted slice false v u=operate [v,u] (getItem v u)->wpAny (model X.prog X.w) X.A (subscriptTail value slice v u) (EP X pins σ Q) X.xe s
def MtR (X:Cx) (id:String) (r:V->List V->Hp->VK->Prop):Prop :=
 ∀(pins:List (Addr × Obj)) (s:Shared) (σ:St) (H:Hp) (x:V) (xs:List V) (v:Value) (us:List Value) (Q:VK),Inv X pins σ H s->RelV x v->Vals xs us->r x xs H Q ->
  wpAny (model X.prog X.w) X.A (call (.builtin id) (v::us)) (EP X pins σ Q) X.xe s
section
variable {a b:Expr}
theorem IxR.or {r r':R2} (h:IxR X r) (h':IxR X r'):IxR X (λx y H Q=>r x y H Q\/r' x y H Q):=by
 intro value slice pins s σ H x y v u Q I rx ry q hs
 rcases q with q | q
 ·exact h value slice pins s σ H x y v u Q I rx ry q hs
 ·exact h' value slice pins s σ H x y v u Q I rx ry q hs
theorem Qnc {r:R2} (hr:IxR X r) (ha:PE X a ta) (hb:PE X b tb) (hs:Qce b):PE X (.Subscript a b pos) (tOp r ta tb):=by
 intro pins s σ H Q I h
 exact Subscript_ (binT ha hb I h λv u s2 x y H2 I2 rx ry q=>hr a b pins s2 σ H2 x y v u Q I2 rx ry q (hs _ _))
def rIxL (K:PySem.W.Frag):R2:=λx y H Q=>∃p xs i v,x=.ref p/\y=.int i/\SqL K H p xs/\atI xs i=some v/\Q v H
def rIxT (K:PySem.W.Frag):R2:=λx y H Q=>∃p xs i v,x=.ref p/\y=.int i/\SqT K H p xs/\atI xs i=some v/\Q v H
def rIxS:R2:=λx y H Q=>∃z i c,x=.str z/\y=.int i/\z.length<=sizeLine/\atI z.cps.toList i=some c/\Q (.str ⟨#[c]⟩) H
theorem Qfw:IxR X (rIxL X.K):=by
 intro value slice pins s σ H x y v u Q I rx ry h hs
 obtain ⟨p,xs,i,z,rfl,rfl,hq,he,q⟩:=h
 cases rx
 obtain ⟨t,rfl⟩:=ry
 obtain ⟨its,r,pl,hz⟩:=I.list hq
 obtain ⟨j,h1,h2,h3,h4,h5⟩:=Qcd he
 obtain ⟨w,ew,rw'⟩:=r.get h2
 have hl:=r.length
 have hn:=Xk
 have fin:EP X pins σ Q w s:=⟨z,H,I,rw',q⟩
 by_cases h0:0<=i
 ·have hj:i.toNat=j:=by
   rw [seqIndex_of h0 h5] at h1
   exact Option.some.inj h1
  exact item_listR pl.isList h0 (by omega) (by rw [hj];simpa using ew) fin hs
 ·have hj:(i+(its.toArray.size:Int)).toNat=j:=by
   rw [seqIndex_neg (by omega) h4] at h1
   rw [List.size_toArray,← hl]
   exact Option.some.inj h1
  exact subscriptTail_builtinR (x:=w) pl.isList.typeIs slot_list_getitem.lookup
   (wpAny_getItem_list_neg (Q:=λr s'=>r=w/\EP X pins σ Q r s') pl.isList (by omega) (by rw [List.size_toArray] <;> omega) (by omega) (by rw [hj];simpa using ew) ⟨rfl,fin⟩) hs
theorem Qn7:IxR X (rIxT X.K):=by
 intro value slice pins s σ H x y v u Q I rx ry h hs
 obtain ⟨p,xs,i,z,rfl,rfl,hq,he,q⟩:=h
 cases rx
 obtain ⟨t,rfl⟩:=ry
 obtain ⟨its,r,pl,hz⟩:=I.tuple hq
 obtain ⟨j,h1,h2,h3,h4,h5⟩:=Qcd he
 obtain ⟨w,ew,rw'⟩:=r.get h2
 have hl:=r.length
 have hn:=Xk
 have fin:EP X pins σ Q w s:=⟨z,H,I,rw',q⟩
 exact subscriptTail_builtinR (x:=w) pl.typeIs slot_tuple_getitem.lookup
  (getItem_tuple (j:=j) (Q:=λr s'=>r=w/\EP X pins σ Q r s') pl (by omega) (by omega) (by rw [List.size_toArray,← hl];exact h1) (by simpa using ew) ⟨rfl,fin⟩) hs
theorem Qn8:IxR X rIxS:=by
 intro value slice pins s σ H x y v u Q I rx ry h hs
 obtain ⟨z,i,c,rfl,rfl,hz,he,q⟩:=h
 obtain ⟨t,rfl⟩:=rx
 obtain ⟨t',rfl⟩:=ry
 obtain ⟨j,h1,h2,h3,h4,h5⟩:=Qcd he
 have hl:z.cps.toList.length=z.length:=by simp [Str.length]
 rw [hl] at h1 h4 h5
 have hn:=Xk
 exact tail_any (typeIs_str s z t) slot_str_getitem.lookup (getItem_str (c:=c) (by
  have e1:decide (i < -(2 ^ 63:Int))=false:=decide_eq_false (by omega)
  have e2:decide (i ≥ 2 ^ 63)=false:=decide_eq_false (by omega)
  rw [e1,e2,Bool.or_false]) (by rw [h1];simpa using h2) ⟨.str ⟨#[c]⟩,H,I.tok _,⟨_,rfl⟩,q⟩) hs
def rIx (K:PySem.W.Frag):R2:=λx y H Q=>rIxL K x y H Q\/rIxT K x y H Q\/rIxS x y H Q
theorem Qn9:IxR X (rIx X.K):=Qfw.or (Qn7.or Qn8)
theorem Qdm (its:List Value) (n j:Nat) (u:Value):Obj.mapSeq (·.setIfInBounds j u) { cls:=.type "list",data:=.seq its.toArray n }={ cls:=.type "list",data:=.seq (its.set j u).toArray n }:=by
 simp [Obj.mapSeq]
theorem Inv.lst {pins:List (Addr × Obj)} {σ:St} {H:Hp} {s:Shared} {p:Addr} {xs:List V} (I:Inv X pins σ H s) (h:H p=some (.lst xs)) :
  ∃(its:List Value) (n:Nat),Vals xs its/\s.heap.get? p=some { cls:=.type "list",data:=.seq its.toArray n }/\xs.length<=sizeLine:=by
 obtain ⟨z,its,n,r,e⟩:=I.hok p _ h
 exact ⟨its,n,r,e,z⟩
theorem Inv.lstUpd {p:Addr} {xs:List V} {its':List Value} {n':Nat} {f:Obj->Obj} (I:Inv X pins σ H s) (h:H p=some (.lst xs))
  (ho:s.heap.get? p=some { cls:=.type "list",data:=.seq its.toArray n }) (hf:f { cls:=.type "list",data:=.seq its.toArray n }={ cls:=.type "list",data:=.seq its'.toArray n' }) (r:Vals ys its') (hz:ys.length<=sizeLine) (t:Nat) :
  Inv X pins σ (upd H p (.lst ys)) { s with heap:=s.heap.update p f,toks:=t }:=by
 have e:(s.heap.update p f).get? p=some { cls:=.type "list",data:=.seq its'.toArray n' }:=by
  rw [Heap.get?_update_self f ho (by rw [hf] <;> rfl),hf]
 refine I.write (x:=p) (e:=p) (by rw [h];trivial) (.inl rfl) (λb u hb q=>(Heap.get?_update_other _ _ (Ne.symm hb)).trans q) ⟨_,e⟩ ?_
 exact ⟨hz,its',n',r,e⟩
def Qpl:V->V->V->Hp->(Hp->Prop)->Prop:=λo i v H Q=>∃p xs k j,o=.ref p/\i=.int k/\H p=some (.lst xs)/\ixN xs.length k=some j/\Q (upd H p (.lst (xs.set j v)))
theorem Qgw:PSet X Qpl:=by
 intro pins s σ H o i v ov iv u Q I ro ri rv h
 obtain ⟨p,xs,k,j,rfl,rfl,hp,hj,q⟩:=h
 cases ro
 obtain ⟨t,rfl⟩:=ri
 obtain ⟨its,n,r,ho,hz⟩:=I.lst hp
 obtain ⟨h1,h2,h3,h4⟩:=X4 hj
 have hl:=r.length
 have hn:=Xk
 have I':Inv X pins σ (upd H p (.lst (xs.set j v))) { s with heap:=s.heap.update p (Obj.mapSeq (·.setIfInBounds j u)) } :=
  I.lstUpd hp ho (Qdm its n j u) (r.set rv j) (by rw [List.length_set];exact hz) s.toks
 by_cases h0:0<=k
 ·have hk:k.toNat=j:=by
   rw [seqIndex_of h0 h4] at h1
   exact Option.some.inj h1
  exact PySem.W.ki_setAt ho h0 (by omega) (by rw [List.size_toArray,← hl];exact h4) (by rw [hk];exact ⟨_,I',q⟩)
 ·have hk:(k+(its.toArray.size:Int)).toNat=j:=by
   rw [seqIndex_neg (by omega) h3] at h1
   rw [List.size_toArray,← hl]
   exact Option.some.inj h1
  exact PySem.W.ki_setBack ho (by omega) (by rw [List.size_toArray,← hl];exact h3) (by omega) (by rw [hk];exact ⟨_,I',q⟩)
theorem Qak (lo hi:Option Int) (n:Nat):(sliceBounds lo hi none n).1=((HT.sIx n 0 lo:Nat):Int)/\(sliceBounds lo hi none n).2.1=((HT.sIx n n hi:Nat):Int)/\(sliceBounds lo hi none n).2.2=1:=by
 refine ⟨?_,?_,rfl⟩
 ·cases lo with
  | none=>simp [sliceBounds,HT.sIx]
  | some i =>
   simp only [sliceBounds,HT.sIx,Option.getD_none,show (1:Int) > 0 by decide,if_true]
   by_cases h:i<0
   ·simp only [h,if_true] <;> omega
   ·simp only [h,if_false] <;> omega
 ·cases hi with
  | none=>simp [sliceBounds,HT.sIx]
  | some i =>
   simp only [sliceBounds,HT.sIx,Option.getD_none,show (1:Int) > 0 by decide,if_true]
   by_cases h:i<0
   ·simp only [h,if_true] <;> omega
   ·simp only [h,if_false] <;> omega
theorem Xu (its:List Value) (lo hi:Option Int):slicePick its.toArray lo hi none=((its.drop (HT.sIx its.length 0 lo)).take (HT.sIx its.length its.length hi-HT.sIx its.length 0 lo)).toArray:=by
 obtain ⟨h1,h2,h3⟩:=Qak lo hi its.toArray.size
 unfold slicePick
 rw [h1,h2,h3]
 simp only [sliceRange_one,pick_run,List.size_toArray] <;> rfl
def rSlL (K:PySem.W.Frag):V->Option Int->Option Int->Hp->VK->Prop:=λx lo hi H Q=>∃a xs,x=.ref a/\SqL K H a xs/\∀p,H p=none->Q (.ref p) (upd H p (.lst (cutV xs lo hi)))
theorem Qj3:SlR X (rSlL X.K):=by
 intro pins s σ H x v vl vu lo hi sl Q I rx hs pl pu h
 obtain ⟨a,xs,rfl,hx,q⟩:=h
 cases rx
 obtain ⟨its,r,ht,hz⟩:=I.list hx
 have hlen:=r.length
 refine ⟨"list",_,slot_list_getitem.lookup,ht.isList.typeIs,?_⟩
 refine wpAny_getItem_list_slice ht.isList hs pl pu .none (by simp) ?_ (by rw [List.size_toArray] <;> omega)
 rw [Xu,← hlen]
 refine ⟨.ref s.heap.objs.size,_,I.laid (t':=s.toks) (o:=.lst (cutV xs lo hi)) (λb ob q=>Heap.get?_push_of_some _ q) (Nat.le_refl _) ?_,rfl,q _ (I.hok.fresh (Nat.le_refl _))⟩
 exact ⟨Nat.le_trans (Gx xs lo hi) hz,_,0,(r.drop (HT.sIx xs.length 0 lo)).take (HT.sIx xs.length xs.length hi-HT.sIx xs.length 0 lo),Heap.get?_push_size _ rfl⟩
theorem V1.or {f:Value} {r r':List V->Hp->VK->Prop} (h:V1 X f r) (h':V1 X f r'):V1 X f (λxs H Q=>r xs H Q\/r' xs H Q):=by
 intro pins s σ H xs us Q I rs q
 rcases q with q | q
 ·exact h pins s σ H xs us Q I rs q
 ·exact h' pins s σ H xs us Q I rs q
def tyV (K:PySem.W.Frag) (T:String) (x:V) (H:Hp):Prop:=match x with
 | .str _=>T = "str"
 | .int _=>T = "int"
 | .ref p=>(T = "list" /\ ∃xs,SqL K H p xs)\/(T = "tuple" /\ ∃o,K.lookup p=some o/\o.cls=.type "tuple" /\ o.dict=none) \/
   (T = "dict" /\ ((∃kvs,H p=some (.dK kvs))\/∃kvs,H p=some (.dT kvs)))\/(T = "set" /\ ∃S n,H p=some (.set S n))\/∃φ,H p=some (.ext φ)/\∀h,φ h->∃o,h.get? p=some o/\o.cls=.type T/\o.dict=none
 | _=>False
theorem Qcg {x:V} {v:Value} (I:Inv X pins σ H s) (r:RelV x v) (ty:tyV X.K T x H) :
  s.TypeIs v T/\∀a,v=.ref a->∃ob,s.heap.get? a=some ob/\ob.dict=none:=by
 cases x with
 | str z =>
  obtain ⟨t,rfl⟩:=r
  cases (show T = "str" from ty)
  exact ⟨typeIs_str s z t,λ_ e=>nomatch e⟩
 | int i =>
  obtain ⟨t,rfl⟩:=r
  cases (show T = "int" from ty)
  exact ⟨typeIs_int s i t,λ_ e=>nomatch e⟩
 | ref p =>
  cases r
  rcases ty with ⟨rfl,xs,hq⟩ | ⟨rfl,o,hk,hc,hd⟩ | ⟨rfl,hk⟩ | ⟨rfl,S,n,hk⟩ | ⟨φ,hk,hf⟩
  ·obtain ⟨its,_,pl,_⟩:=I.list hq
   refine ⟨pl.isList.typeIs,λa e=>?_⟩
   cases e
   obtain ⟨o,n,e,c,hd,_⟩:=pl
   exact ⟨o,e,hd⟩
  ·refine ⟨⟨o,I.kIn p o hk,hc⟩,λa e=>?_⟩
   cases e
   exact ⟨o,I.kIn _ o hk,hd⟩
  ·have z:∃o,s.heap.get? p=some o/\o.ExactDict:=by
    rcases hk with ⟨kvs,hk⟩ | ⟨kvs,hk⟩
    ·obtain ⟨_,_,_,_,o,_,_,e,ex,_⟩:=I.hok p _ hk
     exact ⟨o,e,ex⟩
    ·obtain ⟨_,_,_,_,o,_,_,e,ex,_⟩:=I.hok p _ hk
     exact ⟨o,e,ex⟩
   obtain ⟨o,e,ex⟩:=z
   refine ⟨⟨o,e,ex.1⟩,λa e2=>?_⟩
   cases e2
   exact ⟨o,e,ex.2.1⟩
  ·obtain ⟨o,_,_,_,e,ex,_⟩:=I.hok p _ hk
   refine ⟨⟨o,e,ex.1⟩,λa e2=>?_⟩
   cases e2
   exact ⟨o,e,ex.2.1⟩
  ·obtain ⟨h1,_⟩:=I.hok p _ hk
   obtain ⟨o,e,c,d⟩:=hf _ h1
   refine ⟨⟨o,e,c⟩,λa e2=>?_⟩
   cases e2
   exact ⟨o,e,d⟩
 | _=>exact False.elim ty
def tBM0 (K:PySem.W.Frag) (T:String) (r:V->List V->Hp->VK->Prop) (to:TE):TE:=λσ H Q=>to σ H λx H1=>tyV K T x H1/\r x [] H1 Q
def tBM (K:PySem.W.Frag) (T:String) (r:V->List V->Hp->VK->Prop) (to:TE) (t:TA):TE:=λσ H Q=>to σ H λx H1=>tyV K T x H1/\t σ H1 λxs H2=>r x xs H2 Q
end
section
variable {o:Expr} {t:TA} {id:String}
theorem Qne (pa:PlainAttrs T) (slot:Slot T name id) (hty:typeOf (.builtin id)=pure (.type "method_descriptor")) (hm:MtR X id r) (ho:PE X o to)
  (hbase:attributeBase o name X.env (eval o X.env)=eval o X.env:=by rfl) (hline:(apos.endLine == cpos.line)=true:=by rfl):PE X (.Call (.Attribute o name apos) [] [] cpos) (tBM0 X.K T r to):=by
 intro pins s σ H Q I h
 refine wpAny_Call_method0_late hbase hline (thn (ho pins s σ H _ I h) λv s1 ⟨x,H1,I1,r1,ty,q1⟩=>?_)
 obtain ⟨h1,h2⟩:=Qcg I1 r1 ty
 exact ⟨T,id,pa,slot,hty,h1,h2,Calls.callWith_builtin rfl (PySem.evalArgs_none (hm pins s1 σ H1 x [] v [] Q I1 r1 .nil q1))⟩
theorem Qnf (pa:PlainAttrs T) (slot:Slot T name id) (hty:typeOf (.builtin id)=pure (.type "method_descriptor")) (hm:MtR X id r) (ho:PE X o to) (ha:PA X (e::es) t)
  (hbase:attributeBase o name X.env (eval o X.env)=eval o X.env:=by rfl)
  (hfew:((backTo cpos (starEach (e::es) X.env)).all (λx=>!x.1) && (backToKw cpos (keywordEach [] X.env)).all (λx=>x.1.isSome)
   && decide ((e::es).length+([]:List Keyword).length+(if ([]:List Keyword).isEmpty then 0 else 1)<30))=true:=by rfl)
  (hline:(apos.endLine == cpos.line)=true:=by rfl) (hs:starEach (e::es) X.env=(false,eval e X.env)::starEach es X.env:=by rfl) (hplain:(backTo cpos (starEach es X.env)).any (·.1)=false:=by rfl) :
  PE X (.Call (.Attribute o name apos) (e::es) [] cpos) (tBM X.K T r to t):=by
 intro pins s σ H Q I h
 refine wpAny_Call_method_late hbase hfew hline rfl (thn (ho pins s σ H _ I h) λv s1 ⟨x,H1,I1,r1,ty,q1⟩=>?_)
 obtain ⟨h1,h2⟩:=Qcg I1 r1 ty
 refine ⟨T,id,pa,slot,hty,h1,h2,?_⟩
 have hA:=ha cpos pins s1 σ H1 _ I1 q1
 rw [hs] at hA ⊢
 refine Calls.callWith_builtin (by show (false || (backTo cpos (starEach es X.env)).any (·.1))=false;rw [hplain] <;> rfl) (Calls.evalArgs_plain ?_)
 exact thn hA λus s2 ⟨vs,H2,I2,r2,q2⟩=>hm pins s2 σ H2 x vs v us Q I2 r1 r2 q2
end
def MtM (X:Cx) (id:String) (r:V->List V->Hp->VK->Prop):Prop :=
 ∀(pins:List (Addr × Obj)) (s:Shared) (σ:St) (H:Hp) (x:V) (xs:List V) (v:Value) (us:List Value) (Q:VK),Inv X pins σ H s->RelV x v->Vals xs us->r x xs H Q ->
  wpAny (model X.prog X.w) X.A (call (.builtin id) (v::us)) (EP X pins σ Q) X.xe s
theorem Vals.one:∀{x:V} {us:List Value},Vals [x] us->∃u,us=[u]/\RelV x u
 | _,_,.cons r .nil=>⟨_,rfl,r⟩
theorem Vals.zero:∀{us:List Value},Vals [] us->us=[]
 | _,.nil=>rfl
theorem Vals.dropLast {xs:List V} (h:Vals xs us):Vals xs.dropLast us.dropLast:=by
 induction h with
 | nil=>exact .nil
 | cons r t ih =>
  cases t with
  | nil=>exact .nil
  | cons q t'=>exact .cons r ih
theorem Vals.rep {xs:List V} {us:List Value} (h:Vals xs us):∀k:Nat,Vals (List.replicate k xs).flatten (List.replicate k us).flatten
 | 0=>.nil
 | k+1=>by
  rw [List.replicate_succ,List.replicate_succ,List.flatten_cons,List.flatten_cons]
  exact Vals.append h (Vals.rep h k)
theorem Qdu {α:Type} (l:List α):l.eraseIdx (l.length-1)=l.dropLast:=by
 induction l with
 | nil=>rfl
 | cons a r ih =>
  cases r with
  | nil=>rfl
  | cons b r =>
   have e:(a::b::r).length-1=((b::r).length-1)+1:=by
    have h1:(a::b::r).length=r.length+2:=rfl
    have h2:(b::r).length=r.length+1:=rfl
    omega
   rw [e,List.eraseIdx_cons_succ,ih]
   all_goals rfl
theorem Qbf (its:List Value):∀(k:Nat) (acc:List Value),
  List.foldl (λx1 x2=>x1++x2) acc.toArray (List.replicate k its.toArray)=(acc++(List.replicate k its).flatten).toArray
 | 0,acc=>by simp
 | k+1,acc=>by
  have e:acc.toArray++its.toArray=(acc++its).toArray:=by simp
  have e2:(acc++its)++(List.replicate k its).flatten=acc++(List.replicate (k+1) its).flatten:=by
   rw [List.replicate_succ,List.flatten_cons,List.append_assoc]
  rw [← e2,← Qbf its k (acc++its),← e,List.replicate_succ,List.foldl_cons]
section
variable {l:Addr} {xs:List V}
theorem Inv.lset {its':List Value} {f:Array Value->Array Value} (I:Inv X pins σ H s) (hH:H l=some (.lst xs))
  (e:s.heap.get? l=some { cls:=.type "list",data:=.seq its.toArray n }) (hf:f its.toArray=its'.toArray) (hv:Vals ys its') (hz:ys.length<=sizeLine) :
  Inv X pins σ (upd H l (.lst ys)) { s with heap:=s.heap.update l (Obj.mapSeq f),toks:=t' }:=by
 have q:=PySem.IsL.update e f
 rw [hf] at q
 refine I.write (x:=l) (e:=l) (by rw [hH];exact trivial) (.inl rfl) (λb' u hb hu=>(Heap.get?_update_other s.heap (Obj.mapSeq f) (Ne.symm hb)).trans hu) ⟨_,q⟩ ?_
 exact ⟨hz,its',_,hv,q⟩
theorem Inv.lnew (I:Inv X pins σ H s) (hv:Vals ys its) (hz:ys.length<=sizeLine) :
  Inv X pins σ (upd H s.heap.objs.size (.lst ys)) { s with heap:=s.heap.push { cls:=.type "list",data:=.seq its.toArray },toks:=t' } :=
 I.laid (λ_ _ q=>Heap.get?_push_of_some _ q) (Nat.le_refl _) ⟨hz,its,0,hv,Heap.get?_push_size _ rfl⟩
theorem Inv.fresh (I:Inv X pins σ H s):H s.heap.objs.size=none:=I.hok.fresh (Nat.le_refl _)
theorem Inv.lstM (I:Inv X pins σ H s) (hH:H l=some (.lst xs)):xs.length<=sizeLine/\∃(its:List Value) (n:Nat),Vals xs its/\xs.length=its.length/\s.heap.get? l=some { cls:=.type "list",data:=.seq its.toArray n }:=by
 obtain ⟨z,its,n,r,e⟩:=I.hok l _ hH
 exact ⟨z,its,n,r,r.length,e⟩
theorem Qhd (h:n<=sizeLine):Builtin.List.listTooLong n=false:=by
 unfold Builtin.List.listTooLong
 exact decide_eq_false (by omega)
end
def Qke:V->List V->Hp->VK->Prop:=λx vs H Q=>∃l xs y,x=.ref l/\vs=[y]/\H l=some (.lst xs)/\xs.length<sizeLine/\Q .non (upd H l (.lst (xs++[y])))
theorem Qa9:MtM X "list.append" Qke:=by
 intro pins s σ H x vs v us Q I rx rv h
 obtain ⟨l,xs,y,rfl,rfl,hH,hz,q⟩:=h
 cases rx
 obtain ⟨u,rfl,ru⟩:=rv.one
 obtain ⟨z,its,n,r,hl,e⟩:=I.lstM hH
 refine call_meets F.slot_list_append ⟨_,e,rfl⟩ F.entry_list_append (F.args_list_append_2 _ _) (PySem.list_append l its.toArray n u (by rw [List.size_toArray];omega)) ⟨e,?_⟩
 refine ⟨.non,_,I.lset (its':=its++[u]) hH e (by simp) (r.append (.cons ru .nil)) ?_,rfl,q⟩
 rw [List.length_append,List.length_singleton]
 omega
def rPop:V->List V->Hp->VK->Prop:=λx vs H Q=>∃l xs y,x=.ref l/\vs=[]/\H l=some (.lst xs)/\xs[xs.length-1]? = some y/\Q y (upd H l (.lst xs.dropLast))
theorem Qnr:MtM X "list.pop" rPop:=by
 intro pins s σ H x vs v us Q I rx rv h
 obtain ⟨l,xs,y,rfl,rfl,hH,hy,q⟩:=h
 cases rx
 have hus:=rv.zero
 subst hus
 obtain ⟨z,its,n,r,hl,e⟩:=I.lstM hH
 obtain ⟨u,hu,ru⟩:=r.get hy
 have hy':its.toArray[its.toArray.size-1]? = some u:=by
  show its.toArray[its.length-1]? = some u
  rw [← Array.getElem?_toList,← hl]
  exact hu
 refine call_meets F.slot_list_pop ⟨_,e,rfl⟩ F.entry_list_pop (F.args_list_pop_1 _) (MeetsSeq.list_pop_last l its.toArray n u hy' (by rw [List.size_toArray];omega)) ⟨e,?_⟩
 refine ⟨y,_,I.lset (its':=its.dropLast) hH e ?_ r.dropLast ?_,ru,q⟩
 ·show its.toArray.eraseIdxIfInBounds (its.toArray.size-1)=its.dropLast.toArray
  rw [List.size_toArray,List.eraseIdxIfInBounds_toArray,Qdu]
 ·rw [List.length_dropLast]
  omega
def rCat:R2:=λx y H Q=>∃l b xs zs,x=.ref l/\y=.ref b/\H l=some (.lst xs)/\H b=some (.lst zs)/\xs.length+zs.length<=sizeLine/\∀p,H p=none->Q (.ref p) (upd H p (.lst (xs++zs)))
theorem Qnn:OpR X (binaryOp .Add) rCat:=by
 intro pins s σ H x y v u Q I rx ry h
 obtain ⟨l,b,xs,zs,rfl,rfl,hH,hB,hz,q⟩:=h
 cases rx
 cases ry
 obtain ⟨z,its,n,r,hl,e⟩:=I.lstM hH
 obtain ⟨z2,its2,n2,r2,hl2,e2⟩:=I.lstM hB
 refine PySem.P.add_list e e2 ?_ (by rw [List.size_toArray,List.size_toArray];omega)
 have ea:its.toArray++its2.toArray=(its++its2).toArray:=by simp
 rw [ea]
 exact ⟨.ref _,_,I.lnew (t':=s.toks) (r.append r2) (by rw [List.length_append];omega),rfl,q _ I.fresh⟩
def rRep:R2:=λx y H Q=>∃l k xs,x=.ref l/\y=.int k/\H l=some (.lst xs) /\ -(2 ^ 63)<=k/\k<2 ^ 63/\xs.length*k.toNat<=sizeLine /\
 ∀p,H p=none->Q (.ref p) (upd H p (.lst (List.replicate k.toNat xs).flatten))
theorem Qkx {α:Type} (xs:List α) (k:Nat):(List.replicate k xs).flatten.length=k*xs.length:=by
 induction k with
 | zero=>simp
 | succ k ih=>rw [List.replicate_succ,List.flatten_cons,List.length_append,ih,Nat.succ_mul,Nat.add_comm]
theorem Qnh:OpR X (binaryOp .Mult) rRep:=by
 intro pins s σ H x y v u Q I rx ry h
 obtain ⟨l,k,xs,rfl,rfl,hH,h1,h2,hz,q⟩:=h
 cases rx
 obtain ⟨t,rfl⟩:=ry
 obtain ⟨z,its,n,r,hl,e⟩:=I.lstM hH
 have hlen:its.toArray.size*k.toNat<=sizeLine:=by rw [List.size_toArray,← hl];exact hz
 have hcap:¬its.toArray.size*k.toNat > (2 ^ 63-1) / 8:=by
  have:(sizeLine:Nat)<=(2 ^ 63-1) / 8:=by decide
  omega
 have hfit:¬(!Builtin.List.listFitsIndex k)=true:=by
  rw [fitsIndex_both h1 h2]
  exact Bool.false_ne_true
 have hlong:¬Builtin.List.listTooLong (its.toArray.size*k.toNat)=true:=by
  rw [Qhd hlen]
  exact Bool.false_ne_true
 have hnew:List.foldl (λx1 x2=>x1++x2) #[] (List.replicate (if its.toArray.isEmpty=true then 0 else k.toNat) its.toArray)=(List.replicate k.toNat its).flatten.toArray:=by
  have f0:∀m:Nat,List.foldl (λx1 x2=>x1++x2) #[] (List.replicate m its.toArray)=(List.replicate m its).flatten.toArray:=λm=>by
   have:=Qbf its m []
   rw [List.nil_append] at this
   exact this
  rw [f0]
  cases its with
  | nil=>simp
  | cons a r'=>rw [if_neg (by simp)]
 refine wpAny_binaryOp_repeat_ref (T:="list") (U:="int") (by decide) ⟨_,e,rfl⟩ (λs'=>typeIs_int s' k t) noFill_list_mul F.fills_int_mul F.slot_int_rmul repeat_list F.slot_int_index.lookup
  (call_meets F.slot_int_rmul (typeIs_int s k t) F.entry_int_rmul (F.args_int_rmul_2 _ _) (int___rmul___int_list k t l its.toArray n)
   ⟨e,rfl,⟨_,e,rfl⟩,call_meets F.slot_list_mul ⟨_,e,rfl⟩ F.entry_list_mul (F.args_list_mul_2 _ _) (AutoListH.list___mul___list_int_3 l its.toArray n k t hfit hcap hlong) ⟨e,?_⟩⟩)
 rw [hnew]
 exact ⟨.ref _,_,I.lnew (t':=s.toks) (r.rep k.toNat) (by rw [Qkx,Nat.mul_comm];exact hz),rfl,q _ I.fresh⟩
section
variable {κ:Type} [DecidableEq κ]
def valV (kvs:List (κ × V)) (k:κ):Option V:=(kvs.find? λkv=>decide (kv.1=k)).map (·.2)
def putK (kvs:List (κ × V)) (k:κ) (v:V):List (κ × V) :=
 if (kvs.any λkv=>decide (kv.1=k))=true then kvs.map (λkv=>if kv.1=k then (kv.1,v) else kv) else kvs++[(k,v)]
theorem Vi {p:κ × V} {r:List (κ × V)} {k:κ} (e:p.1=k):valV (p::r) k=some p.2:=by simp [valV,List.find?_cons,e]
theorem Vj {p:κ × V} {r:List (κ × V)} {k:κ} (e:¬p.1=k):valV (p::r) k=valV r k:=by simp [valV,List.find?_cons,e]
theorem Qcf (k:κ):∀kvs:List (κ × V),(kvs.any λkv=>decide (kv.1=k))=(valV kvs k).isSome
 | []=>rfl
 | p::r=>by
  rw [List.any_cons]
  by_cases e:p.1=k
  ·simp only [Vi e,decide_eq_true e,Bool.true_or,Option.isSome_some]
  ·rw [Vj e,decide_eq_false e,Bool.false_or];exact Qcf k r
theorem Gr (kvs:List (κ × V)) (k:κ) (v:V):(putK kvs k v).length<=kvs.length+1:=by
 unfold putK
 split
 ·rw [List.length_map];omega
 ·rw [List.length_append,List.length_cons,List.length_nil];omega
theorem RelO.isSome_eq {u:Option Value} (r:RelO o u):o.isSome=u.isSome:=by
 cases o with
 | none=>cases u with
  | none=>rfl
  | some _=>exact (show False from r).elim
 | some _=>cases u with
  | none=>exact (show False from r).elim
  | some _=>rfl
theorem KV.val {kvs:List (κ × V)} {vs:List (κ × Value)} (r:KV kvs vs) (k:κ):RelO (valV kvs k) (valueAt vs k):=by
 unfold KV at r
 induction r with
 | nil=>exact True.intro
 | @cons p q ps qs h t ih =>
  obtain ⟨h1,h2⟩:=h
  by_cases e:p.1=k
  ·have e':q.1=k:=h1.symm.trans e
   have b:valueAt (q::qs) k=some q.2:=by simp [valueAt,List.find?_cons,e']
   rw [Vi e,b];exact h2
  ·have e':¬q.1=k:=λz=>e (h1.trans z)
   have b:valueAt (q::qs) k=valueAt qs k:=by simp [valueAt,List.find?_cons,e']
   rw [Vj e,b];exact ih
theorem KV.any {kvs:List (κ × V)} {vs:List (κ × Value)} (r:KV kvs vs) (k:κ):(kvs.any λkv=>decide (kv.1=k))=vs.any λkv=>decide (kv.1=k):=by
 unfold KV at r
 induction r with
 | nil=>rfl
 | cons h t ih=>rw [List.any_cons,List.any_cons,ih,h.1]
theorem KV.repl {kvs:List (κ × V)} {vs:List (κ × Value)} (r:KV kvs vs) (k:κ) (ry:RelV y u) :
  KV (kvs.map λkv=>if kv.1=k then (kv.1,y) else kv) (vs.map λkv=>if kv.1=k then (kv.1,u) else kv):=by
 unfold KV at r ⊢
 induction r with
 | nil=>exact .nil
 | @cons p q ps qs h t ih =>
  rw [List.map_cons,List.map_cons]
  refine .cons ?_ ih
  obtain ⟨h1,h2⟩:=h
  by_cases e:p.1=k
  ·rw [if_pos e,if_pos (h1.symm.trans e)];exact ⟨h1,ry⟩
  ·rw [if_neg e,if_neg (λz=>e (h1.trans z))];exact ⟨h1,h2⟩
theorem KV.put {kvs:List (κ × V)} {vs:List (κ × Value)} (r:KV kvs vs) (k:κ) (ry:RelV y u):KV (putK kvs k y) (stored vs k u):=by
 unfold putK stored
 rw [r.any k]
 by_cases e:(vs.any λkv=>decide (kv.1=k))=true
 ·rw [if_pos e,if_pos e];exact r.repl k ry
 ·rw [if_neg e,if_neg e];exact Paired.snoc r ⟨rfl,ry⟩
theorem KV.length {kvs:List (κ × V)} {vs:List (κ × Value)} (r:KV kvs vs):kvs.length=vs.length:=Paired.length r
end
theorem Qkz {k:Key} (r:RelV (kV k) u):(Jx P w).is k u=true:=by
 cases k with
 | inl i=>obtain ⟨t,e⟩:=(show ∃t,u=Value.int i t from r);subst e;exact Qbx P w i t
 | inr x=>obtain ⟨t,e⟩:=(show ∃t,u=Value.str x t from r);subst e;exact Qbw P w x t
theorem Qba {P:Program} {w:World}:∀{ks:List Key} {us:List Value},Vals (ks.map kV) us->ItemsAre (Jx P w) ks us
 | [],_,r=>by rw [List.map_nil] at r;cases r;exact .nil
 | k::ks,_,r=>by
  rw [List.map_cons] at r
  cases r with
  | cons h t=>exact .cons (Qkz h) (Qba t)
abbrev KT (H:Hp):List (List Key × V)->List (List Key × Addr × Value)->Prop:=Paired λp q=>p.1=q.1/\H q.2.1=some (.tup (p.1.map kV))/\RelV p.2 q.2.2
theorem KT.val (r:KT H kvs xs) (k:List Key):RelO (valV kvs k) ((atKey xs k).map (·.2)):=by
 induction r with
 | nil=>exact True.intro
 | @cons p q ps qs h t ih =>
  obtain ⟨h1,_,h2⟩:=h
  by_cases e:p.1=k
  ·have e':q.1=k:=h1.symm.trans e
   have b:atKey (q::qs) k=some q.2:=by simp [atKey,List.find?_cons,e']
   rw [Vi e,b];exact h2
  ·have e':¬q.1=k:=λz=>e (h1.trans z)
   have b:atKey (q::qs) k=atKey qs k:=by simp [atKey,List.find?_cons,e']
   rw [Vj e,b];exact ih
theorem KT.repl (r:KT H kvs xs) (k:List Key) (ry:RelV y u) :
  KT H (kvs.map λkv=>if kv.1=k then (kv.1,y) else kv) (xs.map (putAt k u)):=by
 induction r with
 | nil=>exact .nil
 | @cons p q ps qs h t ih =>
  rw [List.map_cons,List.map_cons]
  refine .cons ?_ ih
  obtain ⟨h1,h2,h3⟩:=h
  unfold putAt
  by_cases e:p.1=k
  ·rw [if_pos e,if_pos (h1.symm.trans e)];exact ⟨h1,h2,ry⟩
  ·rw [if_neg e,if_neg (λz=>e (h1.trans z))];exact ⟨h1,h2,h3⟩
theorem KT.put (r:KT H kvs xs) (k:List Key) (hb:H b=some (.tup (k.map kV))) (ry:RelV y u) :
  KT H (putK kvs k y) (storedH xs k b u):=by
 have e:(kvs.any λkv=>decide (kv.1=k))=(atKey xs k).isSome:=by
  rw [Qcf,(r.val k).isSome_eq,Option.isSome_map]
 unfold putK storedH
 rw [e]
 by_cases q:(atKey xs k).isSome=true
 ·rw [if_pos q,if_pos q];exact r.repl k ry
 ·rw [if_neg q,if_neg q];exact Paired.snoc r ⟨rfl,hb,ry⟩
theorem KT.keeps (r:KT H kvs xs) (ht:∀b ys,H b=some (.tup ys)->H' b=some (.tup ys)):KT H' kvs xs :=
 Paired.mapP r λ_ _ z=>⟨z.1,ht _ _ z.2.1,z.2.2⟩
section
variable {h:Heap}
theorem Ql6 {u:HO} (ok:HOk P w H h) (e:Rd H a u):J0 P w H h a u:=e.ok ok
theorem Qhq {kvs:List (Key × V)} (ok:HOk P w H h) (e:Rd H a (.dK kvs)):kvs.length<=sizeLine/\(a == sysModules)=false/\∃vs,KV kvs vs/\h.DictOf (Jx P w) a vs :=
 show J0 P w H h a (.dK kvs) from Ql6 ok e
theorem Qqf {kvs:List (Key × V)} (ok:HOk P w H h) (e:H a=some (.dK kvs)):kvs.length<=sizeLine/\(a == sysModules)=false/\∃vs,KV kvs vs/\h.DictOf (Jx P w) a vs:=Qhq ok (.inl e)
theorem Qfs {ks:List Key} (ok:HOk P w H h) (e:H a=some (.tup (ks.map kV))):(tupleKind (Jx P w)).is h ks a:=by
 obtain ⟨_,its,r,o,h1,h2,n,h3⟩:=(show J0 P w H h a (.tup (ks.map kV)) from ok a _ e)
 exact ⟨o,its.toArray,n,h1,h2,h3,by simpa using Qba r⟩
theorem Qlf (ok:HOk P w H h) (e:Rd H a (.dT kvs)):kvs.length<=sizeLine/\(a == sysModules)=false /\
  ∃xs,KT H kvs xs/\h.DictOfH (tupleKind (Jx P w)) a xs:=by
 obtain ⟨z,y,xs,r,o,es,ep,h1,h2,h3,h4,h5⟩:=(show J0 P w H h a (.dT kvs) from Ql6 ok e)
 refine ⟨z,y,xs,r,o,es,ep,h1,h2,h3,h4,λx hx=>?_,h5⟩
 have all:∀{l:List (List Key × V)} {m:List (List Key × Addr × Value)},KT H l m->∀x∈m,(tupleKind (Jx P w)).is h x.1 x.2.1:=by
  intro l m q
  induction q with
  | nil=>intro x hx;exact nomatch hx
  | @cons p q ps qs hq t ih =>
   intro x hx
   rcases List.mem_cons.mp hx with e | hx
   ·subst e
    exact Qfs ok (by rw [← hq.1];exact hq.2.1)
   ·exact ih x hx
 exact all r x hx
theorem Qqe (ok:HOk P w H h) (e:H a=some (.dT kvs)):kvs.length<=sizeLine/\(a == sysModules)=false /\
  ∃xs,KT H kvs xs/\h.DictOfH (tupleKind (Jx P w)) a xs:=Qlf ok (.inl e)
end
def DGet (H:Hp) (a:Addr) (y:V) (r:Option V):Prop :=
 (∃kvs k,Rd H a (.dK kvs)/\y=kV k/\r=valV kvs k)\/∃kvs k b,Rd H a (.dT kvs)/\y=.ref b/\H b=some (.tup (k.map kV))/\r=valV kvs k
def DPut (H:Hp) (a:Addr) (y v:V) (H':Hp):Prop :=
 (∃kvs k,H a=some (.dK kvs)/\y=kV k/\kvs.length<sizeLine/\H'=upd H a (.dK (putK kvs k v))) \/
 ∃kvs k b,H a=some (.dT kvs)/\y=.ref b/\H b=some (.tup (k.map kV))/\kvs.length<sizeLine/\H'=upd H a (.dT (putK kvs k v))
theorem DGet.k {H:Hp} {a:Addr} {kvs:List (Key × V)} {k:Key} (e:H a=some (.dK kvs)):DGet H a (kV k) (valV kvs k):=.inl ⟨kvs,k,.inl e,rfl,rfl⟩
theorem DGet.t {k:List Key} (e:H a=some (.dT kvs)) (eb:H b=some (.tup (k.map kV))):DGet H a (.ref b) (valV kvs k):=.inr ⟨kvs,k,b,.inl e,rfl,eb,rfl⟩
theorem DPut.k {H:Hp} {a:Addr} {kvs:List (Key × V)} {k:Key} {v:V} (e:H a=some (.dK kvs)) (hl:kvs.length<sizeLine):DPut H a (kV k) v (upd H a (.dK (putK kvs k v))):=.inl ⟨kvs,k,e,rfl,hl,rfl⟩
theorem DPut.t {k:List Key} (e:H a=some (.dT kvs)) (eb:H b=some (.tup (k.map kV))) (hl:kvs.length<sizeLine) :
  DPut H a (.ref b) v (upd H a (.dT (putK kvs k v))):=.inr ⟨kvs,k,b,e,rfl,eb,hl,rfl⟩
section
variable {r:Value}
theorem Qgi (hu:A.units+1<cLine) (I:Inv X pins σ H s) (g:DGet H a y (some v)) (ry:RelV y u) (h:∀w' s',Inv X pins σ H s'->RelV v w'->Q w' s') :
  wpAny (model X.prog X.w) A (getItem (.ref a) u) Q E s:=by
 rcases g with ⟨kvs,k,e,ey,l⟩ | ⟨kvs,k,b,e,ey,eb,l⟩
 ·subst ey
  obtain ⟨z,hd,vs,rel,dd⟩:=Qhq I.hok e
  obtain ⟨w',hw,rw'⟩:=RelO.some_of (v:=v) (o:=valueAt vs k) (by rw [l];exact rel.val k)
  exact wpAny_getItem_of (Qkz ry) dd.mapOf hw (h w' _ (I.tok _) rw')
 ·subst ey
  cases (show u=Value.ref b from ry)
  obtain ⟨z,hd,xs,rel,dd⟩:=Qlf I.hok e
  obtain ⟨w',hw,rw'⟩:=RelO.some_of (v:=v) (o:=(atKey xs k).map (·.2)) (by rw [l];exact rel.val k)
  obtain ⟨p,hp,hp2⟩:=Option.map_eq_some_iff.mp hw
  refine wpAny_getItem_heap (tupleKind_room_in1 hu) (Qfs I.hok eb) dd hp ?_
  rw [hp2]
  exact h w' _ (I.tok _) rw'
theorem Qgg (I:Inv X pins σ H s) (mu:Mut (H a)) (hs:Heap.SameBut a s.heap h') (he:∃q,h'.get? a=some q) (new:J0 X.prog X.w (upd H a ob) h' a ob) :
  Inv X pins σ (upd H a ob) { s with heap:=h',toks:=t' } :=
 I.write (x:=a) (e:=a) mu (.inl rfl) (λb q hb z=>(hs.2 b hb).trans z) he new
theorem Qom {kvs:List (Key × V)} {vs:List (Key × Value)} (z:kvs.length<=sizeLine) (hd:(a == sysModules)=false) (rel:KV kvs vs) (dd:h'.DictOf (Jx P w) a vs) :
  J0 P w H' h' a (.dK kvs):=⟨z,hd,vs,rel,dd⟩
theorem Qgh {Q:Unit->Shared->Prop} (hu:A.units+1<cLine) (I:Inv X pins σ H s) (g:DPut H a y v H') (ry:RelV y u) (rv:RelV v r) (h:∀s',Inv X pins σ H' s'->Q () s') :
  wpAny (model X.prog X.w) A (setItem (.ref a) u r) Q E s:=by
 rcases g with ⟨kvs,k,e,ey,l,eH⟩ | ⟨kvs,k,b,e,ey,eb,l,eH⟩
 ·subst ey eH
  obtain ⟨z,hd,vs,rel,dd⟩:=Qqf I.hok e
  have hz:vs.length<=sizeLine:=by rw [← rel.length];exact z
  have hl:(putK kvs k v).length<=sizeLine:=by have:=Gr kvs k v;omega
  refine wpAny_setItem_pairs (hsz:=hz) (Qkz ry) dd λh' dd' hs=>h _ ?_
  have he:∃q,h'.get? a=some q:=let ⟨q,_,_,hq,_⟩:=dd';⟨q,hq⟩
  exact Qgg I (by rw [e];exact True.intro) hs he (Qom hl hd (rel.put k rv) dd')
 ·subst ey eH
  cases (show u=Value.ref b from ry)
  obtain ⟨z,hd,xs,rel,dd⟩:=Qqe I.hok e
  have hz:xs.length<=sizeLine:=by rw [← Paired.length rel];exact z
  have hl:(putK kvs k v).length<=sizeLine:=by have:=Gr kvs k v;omega
  refine wpAny_setItem_heap (hsz:=hz) (tupleKind_room_in1 hu) (Qfs I.hok eb) dd λh' dd' hs=>h _ ?_
  obtain ⟨q,es,ep,hq,h2,h3,h4,_,h5⟩:=dd'
  refine Qgg I (by rw [e];exact True.intro) hs ⟨q,hq⟩ ⟨hl,hd,_,(rel.put k eb rv).keeps λc ys ec=>?_,q,es,ep,hq,h2,h3,h4,h5⟩
  rw [Qk (Qp2 ec e (λz=>nomatch z))]
  exact ec
end
section
variable {kvs:List (Key × V)}
theorem Qqg (I:Inv X pins σ H s) (e:Rd H a (.dK kvs)) (h:∀t s',Inv X pins σ H s'->Q (.int kvs.length t) s'):wpAny (model X.prog X.w) A (call (.builtin "len") [.ref a]) Q E s:=by
 obtain ⟨z,hd,vs,rel,dd⟩:=Qhq I.hok e
 refine call_len_dict hd dd (by rw [← rel.length];rw [sizeLine_eq] at z;omega) ?_
 rw [← rel.length]
 exact h _ _ (I.tok _)
end
theorem Qb0 (I:Inv X pins σ H s) (g:DGet H a y o):s.TypeIs (.ref a) "dict":=by
 rcases g with ⟨kvs,k,e,_,_⟩ | ⟨kvs,k,b,e,_,_,_⟩
 ·obtain ⟨_,_,vs,_,dd⟩:=Qhq I.hok e
  exact dd.typeIs
 ·obtain ⟨_,_,xs,_,dd⟩:=Qlf I.hok e
  exact dd.typeIs
end L2
variable {q:PySem.Program} {loose:List PySem.Str} {XP:(PySem.Str->Option PySem.Value)->PySem.Heap->Prop} {YP:PySem.World->PySem.Heap->Prop} {d:PySem.DefRec}
namespace Att
open PySem PySem.W PySem.Calls PyProof.Rows
theorem Gv {P:Params} {h:Heap}:∀(ns:List Int) (vs:List Value),WellAll P h vs (ns.map WData.int)->IntsAre vs ns:=by
 intro ns
 induction ns with
 | nil =>
  intro vs w
  rw [List.map_nil] at w
  cases w
  exact .nil
 | cons n ns ih =>
  intro vs w
  rw [List.map_cons] at w
  cases w with
  | cons a b =>
   cases a
   exact .cons _ _ (ih _ b)
theorem Qd9 (hn:l.most=some n) {P:Params} {h:Heap} {args:List WData} {vals:List Value}
  (hpre:l.row.toRowW.claim.pre args=true) (hwl:WellAll P h vals args) :
  ∃a vs ns,vals=[Value.ref a]/\args=[WData.list (ns.map WData.int)]/\h.get? a=some { cls:=.type "list",data:=.seq vs.toArray }/\IntsAre vs ns/\ns.length<=n:=by
 have hsh:WShape.hasAll [] args [.list .int]=true:=(pre_splitW hpre).1
 have hc:l.pre.holds [] { args:=args }=true:=(pre_splitW hpre).2
 obtain ⟨d,r,rfl,h1,h2⟩:=hasAllW_cons hsh
 obtain rfl:=hasAllW_nil h2
 obtain ⟨xs,rfl,h3⟩:=hasW_list h1
 obtain ⟨ns,rfl⟩:=items_int h3
 have hlen:ns.length<=n:=by
  unfold OpenLaw.pre at hc
  have h4:(WTm.not (.lt (.lit (.int (n:Int))) (.len (.arg 0)))).holds [] { args:=[.list (ns.map .int)] }=true:=by
   have h4:=(holds_andW hc).1
   rw [hn] at h4
   exact h4
  have h5:=condW_of h4 (w_not (w_lt w_lit (w_len_list (w_arg rfl))))
  rw [List.length_map] at h5
  refine Nat.le_of_not_lt λq=>?_
  have q':(n:Int)<((ns.length:Nat):Int):=by omega
  first
   | (rw [decide_eq_true q'] at h5;exact absurd h5 (by decide))
   | (simp at h5;omega)
 cases hwl with
 | cons w1 w2 =>
  cases w2
  cases w1 with
  | list ho hall=>exact ⟨_,_,ns,rfl,rfl,ho,Gv ns _ hall,hlen⟩
theorem Qfb (l:OpenLaw) (args:List WData):l.row.toRowW.claim.post args (.bool true) args=true :=
 postW_of (r:=l.row.toRowW) (X:=(true == true))
  (show WShape.has [] (.bool true) .bool=true by first | rfl | decide | simp [WShape.has,WShape.arms,WShape.armsAll])
  (show (WTm.eq .res (.lit (.bool true))).value [] { args:=args,res:=some (.bool true),after:=args }=some (.bool (true == true)) from w_eq_bool (w_res rfl) w_lit) rfl
theorem Qcc
  (hn:l.most=some n) (hdf:d.params.defaults=[])
  (call:∀(w:World) (s₀ s₁:Shared) (mg mb:Str->Option Value) (fa:Addr) (o:Obj) (pm cd doc:Value) (a:Addr) (vs:List Value) (ns:List Int),
   Ground q loose [] XP w s₀ mg mb s₁.heap->YP w s₁.heap ->
   s₁.heap.get? fa=some o->o.data=.func (docDef d.name d.params d.body d.scope pm cd doc)->s₁.heap.CodeRec cd d.name->mg d.name=some (.ref fa) ->
   s₁.heap.get? a=some { cls:=.type "list",data:=.seq vs.toArray }->IntsAre vs ns->ns.length<=n->s₁.gens = #[] ->
   codeAny (model l.prog w) callerA (.call (.ref fa) ⟨[.ref a],[]⟩) (λr s'=>r=.ok (.ret (.bool true))/\OldK s₁.heap s'.heap/\s'.os=s₁.os/\AllBare s'.gens) s₁) :
  WalkO q loose XP YP l.row.toRowW d [] (λf vs=>PySem.call f vs):=by
 intro w s₀ s₁ mg mb G Y fa o pm cd doc dV kV ho hd hcd hD hmg hg args vals as hpre hlay hrd hwl hlo
 obtain rfl:dV=.none:=Dflts.none hD hdf
 obtain rfl:kV=.none:=Dflts.noKw hD
 obtain ⟨a,vs,ns,rfl,rfl,hobj,hints,hlen⟩:=Qd9 hn hpre hwl
 refine enter_call (codeAny_mono (call w s₀ s₁ mg mb fa o pm cd doc a vs ns G Y ho (fd_plain hd) hcd hmg hobj hints hlen hg) λr s' hq=>?_)
 obtain ⟨rfl,h2,h3,h4⟩:=hq
 exact ⟨.inl ⟨.bool true,.bool true,[],rfl,λ_=>rfl,.bool true,Qfb l _,λ_=>⟨List.Pairwise.nil,λ_ hm=>(nomatch hm)⟩⟩,h2,h3,h4⟩
end Att
variable {o:L2.HO} {k:Nat} {fa:PySem.Addr} {elt:PySem.Expr} {ifs:List PySem.Expr} {ts:List PySem.Str} {gt:L2.TG} {tt:L2.TT} {ix:List Nat} {J:L2.It} {tn:Nat->PySem.Heap->Prop} {RR:PySem.Value->PySem.Addr->PySem.Result->PySem.Shared->Prop} {G:List L2.V->L2.Hp->Prop} {px:PySem.Pos}
namespace L2
open PySem PySem.Spec PyProof.Rows
theorem Qad:∀{vs:List Value} {ns:List Int},IntsAre vs ns->Vals (ns.map V.int) vs
 | _,_,.nil=>.nil
 | _,_,.cons n t h=>.cons ⟨t,rfl⟩ (Qad h)
def Only (H:Hp):Prop:=∀b,H b=none\/∃o xs,H b=some (.frz o (.lst xs))
theorem Qhg {mb:Str->Option Value} {s₁:Shared} {vs:List Value}
  (KX:K.In s₁.heap) (hns:s₁.heap.Ns mainGlobals mg) (hb:s₁.heap.Ns builtinsNs mb) (hbb:∀x:Str,x ≠ "__name__" -> mb x=bootBuiltins x) (hlim:s₁.heap.NoLimit) (hg:s₁.gens = #[])
  (ha:s₁.heap.get? a=some { cls:=.type "list",data:=.seq vs.toArray }) (hi:IntsAre vs ns) (hl:ns.length<=sizeLine) (hr:Room k callerA)
  (F:∀base:Heap,K.In base->base.Ns mainGlobals mg->FnOk P w K mg base CX k fa fd [x] sp) (hbind:∀(s:Shared) (u:Value),BindsTo s fd ⟨[u],[]⟩ [(x,u)])
  (hsp:∀H:Hp,Only H->SqL K H a (ns.map V.int)->sp [.ref a] H (λv _=>v=.bl true) λ_ _ _=>False)
  (hCX:∀H e s',CX [] H s₁ (λ_ _ _=>False) e s'->False) :
  codeAny (model P w) callerA (.call (.ref fa) ⟨[.ref a],[]⟩) (λr s'=>r=.ok (.ret (.bool true))/\OldK s₁.heap s'.heap/\s'.os=s₁.os/\AllBare s'.gens) s₁:=by
 have rv:=Qad hi
 have lenV:=hi.length
 -- from an abstract heap in which nothing but the script may be tracked
 have core:∀H:Hp,Only H->SqL K H a (ns.map V.int)->HOk P w H s₁.heap->(∀b,H b≠none->b=a)->(H a≠none->K.lookup a=none) ->
   codeAny (model P w) callerA (.call (.ref fa) ⟨[.ref a],[]⟩) (λr s'=>r=.ok (.ret (.bool true))/\OldK s₁.heap s'.heap/\s'.os=s₁.os/\AllBare s'.gens) s₁:=by
  intro H hO hS hok hA hK
  have base_of:∀{b:Addr} {o:Obj},s₁.heap.get? b=some o->H b=none->(hidT s₁.heap H).get? b=some o:=λe n=>Qhk e n
  have noA:∀{b:Addr} {o:Obj} {es:Array DictEntry} {ep:Nat},s₁.heap.get? b=some o->o.data=.dict es ep->H b=none:=λ{b o es ep} e d=>by
   cases q:H b with
   | none=>rfl
   | some u =>
    have e':b=a:=hA b (by rw [q];simp)
    subst e'
    rw [ha] at e;cases e
    have d':Data.seq vs.toArray _=Data.dict es ep:=d
    cases d'
  have nsK:∀{b:Addr} {m:Str->Option Value},s₁.heap.Ns b m->(hidT s₁.heap H).Ns b m:=λ{b m} ⟨o,es,ep,e,d,r⟩=>⟨o,es,ep,base_of e (noA e d),d,r⟩
  have hKb:K.In (hidT s₁.heap H):=λb o e=>base_of (KX b o e) (by
   cases q:H b with
   | none=>rfl
   | some u =>
    have e':b=a:=hA b (by rw [q];simp)
    subst e'
    rw [hK (by rw [q];simp)] at e;cases e)
  have hM:Mod K mg (hidT s₁.heap H):=⟨hKb,nsK hns,⟨mb,nsK hb,hbb⟩,let ⟨mc,h1,h2⟩:=hlim;⟨mc,nsK h1,h2⟩⟩
  have e0:Env0 P w K mg (hidT s₁.heap H) callerA [] s₁ H:=⟨rfl,hM,λb o e=>Qkt e,Nat.le_of_eq (Qf0 _ _),trivial,λb hb=>absurd (show b∈([]:List Addr) from hb) (by simp),hok,.of_eq hg⟩
  refine codeAny_mono ((F _ hKb (nsK hns)).run callerA [] s₁ H ⟨[.ref a],[]⟩ [.ref a] [.ref a] _ _ hr e0 (hbind s₁ (.ref a)) (.cons rfl .nil) (hsp H hO hS)) λr s' h=>?_
  cases r with
  | error e=>exact (hCX H e s' h).elim
  | ok fl =>
   cases fl with
   | next=>exact False.elim h
   | brk=>exact False.elim h
   | cont=>exact False.elim h
   | ret u =>
    obtain ⟨v,H',os,bare,un,hok',r',q⟩:=h
    have q':v=.bl true:=q
    subst q'
    obtain rfl:u=Value.bool true:=r'
    refine ⟨rfl,OldK.of_keep λb o e=>?_,os,bare⟩
    cases q:H b with
    | none=>exact un.keep b o e q (by intro z;exact absurd (show b∈([]:List Addr) from z) (by simp)) (by simp)
    | some u =>
     rcases hO b with z | ⟨ob,xs,z⟩
     ·rw [q] at z;cases z
     ·have z2:=un.frzs b ob _ z
      obtain ⟨e1,_⟩:=hok b _ z
      obtain ⟨e2,_⟩:=hok' b _ z2
      rw [e] at e1;cases e1
      exact e2
 cases hk:K.lookup a with
 | some o =>
  -- the script is one of the module's own objects
  have e:=KX a o hk
  rw [ha] at e
  cases e
  refine core (λ_=>none) (λ_=>.inl rfl) (.inr ⟨_,vs.toArray,_,hk,rfl,rfl,rfl,by rw [List.size_toArray,lenV];exact hl,by simpa using rv⟩) (λb u z=>by have z':(none:Option HO)=some u:=z;cases z') (λb z=>absurd rfl z) λz=>absurd rfl z
 | none =>
  refine core (λb=>if b=a then some (.frz { cls:=.type "list",data:=.seq vs.toArray } (.lst (ns.map V.int))) else none) (λb=>?_) (.inl (.inr ⟨{ cls:=.type "list",data:=.seq vs.toArray },if_pos rfl⟩)) (λb u z=>?_) (λb z=>?_) λ_=>hk
  ·by_cases hb:b=a
   ·exact .inr ⟨_,_,if_pos hb⟩
   ·exact .inl (if_neg hb)
  ·by_cases hb:b=a
   ·have z':=(if_pos hb).symm.trans z
    cases z'
    subst hb
    exact ⟨ha,by rw [List.length_map];exact hl,vs,_,rv,ha⟩
   ·have z':=(if_neg hb).symm.trans z
    cases z'
  ·by_cases hb:b=a
   ·exact hb
   ·exact absurd (if_neg hb) z
theorem Qju {K:Params->PySem.W.Frag} {CX:World->CXT} {sp:World->Sp}
  (hn:l.most=some n) (hn2:n<=sizeLine) (hdf:d.params.defaults=[]) (hr:Room k callerA)
  (hY:∀(w:World) (h:Heap),YP w h->(K w.params).In h)
  (F:∀(w:World) (mg:Str->Option Value) (fa:Addr) (h:Heap),(K w.params).In h->h.Ns mainGlobals mg->mg d.name=some (.ref fa) ->
   ∃fd:FuncData,(∀(s:Shared) (u:Value),BindsTo s fd ⟨[u],[]⟩ [(x,u)]) /\
    ∀base:Heap,(K w.params).In base->base.Ns mainGlobals mg->FnOk l.prog w (K w.params) mg base (CX w) k fa fd [x] (sp w))
  (hsp:∀(w:World) (H:Hp) (a:Addr) (ns:List Int),ns.length<=n->Only H->SqL (K w.params) H a (ns.map V.int)->sp w [.ref a] H (λv _=>v=.bl true) λ_ _ _=>False)
  (hCX:∀(w:World) (H:Hp) (s:Shared) (e:Value) (s':Shared),CX w [] H s (λ_ _ _=>False) e s'->False) :
  PySem.W.WalkO q loose XP YP l.row.toRowW d [] (λf vs=>PySem.call f vs):=by
 refine Att.Qcc hn hdf λw s₀ s₁ mg mb fa o pm cd doc a vs ns G Y ho hd hcd hmg hobj hints hlen hg=>?_
 have KX:=hY w _ Y
 obtain ⟨fd,hb,hF⟩:=F w mg fa _ KX G.T.g hmg
 exact Qhg KX G.T.g G.T.b G.T.builtins G.T.nolimit hg hobj hints (Nat.le_trans hlen hn2) hr hF hb (λH hO hS=>hsp w H a ns hlen hO hS) λH e s'=>hCX w H s₁ e s'
def Zw (s:Stmt):Arguments:=match s with
 | .FunctionDef _ a _ _ _ _ _ _ _ _=>a
 | _=>{ posonlyargs:=[],args:=[],vararg:=none,kwonlyargs:=[],kw_defaults:=[],kwarg:=none,defaults:=[] }
def Qx (s:Stmt):List Stmt:=match s with
 | .FunctionDef _ _ b _ _ _ _ _ _ _=>b
 | _=>[]
def Qb (s:Stmt):Scope:=match s with
 | .FunctionDef _ _ _ _ _ _ sc _ _ _=>sc
 | _=>{ kind:=.function,names:=[],isGenerator:=false,isCoroutine:=false }
abbrev CX0:CXT:=λ_ _ _ _ _ _=>False
abbrev E0:XK:=λ_ _ _=>False
theorem Qg9:Qbl CX0 X E0:=λ_ _ _ _ _ _ _ h=>h.elim
structure Fun (K:PySem.W.Frag) (x qual:Str) (st:Stmt) (f:Addr) (fd:FuncData):Prop where
 ex:∃(oc:Value) (od:Option Addr) (kV doc pm:Value) (an:Option Addr) (cdv ct:Value) (osl:Array (Option Value)),
  fd=PySem.W.fnOf x qual (Zw st) (Qx st) (Qb st) .none kV doc pm an cdv ct/\K.lookup f=some ⟨oc,od,.func fd,osl⟩/\PySem.W.codeIn K cdv qual=true
 kp:PySem.W.keepIn K (.ref f)=true
theorem Fun.ok (F:Fun K x qual st f fd) (S:FnScope N ps (Qb st)) (len:∀vs H Q E,sp vs H Q E->vs.length=ps.length)
  (hbody:∀(cdv:Value) (A:Around) (outer:List Env) (s:Shared) (H:Hp) (vs:List V) (Q:VK) (E:XK),Room k (A.deeper (envOfC qual (Qb st) s.heap.objs.size f cdv))->sp vs H Q E ->
   ∃t,PSs (cxOf CX0 P w K mg base N qual (Qb st) f cdv A outer s H E).nox (Qx st) t/\t { nx:=λ_ H'=>Q .non H',rt:=Q } (Zo N vs) H):FnOk P w K mg base CX0 (k+1) f fd ps sp:=by
 obtain ⟨oc,od,kV,doc,pm,an,cdv,ct,osl,rfl,lk,hcd⟩:=F.ex
 refine Qp9 lk hcd S len λA outer s H vs Q E hr hsp=>?_
 obtain ⟨t,h,q⟩:=hbody cdv A outer s H vs Q E hr hsp
 exact ⟨t,h.nox,q⟩
theorem Fun.binds (F:Fun K x qual st f fd)
  (h:∀(kV doc pm:Value) (an:Option Addr) (cdv ct:Value) (us:List Value),us.length=ps.length->bindArgs (PySem.W.fnOf x qual (Zw st) (Qx st) (Qb st) .none kV doc pm an cdv ct) ⟨us,[]⟩=pure (ps.zip us)):Yt K fd ps []:=by
 obtain ⟨oc,od,kV,doc,pm,an,cdv,ct,osl,rfl,lk,hcd⟩:=F.ex
 exact .all (h kV doc pm an cdv ct)
theorem Qf6 {oc:Value} {od an:Option Addr} {kV doc pm cdv ct:Value} (l:K.lookup f=some ⟨oc,od,.func (PySem.W.fnOf x qual (Zw st) (Qx st) (Qb st) .none kV doc pm an cdv ct),osl⟩)
  (c:PySem.W.codeIn K cdv qual=true) (k:PySem.W.keepIn K (.ref f)=true):Fun K x qual st f (PySem.W.fnOf x qual (Zw st) (Qx st) (Qb st) .none kV doc pm an cdv ct):=⟨⟨oc,od,kV,doc,pm,an,cdv,ct,osl,rfl,l,c⟩,k⟩
theorem Q6 (hr:Room k A):A.units+1<cLine:=Nat.lt_of_le_of_lt (Nat.add_le_add_left (by decide:1<=64) _) hr.units
theorem Qd7 (h:n<=1000):n<sizeLine:=Nat.lt_of_le_of_lt h (by decide)
theorem pv (i:Nat) (hN:X.N[i]? = some x:=by rfl) (hv:Vis X.env.scope x:=by first | exact Or.inl rfl | exact Or.inr (Or.inl rfl) | exact Or.inr (Or.inr rfl)) (hd:(x == ("__debug__" : Str))=false:=by decide)
  (hcd:(x == ("__classdict__" : Str))=false:=by decide):PE X (.Name x pos) (tVar i):=Zh hN hv hd hcd
theorem Qgo:V1 X (.builtin "len") (λxs H Q=>∃a kvs,xs=[V.ref a]/\H a=some (.dK kvs)/\Q (.int kvs.length) H):=by
 intro pins s σ H xs us Q I r h
 obtain ⟨a,kvs,rfl,ha,q⟩:=h
 obtain ⟨u,rfl,ru⟩:=Qjz r
 cases ru
 exact Qqg I (.inl ha) λt s' I'=>⟨.int kvs.length,H,I',⟨t,rfl⟩,q⟩
def Same (H H':Hp):Prop:=∀b o,H b=some o->H' b=some o
theorem Same.refl (H:Hp):Same H H:=λ_ _ h=>h
theorem Same.trans (a:Same H H1) (b:Same H1 H2):Same H H2:=λc o h=>b c o (a c o h)
theorem Same.free (e:Same H H') {l:Addr} (h:H' l=Option.none):H l=Option.none:=by
 cases q:H l with
 | none=>rfl
 | some o =>
  rw [e l o q] at h
  cases h
theorem Vd {env:Env}:∀(names:List (Str × NameKind)) (acc:List (Str × Addr)),
  (∀x∈names,x.2=.free->∃c,env.cells.lookup x.1=some c)->(∀y c,acc.lookup y=some c->env.cells.lookup y=some c) ->
  ∃cl:List (Str × Addr),(forIn names acc (λ(x:Str × NameKind) (cs:List (Str × Addr)) =>
    if (x.2 == NameKind.free)=true then do
     let c ← cellOf env x.1
     pure (ForInStep.yield ((x.1,c)::cs))
    else pure (ForInStep.yield cs)):Sem (List (Str × Addr)))=pure cl /\
   (∀y c,cl.lookup y=some c->env.cells.lookup y=some c)/\(∀y,(acc.lookup y).isSome=true->(cl.lookup y).isSome=true) /\
   ∀x∈names,x.2=.free->(cl.lookup x.1).isSome=true
 | [],acc,_,ha=>⟨acc,by rw [List.forIn_nil],ha,λ_ h=>h,λ_ h=>nomatch h⟩
 | (n,k)::r,acc,hn,ha=>by
  rw [List.forIn_cons]
  by_cases hk:k=.free
  ·subst hk
   obtain ⟨c,hc⟩:=hn (n,.free) List.mem_cons_self rfl
   have hc':env.cells.lookup n=some c:=hc
   obtain ⟨cl,e,h1,h2,h3⟩:=Vd r ((n,c)::acc) (λx hx=>hn x (List.mem_cons_of_mem _ hx)) (λy c' h=>by
    rw [List.lookup_cons] at h
    cases q:y == n with
    | true=>rw [q] at h;cases h;rw [beq_iff_eq.mp q];exact hc'
    | false=>rw [q] at h;exact ha y c' h)
   refine ⟨cl,?_,h1,λy hy=>h2 y ?_,λx hx hf=>?_⟩
   ·have e0:cellOf env n=pure c:=by unfold cellOf;rw [hc']
    show ((if ((NameKind.free == NameKind.free)=true) then (cellOf env n >>= λc=>pure (ForInStep.yield ((n,c)::acc))) else pure (ForInStep.yield acc)) >>= _)=_
    rw [if_pos (by decide),e0]
    exact e
   ·rw [List.lookup_cons]
    cases q:y == n with
    | true=>rfl
    | false=>exact hy
   ·rcases List.mem_cons.mp hx with rfl | hx
    ·exact h2 n (by simp [List.lookup_cons])
    ·exact h3 x hx hf
  ·obtain ⟨cl,e,h1,h2,h3⟩:=Vd r acc (λx hx=>hn x (List.mem_cons_of_mem _ hx)) ha
   refine ⟨cl,?_,h1,h2,λx hx hf=>?_⟩
   ·show ((if ((k == NameKind.free)=true) then (cellOf env n >>= λc=>pure (ForInStep.yield ((n,c)::acc))) else pure (ForInStep.yield acc)) >>= _)=_
    rw [if_neg (by simpa using hk)]
    exact e
   ·rcases List.mem_cons.mp hx with rfl | hx
    ·exact absurd hf hk
    ·exact h3 x hx hf
theorem Qb1 (h:∀x∈scope.names,x.2=.free->∃c,env.cells.lookup x.1=some c) :
  ∃cl,closureFor scope env=pure cl/\(∀y c,cl.lookup y=some c->env.cells.lookup y=some c)/\∀x∈scope.names,x.2=.free->∃c,cl.lookup x.1=some c:=by
 obtain ⟨cl,e,h1,_,h3⟩:=Vd scope.names [] h (λy c q=>by simp at q)
 refine ⟨cl,?_,h1,λx hx hf=>Option.isSome_iff_exists.mp (h3 x hx hf)⟩
 simp only [closureFor]
 show (forIn scope.names [] _ >>= λr=>pure r)=_
 rw [e]
 rfl
theorem Yq {env:Env} {x:Str}:∀{names:List (Str × NameKind)},names.lookup x=some .free ->
  (names.map λ(n,k)=>if (k == NameKind.free && env.scope.kind == .function && env.kindOf n == some .cell) then (n,NameKind.cell) else (n,k)).lookup x=some .cell \/
  (names.map λ(n,k)=>if (k == NameKind.free && env.scope.kind == .function && env.kindOf n == some .cell) then (n,NameKind.cell) else (n,k)).lookup x=some .free
 | [],h=>by simp at h
 | (n,k)::r,h=>by
  have ih:=@Yq env x r
  show List.lookup x ((if (k == NameKind.free && env.scope.kind == .function && env.kindOf n == some .cell)=true then (n,NameKind.cell) else (n,k))::_)=_\/List.lookup x ((if (k == NameKind.free && env.scope.kind == .function && env.kindOf n == some .cell)=true then (n,NameKind.cell) else (n,k))::_)=_
  cases hx:x == n with
  | true =>
   simp only [List.lookup_cons,hx] at h
   cases h
   by_cases hc:(NameKind.free == NameKind.free && env.scope.kind == .function && env.kindOf n == some .cell)=true
   ·rw [if_pos hc];left;simp only [List.lookup_cons,hx]
   ·rw [if_neg hc];right;simp only [List.lookup_cons,hx]
  | false =>
   simp only [List.lookup_cons,hx] at h
   by_cases hc:(k == NameKind.free && env.scope.kind == .function && env.kindOf n == some .cell)=true
   ·rw [if_pos hc];simp only [List.lookup_cons,hx];exact ih h
   ·rw [if_neg hc];simp only [List.lookup_cons,hx];exact ih h
theorem Yx {env:Env} {x:Str} {q:NameKind}:∀{names:List (Str × NameKind)},(∀y∈names,y.2 ≠ .cell)->q=.cell\/q=.free ->
  (names.map λ(n,k)=>if (k == NameKind.free && env.scope.kind == .function && env.kindOf n == some .cell) then (n,NameKind.cell) else (n,k)).lookup x=some q->(x,NameKind.free)∈names
 | [],_,_,h=>by simp at h
 | (n,k)::r,hn,hq,h=>by
  have h:List.lookup x ((if (k == NameKind.free && env.scope.kind == .function && env.kindOf n == some .cell)=true then (n,NameKind.cell) else (n,k))::(r.map λ(n,k)=>if (k == NameKind.free && env.scope.kind == .function && env.kindOf n == some .cell) then (n,NameKind.cell) else (n,k)))=some q:=h
  by_cases hc:(k == NameKind.free && env.scope.kind == .function && env.kindOf n == some .cell)=true
  ·rw [if_pos hc] at h
   cases hx:x == n with
   | true =>
    have hk:k=.free:=by
     cases k <;> first | rfl | (simp at hc)
    rw [beq_iff_eq.mp hx,hk]
    exact List.mem_cons_self
   | false =>
    simp only [List.lookup_cons,hx] at h
    exact List.mem_cons_of_mem _ (Yx (λy hy=>hn y (List.mem_cons_of_mem _ hy)) hq h)
  ·rw [if_neg hc] at h
   cases hx:x == n with
   | true =>
    simp only [List.lookup_cons,hx] at h
    have hk:k=q:=Option.some.inj h
    have hk2:k=.free:=by
     rcases hq with rfl | rfl
     ·exact absurd hk (hn (n,k) List.mem_cons_self)
     ·exact hk
    rw [beq_iff_eq.mp hx,hk2]
    exact List.mem_cons_self
   | false =>
    simp only [List.lookup_cons,hx] at h
    exact List.mem_cons_of_mem _ (Yx (λy hy=>hn y (List.mem_cons_of_mem _ hy)) hq h)
def Zk (X:Cx) (scope:Scope) (cl:List (Str × Addr)) (C:Addr) (N:List Str) (s₀:Shared) (H₀:Hp) (fp:List Addr):Cx :=
 { X with N:=N,s₀:=s₀,H₀:=H₀,env:=compEnvC scope cl C X.env,outer:=X.stack,stack:=X.stack,ex:=fp,fn:=λ_=>false,pn:=[],xe:=λ_ _=>False }
structure BlkScope (env:Env) (scope:Scope) (x:Str):Prop where
 kind:scope.kind=.function
 cells:∀y∈scope.names,y.2 ≠ .cell
 names:∀y∈scope.names,y.2=.local->scope.names.lookup y.1=some .local
 lx:scope.names.lookup x=some .local
 free:∀y∈scope.names,y.2=.free->env.kindOf y.1=some .cell\/env.kindOf y.1=some .free
def bN (N:List Str) (x:Str) (ix:List Nat):List Str:=x::ix.map λi=>N.getD i Str.empty
def bS (σ:St) (o:Option V) (ix:List Nat):St:=o::ix.map λi=>(σ[i]?).getD none
def PIfs (X:Cx) (ifs:List Expr) (tt:TT):Prop :=
 ∀(pins:List (Addr × Obj)) (s:Shared) (σ:St) (H:Hp) (Q:Bool->Hp->Prop),Inv X pins σ H s->tt σ H Q ->
  wpAny (model X.prog X.w) X.A (forIn ifs true λc r=>if r=true then do let ok ← isTrue c X.env (eval c X.env);pure (ForInStep.yield ok) else pure (ForInStep.yield r)) (TP X pins σ Q) X.xe s
def tAll:TT:=λ_ H Q=>Q true H
theorem Qg5:PIfs X [] tAll:=by
 intro pins s σ H Q I h
 rw [List.forIn_nil]
 exact wpAny_pure ⟨H,I,h⟩
theorem Qoy {cl:List (Str × Addr)} (I:Inv X pins σ H s) (B:BlkScope X.env scope x)
  (h1:∀y c,cl.lookup y=some c->X.env.cells.lookup y=some c) (h3:∀y∈scope.names,y.2=.free->∃c,cl.lookup y.1=some c) (hC:s.heap.objs.size<=C) (hf:∀b∈fp,FpOk X pins H b) (hl:∀b∈fp,b<s.heap.objs.size) :
  (Zk X scope cl C N s H fp).Ok where
 mod:=I.ok.mod
 kind:=by show (relabel scope X.env).kind=_;exact B.kind
 glob:=I.ok.glob
 blt:=I.ok.blt
 above:=hC
 inj:=λy z c q r=>I.ok.inj y z c (h1 y c q) (h1 z c r)
 has:=λy hy=>by
  have hy:(relabel scope X.env).names.lookup y=some .cell\/(relabel scope X.env).names.lookup y=some .free:=hy
  have m:(y,NameKind.free)∈scope.names:=by
   rcases hy with q | q
   ·exact Yx B.cells (.inl rfl) q
   ·exact Yx B.cells (.inr rfl) q
  exact h3 _ m rfl
 cab:=λy c q=>by cases (show false=true from q)
 hd:=I.ok.hd
 frames:=I.ok.frames
 stk:=.inl rfl
 exf:=λb hb=>⟨Nat.ne_of_lt (Nat.lt_of_lt_of_le (hl b hb) hC),λy c q=>(hf b hb).2.2.2.2.1 y c (h1 y c q)⟩
 bs:=I.bs
 bsz:=Nat.le_trans I.ok.bsz I.sz
 noex:=λb o e hb=>by
  rcases (hf b hb).2.2.2.1 with z | z
  ·exact I.ok.noex b o e z
  ·exact absurd (Nat.lt_of_lt_of_le (Heap.lt_size e) (Nat.le_trans I.ok.bsz z)) (Nat.lt_irrefl _)
 exfs:=λb hb z=>by
  have z':=I.stkSub b z
  rcases List.mem_cons.mp z' with q | q
  ·exact (hf b hb).2.1 q
  ·exact (hf b hb).2.2.1 q
 funs:=I.stack
 frf:=I.stkFree
theorem HOk.add {h:Heap} (x:HOk P w H h) (hn:H a=none) (new:J0 P w (upd H a o) h a o):HOk P w (upd H a o) h:=λb u e=>by
 by_cases hb:b=a
 ·subst hb;rw [Qj] at e;cases e;exact new
 ·rw [Qk hb] at e
  exact (x b u e).stay (λc v _ q=>q) (λc q=>by rw [Qk (Qz q hn)];exact q) (λc xs q=>by rw [Qk (Qz q hn)];exact q) λc _ _ _ q _=>by rw [Qk (Qz q hn)];exact q
theorem Un.add {fs ex:List Addr} {h:Heap} (u:Un fs ex H H' h h') (hn:h.get? a=none) (hH:H a=none):Un fs ex H (upd H' a o) h h' where
 keep:=u.keep
 slot:=u.slot
 free:=λb ob e n hx=>by
  have:b≠a:=λz=>by rw [z,hn] at e;cases e
  rw [Qk this];exact u.free b ob e n hx
 there:=u.there
 tups:=λb xs e=>by rw [Qk (Qz e hH)];exact u.tups b xs e
 frzs:=λb ob w e=>by rw [Qk (Qz e hH)];exact u.frzs b ob w e
 tbls:=λb ps e=>by rw [Qk (Qz e hH)];exact u.tbls b ps e
theorem G8 {target:Expr} {it acc:Value} (I:Nat->Shared->Prop)
  (turn:∀n s,I n s->wpAny (model prog w) A (pyNext it) (λr s₁=>match r with
   | none=>R (.ok .next) s₁
   | some v=>wpAny (model prog w) A (letOwnedTupleGo target it v) (λ_ s₀=>wpAny (model prog w) A (assign target env v) (λ_ s₂ =>
     wpAny (model prog w) A (forIn ifs true λc r=>if r=true then do let ok ← isTrue c env (eval c env);pure (ForInStep.yield ok) else pure (ForInStep.yield r)) (λok s₃ =>
      if ok=true then wpAny (model prog w) A (eval elt env) (λx s₄ =>
       wpAny (model prog w) A (call (.builtin "list.append") [acc,x]) (λ_ s₅=>∃m,m<n/\I m s₅) (notedBy (model prog w) A env λe s'=>R (.error e) s') s₄) (notedBy (model prog w) A env λe s'=>R (.error e) s') s₃
      else ∃m,m<n/\I m s₃) (notedBy (model prog w) A env λe s'=>R (.error e) s') s₂) (notedBy (model prog w) A env λe s'=>R (.error e) s') s₀) (notedBy (model prog w) A env λe s'=>R (.error e) s') s₁) (notedBy (model prog w) A env λe s'=>R (.error e) s') s)
  (n:Nat) (h:I n s):codeAny (model prog w) A (.compLoop (.ListComp elt [⟨target,iter,ifs,0⟩] scope pos) 0 it acc env) R s:=by
 refine codeAny_loop rfl I (λn s hI=>?_) n h
 show wpAny _ A ((compTurn (.ListComp elt [⟨target,iter,ifs,0⟩] scope pos) 0 it acc env).onRaise (λx=>do noteFrame x env;theTreesLotGoes x)) _ _ s
 refine wpAny_noted ?_
 rw [compTurn_list]
 refine wpAny_bind (wpAny_standAt (wpAny_bind (wpAny_mono (turn n s hI) (λr s₁ h₁=>?_) λ_ _ h'=>h')))
 cases r with
 | none=>exact wpAny_pure h₁
 | some v =>
  refine wpAny_bind (wpAny_mono h₁ (λ_ s₀ h₀=>?_) λ_ _ h'=>h')
  refine wpAny_bind (wpAny_mono h₀ (λ_ s₂ h₂=>wpAny_bind (wpAny_mono h₂ (λok s₃ h₃=>?_) λ_ _ h'=>h')) λ_ _ h'=>h')
  cases ok with
  | false=>exact wpAny_pure ⟨rfl,h₃⟩
  | true =>
   exact wpAny_bind (wpAny_bind (wpAny_mono h₃ (λx s₄ h₄=>wpAny_bind (wpAny_mono h₄ (λ_ s₅ h₅=>wpAny_pure (wpAny_pure ⟨rfl,h₅⟩)) λ_ _ h'=>h')) λ_ _ h'=>h'))
def bN2 (N:List Str) (ts:List Str) (ix:List Nat):List Str:=ts++ix.map λi=>N.getD i Str.empty
def bS2 (σ:St) (o:List (Option V)) (ix:List Nat):St:=o++ix.map λi=>(σ[i]?).getD none
theorem Qgk {cl:List (Str × Addr)} {RR:Value->PySem.Env->Result->Shared->Prop} {Px:Hp->Shared->Value->Shared->Prop}
  (I:Inv X pins σ H s) (hc:X.calm=true) (B:BlkScope X.env scope x) (h1:∀y c,cl.lookup y=some c->X.env.cells.lookup y=some c) (h3:∀y∈scope.names,y.2=.free->∃c,cl.lookup y.1=some c)
  (hix:∀i∈ix,∃y,X.N[i]? = some y/\scope.names.lookup y=some .free) (hN:(bN2 X.N ts ix).Nodup)
  (T:Turn X.prog X.w X.K tg J fp it tn) (st:tn 0 s.heap) (hf:∀b∈fp,FpOk X pins H b)
  (hg:∀cl C s₀ H₀ fp,PG (Zk X scope cl C (bN2 X.N ts ix) s₀ H₀ fp) tg gt)
  (he:∀cl C s₀ H₀ fp xe,(∀pins σ' H s e s',Inv (Zk X scope cl C (bN2 X.N ts ix) s₀ H₀ fp) pins σ' H s->Px H s e s'->xe e s')->PE ((Zk X scope cl C (bN2 X.N ts ix) s₀ H₀ fp).wish xe) elt te)
  (hi:∀cl C s₀ H₀ fp,PIfs (Zk X scope cl C (bN2 X.N ts ix) s₀ H₀ fp) ifs tt)
  (W:Nat->Nat->List V->Hp->Prop) (m₀:Nat) (w0:W 0 m₀ [] H)
  (turn:∀i m ys H,W i m ys H->(J.stop i H/\ys.length<=sizeLine/\G ys H)\/(J.go i H/\ys.length<sizeLine/\∀v H',J.yld i H v H'->∀o:List (Option V),o.length=ts.length->gt v (bS2 σ o ix) H' λσ2 H2=>∃o2:List (Option V),σ2=bS2 σ o2 ix/\o2.length=ts.length /\
    tt σ2 H2 λb H1=>if b=true then te σ2 H1 λy H2=>∃m',m' < m/\W (i+1) m' (ys++[y]) H2 else ∃m',m' < m/\W (i+1) m' ys H1))
  (hRR:∀D C cenv s' ys H',cenv.locals=C->Inv X pins σ (upd H' D (.lst ys)) s'->H' D=none->H' C=none->(∃m,s'.heap.Ns C m)->s.heap.objs.size<=C->D≠C->G ys H'->RR (.ref D) cenv (.ok .next) s')
  (hXX:∀D C cenv s' H' e s'',cenv.locals=C->cenv.frame=X.env.frame->Inv X pins σ H' s'->H' C=none->(∃m,s'.heap.Ns C m)->s.heap.objs.size<=C->C∉frs X.stack->Px H' s' e s''->notedBy (model X.prog X.w) X.A (compEnvC scope cl C X.env) (λe s'=>RR (.ref D) cenv (.error e) s') e s'') :
  wpAny (model X.prog X.w) X.A (newList []) (λacc s₃=>wpAny (model X.prog X.w) X.A (newFunctionEnv scope X.env.globals cl [] X.env.qual none .none (some X.env)) (λcenv s₄ =>
   codeAny (model X.prog X.w) X.A (.compStart (.ListComp elt [⟨tg,iter,ifs,0⟩] scope pos) 0 (.ref it) acc { cenv with scope:=relabel scope X.env }) (RR acc { cenv with scope:=relabel scope X.env }) s₄) E s₃) E s:=by
 have hl:∀b∈fp,b<s.heap.objs.size:=λb hb=>by obtain ⟨o,e,_⟩:=T.obj 0 _ st b hb;exact Heap.lt_size e
 refine wpAny_newObj_type (wpAny_newFunctionEnv B.cells (by intro y hy;simp at hy) (λh₁ hns₁ hsb₁=>?_) B.kind)
 dsimp only at hns₁ hsb₁ ⊢
 generalize hH2:s.heap.push { cls:=.type "list",dict:=none,data:=.seq ([]:List Value).toArray }=H2 at hns₁ hsb₁ ⊢
 have hC:H2.objs.size=s.heap.objs.size+1:=by rw [← hH2,Heap.size_push]
 generalize hD:s.heap.objs.size=D at hC hl hRR hXX ⊢
 generalize hCC:H2.objs.size=C at hC hns₁ hsb₁ ⊢
 have hDC:D≠C:=by omega
 have old:∀b o,s.heap.get? b=some o->h₁.get? b=some o:=λb o e=>hsb₁.extBut b o (Nat.ne_of_lt (by have z:=Heap.lt_size e;rw [hD] at z;exact Nat.lt_of_lt_of_le z (by rw [hC];exact Nat.le_succ _))) (Heap.get?_push_of_some _ (hH2 ▸ Heap.get?_push_of_some _ e))
 have hacc:h₁.get? D=some { cls:=.type "list",data:=.seq ([]:List Value).toArray 0 }:=hsb₁.extBut _ _ hDC (Heap.get?_push_of_some _ (hH2 ▸ (by rw [← hD];exact Heap.get?_push_size _ rfl)))
 have hfr:∀a,D<=a->s.heap.get? a=none:=λa ha=>by
  cases e:s.heap.get? a with
  | none=>rfl
  | some o=>exact absurd (Heap.lt_size e) (by rw [hD];exact Nat.not_lt.mpr ha)
 have hHn:∀a,D<=a->H a=none:=λa ha=>I.hok.fresh (by omega)
 have ok:(Zk X scope cl C (bN2 X.N ts ix) s H fp).Ok:=Qoy I B h1 h3 (by omega) hf (by rw [hD];exact hl)
 generalize hK:Zk X scope cl C (bN2 X.N ts ix) s H fp=K at ok
 have kp:K.prog=X.prog:=by rw [← hK];rfl
 have kw:K.w=X.w:=by rw [← hK];rfl
 have kK:K.K=X.K:=by rw [← hK];rfl
 have kA:K.A=X.A:=by rw [← hK];rfl
 have kc:K.calm=true:=by rw [← hK];exact hc
 have kN:K.N=bN2 X.N ts ix:=by rw [← hK];rfl
 have kenv:K.env=compEnvC scope cl C X.env:=by rw [← hK];rfl
 have kloc:K.env.locals=C:=by rw [← hK];rfl
 have kfs:K.fs=frs X.stack:=by rw [← hK];rfl
 have kex:K.ex=fp:=by rw [← hK];rfl
 have kpn:K.pn=[]:=by rw [← hK];rfl
 have ks:K.s₀=s:=by rw [← hK];rfl
 have kH:K.H₀=H:=by rw [← hK];rfl
 have kx:K.xe=λ_ _=>False:=by rw [← hK];rfl
 have kcl:K.env.cells=cl:=by rw [← hK];rfl
 have cellLt:∀y c,cl.lookup y=some c->c<D:=λy c q=>by obtain ⟨v,z⟩:=I.cell y c (h1 y c q);rw [← hD];exact z.lt
 have stkLt:∀b∈frs X.stack,b<D:=λb hb=>by
  rcases List.mem_cons.mp (I.stkSub b hb) with q | q
  ·rw [q,← hD];exact I.lt
  ·rcases Nat.lt_or_ge b D with z | z
   ·exact z
   ·exact absurd q (I.nofs (by omega))
 -- the state at the block's begin
 have I0:∀tk,Inv K [(D,{ cls:=.type "list",data:=.seq ([]:List Value).toArray 0 })] (bS2 σ (ts.map λ_=>none) ix) H { s with heap:=h₁,toks:=tk }:=λtk=>by
  refine ⟨ok,by rw [ks],I.bare,by rw [ks,kH];exact Un.kept old,?_,?_,?_,?_,?_,by rw [kp,kw];exact I.hok.kept old,?_⟩
  ·refine ⟨_,by rw [kloc];exact hns₁,λi y v e1 e2 e3=>?_⟩
   rw [kN] at e1
   by_cases hlt:i<ts.length
   ·unfold bS2 at e2
    rw [List.getElem?_append_left (by simpa using hlt),List.getElem?_map] at e2
    cases hts:ts[i]? with
    | none=>rw [hts] at e2;cases e2
    | some y'=>rw [hts] at e2;have e2:(some (none:Option V))=some (some v):=e2;cases e2
   ·obtain ⟨i,rfl⟩:∃i',i=ts.length+i':=⟨i-ts.length,by omega⟩
    have e1':(ix.map λi=>X.N.getD i Str.empty)[i]? = some y:=by
     unfold bN2 at e1
     rw [List.getElem?_append_right (by omega),show ts.length+i-ts.length=i by omega] at e1
     exact e1
    have e2':(ix.map λi=>(σ[i]?).getD none)[i]? = some (some v):=by
     unfold bS2 at e2
     rw [List.getElem?_append_right (by rw [List.length_map];omega),List.length_map,show ts.length+i-ts.length=i by omega] at e2
     exact e2
    rw [List.getElem?_map] at e1' e2'
    cases q:ix[i]? with
    | none=>rw [q] at e1';cases e1'
    | some j =>
     rw [q] at e1' e2'
     obtain ⟨y',a1,a2⟩:=hix j (List.mem_of_getElem? q)
     have a3:X.N.getD j Str.empty=y':=by simp [List.getD,a1]
     have ey:y'=y:=by rw [← a3];exact Option.some.inj e1'
     subst ey
     have es:σ[j]? = some (some v):=by
      have z:(σ[j]?).getD none=some v:=Option.some.inj e2'
      cases w:σ[j]? with
      | none=>rw [w] at z;cases z
      | some o=>rw [w] at z;have z':o=some v:=z;rw [z']
     obtain ⟨m,hn,hlk⟩:=I.loc
     have hk:=B.free (y',.free) (PySem.mem_of_lookup a2) rfl
     have hk:X.env.kindOf y'=some .cell\/X.env.kindOf y'=some .free:=hk
     have vis:Vis X.env.scope y':=hk.elim (λz=>.inr (.inl z)) λz=>.inr (.inr z)
     obtain ⟨u,ru,lk⟩:=hlk j y' v a1 es vis
     refine ⟨u,ru,?_⟩
     rcases lk with ⟨k,_⟩ | ⟨_,c,ec,ce⟩
     ·rcases hk with z | z <;> (rw [k] at z;cases z)
     ·obtain ⟨c',ec'⟩:=h3 (y',.free) (PySem.mem_of_lookup a2) rfl
      have ec':cl.lookup y'=some c':=ec'
      have:c'=c:=Option.some.inj ((h1 y' c' ec').symm.trans ec)
      subst this
      refine .inr ⟨?_,c',by rw [kcl];exact ec',?_⟩
      ·show K.env.scope.names.lookup y'=_\/K.env.scope.names.lookup y'=_
       rw [kenv]
       exact Yq a2
      ·obtain ⟨oc,hoc,r⟩:=ce
       exact ⟨oc,old _ _ hoc,r⟩
  ·intro y c q
   rw [kcl] at q
   obtain ⟨v,oc,hoc,r⟩:=I.cell y c (h1 y c q)
   exact ⟨v,oc,old _ _ hoc,r⟩
  ·rw [kloc];exact hHn _ (by omega)
  ·intro y c q
   rw [kcl] at q
   exact I.freeC y c (h1 y c q)
  ·intro p hp
   rw [kpn] at hp
   have e:p=(D,{ cls:=.type "list",data:=.seq ([]:List Value).toArray 0 }):=by simpa using hp
   subst e
   refine ⟨hacc,hHn _ (Nat.le_refl _),by rw [kloc];exact hDC,?_,λv z=>?_⟩
   ·rw [kfs];intro z;exact absurd (stkLt D z) (Nat.lt_irrefl _)
   ·have z':Data.seq _ _=Data.cell v:=z
    cases z'
  ·rw [kN];simp [bS2,bN2]
 have stat:∀{H':Hp} {ob:Obj},(∀b∈fp,H' b=none)->∀b∈fp,FpOk K [(D,ob)] H' b:=λ{H' ob} hn b hb=>by
  refine ⟨hn b hb,?_,?_,.inl (by rw [kex];exact hb),?_,?_⟩
  ·rw [kloc];exact Nat.ne_of_lt (Nat.lt_of_lt_of_le (hl b hb) (by rw [hC];exact Nat.le_succ _))
  ·rw [kfs];intro z
   rcases List.mem_cons.mp (I.stkSub b z) with q | q
   ·exact (hf b hb).2.1 q
   ·exact (hf b hb).2.2.1 q
  ·intro y c q;rw [kcl] at q;exact (hf b hb).2.2.2.2.1 y c (h1 y c q)
  ·intro p hp;rw [kpn] at hp
   have e:p=(D,ob):=by simpa using hp
   subst e
   exact Nat.ne_of_gt (hl b hb)
 have st₁:tn 0 h₁:=T.keep _ _ _ st λb hb o e=>old b o e
 have loop:∀tk,codeAny (model X.prog X.w) X.A (.compLoop (.ListComp elt [⟨tg,iter,ifs,0⟩] scope pos) 0 (.ref it) (.ref D) (compEnvC scope cl C X.env)) (RR (.ref D) (compEnvC scope cl C X.env)) { s with heap:=h₁,toks:=tk }:=by
  intro tk
  refine G8 (λn s'=>∃i o H' ys its c,o.length=ts.length/\Inv K [(D,{ cls:=.type "list",data:=.seq (its:List Value).toArray c })] (bS2 σ o ix) H' s'/\Vals ys its/\tn i s'.heap/\(∀b∈fp,H' b=none)/\W i n ys H') ?_ m₀
   ⟨0,ts.map (λ_=>none),H,[],[],0,by simp,I0 tk,.nil,st₁,λb hb=>(hf b hb).1,w0⟩
  rintro n s1 ⟨i,o,H1,ys,its,c,ol,I1,rv,t1,f1,w1⟩
  rcases turn i n ys H1 w1 with ⟨stop,hz,g⟩ | ⟨go,hz,step⟩
  ·have dn:=T.done K kp kw kK kc i _ s1 _ H1 (notedBy (model X.prog X.w) X.A (compEnvC scope cl C X.env) λe s'=>RR (.ref D) (compEnvC scope cl C X.env) (.error e) s') I1 (stat f1) t1 stop
   rw [kA] at dn
   refine thn dn λr s2 ⟨hr,I2⟩=>?_
   subst hr
   obtain ⟨p1,p2,p3,p4,p5⟩:=I2.pin (D,{ cls:=.type "list",data:=.seq its.toArray c }) (List.mem_append_right _ (List.mem_singleton.mpr rfl))
   have u2:=I2.base
   rw [kfs,kex,kH,ks] at u2
   refine hRR D C (compEnvC scope cl C X.env) s2 ys H1 rfl ?_ p2 (by rw [← kloc];exact I2.free) (by obtain ⟨m,hm,_⟩:=I2.loc;rw [kloc] at hm;exact ⟨m,hm⟩) (by omega) hDC g
   have hk2:HOk X.prog X.w H1 s2.heap:=by have:=I2.hok;rw [kp,kw] at this;exact this
   refine I.call' (ch:=fp) (by have:=I2.os;rw [ks] at this;exact this) (u2.add (hfr D (Nat.le_refl _)) (hHn D (Nat.le_refl _))) (hk2.add p2 ⟨hz,its,c,rv,p1⟩) I2.bare λb hb=>?_
   exact ⟨(hf b hb).2.2.2.1,(hf b hb).2.1,(hf b hb).2.2.2.2.1,(hf b hb).2.2.2.2.2⟩
  ·have im:=T.item K kp kw kK kc i _ s1 _ H1 (notedBy (model X.prog X.w) X.A (compEnvC scope cl C X.env) λe s'=>RR (.ref D) (compEnvC scope cl C X.env) (.error e) s') I1 (stat f1) t1 go
   rw [kA] at im
   refine thn im λr s2 ⟨u,hr,h2⟩=>?_
   subst hr
   refine thn h2 λ_ s3 ⟨v,H3,I3,r3,y3,t3,f3⟩=>?_
   have q3:=step v H3 y3 o ol
   have I3':=I3.pinned (stat f3) (T.obj _ _ t3)
   have hg':=hg cl C s H fp
   rw [hK] at hg'
   have hgv:=hg' _ s3 _ H3 v u _ I3' r3 q3
   rw [kx,kp,kw,kA,kenv] at hgv
   refine wpAny_mono hgv (λ_ s4 ⟨σ4,H4,I4,o4,e4,l4,q4⟩=>?_) λ_ _ z=>z.elim
   subst e4
   have hi':=hi cl C s H fp
   rw [hK] at hi'
   have hiv:=hi' _ s4 _ H4 _ I4 q4
   rw [kx,kp,kw,kA,kenv] at hiv
   refine wpAny_mono hiv (λok s5 ⟨H5,I5,q5⟩=>?_) λ_ _ z=>z.elim
   have back:∀{H7:Hp} {s7:Shared} {o7:List (Option V)},Inv K ([(D,{ cls:=.type "list",data:=.seq its.toArray c })]++Qav fp s3.heap) (bS2 σ o7 ix) H7 s7->tn (i+1) s7.heap/\∀b∈fp,H7 b=none:=λ{H7 s7 o7} I7=>by
    refine ⟨T.keep _ _ _ t3 λb hb o e=>(I7.pin (b,o) (List.mem_append_right _ (List.mem_append_right _ (Zy hb e)))).1,λb hb=>?_⟩
    obtain ⟨ob,e,d⟩:=T.obj _ _ t3 b hb
    exact (I7.pin (b,ob) (List.mem_append_right _ (List.mem_append_right _ (Zy hb e)))).2.1
   cases ok with
   | false =>
    rw [if_neg Bool.false_ne_true]
    have q5:∃m',m' < n/\W (i+1) m' ys H5:=q5
    obtain ⟨m',hm,w5⟩:=q5
    obtain ⟨b1,b2⟩:=back I5
    exact ⟨m',hm,i+1,o4,H5,ys,its,c,l4,I5.unpinned,rv,b1,b2,w5⟩
   | true =>
    rw [if_pos rfl]
    have q5:te (bS2 σ o4 ix) H5 λy H2=>∃m',m' < n/\W (i+1) m' (ys++[y]) H2:=q5
    have hxe:∀pins' σ' H5 s5 e s',Inv K pins' σ' H5 s5->Px H5 s5 e s'->notedBy (model X.prog X.w) X.A (compEnvC scope cl C X.env) (λe s'=>RR (.ref D) (compEnvC scope cl C X.env) (.error e) s') e s':=by
     intro pins' σ' H5 s5 e s' J5 q
     have u5:=J5.base
     rw [kfs,kex,kH,ks] at u5
     refine hXX D C _ s5 H5 e s' rfl rfl ?_ (by rw [← kloc];exact J5.free) (by obtain ⟨m,hm,_⟩:=J5.loc;rw [kloc] at hm;exact ⟨m,hm⟩) (by omega) (λz=>Nat.lt_irrefl C (Nat.lt_trans (stkLt C z) (by omega))) q
     exact I.call' (ch:=fp) (by have:=J5.os;rw [ks] at this;exact this) u5 (by have:=J5.hok;rw [kp,kw] at this;exact this) J5.bare λb hb=>⟨(hf b hb).2.2.2.1,(hf b hb).2.1,(hf b hb).2.2.2.2.1,(hf b hb).2.2.2.2.2⟩
    have he':=he cl C s H fp _ (hK ▸ hxe)
    rw [hK] at he'
    have hev:=he' _ s5 _ H5 _ (I5.wish _) q5
    change wpAny (model K.prog K.w) K.A (eval elt K.env) _ _ s5 at hev
    rw [kp,kw,kA,kenv] at hev
    refine wpAny_mono hev (λy s6 ⟨yv,H6,I6,r6,m',hm,w6⟩=>?_) λ_ _ z=>z
    have I6:=I6.unwish
    obtain ⟨b1,b2⟩:=back I6
    have I6':=I6.unpinned
    obtain ⟨p1,p2,p3,p4,p5⟩:=I6'.pin (D,{ cls:=.type "list",data:=.seq its.toArray c }) (List.mem_append_right _ (List.mem_singleton.mpr rfl))
    have hlen:=rv.length
    refine call_meets F.slot_list_append ⟨_,p1,rfl⟩ F.entry_list_append (F.args_list_append_2 _ _) (PySem.list_append D its.toArray c y (by rw [List.size_toArray];omega)) ⟨p1,?_⟩
    have ea:its.toArray.push y=(its++[y]).toArray:=by simp
    obtain ⟨c',q⟩:∃c',(s6.heap.update D (Obj.mapSeq (·.push y))).get? D=some { cls:=.type "list",data:=.seq (its++[y]).toArray c' }:=⟨_,by rw [← ea];exact PySem.IsL.update p1 (·.push y)⟩
    refine ⟨m',hm,i+1,o4,H6,ys++[yv],its++[y],c',l4,?_,rv.append (.cons r6 .nil),T.keep _ _ _ b1 λb hb o e=>?_,b2,w6⟩
    ·have Id:Inv K [] (bS2 σ o4 ix) H6 s6:=I6'.pins_of λp hp=>by simp at hp
     have It:Inv K [] (bS2 σ o4 ix) H6 { s6 with heap:=s6.heap.update D (Obj.mapSeq (·.push y)) }:=Id.turned (t':=s6.toks) (it:=D) (λb o hb e=>(Heap.get?_update_other _ _ (Ne.symm hb)).trans e) p2 p3
      (.inr (by rw [ks];omega)) (λy' c' e=>by rw [kcl] at e;exact Nat.ne_of_lt (cellLt y' c' e)) (λp hp=>by rw [kpn] at hp;simp at hp)
     refine It.pins_of λp hp=>?_
     obtain rfl:p=(D,{ cls:=.type "list",data:=.seq (its++[y]).toArray c' }):=by simpa using hp
     refine ⟨q,p2,p3,p4,λv z=>?_⟩
     have z':Data.seq _ _=Data.cell v:=z
     cases z'
    ·exact (Heap.get?_update_other _ _ (Nat.ne_of_gt (hl b hb))).trans e
 have selfs:wpAny (model X.prog X.w) X.A (pyIter (.ref it)) (λit' s'=>codeAny (model X.prog X.w) X.A (.compLoop (.ListComp elt [⟨tg,iter,ifs,0⟩] scope pos) 0 it' (.ref D) (compEnvC scope cl C X.env)) (RR (.ref D) (compEnvC scope cl C X.env)) s')
   (notedBy (model X.prog X.w) X.A (compEnvC scope cl C X.env) λe s'=>RR (.ref D) (compEnvC scope cl C X.env) (.error e) s') { s with heap:=h₁,toks:=s.toks+([]:List (Str × Value)).length }:=T.self X.A 0 _ _ _ st₁ (loop _)
 exact codeAny_compStart_list (loop _) selfs
theorem Qgl {cl:List (Str × Addr)}
  (I:Inv X pins σ H s) (hc:X.calm=true) (B:BlkScope X.env scope x) (h1:∀y c,cl.lookup y=some c->X.env.cells.lookup y=some c) (h3:∀y∈scope.names,y.2=.free->∃c,cl.lookup y.1=some c)
  (hix:∀i∈ix,∃y,X.N[i]? = some y/\scope.names.lookup y=some .free) (hN:(bN2 X.N ts ix).Nodup)
  (T:Turn X.prog X.w X.K tg J fp it tn) (st:tn 0 s.heap) (hf:∀b∈fp,FpOk X pins H b)
  (hg:∀cl C s₀ H₀ fp,PG (Zk X scope cl C (bN2 X.N ts ix) s₀ H₀ fp) tg gt)
  (he:∀cl C s₀ H₀ fp,PE (Zk X scope cl C (bN2 X.N ts ix) s₀ H₀ fp) elt te)
  (hi:∀cl C s₀ H₀ fp,PIfs (Zk X scope cl C (bN2 X.N ts ix) s₀ H₀ fp) ifs tt)
  (W:Nat->Nat->List V->Hp->Prop) (m₀:Nat) (w0:W 0 m₀ [] H)
  (turn:∀i m ys H,W i m ys H->(J.stop i H/\ys.length<=sizeLine/\G ys H)\/(J.go i H/\ys.length<sizeLine/\∀v H',J.yld i H v H'->∀o:List (Option V),o.length=ts.length->gt v (bS2 σ o ix) H' λσ2 H2=>∃o2:List (Option V),σ2=bS2 σ o2 ix/\o2.length=ts.length /\
    tt σ2 H2 λb H1=>if b=true then te σ2 H1 λy H2=>∃m',m' < m/\W (i+1) m' (ys++[y]) H2 else ∃m',m' < m/\W (i+1) m' ys H1))
  (hRR:∀D C s' ys H',Inv X pins σ (upd H' D (.lst ys)) s'->H' D=none->H' C=none->(∃m,s'.heap.Ns C m)->s.heap.objs.size<=C->D≠C->G ys H'->RR (.ref D) C (.ok .next) s') :
  wpAny (model X.prog X.w) X.A (newList []) (λacc s₃=>wpAny (model X.prog X.w) X.A (newFunctionEnv scope X.env.globals cl [] X.env.qual none .none (some X.env)) (λcenv s₄ =>
   codeAny (model X.prog X.w) X.A (.compStart (.ListComp elt [⟨tg,iter,ifs,0⟩] scope pos) 0 (.ref it) acc { cenv with scope:=relabel scope X.env }) (RR acc cenv.locals) s₄) E s₃) E s :=
 Qgk (RR:=λacc cenv r s=>RR acc cenv.locals r s) (Px:=λ_ _ _ _=>False) I hc B h1 h3 hix hN T st hf hg (λcl C s₀ H₀ fp xe _=>PE.nox (he cl C s₀ H₀ fp)) hi W m₀ w0 turn (λD C cenv s' ys H' e=>by subst e;exact hRR _ _ _ _ _) λ_ _ _ _ _ _ _ _ _ _ _ _ _ _ z=>z.elim
theorem Qht {cl:List (Str × Addr)}
  (I:Inv X pins σ H s) (hc:X.calm=true) (B:BlkScope X.env scope x) (h1:∀y c,cl.lookup y=some c->X.env.cells.lookup y=some c) (h3:∀y∈scope.names,y.2=.free->∃c,cl.lookup y.1=some c)
  (hix:∀i∈ix,∃y,X.N[i]? = some y/\scope.names.lookup y=some .free) (hN:(bN X.N x ix).Nodup)
  (T:Turn X.prog X.w X.K (.Name x px) J fp it tn) (st:tn 0 s.heap) (hf:∀b∈fp,FpOk X pins H b)
  (he:∀cl C s₀ H₀ fp,PE (Zk X scope cl C (bN X.N x ix) s₀ H₀ fp) elt te)
  (hi:∀cl C s₀ H₀ fp,PIfs (Zk X scope cl C (bN X.N x ix) s₀ H₀ fp) ifs tt)
  (W:Nat->Nat->List V->Hp->Prop) (m₀:Nat) (w0:W 0 m₀ [] H)
  (turn:∀i m ys H,W i m ys H->(J.stop i H/\ys.length<=sizeLine/\G ys H)\/(J.go i H/\ys.length<sizeLine/\∀v H',J.yld i H v H' ->
    tt (bS σ (some v) ix) H' λb H1=>if b=true then te (bS σ (some v) ix) H1 λy H2=>∃m',m' < m/\W (i+1) m' (ys++[y]) H2 else ∃m',m' < m/\W (i+1) m' ys H1))
  (hRR:∀D C s' ys H',Inv X pins σ (upd H' D (.lst ys)) s'->H' D=none->H' C=none->(∃m,s'.heap.Ns C m)->s.heap.objs.size<=C->D≠C->G ys H'->RR (.ref D) C (.ok .next) s') :
  wpAny (model X.prog X.w) X.A (newList []) (λacc s₃=>wpAny (model X.prog X.w) X.A (newFunctionEnv scope X.env.globals cl [] X.env.qual none .none (some X.env)) (λcenv s₄ =>
   codeAny (model X.prog X.w) X.A (.compStart (.ListComp elt [⟨.Name x px,iter,ifs,0⟩] scope pos) 0 (.ref it) acc { cenv with scope:=relabel scope X.env }) (RR acc cenv.locals) s₄) E s₃) E s :=
 Qgl (ts:=[x]) (gt:=Qk8 0) I hc B h1 h3 hix hN T st hf (λcl C s₀ H₀ fp=>Qfe hN rfl (.inl (lookup_relabel_local B.lx)) (.inr (lookup_relabel_local B.lx))) he hi W m₀ w0 (λi m ys H hw=>(turn i m ys H hw).imp id λ⟨a,b,c⟩=>⟨a,b,λv H' hy o ho=>by
  match o,ho with
  | [o],_=>exact ⟨[some v],rfl,rfl,c v H' hy⟩⟩) hRR
def Ql0 (wi:TI) (tt:TT) (te:TE) (ix:List Nat):TE:=λσ H Q=>wi σ H λJ H1=>∃(W:Nat->Nat->List V->Hp->Prop) (m₀:Nat),W 0 m₀ [] H1 /\
 ∀i m ys H,W i m ys H->(J.stop i H/\ys.length<=sizeLine/\∀l,H l=none->Q (.ref l) (upd H l (.lst ys)))\/(J.go i H/\ys.length<sizeLine/\∀v H',J.yld i H v H' ->
  tt (bS σ (some v) ix) H' λb H1=>if b=true then te (bS σ (some v) ix) H1 λy H2=>∃m',m' < m/\W (i+1) m' (ys++[y]) H2 else ∃m',m' < m/\W (i+1) m' ys H1)
theorem Qh0 (I:Inv X pins σ H s) (B:BlkScope X.env scope x):∀y∈scope.names,y.2=.free->∃c,X.env.cells.lookup y.1=some c :=
 λy hy hf=>I.ok.has y.1 (B.free y hy hf)
theorem Inv.blkGone {s₀:Shared} {H₀:Hp} {σ₀:St} (I₀:Inv X pins σ₀ H₀ s₀) (I:Inv X pins σ H s) (hC:s₀.heap.objs.size<=C) (hn:H C=none) (hs:Heap.SameBut C s.heap h'):Inv X pins σ H { s with heap:=h' } :=
 I.turned (t':=s.toks) (it:=C) (λb o hb e=>(hs.2 b hb).trans e) hn (Nat.ne_of_gt (Nat.lt_of_lt_of_le I₀.lt hC)) (.inr (Nat.le_trans I₀.sz hC))
  (λx c e=>by obtain ⟨v,z⟩:=I₀.cell x c e;exact Nat.ne_of_lt (Nat.lt_of_lt_of_le z.lt hC)) (λp hp=>Nat.ne_of_lt (Nat.lt_of_lt_of_le (Heap.lt_size (I₀.pin p hp).1) hC))
theorem Qkl (ix:List Nat) (hc:X.calm=true) (B:BlkScope X.env scope x)
  (hix:∀i∈ix,∃y,X.N[i]? = some y/\scope.names.lookup y=some .free) (hN:(bN X.N x ix).Nodup) (hi:PI X (.Name x px) iter wi)
  (ht:∀cl C s₀ H₀ fp,PIfs (Zk X scope cl C (bN X.N x ix) s₀ H₀ fp) ifs tt)
  (he:∀cl C s₀ H₀ fp,PE (Zk X scope cl C (bN X.N x ix) s₀ H₀ fp) elt te)
  (hs:∀x,foldedSetIterable iter X.env x=pure x:=by intro _;rfl) :
  PE X (.ListComp elt [⟨.Name x px,iter,ifs,0⟩] scope pos) (Ql0 wi tt te ix):=by
 intro pins s σ H Q I h
 obtain ⟨cl,hcl,h1,h3⟩:=Qb1 (Qh0 I B)
 rw [eval_ListComp]
 refine wpAny_comprehension_free (use:=none) rfl hs hcl B.kind B.names (thn (hi pins s σ H _ I h) λv s1 h1'=>thn h1' λitv s2 h2=>?_)
 obtain ⟨it,fp,tn,J,H2,e,I2,T,st2,f2,W,m0,w0,turn⟩:=h2
 subst e
 refine Qht (G:=λys H'=>∀l,H' l=none->Q (.ref l) (upd H' l (.lst ys))) I2 hc B h1 h3 hix hN T st2 f2 he ht W m0 w0 turn λD C s' ys H' I' hD hC hm hCs hDC g=>?_
 obtain ⟨m,hm⟩:=hm
 refine ⟨m,hm,λh' hsb=>⟨.ref D,upd H' D (.lst ys),I2.blkGone I' hCs (by rw [Qk (Ne.symm hDC)];exact hC) hsb,rfl,g D hD⟩⟩
end L2
namespace L2
open PySem PySem.Spec PyProof.Rows
open PySem.W (Dat kqdP kqdPs kqdOk)
mutual
inductive DV (H:Hp):V->Dat->Prop
 | non:DV H .non .none
 | int (i:Int):DV H (.int i) (.int i)
 | str (x:Str):DV H (.str x) (.str x)
 | tup {a:Addr} {xs:List V} {ds:List Dat} (e:H a=some (.tup xs)) (r:DVs H xs ds):DV H (.ref a) (.tuple ds)
 | lst {a:Addr} {xs:List V} {ds:List Dat} (e:H a=some (.lst xs)) (r:DVs H xs ds):DV H (.ref a) (.list ds)
inductive DVs (H:Hp):List V->List Dat->Prop
 | nil:DVs H [] []
 | cons {x:V} {d:Dat} {xs:List V} {ds:List Dat} (h:DV H x d) (r:DVs H xs ds):DVs H (x::xs) (d::ds)
end
mutual
theorem DV.reads {P:Program} {w:World} {H:Hp} {h:Heap} (ok:HOk P w H h):∀{x:V} {d:Dat} {u:Value},DV H x d->RelV x u->∃as,Reads h u (kqdP d) as
 | _,_,_,.non,r=>by cases r;exact ⟨_,by rw [kqdP];exact Reads.none⟩
 | _,_,_,.int i,r=>by obtain ⟨t,rfl⟩:=r;exact ⟨_,by rw [kqdP];exact Reads.int i t⟩
 | _,_,_,.str x,r=>by obtain ⟨t,rfl⟩:=r;exact ⟨_,by rw [kqdP];exact Reads.str x t⟩
 | _,_,_,.tup (a:=a) e q,r=>by
  cases r
  obtain ⟨_,its,rv,o,h1,h2,n,h3⟩:=ok a _ e
  obtain ⟨as,z⟩:=DVs.reads ok q rv
  rw [kqdP]
  exact ⟨as,reads_tuple_at h1 h2 h3 (by simpa using z)⟩
 | _,_,_,.lst (a:=a) e q,r=>by
  cases r
  obtain ⟨_,its,n,rv,h1⟩:=ok a _ e
  obtain ⟨as,z⟩:=DVs.reads ok q rv
  rw [kqdP]
  exact ⟨_,reads_list_at h1 rfl rfl (by simpa using z)⟩
theorem DVs.reads {P:Program} {w:World} {H:Hp} {h:Heap} (ok:HOk P w H h):∀{xs:List V} {ds:List Dat} {us:List Value},DVs H xs ds->Vals xs us->∃as,ReadsAll h us (kqdPs ds) as
 | _,_,_,.nil,r=>by cases r;exact ⟨_,by rw [kqdPs];exact ReadsAll.nil⟩
 | _,_,_,.cons p q,r=>by
  cases r with
  | cons r1 r2 =>
   obtain ⟨as,z⟩:=DV.reads ok p r1
   obtain ⟨bs,y⟩:=DVs.reads ok q r2
   rw [kqdPs]
   exact ⟨_,ReadsAll.cons z y⟩
end
theorem Z0 {d:Dat} (h:kqdOk n d=true) (hn:n<=9):SeqAt.shaped (kqdP d)=true:=by
 have l:=PySem.W.kqd_lay n d h
 unfold SeqAt.shaped
 rw [l.1,Bool.true_and]
 exact decide_eq_true (Nat.le_trans l.2 (Nat.le_trans hn (by decide)))
open Classical in
theorem Qgf {d e:Dat} (h:kqdOk n d=true) (h':kqdOk k e=true):PyData.eqv (kqdP d) (kqdP e)=decide (d=e):=by
 have q:=PySem.W.kqd_eqv n d e k h h'
 by_cases hq:d=e
 ·rw [decide_eq_true hq];exact q.mpr hq
 ·rw [decide_eq_false hq];exact Bool.eq_false_iff.mpr λx=>hq (q.mp x)
def rDat (neg:Bool):R2:=λx y H Q=>∃d e n,DV H x d/\DV H y e/\kqdOk n d=true/\kqdOk n e=true/\n<=9/\((d=e->Q (.bl (!neg)) H)/\(d≠e->Q (.bl neg) H))
theorem Qnm (hu:X.A.units+64<cLine):OpR X (compareOp .Eq) (rDat false):=by
 classical
 intro pins s σ H x y v u Q I rx ry h
 obtain ⟨d,e,n,dx,dy,hd,he,hn,q1,q2⟩:=h
 obtain ⟨as,ra⟩:=dx.reads I.hok rx
 obtain ⟨bs,rb⟩:=dy.reads I.hok ry
 refine eq_dataH ra rb (Z0 hd hn) (Z0 he hn) hu ?_
 rw [Qgf hd he]
 by_cases hq:d=e
 ·rw [decide_eq_true hq];exact ⟨.bl true,H,I,rfl,q1 hq⟩
 ·rw [decide_eq_false hq];exact ⟨.bl false,H,I,rfl,q2 hq⟩
theorem Qnj (hu:X.A.units+64<cLine):OpR X (compareOp .NotEq) (rDat true):=by
 classical
 intro pins s σ H x y v u Q I rx ry h
 obtain ⟨d,e,n,dx,dy,hd,he,hn,q1,q2⟩:=h
 obtain ⟨as,ra⟩:=dx.reads I.hok rx
 obtain ⟨bs,rb⟩:=dy.reads I.hok ry
 refine ne_dataH ra rb (Z0 hd hn) (Z0 he hn) hu ?_
 rw [Qgf hd he]
 by_cases hq:d=e
 ·rw [decide_eq_true hq];exact ⟨.bl false,H,I,rfl,q1 hq⟩
 ·rw [decide_eq_false hq];exact ⟨.bl true,H,I,rfl,q2 hq⟩
theorem Qb2:V1 X (.builtin "isinstance") (λxs H Q=>∃x T t b,xs=[x,.ty T]/\TyOf X.K H x (.type t)/\PySem.W.kitOne X.K (.type t) (.type T)=some b/\Q (.bl b) H):=by
 intro pins s σ H xs us Q I r h
 obtain ⟨x,T,t,b,rfl,ty,e,q⟩:=h
 obtain ⟨u,c,rfl,ru,rc⟩:=Qjy r
 cases (show c=Value.type T from rc)
 exact Qbc I ru ty e λtk=>⟨.bl b,H,I.tok _,rfl,q⟩
end L2
namespace SortT
open PySem PySem.W PyProof.Rows
structure Ord (f:Nat->Nat->Bool):Prop where
 asym:∀i j,f i j=true->f j i=false
 tr:∀i j k,f j i=false->f k j=false->f k i=false
section
variable {f:Nat->Nat->Bool} (O:Ord f)
include O in
abbrev at_ (p:Array Nat) (i:Nat):Nat:=p.getD i 0
end
end SortT
variable {t:L2.TA}
namespace HT
open PySem PySem.Spec PyProof.Rows L2
theorem Qhv {t:Addr} (ht:IsTup s.heap t ([]:List Value).toArray) (hb:IsTup s.heap b ws.toArray) (h1:Q (.ref b) s):wpAny (model prog w) A (binaryOp .Add (.ref t) (.ref b)) Q E s:=by
 obtain ⟨⟨cls,dd,data,sl⟩,ho,hc,n,hd⟩:=id ht
 obtain ⟨⟨cls2,dd2,data2,sl2⟩,ho2,hc2,n2,hd2⟩:=id hb
 simp only at hc hd hc2 hd2
 subst hc hd hc2 hd2
 exact concat_meets ⟨_,ho,rfl⟩ ⟨_,ho2,rfl⟩ noFill_tuple_add seq_tuple_add PySem.F.slot_tuple_add PySem.F.entry_tuple_add (PySem.F.args_tuple_add_2 _ _)
   (tuple_addW0 t b ([]:List Value).toArray ws.toArray n n2 dd dd2 sl sl2 rfl) ⟨ho,ho2,h1⟩
theorem Vb {t:Addr} (ht:IsTup s.heap t items) (hs:s.heap.IsSliceOf sl vl vu .none) (pl:IsPart vl lo) (pu:IsPart vu hi)
  (hw:sIx items.size 0 lo=0/\sIx items.size items.size hi=items.size)
  (h:Q (.ref t) s):wpAny (model prog w) A (getItem (.ref t) (.ref sl)) Q E s:=by
 obtain ⟨os,hos,hcs,hds⟩:=id hs
 have hTs:s.TypeIs (.ref sl) "slice":=⟨os,hos,hcs⟩
 unfold getItem
 try with_reducible refine wpAny_holding ?_
 first | refine wpAny_bind (wpAny_pure ?_) | skip
 refine wpAny_bind (wpAny_sequenceKey ht.typeIs (by decide) ?_)
 refine wpAny_bind (wpAny_callSpecial?_slot (name:=Str.ofString "__getitem__") ht.typeIs PyProof.Rows.slot_tuple_getitem
  (wpAny_call_entry PyProof.Rows.slot_tuple_getitem ht.typeIs entry_tuple_getitem ?_ (args_tuple_getitem _ _)))
 show wpAny _ _ (Builtin.Tuple.tupleItemsOf (.ref t) >>= _) _ _ s
 refine wpAny_bind (tupleItemsOf_ ht ?_)
 refine wpAny_bind (wpAny_typeOf hTs ?_)
 rw [if_pos (by decide)]
 refine wpAny_bind (Zg hs pl pu ?_)
 have hyes:(((sIx items.size 0 lo:Nat):Int) == 0 && (1:Int) == 1 && (sIx items.size items.size hi-sIx items.size 0 lo) == items.size)=true:=by
  rw [hw.1,hw.2];simp
 show wpAny _ _ (if (((sIx items.size 0 lo:Nat):Int) == 0 && (1:Int) == 1 && (sIx items.size items.size hi-sIx items.size 0 lo) == items.size)=true then _ else _) _ _ s
 rw [if_pos hyes]
 refine wpAny_bind (wpAny_bind (wpAny_typeOf ht.typeIs (wpAny_pure ?_)))
 rw [if_pos (by decide)]
 refine wpAny_bind (wpAny_rule ?_)
 first
  | exact wpAny_bind (wpAny_pure (wpAny_pure ⟨_,rfl,wpAny_pure h⟩))
  | exact wpAny_pure ⟨_,rfl,wpAny_pure h⟩
  | exact wpAny_bind (wpAny_pure ⟨_,rfl,wpAny_pure h⟩)
end HT
variable {o:PySem.Expr}
namespace L2
open PySem PySem.Spec PyProof.Rows
def Qpn (K:PySem.W.Frag):R2:=λx y H Q=>∃a b ys,x=.ref a/\y=.ref b/\SqT K H a []/\SqT K H b ys/\Q (.ref b) H
theorem Qkr:OpR X (binaryOp .Add) (Qpn X.K):=by
 intro pins s σ H x y v u Q I rx ry h
 obtain ⟨a,b,ys,rfl,rfl,ha,hb,q⟩:=h
 cases rx
 cases ry
 obtain ⟨its,r1,p1,_⟩:=I.tuple ha
 obtain ⟨its2,r2,p2,_⟩:=I.tuple hb
 have:its=[]:=by cases r1;rfl
 subst this
 exact HT.Qhv p1 p2 ⟨.ref b,H,I,rfl,q⟩
def rSlW (K:PySem.W.Frag):V->Option Int->Option Int->Hp->VK->Prop:=λx lo hi H Q=>∃a xs,x=.ref a/\SqT K H a xs /\
 (HT.sIx xs.length 0 lo=0/\HT.sIx xs.length xs.length hi=xs.length)/\Q (.ref a) H
theorem Qj2:SlR X (rSlW X.K):=by
 intro pins s σ H x v vl vu lo hi sl Q I rx hs pl pu h
 obtain ⟨a,xs,rfl,hx,hw,q⟩:=h
 cases rx
 obtain ⟨its,r,ht,hz⟩:=I.tuple hx
 have hlen:its.toArray.size=xs.length:=by rw [List.size_toArray];exact r.length.symm
 refine ⟨"tuple",_,PyProof.Rows.slot_tuple_getitem.lookup,ht.typeIs,?_⟩
 exact HT.Vb ht hs pl pu (by rw [hlen];exact hw) ⟨.ref a,H,I,rfl,q⟩
def isN (n:Int):Value->Bool
 | .int m _=>m == n
 | _=>false
theorem Xc:∀{bs:List Bool} {its:List Value},Vals (bs.map V.bl) its->its=bs.map Value.bool
 | [],_,r=>by rw [List.map_nil] at r;cases r;rfl
 | b::bs,_,r=>by
  rw [List.map_cons] at r
  cases r with
  | cons h t=>rw [Xc t];cases h;rfl
def rAll:List V->Hp->VK->Prop:=λxs H Q=>∃(l:Addr) (bs:List Bool),xs=[.ref l]/\H l=some (.lst (bs.map V.bl))/\Q (.bl (bs.all id)) H
theorem Qhz (hc:X.calm=true):V1 X (.builtin "all") rAll:=by
 intro pins s σ H xs us Q I r h
 obtain ⟨l,bs,rfl,hl,q⟩:=h
 obtain ⟨u,rfl,ru⟩:=Qjz r
 cases ru
 obtain ⟨z,its,n,rv,e⟩:=I.hok l _ hl
 have eits:=Xc rv
 subst eits
 have hlist:s.heap.IsList l (bs.map Value.bool).toArray:=⟨_,e,rfl,n,rfl⟩
 refine call_all_walk (wpAny_pyIter_list hlist ?_)
 have hlt:l<s.heap.objs.size:=Heap.lt_size e
 refine ⟨_,_,_,_,_,_,λi=>bs.getD i false,rfl,Walks.list (A:=X.A.in1) (I.ok.hd hc) _ l (Nat.ne_of_lt hlt) (bs.map Value.bool).toArray,⟨⟨_,Heap.get?_push_size _ rfl,rfl,rfl⟩,hlist.push _⟩,?_,λh' tk hk=>?_⟩
 ·intro i v A' s' Q' hP hQ
  have hv:(bs.map Value.bool)[i]? = some v:=by simpa using hP
  rw [List.getElem?_map] at hv
  cases hb:bs[i]? with
  | none=>rw [hb] at hv;cases hv
  | some b =>
   rw [hb] at hv
   cases hv
   have:bs.getD i false=b:=by simp [List.getD_eq_getElem?_getD,hb]
   have hQ:s' (bs.getD i false) A':=hQ
   rw [this] at hQ
   exact wpAny_pure hQ
 ·refine ⟨.bl (bs.all id),H,I.kept (t':=tk) λb o eb=>hk b o (λhm=>?_) (Heap.get?_push_of_some _ eb),?_,q⟩
  ·rw [List.mem_singleton.mp hm] at eb
   exact absurd (Heap.lt_size eb) (Nat.lt_irrefl _)
  ·show Value.bool _=Value.bool _
   congr 1
   rw [List.size_toArray,List.length_map]
   rw [show (List.range bs.length).all (λi=>bs.getD i false)=((List.range bs.length).map λi=>bs.getD i false).all id by rw [List.all_map];rfl]
   congr 1
   apply List.ext_getElem
   ·simp
   ·intro i h1 h2
    simp only [List.length_map,List.length_range] at h1
    simp [List.getD_eq_getElem?_getD,h1]
end L2
namespace L2
open PySem PySem.Spec PyProof.Rows
open Builtin.Str (glued partsBetween occurrences tooLong strSub)
theorem Vq:∀(ws:List Str) (tk:Nat),Vals (ws.map V.str) (strsFrom tk ws)
 | [],_=>.nil
 | w::ws,tk=>.cons ⟨tk,rfl⟩ (Vq ws (tk+1))
def Zt (x sep:Str):List Str:=partsBetween x (occurrences x sep 0 x.length (x.length+1)) sep.length
def Qmw:V->List V->Hp->VK->Prop:=λx vs H Q=>∃(y sep:Str),x=.str y/\vs=[.str sep]/\sep.length=1/\Builtin.Str.strKind sep=1/\0<y.length/\y.length<=sizeLine/\(Zt y sep).length<=sizeLine /\
 ∀l,H l=none->Q (.ref l) (upd H l (.lst ((Zt y sep).map V.str)))
theorem Qhh (x:Str):1<=Builtin.Str.strKind x:=by
 unfold Builtin.Str.strKind
 split
 ·decide
 ·split <;> decide
theorem Qhe:MtM X "str.split" Qmw:=by
 intro pins s σ H x vs v us Q I rx rv h
 obtain ⟨y,sep,rfl,rfl,h1,hk,hy,hz,hn,q⟩:=h
 obtain ⟨t,rfl⟩:=rx
 obtain ⟨u,rfl,tu,rfl⟩:=rv.one
 have hc:(decide (y.length<sep.length) || decide (Builtin.Str.strKind y<Builtin.Str.strKind sep))=false:=by
  have:=Qhh y
  rw [hk,h1]
  simp;omega
 have h0:(sep.length == 0)=false:=by rw [h1];rfl
 have fin:∀(its:List Value) (h':Heap) (tk:Nat),h'=s.heap.push { cls:=.type "list",data:=.seq its.toArray }->Vals ((Zt y sep).map V.str) its->EP X pins σ Q (.ref s.heap.objs.size) { s with heap:=h',toks:=tk }:=λits h' tk eh rv=>by
  subst eh
  refine ⟨.ref s.heap.objs.size,_,I.laid (o:=.lst ((Zt y sep).map V.str)) (t':=tk) (λb o e=>Heap.get?_push_of_some _ e) (Nat.le_refl _) ?_,rfl,q _ (I.hok.fresh (Nat.le_refl _))⟩
  exact ⟨by rw [List.length_map];exact hn,its,0,rv,Heap.get?_push_size _ rfl⟩
 cases he:(occurrences y sep 0 y.length (y.length+1)).isEmpty with
 | true =>
  have e:Zt y sep=[y]:=by
   unfold Zt
   rw [List.isEmpty_iff.mp he]
   simp [partsBetween,strSub_whole]
  refine call_meets PySem.F.slot_str_split (typeIs_str s y t) PySem.F.entry_str_split (PySem.F.args_str_split_2 _ _) (meets_str_split_not_found y sep t tu hc h0 he) ?_
  exact fin [.str y t] _ s.toks rfl (by rw [e];exact .cons ⟨t,rfl⟩ .nil)
 | false =>
  refine call_meets PySem.F.slot_str_split (typeIs_str s y t) PySem.F.entry_str_split (PySem.F.args_str_split_2 _ _) (meets_str_split_sep y sep t tu hc h0 he hz hn) ?_
  exact fin (strsFrom s.toks (Zt y sep)) _ _ rfl (Vq _ _)
end L2
variable {se:PySem.Expr}
namespace L2
open PySem PySem.Spec PyProof.Rows
open Builtin.Str (occurrences strSub subAt)
section
variable {lo hi st:Option Expr} {tl th ts:TO}
def Gz {α:Type} (xs:List α) (lo hi st:Option Int):List α:=(sliceRange (sliceBounds lo hi st xs.length).1 (sliceBounds lo hi st xs.length).2.1 (sliceBounds lo hi st xs.length).2.2).filterMap (xs[·]?)
theorem Vals.pick {xs:List V} {its:List Value} (r:Vals xs its):∀(js:List Nat),Vals (js.filterMap (xs[·]?)) (js.filterMap (its[·]?))
 | []=>.nil
 | j::js=>by
  cases hx:xs[j]? with
  | none =>
   have:its[j]? = none:=by
    have h1:=r.length
    have h2:=List.getElem?_eq_none_iff.mp hx
    exact List.getElem?_eq_none_iff.mpr (by omega)
   rw [List.filterMap_cons_none hx,List.filterMap_cons_none this]
   exact Vals.pick r js
  | some x =>
   obtain ⟨u,hu,ru⟩:=r.get hx
   rw [List.filterMap_cons_some hx,List.filterMap_cons_some hu]
   exact .cons ru (Vals.pick r js)
def tSt (K:PySem.W.Frag) (te:TE) (tl th ts:TO):TE:=λσ H Q=>te σ H λx H1=>tl σ H1 λl H2=>th σ H2 λu H3=>ts σ H3 λc H4=>∃a xs,x=.ref a/\SqL K H4 a xs/\c≠some 0/\c≠none/\(Gz xs l u c).length<=sizeLine/\∀p,H4 p=none->Q (.ref p) (upd H4 p (.lst (Gz xs l u c)))
theorem Qdj (he:PE X e te) (hl:PO X lo tl) (hu:PO X hi th) (hst:PO X (some se) ts):PE X (.Subscript e (.Slice lo hi (some se) p2) pos) (tSt X.K te tl th ts):=by
 intro pins s σ H Q I h
 refine Subscript_ (thn (he pins s σ H _ I h) λv s1 ⟨x,H1,I1,r1,q1⟩=>?_)
 refine wpAny_Slice (thn (hl pins s1 σ H1 _ I1 q1) λvl s2 ⟨l,H2,I2,pl,q2⟩=>thn (hu pins s2 σ H2 _ I2 q2) λvu s3 ⟨u,H3,I3,pu,q3⟩=>thn (hst pins s3 σ H3 _ I3 q3) λvc s4 ⟨c,H4,I4',pc,q4⟩=>?_)
 obtain ⟨a,xs,rfl,hx,h0,h00,hz,q⟩:=q4
 cases r1
 have I4:Inv X pins σ H4 { s4 with heap:=s4.heap.push { cls:=.type "slice",data:=.fields #[vl,vu,vc] } }:=I4'.kept (t':=s4.toks) λb ob q=>Heap.get?_push_of_some _ q
 obtain ⟨its,r,ht,hz'⟩:=I4.list hx
 have hg:wpAny (model X.prog X.w) X.A (getItem (.ref a) (.ref s4.heap.objs.size)) (EP X pins σ Q) X.xe { s4 with heap:=s4.heap.push { cls:=.type "slice",data:=.fields #[vl,vu,vc] } }:=by
  refine wpAny_getItem_list_slice ht.isList (Heap.IsSliceOf.new ..) pl pu pc h0 ?_ (by have:=r.length;rw [List.size_toArray];omega)
  have e:slicePick its.toArray l u c=((sliceRange (sliceBounds l u c xs.length).1 (sliceBounds l u c xs.length).2.1 (sliceBounds l u c xs.length).2.2).filterMap (its[·]?)).toArray:=by
   unfold slicePick
   rw [List.size_toArray,r.length]
   simp
  rw [e]
  refine ⟨.ref _,_,I4.laid (t':=s4.toks) (o:=.lst (Gz xs l u c)) (λb ob q=>Heap.get?_push_of_some _ q) (Nat.le_refl _) ?_,rfl,q _ (I4.hok.fresh (Nat.le_refl _))⟩
  exact ⟨hz,_,0,r.pick _,Heap.get?_push_size _ rfl⟩
 show wpAny (model X.prog X.w) X.A (subscriptTail e (.Slice lo hi (some se) p2) (.ref a) (.ref s4.heap.objs.size)) (EP X pins σ Q) X.xe { s4 with heap:=s4.heap.push { cls:=.type "slice",data:=.fields #[vl,vu,vc] } }
 exact tail_any (ops:=[.ref a,.ref s4.heap.objs.size]) ht.isList.typeIs slot_list_getitem.lookup hg (by with_unfolding_all rfl)
end
end L2
namespace Mx
open PySem PySem.Spec L2
abbrev MI:=Int ⊕ List Int
def Qp6:MI->Int
 | .inl i=>hashInt i
 | .inr l=>reduceHash (Builtin.Tuple.tupleHashOf (l.map hashInt))
abbrev KVM:=List (MI × V × V)
abbrev VM:=List (MI × Value × Value)
def RelE (p:MI × V × V) (q:MI × Value × Value):Prop:=p.1=q.1/\RelV p.2.1 q.2.1/\RelV p.2.2 q.2.2
def entI (q:MI × Value × Value):DictEntry:={ hash:=Qp6 q.1,key:=q.2.1,val:=q.2.2 }
def phi (a:Addr) (kvs:KVM) (h:Heap):Prop:=(a == sysModules)=false/\kvs.length<=sizeLine/\(kvs.map (·.1)).Nodup/\∃vs:VM,Paired RelE kvs vs/\∃o es ep,h.get? a=some o/\o.ExactDict/\o.data=.dict es ep/\es.toList=vs.map entI
def mixO (a:Addr) (kvs:KVM):HO:=.ext (phi a kvs)
def Qqk (H:Hp):MI->V->Prop
 | .inl i,y=>y=.int i
 | .inr l,y=>∃b,y=.ref b/\H b=some (.tup (l.map V.int))
def Keys (H:Hp) (kvs:KVM):Prop:=∀p∈kvs,Qqk H p.1 p.2.1
end Mx
variable {xs:List L2.V} {L:List PySem.Str}
namespace L2
open PySem PySem.Spec PyProof.Rows
structure Lam where
 qual:Str
 args:Arguments
 body:Expr
 scope:Scope
 names:List Str
abbrev anyO:HO:=.ext λ_=>True
abbrev Lam.obj (L:Lam) (cl:List (Str × Addr)) (pm:Value) (c':Addr) (ctv:Value):Obj:=PySem.W.kla_obj "<lambda>" L.qual L.args L.body L.scope cl pm c' ctv
def Qc5 (H:Hp) (L:Lam) (a:Addr) (cl:List (Str × Addr)):Prop :=
 ∃(c':Addr) (oc:Obj) (vs:Array Value) (t:Tok) (pm ctv:Value) (u:HO),H a=some (.frz (L.obj cl pm c' ctv) anyO)/\H c'=some (.frz oc u)/\oc.data=.fields vs/\vs[1]? = some (.str L.qual t)
def Uc (H:Hp):List (Str × Addr)->List V->Prop
 | [],[]=>True
 | p::cl,x::xs=>(∃oo v,H p.2=some (.frz oo anyO)/\oo.data=.cell (some v)/\RelV x v)/\Uc H cl xs
 | _,_=>False
def Qh2 (H:Hp) (L:Lam) (a:Addr) (xs:List V):Prop :=
 ∃cl:List (Str × Addr),Qc5 H L a cl/\cl.map (·.1)=L.names/\(cl.map (·.2)).Nodup/\Uc H cl xs
section
variable {L:Lam} {cl:List (Str × Addr)}
theorem Qc5.keeps (hi:∀b o u,H b=some (.frz o u)->H' b=some (.frz o u)) (x:Qc5 H L a cl):Qc5 H' L a cl:=by
 obtain ⟨c',oc,vs,t,pm,ctv,u,h1,h2,r⟩:=x
 exact ⟨c',oc,vs,t,pm,ctv,u,hi _ _ _ h1,hi _ _ _ h2,r⟩
theorem Uc.keeps (hi:∀b o u,H b=some (.frz o u)->H' b=some (.frz o u)):∀{cl:List (Str × Addr)} {xs:List V},Uc H cl xs->Uc H' cl xs
 | [],[],_=>trivial
 | p::cl,x::xs,⟨⟨oo,v,h1,r⟩,q⟩=>⟨⟨oo,v,hi _ _ _ h1,r⟩,Uc.keeps hi q⟩
 | [],_::_,h=>h.elim
 | _::_,[],h=>h.elim
theorem Qh2.keeps (hi:∀b o u,H b=some (.frz o u)->H' b=some (.frz o u)) (x:Qh2 H L a xs):Qh2 H' L a xs:=by
 obtain ⟨cl,h1,h2,h3,h4⟩:=x
 exact ⟨cl,h1.keeps hi,h2,h3,h4.keeps hi⟩
end
def clsB (K:PySem.W.Frag) (C:Addr):Bool:=PySem.W.plainGet K C Str.empty && PySem.W.hasDictIn K C && PySem.W.plainOver K C && PySem.W.makesIn K C && PySem.W.keepIn K (.ref C)
structure ClsD (K:PySem.W.Frag) (C:Addr):Prop where
 b:clsB K C=true
 sa:PySem.W.findIn K (.ref C) "__setattr__" = some (some (.builtin "object.__setattr__"))
 ca:PySem.W.findIn K (.ref C) "__class__" = some (some (.builtin "object.__class__"))
 mr:PySem.W.mroIn K C (.type "object")=some true
structure ObjD (K:PySem.W.Frag):Prop where
 hn:PySem.W.specialIn K (.builtin "object.__class__") "__get__" = some (some (.builtin "getset_descriptor.__get__"))
 tk:PySem.W.takesIn K (.builtin "object.__class__")=some true
theorem ClsD.all (h:ClsD K C):PySem.W.plainGet K C Str.empty=true/\PySem.W.hasDictIn K C=true/\PySem.W.plainOver K C=true/\PySem.W.makesIn K C=true/\PySem.W.keepIn K (.ref C)=true:=by
 have:=h.b
 simp only [clsB,Bool.and_eq_true] at this
 exact ⟨this.1.1.1.1,this.1.1.1.2,this.1.1.2,this.1.2,this.2⟩
theorem ClsD.cls (h:ClsD K C):Cls K C:=⟨h.all.1,h.all.2.1,h.all.2.2.1,h.sa⟩
theorem ClsD.ty (h:ClsD K C) (o:ObjD K) (e:H a=some (.ins C dx fs)):TyOf K H (.ref a) (.ref C):=.ins e h.cls h.ca o.hn o.tk h.mr
theorem Qna (h:ClsD X.K C) (hi:PySem.W.findIn X.K (.ref C) "__init__" = some (some (.builtin "object.__init__"))) (hg:Gl X x) (hm:X.mg x=some (.ref C)) (hdb:(x == ("__debug__" : Str))=false:=by decide) :
  PE X (.Call (.Name x p) [] [] pos) (λσ H Q=>∀a dx,H a=none->H dx=none->dx≠a->Q (.ref a) (upd (upd H dx (.own a)) a (.ins C dx []))):=by
 intro pins s σ H Q I q
 refine wpAny_Call_Name_kw (X3 I hg hm ?_ hdb)
 refine PySem.W.callWith_K0 I.kIn h.all.2.2.2.2 (wpAny_call (Qfn I.kIn h.all.2.2.2.1 hi (λself=>PySem.W.Looks.of_pure (PySem.W.oi_bind self)) ?_))
 have I2:=Inv.made (C:=C) I
 have Y:=PySem.W.makes_of (M:=model X.prog X.w) I.kIn h.all.2.2.2.1
 have e1:((s.heap.push PySem.W.emptyDict).push (PySem.W.instObj C s.heap.objs.size)).get? (s.heap.objs.size+1)=some (PySem.W.instObj C s.heap.objs.size):=by
  have:=Heap.get?_push_size (s.heap.push PySem.W.emptyDict) (o:=PySem.W.instObj C s.heap.objs.size) rfl
  rwa [Heap.size_push] at this
 have t1:PySem.W.Looks (model X.prog X.w) ((s.heap.push PySem.W.emptyDict).push (PySem.W.instObj C s.heap.objs.size)) (typeOf (.ref (s.heap.objs.size+1))) (.ref C):=(PySem.W.Looks.ld e1).andThen .now
 have t2:PySem.W.Looks (model X.prog X.w) ((s.heap.push PySem.W.emptyDict).push (PySem.W.instObj C s.heap.objs.size)) (isInstance (.ref (s.heap.objs.size+1)) (.type "object")) true:=t1.andThen (Y.top.keeps λb o e=>Heap.get?_push_of_some _ (Heap.get?_push_of_some _ e))
 have z:=q (s.heap.objs.size+1) s.heap.objs.size (I.hok.fresh (Nat.le_succ _)) (I.hok.fresh (Nat.le_refl _)) (Nat.ne_of_lt (Nat.lt_succ_self _))
 refine PySem.codeAny_call_builtin PySem.W.oi_plain PySem.W.entry_oi (@PySem.W.check_slot (model X.prog X.w) _ _ _ "object.__init__" "object" "__init__" (.ref (s.heap.objs.size+1)) [] [] _ PySem.W.oi_kind PySem.W.oi_split t2 (PySem.W.oi_args (.ref (s.heap.objs.size+1))) ?_)
 rw [PySem.W.oi_run]
 have zz:EP X pins σ Q (.ref (s.heap.objs.size+1)) { s with heap:=(s.heap.push PySem.W.emptyDict).push (PySem.W.instObj C s.heap.objs.size) }:=⟨V.ref (s.heap.objs.size+1),_,I2,rfl,z⟩
 exact wpAny_pure (And.intro rfl zz)
theorem Qhx {D:Addr} (ob:ObjD X.K):V1 X (.builtin "isinstance") (λxs H Q=>∃v c b,xs=[v,.ref c]/\(∃t,TyOf X.K H v t/\PySem.W.kitOne X.K t (.ref c)=some b)/\Q (.bl b) H):=by
 intro pins s σ H xs us Q I r h
 obtain ⟨v,c,b,rfl,⟨t,ty,e⟩,q⟩:=h
 obtain ⟨u,w,rfl,ru,rw⟩:=Qjy r
 cases (show w=Value.ref c from rw)
 exact Qbc I ru ty e λtk=>⟨.bl b,H,I.tok _,rfl,q⟩
def PJ (X:Cx) (es:List Expr) (t:Str->TE):Prop:=∀(pins:List (Addr × Obj)) (s:Shared) (σ:St) (H:Hp) (acc:Str) (Q:VK),Inv X pins σ H s->t acc σ H Q ->
 Joins (model X.prog X.w) X.A X.xe (evalEach es X.env) acc (λout s1=>out.length<=sizeLine/\EP X pins σ Q (.str out s1.toks) { s1 with toks:=s1.toks+1 }) s
section
variable {t:Str->TE} {p3:Pos} {c:Str}
theorem Qje:PJ X [] (λacc _ H Q=>acc.length<=sizeLine/\Q (.str acc) H):=λpins s σ H acc Q I h=>⟨h.1,.str acc,H,I.tok _,⟨_,rfl⟩,h.2⟩
theorem pj_c (h:PJ X es t):PJ X (.Constant (.str c) k p::es) (λacc σ H Q=>(acc++c).length<=sizeLine/\t (acc++c) σ H Q):=λpins s σ H acc Q I q =>
 wpAny_Constant_str ⟨c,_,rfl,q.1,h pins _ σ H _ Q (I.tok _) q.2⟩
theorem pj_v (he:PE X e te) (h:PJ X es t):PJ X (.FormattedValue e (-1) none p3::es) (λacc σ H Q=>te σ H λx H1=>∃y,x=.str y/\y.length<=sizeLine/\(acc++y).length<=sizeLine/\t (acc++y) σ H1 Q):=λpins s σ H acc Q I q=>by
 refine wpAny_FormattedValue_plain (thn (he pins s σ H _ I q) λv s1 ⟨x,H1,I1,r1,q1⟩=>?_)
 obtain ⟨y,rfl,hy,hz,q⟩:=q1
 obtain ⟨tk,rfl⟩:=r1
 exact wpAny_formatField_str ⟨y,_,rfl,hz,h pins s1 σ H1 _ Q I1 q⟩ ⟨y,_,rfl,hz,h pins _ σ H1 _ Q (I1.tok _) q⟩ hy
theorem Qff {v1 v2:Expr} (h:PJ X (v1::v2::es) t):PE X (.JoinedStr (v1::v2::es) pos) (t Str.empty):=λpins s σ H Q I q=>wpAny_JoinedStr (h pins s σ H Str.empty Q I q)
end
theorem Qg8 (he:PE X o ta) (hr:Room k X.A)
  (ht:eval (.Call (.Attribute o m apos) [] [] pos) X.env=(do
   let ov ← eval o X.env
   standAt apos.atName
   let (f,first) ← holding [ov] (getMethod ov m pl)
   callWith pos f first (backTo pos (starEach [] X.env)) (backToKw pos (keywordEach [] X.env))):=by rfl) :
  PE X (.Call (.Attribute o m apos) [] [] pos) (λσ H Q=>ta σ H λx H1=>∃a C dx fs f fd sp,x=.ref a/\H1 a=some (.ins C dx fs)/\Cls X.K C/\Meth X.K C m f/\FnOk X.prog X.w X.K X.mg X.base CX0 k f fd ["self"] sp/\Yt X.K fd ["self"] []/\fs.lookup m=none/\sp [.ref a] H1 Q E0):=by
 intro pins s σ H Q I h
 refine PySem.W.methodCall_KW (pl:=pl) (thn (he pins s σ H _ I h) λu s1 ⟨x,H1,I1,rx,a,C,dx,fs,f,fd,sp,ex,ea,c,hm,F,hb,l,q⟩=>?_) ht
 subst ex
 obtain rfl:u=Value.ref a:=rx
 refine Qds I1 ea c hm l ?_
 exact PySem.W.callWith_K0 (first:=[.ref a]) I1.kIn hm.kp (Qh9 (us:=[.ref a]) (vs:=[.ref a]) F hr hb .nil Qg9 I1 (.cons rfl .nil) q)
end L2
variable {i k1 k2:Nat} {y:PySem.Str} {z:Nat->L2.V}
namespace L2
open PySem PySem.Spec PyProof.Rows PySem.Builtin PySem.Builtin.Str
section
variable {M:Model}
theorem Qkv {globals:Addr} {n:Str} {v:Value} {func:Option Addr} {code:Value} {builtins:Addr} {Q:PySem.Env->Shared->Prop} (hk:scope.kind=.function) (hl:scope.names.lookup n=some .local)
  (hQ:∀env,env=newEnv scope s.heap.objs.size globals (cellsFrom (s.heap.objs.size+1) scope.names []) qual func code none builtins ->
   ∀s',InCallC s env.locals (bindL env.kindOf [(n,v)] λ_=>none) env.cells (bindC env.kindOf [(n,v)] λ_=>none) s'->s'.toks≠0->Q env s') :
  wpAny M A (newFunctionEnv scope globals [] [(n,v)] qual func code none builtins) Q E s:=by
 simp only [newFunctionEnv,Option.isSome_none,Bool.false_eq_true,if_false]
 refine wpAny_bind (wpAny_alloc ?_)
 refine wpAny_bind (wpAny_layCells _ (λname kind cells=>by cases hkc:kind == NameKind.cell <;> simp [hkc]) _ _ _ _ ?_)
 have ok:=cellsFrom_ok scope.names (s.heap.push { cls:=.type "frame",data:=.dict #[] }) (s.heap.objs.size+1) [] ⟨λ_ _ hm=>(nomatch hm),List.Pairwise.nil⟩ (by rw [Heap.size_push];exact Nat.le_refl _)
 rw [Heap.size_push] at ok
 rw [show ({ s with heap:=s.heap.push { cls:=.type "frame",data:=.dict #[] } }:Shared).heap.objs.size=s.heap.objs.size+1 from Heap.size_push ..]
 generalize hs1:({ s with heap:=pushCells (s.heap.push { cls:=.type "frame",data:=.dict #[] }) scope.names }:Shared)=s1
 have x:InCallC s s.heap.objs.size (λ_=>none) (cellsFrom (s.heap.objs.size+1) scope.names []) (λ_=>none) s1:=by
  subst hs1
  exact ⟨⟨⟨_,_,rfl⟩,(Heap.Ns.new s.heap (.type "frame")).keeps (pushCells_keeps _ _),λb o e=>pushCells_keeps _ _ b o (Heap.get?_push_of_some _ e),Nat.le_refl _⟩,
   λn c hc=>(ok.empty n c (mem_of_lookup hc)).1,ok.apart,λn c hm=>(ok.empty n c hm).2⟩
 rw [List.forIn_cons]
 refine wpAny_bind (wpAny_bind (wpAny_bind (wpAny_storeName_local (env:=newEnv scope s.heap.objs.size globals (cellsFrom (s.heap.objs.size+1) scope.names []) qual func code none builtins) hl x.toInCall.ns (λh' hn' hs'=>?_) (by show (scope.kind == .class || (scope.kind == .module && _))=false;rw [hk];rfl))))
 refine wpAny_pure ?_
 show wpAny M A (forIn [] _ _) _ E _
 rw [List.forIn_nil]
 refine wpAny_pure (wpAny_pure (hQ _ rfl _ ⟨⟨?_,?_,λb o e=>?_,x.toInCall.fresh⟩,λk c hc=>?_,x.apart,x.above⟩ (Nat.succ_ne_zero _)))
 ·obtain ⟨h₁,tk,e⟩:=x.toInCall.same
  exact ⟨h',_,by rw [e]⟩
 ·unfold bindL
  rw [if_pos (show (newEnv scope s.heap.objs.size globals (cellsFrom (s.heap.objs.size+1) scope.names []) qual func code none builtins).kindOf n=some .local from hl)]
  exact hn'
 ·exact hs'.extBut b o (Nat.ne_of_lt (Nat.lt_of_lt_of_le (Heap.lt_size e) x.toInCall.fresh)) (x.toInCall.keep b o e)
 ·unfold bindC
  rw [if_pos (show (newEnv scope s.heap.objs.size globals (cellsFrom (s.heap.objs.size+1) scope.names []) qual func code none builtins).kindOf n=some .local from hl)]
  exact (x.cell k c hc).sameBut hs' (Nat.ne_of_gt (x.above k c (mem_of_lookup hc)))
end
section
variable {id:String}
def PEk (X:Cx) (e:Expr) (t:TE):Prop :=
 ∀(pins:List (Addr × Obj)) (s:Shared) (σ:St) (H:Hp) (Q:VK),s.toks≠0->Inv X pins σ H s->t σ H Q->wpAny (model X.prog X.w) X.A (eval e X.env) (λu s'=>s'.toks≠0/\EP X pins σ Q u s') X.xe s
def PE1 (X:Cx) (e:Expr) (t:TE):Prop :=
 ∀(pins:List (Addr × Obj)) (s:Shared) (σ:St) (H:Hp) (Q:VK),s.toks≠0->Inv X pins σ H s->t σ H Q->wpAny (model X.prog X.w) X.A (eval e X.env) (EP X pins σ Q) X.xe s
theorem Qm6 (hN:X.N[i]? = some x) (hv:Vis X.env.scope x) (hd:(x == ("__debug__" : Str))=false:=by decide) (hcd:(x == ("__classdict__" : Str))=false:=by decide):PEk X (.Name x pos) (tVar i):=by
 intro pins s σ H Q hk I h
 obtain ⟨v,e,h⟩:=h
 obtain ⟨m,hn,hl⟩:=I.loc
 obtain ⟨u,r,l⟩:=hl i x v hN e hv
 have fin:s.toks≠0/\EP X pins σ Q u s:=⟨hk,v,H,I,r,h⟩
 rcases l with ⟨hk,hm⟩ | ⟨hk,c,hc,hcell⟩
 ·exact wpAny_Name (wpAny_loadName_local I.ok.kind hk hn hm fin) hd
 ·rcases hk with hk | hk
  ·exact wpAny_Name (wpAny_loadName_cell I.ok.kind hk hc hcell fin) hd
  ·exact wpAny_Name (wpAny_loadName_free I.ok.kind hk hc hcell fin hcd) hd
def tRep (to:TE) (y z:Str):TE:=λσ H Q=>to σ H λv H1=>∃x,v=.str x/\x.length+(x.length+1)*z.length<=16777216/\Q (.str (Txt.replace x y z)) H1
theorem Qjd {z:Str} {p1:Pos} (hyz:(y == z)=false) (ho:PEk X o to)
  (hbase:attributeBase o "replace" X.env (eval o X.env)=eval o X.env:=by rfl)
  (hfew:((backTo cpos (starEach [.Constant (.str y) k1 p1,.Constant (.str z) k2 p2] X.env)).all (λx=>!x.1) && (backToKw cpos (keywordEach [] X.env)).all (λx=>x.1.isSome)
   && decide (([.Constant (.str y) k1 p1,.Constant (.str z) k2 p2]:List Expr).length+([]:List Keyword).length+(if ([]:List Keyword).isEmpty then 0 else 1)<30))=true:=by rfl)
  (hline:(apos.endLine == cpos.line)=true:=by rfl) :
  PEk X (.Call (.Attribute o "replace" apos) [.Constant (.str y) k1 p1,.Constant (.str z) k2 p2] [] cpos) (tRep to y z):=by
 intro pins s σ H Q hk I h
 refine wpAny_Call_method_late hbase hfew hline rfl (thn (ho pins s σ H _ hk I h) λv s1 ⟨hk1,x,H1,I1,r1,x',ex,hb,q⟩=>?_)
 subst ex
 obtain ⟨h1,h2⟩:=Qcg (T:="str") I1 r1 rfl
 refine ⟨"str","str.replace",PySem.F.plainAttrs_str,PySem.F.slot_str_replace,PySem.F.type_str_replace,h1,h2,?_⟩
 obtain ⟨t,rfl⟩:=r1
 refine Calls.callWith_builtin rfl (Calls.evalArgs_plain ?_)
 show wpAny _ _ (spliced [(false,eval (.Constant (.str y) k1 p1) X.env),(false,eval (.Constant (.str z) k2 p2) X.env)]) _ _ s1
 refine Calls.spliced_cons (Calls.Constant_str ?_)
 refine Calls.spliced_cons (Calls.Constant_str ?_)
 refine Calls.spliced_nil ?_
 have hl:tooLong (x'.length+(occurrences x' y 0 x'.length (x'.length+1)).length*z.length)=false:=by
  have h1:=StrLaws.occ_length_le x' y 0 x'.length (x'.length+1)
  have h2:(occurrences x' y 0 x'.length (x'.length+1)).length*z.length<=(x'.length+1)*z.length:=Nat.mul_le_mul_right _ h1
  unfold tooLong
  rw [sizeLine_eq]
  exact decide_eq_false (by omega)
 have hk2:s1.toks≠s1.toks+1:=by omega
 refine call_gives PySem.F.slot_str_replace (typeIs_str _ _ _) PySem.F.entry_str_replace (PySem.F.args_str_replace_3 _ _ _)
  (gives_str_replace x' y z t s1.toks (s1.toks+1) λ_=>⟨by simp [hk1],by simp,hyz,hl⟩) ?_
 unfold Txt.replace at q
 cases hc:((occurrences x' y 0 x'.length (x'.length+1)).isEmpty || (y.length == 0 && z.length == 0))
 ·rw [hc] at q
  simp only [Bool.false_eq_true,if_false] at q ⊢
  exact ⟨fits_replaced y hb,Nat.succ_ne_zero _,.str _,H1,I1.tok _,⟨_,rfl⟩,q⟩
 ·rw [hc] at q
  simp only [if_true] at q ⊢
  exact ⟨Nat.succ_ne_zero _,.str _,H1,I1.tok _,⟨_,rfl⟩,q⟩
theorem Qps (pa:PlainAttrs T) (slot:Slot T name id) (hty:typeOf (.builtin id)=pure (.type "method_descriptor")) (hm:MtR X id r) (ho:PEk X o to) (ha:PA X (e::es) t)
  (hbase:attributeBase o name X.env (eval o X.env)=eval o X.env:=by rfl)
  (hfew:((backTo cpos (starEach (e::es) X.env)).all (λx=>!x.1) && (backToKw cpos (keywordEach [] X.env)).all (λx=>x.1.isSome)
   && decide ((e::es).length+([]:List Keyword).length+(if ([]:List Keyword).isEmpty then 0 else 1)<30))=true:=by rfl)
  (hline:(apos.endLine == cpos.line)=true:=by rfl) (hs:starEach (e::es) X.env=(false,eval e X.env)::starEach es X.env:=by rfl) (hplain:(backTo cpos (starEach es X.env)).any (·.1)=false:=by rfl) :
  PE1 X (.Call (.Attribute o name apos) (e::es) [] cpos) (tBM X.K T r to t):=by
 intro pins s σ H Q hk I h
 refine wpAny_Call_method_late hbase hfew hline rfl (thn (ho pins s σ H _ hk I h) λv s1 ⟨_,x,H1,I1,r1,ty,q1⟩=>?_)
 obtain ⟨h1,h2⟩:=Qcg I1 r1 ty
 refine ⟨T,id,pa,slot,hty,h1,h2,?_⟩
 have hA:=ha cpos pins s1 σ H1 _ I1 q1
 rw [hs] at hA ⊢
 refine Calls.callWith_builtin (by show (false || (backTo cpos (starEach es X.env)).any (·.1))=false;rw [hplain] <;> rfl) (Calls.evalArgs_plain ?_)
 exact thn hA λus s2 ⟨vs,H2,I2,r2,q2⟩=>hm pins s2 σ H2 x vs v us Q I2 r1 r2 q2
end
theorem Qla {p:Str} (F:Fun K x qual st f fd) (S:FnScope N [p] (Qb st)) (hb:Qx st=[.Return (some e) pos]) (hl:(Qb st).names.lookup p=some .local) (len:∀vs H Q E,sp vs H Q E->vs.length=1)
  (hbody:∀(cdv:Value) (A:Around) (outer:List PySem.Env) (s:Shared) (H:Hp) (vs:List V) (Q:VK) (E:XK),Room k (A.deeper (envOfC qual (Qb st) s.heap.objs.size f cdv))->sp vs H Q E ->
   ∃t,PE1 (cxOf CX0 P w K mg base N qual (Qb st) f cdv A outer s H E) e t/\t (Zo N vs) H Q):FnOk P w K mg base CX0 (k+1) f fd [p] sp:=by
 obtain ⟨oc,od,kV,doc,pm,an,cdv,ct,osl,rfl,lk,hcd⟩:=F.ex
 refine ⟨λvs H Q E h=>len vs H Q E h,λA outer s H args us vs Q E hr e0 hbi r hsp=>?_⟩
 have hlv:=len _ _ _ _ hsp
 have KX:K.In s.heap:=e0.mod.kin.keeps λb o e=>(e0.bs b o e).1
 have lim:s.heap.NoLimit:=e0.mod.nolimit.keeps λb o e=>(e0.bs b o e).1
 obtain ⟨u,rfl⟩:∃u,us=[u]:=by
  have:=r.length
  rw [hlv] at this
  match us,this with
  | [u],_=>exact ⟨u,rfl⟩
 refine codeAny_call_function hr.depth (KX _ _ lk) rfl S.co S.gen rfl (PySem.W.codeRec_of KX hcd) (hbi _ _ _ _ ?_)
 refine Qkv S.kind hl λenv he s1 x hk=>?_
 subst he
 refine ⟨lim.keeps x.toInCall.keep,codeAny_func ?_⟩
 obtain ⟨t,ht,hq⟩:=hbody cdv A outer s H vs Q E (hr.deeper _) hsp
 have I:Inv (cxOf CX0 P w K mg base N qual (Qb st) f cdv A outer s H E) [] (Zo N vs) H s1:=Qbd S hr.hd e0 hlv r x
 show wpAny _ _ (execs (Qx st) _) _ _ _
 rw [hb]
 refine wpAny_execs_cons (wpAny_Return_some (wpAny_mono (ht [] s1 (Zo N vs) H Q hk I hq) (λu s' ⟨v,H',J,rv,q⟩=>?_) λe s' hs=>hs))
 exact ⟨v,H',J.os,J.bare,J.base,J.hok,rv,q⟩
end L2
namespace PV
open PySem PySem.Spec L2
inductive Ty where
 | int | bool | str | tuple | list | dict
 deriving DecidableEq
def Ty.nm:Ty->String
 | .int=>"int" | .bool=>"bool" | .str=>"str" | .tuple=>"tuple" | .list=>"list" | .dict=>"dict"
inductive KC where
 | any (a:Addr)
 | fn (x:Str)
 | int (i:Int)
 | tup (ks:List KC)
mutual
inductive IsKC (K:PySem.W.Frag):KC->V->Prop
 | any (a:Addr):IsKC K (.any a) (.ref a)
 | fn {x:Str} {f:Addr} (h:PySem.W.nsIn K mainGlobals x=some (some (.ref f))):IsKC K (.fn x) (.ref f)
 | int (i:Int):IsKC K (.int i) (.int i)
 | tup {a:Addr} {xs:List V} {ks:List KC} {o:Obj} {its:Array Value} {n:Nat} (h1:K.lookup a=some o) (h2:o.cls=.type "tuple") (h3:o.data=.seq its n) (h4:its.size<=sizeLine) (h5:Vals xs its.toList) (r:AreKC K ks xs):IsKC K (.tup ks) (.ref a)
inductive AreKC (K:PySem.W.Frag):List KC->List V->Prop
 | nil:AreKC K [] []
 | cons {c:KC} {v:V} {cs:List KC} {vs:List V} (h:IsKC K c v) (r:AreKC K cs vs):AreKC K (c::cs) (v::vs)
end
inductive D where
 | non
 | bl (b:Bool)
 | int (i:Int)
 | str (x:Str)
 | tup (xs:List D)
 | lst (xs:List D)
 | dik (kvs:List (Key × D))
 | dit (kvs:List (List Key × D))
 | kls (xs:List D)
 | ty (t:Ty)
 | fdk (kvs:List (Key × D))
 | ftp (xs:List D)
 | fls (xs:List D)
 | fdt (kvs:List (List Key × D))
 | obj (x:Str) (fs:List (Str × Int))
 | clo (L:Lam) (ds:List D)
 | kc (c:KC)
 | dmx (kvs:List (Mx.MI × D))
 | fmx (kvs:List (Mx.MI × D))
 | lsa (a:Addr) (xs:List D)
 | ist (x:Str) (ds:List D)
end PV
variable {o:Option PV.D} {k:PV.D->Prop} {ks:List PV.KC} {d:PV.D} {G:List PySem.Addr} {ds:List PV.D}
namespace PV
open PySem PySem.Spec L2
def imm:HO->Bool
 | .tup _=>true
 | .frz _ _=>true
 | .ins _ _ _=>true
 | _=>false
def FzL (K:PySem.W.Frag) (H:Hp) (a:Addr) (xs:List V):Prop :=
 (∃o,H a=some (.frz o (.lst xs))) \/
  ∃(o:Obj) (its:Array Value) (n:Nat),K.lookup a=some o/\o.cls=.type "list" /\ o.dict=none/\o.data=.seq its n/\its.size<=sizeLine/\Vals xs its.toList
theorem FzL.sq (h:FzL K H a xs):SqL K H a xs:=by
 rcases h with h | h
 ·exact .inl (.inr h)
 ·exact .inr h
def fldN:Nat->List Str
 | 0=>[]
 | 1=>["one"]
 | _=>["one","other"]
mutual
inductive Rep (K:PySem.W.Frag) (H:Hp):D->V->List Addr->Prop
 | non:Rep K H .non .non []
 | bl (b:Bool):Rep K H (.bl b) (.bl b) []
 | int (i:Int):Rep K H (.int i) (.int i) []
 | str (x:Str):Rep K H (.str x) (.str x) []
 | tup {a:Addr} {xs:List V} {ds:List D} {F:List Addr} (e:H a=some (.tup xs)) (r:Reps K H ds xs F):Rep K H (.tup ds) (.ref a) F
 | lst {a:Addr} {xs:List V} {ds:List D} {F:List Addr} (e:H a=some (.lst xs)) (r:Reps K H ds xs F):Rep K H (.lst ds) (.ref a) (a::F)
 | dik {a:Addr} {kvs:List (Key × V)} {ds:List (Key × D)} {F:List Addr} (e:H a=some (.dK kvs)) (r:RepK K H ds kvs F):Rep K H (.dik ds) (.ref a) (a::F)
 | dit {a:Addr} {kvs:List (List Key × V)} {ds:List (List Key × D)} {F:List Addr} (e:H a=some (.dT kvs)) (r:RepT K H ds kvs F):Rep K H (.dit ds) (.ref a) (a::F)
 | kls {a:Addr} {xs:List V} {ds:List D} (e:FzL K H a xs) (r:Reps K H ds xs []):Rep K H (.kls ds) (.ref a) []
 | ty (t:Ty):Rep K H (.ty t) (.ty t.nm) []
 | fdk {a:Addr} {o:Obj} {kvs:List (Key × V)} {ds:List (Key × D)} {F:List Addr} (e:H a=some (.frz o (.dK kvs))) (r:RepK K H ds kvs F):Rep K H (.fdk ds) (.ref a) F
 | ftp {a:Addr} {o:Obj} {xs:List V} {ds:List D} (e:H a=some (.frz o (.tup xs))) (hd:o.dict=none) (r:Reps K H ds xs []):Rep K H (.ftp ds) (.ref a) []
 | fls {a:Addr} {o:Obj} {xs:List V} {ds:List D} (e:H a=some (.frz o (.lst xs))) (r:Reps K H ds xs []):Rep K H (.fls ds) (.ref a) []
 | fdt {a:Addr} {o:Obj} {kvs:List (List Key × V)} {ds:List (List Key × D)} {F:List Addr} (e:H a=some (.frz o (.dT kvs))) (r:RepT K H ds kvs F):Rep K H (.fdt ds) (.ref a) F
 | obj {a:Addr} {x:Str} {o:Obj} {φ:Heap->Prop} {fs:List (Str × Int)} (e:H a=some (.frz o (.ext φ))) (hc:∃C,o.cls=.ref C/\PySem.W.nsIn K mainGlobals x=some (some (.ref C))) (hf:fs=[]\/∃dx od vs,o.dict=some dx/\o.data=.fields vs/\H dx=some (.frz od (.xd (fs.map λp=>(p.1,V.int p.2))))):Rep K H (.obj x fs) (.ref a) []
 | clo {a:Addr} {L:Lam} {xs:List V} {ds:List D} {F:List Addr} (e:Qh2 H L a xs) (r:Reps K H ds xs F):Rep K H (.clo L ds) (.ref a) F
 | kc {c:KC} {v:V} (h:IsKC K c v):Rep K H (.kc c) v []
 | dmx {a:Addr} {kvs:Mx.KVM} {ds:List (Mx.MI × D)} (e:H a=some (Mx.mixO a kvs)) (hk:Mx.Keys H kvs) (hm:kvs.map (·.1)=ds.map (·.1)) (r:Reps K H (ds.map (·.2)) (kvs.map (·.2.2)) []):Rep K H (.dmx ds) (.ref a) [a]
 | fmx {a:Addr} {o:Obj} {kvs:Mx.KVM} {ds:List (Mx.MI × D)} (e:H a=some (.frz o (Mx.mixO a kvs))) (hk:Mx.Keys H kvs) (hm:kvs.map (·.1)=ds.map (·.1)) (r:Reps K H (ds.map (·.2)) (kvs.map (·.2.2)) []):Rep K H (.fmx ds) (.ref a) []
 | lsa {a:Addr} {xs:List V} {ds:List D} {F:List Addr} (e:H a=some (.lst xs)) (r:Reps K H ds xs F):Rep K H (.lsa a ds) (.ref a) (a::F)
 | ist {a C dx:Addr} {x:Str} {fs:List (Str × V)} {ds:List D} (e:H a=some (.ins C dx fs)) (hc:PySem.W.nsIn K mainGlobals x=some (some (.ref C))) (hn:fs.map (·.1)=fldN ds.length) (r:Reps K H ds (fs.map (·.2)) []):Rep K H (.ist x ds) (.ref a) []
inductive Reps (K:PySem.W.Frag) (H:Hp):List D->List V->List Addr->Prop
 | nil:Reps K H [] [] []
 | cons {d:D} {v:V} {ds:List D} {vs:List V} {F G:List Addr} (h:Rep K H d v F) (r:Reps K H ds vs G):Reps K H (d::ds) (v::vs) (F++G)
inductive RepK (K:PySem.W.Frag) (H:Hp):List (Key × D)->List (Key × V)->List Addr->Prop
 | nil:RepK K H [] [] []
 | cons {k:Key} {d:D} {v:V} {ds:List (Key × D)} {vs:List (Key × V)} {F G:List Addr} (h:Rep K H d v F) (r:RepK K H ds vs G):RepK K H ((k,d)::ds) ((k,v)::vs) (F++G)
inductive RepT (K:PySem.W.Frag) (H:Hp):List (List Key × D)->List (List Key × V)->List Addr->Prop
 | nil:RepT K H [] [] []
 | cons {k:List Key} {d:D} {v:V} {ds:List (List Key × D)} {vs:List (List Key × V)} {F G:List Addr} (h:Rep K H d v F) (r:RepT K H ds vs G):RepT K H ((k,d)::ds) ((k,v)::vs) (F++G)
end
def ImmK (H H':Hp):Prop:=∀b ob,H b=some ob->imm ob=true->H' b=some ob
theorem ImmK.fzL (hi:ImmK H H') (e:FzL K H a xs):FzL K H' a xs:=by
 rcases e with ⟨o,e⟩ | e
 ·exact .inl ⟨o,hi _ _ e rfl⟩
 ·exact .inr e
theorem ImmK.keys {H H':Hp} (hi:ImmK H H') {kvs:Mx.KVM} (h:Mx.Keys H kvs):Mx.Keys H' kvs:=λp hp=>by
 have:=h p hp
 revert this
 cases p.1 with
 | inl i=>exact id
 | inr l=>exact λ⟨b,e1,e2⟩=>⟨b,e1,hi _ _ e2 rfl⟩
theorem Rep.frame (hi:ImmK H H') {F:List Addr} (r:Rep K H d v F):(∀a∈F,H' a=H a)->Rep K H' d v F:=by
 refine Rep.rec (motive_1:=λd v F _=>(∀a∈F,H' a=H a)->Rep K H' d v F) (motive_2:=λd v F _=>(∀a∈F,H' a=H a)->Reps K H' d v F) (motive_3:=λd v F _=>(∀a∈F,H' a=H a)->RepK K H' d v F) (motive_4:=λd v F _=>(∀a∈F,H' a=H a)->RepT K H' d v F) ?_ ?_ ?_ ?_ ?_ ?_ ?_ ?_ ?_ ?_ ?_ ?_ ?_ ?_ ?_ ?_ ?_ ?_ ?_ ?_ ?_ ?_ ?_ ?_ ?_ ?_ ?_ r
 ·exact λ_=>.non
 ·exact λb _=>.bl b
 ·exact λb _=>.int b
 ·exact λb _=>.str b
 ·exact λe _ ih k=>.tup (hi _ _ e rfl) (ih k)
 ·exact λe _ ih k=>.lst ((k _ (List.mem_cons_self)).trans e) (ih λa h=>k a (List.mem_cons_of_mem _ h))
 ·exact λe _ ih k=>.dik ((k _ (List.mem_cons_self)).trans e) (ih λa h=>k a (List.mem_cons_of_mem _ h))
 ·exact λe _ ih k=>.dit ((k _ (List.mem_cons_self)).trans e) (ih λa h=>k a (List.mem_cons_of_mem _ h))
 ·exact λe _ ih k=>.kls (hi.fzL e) (ih k)
 ·exact λt _=>.ty t
 ·exact λe _ ih k=>.fdk (hi _ _ e rfl) (ih k)
 ·exact λe hd _ ih k=>.ftp (hi _ _ e rfl) hd (ih k)
 ·exact λe _ ih k=>.fls (hi _ _ e rfl) (ih k)
 ·exact λe _ ih k=>.fdt (hi _ _ e rfl) (ih k)
 ·exact λe hc hf _=>.obj (hi _ _ e rfl) hc (hf.imp id λ⟨dx,od,vs,h1,h0,h2⟩=>⟨dx,od,vs,h1,h0,hi _ _ h2 rfl⟩)
 ·exact λe _ ih k=>.clo (e.keeps λ_ _ _ q=>hi _ _ q rfl) (ih k)
 ·exact λh _=>.kc h
 ·exact λe hk hm _ ih k=>.dmx ((k _ (List.mem_cons_self)).trans e) (hi.keys hk) hm (ih λa h=>nomatch h)
 ·exact λe hk hm _ ih k=>.fmx (hi _ _ e rfl) (hi.keys hk) hm (ih λa h=>nomatch h)
 ·exact λe _ ih k=>.lsa ((k _ (List.mem_cons_self)).trans e) (ih λa h=>k a (List.mem_cons_of_mem _ h))
 ·exact λe hc hn _ ih k=>.ist (hi _ _ e rfl) hc hn (ih λa h=>nomatch h)
 ·exact λ_=>.nil
 ·exact λ_ _ ih1 ih2 k=>.cons (ih1 λa q=>k a (List.mem_append.mpr (.inl q))) (ih2 λa q=>k a (List.mem_append.mpr (.inr q)))
 ·exact λ_=>.nil
 ·exact λ_ _ ih1 ih2 k=>.cons (ih1 λa q=>k a (List.mem_append.mpr (.inl q))) (ih2 λa q=>k a (List.mem_append.mpr (.inr q)))
 ·exact λ_=>.nil
 ·exact λ_ _ ih1 ih2 k=>.cons (ih1 λa q=>k a (List.mem_append.mpr (.inl q))) (ih2 λa q=>k a (List.mem_append.mpr (.inr q)))
theorem Reps.frame (hi:ImmK H H') {d:List D} {v:List V} {F:List Addr} (r:Reps K H d v F) (k:∀a∈F,H' a=H a):Reps K H' d v F:=by
 induction d generalizing v F with
 | nil=>cases r;exact .nil
 | cons d ds ih=>cases r with | cons h r=>exact .cons (Rep.frame hi h λa q=>k a (List.mem_append.mpr (.inl q))) (ih r λa q=>k a (List.mem_append.mpr (.inr q)))
theorem RepK.frame (hi:ImmK H H') {d:List (Key × D)} {v:List (Key × V)} {F:List Addr} (r:RepK K H d v F) (k:∀a∈F,H' a=H a):RepK K H' d v F:=by
 induction d generalizing v F with
 | nil=>cases r;exact .nil
 | cons d ds ih=>cases r with | cons h r=>exact .cons (Rep.frame hi h λa q=>k a (List.mem_append.mpr (.inl q))) (ih r λa q=>k a (List.mem_append.mpr (.inr q)))
theorem RepT.frame (hi:ImmK H H') {d:List (List Key × D)} {v:List (List Key × V)} {F:List Addr} (r:RepT K H d v F) (k:∀a∈F,H' a=H a):RepT K H' d v F:=by
 induction d generalizing v F with
 | nil=>cases r;exact .nil
 | cons d ds ih=>cases r with | cons h r=>exact .cons (Rep.frame hi h λa q=>k a (List.mem_append.mpr (.inl q))) (ih r λa q=>k a (List.mem_append.mpr (.inr q)))
theorem Rep.dom {F:List Addr} (r:Rep K H d v F):∀a∈F,∃ob,H a=some ob/\imm ob=false:=by
 have cn:∀{b:Addr} {F:List Addr} {ob:HO},H b=some ob->imm ob=false->(∀a∈F,∃ob,H a=some ob/\imm ob=false)->∀a∈b::F,∃ob,H a=some ob/\imm ob=false:=λe hb ih a m=>(List.mem_cons.mp m).elim (λz=>z ▸ ⟨_,e,hb⟩) (ih a)
 have ap:∀{F G:List Addr},(∀a∈F,∃ob,H a=some ob/\imm ob=false)->(∀a∈G,∃ob,H a=some ob/\imm ob=false)->∀a∈F++G,∃ob,H a=some ob/\imm ob=false:=λih1 ih2 a m=>(List.mem_append.mp m).elim (ih1 a) (ih2 a)
 have no:∀a∈([]:List Addr),∃ob,H a=some ob/\imm ob=false:=λ_ m=>nomatch m
 refine Rep.rec (motive_1:=λ_ _ F _=>∀a∈F,∃ob,H a=some ob/\imm ob=false) (motive_2:=λ_ _ F _=>∀a∈F,∃ob,H a=some ob/\imm ob=false) (motive_3:=λ_ _ F _=>∀a∈F,∃ob,H a=some ob/\imm ob=false) (motive_4:=λ_ _ F _=>∀a∈F,∃ob,H a=some ob/\imm ob=false) no (λ_=>no) (λ_=>no) (λ_=>no) (λ_ _ ih=>ih) (λe _ ih=>cn e rfl ih) (λe _ ih=>cn e rfl ih) (λe _ ih=>cn e rfl ih) (λ_ _ _=>no) (λ_=>no) (λ_ _ ih=>ih) (λ_ _ _ _=>no) (λ_ _ _=>no) (λ_ _ ih=>ih) (λ_ _ _=>no) (λ_ _ ih=>ih) (λ_=>no) (λe _ _ _ _=>cn e rfl no) (λ_ _ _ _ _=>no) (λe _ ih=>cn e rfl ih) (λ_ _ _ _ _=>no) no (λ_ _=>ap) no (λ_ _=>ap) no (λ_ _=>ap) r
theorem Reps.dom {d:List D} {v:List V} {F:List Addr} (r:Reps K H d v F):∀a∈F,∃ob,H a=some ob/\imm ob=false:=by
 induction d generalizing v F with
 | nil=>cases r;exact λ_ m=>nomatch m
 | cons d ds ih=>cases r with | cons h r=>exact λa m=>(List.mem_append.mp m).elim (Rep.dom h a) (ih r a)
mutual
def D.pure:D->Bool
 | .tup xs=>Qi xs
 | .lst _=>false
 | .dik _=>false
 | .dit _=>false
 | .kls _=>true
 | .non=>true
 | .bl _=>true
 | .int _=>true
 | .str _=>true
 | .ty _=>true
 | .fdk kvs=>kvs.isEmpty
 | .ftp _=>true
 | .fls _=>true
 | .fdt _=>false
 | .obj _ _=>true
 | .clo _ _=>false
 | .kc _=>true
 | .dmx _=>false
 | .fmx _=>false
 | .lsa _ _=>false
 | .ist _ _=>true
def Qi:List D->Bool
 | []=>true
 | d::r=>d.pure && Qi r
end
theorem Qau {xs:List D}:Qi xs=true↔∀x∈xs,x.pure=true:=by
 induction xs with
 | nil=>simp [Qi]
 | cons d r ih=>simp only [Qi,Bool.and_eq_true,ih,List.mem_cons,forall_eq_or_imp]
theorem Rep.pure {F:List Addr} (r:Rep K H d v F):d.pure=true->F=[]/\Rep K H d v []:=by
 have no:∀{P:Prop} {b:Bool},b=false->b=true->P:=λh h'=>absurd (h.symm.trans h') (by simp)
 refine Rep.rec (motive_1:=λd v F _=>d.pure=true->F=[]/\Rep K H d v []) (motive_2:=λd v F _=>Qi d=true->F=[]/\Reps K H d v []) (motive_3:=λ_ _ _ _=>True) (motive_4:=λ_ _ _ _=>True) ?_ ?_ ?_ ?_ ?_ ?_ ?_ ?_ ?_ ?_ ?_ ?_ ?_ ?_ ?_ ?_ ?_ ?_ ?_ ?_ ?_ ?_ ?_ trivial (λ_ _ _ _=>trivial) trivial (λ_ _ _ _=>trivial) r
 ·exact λ_=>⟨rfl,.non⟩
 ·exact λb _=>⟨rfl,.bl b⟩
 ·exact λb _=>⟨rfl,.int b⟩
 ·exact λb _=>⟨rfl,.str b⟩
 ·exact λe _ ih p=>⟨(ih (by rw [D.pure] at p;exact p)).1,.tup e (ih (by rw [D.pure] at p;exact p)).2⟩
 ·exact λ_ _ _=>no (by rw [D.pure])
 ·exact λ_ _ _=>no (by rw [D.pure])
 ·exact λ_ _ _=>no (by rw [D.pure])
 ·exact λe r _ _=>⟨rfl,.kls e r⟩
 ·exact λb _=>⟨rfl,.ty b⟩
 ·intro a o kvs ds F e r _ p
  have hd:ds=[]:=by rw [D.pure] at p;exact List.isEmpty_iff.mp p
  subst hd
  cases r
  exact ⟨rfl,.fdk e .nil⟩
 ·exact λe hd r _ _=>⟨rfl,.ftp e hd r⟩
 ·exact λe r _ _=>⟨rfl,.fls e r⟩
 ·exact λ_ _ _=>no (by rw [D.pure])
 ·exact λe hc hf _=>⟨rfl,.obj e hc hf⟩
 ·exact λ_ _ _=>no (by rw [D.pure])
 ·exact λh _=>⟨rfl,.kc h⟩
 ·exact λ_ _ _ _ _=>no (by rw [D.pure])
 ·exact λ_ _ _ _ _=>no (by rw [D.pure])
 ·exact λ_ _ _=>no (by rw [D.pure])
 ·exact λe hc hn r _ _=>⟨rfl,.ist e hc hn r⟩
 ·exact λ_=>⟨rfl,.nil⟩
 ·intro _ _ _ _ _ _ _ _ ih1 ih2 p
  rw [Qi,Bool.and_eq_true] at p
  obtain ⟨e1,r1⟩:=ih1 p.1
  obtain ⟨e2,r2⟩:=ih2 p.2
  subst e1 e2
  exact ⟨rfl,.cons (F:=[]) (G:=[]) r1 r2⟩
theorem Reps.pure {d:List D} {v:List V} {F:List Addr} (r:Reps K H d v F) (p:Qi d=true):F=[]/\Reps K H d v []:=by
 induction d generalizing v F with
 | nil=>cases r;exact ⟨rfl,.nil⟩
 | cons d ds ih =>
  cases r with
  | cons h r =>
   rw [Qi,Bool.and_eq_true] at p
   obtain ⟨e1,r1⟩:=h.pure p.1
   obtain ⟨e2,r2⟩:=ih r p.2
   subst e1 e2
   exact ⟨rfl,.cons (F:=[]) (G:=[]) r1 r2⟩
theorem Reps.length {F:List Addr} (r:Reps K H ds xs F):xs.length=ds.length:=by
 induction ds generalizing xs F with
 | nil=>cases r;rfl
 | cons d ds ih=>cases r with | cons h r=>simp [ih r]
theorem Reps.append {es:List D} {F:List Addr} (r:Reps K H ds xs F) (q:Reps K H es ys G):Reps K H (ds++es) (xs++ys) (F++G):=by
 induction ds generalizing xs F with
 | nil=>cases r;exact q
 | cons d ds ih=>cases r with | cons h r=>rw [List.append_assoc];exact .cons h (ih r)
theorem Reps.one {x:V} {F:List Addr} (h:Rep K H d x F):Reps K H [d] [x] F:=by
 have:=Reps.cons h (Reps.nil (K:=K) (H:=H))
 rwa [List.append_nil] at this
theorem Reps.snoc {x:V} {F:List Addr} (r:Reps K H ds xs F) (h:Rep K H d x G):Reps K H (ds++[d]) (xs++[x]) (F++G):=r.append (.one h)
theorem Reps.split {F:List Addr} (r:Reps K H ds xs F) (h:ds[i]? = some d) :
  ∃x A B C,xs[i]? = some x/\F=A++B++C/\Rep K H d x B/\Reps K H (ds.take i) (xs.take i) A/\Reps K H (ds.drop (i+1)) (xs.drop (i+1)) C:=by
 induction ds generalizing xs F i with
 | nil=>simp at h
 | cons e ds ih =>
  cases r with
  | @cons _ v _ vs F G p r =>
   cases i with
   | zero =>
    simp at h
    subst h
    exact ⟨v,[],F,G,rfl,by simp,p,.nil,by simpa using r⟩
   | succ i =>
    obtain ⟨x,A,B,C,h1,h2,h3,h4,h5⟩:=ih r (i:=i) (by simpa using h)
    exact ⟨x,F++A,B,C,by simpa using h1,by rw [h2];simp,h3,by simpa using Reps.cons p h4,by simpa using h5⟩
theorem Reps.get {F:List Addr} (r:Reps K H ds xs F) (h:ds[i]? = some d):∃x B,xs[i]? = some x/\Rep K H d x B/\B.Sublist F:=by
 obtain ⟨x,A,B,C,h1,h2,h3,_⟩:=r.split h
 exact ⟨x,B,h1,h3,h2 ▸ (List.sublist_append_right A B).trans (List.sublist_append_left _ C)⟩
theorem Vn {α:Type} {l:List α} {a:α} (h:i<l.length):l.set i a=l.take i++a::l.drop (i+1):=by
 rw [List.set_eq_take_append_cons_drop,if_pos h]
theorem Reps.take {F:List Addr} (i:Nat) (r:Reps K H ds xs F):∃G,Reps K H (ds.take i) (xs.take i) G/\G.Sublist F:=by
 induction ds generalizing xs F i with
 | nil=>cases r;exact ⟨[],by simpa using Reps.nil,List.Sublist.slnil⟩
 | cons d ds ih =>
  cases r with
  | @cons _ v _ vs F G p r =>
   cases i with
   | zero=>exact ⟨[],by simpa using Reps.nil,List.nil_sublist _⟩
   | succ i =>
    obtain ⟨G',q,s⟩:=ih i r
    exact ⟨F++G',by simpa using Reps.cons p q,List.Sublist.append (List.Sublist.refl _) s⟩
theorem Reps.drop {F:List Addr} (i:Nat) (r:Reps K H ds xs F):∃G,Reps K H (ds.drop i) (xs.drop i) G/\G.Sublist F:=by
 induction ds generalizing xs F i with
 | nil=>cases r;exact ⟨[],by simpa using Reps.nil,List.Sublist.slnil⟩
 | cons d ds ih =>
  cases i with
  | zero=>exact ⟨F,by simpa using r,List.Sublist.refl _⟩
  | succ i =>
   cases r with
   | @cons _ v _ vs F G p r =>
    obtain ⟨G',q,s⟩:=ih i r
    exact ⟨G',by simpa using q,s.trans (List.sublist_append_right _ _)⟩
theorem Reps.ints (ns:List Int):Reps K H (ns.map D.int) (ns.map V.int) []:=by
 induction ns with
 | nil=>exact .nil
 | cons n ns ih=>exact .cons (F:=[]) (G:=[]) (.int n) ih
def kcD:KC->D
 | .int i=>.int i
 | .any a=>.kc (.any a)
 | .fn x=>.kc (.fn x)
 | .tup ks=>.kc (.tup ks)
theorem IsKC.rep {c:KC} (h:IsKC K c v):Rep K H (kcD c) v []:=by
 cases h with
 | int i=>exact .int i
 | any a=>exact .kc (.any a)
 | fn h=>exact .kc (.fn h)
 | tup h1 h2 h3 h4 h5 r=>exact .kc (.tup h1 h2 h3 h4 h5 r)
theorem AreKC.reps {cs:List KC} (h:AreKC K cs vs):Reps K H (cs.map kcD) vs []:=by
 induction cs generalizing vs with
 | nil=>cases h;exact .nil
 | cons c cs ih=>cases h with | cons h r=>exact .cons (F:=[]) (G:=[]) h.rep (ih r)
theorem IsKC.sqT (h:IsKC K (.tup ks) v):∃a xs,v=.ref a/\(∀H,SqT K H a xs)/\AreKC K ks xs:=by
 cases h with
 | tup h1 h2 h3 h4 h5 r=>exact ⟨_,_,rfl,λH=>.inr ⟨_,_,_,h1,h2,h3,h4,h5⟩,r⟩
section
variable {F:List Addr}
theorem Rep.iInt {i:Int} (r:Rep K H (.int i) v F):v=.int i:=by cases r;rfl
theorem Rep.iStr {i:Str} (r:Rep K H (.str i) v F):v=.str i:=by cases r;rfl
theorem Rep.iBl {i:Bool} (r:Rep K H (.bl i) v F):v=.bl i:=by cases r;rfl
theorem Rep.iTup (r:Rep K H (.tup ds) v F):∃a xs,v=.ref a/\H a=some (.tup xs)/\Reps K H ds xs F:=by cases r with | tup e r=>exact ⟨_,_,rfl,e,r⟩
theorem Rep.iLst (r:Rep K H (.lst ds) v F):∃a xs G,v=.ref a/\F=a::G/\H a=some (.lst xs)/\Reps K H ds xs G:=by cases r with | lst e r=>exact ⟨_,_,_,rfl,rfl,e,r⟩
theorem Rep.iDik {ds:List (Key × D)} (r:Rep K H (.dik ds) v F):∃a xs G,v=.ref a/\F=a::G/\H a=some (.dK xs)/\RepK K H ds xs G:=by cases r with | dik e r=>exact ⟨_,_,_,rfl,rfl,e,r⟩
theorem Rep.iDit {ds:List (List Key × D)} (r:Rep K H (.dit ds) v F):∃a xs G,v=.ref a/\F=a::G/\H a=some (.dT xs)/\RepT K H ds xs G:=by cases r with | dit e r=>exact ⟨_,_,_,rfl,rfl,e,r⟩
theorem Rep.iKls (r:Rep K H (.kls ds) v F):∃a xs,v=.ref a/\F=[]/\FzL K H a xs/\Reps K H ds xs []:=by cases r with | kls e r=>exact ⟨_,_,rfl,rfl,e,r⟩
theorem Rep.iFdk {ds:List (Key × D)} (r:Rep K H (.fdk ds) v F):∃a o xs,v=.ref a/\H a=some (.frz o (.dK xs))/\RepK K H ds xs F:=by cases r with | fdk e r=>exact ⟨_,_,_,rfl,e,r⟩
end
section
variable {κ:Type} [DecidableEq κ]
def valD (kvs:List (κ × D)) (k:κ):Option D:=(kvs.find? λkv=>decide (kv.1=k)).map (·.2)
def putD (kvs:List (κ × D)) (k:κ) (v:D):List (κ × D) :=
 if (kvs.any λkv=>decide (kv.1=k))=true then kvs.map (λkv=>if kv.1=k then (kv.1,v) else kv) else kvs++[(k,v)]
theorem Qae {p:κ × D} {r:List (κ × D)} {k:κ}:valD (p::r) k=if p.1=k then some p.2 else valD r k:=by
 unfold valD
 by_cases h:p.1=k
 ·rw [List.find?_cons_of_pos (by simpa using h),if_pos h];rfl
 ·rw [List.find?_cons_of_neg (by simpa using h),if_neg h]
end
theorem RepK.length {ds:List (Key × D)} {xs:List (Key × V)} {F:List Addr} (r:RepK K H ds xs F):xs.length=ds.length:=by
 induction ds generalizing xs F with
 | nil=>cases r;rfl
 | cons d ds ih=>cases r with | cons h r=>simp [ih r]
theorem RepK.keys {ds:List (Key × D)} {xs:List (Key × V)} {F:List Addr} (r:RepK K H ds xs F):xs.map (·.1)=ds.map (·.1):=by
 induction ds generalizing xs F with
 | nil=>cases r;rfl
 | cons d ds ih=>cases r with | cons h r=>simp [ih r]
theorem RepK.val {ds:List (Key × D)} {xs:List (Key × V)} {F:List Addr} (r:RepK K H ds xs F) (k:Key) :
  (valD ds k=none/\valV xs k=none)\/∃d v B,valD ds k=some d/\valV xs k=some v/\Rep K H d v B/\B.Sublist F:=by
 induction ds generalizing xs F with
 | nil=>cases r;exact .inl ⟨rfl,rfl⟩
 | cons d ds ih =>
  cases r with
  | @cons j d v _ vs F G h r =>
   rw [Qae]
   by_cases e:j=k
   ·rw [Vi e,if_pos e]
    exact .inr ⟨d,v,F,rfl,rfl,h,List.sublist_append_left _ _⟩
   ·rw [Vj e,if_neg e]
    rcases ih r with q | ⟨d',v',B,h1,h2,h3,h4⟩
    ·exact .inl q
    ·exact .inr ⟨d',v',B,h1,h2,h3,h4.trans (List.sublist_append_right _ _)⟩
theorem RepK.append {ds es:List (Key × D)} {xs ys:List (Key × V)} {F:List Addr} (r:RepK K H ds xs F) (q:RepK K H es ys G):RepK K H (ds++es) (xs++ys) (F++G):=by
 induction ds generalizing xs F with
 | nil=>cases r;exact q
 | cons d ds ih=>cases r with | cons h r=>rw [List.append_assoc];exact .cons h (ih r)
theorem RepK.put {ds:List (Key × D)} {xs:List (Key × V)} {F:List Addr} {k:Key} (r:RepK K H ds xs F) (h:Rep K H d v []):∃G,RepK K H (putD ds k d) (putK xs k v) G/\G.Sublist F:=by
 have hk:(xs.any λkv=>decide (kv.1=k))=(ds.any λkv=>decide (kv.1=k)):=by
  have e:=r.keys
  rw [show (xs.any λkv=>decide (kv.1=k))=(xs.map (·.1)).any (λj=>decide (j=k)) by rw [List.any_map];rfl,e,List.any_map];rfl
 unfold putD putK
 rw [hk]
 split
 ·clear hk
  rename_i hc
  clear hc
  induction ds generalizing xs F with
  | nil=>cases r;exact ⟨[],.nil,List.Sublist.slnil⟩
  | cons e ds ih =>
   cases r with
   | @cons j e u _ us F G p r =>
    obtain ⟨G',q,s⟩:=ih r
    by_cases ej:j=k
    ·exact ⟨[]++G',by simpa [ej] using RepK.cons (k:=k) h q,s.trans (List.sublist_append_right _ _)⟩
    ·exact ⟨F++G',by simpa [ej] using RepK.cons (k:=j) p q,List.Sublist.append (List.Sublist.refl _) s⟩
 ·refine ⟨F++[],r.append ?_,by simp⟩
  exact RepK.cons (F:=[]) (G:=[]) h .nil
theorem RepT.length {ds:List (List Key × D)} {xs:List (List Key × V)} {F:List Addr} (r:RepT K H ds xs F):xs.length=ds.length:=by
 induction ds generalizing xs F with
 | nil=>cases r;rfl
 | cons d ds ih=>cases r with | cons h r=>simp [ih r]
theorem RepT.keys {ds:List (List Key × D)} {xs:List (List Key × V)} {F:List Addr} (r:RepT K H ds xs F):xs.map (·.1)=ds.map (·.1):=by
 induction ds generalizing xs F with
 | nil=>cases r;rfl
 | cons d ds ih=>cases r with | cons h r=>simp [ih r]
theorem RepT.val {ds:List (List Key × D)} {xs:List (List Key × V)} {F:List Addr} (r:RepT K H ds xs F) (k:List Key) :
  (valD ds k=none/\valV xs k=none)\/∃d v B,valD ds k=some d/\valV xs k=some v/\Rep K H d v B/\B.Sublist F:=by
 induction ds generalizing xs F with
 | nil=>cases r;exact .inl ⟨rfl,rfl⟩
 | cons d ds ih =>
  cases r with
  | @cons j d v _ vs F G h r =>
   rw [Qae]
   by_cases e:j=k
   ·rw [Vi e,if_pos e]
    exact .inr ⟨d,v,F,rfl,rfl,h,List.sublist_append_left _ _⟩
   ·rw [Vj e,if_neg e]
    rcases ih r with q | ⟨d',v',B,h1,h2,h3,h4⟩
    ·exact .inl q
    ·exact .inr ⟨d',v',B,h1,h2,h3,h4.trans (List.sublist_append_right _ _)⟩
theorem RepT.append {ds es:List (List Key × D)} {xs ys:List (List Key × V)} {F:List Addr} (r:RepT K H ds xs F) (q:RepT K H es ys G):RepT K H (ds++es) (xs++ys) (F++G):=by
 induction ds generalizing xs F with
 | nil=>cases r;exact q
 | cons d ds ih=>cases r with | cons h r=>rw [List.append_assoc];exact .cons h (ih r)
theorem RepT.put {ds:List (List Key × D)} {xs:List (List Key × V)} {F:List Addr} {k:List Key} (r:RepT K H ds xs F) (h:Rep K H d v []):∃G,RepT K H (putD ds k d) (putK xs k v) G/\G.Sublist F:=by
 have hk:(xs.any λkv=>decide (kv.1=k))=(ds.any λkv=>decide (kv.1=k)):=by
  have e:=r.keys
  rw [show (xs.any λkv=>decide (kv.1=k))=(xs.map (·.1)).any (λj=>decide (j=k)) by rw [List.any_map];rfl,e,List.any_map];rfl
 unfold putD putK
 rw [hk]
 split
 ·clear hk
  rename_i hc
  clear hc
  induction ds generalizing xs F with
  | nil=>cases r;exact ⟨[],.nil,List.Sublist.slnil⟩
  | cons e ds ih =>
   cases r with
   | @cons j e u _ us F G p r =>
    obtain ⟨G',q,s⟩:=ih r
    by_cases ej:j=k
    ·exact ⟨[]++G',by simpa [ej] using RepT.cons (k:=k) h q,s.trans (List.sublist_append_right _ _)⟩
    ·exact ⟨F++G',by simpa [ej] using RepT.cons (k:=j) p q,List.Sublist.append (List.Sublist.refl _) s⟩
 ·refine ⟨F++[],r.append ?_,by simp⟩
  exact RepT.cons (F:=[]) (G:=[]) h .nil
abbrev Env:=List (Option D)
def look:Env->Nat->Option D
 | [],_=>none
 | a::_,0=>a
 | _::r,n+1=>look r n
theorem Qcw:∀{ρ:Env} {i:Nat} {d:D},look ρ i=some d->ρ[i]? = some (some d)
 | _::_,0,_,h=>by simpa [look] using h
 | _::r,n+1,_,h=>by simpa using Qcw (ρ:=r) (i:=n) (by simpa [look] using h)
theorem Qby {ρ:Env} (h:look ρ i=some d):i<ρ.length:=by
 have:=Qcw h
 exact (List.getElem?_eq_some_iff.mp this).1
theorem Ux {o:Option D}:∀{ρ:Env} {i j:Nat},look (ρ.set i o) j=if j=i/\i<ρ.length then o else look ρ j
 | [],i,j=>by simp [look]
 | a::r,0,0=>by simp [look]
 | a::r,0,j+1=>by simp [look]
 | a::r,i+1,0=>by simp [look]
 | a::r,i+1,j+1=>by
  have:=Ux (o:=o) (ρ:=r) (i:=i) (j:=j)
  simp only [List.set_cons_succ,look,this,List.length_cons,Nat.add_right_cancel_iff,Nat.add_lt_add_iff_right]
theorem Vv {ρ:Env} (h:i<ρ.length):look (ρ.set i o) i=o:=by rw [Ux,if_pos ⟨rfl,h⟩]
theorem Qp {ρ:Env} (h:j≠i):look (ρ.set i o) j=look ρ j:=by rw [Ux,if_neg (λz=>h z.1)]
structure Tg where
 own:Nat->Bool
 io:List Nat
 xe:D->St->Hp->Prop:=λ_ _ _=>False
end PV
variable {R W1 W2 W':PySem.Addr->Prop} {T:PV.Tg} {ρ:PV.Env}
namespace PV
open PySem PySem.Spec L2
structure SR0 (K:PySem.W.Frag) (T:Tg) (z:Nat->V) (R:Addr->Prop) (H:Hp) (W:Addr->Prop) (σ:St) (ρ:Env) (fp:Nat->List Addr):Prop where
 len:ρ.length=σ.length
 wd:∀a,W a->∃ob,H a=some ob/\imm ob=false
 at_:∀i d,look ρ i=some d->∃v,σ[i]? = some (some v)/\Rep K H d v (fp i)
 own:∀i d,look ρ i=some d->T.own i=true->(fp i).Nodup/\∀a∈fp i,W a
 ro:∀i d,look ρ i=some d->T.own i=false->∀a∈fp i,R a
 wr:∀a,W a->¬R a
 rd:∀a,R a->∃ob,H a=some ob/\imm ob=false
 dis:∀i j d e,look ρ i=some d->look ρ j=some e->T.own i=true->T.own j=true->i≠j->∀a∈fp i,a∉fp j
 fix:∀i∈T.io,σ[i]? = some (some (z i))
def SR (K:PySem.W.Frag) (T:Tg) (z:Nat->V) (R:Addr->Prop) (H:Hp) (W:Addr->Prop) (σ:St) (ρ:Env):Prop:=∃fp,SR0 K T z R H W σ ρ fp
structure FrW (H:Hp) (W:Addr->Prop) (H':Hp) (W':Addr->Prop):Prop where
 keep:∀b ob,H b=some ob->¬W b->H' b=some ob
 dom:∀b,H' b=none->H b=none
 imm:ImmK H H'
 new:∀b,W' b->W b\/H b=none
theorem FrW.refl (H:Hp) (W:Addr->Prop):FrW H W H W:=⟨λ_ _ h _=>h,λ_ h=>h,λ_ _ h _=>h,λ_ h=>.inl h⟩
theorem FrW.trans {W:Addr->Prop} (a:FrW H W H1 W1) (b:FrW H1 W1 H2 W2):FrW H W H2 W2 where
 keep:=λc ob h n=>b.keep c ob (a.keep c ob h n) λw=>by
  rcases a.new c w with w | w
  ·exact n w
  ·rw [w] at h;cases h
 dom:=λc h=>a.dom c (b.dom c h)
 imm:=λc ob h i=>b.imm c ob (a.imm c ob h i) i
 new:=λc h=>by
  rcases b.new c h with w | w
  ·exact a.new c w
  ·exact .inr (a.dom c w)
theorem Same.imm (s:Same H H'):ImmK H H':=λb ob h _=>s b ob h
theorem FrW.same (W:Addr->Prop) (s:Same H H'):FrW H W H' W:=⟨λb ob h _=>s b ob h,λb h=>s.free h,Same.imm s,λ_ h=>.inl h⟩
theorem Rep.same {F:List Addr} (r:Rep K H d v F) (s:Same H H'):Rep K H' d v F :=
 r.frame (Same.imm s) λa m=>by
  obtain ⟨ob,h,_⟩:=r.dom a m
  rw [h];exact s _ _ h
theorem Reps.same {d:List D} {v:List V} {F:List Addr} (r:Reps K H d v F) (s:Same H H'):Reps K H' d v F :=
 r.frame (Same.imm s) λa m=>by
  obtain ⟨ob,h,_⟩:=r.dom a m
  rw [h];exact s _ _ h
theorem Rep.keep {W:Addr->Prop} {F:List Addr} (r:Rep K H d v F) (f:FrW H W H' W') (n:∀a∈F,¬W a):Rep K H' d v F :=
 r.frame f.imm λa m=>by
  obtain ⟨ob,h,_⟩:=r.dom a m
  rw [h];exact f.keep _ _ h (n a m)
section
variable {W:Addr->Prop}
theorem SR.same (s:SR K T z R H W σ ρ) (k:Same H H'):SR K T z R H' W σ ρ:=by
 obtain ⟨fp,r⟩:=s
 exact ⟨fp,r.len,λa h=>(r.wd a h).imp λob q=>⟨k _ _ q.1,q.2⟩,λi d h=>(r.at_ i d h).imp λv q=>⟨q.1,q.2.same k⟩,r.own,r.ro,r.wr,λa h=>(r.rd a h).imp λob q=>⟨k _ _ q.1,q.2⟩,r.dis,r.fix⟩
theorem SR.wd (s:SR K T z R H W σ ρ):∀a,W a->∃ob,H a=some ob/\imm ob=false:=by obtain ⟨fp,r⟩:=s;exact r.wd
theorem SR.rd (s:SR K T z R H W σ ρ):∀a,R a->∃ob,H a=some ob/\imm ob=false:=by obtain ⟨fp,r⟩:=s;exact r.rd
theorem SR.nr (s:SR K T z R H W σ ρ) (h:H a=none):¬R a:=λw=>by
 obtain ⟨ob,q,_⟩:=s.rd a w
 rw [h] at q;cases q
theorem SR.nw (s:SR K T z R H W σ ρ) (h:H a=none):¬W a:=λw=>by
 obtain ⟨ob,q,_⟩:=s.wd a w
 rw [h] at q;cases q
end
abbrev WE:=Env->(D->Env->Prop)->Prop
end PV
variable {a b:PV.D} {o m o1 o2 m1 m2:Bool} {i:Int} {t:String} {ρ1 ρ2:PV.Env} {F1 F2:List PySem.Addr} {wa wb:PV.WE}
namespace PV
open PySem PySem.Spec L2
structure Post (K:PySem.W.Frag) (T:Tg) (z:Nat->V) (R:Addr->Prop) (m o:Bool) (H:Hp) (W:Addr->Prop) (σ:St) (ρ:Env) (H':Hp) (W':Addr->Prop) (ρ':Env) (d:D) (v:V) (F:List Addr):Prop where
 sr:SR K T z R H' W' σ ρ'
 fr:FrW H W H' W'
 calm:m=false->Same H H'/\W'=W/\ρ'=ρ
 rep:Rep K H' d v F
 own:o=true->F.Nodup/\∀a∈F,H a=none/\¬W' a
def EV (X:Cx) (T:Tg) (m o:Bool) (e:Expr) (w:WE):Prop :=
 ∃te,PE X e te/\∀(z:Nat->V) (R:Addr->Prop) (σ:St) (H:Hp) (W:Addr->Prop) (ρ:Env) (Q:D->Env->Prop) (Q':VK),SR X.K T z R H W σ ρ->w ρ Q ->
  (∀v H' W' d ρ' F,Post X.K T z R m o H W σ ρ H' W' ρ' d v F->Q d ρ'->Q' v H')->te σ H Q'
section
variable {W:Addr->Prop} {d1 d2:D} {v1 v2:V}
theorem Post.first (p:Post K T z R m1 o1 H W σ ρ H1 W1 ρ1 d1 v1 F1) (q:Post K T z R m2 o2 H1 W1 σ ρ1 H2 W2 ρ2 d2 v2 F2) (hc:o1=true\/m2=false):Rep K H2 d1 v1 F1:=by
 rcases hc with hc | hc
 ·exact p.rep.keep q.fr λa h=>((p.own hc).2 a h).2
 ·exact p.rep.same (q.calm hc).1
theorem Post.firstOwn (p:Post K T z R m1 o1 H W σ ρ H1 W1 ρ1 d1 v1 F1) (q:Post K T z R m2 o2 H1 W1 σ ρ1 H2 W2 ρ2 d2 v2 F2) (h:o1=true):F1.Nodup/\∀a∈F1,H a=none/\¬W2 a:=by
 obtain ⟨h1,h2⟩:=p.own h
 refine ⟨h1,λa m=>⟨(h2 a m).1,λw=>?_⟩⟩
 rcases q.fr.new a w with w | w
 ·exact (h2 a m).2 w
 ·obtain ⟨ob,e,_⟩:=p.rep.dom a m
  rw [e] at w;cases w
theorem Post.lastOwn (p:Post K T z R m1 o1 H W σ ρ H1 W1 ρ1 d1 v1 F1) (q:Post K T z R m2 o2 H1 W1 σ ρ1 H2 W2 ρ2 d2 v2 F2) (h:o2=true):F2.Nodup/\∀a∈F2,H a=none/\¬W2 a:=by
 obtain ⟨h1,h2⟩:=q.own h
 exact ⟨h1,λa m=>⟨p.fr.dom a (h2 a m).1,(h2 a m).2⟩⟩
theorem Post.calm2 (p:Post K T z R m1 o1 H W σ ρ H1 W1 ρ1 d1 v1 F1) (q:Post K T z R m2 o2 H1 W1 σ ρ1 H2 W2 ρ2 d2 v2 F2) (h:(m1 || m2)=false):Same H H2/\W2=W/\ρ2=ρ:=by
 rw [Bool.or_eq_false_iff] at h
 obtain ⟨a1,a2,a3⟩:=p.calm h.1
 obtain ⟨b1,b2,b3⟩:=q.calm h.2
 exact ⟨a1.trans b1,b2.trans a2,b3.trans a3⟩
theorem Post.fin {F:List Addr} (s:SR K T z R H1 W1 σ ρ1) (f:FrW H W H1 W1) (c:m=false->Same H H1/\W1=W/\ρ1=ρ) (k:Same H1 H2) (r:Rep K H2 d v F) (nd:F.Nodup) (nw:∀a∈F,H1 a=none) :
  Post K T z R m true H W σ ρ H2 W1 ρ1 d v F where
 sr:=s.same k
 fr:=f.trans (FrW.same W1 k)
 calm:=λh=>⟨(c h).1.trans k,(c h).2⟩
 rep:=r
 own:=λ_=>⟨nd,λa m=>⟨f.dom a (nw a m),s.nw (nw a m)⟩⟩
theorem Post.flat (s:SR K T z R H1 W1 σ ρ1) (f:FrW H W H1 W1) (c:m=false->Same H H1/\W1=W/\ρ1=ρ) (r:Rep K H1 d v []):Post K T z R m true H W σ ρ H1 W1 ρ1 d v [] where
 sr:=s
 fr:=f
 calm:=c
 rep:=r
 own:=λ_=>⟨List.nodup_nil,λa m=>nomatch m⟩
end
section
variable {a b:Expr} {w:WE}
theorem EV.lift (h:EV X T m o e w):EV X T m true e (λρ Q=>w ρ λd ρ'=>d.pure=true/\Q d ρ'):=by
 obtain ⟨te,p,g⟩:=h
 refine ⟨te,p,λz R σ H W ρ Q Q' s hw k=>g z R σ H W ρ _ Q' s hw λv H' W' d ρ' F q ⟨hp,hq⟩=>?_⟩
 obtain ⟨e,r⟩:=q.rep.pure hp
 exact k v H' W' d ρ' [] ⟨q.sr,q.fr,q.calm,r,λ_=>⟨List.nodup_nil,λa m=>nomatch m⟩⟩ hq
def wVar (i:Nat):WE:=λρ Q=>match look ρ i with
 | some d=>Q d ρ
 | none=>False
def wC (d:D):WE:=λρ Q=>Q d ρ
theorem Qqc (i:Nat) (h:PE X e (tVar i)):EV X T false false e (wVar i):=by
 refine ⟨_,h,λz R σ H W ρ Q Q' s hw k=>?_⟩
 unfold wVar at hw
 cases hl:look ρ i with
 | none=>rw [hl] at hw;exact hw.elim
 | some d =>
  rw [hl] at hw
  obtain ⟨fp,r⟩:=s
  obtain ⟨v,h1,h2⟩:=r.at_ i d hl
  exact ⟨v,h1,k v H W d ρ (fp i) ⟨⟨fp,r⟩,FrW.refl H W,λ_=>⟨Same.refl H,rfl,rfl⟩,h2,λh=>nomatch h⟩ hw⟩
theorem Qc (i:Nat) (hN:X.N[i]? = some x:=by rfl) (hv:Vis X.env.scope x:=by first | exact Or.inl rfl | exact Or.inr (Or.inl rfl) | exact Or.inr (Or.inr rfl)) (hd:(x == ("__debug__" : Str))=false:=by decide)
  (hcd:(x == ("__classdict__" : Str))=false:=by decide):EV X T false false (.Name x pos) (wVar i):=Qqc i (Zh hN hv hd hcd)
theorem Vy (h:PE X e (tC v)) (r:∀H,Rep X.K H d v []):EV X T false true e (wC d) :=
 ⟨_,h,λz R σ H W ρ Q Q' s hw k=>k v H W d ρ [] (Post.flat s (FrW.refl H W) (λ_=>⟨Same.refl H,rfl,rfl⟩) (r H)) hw⟩
theorem Qg {j pos}:EV X T false true (.Constant (.int i) j pos) (wC (.int i)):=Vy Qjg λ_=>.int i
theorem Qhp {i:Bool} {j pos}:EV X T false true (.Constant (.bool i) j pos) (wC (.bl i)):=Vy Qpx λ_=>.bl i
theorem Qn {i:Str} {j pos}:EV X T false true (.Constant (.str i) j pos) (wC (.str i)):=Vy Qjf λ_=>.str i
theorem Qlc {t:Tok} (hm:X.mg x=some (.int i t)) (hg:Gl X x:=by rfl) (hd:(x == ("__debug__" : Str))=false:=by decide):EV X T false true (.Name x pos) (wC (.int i)) :=
 Vy (Qfg hg hm (v:=.int i) ⟨t,rfl⟩ hd) λ_=>.int i
abbrev G2:=D->D->(D->Prop)->Prop
structure Fin (K:PySem.W.Frag) (H H':Hp) (d:D) (v:V) (F:List Addr):Prop where
 same:Same H H'
 rep:Rep K H' d v F
 nd:F.Nodup
 new:∀a∈F,H a=none
theorem Fin.flat (r:Rep K H d v []):Fin K H H d v []:=⟨Same.refl H,r,List.nodup_nil,λ_ m=>nomatch m⟩
theorem Qm {p:Addr} (h:H p=none):Same H (upd H p ob):=λb u e=>by rw [Qk (Qz e h)];exact e
def OpD (X:Cx) (f:Value->Value->Sem Value) (g:G2):Prop :=
 ∃r,OpR X f r/\∀(H:Hp) (a b:D) (x y:V) (F1 F2:List Addr) (k:D->Prop) (Q:VK),Rep X.K H a x F1->Rep X.K H b y F2->g a b k ->
  (∀v H' d F,Fin X.K H H' d v F->k d->Q v H')->r x y H Q
def wBin (g:G2) (wa wb:WE):WE:=λρ Q=>wa ρ λx ρ1=>wb ρ1 λy ρ2=>g x y λd=>Q d ρ2
theorem two {W:Addr->Prop} {RR:V->V->Hp->Prop} {Q2:D->D->Env->Prop}
  (ga:∀(z:Nat->V) (R:Addr->Prop) (σ:St) (H:Hp) (W:Addr->Prop) (ρ:Env) (Q:D->Env->Prop) (Q':VK),SR X.K T z R H W σ ρ->wa ρ Q->(∀v H' W' d ρ' F,Post X.K T z R m1 o1 H W σ ρ H' W' ρ' d v F->Q d ρ'->Q' v H')->ta σ H Q')
  (gb:∀(z:Nat->V) (R:Addr->Prop) (σ:St) (H:Hp) (W:Addr->Prop) (ρ:Env) (Q:D->Env->Prop) (Q':VK),SR X.K T z R H W σ ρ->wb ρ Q->(∀v H' W' d ρ' F,Post X.K T z R m2 o2 H W σ ρ H' W' ρ' d v F->Q d ρ'->Q' v H')->tb σ H Q')
  (hc:o1=true\/m2=false) (s:SR X.K T z R H W σ ρ) (hw:wa ρ λx ρ1=>wb ρ1 λy ρ2=>Q2 x y ρ2)
  (k:∀x y H2 W2 d1 d2 ρ2 F1 F2,SR X.K T z R H2 W2 σ ρ2->FrW H W H2 W2->((m1 || m2)=false->Same H H2/\W2=W/\ρ2=ρ)->Rep X.K H2 d1 x F1->Rep X.K H2 d2 y F2 ->
   (o1=true->F1.Nodup/\∀a∈F1,H a=none/\¬W2 a)->(o2=true->F2.Nodup/\∀a∈F2,H a=none/\¬W2 a)->(o2=true->∀a∈F1,a∉F2)->Q2 d1 d2 ρ2->RR x y H2) :
  ta σ H λx H1=>tb σ H1 λy H2=>RR x y H2:=by
 refine ga z R σ H W ρ _ _ s hw λv1 H1 W1 d1 ρ1 F1 p q1=>?_
 refine gb z R σ H1 W1 ρ1 _ _ p.sr q1 λv2 H2 W2 d2 ρ2 F2 q q2=>?_
 refine k v1 v2 H2 W2 d1 d2 ρ2 F1 F2 q.sr (p.fr.trans q.fr) (p.calm2 q) (p.first q hc) q.rep (p.firstOwn q) (p.lastOwn q) (λh a m1 m2=>?_) q2
 obtain ⟨ob,e,_⟩:=p.rep.dom a m1
 rw [((q.own h).2 a m2).1] at e
 cases e
theorem Jb {op:Operator} {g:G2} (ho:OpD X (binaryOp op) g) (ha:EV X T m1 o1 a wa) (hb:EV X T m2 o2 b wb) (hc:o1=true\/m2=false:=by first | exact .inl rfl | exact .inr rfl) :
  EV X T (m1 || m2) true (.BinOp a op b pos) (wBin g wa wb):=by
 obtain ⟨r,ro,gr⟩:=ho
 obtain ⟨ta,pa,ga⟩:=ha
 obtain ⟨tb,pb,gb⟩:=hb
 refine ⟨_,Qpw ro pa pb,λz R σ H W ρ Q Q' s hw k=>?_⟩
 refine two ga gb hc s hw λx y H2 W2 d1 d2 ρ2 F1 F2 s2 f2 c2 r1 r2 _ _ _ q2=>?_
 exact gr H2 d1 d2 x y F1 F2 _ Q' r1 r2 q2 λv H' d F fi hk=>k v H' W2 d ρ2 F (Post.fin s2 f2 c2 fi.same fi.rep fi.nd fi.new) hk
theorem Qol {op:CmpOp} {g:G2} (ho:OpD X (compareOp op) g) (ha:EV X T m1 o1 a wa) (hb:EV X T m2 o2 b wb) (hc:o1=true\/m2=false:=by first | exact .inl rfl | exact .inr rfl)
  (hm:behindInMarks op b=false:=by first | exact Qjk _ | with_unfolding_all rfl):EV X T (m1 || m2) true (.Compare a [op] [b] pos) (wBin g wa wb):=by
 obtain ⟨r,ro,gr⟩:=ho
 obtain ⟨ta,pa,ga⟩:=ha
 obtain ⟨tb,pb,gb⟩:=hb
 refine ⟨_,Qkm ro pa pb hm,λz R σ H W ρ Q Q' s hw k=>?_⟩
 refine two ga gb hc s hw λx y H2 W2 d1 d2 ρ2 F1 F2 s2 f2 c2 r1 r2 _ _ _ q2=>?_
 exact gr H2 d1 d2 x y F1 F2 _ Q' r1 r2 q2 λv H' d F fi hk=>k v H' W2 d ρ2 F (Post.fin s2 f2 c2 fi.same fi.rep fi.nd fi.new) hk
def wUn (g:D->(D->Prop)->Prop) (wa:WE):WE:=λρ Q=>wa ρ λx ρ1=>g x λd=>Q d ρ1
abbrev WT:=Env->(Bool->Env->Prop)->Prop
structure PostT (K:PySem.W.Frag) (T:Tg) (z:Nat->V) (R:Addr->Prop) (m:Bool) (H:Hp) (W:Addr->Prop) (σ:St) (ρ:Env) (H':Hp) (W':Addr->Prop) (ρ':Env):Prop where
 sr:SR K T z R H' W' σ ρ'
 fr:FrW H W H' W'
 calm:m=false->Same H H'/\W'=W/\ρ'=ρ
def TV (X:Cx) (T:Tg) (m:Bool) (e:Expr) (w:WT):Prop :=
 ∃tt,PT X e tt/\∀(z:Nat->V) (R:Addr->Prop) (σ:St) (H:Hp) (W:Addr->Prop) (ρ:Env) (Q:Bool->Env->Prop) (Q':Bool->Hp->Prop),SR X.K T z R H W σ ρ->w ρ Q ->
  (∀b H' W' ρ',PostT X.K T z R m H W σ ρ H' W' ρ'->Q b ρ'->Q' b H')->tt σ H Q'
def truD:D->Option Bool
 | .non=>some false
 | .bl b=>some b
 | .int i=>some (i != 0)
 | .str y=>if y.length<=sizeLine then some ((y.length:Int) != 0) else none
 | .lst xs=>some (!xs.isEmpty)
 | .tup xs=>some (!xs.isEmpty)
 | .dik kvs=>some (!kvs.isEmpty)
 | .kls xs=>some (!xs.isEmpty)
 | .dit _=>none
 | .ty _=>none
 | .fdk _=>none
 | .ftp _=>none
 | .fls _=>none
 | .fdt _=>none
 | .obj _ _=>none
 | .clo _ _=>none
 | .kc _=>none
 | .dmx _=>none
 | .fmx _=>none
 | .lsa _ _=>none
 | .ist _ _=>none
def wTru (wa:WE):WT:=λρ Q=>wa ρ λd ρ'=>match truD d with
 | some b=>Q b ρ'
 | none=>False
theorem Reps.emp {F:List Addr} (r:Reps K H ds xs F):ds.isEmpty=xs.isEmpty:=by
 have:=r.length
 cases ds <;> cases xs <;> simp at this <;> rfl
theorem RepK.emp {ds:List (Key × D)} {xs:List (Key × V)} {F:List Addr} (r:RepK K H ds xs F):ds.isEmpty=xs.isEmpty:=by
 have:=r.length
 cases ds <;> cases xs <;> simp at this <;> rfl
theorem Qj0 {x:V} {F:List Addr} {b:Bool} (r:Rep K H d x F) (h:truD d=some b):TruV K x H b:=by
 cases r with
 | non=>exact (Option.some.inj h).symm
 | bl c=>exact (Option.some.inj h).symm
 | int c=>exact (Option.some.inj h).symm
 | str y =>
  have h:(if y.length<=sizeLine then some ((y.length:Int) != 0) else none)=some b:=h
  split at h
  ·rename_i hl;exact ⟨hl,(Option.some.inj h).symm⟩
  ·cases h
 | tup e r =>
  refine .inr (.inl ⟨_,.of e,?_⟩)
  rw [← Option.some.inj h,r.emp]
 | lst e r =>
  refine .inl ⟨_,.of e,?_⟩
  rw [← Option.some.inj h,r.emp]
 | kls e r =>
  refine .inl ⟨_,e.sq,?_⟩
  rw [← Option.some.inj h,r.emp]
 | dik e r =>
  refine .inr (.inr ⟨_,e,?_⟩)
  rw [← Option.some.inj h,r.emp]
 | dit e r=>cases h
 | ty t=>cases h
 | fdk e r=>cases h
 | ftp e hd r=>cases h
 | fls e r=>cases h
 | fdt e r=>cases h
 | obj e hc hf=>cases h
 | clo e r=>cases h
 | kc a=>cases h
 | dmx e hk hm r=>cases h
 | fmx e hk hm r=>cases h
 | lsa e r=>cases h
 | ist e hc hn r=>cases h
theorem Yj (ha:EV X T m o a wa) (he:∀whole,isTrue a X.env whole=(do let v ← whole;standAt a.pos;holding [v] (truthy v)):=by intro _;rfl):TV X T m a (wTru wa):=by
 obtain ⟨ta,pa,ga⟩:=ha
 refine ⟨_,Qg4 pa he,λz R σ H W ρ Q Q' s hw k=>?_⟩
 refine ga z R σ H W ρ _ _ s hw λv1 H1 W1 d1 ρ1 F1 p q1=>?_
 cases ht:truD d1 with
 | none=>rw [ht] at q1;exact q1.elim
 | some b =>
  rw [ht] at q1
  exact ⟨b,Qj0 p.rep ht,k b H1 W1 ρ1 ⟨p.sr,p.fr,p.calm⟩ q1⟩
def wBl (wa:WE):WT:=λρ Q=>wa ρ λd ρ'=>match d with
 | .bl b=>Q b ρ'
 | _=>False
theorem Qed {b:Bool} {x:V} {F:List Addr} (r:Rep K H (.bl b) x F):x=.bl b:=by cases r;rfl
theorem Qy {op:CmpOp} {g:G2} (ho:OpD X (compareOp op) g) (ha:EV X T m1 o1 a wa) (hb:EV X T m2 o2 b wb) (hc:o1=true\/m2=false:=by first | exact .inl rfl | exact .inr rfl)
  (hm:behindInMarks op b=false:=by first | exact Qjk _ | with_unfolding_all rfl):TV X T (m1 || m2) (.Compare a [op] [b] pos) (wBl (wBin g wa wb)):=by
 obtain ⟨r,ro,gr⟩:=ho
 obtain ⟨ta,pa,ga⟩:=ha
 obtain ⟨tb,pb,gb⟩:=hb
 refine ⟨_,Qkg ro pa pb hm,λz R σ H W ρ Q Q' s hw k=>?_⟩
 refine two ga gb hc s hw λx y H2 W2 d1 d2 ρ2 F1 F2 s2 f2 c2 r1 r2 _ _ _ q2=>?_
 refine gr H2 d1 d2 x y F1 F2 _ _ r1 r2 q2 λv H' d F fi hk=>?_
 cases d with
 | bl b=>exact ⟨b,Qed fi.rep,k b H' W2 ρ2 ⟨s2.same fi.same,f2.trans (FrW.same W2 fi.same),λh=>⟨(c2 h).1.trans fi.same,(c2 h).2⟩⟩ hk⟩
 | _=>exact hk.elim
end
section
variable {a b:Expr} {w:WE} {wt wu:WT}
def wNot (wt:WT):WT:=λρ Q=>wt ρ λb ρ'=>Q (!b) ρ'
def wAnd (wt wu:WT):WT:=λρ Q=>wt ρ λb ρ'=>if b=true then wu ρ' Q else Q false ρ'
def wOr (wt wu:WT):WT:=λρ Q=>wt ρ λb ρ'=>if b=true then Q true ρ' else wu ρ' Q
theorem Xd (ha:TV X T m a wt):TV X T m (.UnaryOp .Not a pos) (wNot wt):=by
 obtain ⟨ta,pa,ga⟩:=ha
 exact ⟨_,Qm1 pa,λz R σ H W ρ Q Q' s hw k=>ga z R σ H W ρ _ _ s hw λb H1 W1 ρ1 p q1=>k (!b) H1 W1 ρ1 p q1⟩
def BV (X:Cx) (T:Tg) (m:Bool) (e:Expr) (w:WT):Prop :=
 ∃tt,PW X e tt/\∀(z:Nat->V) (R:Addr->Prop) (σ:St) (H:Hp) (W:Addr->Prop) (ρ:Env) (Q:Bool->Env->Prop) (Q':Bool->Hp->Prop),SR X.K T z R H W σ ρ->w ρ Q ->
  (∀b H' W' ρ',PostT X.K T z R m H W σ ρ H' W' ρ'->Q b ρ'->Q' b H')->tt σ H Q'
theorem PostT.seq {W:Addr->Prop} (p:PostT K T z R m1 H W σ ρ H1 W1 ρ1) (q:PostT K T z R m2 H1 W1 σ ρ1 H2 W2 ρ2):PostT K T z R (m1 || m2) H W σ ρ H2 W2 ρ2 where
 sr:=q.sr
 fr:=p.fr.trans q.fr
 calm:=λh=>by
  rw [Bool.or_eq_false_iff] at h
  obtain ⟨a1,a2,a3⟩:=p.calm h.1
  obtain ⟨b1,b2,b3⟩:=q.calm h.2
  exact ⟨a1.trans b1,b2.trans a2,b3.trans a3⟩
theorem PostT.left {W:Addr->Prop} (p:PostT K T z R m1 H W σ ρ H1 W1 ρ1):PostT K T z R (m1 || m2) H W σ ρ H1 W1 ρ1 :=
 ⟨p.sr,p.fr,λh=>p.calm (Bool.or_eq_false_iff.mp h).1⟩
theorem Qb4 (ha:TV X T m a wt):BV X T m (.BoolOp .And [a] pos) wt:=by
 obtain ⟨ta,pa,ga⟩:=ha
 exact ⟨_,Qkf pa,ga⟩
theorem Xo (ha:TV X T m a wt):BV X T m (.BoolOp .Or [a] pos) wt:=by
 obtain ⟨ta,pa,ga⟩:=ha
 exact ⟨_,Qmz pa,ga⟩
theorem Qgq (ha:TV X T m1 a wt) (hb:BV X T m2 (.BoolOp .And (b::rest) pos) wu):BV X T (m1 || m2) (.BoolOp .And (a::b::rest) pos) (wAnd wt wu):=by
 obtain ⟨ta,pa,ga⟩:=ha
 obtain ⟨tb,pb,gb⟩:=hb
 refine ⟨_,Qm0 pa pb,λz R σ H W ρ Q Q' s hw k=>ga z R σ H W ρ _ _ s hw λc H1 W1 ρ1 p q1=>?_⟩
 cases c with
 | true=>exact gb z R σ H1 W1 ρ1 Q Q' p.sr q1 λb H2 W2 ρ2 q q2=>k b H2 W2 ρ2 (p.seq q) q2
 | false=>exact k false H1 W1 ρ1 p.left q1
theorem Qdv (ha:TV X T m1 a wt) (hb:BV X T m2 (.BoolOp .Or (b::rest) pos) wu):BV X T (m1 || m2) (.BoolOp .Or (a::b::rest) pos) (wOr wt wu):=by
 obtain ⟨ta,pa,ga⟩:=ha
 obtain ⟨tb,pb,gb⟩:=hb
 refine ⟨_,Qpp pa pb,λz R σ H W ρ Q Q' s hw k=>ga z R σ H W ρ _ _ s hw λc H1 W1 ρ1 p q1=>?_⟩
 cases c with
 | false=>exact gb z R σ H1 W1 ρ1 Q Q' p.sr q1 λb H2 W2 ρ2 q q2=>k b H2 W2 ρ2 (p.seq q) q2
 | true=>exact k true H1 W1 ρ1 p.left q1
theorem Za (h:BV X T m e wt):TV X T m e wt:=by
 obtain ⟨ta,pa,ga⟩:=h
 exact ⟨_,pa.pt,ga⟩
def wIfE (wt:WT) (wa wb:WE):WE:=λρ Q=>wt ρ λc ρ1=>if c=true then wa ρ1 Q else wb ρ1 Q
end
end PV
namespace PV
open PySem PySem.Spec L2
open PySem.W (Dat kqdP kqdPs kqdOk)
mutual
def J1:D->Dat
 | .non=>.none
 | .bl b=>.bool b
 | .int i=>.int i
 | .str x=>.str x
 | .tup xs=>.tuple (Yu xs)
 | .lst xs=>.list (Yu xs)
 | .dik _=>.none
 | .dit _=>.none
 | .kls _=>.none
 | .ty _=>.none
 | .fdk _=>.none
 | .ftp _=>.none
 | .fls _=>.none
 | .fdt _=>.none
 | .obj _ _=>.none
 | .clo _ _=>.none
 | .kc _=>.none
 | .dmx _=>.none
 | .fmx _=>.none
 | .lsa _ _=>.none
 | .ist _ _=>.none
def Yu:List D->List Dat
 | []=>[]
 | d::r=>J1 d::Yu r
end
mutual
def eqOk:Nat->D->Bool
 | _,.non=>true
 | _,.int _=>true
 | _,.str x=>PyData.strOk x
 | n+1,.tup xs=>G7 n xs
 | n+1,.lst xs=>G7 n xs
 | _,_=>false
def G7:Nat->List D->Bool
 | _,[]=>true
 | n,d::r=>eqOk n d && G7 n r
end
mutual
theorem X7:∀(n:Nat) (d:D),eqOk n d=true->kqdOk n (J1 d)=true
 | _,.non,_=>by simp [J1,kqdOk]
 | _,.bl _,h=>by cases ‹Nat› <;> simp [eqOk] at h
 | _,.int _,_=>by simp [J1,kqdOk]
 | _,.str x,h=>by
  cases ‹Nat› <;> (simp only [eqOk] at h;simpa [J1,kqdOk] using h)
 | 0,.tup _,h=>by simp [eqOk] at h
 | 0,.lst _,h=>by simp [eqOk] at h
 | n+1,.tup xs,h=>by
  simp only [eqOk] at h
  rw [J1];simp only [kqdOk]
  exact Gw n xs h
 | n+1,.lst xs,h=>by
  simp only [eqOk] at h
  rw [J1];simp only [kqdOk]
  exact Gw n xs h
 | n,.dik _,h=>by cases n <;> simp [eqOk] at h
 | n,.dit _,h=>by cases n <;> simp [eqOk] at h
 | n,.kls _,h=>by cases n <;> simp [eqOk] at h
 | n,.ty _,h=>by cases n <;> simp [eqOk] at h
 | n,.fdk _,h=>by cases n <;> simp [eqOk] at h
 | n,.ftp _,h=>by cases n <;> simp [eqOk] at h
 | n,.fls _,h=>by cases n <;> simp [eqOk] at h
 | n,.fdt _,h=>by cases n <;> simp [eqOk] at h
 | n,.obj _ _,h=>by cases n <;> simp [eqOk] at h
 | n,.clo _ _,h=>by cases n <;> simp [eqOk] at h
 | n,.kc _,h=>by cases n <;> simp [eqOk] at h
theorem Gw:∀(n:Nat) (xs:List D),G7 n xs=true->(Yu xs).all (kqdOk n)=true
 | _,[],_=>by simp [Yu]
 | n,d::r,h=>by
  simp only [G7,Bool.and_eq_true] at h
  rw [Yu,List.all_cons,X7 n d h.1,Gw n r h.2];rfl
end
mutual
theorem Qaf:∀(n k:Nat) (a b:D),eqOk n a=true->eqOk k b=true->J1 a=J1 b->a=b
 | n,k,a,b,ha,hb,h=>by
  cases a with
  | non=>cases b <;> first | rfl | (simp [J1] at h;done) | (cases k <;> simp [eqOk] at hb)
  | bl x=>cases n <;> simp [eqOk] at ha
  | int x=>cases b <;> first | (simp [J1] at h;rw [h]) | (simp [J1] at h)
  | str x=>cases b <;> first | (simp [J1] at h;rw [h]) | (simp [J1] at h)
  | tup xs =>
   cases b with
   | tup ys =>
    cases n with
    | zero=>simp [eqOk] at ha
    | succ n =>
     cases k with
     | zero=>simp [eqOk] at hb
     | succ k =>
      simp only [eqOk] at ha hb
      simp only [J1,Dat.tuple.injEq] at h
      rw [V3 n k xs ys ha hb h]
   | _=>simp [J1] at h
  | lst xs =>
   cases b with
   | lst ys =>
    cases n with
    | zero=>simp [eqOk] at ha
    | succ n =>
     cases k with
     | zero=>simp [eqOk] at hb
     | succ k =>
      simp only [eqOk] at ha hb
      simp only [J1,Dat.list.injEq] at h
      rw [V3 n k xs ys ha hb h]
   | _=>simp [J1] at h
  | dik x=>cases n <;> simp [eqOk] at ha
  | dit x=>cases n <;> simp [eqOk] at ha
  | kls x=>cases n <;> simp [eqOk] at ha
  | ty x=>cases n <;> simp [eqOk] at ha
  | fdk x=>cases n <;> simp [eqOk] at ha
  | ftp x=>cases n <;> simp [eqOk] at ha
  | fls x=>cases n <;> simp [eqOk] at ha
  | fdt x=>cases n <;> simp [eqOk] at ha
  | obj x y=>cases n <;> simp [eqOk] at ha
  | clo x y=>cases n <;> simp [eqOk] at ha
  | kc x=>cases n <;> simp [eqOk] at ha
  | dmx x=>cases n <;> simp [eqOk] at ha
  | fmx x=>cases n <;> simp [eqOk] at ha
  | lsa x y=>cases n <;> simp [eqOk] at ha
  | ist x y=>cases n <;> simp [eqOk] at ha
theorem V3:∀(n k:Nat) (a b:List D),G7 n a=true->G7 k b=true->Yu a=Yu b->a=b
 | n,k,[],b,ha,hb,h=>by
  cases b with
  | nil=>rfl
  | cons=>simp [Yu] at h
 | n,k,x::a,b,ha,hb,h=>by
  cases b with
  | nil=>simp [Yu] at h
  | cons y b =>
   simp only [Yu,List.cons.injEq] at h
   simp only [G7,Bool.and_eq_true] at ha hb
   rw [Qaf n k x y ha.1 hb.1 h.1,V3 n k a b ha.2 hb.2 h.2]
end
theorem Rep.dv {F:List Addr} (n:Nat) (r:Rep K H d v F):eqOk n d=true->DV H v (J1 d):=by
 have no:∀{P:Prop} {n:Nat} {d:D},(∀n,eqOk n d=false)->eqOk n d=true->P:=λh h'=>absurd ((h _).symm.trans h') (by simp)
 refine Rep.rec (motive_1:=λd v _ _=>∀n,eqOk n d=true->DV H v (J1 d)) (motive_2:=λd v _ _=>∀n,G7 n d=true->DVs H v (Yu d)) (motive_3:=λ_ _ _ _=>True) (motive_4:=λ_ _ _ _=>True) ?_ ?_ ?_ ?_ ?_ ?_ ?_ ?_ ?_ ?_ ?_ ?_ ?_ ?_ ?_ ?_ ?_ ?_ ?_ ?_ ?_ ?_ ?_ trivial (λ_ _ _ _=>trivial) trivial (λ_ _ _ _=>trivial) r n
 ·exact λ_ _=>by rw [J1];exact .non
 ·exact λb n=>no λn=>by cases n <;> rfl
 ·exact λi _ _=>by rw [J1];exact .int i
 ·exact λi _ _=>by rw [J1];exact .str i
 ·intro _ _ _ _ e _ ih n h
  cases n with
  | zero=>simp [eqOk] at h
  | succ n=>rw [eqOk] at h;rw [J1];exact .tup e (ih n h)
 ·intro _ _ _ _ e _ ih n h
  cases n with
  | zero=>simp [eqOk] at h
  | succ n=>rw [eqOk] at h;rw [J1];exact .lst e (ih n h)
 ·exact λ_ _ _ n=>no λn=>by cases n <;> rfl
 ·exact λ_ _ _ n=>no λn=>by cases n <;> rfl
 ·exact λ_ _ _ n=>no λn=>by cases n <;> rfl
 ·exact λ_ n=>no λn=>by cases n <;> rfl
 ·exact λ_ _ _ n=>no λn=>by cases n <;> rfl
 ·exact λ_ _ _ _ n=>no λn=>by cases n <;> rfl
 ·exact λ_ _ _ n=>no λn=>by cases n <;> rfl
 ·exact λ_ _ _ n=>no λn=>by cases n <;> rfl
 ·exact λ_ _ _ n=>no λn=>by cases n <;> rfl
 ·exact λ_ _ _ n=>no λn=>by cases n <;> rfl
 ·exact λ_ n=>no λn=>by cases n <;> rfl
 ·exact λ_ _ _ _ _ n=>no λn=>by cases n <;> rfl
 ·exact λ_ _ _ _ _ n=>no λn=>by cases n <;> rfl
 ·exact λ_ _ _ n=>no λn=>by cases n <;> rfl
 ·exact λ_ _ _ _ _ n=>no λn=>by cases n <;> rfl
 ·exact λ_ _=>by rw [Yu];exact .nil
 ·intro _ _ _ _ _ _ _ _ ih1 ih2 n q
  rw [G7,Bool.and_eq_true] at q
  rw [Yu];exact .cons (ih1 n q.1) (ih2 n q.2)
def dAdd:G2
 | .int i,.int j,k=>k (.int (i+j))
 | .str x,.str y,k=>x.length+y.length<=sizeLine/\k (.str (x++y))
 | .tup xs,.tup ys,k=>Qi xs=true/\Qi ys=true/\xs≠[]/\xs.length+ys.length<=sizeLine/\k (.tup (xs++ys))
 | .lst xs,.lst ys,k=>Qi xs=true/\Qi ys=true/\xs.length+ys.length<=sizeLine/\k (.lst (xs++ys))
 | _,_,_=>False
def dSub:G2
 | .int i,.int j,k=>k (.int (i-j))
 | _,_,_=>False
def dMul:G2
 | .int i,.int j,k=>CMul i j/\k (.int (i*j))
 | .lst xs,.int n,k=>Qi xs=true /\ -(2 ^ 63)<=n/\n<2 ^ 63/\xs.length*n.toNat<=sizeLine/\k (.lst (List.replicate n.toNat xs).flatten)
 | _,_,_=>False
def dDiv:G2
 | .int i,.int j,k=>(0<j/\j<1073741824/\k (.int (i / j)))\/(j<0/\j.natAbs<1073741824/\k (.int (i.fdiv j)))
 | _,_,_=>False
def dMod:G2
 | .int i,.int j,k=>(0<j/\k (.int (i % j)))\/(j<0/\k (.int (i.fmod j)))
 | _,_,_=>False
def dPow:G2
 | .int i,.int j,k=>CPow i j/\k (.int (i ^ j.toNat))
 | _,_,_=>False
def dEq:G2
 | .int i,.int j,k=>k (.bl (decide (i=j)))
 | .bl i,.bl j,k=>k (.bl (i == j))
 | .str i,.str j,k=>k (.bl (decide (i=j)))
 | a,b,k=>eqOk 9 a=true/\eqOk 9 b=true/\(a=b->k (.bl true))/\(a≠b->k (.bl false))
def dNe:G2
 | .int i,.int j,k=>k (.bl (!decide (i=j)))
 | .bl i,.bl j,k=>k (.bl (!(i == j)))
 | .str i,.str j,k=>k (.bl (!decide (i=j)))
 | a,b,k=>eqOk 9 a=true/\eqOk 9 b=true/\(a=b->k (.bl false))/\(a≠b->k (.bl true))
def dCmp (f:Int->Int->Bool):G2
 | .int i,.int j,k=>k (.bl (f i j))
 | _,_,_=>False
theorem Qkb {x:V} {F:List Addr} (r:Rep K H (.int i) x F):x=.int i:=by cases r;rfl
theorem Reps.flatten {K:PySem.W.Frag} {H:Hp} {ds:List D} {xs:List V} (r:Reps K H ds xs []):∀n:Nat,Reps K H (List.replicate n ds).flatten (List.replicate n xs).flatten []
 | 0=>.nil
 | n+1=>by
  have:=r.append (Reps.flatten r n)
  simpa [List.replicate_succ,List.flatten_cons] using this
theorem Qhs (g:dAdd a b k):(∃i j,a=.int i/\b=.int j)\/(∃i j,a=.str i/\b=.str j)\/(∃i j,a=.tup i/\b=.tup j)\/∃i j,a=.lst i/\b=.lst j:=by
 cases a with
 | int i=>cases b with
  | int j=>exact .inl ⟨i,j,rfl,rfl⟩
  | _=>exact (show False from g).elim
 | str i=>cases b with
  | str j=>exact .inr (.inl ⟨i,j,rfl,rfl⟩)
  | _=>exact (show False from g).elim
 | tup i=>cases b with
  | tup j=>exact .inr (.inr (.inl ⟨i,j,rfl,rfl⟩))
  | _=>exact (show False from g).elim
 | lst i=>cases b with
  | lst j=>exact .inr (.inr (.inr ⟨i,j,rfl,rfl⟩))
  | _=>exact (show False from g).elim
 | _=>exact (show False from g).elim
theorem Qnq:OpD X (binaryOp .Add) dAdd:=by
 refine ⟨_,OpR.or Qno (OpR.or Qnn (OpR.or Qkq Qdk)),λH a b x y F1 F2 k Q ra rb g q=>?_⟩
 rcases Qhs g with ⟨i,j,rfl,rfl⟩ | ⟨i,j,rfl,rfl⟩ | ⟨ds,es,rfl,rfl⟩ | ⟨ds,es,rfl,rfl⟩
 ·exact .inl ⟨_,_,ra.iInt,rb.iInt,q _ _ _ _ (.flat (.int _)) g⟩
 ·exact .inr (.inr (.inr ⟨_,_,ra.iStr,rb.iStr,g.1,q _ _ _ _ (.flat (.str _)) g.2⟩))
 ·obtain ⟨a,xs,rfl,e1,r1⟩:=ra.iTup
  obtain ⟨b,ys,rfl,e2,r2⟩:=rb.iTup
  obtain ⟨p1,p2,hne,hz,g⟩:=g
  obtain ⟨-,r1⟩:=r1.pure p1
  obtain ⟨-,r2⟩:=r2.pure p2
  have l1:=r1.length
  have l2:=r2.length
  refine .inr (.inr (.inl ⟨a,b,xs,ys,rfl,rfl,.of e1,.of e2,λz=>hne (List.length_eq_zero_iff.mp (by rw [← l1,z];rfl)),by omega,λz=>?_,λz p hp=>?_⟩))
  ·have:es=[]:=List.length_eq_zero_iff.mp (by rw [← l2,z];rfl)
   subst this
   rw [List.append_nil] at g
   exact q _ _ _ _ (.flat (.tup e1 r1)) g
  ·refine q _ _ _ [] ⟨Qm hp,.tup Qj ?_,List.nodup_nil,λ_ m=>nomatch m⟩ g
   exact (r1.append r2).same (Qm hp)
 ·obtain ⟨a,xs,_,rfl,_,e1,r1⟩:=ra.iLst
  obtain ⟨b,ys,_,rfl,_,e2,r2⟩:=rb.iLst
  obtain ⟨p1,p2,hz,g⟩:=g
  obtain ⟨-,r1⟩:=r1.pure p1
  obtain ⟨-,r2⟩:=r2.pure p2
  have l1:=r1.length
  have l2:=r2.length
  refine .inr (.inl ⟨a,b,xs,ys,rfl,rfl,e1,e2,by omega,λp hp=>?_⟩)
  refine q _ _ _ [p] ⟨Qm hp,.lst Qj ((r1.append r2).same (Qm hp)),by simp,λc m=>by rw [List.mem_singleton.mp m];exact hp⟩ g
theorem Xj:OpD X (binaryOp .Sub) dSub:=by
 refine ⟨_,Qng,λH a b x y F1 F2 k Q ra rb g q=>?_⟩
 (cases ra <;> first | exact (show False from g).elim | skip) <;> (cases rb <;> first | exact (show False from g).elim | skip)
 exact ⟨_,_,rfl,rfl,q _ _ _ _ (.flat (.int _)) g⟩
theorem Qhr (g:dMul a b k):(∃i j,a=.int i/\b=.int j)\/∃i j,a=.lst i/\b=.int j:=by
 cases a with
 | int i=>cases b with
  | int j=>exact .inl ⟨i,j,rfl,rfl⟩
  | _=>exact (show False from g).elim
 | lst i=>cases b with
  | int j=>exact .inr ⟨i,j,rfl,rfl⟩
  | _=>exact (show False from g).elim
 | _=>exact (show False from g).elim
theorem Qa6:OpD X (binaryOp .Mult) dMul:=by
 refine ⟨_,OpR.or Qnk Qnh,λH a b x y F1 F2 k Q ra rb g q=>?_⟩
 rcases Qhr g with ⟨i,j,rfl,rfl⟩ | ⟨ds,n,rfl,rfl⟩
 ·exact .inl ⟨_,_,ra.iInt,rb.iInt,g.1,q _ _ _ _ (.flat (.int _)) g.2⟩
 ·obtain ⟨a,xs,_,rfl,_,e1,r1⟩:=ra.iLst
  obtain rfl:=rb.iInt
  obtain ⟨p1,h1,h2,hz,g⟩:=g
  obtain ⟨-,r1⟩:=r1.pure p1
  have l1:=r1.length
  refine .inr ⟨a,n,xs,rfl,rfl,e1,h1,h2,by rw [l1];exact hz,λp hp=>?_⟩
  refine q _ _ _ [p] ⟨Qm hp,.lst Qj ((r1.flatten _).same (Qm hp)),by simp,λc m=>by rw [List.mem_singleton.mp m];exact hp⟩ g
theorem Qji:OpD X (binaryOp .FloorDiv) dDiv:=by
 refine ⟨_,OpR.or Qkp Qha,λH a b x y F1 F2 k Q ra rb g q=>?_⟩
 (cases ra <;> first | exact (show False from g).elim | skip) <;> (cases rb <;> first | exact (show False from g).elim | skip)
 rcases (show _\/_ from g) with ⟨h1,h2,g⟩ | ⟨h1,h2,g⟩
 ·exact .inl ⟨_,_,rfl,rfl,⟨h1,h2⟩,q _ _ _ _ (.flat (.int _)) g⟩
 ·exact .inr ⟨_,_,rfl,rfl,⟨by omega,h2⟩,q _ _ _ _ (.flat (.int _)) g⟩
theorem Qa7:OpD X (binaryOp .Mod) dMod:=by
 refine ⟨_,OpR.or Qnl Qko,λH a b x y F1 F2 k Q ra rb g q=>?_⟩
 (cases ra <;> first | exact (show False from g).elim | skip) <;> (cases rb <;> first | exact (show False from g).elim | skip)
 rcases (show _\/_ from g) with ⟨h1,g⟩ | ⟨h1,g⟩
 ·exact .inl ⟨_,_,rfl,rfl,h1,q _ _ _ _ (.flat (.int _)) g⟩
 ·exact .inr ⟨_,_,rfl,rfl,by omega,q _ _ _ _ (.flat (.int _)) g⟩
theorem Qfl:OpD X (binaryOp .Pow) dPow:=by
 refine ⟨_,Qni,λH a b x y F1 F2 k Q ra rb g q=>?_⟩
 (cases ra <;> first | exact (show False from g).elim | skip) <;> (cases rb <;> first | exact (show False from g).elim | skip)
 exact ⟨_,_,rfl,rfl,g.1,q _ _ _ _ (.flat (.int _)) g.2⟩
theorem Qfm {op:CmpOp} {f:Int->Int->Bool} (h:OpR X (compareOp op) (rI0 λi j=>.bl (f i j))):OpD X (compareOp op) (dCmp f):=by
 refine ⟨_,h,λH a b x y F1 F2 k Q ra rb g q=>?_⟩
 (cases ra <;> first | exact (show False from g).elim | skip) <;> (cases rb <;> first | exact (show False from g).elim | skip)
 exact ⟨_,_,rfl,rfl,q _ _ _ _ (.flat (.bl _)) g⟩
theorem Qku:OpD X (compareOp .Lt) (dCmp λi j=>decide (i<j)):=Qfm Qpz
theorem Qhc:OpD X (compareOp .Gt) (dCmp λi j=>decide (j<i)):=Qfm Qp0
theorem Qf8 {x y:V} {Q:VK} {neg:Bool} (ra:Rep X.K H a x F1) (rb:Rep X.K H b y F2)
  (h1:eqOk 9 a=true) (h2:eqOk 9 b=true) (g1:a=b->k (.bl (!neg))) (g2:a≠b->k (.bl neg)) (q:∀v H' d F,Fin X.K H H' d v F->k d->Q v H'):rDat neg x y H Q:=by
 refine ⟨J1 a,J1 b,9,ra.dv 9 h1,rb.dv 9 h2,X7 _ _ h1,X7 _ _ h2,Nat.le_refl _,λe=>?_,λe=>?_⟩
 ·exact q _ _ _ _ (.flat (.bl _)) (g1 (Qaf 9 9 a b h1 h2 e))
 ·exact q _ _ _ _ (.flat (.bl _)) (g2 λz=>e (by rw [z]))
theorem Qlj (g:dEq a b k):(∃i j,a=.int i/\b=.int j)\/(∃i j,a=.bl i/\b=.bl j)\/(∃i j,a=.str i/\b=.str j)\/(eqOk 9 a=true/\eqOk 9 b=true/\(a=b->k (.bl true))/\(a≠b->k (.bl false))):=by
 cases a with
 | int i=>cases b with
  | int j=>exact .inl ⟨i,j,rfl,rfl⟩
  | _=>exact .inr (.inr (.inr g))
 | bl i=>cases b with
  | bl j=>exact .inr (.inl ⟨i,j,rfl,rfl⟩)
  | _=>exact .inr (.inr (.inr g))
 | str i=>cases b with
  | str j=>exact .inr (.inr (.inl ⟨i,j,rfl,rfl⟩))
  | _=>exact .inr (.inr (.inr g))
 | _=>exact .inr (.inr (.inr g))
theorem Yf (hu:X.A.units+64<cLine):OpD X (compareOp .Eq) dEq:=by
 refine ⟨_,OpR.or Qp1 (Qnm hu),λH a b x y F1 F2 k Q ra rb g q=>?_⟩
 rcases Qlj g with ⟨i,j,rfl,rfl⟩ | ⟨i,j,rfl,rfl⟩ | ⟨i,j,rfl,rfl⟩ | ⟨h1,h2,g1,g2⟩
 ·obtain rfl:=ra.iInt
  obtain rfl:=rb.iInt
  refine .inl ⟨rfl,?_⟩
  have e:decide (V.int i=V.int j)=decide (i=j):=by simp
  rw [e]
  exact q _ _ _ _ (.flat (.bl _)) g
 ·obtain rfl:=ra.iBl
  obtain rfl:=rb.iBl
  refine .inl ⟨rfl,?_⟩
  rw [Qc3]
  exact q _ _ _ _ (.flat (.bl _)) g
 ·obtain rfl:=ra.iStr
  obtain rfl:=rb.iStr
  refine .inl ⟨rfl,?_⟩
  have e:decide (V.str i=V.str j)=decide (i=j):=by simp
  rw [e]
  exact q _ _ _ _ (.flat (.bl _)) g
 ·exact .inr (Qf8 ra rb h1 h2 g1 g2 q)
theorem Qlg (g:dNe a b k):(∃i j,a=.int i/\b=.int j)\/(∃i j,a=.bl i/\b=.bl j)\/(∃i j,a=.str i/\b=.str j)\/(eqOk 9 a=true/\eqOk 9 b=true/\(a=b->k (.bl false))/\(a≠b->k (.bl true))):=by
 cases a with
 | int i=>cases b with
  | int j=>exact .inl ⟨i,j,rfl,rfl⟩
  | _=>exact .inr (.inr (.inr g))
 | bl i=>cases b with
  | bl j=>exact .inr (.inl ⟨i,j,rfl,rfl⟩)
  | _=>exact .inr (.inr (.inr g))
 | str i=>cases b with
  | str j=>exact .inr (.inr (.inl ⟨i,j,rfl,rfl⟩))
  | _=>exact .inr (.inr (.inr g))
 | _=>exact .inr (.inr (.inr g))
theorem Qhb (hu:X.A.units+64<cLine):OpD X (compareOp .NotEq) dNe:=by
 refine ⟨_,OpR.or Qpy (Qnj hu),λH a b x y F1 F2 k Q ra rb g q=>?_⟩
 rcases Qlg g with ⟨i,j,rfl,rfl⟩ | ⟨i,j,rfl,rfl⟩ | ⟨i,j,rfl,rfl⟩ | ⟨h1,h2,g1,g2⟩
 ·obtain rfl:=ra.iInt
  obtain rfl:=rb.iInt
  refine .inl ⟨rfl,?_⟩
  have e:(!decide (V.int i=V.int j)) = !decide (i=j):=by simp
  rw [e]
  exact q _ _ _ _ (.flat (.bl _)) g
 ·obtain rfl:=ra.iBl
  obtain rfl:=rb.iBl
  refine .inl ⟨rfl,?_⟩
  rw [Qc3]
  exact q _ _ _ _ (.flat (.bl _)) g
 ·obtain rfl:=ra.iStr
  obtain rfl:=rb.iStr
  refine .inl ⟨rfl,?_⟩
  have e:(!decide (V.str i=V.str j)) = !decide (i=j):=by simp
  rw [e]
  exact q _ _ _ _ (.flat (.bl _)) g
 ·exact .inr (Qf8 (neg:=true) ra rb h1 h2 g1 g2 q)
def dNeg:D->(D->Prop)->Prop
 | .int i,k=>k (.int (-i))
 | _,_=>False
end PV
variable {a:PySem.Expr} {m3:Bool}
namespace PV
open PySem PySem.Spec L2
open PyProof.Rows (subscriptTail)
def Ye:List D->Option (List Key)
 | []=>some []
 | .int i::r=>(Ye r).map λl=>.inl i::l
 | .str x::r=>(Ye r).map λl=>.inr x::l
 | _::_=>none
theorem Reps.keys {K:PySem.W.Frag} {H:Hp}:∀{ds:List D} {xs:List V} {F:List Addr} {l:List Key},Reps K H ds xs F->Ye ds=some l->xs=l.map kV
 | [],_,_,_,r,h=>by
  cases r
  simp only [Ye,Option.some.injEq] at h
  subst h
  rfl
 | d::ds,_,_,_,r,h=>by
  cases r with
  | cons p r =>
   cases d with
   | int i =>
    simp only [Ye,Option.map_eq_some_iff] at h
    obtain ⟨l',h1,rfl⟩:=h
    cases p
    rw [Reps.keys r h1]
    rfl
   | str i =>
    simp only [Ye,Option.map_eq_some_iff] at h
    obtain ⟨l',h1,rfl⟩:=h
    cases p
    rw [Reps.keys r h1]
    rfl
   | _=>simp [Ye] at h
theorem Reps.atI {F:List Addr} (r:Reps K H ds xs F) (h:L2.atI ds i=some d):∃x B,L2.atI xs i=some x/\Rep K H d x B/\B.Sublist F:=by
 unfold L2.atI at h
 cases hj:ixN ds.length i with
 | none=>rw [hj] at h;cases h
 | some j =>
  rw [hj] at h
  obtain ⟨x,B,h1,h2,h3⟩:=r.get (i:=j) h
  refine ⟨x,B,?_,h2,h3⟩
  unfold L2.atI
  rw [r.length,hj]
  exact h1
def oget {α:Type} (o:Option α) (k:α->Prop):Prop:=match o with
 | some d=>k d
 | none=>False
def onI (b:D) (k:Int->Prop):Prop:=match b with
 | .int i=>k i
 | _=>False
def onK (b:D) (k:Key->Prop):Prop:=match b with
 | .int i=>k (.inl i)
 | .str i=>k (.inr i)
 | _=>False
def onT (b:D) (k:List D->Prop):Prop:=match b with
 | .tup l=>k l
 | _=>False
theorem Gk {k:Int->Prop} (h:onI b k):∃i,b=.int i/\k i:=by
 cases b with
 | int i=>exact ⟨i,rfl,h⟩
 | _=>exact (show False from h).elim
theorem Qfi {k:List D->Prop} (h:onT b k):∃i,b=.tup i/\k i:=by
 cases b with
 | tup i=>exact ⟨i,rfl,h⟩
 | _=>exact (show False from h).elim
theorem Qbv {k:Key->Prop} (h:onK b k):∃key,k key/\∀{K:PySem.W.Frag} {H:Hp} {v:V} {F:List Addr},Rep K H b v F->v=kV key:=by
 cases b with
 | int i=>exact ⟨.inl i,h,λr=>r.iInt⟩
 | str i=>exact ⟨.inr i,h,λr=>r.iStr⟩
 | _=>exact (show False from h).elim
def dIx:G2:=λa b k=>match a with
 | .lst xs=>onI b λi=>oget (L2.atI xs i) k
 | .tup xs=>onI b λi=>oget (L2.atI xs i) k
 | .kls xs=>onI b λi=>oget (L2.atI xs i) k
 | .str z=>onI b λi=>z.length<=sizeLine/\oget (L2.atI z.cps.toList i) λc=>k (.str ⟨#[c]⟩)
 | .dik kvs=>onK b λkey=>oget (valD kvs key) k
 | .dit kvs=>onT b λl=>oget (Ye l) λks=>oget (valD kvs ks) k
 | .fdk kvs=>onK b λkey=>oget (valD kvs key) k
 | _=>False
theorem Qs {α:Type} {o:Option α} {k:α->Prop} (h:oget o k):∃d,o=some d/\k d:=by
 cases o with
 | none=>exact h.elim
 | some d=>exact ⟨d,rfl,h⟩
theorem Qd1 {s₂:Shared} {value slice:Expr} {o i:Value} {T id:String}
  (hl:typeLookup (.type T) "__getitem__" = pure (some (.builtin id))) (hs:subscripted slice false o i=operate [o,i] (getItem o i)) (hT:s₂.TypeIs o T) (h₂:wpAny (model prog w) A (getItem o i) Q E s₂) :
  wpAny (model prog w) A (subscriptTail value slice o i) Q E s₂:=by
 unfold subscriptTail
 refine wpAny_bind ?_
 rw [getitemInPython_of_ne hT.not_modules]
 refine wpAny_bind (wpAny_specialOf hT hl ?_)
 have fin:wpAny (model prog w) A (subscripted slice false o i) (λr s₃=>wpAny (model prog w) A (letTemporaryGo value o r >>= λ_=>pure r) Q E s₃) E s₂:=by
  rw [hs]
  exact wpAny_operating (wpAny_mono h₂ (λr s₃ h₃=>wpAny_bind (wpAny_letTemporaryGo (wpAny_pure h₃))) λ_ _ x=>x)
 first
  | exact wpAny_pure (wpAny_bind fin)
  | exact wpAny_bind (wpAny_pure (wpAny_bind fin))
  | exact wpAny_bind fin
theorem Qk0 (hu:X.A.units+1<cLine):IxR X (λx y H Q=>∃a v,x=.ref a/\DGet H a y (some v)/\Q v H):=by
 intro value slice pins s σ H x y v u Q I rx ry h hs
 obtain ⟨a,z,rfl,g,q⟩:=h
 cases rx
 exact Qd1 PySem.F.slot_dict_getitem.lookup hs (Qb0 I g) (Qgi hu I g ry λw' s3 I3 rw'=>⟨z,H,I3,rw',q⟩)
def IxD (X:Cx) (g:G2):Prop :=
 ∃r,IxR X r/\∀(H:Hp) (a b:D) (x y:V) (F1 F2:List Addr) (k:D->Prop) (Q:VK),Rep X.K H a x F1->Rep X.K H b y F2->g a b k ->
  (∀v d F,Rep X.K H d v F->F.Sublist F1->k d->Q v H)->r x y H Q
theorem Q8 (hu:X.A.units+1<cLine):IxD X dIx:=by
 refine ⟨_,IxR.or Qn9 (Qk0 hu),λH a b x y F1 F2 k Q ra rb g q=>?_⟩
 cases a with
 | str z =>
  obtain ⟨i,rfl,hz,g⟩:=Gk g
  obtain ⟨c,e,g⟩:=Qs g
  exact .inl (.inr (.inr ⟨_,_,c,ra.iStr,rb.iInt,hz,e,q _ _ _ (.str _) (List.nil_sublist _) g⟩))
 | tup ds =>
  obtain ⟨i,rfl,g⟩:=Gk g
  obtain ⟨a,xs,rfl,e,r⟩:=ra.iTup
  obtain ⟨d,h,g⟩:=Qs g
  obtain ⟨v,B,h1,h2,h3⟩:=r.atI h
  exact .inl (.inr (.inl ⟨a,xs,i,v,rfl,rb.iInt,.of e,h1,q _ _ _ h2 h3 g⟩))
 | lst ds =>
  obtain ⟨i,rfl,g⟩:=Gk g
  obtain ⟨a,xs,G,rfl,rfl,e,r⟩:=ra.iLst
  obtain ⟨d,h,g⟩:=Qs g
  obtain ⟨v,B,h1,h2,h3⟩:=r.atI h
  exact .inl (.inl ⟨a,xs,i,v,rfl,rb.iInt,.of e,h1,q _ _ _ h2 (h3.trans (List.sublist_cons_self _ _)) g⟩)
 | dik ds =>
  obtain ⟨key,g,hy⟩:=Qbv (show onK b (λkey=>oget (valD ds key) k) from g)
  obtain ⟨a,kvs,G,rfl,rfl,e,r⟩:=ra.iDik
  obtain rfl:=hy rb
  obtain ⟨d,h,g⟩:=Qs g
  rcases r.val key with ⟨z,_⟩ | ⟨d',v,B,h1,h2,h3,h4⟩
  ·rw [h] at z;cases z
  ·rw [h] at h1;cases h1
   exact .inr ⟨a,v,rfl,h2 ▸ DGet.k (k:=key) e,q _ _ _ h3 (h4.trans (List.sublist_cons_self _ _)) g⟩
 | dit ds =>
  obtain ⟨l,rfl,g⟩:=Qfi g
  obtain ⟨a,kvs,G,rfl,rfl,e,r⟩:=ra.iDit
  obtain ⟨b,xs,rfl,e2,r2⟩:=rb.iTup
  obtain ⟨ks,hk,g⟩:=Qs g
  obtain ⟨d,h,g⟩:=Qs g
  have hx:=r2.keys hk
  subst hx
  rcases r.val ks with ⟨z,_⟩ | ⟨d',v,B,h1,h2,h3,h4⟩
  ·rw [h] at z;cases z
  ·rw [h] at h1;cases h1
   exact .inr ⟨a,v,rfl,h2 ▸ DGet.t (k:=ks) e e2,q _ _ _ h3 (h4.trans (List.sublist_cons_self _ _)) g⟩
 | kls ds =>
  obtain ⟨i,rfl,g⟩:=Gk g
  obtain ⟨a,xs,rfl,rfl,e,r⟩:=ra.iKls
  obtain ⟨d,h,g⟩:=Qs g
  obtain ⟨v,B,h1,h2,h3⟩:=r.atI h
  exact .inl (.inl ⟨a,xs,i,v,rfl,rb.iInt,e.sq,h1,q _ _ _ h2 h3 g⟩)
 | fdk ds =>
  obtain ⟨key,g,hy⟩:=Qbv (show onK b (λkey=>oget (valD ds key) k) from g)
  obtain ⟨a,ob,kvs,rfl,e,r⟩:=ra.iFdk
  obtain rfl:=hy rb
  obtain ⟨d,h,g⟩:=Qs g
  rcases r.val key with ⟨z,_⟩ | ⟨d',v,B,h1,h2,h3,h4⟩
  ·rw [h] at z;cases z
  ·rw [h] at h1;cases h1
   exact .inr ⟨a,v,rfl,.inl ⟨kvs,key,.inr ⟨ob,e⟩,rfl,h2.symm⟩,q _ _ _ h3 h4 g⟩
 | _=>exact (show False from g).elim
section
variable {b:Expr} {w:WE}
theorem Jc {g:G2} (hg:IxD X g) (ha:EV X T m1 o1 a wa) (hb:EV X T m2 o2 b wb) (hc:o1=true\/m2=false:=by first | exact .inl rfl | exact .inr rfl) (hs:Qce b:=by intro _ _;rfl) :
  EV X T (m1 || m2) o1 (.Subscript a b pos) (wBin g wa wb):=by
 obtain ⟨r,ro,gr⟩:=hg
 obtain ⟨ta,pa,ga⟩:=ha
 obtain ⟨tb,pb,gb⟩:=hb
 refine ⟨_,Qnc ro pa pb hs,λz R σ H W ρ Q Q' s hw k=>?_⟩
 refine two ga gb hc s hw λx y H2 W2 d1 d2 ρ2 F1 F2 s2 f2 c2 r1 r2 o1 _ _ q2=>?_
 exact gr H2 d1 d2 x y F1 F2 _ Q' r1 r2 q2 λv d F rd sub hk=>k v H2 W2 d ρ2 F ⟨s2,f2,c2,rd,λh=>⟨(o1 h).1.sublist sub,λa m=>(o1 h).2 a (sub.subset m)⟩⟩ hk
def inD:D->List D->Option Bool
 | .int i,[]=>some false
 | .int i,.int j::r=>(inD (.int i) r).map λb=>(j == i) || b
 | .str i,[]=>some false
 | .str i,.str j::r=>(inD (.str i) r).map λb=>(j == i) || b
 | _,_=>none
def dIn (neg:Bool):G2
 | .int i,.dik kvs,k=>k (.bl (xor neg (valD kvs (.inl i)).isSome))
 | .str i,.dik kvs,k=>k (.bl (xor neg (valD kvs (.inr i)).isSome))
 | .tup l,.dit kvs,k=>oget (Ye l) λks=>k (.bl (xor neg (valD kvs ks).isSome))
 | .int i,.lst xs,k=>oget (inD (.int i) xs) λb=>k (.bl (xor neg b))
 | .int i,.tup xs,k=>oget (inD (.int i) xs) λb=>k (.bl (xor neg b))
 | .str i,.lst xs,k=>oget (inD (.str i) xs) λb=>k (.bl (xor neg b))
 | .str i,.tup xs,k=>oget (inD (.str i) xs) λb=>k (.bl (xor neg b))
 | .str i,.str j,k=>k (.bl (xor neg (!(Builtin.Str.occurrences j i 0 j.length 1).isEmpty)))
 | _,_,_=>False
abbrev WA:=Env->(List D->Env->Prop)->Prop
structure PostA (K:PySem.W.Frag) (T:Tg) (z:Nat->V) (R:Addr->Prop) (m o:Bool) (H:Hp) (W:Addr->Prop) (σ:St) (ρ:Env) (H':Hp) (W':Addr->Prop) (ρ':Env) (ds:List D) (vs:List V) (F:List Addr):Prop where
 sr:SR K T z R H' W' σ ρ'
 fr:FrW H W H' W'
 calm:m=false->Same H H'/\W'=W/\ρ'=ρ
 rep:Reps K H' ds vs F
 own:o=true->F.Nodup/\∀a∈F,H a=none/\¬W' a
def AV (X:Cx) (T:Tg) (m o:Bool) (es:List Expr) (w:WA):Prop :=
 ∃ta,PA X es ta/\∀(z:Nat->V) (R:Addr->Prop) (σ:St) (H:Hp) (W:Addr->Prop) (ρ:Env) (Q:List D->Env->Prop) (Q':List V->Hp->Prop),SR X.K T z R H W σ ρ->w ρ Q ->
  (∀vs H' W' ds ρ' F,PostA X.K T z R m o H W σ ρ H' W' ρ' ds vs F->Q ds ρ'->Q' vs H')->ta σ H Q'
end
section
variable {b:Expr} {w:WE} {wr:WA}
def wNil:WA:=λρ Q=>Q [] ρ
def Qd (w:WE) (wr:WA):WA:=λρ Q=>w ρ λd ρ1=>wr ρ1 λds ρ2=>Q (d::ds) ρ2
theorem Qh:AV X T false true [] wNil:=⟨_,Qcr,λz R σ H W ρ Q Q' s hw k=>k [] H W [] ρ [] ⟨s,FrW.refl H W,λ_=>⟨Same.refl H,rfl,rfl⟩,.nil,λ_=>⟨List.nodup_nil,λa m=>nomatch m⟩⟩ hw⟩
theorem Qa (he:EV X T m1 o1 e w) (hr:AV X T m2 o2 es wr) (hc:o1=true\/m2=false:=by first | exact .inl rfl | exact .inr rfl) (hs:starEach (e::es) X.env=(false,eval e X.env)::starEach es X.env:=by rfl) :
  AV X T (m1 || m2) (o1 && o2) (e::es) (Qd w wr):=by
 obtain ⟨te,pe,ge⟩:=he
 obtain ⟨ta,pa,ga⟩:=hr
 refine ⟨_,V6 pe pa hs,λz R σ H W ρ Q Q' s hw k=>?_⟩
 refine ge z R σ H W ρ _ _ s hw λv1 H1 W1 d1 ρ1 F1 p q1=>?_
 refine ga z R σ H1 W1 ρ1 _ _ p.sr q1 λvs H2 W2 ds ρ2 F2 q q2=>?_
 have r1:Rep X.K H2 d1 v1 F1:=by
  rcases hc with hc | hc
  ·exact p.rep.keep q.fr λa h=>((p.own hc).2 a h).2
  ·exact p.rep.same (q.calm hc).1
 refine k (v1::vs) H2 W2 (d1::ds) ρ2 (F1++F2) ⟨q.sr,p.fr.trans q.fr,λh=>?_,.cons r1 q.rep,λh=>?_⟩ q2
 ·rw [Bool.or_eq_false_iff] at h
  obtain ⟨a1,a2,a3⟩:=p.calm h.1
  obtain ⟨b1,b2,b3⟩:=q.calm h.2
  exact ⟨a1.trans b1,b2.trans a2,b3.trans a3⟩
 ·rw [Bool.and_eq_true] at h
  obtain ⟨n1,k1⟩:=p.own h.1
  obtain ⟨n2,k2⟩:=q.own h.2
  refine ⟨List.nodup_append.mpr ⟨n1,n2,λa ma b mb e=>?_⟩,λa ma=>?_⟩
  ·subst e
   obtain ⟨ob,e,_⟩:=p.rep.dom a ma
   rw [(k2 a mb).1] at e;cases e
  ·rcases List.mem_append.mp ma with ma | ma
   ·refine ⟨(k1 a ma).1,λw=>?_⟩
    rcases q.fr.new a w with w | w
    ·exact (k1 a ma).2 w
    ·obtain ⟨ob,e,_⟩:=p.rep.dom a ma
     rw [w] at e;cases e
   ·exact ⟨p.fr.dom a (k2 a ma).1,(k2 a ma).2⟩
def wTup (wr:WA):WE:=λρ Q=>wr ρ λds ρ'=>ds.length<=sizeLine/\Q (.tup ds) ρ'
def wLst (wr:WA):WE:=λρ Q=>wr ρ λds ρ'=>ds.length<=sizeLine/\Q (.lst ds) ρ'
theorem Xm {x1} (h:AV X T m o es wr):EV X T m o (.Tuple es x1 pos) (wTup wr):=by
 obtain ⟨ta,pa,ga⟩:=h
 refine ⟨_,Qm8 pa,λz R σ H W ρ Q Q' s hw k=>?_⟩
 refine ga z R σ H W ρ _ _ s hw λvs H1 W1 ds ρ1 F p q=>?_
 obtain ⟨hz,q⟩:=q
 refine ⟨by rw [p.rep.length];exact hz,λa ha=>k _ _ W1 (.tup ds) ρ1 F ⟨p.sr.same (Qm ha),p.fr.trans (FrW.same W1 (Qm ha)),λh=>⟨(p.calm h).1.trans (Qm ha),(p.calm h).2⟩,.tup Qj (p.rep.same (Qm ha)),p.own⟩ q⟩
theorem Zi (h:AV X T m o es wr):EV X T m o (.List es pos) (wLst wr):=by
 obtain ⟨ta,pa,ga⟩:=h
 refine ⟨_,Qnb pa,λz R σ H W ρ Q Q' s hw k=>?_⟩
 refine ga z R σ H W ρ _ _ s hw λvs H1 W1 ds ρ1 F p q=>?_
 obtain ⟨hz,q⟩:=q
 refine ⟨by rw [p.rep.length];exact hz,λa ha=>k _ _ W1 (.lst ds) ρ1 (a::F) ⟨p.sr.same (Qm ha),p.fr.trans (FrW.same W1 (Qm ha)),λh=>⟨(p.calm h).1.trans (Qm ha),(p.calm h).2⟩,.lst Qj (p.rep.same (Qm ha)),λh=>?_⟩ q⟩
 obtain ⟨n1,k1⟩:=p.own h
 refine ⟨List.nodup_cons.mpr ⟨λm=>?_,n1⟩,λb mb=>?_⟩
 ·obtain ⟨ob,e,_⟩:=p.rep.dom a m
  rw [ha] at e;cases e
 ·rcases List.mem_cons.mp mb with rfl | mb
  ·exact ⟨p.fr.dom _ ha,p.sr.nw ha⟩
  ·exact k1 b mb
abbrev GA:=List D->(D->Prop)->Prop
end
end PV
variable {Q:PV.D->PV.Env->Prop} {g:PV.GA} {ta:L2.TA} {Q':L2.VK} {T':String}
namespace PV
open PySem PySem.Spec L2
open PyProof.Rows (subscriptTail)
section
variable {wr:WA}
def Qh3 (X:Cx) (f:Value) (g:GA):Prop :=
 ∃r,V1 X f r/\∀(H:Hp) (ds:List D) (xs:List V) (F:List Addr) (k:D->Prop) (Q:VK),Reps X.K H ds xs F->g ds k->(∀v H' d F',Fin X.K H H' d v F'->k d->Q v H')->r xs H Q
def Qv (g:GA) (wr:WA):WE:=λρ Q=>wr ρ λds ρ'=>g ds λd=>Q d ρ'
end
section
variable {b:Expr} {wr:WA} {id:String}
theorem Qhy {r:List V->Hp->VK->Prop} (gr:∀(H:Hp) (ds:List D) (xs:List V) (F:List Addr) (k:D->Prop) (Q:VK),Reps X.K H ds xs F->g ds k->(∀v H' d F',Fin X.K H H' d v F'->k d->Q v H')->r xs H Q) (ga:∀(z:Nat->V) (R:Addr->Prop) (σ:St) (H:Hp) (W:Addr->Prop) (ρ:Env) (Q:List D->Env->Prop) (Q':List V->Hp->Prop),SR X.K T z R H W σ ρ->wr ρ Q ->
   (∀vs H' W' ds ρ' F,PostA X.K T z R m o H W σ ρ H' W' ρ' ds vs F->Q ds ρ'->Q' vs H')->ta σ H Q') {W:Addr->Prop} (s:SR X.K T z R H W σ ρ) (hw:Qv g wr ρ Q)
  (k:∀v H' W' d ρ' F,Post X.K T z R m true H W σ ρ H' W' ρ' d v F->Q d ρ'->Q' v H'):ta σ H λvs H1=>r vs H1 Q':=by
 refine ga z R σ H W ρ _ _ s hw λvs H1 W1 ds ρ1 F p q=>?_
 exact gr H1 ds vs F _ Q' p.rep q λv H' d F' fi hk=>k v H' W1 d ρ1 F' (Post.fin p.sr p.fr p.calm fi.same fi.rep fi.nd fi.new) hk
theorem J7 (hc:Qh3 X (.builtin id) g) (hm:X.mg x=none) (hv:bootBuiltins x=some (.builtin id)) (ha:AV X T m o (e::es) wr) (hg:Gl X x:=by rfl) (hn:x ≠ "__name__":=by decide) (hdb:(x == ("__debug__" : Str))=false:=by decide)
  (he:starEach (e::es) X.env=(false,eval e X.env)::starEach es X.env:=by rfl) (hpl:(backTo pos (starEach es X.env)).any (·.1)=false:=by rfl):EV X T m true (.Call (.Name x p) (e::es) [] pos) (Qv g wr):=by
 obtain ⟨r,rc,gr⟩:=hc
 obtain ⟨ta,pa,ga⟩:=ha
 exact ⟨_,Qcq rc hg hm hv pa hn hdb he hpl,λz R σ H W ρ Q Q' s hw k=>Qhy gr ga s hw k⟩
theorem Qqa (t:Ty) (hm:X.mg x=none) (hv:bootBuiltins x=some (.type t.nm)) (hg:Gl X x:=by rfl) (hn:x ≠ "__name__":=by decide) (hdb:(x == ("__debug__" : Str))=false:=by decide):EV X T false true (.Name x pos) (wC (.ty t)) :=
 Vy (Qkn hg hm hv (v:=.ty t.nm) rfl hn hdb) λ_=>.ty t
theorem Reps.at1 {F:List Addr} (r:Reps K H [d] xs F):∃v,xs=[v]/\Rep K H d v F:=by
 cases r with
 | cons h r=>cases r;rw [List.append_nil];exact ⟨_,rfl,h⟩
theorem Reps.at2 {e:D} {F:List Addr} (r:Reps K H [d,e] xs F):∃v u F1 F2,xs=[v,u]/\Rep K H d v F1/\Rep K H e u F2:=by
 cases r with
 | cons h r =>
  obtain ⟨u,rfl,h2⟩:=r.at1
  exact ⟨_,_,_,_,rfl,h,h2⟩
def dLen:GA
 | [.lst xs],k=>k (.int xs.length)
 | [.tup xs],k=>k (.int xs.length)
 | [.kls xs],k=>k (.int xs.length)
 | [.dik xs],k=>k (.int xs.length)
 | [.str z],k=>z.length<=sizeLine/\k (.int z.length)
 | _,_=>False
theorem Uo:Qh3 X (.builtin "len") dLen:=by
 refine ⟨_,V1.or Qhw Qgo,λH ds xs F k Q r g q=>?_⟩
 cases ds with
 | nil=>exact (show False from g).elim
 | cons d ds =>
  cases ds with
  | cons _ _=>cases d <;> exact (show False from g).elim
  | nil =>
   cases d with
   | lst es =>
    obtain ⟨v,rfl,rd⟩:=r.at1
    clear r
    cases rd with
    | lst e r9=>exact .inl ⟨_,_,rfl,.inl ⟨_,.of e,rfl⟩,by rw [r9.length];exact q _ _ _ _ (.flat (.int _)) g⟩
   | tup es =>
    obtain ⟨v,rfl,rd⟩:=r.at1
    clear r
    cases rd with
    | tup e r9=>exact .inl ⟨_,_,rfl,.inr ⟨_,.of e,rfl⟩,by rw [r9.length];exact q _ _ _ _ (.flat (.int _)) g⟩
   | kls es =>
    obtain ⟨v,rfl,rd⟩:=r.at1
    clear r
    cases rd with
    | kls e r9=>exact .inl ⟨_,_,rfl,.inl ⟨_,e.sq,rfl⟩,by rw [r9.length];exact q _ _ _ _ (.flat (.int _)) g⟩
   | dik es =>
    obtain ⟨v,rfl,rd⟩:=r.at1
    clear r
    cases rd with
    | dik e r9=>exact .inr ⟨_,_,rfl,e,by rw [r9.length];exact q _ _ _ _ (.flat (.int _)) g⟩
   | str es =>
    obtain ⟨v,rfl,rd⟩:=r.at1
    clear r
    cases rd
    exact .inl ⟨_,_,rfl,⟨g.1,rfl⟩,q _ _ _ _ (.flat (.int _)) g.2⟩
   | _=>exact (show False from g).elim
def dInt:GA
 | [.int i],k=>k (.int i)
 | [.bl b],k=>k (.int (if b then 1 else 0))
 | _,_=>False
def dAbs:GA
 | [.int i],k=>k (.int (if i<0 then -i else i))
 | _,_=>False
def Qqh:GA
 | [.int i,.int j],k=>k (.int (if j<i then j else i))
 | _,_=>False
def Qqi:GA
 | [.int i,.int j],k=>k (.int (if j > i then j else i))
 | _,_=>False
def Qlh:GA
 | [.lst xs],k=>Qi xs=true/\k (.lst xs)
 | [.tup xs],k=>Qi xs=true/\k (.lst xs)
 | [.kls xs],k=>Qi xs=true/\k (.lst xs)
 | _,_=>False
def Qjs:GA
 | [.lst xs],k=>Qi xs=true/\k (.tup xs)
 | [.tup xs],k=>Qi xs=true/\k (.tup xs)
 | [.kls xs],k=>Qi xs=true/\k (.tup xs)
 | _,_=>False
end
end PV
variable {b:PySem.Expr} {w wi:PV.WE} {i:Nat} {fp:Nat->List PySem.Addr} {l:PySem.Addr} {F':List PySem.Addr} {ob':L2.HO} {wr:PV.WA} {wt:PV.WT} {m0:Bool}
namespace PV
open PySem PySem.Spec L2
def isiD:D->Ty->Option Bool
 | .non,_=>some false
 | .bl _,t=>some (t == .bool || t == .int)
 | .int _,t=>some (t == .int)
 | .str _,t=>some (t == .str)
 | .tup _,t=>some (t == .tuple)
 | .lst _,t=>some (t == .list)
 | .dik _,t=>some (t == .dict)
 | .dit _,t=>some (t == .dict)
 | .kls _,_=>none
 | .ty _,_=>none
 | .fdk _,t=>some (t == .dict)
 | .ftp _,_=>none
 | .fls _,t=>some (t == .list)
 | .fdt _,_=>none
 | .obj _ _,_=>none
 | .clo _ _,_=>none
 | .kc _,_=>none
 | .dmx _,_=>none
 | .fmx _,_=>none
 | .lsa _ _,_=>none
 | .ist _ _,_=>none
def dIsi:GA
 | [d,.ty t],k=>oget (isiD d t) λb=>k (.bl b)
 | _,_=>False
theorem Qnz (t:Ty):PySem.W.kitOne K (.type "NoneType") (.type t.nm)=some false:=by
 cases t <;> (unfold PySem.W.kitOne;rw [if_neg (by decide)];rfl)
theorem Qn1 (t:Ty):PySem.W.kitOne K (.type "bool") (.type t.nm)=some (t == .bool || t == .int):=by
 cases t <;> first | (unfold PySem.W.kitOne;rw [if_pos (by decide)];rfl) | (unfold PySem.W.kitOne;rw [if_neg (by decide)];rfl)
theorem Qn0 (t:Ty):PySem.W.kitOne K (.type "int") (.type t.nm)=some (t == .int):=by
 cases t <;> first | (unfold PySem.W.kitOne;rw [if_pos (by decide)];rfl) | (unfold PySem.W.kitOne;rw [if_neg (by decide)];rfl)
theorem Qny (t:Ty):PySem.W.kitOne K (.type "str") (.type t.nm)=some (t == .str):=by
 cases t <;> first | (unfold PySem.W.kitOne;rw [if_pos (by decide)];rfl) | (unfold PySem.W.kitOne;rw [if_neg (by decide)];rfl)
theorem Qnx (t:Ty):PySem.W.kitOne K (.type "tuple") (.type t.nm)=some (t == .tuple):=by
 cases t <;> first | (unfold PySem.W.kitOne;rw [if_pos (by decide)];rfl) | (unfold PySem.W.kitOne;rw [if_neg (by decide)];rfl)
theorem Qjl (t:Ty):PySem.W.kitOne K (.type "list") (.type t.nm)=some (t == .list):=by
 cases t <;> first | (unfold PySem.W.kitOne;rw [if_pos (by decide)];rfl) | (unfold PySem.W.kitOne;rw [if_neg (by decide)];rfl)
theorem Qfq (t:Ty):PySem.W.kitOne K (.type "dict") (.type t.nm)=some (t == .dict):=by
 cases t <;> first | (unfold PySem.W.kitOne;rw [if_pos (by decide)];rfl) | (unfold PySem.W.kitOne;rw [if_neg (by decide)];rfl)
theorem Qgp:V1 X (.builtin "isinstance") (λxs H Q=>∃a o kvs T b,xs=[.ref a,.ty T]/\H a=some (.frz o (.dK kvs))/\PySem.W.kitOne X.K (.type "dict") (.type T)=some b/\Q (.bl b) H):=by
 intro pins s σ H xs us Q I r h
 obtain ⟨a,o,kvs,T,b,rfl,ea,e,q⟩:=h
 obtain ⟨u,c,rfl,ru,rc⟩:=Qjy r
 cases (show c=Value.type T from rc)
 cases (show u=Value.ref a from ru)
 obtain ⟨_,_,_,vs,_,p⟩:=(show J0 X.prog X.w H s.heap a (.frz o (.dK kvs)) from I.hok a _ ea)
 obtain ⟨o',es,ep,h1,h2,_⟩:=p
 exact PySem.W.kia_one PySem.W.kitx_dict I.kIn ⟨o',h1,h2.1⟩ e (λz=>nomatch z) λtk=>⟨.bl b,H,I.tok _,rfl,q⟩
theorem Qot:Qh3 X (.builtin "isinstance") dIsi:=by
 refine ⟨_,V1.or Qb2 Qgp,λH ds xs F k Q r g q=>?_⟩
 match ds,r,g with
 | [d,.ty t],r,g =>
  obtain ⟨v,u,F1,F2,rfl,r1,r2⟩:=r.at2
  obtain ⟨b,hb,g⟩:=Qs g
  cases r2
  have fin:=q _ _ _ _ (.flat (.bl b)) g
  cases r1 with
  | non=>exact .inl ⟨_,_,_,_,rfl,.non,Qnz t,by cases hb;exact fin⟩
  | bl c=>exact .inl ⟨_,_,_,_,rfl,.bl c,Qn1 t,by cases hb;exact fin⟩
  | int c=>exact .inl ⟨_,_,_,_,rfl,.int c,Qn0 t,by cases hb;exact fin⟩
  | str c=>exact .inl ⟨_,_,_,_,rfl,.str c,Qny t,by cases hb;exact fin⟩
  | tup e _=>exact .inl ⟨_,_,_,_,rfl,.tup e,Qnx t,by cases hb;exact fin⟩
  | lst e _=>exact .inl ⟨_,_,_,_,rfl,.lst e,Qjl t,by cases hb;exact fin⟩
  | dik e _=>exact .inl ⟨_,_,_,_,rfl,.dK e,Qfq t,by cases hb;exact fin⟩
  | dit e _=>exact .inl ⟨_,_,_,_,rfl,.dT e,Qfq t,by cases hb;exact fin⟩
  | kls _ _=>cases hb
  | ty _=>cases hb
  | fdk e _=>exact .inr ⟨_,_,_,_,_,rfl,e,Qfq t,by cases hb;exact fin⟩
  | ftp _ _ _=>cases hb
  | fls e _=>exact .inl ⟨_,_,_,_,rfl,.frz e,Qjl t,by cases hb;exact fin⟩
  | fdt _ _=>cases hb
  | obj _ _ _=>cases hb
  | clo _ _=>cases hb
  | kc _=>cases hb
  | dmx _ _ _ _=>cases hb
  | fmx _ _ _ _=>cases hb
  | lsa _ _=>cases hb
  | ist _ _ _ _=>cases hb
theorem SR0.write {W:Addr->Prop} {d':D} (s:SR0 K T z R H W σ ρ fp)
  (hl:look ρ i=some d) (ht:T.own i=true) (hv:σ[i]? = some (some v)) (hm:l∈fp i) (hk:∀b u,H b=some u->b≠l->H' b=some u) (hnew:∃ob,H' l=some ob/\imm ob=false) (r:Rep K H' d' v F') (nd:F'.Nodup)
  (sub:∀a∈F',a∈fp i\/(¬W a/\¬R a)):SR K T z R H' (λa=>W a\/a∈F') σ (ρ.set i (some d')):=by
 have hW:W l:=(s.own i d hl ht).2 l hm
 have hi:ImmK H H':=λb ob' e im=>by
  obtain ⟨ol,e1,e2⟩:=s.wd l hW
  have:b≠l:=λz=>by rw [z,e1] at e;cases e;rw [e2] at im;cases im
  exact hk b _ e this
 refine ⟨λj=>if j=i then F' else fp j,?_,?_,?_,?_,?_,?_,?_,?_,s.fix⟩
 ·rw [List.length_set];exact s.len
 ·intro a ha
  by_cases e:a=l
  ·subst e;exact hnew
  ·rcases ha with ha | ha
   ·exact (s.wd a ha).imp λob q=>⟨hk a ob q.1 e,q.2⟩
   ·exact r.dom a ha
 ·intro j e hj
  by_cases hji:j=i
  ·subst hji
   rw [Vv (Qby hl)] at hj
   cases hj
   exact ⟨v,hv,by rw [if_pos rfl];exact r⟩
  ·rw [Qp hji] at hj
   obtain ⟨u,h1,h2⟩:=s.at_ j e hj
   refine ⟨u,h1,?_⟩
   rw [if_neg hji]
   refine h2.frame hi λa ha=>?_
   obtain ⟨oa,e1,_⟩:=h2.dom a ha
   rw [e1]
   refine hk a _ e1 λz=>?_
   subst z
   cases hto:T.own j with
   | true=>exact s.dis i j d e hl hj ht hto (λz=>hji z.symm) _ hm ha
   | false=>exact s.wr _ hW (s.ro j e hj hto _ ha)
 ·intro j e hj hto
  by_cases hji:j=i
  ·subst hji;simp only [if_pos];exact ⟨nd,λa h=>.inr h⟩
  ·rw [Qp hji] at hj
   simp only [if_neg hji]
   exact ⟨(s.own j e hj hto).1,λa h=>.inl ((s.own j e hj hto).2 a h)⟩
 ·intro j e hj hto
  have hji:j≠i:=λz=>by subst z;rw [ht] at hto;cases hto
  rw [Qp hji] at hj
  simp only [if_neg hji]
  exact s.ro j e hj hto
 ·intro a ha hr
  rcases ha with ha | ha
  ·exact s.wr a ha hr
  ·rcases sub a ha with h | h
   ·exact s.wr a ((s.own i d hl ht).2 a h) hr
   ·exact h.2 hr
 ·intro a hr
  have:a≠l:=λz=>by subst z;exact s.wr _ hW hr
  exact (s.rd a hr).imp λob q=>⟨hk a ob q.1 this,q.2⟩
 ·intro j k e e' hj hk tj tk hne a ha ha'
  by_cases hji:j=i
  ·subst hji
   have hkj:k≠j:=λz=>hne z.symm
   rw [Qp hkj] at hk
   simp only [if_pos,if_neg hkj] at ha ha'
   rcases sub a ha with h | h
   ·exact s.dis j k d e' hl hk ht tk hne a h ha'
   ·exact h.1 ((s.own k e' hk tk).2 a ha')
  ·rw [Qp hji] at hj
   simp only [if_neg hji] at ha
   by_cases hki:k=i
   ·subst hki
    simp only [if_pos] at ha'
    rcases sub a ha' with h | h
    ·exact s.dis j k e d hj hl tj ht hne a ha h
    ·exact h.1 ((s.own j e hj tj).2 a ha)
   ·rw [Qp hki] at hk
    simp only [if_neg hki] at ha'
    exact s.dis j k e e' hj hk tj tk hne a ha ha'
theorem FrW.write {H0:Hp} {W0 W:Addr->Prop} (f:FrW H0 W0 H W) (hl:W l) (hm:∃ol,H l=some ol/\PV.imm ol=false) (hk:∀b u,H b=some u->b≠l->H' b=some u) (hnew:∃ob,H' l=some ob/\PV.imm ob=false)
  (sub:∀a∈F',W a\/H0 a=none):FrW H0 W0 H' (λa=>W a\/a∈F') where
 keep:=λb ob' e n=>by
  have:b≠l:=λz=>by
   subst z
   rcases f.new _ hl with h | h
   ·exact n h
   ·rw [h] at e;cases e
  exact hk b _ (f.keep b ob' e n) this
 dom:=λb e=>by
  by_cases h:b=l
  ·subst h
   obtain ⟨ob,e1,_⟩:=hnew
   rw [e1] at e;cases e
  ·refine f.dom b ?_
   cases q:H b with
   | none=>rfl
   | some u=>rw [hk b u q h] at e;cases e
 imm:=λb ob' e im=>by
  have e':=f.imm b ob' e im
  obtain ⟨ol,e1,e2⟩:=hm
  have:b≠l:=λz=>by rw [z,e1] at e';cases e';rw [e2] at im;cases im
  exact hk b _ e' this
 new:=λb h=>by
  rcases h with h | h
  ·exact f.new b h
  ·rcases sub b h with h | h
   ·exact f.new b h
   ·exact .inr h
theorem Y9:∀b u,H b=some u->b≠l->upd H l ob b=some u:=λb u e n=>by rw [Qk n];exact e
abbrev GM:=D->List D->(D->D->Prop)->Prop
def MtD (X:Cx) (id:String) (g:GM):Prop :=
 ∃r,MtR X id r/\∀(H:Hp) (d:D) (ds:List D) (v:V) (xs:List V) (F G:List Addr) (k:D->D->Prop) (Q:VK),Rep X.K H d v F->F.Nodup->Reps X.K H ds xs G->G.Nodup->(∀a∈G,a∉F)->g d ds k ->
  (∀u l ob e d' F',l∈F->imm ob=false->Rep X.K (upd H l ob) d' v F'->F'.Nodup->(∀a∈F',a∈F\/a∈G)->Rep X.K (upd H l ob) e u []->k e d'->Q u (upd H l ob))->r v xs H Q
def tyD:Option D->String->Bool
 | some (.lst _),t=>t == "list"
 | some (.dik _),t=>t == "dict"
 | some (.dit _),t=>t == "dict"
 | some (.dmx _),t=>t == "dict"
 | _,_=>false
theorem Qlw {F:List Addr} (r:Rep K H d v F) (h:tyD (some d) t=true):tyV K t v H:=by
 cases r <;> try (simp [tyD] at h)
 ·subst h;exact .inl ⟨rfl,_,.of ‹_›⟩
 ·subst h;exact .inr (.inr (.inl ⟨rfl,.inl ⟨_,‹_›⟩⟩))
 ·subst h;exact .inr (.inr (.inl ⟨rfl,.inr ⟨_,‹_›⟩⟩))
 ·rename_i e hk hm r
  subst h
  refine .inr (.inr (.inr (.inr ⟨Mx.phi _ _,e,λh p=>?_⟩)))
  obtain ⟨_,_,_,_,_,o,_,_,e,x,_⟩:=p
  exact ⟨o,e,x.1,x.2.1⟩
def wMt (i:Nat) (t:String) (g:GM) (wr:WA):WE:=λρ Q=>tyD (look ρ i) t=true/\wr ρ λds ρ1=>oget (look ρ1 i) λd=>g d ds λe d'=>Q e (ρ1.set i (some d'))
theorem Qns {g:GM} (ht:T.own i=true)
  (gr:∀(H:Hp) (d:D) (ds:List D) (v:V) (xs:List V) (F G:List Addr) (k:D->D->Prop) (Q:VK),Rep X.K H d v F->F.Nodup->Reps X.K H ds xs G->G.Nodup->(∀a∈G,a∉F)->g d ds k ->
   (∀u l ob e d' F',l∈F->imm ob=false->Rep X.K (upd H l ob) d' v F'->F'.Nodup->(∀a∈F',a∈F\/a∈G)->Rep X.K (upd H l ob) e u []->k e d'->Q u (upd H l ob))->r v xs H Q) (ga:∀(z:Nat->V) (R:Addr->Prop) (σ:St) (H:Hp) (W:Addr->Prop) (ρ:Env) (Q:List D->Env->Prop) (Q':List V->Hp->Prop),SR X.K T z R H W σ ρ->wr ρ Q ->
   (∀vs H' W' ds ρ' F,PostA X.K T z R m true H W σ ρ H' W' ρ' ds vs F->Q ds ρ'->Q' vs H')->ta σ H Q') {W:Addr->Prop} (s:SR X.K T z R H W σ ρ) (hw:wMt i t g wr ρ Q)
  (k:∀v H' W' d ρ' F,Post X.K T z R true true H W σ ρ H' W' ρ' d v F->Q d ρ'->Q' v H'):tVar i σ H λx H1=>tyV X.K t x H1/\ta σ H1 λxs H2=>r x xs H2 Q':=by
 obtain ⟨hty,hw⟩:=hw
 obtain ⟨fp0,s0⟩:=id s
 cases hl:look ρ i with
 | none=>rw [hl] at hty;cases hty
 | some d0 =>
  obtain ⟨v,hv,r0⟩:=s0.at_ i d0 hl
  refine ⟨v,hv,Qlw r0 (by rw [hl] at hty;exact hty),?_⟩
  refine ga z R σ H W ρ _ _ s hw λvs H1 W1 ds ρ1 G p q=>?_
  obtain ⟨d,hd,q⟩:=Qs q
  obtain ⟨fp,s1⟩:=id p.sr
  obtain ⟨v',hv',r1⟩:=s1.at_ i d hd
  have:v'=v:=by rw [hv] at hv';cases hv';rfl
  subst this
  obtain ⟨nd1,sw⟩:=s1.own i d hd ht
  obtain ⟨ndG,kG⟩:=p.own rfl
  refine gr H1 d ds v' vs (fp i) G _ Q' r1 nd1 p.rep ndG (λa ha hf=>(kG a ha).2 (sw a hf)) q λu l ob e d' F' hlF him rd' ndF sub re hk=>?_
  have hWl:=sw l hlF
  refine k u _ (λa=>W1 a\/a∈F') e _ [] ⟨s1.write hd ht hv' hlF Y9 ⟨ob,Qj,him⟩ rd' ndF (λa ha=>?_),p.fr.write hWl (s1.wd l hWl) Y9 ⟨ob,Qj,him⟩ (λa ha=>?_),(λh=>nomatch h),re,λ_=>⟨List.nodup_nil,λa m=>nomatch m⟩⟩ hk
  ·rcases sub a ha with h | h
   ·exact .inl h
   ·exact .inr ⟨(kG a h).2,s.nr (kG a h).1⟩
  ·rcases sub a ha with h | h
   ·exact .inl (sw a h)
   ·exact .inr (kG a h).1
section
variable {id:String}
theorem Qbg {g:GM} (hm:MtD X id g) (pa:PlainAttrs T') (slot:Slot T' name id) (hty:typeOf (.builtin id)=pure (.type "method_descriptor")) (ha:AV X T m true (e::es) wr)
  (ht:T.own i=true:=by rfl) (hN:X.N[i]? = some x:=by rfl) (hv:Vis X.env.scope x:=by first | exact Or.inl rfl | exact Or.inr (Or.inl rfl) | exact Or.inr (Or.inr rfl)) (hd:(x == ("__debug__" : Str))=false:=by decide)
  (hcd:(x == ("__classdict__" : Str))=false:=by decide)
  (hbase:attributeBase (.Name x p) name X.env (eval (.Name x p) X.env)=eval (.Name x p) X.env:=by rfl)
  (hfew:((backTo cpos (starEach (e::es) X.env)).all (λx=>!x.1) && (backToKw cpos (keywordEach [] X.env)).all (λx=>x.1.isSome)
   && decide ((e::es).length+([]:List Keyword).length+(if ([]:List Keyword).isEmpty then 0 else 1)<30))=true:=by rfl)
  (hline:(apos.endLine == cpos.line)=true:=by rfl) (hs:starEach (e::es) X.env=(false,eval e X.env)::starEach es X.env:=by rfl) (hplain:(backTo cpos (starEach es X.env)).any (·.1)=false:=by rfl) :
  EV X T true true (.Call (.Attribute (.Name x p) name apos) (e::es) [] cpos) (wMt i T' g wr):=by
 obtain ⟨r,mr,gr⟩:=hm
 obtain ⟨ta,pa',ga⟩:=ha
 exact ⟨_,Qnf pa slot hty mr (Zh hN hv hd hcd) pa' hbase hfew hline hs hplain,λz R σ H W ρ Q Q' s hw k=>Qns ht gr ga s hw k⟩
def Yr:GM
 | .lst xs,[d],k=>xs.length<sizeLine/\k .non (.lst (xs++[d]))
 | _,_,_=>False
theorem Qa8 {α:Type} {F G:List α} (h:F.Nodup) (h':G.Nodup) (d:∀a∈G,a∉F):(F++G).Nodup :=
 List.nodup_append.mpr ⟨h,h',λa ha b hb e=>d b hb (e ▸ ha)⟩
theorem Zv (h:H l=some ob) (hi:imm ob=false):ImmK H (upd H l ob'):=λb u e im=>by
 have:b≠l:=λz=>by rw [z,h] at e;cases e;rw [hi] at im;cases im
 rw [Qk this];exact e
theorem Reps.upd {F:List Addr} (r:Reps K H ds xs F) (h:H l=some ob) (hi:imm ob=false) (hn:l∉F):Reps K (L2.upd H l ob') ds xs F :=
 r.frame (Zv h hi) λa ha=>Qk λz=>hn (z ▸ ha)
theorem Rep.upd {x:V} {F:List Addr} (r:Rep K H d x F) (h:H l=some ob) (hi:imm ob=false) (hn:l∉F):Rep K (L2.upd H l ob') d x F :=
 r.frame (Zv h hi) λa ha=>Qk λz=>hn (z ▸ ha)
theorem RepK.upd {ds:List (Key × D)} {xs:List (Key × V)} {F:List Addr} (r:RepK K H ds xs F) (h:H l=some ob) (hi:imm ob=false) (hn:l∉F):RepK K (L2.upd H l ob') ds xs F :=
 r.frame (Zv h hi) λa ha=>Qk λz=>hn (z ▸ ha)
theorem RepT.upd {ds:List (List Key × D)} {xs:List (List Key × V)} {F:List Addr} (r:RepT K H ds xs F) (h:H l=some ob) (hi:imm ob=false) (hn:l∉F):RepT K (L2.upd H l ob') ds xs F :=
 r.frame (Zv h hi) λa ha=>Qk λz=>hn (z ▸ ha)
theorem Yb:MtD X "list.append" Yr:=by
 refine ⟨_,Qa9,λH d ds v xs F G k Q r nd rs ndG dis g q=>?_⟩
 cases d with
 | lst es =>
  cases ds with
  | nil=>exact (show False from g).elim
  | cons d ds =>
   cases ds with
   | cons _ _=>exact (show False from g).elim
   | nil =>
    obtain ⟨u,rfl,rd⟩:=rs.at1
    cases r with
    | @lst l ys _ F e r9 =>
     obtain ⟨hz,g⟩:=g
     obtain ⟨nl,nd⟩:=List.nodup_cons.mp nd
     have hG:l∉G:=λh=>dis l h List.mem_cons_self
     refine ⟨l,ys,u,rfl,rfl,e,by rw [r9.length];exact hz,?_⟩
     refine q .non l _ .non _ (l::(F++G)) List.mem_cons_self rfl (.lst Qj ((r9.upd e rfl nl).snoc (rd.upd e rfl hG))) (List.nodup_cons.mpr ⟨λh=>(List.mem_append.mp h).elim nl hG,Qa8 nd ndG λa ha hf=>dis a ha (List.mem_cons_of_mem _ hf)⟩) (λa ha=>?_) .non g
     rcases List.mem_cons.mp ha with rfl | ha
     ·exact .inl List.mem_cons_self
     ·rcases List.mem_append.mp ha with ha | ha
      ·exact .inl (List.mem_cons_of_mem _ ha)
      ·exact .inr ha
 | _=>exact (show False from g).elim
def Qoe:GM
 | .lst xs,[.int i],k=>-(2 ^ 63)<=i/\i<2 ^ 63/\oget (seqIndex? i xs.length) λj=>oget xs[j]? λd=>d.pure=true/\k d (.lst (xs.eraseIdx j))
 | _,_,_=>False
theorem sub3 {α:Type} {F A B C:List α} (h:F=A++B++C):(A++C).Sublist F:=by
 rw [h,List.append_assoc]
 exact List.Sublist.append (List.Sublist.refl _) (List.sublist_append_right _ _)
def gPop:GM
 | .lst xs,[],k=>oget xs[xs.length-1]? λd=>d.pure=true/\k d (.lst xs.dropLast)
 | _,_,_=>False
def Qog:GM
 | .lst _,[],k=>k .non (.lst [])
 | _,_,_=>False
end
def spR (K:PySem.W.Frag) (g:GA):Sp:=λvs H Q _=>∃(ds:List D) (F:List Addr) (k:D->Prop),Reps K H ds vs F/\g ds k/\∀v H' d F',Fin K H H' d v F'->k d->Q v H'
abbrev GI:=List D->(D->D->Prop)->Prop
def spI (K:PySem.W.Frag) (p:Nat) (g:GI):Sp:=λvs H Q _=>∃(ds:List D) (a:Addr) (k:D->D->Prop),Reps K H ds vs [a]/\vs[p]? = some (.ref a)/\g ds k /\
 ∀v H' d d' F',Rep K H' d' (.ref a) [a]->Rep K H' d v F'->F'.Nodup->(∀b∈F',H b=none)->(∀b o,H b=some o->b≠a->H' b=some o)->k d d'->Q v H'
def Vw:D->Bool
 | .lst xs=>Qi xs
 | .dik kvs=>kvs.all λkv=>kv.2.pure
 | .dit kvs=>kvs.all λkv=>kv.2.pure
 | .dmx _=>true
 | _=>false
theorem RepK.pure {K:PySem.W.Frag} {H:Hp}:∀{ds:List (Key × D)} {xs:List (Key × V)} {F:List Addr},RepK K H ds xs F->(ds.all λkv=>kv.2.pure)=true->F=[]
 | [],_,_,r,_=>by cases r;rfl
 | d::ds,_,_,r,h=>by
  rw [List.all_cons,Bool.and_eq_true] at h
  cases r with
  | cons p r=>rw [(p.pure h.1).1,RepK.pure r h.2];rfl
theorem RepT.pure {K:PySem.W.Frag} {H:Hp}:∀{ds:List (List Key × D)} {xs:List (List Key × V)} {F:List Addr},RepT K H ds xs F->(ds.all λkv=>kv.2.pure)=true->F=[]
 | [],_,_,r,_=>by cases r;rfl
 | d::ds,_,_,r,h=>by
  rw [List.all_cons,Bool.and_eq_true] at h
  cases r with
  | cons p r=>rw [(p.pure h.1).1,RepT.pure r h.2];rfl
theorem Rep.flat1 {F:List Addr} (r:Rep K H d v F) (h:Vw d=true):∃a,v=.ref a/\F=[a]:=by
 cases r with
 | lst e r=>exact ⟨_,rfl,by rw [(r.pure (by simpa [Vw] using h)).1]⟩
 | dik e r=>exact ⟨_,rfl,by rw [r.pure (by simpa [Vw] using h)]⟩
 | dit e r=>exact ⟨_,rfl,by rw [r.pure (by simpa [Vw] using h)]⟩
 | dmx e _ _ _=>exact ⟨_,rfl,rfl⟩
 | _=>simp [Vw] at h
section
variable {k:Nat}
theorem Qle (F:FnOk X.prog X.w X.K X.mg X.base CX0 k f fd ps (spR X.K g)) (hr:Room k X.A) (hm:X.mg x=some (.ref f)) (hk:PySem.W.keepIn X.K (.ref f)=true) (hb:Yt X.K fd ps []) (ha:AV X T m o (e::es) wr) (hg:Gl X x:=by rfl)
  (hdb:(x == ("__debug__" : Str))=false:=by decide) (he:starEach (e::es) X.env=(false,eval e X.env)::starEach es X.env:=by rfl) (hpl:(backTo pos (starEach es X.env)).any (·.1)=false:=by rfl) :
  EV X T m true (.Call (.Name x p) (e::es) [] pos) (Qv g wr):=by
 obtain ⟨ta,pa,ga⟩:=ha
 refine ⟨_,Qfh F hr hg hm hk hb .nil Qg9 pa hdb he hpl,λz R σ H W ρ Q Q' s hw k=>?_⟩
 refine ga z R σ H W ρ _ _ s hw λvs H1 W1 ds ρ1 F p q=>?_
 refine ⟨ds,F,_,by rw [List.append_nil];exact p.rep,q,λv H' d F' fi hk=>k v H' W1 d ρ1 F' (Post.fin p.sr p.fr p.calm fi.same fi.rep fi.nd fi.new) hk⟩
abbrev WI:=Env->(List D->List D->Env->Prop)->Prop
def AI (X:Cx) (T:Tg) (m:Bool) (i p:Nat) (es:List Expr) (w:WI):Prop :=
 ∃ta,PA X es ta/\∀(z:Nat->V) (R:Addr->Prop) (σ:St) (H:Hp) (W:Addr->Prop) (ρ:Env) (Q:List D->List D->Env->Prop) (Q':List V->Hp->Prop),SR X.K T z R H W σ ρ->w ρ Q ->
  (∀v xs ys H' W' pre post ρ',PostT X.K T z R m H W σ ρ H' W' ρ'->σ[i]? = some (some v)->Reps X.K H' pre xs []->Reps X.K H' post ys []->pre.length=p->Q pre post ρ'->Q' (xs++v::ys) H')->ta σ H Q'
def Ys (i:Nat) (wr:WA):WI:=λρ Q=>(look ρ i).isSome=true/\wr ρ λds ρ'=>Qi ds=true/\Q [] ds ρ'
theorem Y1 (hr:AV X T m o es wr) (hN:X.N[i]? = some x:=by rfl) (hv:Vis X.env.scope x:=by first | exact Or.inl rfl | exact Or.inr (Or.inl rfl) | exact Or.inr (Or.inr rfl)) (hd:(x == ("__debug__" : Str))=false:=by decide)
  (hcd:(x == ("__classdict__" : Str))=false:=by decide) (hs:starEach (.Name x p::es) X.env=(false,eval (.Name x p) X.env)::starEach es X.env:=by rfl):AI X T m i 0 (.Name x p::es) (Ys i wr):=by
 obtain ⟨ta,pa,ga⟩:=hr
 refine ⟨_,V6 (Zh hN hv hd hcd) pa hs,λz R σ H W ρ Q Q' s hw k=>?_⟩
 obtain ⟨h1,hw⟩:=hw
 obtain ⟨d,hl⟩:=Option.isSome_iff_exists.mp h1
 obtain ⟨fp,s0⟩:=id s
 obtain ⟨v,hv',_⟩:=s0.at_ i d hl
 refine ⟨v,hv',ga z R σ H W ρ _ _ s hw λvs H1 W1 ds ρ1 F p q=>?_⟩
 exact k v [] vs H1 W1 [] ds ρ1 ⟨p.sr,p.fr,p.calm⟩ hv' .nil (p.rep.pure q.1).2 rfl q.2
def Qlr (w:WE) (wi:WI):WI:=λρ Q=>w ρ λd ρ1=>d.pure=true/\wi ρ1 λpre post ρ2=>Q (d::pre) post ρ2
def Jh (i:Nat) (g:GI) (wi:WI):WE:=λρ Q=>wi ρ λpre post ρ1=>oget (look ρ1 i) λd0=>Vw d0=true/\g (pre++d0::post) λd d'=>Q d (ρ1.set i (some d'))
theorem Qho {q:Nat} {g:GI} {wi:WI} (F:FnOk X.prog X.w X.K X.mg X.base CX0 k f fd ps (spI X.K q g)) (hr:Room k X.A) (hm:X.mg x=some (.ref f)) (hk:PySem.W.keepIn X.K (.ref f)=true) (hb:Yt X.K fd ps []) (ha:AI X T m i q (e::es) wi)
  (ht:T.own i=true:=by rfl) (hg:Gl X x:=by rfl)
  (hdb:(x == ("__debug__" : Str))=false:=by decide) (he:starEach (e::es) X.env=(false,eval e X.env)::starEach es X.env:=by rfl) (hpl:(backTo pos (starEach es X.env)).any (·.1)=false:=by rfl) :
  EV X T true true (.Call (.Name x p) (e::es) [] pos) (Jh i g wi):=by
 obtain ⟨ta,pa,ga⟩:=ha
 refine ⟨_,Qfh F hr hg hm hk hb .nil Qg9 pa hdb he hpl,λz R σ H W ρ Q Q' s hw k=>?_⟩
 refine ga z R σ H W ρ _ _ s hw λv xs ys H1 W1 pre post ρ1 p hv rp rq hl q=>?_
 obtain ⟨d0,hd,hf,q⟩:=Qs q
 obtain ⟨fp,s1⟩:=id p.sr
 obtain ⟨v',hv',r0⟩:=s1.at_ i d0 hd
 have:v'=v:=by rw [hv] at hv';cases hv';rfl
 subst this
 obtain ⟨a,rfl,hF⟩:=r0.flat1 hf
 rw [hF] at r0
 have sw:=(s1.own i d0 hd ht).2
 have hWa:W1 a:=sw a (by rw [hF];exact List.mem_singleton.mpr rfl)
 refine ⟨pre++d0::post,a,_,?_,?_,q,λv H' d d' F' rd' rd nd new kp hk=>?_⟩
 ·rw [List.append_nil]
  have:=rp.append (.cons r0 rq)
  simpa using this
 ·rw [List.append_nil]
  have hx:=rp.length
  rw [List.getElem?_append_right (by omega),show _-xs.length=0 by omega]
  rfl
 ·obtain ⟨oa,ea,ia⟩:=s1.wd a hWa
  have hnew:∃ob,H' a=some ob/\imm ob=false:=rd'.dom a (List.mem_singleton.mpr rfl)
  have nd1:([a]:List Addr).Nodup:=by simp
  have sN:=s1.write (H':=H') (d':=d') (F':=[a]) hd ht hv' (by rw [hF];exact List.mem_singleton.mpr rfl) (λb u e n=>kp b u e n) hnew rd' nd1 (λb hb=>.inl (by rw [hF];exact hb))
  have fN:=p.fr.write (H':=H') (F':=[a]) hWa ⟨oa,ea,ia⟩ (λb u e n=>kp b u e n) hnew (λb hb=>.inl (by rw [List.mem_singleton.mp hb];exact hWa))
  refine k v H' _ d _ F' ⟨sN,fN,(λh=>nomatch h),rd,λ_=>⟨nd,λb hb=>⟨p.fr.dom b (new b hb),λhw=>?_⟩⟩⟩ hk
  rcases hw with hw | hw
  ·exact p.sr.nw (new b hb) hw
  ·rw [List.mem_singleton.mp hw] at hb
   rw [new a hb] at ea;cases ea
abbrev WL:=Env->(List D->Env->Prop)->Prop
def JD (K:PySem.W.Frag) (J:It) (H:Hp) (W:Addr->Prop) (ds:List D):Prop :=
 ∀(i:Nat) (H1:Hp) (W1:Addr->Prop),FrW H W H1 W1->(ds.length<=i->J.stop i H1)/\∀d,ds[i]? = some d->J.go i H1/\∀v H2,J.yld i H1 v H2->Same H1 H2/\∃F,Rep K H2 d v F/\∀a∈F,¬W1 a
def wz (pr:Bool) (W:Addr->Prop):Addr->Prop:=λa=>pr=true/\W a
def IV (X:Cx) (T:Tg) (m pr:Bool) (tg iter:Expr) (w:WL):Prop :=
 ∃wi,PI X tg iter wi/\∀(z:Nat->V) (R:Addr->Prop) (σ:St) (H:Hp) (W:Addr->Prop) (ρ:Env) (Q:List D->Env->Prop) (RR:It->Hp->Prop),SR X.K T z R H W σ ρ->w ρ Q ->
  (∀J H' W' ds ρ',PostT X.K T z R m H W σ ρ H' W' ρ'->JD X.K J H' (wz pr W') ds->Q ds ρ'->RR J H')->wi σ H RR
end
section
variable {k:Nat}
theorem Qfc {l:Expr} {tl:TE} (hl:PE X l tl):PI X tg l (λσ H R=>tl σ H λx H1=>∃a,x=.ref a/\(((∃xs,SqL X.K H1 a xs)/\R (Itl X.K a) H1)\/((∃xs,SqT X.K H1 a xs)/\R (Itt X.K a) H1))):=by
 intro pins s σ H R I h
 refine thn (hl pins s σ H _ I h) λv s1 ⟨x,H1,I1,r1,q1⟩=>?_
 obtain ⟨a,e,q⟩:=q1
 subst e
 cases r1
 rcases q with ⟨⟨xs,hq⟩,q⟩ | ⟨⟨xs,hq⟩,q⟩
 ·obtain ⟨its,rv,p,hz⟩:=I1.list hq
  refine wpAny_pyIter_list p.isList ?_
  refine ⟨s1.heap.objs.size,[s1.heap.objs.size],_,_,H1,rfl,I1.kept (t':=s1.toks) λb o e=>Heap.get?_push_of_some _ e,Qdz a _,⟨_,Heap.get?_push_size _ rfl,rfl,rfl⟩,λb hb=>?_,q⟩
  have e:b=s1.heap.objs.size:=by simpa using hb
  subst e
  exact I1.fpOk (Nat.le_refl _) (I1.hok.fresh (Nat.le_refl _))
 ·obtain ⟨its,rv,p,hz⟩:=I1.tuple hq
  refine wpAny_pyIter_tuple (show s1.heap.IsTuple a its.toArray from p) ?_
  refine ⟨s1.heap.objs.size,[s1.heap.objs.size],_,_,H1,rfl,I1.kept (t':=s1.toks) λb o e=>Heap.get?_push_of_some _ e,Qc6 a _,⟨_,Heap.get?_push_size _ rfl,rfl,rfl⟩,λb hb=>?_,q⟩
  have e:b=s1.heap.objs.size:=by simpa using hb
  subst e
  exact I1.fpOk (Nat.le_refl _) (I1.hok.fresh (Nat.le_refl _))
def Qab (w:WE):WL:=λρ Q=>w ρ λd ρ'=>match d with
 | .tup ds=>Qi ds=true/\Q ds ρ'
 | .lst ds=>Q ds ρ'
 | .kc (.tup ks)=>Q (ks.map kcD) ρ'
 | _=>False
theorem Qn6 {W:Addr->Prop} {a:Addr} (hs:∀H,SqT K H a xs) (ar:AreKC K ks xs):JD K (Itt K a) H W (ks.map kcD):=by
 intro i H2 W2 f
 have r:Reps K H2 (ks.map kcD) xs []:=ar.reps
 refine ⟨λhi=>⟨xs,hs H2,by rw [r.length];exact hi⟩,λd hd=>?_⟩
 obtain ⟨x,B,hx,rx,sx⟩:=r.get hd
 refine ⟨⟨xs,x,hs H2,hx⟩,λv H3 y=>?_⟩
 obtain ⟨rfl,y⟩:=y
 have:=y xs (hs _)
 rw [hx] at this
 cases this
 exact ⟨Same.refl _,B,rx,λa ha=>nomatch sx.subset ha⟩
theorem Qjo (h:EV X T m o e w):IV X T m o tg e (Qab w):=by
 obtain ⟨te,pe,ge⟩:=h
 refine ⟨_,Qfc pe,λz R σ H W ρ Q RR s hw k=>?_⟩
 refine ge z R σ H W ρ _ _ s hw λv H1 W1 d ρ1 F p q=>?_
 cases d with
 | tup ds =>
  obtain ⟨hp,q⟩:=q
  obtain ⟨hF,rp⟩:=p.rep.pure (by simpa [D.pure] using hp)
  cases rp with
  | @tup a xs _ _ e1 r =>
   refine ⟨a,rfl,.inr ⟨⟨xs,.of e1⟩,k _ H1 W1 ds ρ1 ⟨p.sr,p.fr,p.calm⟩ (λi H2 W2 f=>?_) q⟩⟩
   have e2:H2 a=some (.tup xs):=f.imm _ _ e1 rfl
   refine ⟨λhi=>⟨xs,.of e2,by rw [r.length];exact hi⟩,λd hd=>?_⟩
   obtain ⟨x,B,hx,rx,sx⟩:=r.get hd
   refine ⟨⟨xs,x,.of e2,hx⟩,λv H3 y=>?_⟩
   obtain ⟨rfl,y⟩:=y
   have:=y xs (.of e2)
   rw [hx] at this
   cases this
   exact ⟨Same.refl _,B,rx.keep f (λa ha=>(nomatch sx.subset ha)),(λa ha=>(nomatch sx.subset ha))⟩
 | lst ds =>
  obtain ⟨p1,p2,p3,p4,p5⟩:=p
  cases p4 with
  | @lst a xs _ F e1 r =>
   refine ⟨a,rfl,.inl ⟨⟨xs,.of e1⟩,k _ H1 W1 ds ρ1 ⟨p1,p2,p3⟩ (λi H2 W2 f=>?_) q⟩⟩
   have nW:∀b∈a::F,¬wz o W1 b:=λb hb hw=>by
    obtain ⟨h1,h2⟩:=hw
    exact ((p5 h1).2 b hb).2 h2
   have e2:H2 a=some (.lst xs):=f.keep _ _ e1 (nW a List.mem_cons_self)
   refine ⟨λhi=>⟨xs,.of e2,by rw [r.length];exact hi⟩,λd hd=>?_⟩
   obtain ⟨x,B,hx,rx,sx⟩:=r.get hd
   refine ⟨⟨xs,x,.of e2,hx⟩,λv H3 y=>?_⟩
   obtain ⟨rfl,y⟩:=y
   have:=y xs (.of e2)
   rw [hx] at this
   cases this
   refine ⟨Same.refl _,B,rx.keep f λb hb=>nW b (List.mem_cons_of_mem _ (sx.subset hb)),λb hb hw=>?_⟩
   have hb':b∈a::F:=List.mem_cons_of_mem _ (sx.subset hb)
   rcases f.new b hw with h | h
   ·exact nW b hb' h
   ·obtain ⟨ob,e3,_⟩:=rx.dom b hb
    rw [h] at e3;cases e3
 | kc c =>
  cases c with
  | tup ks =>
   obtain ⟨-,rp⟩:=p.rep.pure (by rw [D.pure])
   cases rp with
   | kc h =>
    obtain ⟨a,xs,rfl,hs,ar⟩:=h.sqT
    exact ⟨a,rfl,.inr ⟨⟨xs,hs H1⟩,k _ H1 W1 (ks.map kcD) ρ1 ⟨p.sr,p.fr,p.calm⟩ (Qn6 hs ar) q⟩⟩
  | _=>exact (show False from q).elim
 | _=>exact q.elim
def Qo4 (w:WE):WL:=λρ Q=>w ρ λd ρ'=>match d with
 | .kls ds=>Q ds ρ'
 | _=>False
def rngD (lo:Int) (n:Nat):List D:=(List.range n).map λ(i:Nat)=>.int (lo+(i:Int))
theorem Qhi {W:Addr->Prop} {lo:Int}:JD K (Itr lo n) H W (rngD lo n):=by
 intro i H1 W1 f
 have hl:(rngD lo n).length=n:=by simp [rngD]
 refine ⟨λh=>by rw [hl] at h;exact h,λd hd=>?_⟩
 have hi:i<n:=by have:=(List.getElem?_eq_some_iff.mp hd).1;rwa [hl] at this
 have hd':d=.int (lo+(i:Int)):=by
  simp only [rngD,List.getElem?_map,List.getElem?_range hi,Option.map_some,Option.some.injEq] at hd
  exact hd.symm
 refine ⟨hi,λv H2 y=>?_⟩
 obtain ⟨rfl,rfl⟩:=y
 exact ⟨Same.refl _,[],by rw [hd'];exact .int _,λa m=>nomatch m⟩
def Qgt (wr:WA):WL:=λρ Q=>wr ρ λds ρ'=>match ds with
 | [.int j]=>-(2 ^ 62)<=j/\j<2 ^ 62/\Q (rngD 0 j.toNat) ρ'
 | _=>False
theorem Qfx (hm:X.mg "range" = none) (ha:AV X T m o [a] wr) (hg:Gl X "range":=by rfl) (hs:starEach [a] X.env=[(false,eval a X.env)]:=by rfl):IV X T m true tg (.Call (.Name "range" p) [a] [] pos) (Qgt wr):=by
 obtain ⟨ta,pa,ga⟩:=ha
 refine ⟨_,Qfd hg hm pa hs,λz R σ H W ρ Q RR s hw k=>?_⟩
 refine ga z R σ H W ρ _ _ s hw λvs H1 W1 ds ρ1 F p q=>?_
 obtain ⟨j,rfl⟩:∃j,ds=[D.int j]:=by
  clear p
  cases ds with
  | nil=>exact (show False from q).elim
  | cons d0 r0 =>
   cases r0 with
   | nil =>
    cases d0 with
    | int j=>exact ⟨j,rfl⟩
    | _=>exact (show False from q).elim
   | cons _ _=>cases d0 <;> exact (show False from q).elim
 obtain ⟨v,rfl,rd⟩:=p.rep.at1
 cases rd
 exact ⟨j,rfl,q.1,q.2.1,k _ H1 W1 _ ρ1 ⟨p.sr,p.fr,p.calm⟩ Qhi q.2.2⟩
def Qo5 (wr:WA):WL:=λρ Q=>wr ρ λds ρ'=>match ds with
 | [.int i,.int j]=>(-(2 ^ 62)<=i/\i<2 ^ 62 /\ -(2 ^ 62)<=j/\j<2 ^ 62)/\Q (rngD i (j-i).toNat) ρ'
 | _=>False
def Qf9:Nat->List D->List D
 | _,[]=>[]
 | n,d::r=>.tup [.int (n:Int),d]::Qf9 (n+1) r
def Qo9 (wr:WA):WL:=λρ Q=>wr ρ λds ρ'=>match ds with
 | [.tup es]=>Qi es=true/\Q (Qf9 0 es) ρ'
 | _=>False
end
structure EndsP where
 nx:Env->Prop
 rt:D->Env->Prop
 bk:Env->Prop:=λ_=>False
 ct:Env->Prop:=λ_=>False
 xc:D->Env->Prop:=λ_ _=>False
abbrev WS:=EndsP->Env->Prop
structure Lk (K:PySem.W.Frag) (T:Tg) (z:Nat->V) (H:Hp) (W:Addr->Prop) (P:EndsP) (E:Ends):Prop where
 nx:∀R σ' H' W' ρ',SR K T z R H' W' σ' ρ'->FrW H W H' W'->P.nx ρ'->E.nx σ' H'
 bk:∀R σ' H' W' ρ',SR K T z R H' W' σ' ρ'->FrW H W H' W'->P.bk ρ'->E.bk σ' H'
 ct:∀R σ' H' W' ρ',SR K T z R H' W' σ' ρ'->FrW H W H' W'->P.ct ρ'->E.ct σ' H'
 rt:∀R v σ' H' W' ρ' d F,SR K T z R H' W' σ' ρ'->FrW H W H' W'->Rep K H' d v F->F.Nodup->(∀a∈F,¬W' a/\(W a\/H a=none))->P.rt d ρ'->E.rt v H'
 xc:∀R σ' H' W' ρ' d,SR K T z R H' W' σ' ρ'->FrW H W H' W'->P.xc d ρ'->T.xe d σ' H'
theorem Lk.step {W:Addr->Prop} {P:EndsP} {E:Ends} (l:Lk K T z H W P E) (f:FrW H W H1 W1):Lk K T z H1 W1 P E where
 nx:=λR σ' H' W' ρ' s g q=>l.nx R σ' H' W' ρ' s (f.trans g) q
 bk:=λR σ' H' W' ρ' s g q=>l.bk R σ' H' W' ρ' s (f.trans g) q
 ct:=λR σ' H' W' ρ' s g q=>l.ct R σ' H' W' ρ' s (f.trans g) q
 rt:=λR v σ' H' W' ρ' d F s g r nd k q=>l.rt R v σ' H' W' ρ' d F s (f.trans g) r nd (λa ha=>⟨(k a ha).1,by
  rcases (k a ha).2 with h | h
  ·exact f.new a h
  ·exact .inr (f.dom a h)⟩) q
 xc:=λR σ' H' W' ρ' d s g q=>l.xc R σ' H' W' ρ' d s (f.trans g) q
def SV (X:Cx) (T:Tg) (st:Stmt) (w:WS):Prop :=
 ∃ts,PS X st ts/\∀(z:Nat->V) (R:Addr->Prop) (σ:St) (H:Hp) (W:Addr->Prop) (ρ:Env) (P:EndsP) (E:Ends),SR X.K T z R H W σ ρ->w P ρ->Lk X.K T z H W P E->ts E σ H
def SVs (X:Cx) (T:Tg) (st:List Stmt) (w:WS):Prop :=
 ∃ts,PSs X st ts/\∀(z:Nat->V) (R:Addr->Prop) (σ:St) (H:Hp) (W:Addr->Prop) (ρ:Env) (P:EndsP) (E:Ends),SR X.K T z R H W σ ρ->w P ρ->Lk X.K T z H W P E->ts E σ H
section
variable {rest:List Stmt} {ws wu:WS}
def Qu:WS:=λP ρ=>P.nx ρ
def wSeq (w u:WS):WS:=λP ρ=>w { P with nx:=u P } ρ
theorem Ql:SVs X T [] Qu:=⟨_,Qkh,λz R σ H W ρ P E s hw l=>l.nx R σ H W ρ s (FrW.refl H W) hw⟩
theorem Qf (h:SV X T st ws):SVs X T [st] ws:=by
 obtain ⟨t,pt,g⟩:=h
 exact ⟨_,Gi pt,g⟩
theorem Qe (h:SV X T st ws) (hr:SVs X T rest wu):SVs X T (st::rest) (wSeq ws wu):=by
 obtain ⟨t,pt,g⟩:=h
 obtain ⟨u,pu,gu⟩:=hr
 refine ⟨_,Xz pt pu,λz R σ H W ρ P E s hw l=>g z R σ H W ρ _ _ s hw ⟨λR' σ' H' W' ρ' s' f q=>gu z R' σ' H' W' ρ' P E s' q (l.step f),l.bk,l.ct,l.rt,l.xc⟩⟩
def Zl (w:WE):WS:=λP ρ=>w ρ λ_ ρ'=>P.nx ρ'
theorem Zc (he:EV X T m o e w) (hs:swapsWith e none pos.line X.env=pure false:=by rfl):SV X T (.Expr e pos) (Zl w):=by
 obtain ⟨te,pe,ge⟩:=he
 exact ⟨_,Qfa pe hs,λz R σ H W ρ P E s hw l=>ge z R σ H W ρ _ _ s hw λv H1 W1 d ρ1 F p q=>l.nx R σ H1 W1 ρ1 p.sr p.fr q⟩
def wRet (w:WE):WS:=λP ρ=>w ρ λd ρ'=>P.rt d ρ'
theorem Qr (he:EV X T m true e w):SV X T (.Return (some e) pos) (wRet w):=by
 obtain ⟨te,pe,ge⟩:=he
 exact ⟨_,Qm3 pe,λz R σ H W ρ P E s hw l=>ge z R σ H W ρ _ _ s hw λv H1 W1 d ρ1 F p q=>l.rt R v σ H1 W1 ρ1 d F p.sr p.fr p.rep (p.own rfl).1 (λa ha=>⟨((p.own rfl).2 a ha).2,.inr ((p.own rfl).2 a ha).1⟩) q⟩
def Qlt (i:Nat):WS:=λP ρ=>oget (look ρ i) λd=>P.rt d (ρ.set i none)
theorem SR0.bindE {W:Addr->Prop} {F:List Addr} (s:SR0 K T z R H W σ ρ fp) (hio:i∉T.io) (r:Rep K H d v F) (nd:F.Nodup) (nw:∀a∈F,¬W a/\¬R a) :
  SR K T z (λa=>R a\/(T.own i=false/\a∈F)) H (λa=>W a\/(T.own i=true/\a∈F)) (σ.set i (some v)) (ρ.set i (some d)):=by
 refine ⟨λj=>if j=i then F else fp j,?_,?_,?_,?_,?_,?_,?_,?_,?_⟩
 ·rw [List.length_set,List.length_set];exact s.len
 ·intro a ha
  rcases ha with ha | ⟨_,ha⟩
  ·exact s.wd a ha
  ·exact r.dom a ha
 ·intro j e hj
  rw [Ux] at hj
  split at hj
  ·rename_i h
   obtain ⟨rfl,hlt⟩:=h
   cases hj
   exact ⟨v,by rw [List.getElem?_set_self (by rw [← s.len];exact hlt)],by rw [if_pos rfl];exact r⟩
  ·rename_i h
   obtain ⟨u,h1,h2⟩:=s.at_ j e hj
   have hji:j≠i:=λz=>h ⟨z,by rw [← z];exact Qby hj⟩
   exact ⟨u,by rw [List.getElem?_set_ne (Ne.symm hji)];exact h1,by rw [if_neg hji];exact h2⟩
 ·intro j e hj hto
  by_cases hji:j=i
  ·subst hji;simp only [if_pos];exact ⟨nd,λa h=>.inr ⟨hto,h⟩⟩
  ·rw [Qp hji] at hj
   simp only [if_neg hji]
   exact ⟨(s.own j e hj hto).1,λa h=>.inl ((s.own j e hj hto).2 a h)⟩
 ·intro j e hj hto
  by_cases hji:j=i
  ·subst hji;simp only [if_pos];exact λa h=>.inr ⟨hto,h⟩
  ·rw [Qp hji] at hj
   simp only [if_neg hji]
   exact λa h=>.inl (s.ro j e hj hto a h)
 ·intro a ha hr
  rcases ha with ha | ⟨t,ha⟩
  ·rcases hr with hr | ⟨_,hr⟩
   ·exact s.wr a ha hr
   ·exact (nw a hr).1 ha
  ·rcases hr with hr | ⟨t',hr⟩
   ·exact (nw a ha).2 hr
   ·rw [t] at t';cases t'
 ·intro a hr
  rcases hr with hr | ⟨_,hr⟩
  ·exact s.rd a hr
  ·exact r.dom a hr
 ·intro j k e e' hj hk tj tk hne a ha ha'
  by_cases hji:j=i
  ·subst hji
   have hkj:k≠j:=λz=>hne z.symm
   rw [Qp hkj] at hk
   simp only [if_pos,if_neg hkj] at ha ha'
   exact (nw a ha).1 ((s.own k e' hk tk).2 a ha')
  ·rw [Qp hji] at hj
   simp only [if_neg hji] at ha
   by_cases hki:k=i
   ·subst hki
    simp only [if_pos] at ha'
    exact (nw a ha').1 ((s.own j e hj tj).2 a ha)
   ·rw [Qp hki] at hk
    simp only [if_neg hki] at ha'
    exact s.dis j k e e' hj hk tj tk hne a ha ha'
 ·intro j hj
  have hji:j≠i:=λz=>hio (z ▸ hj)
  rw [List.getElem?_set_ne (Ne.symm hji)]
  exact s.fix j hj
theorem SR0.bind {W:Addr->Prop} {F:List Addr} (s:SR0 K T z R H W σ ρ fp) (hio:i∉T.io) (r:Rep K H d v F) (nd:F.Nodup) (nw:∀a∈F,¬W a/\¬R a) :
  ∃R',SR K T z R' H (λa=>W a\/(T.own i=true/\a∈F)) (σ.set i (some v)) (ρ.set i (some d)):=⟨_,s.bindE hio r nd nw⟩
def wSet (i:Nat) (w:WE):WS:=λP ρ=>w ρ λd ρ'=>P.nx (ρ'.set i (some d))
theorem Qc0 {W:Addr->Prop} {G:Addr->Prop} (f:FrW H W H' W') (n:∀a,G a->H a=none):FrW H W H' (λa=>W' a\/G a) :=
 ⟨f.keep,f.dom,f.imm,λb h=>h.elim (f.new b) λh=>.inr (n b h)⟩
theorem Jm (he:EV X T m true e w) (hN:X.N.Nodup) (hi:X.N[i]? = some x:=by rfl) (hio:i∉T.io:=by decide) (hx:Loc X.env.scope x:=by first | exact Or.inl rfl | exact Or.inr rfl) (hs:swapsWith e (some (.Name x pos')) pos.line X.env=pure false:=by rfl)
  (hf:X.fn x=true\/X.env.scope.names.lookup x=some .local:=by first | exact .inl rfl | exact .inr rfl | assumption):SV X T (.Assign [.Name x pos'] e pos) (wSet i w):=by
 obtain ⟨te,pe,ge⟩:=he
 refine ⟨_,Qm2 hN hi hx pe hs hf,λz R σ H W ρ P E s hw l=>ge z R σ H W ρ _ _ s hw λv H1 W1 d ρ1 F p q=>?_⟩
 obtain ⟨fp,s1⟩:=p.sr
 obtain ⟨nd,nw⟩:=p.own rfl
 obtain ⟨R',s2⟩:=s1.bind (i:=i) hio p.rep nd (λa ha=>⟨(nw a ha).2,s.nr (nw a ha).1⟩)
 exact l.nx R' _ H1 _ _ s2 (Qc0 p.fr λa h=>(nw a h.2).1) q
abbrev WG:=D->Env->(Env->Prop)->Prop
def GV (X:Cx) (T:Tg) (tg:Expr) (wg:WG):Prop :=
 ∃t,PG X tg t/\∀(z:Nat->V) (R:Addr->Prop) (σ:St) (H:Hp) (W:Addr->Prop) (ρ:Env) (d:D) (v:V) (Q:Env->Prop) (Q':St->Hp->Prop),SR X.K T z R H W σ ρ->Rep X.K H d v []->d.pure=true->wg d ρ Q ->
  (∀R' W' σ' ρ',SR X.K T z R' H W' σ' ρ'->FrW H W H W'->Q ρ'->Q' σ' H)->t v σ H Q'
def gN (i:Nat):WG:=λd ρ Q=>Q (ρ.set i (some d))
theorem X6 (hN:X.N.Nodup) (hi:X.N[i]? = some x:=by rfl) (hio:i∉T.io:=by decide) (hx:Loc X.env.scope x:=by first | exact Or.inl rfl | exact Or.inr rfl) (hf:X.fn x=true\/X.env.scope.names.lookup x=some .local:=by first | exact .inl rfl | exact .inr rfl | assumption):GV X T (.Name x pos) (gN i):=by
 refine ⟨_,Qfe hN hi hx hf,λz R σ H W ρ d v Q Q' s r hp hw k=>?_⟩
 obtain ⟨fp,s1⟩:=s
 obtain ⟨R',s2⟩:=s1.bind (i:=i) hio r List.nodup_nil (λa ha=>nomatch ha)
 exact k R' _ _ _ s2 (Qc0 (FrW.refl H W) λa h=>nomatch h.2) hw
def Qp8:List D->Env->(Env->Prop)->Prop
 | [],ρ,Q=>Q ρ
 | _,_,_=>False
def Qof (wg:WG) (wgs:List D->Env->(Env->Prop)->Prop):List D->Env->(Env->Prop)->Prop
 | d::r,ρ,Q=>wg d ρ λρ'=>wgs r ρ' Q
 | _,_,_=>False
def Qp7 (n:Nat) (wgs:List D->Env->(Env->Prop)->Prop):WG:=λd ρ Q=>match d with
 | .tup ds=>ds.length=n/\wgs ds ρ Q
 | _=>False
def wAsg (w:WE) (wg:WG):WS:=λP ρ=>w ρ λd ρ'=>d.pure=true/\wg d ρ' P.nx
def dSet (s c d:D) (k:D->Prop):Prop:=match s with
 | .lst xs=>onI c λj=>oget (ixN xs.length j) λn=>k (.lst (xs.set n d))
 | .dik kvs=>onK c λkey=>kvs.length<sizeLine/\k (.dik (putD kvs key d))
 | .dit kvs=>onT c λl=>kvs.length<sizeLine/\oget (Ye l) λks=>k (.dit (putD kvs ks d))
 | _=>False
theorem Qgx (hu:X.A.units+1<cLine):PSet X (λo i v H Q=>∃a H',o=.ref a/\DPut H a i v H'/\Q H'):=by
 intro pins s σ H o i v ov iv u Q I ro ri rv h
 obtain ⟨a,H',rfl,g,q⟩:=h
 cases ro
 exact Qgh hu I g ri rv λs' I'=>⟨H',I',q⟩
theorem PSet.or {t u:TSet} (h:PSet X t) (h':PSet X u):PSet X (λo i v H Q=>t o i v H Q\/u o i v H Q):=by
 intro pins s σ H o i v ov iv u Q I ro ri rv q
 rcases q with q | q
 ·exact h pins s σ H o i v ov iv u Q I ro ri rv q
 ·exact h' pins s σ H o i v ov iv u Q I ro ri rv q
def Xb (i:Nat) (wv wi:WE):WS:=λP ρ=>wv ρ λd ρ1=>d.pure=true/\(look ρ1 i).isSome=true/\wi ρ1 λc ρ2=>oget (look ρ2 i) λs=>dSet s c d λs'=>P.nx (ρ2.set i (some s'))
theorem Qch {v ix:Expr} {wv:WE} {ps':Pos} (hu:X.A.units+1<cLine) (hv:EV X T m1 o1 v wv) (hi:EV X T m2 o2 ix wi) (ht:T.own i=true:=by rfl) (hN:X.N[i]? = some x:=by rfl)
  (hvis:Vis X.env.scope x:=by first | exact Or.inl rfl | exact Or.inr (Or.inl rfl) | exact Or.inr (Or.inr rfl)) (hd:(x == ("__debug__" : Str))=false:=by decide) (hcd:(x == ("__classdict__" : Str))=false:=by decide)
  (ha:∀v,assign (.Subscript (.Name x px) ix ps') X.env v=(do
   let ov ← holding [v] (eval (.Name x px) X.env)
   let iv ← holding [v,ov] (eval ix X.env)
   standAt ps'
   holding [v,ov,iv] (setItem ov iv v)
   release [v,ov,iv] []):=by intro _;rfl) (hs:swapsWithSole [.Subscript (.Name x px) ix ps'] v pos.line X.env=pure false:=by rfl) (hw:swappedStores [.Subscript (.Name x px) ix ps'] v X.env=pure none:=by rfl)
  (h1:(assignEach [.Subscript (.Name x px) ix ps'] X.env).map (·.2)=[assign (.Subscript (.Name x px) ix ps') X.env]:=by rfl):SV X T (.Assign [.Subscript (.Name x px) ix ps'] v pos) (Xb i wv wi):=by
 obtain ⟨tv,pv,gv⟩:=hv
 obtain ⟨ti,pi,gi⟩:=hi
 refine ⟨_,Qm5 pv (Qm7 (Zh hN hvis hd hcd) pi (PSet.or Qgw (Qgx hu)) ha) hs hw h1,λz R σ H W ρ P E s hw l=>?_⟩
 refine gv z R σ H W ρ _ _ s hw λv1 H1 W1 d ρ1 F1 p ⟨hp,hso,q⟩=>?_
 obtain ⟨-,rv⟩:=p.rep.pure hp
 obtain ⟨d0,hl0⟩:=Option.isSome_iff_exists.mp hso
 obtain ⟨fp0,s0⟩:=id p.sr
 obtain ⟨u,hu',_⟩:=s0.at_ i d0 hl0
 refine ⟨u,hu',gi z R σ H1 W1 ρ1 _ _ p.sr q λv2 H2 W2 c ρ2 F2 p2 q2=>?_⟩
 obtain ⟨d1,hl,q2⟩:=Qs q2
 obtain ⟨fp,s2⟩:=id p2.sr
 obtain ⟨u',hu2,ru⟩:=s2.at_ i d1 hl
 have:u'=u:=by rw [hu'] at hu2;cases hu2;rfl
 subst this
 have rv2:Rep X.K H2 d v1 []:=rv.keep p2.fr λa m=>nomatch m
 obtain ⟨nd,sw⟩:=s2.own i d1 hl ht
 have fin:∀(lad:Addr) (ob:HO) (d':D) (F':List Addr),lad∈fp i->imm ob=false->Rep X.K (upd H2 lad ob) d' u' F'->F'.Nodup->(∀a∈F',a∈fp i)->P.nx (ρ2.set i (some d'))->E.nx σ (upd H2 lad ob):=λlad ob d' F' hm him r' nd' sub hq=>by
  have hW:=sw lad hm
  exact l.nx R σ _ _ _ (s2.write hl ht hu2 hm Y9 ⟨ob,Qj,him⟩ r' nd' λa ha=>.inl (sub a ha)) ((p.fr.trans p2.fr).write hW (s2.wd lad hW) Y9 ⟨ob,Qj,him⟩ λa ha=>.inl (sw a (sub a ha))) hq
 have nilnot:∀a:Addr,a∉([]:List Addr):=λa h=>nomatch h
 generalize hF:fp i=F at *
 cases d1 with
 | lst ds =>
  obtain ⟨j,rfl,q2⟩:=Gk q2
  obtain ⟨a,xs,G,rfl,rfl,e,r⟩:=ru.iLst
  obtain ⟨n,hn,hq⟩:=Qs q2
  have rc:=p2.rep.iInt
  subst rc
  have hlt:=(X4 hn).2.1
  obtain ⟨dn,hdn⟩:∃dn,ds[n]? = some dn:=⟨ds[n],List.getElem?_eq_getElem hlt⟩
  obtain ⟨y,A,B,C,hy,hG,rB,rA,rC⟩:=r.split hdn
  obtain ⟨na,ndG⟩:=List.nodup_cons.mp nd
  have sub:=sub3 hG
  have nAC:a∉A++C:=λh=>na (sub.subset h)
  have hxl:n<xs.length:=by rw [r.length];exact hlt
  refine .inl ⟨a,xs,j,n,rfl,rfl,e,by rw [r.length];exact hn,?_⟩
  refine fin a _ _ (a::(A++C)) List.mem_cons_self rfl (.lst Qj ?_) (List.nodup_cons.mpr ⟨nAC,ndG.sublist sub⟩) (λb hb=>?_) hq
  ·rw [Vn hlt,Vn hxl]
   have:=(rA.upd (ob':=.lst (xs.take n++v1::xs.drop (n+1))) e rfl (λh=>nAC (List.mem_append.mpr (.inl h)))).append (.cons (rv2.upd e rfl (nilnot a)) (rC.upd e rfl λh=>nAC (List.mem_append.mpr (.inr h))))
   simpa using this
  ·rcases List.mem_cons.mp hb with rfl | hb
   ·exact List.mem_cons_self
   ·exact List.mem_cons_of_mem _ (sub.subset hb)
 | dik ds =>
  obtain ⟨key,⟨hz,hq⟩,hy⟩:=Qbv (show onK c (λkey=>ds.length<sizeLine/\P.nx (ρ2.set i (some (.dik (putD ds key d))))) from q2)
  obtain ⟨a,kvs,G,rfl,rfl,e,r⟩:=ru.iDik
  obtain rfl:=hy p2.rep
  obtain ⟨na,ndG⟩:=List.nodup_cons.mp nd
  obtain ⟨G',rp,sub⟩:=(r.upd (ob':=.dK (putK kvs key v1)) e rfl na).put (k:=key) (rv2.upd e rfl (nilnot a))
  refine .inr ⟨a,_,rfl,DPut.k (k:=key) e (by rw [r.length];exact hz),?_⟩
  refine fin a _ _ (a::G') List.mem_cons_self rfl (.dik Qj rp) (List.nodup_cons.mpr ⟨λh=>na (sub.subset h),ndG.sublist sub⟩) (λb hb=>?_) hq
  rcases List.mem_cons.mp hb with rfl | hb
  ·exact List.mem_cons_self
  ·exact List.mem_cons_of_mem _ (sub.subset hb)
 | dit ds =>
  obtain ⟨l',rfl,hz,q2⟩:=Qfi q2
  obtain ⟨a,kvs,G,rfl,rfl,e,r⟩:=ru.iDit
  obtain ⟨na,ndG⟩:=List.nodup_cons.mp nd
  obtain ⟨ks,hk,hq⟩:=Qs q2
  obtain ⟨b,ys,rfl,e2,r2⟩:=p2.rep.iTup
  have hx:=r2.keys hk
  subst hx
  obtain ⟨G',rp,sub⟩:=(r.upd (ob':=.dT (putK kvs ks v1)) e rfl na).put (k:=ks) (rv2.upd e rfl (nilnot a))
  refine .inr ⟨a,_,rfl,DPut.t (k:=ks) e e2 (by rw [r.length];exact hz),?_⟩
  refine fin a _ _ (a::G') List.mem_cons_self rfl (.dit Qj rp) (List.nodup_cons.mpr ⟨λh=>na (sub.subset h),ndG.sublist sub⟩) (λb hb=>?_) hq
  rcases List.mem_cons.mp hb with rfl | hb
  ·exact List.mem_cons_self
  ·exact List.mem_cons_of_mem _ (sub.subset hb)
 | _=>exact (show False from q2).elim
def wIf (wt:WT) (w u:WS):WS:=λP ρ=>wt ρ λb ρ'=>if b=true then w P ρ' else u P ρ'
theorem Q7 {sa sb:List Stmt} (hc:TV X T m c wt) (ha:SVs X T sa ws) (hb:SVs X T sb wu):SV X T (.If c sa sb pos) (wIf wt ws wu):=by
 obtain ⟨tc,pc,gc⟩:=hc
 obtain ⟨ta,pa,ga⟩:=ha
 obtain ⟨tb,pb,gb⟩:=hb
 refine ⟨_,Qpr pc pa pb,λz R σ H W ρ P E s hw l=>gc z R σ H W ρ _ _ s hw λb H1 W1 ρ1 p q=>?_⟩
 cases b with
 | true=>exact ga z R σ H1 W1 ρ1 P E p.sr q (l.step p.fr)
 | false=>exact gb z R σ H1 W1 ρ1 P E p.sr q (l.step p.fr)
def wFor (wl:WL) (wg:WG) (wb:WS):WS:=λP ρ=>wl ρ λds ρ1=>Qi ds=true/\∃I:Nat->Env->Prop,I 0 ρ1 /\
 (∀i d ρ,ds[i]? = some d->I i ρ->wg d ρ λρ'=>wb { P with nx:=I (i+1),ct:=I (i+1),bk:=P.nx } ρ')/\∀ρ,I ds.length ρ->P.nx ρ
theorem Qbm (W:Addr->Prop):wz true W=W:=by funext a;simp [wz]
theorem Qci {wl:WL} {wg:WG} (hp:PassesOwn (model X.prog X.w) X.A X.env X.xe) (hi:IV X T m true tg iter wl) (hg:GV X T tg wg) (hb:SVs X T body ws) (hc:X.calm=true:=by rfl)
  (hs:∀x,foldedSetIterable iter X.env x=pure x:=by intro _;rfl):SV X T (.For tg iter body [] pos) (wFor wl wg ws):=by
 obtain ⟨ti,pi,gi⟩:=hi
 obtain ⟨tt,pt,gt⟩:=hg
 obtain ⟨tb,pb,gb⟩:=hb
 refine ⟨_,Qm4 hp hc pi pt pb hs,λz R σ H W ρ P E s hw l=>gi z R σ H W ρ _ _ s hw λJ H1 W1 ds ρ1 p jd q=>?_⟩
 rw [Qbm] at jd
 obtain ⟨hpu,I,h0,hI,hd⟩:=q
 refine ⟨λi n σ' H'=>n=ds.length-i/\i<=ds.length/\∃R' W' ρ',SR X.K T z R' H' W' σ' ρ'/\FrW H1 W1 H' W'/\I i ρ',⟨ds.length,by simp,Nat.zero_le _,R,W1,ρ1,p.sr,FrW.refl _ _,h0⟩,?_⟩
 rintro i n σ2 H2 ⟨rfl,hi,R2,W2,ρ2,s2,f2,i2⟩
 obtain ⟨j1,j2⟩:=jd i H2 W2 f2
 by_cases hlt:i<ds.length
 ·have hdi:ds[i]? = some ds[i]:=List.getElem?_eq_getElem hlt
  obtain ⟨hgo,hy⟩:=j2 _ hdi
  have hpd:(ds[i]).pure=true:=Qau.mp hpu _ (List.getElem_mem hlt)
  refine .inr ⟨hgo,λσ' H'=>i+1<=ds.length/\∃R' W' ρ',SR X.K T z R' H' W' σ' ρ'/\FrW H1 W1 H' W'/\I (i+1) ρ',λσ' H' ⟨h1,h2⟩=>⟨ds.length-(i+1),by omega,rfl,h1,h2⟩,λv H3 yl=>?_⟩
  obtain ⟨sm,F,rv,_⟩:=hy v H3 yl
  obtain ⟨-,rv⟩:=rv.pure hpd
  have f3:FrW H1 W1 H3 W2:=f2.trans (FrW.same W2 sm)
  refine gt z R2 σ2 H3 W2 ρ2 _ v _ _ (s2.same sm) rv hpd (hI i _ ρ2 hdi i2) λR4 W4 σ4 ρ4 s4 f4 q4=>?_
  refine gb z R4 σ4 H3 W4 ρ4 _ _ s4 q4 ⟨?_,?_,?_,?_,?_⟩
  ·exact λR' σ' H' W' ρ' s' f' h=>⟨hlt,R',W',ρ',s',(f3.trans f4).trans f',h⟩
  ·exact λR' σ' H' W' ρ' s' f' h=>l.nx R' σ' H' W' ρ' s' (((p.fr.trans f3).trans f4).trans f') h
  ·exact λR' σ' H' W' ρ' s' f' h=>⟨hlt,R',W',ρ',s',(f3.trans f4).trans f',h⟩
  ·exact (((l.step p.fr).step f3).step f4).rt
  ·exact (((l.step p.fr).step f3).step f4).xc
 ·have e:i=ds.length:=by omega
  subst e
  exact .inl ⟨j1 (Nat.le_refl _),l.nx R2 σ2 H2 W2 ρ2 s2 (p.fr.trans f2) (hd ρ2 i2)⟩
end
end PV
variable {wl:PV.WL} {we:PV.WE}
namespace PV
open PySem PySem.Spec L2
open PyProof.Rows (envOfC)
def TR:Tg:={ own:=λ_=>false,io:=[] }
def Any (H:Hp):Addr->Prop:=λa=>∃ob,H a=some ob/\imm ob=false
theorem SR.readonly (hio:T.io=[]) (hlen:ρ.length=σ.length) (h:∀i d,look ρ i=some d->T.own i=false/\∃v F,σ[i]? = some (some v)/\Rep K H d v F) :
  SR K T z (Any H) H (λ_=>False) σ ρ:=by
 have ch:∀i,∃F,∀d,look ρ i=some d->∃v,σ[i]? = some (some v)/\Rep K H d v F:=λi=>by
  cases hl:look ρ i with
  | none=>exact ⟨[],λd e=>nomatch e⟩
  | some d =>
   obtain ⟨_,v,F,h1,h2⟩:=h i d hl
   exact ⟨F,λd' e=>by cases e;exact ⟨v,h1,h2⟩⟩
 refine ⟨λi=>Classical.choose (ch i),hlen,λa h=>h.elim,λi d hl=>Classical.choose_spec (ch i) d hl,λi d hl ht=>?_,λi d hl ht a ha=>?_,λa h=>h.elim,λa h=>h,λi j d e hl hl' ht=>?_,λi hi=>?_⟩
 ·rw [(h i d hl).1] at ht;cases ht
 ·obtain ⟨v,_,r⟩:=Classical.choose_spec (ch i) d hl
  exact r.dom a ha
 ·rw [(h i d hl).1] at ht;cases ht
 ·rw [hio] at hi;cases hi
theorem Zz:∀{ds:List D} {n i:Nat},look (ds.map some++List.replicate n none) i=ds[i]?
 | [],0,i=>by simp [look]
 | [],n+1,0=>by simp [look,List.replicate_succ]
 | [],n+1,i+1=>by
  have:=Zz (ds:=[]) (n:=n) (i:=i)
  simpa [look,List.replicate_succ] using this
 | d::ds,n,0=>by simp [look]
 | d::ds,n,i+1=>by
  have:=Zz (ds:=ds) (n:=n) (i:=i)
  simpa [look] using this
theorem Vr (h:vs[i]? = some v):(L2.Zo N vs)[i]? = some (some v):=by
 have hi:=(List.getElem?_eq_some_iff.mp h).1
 unfold L2.Zo
 rw [List.getElem?_append_left (by simpa using hi),List.getElem?_map,h]
 rfl
section
variable {w:World} {k:Nat} {ww:WS}
def env0 (N:List Str) (ds:List D):Env:=ds.map some++List.replicate (N.length-ds.length) none
theorem Zd (F:Fun K x qual st f fd) (S:FnScope N ps (Qb st)) (hio:T.io=[]) (hown:∀i,i<ps.length->T.own i=false) (hg:∀ds kk,g ds kk->ds.length=ps.length)
  (hb:∀(cdv:Value) (A:Around) (outer:List PySem.Env) (s:Shared) (H:Hp) (E:XK),Room k (A.deeper (envOfC qual (Qb st) s.heap.objs.size f cdv))->SVs (cxOf CX0 P w K mg base N qual (Qb st) f cdv A outer s H E).nox T (Qx st) ww)
  (hr:∀ds kk,g ds kk->ww { nx:=λ_=>kk .non,rt:=λd _=>kk d } (env0 N ds)):FnOk P w K mg base CX0 (k+1) f fd ps (spR K g):=by
 refine F.ok S (λvs H Q E h=>?_) (λcdv A outer s H vs Q E hroom h=>?_)
 ·obtain ⟨ds,Fp,kk,rep,hgk,_⟩:=h
  rw [rep.length];exact hg ds kk hgk
 ·obtain ⟨ds,Fp,kk,rep,hgk,q⟩:=h
  obtain ⟨ts,pts,gts⟩:=hb cdv A outer s H E hroom
  have hl:=rep.length
  have hds:=hg ds kk hgk
  refine ⟨ts,pts,gts (λ_=>.non) (Any H) (L2.Zo N vs) H (λ_=>False) (env0 N ds) _ _ (SR.readonly hio ?_ λi d hli=>?_) (hr ds kk hgk) ⟨?_,?_,?_,?_,λ_ _ _ _ _ _ _ _ hk=>hk.elim⟩⟩
  ·unfold env0 L2.Zo;simp [hl]
  ·unfold env0 at hli
   rw [Zz] at hli
   obtain ⟨v,B,h1,h2,_⟩:=rep.get hli
   exact ⟨hown i (by rw [← hds];exact (List.getElem?_eq_some_iff.mp hli).1),v,B,Vr h1,h2⟩
  ·intro R' σ' H' W' ρ' s' fr hk
   have sm:Same H H':=λb o e=>fr.keep b o e (λz=>z)
   exact q .non H' .non [] ⟨sm,.non,List.nodup_nil,λ_ m=>nomatch m⟩ hk
  ·exact λR' σ' H' W' ρ' s' fr hk=>hk.elim
  ·exact λR' σ' H' W' ρ' s' fr hk=>hk.elim
  ·intro R' v σ' H' W' ρ' d F' s' fr r nd nw hk
   have sm:Same H H':=λb o e=>fr.keep b o e (λz=>z)
   exact q v H' d F' ⟨sm,r,nd,λa ha=>(nw a ha).2.resolve_left id⟩ hk
theorem Qoi {p:Nat} {g:GI} (F:Fun K x qual st f fd) (S:FnScope N ps (Qb st)) (hio:T.io=[p]) (hown:T.own p=true) (hg:∀ds kk,g ds kk->ds.length=ps.length/\∃d0,ds[p]? = some d0/\Vw d0=true)
  (hb:∀(cdv:Value) (A:Around) (outer:List PySem.Env) (s:Shared) (H:Hp) (E:XK),Room k (A.deeper (envOfC qual (Qb st) s.heap.objs.size f cdv))->SVs (cxOf CX0 P w K mg base N qual (Qb st) f cdv A outer s H E).nox T (Qx st) ww)
  (hr:∀ds kk,g ds kk->ww { nx:=λρ=>oget (look ρ p) λd'=>Vw d'=true/\kk .non d',rt:=λd ρ=>oget (look ρ p) λd'=>Vw d'=true/\kk d d' } (env0 N ds)):FnOk P w K mg base CX0 (k+1) f fd ps (spI K p g):=by
 refine F.ok S (λvs H Q E h=>?_) (λcdv A outer s H vs Q E hroom h=>?_)
 ·obtain ⟨ds,a,kk,rep,hp,hgk,_⟩:=h
  rw [rep.length];exact (hg ds kk hgk).1
 ·obtain ⟨ds,a,kk,rep,hp,hgk,q⟩:=h
  obtain ⟨ts,pts,gts⟩:=hb cdv A outer s H E hroom
  have hl:=rep.length
  obtain ⟨hds,d0,hd0,hf0⟩:=hg ds kk hgk
  obtain ⟨v0,A',B,C,h1,h2,r0,rA,rC⟩:=rep.split hd0
  rw [hp] at h1;cases h1
  obtain ⟨a',e1,e2⟩:=r0.flat1 hf0
  cases e1
  subst e2
  have hA:A'=[]:=by
   cases A' with
   | nil=>rfl
   | cons y A'=>simp at h2
  subst hA
  have hC:C=[]:=by
   cases C with
   | nil=>rfl
   | cons y C=>simp at h2
  subst hC
  have oth:∀i d,i≠p->ds[i]? = some d->∃v,vs[i]? = some v/\Rep K H d v []:=λi d hne hd=>by
   rcases Nat.lt_or_gt_of_ne hne with h | h
   ·obtain ⟨v,B,h1,h2,h3⟩:=rA.get (i:=i) (by rw [List.getElem?_take_of_lt h];exact hd)
    rw [List.getElem?_take_of_lt h] at h1
    have:=List.sublist_nil.mp h3
    subst this
    exact ⟨v,h1,h2⟩
   ·obtain ⟨v,B,h1,h2,h3⟩:=rC.get (i:=i-(p+1)) (by rw [List.getElem?_drop,show p+1+(i-(p+1))=i by omega];exact hd)
    rw [List.getElem?_drop,show p+1+(i-(p+1))=i by omega] at h1
    have:=List.sublist_nil.mp h3
    subst this
    exact ⟨v,h1,h2⟩
  obtain ⟨oa,ea,ia⟩:=r0.dom a (List.mem_singleton.mpr rfl)
  have fin:∀R' v σ' H' W' ρ' d F',SR K T (λ_=>.ref a) R' H' W' σ' ρ'->FrW H (λb=>b=a) H' W'->Rep K H' d v F'->F'.Nodup->(∀b∈F',¬W' b/\(b=a\/H b=none))->(oget (look ρ' p) λd'=>Vw d'=true/\kk d d')->Q v H':=λR' v σ' H' W' ρ' d F' s' fr r nd nw hk=>by
   obtain ⟨d',hl',hf',hk⟩:=Qs hk
   obtain ⟨fp,s0⟩:=s'
   obtain ⟨u,hu,ru⟩:=s0.at_ p d' hl'
   have hfx:=s0.fix p (by rw [hio];exact List.mem_singleton.mpr rfl)
   rw [hu] at hfx
   cases hfx
   obtain ⟨a'',e1,e2⟩:=ru.flat1 hf'
   cases e1
   rw [e2] at ru
   have hWa:W' a:=(s0.own p d' hl' hown).2 a (by rw [e2];exact List.mem_singleton.mpr rfl)
   refine q v H' d d' F' ru r nd (λb hb=>?_) (λb o e hne=>fr.keep b o e hne) hk
   rcases (nw b hb).2 with h | h
   ·exact absurd hWa (by rw [← h];exact (nw b hb).1)
   ·exact h
  refine ⟨ts,pts,gts (λ_=>.ref a) (λb=>b≠a/\Any H b) (L2.Zo N vs) H (λb=>b=a) (env0 N ds) _ _ ⟨λi=>if i=p then [a] else [],?_,?_,?_,?_,?_,?_,?_,?_,?_⟩ (hr ds kk hgk) ⟨?_,?_,?_,?_,λ_ _ _ _ _ _ _ _ hk=>hk.elim⟩⟩
  ·unfold env0 L2.Zo;simp [hl]
  ·rintro b rfl;exact ⟨oa,ea,ia⟩
  ·intro i d hli
   unfold env0 at hli
   rw [Zz] at hli
   by_cases hip:i=p
   ·subst hip
    rw [hd0] at hli;cases hli
    exact ⟨.ref a,Vr hp,by rw [if_pos rfl];exact r0⟩
   ·obtain ⟨v,h1,h2⟩:=oth i d hip hli
    exact ⟨v,Vr h1,by rw [if_neg hip];exact h2⟩
  ·intro i d _ _
   by_cases hip:i=p
   ·rw [if_pos hip];exact ⟨by simp,λb hb=>List.mem_singleton.mp hb⟩
   ·rw [if_neg hip];exact ⟨by simp,λb hb=>nomatch hb⟩
  ·intro i d _ ht b hb
   have hip:i≠p:=λz=>by subst z;rw [hown] at ht;cases ht
   rw [if_neg hip] at hb;cases hb
  ·rintro b rfl ⟨h,_⟩;exact h rfl
  ·exact λb h=>h.2
  ·intro i j d e _ _ _ _ hne b hb hb'
   by_cases hip:i=p
   ·have hjp:j≠p:=λz=>hne (hip.trans z.symm)
    rw [if_neg hjp] at hb';cases hb'
   ·rw [if_neg hip] at hb;cases hb
  ·intro i hi
   rw [hio] at hi
   rw [List.mem_singleton.mp hi]
   exact Vr hp
  ·exact λR' σ' H' W' ρ' s' fr hk=>fin R' .non σ' H' W' ρ' .non [] s' fr .non List.nodup_nil (λb hb=>nomatch hb) hk
  ·exact λR' σ' H' W' ρ' s' fr hk=>hk.elim
  ·exact λR' σ' H' W' ρ' s' fr hk=>hk.elim
  ·exact λR' v σ' H' W' ρ' d F' s' fr r nd nw hk=>fin R' v σ' H' W' ρ' d F' s' fr r nd nw hk
end
def CV (X:Cx) (ifs:List Expr) (w:WT):Prop :=
 ∃tt,PIfs X ifs tt/\∀(z:Nat->V) (R:Addr->Prop) (σ:St) (H:Hp) (W:Addr->Prop) (ρ:Env) (Q:Bool->Env->Prop) (Q':Bool->Hp->Prop),SR X.K TR z R H W σ ρ->w ρ Q ->
  (∀b H' W' ρ',PostT X.K TR z R false H W σ ρ H' W' ρ'->Q b ρ'->Q' b H')->tt σ H Q'
def wAll:WT:=λρ Q=>Q true ρ
theorem Qop:CV X [] wAll:=⟨_,Qg5,λz R σ H W ρ Q Q' s hw k=>k true H W ρ ⟨s,FrW.refl H W,λ_=>⟨Same.refl H,rfl,rfl⟩⟩ hw⟩
def blkE (ρ:Env) (d:D) (ix:List Nat):Env:=some d::ix.map (look ρ)
theorem Qcv {f:Nat->Option D}:∀{ix:List Nat} {j:Nat},look (ix.map f) j=ix[j]?.bind f
 | [],_=>by simp [look]
 | i::r,0=>by simp [look]
 | i::r,j+1=>by simpa [look] using Qcv (f:=f) (ix:=r) (j:=j)
def Qjx (wl:WL) (wt:WT) (we:WE) (ix:List Nat):WE:=λρ Q=>wl ρ λds ρ1=>∃I:Nat->List D->Prop,I 0 [] /\
 (∀i d ys,ds[i]? = some d->I i ys->ys.length<sizeLine/\wt (blkE ρ1 d ix) λb _=>if b=true then we (blkE ρ1 d ix) (λy _=>I (i+1) (ys++[y])) else I (i+1) ys) /\
 ∀ys,I ds.length ys->ys.length<=sizeLine/\Q (.lst ys) ρ1
def Qgs (X:Cx) (T:Tg) (m:Bool) (elt iter:Expr) (x:Str) (px:Pos) (scope:Scope) (ifs:List Expr) (ix:List Nat) (w:WE):Prop :=
 ∃(wi:TI) (tt:TT) (te:TE),PI X (.Name x px) iter wi/\(∀cl C s₀ H₀ fp,PIfs (Zk X scope cl C (bN X.N x ix) s₀ H₀ fp) ifs tt)/\(∀cl C s₀ H₀ fp,PE (Zk X scope cl C (bN X.N x ix) s₀ H₀ fp) elt te) /\
  ∀(z:Nat->V) (R:Addr->Prop) (σ:St) (H:Hp) (W:Addr->Prop) (ρ:Env) (Q:D->Env->Prop) (Q':VK),SR X.K T z R H W σ ρ->w ρ Q ->
   (∀v H' W' d ρ' F,Post X.K T z R m true H W σ ρ H' W' ρ' d v F->Q d ρ'->Q' v H')->Ql0 wi tt te ix σ H Q'
theorem Qll {pr:Bool} (ix:List Nat) (hi:IV X T m pr (.Name x px) iter wl)
  (ht:∀cl C s₀ H₀ fp,CV (Zk X scope cl C (bN X.N x ix) s₀ H₀ fp) ifs wt) (he:∀cl C s₀ H₀ fp,EV (Zk X scope cl C (bN X.N x ix) s₀ H₀ fp) TR false true elt we) :
  Qgs X T m elt iter x px scope ifs ix (Qjx wl wt we ix):=by
 obtain ⟨wi,pi,gi⟩:=hi
 refine ⟨wi,λσ H Q=>∀cl C s₀ H₀ fp,Classical.choose (ht cl C s₀ H₀ fp) σ H Q,λσ H Q=>∀cl C s₀ H₀ fp,Classical.choose (he cl C s₀ H₀ fp) σ H Q,pi,
  λcl C s₀ H₀ fp pins s σ H Q I h=>(Classical.choose_spec (ht cl C s₀ H₀ fp)).1 pins s σ H Q I (h cl C s₀ H₀ fp),λcl C s₀ H₀ fp pins s σ H Q I h=>(Classical.choose_spec (he cl C s₀ H₀ fp)).1 pins s σ H Q I (h cl C s₀ H₀ fp),?_⟩
 intro z R σ H W ρ Q Q' s hw k
 refine gi z R σ H W ρ _ _ s hw λJ H1 W1 ds ρ1 p jd q=>?_
 obtain ⟨I,h0,hI,hd⟩:=q
 refine ⟨λi n ys H2=>n=ds.length-i/\i<=ds.length/\Same H1 H2/\∃es F,Reps X.K H2 es ys F/\F.Nodup/\(∀a∈F,H1 a=none)/\I i es,ds.length,⟨by simp,Nat.zero_le _,Same.refl _,[],[],.nil,List.nodup_nil,(λa m=>(nomatch m)),h0⟩,?_⟩
 rintro i n ys H2 ⟨rfl,hi,sm,es,F,re,nd,nw,i2⟩
 obtain ⟨j1,j2⟩:=jd i H2 (wz pr W1) (FrW.same _ sm)
 by_cases hlt:i<ds.length
 ·have hdi:ds[i]? = some ds[i]:=List.getElem?_eq_getElem hlt
  obtain ⟨hgo,hy⟩:=j2 _ hdi
  obtain ⟨hz,q1⟩:=hI i _ es hdi i2
  refine .inr ⟨hgo,by rw [re.length];exact hz,λv H3 yl=>?_⟩
  obtain ⟨sm3,Fv,rv,_⟩:=hy v H3 yl
  have srB:∀z',SR X.K TR z' (Any H3) H3 (λ_=>False) (bS σ (some v) ix) (blkE ρ1 ds[i] ix):=λz'=>by
   refine SR.readonly rfl (by simp [bS,blkE]) λj d hj=>⟨rfl,?_⟩
   cases j with
   | zero =>
    simp only [blkE,look,Option.some.injEq] at hj
    subst hj
    exact ⟨v,Fv,rfl,rv⟩
   | succ j =>
    have hj':look (ix.map (look ρ1)) j=some d:=hj
    rw [Qcv] at hj'
    cases hx:ix[j]? with
    | none=>rw [hx] at hj';cases hj'
    | some q =>
     rw [hx] at hj'
     obtain ⟨fp,s1⟩:=(p.sr.same sm).same sm3
     obtain ⟨u,hu,ru⟩:=s1.at_ q d hj'
     refine ⟨u,fp q,?_,ru⟩
     show (ix.map λi=>(σ[i]?).getD none)[j]? = some (some u)
     rw [List.getElem?_map,hx]
     simp [hu]
  intro cl C s₀ H₀ fp
  refine (Classical.choose_spec (ht cl C s₀ H₀ fp)).2 (λ_=>.non) (Any H3) (bS σ (some v) ix) H3 (λ_=>False) (blkE ρ1 ds[i] ix) _ _ (srB _) q1 λbb H4 W4 ρ4 p4 q4=>?_
  obtain ⟨sm4,hW4,hρ4⟩:=p4.calm rfl
  have re4:=((re.same sm3).same sm4)
  cases bb with
  | false=>exact ⟨ds.length-(i+1),by omega,rfl,hlt,(sm.trans sm3).trans sm4,es,F,re4,nd,nw,q4⟩
  | true =>
   show if true=true then _ else _
   rw [if_pos rfl]
   intro cl C s₀ H₀ fp
   refine (Classical.choose_spec (he cl C s₀ H₀ fp)).2 (λ_=>.non) (Any H3) (bS σ (some v) ix) H4 W4 (blkE ρ1 ds[i] ix) _ _ (hρ4 ▸ p4.sr) (by simpa using q4) λu H5 W5 y ρ5 Fy p5 q5=>?_
   obtain ⟨sm5,_,_⟩:=p5.calm rfl
   obtain ⟨ny,ky⟩:=p5.own rfl
   have sm15:Same H1 H5:=((sm.trans sm3).trans sm4).trans sm5
   refine ⟨ds.length-(i+1),by omega,rfl,hlt,sm15,es++[y],F++Fy,(re4.same sm5).snoc p5.rep,Qa8 nd ny λa ha hf=>?_,λa ha=>?_,q5⟩
   ·obtain ⟨ob,e1,_⟩:=re4.dom a hf
    rw [(ky a ha).1] at e1;cases e1
   ·rcases List.mem_append.mp ha with ha | ha
    ·exact nw a ha
    ·exact ((sm.trans sm3).trans sm4).free (ky a ha).1
 ·have e:i=ds.length:=by omega
  subst e
  obtain ⟨hz,q1⟩:=hd es i2
  refine .inl ⟨j1 (Nat.le_refl _),by rw [re.length];exact hz,λl hl=>?_⟩
  have hl1:H1 l=none:=sm.free hl
  refine k _ _ W1 (.lst es) ρ1 (l::F) ⟨(p.sr.same sm).same (Qm hl),(p.fr.trans (FrW.same W1 sm)).trans (FrW.same W1 (Qm hl)),λh=>⟨((p.calm h).1.trans sm).trans (Qm hl),(p.calm h).2⟩,.lst Qj (re.same (Qm hl)),λ_=>⟨List.nodup_cons.mpr ⟨λh=>?_,nd⟩,λb hb=>?_⟩⟩ q1
  ·obtain ⟨ob,e1,_⟩:=re.dom l h
   rw [hl] at e1;cases e1
  ·rcases List.mem_cons.mp hb with rfl | hb
   ·exact ⟨p.fr.dom _ hl1,p.sr.nw hl1⟩
   ·exact ⟨p.fr.dom _ (nw b hb),p.sr.nw (nw b hb)⟩
theorem Qld (h:Qgs X T m elt iter x px scope ifs ix w) (B:BlkScope X.env scope x)
  (hix:∀i∈ix,∃y,X.N[i]? = some y/\scope.names.lookup y=some .free) (hN:(bN X.N x ix).Nodup) (hc:X.calm=true:=by rfl)
  (hs:∀x,foldedSetIterable iter X.env x=pure x:=by intro _;rfl):EV X T m true (.ListComp elt [⟨.Name x px,iter,ifs,0⟩] scope pos) w:=by
 obtain ⟨wi,tt,te,h1,h2,h3,h4⟩:=h
 exact ⟨_,Qkl ix hc B hix hN h1 h2 h3 hs,h4⟩
end PV
variable {ws:PV.WS}
namespace PV
open PySem PySem.Spec L2
abbrev WO:=Env->(Option Int->Env->Prop)->Prop
def OV (X:Cx) (T:Tg) (m:Bool) (e:Option Expr) (w:WO):Prop :=
 ∃t,PO X e t/\∀(z:Nat->V) (R:Addr->Prop) (σ:St) (H:Hp) (W:Addr->Prop) (ρ:Env) (Q:Option Int->Env->Prop) (Q':Option Int->Hp->Prop),SR X.K T z R H W σ ρ->w ρ Q ->
  (∀b H' W' ρ',PostT X.K T z R m H W σ ρ H' W' ρ'->Q b ρ'->Q' b H')->t σ H Q'
def Z5:WO:=λρ Q=>Q none ρ
def U4 (w:WE):WO:=λρ Q=>w ρ λd ρ'=>match d with
 | .int i=>Q (some i) ρ'
 | _=>False
theorem Gj:OV X T false none Z5:=⟨_,Qkj,λz R σ H W ρ Q Q' s hw k=>k none H W ρ ⟨s,FrW.refl H W,λ_=>⟨Same.refl H,rfl,rfl⟩⟩ hw⟩
theorem V7 (h:EV X T m o e w):OV X T m (some e) (U4 w):=by
 obtain ⟨t,pt,g⟩:=h
 refine ⟨_,Qki pt,λz R σ H W ρ Q Q' s hw k=>g z R σ H W ρ _ _ s hw λv H1 W1 d ρ1 F p q=>?_⟩
 cases d with
 | int i=>exact ⟨i,Qkb p.rep,k (some i) H1 W1 ρ1 ⟨p.sr,p.fr,p.calm⟩ q⟩
 | _=>exact q.elim
def cutD (xs:List D) (lo hi:Option Int):List D:=(xs.drop (HT.sIx xs.length 0 lo)).take (HT.sIx xs.length xs.length hi-HT.sIx xs.length 0 lo)
def dSl:D->Option Int->Option Int->(D->Prop)->Prop
 | .lst xs,lo,hi,k=>Qi xs=true/\k (.lst (cutD xs lo hi))
 | .kls xs,lo,hi,k=>Qi xs=true/\k (.lst (cutD xs lo hi))
 | .tup xs,lo,hi,k=>Qi xs=true/\¬(HT.sIx xs.length 0 lo=0/\HT.sIx xs.length xs.length hi=xs.length)/\k (.tup (cutD xs lo hi))
 | _,_,_,_=>False
theorem Reps.cut (r:Reps K H ds xs []):Reps K H (cutD ds lo hi) (cutV xs lo hi) []:=by
 unfold cutD cutV
 rw [r.length]
 obtain ⟨G,r1,s1⟩:=r.drop (HT.sIx ds.length 0 lo)
 obtain ⟨G',r2,s2⟩:=r1.take (HT.sIx ds.length ds.length hi-HT.sIx ds.length 0 lo)
 have:=List.sublist_nil.mp s1
 subst this
 have:=List.sublist_nil.mp s2
 subst this
 exact r2
theorem Ql3:SlR X (λx lo hi H Q=>rSlL X.K x lo hi H Q\/rSlT X.K x lo hi H Q):=SlR.or Qj3 Ql2
def wSl (w:WE) (wl wh:WO):WE:=λρ Q=>w ρ λd ρ1=>wl ρ1 λlo ρ2=>wh ρ2 λhi ρ3=>dSl d lo hi λd'=>Q d' ρ3
def Qon:GA
 | [.int j],k=>0<=j/\j<=1000/\k (.lst (rngD 0 j.toNat))
 | _,_=>False
def Qli:D->D->D->(D->Prop)->Prop
 | .dik kvs,.int i,d,k=>k ((valD kvs (.inl i)).getD d)
 | .dik kvs,.str i,d,k=>k ((valD kvs (.inr i)).getD d)
 | .dit kvs,.tup l,d,k=>oget (Ye l) λks=>k ((valD kvs ks).getD d)
 | _,_,_,_=>False
def Qo3 (w:WE):WL:=λρ Q=>w ρ λd ρ'=>match d with
 | .dik kvs=>Q (kvs.map (·.2)) ρ'
 | _=>False
def Qo8 (wl:WL) (i₀:Nat) (wb:WS):WS:=λP ρ=>wl ρ λds ρ1=>∃I:Nat->Env->Prop,I 0 ρ1 /\
 (∀i d ρ,ds[i]? = some d->I i ρ->wb { P with nx:=I (i+1),ct:=I (i+1),bk:=P.nx } (ρ.set i₀ (some d)))/\∀ρ,I ds.length ρ->P.nx ρ
def Qky:D->Option Key
 | .int i=>some (.inl i)
 | .str i=>some (.inr i)
 | _=>none
def Qpa (wa wb:WE):WE:=λρ Q=>wa ρ λd ρ1=>match d with
 | .bl c=>if c=true then wb ρ1 Q else Q (.bl false) ρ1
 | _=>False
def wOrV (wa wb:WE):WE:=λρ Q=>wa ρ λd ρ1=>match d with
 | .bl c=>if c=true then Q (.bl true) ρ1 else wb ρ1 Q
 | _=>False
theorem Post.after {W:Addr->Prop} {d1 d2:D} {v1 v2:V} (p:Post K T z R m1 o1 H W σ ρ H1 W1 ρ1 d1 v1 F1) (q:Post K T z R m2 o2 H1 W1 σ ρ1 H2 W2 ρ2 d2 v2 F2) :
  Post K T z R (m1 || m2) o2 H W σ ρ H2 W2 ρ2 d2 v2 F2:=⟨q.sr,p.fr.trans q.fr,p.calm2 q,q.rep,p.lastOwn q⟩
theorem Qoj {op} (h:EV X T m o a w):EV X T m o (.BoolOp op [a] pos) w:=by
 obtain ⟨t,pt,g⟩:=h
 exact ⟨t,Qm9 pt,g⟩
theorem Qqd (ha:EV X T m1 o1 a wa) (hb:EV X T m2 true (.BoolOp .Or (b::rest) pos) wb):EV X T (m1 || m2) true (.BoolOp .Or (a::b::rest) pos) (wOrV wa wb):=by
 obtain ⟨ta,pa,ga⟩:=ha
 obtain ⟨tb,pb,gb⟩:=hb
 refine ⟨_,Qpv pa pb,λz R σ H W ρ Q Q' s hw k=>ga z R σ H W ρ _ _ s hw λv H1 W1 d ρ1 F p q=>?_⟩
 cases d with
 | bl c =>
  refine ⟨c,Qed p.rep,?_⟩
  cases c with
  | false=>exact gb z R σ H1 W1 ρ1 Q Q' p.sr q λv2 H2 W2 d2 ρ2 F2 q2 hq=>k v2 H2 W2 d2 ρ2 F2 (p.after q2) hq
  | true=>exact k _ H1 W1 (.bl true) ρ1 [] ⟨p.sr,p.fr,λh=>p.calm (Bool.or_eq_false_iff.mp h).1,.bl true,λ_=>⟨List.nodup_nil,λa m=>nomatch m⟩⟩ q
 | _=>exact q.elim
def Qo6 (wa:WE):WE:=λρ Q=>wa ρ λd ρ1=>match d with
 | .bl c=>Q (.bl (!c)) ρ1
 | _=>False
theorem Vz:bootBuiltins "isinstance" = some (.builtin "isinstance"):=by decide +kernel
theorem Up:bootBuiltins "len" = some (.builtin "len"):=by decide +kernel
theorem Qow:bootBuiltins "str" = some (.type "str"):=by decide +kernel
def Zj (w:WE):WE:=λρ Q=>w ρ λd ρ'=>d.pure=true/\Q d ρ'
def Cal (P:Program) (w:World) (K:PySem.W.Frag) (mg:Str->Option Value) (base:Heap) (x:Str) (k:Nat) (ps:List Str) (sp:Sp):Prop :=
 ∃f fd,FnOk P w K mg base CX0 k f fd ps sp/\mg x=some (.ref f)/\PySem.W.keepIn K (.ref f)=true/\Yt K fd ps []
section
variable {k:Nat}
theorem Ua (h:EV X T m o e w):EV X T m true e (Zj w):=h.lift
theorem Qt (C:Cal X.prog X.w X.K X.mg X.base x k ps (spR X.K g)) (hr:Room k X.A) (ha:AV X T m o (e::es) wr) (hg:Gl X x:=by rfl)
  (hdb:(x == ("__debug__" : Str))=false:=by decide) (he:starEach (e::es) X.env=(false,eval e X.env)::starEach es X.env:=by rfl) (hpl:(backTo pos (starEach es X.env)).any (·.1)=false:=by rfl) :
  EV X T m true (.Call (.Name x p) (e::es) [] pos) (Qv g wr):=by
 obtain ⟨f,fd,F,h1,h2,h3⟩:=C
 exact Qle F hr h1 h2 h3 ha hg hdb he hpl
theorem Jr {q:Nat} {g:GI} {wi:WI} (C:Cal X.prog X.w X.K X.mg X.base x k ps (spI X.K q g)) (hr:Room k X.A) (ha:AI X T m i q (e::es) wi) (ht:T.own i=true:=by rfl) (hg:Gl X x:=by rfl)
  (hdb:(x == ("__debug__" : Str))=false:=by decide) (he:starEach (e::es) X.env=(false,eval e X.env)::starEach es X.env:=by rfl) (hpl:(backTo pos (starEach es X.env)).any (·.1)=false:=by rfl) :
  EV X T true true (.Call (.Name x p) (e::es) [] pos) (Jh i g wi):=by
 obtain ⟨f,fd,F,h1,h2,h3⟩:=C
 exact Qho F hr h1 h2 h3 ha ht hg hdb he hpl
def Qos (sc scope:Scope) (N:List Str) (x:Str) (ix:List Nat):Bool :=
 (scope.kind == .function) && scope.names.all (λy=>y.2 != .cell) && scope.names.all (λy=>y.2 != .local || scope.names.lookup y.1 == some .local) && (scope.names.lookup x == some .local) &&
  scope.names.all (λy=>y.2 != .free || (sc.names.lookup y.1 == some .cell || sc.names.lookup y.1 == some .free)) &&
  ix.all (λi=>match N[i]? with | some y=>scope.names.lookup y == some .free | none=>false) && decide (bN N x ix).Nodup
structure CompB (X:Cx) (scope:Scope) (x:Str) (ix:List Nat):Prop where
 B:BlkScope X.env scope x
 hix:∀i∈ix,∃y,X.N[i]? = some y/\scope.names.lookup y=some .free
 hN:(bN X.N x ix).Nodup
theorem Qhu (sc:Scope) (N:List Str) (h:Qos sc scope N x ix=true) (h1:X.env.scope=sc:=by rfl) (h2:X.N=N:=by rfl):CompB X scope x ix:=by
 subst h1 h2
 simp only [Qos,Bool.and_eq_true,List.all_eq_true,Bool.or_eq_true,decide_eq_true_eq,beq_iff_eq,bne_iff_ne] at h
 obtain ⟨⟨⟨⟨⟨⟨a1,a2⟩,a3⟩,a4⟩,a5⟩,a6⟩,a7⟩:=h
 refine ⟨⟨a1,a2,λy hy e=>(a3 y hy).resolve_left (λz=>z e),a4,λy hy e=>(a5 y hy).resolve_left (λz=>z e)⟩,λi hi=>?_,a7⟩
 have:=a6 i hi
 cases q:X.N[i]? with
 | none=>rw [q] at this;cases this
 | some y =>
  rw [q] at this
  exact ⟨y,rfl,by simpa using this⟩
theorem Qhn (h:Qgs X T m elt iter x px scope ifs ix w) (B:CompB X scope x ix) (hc:X.calm=true:=by rfl)
  (hs:∀x,foldedSetIterable iter X.env x=pure x:=by intro _;rfl):EV X T m true (.ListComp elt [⟨.Name x px,iter,ifs,0⟩] scope pos) w:=Qld h B.B B.hix B.hN hc hs
end
def Qgu (wd wk wx:WE):WE:=λρ Q=>wd ρ λd ρ1=>noDct d=false/\wk ρ1 λk ρ2=>wx ρ2 λx ρ3=>x.pure=true/\Qli d k x λr=>r.pure=true/\Q r ρ3
where noDct:D->Bool
 | .dik _=>false
 | .dit _=>false
 | _=>true
def kD:Key->D
 | .inl i=>.int i
 | .inr x=>.str x
def Qbz (kvs:List (Key × D)):List D:=kvs.map λkv=>kD kv.1
def Qo7 (w:WE):WL:=λρ Q=>w ρ λd ρ'=>match d with
 | .dik kvs=>Q (Qbz kvs) ρ'
 | _=>False
end PV
namespace PV
open PySem PySem.Spec L2
open PySem.W (Dat kqdP kqdPs kqdOk)
def Qdd (ds es:List (Key × D)):Prop:=ds.length=es.length/\∀p∈ds,valD es p.1=some p.2
def eqK (ds es:List (Key × D)):Prop:=(∀p∈ds,eqOk 9 p.2=true)/\∀k d,valD es k=some d->eqOk 9 d=true
def dkD:D->Option (List (Key × D))
 | .dik ds=>some ds
 | .fdk ds=>some ds
 | _=>none
def dEqK (neg:Bool):G2:=λx y k=>oget (dkD x) λds=>oget (dkD y) λes=>eqK ds es/\(Qdd ds es->k (.bl (!neg)))/\(¬Qdd ds es->k (.bl neg))
end PV
variable {xs:List PV.D} {me:Bool}
namespace PV
open PySem PySem.Spec L2
def Qoo:GA
 | [.dik kvs],k=>k (.lst (Qbz kvs))
 | _,_=>False
def Yd:G2
 | .int i,.int j,k=>k (.int (i+j))
 | .str x,.str y,k=>x.length+y.length<=sizeLine/\k (.str (x++y))
 | .tup xs,.tup ys,k=>Qi xs=true/\Qi ys=true/\xs.length+ys.length<=sizeLine/\k (.tup (xs++ys))
 | .lst xs,.lst ys,k=>Qi xs=true/\Qi ys=true/\xs.length+ys.length<=sizeLine/\k (.lst (xs++ys))
 | _,_,_=>False
theorem Qh1 {a b:D} (g:Yd a b k):(∃i j,a=.int i/\b=.int j)\/(∃i j,a=.str i/\b=.str j)\/(∃i j,a=.lst i/\b=.lst j)\/∃i j,a=.tup i/\b=.tup j:=by
 cases a with
 | int i=>cases b with
  | int j=>exact .inl ⟨i,j,rfl,rfl⟩
  | _=>exact (show False from g).elim
 | str i=>cases b with
  | str j=>exact .inr (.inl ⟨i,j,rfl,rfl⟩)
  | _=>exact (show False from g).elim
 | lst i=>cases b with
  | lst j=>exact .inr (.inr (.inl ⟨i,j,rfl,rfl⟩))
  | _=>exact (show False from g).elim
 | tup i=>cases b with
  | tup j=>exact .inr (.inr (.inr ⟨i,j,rfl,rfl⟩))
  | _=>cases i <;> exact (show False from g).elim
 | _=>exact (show False from g).elim
theorem Jg:OpD X (binaryOp .Add) Yd:=by
 obtain ⟨r0,o0,g0⟩:=Qnq (X:=X)
 refine ⟨_,OpR.or Qkr o0,λH a b x y F1 F2 k Q ra rb g q=>?_⟩
 rcases Qh1 g with ⟨i,j,rfl,rfl⟩ | ⟨i,j,rfl,rfl⟩ | ⟨i,j,rfl,rfl⟩ | ⟨i,ys,rfl,rfl⟩
 ·exact .inr (g0 H _ _ x y F1 F2 k Q ra rb g q)
 ·exact .inr (g0 H _ _ x y F1 F2 k Q ra rb g q)
 ·exact .inr (g0 H _ _ x y F1 F2 k Q ra rb g q)
 ·cases i with
  | nil =>
   cases ra with
   | @tup p _ _ _ e1 r1 =>
    cases r1
    cases rb with
    | @tup p' us _ _ e2 r2=>exact .inl ⟨p,p',us,rfl,rfl,.of e1,.of e2,q _ _ _ _ (.flat (.tup e2 (r2.pure g.2.1).2)) g.2.2.2⟩
  | cons d xs=>exact .inr (g0 H _ _ x y F1 F2 k Q ra rb ⟨g.1,g.2.1,by simp,g.2.2⟩ q)
def dSlT:D->Option Int->Option Int->(D->Prop)->Prop
 | .lst xs,lo,hi,k=>Qi xs=true/\k (.lst (cutD xs lo hi))
 | .kls xs,lo,hi,k=>Qi xs=true/\k (.lst (cutD xs lo hi))
 | .tup xs,lo,hi,k=>Qi xs=true/\k (.tup (cutD xs lo hi))
 | _,_,_,_=>False
theorem Qj5 (g:dSlT d lo hi k):(∃ds,d=.lst ds)\/(∃ds,d=.kls ds)\/∃ds,d=.tup ds:=by
 cases d with
 | lst ds=>exact .inl ⟨ds,rfl⟩
 | kls ds=>exact .inr (.inl ⟨ds,rfl⟩)
 | tup ds=>exact .inr (.inr ⟨ds,rfl⟩)
 | _=>exact (show False from g).elim
theorem Qj4:SlR X (λx lo hi H Q=>(rSlL X.K x lo hi H Q\/rSlT X.K x lo hi H Q)\/rSlW X.K x lo hi H Q):=SlR.or Ql3 Qj2
def wSlT (w:WE) (wl wh:WO):WE:=λρ Q=>w ρ λd ρ1=>wl ρ1 λlo ρ2=>wh ρ2 λhi ρ3=>dSlT d lo hi λd'=>Q d' ρ3
theorem Qgj (h:HT.sIx xs.length 0 lo=0/\HT.sIx xs.length xs.length hi=xs.length):cutD xs lo hi=xs:=by
 unfold cutD
 rw [h.1,h.2]
 simp
theorem Qc1 {lo hi:Option Expr} {wl wh:WO} (he:EV X T m1 o1 e w) (hl:OV X T m2 lo wl) (hh:OV X T m3 hi wh) (hc:o1=true\/(m2 || m3)=false:=by first | exact .inl rfl | exact .inr rfl) :
  EV X T (m1 || (m2 || m3)) true (.Subscript e (.Slice lo hi none p2) pos) (wSlT w wl wh):=by
 obtain ⟨te,pe,ge⟩:=he
 obtain ⟨tl,pl,gl⟩:=hl
 obtain ⟨th,ph,gh⟩:=hh
 refine ⟨_,Qg7 Qj4 pe pl ph,λz R σ H W ρ Q Q' s hw k=>?_⟩
 refine ge z R σ H W ρ _ _ s hw λv H1 W1 d ρ1 F p q=>?_
 refine gl z R σ H1 W1 ρ1 _ _ p.sr q λlo H2 W2 ρ2 p2 q2=>?_
 refine gh z R σ H2 W2 ρ2 _ _ p2.sr q2 λhi H3 W3 ρ3 p3 q3=>?_
 have pp:=p2.seq p3
 have r3:Rep X.K H3 d v F:=by
  rcases hc with hc | hc
  ·exact p.rep.keep pp.fr λa h=>((p.own hc).2 a h).2
  ·exact p.rep.same (pp.calm hc).1
 have fin:∀ad d' v' Fn,Fin X.K H3 ad d' v' Fn->Q d' ρ3->Q' v' ad:=λH' d' v' F' fi hq=>by
  refine k v' H' W3 d' ρ3 F' (Post.fin p3.sr (p.fr.trans pp.fr) (λh=>?_) fi.same fi.rep fi.nd fi.new) hq
  rw [Bool.or_eq_false_iff] at h
  obtain ⟨a1,a2,a3⟩:=p.calm h.1
  obtain ⟨b1,b2,b3⟩:=pp.calm h.2
  exact ⟨a1.trans b1,b2.trans a2,b3.trans a3⟩
 have q4:dSlT d lo hi λd'=>Q d' ρ3:=q3
 clear q3
 rcases Qj5 q4 with ⟨ds,rfl⟩ | ⟨ds,rfl⟩ | ⟨ds,rfl⟩
 ·have q3:=q4
  cases r3 with
  | @lst a xs _ F e1 r9 =>
   obtain ⟨hp,hq⟩:=q3
   obtain ⟨_,r9⟩:=r9.pure hp
   exact .inl (.inl ⟨a,xs,rfl,.of e1,λl hl=>fin _ _ _ [l] ⟨Qm hl,.lst Qj (r9.cut.same (Qm hl)),by simp,λb m=>by rw [List.mem_singleton.mp m];exact hl⟩ hq⟩)
 ·have q3:=q4
  cases r3 with
  | @kls a xs _ e1 r9 =>
   obtain ⟨hp,hq⟩:=q3
   exact .inl (.inl ⟨a,xs,rfl,e1.sq,λl hl=>fin _ _ _ [l] ⟨Qm hl,.lst Qj (r9.cut.same (Qm hl)),by simp,λb m=>by rw [List.mem_singleton.mp m];exact hl⟩ hq⟩)
 ·have q3:=q4
  cases r3 with
  | @tup a xs _ F e1 r9 =>
   obtain ⟨hp,hq⟩:=q3
   obtain ⟨_,r9⟩:=r9.pure hp
   by_cases hn:HT.sIx ds.length 0 lo=0/\HT.sIx ds.length ds.length hi=ds.length
   ·rw [Qgj hn] at hq
    exact .inr ⟨a,xs,rfl,.of e1,by rw [r9.length];exact hn,fin _ _ _ [] (.flat (.tup e1 r9)) hq⟩
   ·exact .inl (.inr ⟨a,xs,rfl,.of e1,by rw [r9.length];exact hn,λl hl=>fin _ _ _ [] ⟨Qm hl,.tup Qj (r9.cut.same (Qm hl)),by simp,λb m=>nomatch m⟩ hq⟩)
def Qlu (wd wk wx:WE):WE:=λρ Q=>wd ρ λd ρ1=>Qgu.noDct d=false/\wk ρ1 λk ρ2=>wx ρ2 λx ρ3=>Qli d k x λr=>Q r ρ3
def Qk9:GM
 | .dik _,[],k=>k .non (.dik [])
 | _,_,_=>False
def Qgb (d:D) (k:List (Key × D)->Prop):Prop:=match d with
 | .dik kvs=>k kvs
 | _=>False
def Qls (i:Nat) (wv wi:WE):WS:=λP ρ=>wv ρ λd ρ1=>(look ρ1 i).isSome=true/\wi ρ1 λc _=>oget (look ρ1 i) λs=>Qgb s λkvs=>kvs.length<sizeLine/\(kvs.map (·.1)).Nodup /\
 oget (Qky c) λk=>P.nx (ρ1.set i (some (.dik (putD kvs k d))))
def Qcu (d:D) (k:List D->Prop):Prop:=match d with
 | .lst xs=>k xs
 | _=>False
def wDka (i:Nat) (wk wv:WE):WS:=λP ρ=>oget (look ρ i) λs=>Qgb s λkvs=>(kvs.map (·.1)).Nodup/\wk ρ λkd _=>oget (Qky kd) λk=>oget (valD kvs k) λl=>Qcu l λxs =>
 xs.length<sizeLine/\wv ρ λd _=>d.pure=true/\P.nx (ρ.set i (some (.dik (putD kvs k (.lst (xs++[d]))))))
def Qh4 (s:Nat):WL:=λρ Q=>oget (look ρ s) λc=>Qgb c λkvs=>Q (Qbz kvs) (ρ.set s (some (.fdk kvs)))
def zipD (kvs:List (Key × D)) (xs:List D):List D:=(kvs.zip xs).map λp=>.tup [kD p.1.1,p.2]
def wZip (wr:WA):WL:=λρ Q=>wr ρ λds ρ'=>match ds with
 | [.dik kvs,.lst xs]=>Qi xs=true/\Q (zipD kvs xs) ρ'
 | _=>False
def Qod (i:Nat) (wi:WE):WG:=λd ρ Q=>(look ρ i).isSome=true/\wi ρ λc _=>oget (look ρ i) λs=>Qcu s λxs=>match c with
 | .int j=>oget (ixN xs.length j) λn=>Q (ρ.set i (some (.lst (xs.set n d))))
 | _=>False
def Ud:WS:=λ_ _=>False
theorem Zb:SV X T st Ud:=⟨λ_ _ _=>False,λpins s σ H D I h=>h.elim,λz R σ H W ρ P E s hw l=>hw.elim⟩
def TB (q:Nat):Tg:={ own:=λi=>i == q,io:=[q] }
def dAll:GA
 | [.lst ds],k=>∃bs:List Bool,ds=bs.map D.bl/\k (.bl (bs.all id))
 | _,_=>False
theorem Reps.of_bls {K:PySem.W.Frag} {H:Hp}:∀{bs:List Bool} {xs:List V} {F:List Addr},Reps K H (bs.map D.bl) xs F->xs=bs.map V.bl
 | [],_,_,r=>by cases r;rfl
 | b::bs,_,_,r=>by
  cases r with
  | cons h r=>cases h;rw [Reps.of_bls r];rfl
theorem Qou (hc:X.calm=true):Qh3 X (.builtin "all") dAll:=by
 refine ⟨_,Qhz hc,λH ds xs F k Q r g q=>?_⟩
 cases ds with
 | nil=>exact (show False from g).elim
 | cons d ds =>
  cases ds with
  | cons _ _=>cases d <;> exact (show False from g).elim
  | nil =>
   cases d with
   | lst es =>
    obtain ⟨v,rfl,rd⟩:=r.at1
    obtain ⟨bs,rfl,g⟩:=g
    cases rd with
    | lst e r9 =>
    have:=r9.of_bls
    subst this
    exact ⟨_,bs,rfl,e,q _ _ _ _ (.flat (.bl _)) g⟩
   | _=>exact (show False from g).elim
theorem Qox:bootBuiltins "all" = some (.builtin "all"):=by decide +kernel
end PV
namespace PV
open PySem PySem.Spec L2
open Builtin.Str (glued tooLong)
def dIntS:GA
 | [.str x],k=>oget (PySem.intText? x) λn=>x.length<=640/\k (.int n)
 | _,_=>False
theorem Reps.strs {K:PySem.W.Frag} {H:Hp}:∀(ws:List Str),Reps K H (ws.map D.str) (ws.map V.str) []
 | []=>.nil
 | w::ws=>.cons (F:=[]) (G:=[]) (.str w) (Reps.strs ws)
def Qd3 (d:D) (k:Str->Prop):Prop:=match d with
 | .str y=>k y
 | _=>False
end PV
namespace PV
open PySem PySem.Spec L2
open Builtin.Str (glued tooLong subAt)
section
variable {m4:Bool}
theorem Reps.pick {K:PySem.W.Frag} {H:Hp} {ds:List D} {xs:List V} (r:Reps K H ds xs []):∀(js:List Nat),Reps K H (js.filterMap (ds[·]?)) (js.filterMap (xs[·]?)) []
 | []=>.nil
 | j::js=>by
  cases hx:ds[j]? with
  | none =>
   have:xs[j]? = none:=by
    have h1:=r.length
    have h2:=List.getElem?_eq_none_iff.mp hx
    exact List.getElem?_eq_none_iff.mpr (by omega)
   rw [List.filterMap_cons_none hx,List.filterMap_cons_none this]
   exact Reps.pick r js
  | some d =>
   obtain ⟨v,B,h1,h2,h3⟩:=r.get hx
   have:=List.sublist_nil.mp h3
   subst this
   rw [List.filterMap_cons_some hx,List.filterMap_cons_some h1]
   exact .cons (F:=[]) (G:=[]) h2 (Reps.pick r js)
def dSt:D->Option Int->Option Int->Option Int->(D->Prop)->Prop
 | .lst xs,lo,hi,c,k=>Qi xs=true/\c≠some 0/\c≠none/\(Gz xs lo hi c).length<=sizeLine/\k (.lst (Gz xs lo hi c))
 | _,_,_,_,_=>False
def wSt (w:WE) (wl wh wc:WO):WE:=λρ Q=>w ρ λd ρ1=>wl ρ1 λlo ρ2=>wh ρ2 λhi ρ3=>wc ρ3 λc ρ4=>dSt d lo hi c λd'=>Q d' ρ4
theorem Qd5 {α β:Type} {xs:List α} {ys:List β} (h:xs.length=ys.length) {c:Option Int}:(Gz xs lo hi c).length=(Gz ys lo hi c).length:=by
 unfold Gz
 rw [h]
 generalize sliceRange _ _ _=js
 induction js with
 | nil=>rfl
 | cons j js ih =>
  cases hx:xs[j]? with
  | none =>
   have:ys[j]? = none:=List.getElem?_eq_none_iff.mpr (by have:=List.getElem?_eq_none_iff.mp hx;omega)
   rw [List.filterMap_cons_none hx,List.filterMap_cons_none this];exact ih
  | some u =>
   have hj:=(List.getElem?_eq_some_iff.mp hx).1
   have:ys[j]? = some (ys[j]'(by omega)):=List.getElem?_eq_getElem _
   rw [List.filterMap_cons_some hx,List.filterMap_cons_some this,List.length_cons,List.length_cons,ih]
theorem Qqb {lo hi:Option Expr} {wl wh wc:WO} (he:EV X T m1 o1 e w) (hl:OV X T m2 lo wl) (hh:OV X T m3 hi wh) (hs:OV X T m4 (some se) wc) (hc:o1=true\/(m2 || (m3 || m4))=false:=by first | exact .inl rfl | exact .inr rfl) :
  EV X T (m1 || (m2 || (m3 || m4))) true (.Subscript e (.Slice lo hi (some se) p2) pos) (wSt w wl wh wc):=by
 obtain ⟨te,pe,ge⟩:=he
 obtain ⟨tl,pl,gl⟩:=hl
 obtain ⟨th,ph,gh⟩:=hh
 obtain ⟨ts,ps,gs⟩:=hs
 refine ⟨_,Qdj pe pl ph ps,λz R σ H W ρ Q Q' s hw k=>?_⟩
 refine ge z R σ H W ρ _ _ s hw λv H1 W1 d ρ1 F p q=>?_
 refine gl z R σ H1 W1 ρ1 _ _ p.sr q λlo H2 W2 ρ2 p2 q2=>?_
 refine gh z R σ H2 W2 ρ2 _ _ p2.sr q2 λhi H3 W3 ρ3 p3 q3=>?_
 refine gs z R σ H3 W3 ρ3 _ _ p3.sr q3 λc H4 W4 ρ4 p4 q4=>?_
 have pp:=p2.seq (p3.seq p4)
 have r3:Rep X.K H4 d v F:=by
  rcases hc with hc | hc
  ·exact p.rep.keep pp.fr λa h=>((p.own hc).2 a h).2
  ·exact p.rep.same (pp.calm hc).1
 have fin:∀ad d' v' Fn,Fin X.K H4 ad d' v' Fn->Q d' ρ4->Q' v' ad:=λH' d' v' F' fi hq=>by
  refine k v' H' W4 d' ρ4 F' (Post.fin p4.sr (p.fr.trans pp.fr) (λh=>?_) fi.same fi.rep fi.nd fi.new) hq
  rw [Bool.or_eq_false_iff] at h
  obtain ⟨a1,a2,a3⟩:=p.calm h.1
  obtain ⟨b1,b2,b3⟩:=pp.calm h.2
  exact ⟨a1.trans b1,b2.trans a2,b3.trans a3⟩
 match d,r3,q4 with
 | .lst ds,r3,q4 =>
  cases r3 with
  | @lst a xs _ F e1 r9 =>
   obtain ⟨hp,h0,h00,hz,hq⟩:=q4
   obtain ⟨_,r9⟩:=r9.pure hp
   refine ⟨a,xs,rfl,.of e1,h0,h00,by rw [Qd5 r9.length];exact hz,λl hl=>fin _ _ _ [l] ⟨Qm hl,.lst Qj (Reps.same ?_ (Qm hl)),by simp,λb m=>by rw [List.mem_singleton.mp m];exact hl⟩ hq⟩
   unfold Gz
   rw [r9.length]
   exact r9.pick _
end
end PV
variable {j:Int} {kvs:List (L2.Key × PV.D)} {kk:PV.D->PV.D->Prop}
namespace PV
open PySem PySem.Spec L2 PyProof.Rows
section
variable {k:Nat}
theorem Qoc (ht:T.own i=false:=by rfl) (hN:X.N[i]? = some x:=by rfl) (hv:Vis X.env.scope x:=by first | exact Or.inl rfl | exact Or.inr (Or.inl rfl) | exact Or.inr (Or.inr rfl)) (hd:(x == ("__debug__" : Str))=false:=by decide)
  (hcd:(x == ("__classdict__" : Str))=false:=by decide):IV X T false true tg (.Name x p) (Qab (wVar i)):=by
 refine ⟨_,Qfc (Zh hN hv hd hcd),λz R σ H W ρ Q RR s hw k=>?_⟩
 unfold Qab wVar at hw
 cases hl:look ρ i with
 | none=>rw [hl] at hw;exact hw.elim
 | some d =>
 rw [hl] at hw
 have q:=hw
 obtain ⟨fp,s0⟩:=id s
 obtain ⟨v,h1,r0⟩:=s0.at_ i d hl
 have nW:∀b∈fp i,¬W b:=λb hb hw=>s0.wr b hw (s0.ro i d hl ht b hb)
 refine ⟨v,h1,?_⟩
 cases d with
 | tup ds =>
  obtain ⟨hp,q⟩:=q
  obtain ⟨hF,rp⟩:=r0.pure (by simpa [D.pure] using hp)
  cases rp with
  | @tup a xs _ _ e1 r =>
   refine ⟨a,rfl,.inr ⟨⟨xs,.of e1⟩,k _ H W ds ρ ⟨s,FrW.refl H W,λ_=>⟨Same.refl H,rfl,rfl⟩⟩ (λi H2 W2 f=>?_) q⟩⟩
   have e2:H2 a=some (.tup xs):=f.imm _ _ e1 rfl
   refine ⟨λhi=>⟨xs,.of e2,by rw [r.length];exact hi⟩,λd hd=>?_⟩
   obtain ⟨x,B,hx,rx,sx⟩:=r.get hd
   refine ⟨⟨xs,x,.of e2,hx⟩,λv H3 y=>?_⟩
   obtain ⟨rfl,y⟩:=y
   have:=y xs (.of e2)
   rw [hx] at this
   cases this
   exact ⟨Same.refl _,B,rx.keep f (λa ha=>(nomatch sx.subset ha)),(λa ha=>(nomatch sx.subset ha))⟩
 | lst ds =>
  generalize hfp:fp i=G at r0 nW
  cases r0 with
  | @lst a xs _ F e1 r =>
   refine ⟨a,rfl,.inl ⟨⟨xs,.of e1⟩,k _ H W ds ρ ⟨s,FrW.refl H W,λ_=>⟨Same.refl H,rfl,rfl⟩⟩ (λi H2 W2 f=>?_) q⟩⟩
   rw [Qbm] at f
   have e2:H2 a=some (.lst xs):=f.keep _ _ e1 (nW a List.mem_cons_self)
   refine ⟨λhi=>⟨xs,.of e2,by rw [r.length];exact hi⟩,λd hd=>?_⟩
   obtain ⟨x,B,hx,rx,sx⟩:=r.get hd
   refine ⟨⟨xs,x,.of e2,hx⟩,λv H3 y=>?_⟩
   obtain ⟨rfl,y⟩:=y
   have:=y xs (.of e2)
   rw [hx] at this
   cases this
   refine ⟨Same.refl _,B,rx.keep f λb hb=>nW b (List.mem_cons_of_mem _ (sx.subset hb)),λb hb hw=>?_⟩
   have hb':b∈a::F:=List.mem_cons_of_mem _ (sx.subset hb)
   rcases f.new b hw with h | h
   ·exact nW b hb' h
   ·obtain ⟨ob,e3,_⟩:=rx.dom b hb
    rw [h] at e3;cases e3
 | kc c =>
  cases c with
  | tup ks =>
   obtain ⟨-,rp⟩:=r0.pure (by rw [D.pure])
   cases rp with
   | kc h =>
    obtain ⟨a,xs,rfl,hs,ar⟩:=h.sqT
    exact ⟨a,rfl,.inr ⟨⟨xs,hs H⟩,k _ H W (ks.map kcD) ρ ⟨s,FrW.refl H W,λ_=>⟨Same.refl H,rfl,rfl⟩⟩ (Qn6 hs ar) q⟩⟩
  | _=>exact (show False from q).elim
 | _=>exact (show False from q).elim
end
theorem sz0:(0<=sizeLine)=True:=propext ⟨λ_=>trivial,λ_=>by decide⟩
theorem sz1:(1<=sizeLine)=True:=propext ⟨λ_=>trivial,λ_=>by decide⟩
theorem sz2:(2<=sizeLine)=True:=propext ⟨λ_=>trivial,λ_=>by decide⟩
theorem sz3:(3<=sizeLine)=True:=propext ⟨λ_=>trivial,λ_=>by decide⟩
end PV
namespace L2
open PySem PySem.Spec PyProof.Rows
def tFrz (te:TE):TE:=λσ H Q=>te σ H λv H1=>∃a xs,v=.ref a/\H1 a=some (.lst xs)/\∀o,Q v (upd H1 a (.frz o (.lst xs)))
theorem Qjh (he:PE X e te):PE X e (tFrz te):=by
 intro pins s σ H Q I h
 refine thn (he pins s σ H _ I h) λv s1 ⟨x,H1,I1,r1,q⟩=>?_
 obtain ⟨a,xs,rfl,ha,q⟩:=q
 obtain ⟨z,its,n,rv,hob⟩:=(show J0 X.prog X.w H1 s1.heap a (.lst xs) from I1.hok a _ ha)
 exact ⟨.ref a,_,I1.write (x:=a) (e:=a) (o:=.frz _ (.lst xs)) (t':=s1.toks) (by rw [ha];trivial) (.inl rfl) (λb u _ q=>q) ⟨_,hob⟩ (show J0 X.prog X.w _ s1.heap a (.frz _ (.lst xs)) from ⟨hob,z,its,n,rv,hob⟩),r1,q _⟩
end L2
variable {s:Nat} {k:List PV.D->Prop}
namespace PV
open PySem PySem.Spec L2 PyProof.Rows
def Qoh (d:D) (k:D->Prop):Prop:=match d with
 | .lst xs=>Qi xs=true/\k (.fls xs)
 | _=>False
def wFrz (w:WE):WE:=λρ Q=>w ρ λd ρ'=>Qoh d λd'=>Q d' ρ'
theorem Qok (h:EV X T m true e w):EV X T m true e (wFrz w):=by
 obtain ⟨te,pe,ge⟩:=h
 refine ⟨_,Qjh pe,λz R σ H W ρ Q Q' s hw k=>?_⟩
 refine ge z R σ H W ρ _ _ s hw λv H1 W1 d ρ1 F p q=>?_
 cases d with
 | lst xs =>
  obtain ⟨hp,q⟩:=q
  obtain ⟨sr,fr,calm,rep,own⟩:=p
  obtain ⟨nd,own⟩:=own rfl
  cases rep with
  | @lst a ys _ G e1 r =>
   obtain ⟨hG,r⟩:=r.pure hp
   subst hG
   obtain ⟨ha,hW⟩:=own a List.mem_cons_self
   have hR:¬R a:=s.nr ha
   refine ⟨a,ys,rfl,e1,λob=>?_⟩
   have im:ImmK H1 (upd H1 a (.frz ob (.lst ys))):=Zv e1 rfl
   have ne:∀{b:Addr} {u:HO},H b=some u->b≠a:=λ{b u} hb z=>by rw [z,ha] at hb;cases hb
   have sr':SR X.K T z R (upd H1 a (.frz ob (.lst ys))) W1 σ ρ1:=by
    obtain ⟨fp,s0⟩:=sr
    have off:∀i d,look ρ1 i=some d->∀b∈fp i,b≠a:=λi d hl b hb hz=>by
     subst hz
     cases ht:T.own i with
     | true=>exact hW ((s0.own i d hl ht).2 b hb)
     | false=>exact hR (s0.ro i d hl ht b hb)
    refine ⟨fp,s0.len,λb hb=>?_,λi d hl=>?_,s0.own,s0.ro,s0.wr,λb hb=>?_,s0.dis,s0.fix⟩
    ·obtain ⟨u,h1,h2⟩:=s0.wd b hb
     exact ⟨u,by rw [Qk (show b≠a from λhz=>hW (by rw [← hz];exact hb))];exact h1,h2⟩
    ·obtain ⟨v,h1,h2⟩:=s0.at_ i d hl
     exact ⟨v,h1,h2.frame im λb hb=>Qk (off i d hl b hb)⟩
    ·obtain ⟨u,h1,h2⟩:=s0.rd b hb
     exact ⟨u,by rw [Qk (show b≠a from λhz=>hR (by rw [← hz];exact hb))];exact h1,h2⟩
   have fr':FrW H W (upd H1 a (.frz ob (.lst ys))) W1:=by
    refine ⟨λb u hb hn=>?_,λb hb=>?_,λb u hb hi=>?_,fr.new⟩
    ·rw [Qk (ne hb)];exact fr.keep b u hb hn
    ·by_cases hz:b=a
     ·rw [hz];exact ha
     ·rw [Qk hz] at hb;exact fr.dom b hb
    ·rw [Qk (ne hb)];exact fr.imm b u hb hi
   refine k _ _ W1 (.fls xs) ρ1 [] ⟨sr',fr',λhm=>?_,.fls Qj (r.frame im λb hb=>nomatch hb),λ_=>⟨List.nodup_nil,λb hb=>nomatch hb⟩⟩ q
   obtain ⟨c1,c2,c3⟩:=calm hm
   exact ⟨λb u hb=>by rw [Qk (ne hb)];exact c1 b u hb,c2,c3⟩
 | _=>exact (show False from q).elim
theorem SR0.freezeL {W:Addr->Prop} {a:Addr} {kvs:List V} {ob:Obj} (h:SR0 K T z R H W σ ρ fp)
  (hl:look ρ s=some (.lst ds)) (ht:T.own s=true) (hv:σ[s]? = some (some (.ref a))) (e:H a=some (.lst kvs)) (r:Reps K H ds kvs []) (hF:fp s=[a]) :
  SR K T z R (upd H a (.frz ob (.lst kvs))) (λb=>W b/\b≠a) σ (ρ.set s (some (.fls ds))):=by
 obtain ⟨nd,sw⟩:=h.own s _ hl ht
 rw [hF] at nd sw
 obtain ⟨na,ndF⟩:=List.nodup_cons.mp nd
 have hWa:=sw a List.mem_cons_self
 have hRa:¬R a:=h.wr a hWa
 have hi:ImmK H (upd H a (.frz ob (.lst kvs))):=Zv e rfl
 have notin:∀j d,look ρ j=some d->j≠s->a∉fp j:=λj d hj hne ha=>by
  cases hto:T.own j with
  | true=>exact h.dis s j _ d hl hj ht hto (λz=>hne z.symm) a (by rw [hF];exact List.mem_cons_self) ha
  | false=>exact hRa (h.ro j d hj hto a ha)
 refine ⟨λj=>if j=s then [] else fp j,?_,?_,?_,?_,?_,?_,?_,?_,h.fix⟩
 ·rw [List.length_set];exact h.len
 ·rintro b ⟨hb,hne⟩
  rw [Qk hne];exact h.wd b hb
 ·intro j d hj
  by_cases hjs:j=s
  ·subst hjs
   rw [Vv (Qby hl)] at hj
   cases hj
   exact ⟨_,hv,by rw [if_pos rfl];exact .fls Qj (r.upd e rfl (λh=>nomatch h))⟩
  ·rw [Qp hjs] at hj
   obtain ⟨u,h1,h2⟩:=h.at_ j d hj
   refine ⟨u,h1,?_⟩
   rw [if_neg hjs]
   exact h2.frame hi λb hb=>Qk λz=>notin j d hj hjs (z ▸ hb)
 ·intro j d hj hto
  by_cases hjs:j=s
  ·subst hjs
   simp only [if_pos]
   exact ⟨List.nodup_nil,λb hb=>nomatch hb⟩
  ·rw [Qp hjs] at hj
   simp only [if_neg hjs]
   exact ⟨(h.own j d hj hto).1,λb hb=>⟨(h.own j d hj hto).2 b hb,λz=>notin j d hj hjs (z ▸ hb)⟩⟩
 ·intro j d hj hto
  have hjs:j≠s:=λz=>by subst z;rw [ht] at hto;cases hto
  rw [Qp hjs] at hj
  simp only [if_neg hjs]
  exact h.ro j d hj hto
 ·exact λb hb hr=>h.wr b hb.1 hr
 ·intro b hr
  rw [Qk (show b≠a from λz=>hRa (z ▸ hr))];exact h.rd b hr
 ·intro j k d d' hj hk tj tk hne b hb hb'
  by_cases hjs:j=s
  ·subst hjs
   have hkj:k≠j:=λz=>hne z.symm
   rw [Qp hkj] at hk
   simp only [if_pos,if_neg hkj] at hb hb'
   exact nomatch hb
  ·rw [Qp hjs] at hj
   simp only [if_neg hjs] at hb
   by_cases hks:k=s
   ·subst hks
    simp only [if_pos] at hb'
    exact nomatch hb'
   ·rw [Qp hks] at hk
    simp only [if_neg hks] at hb'
    exact h.dis j k d d' hj hk tj tk hne b hb hb'
def Qnt (d:D) (k:List D->Prop):Prop:=match d with
 | .lst ds=>Qi ds=true/\k ds
 | _=>False
def Qjv (s:Nat):WL:=λρ Q=>oget (look ρ s) λc=>Qnt c λds=>Q ds (ρ.set s (some (.fls ds)))
theorem Qk3 (ht:T.own s=true:=by rfl) (hN:X.N[s]? = some x:=by rfl) (hv:Vis X.env.scope x:=by first | exact Or.inl rfl | exact Or.inr (Or.inl rfl) | exact Or.inr (Or.inr rfl)) (hd:(x == ("__debug__" : Str))=false:=by decide)
  (hcd:(x == ("__classdict__" : Str))=false:=by decide):IV X T true true tg (.Name x p) (Qjv s):=by
 refine ⟨_,Qfc (Qjh (Zh hN hv hd hcd)),λz R σ H W ρ Q RR sr hw k=>?_⟩
 obtain ⟨c,hl,hw⟩:=Qs hw
 obtain ⟨ds,rfl⟩:∃ds,c=D.lst ds:=by
  clear hl
  cases c with
  | lst ds=>exact ⟨ds,rfl⟩
  | _=>exact (show False from hw).elim
 obtain ⟨hp,hw⟩:=hw
 obtain ⟨fp,s0⟩:=id sr
 obtain ⟨v,hv0,r0⟩:=s0.at_ s _ hl
 obtain ⟨a,ys,rfl,e,r,hF⟩:∃(a:Addr) (ys:List V),v=.ref a/\H a=some (.lst ys)/\Reps X.K H ds ys []/\fp s=[a]:=by
  generalize fp s=Fi at r0
  cases r0 with
  | @lst a ys _ F e1 r =>
   obtain ⟨hG,r⟩:=r.pure hp
   exact ⟨a,ys,rfl,e1,r,by rw [hG]⟩
 have hWa:W a:=(s0.own s _ hl ht).2 a (by rw [hF];exact List.mem_cons_self)
 refine ⟨_,hv0,a,ys,rfl,e,λob=>⟨a,rfl,.inl ⟨⟨ys,.inl (.inr ⟨ob,Qj⟩)⟩,k _ _ (λb=>W b/\b≠a) ds _ ⟨s0.freezeL hl ht hv0 e r hF,⟨λb u eb nb=>?_,λb eb=>?_,Zv e rfl,λb hb=>.inl hb.1⟩,λh=>nomatch h⟩ ?_ hw⟩⟩⟩
 ·rw [Qk (show b≠a from λz=>nb (by rw [z];exact hWa))];exact eb
 ·by_cases hb:b=a
  ·rw [hb,Qj] at eb;cases eb
  ·rw [Qk hb] at eb;exact eb
 ·rw [Qbm]
  intro i H2 W2 f
  have fz:FzL X.K (upd H a (.frz ob (.lst ys))) a ys:=.inl ⟨ob,Qj⟩
  have r':Reps X.K (upd H a (.frz ob (.lst ys))) ds ys []:=r.upd e rfl (λh=>nomatch h)
  have e2:=f.imm.fzL fz
  refine ⟨λhi=>⟨ys,e2.sq,by rw [r.length];exact hi⟩,λd hd=>?_⟩
  obtain ⟨x,B,hx,rx,sx⟩:=r'.get hd
  refine ⟨⟨ys,x,e2.sq,hx⟩,λv H3 y=>?_⟩
  obtain ⟨rfl,y⟩:=y
  have:=y ys e2.sq
  rw [hx] at this
  cases this
  exact ⟨Same.refl _,B,rx.keep f (λa ha=>(nomatch sx.subset ha)),(λa ha=>(nomatch sx.subset ha))⟩
theorem Qmy:Qnt (.lst xs) k=(Qi xs=true/\k xs):=rfl
end PV
variable {b c:Bool} {i:Int} {Q:List PV.D->PV.Env->Prop} {r:List PySem.Str} {wg:PV.WG} {wgs:List PV.D->PV.Env->(PV.Env->Prop)->Prop}
namespace PV
open PySem PySem.Spec L2
theorem V0 {α:Type} (xs:List α) (j:Nat):L2.atI xs (j:Int)=xs[j]?:=by
 unfold L2.atI ixN
 rw [if_pos (by omega)]
 by_cases h:j<xs.length
 ·rw [if_pos (by omega)];simp
 ·rw [if_neg (by omega)];simp;omega
theorem Vf {α:Type} (xs:List α):L2.atI xs 0=xs[0]?:=V0 xs 0
theorem Ve {α:Type} (xs:List α):L2.atI xs 1=xs[1]?:=V0 xs 1
theorem Ub {α:Type} (xs:List α):L2.atI xs 2=xs[2]?:=V0 xs 2
theorem Qo0 {α:Type} (xs:List α):L2.atI xs 3=xs[3]?:=V0 xs 3
theorem Zu {j:Nat} (h:j<n):ixN n (j:Int)=some j:=by
 unfold ixN
 rw [if_pos (by omega),if_pos (by omega)];simp
theorem Qk2 (h:0<n):ixN n 0=some 0:=Zu h
theorem Qk1 (h:1<n):ixN n 1=some 1:=Zu h
theorem Qob (h:2<n):ixN n 2=some 2:=Zu h
theorem Qoa (h:3<n):ixN n 3=some 3:=Zu h
theorem Qbq {j:Nat} (h:j<n):seqIndex? (j:Int) n=some j:=(X4 (Zu h)).1
theorem Qd8 (h:0<n):seqIndex? 0 n=some 0:=Qbq h
theorem Qo {α:Type} {d:α} {k:α->Prop}:oget (some d) k=k d:=rfl
theorem Jn {i:Nat} {Q:D->Env->Prop}:wVar i ρ Q=oget (look ρ i) λd=>Q d ρ:=by
 unfold wVar oget
 cases look ρ i <;> rfl
section
variable {ys:List D} {k:D->Prop} {kts:List (List Key × D)}
theorem Qmu:dAdd (.int i) (.int j) k=k (.int (i+j)):=rfl
theorem Qi4:dAdd (.str x) (.str y) k=(x.length+y.length<=sizeLine/\k (.str (x++y))):=rfl
theorem Qi3:dAdd (.tup xs) (.tup ys) k=(Qi xs=true/\Qi ys=true/\xs≠[]/\xs.length+ys.length<=sizeLine/\k (.tup (xs++ys))):=rfl
theorem Qi5:dAdd (.lst xs) (.lst ys) k=(Qi xs=true/\Qi ys=true/\xs.length+ys.length<=sizeLine/\k (.lst (xs++ys))):=rfl
theorem Qdg:dSub (.int i) (.int j) k=k (.int (i-j)):=rfl
theorem Qmh:dMul (.int i) (.int j) k=(CMul i j/\k (.int (i*j))):=rfl
theorem Qim:dMul (.lst xs) (.int j) k=(Qi xs=true /\ -(2 ^ 63)<=j/\j<2 ^ 63/\xs.length*j.toNat<=sizeLine/\k (.lst (List.replicate j.toNat xs).flatten)):=rfl
theorem Qpk:dDiv (.int i) (.int j) k=((0<j/\j<1073741824/\k (.int (i / j)))\/(j<0/\j.natAbs<1073741824/\k (.int (i.fdiv j)))):=rfl
theorem Qpj:dMod (.int i) (.int j) k=((0<j/\k (.int (i % j)))\/(j<0/\k (.int (i.fmod j)))):=rfl
theorem Qpi:dPow (.int i) (.int j) k=(CPow i j/\k (.int (i ^ j.toNat))):=rfl
theorem Qmd:dNeg (.int i) k=k (.int (-i)):=rfl
theorem G4:dEq (.int i) (.int j) k=k (.bl (decide (i=j))):=rfl
theorem Qg3:dNe (.int i) (.int j) k=k (.bl (!decide (i=j))):=rfl
theorem Qmt:dEq (.bl b) (.bl c) k=k (.bl (b == c)):=rfl
theorem Qmg:dNe (.bl b) (.bl c) k=k (.bl (!(b == c))):=rfl
theorem G3:dEq (.str x) (.str y) k=k (.bl (decide (x=y))):=rfl
theorem Qg2:dNe (.str x) (.str y) k=k (.bl (!decide (x=y))):=rfl
theorem Qmr:dEq (.tup xs) d k=(eqOk 9 (.tup xs)=true/\eqOk 9 d=true/\(.tup xs=d->k (.bl true))/\(.tup xs≠d->k (.bl false))):=by cases d <;> rfl
theorem Qme:dNe (.tup xs) d k=(eqOk 9 (.tup xs)=true/\eqOk 9 d=true/\(.tup xs=d->k (.bl false))/\(.tup xs≠d->k (.bl true))):=by cases d <;> rfl
theorem Qms:dEq (.lst xs) d k=(eqOk 9 (.lst xs)=true/\eqOk 9 d=true/\(.lst xs=d->k (.bl true))/\(.lst xs≠d->k (.bl false))):=by cases d <;> rfl
theorem Qmf:dNe (.lst xs) d k=(eqOk 9 (.lst xs)=true/\eqOk 9 d=true/\(.lst xs=d->k (.bl false))/\(.lst xs≠d->k (.bl true))):=by cases d <;> rfl
theorem Xy {f:Int->Int->Bool}:dCmp f (.int i) (.int j) k=k (.bl (f i j)):=rfl
theorem V4:dIx (.lst xs) (.int i) k=oget (L2.atI xs i) k:=rfl
theorem Qml:dIx (.tup xs) (.int i) k=oget (L2.atI xs i) k:=rfl
theorem Qmm:dIx (.kls xs) (.int i) k=oget (L2.atI xs i) k:=rfl
theorem Qit:dIx (.dik kvs) (.int i) k=oget (valD kvs (.inl i)) k:=rfl
theorem Qis:dIx (.dik kvs) (.str x) k=oget (valD kvs (.inr x)) k:=rfl
theorem Qir:dIx (.dit kts) (.tup xs) k=oget (Ye xs) λks=>oget (valD kts ks) k:=rfl
theorem Xh:dLen [.lst xs] k=k (.int xs.length):=rfl
theorem Qin:dLen [.tup xs] k=k (.int xs.length):=rfl
theorem Qio:dLen [.kls xs] k=k (.int xs.length):=rfl
theorem Qip:dLen [.dik kvs] k=k (.int kvs.length):=rfl
theorem Qmn:dInt [.int i] k=k (.int i):=rfl
theorem Qiu:dInt [.bl b] k=k (.int (if b then 1 else 0)):=rfl
theorem Qmv:dAbs [.int i] k=k (.int (if i<0 then -i else i)):=rfl
theorem Qmi:Qqh [.int i,.int j] k=k (.int (if j<i then j else i)):=rfl
theorem Qmj:Qqi [.int i,.int j] k=k (.int (if j > i then j else i)):=rfl
theorem Qes:Qlh [.lst xs] k=(Qi xs=true/\k (.lst xs)):=rfl
theorem Qer:Qlh [.tup xs] k=(Qi xs=true/\k (.lst xs)):=rfl
theorem Qet:Qlh [.kls xs] k=(Qi xs=true/\k (.lst xs)):=rfl
theorem Qif:Qjs [.lst xs] k=(Qi xs=true/\k (.tup xs)):=rfl
theorem Qie:Qjs [.tup xs] k=(Qi xs=true/\k (.tup xs)):=rfl
theorem Qen:Qon [.int i] k=(0<=i/\i<=1000/\k (.lst (rngD 0 i.toNat))):=rfl
theorem Qkd {t:Ty}:dIsi [d,.ty t] k=oget (isiD d t) λb=>k (.bl b):=rfl
theorem Qma:dSl (.lst xs) lo hi k=(Qi xs=true/\k (.lst (cutD xs lo hi))):=rfl
theorem Qmb:dSl (.kls xs) lo hi k=(Qi xs=true/\k (.lst (cutD xs lo hi))):=rfl
theorem Ql9:dSl (.tup xs) lo hi k=(Qi xs=true/\¬(HT.sIx xs.length 0 lo=0/\HT.sIx xs.length xs.length hi=xs.length)/\k (.tup (cutD xs lo hi))):=rfl
theorem Qeg:dSet (.lst xs) (.int i) d k=oget (ixN xs.length i) λn=>k (.lst (xs.set n d)):=rfl
theorem Qej:dSet (.dik kvs) (.int i) d k=(kvs.length<sizeLine/\k (.dik (putD kvs (.inl i) d))):=rfl
theorem Qei:dSet (.dik kvs) (.str x) d k=(kvs.length<sizeLine/\k (.dik (putD kvs (.inr x) d))):=rfl
theorem Qeh:dSet (.dit kts) (.tup xs) d k=(kts.length<sizeLine/\oget (Ye xs) λks=>k (.dit (putD kts ks d))):=rfl
theorem Qix {n:Bool}:dIn n (.int i) (.dik kvs) k=k (.bl (xor n (valD kvs (.inl i)).isSome)):=rfl
theorem Qiw {n:Bool}:dIn n (.str x) (.dik kvs) k=k (.bl (xor n (valD kvs (.inr x)).isSome)):=rfl
theorem Qiv {n:Bool}:dIn n (.tup xs) (.dit kts) k=oget (Ye xs) λks=>k (.bl (xor n (valD kts ks).isSome)):=rfl
theorem Qmo {n:Bool}:dIn n (.str x) (.str y) k=k (.bl (xor n (!(Builtin.Str.occurrences y x 0 y.length 1).isEmpty))):=rfl
end
theorem Qey:Yr (.lst xs) [d] kk=(xs.length<sizeLine/\kk .non (.lst (xs++[d]))):=rfl
theorem Qep:Qoe (.lst xs) [.int i] kk=(-(2 ^ 63)<=i/\i<2 ^ 63/\oget (seqIndex? i xs.length) λj=>oget xs[j]? λd=>d.pure=true/\kk d (.lst (xs.eraseIdx j))):=rfl
theorem Qmc:gPop (.lst xs) [] kk=oget xs[xs.length-1]? λd=>d.pure=true/\kk d (.lst xs.dropLast):=rfl
theorem Qex:Qog (.lst xs) [] kk=kk .non (.lst []):=rfl
section
variable {k:D->Prop}
theorem Qcm (h:0<j) (h2:j<1073741824):dDiv (.int i) (.int j) k=k (.int (i / j)):=by
 rw [Qpk]
 apply propext
 exact ⟨λq=>q.elim (λz=>z.2.2) (λz=>absurd z.1 (by omega)),λq=>.inl ⟨h,h2,q⟩⟩
theorem Qaq (h:0<j):dMod (.int i) (.int j) k=k (.int (i % j)):=by
 rw [Qpj]
 apply propext
 exact ⟨λq=>q.elim (λz=>z.2) (λz=>absurd z.1 (by omega)),λq=>.inl ⟨h,q⟩⟩
theorem Qcl (h:-18446744073709551616<i) (h2:i<18446744073709551616):dMul (.int i) (.int j) k=k (.int (i*j)):=by
 rw [Qmh]
 exact propext ⟨λq=>q.2,λq=>⟨.inl ⟨by omega,by omega⟩,q⟩⟩
theorem Qeq (h:-18446744073709551616<j) (h2:j<18446744073709551616):dMul (.int i) (.int j) k=k (.int (i*j)):=by
 rw [Qmh]
 exact propext ⟨λq=>q.2,λq=>⟨.inr ⟨by omega,by omega⟩,q⟩⟩
theorem Qeo (h:0<=j) (h2:j<=1000000) (h3:-18446744073709551616<i) (h4:i<18446744073709551616):dPow (.int i) (.int j) k=k (.int (i ^ j.toNat)):=by
 rw [Qpi]
 exact propext ⟨λq=>q.2,λq=>⟨⟨h,h2,by omega⟩,q⟩⟩
end
def blOf (d:D) (k:Bool->Prop):Prop:=match d with
 | .bl b=>k b
 | _=>False
theorem r_bl {Q:Bool->Env->Prop}:wBl w ρ Q=w ρ λd ρ'=>blOf d λb=>Q b ρ':=by
 show (w ρ λd ρ'=>match d with | .bl b=>Q b ρ' | _=>False)=_
 rfl
theorem Q5 {k:Bool->Prop}:blOf (.bl b) k=k b:=rfl
def Qc8 (d:D) (k:Bool->Prop):Prop:=oget (truD d) k
theorem Gh {Q:Bool->Env->Prop}:wTru w ρ Q=w ρ λd ρ'=>Qc8 d λb=>Q b ρ':=by
 unfold wTru
 congr 1
 funext d ρ'
 unfold Qc8 oget
 cases truD d <;> rfl
theorem Y7 {k:Bool->Prop}:Qc8 (.bl b) k=k b:=rfl
theorem Qii {k:Bool->Prop}:Qc8 (.int i) k=k (i != 0):=rfl
theorem Qih {k:Bool->Prop}:Qc8 (.lst xs) k=k (!xs.isEmpty):=rfl
theorem Qig {k:Bool->Prop}:Qc8 (.tup xs) k=k (!xs.isEmpty):=rfl
def Qj7 (d:D) (k:List D->Prop):Prop:=match d with
 | .tup ds=>Qi ds=true/\k ds
 | .lst ds=>k ds
 | .kc (.tup ks)=>k (ks.map kcD)
 | _=>False
theorem Qek:Qab w ρ Q=w ρ λd ρ'=>Qj7 d λds=>Q ds ρ':=by
 show (w ρ λd ρ'=>match d with | .tup ds=>Qi ds=true/\Q ds ρ' | .lst ds=>Q ds ρ' | .kc (.tup ks)=>Q (ks.map kcD) ρ' | _=>False)=_
 rfl
theorem Qij:Qj7 (.tup xs) k=(Qi xs=true/\k xs):=rfl
theorem Qap:Qj7 (.lst xs) k=k xs:=rfl
def Qnw (d:D) (k:List D->Prop):Prop:=match d with
 | .kls ds=>k ds
 | _=>False
theorem Qmk:Qo4 w ρ Q=w ρ λd ρ'=>Qnw d λds=>Q ds ρ':=by
 show (w ρ λd ρ'=>match d with | .kls ds=>Q ds ρ' | _=>False)=_
 rfl
theorem Qiq:Qnw (.kls xs) k=k xs:=rfl
def Qh5 (d:D) (k:List D->Prop):Prop:=match d with
 | .dik kvs=>k (kvs.map (·.2))
 | _=>False
theorem Qid:Qo3 w ρ Q=w ρ λd ρ'=>Qh5 d λds=>Q ds ρ':=by
 show (w ρ λd ρ'=>match d with | .dik kvs=>Q (kvs.map (·.2)) ρ' | _=>False)=_
 rfl
theorem Qee:Qh5 (.dik kvs) k=k (kvs.map (·.2)):=rfl
def Qk4 (d:D) (k:Option Int->Prop):Prop:=match d with
 | .int i=>k (some i)
 | _=>False
theorem Xg {Q:Option Int->Env->Prop}:U4 w ρ Q=w ρ λd ρ'=>Qk4 d λi=>Q i ρ':=by
 show (w ρ λd ρ'=>match d with | .int i=>Q (some i) ρ' | _=>False)=_
 rfl
theorem Z8 {k:Option Int->Prop}:Qk4 (.int i) k=k (some i):=rfl
theorem Qi2 {Q:D->Env->Prop}:Qpa wa wb ρ Q=wa ρ λd ρ1=>blOf d λc=>if c=true then wb ρ1 Q else Q (.bl false) ρ1:=by
 show (wa ρ λd ρ1=>match d with | .bl c=>if c=true then wb ρ1 Q else Q (.bl false) ρ1 | _=>False)=_
 rfl
theorem Qkc {Q:D->Env->Prop}:wOrV wa wb ρ Q=wa ρ λd ρ1=>blOf d λc=>if c=true then Q (.bl true) ρ1 else wb ρ1 Q:=by
 show (wa ρ λd ρ1=>match d with | .bl c=>if c=true then Q (.bl true) ρ1 else wb ρ1 Q | _=>False)=_
 rfl
theorem Qil {Q:D->Env->Prop}:Qo6 wa ρ Q=wa ρ λd ρ1=>blOf d λc=>Q (.bl (!c)) ρ1:=by
 show (wa ρ λd ρ1=>match d with | .bl c=>Q (.bl (!c)) ρ1 | _=>False)=_
 rfl
def Qic (ds:List D) (k:List D->Prop):Prop:=match ds with
 | [.int j]=>-(2 ^ 62)<=j/\j<2 ^ 62/\k (rngD 0 j.toNat)
 | _=>False
theorem Qem:Qgt wr ρ Q=wr ρ λds ρ'=>Qic ds λl=>Q l ρ':=by
 show (wr ρ λds ρ'=>match ds with | [.int j]=>-(2 ^ 62)<=j/\j<2 ^ 62/\Q (rngD 0 j.toNat) ρ' | _=>False)=_
 rfl
theorem Qbt:Qic [.int j] k=(-(2 ^ 62)<=j/\j<2 ^ 62/\k (rngD 0 j.toNat)):=rfl
def Qib (ds:List D) (k:List D->Prop):Prop:=match ds with
 | [.int i,.int j]=>(-(2 ^ 62)<=i/\i<2 ^ 62 /\ -(2 ^ 62)<=j/\j<2 ^ 62)/\k (rngD i (j-i).toNat)
 | _=>False
theorem Qik:Qo5 wr ρ Q=wr ρ λds ρ'=>Qib ds λl=>Q l ρ':=by
 show (wr ρ λds ρ'=>match ds with | [.int i,.int j]=>(-(2 ^ 62)<=i/\i<2 ^ 62 /\ -(2 ^ 62)<=j/\j<2 ^ 62)/\Q (rngD i (j-i).toNat) ρ' | _=>False)=_
 rfl
theorem Qel:Qib [.int i,.int j] k=((-(2 ^ 62)<=i/\i<2 ^ 62 /\ -(2 ^ 62)<=j/\j<2 ^ 62)/\k (rngD i (j-i).toNat)):=rfl
def Qjr (ds:List D) (k:List D->Prop):Prop:=match ds with
 | [.tup es]=>Qi es=true/\k (Qf9 0 es)
 | _=>False
theorem Qi1:Qo9 wr ρ Q=wr ρ λds ρ'=>Qjr ds λl=>Q l ρ':=by
 show (wr ρ λds ρ'=>match ds with | [.tup es]=>Qi es=true/\Q (Qf9 0 es) ρ' | _=>False)=_
 rfl
theorem Qev:Qjr [.tup xs] k=(Qi xs=true/\k (Qf9 0 xs)):=rfl
theorem Qiy {Q:Env->Prop}:Qp7 n wgs (.tup xs) ρ Q=(xs.length=n/\wgs xs ρ Q):=rfl
theorem Qeu {r:List D} {Q:Env->Prop}:Qof wg wgs (d::r) ρ Q=wg d ρ λρ'=>wgs r ρ' Q:=rfl
theorem Qiz {Q:Env->Prop}:Qp8 [] ρ Q=Q ρ:=rfl
theorem Qef:tyD (some (.lst xs)) t=(t == "list"):=rfl
theorem Ql8 {xs:List (Key × D)}:tyD (some (.dik xs)) t=(t == "dict"):=rfl
theorem Ql7 {xs:List (List Key × D)}:tyD (some (.dit xs)) t=(t == "dict"):=rfl
theorem Vs:Vw (.lst xs)=Qi xs:=rfl
theorem Qmq {xs:List (Key × D)}:Vw (.dik xs)=xs.all λkv=>kv.2.pure:=rfl
theorem Qmp {xs:List (List Key × D)}:Vw (.dit xs)=xs.all λkv=>kv.2.pure:=rfl
theorem Qat {α:Type} {f:α->D} {l:List α} (h:∀a∈l,(f a).pure=true):Qi (l.map f)=true:=by
 rw [Qau]
 intro x hx
 obtain ⟨a,ha,rfl⟩:=List.mem_map.mp hx
 exact h a ha
def Qor (ds:List D) (wt:WT) (we:WE) (ρ1:Env) (ix:List Nat) (Q:D->Env->Prop):Prop:=∃I:Nat->List D->Prop,I 0 [] /\
 (∀i d ys,ds[i]? = some d->I i ys->ys.length<sizeLine/\wt (blkE ρ1 d ix) λb _=>if b=true then we (blkE ρ1 d ix) (λy _=>I (i+1) (ys++[y])) else I (i+1) ys) /\
 ∀ys,I ds.length ys->ys.length<=sizeLine/\Q (.lst ys) ρ1
theorem Qew {Q:D->Env->Prop}:Qjx wl wt we ix ρ Q=wl ρ λds ρ1=>Qor ds wt we ρ1 ix Q:=rfl
theorem Qgm {Q:D->Env->Prop} (f:D->D) (hz:ds.length<sizeLine) (he:∀d∈ds,∀Q':D->Env->Prop,Q' (f d) (blkE ρ1 d ix)->we (blkE ρ1 d ix) Q') (hQ:Q (.lst (ds.map f)) ρ1):Qor ds wAll we ρ1 ix Q:=by
 refine ⟨λi ys=>ys=(ds.take i).map f/\i<=ds.length,⟨by simp,Nat.zero_le _⟩,λi d ys hd ⟨hy,hi⟩=>?_,λys ⟨hy,_⟩=>?_⟩
 ·have hlt:=(List.getElem?_eq_some_iff.mp hd).1
  refine ⟨by rw [hy];simp;omega,?_⟩
  simp only [wAll,reduceIte]
  refine he d (List.mem_of_getElem? hd) _ ⟨?_,hlt⟩
  rw [hy,List.take_add_one,hd]
  simp
 ·rw [hy,List.take_length]
  exact ⟨by simp;omega,hQ⟩
def forI (ds:List D) (wg:WG) (wb:WS) (P:EndsP) (ρ1:Env):Prop:=∃I:Nat->Env->Prop,I 0 ρ1 /\
 (∀i d ρ,ds[i]? = some d->I i ρ->wg d ρ λρ'=>wb { P with nx:=I (i+1),ct:=I (i+1),bk:=P.nx } ρ')/\∀ρ,I ds.length ρ->P.nx ρ
theorem Qdh {wb:WS} {P:EndsP}:wFor wl wg wb P ρ=wl ρ λds ρ1=>Qi ds=true/\forI ds wg wb P ρ1:=rfl
def forR (ds:List D) (i₀:Nat) (wb:WS) (P:EndsP) (ρ1:Env):Prop:=∃I:Nat->Env->Prop,I 0 ρ1 /\
 (∀i d ρ,ds[i]? = some d->I i ρ->wb { P with nx:=I (i+1),ct:=I (i+1),bk:=P.nx } (ρ.set i₀ (some d)))/\∀ρ,I ds.length ρ->P.nx ρ
theorem Qi0 {i₀:Nat} {wb:WS} {P:EndsP}:Qo8 wl i₀ wb P ρ=wl ρ λds ρ1=>forR ds i₀ wb P ρ1:=rfl
end PV
namespace PV
open PySem PySem.Spec L2
open PyProof.Rows (envOfC)
abbrev atN (K:PySem.W.Frag) (x:Str) (C:Addr):Prop:=PySem.W.nsIn K mainGlobals x=some (some (.ref C))
end PV
variable {i:Nat}
namespace PV
open PySem PySem.Spec L2
section
variable {i:Int} {ys:List D} {k:D->Prop} {kus:List (Key × D)}
theorem Qas:Yd (.int i) (.int j) k=k (.int (i+j)):=rfl
theorem Zs:Yd (.str x) (.str y) k=(x.length+y.length<=sizeLine/\k (.str (x++y))):=rfl
theorem Qe7:Yd (.tup xs) (.tup ys) k=(Qi xs=true/\Qi ys=true/\xs.length+ys.length<=sizeLine/\k (.tup (xs++ys))):=rfl
theorem Qbu:Yd (.lst xs) (.lst ys) k=(Qi xs=true/\Qi ys=true/\xs.length+ys.length<=sizeLine/\k (.lst (xs++ys))):=rfl
theorem Qar:dSlT (.lst xs) lo hi k=(Qi xs=true/\k (.lst (cutD xs lo hi))):=rfl
theorem Qe0:dSlT (.kls xs) lo hi k=(Qi xs=true/\k (.lst (cutD xs lo hi))):=rfl
theorem Qi8:dSlT (.tup xs) lo hi k=(Qi xs=true/\k (.tup (cutD xs lo hi))):=rfl
theorem Qe1:Qoo [.dik kvs] k=k (.lst (Qbz kvs)):=rfl
theorem Qe4:dIx (.fdk kvs) (.int i) k=oget (valD kvs (.inl i)) k:=rfl
theorem Qe6 {n:Bool}:dEqK n (.dik kvs) (.dik kus) k=(eqK kvs kus/\(Qdd kvs kus->k (.bl (!n)))/\(¬Qdd kvs kus->k (.bl n))):=rfl
theorem Qe5 {n:Bool}:dEqK n (.dik kvs) (.fdk kus) k=(eqK kvs kus/\(Qdd kvs kus->k (.bl (!n)))/\(¬Qdd kvs kus->k (.bl n))):=rfl
theorem Qi9:Qgu.noDct (.dik kvs)=false:=rfl
theorem Qjb:Qli (.dik kvs) (.int i) d k=k ((valD kvs (.inl i)).getD d):=rfl
theorem Qco:Qk9 (.dik kvs) [] kk=kk .non (.dik []):=rfl
theorem Qjc {k:List (Key × D)->Prop}:Qgb (.dik kvs) k=k kvs:=rfl
theorem Qja {k:List D->Prop}:Qcu (.lst xs) k=k xs:=rfl
theorem Qe3:Qky (.int i)=some (.inl i):=rfl
end
def Qfr (d:D) (k:List D->Prop):Prop:=Qgb d λkvs=>k (Qbz kvs)
theorem Qe2:Qo7 w ρ Q=w ρ λd ρ'=>Qfr d λds=>Q ds ρ':=by
 show (w ρ λd ρ'=>match d with | .dik kvs=>Q (Qbz kvs) ρ' | _=>False)=_
 first | rfl | (congr 1;funext d ρ';cases d <;> rfl)
theorem Qcn:Qfr (.dik kvs) k=k (Qbz kvs):=rfl
def Qlp (ds:List D) (k:List D->Prop):Prop:=match ds with
 | [.dik kvs,.lst xs]=>Qi xs=true/\k (zipD kvs xs)
 | _=>False
theorem Qi6:wZip wr ρ Q=wr ρ λds ρ'=>Qlp ds λl=>Q l ρ':=by
 show (wr ρ λds ρ'=>match ds with | [.dik kvs,.lst xs]=>Qi xs=true/\Q (zipD kvs xs) ρ' | _=>False)=_
 rfl
theorem Qez:Qlp [.dik kvs,.lst xs] k=(Qi xs=true/\k (zipD kvs xs)):=rfl
theorem Qi7 {Q:Env->Prop}:Qod i wi d ρ Q=((look ρ i).isSome=true/\wi ρ λc _=>oget (look ρ i) λs=>Qcu s λxs=>Qk4 c λj=>oget (j.bind (ixN xs.length)) λn=>Q (ρ.set i (some (.lst (xs.set n d))))):=by
 unfold Qod
 first | rfl | (congr 1;congr 1;funext c _;congr 1;funext s;congr 1;funext xs;cases c <;> rfl)
theorem Qpt {a b c:D} {r:Int} (h0:0<=r) (h1:r<4):L2.atI [a,b,c,d] r=some a\/L2.atI [a,b,c,d] r=some b\/L2.atI [a,b,c,d] r=some c\/L2.atI [a,b,c,d] r=some d:=by
 have:r=0\/r=1\/r=2\/r=3:=by omega
 rcases this with rfl | rfl | rfl | rfl
 ·exact .inl rfl
 ·exact .inr (.inl rfl)
 ·exact .inr (.inr (.inl rfl))
 ·exact .inr (.inr (.inr rfl))
theorem Gg {lo:Int}:(rngD lo n).length=n:=by simp [rngD]
theorem Qg0 {lo:Int} (h:(rngD lo n)[i]? = some d):i<n/\d=.int (lo+(i:Int)):=by
 have hi:i<n:=by have:=(List.getElem?_eq_some_iff.mp h).1;rwa [Gg] at this
 simp only [rngD,List.getElem?_map,List.getElem?_range hi,Option.map_some,Option.some.injEq] at h
 exact ⟨hi,h.symm⟩
theorem Qe8 {lo:Int}:Qi (rngD lo n)=true:=Qat λ_ _=>rfl
theorem Qe9:Qi (ns.map D.int)=true:=Qat λ_ _=>rfl
theorem Qoq {b:Nat}:cutD ds none (some (b:Int))=ds.take b:=by
 unfold cutD
 rw [HT.Qj9,HT.Qgy,List.drop_zero,Nat.sub_zero]
 by_cases h:b<=ds.length
 ·rw [Nat.min_eq_left h]
 ·rw [Nat.min_eq_right (by omega),List.take_of_length_le (by omega),List.take_of_length_le (by omega)]
def rowD (c n:Int):D:=.lst [.int c,.int n]
theorem len1 {α:Type}:∀{us:List α},us.length=1->∃a,us=[a]
 | [a],_=>⟨a,rfl⟩
theorem len2 {α:Type} {us:List α} (h:us.length=2):∃a b,us=[a,b]:=by
 cases us with
 | nil=>cases h
 | cons a us=>obtain ⟨b,rfl⟩:=len1 (Nat.succ.inj h);exact ⟨a,b,rfl⟩
theorem len3 {α:Type} {us:List α} (h:us.length=3):∃a b c,us=[a,b,c]:=by
 cases us with
 | nil=>cases h
 | cons a us=>obtain ⟨b,c,rfl⟩:=len2 (Nat.succ.inj h);exact ⟨a,b,c,rfl⟩
end PV
variable {c:Nat} {ws:List PySem.Str}
namespace S03
open PySem PySem.Spec L2 PV
open PySem.Builtin.Str (glued)
def jl (c:Nat):List (List Nat)->List Nat
 | []=>[]
 | [w]=>w
 | w::v::r=>w++c::jl c (v::r)
theorem Qjt {c:Nat}:∀{a b s t:List Nat},c∉a->c∉b->a++c::s=b++c::t->a=b/\s=t
 | [],[],s,t,_,_,h=>⟨rfl,by simpa using h⟩
 | [],y::b,s,t,_,hb,h=>by
  have:c=y:=by simpa using (List.cons.inj h).1
  exact absurd (this ▸ List.mem_cons_self) hb
 | x::a,[],s,t,ha,_,h=>by
  have:x=c:=by simpa using (List.cons.inj h).1
  exact absurd (this ▸ List.mem_cons_self) ha
 | x::a,y::b,s,t,ha,hb,h=>by
  obtain ⟨h1,h2⟩:=List.cons.inj h
  obtain ⟨h3,h4⟩:=Qjt (λm=>ha (List.mem_cons_of_mem _ m)) (λm=>hb (List.mem_cons_of_mem _ m)) h2
  exact ⟨by rw [h1,h3],h4⟩
theorem Qjn {c:Nat}:∀{ws vs:List (List Nat)},ws≠[]->vs≠[]->(∀w∈ws,c∉w)->(∀w∈vs,c∉w)->jl c ws=jl c vs->ws=vs
 | [],_,h,_,_,_,_=>absurd rfl h
 | _,[],_,h,_,_,_=>absurd rfl h
 | [w],[v],_,_,_,_,h=>by rw [show w=v from h]
 | [w],v::u::r,_,_,h1,_,h=>by
  have:c∈w:=by rw [show w=v++c::jl c (u::r) from h];simp
  exact absurd this (h1 w List.mem_cons_self)
 | v::u::r,[w],_,_,_,h1,h=>by
  have:c∈w:=by rw [show w=v++c::jl c (u::r) from h.symm];simp
  exact absurd this (h1 w List.mem_cons_self)
 | w::x::r,v::y::q,_,_,h1,h2,h=>by
  obtain ⟨e1,e2⟩:=Qjt (h1 w List.mem_cons_self) (h2 v List.mem_cons_self) h
  rw [e1,Qjn (ws:=x::r) (vs:=y::q) (by simp) (by simp) (λw m=>h1 w (List.mem_cons_of_mem _ m)) (λw m=>h2 w (List.mem_cons_of_mem _ m)) e2]
theorem Qfv {c:Nat}:∀(ws:List Str),(Str.join ⟨#[c]⟩ ws).cps.toList=jl c (ws.map λw=>w.cps.toList)
 | []=>rfl
 | [w]=>rfl
 | w::v::r=>by
  show (w++⟨#[c]⟩++Str.join ⟨#[c]⟩ (v::r)).cps.toList=_
  rw [Str.cps_append,Str.cps_append,Array.toList_append,Array.toList_append,Qfv (v::r)]
  simp [jl]
theorem Qf3 {vs:List Str} (h1:ws≠[]) (h2:vs≠[]) (f1:∀w∈ws,c∉w.cps.toList) (f2:∀w∈vs,c∉w.cps.toList) (h:glued ⟨#[c]⟩ ws=glued ⟨#[c]⟩ vs):ws=vs:=by
 rw [StrLaws.glued_eq_join,StrLaws.glued_eq_join] at h
 have h:=congrArg (λs:Str=>s.cps.toList) h
 simp only [Qfv] at h
 have:=Qjn (by simpa using h1) (by simpa using h2) (λw hw=>by obtain ⟨v,hv,rfl⟩:=List.mem_map.mp hw;exact f1 v hv) (λw hw=>by obtain ⟨v,hv,rfl⟩:=List.mem_map.mp hw;exact f2 v hv) h
 have hm:∀{as bs:List Str},as.map (λw=>w.cps.toList)=bs.map (λw=>w.cps.toList)->as=bs:=by
  intro as
  induction as with
  | nil=>intro bs h;cases bs with
   | nil=>rfl
   | cons b bs=>cases h
  | cons a as ih=>intro bs h;cases bs with
   | nil=>cases h
   | cons b bs =>
    obtain ⟨q1,q2⟩:=List.cons.inj h
    rw [ih q2,Str.ext' (Array.toList_inj.mp q1)]
 exact hm this
theorem Qaw (h1:ws≠[]) (f1:∀w∈ws,c∉w.cps.toList):Zt (glued ⟨#[c]⟩ ws) ⟨#[c]⟩=ws:=by
 obtain ⟨f,hG,hn⟩:=StrLaws.occ_tight (glued ⟨#[c]⟩ ws) ⟨#[c]⟩ (Nat.le_refl 1)
 refine Qf3 (c:=c) ?_ h1 ?_ f1 (StrLaws.glued_between_self _ _ _)
 ·unfold Zt
  rw [StrLaws.partsBetween_eq]
  obtain ⟨p,r,e⟩:=StrLaws.partsFrom_ne (glued ⟨#[c]⟩ ws) (⟨#[c]⟩:Str).length 0 (Builtin.Str.occurrences (glued ⟨#[c]⟩ ws) ⟨#[c]⟩ 0 (glued ⟨#[c]⟩ ws).length ((glued ⟨#[c]⟩ ws).length+1))
  rw [e];simp
 ·unfold Zt
  rw [StrLaws.partsBetween_eq]
  exact StrLaws.parts_free _ c _ 0 f hG hn
end S03
namespace S24
open PySem PySem.Spec L2 PV S03
open PySem.Builtin.Str (glued occurrences strSub subAt)
theorem Qlk {a b:Str} (h:a.cps.toList=b.cps.toList):a=b:=Str.ext' (Array.toList_inj.mp h)
theorem Y0 (a b:Str):(a++b).cps.toList=a.cps.toList++b.cps.toList:=by rw [Str.cps_append,Array.toList_append]
end S24
namespace P58
open PySem PySem.Builtin PySem.Builtin.Str
inductive Tr where
 | lf (k:Nat)
 | un (b:Bool) (t:Tr)
 | bi (b:Bool) (t u:Tr)
def Tr.h:Tr->Nat
 | .lf _=>0
 | .un _ t=>t.h+1
 | .bi _ t u=>max t.h u.h+1
def lfW:Nat->Str
 | 0=>Str.ofString "single"
 | 1=>Str.ofString "level"
 | _=>Str.ofString "upright"
def unW:Bool->Str
 | false=>Str.ofString "turned"
 | true=>Str.ofString "mirrored"
def biW:Bool->Str
 | false=>Str.ofString "beside"
 | true=>Str.ofString "above"
def tx:Tr->Str
 | .lf k=>lfW k
 | .un b t=>Str.ofString "(" ++ unW b++Str.ofString " " ++ tx t++Str.ofString ")"
 | .bi b t u=>Str.ofString "(" ++ tx t++Str.ofString " " ++ biW b++Str.ofString " " ++ tx u++Str.ofString ")"
def toks:Tr->List Str
 | .lf k=>[lfW k]
 | .un b t=>Str.ofString "(" :: unW b::(toks t++[Str.ofString ")"])
 | .bi b t u=>Str.ofString "(" :: (toks t++biW b::(toks u++[Str.ofString ")"]))
theorem Qd0:∀t,toks t≠[]
 | .lf _=>by simp [toks]
 | .un _ _=>by simp [toks]
 | .bi _ _ _=>by simp [toks]
def sub (c:Nat) (z:List Nat) (l:List Nat):List Nat:=l.flatMap λk=>if k=c then z else [k]
theorem Xs (c:Nat) (z a b:List Nat):sub c z (a++b)=sub c z a++sub c z b:=by simp [sub]
theorem Xr (c:Nat) (z:List Nat):∀l:List Nat,c∉l->sub c z l=l
 | [],_=>rfl
 | k::r,h=>by
  have h1:¬k=c:=λe=>h (e ▸ List.mem_cons_self ..)
  have h2:c∉r:=λm=>h (List.mem_cons_of_mem _ m)
  have:=Xr c z r h2
  unfold sub at this ⊢
  rw [List.flatMap_cons,if_neg h1,this];rfl
theorem Qcj (c:Nat) (z:Str):∀parts:List Str,(∀p∈parts,c∉p.cps.toList)->sub c z.cps.toList (Str.join ⟨#[c]⟩ parts).cps.toList=(Str.join z parts).cps.toList
 | [],_=>rfl
 | [p],h=>Xr c _ _ (h p (List.mem_singleton.mpr rfl))
 | p::q::r,h=>by
  have ih:=Qcj c z (q::r) λa ha=>h a (List.mem_cons_of_mem _ ha)
  show sub c z.cps.toList (p++⟨#[c]⟩++Str.join ⟨#[c]⟩ (q::r)).cps.toList=(p++z++Str.join z (q::r)).cps.toList
  simp only [Str.cps_append,Array.toList_append]
  rw [Xs,Xs,ih,Xr c _ _ (h p (List.mem_cons_self ..))]
  congr 2
  simp [sub]
theorem Qbs (x z:Str) (c:Nat):(Txt.replace x ⟨#[c]⟩ z).cps.toList=sub c z.cps.toList x.cps.toList:=by
 rw [StrLaws.replace_one,← Qcj c z _ (StrLaws.split_free x c),StrLaws.join_split]
def F (l:List Nat):List Nat:=sub 41 [32,41] (sub 40 [40,32] l)
theorem Xa (a b:List Nat):F (a++b)=F a++F b:=by unfold F;rw [Xs,Xs]
def js:List (List Nat)->List Nat
 | []=>[]
 | [w]=>w
 | w::v::r=>w++32::js (v::r)
theorem Va {w:List Nat} {r:List (List Nat)} (h:r≠[]):js (w::r)=w++32::js r:=by
 cases r with
 | nil=>exact absurd rfl h
 | cons v r=>rfl
theorem Qcx:∀{a b:List (List Nat)},a≠[]->b≠[]->js (a++b)=js a++32::js b
 | [],_,h,_=>absurd rfl h
 | [w],b,_,hb=>Va hb
 | w::v::r,b,_,hb=>by
  show w++32::js (v::r++b)=w++32::js (v::r)++32::js b
  rw [Qcx (a:=v::r) (by simp) hb,List.append_assoc,List.cons_append]
abbrev cl (x:Str):List Nat:=x.cps.toList
def tk (t:Tr):List (List Nat):=(toks t).map cl
theorem Qgv (t:Tr):tk t≠[]:=by unfold tk;simpa using Qd0 t
theorem lf_F (k:Nat):F (cl (lfW k))=cl (lfW k):=by
 match k with
 | 0=>decide +kernel
 | 1=>decide +kernel
 | k+2=>show F (cl (Str.ofString "upright"))=cl (Str.ofString "upright");decide +kernel
theorem un_F (b:Bool):F (cl (unW b))=cl (unW b):=by cases b <;> decide +kernel
theorem bi_F (b:Bool):F (cl (biW b))=cl (biW b):=by cases b <;> decide +kernel
theorem F_op:F (cl (Str.ofString "("))=[40,32]:=by decide +kernel
theorem F_cp:F (cl (Str.ofString ")"))=[32,41]:=by decide +kernel
theorem F_sp:F (cl (Str.ofString " "))=[32]:=by decide +kernel
theorem c_op:cl (Str.ofString "(")=[40]:=by decide +kernel
theorem c_cp:cl (Str.ofString ")")=[41]:=by decide +kernel
theorem F_tx:∀t:Tr,F (cl (tx t))=js (tk t)
 | .lf k=>by
  show F (cl (lfW k))=cl (lfW k)
  exact lf_F k
 | .un b t=>by
  have ih:=F_tx t
  have e:tk (.un b t)=[40]::cl (unW b)::(tk t++[[41]]):=by unfold tk;simp only [toks,List.map_cons,List.map_append,List.map_nil,c_op,c_cp]
  show F (cl (Str.ofString "(" ++ unW b++Str.ofString " " ++ tx t++Str.ofString ")"))=_
  unfold cl at ih ⊢
  rw [S24.Y0,S24.Y0,S24.Y0,S24.Y0,Xa,Xa,Xa,Xa,ih,F_op,F_cp,F_sp,un_F,e,Va (by simp),Va (by simp),Qcx (Qgv t) (by simp)]
  simp [js]
 | .bi b t u=>by
  have ih:=F_tx t
  have ih2:=F_tx u
  have e:tk (.bi b t u)=[40]::(tk t++cl (biW b)::(tk u++[[41]])):=by unfold tk;simp only [toks,List.map_cons,List.map_append,List.map_nil,c_op,c_cp]
  show F (cl (Str.ofString "(" ++ tx t++Str.ofString " " ++ biW b++Str.ofString " " ++ tx u++Str.ofString ")"))=_
  unfold cl at ih ih2 ⊢
  rw [S24.Y0,S24.Y0,S24.Y0,S24.Y0,S24.Y0,S24.Y0,Xa,Xa,Xa,Xa,Xa,Xa,ih,ih2,F_op,F_cp,F_sp,bi_F,e,Va (by simp [Qgv]),Qcx (Qgv t) (by simp),Va (by simp),Qcx (Qgv u) (by simp)]
  simp [js]
theorem Qk6:∀ws:List Str,cl (glued ⟨#[32]⟩ ws)=js (ws.map cl)
 | []=>rfl
 | [w]=>rfl
 | w::v::r=>by
  have ih:=Qk6 (v::r)
  rw [List.map_cons,Va (by simp),← ih]
  rw [StrLaws.glued_eq_join,StrLaws.glued_eq_join]
  show (w++⟨#[32]⟩++Str.join ⟨#[32]⟩ (v::r)).cps.toList=_
  simp [Str.cps_append]
theorem Qo2 (t:Tr):Txt.replace (Txt.replace (tx t) (Str.ofString "(") (Str.ofString "( ")) (Str.ofString ")") (Str.ofString " )")=glued (Str.ofString " ") (toks t):=by
 refine S24.Qlk ?_
 have e1:Str.ofString "(" = ⟨#[40]⟩:=by decide +kernel
 have e2:Str.ofString ")" = ⟨#[41]⟩:=by decide +kernel
 have e3:Str.ofString " " = ⟨#[32]⟩:=by decide +kernel
 have e4:(Str.ofString "( ").cps.toList=[40,32]:=by decide +kernel
 have e5:(Str.ofString " )").cps.toList=[32,41]:=by decide +kernel
 rw [e1,e2,Qbs,Qbs,e4,e5,e3]
 exact (F_tx t).trans (Qk6 (toks t)).symm
theorem Xt:∀t:Tr,∀w∈toks t,32∉w.cps.toList
 | .lf k,w,h=>by
  rw [List.mem_singleton.mp h]
  match k with
  | 0=>decide +kernel
  | 1=>decide +kernel
  | k+2=>show 32∉(Str.ofString "upright").cps.toList;decide +kernel
 | .un b t,w,h=>by
  simp only [toks,List.mem_cons,List.mem_append,List.not_mem_nil,or_false] at h
  rcases h with rfl | rfl | h | rfl
  ·decide +kernel
  ·cases b <;> decide +kernel
  ·exact Xt t w h
  ·decide +kernel
 | .bi b t u,w,h=>by
  simp only [toks,List.mem_cons,List.mem_append,List.not_mem_nil,or_false] at h
  rcases h with rfl | h | rfl | h | rfl
  ·decide +kernel
  ·exact Xt t w h
  ·cases b <;> decide +kernel
  ·exact Xt u w h
  ·decide +kernel
theorem Vk:∀t:Tr,(tx t).length<=20*4 ^ t.h
 | .lf k=>by
  match k with
  | 0=>decide +kernel
  | 1=>decide +kernel
  | k+2=>show (Str.ofString "upright").length<=20;decide +kernel
 | .un b t=>by
  have ih:=Vk t
  have hb:(unW b).length<=8:=by cases b <;> decide +kernel
  have h1:(Str.ofString "(").length=1:=by decide +kernel
  have h2:(Str.ofString ")").length=1:=by decide +kernel
  have h3:(Str.ofString " ").length=1:=by decide +kernel
  have hp:0<4 ^ t.h:=Nat.pow_pos (by decide)
  simp only [tx,Tr.h,strLen_append,Nat.pow_succ]
  omega
 | .bi b t u=>by
  have ih:=Vk t
  have ih2:=Vk u
  have hb:(biW b).length<=8:=by cases b <;> decide +kernel
  have h1:(Str.ofString "(").length=1:=by decide +kernel
  have h2:(Str.ofString ")").length=1:=by decide +kernel
  have h3:(Str.ofString " ").length=1:=by decide +kernel
  have m1:4 ^ t.h<=4 ^ (max t.h u.h):=Nat.pow_le_pow_right (by decide) (Nat.le_max_left _ _)
  have m2:4 ^ u.h<=4 ^ (max t.h u.h):=Nat.pow_le_pow_right (by decide) (Nat.le_max_right _ _)
  have hp:0<4 ^ (max t.h u.h):=Nat.pow_pos (by decide)
  simp only [tx,Tr.h,strLen_append,Nat.pow_succ]
  omega
theorem Vm:∀t:Tr,(toks t).length<=4*4 ^ t.h
 | .lf k=>by simp [toks,Tr.h]
 | .un b t=>by
  have ih:=Vm t
  have hp:0<4 ^ t.h:=Nat.pow_pos (by decide)
  simp only [toks,Tr.h,List.length_cons,List.length_append,List.length_nil,Nat.pow_succ]
  omega
 | .bi b t u=>by
  have ih:=Vm t
  have ih2:=Vm u
  have m1:4 ^ t.h<=4 ^ (max t.h u.h):=Nat.pow_le_pow_right (by decide) (Nat.le_max_left _ _)
  have m2:4 ^ u.h<=4 ^ (max t.h u.h):=Nat.pow_le_pow_right (by decide) (Nat.le_max_right _ _)
  have hp:0<4 ^ (max t.h u.h):=Nat.pow_pos (by decide)
  simp only [toks,Tr.h,List.length_cons,List.length_append,List.length_nil,Nat.pow_succ]
  omega
end P58
variable {j:Nat} {k:PV.D->Prop}
namespace PV
open PySem PySem.Spec L2 PyProof.Rows
def frzK (d:D) (k:D->Prop):Prop:=match d with
 | .lst xs=>Qi xs=true/\k (.kls xs)
 | _=>False
def Qac (w:WE):WE:=λρ Q=>w ρ λd ρ'=>frzK d λd'=>Q d' ρ'
def asK (Q:D->Env->Prop) (d:D) (ρ:Env):Prop:=match d with
 | .fls xs=>Q (.kls xs) ρ
 | _=>False
theorem Qf7 (h:EV X T m true e w):EV X T m true e (Qac w):=by
 obtain ⟨te,pe,ge⟩:=Qok h
 refine ⟨te,pe,λz R σ H W ρ Q Q' s hw k=>ge z R σ H W ρ (asK Q) Q' s ?_ λv H1 W1 d ρ1 F pp qq=>?_⟩
 ·have:(λ(d:D) (ρ':Env)=>frzK d λd'=>Q d' ρ')=λd ρ'=>Qoh d λd'=>asK Q d' ρ':=by
   funext d ρ'
   cases d <;> rfl
  unfold Qac at hw
  rw [this] at hw
  exact hw
 ·cases d with
  | fls xs =>
   obtain ⟨sr,fr,calm,rep,own⟩:=pp
   cases rep with
   | fls e1 r=>exact k _ H1 W1 (.kls xs) ρ1 [] ⟨sr,fr,calm,.kls (.inl ⟨_,e1⟩) r,own⟩ qq
  | _=>exact (show False from qq).elim
theorem Qcp:frzK (.lst xs) k=(Qi xs=true/\k (.kls xs)):=rfl
section
variable {q:Pos}
theorem SR0.sameH {W:Addr->Prop} (r:SR0 K T z R H W σ ρ fp) (k:Same H H'):SR0 K T z R H' W σ ρ fp :=
 ⟨r.len,λa h=>(r.wd a h).imp λob q=>⟨k _ _ q.1,q.2⟩,λi d h=>(r.at_ i d h).imp λv q=>⟨q.1,q.2.same k⟩,r.own,r.ro,r.wr,λa h=>(r.rd a h).imp λob q=>⟨k _ _ q.1,q.2⟩,r.dis,r.fix⟩
theorem Ql4 {α:Type} {l:List α} {a:α} (h:j<l.length):l.set j a=l.take j++a::l.drop (j+1):=List.set_eq_take_append_cons_drop .. |>.trans (by rw [if_pos h])
end
end PV
namespace L2
open PySem PySem.Spec PyProof.Rows
open PySem.Sem (wp)
def DK (h h':Heap):Prop:=∀b o,h.get? b=some o->∃o',h'.get? b=some o'/\o'.dict=o.dict/\∀vs,o.data=.fields vs->∃vs':Array Value,o'.data=.fields vs'/\vs'[2]? = vs[2]?
structure KD {α:Type} (t:Sem α):Prop where
 out:∀(M:Model) (Γ:PySem.Ctx) (Q:α->Pos->Shared->Prop) (E:Value->Pos->Shared->Prop) (p:Pos) (s:Shared),wp M Γ t Q E p s->wp M Γ t (λa p' s'=>Q a p' s'/\DK s.heap s'.heap) (λe p' s'=>E e p' s'/\DK s.heap s'.heap) p s
end L2
namespace PV
open PySem PySem.Spec L2
open PyProof.Rows (envOfC)
abbrev XC:=D->Env->Prop
abbrev WX:=Env->(D->Env->Prop)->XC->Prop
abbrev WAX:=Env->(List D->Env->Prop)->XC->Prop
end PV
namespace PV
open PySem PySem.Spec L2
section
variable {ps1 ap2 cp2:Pos}
def lcOf (d:D) (ds:List D) (k:D->Prop):Prop:=match d,ds with
 | .lst xs,[.int n]=>∃ns:List Int,xs=ns.map D.int/\k (.int (ns.count n:Nat))
 | _,_=>False
def tlOf (d:D) (k:List D->List D->Prop):Prop:=match d with
 | .lst l=>∃ds xs,l=ds++[.lst xs]/\k ds xs
 | _=>False
theorem Qh6 {k:List D->List D->Prop} (h:tlOf d k):∃ds xs,d=.lst (ds++[.lst xs])/\k ds xs:=by
 cases d with
 | lst l =>
  obtain ⟨ds,xs,rfl,h⟩:=h
  exact ⟨ds,xs,rfl,h⟩
 | _=>exact (show False from h).elim
def wTkl (i:Nat) (we:WE):WS:=λP ρ=>oget (look ρ i) λd=>tlOf d λds xs=>Qi xs=true/\xs.length<sizeLine/\we ρ λe _=>e.pure=true/\P.nx (ρ.set i (some (.lst (ds++[.lst (xs++[e])]))))
theorem Qh8 {j1:Nat} {p1 p3:Pos} (he:EV X T false o1 e we) (ht:T.own i=true:=by rfl) (hN:X.N[i]? = some x:=by rfl)
  (hvis:Vis X.env.scope x:=by first | exact Or.inl rfl | exact Or.inr (Or.inl rfl) | exact Or.inr (Or.inr rfl)) (hd:(x == ("__debug__" : Str))=false:=by decide) (hcd:(x == ("__classdict__" : Str))=false:=by decide) (hs1:Qce (.UnaryOp .USub (.Constant (.int 1) j1 p1) p3):=by intro _ _;rfl)
  (b2:attributeBase (.Subscript (.Name x p) (.UnaryOp .USub (.Constant (.int 1) j1 p1) p3) ps1) "append" X.env (eval (.Subscript (.Name x p) (.UnaryOp .USub (.Constant (.int 1) j1 p1) p3) ps1) X.env)=eval (.Subscript (.Name x p) (.UnaryOp .USub (.Constant (.int 1) j1 p1) p3) ps1) X.env:=by rfl)
  (f2:((backTo cp2 (starEach [e] X.env)).all (λx=>!x.1) && (backToKw cp2 (keywordEach [] X.env)).all (λx=>x.1.isSome)
   && decide (([e]:List Expr).length+([]:List Keyword).length+(if ([]:List Keyword).isEmpty then 0 else 1)<30))=true:=by rfl)
  (l2:(ap2.endLine == cp2.line)=true:=by rfl) (s2:starEach [e] X.env=(false,eval e X.env)::starEach [] X.env:=by rfl) (q2:(backTo cp2 (starEach [] X.env)).any (·.1)=false:=by rfl)
  (hs:swapsWith (.Call (.Attribute (.Subscript (.Name x p) (.UnaryOp .USub (.Constant (.int 1) j1 p1) p3) ps1) "append" ap2) [e] [] cp2) none pos.line X.env=pure false:=by rfl) :
  SV X T (.Expr (.Call (.Attribute (.Subscript (.Name x p) (.UnaryOp .USub (.Constant (.int 1) j1 p1) p3) ps1) "append" ap2) [e] [] cp2) pos) (wTkl i we):=by
 obtain ⟨te,pe,ge⟩:=he
 refine ⟨_,Qfa (Qnf PySem.F.plainAttrs_list PySem.F.slot_list_append PySem.F.type_list_append Qa9 (Qnc Qfw (Zh hN hvis hd hcd) (Qpu Qlv Qjg) hs1) (V6 pe Qcr s2) b2 f2 l2 s2 q2) hs,λz R σ H W ρ P E s hw l=>?_⟩
 obtain ⟨sd,hl0,hw⟩:=Qs hw
 obtain ⟨ds,xs,rfl,hpx,hz,hw⟩:=Qh6 hw
 obtain ⟨fp,s0⟩:=id s
 obtain ⟨v0,hv0,r0⟩:=s0.at_ i _ hl0
 obtain ⟨nd0,sw0⟩:=s0.own i _ hl0 ht
 have hds:(ds++[D.lst xs])[ds.length]? = some (.lst xs):=by simp
 have inv:∃(tp l0:Addr) (vs ys:List V) (A C:List Addr),v0=.ref tp/\H tp=some (.lst vs)/\vs.length=ds.length+1/\vs[ds.length]? = some (.ref l0)/\H l0=some (.lst ys)/\Reps X.K H xs ys []/\fp i=tp::(A++[l0]++C)/\Reps X.K H ((ds++[D.lst xs]).take ds.length) (vs.take ds.length) A/\Reps X.K H ((ds++[D.lst xs]).drop (ds.length+1)) (vs.drop (ds.length+1)) C:=by
  generalize fp i=Fi at r0
  cases r0 with
  | @lst tp vs _ F e1 r =>
   obtain ⟨y,A,B,C,hy,hF,rB,rA,rC⟩:=r.split hds
   obtain ⟨l0,ys,G,rfl,rfl,e2,r3⟩:=rB.iLst
   obtain ⟨hG,r3⟩:=r3.pure hpx
   subst hG
   exact ⟨tp,l0,vs,ys,A,C,rfl,e1,by rw [r.length];simp,hy,e2,r3,by rw [hF],rA,rC⟩
 obtain ⟨tp,l0,vs,ys,A,C,rfl,e1,hvl,hy,e2,r3,hF,rA,rC⟩:=inv
 have hm:l0∈fp i:=by rw [hF];simp
 have hWl:=sw0 l0 hm
 rw [hF] at nd0
 obtain ⟨ntp,nd1⟩:=List.nodup_cons.mp nd0
 have hlt:l0≠tp:=λz=>ntp (by rw [← z];simp)
 have nA:l0∉A/\l0∉C:=by
  simp only [List.append_assoc,List.nodup_append,List.mem_append,List.mem_singleton,List.nodup_cons,List.singleton_append,List.mem_cons] at nd1
  obtain ⟨_,⟨h1,_⟩,h2⟩:=nd1
  exact ⟨λh=>h2 l0 h l0 (.inl rfl) rfl,h1⟩
 have hat:L2.atI vs (-1)=some (.ref l0):=by
  unfold L2.atI
  rw [show ixN vs.length (-1)=some ds.length by unfold ixN;rw [hvl,if_neg (by omega),if_pos (by omega)];congr 1;omega]
  exact hy
 refine ⟨_,hv0,1,rfl,tp,_,-1,.ref l0,rfl,rfl,.of e1,hat,.inl ⟨rfl,_,.of e2⟩,ge z R σ H W ρ _ _ s hw λve H1 W1 d1 ρ1 F1 pp q1=>?_⟩
 obtain ⟨hpe,qn⟩:=q1
 obtain ⟨sm,hW1,hρ1⟩:=pp.calm rfl
 subst hW1 hρ1
 obtain ⟨-,re⟩:=pp.rep.pure hpe
 have e2':=sm _ _ e2
 refine ⟨l0,ys,ve,rfl,rfl,e2',by rw [r3.length];exact hz,?_⟩
 have im:ImmK H1 (upd H1 l0 (.lst (ys++[ve]))):=Zv e2' rfl
 have hvs:vs=vs.take ds.length ++ .ref l0::vs.drop (ds.length+1):=by
  have jv:ds.length<vs.length:=by omega
  have h1:vs[ds.length] = .ref l0:=(List.getElem?_eq_some_iff.mp hy).2
  have h2:=List.set_getElem_self (as:=vs) jv
  rw [h1,Ql4 jv] at h2
  exact h2.symm
 have hrep:Rep X.K (upd H1 l0 (.lst (ys++[ve]))) (.lst (ds++[.lst (xs++[d1])])) (.ref tp) (fp i):=by
  rw [hF,List.append_assoc]
  refine .lst (xs:=vs) ((Qk (Ne.symm hlt)).trans (sm _ _ e1)) ?_
  rw [hvs]
  have t1:(ds++[D.lst xs]).take ds.length=ds:=by simp
  have t2:(ds++[D.lst xs]).drop (ds.length+1)=[]:=by simp
  rw [t1] at rA
  rw [t2] at rC
  refine Reps.append (((rA.same sm)).frame im λa ha=>Qk λz=>nA.1 (z ▸ ha)) (.cons (F:=[l0]) (.lst (F:=[]) Qj (Reps.append (F:=[]) (G:=[]) ((r3.same sm).frame im λa m=>nomatch m) (Reps.one (re.frame im λa m=>nomatch m)))) (((rC.same sm)).frame im λa ha=>Qk λz=>nA.2 (z ▸ ha)))
 have s1:SR0 X.K T z R H1 W1 σ ρ1 fp:=s0.sameH sm
 have sF:=s1.write hl0 ht hv0 hm Y9 ⟨_,Qj,rfl⟩ hrep (by rw [hF];exact nd0) (λa ha=>.inl ha)
 have fF:=(FrW.same W1 sm).write hWl (s1.wd l0 hWl) (H':=upd H1 l0 (.lst (ys++[ve]))) (λb u hb hne=>by rw [Qk hne];exact hb) ⟨_,Qj,rfl⟩ (F':=fp i) (λa ha=>.inl (sw0 a ha))
 exact l.nx R σ _ _ _ sF fF qn
end
end PV
variable {g:PySem.Str->PV.GA}
namespace PV
open PySem PySem.Spec L2
open PyProof.Rows (envOfC)
structure ClN (K:PySem.W.Frag) (mg:Str->Option Value) (x:Str) (C:Addr):Prop where
 mg:mg x=some (.ref C)
 ns:PySem.W.nsIn K mainGlobals x=some (some (.ref C))
 d:ClsD K C
def Qd6 (C:Addr) (n:Nat):Sp:=λvs H Q _=>∃a dx ys,vs=.ref a::ys/\ys.length=n/\H a=some (.ins C dx [])/\Q .non (upd H a (.ins C dx ((fldN n).zip ys)))
def IniN (P:Program) (w:World) (K:PySem.W.Frag) (mg:Str->Option Value) (base:Heap) (x:Str) (n k:Nat):Prop :=
 ∃C f fd,ClN K mg x C/\Mk K C f/\FnOk P w K mg base CX0 k f fd ("self" :: fldN n) (Qd6 C n)/\Yt K fd ("self" :: fldN n) []
def Qfy (d:D) (k:Str->List D->Prop):Prop:=match d with
 | .ist x ds=>k x ds
 | _=>False
theorem Qbb {k:Str->List D->Prop} (h:Qfy d k):∃x ds,d=.ist x ds/\k x ds:=by
 cases d with
 | ist x ds=>exact ⟨x,ds,rfl,h⟩
 | _=>exact (show False from h).elim
theorem Rep.iIst {F:List Addr} (r:Rep K H (.ist x ds) v F):∃a C dx fs,v=.ref a/\F=[]/\H a=some (.ins C dx fs)/\PySem.W.nsIn K mainGlobals x=some (some (.ref C))/\fs.map (·.1)=fldN ds.length/\Reps K H ds (fs.map (·.2)) []:=by
 cases r with | ist e hc hn r=>exact ⟨_,_,_,_,rfl,rfl,e,hc,hn,r⟩
theorem Zx {D:Addr} (h:PySem.W.nsIn K mainGlobals x=some (some (.ref C))) (h':PySem.W.nsIn K mainGlobals x=some (some (.ref D))):C=D:=by
 rw [h] at h';cases h';rfl
section
variable {f:Str} {k:Nat}
theorem Xn (h:ClN X.K X.mg x C) (hi:PySem.W.findIn X.K (.ref C) "__init__" = some (some (.builtin "object.__init__"))) (hg:Gl X x:=by rfl) (hdb:(x == ("__debug__" : Str))=false:=by decide):EV X T false true (.Call (.Name x p) [] [] pos) (wC (.ist x [])):=by
 refine ⟨_,Qna h.d hi hg h.mg hdb,λz R σ H W ρ Q Q' s hw kk a dx ha hdx hne=>?_⟩
 have sm:Same H (upd (upd H dx (.own a)) a (.ins C dx [])):=(Qm hdx).trans (Qm (by rw [Qk (Ne.symm hne)];exact ha))
 exact kk (.ref a) _ W (.ist x []) ρ [] (Post.fin s (FrW.refl H W) (λ_=>⟨Same.refl H,rfl,rfl⟩) sm (.ist (fs:=[]) Qj h.ns rfl .nil) List.nodup_nil λa m=>nomatch m) hw
def wMk (x:Str) (n:Nat) (wr:WA):WE:=λρ Q=>wr ρ λds ρ1=>ds.length=n/\Qi ds=true/\Q (.ist x ds) ρ1
theorem Ul (I:IniN X.prog X.w X.K X.mg X.base x n k) (hr:Room (k+1) X.A) (ha:AV X T m o (e::es) wr) (hn:(fldN n).length=n:=by rfl) (hg:Gl X x:=by rfl) (hdb:(x == ("__debug__" : Str))=false:=by decide)
  (he:starEach (e::es) X.env=(false,eval e X.env)::starEach es X.env:=by rfl) (hpl:(backTo pos (starEach es X.env)).any (·.1)=false:=by rfl):EV X T m true (.Call (.Name x p) (e::es) [] pos) (wMk x n wr):=by
 obtain ⟨C,f,fd,h,M,F,hb⟩:=I
 obtain ⟨ta,pa,ga⟩:=ha
 refine ⟨_,Qkk M F hr hg h.mg hb .nil Qg9 pa hdb he hpl,λz R σ H W ρ Q Q' s hw kk=>?_⟩
 refine ga z R σ H W ρ _ _ s hw λvs H1 W1 ds ρ1 Fp pp q=>?_
 obtain ⟨hl,hp,q⟩:=q
 obtain ⟨hF,rp⟩:=pp.rep.pure hp
 intro a dx ha hdx hne
 have hlv:vs.length=n:=by rw [pp.rep.length];exact hl
 have sm:Same H1 (upd (upd (upd H1 dx (.own a)) a (.ins C dx [])) a (.ins C dx ((fldN n).zip vs))):=λb ob eb=>by
  have n1:b≠a:=λz=>by rw [z,ha] at eb;cases eb
  have n2:b≠dx:=λz=>by rw [z,hdx] at eb;cases eb
  rw [Qk n1,Qk n1,Qk n2];exact eb
 refine ⟨a,dx,vs,by simp,hlv,Qj,rfl,kk (.ref a) _ W1 (.ist x ds) ρ1 [] (Post.fin pp.sr pp.fr pp.calm sm (.ist Qj h.ns ?_ ?_) List.nodup_nil λa m=>nomatch m) q⟩
 ·rw [List.map_fst_zip (by omega),hl]
 ·rw [List.map_snd_zip (by omega)];exact rp.same sm
def fldS:Nat->Str
 | 0=>"one"
 | _=>"other"
theorem Qhm (hn:fs.map (·.1)=fldN ds.length) (r:Reps K H ds (fs.map (·.2)) []) (h2:ds.length<=2) (hd:ds[i]? = some d):∃v,fs.lookup (fldS i)=some v/\Rep K H d v []:=by
 obtain ⟨v,B,h1,h3,h4⟩:=r.get hd
 have:=List.sublist_nil.mp h4
 subst this
 refine ⟨v,?_,h3⟩
 have hi:=(List.getElem?_eq_some_iff.mp hd).1
 have e:fs=(fldN ds.length).zip (fs.map (·.2)):=by rw [← hn];exact List.zip_of_prod rfl rfl
 have hl:=r.length
 generalize fs.map (·.2)=vs at e h1 hl
 clear hn r
 subst e
 match ds,h2,hi,vs,hl,h1 with
 | [d0],_,hi,[u],_,h1 =>
  have:i=0:=by simp at hi;exact hi
  subst this
  simp at h1;subst h1;rfl
 | [d0,d1],_,hi,[u,u'],_,h1 =>
  match i,hi,h1 with
  | 0,_,h1=>simp at h1;subst h1;rfl
  | 1,_,h1=>simp at h1;subst h1;rfl
def wFld (isC:Str->Bool) (i:Nat) (w:WE):WE:=λρ Q=>w ρ λd ρ1=>Qfy d λx ds=>isC x=true/\ds.length<=2/\oget (ds[i]?) λv=>Q v ρ1
theorem Um {isC:Str->Bool} (i:Nat) (hC:∀x C,isC x=true->atN X.K x C->ClsD X.K C/\Q1 X.K C (fldS i)) (he:EV X T m o e w) (hb:attributeBase e (fldS i) X.env (eval e X.env)=eval e X.env:=by rfl):EV X T m true (.Attribute e (fldS i) pos) (wFld isC i w):=by
 obtain ⟨te,pe,ge⟩:=he
 refine ⟨_,Qnd pe hb,λz R σ H W ρ Q Q' s hw kk=>?_⟩
 refine ge z R σ H W ρ _ _ s hw λv H1 W1 d ρ1 F p q=>?_
 obtain ⟨x,ds,rfl,hx,h2,q⟩:=Qbb q
 obtain ⟨v0,hd,q⟩:=Qs q
 obtain ⟨a,C,dx,fs,rfl,rfl,ea,hc,hn,r⟩:=p.rep.iIst
 obtain ⟨cd,na⟩:=hC x C hx hc
 obtain ⟨u,hl,ru⟩:=Qhm hn r h2 hd
 exact ⟨a,C,dx,fs,u,rfl,ea,cd.cls,na,hl,kk u H1 W1 v0 ρ1 [] ⟨p.sr,p.fr,p.calm,ru,λ_=>⟨List.nodup_nil,λa m=>nomatch m⟩⟩ q⟩
def V2 (isC:Str->Bool) (g:Str->GA) (w:WE):WE:=λρ Q=>w ρ λd ρ1=>Qfy d λx ds=>isC x=true/\ds.length<=2/\g x [d] λr=>Q r ρ1
theorem Vc {isC:Str->Bool} (hC:∀x C,isC x=true->atN X.K x C->ClsD X.K C/\∃f fd,Meth X.K C y f/\FnOk X.prog X.w X.K X.mg X.base CX0 k f fd ["self"] (spR X.K (g x))/\Yt X.K fd ["self"] []) (hr:Room k X.A) (he:EV X T m o e w) (hy:y ≠ "one" /\ y ≠ "other":=by decide)
  (ht:eval (.Call (.Attribute e y apos) [] [] pos) X.env=(do
   let ov ← eval e X.env
   standAt apos.atName
   let (f,first) ← holding [ov] (getMethod ov y pl)
   callWith pos f first (backTo pos (starEach [] X.env)) (backToKw pos (keywordEach [] X.env))):=by rfl) :
  EV X T m true (.Call (.Attribute e y apos) [] [] pos) (V2 isC g w):=by
 obtain ⟨te,pe,ge⟩:=he
 refine ⟨_,Qg8 pe hr ht,λz R σ H W ρ Q Q' s hw kk=>?_⟩
 refine ge z R σ H W ρ _ _ s hw λv H1 W1 d ρ1 F p q=>?_
 obtain ⟨x,ds,rfl,hx,h2,q⟩:=Qbb q
 obtain ⟨a,C,dx,fs,rfl,rfl,ea,hc,hn,r⟩:=p.rep.iIst
 obtain ⟨cd,f,fd,hm,Fk,hb⟩:=hC x C hx hc
 have hl:fs.lookup y=none:=by
  have gen:∀fs:List (Str × V),y∉fs.map (·.1)->fs.lookup y=none:=λfs=>by
   induction fs with
   | nil=>intro _;rfl
   | cons q fs ih =>
    intro h
    obtain ⟨q1,q2⟩:=q
    rw [List.lookup_cons,show (y == q1)=false by simpa using λz:y=q1=>h (by rw [z];exact List.mem_cons_self)]
    exact ih λz=>h (List.mem_cons_of_mem _ z)
  refine gen fs ?_
  rw [hn]
  match ds.length,h2 with
  | 0,_=>simp [fldN]
  | 1,_=>simpa [fldN] using hy.1
  | 2,_=>simpa [fldN] using hy
 exact ⟨a,C,dx,fs,f,fd,_,rfl,ea,cd.cls,hm,Fk,hb,hl,[.ist x ds],_,_,.cons p.rep .nil,q,λv H' dd F' fi hk=>kk v H' W1 dd ρ1 F' (Post.fin p.sr p.fr p.calm fi.same fi.rep fi.nd fi.new) hk⟩
def wIsC (isC:Str->Bool) (sub:Str->Bool) (w:WE):WE:=λρ Q=>w ρ λd ρ1=>match d with
 | .ist x _=>isC x=true/\Q (.bl (sub x)) ρ1
 | .str _=>Q (.bl false) ρ1
 | _=>False
theorem Vx {isC sub:Str->Bool} {D':Addr} (hb:X.mg "isinstance" = none) (ob:ObjD X.K) (hD:X.mg y=some (.ref D')) (hC:∀x C,isC x=true->atN X.K x C->ClsD X.K C/\PySem.W.kitOne X.K (.ref C) (.ref D')=some (sub x)) (hS:PySem.W.kitOne X.K (.type "str") (.ref D')=some false)
  (he:EV X T m o e w) (hg:Gl X "isinstance":=by rfl) (hgy:Gl X y:=by rfl) (hdy:(y == ("__debug__" : Str))=false:=by decide)
  (hs:starEach [e,.Name y p2] X.env=(false,eval e X.env)::starEach [.Name y p2] X.env:=by rfl) (hs2:starEach [.Name y p2] X.env=(false,eval (.Name y p2) X.env)::starEach [] X.env:=by rfl) (hpl:(backTo pos (starEach [.Name y p2] X.env)).any (·.1)=false:=by rfl) :
  EV X T m true (.Call (.Name "isinstance" p) [e,.Name y p2] [] pos) (wIsC isC sub w):=by
 obtain ⟨te,pe,ge⟩:=he
 refine ⟨_,Qcq (Qhx (D:=D') ob) hg hb Vz (V6 pe (V6 (Qfg hgy hD (v:=.ref D') rfl hdy) Qcr hs2) hs) (by decide) (by decide) hs hpl,λz R σ H W ρ Q Q' s hw kk=>?_⟩
 refine ge z R σ H W ρ _ _ s hw λv H1 W1 d ρ1 F pp q=>?_
 cases d with
 | ist x ds =>
  obtain ⟨hx,q⟩:=q
  obtain ⟨a,C,dx,fs,rfl,rfl,ea,hc,hn,r⟩:=pp.rep.iIst
  obtain ⟨cd,hk⟩:=hC x C hx hc
  exact ⟨.ref a,D',sub x,rfl,⟨_,cd.ty ob ea,hk⟩,kk _ H1 W1 (.bl (sub x)) ρ1 [] (Post.flat pp.sr pp.fr pp.calm (.bl _)) q⟩
 | str x =>
  have hv:=pp.rep.iStr
  subst hv
  exact ⟨.str x,D',false,rfl,⟨_,.str x,hS⟩,kk _ H1 W1 (.bl false) ρ1 [] (Post.flat pp.sr pp.fr pp.calm (.bl _)) q⟩
 | _=>exact (show False from q).elim
def Qaj (ρ:Env) (i:Nat) (k:Str->Prop):Prop:=oget (look ρ i) λd=>Qd3 d k
theorem Gc {k:Str->Prop} (h:Qaj ρ i k):∃x,look ρ i=some (.str x)/\k x:=by
 obtain ⟨d,hl,h⟩:=Qs h
 cases d with
 | str x=>exact ⟨x,hl,h⟩
 | _=>exact (show False from h).elim
def wFs1 (c:Str) (i:Nat) (d:Str):WE:=λρ Q=>Qaj ρ i λx=>(c++x++d).length<=sizeLine/\Q (.str (c++x++d)) ρ
def wFs2 (c:Str) (i:Nat) (d:Str) (j:Nat) (g:Str):WE:=λρ Q=>Qaj ρ i λx=>Qaj ρ j λy=>(c++x++d++y++g).length<=sizeLine/\Q (.str (c++x++d++y++g)) ρ
theorem X2 {W:Addr->Prop} (s:SR K T z R H W σ ρ) (h:look ρ i=some (.str x)):σ[i]? = some (some (.str x)):=by
 obtain ⟨fp,s0⟩:=s
 obtain ⟨v,h1,h2⟩:=s0.at_ i _ h
 generalize fp i=Fi at h2
 cases h2
 exact h1
theorem Jo (a b:Str):(a++b).length=a.length+b.length:=strLen_append a b
theorem Qjq {c d:Str} {q1 q2 q3 q4:Pos} (hN:X.N[i]? = some x:=by rfl) (hv:Vis X.env.scope x:=by first | exact Or.inl rfl | exact Or.inr (Or.inl rfl) | exact Or.inr (Or.inr rfl)) (hd:(x == ("__debug__" : Str))=false:=by decide) (hcd:(x == ("__classdict__" : Str))=false:=by decide) :
  EV X T false true (.JoinedStr [.Constant (.str c) k1 q1,.FormattedValue (.Name x q2) (-1) none q3,.Constant (.str d) k2 q4] pos) (wFs1 c i d):=by
 refine ⟨_,Qff (pj_c (pj_v (Zh hN hv hd hcd) (pj_c Qje))),λz R σ H W ρ Q Q' s hw kk=>?_⟩
 obtain ⟨x,hl,hz,q⟩:=Gc hw
 have h1:=Jo (c++x) d
 have h2:=Jo c x
 rw [Str.empty_append]
 refine ⟨by omega,_,X2 s hl,x,rfl,by omega,by omega,hz,hz,kk _ H W (.str _) ρ [] (Post.flat s (FrW.refl H W) (λ_=>⟨Same.refl H,rfl,rfl⟩) (.str _)) q⟩
theorem Qjp {c d g:Str} {k3:Nat} {q1 q2 q3 q4 q5 q6 q7:Pos} (hN:X.N[i]? = some x:=by rfl) (hM:X.N[j]? = some y:=by rfl) (hv:Vis X.env.scope x:=by first | exact Or.inl rfl | exact Or.inr (Or.inl rfl) | exact Or.inr (Or.inr rfl)) (hv2:Vis X.env.scope y:=by first | exact Or.inl rfl | exact Or.inr (Or.inl rfl) | exact Or.inr (Or.inr rfl))
  (hd:(x == ("__debug__" : Str))=false:=by decide) (hcd:(x == ("__classdict__" : Str))=false:=by decide) (hd2:(y == ("__debug__" : Str))=false:=by decide) (hcd2:(y == ("__classdict__" : Str))=false:=by decide) :
  EV X T false true (.JoinedStr [.Constant (.str c) k1 q1,.FormattedValue (.Name x q2) (-1) none q3,.Constant (.str d) k2 q4,.FormattedValue (.Name y q5) (-1) none q6,.Constant (.str g) k3 q7] pos) (wFs2 c i d j g):=by
 refine ⟨_,Qff (pj_c (pj_v (Zh hN hv hd hcd) (pj_c (pj_v (Zh hM hv2 hd2 hcd2) (pj_c Qje))))),λz R σ H W ρ Q Q' s hw kk=>?_⟩
 obtain ⟨x,hl,hw⟩:=Gc hw
 obtain ⟨y,hl2,hz,q⟩:=Gc hw
 have h1:=Jo (c++x++d++y) g
 have h2:=Jo (c++x++d) y
 have h3:=Jo (c++x) d
 have h4:=Jo c x
 rw [Str.empty_append]
 refine ⟨by omega,_,X2 s hl,x,rfl,by omega,by omega,by omega,_,X2 s hl2,y,rfl,by omega,by omega,hz,hz,kk _ H W (.str _) ρ [] (Post.flat s (FrW.refl H W) (λ_=>⟨Same.refl H,rfl,rfl⟩) (.str _)) q⟩
end
end PV
namespace PV
open PySem PySem.Spec L2
def Qjw (i:Nat):WE:=λρ Q=>oget (look ρ i) λd=>tlOf d λds xs=>Qi xs=true/\Q (.lst xs) (ρ.set i (some (.lst ds)))
theorem Qlb (ht:T.own i=true:=by rfl) (hN:X.N[i]? = some x:=by rfl) (hv:Vis X.env.scope x:=by first | exact Or.inl rfl | exact Or.inr (Or.inl rfl) | exact Or.inr (Or.inr rfl)) (hd:(x == ("__debug__" : Str))=false:=by decide)
  (hcd:(x == ("__classdict__" : Str))=false:=by decide)
  (hbase:attributeBase (.Name x p) "pop" X.env (eval (.Name x p) X.env)=eval (.Name x p) X.env:=by rfl) (hline:(apos.endLine == cpos.line)=true:=by rfl) :
  EV X T true false (.Call (.Attribute (.Name x p) "pop" apos) [] [] cpos) (Qjw i):=by
 refine ⟨_,Qne PySem.F.plainAttrs_list PySem.F.slot_list_pop PySem.F.type_list_pop Qnr (Zh hN hv hd hcd) hbase hline,λz R σ H W ρ Q Q' s hw k=>?_⟩
 obtain ⟨sd,hl0,hw⟩:=Qs hw
 obtain ⟨ds,xs,rfl,hpx,hw⟩:=Qh6 hw
 obtain ⟨fp,s0⟩:=id s
 obtain ⟨v0,hv0,r0⟩:=s0.at_ i _ hl0
 obtain ⟨nd0,sw0⟩:=s0.own i _ hl0 ht
 have hds:(ds++[D.lst xs])[ds.length]? = some (.lst xs):=by simp
 have inv:∃(tp l0:Addr) (vs:List V) (A C:List Addr),v0=.ref tp/\H tp=some (.lst vs)/\vs.length=ds.length+1/\vs[ds.length]? = some (.ref l0)/\Rep X.K H (.lst xs) (.ref l0) [l0]/\fp i=tp::(A++[l0]++C)/\Reps X.K H ((ds++[D.lst xs]).take ds.length) (vs.take ds.length) A:=by
  generalize fp i=Fi at r0
  cases r0 with
  | @lst tp vs _ F e1 r =>
   obtain ⟨y,A,B,C,hy,hF,rB,rA,rC⟩:=r.split hds
   obtain ⟨l0,ys,G,rfl,rfl,e2,r3⟩:=rB.iLst
   obtain ⟨hG,r3⟩:=r3.pure hpx
   subst hG
   exact ⟨tp,l0,vs,A,C,rfl,e1,by rw [r.length];simp,hy,.lst e2 r3,by rw [hF],rA⟩
 obtain ⟨tp,l0,vs,A,C,rfl,e1,hvl,hy,rB,hF,rA⟩:=inv
 have hm:tp∈fp i:=by rw [hF];simp
 have hWl:=sw0 tp hm
 rw [hF] at nd0
 obtain ⟨ntp,nd1⟩:=List.nodup_cons.mp nd0
 have hlt:tp∉[l0]:=λz=>ntp (by rw [List.mem_singleton.mp z];simp)
 have hA:tp∉A:=λz=>ntp (by simp [z])
 refine ⟨_,hv0,.inl ⟨rfl,_,.of e1⟩,tp,vs,.ref l0,rfl,rfl,e1,by rw [hvl];exact hy,?_⟩
 have hdl:vs.dropLast=vs.take ds.length:=by rw [List.dropLast_eq_take,hvl];rfl
 have t1:(ds++[D.lst xs]).take ds.length=ds:=by simp
 rw [t1] at rA
 have hrep:Rep X.K (upd H tp (.lst vs.dropLast)) (.lst ds) (.ref tp) (tp::A):=by
  refine .lst Qj ?_
  rw [hdl]
  exact rA.upd e1 rfl hA
 have sub:∀a∈tp::A,a∈fp i:=λa ha=>by
  rw [hF]
  rcases List.mem_cons.mp ha with rfl | ha
  ·exact List.mem_cons_self
  ·simp [ha]
 have nd2:(tp::A).Nodup:=List.nodup_cons.mpr ⟨hA,by rw [List.append_assoc] at nd1;exact (List.nodup_append.mp nd1).1⟩
 exact k (.ref l0) _ _ (.lst xs) _ [l0] ⟨s0.write hl0 ht hv0 hm Y9 ⟨_,Qj,rfl⟩ hrep nd2 (λa ha=>.inl (sub a ha)),(FrW.refl H W).write hWl (s0.wd tp hWl) Y9 ⟨_,Qj,rfl⟩ (λa ha=>.inl (sw0 a (sub a ha))),(λh=>nomatch h),rB.upd e1 rfl hlt,λh=>nomatch h⟩ hw
end PV
variable {u:PV.WS} {w:PySem.World} {t:P58.Tr} {p d:Nat} {l:Bool} {GR:PV.GA} {C_Level C_Single C_Upright:PySem.Addr} {Pn:PV.EndsP}
namespace K58
open PySem PySem.Spec L2 PV P58
open PyProof.Rows (envOfC)
def top (i:Nat):Stmt:=PySem.Challenge.pw_tanglehouse_k58_parts_written_and_read.main.body.getD i (.Pass ⟨0,0,0,0⟩)
def isC (x:Str):Bool:=decide (x=(Str.ofString "Level")) || decide (x=(Str.ofString "Upright")) || decide (x=(Str.ofString "Single")) || decide (x=(Str.ofString "Beside")) || decide (x=(Str.ofString "Above")) || decide (x=(Str.ofString "Turned")) || decide (x=(Str.ofString "Mirrored"))
def Zn (x:Str):Bool:=decide (x=(Str.ofString "Above"))
def Y4 (x:Str):Bool:=decide (x=(Str.ofString "Beside"))
def Zm (x:Str):Bool:=decide (x=(Str.ofString "Level"))
def J8 (x:Str):Bool:=decide (x=(Str.ofString "Mirrored"))
def Yv (x:Str):Bool:=true
def Y3 (x:Str):Bool:=decide (x=(Str.ofString "Single"))
def Y2 (x:Str):Bool:=decide (x=(Str.ofString "Turned"))
def Yk (x:Str):Bool:=decide (x=(Str.ofString "Upright"))
structure Bn (K:PySem.W.Frag) (mg:Str->Option Value):Prop where
 nb_all:mg "all" = none
 nb_isinstance:mg "isinstance" = none
 nb_len:mg "len" = none
 nb_range:mg "range" = none
 nb_str:mg "str" = none
 c_MOST_OPEN:∃t:Tok,mg "MOST_OPEN" = some (.int 8 t)
 ob:ObjD K
 fl:∀(i:Nat) (x:Str) (C:Addr),isC x=true->atN K x C->ClsD K C/\Q1 K C (fldS i)
 d_Above:∃D,mg "Above" = some (.ref D)/\(∀x C,isC x=true->atN K x C->ClsD K C/\PySem.W.kitOne K (.ref C) (.ref D)=some (Zn x))/\PySem.W.kitOne K (.type "str") (.ref D)=some false
 d_Beside:∃D,mg "Beside" = some (.ref D)/\(∀x C,isC x=true->atN K x C->ClsD K C/\PySem.W.kitOne K (.ref C) (.ref D)=some (Y4 x))/\PySem.W.kitOne K (.type "str") (.ref D)=some false
 d_Level:∃D,mg "Level" = some (.ref D)/\(∀x C,isC x=true->atN K x C->ClsD K C/\PySem.W.kitOne K (.ref C) (.ref D)=some (Zm x))/\PySem.W.kitOne K (.type "str") (.ref D)=some false
 d_Mirrored:∃D,mg "Mirrored" = some (.ref D)/\(∀x C,isC x=true->atN K x C->ClsD K C/\PySem.W.kitOne K (.ref C) (.ref D)=some (J8 x))/\PySem.W.kitOne K (.type "str") (.ref D)=some false
 d_Part:∃D,mg "Part" = some (.ref D)/\(∀x C,isC x=true->atN K x C->ClsD K C/\PySem.W.kitOne K (.ref C) (.ref D)=some (Yv x))/\PySem.W.kitOne K (.type "str") (.ref D)=some false
 d_Single:∃D,mg "Single" = some (.ref D)/\(∀x C,isC x=true->atN K x C->ClsD K C/\PySem.W.kitOne K (.ref C) (.ref D)=some (Y3 x))/\PySem.W.kitOne K (.type "str") (.ref D)=some false
 d_Turned:∃D,mg "Turned" = some (.ref D)/\(∀x C,isC x=true->atN K x C->ClsD K C/\PySem.W.kitOne K (.ref C) (.ref D)=some (Y2 x))/\PySem.W.kitOne K (.type "str") (.ref D)=some false
 d_Upright:∃D,mg "Upright" = some (.ref D)/\(∀x C,isC x=true->atN K x C->ClsD K C/\PySem.W.kitOne K (.ref C) (.ref D)=some (Yk x))/\PySem.W.kitOne K (.type "str") (.ref D)=some false
def Qq:GI:=λds k=>∃c n b,ds=[rowD c n,.int b]/\0<b/\b<1073741824/\0<=n/\n<=1000000/\∀c' r,0<=r->r<b->k (.int r) (rowD c' (n+1))
abbrev J3:Stmt:=top 24
theorem Yw:FnScope ["_law_row","_law_base","_law_rest","_law_number"] ["_law_row","_law_base"] (Qb J3):=⟨rfl,rfl,rfl,by decide +kernel,rfl,by decide +kernel,by decide +kernel⟩
def U9:Tg:={ own:=λi=>i == 0 || i == 2 || i == 3,io:=[0] }
def U2:WS:=(wSeq (Xb 0 (wBin Yd (wBin dIx (wVar 0) (wC (.int 1))) (wC (.int 1))) (wC (.int 1)))
 (wSeq (wIf (wBl (wBin (dCmp λi j=>decide (j<i)) (wBin dIx (wVar 0) (wC (.int 0))) (wBin dPow (wC (.int 10)) (wC (.int 18))))) (wSeq (wSet 2 (wBin dSub (wBin dIx (wVar 0) (wC (.int 0))) (wBin dPow (wC (.int 10)) (wC (.int 18)))))
 (wSeq (Xb 0 (wBin Yd (wBin dPow (wC (.int 10)) (wC (.int 18))) (wBin dDiv (wVar 2) (wVar 1))) (wC (.int 0)))
 (wRet (wBin dMod (wVar 2) (wVar 1))))) Qu)
 (wSeq (wSet 3 (wBin dMod (wBin Yd (wBin Yd (wBin dMul (wBin dIx (wVar 0) (wC (.int 0))) (wC (.int 48271))) (wBin dMul (wBin dMul (wC (.int 7919)) (wBin dIx (wVar 0) (wC (.int 1)))) (wBin dIx (wVar 0) (wC (.int 1))))) (wC (.int 11))) (wC (.int 2147483629))))
 (wSeq (wSet 3 (wBin dMod (wBin Yd (wBin Yd (wBin dMul (wVar 3) (wVar 3)) (wBin dMul (wC (.int 69621)) (wBin dIx (wVar 0) (wC (.int 1))))) (wC (.int 7))) (wC (.int 2147483587))))
 (wRet (wBin dMod (wBin dDiv (wVar 3) (wC (.int 5))) (wVar 1)))))))
theorem Qb9 (B:Bn K mg):∀(cdv:Value) (A:Around) (outer:List PySem.Env) (s:Shared) (H:Hp) (E:XK),Room 0 (A.deeper (envOfC "_law_take" (Qb J3) s.heap.objs.size f cdv))->SVs (cxOf CX0 P w K mg base ["_law_row","_law_base","_law_rest","_law_number"] "_law_take" (Qb J3) f cdv A outer s H E).nox U9 (Qx J3) U2:=λcdv A outer s H E hr =>
  (Qe (Qch (i:=0) (Q6 hr) (Jb Jg (Jc (Q8 (Q6 hr)) (Qc 0) Qg) Qg) Qg)
  (Qe (Q7 (Qy Qhc (Jc (Q8 (Q6 hr)) (Qc 0) Qg) (Jb Qfl Qg Qg)) (Qe (Jm (i:=2) (Jb Xj (Jc (Q8 (Q6 hr)) (Qc 0) Qg) (Jb Qfl Qg Qg)) Yw.nd)
  (Qe (Qch (i:=0) (Q6 hr) (Jb Jg (Jb Qfl Qg Qg) (Jb Qji (Qc 2) (Qc 1))) Qg)
  (Qf (Qr (Jb Qa7 (Qc 2) (Qc 1)))))) Ql)
  (Qe (Jm (i:=3) (Jb Qa7 (Jb Jg (Jb Jg (Jb Qa6 (Jc (Q8 (Q6 hr)) (Qc 0) Qg) Qg) (Jb Qa6 (Jb Qa6 Qg (Jc (Q8 (Q6 hr)) (Qc 0) Qg)) (Jc (Q8 (Q6 hr)) (Qc 0) Qg))) Qg) Qg) Yw.nd)
  (Qe (Jm (i:=3) (Jb Qa7 (Jb Jg (Jb Jg (Jb Qa6 (Qc 3) (Qc 3)) (Jb Qa6 Qg (Jc (Q8 (Q6 hr)) (Qc 0) Qg))) Qg) Qg) Yw.nd)
  (Qf (Qr (Jb Qa7 (Jb Qji (Qc 3) Qg) (Qc 1))))))))
theorem Qa3 (F:Fun K "_law_take" "_law_take" J3 f fd) (B:Bn K mg):FnOk P w K mg base CX0 1 f fd ["_law_row","_law_base"] (spI K 0 Qq):=by
 refine Qoi (T:=U9) F Yw rfl rfl (λds kk h=>?_) (Qb9 B) (λds kk h=>?_)
 ·obtain ⟨c,n,b,rfl,_⟩:=h
  exact ⟨rfl,_,rfl,rfl⟩
 ·obtain ⟨c,n,b,rfl,hb,hb2,hn,hn2,k⟩:=h
  have hn1:-18446744073709551616<n+1:=by omega
  have hn2':n+1<18446744073709551616:=by omega
  simp only [U2,wSeq,Xb,wBin,env0,rowD,List.map_cons,List.map_nil,List.length_cons,List.length_nil,Nat.zero_add,Nat.reduceAdd,List.replicate,List.cons_append,List.nil_append,wC,wIf,wSet,wRet,Jn,Int.reduceLE,Int.reduceNeg,Int.reduceLT,Qeo,Int.reduceToNat,Int.reducePow,Qu,r_bl,look,Option.isSome_some,List.set_cons_zero,List.set_cons_succ,Qo,true_and,Qeg,Nat.lt_add_one,Qk1,List.length_set,Nat.zero_lt_succ,Qk2,Vs,V4,Vf,Ve,List.getElem?_cons_zero,Qi,Bool.and_true,Qdg,hb,Qaq,hb2,Qcm,Qas,D.pure,Bool.true_and,List.getElem?_cons_succ,Qeq,Xy,Q5,Qcl,hn1,hn2']
  split
  ·exact k _ _ (Int.emod_nonneg _ (by omega)) (Int.emod_lt_of_pos _ hb)
  ·have hx:-18446744073709551616<(c*48271+7919*(n+1)*(n+1)+11) % 2147483629/\(c*48271+7919*(n+1)*(n+1)+11) % 2147483629<18446744073709551616:=by omega
   generalize (c*48271+7919*(n+1)*(n+1)+11) % 2147483629=x at hx
   simp only [Int.reduceNeg,hx.1,hx.2,Qcl,Qas,Int.reduceLT,Qaq,Qcm,hb]
   exact k _ _ (Int.emod_nonneg _ (by omega)) (Int.emod_lt_of_pos _ hb)
def mk (l:Bool) (xs:List D):D:=if l then .kls xs else .tup xs
def tD (l:Bool):Tr->D
 | .lf k=>mk l [.str (lfW k)]
 | .un b t=>mk l [.str (unW b),tD l t]
 | .bi b t u=>mk l [.str (biW b),tD l t,tD l u]
def lfC:Nat->Str
 | 0=>Str.ofString "Single"
 | 1=>Str.ofString "Level"
 | _=>Str.ofString "Upright"
def unC:Bool->Str
 | false=>Str.ofString "Turned"
 | true=>Str.ofString "Mirrored"
def biC:Bool->Str
 | false=>Str.ofString "Beside"
 | true=>Str.ofString "Above"
def oD:Tr->D
 | .lf k=>.ist (lfC k) []
 | .un b t=>.ist (unC b) [oD t]
 | .bi b t u=>.ist (biC b) [oD t,oD u]
theorem Yc:∀t,(oD t).pure=true
 | .lf _=>rfl
 | .un _ _=>rfl
 | .bi _ _ _=>rfl
theorem Xq {l:Bool}:∀t,(tD l t).pure=true
 | .lf _=>by cases l <;> rfl
 | .un b t=>by
  have:=Xq (l:=l) t
  cases l
  ·show Qi [_,tD false t]=true;simp only [Qi,D.pure,this,Bool.and_self]
  ·rfl
 | .bi b t u=>by
  have:=Xq (l:=l) t
  have h2:=Xq (l:=l) u
  cases l
  ·show Qi [_,tD false t,tD false u]=true;simp only [Qi,D.pure,this,h2,Bool.and_self]
  ·rfl
def Qf4 (d:Nat):GI:=λds k=>∃(c n:Int) (m:Nat),ds=[rowD c n,.int m]/\m<=d/\0<=n/\n+((4*4 ^ m:Nat):Int)<=100000/\∀(c' n':Int) (t:Tr),t.h<=m->n<=n'->n'<=n+((4*4 ^ m:Nat):Int)->k (tD false t) (rowD c' n')
def Yg:GI:=Qf4 3
abbrev Jt:Stmt:=top 25
theorem Uf:FnScope ["_law_row","_law_deep","_law_way"] ["_law_row","_law_deep"] (Qb Jt):=⟨rfl,rfl,rfl,by decide +kernel,rfl,by decide +kernel,by decide +kernel⟩
def U7:Tg:={ own:=λi=>i == 0 || i == 2,io:=[0] }
def U0 (GR:GI):WS:=(wSeq (wSet 2 (Jh 0 Qq (Ys 0 (Qd (wC (.int 8)) wNil))))
 (wSeq (wIf (wOr (wBl (wBin dEq (wVar 1) (wC (.int 0)))) (wBl (wBin dEq (wVar 2) (wC (.int 0))))) (wRet (wBin dIx (wLst (Qd (wTup (Qd (wC (.str (Str.ofString "single"))) wNil)) (Qd (wTup (Qd (wC (.str (Str.ofString "single"))) wNil)) (Qd (wTup (Qd (wC (.str (Str.ofString "level"))) wNil)) (Qd (wTup (Qd (wC (.str (Str.ofString "upright"))) wNil)) wNil))))) (Jh 0 Qq (Ys 0 (Qd (wC (.int 4)) wNil))))) Qu)
 (wSeq (wIf (wBl (wBin (dCmp λi j=>decide (i<j)) (wVar 2) (wC (.int 3)))) (wRet (wTup (Qd (wBin dIx (wLst (Qd (wC (.str (Str.ofString "turned"))) (Qd (wC (.str (Str.ofString "mirrored"))) wNil))) (wBin dSub (wVar 2) (wC (.int 1)))) (Qd (Jh 0 GR (Ys 0 (Qd (wBin dSub (wVar 1) (wC (.int 1))) wNil))) wNil)))) Qu)
 (wRet (wTup (Qd (wBin dIx (wLst (Qd (wC (.str (Str.ofString "beside"))) (Qd (wC (.str (Str.ofString "above"))) wNil))) (wBin dMod (wVar 2) (wC (.int 2)))) (Qd (Jh 0 GR (Ys 0 (Qd (wBin dSub (wVar 1) (wC (.int 1))) wNil))) (Qd (Jh 0 GR (Ys 0 (Qd (wBin dSub (wVar 1) (wC (.int 1))) wNil))) wNil))))))))
theorem Qb7 (B:Bn K mg) (C__law_take:Cal P w K mg base "_law_take" 1 ["_law_row","_law_base"] (spI K 0 Qq)) {GR:GI} (C__law_tree:Cal P w K mg base "_law_tree" j ["_law_row","_law_deep"] (spI K 0 GR)):∀(cdv:Value) (A:Around) (outer:List PySem.Env) (s:Shared) (H:Hp) (E:XK),Room (max j 1) (A.deeper (envOfC "_law_tree" (Qb Jt) s.heap.objs.size f cdv))->SVs (cxOf CX0 P w K mg base ["_law_row","_law_deep","_law_way"] "_law_tree" (Qb Jt) f cdv A outer s H E).nox U7 (Qx Jt) (U0 GR):=λcdv A outer s H E hr =>
  (Qe (Jm (i:=2) (Jr C__law_take (hr.mono (by omega)) (Y1 (i:=0) (Qa Qg Qh))) Uf.nd)
  (Qe (Q7 (Za (Qdv (Qy (Yf hr.units) (Qc 1) Qg) (Xo (Qy (Yf hr.units) (Qc 2) Qg)))) (Qf (Qr (Jc (Q8 (Q6 hr)) (Zi (Qa (Xm (Qa Qn Qh)) (Qa (Xm (Qa Qn Qh)) (Qa (Xm (Qa Qn Qh)) (Qa (Xm (Qa Qn Qh)) Qh))))) (Jr C__law_take (hr.mono (by omega)) (Y1 (i:=0) (Qa Qg Qh)))))) Ql)
  (Qe (Q7 (Qy Qku (Qc 2) Qg) (Qf (Qr (Xm (Qa (Jc (Q8 (Q6 hr)) (Zi (Qa Qn (Qa Qn Qh))) (Jb Xj (Qc 2) Qg)) (Qa (Jr C__law_tree (hr.mono (by omega)) (Y1 (i:=0) (Qa (Jb Xj (Qc 1) Qg) Qh))) Qh))))) Ql)
  (Qf (Qr (Xm (Qa (Jc (Q8 (Q6 hr)) (Zi (Qa Qn (Qa Qn Qh))) (Jb Qa7 (Qc 2) Qg)) (Qa (Jr C__law_tree (hr.mono (by omega)) (Y1 (i:=0) (Qa (Jb Xj (Qc 1) Qg) Qh))) (Qa (Jr C__law_tree (hr.mono (by omega)) (Y1 (i:=0) (Qa (Jb Xj (Qc 1) Qg) Qh))) Qh)))))))))
theorem Vl (F:Fun K "_law_tree" "_law_tree" Jt f fd) (B:Bn K mg) (C1:Cal P w K mg base "_law_take" 1 ["_law_row","_law_base"] (spI K 0 Qq)) {GR:GI} (C2:Cal P w K mg base "_law_tree" j ["_law_row","_law_deep"] (spI K 0 GR)) (hd:0<d->GR=Qf4 (d-1)) (h3:d<=3) :
  FnOk P w K mg base CX0 (max j 1+1) f fd ["_law_row","_law_deep"] (spI K 0 (Qf4 d)):=by
 refine Qoi (T:=U7) F Uf rfl rfl (λds kk h=>?_) (Qb7 B C1 C2) (λds kk h=>?_)
 ·obtain ⟨c,n,m,rfl,_⟩:=h
  exact ⟨rfl,_,rfl,rfl⟩
 ·obtain ⟨c,n,m,rfl,hm,hn,hn2,k⟩:=h
  simp only [U0,wSeq,wSet,Jh,Ys,env0,rowD,List.map_cons,List.map_nil,List.length_cons,List.length_nil,Nat.zero_add,Nat.reduceAdd,List.replicate,List.cons_append,List.nil_append,look,Option.isSome_some,Qd,wC,wNil,Qi,D.pure,Bool.and_self,wIf,wOr,List.set_cons_zero,List.set_cons_succ,wRet,wBin,wLst,wTup,true_and,Qu,Bool.and_true,Jn,r_bl,reduceIte,Qo,Qdg,G4,Q5,Vs]
  refine ⟨c,n,8,rfl,by decide,by decide,hn,by omega,λc1 r1 h1 h2=>?_⟩
  simp only [rowD,Vs,Qi,D.pure,Bool.and_self,true_and,Qdg,V4,Int.reduceLT,Qaq,Xy,Q5,G4]
  have hp:0<4 ^ m:=Nat.pow_pos (by decide)
  have sz:∀i:Nat,i<=4->i<=sizeLine:=λi hi=>Nat.le_trans hi (by decide)
  have leaf:1<=sizeLine/\1<=sizeLine/\1<=sizeLine/\1<=sizeLine/\4<=sizeLine/\Qq [D.lst [D.int c1,D.int (n+1)],D.int 4] λd d'=>dIx (D.lst [D.tup [D.str (Str.ofString "single")],D.tup [D.str (Str.ofString "single")],D.tup [D.str (Str.ofString "level")],D.tup [D.str (Str.ofString "upright")]]) d λd=>Vw d'=true/\kk d d':=by
   refine ⟨sz _ (by decide),sz _ (by decide),sz _ (by decide),sz _ (by decide),sz _ (by decide),c1,n+1,4,rfl,by decide,by decide,by omega,by omega,λc2 r2 a1 a2=>?_⟩
   have fin:∀i:Nat,kk (tD false (.lf i)) (rowD c2 (n+1+1)):=λi=>k c2 (n+1+1) (.lf i) (Nat.zero_le _) (by omega) (by omega)
   rcases Qpt (a:=D.tup [D.str (Str.ofString "single")]) (b:=D.tup [D.str (Str.ofString "single")]) (c:=D.tup [D.str (Str.ofString "level")]) (d:=D.tup [D.str (Str.ofString "upright")]) a1 a2 with q | q | q | q
   ·simp only [rowD,Vs,Qi,D.pure,Bool.and_self,true_and,V4,q,Qo];exact fin 0
   ·simp only [rowD,Vs,Qi,D.pure,Bool.and_self,true_and,V4,q,Qo];exact fin 0
   ·simp only [rowD,Vs,Qi,D.pure,Bool.and_self,true_and,V4,q,Qo];exact fin 1
   ·simp only [rowD,Vs,Qi,D.pure,Bool.and_self,true_and,V4,q,Qo];exact fin 2
  by_cases hm0:(m:Int)=0
  ·simp only [hm0,decide_true,reduceIte];exact leaf
  ·simp only [hm0,decide_false,Bool.false_eq_true,reduceIte]
   by_cases hr0:r1=0
   ·simp only [hr0,decide_true,reduceIte];exact leaf
   ·simp only [hr0,decide_false,Bool.false_eq_true,reduceIte]
    obtain ⟨m',rfl⟩:∃m',m=m'+1:=⟨m-1,by omega⟩
    have hG:=hd (by omega)
    subst hG
    have e1:((m'+1:Nat):Int)-1=(m':Int):=by omega
    rw [e1]
    have hpow:4 ^ (m'+1)=4 ^ m'*4:=Nat.pow_succ ..
    rw [hpow] at k hn2
    have hp:0<4 ^ m':=Nat.pow_pos (by decide)
    have hpb:4 ^ m'<=4 ^ 3:=Nat.pow_le_pow_right (by decide) (by omega)
    by_cases hr3:r1<3
    ·simp only [hr3,decide_true,reduceIte]
     obtain ⟨b,hb⟩:∃b:Bool,L2.atI [D.str (Str.ofString "turned"),D.str (Str.ofString "mirrored")] (r1-1)=some (.str (unW b)):=by
      have:r1=1\/r1=2:=by omega
      rcases this with rfl | rfl
      ·exact ⟨false,rfl⟩
      ·exact ⟨true,rfl⟩
     rw [hb]
     refine ⟨sz _ (by decide),c1,n+1,m',rfl,by omega,by omega,by omega,λc2 n2 t ht b1 b2=>⟨sz _ (by decide),rfl,?_⟩⟩
     exact k c2 n2 (.un b t) (by show t.h+1<=_;omega) (by omega) (by omega)
    ·simp only [hr3,decide_false,Bool.false_eq_true,reduceIte]
     obtain ⟨b,hb⟩:∃b:Bool,L2.atI [D.str (Str.ofString "beside"),D.str (Str.ofString "above")] (r1 % 2)=some (.str (biW b)):=by
      have:r1 % 2=0\/r1 % 2=1:=by omega
      rcases this with e | e
      ·exact ⟨false,by rw [e];rfl⟩
      ·exact ⟨true,by rw [e];rfl⟩
     rw [hb]
     refine ⟨sz _ (by decide),c1,n+1,m',rfl,by omega,by omega,by omega,λc2 n2 t ht b1 b2=>⟨rfl,c2,n2,m',rfl,by omega,by omega,by omega,λc3 n3 u hu b3 b4=>⟨sz _ (by decide),rfl,?_⟩⟩⟩
     exact k c3 n3 (.bi b t u) (by show max t.h u.h+1<=_;omega) (by omega) (by omega)
theorem Qov (F:Fun K x x st f fd) (hm:mg x=some (.ref f)) (hk:PySem.W.keepIn K (.ref f)=true) (hb:Yt K fd ps []):Cal P w K mg base x 0 ps (spI K p λ_ _=>False) :=
 ⟨f,fd,⟨λvs H Q E h=>by obtain ⟨ds,_,_,_,_,h,_⟩:=h;exact h.elim,λA outer s H args us vs Q E _ _ _ _ h=>by obtain ⟨ds,_,_,_,_,h,_⟩:=h;exact h.elim⟩,hm,hk,hb⟩
theorem Qa1 (F:Fun K "_law_tree" "_law_tree" Jt f fd) (B:Bn K mg) (C1:Cal P w K mg base "_law_take" 1 ["_law_row","_law_base"] (spI K 0 Qq)) (hm:mg "_law_tree" = some (.ref f)) (hb:Yt K fd ["_law_row","_law_deep"] []) :
  FnOk P w K mg base CX0 14 f fd ["_law_row","_law_deep"] (spI K 0 Yg):=by
 have s0:=Vl (d:=0) F B C1 (Qov F hm F.kp hb) (λh=>nomatch h) (by decide)
 have s1:=Vl (d:=1) F B C1 ⟨f,fd,s0,hm,F.kp,hb⟩ (λ_=>rfl) (by decide)
 have s2:=Vl (d:=2) F B C1 ⟨f,fd,s1,hm,F.kp,hb⟩ (λ_=>rfl) (by decide)
 have s3:=Vl (d:=3) F B C1 ⟨f,fd,s2,hm,F.kp,hb⟩ (λ_=>rfl) (by decide)
 exact s3.mono (by decide)
theorem ixM {i:Int}:dIx (mk l xs) (.int i) k=oget (L2.atI xs i) k:=by cases l <;> rfl
theorem lenM:dLen [mk l xs] k=k (.int (xs.length:Nat)):=by cases l <;> rfl
def sW (t:Tr):Str:=match t with
 | .lf k=>lfW k
 | .un b _=>unW b
 | .bi b _ _=>biW b
theorem ofS (a b:String):(Str.ofString a=Str.ofString b)=(a=b):=propext ⟨λh=>by
 rw [Str.ofString_eq_toList,Str.ofString_eq_toList] at h
 injection h with h
 have h:=congrArg Array.toList h
 simp only at h
 have inj:∀l m:List Char,l.map Char.toNat=m.map Char.toNat->l=m:=λl=>by
  induction l with
  | nil=>intro m h;cases m with
   | nil=>rfl
   | cons _ _=>cases h
  | cons c l ih=>intro m h;cases m with
   | nil=>cases h
   | cons e m =>
    rw [List.map_cons,List.map_cons] at h
    injection h with h1 h2
    rw [ih m h2,Char.toNat_inj.mp h1]
 exact String.toList_inj.mp (inj _ _ h),λh=>by rw [h]⟩
def Qcz (d:Nat):GA:=λds k=>∃(l:Bool) (t:Tr),ds=[tD l t]/\t.h<=d/\k (oD t)
def Yh:GA:=Qcz 8
abbrev Jv:Stmt:=top 26
theorem Ug:FnScope ["_law_tree_here","_law_one"] ["_law_tree_here"] (Qb Jv):=⟨rfl,rfl,rfl,by decide +kernel,rfl,by decide +kernel,by decide +kernel⟩
def Ga:Tg:={ own:=λi=>i == 1,io:=[] }
def U3 (GR:GA):WS:=(wSeq (wIf (wBl (wBin dEq (wBin dIx (wVar 0) (wC (.int 0))) (wC (.str (Str.ofString "single"))))) (wRet (wC (.ist (Str.ofString "Single") []))) Qu)
 (wSeq (wIf (wBl (wBin dEq (wBin dIx (wVar 0) (wC (.int 0))) (wC (.str (Str.ofString "level"))))) (wRet (wC (.ist (Str.ofString "Level") []))) Qu)
 (wSeq (wIf (wBl (wBin dEq (wBin dIx (wVar 0) (wC (.int 0))) (wC (.str (Str.ofString "upright"))))) (wRet (wC (.ist (Str.ofString "Upright") []))) Qu)
 (wSeq (wSet 1 (Qv GR (Qd (wBin dIx (wVar 0) (wC (.int 1))) wNil)))
 (wSeq (wIf (wBl (wBin dEq (wBin dIx (wVar 0) (wC (.int 0))) (wC (.str (Str.ofString "turned"))))) (wRet (wMk (Str.ofString "Turned") 1 (Qd (wVar 1) wNil))) Qu)
 (wSeq (wIf (wBl (wBin dEq (wBin dIx (wVar 0) (wC (.int 0))) (wC (.str (Str.ofString "mirrored"))))) (wRet (wMk (Str.ofString "Mirrored") 1 (Qd (wVar 1) wNil))) Qu)
 (wSeq (wIf (wBl (wBin dEq (wBin dIx (wVar 0) (wC (.int 0))) (wC (.str (Str.ofString "beside"))))) (wRet (wMk (Str.ofString "Beside") 2 (Qd (wVar 1) (Qd (Qv GR (Qd (wBin dIx (wVar 0) (wC (.int 2))) wNil)) wNil)))) Qu)
 (wRet (wMk (Str.ofString "Above") 2 (Qd (wVar 1) (Qd (Qv GR (Qd (wBin dIx (wVar 0) (wC (.int 2))) wNil)) wNil)))))))))))
theorem Qca (B:Bn K mg) (I_Above:IniN P w K mg base "Above" 2 1) (I_Beside:IniN P w K mg base "Beside" 2 1) (K_Level:ClN K mg "Level" C_Level) (J_Level:PySem.W.findIn K (.ref C_Level) "__init__" = some (some (.builtin "object.__init__"))) (I_Mirrored:IniN P w K mg base "Mirrored" 1 1) (K_Single:ClN K mg "Single" C_Single) (J_Single:PySem.W.findIn K (.ref C_Single) "__init__" = some (some (.builtin "object.__init__"))) (I_Turned:IniN P w K mg base "Turned" 1 1) (K_Upright:ClN K mg "Upright" C_Upright) (J_Upright:PySem.W.findIn K (.ref C_Upright) "__init__" = some (some (.builtin "object.__init__"))) (C__law_part:Cal P w K mg base "_law_part" j ["_law_tree_here"] (spR K GR)):∀(cdv:Value) (A:Around) (outer:List PySem.Env) (s:Shared) (H:Hp) (E:XK),Room (max j 2) (A.deeper (envOfC "_law_part" (Qb Jv) s.heap.objs.size f cdv))->SVs (cxOf CX0 P w K mg base ["_law_tree_here","_law_one"] "_law_part" (Qb Jv) f cdv A outer s H E).nox Ga (Qx Jv) (U3 GR):=λcdv A outer s H E hr =>
  (Qe (Q7 (Qy (Yf hr.units) (Jc (Q8 (Q6 hr)) (Qc 0) Qg) Qn) (Qf (Qr (Xn K_Single J_Single))) Ql)
  (Qe (Q7 (Qy (Yf hr.units) (Jc (Q8 (Q6 hr)) (Qc 0) Qg) Qn) (Qf (Qr (Xn K_Level J_Level))) Ql)
  (Qe (Q7 (Qy (Yf hr.units) (Jc (Q8 (Q6 hr)) (Qc 0) Qg) Qn) (Qf (Qr (Xn K_Upright J_Upright))) Ql)
  (Qe (Jm (i:=1) (Qt C__law_part (hr.mono (by omega)) (Qa (Jc (Q8 (Q6 hr)) (Qc 0) Qg) Qh)) Ug.nd)
  (Qe (Q7 (Qy (Yf hr.units) (Jc (Q8 (Q6 hr)) (Qc 0) Qg) Qn) (Qf (Qr (Ul I_Turned (hr.mono (by omega)) (Qa (Qc 1) Qh)))) Ql)
  (Qe (Q7 (Qy (Yf hr.units) (Jc (Q8 (Q6 hr)) (Qc 0) Qg) Qn) (Qf (Qr (Ul I_Mirrored (hr.mono (by omega)) (Qa (Qc 1) Qh)))) Ql)
  (Qe (Q7 (Qy (Yf hr.units) (Jc (Q8 (Q6 hr)) (Qc 0) Qg) Qn) (Qf (Qr (Ul I_Beside (hr.mono (by omega)) (Qa (Qc 1) (Qa (Qt C__law_part (hr.mono (by omega)) (Qa (Jc (Q8 (Q6 hr)) (Qc 0) Qg) Qh)) Qh))))) Ql)
  (Qf (Qr (Ul I_Above (hr.mono (by omega)) (Qa (Qc 1) (Qa (Qt C__law_part (hr.mono (by omega)) (Qa (Jc (Q8 (Q6 hr)) (Qc 0) Qg) Qh)) Qh))))))))))))
theorem Qb3 (F:Fun K x x st f fd) (hm:mg x=some (.ref f)) (hb:Yt K fd ps []):Cal P w K mg base x 0 ps (spR K λ_ _=>False) :=
 ⟨f,fd,⟨λvs H Q E h=>by obtain ⟨ds,_,_,_,h,_⟩:=h;exact h.elim,λA outer s H args us vs Q E _ _ _ _ h=>by obtain ⟨ds,_,_,_,h,_⟩:=h;exact h.elim⟩,hm,F.kp,hb⟩
theorem Qax (F:Fun K "_law_part" "_law_part" Jv f fd) (B:Bn K mg) (I_Above:IniN P w K mg base "Above" 2 1) (I_Beside:IniN P w K mg base "Beside" 2 1) (K_Level:ClN K mg "Level" C_Level) (J_Level:PySem.W.findIn K (.ref C_Level) "__init__" = some (some (.builtin "object.__init__"))) (I_Mirrored:IniN P w K mg base "Mirrored" 1 1) (K_Single:ClN K mg "Single" C_Single) (J_Single:PySem.W.findIn K (.ref C_Single) "__init__" = some (some (.builtin "object.__init__"))) (I_Turned:IniN P w K mg base "Turned" 1 1) (K_Upright:ClN K mg "Upright" C_Upright) (J_Upright:PySem.W.findIn K (.ref C_Upright) "__init__" = some (some (.builtin "object.__init__"))) (C2:Cal P w K mg base "_law_part" j ["_law_tree_here"] (spR K GR)) (hd:0<d->GR=Qcz (d-1)):FnOk P w K mg base CX0 (max j 2+1) f fd ["_law_tree_here"] (spR K (Qcz d)):=by
 refine Zd (T:=Ga) F Ug rfl (by decide) (λds kk h=>?_) (Qca B I_Above I_Beside K_Level J_Level I_Mirrored K_Single J_Single I_Turned K_Upright J_Upright C2) (λds kk h=>?_)
 ·obtain ⟨l,t,rfl,_⟩:=h
  rfl
 ·obtain ⟨l,t,rfl,ht,k⟩:=h
  simp only [U3,wSeq,wIf,env0,List.map_cons,List.map_nil,List.length_cons,List.length_nil,Nat.zero_add,Nat.reduceAdd,List.replicate,List.cons_append,List.nil_append,wRet,wC,Qu,wSet,Qv,Qd,wBin,wNil,wMk,Qi,Bool.and_true,true_and,Jn,r_bl,look,List.set_cons_succ,List.set_cons_zero,Qo]
  cases t with
  | lf i =>
   simp only [tD,ixM,Ub,List.getElem?_cons_succ,Vf,List.getElem?_cons_zero,Qo,G3,Q5,Ve]
   match i with
   | 0=>simp only [lfW,ofS,String.reduceEq,decide_true,decide_false,Bool.false_eq_true,reduceIte];exact k
   | 1=>simp only [lfW,ofS,String.reduceEq,decide_true,decide_false,Bool.false_eq_true,reduceIte];exact k
   | i+2=>simp only [lfW,ofS,String.reduceEq,decide_true,decide_false,Bool.false_eq_true,reduceIte];exact k
  | un b t =>
   have hG:=hd (by simp only [Tr.h] at ht;omega)
   subst hG
   have hp:=Yc t
   cases b
   ·simp only [tD,unW,ixM,Ub,List.getElem?_cons_succ,Vf,List.getElem?_cons_zero,Qo,G3,ofS,String.reduceEq,decide_false,Q5,Bool.false_eq_true,reduceIte,decide_true,Ve]
    exact ⟨l,t,rfl,by simp only [Tr.h] at ht;omega,by simp only [ofS,String.reduceEq,decide_true,decide_false,Bool.false_eq_true,reduceIte];exact ⟨hp,k⟩⟩
   ·simp only [tD,unW,ixM,Ub,List.getElem?_cons_succ,Vf,List.getElem?_cons_zero,Qo,G3,ofS,String.reduceEq,decide_false,Q5,Bool.false_eq_true,reduceIte,decide_true,Ve]
    exact ⟨l,t,rfl,by simp only [Tr.h] at ht;omega,by simp only [ofS,String.reduceEq,decide_true,decide_false,Bool.false_eq_true,reduceIte];exact ⟨hp,k⟩⟩
  | bi b t u =>
   have hG:=hd (by simp only [Tr.h] at ht;omega)
   subst hG
   have hp:=Yc t
   have hp2:=Yc u
   cases b
   ·simp only [tD,biW,ixM,Ub,List.getElem?_cons_succ,List.getElem?_cons_zero,Qo,Vf,G3,decide_true,Q5,reduceIte,ofS,String.reduceEq,decide_false,Bool.false_eq_true,Ve]
    exact ⟨l,t,rfl,by simp only [Tr.h] at ht;omega,l,u,rfl,by simp only [Tr.h] at ht;omega,by rw [hp,hp2];rfl,k⟩
   ·simp only [tD,biW,ixM,Ub,List.getElem?_cons_succ,List.getElem?_cons_zero,Qo,Vf,G3,ofS,String.reduceEq,decide_false,Q5,Bool.false_eq_true,reduceIte,Ve]
    exact ⟨l,t,rfl,by simp only [Tr.h] at ht;omega,l,u,rfl,by simp only [Tr.h] at ht;omega,by rw [hp,hp2];rfl,k⟩
theorem Qa4 (F:Fun K "_law_part" "_law_part" Jv f fd) (B:Bn K mg) (I_Above:IniN P w K mg base "Above" 2 1) (I_Beside:IniN P w K mg base "Beside" 2 1) (K_Level:ClN K mg "Level" C_Level) (J_Level:PySem.W.findIn K (.ref C_Level) "__init__" = some (some (.builtin "object.__init__"))) (I_Mirrored:IniN P w K mg base "Mirrored" 1 1) (K_Single:ClN K mg "Single" C_Single) (J_Single:PySem.W.findIn K (.ref C_Single) "__init__" = some (some (.builtin "object.__init__"))) (I_Turned:IniN P w K mg base "Turned" 1 1) (K_Upright:ClN K mg "Upright" C_Upright) (J_Upright:PySem.W.findIn K (.ref C_Upright) "__init__" = some (some (.builtin "object.__init__")))
  (hm:mg "_law_part" = some (.ref f)) (hb:Yt K fd ["_law_tree_here"] []):FnOk P w K mg base CX0 14 f fd ["_law_tree_here"] (spR K Yh):=by
 have st:∀d:Nat,FnOk P w K mg base CX0 (3+d) f fd ["_law_tree_here"] (spR K (Qcz d)):=λd=>by
  induction d with
  | zero=>exact (Qax (d:=0) F B I_Above I_Beside K_Level J_Level I_Mirrored K_Single J_Single I_Turned K_Upright J_Upright (Qb3 F hm hb) (λh=>nomatch h)).mono (by decide)
  | succ d ih=>exact (Qax (d:=d+1) F B I_Above I_Beside K_Level J_Level I_Mirrored K_Single J_Single I_Turned K_Upright J_Upright ⟨f,fd,ih,hm,F.kp,hb⟩ (λ_=>rfl)).mono (by omega)
 exact (st 8).mono (by decide)
def Qcy (d:Nat):GA:=λds k=>∃(l:Bool) (t:Tr),ds=[tD l t]/\t.h<=d/\k (.str (tx t))
def Jf:GA:=Qcy 8
abbrev Ju:Stmt:=top 27
theorem Qao:FnScope ["_law_tree_here"] ["_law_tree_here"] (Qb Ju):=⟨rfl,rfl,rfl,by decide +kernel,rfl,by decide +kernel,by decide +kernel⟩
def U8:Tg:={ own:=λi=>false,io:=[] }
def U1 (GR:GA):WS:=(wSeq (wIf (wBl (wBin dEq (Qv dLen (Qd (wVar 0) wNil)) (wC (.int 1)))) (wRet (Zj (wBin dIx (wVar 0) (wC (.int 0))))) Qu)
 (wSeq (wIf (wBl (wBin dEq (Qv dLen (Qd (wVar 0) wNil)) (wC (.int 2)))) (wRet (wBin Yd (wBin Yd (wBin Yd (wBin Yd (wC (.str (Str.ofString "("))) (wBin dIx (wVar 0) (wC (.int 0)))) (wC (.str (Str.ofString " ")))) (Qv GR (Qd (wBin dIx (wVar 0) (wC (.int 1))) wNil))) (wC (.str (Str.ofString ")"))))) Qu)
 (wRet (wBin Yd (wBin Yd (wBin Yd (wBin Yd (wBin Yd (wBin Yd (wC (.str (Str.ofString "("))) (Qv GR (Qd (wBin dIx (wVar 0) (wC (.int 1))) wNil))) (wC (.str (Str.ofString " ")))) (wBin dIx (wVar 0) (wC (.int 0)))) (wC (.str (Str.ofString " ")))) (Qv GR (Qd (wBin dIx (wVar 0) (wC (.int 2))) wNil))) (wC (.str (Str.ofString ")")))))))
theorem Qb8 (B:Bn K mg) (C__law_text:Cal P w K mg base "_law_text" j ["_law_tree_here"] (spR K GR)):∀(cdv:Value) (A:Around) (outer:List PySem.Env) (s:Shared) (H:Hp) (E:XK),Room (max j 0) (A.deeper (envOfC "_law_text" (Qb Ju) s.heap.objs.size f cdv))->SVs (cxOf CX0 P w K mg base ["_law_tree_here"] "_law_text" (Qb Ju) f cdv A outer s H E).nox U8 (Qx Ju) (U1 GR):=λcdv A outer s H E hr =>
  (Qe (Q7 (Qy (Yf hr.units) (J7 Uo B.nb_len Up (Qa (Qc 0) Qh)) Qg) (Qf (Qr (Ua (Jc (Q8 (Q6 hr)) (Qc 0) Qg)))) Ql)
  (Qe (Q7 (Qy (Yf hr.units) (J7 Uo B.nb_len Up (Qa (Qc 0) Qh)) Qg) (Qf (Qr (Jb Jg (Jb Jg (Jb Jg (Jb Jg Qn (Jc (Q8 (Q6 hr)) (Qc 0) Qg)) Qn) (Qt C__law_text (hr.mono (by omega)) (Qa (Jc (Q8 (Q6 hr)) (Qc 0) Qg) Qh))) Qn))) Ql)
  (Qf (Qr (Jb Jg (Jb Jg (Jb Jg (Jb Jg (Jb Jg (Jb Jg Qn (Qt C__law_text (hr.mono (by omega)) (Qa (Jc (Q8 (Q6 hr)) (Qc 0) Qg) Qh))) Qn) (Jc (Q8 (Q6 hr)) (Qc 0) Qg)) Qn) (Qt C__law_text (hr.mono (by omega)) (Qa (Jc (Q8 (Q6 hr)) (Qc 0) Qg) Qh))) Qn)))))
theorem Qag (F:Fun K "_law_text" "_law_text" Ju f fd) (B:Bn K mg) (C2:Cal P w K mg base "_law_text" j ["_law_tree_here"] (spR K GR)) (hd:0<d->GR=Qcy (d-1)) (h8:d<=8):FnOk P w K mg base CX0 (max j 0+1) f fd ["_law_tree_here"] (spR K (Qcy d)):=by
 refine Zd (T:=U8) F Qao rfl (by decide) (λds kk h=>?_) (Qb8 B C2) (λds kk h=>?_)
 ·obtain ⟨l,t,rfl,_⟩:=h
  rfl
 ·obtain ⟨l,t,rfl,ht,k⟩:=h
  have hz:(tx t).length<=1310720:=Nat.le_trans (Vk t) (Nat.le_trans (Nat.mul_le_mul_left 20 (Nat.pow_le_pow_right (by decide) (Nat.le_trans ht h8))) (by decide))
  have sz:∀{n:Nat},n<=1310720->n<=sizeLine:=λh=>Nat.le_trans h (by decide)
  simp only [U1,wSeq,wIf,env0,List.map_cons,List.map_nil,List.length_cons,List.length_nil,Nat.zero_add,List.cons_append,List.nil_append,wRet,Zj,wBin,wC,Jn,Qu,Qv,Qd,wNil,r_bl,look,Qo]
  cases t with
  | lf i =>
   simp only [tD,ixM,Vf,List.getElem?_cons_zero,Qo,D.pure,true_and,Ve,List.getElem?_cons_succ,Zs,Ub,lenM,List.length_cons,List.length_nil,Nat.zero_add,G4,Q5]
   exact k
  | un b t =>
   have hG:=hd (by simp only [Tr.h] at ht;omega)
   subst hG
   simp only [tx,Jo] at hz
   simp only [tD,ixM,Vf,List.getElem?_cons_zero,Qo,D.pure,true_and,Ve,List.getElem?_cons_succ,Zs,Ub,lenM,List.length_cons,List.length_nil,Nat.zero_add,Nat.reduceAdd,G4,Q5]
   refine (if_neg (by decide)).mpr ((if_pos (by decide)).mpr ⟨sz (by omega),sz (by rw [Jo];omega),l,t,rfl,by simp only [Tr.h] at ht;omega,?_⟩)
   simp only [Zs]
   exact ⟨sz (by simp only [Jo];omega),sz (by simp only [Jo];omega),k⟩
  | bi b t u =>
   have hG:=hd (by simp only [Tr.h] at ht;omega)
   subst hG
   simp only [tx,Jo] at hz
   simp only [tD,ixM,Vf,List.getElem?_cons_zero,Qo,D.pure,true_and,Ve,List.getElem?_cons_succ,Zs,Ub,lenM,List.length_cons,List.length_nil,Nat.zero_add,Nat.reduceAdd,G4,Q5]
   refine (if_neg (by decide)).mpr ((if_neg (by decide)).mpr ⟨l,t,rfl,by simp only [Tr.h] at ht;omega,?_⟩)
   simp only [Zs]
   refine ⟨sz (by omega),sz (by simp only [Jo];omega),sz (by simp only [Jo];omega),sz (by simp only [Jo];omega),l,u,rfl,by simp only [Tr.h] at ht;omega,?_⟩
   simp only [Zs]
   exact ⟨sz (by simp only [Jo];omega),sz (by simp only [Jo];omega),k⟩
theorem Qa2 (F:Fun K "_law_text" "_law_text" Ju f fd) (B:Bn K mg) (hm:mg "_law_text" = some (.ref f)) (hb:Yt K fd ["_law_tree_here"] []):FnOk P w K mg base CX0 14 f fd ["_law_tree_here"] (spR K Jf):=by
 have st:∀d:Nat,d<=8->FnOk P w K mg base CX0 (1+d) f fd ["_law_tree_here"] (spR K (Qcy d)):=λd=>by
  induction d with
  | zero=>exact λ_=>(Qag (d:=0) F B (Qb3 F hm hb) (λh=>nomatch h) (by decide)).mono (by decide)
  | succ d ih=>exact λh=>(Qag (d:=d+1) F B ⟨f,fd,ih (by omega),hm,F.kp,hb⟩ (λ_=>rfl) h).mono (by omega)
 exact (st 8 (by decide)).mono (by decide)
def Qlm (t:Tr):Str:=match t with
 | .lf k=>lfC k
 | .un b _=>unC b
 | .bi b _ _=>biC b
def Yi:GA:=λds k=>∃t,ds=[oD t]/\k (.str (sW t))
abbrev J4:Stmt:=top 28
theorem Uh:FnScope ["_law_found","_law_some"] ["_law_found"] (Qb J4):=⟨rfl,rfl,rfl,by decide +kernel,rfl,by decide +kernel,by decide +kernel⟩
def Gb:Tg:={ own:=λi=>i == 1,io:=[] }
def Y8:WS:=(wSeq (wSet 1 (wLst wNil))
 (wSeq (wIf (wTru (wIsC isC Y3 (wVar 0))) (Zl (wMt 1 "list" Yr (Qd (wC (.str (Str.ofString "single"))) wNil))) Qu)
 (wSeq (wIf (wTru (wIsC isC Zm (wVar 0))) (Zl (wMt 1 "list" Yr (Qd (wC (.str (Str.ofString "level"))) wNil))) Qu)
 (wSeq (wIf (wTru (wIsC isC Yk (wVar 0))) (Zl (wMt 1 "list" Yr (Qd (wC (.str (Str.ofString "upright"))) wNil))) Qu)
 (wSeq (wIf (wTru (wIsC isC Y2 (wVar 0))) (Zl (wMt 1 "list" Yr (Qd (wC (.str (Str.ofString "turned"))) wNil))) Qu)
 (wSeq (wIf (wTru (wIsC isC J8 (wVar 0))) (Zl (wMt 1 "list" Yr (Qd (wC (.str (Str.ofString "mirrored"))) wNil))) Qu)
 (wSeq (wIf (wTru (wIsC isC Y4 (wVar 0))) (Zl (wMt 1 "list" Yr (Qd (wC (.str (Str.ofString "beside"))) wNil))) Qu)
 (wSeq (wIf (wTru (wIsC isC Zn (wVar 0))) (Zl (wMt 1 "list" Yr (Qd (wC (.str (Str.ofString "above"))) wNil))) Qu)
 (wSeq (wIf (wOr (wBl (wBin dNe (Qv dLen (Qd (wVar 1) wNil)) (wC (.int 1)))) (wNot (wTru (wIsC isC Yv (wVar 0))))) (wRet (wC (.str (Str.ofString "")))) Qu)
 (wRet (Zj (wBin dIx (wVar 1) (wC (.int 0))))))))))))))
theorem Qcb (B:Bn K mg):∀(cdv:Value) (A:Around) (outer:List PySem.Env) (s:Shared) (H:Hp) (E:XK),Room 0 (A.deeper (envOfC "_law_kind" (Qb J4) s.heap.objs.size f cdv))->SVs (cxOf CX0 P w K mg base ["_law_found","_law_some"] "_law_kind" (Qb J4) f cdv A outer s H E).nox Gb (Qx J4) Y8:=λcdv A outer s H E hr =>
  (Qe (Jm (i:=1) (Zi Qh) Uh.nd)
  (Qe (Q7 (Yj (Vx (isC:=isC) (sub:=Y3) B.nb_isinstance B.ob B.d_Single.choose_spec.1 B.d_Single.choose_spec.2.1 B.d_Single.choose_spec.2.2 (Qc 0))) (Qf (Zc (Qbg (i:=1) Yb PySem.F.plainAttrs_list PySem.F.slot_list_append PySem.F.type_list_append (Qa Qn Qh)))) Ql)
  (Qe (Q7 (Yj (Vx (isC:=isC) (sub:=Zm) B.nb_isinstance B.ob B.d_Level.choose_spec.1 B.d_Level.choose_spec.2.1 B.d_Level.choose_spec.2.2 (Qc 0))) (Qf (Zc (Qbg (i:=1) Yb PySem.F.plainAttrs_list PySem.F.slot_list_append PySem.F.type_list_append (Qa Qn Qh)))) Ql)
  (Qe (Q7 (Yj (Vx (isC:=isC) (sub:=Yk) B.nb_isinstance B.ob B.d_Upright.choose_spec.1 B.d_Upright.choose_spec.2.1 B.d_Upright.choose_spec.2.2 (Qc 0))) (Qf (Zc (Qbg (i:=1) Yb PySem.F.plainAttrs_list PySem.F.slot_list_append PySem.F.type_list_append (Qa Qn Qh)))) Ql)
  (Qe (Q7 (Yj (Vx (isC:=isC) (sub:=Y2) B.nb_isinstance B.ob B.d_Turned.choose_spec.1 B.d_Turned.choose_spec.2.1 B.d_Turned.choose_spec.2.2 (Qc 0))) (Qf (Zc (Qbg (i:=1) Yb PySem.F.plainAttrs_list PySem.F.slot_list_append PySem.F.type_list_append (Qa Qn Qh)))) Ql)
  (Qe (Q7 (Yj (Vx (isC:=isC) (sub:=J8) B.nb_isinstance B.ob B.d_Mirrored.choose_spec.1 B.d_Mirrored.choose_spec.2.1 B.d_Mirrored.choose_spec.2.2 (Qc 0))) (Qf (Zc (Qbg (i:=1) Yb PySem.F.plainAttrs_list PySem.F.slot_list_append PySem.F.type_list_append (Qa Qn Qh)))) Ql)
  (Qe (Q7 (Yj (Vx (isC:=isC) (sub:=Y4) B.nb_isinstance B.ob B.d_Beside.choose_spec.1 B.d_Beside.choose_spec.2.1 B.d_Beside.choose_spec.2.2 (Qc 0))) (Qf (Zc (Qbg (i:=1) Yb PySem.F.plainAttrs_list PySem.F.slot_list_append PySem.F.type_list_append (Qa Qn Qh)))) Ql)
  (Qe (Q7 (Yj (Vx (isC:=isC) (sub:=Zn) B.nb_isinstance B.ob B.d_Above.choose_spec.1 B.d_Above.choose_spec.2.1 B.d_Above.choose_spec.2.2 (Qc 0))) (Qf (Zc (Qbg (i:=1) Yb PySem.F.plainAttrs_list PySem.F.slot_list_append PySem.F.type_list_append (Qa Qn Qh)))) Ql)
  (Qe (Q7 (Za (Qdv (Qy (Qhb hr.units) (J7 Uo B.nb_len Up (Qa (Qc 1) Qh)) Qg) (Xo (Xd (Yj (Vx (isC:=isC) (sub:=Yv) B.nb_isinstance B.ob B.d_Part.choose_spec.1 B.d_Part.choose_spec.2.1 B.d_Part.choose_spec.2.2 (Qc 0))))))) (Qf (Qr Qn)) Ql)
  (Qf (Qr (Ua (Jc (Q8 (Q6 hr)) (Qc 1) Qg)))))))))))))
theorem kst0 {d:D} (h:u Pn [some d,some (.lst [])]):wSeq (wSet 1 (wLst wNil)) u Pn (env0 ["_law_found","_law_some"] [d]):=by
 simp only [wSeq,wSet,wLst,wNil,List.length_nil,env0,List.map_cons,List.map_nil,List.length_cons,Nat.zero_add,Nat.reduceAdd,List.replicate,List.cons_append,List.nil_append,List.set_cons_succ,List.set_cons_zero]
 first | exact h | exact ⟨by decide,h⟩
theorem ale (h:L.length<=n):(L++if b=true then [y] else []).length<=n+1:=by
 cases b <;> simp <;> omega
theorem kst {sub:Str->Bool} (n:Nat) (hn:n<10) (hx:isC x=true) (hl:L.length<=n) (h:u Pn [some (.ist x xs),some (.lst ((L++if sub x=true then [y] else []).map .str))]):wSeq (wIf (wTru (wIsC isC sub (wVar 0))) (Zl (wMt 1 "list" Yr (Qd (wC (.str y)) wNil))) Qu) u Pn [some (.ist x xs),some (.lst (L.map .str))]:=by
 have hz:(L.map D.str).length+1<=sizeLine:=Nat.le_trans (by rw [List.length_map];omega:(L.map D.str).length+1<=10) (by decide)
 rw [List.map_append] at h
 generalize L.map D.str=L' at *
 cases hs:sub x
 ·rw [hs] at h
  simp only [Bool.false_eq_true,reduceIte,List.map_nil,List.append_nil] at h
  simp only [wSeq,wIf,Zl,wMt,Qd,wC,wNil,Qu,Gh,wIsC,Y7,Bool.false_eq_true,reduceIte,Jn,look,Qef,BEq.rfl,List.set_cons_succ,List.set_cons_zero,Qo,Qey,true_and,hx,hs]
  exact h
 ·rw [hs] at h
  simp only [reduceIte,List.map_cons,List.map_nil] at h
  simp only [wSeq,wIf,Zl,wMt,Qd,wC,wNil,Qu,Gh,wIsC,Y7,Bool.false_eq_true,reduceIte,Jn,look,Qef,BEq.rfl,List.set_cons_succ,List.set_cons_zero,Qo,Qey,true_and,hx,hs]
  exact ⟨hz,h⟩
theorem kst9 (hx:isC x=true) (h:Pn.rt (.str y) [some (.ist x xs),some (.lst [.str y])]):(wSeq (wIf (wOr (wBl (wBin dNe (Qv dLen (Qd (wVar 1) wNil)) (wC (.int 1)))) (wNot (wTru (wIsC isC Yv (wVar 0))))) (wRet (wC (.str (Str.ofString "")))) Qu)
 (wRet (Zj (wBin dIx (wVar 1) (wC (.int 0)))))) Pn [some (.ist x xs),some (.lst [.str y])]:=by
 simp only [wSeq,wIf,wOr,wRet,wC,Qu,Zj,wBin,Jn,reduceIte,wNot,Gh,wIsC,Yv,Y7,Bool.not_true,Bool.false_eq_true,Bool.not_false,r_bl,Qv,Qd,wNil,look,Qo,V4,Vf,List.getElem?_cons_zero,D.pure,true_and,hx,Xh,List.length_cons,List.length_nil,Nat.zero_add,Qg3,Q5]
 first | exact h | done
theorem Ji (i:Nat) {p:Str->Str->Prop} (h0:p (lfC 0) (lfW 0)) (h1:p (lfC 1) (lfW 1)) (h2:p (lfC 2) (lfW 2)):p (lfC i) (lfW i):=match i with
 | 0=>h0
 | 1=>h1
 | _+2=>h2
theorem Qa5 (F:Fun K "_law_kind" "_law_kind" J4 f fd) (B:Bn K mg):FnOk P w K mg base CX0 1 f fd ["_law_found"] (spR K Yi):=by
 refine Zd (T:=Gb) F Uh rfl (by decide) (λds kk h=>?_) (Qcb B) (λds kk h=>?_)
 ·obtain ⟨t,rfl,_⟩:=h
  rfl
 ·obtain ⟨t,rfl,k⟩:=h
  have e:∀(x y:Str) (xs:List D),isC x=true->([]++(if Y3 x then [Str.ofString "single"] else [])++(if Zm x then [Str.ofString "level"] else [])++(if Yk x then [Str.ofString "upright"] else [])++(if Y2 x then [Str.ofString "turned"] else [])++(if J8 x then [Str.ofString "mirrored"] else [])++(if Y4 x then [Str.ofString "beside"] else [])++(if Zn x then [Str.ofString "above"] else []))=[y]->kk (.str y)->Y8 { nx:=λ_=>kk .non,rt:=λd _=>kk d } (env0 ["_law_found","_law_some"] [.ist x xs]):=λx y xs hx hy hk=>by
   unfold Y8
   refine kst0 (kst (L:=[]) 0 (by decide) hx (Nat.le_refl _) (kst 1 (by decide) hx (ale (Nat.le_refl _)) (kst 2 (by decide) hx (ale (ale (Nat.le_refl _))) (kst 3 (by decide) hx (ale (ale (ale (Nat.le_refl _)))) (kst 4 (by decide) hx (ale (ale (ale (ale (Nat.le_refl _))))) (kst 5 (by decide) hx (ale (ale (ale (ale (ale (Nat.le_refl _)))))) (kst 6 (by decide) hx (ale (ale (ale (ale (ale (ale (Nat.le_refl _))))))) ?_)))))))
   rw [hy]
   exact kst9 hx hk
  cases t with
  | lf i=>exact Ji i (p:=λx y=>kk (.str y)->Y8 _ (env0 _ [.ist x []])) (e _ _ _ (by decide +kernel) (by decide +kernel)) (e _ _ _ (by decide +kernel) (by decide +kernel)) (e _ _ _ (by decide +kernel) (by decide +kernel)) k
  | un b t =>
   cases b
   ·exact e _ (unW false) _ (by decide +kernel) (by decide +kernel) k
   ·exact e _ (unW true) _ (by decide +kernel) (by decide +kernel) k
  | bi b t u =>
   cases b
   ·exact e _ (biW false) _ (by decide +kernel) (by decide +kernel) k
   ·exact e _ (biW true) _ (by decide +kernel) (by decide +kernel) k
def Gy (s:Stmt) (i:Nat):Stmt:=match s with
 | .ClassDef _ _ _ b _ _ _ _ _ _ _=>b.getD i (.Pass ⟨0,0,0,0⟩)
 | s=>s
abbrev Zr:Stmt:=Gy (top 10) 0
theorem Xx:FnScope ["self","one","other"] ["self","one","other"] (Qb Zr):=⟨rfl,rfl,rfl,by decide +kernel,rfl,by decide +kernel,by decide +kernel⟩
theorem X1 (F:Fun K "__init__" "Beside.__init__" Zr f fd) (hc:Cls K C) (hn:∀i,Q1 K C (fldS i)):FnOk P w K mg base CX0 1 f fd ("self" :: fldN 2) (Qd6 C 2):=by
 refine F.ok Xx (λvs H Q E h=>by obtain ⟨a,dx,ys,rfl,hl,_⟩:=h;show ys.length+1=_;rw [hl];rfl) λcdv A outer s H vs Q E hr h=>?_
 obtain ⟨a,dx,ys,rfl,hl,ha,q⟩:=h
 obtain ⟨y,z,rfl⟩:=len2 hl
 refine ⟨_,Xz (Xi (pv 0) (pv 1) rfl) (Gi (Xi (pv 0) (pv 2) rfl)),?_⟩
 refine ⟨_,rfl,_,rfl,a,C,dx,[],rfl,ha,hc,hn 0,by decide,_,rfl,_,rfl,a,C,dx,_,rfl,Qj,hc,hn 1,by show 1<1000;decide,?_⟩
 rw [Qdy]
 exact q
abbrev Z7:Stmt:=Gy (top 11) 0
theorem Qam:FnScope ["self","one","other"] ["self","one","other"] (Qb Z7):=⟨rfl,rfl,rfl,by decide +kernel,rfl,by decide +kernel,by decide +kernel⟩
theorem Qaz (F:Fun K "__init__" "Above.__init__" Z7 f fd) (hc:Cls K C) (hn:∀i,Q1 K C (fldS i)):FnOk P w K mg base CX0 1 f fd ("self" :: fldN 2) (Qd6 C 2):=by
 refine F.ok Qam (λvs H Q E h=>by obtain ⟨a,dx,ys,rfl,hl,_⟩:=h;show ys.length+1=_;rw [hl];rfl) λcdv A outer s H vs Q E hr h=>?_
 obtain ⟨a,dx,ys,rfl,hl,ha,q⟩:=h
 obtain ⟨y,z,rfl⟩:=len2 hl
 refine ⟨_,Xz (Xi (pv 0) (pv 1) rfl) (Gi (Xi (pv 0) (pv 2) rfl)),?_⟩
 refine ⟨_,rfl,_,rfl,a,C,dx,[],rfl,ha,hc,hn 0,by decide,_,rfl,_,rfl,a,C,dx,_,rfl,Qj,hc,hn 1,by show 1<1000;decide,?_⟩
 rw [Qdy]
 exact q
abbrev Zq:Stmt:=Gy (top 12) 0
theorem Xw:FnScope ["self","one"] ["self","one"] (Qb Zq):=⟨rfl,rfl,rfl,by decide +kernel,rfl,by decide +kernel,by decide +kernel⟩
theorem X0 (F:Fun K "__init__" "Turned.__init__" Zq f fd) (hc:Cls K C) (hn:∀i,Q1 K C (fldS i)):FnOk P w K mg base CX0 1 f fd ("self" :: fldN 1) (Qd6 C 1):=by
 refine F.ok Xw (λvs H Q E h=>by obtain ⟨a,dx,ys,rfl,hl,_⟩:=h;show ys.length+1=_;rw [hl];rfl) λcdv A outer s H vs Q E hr h=>?_
 obtain ⟨a,dx,ys,rfl,hl,ha,q⟩:=h
 obtain ⟨y,rfl⟩:=len1 hl
 refine ⟨_,Gi (Xi (pv 0) (pv 1) rfl),?_⟩
 exact ⟨_,rfl,_,rfl,a,C,dx,[],rfl,ha,hc,hn 0,by decide,q⟩
abbrev Yz:Stmt:=Gy (top 13) 0
theorem Gf:FnScope ["self","one"] ["self","one"] (Qb Yz):=⟨rfl,rfl,rfl,by decide +kernel,rfl,by decide +kernel,by decide +kernel⟩
theorem Gp (F:Fun K "__init__" "Mirrored.__init__" Yz f fd) (hc:Cls K C) (hn:∀i,Q1 K C (fldS i)):FnOk P w K mg base CX0 1 f fd ("self" :: fldN 1) (Qd6 C 1):=by
 refine F.ok Gf (λvs H Q E h=>by obtain ⟨a,dx,ys,rfl,hl,_⟩:=h;show ys.length+1=_;rw [hl];rfl) λcdv A outer s H vs Q E hr h=>?_
 obtain ⟨a,dx,ys,rfl,hl,ha,q⟩:=h
 obtain ⟨y,rfl⟩:=len1 hl
 refine ⟨_,Gi (Xi (pv 0) (pv 1) rfl),?_⟩
 exact ⟨_,rfl,_,rfl,a,C,dx,[],rfl,ha,hc,hn 0,by decide,q⟩
def gwrd (d:Nat) (x:Str):GA:=λds k=>∃t,ds=[oD t]/\Qlm t=x/\t.h<=d/\k (.str (tx t))
def gwr (x:Str):GA:=gwrd 8 x
def WrD (P:Program) (w:World) (K:PySem.W.Frag) (mg:Str->Option Value) (base:Heap) (g:Str->GA) (k:Nat):Prop:=∀x C,isC x=true->atN K x C->ClsD K C/\∃f fd,Meth K C "written" f/\FnOk P w K mg base CX0 k f fd ["self"] (spR K (g x))/\Yt K fd ["self"] []
abbrev WrN (P:Program) (w:World) (K:PySem.W.Frag) (mg:Str->Option Value) (base:Heap):Prop:=WrD P w K mg base gwr 12
theorem Qjj:∀t,∃ds,oD t=.ist (Qlm t) ds/\isC (Qlm t)=true/\ds.length<=2
 | .lf i=>⟨[],rfl,Ji i (p:=λx _=>isC x=true) (by decide +kernel) (by decide +kernel) (by decide +kernel),Nat.zero_le _⟩
 | .un b t=>⟨_,rfl,by show isC (unC b)=true;cases b <;> decide +kernel,(by decide:1<=2)⟩
 | .bi b t u=>⟨_,rfl,by show isC (biC b)=true;cases b <;> decide +kernel,Nat.le_refl 2⟩
theorem Qdq {k:Str->List D->Prop}:Qfy (.ist x ds) k=k x ds:=rfl
theorem Z9 {Q:D->Prop} (hg:g=gwrd d) (h:t.h<=d) (k:Q (.str (tx t))):Qfy (oD t) λx ds=>isC x=true/\ds.length<=2/\g x [oD t] λr=>Q r:=by
 subst hg
 obtain ⟨ds,e,h1,h2⟩:=Qjj t
 rw [e]
 exact ⟨h1,h2,t,by rw [e],rfl,h,k⟩
abbrev Y5:Stmt:=Gy (top 7) 2
theorem Qbr:FnScope ["self"] ["self"] (Qb Y5):=⟨rfl,rfl,rfl,by decide +kernel,rfl,by decide +kernel,by decide +kernel⟩
def Qc9:Tg:={ own:=λi=>false,io:=[] }
theorem Gm (F:Fun K "written" "Level.written" Y5 f fd):FnOk P w K mg base CX0 1 f fd ["self"] (spR K (gwrd d (Str.ofString "Level"))):=by
 refine Zd (k:=0) (T:=Qc9) (ww:=wRet (wC (.str (Str.ofString "level")))) F Qbr rfl (by decide) (λds kk h=>?_) (λcdv A outer s H E hr=>Qf (Qr Qn)) (λds kk h=>?_)
 ·obtain ⟨t,rfl,_⟩:=h
  rfl
 ·obtain ⟨t,rfl,hc,ht,k⟩:=h
  rw [show tx t=Str.ofString "level" from ?_] at k
  ·exact k
  ·cases t with
   | lf i=>exact Ji i (p:=λx y=>x=Str.ofString "Level" -> y=Str.ofString "level") (by decide +kernel) (by decide +kernel) (by decide +kernel) hc
   | un b u=>exact absurd (show unC b=_ from hc) (by cases b <;> decide +kernel)
   | bi b u v=>exact absurd (show biC b=_ from hc) (by cases b <;> decide +kernel)
abbrev Ya:Stmt:=Gy (top 8) 2
theorem Xv:FnScope ["self"] ["self"] (Qb Ya):=⟨rfl,rfl,rfl,by decide +kernel,rfl,by decide +kernel,by decide +kernel⟩
def Qah:Tg:={ own:=λi=>false,io:=[] }
theorem Vu (F:Fun K "written" "Upright.written" Ya f fd):FnOk P w K mg base CX0 1 f fd ["self"] (spR K (gwrd d (Str.ofString "Upright"))):=by
 refine Zd (k:=0) (T:=Qah) (ww:=wRet (wC (.str (Str.ofString "upright")))) F Xv rfl (by decide) (λds kk h=>?_) (λcdv A outer s H E hr=>Qf (Qr Qn)) (λds kk h=>?_)
 ·obtain ⟨t,rfl,_⟩:=h
  rfl
 ·obtain ⟨t,rfl,hc,ht,k⟩:=h
  rw [show tx t=Str.ofString "upright" from ?_] at k
  ·exact k
  ·cases t with
   | lf i=>exact Ji i (p:=λx y=>x=Str.ofString "Upright" -> y=Str.ofString "upright") (by decide +kernel) (by decide +kernel) (by decide +kernel) hc
   | un b u=>exact absurd (show unC b=_ from hc) (by cases b <;> decide +kernel)
   | bi b u v=>exact absurd (show biC b=_ from hc) (by cases b <;> decide +kernel)
abbrev Ym:Stmt:=Gy (top 9) 2
theorem Qal:FnScope ["self"] ["self"] (Qb Ym):=⟨rfl,rfl,rfl,by decide +kernel,rfl,by decide +kernel,by decide +kernel⟩
def Qbo:Tg:={ own:=λi=>false,io:=[] }
theorem Uj (F:Fun K "written" "Single.written" Ym f fd):FnOk P w K mg base CX0 1 f fd ["self"] (spR K (gwrd d (Str.ofString "Single"))):=by
 refine Zd (k:=0) (T:=Qbo) (ww:=wRet (wC (.str (Str.ofString "single")))) F Qal rfl (by decide) (λds kk h=>?_) (λcdv A outer s H E hr=>Qf (Qr Qn)) (λds kk h=>?_)
 ·obtain ⟨t,rfl,_⟩:=h
  rfl
 ·obtain ⟨t,rfl,hc,ht,k⟩:=h
  rw [show tx t=Str.ofString "single" from ?_] at k
  ·exact k
  ·cases t with
   | lf i=>exact Ji i (p:=λx y=>x=Str.ofString "Single" -> y=Str.ofString "single") (by decide +kernel) (by decide +kernel) (by decide +kernel) hc
   | un b u=>exact absurd (show unC b=_ from hc) (by cases b <;> decide +kernel)
   | bi b u v=>exact absurd (show biC b=_ from hc) (by cases b <;> decide +kernel)
abbrev Yn:Stmt:=Gy (top 10) 3
theorem Zp:FnScope ["self","one","other"] ["self"] (Qb Yn):=⟨rfl,rfl,rfl,by decide +kernel,rfl,by decide +kernel,by decide +kernel⟩
def Qbp:Tg:={ own:=λi=>i == 1 || i == 2,io:=[] }
theorem Uk {k:Nat} (F:Fun K "written" "Beside.written" Yn f fd) (B:Bn K mg) (Wr:WrD P w K mg base g k) (hg:0<d->g=gwrd (d-1)) (h8:d<=8):FnOk P w K mg base CX0 (k+1) f fd ["self"] (spR K (gwrd d (Str.ofString "Beside"))):=by
 refine Zd (T:=Qbp) (ww:=(wSeq (wSet 1 (V2 isC g (wFld isC 0 (wVar 0)))) (wSeq (wSet 2 (V2 isC g (wFld isC 1 (wVar 0)))) (wRet (wFs2 (Str.ofString "(") 1 (Str.ofString " beside ") 2 (Str.ofString ")")))))) F Zp rfl (by decide) (λds kk h=>?_) (λcdv A outer s H E hr=>Qe (Jm (i:=1) (Vc (isC:=isC) (g:=g) Wr hr (Um (isC:=isC) 0 (B.fl 0) (Qc 0))) Zp.nd) (Qe (Jm (i:=2) (Vc (isC:=isC) (g:=g) Wr hr (Um (isC:=isC) 1 (B.fl 1) (Qc 0))) Zp.nd) (Qf (Qr (Qjp (i:=1) (j:=2)))))) (λds kk h=>?_)
 ·obtain ⟨t,rfl,_⟩:=h
  rfl
 ·obtain ⟨t,rfl,hc,ht,k⟩:=h
  have hz:(tx t).length<=1310720:=Nat.le_trans (Vk t) (Nat.le_trans (Nat.mul_le_mul_left 20 (Nat.pow_le_pow_right (by decide) (Nat.le_trans ht h8))) (by decide))
  have sz:∀{n:Nat},n<=1310720->n<=sizeLine:=λh=>Nat.le_trans h (by decide)
  cases t with
  | lf i=>exact absurd hc (Ji i (p:=λx _=>x≠Str.ofString "Beside") (by decide +kernel) (by decide +kernel) (by decide +kernel))
  | un b t =>
   exact absurd (show unC b=_ from hc) (by cases b <;> decide +kernel)
  | bi b t u =>
   obtain rfl:b=false:=by
    have hc:biC b=_:=hc
    revert hc;cases b <;> decide +kernel
   have hG:=hg (by simp only [Tr.h] at ht;omega)
   have ht':t.h<=d-1:=by simp only [Tr.h] at ht;omega
   have hu':u.h<=d-1:=by simp only [Tr.h] at ht;omega
   have e:tx (.bi false t u)=Str.ofString "(" ++ tx t++Str.ofString " beside " ++ tx u++Str.ofString ")":=by
    show Str.ofString "(" ++ tx t++Str.ofString " " ++ biW false++Str.ofString " " ++ tx u++Str.ofString ")" = _
    rw [show Str.ofString " beside " = Str.ofString " " ++ biW false++Str.ofString " " by decide +kernel]
    simp only [Str.append_assoc]
   rw [e] at hz k
   have hi:isC (biC false)=true:=by decide +kernel
   simp only [wSeq,wSet,V2,wFld,env0,oD,List.map_cons,List.map_nil,List.length_cons,List.length_nil,Nat.zero_add,Nat.reduceAdd,List.replicate,List.cons_append,List.nil_append,wRet,wFs2,Qaj,Jn,look,List.set_cons_succ,List.set_cons_zero,Qo,Qdq,hi,Nat.le_refl,List.getElem?_cons_succ,List.getElem?_cons_zero,true_and]
   refine Z9 hG ht' ?_
   refine Z9 hG hu' ?_
   simp only [Qd3]
   exact ⟨sz hz,k⟩
abbrev Y6:Stmt:=Gy (top 11) 3
theorem Z6:FnScope ["self","one","other"] ["self"] (Qb Y6):=⟨rfl,rfl,rfl,by decide +kernel,rfl,by decide +kernel,by decide +kernel⟩
def Qda:Tg:={ own:=λi=>i == 1 || i == 2,io:=[] }
theorem Gn {k:Nat} (F:Fun K "written" "Above.written" Y6 f fd) (B:Bn K mg) (Wr:WrD P w K mg base g k) (hg:0<d->g=gwrd (d-1)) (h8:d<=8):FnOk P w K mg base CX0 (k+1) f fd ["self"] (spR K (gwrd d (Str.ofString "Above"))):=by
 refine Zd (T:=Qda) (ww:=(wSeq (wSet 1 (V2 isC g (wFld isC 0 (wVar 0)))) (wSeq (wSet 2 (V2 isC g (wFld isC 1 (wVar 0)))) (wRet (wFs2 (Str.ofString "(") 1 (Str.ofString " above ") 2 (Str.ofString ")")))))) F Z6 rfl (by decide) (λds kk h=>?_) (λcdv A outer s H E hr=>Qe (Jm (i:=1) (Vc (isC:=isC) (g:=g) Wr hr (Um (isC:=isC) 0 (B.fl 0) (Qc 0))) Z6.nd) (Qe (Jm (i:=2) (Vc (isC:=isC) (g:=g) Wr hr (Um (isC:=isC) 1 (B.fl 1) (Qc 0))) Z6.nd) (Qf (Qr (Qjp (i:=1) (j:=2)))))) (λds kk h=>?_)
 ·obtain ⟨t,rfl,_⟩:=h
  rfl
 ·obtain ⟨t,rfl,hc,ht,k⟩:=h
  have hz:(tx t).length<=1310720:=Nat.le_trans (Vk t) (Nat.le_trans (Nat.mul_le_mul_left 20 (Nat.pow_le_pow_right (by decide) (Nat.le_trans ht h8))) (by decide))
  have sz:∀{n:Nat},n<=1310720->n<=sizeLine:=λh=>Nat.le_trans h (by decide)
  cases t with
  | lf i=>exact absurd hc (Ji i (p:=λx _=>x≠Str.ofString "Above") (by decide +kernel) (by decide +kernel) (by decide +kernel))
  | un b t =>
   exact absurd (show unC b=_ from hc) (by cases b <;> decide +kernel)
  | bi b t u =>
   obtain rfl:b=true:=by
    have hc:biC b=_:=hc
    revert hc;cases b <;> decide +kernel
   have hG:=hg (by simp only [Tr.h] at ht;omega)
   have ht':t.h<=d-1:=by simp only [Tr.h] at ht;omega
   have hu':u.h<=d-1:=by simp only [Tr.h] at ht;omega
   have e:tx (.bi true t u)=Str.ofString "(" ++ tx t++Str.ofString " above " ++ tx u++Str.ofString ")":=by
    show Str.ofString "(" ++ tx t++Str.ofString " " ++ biW true++Str.ofString " " ++ tx u++Str.ofString ")" = _
    rw [show Str.ofString " above " = Str.ofString " " ++ biW true++Str.ofString " " by decide +kernel]
    simp only [Str.append_assoc]
   rw [e] at hz k
   have hi:isC (biC true)=true:=by decide +kernel
   simp only [wSeq,wSet,V2,wFld,env0,oD,List.map_cons,List.map_nil,List.length_cons,List.length_nil,Nat.zero_add,Nat.reduceAdd,List.replicate,List.cons_append,List.nil_append,wRet,wFs2,Qaj,Jn,look,List.set_cons_succ,List.set_cons_zero,Qo,Qdq,hi,Nat.le_refl,List.getElem?_cons_succ,List.getElem?_cons_zero,true_and]
   refine Z9 hG ht' ?_
   refine Z9 hG hu' ?_
   simp only [Qd3]
   exact ⟨sz hz,k⟩
abbrev Yl:Stmt:=Gy (top 12) 3
theorem Ue:FnScope ["self","one"] ["self"] (Qb Yl):=⟨rfl,rfl,rfl,by decide +kernel,rfl,by decide +kernel,by decide +kernel⟩
def Qbn:Tg:={ own:=λi=>i == 1,io:=[] }
theorem Ui {k:Nat} (F:Fun K "written" "Turned.written" Yl f fd) (B:Bn K mg) (Wr:WrD P w K mg base g k) (hg:0<d->g=gwrd (d-1)) (h8:d<=8):FnOk P w K mg base CX0 (k+1) f fd ["self"] (spR K (gwrd d (Str.ofString "Turned"))):=by
 refine Zd (T:=Qbn) (ww:=(wSeq (wSet 1 (V2 isC g (wFld isC 0 (wVar 0)))) (wRet (wFs1 (Str.ofString "(turned ") 1 (Str.ofString ")"))))) F Ue rfl (by decide) (λds kk h=>?_) (λcdv A outer s H E hr=>Qe (Jm (i:=1) (Vc (isC:=isC) (g:=g) Wr hr (Um (isC:=isC) 0 (B.fl 0) (Qc 0))) Ue.nd) (Qf (Qr (Qjq (i:=1))))) (λds kk h=>?_)
 ·obtain ⟨t,rfl,_⟩:=h
  rfl
 ·obtain ⟨t,rfl,hc,ht,k⟩:=h
  have hz:(tx t).length<=1310720:=Nat.le_trans (Vk t) (Nat.le_trans (Nat.mul_le_mul_left 20 (Nat.pow_le_pow_right (by decide) (Nat.le_trans ht h8))) (by decide))
  have sz:∀{n:Nat},n<=1310720->n<=sizeLine:=λh=>Nat.le_trans h (by decide)
  cases t with
  | lf i=>exact absurd hc (Ji i (p:=λx _=>x≠Str.ofString "Turned") (by decide +kernel) (by decide +kernel) (by decide +kernel))
  | un b t =>
   obtain rfl:b=false:=by
    have hc:unC b=_:=hc
    revert hc;cases b <;> decide +kernel
   have hG:=hg (by simp only [Tr.h] at ht;omega)
   have ht':t.h<=d-1:=by simp only [Tr.h] at ht;omega
   have e:tx (.un false t)=Str.ofString "(turned " ++ tx t++Str.ofString ")":=by
    show Str.ofString "(" ++ unW false++Str.ofString " " ++ tx t++Str.ofString ")" = _
    rw [show Str.ofString "(turned " = Str.ofString "(" ++ unW false++Str.ofString " " by decide +kernel]
   rw [e] at hz k
   have hi:isC (unC false)=true:=by decide +kernel
   simp only [wSeq,wSet,V2,wFld,env0,oD,List.map_cons,List.map_nil,List.length_cons,List.length_nil,Nat.zero_add,Nat.reduceAdd,List.replicate,List.cons_append,List.nil_append,wRet,wFs1,Qaj,Jn,look,List.set_cons_succ,List.set_cons_zero,Qo,Qdq,hi,List.getElem?_cons_zero,true_and]
   refine ⟨by decide,Z9 hG ht' ?_⟩
   simp only [Qd3]
   exact ⟨sz hz,k⟩
  | bi b t u =>
   exact absurd (show biC b=_ from hc) (by cases b <;> decide +kernel)
abbrev Jw:Stmt:=Gy (top 13) 3
theorem Z3:FnScope ["self","one"] ["self"] (Qb Jw):=⟨rfl,rfl,rfl,by decide +kernel,rfl,by decide +kernel,by decide +kernel⟩
def Xp:Tg:={ own:=λi=>i == 1,io:=[] }
theorem Z4 {k:Nat} (F:Fun K "written" "Mirrored.written" Jw f fd) (B:Bn K mg) (Wr:WrD P w K mg base g k) (hg:0<d->g=gwrd (d-1)) (h8:d<=8):FnOk P w K mg base CX0 (k+1) f fd ["self"] (spR K (gwrd d (Str.ofString "Mirrored"))):=by
 refine Zd (T:=Xp) (ww:=(wSeq (wSet 1 (V2 isC g (wFld isC 0 (wVar 0)))) (wRet (wFs1 (Str.ofString "(mirrored ") 1 (Str.ofString ")"))))) F Z3 rfl (by decide) (λds kk h=>?_) (λcdv A outer s H E hr=>Qe (Jm (i:=1) (Vc (isC:=isC) (g:=g) Wr hr (Um (isC:=isC) 0 (B.fl 0) (Qc 0))) Z3.nd) (Qf (Qr (Qjq (i:=1))))) (λds kk h=>?_)
 ·obtain ⟨t,rfl,_⟩:=h
  rfl
 ·obtain ⟨t,rfl,hc,ht,k⟩:=h
  have hz:(tx t).length<=1310720:=Nat.le_trans (Vk t) (Nat.le_trans (Nat.mul_le_mul_left 20 (Nat.pow_le_pow_right (by decide) (Nat.le_trans ht h8))) (by decide))
  have sz:∀{n:Nat},n<=1310720->n<=sizeLine:=λh=>Nat.le_trans h (by decide)
  cases t with
  | lf i=>exact absurd hc (Ji i (p:=λx _=>x≠Str.ofString "Mirrored") (by decide +kernel) (by decide +kernel) (by decide +kernel))
  | un b t =>
   obtain rfl:b=true:=by
    have hc:unC b=_:=hc
    revert hc;cases b <;> decide +kernel
   have hG:=hg (by simp only [Tr.h] at ht;omega)
   have ht':t.h<=d-1:=by simp only [Tr.h] at ht;omega
   have e:tx (.un true t)=Str.ofString "(mirrored " ++ tx t++Str.ofString ")":=by
    show Str.ofString "(" ++ unW true++Str.ofString " " ++ tx t++Str.ofString ")" = _
    rw [show Str.ofString "(mirrored " = Str.ofString "(" ++ unW true++Str.ofString " " by decide +kernel]
   rw [e] at hz k
   have hi:isC (unC true)=true:=by decide +kernel
   simp only [wSeq,wSet,V2,wFld,env0,oD,List.map_cons,List.map_nil,List.length_cons,List.length_nil,Nat.zero_add,Nat.reduceAdd,List.replicate,List.cons_append,List.nil_append,wRet,wFs1,Qaj,Jn,look,List.set_cons_succ,List.set_cons_zero,Qo,Qdq,hi,List.getElem?_cons_zero,true_and]
   refine ⟨by decide,Z9 hG ht' ?_⟩
   simp only [Qd3]
   exact ⟨sz hz,k⟩
  | bi b t u =>
   exact absurd (show biC b=_ from hc) (by cases b <;> decide +kernel)
structure HW (K:PySem.W.Frag) (x q:Str) (st:Stmt):Prop where
 ex:∃C f fd,atN K x C/\ClsD K C/\Meth K C "written" f/\Fun K "written" q st f fd/\Yt K fd ["self"] []
theorem Qhj (h:isC x=true):x=Str.ofString "Level" \/ x=Str.ofString "Upright" \/ x=Str.ofString "Single" \/ x=Str.ofString "Beside" \/ x=Str.ofString "Above" \/ x=Str.ofString "Turned" \/ x=Str.ofString "Mirrored":=by
 simpa only [isC,Bool.or_eq_true,decide_eq_true_eq,or_assoc] using h
theorem Jp {q:Str} {g:GA} {k:Nat} (h:HW K x q st) (hc:atN K x C) (F:∀f fd,Fun K "written" q st f fd->FnOk P w K mg base CX0 k f fd ["self"] (spR K g)):ClsD K C/\∃f fd,Meth K C "written" f/\FnOk P w K mg base CX0 k f fd ["self"] (spR K g)/\Yt K fd ["self"] []:=by
 obtain ⟨C',f,fd,h1,h2,h3,h4,h5⟩:=h.ex
 obtain rfl:=Zx hc h1
 exact ⟨h2,f,fd,h3,F f fd h4,h5⟩
theorem wrN (B:Bn K mg) (h_Level:HW K "Level" "Level.written" Y5) (h_Upright:HW K "Upright" "Upright.written" Ya) (h_Single:HW K "Single" "Single.written" Ym) (h_Beside:HW K "Beside" "Beside.written" Yn) (h_Above:HW K "Above" "Above.written" Y6) (h_Turned:HW K "Turned" "Turned.written" Yl) (h_Mirrored:HW K "Mirrored" "Mirrored.written" Jw):WrN P w K mg base:=by
 have n0:WrD P w K mg base (λ_ _ _=>False) 0:=λx C hx hc=>by
  have no:∀f fd,FnOk P w K mg base CX0 0 f fd ["self"] (spR K λ_ _=>False):=λf fd=>⟨λvs H Q E h=>by obtain ⟨ds,_,_,_,h,_⟩:=h;exact h.elim,λA outer s H args us vs Q E _ _ _ _ h=>by obtain ⟨ds,_,_,_,h,_⟩:=h;exact h.elim⟩
  rcases Qhj hx with rfl | rfl | rfl | rfl | rfl | rfl | rfl
  ·exact Jp h_Level hc λf fd _=>no f fd
  ·exact Jp h_Upright hc λf fd _=>no f fd
  ·exact Jp h_Single hc λf fd _=>no f fd
  ·exact Jp h_Beside hc λf fd _=>no f fd
  ·exact Jp h_Above hc λf fd _=>no f fd
  ·exact Jp h_Turned hc λf fd _=>no f fd
  ·exact Jp h_Mirrored hc λf fd _=>no f fd
 have st:∀d,d<=8->WrD P w K mg base (gwrd d) (d+1):=λd=>by
  induction d with
  | zero =>
   intro _ x C hx hc
   rcases Qhj hx with rfl | rfl | rfl | rfl | rfl | rfl | rfl
   ·exact Jp h_Level hc λf fd F=>(Gm F).mono (by omega)
   ·exact Jp h_Upright hc λf fd F=>(Vu F).mono (by omega)
   ·exact Jp h_Single hc λf fd F=>(Uj F).mono (by omega)
   ·exact Jp h_Beside hc λf fd F=>(Uk F B n0 (λh=>absurd h (by decide)) (by decide)).mono (by omega)
   ·exact Jp h_Above hc λf fd F=>(Gn F B n0 (λh=>absurd h (by decide)) (by decide)).mono (by omega)
   ·exact Jp h_Turned hc λf fd F=>(Ui F B n0 (λh=>absurd h (by decide)) (by decide)).mono (by omega)
   ·exact Jp h_Mirrored hc λf fd F=>(Z4 F B n0 (λh=>absurd h (by decide)) (by decide)).mono (by omega)
  | succ d ih =>
   intro hd x C hx hc
   rcases Qhj hx with rfl | rfl | rfl | rfl | rfl | rfl | rfl
   ·exact Jp h_Level hc λf fd F=>(Gm F).mono (by omega)
   ·exact Jp h_Upright hc λf fd F=>(Vu F).mono (by omega)
   ·exact Jp h_Single hc λf fd F=>(Uj F).mono (by omega)
   ·exact Jp h_Beside hc λf fd F=>(Uk F B (ih (by omega)) (λ_=>rfl) hd).mono (by omega)
   ·exact Jp h_Above hc λf fd F=>(Gn F B (ih (by omega)) (λ_=>rfl) hd).mono (by omega)
   ·exact Jp h_Turned hc λf fd F=>(Ui F B (ih (by omega)) (λ_=>rfl) hd).mono (by omega)
   ·exact Jp h_Mirrored hc λf fd F=>(Z4 F B (ih (by omega)) (λ_=>rfl) hd).mono (by omega)
 intro x C hx hc
 obtain ⟨h1,f,fd,h2,h3,h4⟩:=st 8 (by decide) x C hx hc
 exact ⟨h1,f,fd,h2,h3.mono (by decide),h4⟩
def g_is (d:Nat):GA:=λds k=>∃(l:Bool) (t:Tr),ds=[oD t,tD l t]/\t.h<=d/\k (.bl true)
def Yy:GA:=g_is 8
abbrev Yp:Stmt:=top 29
theorem Qdc:FnScope ["_law_found","_law_tree_here"] ["_law_found","_law_tree_here"] (Qb Yp):=⟨rfl,rfl,rfl,by decide +kernel,rfl,by decide +kernel,by decide +kernel⟩
def Qai:Tg:={ own:=λi=>false,io:=[] }
def Qaa (GR:GA):WS:=(wSeq (wIf (wOr (wBl (wBin dNe (Qv Yi (Qd (wVar 0) wNil)) (wBin dIx (wVar 1) (wC (.int 0))))) (wBl (wBin dNe (V2 isC gwr (wVar 0)) (Qv Jf (Qd (wVar 1) wNil))))) (wRet (wC (.bl false))) Qu)
 (wSeq (wIf (wAnd (wBl (wBin (dCmp λi j=>decide (j<i)) (Qv dLen (Qd (wVar 1) wNil)) (wC (.int 1)))) (wNot (wTru (Qv GR (Qd (wFld isC 0 (wVar 0)) (Qd (wBin dIx (wVar 1) (wC (.int 1))) wNil)))))) (wRet (wC (.bl false))) Qu)
 (wRet (wOrV (wBin (dCmp λi j=>decide (i<j)) (Qv dLen (Qd (wVar 1) wNil)) (wC (.int 3))) (Qv GR (Qd (wFld isC 1 (wVar 0)) (Qd (wBin dIx (wVar 1) (wC (.int 2))) wNil)))))))
theorem Qgr (B:Bn K mg) (C__law_text:Cal P w K mg base "_law_text" 14 ["_law_tree_here"] (spR K Jf)) (C__law_kind:Cal P w K mg base "_law_kind" 1 ["_law_found"] (spR K Yi)) (Wr:WrN P w K mg base) (C__law_is:Cal P w K mg base "_law_is" j ["_law_found","_law_tree_here"] (spR K GR)):∀(cdv:Value) (A:Around) (outer:List PySem.Env) (s:Shared) (H:Hp) (E:XK),Room (max j 14) (A.deeper (envOfC "_law_is" (Qb Yp) s.heap.objs.size f cdv))->SVs (cxOf CX0 P w K mg base ["_law_found","_law_tree_here"] "_law_is" (Qb Yp) f cdv A outer s H E).nox Qai (Qx Yp) (Qaa GR):=λcdv A outer s H E hr =>
  (Qe (Q7 (Za (Qdv (Qy (Qhb hr.units) (Qt C__law_kind (hr.mono (by omega)) (Qa (Qc 0) Qh)) (Jc (Q8 (Q6 hr)) (Qc 1) Qg)) (Xo (Qy (Qhb hr.units) (Vc (isC:=isC) (g:=gwr) Wr (hr.mono (by omega)) (Qc 0)) (Qt C__law_text (hr.mono (by omega)) (Qa (Qc 1) Qh)))))) (Qf (Qr Qhp)) Ql)
  (Qe (Q7 (Za (Qgq (Qy Qhc (J7 Uo B.nb_len Up (Qa (Qc 1) Qh)) Qg) (Qb4 (Xd (Yj (Qt C__law_is (hr.mono (by omega)) (Qa (Um (isC:=isC) 0 (B.fl 0) (Qc 0)) (Qa (Jc (Q8 (Q6 hr)) (Qc 1) Qg) Qh)))))))) (Qf (Qr Qhp)) Ql)
  (Qf (Qr (Qqd (Qol Qku (J7 Uo B.nb_len Up (Qa (Qc 1) Qh)) Qg) (Qoj (Qt C__law_is (hr.mono (by omega)) (Qa (Um (isC:=isC) 1 (B.fl 1) (Qc 0)) (Qa (Jc (Q8 (Q6 hr)) (Qc 1) Qg) Qh)))))))))
theorem ix0:dIx (tD l t) (.int 0) k=k (.str (sW t)):=by
 cases t <;> exact ixM
theorem len0:dLen [tD l t] k=k (.int (match t with
  | .lf _=>1
  | .un _ _=>2
  | .bi _ _ _=>3)):=by
 cases t <;> exact lenM
theorem Qfz (F:Fun K "_law_is" "_law_is" Yp f fd) (B:Bn K mg) (C1:Cal P w K mg base "_law_text" 14 ["_law_tree_here"] (spR K Jf)) (C2:Cal P w K mg base "_law_kind" 1 ["_law_found"] (spR K Yi)) (Wr:WrN P w K mg base) (C3:Cal P w K mg base "_law_is" j ["_law_found","_law_tree_here"] (spR K GR)) (hd:0<d->GR=g_is (d-1)) (h8:d<=8):FnOk P w K mg base CX0 (max j 14+1) f fd ["_law_found","_law_tree_here"] (spR K (g_is d)):=by
 refine Zd (T:=Qai) F Qdc rfl (by decide) (λds kk h=>?_) (Qgr B C1 C2 Wr C3) (λds kk h=>?_)
 ·obtain ⟨l,t,rfl,_⟩:=h
  rfl
 ·obtain ⟨l,t,rfl,ht,k⟩:=h
  simp only [Qaa,wSeq,wIf,wOr,env0,List.map_cons,List.map_nil,List.length_cons,List.length_nil,Nat.zero_add,Nat.reduceAdd,List.cons_append,List.nil_append,wRet,wC,Qu,wAnd,wNot,Qkc,wBin,Qv,Qd,wNil,Jn,Gh,Bool.false_eq_true,reduceIte,r_bl,V2,look,Qo,len0,Xy,Q5,ix0]
  refine ⟨t,rfl,?_⟩
  simp only [Qg2,Q5]
  refine Z9 (g:=gwr) (d:=8) rfl (Nat.le_trans ht h8) ⟨l,t,rfl,Nat.le_trans ht h8,?_⟩
  simp only [Qg2,Q5]
  cases t with
  | lf i =>
   simp only [Int.reduceLT]
   exact k
  | un b t =>
   have hG:=hd (by simp only [Tr.h] at ht;omega)
   subst hG
   have hi:isC (unC b)=true:=by cases b <;> decide +kernel
   simp only [Int.reduceLT,wFld,oD,tD,Jn,look,Qo,ixM,Ub,List.getElem?_cons_succ,Qdq,hi,List.length_cons,List.length_nil,Nat.zero_add,true_and,lenM,Nat.reduceAdd,Xy,Q5,Ve,List.getElem?_cons_zero]
   refine ⟨by decide,l,t,rfl,by simp only [Tr.h] at ht;omega,?_⟩
   simp only [Y7,Bool.not_true,Bool.false_eq_true,reduceIte]
   exact k
  | bi b t u =>
   have hG:=hd (by simp only [Tr.h] at ht;omega)
   subst hG
   have hi:isC (biC b)=true:=by cases b <;> decide +kernel
   simp only [Int.reduceLT,wFld,oD,tD,Jn,look,Qo,ixM,Ub,List.getElem?_cons_succ,List.getElem?_cons_zero,Qdq,hi,List.length_cons,List.length_nil,Nat.zero_add,Nat.reduceAdd,true_and,lenM,Xy,Q5,Ve]
   refine ⟨by decide,l,t,rfl,by simp only [Tr.h] at ht;omega,?_⟩
   simp only [Y7,Bool.not_true,Bool.false_eq_true,reduceIte]
   exact ⟨by decide,l,u,rfl,by simp only [Tr.h] at ht;omega,k⟩
theorem Qdl (F:Fun K "_law_is" "_law_is" Yp f fd) (B:Bn K mg) (C1:Cal P w K mg base "_law_text" 14 ["_law_tree_here"] (spR K Jf)) (C2:Cal P w K mg base "_law_kind" 1 ["_law_found"] (spR K Yi)) (Wr:WrN P w K mg base) (hm:mg "_law_is" = some (.ref f)) (hb:Yt K fd ["_law_found","_law_tree_here"] []):FnOk P w K mg base CX0 26 f fd ["_law_found","_law_tree_here"] (spR K Yy):=by
 have st:∀d:Nat,d<=8->FnOk P w K mg base CX0 (15+d) f fd ["_law_found","_law_tree_here"] (spR K (g_is d)):=λd=>by
  induction d with
  | zero=>exact λ_=>(Qfz (d:=0) F B C1 C2 Wr (Qb3 F hm hb) (λh=>absurd h (by decide)) (by decide)).mono (by decide)
  | succ d ih=>exact λh=>(Qfz (d:=d+1) F B C1 C2 Wr ⟨f,fd,ih (by omega),hm,F.kp,hb⟩ (λ_=>rfl) h).mono (by omega)
 exact (st 8 (by decide)).mono (by decide)
inductive El where
 | w (x:Str)
 | o (t:Tr)
end K58
variable {st rest:List (List K58.El)} {l:PySem.W.OpenLaw} {row:List K58.El}
namespace K58
open PySem PySem.Spec L2 PV P58
open PyProof.Rows (envOfC)
def eD:El->D
 | .w x=>.str x
 | .o t=>oD t
theorem Qga (e:El):(eD e).pure=true:=by
 cases e with
 | w x=>rfl
 | o t=>exact Yc t
def pwE (x:Str):El:=if x=Str.ofString "level" then .o (.lf 1) else if x=Str.ofString "upright" then .o (.lf 2) else if x=Str.ofString "single" then .o (.lf 0) else .w x
def Jq:GA:=λds k=>∃x,ds=[.str x]/\k (eD (pwE x))
abbrev Je:Stmt:=top 14
theorem Gd:FnScope ["word"] ["word"] (Qb Je):=⟨rfl,rfl,rfl,by decide +kernel,rfl,by decide +kernel,by decide +kernel⟩
def Z2:Tg:={ own:=λi=>false,io:=[] }
def Z1:WS:=(wSeq (wIf (wBl (wBin dEq (wVar 0) (wC (.str (Str.ofString "level"))))) (wRet (wC (.ist (Str.ofString "Level") []))) Qu)
 (wSeq (wIf (wBl (wBin dEq (wVar 0) (wC (.str (Str.ofString "upright"))))) (wRet (wC (.ist (Str.ofString "Upright") []))) Qu)
 (wSeq (wIf (wBl (wBin dEq (wVar 0) (wC (.str (Str.ofString "single"))))) (wRet (wC (.ist (Str.ofString "Single") []))) Qu)
 (wRet (Zj (wVar 0))))))
theorem G9 (B:Bn K mg) (K_Level:ClN K mg "Level" C_Level) (J_Level:PySem.W.findIn K (.ref C_Level) "__init__" = some (some (.builtin "object.__init__"))) (K_Single:ClN K mg "Single" C_Single) (J_Single:PySem.W.findIn K (.ref C_Single) "__init__" = some (some (.builtin "object.__init__"))) (K_Upright:ClN K mg "Upright" C_Upright) (J_Upright:PySem.W.findIn K (.ref C_Upright) "__init__" = some (some (.builtin "object.__init__"))):∀(cdv:Value) (A:Around) (outer:List PySem.Env) (s:Shared) (H:Hp) (E:XK),Room 0 (A.deeper (envOfC "part_or_word" (Qb Je) s.heap.objs.size f cdv))->SVs (cxOf CX0 P w K mg base ["word"] "part_or_word" (Qb Je) f cdv A outer s H E).nox Z2 (Qx Je) Z1:=λcdv A outer s H E hr =>
  (Qe (Q7 (Qy (Yf hr.units) (Qc 0) Qn) (Qf (Qr (Xn K_Level J_Level))) Ql)
  (Qe (Q7 (Qy (Yf hr.units) (Qc 0) Qn) (Qf (Qr (Xn K_Upright J_Upright))) Ql)
  (Qe (Q7 (Qy (Yf hr.units) (Qc 0) Qn) (Qf (Qr (Xn K_Single J_Single))) Ql)
  (Qf (Qr (Ua (Qc 0)))))))
theorem Go (F:Fun K "part_or_word" "part_or_word" Je f fd) (B:Bn K mg) (K_Level:ClN K mg "Level" C_Level) (J_Level:PySem.W.findIn K (.ref C_Level) "__init__" = some (some (.builtin "object.__init__"))) (K_Single:ClN K mg "Single" C_Single) (J_Single:PySem.W.findIn K (.ref C_Single) "__init__" = some (some (.builtin "object.__init__"))) (K_Upright:ClN K mg "Upright" C_Upright) (J_Upright:PySem.W.findIn K (.ref C_Upright) "__init__" = some (some (.builtin "object.__init__"))) :
  FnOk P w K mg base CX0 1 f fd ["word"] (spR K Jq):=by
 refine Zd (T:=Z2) F Gd rfl (by decide) (λds kk h=>?_) (G9 B K_Level J_Level K_Single J_Single K_Upright J_Upright) (λds kk h=>?_)
 ·obtain ⟨x,rfl,_⟩:=h
  rfl
 ·obtain ⟨x,rfl,k⟩:=h
  simp only [Z1,wSeq,wIf,env0,List.map_cons,List.map_nil,List.length_cons,List.length_nil,Nat.zero_add,List.cons_append,List.nil_append,wRet,wC,Qu,Zj,Jn,r_bl,wBin,look,Qo,D.pure,true_and,G3,Q5]
  unfold pwE at k
  by_cases h1:x=Str.ofString "level"
  ·simp only [h1,decide_true,reduceIte] at k ⊢;exact k
  ·simp only [h1,decide_false,Bool.false_eq_true,reduceIte] at k ⊢
   by_cases h2:x=Str.ofString "upright"
   ·simp only [h2,decide_true,reduceIte] at k ⊢;exact k
   ·simp only [h2,decide_false,Bool.false_eq_true,reduceIte] at k ⊢
    by_cases h3:x=Str.ofString "single"
    ·simp only [h3,decide_true,reduceIte] at k ⊢;exact k
    ·simp only [h3,decide_false,Bool.false_eq_true,reduceIte] at k ⊢;exact k
def Ja:GA:=λds k=>∃ts:List Tr,ds=[.lst (ts.map oD)]/\ts.length<=2/\k (.bl true)
abbrev Js:Stmt:=top 15
theorem Qan:FnScope ["things"] ["things"] (Qb Js):=⟨rfl,rfl,rfl,by decide +kernel,rfl,by decide +kernel,by decide +kernel⟩
def U6:Tg:={ own:=λi=>false,io:=[] }
def Uz:WS:=(wRet (Qv dAll (Qd (Qjx (Qab (wVar 0)) wAll (wIsC isC Yv (wVar 0)) []) wNil)))
theorem Qb6 (B:Bn K mg):∀(cdv:Value) (A:Around) (outer:List PySem.Env) (s:Shared) (H:Hp) (E:XK),Room 0 (A.deeper (envOfC "are_parts" (Qb Js) s.heap.objs.size f cdv))->SVs (cxOf CX0 P w K mg base ["things"] "are_parts" (Qb Js) f cdv A outer s H E).nox U6 (Qx Js) Uz:=λcdv A outer s H E hr =>
  (Qf (Qr (J7 (Qou rfl) B.nb_all Qox (Qa (Qhn (Qll [] (Qjo (Qc 0)) (λ_ _ _ _ _=>Qop) (λ_ _ _ _ _=>(Vx (isC:=isC) (sub:=Yv) B.nb_isinstance B.ob B.d_Part.choose_spec.1 B.d_Part.choose_spec.2.1 B.d_Part.choose_spec.2.2 (Qc 0)))) (Qhu (Qb Js) ["things"] (by decide +kernel))) Qh))))
theorem Qa0 (F:Fun K "are_parts" "are_parts" Js f fd) (B:Bn K mg):FnOk P w K mg base CX0 1 f fd ["things"] (spR K Ja):=by
 refine Zd (T:=U6) F Qan rfl (by decide) (λds kk h=>?_) (Qb6 B) (λds kk h=>?_)
 ·obtain ⟨ts,rfl,_⟩:=h
  rfl
 ·obtain ⟨ts,rfl,hl,k⟩:=h
  simp only [Uz,wRet,Qv,Qd,env0,List.map_cons,List.map_nil,List.length_cons,List.length_nil,Nat.zero_add,List.cons_append,List.nil_append,wNil,Qew,Qek,Jn,look,Qo,Qap]
  refine Qgm (λ_=>.bl true) (by rw [List.length_map];exact Nat.lt_of_le_of_lt hl (by decide)) (λd hd Q' hQ=>?_) ?_
  ·obtain ⟨t,_,rfl⟩:=List.mem_map.mp hd
   simp only [wIsC,blkE,Jn,look,Qo]
   obtain ⟨ds,e,h1,_⟩:=Qjj t
   simp only [blkE,e] at hQ ⊢
   exact ⟨h1,hQ⟩
  ·match ts,hl with
   | [],_=>exact ⟨[],rfl,k⟩
   | [a],_=>exact ⟨[true],rfl,k⟩
   | [a,b],_=>exact ⟨[true,true],rfl,k⟩
def Jz:GA:=λds k=>∃b t,ds=[.str (unW b),oD t]/\k (oD (.un b t))
abbrev Jl:Stmt:=top 16
theorem G1:FnScope ["word","one"] ["word","one"] (Qb Jl):=⟨rfl,rfl,rfl,by decide +kernel,rfl,by decide +kernel,by decide +kernel⟩
def Vp:Tg:={ own:=λi=>false,io:=[] }
def Vh:WS:=(wSeq (wIf (wBl (wBin dEq (wVar 0) (wC (.str (Str.ofString "turned"))))) (wRet (wMk (Str.ofString "Turned") 1 (Qd (wVar 1) wNil))) Qu)
 (wSeq (wIf (wBl (wBin dEq (wVar 0) (wC (.str (Str.ofString "mirrored"))))) (wRet (wMk (Str.ofString "Mirrored") 1 (Qd (wVar 1) wNil))) Qu)
 Ud))
theorem X9 (B:Bn K mg) (I_Mirrored:IniN P w K mg base "Mirrored" 1 1) (I_Turned:IniN P w K mg base "Turned" 1 1):∀(cdv:Value) (A:Around) (outer:List PySem.Env) (s:Shared) (H:Hp) (E:XK),Room 2 (A.deeper (envOfC "made_of_one" (Qb Jl) s.heap.objs.size f cdv))->SVs (cxOf CX0 P w K mg base ["word","one"] "made_of_one" (Qb Jl) f cdv A outer s H E).nox Vp (Qx Jl) Vh:=λcdv A outer s H E hr =>
  (Qe (Q7 (Qy (Yf hr.units) (Qc 0) Qn) (Qf (Qr (Ul I_Turned (hr.mono (by decide)) (Qa (Qc 1) Qh)))) Ql)
  (Qe (Q7 (Qy (Yf hr.units) (Qc 0) Qn) (Qf (Qr (Ul I_Mirrored (hr.mono (by decide)) (Qa (Qc 1) Qh)))) Ql)
  (Qf Zb)))
theorem G6 (F:Fun K "made_of_one" "made_of_one" Jl f fd) (B:Bn K mg) (I_Mirrored:IniN P w K mg base "Mirrored" 1 1) (I_Turned:IniN P w K mg base "Turned" 1 1):FnOk P w K mg base CX0 3 f fd ["word","one"] (spR K Jz):=by
 refine Zd (T:=Vp) F G1 rfl (by decide) (λds kk h=>?_) (X9 B I_Mirrored I_Turned) (λds kk h=>?_)
 ·obtain ⟨b,t,rfl,_⟩:=h
  rfl
 ·obtain ⟨b,t,rfl,k⟩:=h
  have hp:=Yc t
  cases b <;> simp only [Vh,env0,rowD,List.length_cons,List.length_nil,List.map_cons,List.map_nil,List.cons_append,List.nil_append,List.replicate,wMk,wSeq,wSet,Xb,wIf,Qdh,Qi0,wRet,Qlt,Zl,Qu,wAsg,wBin,wUn,Jn,wC,Zj,Qv,Jh,Ys,Qlr,Qd,wNil,wTup,wLst,wMt,wSl,Xg,Z5,r_bl,Q5,Gh,Y7,Qii,Qih,Qig,wNot,wAnd,wOr,wIfE,Qi2,Qkc,Qil,Qem,Qbt,Qik,Qel,Qi1,Qev,Qid,Qee,Qek,Qij,Qap,Qmk,Qiq,Z8,Qew,gN,Qiy,Qeu,Qiz,Qmu,Qi4,Qi3,Qi5,Qdg,Qcl,Qeq,Qim,Qcm,Qaq,Qeo,Qmd,G4,Qg3,Qmt,Qmg,G3,Qg2,Qmr,Qme,Qms,Qmf,Xy,V4,Qml,Qmm,Qit,Qis,Qir,Xh,Qin,Qio,Qip,Qmn,Qiu,Qmv,Qmi,Qmj,Qes,Qer,Qet,Qif,Qie,Qen,Qkd,isiD,Qma,Qmb,Ql9,Qeg,Qej,Qei,Qeh,Qix,Qiw,Qiv,Qmo,Qey,Qep,Qmc,Qex,Qef,Ql8,Ql7,Vs,Qmq,Qmp,Qo,look,List.set_cons_zero,List.set_cons_succ,D.pure,Qi,wAll,Vf,Ve,Ub,Qo0,Qk2,Qk1,Qob,Qoa,Qd8,List.getElem?_cons_zero,List.getElem?_cons_succ,List.length_cons,List.length_nil,List.length_set,Nat.zero_add,Nat.reduceAdd,Nat.reduceLT,Nat.lt_add_one,Nat.zero_lt_succ,Bool.and_true,Bool.true_and,Bool.and_self,true_and,and_true,Option.isSome_some,BEq.rfl,Ye,Option.map_some,Option.map_none,reduceIte,Bool.false_eq_true,Bool.not_true,Bool.not_false,Int.reduceToNat,Int.reduceLT,Int.reduceLE,Int.reduceNeg,Int.reducePow,Int.reduceAdd,Int.reduceSub,Int.reduceMul,List.eraseIdx_cons_zero,Int.toNat_natCast,List.nil_append,List.cons_append,wSlT,Qas,Zs,Qe7,Qbu,Qar,Qe0,Qi8,Qe1,Qe4,Qe6,Qe5,Qi9,Qjb,Qco,Qjc,Qja,Qe3,Qe2,Qcn,Qi6,Qez,Qi7,Qlu,Qgu,Qls,wDka,Qh4,Option.bind_some,kD,unW,ofS,String.reduceEq,decide_true,decide_false,Qi,hp]
  ·exact k
  ·exact k
def Jy:GA:=λds k=>∃b t u,ds=[oD t,.str (biW b),oD u]/\k (oD (.bi b t u))
abbrev Jk:Stmt:=top 17
theorem G0:FnScope ["one","word","other"] ["one","word","other"] (Qb Jk):=⟨rfl,rfl,rfl,by decide +kernel,rfl,by decide +kernel,by decide +kernel⟩
def Vo:Tg:={ own:=λi=>false,io:=[] }
def Vg:WS:=(wSeq (wIf (wBl (wBin dEq (wVar 1) (wC (.str (Str.ofString "beside"))))) (wRet (wMk (Str.ofString "Beside") 2 (Qd (wVar 0) (Qd (wVar 2) wNil)))) Qu)
 (wSeq (wIf (wBl (wBin dEq (wVar 1) (wC (.str (Str.ofString "above"))))) (wRet (wMk (Str.ofString "Above") 2 (Qd (wVar 0) (Qd (wVar 2) wNil)))) Qu)
 Ud))
theorem X8 (B:Bn K mg) (I_Above:IniN P w K mg base "Above" 2 1) (I_Beside:IniN P w K mg base "Beside" 2 1):∀(cdv:Value) (A:Around) (outer:List PySem.Env) (s:Shared) (H:Hp) (E:XK),Room 2 (A.deeper (envOfC "made_of_two" (Qb Jk) s.heap.objs.size f cdv))->SVs (cxOf CX0 P w K mg base ["one","word","other"] "made_of_two" (Qb Jk) f cdv A outer s H E).nox Vo (Qx Jk) Vg:=λcdv A outer s H E hr =>
  (Qe (Q7 (Qy (Yf hr.units) (Qc 1) Qn) (Qf (Qr (Ul I_Beside (hr.mono (by decide)) (Qa (Qc 0) (Qa (Qc 2) Qh))))) Ql)
  (Qe (Q7 (Qy (Yf hr.units) (Qc 1) Qn) (Qf (Qr (Ul I_Above (hr.mono (by decide)) (Qa (Qc 0) (Qa (Qc 2) Qh))))) Ql)
  (Qf Zb)))
theorem G5 (F:Fun K "made_of_two" "made_of_two" Jk f fd) (B:Bn K mg) (I_Above:IniN P w K mg base "Above" 2 1) (I_Beside:IniN P w K mg base "Beside" 2 1):FnOk P w K mg base CX0 3 f fd ["one","word","other"] (spR K Jy):=by
 refine Zd (T:=Vo) F G0 rfl (by decide) (λds kk h=>?_) (X8 B I_Above I_Beside) (λds kk h=>?_)
 ·obtain ⟨b,t,u,rfl,_⟩:=h
  rfl
 ·obtain ⟨b,t,u,rfl,k⟩:=h
  have hp:=Yc t
  have hq:=Yc u
  cases b <;> simp only [Vg,env0,rowD,List.length_cons,List.length_nil,List.map_cons,List.map_nil,List.cons_append,List.nil_append,List.replicate,wMk,wSeq,wSet,Xb,wIf,Qdh,Qi0,wRet,Qlt,Zl,Qu,wAsg,wBin,wUn,Jn,wC,Zj,Qv,Jh,Ys,Qlr,Qd,wNil,wTup,wLst,wMt,wSl,Xg,Z5,r_bl,Q5,Gh,Y7,Qii,Qih,Qig,wNot,wAnd,wOr,wIfE,Qi2,Qkc,Qil,Qem,Qbt,Qik,Qel,Qi1,Qev,Qid,Qee,Qek,Qij,Qap,Qmk,Qiq,Z8,Qew,gN,Qiy,Qeu,Qiz,Qmu,Qi4,Qi3,Qi5,Qdg,Qcl,Qeq,Qim,Qcm,Qaq,Qeo,Qmd,G4,Qg3,Qmt,Qmg,G3,Qg2,Qmr,Qme,Qms,Qmf,Xy,V4,Qml,Qmm,Qit,Qis,Qir,Xh,Qin,Qio,Qip,Qmn,Qiu,Qmv,Qmi,Qmj,Qes,Qer,Qet,Qif,Qie,Qen,Qkd,isiD,Qma,Qmb,Ql9,Qeg,Qej,Qei,Qeh,Qix,Qiw,Qiv,Qmo,Qey,Qep,Qmc,Qex,Qef,Ql8,Ql7,Vs,Qmq,Qmp,Qo,look,List.set_cons_zero,List.set_cons_succ,D.pure,Qi,wAll,Vf,Ve,Ub,Qo0,Qk2,Qk1,Qob,Qoa,Qd8,List.getElem?_cons_zero,List.getElem?_cons_succ,List.length_cons,List.length_nil,List.length_set,Nat.zero_add,Nat.reduceAdd,Nat.reduceLT,Nat.lt_add_one,Nat.zero_lt_succ,Bool.and_true,Bool.true_and,Bool.and_self,true_and,and_true,Option.isSome_some,BEq.rfl,Ye,Option.map_some,Option.map_none,reduceIte,Bool.false_eq_true,Bool.not_true,Bool.not_false,Int.reduceToNat,Int.reduceLT,Int.reduceLE,Int.reduceNeg,Int.reducePow,Int.reduceAdd,Int.reduceSub,Int.reduceMul,List.eraseIdx_cons_zero,Int.toNat_natCast,List.nil_append,List.cons_append,wSlT,Qas,Zs,Qe7,Qbu,Qar,Qe0,Qi8,Qe1,Qe4,Qe6,Qe5,Qi9,Qjb,Qco,Qjc,Qja,Qe3,Qe2,Qcn,Qi6,Qez,Qi7,Qlu,Qgu,Qls,wDka,Qh4,Option.bind_some,kD,biW,ofS,String.reduceEq,decide_true,decide_false,Qi,hp,hq]
  ·exact k
  ·exact k
def mkE:List El->Option Tr
 | [.w x,.o t]=>if x=unW false then some (.un false t) else if x=unW true then some (.un true t) else none
 | [.o t,.w x,.o u]=>if x=biW false then some (.bi false t u) else if x=biW true then some (.bi true t u) else none
 | _=>none
theorem Qkw (h:mkE row=some t):(∃b u,row=[.w (unW b),.o u]/\t=.un b u)\/∃b u v,row=[.o u,.w (biW b),.o v]/\t=.bi b u v:=by
 unfold mkE at h
 split at h
 ·split at h
  ·subst_vars;cases h;exact .inl ⟨false,_,rfl,rfl⟩
  ·split at h
   ·subst_vars;cases h;exact .inl ⟨true,_,rfl,rfl⟩
   ·cases h
 ·split at h
  ·subst_vars;cases h;exact .inr ⟨false,_,_,rfl,rfl⟩
  ·split at h
   ·subst_vars;cases h;exact .inr ⟨true,_,_,rfl,rfl⟩
   ·cases h
 ·cases h
theorem Ql1 {α:Type} {a b c:α}:Gz [a,b,c] (some 0) none (some 2)=[a,c]:=by
 have e:sliceRange (sliceBounds (some 0) none (some 2) 3).1 (sliceBounds (some 0) none (some 2) 3).2.1 (sliceBounds (some 0) none (some 2) 3).2.2=[0,2]:=by decide +kernel
 show (sliceRange (sliceBounds (some 0) none (some 2) 3).1 (sliceBounds (some 0) none (some 2) 3).2.1 (sliceBounds (some 0) none (some 2) 3).2.2).filterMap ([a,b,c][·]?)=_
 rw [e];rfl
def Qbe:GA:=λds k=>∃row t,ds=[.lst (row.map eD)]/\mkE row=some t/\k (oD t)
abbrev Xf:Stmt:=top 18
theorem Qj8:FnScope ["row"] ["row"] (Qb Xf):=⟨rfl,rfl,rfl,by decide +kernel,rfl,by decide +kernel,by decide +kernel⟩
def Qh7:Tg:={ own:=λi=>false,io:=[] }
def Qdx:WS:=(wSeq (wIf (wAnd (wBl (wBin dEq (Qv dLen (Qd (wVar 0) wNil)) (wC (.int 2)))) (wTru (Qv Ja (Qd (wSlT (wVar 0) (U4 (wC (.int 1))) Z5) wNil)))) (wRet (Qv Jz (Qd (wBin dIx (wVar 0) (wC (.int 0))) (Qd (wBin dIx (wVar 0) (wC (.int 1))) wNil)))) Qu)
 (wSeq (wIf (wAnd (wBl (wBin dEq (Qv dLen (Qd (wVar 0) wNil)) (wC (.int 3)))) (wTru (Qv Ja (Qd (wSt (wVar 0) (U4 (wC (.int 0))) Z5 (U4 (wC (.int 2)))) wNil)))) (wRet (Qv Jy (Qd (wBin dIx (wVar 0) (wC (.int 0))) (Qd (wBin dIx (wVar 0) (wC (.int 1))) (Qd (wBin dIx (wVar 0) (wC (.int 2))) wNil))))) Qu)
 Ud))
theorem Qoz (B:Bn K mg) (C_are_parts:Cal P w K mg base "are_parts" 1 ["things"] (spR K Ja)) (C_made_of_one:Cal P w K mg base "made_of_one" 3 ["word","one"] (spR K Jz)) (C_made_of_two:Cal P w K mg base "made_of_two" 3 ["one","word","other"] (spR K Jy)):∀(cdv:Value) (A:Around) (outer:List PySem.Env) (s:Shared) (H:Hp) (E:XK),Room 3 (A.deeper (envOfC "made" (Qb Xf) s.heap.objs.size f cdv))->SVs (cxOf CX0 P w K mg base ["row"] "made" (Qb Xf) f cdv A outer s H E).nox Qh7 (Qx Xf) Qdx:=λcdv A outer s H E hr =>
  (Qe (Q7 (Za (Qgq (Qy (Yf hr.units) (J7 Uo B.nb_len Up (Qa (Qc 0) Qh)) Qg) (Qb4 (Yj (Qt C_are_parts (hr.mono (by decide)) (Qa (Qc1 (Qc 0) (V7 Qg) Gj) Qh)))))) (Qf (Qr (Qt C_made_of_one (hr.mono (by decide)) (Qa (Jc (Q8 (Q6 hr)) (Qc 0) Qg) (Qa (Jc (Q8 (Q6 hr)) (Qc 0) Qg) Qh))))) Ql)
  (Qe (Q7 (Za (Qgq (Qy (Yf hr.units) (J7 Uo B.nb_len Up (Qa (Qc 0) Qh)) Qg) (Qb4 (Yj (Qt C_are_parts (hr.mono (by decide)) (Qa (Qqb (Qc 0) (V7 Qg) Gj (V7 Qg)) Qh)))))) (Qf (Qr (Qt C_made_of_two (hr.mono (by decide)) (Qa (Jc (Q8 (Q6 hr)) (Qc 0) Qg) (Qa (Jc (Q8 (Q6 hr)) (Qc 0) Qg) (Qa (Jc (Q8 (Q6 hr)) (Qc 0) Qg) Qh)))))) Ql)
  (Qf Zb)))
theorem Qks (F:Fun K "made" "made" Xf f fd) (B:Bn K mg) (C1:Cal P w K mg base "are_parts" 1 ["things"] (spR K Ja)) (C2:Cal P w K mg base "made_of_one" 3 ["word","one"] (spR K Jz)) (C3:Cal P w K mg base "made_of_two" 3 ["one","word","other"] (spR K Jy)):FnOk P w K mg base CX0 4 f fd ["row"] (spR K Qbe):=by
 refine Zd (T:=Qh7) F Qj8 rfl (by decide) (λds kk h=>?_) (Qoz B C1 C2 C3) (λds kk h=>?_)
 ·obtain ⟨_,_,rfl,_⟩:=h
  rfl
 ·obtain ⟨row,t,rfl,hm,k⟩:=h
  rcases Qkw hm with ⟨b,u,rfl,rfl⟩ | ⟨b,u,v,rfl,rfl⟩
  ·have hp:=Yc u
   simp only [Qdx,wSeq,wIf,wAnd,env0,List.map_cons,eD,List.map_nil,List.length_cons,List.length_nil,Nat.zero_add,List.cons_append,List.nil_append,wRet,Qv,Qd,wBin,wC,wNil,Jn,Qu,Gh,Bool.false_eq_true,reduceIte,r_bl,wSlT,Z5,Xg,Z8,look,Qo,V4,Ve,List.getElem?_cons_succ,List.getElem?_cons_zero,Vf,Xh,Nat.reduceAdd,G4,Q5,Qar,Qi,D.pure,Bool.and_true,Bool.true_and]
   refine (if_pos (by decide)).mpr ⟨hp,[u],rfl,(by decide:1<=2),?_⟩
   simp only [Y7,reduceIte]
   exact ⟨b,u,rfl,k⟩
  ·have hp:=Yc u
   have hq:=Yc v
   simp only [Qdx,wSeq,wIf,wAnd,env0,List.map_cons,eD,List.map_nil,List.length_cons,List.length_nil,Nat.zero_add,List.cons_append,List.nil_append,wRet,Qv,Qd,wBin,wC,wNil,Jn,Qu,Gh,wSt,Z5,Xg,Z8,Bool.false_eq_true,reduceIte,r_bl,wSlT,look,Qo,V4,Ve,List.getElem?_cons_succ,List.getElem?_cons_zero,Vf,Ub,Xh,Nat.reduceAdd,G4,Q5,Qar,Qi,D.pure,Bool.and_true,Bool.true_and]
   refine (if_neg (by decide)).mpr ((if_pos (by decide)).mpr ⟨by simp only [Qi,D.pure,hp,hq];rfl,by decide,by decide,by rw [Ql1];exact (by decide:2<=sizeLine),[u,v],by rw [Ql1];rfl,Nat.le_refl 2,?_⟩)
   simp only [Y7,reduceIte]
   exact ⟨b,u,v,rfl,k⟩
theorem Qd2 (c:Nat) {z:List Nat} (hz:z.length<=2):∀l:List Nat,(P58.sub c z l).length<=2*l.length
 | []=>Nat.zero_le _
 | k::r=>by
  have ih:=Qd2 c hz r
  unfold P58.sub at ih ⊢
  rw [List.flatMap_cons,List.length_append,List.length_cons]
  split
  ·omega
  ·rw [List.length_singleton];omega
theorem Qec {z:Str} (hz:z.length<=2):(Txt.replace x ⟨#[c]⟩ z).length<=2*x.length:=by
 have h:=Qd2 c (z:=z.cps.toList) (by rw [Array.length_toList];exact hz) x.cps.toList
 rw [← Qbs,Array.length_toList,Array.length_toList] at h
 exact h
theorem Qjm {w:List Nat} (h:0<w.length):∀{r:List (List Nat)},0<(js (w::r)).length
 | []=>h
 | v::r=>by
  rw [Va (by simp),List.length_append]
  omega
theorem Qf2 (t:Tr):0<(Builtin.Str.glued (Str.ofString " ") (toks t)).length:=by
 have e3:Str.ofString " " = ⟨#[32]⟩:=by decide +kernel
 have h:=Qk6 (toks t)
 rw [← e3] at h
 show 0<(Builtin.Str.glued (Str.ofString " ") (toks t)).cps.size
 rw [← Array.length_toList,show (Builtin.Str.glued (Str.ofString " ") (toks t)).cps.toList=_ from h]
 cases t with
 | lf k=>exact Ji k (p:=λ_ y=>0<(js ([y].map cl)).length) (by decide +kernel) (by decide +kernel) (by decide +kernel)
 | un b t=>exact Qjm (by decide +kernel)
 | bi b t u=>exact Qjm (by decide +kernel)
def Jj:GA:=λds k=>∃t,ds=[.str (tx t)]/\t.h<=8/\k (.lst ((toks t).map .str))
abbrev Yo:Stmt:=top 19
theorem Uq:FnScope ["text"] ["text"] (Qb Yo):=⟨rfl,rfl,rfl,by decide +kernel,rfl,by decide +kernel,by decide +kernel⟩
theorem Us (F:Fun K "bracket_words" "bracket_words" Yo f fd) (B:Bn K mg):FnOk P w K mg base CX0 2 f fd ["text"] (spR K Jj):=by
 refine (Qla (k:=0) F Uq rfl rfl (λvs H Q E h=>?_) (λcdv A outer s H vs Q E hr h=>?_)).mono (by decide)
 ·obtain ⟨ds,Fp,kk,rep,⟨t,rfl,_⟩,_⟩:=h
  rw [rep.length];rfl
 ·obtain ⟨ds,Fp,kk,rep,⟨t,rfl,ht,k⟩,q⟩:=h
  obtain ⟨v,rfl,rd⟩:=rep.at1
  have hv:=rd.iStr
  subst hv
  refine ⟨_,Qps PySem.F.plainAttrs_str PySem.F.slot_str_split PySem.F.type_str_split Qhe (Qjd (by decide +kernel) (Qjd (by decide +kernel) (Qm6 (i:=0) rfl (Or.inl rfl)))) (V6 Qjf Qcr),?_⟩
  have hz:(tx t).length<=1310720:=Nat.le_trans (Vk t) (Nat.le_trans (Nat.mul_le_mul_left 20 (Nat.pow_le_pow_right (by decide) ht)) (by decide))
  have e1:Str.ofString "(" = ⟨#[40]⟩:=by decide +kernel
  have e2:Str.ofString ")" = ⟨#[41]⟩:=by decide +kernel
  have e3:Str.ofString " " = ⟨#[32]⟩:=by decide +kernel
  have z1:(Str.ofString "( ").length=2:=by decide +kernel
  have z2:(Str.ofString " )").length=2:=by decide +kernel
  have l1:(Txt.replace (tx t) (Str.ofString "(") (Str.ofString "( ")).length<=2*(tx t).length:=by rw [e1];exact Qec (by rw [z1];exact Nat.le_refl 2)
  have l2:(Txt.replace (Txt.replace (tx t) (Str.ofString "(") (Str.ofString "( ")) (Str.ofString ")") (Str.ofString " )")).length<=2*(Txt.replace (tx t) (Str.ofString "(") (Str.ofString "( ")).length:=by rw [e2];exact Qec (by rw [z2];exact Nat.le_refl 2)
  have hw:=Qo2 t
  have hp:Zt (Builtin.Str.glued (Str.ofString " ") (toks t)) (Str.ofString " ")=toks t:=by rw [e3];exact S03.Qaw (Qd0 t) (Xt t)
  have hn:(toks t).length<=262144:=Nat.le_trans (Vm t) (Nat.le_trans (Nat.mul_le_mul_left 4 (Nat.pow_le_pow_right (by decide) ht)) (by decide))
  have sz:∀{n:Nat},n<=5242880->n<=sizeLine:=λh=>Nat.le_trans h (by decide)
  refine ⟨_,rfl,_,rfl,by rw [z1];omega,_,rfl,by rw [z2];omega,rfl,?_⟩
  rw [hw] at l2 ⊢
  refine ⟨_,_,rfl,rfl,by decide +kernel,by decide +kernel,?_,sz (by omega),by rw [hp];exact sz (by omega),λl hl=>?_⟩
  ·exact Qf2 t
  ·rw [hp]
   exact q _ _ _ [l] ⟨Qm hl,.lst Qj (Reps.strs _),by simp,λc m=>by rw [List.mem_singleton.mp m];exact hl⟩ k
def op:Str:=Str.ofString "("
def cp:Str:=Str.ofString ")"
def ok8:Nat->List Str->Prop
 | m,[]=>m=0
 | m,w::r=>if w=op then m+1<=8/\ok8 (m+1) r else if w=cp then 1<=m/\ok8 (m-1) r else ok8 m r
theorem Qfj {m:Nat} {w:Str} (h1:w≠op) (h2:w≠cp) (h:ok8 m r):ok8 m (w::r):=by
 rw [ok8,if_neg h1,if_neg h2];exact h
theorem cpop:cp≠op:=by decide +kernel
theorem Uw:∀(t:Tr) {m:Nat} {r:List Str},m+t.h<=8->ok8 m r->ok8 m (toks t++r)
 | .lf k,m,r,_,h=>Ji k (p:=λ_ y=>ok8 m ([y]++r)) (Qfj (by decide +kernel) (by decide +kernel) h) (Qfj (by decide +kernel) (by decide +kernel) h) (Qfj (by decide +kernel) (by decide +kernel) h)
 | .un b t,m,r,hm,h=>by
  simp only [Tr.h] at hm
  show ok8 m (op::(unW b::(toks t++[cp])++r))
  rw [ok8,if_pos rfl]
  refine ⟨by omega,Qfj (by cases b <;> decide +kernel) (by cases b <;> decide +kernel) ?_⟩
  show ok8 (m+1) (toks t++[cp]++r)
  rw [List.append_assoc]
  refine Uw t (by omega) ?_
  show ok8 (m+1) (cp::r)
  rw [ok8,if_neg cpop,if_pos rfl]
  exact ⟨by omega,h⟩
 | .bi b t u,m,r,hm,h=>by
  simp only [Tr.h] at hm
  show ok8 m (op::(toks t++biW b::(toks u++[cp])++r))
  rw [ok8,if_pos rfl]
  refine ⟨by omega,?_⟩
  rw [List.append_assoc]
  refine Uw t (by omega) ?_
  show ok8 (m+1) (biW b::(toks u++[cp]++r))
  refine Qfj (by cases b <;> decide +kernel) (by cases b <;> decide +kernel) ?_
  rw [List.append_assoc]
  refine Uw u (by omega) ?_
  show ok8 (m+1) (cp::r)
  rw [ok8,if_neg cpop,if_pos rfl]
  exact ⟨by omega,h⟩
theorem Qc2 {w:Str} (h:ws[i]? = some w):ws.drop i=w::ws.drop (i+1):=by
 obtain ⟨hi,e⟩:=List.getElem?_eq_some_iff.mp h
 rw [List.drop_eq_getElem_cons hi,e]
theorem Vt:∀ws:List Str,Qi (ws.map D.str)=true
 | []=>rfl
 | w::r=>by
  show (true && Qi (r.map D.str))=true
  rw [Vt r];rfl
def Jd:GA:=λds k=>∃ws:List Str,ds=[.lst (ws.map .str)]/\ok8 0 ws/\k .non
abbrev Q3:Stmt:=top 20
theorem Q4:FnScope ["words","many","word"] ["words"] (Qb Q3):=⟨rfl,rfl,rfl,by decide +kernel,rfl,by decide +kernel,by decide +kernel⟩
def Zf:Tg:={ own:=λi=>i == 1 || i == 2,io:=[] }
def Ze:WS:=(wSeq (wSet 1 (wC (.int 0)))
 (wSeq (wFor (Qab (wVar 0)) (gN 2) (wSeq (wIf (wBl (wBin dEq (wVar 2) (wC (.str (Str.ofString "("))))) (wSet 1 (wBin Yd (wVar 1) (wC (.int 1)))) (wIf (wBl (wBin dEq (wVar 2) (wC (.str (Str.ofString ")"))))) (wSet 1 (wBin dSub (wVar 1) (wC (.int 1)))) Qu))
 (wIf (wOr (wBl (wBin (dCmp λi j=>decide (i<j)) (wVar 1) (wC (.int 0)))) (wBl (wBin (dCmp λi j=>decide (j<i)) (wVar 1) (wC (.int 8))))) Ud Qu)))
 (wIf (wBl (wBin (dCmp λi j=>decide (j<i)) (wVar 1) (wC (.int 0)))) Ud Qu)))
theorem Ut (B:Bn K mg):∀(cdv:Value) (A:Around) (outer:List PySem.Env) (s:Shared) (H:Hp) (E:XK),Room 0 (A.deeper (envOfC "check_brackets" (Qb Q3) s.heap.objs.size f cdv))->SVs (cxOf CX0 P w K mg base ["words","many","word"] "check_brackets" (Qb Q3) f cdv A outer s H E).nox Zf (Qx Q3) Ze:=λcdv A outer s H E hr =>
  (Qe (Jm (i:=1) Qg Q4.nd)
  (Qe (Qci PassesOwn.never (Qoc (i:=0)) (X6 (i:=2) Q4.nd) (Qe (Q7 (Qy (Yf hr.units) (Qc 2) Qn) (Qf (Jm (i:=1) (Jb Jg (Qc 1) Qg) Q4.nd)) (Qf (Q7 (Qy (Yf hr.units) (Qc 2) Qn) (Qf (Jm (i:=1) (Jb Xj (Qc 1) Qg) Q4.nd)) Ql)))
  (Qf (Q7 (Za (Qdv (Qy Qku (Qc 1) Qg) (Xo (Qy Qhc (Qc 1) (Qlc B.c_MOST_OPEN.choose_spec))))) (Qf Zb) Ql))))
  (Qf (Q7 (Qy Qhc (Qc 1) Qg) (Qf Zb) Ql))))
theorem V8 (F:Fun K "check_brackets" "check_brackets" Q3 f fd) (B:Bn K mg):FnOk P w K mg base CX0 1 f fd ["words"] (spR K Jd):=by
 refine Zd (T:=Zf) F Q4 rfl (by decide) (λds kk h=>?_) (Ut B) (λds kk h=>?_)
 ·obtain ⟨ws,rfl,_⟩:=h
  rfl
 ·obtain ⟨ws,rfl,h8,k⟩:=h
  simp only [Ze,wSeq,wSet,wC,env0,List.map_cons,List.map_nil,List.length_cons,List.length_nil,Nat.zero_add,Nat.reduceAdd,List.replicate,List.cons_append,List.nil_append,List.set_cons_succ,List.set_cons_zero,Qdh,Qek,Jn,look,Qo,Qap]
  refine ⟨Vt ws,λi ρ=>∃(m:Nat) (o:Option D),m<=8/\ok8 m (ws.drop i)/\ρ=[some (.lst (ws.map .str)),some (.int m),o],⟨0,none,by decide,h8,rfl⟩,?_,?_⟩
  ·rintro i d ρ hd ⟨m,o,hm,ho,rfl⟩
   rw [List.getElem?_map] at hd
   obtain ⟨u,hu,rfl⟩:=Option.map_eq_some_iff.mp hd
   rw [Qc2 hu,ok8] at ho
   simp only [gN,wSeq,wIf,List.set_cons_succ,List.set_cons_zero,wSet,wBin,wC,wOr,Qu,reduceIte,r_bl,Jn,look,Qo,Qas,Xy,Q5,Qdg,G3]
   by_cases h1:u=op
   ·rw [if_pos h1] at ho
    have h1':u=Str.ofString "(":=h1
    simp only [h1',decide_true,reduceIte]
    rw [if_neg (by simp;omega),if_neg (by simp;omega)]
    exact ⟨m+1,_,ho.1,ho.2,rfl⟩
   ·rw [if_neg h1] at ho
    have h1':¬u=Str.ofString "(":=h1
    simp only [h1',decide_false,Bool.false_eq_true,reduceIte]
    by_cases h2:u=cp
    ·rw [if_pos h2] at ho
     have h2':u=Str.ofString ")":=h2
     simp only [h2',decide_true,reduceIte]
     rw [if_neg (by simp;omega),if_neg (by simp;omega)]
     exact ⟨m-1,_,by omega,ho.2,by rw [show ((m-1:Nat):Int)=(m:Int)-1 by omega]⟩
    ·rw [if_neg h2] at ho
     have h2':¬u=Str.ofString ")":=h2
     simp only [h2',decide_false,Bool.false_eq_true,reduceIte]
     rw [if_neg (by simp),if_neg (by simp;omega)]
     exact ⟨m,_,hm,ho,rfl⟩
  ·rintro ρ ⟨m,o,hm,ho,rfl⟩
   rw [List.length_map,List.drop_length] at ho
   obtain rfl:m=0:=ho
   simp only [wIf,Qu,r_bl,wBin,wC,Jn,look,Qo,Xy,Q5]
   exact k
def nrm:Tr->Tr
 | .lf 0=>.lf 0
 | .lf 1=>.lf 1
 | .lf _=>.lf 2
 | .un b t=>.un b (nrm t)
 | .bi b t u=>.bi b (nrm t) (nrm u)
theorem Qcs:∀t,oD (nrm t)=oD t
 | .lf 0=>rfl
 | .lf 1=>rfl
 | .lf (_+2)=>rfl
 | .un b t=>by show D.ist _ [oD (nrm t)]=_;rw [Qcs t];rfl
 | .bi b t u=>by show D.ist _ [oD (nrm t),oD (nrm u)]=_;rw [Qcs t,Qcs u];rfl
def run:List (List El)->List Str->Option (List (List El))
 | st,[]=>some st
 | st,w::r=>if w=op then run ([]::st) r else if w=cp then (match st with
   | row::up::rest=>(mkE row).bind λt=>run ((up++[.o t])::rest) r
   | _=>none) else (match st with
   | row::rest=>run ((row++[pwE w])::rest) r
   | []=>none)
theorem Qde {w:Str} (h1:w≠op) (h2:w≠cp):run (row::rest) (w::r)=run ((row++[pwE w])::rest) r:=by
 simp only [run,if_neg h1,if_neg h2]
theorem Qeb:run st (op::r)=run ([]::st) r:=by
 cases st with
 | nil=>simp only [run,if_pos]
 | cons a l=>cases l <;> simp only [run,if_pos]
theorem Qia {up:List El} (h:mkE row=some t):run (row::up::rest) (cp::r)=run ((up++[.o t])::rest) r:=by
 simp only [run,if_neg cpop,if_pos,h,Option.bind_some]
theorem Qpo (b:Bool):pwE (unW b)=.w (unW b):=by
 unfold pwE
 rw [if_neg (by cases b <;> decide +kernel),if_neg (by cases b <;> decide +kernel),if_neg (by cases b <;> decide +kernel)]
theorem Qpq (b:Bool):pwE (biW b)=.w (biW b):=by
 unfold pwE
 rw [if_neg (by cases b <;> decide +kernel),if_neg (by cases b <;> decide +kernel),if_neg (by cases b <;> decide +kernel)]
theorem pw_0:pwE (lfW 0)=.o (.lf 0):=by
 unfold pwE
 rw [if_neg (by decide +kernel),if_neg (by decide +kernel),if_pos (by decide +kernel)]
theorem pw_1:pwE (lfW 1)=.o (.lf 1):=by
 unfold pwE
 rw [if_pos (by decide +kernel)]
theorem pw_2:pwE (lfW 2)=.o (.lf 2):=by
 unfold pwE
 rw [if_neg (by decide +kernel),if_pos (by decide +kernel)]
theorem Qp3 (b:Bool) (t:Tr):mkE [.w (unW b),.o t]=some (.un b t):=by
 cases b
 ·rw [mkE,if_pos rfl]
 ·rw [mkE,if_neg (by decide +kernel),if_pos rfl]
theorem Qp4 (b:Bool) (t u:Tr):mkE [.o t,.w (biW b),.o u]=some (.bi b t u):=by
 cases b
 ·rw [mkE,if_pos rfl]
 ·rw [mkE,if_neg (by decide +kernel),if_pos rfl]
theorem Uu:∀(t:Tr) {row:List El} {rest:List (List El)} {r:List Str},run (row::rest) (toks t++r)=run ((row++[.o (nrm t)])::rest) r
 | .lf 0,row,rest,r=>by rw [← show pwE (lfW 0)=.o (nrm (.lf 0)) from pw_0];exact Qde (by decide +kernel) (by decide +kernel)
 | .lf 1,row,rest,r=>by rw [← show pwE (lfW 1)=.o (nrm (.lf 1)) from pw_1];exact Qde (by decide +kernel) (by decide +kernel)
 | .lf (k+2),row,rest,r=>by
  show run (row::rest) (lfW 2::r)=run ((row++[.o (.lf 2)])::rest) r
  rw [← pw_2];exact Qde (by decide +kernel) (by decide +kernel)
 | .un b t,row,rest,r=>by
  show run (row::rest) (op::(unW b::(toks t++[cp])++r))=_
  rw [Qeb]
  show run ([]::row::rest) (unW b::(toks t++[cp]++r))=_
  rw [Qde (by cases b <;> decide +kernel) (by cases b <;> decide +kernel),Qpo,List.append_assoc,Uu t]
  show run (_::row::rest) (cp::r)=_
  exact Qia (Qp3 b (nrm t))
 | .bi b t u,row,rest,r=>by
  show run (row::rest) (op::(toks t++biW b::(toks u++[cp])++r))=_
  rw [Qeb,List.append_assoc,Uu t]
  show run (_::row::rest) (biW b::(toks u++[cp]++r))=_
  rw [Qde (by cases b <;> decide +kernel) (by cases b <;> decide +kernel),Qpq,List.append_assoc (toks u),Uu u]
  show run (_::row::rest) (cp::r)=_
  exact Qia (Qp4 b (nrm t) (nrm u))
theorem Qka (t:Tr):run [[]] (toks t)=some [[.o (nrm t)]]:=by
 have:=Uu t (row:=[]) (rest:=[]) (r:=[])
 rw [List.append_nil] at this
 exact this
theorem Qdf {z:List (List El)} (h:run st (cp::r)=some z):∃row up rest t,st=row::up::rest/\mkE row=some t/\run ((up++[.o t])::rest) r=some z:=by
 match st,h with
 | [],h=>simp only [run,if_neg cpop,if_pos] at h;cases h
 | [row],h=>simp only [run,if_neg cpop,if_pos] at h;cases h
 | row::up::rest,h =>
  simp only [run,if_neg cpop,if_pos] at h
  cases hm:mkE row with
  | none=>rw [hm] at h;cases h
  | some t=>rw [hm] at h;exact ⟨row,up,rest,t,rfl,hm,h⟩
theorem Qea {z:List (List El)} {w:Str} (h1:w≠op) (h2:w≠cp) (h:run st (w::r)=some z):∃row rest,st=row::rest/\run ((row++[pwE w])::rest) r=some z:=by
 cases st with
 | nil=>simp only [run,if_neg h1,if_neg h2] at h;cases h
 | cons row rest=>rw [Qde h1 h2] at h;exact ⟨row,rest,rfl,h⟩
def rD (st:List (List El)):List D:=st.reverse.map λrow=>.lst (row.map eD)
theorem V5:rD (row::rest)=rD rest++[.lst (row.map eD)]:=by
 unfold rD;rw [List.reverse_cons,List.map_append];rfl
theorem Qmx:(rD st).length=st.length:=by unfold rD;rw [List.length_map,List.length_reverse]
def J6:GA:=λds k=>∃t,ds=[.str (tx t)]/\t.h<=8/\k (oD t)
abbrev J2:Stmt:=top 21
theorem J9:FnScope ["text","words","rows","word","part"] ["text"] (Qb J2):=⟨rfl,rfl,rfl,by decide +kernel,rfl,by decide +kernel,by decide +kernel⟩
def U5:Tg:={ own:=λi=>i == 1 || i == 2 || i == 3 || i == 4,io:=[] }
def Uy:WS:=(wSeq (wIf (wNot (wTru (Qv dIsi (Qd (wVar 0) (Qd (wC (.ty .str)) wNil))))) Ud Qu)
 (wSeq (wSet 1 (Qv Jj (Qd (wVar 0) wNil)))
 (wSeq (Zl (Qv Jd (Qd (wVar 1) wNil)))
 (wSeq (wSet 2 (wLst (Qd (wLst wNil) wNil)))
 (wSeq (wFor (Qjv 1) (gN 3) (wIf (wBl (wBin dEq (wVar 3) (wC (.str (Str.ofString "("))))) (Zl (wMt 2 "list" Yr (Qd (wLst wNil) wNil))) (wIf (wBl (wBin dEq (wVar 3) (wC (.str (Str.ofString ")"))))) (wSeq (wSet 4 (Qv Qbe (Qd (Qjw 2) wNil)))
 (wTkl 2 (wVar 4))) (wTkl 2 (Qv Jq (Qd (wVar 3) wNil))))))
 (wSeq (wIf (wOr (wBl (wBin dNe (Qv dLen (Qd (wBin dIx (wVar 2) (wC (.int 0))) wNil)) (wC (.int 1)))) (wNot (wTru (Qv Ja (Qd (wBin dIx (wVar 2) (wC (.int 0))) wNil))))) Ud Qu)
 (wRet (Zj (wBin dIx (wBin dIx (wVar 2) (wC (.int 0))) (wC (.int 0)))))))))))
theorem Qb5 (B:Bn K mg) (C_part_or_word:Cal P w K mg base "part_or_word" 1 ["word"] (spR K Jq)) (C_are_parts:Cal P w K mg base "are_parts" 1 ["things"] (spR K Ja)) (C_made:Cal P w K mg base "made" 4 ["row"] (spR K Qbe)) (C_bracket_words:Cal P w K mg base "bracket_words" 2 ["text"] (spR K Jj)) (C_check_brackets:Cal P w K mg base "check_brackets" 1 ["words"] (spR K Jd)):∀(cdv:Value) (A:Around) (outer:List PySem.Env) (s:Shared) (H:Hp) (E:XK),Room 4 (A.deeper (envOfC "read_part" (Qb J2) s.heap.objs.size f cdv))->SVs (cxOf CX0 P w K mg base ["text","words","rows","word","part"] "read_part" (Qb J2) f cdv A outer s H E).nox U5 (Qx J2) Uy:=λcdv A outer s H E hr =>
  (Qe (Q7 (Xd (Yj (J7 Qot B.nb_isinstance Vz (Qa (Qc 0) (Qa (Qqa .str B.nb_str Qow) Qh))))) (Qf Zb) Ql)
  (Qe (Jm (i:=1) (Qt C_bracket_words (hr.mono (by decide)) (Qa (Qc 0) Qh)) J9.nd)
  (Qe (Zc (Qt C_check_brackets (hr.mono (by decide)) (Qa (Qc 1) Qh)))
  (Qe (Jm (i:=2) (Zi (Qa (Zi Qh) Qh)) J9.nd)
  (Qe (Qci PassesOwn.never (Qk3 (s:=1)) (X6 (i:=3) J9.nd) (Qf (Q7 (Qy (Yf hr.units) (Qc 3) Qn) (Qf (Zc (Qbg (i:=2) Yb PySem.F.plainAttrs_list PySem.F.slot_list_append PySem.F.type_list_append (Qa (Zi Qh) Qh)))) (Qf (Q7 (Qy (Yf hr.units) (Qc 3) Qn) (Qe (Jm (i:=4) (Qt C_made (hr.mono (by decide)) (Qa (Qlb (i:=2)) Qh)) J9.nd)
  (Qf (Qh8 (i:=2) (Qc 4)))) (Qf (Qh8 (i:=2) (Qt C_part_or_word (hr.mono (by decide)) (Qa (Qc 3) Qh)))))))))
  (Qe (Q7 (Za (Qdv (Qy (Qhb hr.units) (J7 Uo B.nb_len Up (Qa (Jc (Q8 (Q6 hr)) (Qc 2) Qg) Qh)) Qg) (Xo (Xd (Yj (Qt C_are_parts (hr.mono (by decide)) (Qa (Jc (Q8 (Q6 hr)) (Qc 2) Qg) Qh))))))) (Qf Zb) Ql)
  (Qf (Qr (Ua (Jc (Q8 (Q6 hr)) (Jc (Q8 (Q6 hr)) (Qc 2) Qg) Qg))))))))))
theorem Uv:∀row:List El,Qi (row.map eD)=true
 | []=>rfl
 | e::r=>by
  show ((eD e).pure && Qi (r.map eD))=true
  rw [Uv r,Qga e];rfl
theorem Qay (F:Fun K "read_part" "read_part" J2 f fd) (B:Bn K mg) (C1:Cal P w K mg base "part_or_word" 1 ["word"] (spR K Jq)) (C2:Cal P w K mg base "are_parts" 1 ["things"] (spR K Ja)) (C3:Cal P w K mg base "made" 4 ["row"] (spR K Qbe)) (C4:Cal P w K mg base "bracket_words" 2 ["text"] (spR K Jj)) (C5:Cal P w K mg base "check_brackets" 1 ["words"] (spR K Jd)):FnOk P w K mg base CX0 5 f fd ["text"] (spR K J6):=by
 refine Zd (T:=U5) F J9 rfl (by decide) (λds kk h=>?_) (Qb5 B C1 C2 C3 C4 C5) (λds kk h=>?_)
 ·obtain ⟨t,rfl,_⟩:=h
  rfl
 ·obtain ⟨t,rfl,ht,k⟩:=h
  have hn:(toks t).length<=262144:=Nat.le_trans (Vm t) (Nat.le_trans (Nat.mul_le_mul_left 4 (Nat.pow_le_pow_right (by decide) ht)) (by decide))
  have big:∀{n:Nat},n<=262200->n<sizeLine:=λh=>Nat.lt_of_le_of_lt h (by decide)
  simp only [Uy,wSeq,wIf,wNot,env0,List.map_cons,List.map_nil,List.length_cons,List.length_nil,Nat.zero_add,Nat.reduceAdd,List.replicate,List.cons_append,List.nil_append,Qu,wSet,Qv,Qd,wNil,Zl,wLst,Qdh,Jn,Gh,wC,Qkd,isiD,Y7,look,List.set_cons_succ,List.set_cons_zero,Qo,BEq.rfl,Bool.not_true,Bool.false_eq_true,reduceIte]
  refine ⟨t,rfl,ht,?_⟩
  simp only []
  refine ⟨toks t,rfl,(List.append_nil (toks t)) ▸ Uw t (by omega) rfl,?_⟩
  simp only [sz0,sz1,Qjv,look,List.set_cons_succ,List.set_cons_zero,Qo,Qmy,true_and]
  refine ⟨Vt _,Vt _,λi ρ=>∃(st:List (List El)) (o3 o4:Option D),run st ((toks t).drop i)=some [[.o (nrm t)]]/\st.length<=i+1/\(∀row∈st,row.length<=i)/\ρ=[some (.str (tx t)),some (.fls ((toks t).map .str)),some (.lst (rD st)),o3,o4],⟨[[]],none,none,Qka t,Nat.le_refl _,by simp,rfl⟩,?_,?_⟩
  ·rintro i d ρ hd ⟨st,o3,o4,hr,hl,hrow,rfl⟩
   rw [List.getElem?_map] at hd
   obtain ⟨u,hu,rfl⟩:=Option.map_eq_some_iff.mp hd
   have hi:=(List.getElem?_eq_some_iff.mp hu).1
   rw [Qc2 hu] at hr
   simp only [gN,wIf,List.set_cons_succ,List.set_cons_zero,Zl,wMt,Qd,wLst,wNil,List.length_nil,sz0,true_and,wSeq,wSet,Qv,r_bl,wBin,wC,Jn,look,Qef,BEq.rfl,Qo,Qey,G3,Q5]
   by_cases h1:u=op
   ·have h1':u=Str.ofString "(":=h1
    rw [h1,Qeb] at hr
    simp only [h1',decide_true,reduceIte]
    refine ⟨by rw [Qmx];exact big (by omega),[]::st,_,_,hr,by rw [List.length_cons];omega,λrow hm=>?_,by rw [V5];rfl⟩
    rcases List.mem_cons.mp hm with rfl | hm
    ·exact Nat.zero_le _
    ·exact Nat.le_succ_of_le (hrow row hm)
   ·have h1':¬u=Str.ofString "(":=h1
    simp only [h1',decide_false,Bool.false_eq_true,reduceIte]
    by_cases h2:u=cp
    ·have h2':u=Str.ofString ")":=h2
     rw [h2] at hr
     obtain ⟨row,up,rest,t',rfl,hmk,hr⟩:=Qdf hr
     simp only [h2',decide_true,Qjw,look,wTkl,List.set_cons_succ,List.set_cons_zero,Jn,Qo,Qv,Qd,wNil,reduceIte]
     rw [V5]
     refine ⟨_,_,rfl,Uv row,?_⟩
     refine ⟨row,t',rfl,hmk,?_⟩
     rw [V5]
     have hu1:=hrow up (by simp)
     refine ⟨_,_,rfl,Uv up,by rw [List.length_map];exact big (by omega),?_⟩
     refine ⟨Yc t',(up++[.o t'])::rest,_,_,hr,by simp only [List.length_cons] at hl ⊢;omega,λq hm=>?_,by rw [V5,List.map_append];rfl⟩
     rcases List.mem_cons.mp hm with rfl | hm
     ·rw [List.length_append,List.length_singleton];omega
     ·exact Nat.le_succ_of_le (hrow q (by simp [hm]))
    ·have h2':¬u=Str.ofString ")":=h2
     obtain ⟨row,rest,hst,hr2⟩:=Qea h1 h2 hr
     subst hst
     simp only [h2',decide_false,Bool.false_eq_true,wTkl,Jn,look,Qv,Qd,wNil,List.set_cons_succ,List.set_cons_zero,Qo,reduceIte]
     rw [V5]
     have hu1:=hrow row (by simp)
     refine ⟨_,_,rfl,Uv row,by rw [List.length_map];exact big (by omega),u,rfl,?_⟩
     refine ⟨Qga _,(row++[pwE u])::rest,_,_,hr2,by simp only [List.length_cons] at hl ⊢;omega,λq hm=>?_,by rw [V5,List.map_append];rfl⟩
     rcases List.mem_cons.mp hm with rfl | hm
     ·rw [List.length_append,List.length_singleton];omega
     ·exact Nat.le_succ_of_le (hrow q (by simp [hm]))
  ·rintro ρ ⟨st,o3,o4,hr,hl,hrow,rfl⟩
   rw [List.length_map,List.drop_length] at hr
   obtain rfl:st=[[.o (nrm t)]]:=by simpa [run] using hr
   have e:rD [[.o (nrm t)]]=[.lst [oD (nrm t)]]:=rfl
   rw [e,Qcs]
   have hp:=Yc t
   simp only [wSeq,wIf,wOr,Qu,wRet,Zj,wBin,wC,Jn,reduceIte,wNot,Gh,Qv,Qd,wNil,r_bl,look,Qo,V4,Vf,List.getElem?_cons_zero,Xh,List.length_cons,List.length_nil,Nat.zero_add,Qg3,Q5]
   refine ⟨[t],rfl,(by decide:1<=2),?_⟩
   simp only [hp,true_and,Y7,Bool.not_true,Bool.false_eq_true,reduceIte]
   exact k
def Qf5:GA:=λds k=>∃ns:List Int,ds=[.kls (ns.map .int)]/\ns.length<=63/\k (.bl true)
abbrev Ur:Stmt:=top 30
theorem Ge:FnScope ["_law_script","_law_cell","_law_row","_law_tree_here","_law_k"] ["_law_script"] (Qb Ur):=⟨rfl,rfl,rfl,by decide +kernel,rfl,by decide +kernel,by decide +kernel⟩
def Qlz:Tg:={ own:=λi=>i == 1 || i == 2 || i == 3 || i == 4,io:=[] }
def Qlq:WS:=(wSeq (wFor (Qab (wBin Yd (wLst (Qd (wC (.int 0)) wNil)) (wSlT (wVar 0) Z5 (U4 (wC (.int 10)))))) (gN 1) (wSeq (wSet 2 (wLst (Qd (Zj (wVar 1)) (Qd (wC (.int 0)) wNil))))
 (wSeq (wSet 3 (Jh 2 Yg (Ys 2 (Qd (wC (.int 3)) wNil))))
 (wSeq (wIf (wBl (wBin dEq (Jh 2 Qq (Ys 2 (Qd (wC (.int 6)) wNil))) (wC (.int 1)))) (wSeq (wSet 3 (Qac (wSlT (wSlT (wLst (Qd (wC (.str (Str.ofString "single"))) (Qd (wC (.str (Str.ofString "level"))) (Qd (wC (.str (Str.ofString "upright"))) wNil)))) (U4 (Jh 2 Qq (Ys 2 (Qd (wC (.int 3)) wNil)))) Z5) Z5 (U4 (wC (.int 1))))))
 (wFor (Qgt (Qd (Jh 2 Qq (Ys 2 (Qd (wC (.int 8)) wNil))) wNil)) (gN 4) (wSet 3 (Qac (wLst (Qd (wBin dIx (wLst (Qd (wC (.str (Str.ofString "turned"))) (Qd (wC (.str (Str.ofString "mirrored"))) wNil))) (Jh 2 Qq (Ys 2 (Qd (wC (.int 2)) wNil)))) (Qd (Zj (wVar 3)) wNil))))))) Qu)
 (wIf (wOr (wNot (wTru (Qv Yy (Qd (Qv Yh (Qd (wVar 3) wNil)) (Qd (wVar 3) wNil))))) (wNot (wTru (Qv Yy (Qd (Qv J6 (Qd (Qv Jf (Qd (wVar 3) wNil)) wNil)) (Qd (wVar 3) wNil)))))) (wRet (wC (.bl false))) Qu)))))
 (wRet (wC (.bl true))))
theorem Qqj (B:Bn K mg) (C_read_part:Cal P w K mg base "read_part" 5 ["text"] (spR K J6)) (C__law_take:Cal P w K mg base "_law_take" 1 ["_law_row","_law_base"] (spI K 0 Qq)) (C__law_tree:Cal P w K mg base "_law_tree" 14 ["_law_row","_law_deep"] (spI K 0 Yg)) (C__law_part:Cal P w K mg base "_law_part" 14 ["_law_tree_here"] (spR K Yh)) (C__law_text:Cal P w K mg base "_law_text" 14 ["_law_tree_here"] (spR K Jf)) (C__law_is:Cal P w K mg base "_law_is" 26 ["_law_found","_law_tree_here"] (spR K Yy)):∀(cdv:Value) (A:Around) (outer:List PySem.Env) (s:Shared) (H:Hp) (E:XK),Room 26 (A.deeper (envOfC "law" (Qb Ur) s.heap.objs.size f cdv))->SVs (cxOf CX0 P w K mg base ["_law_script","_law_cell","_law_row","_law_tree_here","_law_k"] "law" (Qb Ur) f cdv A outer s H E).nox Qlz (Qx Ur) Qlq:=λcdv A outer s H E hr =>
  (Qe (Qci PassesOwn.never (Qjo (Jb Jg (Zi (Qa Qg Qh)) (Qc1 (Qc 0) Gj (V7 Qg)))) (X6 (i:=1) Ge.nd) (Qe (Jm (i:=2) (Zi (Qa (Ua (Qc 1)) (Qa Qg Qh))) Ge.nd)
  (Qe (Jm (i:=3) (Jr C__law_tree (hr.mono (by decide)) (Y1 (i:=2) (Qa Qg Qh))) Ge.nd)
  (Qe (Q7 (Qy (Yf hr.units) (Jr C__law_take (hr.mono (by decide)) (Y1 (i:=2) (Qa Qg Qh))) Qg) (Qe (Jm (i:=3) (Qf7 (Qc1 (Qc1 (Zi (Qa Qn (Qa Qn (Qa Qn Qh)))) (V7 (Jr C__law_take (hr.mono (by decide)) (Y1 (i:=2) (Qa Qg Qh)))) Gj) Gj (V7 Qg))) Ge.nd)
  (Qf (Qci PassesOwn.never (Qfx B.nb_range (Qa (Jr C__law_take (hr.mono (by decide)) (Y1 (i:=2) (Qa Qg Qh))) Qh)) (X6 (i:=4) Ge.nd) (Qf (Jm (i:=3) (Qf7 (Zi (Qa (Jc (Q8 (Q6 hr)) (Zi (Qa Qn (Qa Qn Qh))) (Jr C__law_take (hr.mono (by decide)) (Y1 (i:=2) (Qa Qg Qh)))) (Qa (Ua (Qc 3)) Qh)))) Ge.nd))))) Ql)
  (Qf (Q7 (Za (Qdv (Xd (Yj (Qt C__law_is (hr.mono (by decide)) (Qa (Qt C__law_part (hr.mono (by decide)) (Qa (Qc 3) Qh)) (Qa (Qc 3) Qh))))) (Xo (Xd (Yj (Qt C__law_is (hr.mono (by decide)) (Qa (Qt C_read_part (hr.mono (by decide)) (Qa (Qt C__law_text (hr.mono (by decide)) (Qa (Qc 3) Qh)) Qh)) (Qa (Qc 3) Qh)))))))) (Qf (Qr Qhp)) Ql))))))
  (Qf (Qr Qhp)))
def w_tl:WS:=(wIf (wOr (wNot (wTru (Qv Yy (Qd (Qv Yh (Qd (wVar 3) wNil)) (Qd (wVar 3) wNil))))) (wNot (wTru (Qv Yy (Qd (Qv J6 (Qd (Qv Jf (Qd (wVar 3) wNil)) wNil)) (Qd (wVar 3) wNil)))))) (wRet (wC (.bl false))) Qu)
def w_bd:WS:=(wSet 3 (Qac (wLst (Qd (wBin dIx (wLst (Qd (wC (.str (Str.ofString "turned"))) (Qd (wC (.str (Str.ofString "mirrored"))) wNil))) (Jh 2 Qq (Ys 2 (Qd (wC (.int 2)) wNil)))) (Qd (Zj (wVar 3)) wNil)))))
theorem Qnv:Qlq=(wSeq (wFor (Qab (wBin Yd (wLst (Qd (wC (.int 0)) wNil)) (wSlT (wVar 0) Z5 (U4 (wC (.int 10)))))) (gN 1) (wSeq (wSet 2 (wLst (Qd (Zj (wVar 1)) (Qd (wC (.int 0)) wNil))))
 (wSeq (wSet 3 (Jh 2 Yg (Ys 2 (Qd (wC (.int 3)) wNil))))
 (wSeq (wIf (wBl (wBin dEq (Jh 2 Qq (Ys 2 (Qd (wC (.int 6)) wNil))) (wC (.int 1)))) (wSeq (wSet 3 (Qac (wSlT (wSlT (wLst (Qd (wC (.str (Str.ofString "single"))) (Qd (wC (.str (Str.ofString "level"))) (Qd (wC (.str (Str.ofString "upright"))) wNil)))) (U4 (Jh 2 Qq (Ys 2 (Qd (wC (.int 3)) wNil)))) Z5) Z5 (U4 (wC (.int 1))))))
 (wFor (Qgt (Qd (Jh 2 Qq (Ys 2 (Qd (wC (.int 8)) wNil))) wNil)) (gN 4) w_bd)) Qu)
 w_tl))))
 (wRet (wC (.bl true)))):=rfl
theorem Qly {o0 o1 o2 o4:Option D} {l:Bool} (ht:t.h<=8) (h:Pn.nx [o0,o1,o2,some (tD l t),o4]):w_tl Pn [o0,o1,o2,some (tD l t),o4]:=by
 simp only [w_tl,wIf,wOr,wNot,wRet,wC,Qu,reduceIte,Gh,Qv,Qd,wNil,Jn,look,Qo]
 refine ⟨l,t,rfl,ht,l,t,rfl,ht,?_⟩
 simp only [Y7,Bool.not_true,Bool.false_eq_true,reduceIte]
 refine ⟨l,t,rfl,ht,?_⟩
 refine ⟨t,rfl,ht,l,t,rfl,ht,?_⟩
 simp only [Y7,Bool.not_true,Bool.false_eq_true,reduceIte]
 exact h
theorem cut3 {r:Int} (h0:0<=r) (h3:r<3):∃i:Nat,cutD (cutD [D.str (Str.ofString "single"),D.str (Str.ofString "level"),D.str (Str.ofString "upright")] (some r) none) none (some 1)=[.str (lfW i)]/\Qi (cutD [D.str (Str.ofString "single"),D.str (Str.ofString "level"),D.str (Str.ofString "upright")] (some r) none)=true:=by
 have:r=0\/r=1\/r=2:=by omega
 rcases this with rfl | rfl | rfl
 ·exact ⟨0,rfl,rfl⟩
 ·exact ⟨1,rfl,rfl⟩
 ·exact ⟨2,rfl,rfl⟩
theorem Qnp (F:Fun K "law" "law" Ur f fd) (B:Bn K mg) (C1:Cal P w K mg base "read_part" 5 ["text"] (spR K J6)) (C2:Cal P w K mg base "_law_take" 1 ["_law_row","_law_base"] (spI K 0 Qq)) (C3:Cal P w K mg base "_law_tree" 14 ["_law_row","_law_deep"] (spI K 0 Yg)) (C4:Cal P w K mg base "_law_part" 14 ["_law_tree_here"] (spR K Yh)) (C5:Cal P w K mg base "_law_text" 14 ["_law_tree_here"] (spR K Jf)) (C6:Cal P w K mg base "_law_is" 26 ["_law_found","_law_tree_here"] (spR K Yy)):FnOk P w K mg base CX0 27 f fd ["_law_script"] (spR K Qf5):=by
 refine Zd (T:=Qlz) F Ge rfl (by decide) (λds kk h=>?_) (Qqj B C1 C2 C3 C4 C5 C6) (λds kk h=>?_)
 ·obtain ⟨ns,rfl,_⟩:=h
  rfl
 ·obtain ⟨ns,rfl,hns,k⟩:=h
  have ec:cutD (ns.map D.int) none (some 10)=(ns.take 10).map D.int:=by
   have:cutD (ns.map D.int) none (some ((10:Nat):Int))=(ns.map D.int).take 10:=Qoq
   rw [List.map_take,← this];rfl
  have el:(ns.take 10).length<=10:=by rw [List.length_take];omega
  simp only [Qnv,env0,List.map_cons,List.map_nil,List.length_cons,List.length_nil,Nat.zero_add,Nat.reduceAdd,List.replicate,List.cons_append,List.nil_append,wSeq,Qdh,Qek,wBin,wLst,Qd,wC,wNil,sz1,wSlT,Z5,Xg,Z8,Jn,look,Qo,Qe0,Qe9,ec,Qbu,Qi,D.pure,Bool.and_self,Qap,true_and]
  refine ⟨Nat.le_of_lt (Qd7 (by rw [List.length_map];omega)),λt ρ=>∃o1 o2 o3 o4:Option D,ρ=[some (.kls (ns.map .int)),o1,o2,o3,o4],⟨_,_,_,_,rfl⟩,?_,?_⟩
  ·rintro t d ρ hd ⟨o1,o2,o3,o4,rfl⟩
   obtain ⟨c,rfl⟩:∃c,d=.int c:=by
    rcases List.mem_cons.mp (List.mem_of_getElem? hd) with z | z
    ·exact ⟨_,z⟩
    ·obtain ⟨c,_,rfl⟩:=List.mem_map.mp z
     exact ⟨c,rfl⟩
   simp only [gN,wSeq,wSet,wLst,Qd,Zj,List.set_cons_succ,List.set_cons_zero,wC,wNil,List.length_cons,List.length_nil,Nat.zero_add,Nat.reduceAdd,sz2,Jh,Ys,Qi,D.pure,Bool.and_self,List.nil_append,wIf,Qdh,Qem,true_and,Qu,r_bl,wBin,Jn,look,Option.isSome_some,Qo,Vs,Bool.and_true]
   refine ⟨c,0,3,rfl,Nat.le_refl 3,Int.le_refl 0,by decide,λc1 n1 t1 ht1 hn1 hn2=>?_⟩
   simp only [rowD,Vs,Qi,D.pure,Bool.and_self,true_and]
   refine ⟨c1,n1,6,rfl,by decide,by decide,hn1,by omega,λc2 r2 a2 b2=>?_⟩
   simp only [rowD,G4,Q5]
   by_cases h1:r2=1
   ·simp only [h1,decide_true,Qac,wSlT,wLst,Qd,wC,wNil,List.length_cons,List.length_nil,Nat.zero_add,Nat.reduceAdd,sz3,Z5,Xg,Z8,Qar,Qi,D.pure,Bool.and_self,Qcp,true_and,Jh,Ys,look,Option.isSome_some,List.nil_append,List.set_cons_succ,List.set_cons_zero,Qo,Vs,reduceIte]
    refine ⟨c2,n1+1,3,rfl,by decide,by decide,by omega,by omega,λc3 r3 a3 b3=>?_⟩
    simp only [rowD,Vs,Qi,D.pure,Bool.and_self,true_and,Z8]
    obtain ⟨i,e1,e2⟩:=cut3 a3 b3
    rw [e1]
    refine ⟨e2,rfl,c3,n1+1+1,8,rfl,by decide,by decide,by omega,by omega,λc4 r4 a4 b4=>?_⟩
    simp only [rowD,Qbt,Int.reducePow,Int.reduceNeg]
    refine ⟨by omega,by omega,Qe8,λi ρ=>∃(c5 n5:Int) (t:Tr) (o4:Option D),t.h<=i/\0<=n5/\n5<=400+(i:Int)/\ρ=[some (.kls (ns.map .int)),some (.int c),some (rowD c5 n5),some (tD true t),o4],⟨c4,n1+1+1+1,.lf i,o4,Nat.le_refl _,by omega,by omega,rfl⟩,?_,?_⟩
    ·rintro i d ρ hd ⟨c5,n5,t,o4,ht,hn5,hn6,rfl⟩
     obtain ⟨hil,rfl⟩:=Qg0 hd
     have hp:=Xq (l:=true) t
     simp only [gN,w_bd,wSet,Qac,wLst,Qd,wBin,wC,wNil,List.length_cons,List.length_nil,Nat.zero_add,Nat.reduceAdd,sz2,Jh,Ys,rowD,List.set_cons_succ,List.set_cons_zero,look,Option.isSome_some,Qi,D.pure,Bool.and_self,List.nil_append,Zj,Qcp,Bool.and_true,true_and,Jn,Qo,hp,Vs]
     refine ⟨c5,n5,2,rfl,by decide,by decide,hn5,by omega,λc6 r6 a6 b6=>?_⟩
     simp only [V4]
     obtain ⟨b,hb⟩:∃b:Bool,L2.atI [D.str (Str.ofString "turned"),D.str (Str.ofString "mirrored")] r6=some (.str (unW b)):=by
      have:r6=0\/r6=1:=by omega
      rcases this with rfl | rfl
      ·exact ⟨false,rfl⟩
      ·exact ⟨true,rfl⟩
     rw [hb]
     exact ⟨rfl,c6,n5+1,.un b t,_,Nat.succ_le_succ ht,by omega,by omega,rfl⟩
    ·rintro ρ ⟨c5,n5,t,o4,ht,hn5,hn6,rfl⟩
     rw [Gg] at ht
     exact Qly (by omega) ⟨_,_,_,_,rfl⟩
   ·simp only [h1,decide_false,Bool.false_eq_true,reduceIte]
    exact Qly (by omega) ⟨_,_,_,_,rfl⟩
  ·rintro ρ ⟨o1,o2,o3,o4,rfl⟩
   simp only [wRet,wC]
   exact k
def Lk (K:PySem.W.Frag) (f:Addr) (x:Str) (st:Stmt):Prop:=∃oc od kV dc pm an cd ct sl,K.lookup f=some ⟨oc,od,.func (PySem.W.fnOf x x (Zw st) (Qx st) (Qb st) .none kV dc pm an cd ct),sl⟩/\PySem.W.codeIn K cd x=true
theorem Lk.fn {st:Stmt} (h:Lk K f x st) (k:PySem.W.keepIn K (.ref f)=true):∃fd,Fun K x x st f fd:=by
 obtain ⟨oc,od,kV,dc,pm,an,cd,ct,sl,l,c⟩:=h
 exact ⟨_,Qf6 l c k⟩
theorem na2 {K:PySem.W.Frag} {C:Addr} (h0:Q1 K C "one") (h1:Q1 K C "other"):∀i,Q1 K C (fldS i)
 | 0=>h0
 | _+1=>h1
def fnB (K:PySem.W.Frag) (f:Addr):Bool:=PySem.W.isFn K (.ref f) && PySem.W.keepIn K (.ref f)
theorem Qw (h:fnB K f=true):PySem.W.isFn K (.ref f)=true/\PySem.W.keepIn K (.ref f)=true:=by
 simpa only [fnB,Bool.and_eq_true] using h
def LkQ (K:PySem.W.Frag) (f:Addr) (x q:Str) (st:Stmt):Prop:=∃oc od kV dc pm an cd ct sl,K.lookup f=some ⟨oc,od,.func (PySem.W.fnOf x q (Zw st) (Qx st) (Qb st) .none kV dc pm an cd ct),sl⟩/\PySem.W.codeIn K cd q=true
theorem LkQ.fn {q:Str} {st:Stmt} (h:LkQ K f x q st) (k:PySem.W.keepIn K (.ref f)=true):∃fd,Fun K x q st f fd:=by
 obtain ⟨oc,od,kV,dc,pm,an,cd,ct,sl,l,c⟩:=h
 exact ⟨_,Qf6 l c k⟩
theorem Qo1 {h:Heap} (X:K.In h) (G:h.Ns mainGlobals mg) (hfa:mg "law" = some (.ref fa))
  {f1:Addr} (a1:atN K "part_or_word" f1) (l1:Lk K f1 "part_or_word" Je) (k1:PySem.W.keepIn K (.ref f1)=true)
  {f2:Addr} (a2:atN K "are_parts" f2) (l2:Lk K f2 "are_parts" Js) (k2:PySem.W.keepIn K (.ref f2)=true)
  {f3:Addr} (a3:atN K "made_of_one" f3) (l3:Lk K f3 "made_of_one" Jl) (k3:PySem.W.keepIn K (.ref f3)=true)
  {f4:Addr} (a4:atN K "made_of_two" f4) (l4:Lk K f4 "made_of_two" Jk) (k4:PySem.W.keepIn K (.ref f4)=true)
  {f5:Addr} (a5:atN K "made" f5) (l5:Lk K f5 "made" Xf) (k5:PySem.W.keepIn K (.ref f5)=true)
  {f6:Addr} (a6:atN K "bracket_words" f6) (l6:Lk K f6 "bracket_words" Yo) (k6:PySem.W.keepIn K (.ref f6)=true)
  {f7:Addr} (a7:atN K "check_brackets" f7) (l7:Lk K f7 "check_brackets" Q3) (k7:PySem.W.keepIn K (.ref f7)=true)
  {f8:Addr} (a8:atN K "read_part" f8) (l8:Lk K f8 "read_part" J2) (k8:PySem.W.keepIn K (.ref f8)=true)
  {f9:Addr} (a9:atN K "_law_take" f9) (l9:Lk K f9 "_law_take" J3) (k9:PySem.W.keepIn K (.ref f9)=true)
  {f10:Addr} (a10:atN K "_law_tree" f10) (l10:Lk K f10 "_law_tree" Jt) (k10:PySem.W.keepIn K (.ref f10)=true)
  {f11:Addr} (a11:atN K "_law_part" f11) (l11:Lk K f11 "_law_part" Jv) (k11:PySem.W.keepIn K (.ref f11)=true)
  {f12:Addr} (a12:atN K "_law_text" f12) (l12:Lk K f12 "_law_text" Ju) (k12:PySem.W.keepIn K (.ref f12)=true)
  {f13:Addr} (a13:atN K "_law_kind" f13) (l13:Lk K f13 "_law_kind" J4) (k13:PySem.W.keepIn K (.ref f13)=true)
  {f14:Addr} (a14:atN K "_law_is" f14) (l14:Lk K f14 "_law_is" Yp) (k14:PySem.W.keepIn K (.ref f14)=true)
  {f15:Addr} {od15 an15:Option Addr} {sl15:Array (Option Value)} {oc15 kV15 dc15 pm15 cd15 ct15:Value}
  (a15:PySem.W.nsIn K mainGlobals "law" = some (some (.ref f15))) (l15:K.lookup f15=some ⟨oc15,od15,.func (PySem.W.fnOf "law" "law" (Zw Ur) (Qx Ur) (Qb Ur) .none kV15 dc15 pm15 an15 cd15 ct15),sl15⟩) (c15:PySem.W.codeIn K cd15 "law" = true) (k15:PySem.W.keepIn K (.ref f15)=true)
  (z_all:PySem.W.nsIn K mainGlobals "all" = some none)
  (z_isinstance:PySem.W.nsIn K mainGlobals "isinstance" = some none)
  (z_len:PySem.W.nsIn K mainGlobals "len" = some none)
  (z_range:PySem.W.nsIn K mainGlobals "range" = some none)
  (z_str:PySem.W.nsIn K mainGlobals "str" = some none)
  {tk_MOST_OPEN:Tok} (z_MOST_OPEN:PySem.W.nsIn K mainGlobals "MOST_OPEN" = some (some (.int 8 tk_MOST_OPEN)))
  {fw_Level:Addr} (zx_Level:atN K "Level" C_Level) (xhb_Level:clsB K C_Level=true) (xsa_Level:PySem.W.findIn K (.ref C_Level) "__setattr__" = some (some (.builtin "object.__setattr__"))) (xca_Level:PySem.W.findIn K (.ref C_Level) "__class__" = some (some (.builtin "object.__class__"))) (xmr_Level:PySem.W.mroIn K C_Level (.type "object")=some true) (xn0_Level:Q1 K C_Level "one") (xn1_Level:Q1 K C_Level "other")
  (xw_Level:PySem.W.findIn K (.ref C_Level) "written" = some (some (.ref fw_Level))) (xhw_Level:fnB K fw_Level=true) (lw_Level:LkQ K fw_Level "written" "Level.written" Y5)
  (zi_Level:PySem.W.findIn K (.ref C_Level) "__init__" = some (some (.builtin "object.__init__")))
  {fw_Upright:Addr} (zx_Upright:atN K "Upright" C_Upright) (xhb_Upright:clsB K C_Upright=true) (xsa_Upright:PySem.W.findIn K (.ref C_Upright) "__setattr__" = some (some (.builtin "object.__setattr__"))) (xca_Upright:PySem.W.findIn K (.ref C_Upright) "__class__" = some (some (.builtin "object.__class__"))) (xmr_Upright:PySem.W.mroIn K C_Upright (.type "object")=some true) (xn0_Upright:Q1 K C_Upright "one") (xn1_Upright:Q1 K C_Upright "other")
  (xw_Upright:PySem.W.findIn K (.ref C_Upright) "written" = some (some (.ref fw_Upright))) (xhw_Upright:fnB K fw_Upright=true) (lw_Upright:LkQ K fw_Upright "written" "Upright.written" Ya)
  (zi_Upright:PySem.W.findIn K (.ref C_Upright) "__init__" = some (some (.builtin "object.__init__")))
  {fw_Single:Addr} (zx_Single:atN K "Single" C_Single) (xhb_Single:clsB K C_Single=true) (xsa_Single:PySem.W.findIn K (.ref C_Single) "__setattr__" = some (some (.builtin "object.__setattr__"))) (xca_Single:PySem.W.findIn K (.ref C_Single) "__class__" = some (some (.builtin "object.__class__"))) (xmr_Single:PySem.W.mroIn K C_Single (.type "object")=some true) (xn0_Single:Q1 K C_Single "one") (xn1_Single:Q1 K C_Single "other")
  (xw_Single:PySem.W.findIn K (.ref C_Single) "written" = some (some (.ref fw_Single))) (xhw_Single:fnB K fw_Single=true) (lw_Single:LkQ K fw_Single "written" "Single.written" Ym)
  (zi_Single:PySem.W.findIn K (.ref C_Single) "__init__" = some (some (.builtin "object.__init__")))
  {C_Beside fw_Beside:Addr} (zx_Beside:atN K "Beside" C_Beside) (xhb_Beside:clsB K C_Beside=true) (xsa_Beside:PySem.W.findIn K (.ref C_Beside) "__setattr__" = some (some (.builtin "object.__setattr__"))) (xca_Beside:PySem.W.findIn K (.ref C_Beside) "__class__" = some (some (.builtin "object.__class__"))) (xmr_Beside:PySem.W.mroIn K C_Beside (.type "object")=some true) (xn0_Beside:Q1 K C_Beside "one") (xn1_Beside:Q1 K C_Beside "other")
  (xw_Beside:PySem.W.findIn K (.ref C_Beside) "written" = some (some (.ref fw_Beside))) (xhw_Beside:fnB K fw_Beside=true) (lw_Beside:LkQ K fw_Beside "written" "Beside.written" Yn)
  {fi_Beside:Addr} (xi_Beside:PySem.W.findIn K (.ref C_Beside) "__init__" = some (some (.ref fi_Beside))) (xhi_Beside:fnB K fi_Beside=true) (li_Beside:LkQ K fi_Beside "__init__" "Beside.__init__" Zr)
  {C_Above fw_Above:Addr} (zx_Above:atN K "Above" C_Above) (xhb_Above:clsB K C_Above=true) (xsa_Above:PySem.W.findIn K (.ref C_Above) "__setattr__" = some (some (.builtin "object.__setattr__"))) (xca_Above:PySem.W.findIn K (.ref C_Above) "__class__" = some (some (.builtin "object.__class__"))) (xmr_Above:PySem.W.mroIn K C_Above (.type "object")=some true) (xn0_Above:Q1 K C_Above "one") (xn1_Above:Q1 K C_Above "other")
  (xw_Above:PySem.W.findIn K (.ref C_Above) "written" = some (some (.ref fw_Above))) (xhw_Above:fnB K fw_Above=true) (lw_Above:LkQ K fw_Above "written" "Above.written" Y6)
  {fi_Above:Addr} (xi_Above:PySem.W.findIn K (.ref C_Above) "__init__" = some (some (.ref fi_Above))) (xhi_Above:fnB K fi_Above=true) (li_Above:LkQ K fi_Above "__init__" "Above.__init__" Z7)
  {C_Turned fw_Turned:Addr} (zx_Turned:atN K "Turned" C_Turned) (xhb_Turned:clsB K C_Turned=true) (xsa_Turned:PySem.W.findIn K (.ref C_Turned) "__setattr__" = some (some (.builtin "object.__setattr__"))) (xca_Turned:PySem.W.findIn K (.ref C_Turned) "__class__" = some (some (.builtin "object.__class__"))) (xmr_Turned:PySem.W.mroIn K C_Turned (.type "object")=some true) (xn0_Turned:Q1 K C_Turned "one") (xn1_Turned:Q1 K C_Turned "other")
  (xw_Turned:PySem.W.findIn K (.ref C_Turned) "written" = some (some (.ref fw_Turned))) (xhw_Turned:fnB K fw_Turned=true) (lw_Turned:LkQ K fw_Turned "written" "Turned.written" Yl)
  {fi_Turned:Addr} (xi_Turned:PySem.W.findIn K (.ref C_Turned) "__init__" = some (some (.ref fi_Turned))) (xhi_Turned:fnB K fi_Turned=true) (li_Turned:LkQ K fi_Turned "__init__" "Turned.__init__" Zq)
  {C_Mirrored fw_Mirrored:Addr} (zx_Mirrored:atN K "Mirrored" C_Mirrored) (xhb_Mirrored:clsB K C_Mirrored=true) (xsa_Mirrored:PySem.W.findIn K (.ref C_Mirrored) "__setattr__" = some (some (.builtin "object.__setattr__"))) (xca_Mirrored:PySem.W.findIn K (.ref C_Mirrored) "__class__" = some (some (.builtin "object.__class__"))) (xmr_Mirrored:PySem.W.mroIn K C_Mirrored (.type "object")=some true) (xn0_Mirrored:Q1 K C_Mirrored "one") (xn1_Mirrored:Q1 K C_Mirrored "other")
  (xw_Mirrored:PySem.W.findIn K (.ref C_Mirrored) "written" = some (some (.ref fw_Mirrored))) (xhw_Mirrored:fnB K fw_Mirrored=true) (lw_Mirrored:LkQ K fw_Mirrored "written" "Mirrored.written" Jw)
  {fi_Mirrored:Addr} (xi_Mirrored:PySem.W.findIn K (.ref C_Mirrored) "__init__" = some (some (.ref fi_Mirrored))) (xhi_Mirrored:fnB K fi_Mirrored=true) (li_Mirrored:LkQ K fi_Mirrored "__init__" "Mirrored.__init__" Yz)
  {C_Part:Addr} (zx_Part:atN K "Part" C_Part)
  (xht_Above:([(Str.ofString "Level",C_Level),(Str.ofString "Upright",C_Upright),(Str.ofString "Single",C_Single),(Str.ofString "Beside",C_Beside),(Str.ofString "Above",C_Above),(Str.ofString "Turned",C_Turned),(Str.ofString "Mirrored",C_Mirrored)].all λp=>PySem.W.kitOne K (.ref p.2) (.ref C_Above) == some (Zn p.1))=true) (xs_Above:PySem.W.kitOne K (.type "str") (.ref C_Above)=some false)
  (xht_Beside:([(Str.ofString "Level",C_Level),(Str.ofString "Upright",C_Upright),(Str.ofString "Single",C_Single),(Str.ofString "Beside",C_Beside),(Str.ofString "Above",C_Above),(Str.ofString "Turned",C_Turned),(Str.ofString "Mirrored",C_Mirrored)].all λp=>PySem.W.kitOne K (.ref p.2) (.ref C_Beside) == some (Y4 p.1))=true) (xs_Beside:PySem.W.kitOne K (.type "str") (.ref C_Beside)=some false)
  (xht_Level:([(Str.ofString "Level",C_Level),(Str.ofString "Upright",C_Upright),(Str.ofString "Single",C_Single),(Str.ofString "Beside",C_Beside),(Str.ofString "Above",C_Above),(Str.ofString "Turned",C_Turned),(Str.ofString "Mirrored",C_Mirrored)].all λp=>PySem.W.kitOne K (.ref p.2) (.ref C_Level) == some (Zm p.1))=true) (xs_Level:PySem.W.kitOne K (.type "str") (.ref C_Level)=some false)
  (xht_Mirrored:([(Str.ofString "Level",C_Level),(Str.ofString "Upright",C_Upright),(Str.ofString "Single",C_Single),(Str.ofString "Beside",C_Beside),(Str.ofString "Above",C_Above),(Str.ofString "Turned",C_Turned),(Str.ofString "Mirrored",C_Mirrored)].all λp=>PySem.W.kitOne K (.ref p.2) (.ref C_Mirrored) == some (J8 p.1))=true) (xs_Mirrored:PySem.W.kitOne K (.type "str") (.ref C_Mirrored)=some false)
  (xht_Part:([(Str.ofString "Level",C_Level),(Str.ofString "Upright",C_Upright),(Str.ofString "Single",C_Single),(Str.ofString "Beside",C_Beside),(Str.ofString "Above",C_Above),(Str.ofString "Turned",C_Turned),(Str.ofString "Mirrored",C_Mirrored)].all λp=>PySem.W.kitOne K (.ref p.2) (.ref C_Part) == some (Yv p.1))=true) (xs_Part:PySem.W.kitOne K (.type "str") (.ref C_Part)=some false)
  (xht_Single:([(Str.ofString "Level",C_Level),(Str.ofString "Upright",C_Upright),(Str.ofString "Single",C_Single),(Str.ofString "Beside",C_Beside),(Str.ofString "Above",C_Above),(Str.ofString "Turned",C_Turned),(Str.ofString "Mirrored",C_Mirrored)].all λp=>PySem.W.kitOne K (.ref p.2) (.ref C_Single) == some (Y3 p.1))=true) (xs_Single:PySem.W.kitOne K (.type "str") (.ref C_Single)=some false)
  (xht_Turned:([(Str.ofString "Level",C_Level),(Str.ofString "Upright",C_Upright),(Str.ofString "Single",C_Single),(Str.ofString "Beside",C_Beside),(Str.ofString "Above",C_Above),(Str.ofString "Turned",C_Turned),(Str.ofString "Mirrored",C_Mirrored)].all λp=>PySem.W.kitOne K (.ref p.2) (.ref C_Turned) == some (Y2 p.1))=true) (xs_Turned:PySem.W.kitOne K (.type "str") (.ref C_Turned)=some false)
  (xht_Upright:([(Str.ofString "Level",C_Level),(Str.ofString "Upright",C_Upright),(Str.ofString "Single",C_Single),(Str.ofString "Beside",C_Beside),(Str.ofString "Above",C_Above),(Str.ofString "Turned",C_Turned),(Str.ofString "Mirrored",C_Mirrored)].all λp=>PySem.W.kitOne K (.ref p.2) (.ref C_Upright) == some (Yk p.1))=true) (xs_Upright:PySem.W.kitOne K (.type "str") (.ref C_Upright)=some false)
  (xo1:PySem.W.specialIn K (.builtin "object.__class__") "__get__" = some (some (.builtin "getset_descriptor.__get__"))) (xo2:PySem.W.takesIn K (.builtin "object.__class__")=some true)
  : ∃fd:FuncData,(∀(s:Shared) (v:Value),BindsTo s fd ⟨[v],[]⟩ [("_law_script",v)])/\∀base:Heap,K.In base->base.Ns mainGlobals mg->FnOk l.prog w K mg base CX0 27 fa fd ["_law_script"] (spR K Qf5):=by
 have e:=hfa.symm.trans (PySem.W.mg_of X G a15)
 cases e
 have D_Level:ClsD K C_Level:=⟨xhb_Level,xsa_Level,xca_Level,xmr_Level⟩
 have K_Level:ClN K mg "Level" C_Level:=⟨PySem.W.mg_of X G zx_Level,zx_Level,D_Level⟩
 have D_Upright:ClsD K C_Upright:=⟨xhb_Upright,xsa_Upright,xca_Upright,xmr_Upright⟩
 have K_Upright:ClN K mg "Upright" C_Upright:=⟨PySem.W.mg_of X G zx_Upright,zx_Upright,D_Upright⟩
 have D_Single:ClsD K C_Single:=⟨xhb_Single,xsa_Single,xca_Single,xmr_Single⟩
 have K_Single:ClN K mg "Single" C_Single:=⟨PySem.W.mg_of X G zx_Single,zx_Single,D_Single⟩
 have D_Beside:ClsD K C_Beside:=⟨xhb_Beside,xsa_Beside,xca_Beside,xmr_Beside⟩
 have K_Beside:ClN K mg "Beside" C_Beside:=⟨PySem.W.mg_of X G zx_Beside,zx_Beside,D_Beside⟩
 have D_Above:ClsD K C_Above:=⟨xhb_Above,xsa_Above,xca_Above,xmr_Above⟩
 have K_Above:ClN K mg "Above" C_Above:=⟨PySem.W.mg_of X G zx_Above,zx_Above,D_Above⟩
 have D_Turned:ClsD K C_Turned:=⟨xhb_Turned,xsa_Turned,xca_Turned,xmr_Turned⟩
 have K_Turned:ClN K mg "Turned" C_Turned:=⟨PySem.W.mg_of X G zx_Turned,zx_Turned,D_Turned⟩
 have D_Mirrored:ClsD K C_Mirrored:=⟨xhb_Mirrored,xsa_Mirrored,xca_Mirrored,xmr_Mirrored⟩
 have K_Mirrored:ClN K mg "Mirrored" C_Mirrored:=⟨PySem.W.mg_of X G zx_Mirrored,zx_Mirrored,D_Mirrored⟩
 have hfl:∀(i:Nat) (x:Str) (C:Addr),isC x=true->atN K x C->(x,C)∈[(Str.ofString "Level",C_Level),(Str.ofString "Upright",C_Upright),(Str.ofString "Single",C_Single),(Str.ofString "Beside",C_Beside),(Str.ofString "Above",C_Above),(Str.ofString "Turned",C_Turned),(Str.ofString "Mirrored",C_Mirrored)]/\ClsD K C/\Q1 K C (fldS i):=λi x C h1 h2=>by
  rcases Qhj h1 with rfl | rfl | rfl | rfl | rfl | rfl | rfl
  ·obtain rfl:=Zx h2 zx_Level;exact ⟨by simp,D_Level,na2 xn0_Level xn1_Level i⟩
  ·obtain rfl:=Zx h2 zx_Upright;exact ⟨by simp,D_Upright,na2 xn0_Upright xn1_Upright i⟩
  ·obtain rfl:=Zx h2 zx_Single;exact ⟨by simp,D_Single,na2 xn0_Single xn1_Single i⟩
  ·obtain rfl:=Zx h2 zx_Beside;exact ⟨by simp,D_Beside,na2 xn0_Beside xn1_Beside i⟩
  ·obtain rfl:=Zx h2 zx_Above;exact ⟨by simp,D_Above,na2 xn0_Above xn1_Above i⟩
  ·obtain rfl:=Zx h2 zx_Turned;exact ⟨by simp,D_Turned,na2 xn0_Turned xn1_Turned i⟩
  ·obtain rfl:=Zx h2 zx_Mirrored;exact ⟨by simp,D_Mirrored,na2 xn0_Mirrored xn1_Mirrored i⟩
 have B:Bn K mg:=⟨PySem.W.mg_none_of X G z_all,PySem.W.mg_none_of X G z_isinstance,PySem.W.mg_none_of X G z_len,PySem.W.mg_none_of X G z_range,PySem.W.mg_none_of X G z_str,⟨tk_MOST_OPEN,PySem.W.mg_of X G z_MOST_OPEN⟩,⟨xo1,xo2⟩,λi x C h1 h2=>(hfl i x C h1 h2).2,⟨C_Above,PySem.W.mg_of X G zx_Above,λx C h1 h2=>⟨(hfl 0 x C h1 h2).2.1,eq_of_beq (List.all_eq_true.mp xht_Above _ (hfl 0 x C h1 h2).1)⟩,xs_Above⟩,⟨C_Beside,PySem.W.mg_of X G zx_Beside,λx C h1 h2=>⟨(hfl 0 x C h1 h2).2.1,eq_of_beq (List.all_eq_true.mp xht_Beside _ (hfl 0 x C h1 h2).1)⟩,xs_Beside⟩,⟨C_Level,PySem.W.mg_of X G zx_Level,λx C h1 h2=>⟨(hfl 0 x C h1 h2).2.1,eq_of_beq (List.all_eq_true.mp xht_Level _ (hfl 0 x C h1 h2).1)⟩,xs_Level⟩,⟨C_Mirrored,PySem.W.mg_of X G zx_Mirrored,λx C h1 h2=>⟨(hfl 0 x C h1 h2).2.1,eq_of_beq (List.all_eq_true.mp xht_Mirrored _ (hfl 0 x C h1 h2).1)⟩,xs_Mirrored⟩,⟨C_Part,PySem.W.mg_of X G zx_Part,λx C h1 h2=>⟨(hfl 0 x C h1 h2).2.1,eq_of_beq (List.all_eq_true.mp xht_Part _ (hfl 0 x C h1 h2).1)⟩,xs_Part⟩,⟨C_Single,PySem.W.mg_of X G zx_Single,λx C h1 h2=>⟨(hfl 0 x C h1 h2).2.1,eq_of_beq (List.all_eq_true.mp xht_Single _ (hfl 0 x C h1 h2).1)⟩,xs_Single⟩,⟨C_Turned,PySem.W.mg_of X G zx_Turned,λx C h1 h2=>⟨(hfl 0 x C h1 h2).2.1,eq_of_beq (List.all_eq_true.mp xht_Turned _ (hfl 0 x C h1 h2).1)⟩,xs_Turned⟩,⟨C_Upright,PySem.W.mg_of X G zx_Upright,λx C h1 h2=>⟨(hfl 0 x C h1 h2).2.1,eq_of_beq (List.all_eq_true.mp xht_Upright _ (hfl 0 x C h1 h2).1)⟩,xs_Upright⟩⟩
 obtain ⟨_,F1⟩:=l1.fn k1
 obtain ⟨_,F2⟩:=l2.fn k2
 obtain ⟨_,F3⟩:=l3.fn k3
 obtain ⟨_,F4⟩:=l4.fn k4
 obtain ⟨_,F5⟩:=l5.fn k5
 obtain ⟨_,F6⟩:=l6.fn k6
 obtain ⟨_,F7⟩:=l7.fn k7
 obtain ⟨_,F8⟩:=l8.fn k8
 obtain ⟨_,F9⟩:=l9.fn k9
 obtain ⟨_,F10⟩:=l10.fn k10
 obtain ⟨_,F11⟩:=l11.fn k11
 obtain ⟨_,F12⟩:=l12.fn k12
 obtain ⟨_,F13⟩:=l13.fn k13
 obtain ⟨_,F14⟩:=l14.fn k14
 have F15:=Qf6 (st:=Ur) l15 c15 k15
 refine ⟨PySem.W.fnOf "law" "law" (Zw Ur) (Qx Ur) (Qb Ur) .none kV15 dc15 pm15 an15 cd15 ct15,λs v=>.of_eq rfl,λbase _ _=>?_⟩
 obtain ⟨_,FW_Level⟩:=lw_Level.fn (Qw xhw_Level).2
 have H_Level:HW K "Level" "Level.written" Y5:=⟨⟨C_Level,fw_Level,_,zx_Level,D_Level,⟨xw_Level,(Qw xhw_Level).1,(Qw xhw_Level).2⟩,FW_Level,FW_Level.binds λ_ _ _ _ _ _ us hl=>by obtain ⟨_,rfl⟩:=len1 hl;rfl⟩⟩
 obtain ⟨_,FW_Upright⟩:=lw_Upright.fn (Qw xhw_Upright).2
 have H_Upright:HW K "Upright" "Upright.written" Ya:=⟨⟨C_Upright,fw_Upright,_,zx_Upright,D_Upright,⟨xw_Upright,(Qw xhw_Upright).1,(Qw xhw_Upright).2⟩,FW_Upright,FW_Upright.binds λ_ _ _ _ _ _ us hl=>by obtain ⟨_,rfl⟩:=len1 hl;rfl⟩⟩
 obtain ⟨_,FW_Single⟩:=lw_Single.fn (Qw xhw_Single).2
 have H_Single:HW K "Single" "Single.written" Ym:=⟨⟨C_Single,fw_Single,_,zx_Single,D_Single,⟨xw_Single,(Qw xhw_Single).1,(Qw xhw_Single).2⟩,FW_Single,FW_Single.binds λ_ _ _ _ _ _ us hl=>by obtain ⟨_,rfl⟩:=len1 hl;rfl⟩⟩
 obtain ⟨_,FW_Beside⟩:=lw_Beside.fn (Qw xhw_Beside).2
 have H_Beside:HW K "Beside" "Beside.written" Yn:=⟨⟨C_Beside,fw_Beside,_,zx_Beside,D_Beside,⟨xw_Beside,(Qw xhw_Beside).1,(Qw xhw_Beside).2⟩,FW_Beside,FW_Beside.binds λ_ _ _ _ _ _ us hl=>by obtain ⟨_,rfl⟩:=len1 hl;rfl⟩⟩
 obtain ⟨_,FI_Beside⟩:=li_Beside.fn (Qw xhi_Beside).2
 have I_Beside:IniN l.prog w K mg base "Beside" 2 1:=⟨C_Beside,fi_Beside,_,K_Beside,⟨D_Beside.all.2.2.2.1,xi_Beside,(Qw xhi_Beside).1,D_Beside.all.2.2.2.2⟩,X1 FI_Beside D_Beside.cls (na2 xn0_Beside xn1_Beside),FI_Beside.binds λ_ _ _ _ _ _ us hl=>by obtain ⟨_,_,_,rfl⟩:=len3 hl;rfl⟩
 obtain ⟨_,FW_Above⟩:=lw_Above.fn (Qw xhw_Above).2
 have H_Above:HW K "Above" "Above.written" Y6:=⟨⟨C_Above,fw_Above,_,zx_Above,D_Above,⟨xw_Above,(Qw xhw_Above).1,(Qw xhw_Above).2⟩,FW_Above,FW_Above.binds λ_ _ _ _ _ _ us hl=>by obtain ⟨_,rfl⟩:=len1 hl;rfl⟩⟩
 obtain ⟨_,FI_Above⟩:=li_Above.fn (Qw xhi_Above).2
 have I_Above:IniN l.prog w K mg base "Above" 2 1:=⟨C_Above,fi_Above,_,K_Above,⟨D_Above.all.2.2.2.1,xi_Above,(Qw xhi_Above).1,D_Above.all.2.2.2.2⟩,Qaz FI_Above D_Above.cls (na2 xn0_Above xn1_Above),FI_Above.binds λ_ _ _ _ _ _ us hl=>by obtain ⟨_,_,_,rfl⟩:=len3 hl;rfl⟩
 obtain ⟨_,FW_Turned⟩:=lw_Turned.fn (Qw xhw_Turned).2
 have H_Turned:HW K "Turned" "Turned.written" Yl:=⟨⟨C_Turned,fw_Turned,_,zx_Turned,D_Turned,⟨xw_Turned,(Qw xhw_Turned).1,(Qw xhw_Turned).2⟩,FW_Turned,FW_Turned.binds λ_ _ _ _ _ _ us hl=>by obtain ⟨_,rfl⟩:=len1 hl;rfl⟩⟩
 obtain ⟨_,FI_Turned⟩:=li_Turned.fn (Qw xhi_Turned).2
 have I_Turned:IniN l.prog w K mg base "Turned" 1 1:=⟨C_Turned,fi_Turned,_,K_Turned,⟨D_Turned.all.2.2.2.1,xi_Turned,(Qw xhi_Turned).1,D_Turned.all.2.2.2.2⟩,X0 FI_Turned D_Turned.cls (na2 xn0_Turned xn1_Turned),FI_Turned.binds λ_ _ _ _ _ _ us hl=>by obtain ⟨_,_,rfl⟩:=len2 hl;rfl⟩
 obtain ⟨_,FW_Mirrored⟩:=lw_Mirrored.fn (Qw xhw_Mirrored).2
 have H_Mirrored:HW K "Mirrored" "Mirrored.written" Jw:=⟨⟨C_Mirrored,fw_Mirrored,_,zx_Mirrored,D_Mirrored,⟨xw_Mirrored,(Qw xhw_Mirrored).1,(Qw xhw_Mirrored).2⟩,FW_Mirrored,FW_Mirrored.binds λ_ _ _ _ _ _ us hl=>by obtain ⟨_,rfl⟩:=len1 hl;rfl⟩⟩
 obtain ⟨_,FI_Mirrored⟩:=li_Mirrored.fn (Qw xhi_Mirrored).2
 have I_Mirrored:IniN l.prog w K mg base "Mirrored" 1 1:=⟨C_Mirrored,fi_Mirrored,_,K_Mirrored,⟨D_Mirrored.all.2.2.2.1,xi_Mirrored,(Qw xhi_Mirrored).1,D_Mirrored.all.2.2.2.2⟩,Gp FI_Mirrored D_Mirrored.cls (na2 xn0_Mirrored xn1_Mirrored),FI_Mirrored.binds λ_ _ _ _ _ _ us hl=>by obtain ⟨_,_,rfl⟩:=len2 hl;rfl⟩
 have Wr:WrN l.prog w K mg base:=wrN B H_Level H_Upright H_Single H_Beside H_Above H_Turned H_Mirrored
 have C_part_or_word:Cal l.prog w K mg base "part_or_word" 1 ["word"] (spR K Jq):=⟨f1,_,Go F1 B K_Level zi_Level K_Single zi_Single K_Upright zi_Upright,PySem.W.mg_of X G a1,k1,F1.binds λ_ _ _ _ _ _ us hl=>by obtain ⟨_,rfl⟩:=len1 hl;rfl⟩
 have C_are_parts:Cal l.prog w K mg base "are_parts" 1 ["things"] (spR K Ja):=⟨f2,_,Qa0 F2 B,PySem.W.mg_of X G a2,k2,F2.binds λ_ _ _ _ _ _ us hl=>by obtain ⟨_,rfl⟩:=len1 hl;rfl⟩
 have C_made_of_one:Cal l.prog w K mg base "made_of_one" 3 ["word","one"] (spR K Jz):=⟨f3,_,G6 F3 B I_Mirrored I_Turned,PySem.W.mg_of X G a3,k3,F3.binds λ_ _ _ _ _ _ us hl=>by obtain ⟨_,_,rfl⟩:=len2 hl;rfl⟩
 have C_made_of_two:Cal l.prog w K mg base "made_of_two" 3 ["one","word","other"] (spR K Jy):=⟨f4,_,G5 F4 B I_Above I_Beside,PySem.W.mg_of X G a4,k4,F4.binds λ_ _ _ _ _ _ us hl=>by obtain ⟨_,_,_,rfl⟩:=len3 hl;rfl⟩
 have C_made:Cal l.prog w K mg base "made" 4 ["row"] (spR K Qbe):=⟨f5,_,Qks F5 B C_are_parts C_made_of_one C_made_of_two,PySem.W.mg_of X G a5,k5,F5.binds λ_ _ _ _ _ _ us hl=>by obtain ⟨_,rfl⟩:=len1 hl;rfl⟩
 have C_bracket_words:Cal l.prog w K mg base "bracket_words" 2 ["text"] (spR K Jj):=⟨f6,_,Us F6 B,PySem.W.mg_of X G a6,k6,F6.binds λ_ _ _ _ _ _ us hl=>by obtain ⟨_,rfl⟩:=len1 hl;rfl⟩
 have C_check_brackets:Cal l.prog w K mg base "check_brackets" 1 ["words"] (spR K Jd):=⟨f7,_,V8 F7 B,PySem.W.mg_of X G a7,k7,F7.binds λ_ _ _ _ _ _ us hl=>by obtain ⟨_,rfl⟩:=len1 hl;rfl⟩
 have C_read_part:Cal l.prog w K mg base "read_part" 5 ["text"] (spR K J6):=⟨f8,_,Qay F8 B C_part_or_word C_are_parts C_made C_bracket_words C_check_brackets,PySem.W.mg_of X G a8,k8,F8.binds λ_ _ _ _ _ _ us hl=>by obtain ⟨_,rfl⟩:=len1 hl;rfl⟩
 have C__law_take:Cal l.prog w K mg base "_law_take" 1 ["_law_row","_law_base"] (spI K 0 Qq):=⟨f9,_,Qa3 F9 B,PySem.W.mg_of X G a9,k9,F9.binds λ_ _ _ _ _ _ us hl=>by obtain ⟨_,_,rfl⟩:=len2 hl;rfl⟩
 have C__law_tree:Cal l.prog w K mg base "_law_tree" 14 ["_law_row","_law_deep"] (spI K 0 Yg):=⟨f10,_,Qa1 F10 B C__law_take (PySem.W.mg_of X G a10) (F10.binds λ_ _ _ _ _ _ us hl=>by obtain ⟨_,_,rfl⟩:=len2 hl;rfl),PySem.W.mg_of X G a10,k10,F10.binds λ_ _ _ _ _ _ us hl=>by obtain ⟨_,_,rfl⟩:=len2 hl;rfl⟩
 have C__law_part:Cal l.prog w K mg base "_law_part" 14 ["_law_tree_here"] (spR K Yh):=⟨f11,_,Qa4 F11 B I_Above I_Beside K_Level zi_Level I_Mirrored K_Single zi_Single I_Turned K_Upright zi_Upright (PySem.W.mg_of X G a11) (F11.binds λ_ _ _ _ _ _ us hl=>by obtain ⟨_,rfl⟩:=len1 hl;rfl),PySem.W.mg_of X G a11,k11,F11.binds λ_ _ _ _ _ _ us hl=>by obtain ⟨_,rfl⟩:=len1 hl;rfl⟩
 have C__law_text:Cal l.prog w K mg base "_law_text" 14 ["_law_tree_here"] (spR K Jf):=⟨f12,_,Qa2 F12 B (PySem.W.mg_of X G a12) (F12.binds λ_ _ _ _ _ _ us hl=>by obtain ⟨_,rfl⟩:=len1 hl;rfl),PySem.W.mg_of X G a12,k12,F12.binds λ_ _ _ _ _ _ us hl=>by obtain ⟨_,rfl⟩:=len1 hl;rfl⟩
 have C__law_kind:Cal l.prog w K mg base "_law_kind" 1 ["_law_found"] (spR K Yi):=⟨f13,_,Qa5 F13 B,PySem.W.mg_of X G a13,k13,F13.binds λ_ _ _ _ _ _ us hl=>by obtain ⟨_,rfl⟩:=len1 hl;rfl⟩
 have C__law_is:Cal l.prog w K mg base "_law_is" 26 ["_law_found","_law_tree_here"] (spR K Yy):=⟨f14,_,Qdl F14 B C__law_text C__law_kind Wr (PySem.W.mg_of X G a14) (F14.binds λ_ _ _ _ _ _ us hl=>by obtain ⟨_,_,rfl⟩:=len2 hl;rfl),PySem.W.mg_of X G a14,k14,F14.binds λ_ _ _ _ _ _ us hl=>by obtain ⟨_,_,rfl⟩:=len2 hl;rfl⟩
 exact Qnp F15 B C_read_part C__law_take C__law_tree C__law_part C__law_text C__law_is
theorem Qnu {a:Addr} (hl:ns.length<=63) (ho:Only H) (hS:SqL K H a (ns.map V.int)):spR K Qf5 [.ref a] H (λv _=>v=.bl true) λ_ _ _=>False:=by
 have fz:FzL K H a (ns.map V.int):=by
  rcases hS with (h | h) | h
  ·rcases ho a with z | ⟨o,xs,z⟩
   ·rw [z] at h;cases h
   ·rw [z] at h;cases h
  ·exact .inl h
  ·exact .inr h
 refine ⟨[.kls (ns.map .int)],[],λd=>d=.bl true,?_,⟨ns,rfl,hl,rfl⟩,λv H' d F' fi hd=>?_⟩
 ·exact .cons (F:=[]) (G:=[]) (.kls fz (Reps.ints ns)) .nil
 ·subst hd
  exact Qed fi.rep
theorem walk {d:DefRec} {K:Params->PySem.W.Frag} (hn:l.most=some 63) (hdf:d.params.defaults=[])
  (hY:∀(w:World) (h:Heap),YP w h->(K w.params).In h)
  (F:∀(w:World) (mg:Str->Option Value) (fa:Addr) (h:Heap),(K w.params).In h->h.Ns mainGlobals mg->mg d.name=some (.ref fa) ->
   ∃fd:FuncData,(∀(s:Shared) (u:Value),BindsTo s fd ⟨[u],[]⟩ [("_law_script",u)])/\∀base:Heap,(K w.params).In base->base.Ns mainGlobals mg->FnOk l.prog w (K w.params) mg base CX0 27 fa fd ["_law_script"] (spR (K w.params) Qf5)) :
  PySem.W.WalkO q loose XP YP l.row.toRowW d [] (λf vs=>PySem.call f vs) :=
 L2.Qju (n:=63) (k:=27) (x:="_law_script") (CX:=λ_=>CX0) (sp:=λw=>spR (K w.params) Qf5) hn (by decide) hdf ⟨rfl,by decide,by decide⟩ hY F (λ_ _ a ns hl ho hS=>Qnu hl ho hS) λ_ _ _ _ _ z=>z
end K58
open PySem PySem.W PyProof.Rows
def PySem.W.Fast.tw4083240098164438129:=0
def PySem.W.Fast.tw213794294408362337:=0
def PySem.W.Fast.tw503740748468464906:=0
def PySem.W.Fast.tw17935643462973737021:=0
def PySem.W.Fast.tw11582740335136351178:=0
def PySem.W.Fast.tw12855418023444424723:=0
def PySem.W.Fast.tw5895584055331085869:=0
def PySem.W.Fast.tw9178532979872892414:=0
def PySem.W.Fast.tw8938564626949186700:=0
def PySem.W.Fast.tw3616421451979173099:=0
def PySem.W.Fast.tw1302554120832479648:=0
def PySem.W.Fast.tw6178942415144622733:=0
def PySem.W.Fast.tw3850313783731405372:=0
def PySem.W.Fast.tw16000335732364294696:=0
def PySem.W.Fast.tw10406996932739735823:=0
def PySem.W.Fast.tw13174647066455798980:=0
def PySem.W.Fast.tw7446802161278386772:=0
def PySem.W.Fast.tw10354367837660509978:=0
def PySem.W.Fast.tw11183596515353078509:=0
def PySem.W.Fast.tw6437953854178520470:=0
def PySem.W.Fast.tw11818744839818213392:=0
def PySem.W.Fast.tw7114746917642662956:=0
def PySem.W.Fast.tw2230235978503212546:=0
def PySem.W.Fast.tw10999151396627134052:=0
def PySem.W.Fast.tw8221986955229299491:=0
def PySem.W.Fast.tw6781695260282663143:=0
def PySem.W.Fast.tw2211412047767688129:=0
def PySem.W.Fast.tw1453241187972955223:=0
def PySem.W.Fast.tw13286712963678625688:=0
def PySem.W.Fast.tw12683393600605822382:=0
def PySem.W.Fast.tw3503080157899876702:=0
def PySem.W.Fast.tw2236056954146356795:=0
def PySem.W.Fast.tw1025596671966377904:=0
def PySem.W.Fast.tw14102786164573655854:=0
def PySem.W.Fast.tw14093828945461463260:=0
def PySem.W.Fast.tw1707219365853216913:=0
def PySem.W.Fast.tw4785633321956002114:=0
def PySem.W.Fast.tw2866346611169672807:=0
def PySem.W.Fast.tw7717028929877282398:=0
def PySem.W.Fast.tw9811727331155033986:=0
def PySem.W.Fast.tw6917616037410300528:=0
def PySem.W.Fast.tw18242437483305783610:=0
def PySem.W.Fast.tw9570407431122863297:=0
def PySem.W.Fast.tw3184822634072964359:=0
def PySem.W.Fast.tw2159478817869832764:=0
def PySem.W.Fast.tw5440952960009559987:=0
def PySem.W.Fast.tw13136102450908881327:=0
def PySem.W.Fast.tw6977063546959885468:=0
def PySem.W.Fast.tw4366268545034127748:=0
def PySem.W.Fast.tw3238739654461542185:=0
def PySem.W.Fast.tw9322850623512723458:=0
def PySem.W.Fast.tw2891425236176322494:=0
def PySem.W.Fast.tw10122113673153884685:=0
def PySem.W.Fast.tw13289402627379735900:=0
def PySem.W.Fast.tw9106390853332820001:=0
def PySem.W.Fast.tw3381771245042790388:=0
def PySem.W.Fast.tw10508416649223359852:=0
def PySem.W.Fast.tw6532323217121215118:=0
def PySem.W.Fast.tw10259814519534798444:=0
def PySem.W.Fast.tw17311458080864195868:=0
def PySem.W.Fast.tw4439870198832518523:=0
def PySem.W.Fast.tw1485450994920410180:=0
def PySem.W.Fast.tw12638676196066497813:=0
def PySem.W.Fast.tw891617639216587779:=0
def PySem.W.Fast.tw11835165787903243427:=0
def PySem.W.Fast.tw17751549938248577942:=0
def PySem.W.Fast.tw5312550718021557340:=0
def PySem.W.Fast.tw17382874648797300955:=0
def PySem.W.Fast.tw15612798109645964947:=0
def PySem.W.Fast.tw13430968844115889577:=0
def PySem.W.Fast.tw244015355661739232:=0
def PySem.W.Fast.tw5162436019674324188:=0
def PySem.W.Fast.tw12406122690799114789:=0
def PySem.W.Fast.tw6769547014823270218:=0
def PySem.W.Fast.tw6783309280175771960:=0
def PySem.W.Fast.tw15199041160418366831:=0
def PySem.W.Fast.tw7153743198792270902:=0
def PySem.W.Fast.tw5734018908088093476:=0
def PySem.W.Fast.tw184870963815339371:=0
def PySem.W.Fast.tw10989836372725814791:=0
def PySem.W.Fast.tw155239585931449073:=0
def PySem.W.Fast.tw5021338222860333558:=0
def PySem.W.Fast.tw17312839083459326115:=0
def PySem.W.Fast.tw570331407413132896:=0
def PySem.W.Fast.tw13772989705889047162:=0
def PySem.W.Fast.tw13976074038087965492:=0
def PySem.W.Fast.tw17520609618000920033:=0
def PySem.W.Fast.tw10593566495851469233:=0
def PySem.W.Fast.tw13549636395809679711:=0
def PySem.W.Fast.tw3048184959338517624:=0
def PySem.W.Fast.tw11250999384727618209:=0
def PySem.W.Fast.tw2990216162169804797:=0
def PySem.W.Fast.tw6875812096000687510:=0
def PySem.W.Fast.tw10665290260832825165:=0
def PySem.W.Fast.tw5340761226398734524:=0
def PySem.W.Fast.tw17088172193810069869:=0
def PySem.W.Fast.tw3514039928242778873:=0
def PySem.W.Fast.tw11552016040018875325:=0
def PySem.W.Fast.tw17067273402368984654:=0
def PySem.W.Fast.tw2749988094167972959:=0
def PySem.W.Fast.tw5000082026434593602:=0
def PySem.W.Fast.tw1294236649421627624:=0
def PySem.W.Fast.tw9604781044542898266:=0
def PySem.W.Fast.tw5221434597581900683:=0
def PySem.W.Fast.tw11719327092184053020:=0
def PySem.W.Fast.tw8915172595362196025:=0
def PySem.W.Fast.tw7884552202527718962:=0
def PySem.W.Fast.tw7200912057382501159:=0
def PySem.W.Fast.tw17766134144587460698:=0
def PySem.W.Fast.tw9574874851799861889:=0
def PySem.W.Fast.tw5808146181859873499:=0
def PySem.W.Fast.tw10023807267534695589:=0
def PySem.W.Fast.tw3294691708468621287:=0
def PySem.W.Fast.tw10880044826487385343:=0
def PySem.W.Fast.tw14971377859391844137:=0
def PySem.W.Fast.tw12322149187173188190:=0
def PySem.W.Fast.tw16140012278424842895:=0
def PySem.W.Fast.tw15281284730420296843:=0
def PySem.W.Fast.tw3391831379832344840:=0
def PySem.W.Fast.tw6262778705442336372:=0
def PySem.W.Fast.tw7886970952001025902:=0
def PySem.W.Fast.tw6957152712935617203:=0
def PySem.W.Fast.tw10994432145140886509:=0
def PySem.W.Fast.tw12806392633872079492:=0
def PySem.W.Fast.tw1927186226367625443:=0
def PySem.W.Fast.tw4842882350167247124:=0
def PySem.W.Fast.tw10230544384485692729:=0
def PySem.W.Fast.tw1453739884855186475:=0
def PySem.W.Fast.tw6648274787410791074:=0
def PySem.W.Fast.tw15907783003647149098:=0
def PySem.W.Fast.tw3335449172349853836:=0
def PySem.W.Fast.tw10256313446020227189:=0
def PySem.W.Fast.tw1014241358704048033:=0
def PySem.W.Fast.tw7479649640928145425:=0
def PySem.W.Fast.tw14663654287696805096:=0
def PySem.W.Fast.tw11276238389803479825:=0
def PySem.W.Fast.tw6975139583148677437:=0
def PySem.W.Fast.tw16757689392773725605:=0
def PySem.W.Fast.tw12093030974854393606:=0
def PySem.W.Fast.tw3505032935585720529:=0
def PySem.W.Fast.tw10631349806771225800:=0
def PySem.W.Fast.tw9920290644525490989:=0
def PySem.W.Fast.tw1623726522441704642:=0
def PySem.W.Fast.tw12259832959176082002:=0
def PySem.W.Fast.tw5829871815663338536:=0
def PySem.W.Fast.tw2271292803538029671:=0
def PySem.W.Fast.tw14922447041655732633:=0
def PySem.W.Fast.tw10548303867457710737:=0
def PySem.W.Fast.tw13779492419618189075:=0
def PySem.W.Fast.tw1392787269804831631:=0
def PySem.W.Fast.tw6136085491051371677:=0
def PySem.W.Fast.tw16911788769827740229:=0
def PySem.W.Fast.tw8494338047056879134:=0
def PySem.W.Fast.tw4070806916750217438:=0
def PySem.W.Fast.tw13273083716814299720:=0
def PySem.W.Fast.tw15368014469759902917:=0
def PySem.W.Fast.tw13918931130699805415:=0
def PySem.W.Fast.tw17402909977523910080:=0
def PySem.W.Fast.tw12352468817495534076:=0
def PySem.W.Fast.tw1723741243530226876:=0
def PySem.W.Fast.tw9680566176125449245:=0
def PySem.W.Fast.tw12751611907416194725:=0
def PySem.W.Fast.tw16638946584958002613:=0
def PySem.W.Fast.tw9600416924023217019:=0
def PySem.W.Fast.tw9412228510552934188:=0
def PySem.W.Fast.tw15299323661244950997:=0
def PySem.W.Fast.tw1694205176181176557:=0
def PySem.W.Fast.tw16834428882505785988:=0
def PySem.W.Fast.tw2136069440938023292:=0
def PySem.W.Fast.tw16871916078920787767:=0
def PySem.W.Fast.tw4663602194515620576:=0
def PySem.W.Fast.tw13637421634048963101:=0
def PySem.W.Fast.tw13455722945446078138:=0
def PySem.W.Fast.tw1714809354632402310:=0
def PySem.W.Fast.tw9657581707873655211:=0
def PySem.W.Fast.tw10859139427121085337:=0
def PySem.W.Fast.tw6733201449172009295:=0
def PySem.W.Fast.tw12096725934334737635:=0
def PySem.W.Fast.tw4852112404117265793:=0
def PySem.W.Fast.tw18006536214935421276:=0
def PySem.W.Fast.tw14862264146665165030:=0
def PySem.W.Fast.tw10064863638474686680:=0
def PySem.W.Fast.tw15781174343739892909:=0
def PySem.W.Fast.tw2341944874766440730:=0
def PySem.W.Fast.tw9942051354528235324:=0
def PySem.W.Fast.tw13217064925942162644:=0
def PySem.W.Fast.tw4980022800401199663:=0
def PySem.W.Fast.tw9270308903029906602:=0
def PySem.W.Fast.tw12356376286877800433:=0
def PySem.W.Fast.tw7229703671000451272:=0
def PySem.W.Fast.tw6587514073314276558:=0
def PySem.W.Fast.tw1681165768430245780:=0
def PySem.W.Fast.tw3027082930334055050:=0
def PySem.W.Fast.tw7835871433322802271:=0
def PySem.W.Fast.tw4166392095324515837:=0
def PySem.W.Fast.tw3103683885214583873:=0
def PySem.W.Fast.tw3876468821454937564:=0
def PySem.W.Fast.tw16179663498312209899:=0
def PySem.W.Fast.tw10457537593632325850:=0
def PySem.W.Fast.tw8328277052914802669:=0
def PySem.W.Fast.tw4219158625085917489:=0
def PySem.W.Fast.tw6888875799301535112:=0
def PySem.W.Fast.tw7845652928617736199:=0
def PySem.W.Fast.tw16594065730546480980:=0
def PySem.W.Fast.tw12859103547798640900:=0
def PySem.W.Fast.tw12339314320374749601:=0
def PySem.W.Fast.tw17995223177909924144:=0
def PySem.W.Fast.tw1995475811561610363:=0
def PySem.W.Fast.tw11928821448494040619:=0
def PySem.W.Fast.tw16527955073778138433:=0
def PySem.W.Fast.tw16409373630640161994:=0
def PySem.W.Fast.tw14438780507779056898:=0
def PySem.W.Fast.tw4976898868169089662:=0
def PySem.W.Fast.tw51557054858327128:=0
def PySem.W.Fast.tw10570700033500822309:=0
def PySem.W.Fast.tw3125271010513059851:=0
def PySem.W.Fast.tw8838596844753040353:=0
def PySem.W.Fast.tw14053005520108167738:=0
def PySem.W.Fast.tw11379723580930201799:=0
def PySem.W.Fast.tw1979632547505748854:=0
def PySem.W.Fast.tw11181591857273863796:=0
def PySem.W.Fast.tw9931877714620843459:=0
def PySem.W.Fast.tw14731329119410547278:=0
def PySem.W.Fast.tw3006969485259824050:=0
def PySem.W.Fast.tw613631810420441964:=0
def PySem.W.Fast.tw4364763207231503649:=0
def PySem.W.Fast.tw13876570534750919895:=0
def PySem.W.Fast.tw7432443072630436999:=0
def PySem.W.Fast.tw9348330321997491843:=0
def PySem.W.Fast.tw3766693969081948946:=0
def PySem.W.Fast.tw10215566511046246589:=0
def PySem.W.Fast.tw18312909126858387412:=0
def PySem.W.Fast.tw2470873324145865097:=0
def PySem.W.Fast.tw6725275495583712552:=0
def PySem.W.Fast.tw13666202135225105858:=0
def PySem.W.Fast.tw5505123864721623333:=0
def PySem.W.Fast.tw6765383375901553698:=0
def PySem.W.Fast.tw10259530969634893882:=0
def PySem.W.Fast.tw3986988609254496605:=0
def PySem.W.Fast.tw12824922236521011452:=0
def PySem.W.Fast.tw12302828149842743571:=0
def PySem.W.Fast.tw17857051214523803208:=0
def PySem.W.Fast.tw5210952402282142523:=0
def PySem.W.Fast.tw17642282734500704191:=0
def PySem.W.Fast.tw455677069462510148:=0
def PySem.W.Fast.tw7040999815424119874:=0
def PySem.W.Fast.tw12583449291973538769:=0
def PySem.W.Fast.tw11378573436169195187:=0
def PySem.W.Fast.tw13563692995618641188:=0
def PySem.W.Fast.tw1465888640000415669:=0
def PySem.W.Fast.tw12314548934996303567:=0
def PySem.W.Fast.tw15305870677486779540:=0
def PySem.W.Fast.tw2968253610076168372:=0
def PySem.W.Fast.tw2430354521212568902:=0
def PySem.W.Fast.tw9059916291868322293:=0
def PySem.W.Fast.tw3119574297249765539:=0
def PySem.W.Fast.tw4833477737506162994:=0
def PySem.W.Fast.tw12528714733292183906:=0
def PySem.W.Fast.tw16023839891251541497:=0
def PySem.W.Fast.tw2551674642810888667:=0
def PySem.W.Fast.tw1021092280311031863:=0
def PySem.W.Fast.tw6782332806966954841:=0
def PySem.W.Fast.tw17485567456480499619:=0
def PySem.W.Fast.tw15004105326393736839:=0
def PySem.W.Fast.tw8814803627732390014:=0
def PySem.W.Fast.tw5751771357836294745:=0
def PySem.W.Fast.tw15379469604490718600:=0
def PySem.W.Fast.tw1832845143982248588:=0
def PySem.W.Fast.tw17251472586395716205:=0
def PySem.W.Fast.tw4778550985680884757:=0
def PySem.W.Fast.tw18000481166884560071:=0
def PySem.W.Fast.tw10578058283254339763:=0
def PySem.W.Fast.tw11633491770260014965:=0
def PySem.W.Fast.tw5911406180595053034:=0
def PySem.W.Fast.tw6300861712242778266:=0
def PySem.W.Fast.tw5249167654624894116:=0
def PySem.W.Fast.tw6765749630159420069:=0
def PySem.W.Fast.tw12207465082732254066:=0
def PySem.W.Fast.tw9019136787231892494:=0
def PySem.W.Fast.tw510817466481703001:=0
def PySem.W.Fast.tw5705693497975850429:=0
def PySem.W.Fast.tw13725570127187020747:=0
def PySem.W.Fast.tw407147471184347609:=0
def PySem.W.Fast.tw434096117380321115:=0
def PySem.W.Fast.tw4369551214792287108:=0
def PySem.W.Fast.tw17267273628106412117:=0
def PySem.W.Fast.tw13868423093412070423:=0
def PySem.W.Fast.tw9157115875899466515:=0
def PySem.W.Fast.tw17806945125772563038:=0
def PySem.W.Fast.tw8244912392089850545:=0
def PySem.W.Fast.tw17698164018943656704:=0
def PySem.W.Fast.tw8404951440235546015:=0
def PySem.W.Fast.tw8115248251894989969:=0
def PySem.W.Fast.tw277889476080147030:=0
def PySem.W.Fast.tw17379763512426555174:=0
def PySem.W.Fast.tw4314377521986506475:=0
def PySem.W.Fast.tw9476554409419732828:=0
def PySem.W.Fast.tw14233686484297378679:=0
def PySem.W.Fast.tw4873853705593129764:=0
def PySem.W.Fast.tw6244037669043794714:=0
def PySem.W.Fast.tw7693362810139245985:=0
def PySem.W.Fast.tw889920121415877620:=0
def PySem.W.Fast.tw14992620783728055903:=0
def PySem.W.Fast.tw13272610797405401832:=0
def PySem.W.Fast.tw17660511703120651336:=0
def PySem.W.Fast.tw4447863294696777074:=0
def PySem.W.Fast.tw5671265508463600213:=0
def PySem.W.Fast.tw1474889705679775852:=0
def PySem.W.Fast.tw13201189714524179760:=0
def PySem.W.Fast.tw16770667391843320608:=0
def PySem.W.Fast.tw6756106070105462863:=0
def PySem.W.Fast.tw9659903191568996693:=0
def PySem.W.Fast.tw11664812041525441863:=0
def PySem.W.Fast.tw11392530691708218143:=0
def PySem.W.Fast.tw13465646223894427829:=0
def PySem.W.Fast.tw15831140536475697876:=0
def PySem.W.Fast.tw4742366443465376915:=0
def PySem.W.Fast.tw6657610459894676206:=0
def PySem.W.Fast.tw5936421357011405133:=0
def PySem.W.Fast.tw1327104082588106382:=0
def PySem.W.Fast.tw13344077749061959395:=0
def PySem.W.Fast.tw17877032692436375305:=0
def PySem.W.Fast.tw4035090774177704874:=0
def PySem.W.Fast.tw17762407719794613612:=0
def PySem.W.Fast.tw17134822795019217880:=0
def PySem.W.Fast.tw14939346239082359230:=0
def PySem.W.Fast.tw15347421530054353154:=0
def PySem.W.Fast.tw16950694583877748121:=0
def PySem.W.Fast.tw11066103602897367361:=0
def PySem.W.Fast.tw14612488007346816694:=0
def PySem.W.Fast.tw4444782313381513020:=0
def PySem.W.Fast.tw8646191053201042445:=0
def PySem.W.Fast.tw1855447130307563047:=0
def PySem.W.Fast.tw6679136976123450889:=0
def PySem.W.Fast.tw2120692552917208409:=0
def PySem.W.Fast.tw8540270789032377469:=0
def PySem.W.Fast.tw12578315315530991900:=0
def PySem.W.Fast.tw5152976485747637303:=0
def PySem.W.Fast.tw15053728315863023194:=0
def PySem.W.Fast.tw18302265442403198287:=0
def PySem.W.Fast.tw18190759709294356098:=0
def PySem.W.Fast.tw11762378976608791059:=0
def PySem.W.Fast.tw9150277657933976837:=0
def PySem.W.Fast.tw14925959998606301768:=0
def PySem.W.Fast.tw12499999994899836545:=0
def PySem.W.Fast.tw2843204718817215551:=0
def PySem.W.Fast.tw9831732510734905036:=0
def PySem.W.Fast.tw14114183647685324398:=0
def PySem.W.Fast.tw9834839904563650293:=0
def PySem.W.Fast.tw6186302524304153257:=0
def PySem.W.Fast.tw18009951634015646885:=0
def PySem.W.Fast.tw13964106374845688590:=0
def PySem.W.Fast.tw2635409028323190146:=0
def PySem.W.Fast.tw16749595527244129745:=0
def PySem.W.Fast.tw6512312628252535501:=0
def PySem.W.Fast.tw2709996527950184466:=0
def PySem.W.Fast.tw14095836960326616972:=0
def PySem.W.Fast.tw3146637927348220288:=0
def PySem.W.Fast.tw14295392211463630560:=0
def PySem.W.Fast.tw10698620488551324395:=0
def PySem.W.Fast.tw1841920553831184475:=0
def PySem.W.Fast.tw9468299028798531273:=0
def PySem.W.Fast.tw7947627438794263383:=0
def PySem.W.Fast.tw9721482686291931890:=0
def PySem.W.Fast.tw5500983866832594554:=0
def PySem.W.Fast.tw7125306543845353890:=0
def PySem.W.Fast.tw16822036265865062817:=0
def PySem.W.Fast.tw12504672369530205252:=0
def PySem.W.Fast.tw18233989748450780235:=0
def PySem.W.Fast.tw18029065584436029961:=0
def PySem.W.Fast.tw14450639856842324593:=0
def PySem.W.Fast.tw14997015194903697327:=0
def PySem.W.Fast.tw10790902678053409607:=0
def PySem.W.Fast.tw4295300039672482556:=0
def PySem.W.Fast.tw9383267119409274761:=0
def PySem.W.Fast.tw17067234971566730706:=0
def PySem.W.Fast.tw208049168972194776:=0
def PySem.W.Fast.tw9006105601566709181:=0
def PySem.W.Fast.tw8123792804241075575:=0
def PySem.W.Fast.tw9765164682190024355:=0
def PySem.W.Fast.tw4884396674687023728:=0
def PySem.W.Fast.tw3772852069024883009:=0
def PySem.W.Fast.tw14564154777161575443:=0
def PySem.W.Fast.tw9900089513702153520:=0
def PySem.W.Fast.tw4527270187019267577:=0
def PySem.W.Fast.tw5212304593265864130:=0
def PySem.W.Fast.tw8543667654141417725:=0
def PySem.W.Fast.tw14063323326412350352:=0
def PySem.W.Fast.tw17706088172487625365:=0
def PySem.W.Fast.tw4427856978705116657:=0
def PySem.W.Fast.tw15601991626914235293:=0
def PySem.W.Fast.tw16000611928898290469:=0
def PySem.W.Fast.tw15770856842553114400:=0
def PySem.W.Fast.tw8511109021184124903:=0
def PySem.W.Fast.tw11438306844321271256:=0
def PySem.W.Fast.tw1469794258767227602:=0
def PySem.W.Fast.tw12830285644116129286:=0
def PySem.W.Fast.tw321921480008276497:=0
def PySem.W.Fast.tw8093229001181203420:=0
def PySem.W.Fast.tw4828468315488639172:=0
def PySem.W.Fast.tw440601864965211314:=0
def PySem.W.Fast.tw11869068873877204003:=0
def PySem.W.Fast.tw2849915314633911429:=0
def PySem.W.Fast.tw17419481809398996496:=0
def PySem.W.Fast.tw1631525368862580552:=0
def PySem.W.Fast.tw7622102319087183180:=0
def PySem.W.Fast.tw13307230420652947394:=0
def PySem.W.Fast.tw1701111837374094759:=0
def PySem.W.Fast.tw7712069301849717650:=0
def PySem.W.Fast.tw14798310873101710897:=0
def PySem.W.Fast.tw13401099602572065919:=0
def PySem.W.Fast.tw2519705339884155868:=0
def PySem.W.Fast.tw17769091736104935327:=0
def PySem.W.Fast.tw389042538762789116:=0
def PySem.W.Fast.tw15571723015295147286:=0
def PySem.W.Fast.tw11536516693738056811:=0
def PySem.W.Fast.tw1995563564716605695:=0
def PySem.W.Fast.tw16414468525413485296:=0
def PySem.W.Fast.tw5479362029500073455:=0
def PySem.W.Fast.tw15171305217218416808:=0
def PySem.W.Fast.tw1542758801323729733:=0
def PySem.W.Fast.tw11606797244155859097:=0
def PySem.W.Fast.tw13997476450410486417:=0
def PySem.W.Fast.tw14377724177263932614:=0
set_option maxRecDepth 100000 in
set_option maxHeartbeats 0 in
theorem PySem.Challenge.cw_tanglehouse_k58_parts_written_and_read_holds : PySem.Challenge.rw_tanglehouse_k58_parts_written_and_read.Holds := by
 w_on;o_law;k_head;(case hw=>w_witness2)
 k_fill
 refine K58.walk (l:=PySem.Challenge.rw_tanglehouse_k58_parts_written_and_read) rfl rfl (λw h Y=>PySem.W.kIn_of Y) ?F
 case F =>
  intro w mg fa h KX G hmg
  refine' K58.Qo1 KX G hmg ?a1 ?L1 ?k1 ?a2 ?L2 ?k2 ?a3 ?L3 ?k3 ?a4 ?L4 ?k4 ?a5 ?L5 ?k5 ?a6 ?L6 ?k6 ?a7 ?L7 ?k7 ?a8 ?L8 ?k8 ?a9 ?L9 ?k9 ?a10 ?L10 ?k10 ?a11 ?L11 ?k11 ?a12 ?L12 ?k12 ?a13 ?L13 ?k13 ?a14 ?L14 ?k14 ?a15 ?l15 ?c15 ?k15 ?z_all ?z_isinstance ?z_len ?z_range ?z_str ?z_MOST_OPEN ?zx_Level ?xhb_Level ?xsa_Level ?xca_Level ?xmr_Level ?xn0_Level ?xn1_Level ?xw_Level ?xhw_Level ?Lw_Level ?zi_Level ?zx_Upright ?xhb_Upright ?xsa_Upright ?xca_Upright ?xmr_Upright ?xn0_Upright ?xn1_Upright ?xw_Upright ?xhw_Upright ?Lw_Upright ?zi_Upright ?zx_Single ?xhb_Single ?xsa_Single ?xca_Single ?xmr_Single ?xn0_Single ?xn1_Single ?xw_Single ?xhw_Single ?Lw_Single ?zi_Single ?zx_Beside ?xhb_Beside ?xsa_Beside ?xca_Beside ?xmr_Beside ?xn0_Beside ?xn1_Beside ?xw_Beside ?xhw_Beside ?Lw_Beside ?xi_Beside ?xhi_Beside ?Li_Beside ?zx_Above ?xhb_Above ?xsa_Above ?xca_Above ?xmr_Above ?xn0_Above ?xn1_Above ?xw_Above ?xhw_Above ?Lw_Above ?xi_Above ?xhi_Above ?Li_Above ?zx_Turned ?xhb_Turned ?xsa_Turned ?xca_Turned ?xmr_Turned ?xn0_Turned ?xn1_Turned ?xw_Turned ?xhw_Turned ?Lw_Turned ?xi_Turned ?xhi_Turned ?Li_Turned ?zx_Mirrored ?xhb_Mirrored ?xsa_Mirrored ?xca_Mirrored ?xmr_Mirrored ?xn0_Mirrored ?xn1_Mirrored ?xw_Mirrored ?xhw_Mirrored ?Lw_Mirrored ?xi_Mirrored ?xhi_Mirrored ?Li_Mirrored ?zx_Part ?xht_Above ?xs_Above ?xht_Beside ?xs_Beside ?xht_Level ?xs_Level ?xht_Mirrored ?xs_Mirrored ?xht_Part ?xs_Part ?xht_Single ?xs_Single ?xht_Turned ?xs_Turned ?xht_Upright ?xs_Upright ?xo1 ?xo2
  (case a1=>first | k_is | rfl | decide +kernel)
  (case L1=>exact ⟨_,_,_,_,_,_,_,_,_,by k_is,by k_is⟩)
  (case k1=>k_is)
  (case a2=>first | k_is | rfl | decide +kernel)
  (case L2=>exact ⟨_,_,_,_,_,_,_,_,_,by k_is,by k_is⟩)
  (case k2=>k_is)
  (case a3=>first | k_is | rfl | decide +kernel)
  (case L3=>exact ⟨_,_,_,_,_,_,_,_,_,by k_is,by k_is⟩)
  (case k3=>k_is)
  (case a4=>first | k_is | rfl | decide +kernel)
  (case L4=>exact ⟨_,_,_,_,_,_,_,_,_,by k_is,by k_is⟩)
  (case k4=>k_is)
  (case a5=>first | k_is | rfl | decide +kernel)
  (case L5=>exact ⟨_,_,_,_,_,_,_,_,_,by k_is,by k_is⟩)
  (case k5=>k_is)
  (case a6=>first | k_is | rfl | decide +kernel)
  (case L6=>exact ⟨_,_,_,_,_,_,_,_,_,by k_is,by k_is⟩)
  (case k6=>k_is)
  (case a7=>first | k_is | rfl | decide +kernel)
  (case L7=>exact ⟨_,_,_,_,_,_,_,_,_,by k_is,by k_is⟩)
  (case k7=>k_is)
  (case a8=>first | k_is | rfl | decide +kernel)
  (case L8=>exact ⟨_,_,_,_,_,_,_,_,_,by k_is,by k_is⟩)
  (case k8=>k_is)
  (case a9=>first | k_is | rfl | decide +kernel)
  (case L9=>exact ⟨_,_,_,_,_,_,_,_,_,by k_is,by k_is⟩)
  (case k9=>k_is)
  (case a10=>first | k_is | rfl | decide +kernel)
  (case L10=>exact ⟨_,_,_,_,_,_,_,_,_,by k_is,by k_is⟩)
  (case k10=>k_is)
  (case a11=>first | k_is | rfl | decide +kernel)
  (case L11=>exact ⟨_,_,_,_,_,_,_,_,_,by k_is,by k_is⟩)
  (case k11=>k_is)
  (case a12=>first | k_is | rfl | decide +kernel)
  (case L12=>exact ⟨_,_,_,_,_,_,_,_,_,by k_is,by k_is⟩)
  (case k12=>k_is)
  (case a13=>first | k_is | rfl | decide +kernel)
  (case L13=>exact ⟨_,_,_,_,_,_,_,_,_,by k_is,by k_is⟩)
  (case k13=>k_is)
  (case a14=>first | k_is | rfl | decide +kernel)
  (case L14=>exact ⟨_,_,_,_,_,_,_,_,_,by k_is,by k_is⟩)
  (case k14=>k_is)
  (case a15=>first | k_is | rfl | decide +kernel)
  (case l15=>k_is)
  (case c15=>k_is)
  (case k15=>k_is)
  (case z_all=>first | k_is | rfl | decide +kernel)
  (case z_isinstance=>first | k_is | rfl | decide +kernel)
  (case z_len=>first | k_is | rfl | decide +kernel)
  (case z_range=>first | k_is | rfl | decide +kernel)
  (case z_str=>first | k_is | rfl | decide +kernel)
  (case z_MOST_OPEN=>first | k_is | rfl | decide +kernel)
  (case zx_Level=>first | k_is | rfl | decide +kernel)
  (case xhb_Level=>kernel_rfl)
  (case xsa_Level=>first | k_is | rfl | decide +kernel)
  (case xca_Level=>first | k_is | rfl | decide +kernel)
  (case xmr_Level=>first | k_is | rfl | decide +kernel)
  (case xn0_Level=>first | k_is | rfl | decide +kernel)
  (case xn1_Level=>first | k_is | rfl | decide +kernel)
  (case xw_Level=>first | k_is | rfl | decide +kernel)
  (case xhw_Level=>kernel_rfl)
  (case Lw_Level=>exact ⟨_,_,_,_,_,_,_,_,_,by k_is,by k_is⟩)
  (case zi_Level=>first | k_is | rfl | decide +kernel)
  (case zx_Upright=>first | k_is | rfl | decide +kernel)
  (case xhb_Upright=>kernel_rfl)
  (case xsa_Upright=>first | k_is | rfl | decide +kernel)
  (case xca_Upright=>first | k_is | rfl | decide +kernel)
  (case xmr_Upright=>first | k_is | rfl | decide +kernel)
  (case xn0_Upright=>first | k_is | rfl | decide +kernel)
  (case xn1_Upright=>first | k_is | rfl | decide +kernel)
  (case xw_Upright=>first | k_is | rfl | decide +kernel)
  (case xhw_Upright=>kernel_rfl)
  (case Lw_Upright=>exact ⟨_,_,_,_,_,_,_,_,_,by k_is,by k_is⟩)
  (case zi_Upright=>first | k_is | rfl | decide +kernel)
  (case zx_Single=>first | k_is | rfl | decide +kernel)
  (case xhb_Single=>kernel_rfl)
  (case xsa_Single=>first | k_is | rfl | decide +kernel)
  (case xca_Single=>first | k_is | rfl | decide +kernel)
  (case xmr_Single=>first | k_is | rfl | decide +kernel)
  (case xn0_Single=>first | k_is | rfl | decide +kernel)
  (case xn1_Single=>first | k_is | rfl | decide +kernel)
  (case xw_Single=>first | k_is | rfl | decide +kernel)
  (case xhw_Single=>kernel_rfl)
  (case Lw_Single=>exact ⟨_,_,_,_,_,_,_,_,_,by k_is,by k_is⟩)
  (case zi_Single=>first | k_is | rfl | decide +kernel)
  (case zx_Beside=>first | k_is | rfl | decide +kernel)
  (case xhb_Beside=>kernel_rfl)
  (case xsa_Beside=>first | k_is | rfl | decide +kernel)
  (case xca_Beside=>first | k_is | rfl | decide +kernel)
  (case xmr_Beside=>first | k_is | rfl | decide +kernel)
  (case xn0_Beside=>first | k_is | rfl | decide +kernel)
  (case xn1_Beside=>first | k_is | rfl | decide +kernel)
  (case xw_Beside=>first | k_is | rfl | decide +kernel)
  (case xhw_Beside=>kernel_rfl)
  (case Lw_Beside=>exact ⟨_,_,_,_,_,_,_,_,_,by k_is,by k_is⟩)
  (case xi_Beside=>first | k_is | rfl | decide +kernel)
  (case xhi_Beside=>kernel_rfl)
  (case Li_Beside=>exact ⟨_,_,_,_,_,_,_,_,_,by k_is,by k_is⟩)
  (case zx_Above=>first | k_is | rfl | decide +kernel)
  (case xhb_Above=>kernel_rfl)
  (case xsa_Above=>first | k_is | rfl | decide +kernel)
  (case xca_Above=>first | k_is | rfl | decide +kernel)
  (case xmr_Above=>first | k_is | rfl | decide +kernel)
  (case xn0_Above=>first | k_is | rfl | decide +kernel)
  (case xn1_Above=>first | k_is | rfl | decide +kernel)
  (case xw_Above=>first | k_is | rfl | decide +kernel)
  (case xhw_Above=>kernel_rfl)
  (case Lw_Above=>exact ⟨_,_,_,_,_,_,_,_,_,by k_is,by k_is⟩)
  (case xi_Above=>first | k_is | rfl | decide +kernel)
  (case xhi_Above=>kernel_rfl)
  (case Li_Above=>exact ⟨_,_,_,_,_,_,_,_,_,by k_is,by k_is⟩)
  (case zx_Turned=>first | k_is | rfl | decide +kernel)
  (case xhb_Turned=>kernel_rfl)
  (case xsa_Turned=>first | k_is | rfl | decide +kernel)
  (case xca_Turned=>first | k_is | rfl | decide +kernel)
  (case xmr_Turned=>first | k_is | rfl | decide +kernel)
  (case xn0_Turned=>first | k_is | rfl | decide +kernel)
  (case xn1_Turned=>first | k_is | rfl | decide +kernel)
  (case xw_Turned=>first | k_is | rfl | decide +kernel)
  (case xhw_Turned=>kernel_rfl)
  (case Lw_Turned=>exact ⟨_,_,_,_,_,_,_,_,_,by k_is,by k_is⟩)
  (case xi_Turned=>first | k_is | rfl | decide +kernel)
  (case xhi_Turned=>kernel_rfl)
  (case Li_Turned=>exact ⟨_,_,_,_,_,_,_,_,_,by k_is,by k_is⟩)
  (case zx_Mirrored=>first | k_is | rfl | decide +kernel)
  (case xhb_Mirrored=>kernel_rfl)
  (case xsa_Mirrored=>first | k_is | rfl | decide +kernel)
  (case xca_Mirrored=>first | k_is | rfl | decide +kernel)
  (case xmr_Mirrored=>first | k_is | rfl | decide +kernel)
  (case xn0_Mirrored=>first | k_is | rfl | decide +kernel)
  (case xn1_Mirrored=>first | k_is | rfl | decide +kernel)
  (case xw_Mirrored=>first | k_is | rfl | decide +kernel)
  (case xhw_Mirrored=>kernel_rfl)
  (case Lw_Mirrored=>exact ⟨_,_,_,_,_,_,_,_,_,by k_is,by k_is⟩)
  (case xi_Mirrored=>first | k_is | rfl | decide +kernel)
  (case xhi_Mirrored=>kernel_rfl)
  (case Li_Mirrored=>exact ⟨_,_,_,_,_,_,_,_,_,by k_is,by k_is⟩)
  (case zx_Part=>first | k_is | rfl | decide +kernel)
  (case xht_Above=>kernel_rfl)
  (case xs_Above=>first | k_is | rfl | decide +kernel)
  (case xht_Beside=>kernel_rfl)
  (case xs_Beside=>first | k_is | rfl | decide +kernel)
  (case xht_Level=>kernel_rfl)
  (case xs_Level=>first | k_is | rfl | decide +kernel)
  (case xht_Mirrored=>kernel_rfl)
  (case xs_Mirrored=>first | k_is | rfl | decide +kernel)
  (case xht_Part=>kernel_rfl)
  (case xs_Part=>first | k_is | rfl | decide +kernel)
  (case xht_Single=>kernel_rfl)
  (case xs_Single=>first | k_is | rfl | decide +kernel)
  (case xht_Turned=>kernel_rfl)
  (case xs_Turned=>first | k_is | rfl | decide +kernel)
  (case xht_Upright=>kernel_rfl)
  (case xs_Upright=>first | k_is | rfl | decide +kernel)
  (case xo1=>first | k_is | rfl | decide +kernel)
  (case xo2=>first | k_is | rfl | decide +kernel)
