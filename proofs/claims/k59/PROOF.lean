import PyProof.Rows.All
import Wide.All
import OpenK.AllK
import Wide.FinOn
import Lean
import PyProof.EqAt
import PyProof.EqKinds
import PyProof.TupleCall
import PyProof.EnumMake
import PyProof.EnumFor
import PyProof.Draws
import PyProof.DictWalks
import PyProof.ListRange
import PyProof.ZipIter
import PyProof.Rows.SortWalk
import PyProof.Rows.SumAny
import PyProof.TupleIter
import PyProof.MeetsStr2
import PyProof.StrWalks
import Wide.Txt
import PyProof.Rows.SortRuns
import PyProof.Rows.MinMaxN
import PyProof.ExcClass2
import PyProof.NsDelKeeps
import PyProof.ExcArgsOwn
import OpenK.KMake
import PyProof.StrCalls6
import PyProof.ListMulRoad
import PyProof.FactsAll.tuple
import PyProof.ExcAttrAll.ValueError
import PyProof.ExcBaseAll.ValueError
import PyProof.StrLawsReplace
import PyProof.ExcInit
import PyProof.InstStoreFacts
import PyProof.Rows.MatchSeqLen
import PySem.Challenge.RW_tanglehouse_k59_webs_of_parts
set_option Elab.async false
set_option linter.all false
set_option maxRecDepth 100000
set_option maxHeartbeats 4000000
variable {us:List PySem.Value}
namespace L2
open PySem PySem.Spec PyProof.Rows
abbrev Key:=Sum Int Str
def Qfi:Key->Value->Bool
 | .inl k,v=>Value.isInt k v
 | .inr x,v=>Value.isStrOf x v
def keyH (w:World):Key->Int
 | .inl k=>hashInt k
 | .inr x=>hashStr w x
theorem Jm:∀{k:Key} {v:Value},Qfi k v=true->(∃i t,k=Sum.inl i/\v=Value.int i t)\/(∃x t,k=Sum.inr x/\v=Value.str x t)
 | .inl i,v,h=>by
  obtain ⟨t,e⟩:=Value.isInt_shape (k:=i) (v:=v) h
  exact .inl ⟨i,t,rfl,e⟩
 | .inr x,v,h=>by
  obtain ⟨t,e⟩:=Value.isStrOf_shape (x:=x) (v:=v) h
  exact .inr ⟨x,t,rfl,e⟩
theorem Qj1 (i:Int) (t:Tok):Qfi (.inl i) (.int i t)=true:=by simp [Qfi,Value.isInt]
theorem Qj0 (x:Str) (t:Tok):Qfi (.inr x) (.str x t)=true:=by simp [Qfi,Value.isStrOf]
theorem Qs2 (a b:Int):decide ((Sum.inl a:Key)=Sum.inl b)=(a == b):=by
 by_cases e:a=b
 ·subst e;simp
 ·have h:¬(Sum.inl a:Key)=Sum.inl b:=λq=>e (Sum.inl.inj q)
  rw [decide_eq_false h]
  exact (beq_eq_false_iff_ne.mpr e).symm
theorem Qsz (a b:Str):decide ((Sum.inr a:Key)=Sum.inr b)=decide (a=b):=by
 by_cases e:a=b
 ·subst e;simp
 ·have h:¬(Sum.inr a:Key)=Sum.inr b:=λq=>e (Sum.inr.inj q)
  rw [decide_eq_false h,decide_eq_false e]
theorem Qs1 (a:Int) (b:Str):decide ((Sum.inl a:Key)=Sum.inr b)=false:=decide_eq_false (λq=>nomatch q)
theorem Qs0 (a:Str) (b:Int):decide ((Sum.inr a:Key)=Sum.inl b)=false:=decide_eq_false (λq=>nomatch q)
def Q9 (prog:Program) (w:World):PySem.KeyKind prog w Key where
 is:=Qfi
 hash:=keyH w
 inj:=λv a b ha hb=>by
  rcases Jm ha with ⟨i,t,rfl,rfl⟩ | ⟨x,t,rfl,rfl⟩
  ·rcases Jm hb with ⟨j,u,rfl,e⟩ | ⟨y,u,rfl,e⟩
   ·injection e with e1 _;rw [e1]
   ·exact nomatch e
  ·rcases Jm hb with ⟨j,u,rfl,e⟩ | ⟨y,u,rfl,e⟩
   ·exact nomatch e
   ·injection e with e1 _;rw [e1]
 byValue:=λk v h=>by
  rcases Jm h with ⟨i,t,rfl,rfl⟩ | ⟨x,t,rfl,rfl⟩ <;> rfl
 pyHash:=λhv h=>by
  rcases Jm hv with ⟨i,t,rfl,rfl⟩ | ⟨x,t,rfl,rfl⟩
  ·exact wpAny_pyHash_int h
  ·exact wpAny_pyHash_str h
 eqBool:=λhu hv h=>by
  rcases Jm hu with ⟨i,t,rfl,rfl⟩ | ⟨x,t,rfl,rfl⟩
  ·rcases Jm hv with ⟨j,u,rfl,rfl⟩ | ⟨y,u,rfl,rfl⟩
   ·rw [Qs2] at h;exact wpAny_eqBool_int h
   ·rw [Qs1] at h;exact SeqAt.EqAt.int_str i t y u _ _ _ _ h
  ·rcases Jm hv with ⟨j,u,rfl,rfl⟩ | ⟨y,u,rfl,rfl⟩
   ·rw [Qs0] at h;exact SeqAt.EqAt.str_int x t j u _ _ _ _ h
   ·rw [Qsz] at h;exact wpAny_eqBool_str h
 «strs»:=λk x t v h=>by
  rcases Jm h with ⟨i,u,rfl,e⟩ | ⟨y,u,rfl,e⟩
  ·exact nomatch e
  ·injection e with e1 _
   subst e1
   cases v <;> rfl
theorem Qhq (prog:Program) (w:World) (k:Key) (v:Value):(Q9 prog w).is k v=Qfi k v:=rfl
theorem Qfe (prog:Program) (w:World) (i:Int) (t:Tok):(Q9 prog w).is (.inl i) (.int i t)=true:=Qj1 i t
theorem Qfd (prog:Program) (w:World) (x:Str) (t:Tok):(Q9 prog w).is (.inr x) (.str x t)=true:=Qj0 x t
inductive V where
 | non | bl (b:Bool) | int (i:Int) | str (x:Str) | byt (b:Array UInt8) | flt (b:UInt64) | ref (a:Addr) | ty (n:String)
 deriving DecidableEq
def RelV:V->Value->Prop
 | .non,u=>u=Value.none
 | .bl b,u=>u=Value.bool b
 | .int i,u=>∃t,u=Value.int i t
 | .str x,u=>∃t,u=Value.str x t
 | .byt b,u=>∃t,u=Value.bytes b t
 | .flt b,u=>∃t,u=Value.float b t
 | .ref a,u=>u=Value.ref a
 | .ty n,u=>u=Value.type n
abbrev Vals:List V->List Value->Prop:=Paired RelV
theorem Vals.length {xs:List V} (r:Vals xs us):xs.length=us.length:=Paired.length r
theorem Vals.get:∀{xs:List V} {us:List Value} {i:Nat} {x:V},Vals xs us->xs[i]? = some x->∃u,us[i]? = some u/\RelV x u
 | _,_,_,_,.nil,e=>by simp at e
 | _,_,0,_,.cons r _,e=>by simp at e;subst e;exact ⟨_,rfl,r⟩
 | _,_,i+1,x,.cons _ t,e=>by
  obtain ⟨u,h1,h2⟩:=Vals.get (i:=i) (x:=x) t (by simpa using e)
  exact ⟨u,by simpa using h1,h2⟩
theorem Vals.set {x:V} {u:Value} (r:RelV x u):∀{xs:List V} {us:List Value} (i:Nat),Vals xs us->Vals (xs.set i x) (us.set i u)
 | _,_,_,.nil=>.nil
 | _,_,0,.cons _ t=>.cons r t
 | _,_,i+1,.cons q t=>.cons q (Vals.set r i t)
theorem Vals.append:∀{xs ys:List V} {us ws:List Value},Vals xs us->Vals ys ws->Vals (xs++ys) (us++ws)
 | _,_,_,_,.nil,s=>s
 | _,_,_,_,.cons r t,s=>.cons r (Vals.append t s)
theorem Vals.take:∀{xs:List V} {us:List Value} (n:Nat),Vals xs us->Vals (xs.take n) (us.take n)
 | _,_,0,_=>.nil
 | _,_,_+1,.nil=>.nil
 | _,_,n+1,.cons r t=>.cons r (Vals.take n t)
theorem Vals.drop:∀{xs:List V} {us:List Value} (n:Nat),Vals xs us->Vals (xs.drop n) (us.drop n)
 | _,_,0,r=>r
 | _,_,_+1,.nil=>.nil
 | _,_,n+1,.cons _ t=>Vals.drop n t
def RelO:Option V->Option Value->Prop
 | some v,some u=>RelV v u
 | none,none=>True
 | _,_=>False
def KV {κ:Type}:List (κ × V)->List (κ × Value)->Prop:=Paired λ(p:κ × V) (q:κ × Value)=>p.1=q.1/\RelV p.2 q.2
def kV:Key->V
 | .inl i=>.int i
 | .inr x=>.str x
inductive HO where
 | lst (xs:List V)
 | tup (xs:List V)
 | dK (kvs:List (Key × V)) | dT (kvs:List (List Key × V))
 | set (S:Int->Bool) (n:Nat)
 | ins (C dx:Addr) (fs:List (Str × V))
 | own (x:Addr)
 | xd (fs:List (Str × V))
 | met (f x:Addr)
 | rng (lo hi:Int)
 | frz (o:Obj) (u:HO)
 | tbl (ps:Array Value)
 | ext (φ:Heap->Prop)
abbrev Hp:=Addr->Option HO
end L2
variable {H H' H1 H2:L2.Hp} {a b e:PySem.Addr} {o u ob:L2.HO} {P:PySem.Program} {w:PySem.World} {x:PySem.Str} {h':PySem.Heap}
namespace L2
open PySem PySem.Spec PyProof.Rows
def upd (H:Hp) (a:Addr) (o:HO):Hp:=λb=>if b=a then some o else H b
theorem Qk:upd H a o a=some o:=by unfold upd;rw [if_pos rfl]
theorem Qq (h:b≠a):upd H a o b=H b:=by unfold upd;rw [if_neg h]
theorem Qia:upd (upd H a o) a u=upd H a u:=by
 funext b;unfold upd;split <;> rfl
theorem Qsp (h:H a=some o) (h':H b=some u) (d:o≠u):a≠b:=by
 intro e;subst e;rw [h] at h';exact d (Option.some.inj h')
theorem Q7 (h:H a=some o) (h':H b=none):a≠b:=by
 intro e;subst e;rw [h] at h';cases h'
section
variable (P:Program) (w:World)
def J4 (H:Hp) (h:Heap) (a:Addr):HO->Prop
 | .lst xs=>xs.length<=sizeLine/\∃(its:List Value) (n:Nat),Vals xs its/\h.get? a=some { cls:=.type "list",data:=.seq its.toArray n }
 | .tup xs=>xs.length<=sizeLine/\∃its:List Value,Vals xs its/\IsTup h a its.toArray
 | .dK kvs=>kvs.length<=sizeLine/\(a == sysModules)=false/\∃vs,KV kvs vs/\h.DictOf (Q9 P w) a vs
 | .dT kvs=>kvs.length<=sizeLine/\(a == sysModules)=false/\∃xs:List (List Key × Addr × Value),
   Paired (λ(p:List Key × V) (q:List Key × Addr × Value)=>p.1=q.1/\H q.2.1=some (.tup (p.1.map kV))/\RelV p.2 q.2.2) kvs xs /\
   ∃o es ep,h.get? a=some o/\o.ExactDict/\o.data=.dict es ep/\es.toList=xs.map (entryOfKey (tupleKind (Q9 P w)))/\(xs.map (·.1)).Nodup
 | .set S n=>h.SetOf (intKind P w) a S n
 | .ins C dx fs=>H dx=some (.own a)/\fs.length<=1000/\dx≠a/\h.get? a=some (PySem.W.instObj C dx) /\
   ∃mA,h.Ns1 dx mA/\(∀f,RelO (fs.lookup f) (mA f))/\PySem.Within mA (fs.map (·.1))
 | .own _=>∃o,h.get? a=some o
 | .xd fs=>∃mA,h.Ns1 a mA/\∀f,RelO (fs.lookup f) (mA f)
 | .rng lo hi=>∃t u v,h.get? a=some { cls:=.type "range",data:=.fields #[.int lo t,.int hi u,.int 1 v] }
 | .frz o u=>h.get? a=some o/\J4 H h a u
 | .tbl ps=>∃ts:Array Value,h.get? a=some { cls:=.none,data:=.fields ts }/\(ts = #[]\/∃(b:Addr) (oc:Obj) (u:HO) (vs:Array Value) (t:Tok) (q:Str) (t':Tok),ts = #[ps.getD 0 .none,ps.getD 1 .none,.ref b]/\H b=some (.frz oc u)/\oc.data=.fields vs/\ps.getD 2 .none=.str q t'/\vs[1]? = some (.str q t))
 | .met f x=>h.get? a=some (PySem.W.methodObj (.ref f) (.ref x))
 | .ext φ=>φ h/\(∃o,h.get? a=some o)/\∀h1 h2:Heap,φ h1->(∀o,h1.get? a=some o->h2.get? a=some o)->φ h2
def HOk (H:Hp) (h:Heap):Prop:=∀a o,H a=some o->J4 P w H h a o
end
section
variable {h:Heap}
theorem J4.lt (x:J4 P w H h a o):a<h.objs.size:=by
 cases o with
 | lst xs=>obtain ⟨_,_,_,_,e⟩:=x;exact Heap.lt_size e
 | tup xs=>obtain ⟨_,_,_,p⟩:=x;exact p.lt
 | dK kvs=>obtain ⟨_,_,_,_,o,_,_,e,_⟩:=x;exact Heap.lt_size e
 | dT kvs=>obtain ⟨_,_,_,_,o,_,_,e,_⟩:=x;exact Heap.lt_size e
 | set S n=>obtain ⟨o,_,_,_,e,_⟩:=x;exact Heap.lt_size e
 | ins C dx fs=>obtain ⟨_,_,_,e,_⟩:=x;exact Heap.lt_size e
 | own y=>obtain ⟨_,e⟩:=x;exact Heap.lt_size e
 | xd fs=>obtain ⟨_,⟨_,_,_,e,_⟩,_⟩:=x;exact Heap.lt_size e
 | rng lo hi=>obtain ⟨_,_,_,e⟩:=x;exact Heap.lt_size e
 | frz ob u=>obtain ⟨e,_⟩:=x;exact Heap.lt_size e
 | tbl ps=>obtain ⟨_,e,_⟩:=x;exact Heap.lt_size e
 | met f y=>exact Heap.lt_size (show h.get? a=some _ from x)
 | ext φ=>obtain ⟨_,⟨_,e⟩,_⟩:=x;exact Heap.lt_size e
theorem Paired.mapP {α β:Type} {F G:α->β->Prop}:∀{l₁:List α} {l₂:List β},Paired F l₁ l₂->(∀a b,F a b->G a b)->Paired G l₁ l₂
 | _,_,.nil,_=>.nil
 | _,_,.cons r t,f=>.cons (f _ _ r) (Paired.mapP t f)
theorem J4.stay (x:J4 P w H h a o) (k:∀b u,(b=a\/H b=some (.own a))->h.get? b=some u->h'.get? b=some u)
  (ho:∀b,H b=some (.own a)->H' b=some (.own a)) (ht:∀b xs,H b=some (.tup xs)->H' b=some (.tup xs)) (hf:∀b u v vs,H b=some (.frz u v)->u.data=.fields vs->H' b=some (.frz u v):=by exact λ_ _ _ _ q _=>q):J4 P w H' h' a o:=by
 induction o with
 | lst xs=>obtain ⟨z,its,n,r,e⟩:=x;exact ⟨z,its,n,r,k _ _ (.inl rfl) e⟩
 | tup xs=>obtain ⟨z,its,r,ob,e,c⟩:=x;exact ⟨z,its,r,ob,k _ _ (.inl rfl) e,c⟩
 | dK kvs=>obtain ⟨z,y,vs,r,ob,es,ep,e,c⟩:=x;exact ⟨z,y,vs,r,ob,es,ep,k _ _ (.inl rfl) e,c⟩
 | dT kvs =>
  obtain ⟨z,y,xs,r,ob,es,ep,e,c⟩:=x
  exact ⟨z,y,xs,Paired.mapP r λp q z=>⟨z.1,ht _ _ z.2.1,z.2.2⟩,ob,es,ep,k _ _ (.inl rfl) e,c⟩
 | set S n=>obtain ⟨ob,es,ep,t,e,c⟩:=x;exact ⟨ob,es,ep,t,k _ _ (.inl rfl) e,c⟩
 | ins C dx fs =>
  obtain ⟨d,z,ne,e,mA,⟨od,es,ep,e2,c⟩,r⟩:=x
  exact ⟨ho _ d,z,ne,k _ _ (.inl rfl) e,mA,⟨od,es,ep,k _ _ (.inr d) e2,c⟩,r⟩
 | own y=>obtain ⟨ob,e⟩:=x;exact ⟨ob,k _ _ (.inl rfl) e⟩
 | xd fs=>obtain ⟨mA,⟨od,es,ep,e,c⟩,r⟩:=x;exact ⟨mA,⟨od,es,ep,k _ _ (.inl rfl) e,c⟩,r⟩
 | rng lo hi=>obtain ⟨t,u,v,e⟩:=x;exact ⟨t,u,v,k _ _ (.inl rfl) e⟩
 | frz ob u ih=>obtain ⟨e,q⟩:=x;exact ⟨k _ _ (.inl rfl) e,ih q⟩
 | tbl ps =>
  obtain ⟨ts,e,r⟩:=x
  exact ⟨ts,k _ _ (.inl rfl) e,r.imp id λ⟨b,oc,u,vs,t,q,t',z1,z2,z3⟩=>⟨b,oc,u,vs,t,q,t',z1,hf _ _ _ _ z2 z3.1,z3⟩⟩
 | met f y =>
  have e:h.get? a=some (PySem.W.methodObj (.ref f) (.ref y)):=x
  show h'.get? a=some (PySem.W.methodObj (.ref f) (.ref y))
  exact k a _ (.inl rfl) e
 | ext φ=>obtain ⟨p,⟨o,e⟩,st⟩:=x;exact ⟨st _ _ p λo q=>k _ _ (.inl rfl) q,⟨o,k _ _ (.inl rfl) e⟩,st⟩
theorem HOk.lt (x:HOk P w H h) (e:H a=some o):a<h.objs.size:=(x a o e).lt
theorem HOk.fresh (x:HOk P w H h) (e:h.objs.size<=a):H a=none:=by
 cases q:H a with
 | none=>rfl
 | some u=>exact absurd (Nat.lt_of_lt_of_le (x.lt q) e) (Nat.lt_irrefl _)
theorem HOk.kept (x:HOk P w H h) (k:∀b u,h.get? b=some u->h'.get? b=some u):HOk P w H h':=λa o e =>
 (x a o e).stay (λb u _ q=>k b u q) (λ_ q=>q) λ_ _ q=>q
theorem HOk.laid (x:HOk P w H h) (k:∀b u,h.get? b=some u->h'.get? b=some u) (hp:h.objs.size<=a) (new:J4 P w (upd H a o) h' a o):HOk P w (upd H a o) h':=λb u e=>by
 have hn:=x.fresh hp
 by_cases hb:b=a
 ·subst hb;rw [Qk] at e;cases e;exact new
 ·rw [Qq hb] at e
  exact (x b u e).stay (λc v _ q=>k c v q) (λc q=>by rw [Qq (Q7 q hn)];exact q) (λc xs q=>by rw [Qq (Q7 q hn)];exact q) λc _ _ _ q _=>by rw [Qq (Q7 q hn)];exact q
end
def Rd (H:Hp) (a:Addr) (u:HO):Prop:=H a=some u\/∃o,H a=some (.frz o u)
theorem Rd.ok {h:Heap} (r:Rd H a u) (x:HOk P w H h):J4 P w H h a u:=by
 rcases r with r | ⟨o,r⟩
 ·exact x a u r
 ·obtain ⟨_,q⟩:=x a _ r
  exact q
def Mut:Option HO->Prop
 | some (.lst _)=>True
 | some (.dK _)=>True
 | some (.dT _)=>True
 | some (.set _ _)=>True
 | some (.ins _ _ _)=>True
 | some (.ext _)=>True
 | _=>False
section
variable {h:Heap} {x:Addr} {o':HO}
theorem HOk.write (ok:HOk P w H h) (mu:Mut (H x)) (he:e=x\/H e=some (.own x)) (k:∀b u,b≠e->h.get? b=some u->h'.get? b=some u) (heo:∃u,h'.get? e=some u)
  (new:J4 P w (upd H x o') h' x o'):HOk P w (upd H x o') h':=λb u q=>by
 have nown:∀c y,H c=some (.own y)->c≠x:=λc y r z=>by subst z;rw [r] at mu;exact mu
 have ntup:∀c xs,H c=some (.tup xs)->c≠x:=λc xs r z=>by subst z;rw [r] at mu;exact mu
 have nfrz:∀c o v,H c=some (.frz o v)->c≠x:=λc o v r z=>by subst z;rw [r] at mu;exact mu
 by_cases hb:b=x
 ·subst hb;rw [Qk] at q;cases q;exact new
 ·rw [Qq hb] at q
  by_cases hbe:b=e
  ·have q':H b=some (.own x):=by
    rcases he with z | z
    ·exact absurd (hbe.trans z) hb
    ·rw [hbe];exact z
   rw [q] at q';cases q'
   obtain ⟨v,hv⟩:=heo
   exact ⟨v,by rw [hbe];exact hv⟩
  ·refine (ok b u q).stay (λc v hc r=>k c v ?_ r) (λc r=>by rw [Qq (nown c b r)];exact r) (λc xs r=>by rw [Qq (ntup c xs r)];exact r) λc o v _ r _=>by rw [Qq (nfrz c o v r)];exact r
   rcases hc with rfl | hc
   ·exact hbe
   ·rintro rfl
    rcases he with z | z
    ·exact nown c b hc z
    ·rw [hc] at z;cases z;exact hb rfl
end
structure Un (fs ex:List Addr) (H H':Hp) (h h':Heap):Prop where
 keep:∀b o,h.get? b=some o->H b=none->b∉fs->b∉ex->h'.get? b=some o
 slot:∀b o,h.get? b=some o->H b=none->b∈fs->b∉ex->∃sl,h'.get? b=some { o with slots:=sl }
 free:∀b o,h.get? b=some o->H b=none->b∉ex->H' b=none
 there:∀b o,h.get? b=some o->b∉ex->∃o',h'.get? b=some o'
 tups:∀b xs,H b=some (.tup xs)->H' b=some (.tup xs)
 frzs:∀b o u,H b=some (.frz o u)->H' b=some (.frz o u)
 tbls:∀b ps,H b=some (.tbl ps)->∃more,H' b=some (.tbl (ps++more))
section
variable {fs ex:List Addr} {h h1:Heap} {x:Addr}
theorem Un.any (u:Un fs ex H H1 h h1) {ob:Obj} (q:h.get? b=some ob) (n:H b=none) (hx:b∉ex):∃sl,h1.get? b=some { ob with slots:=sl }:=by
 by_cases hb:b∈fs
 ·exact u.slot b ob q n hb hx
 ·exact ⟨ob.slots,u.keep b ob q n hb hx⟩
theorem Un.kept (k:∀b u,h.get? b=some u->h'.get? b=some u):Un fs ex H H h h' :=
 ⟨λb ob q _ _ _=>k b ob q,λb ob q _ _ _=>⟨ob.slots,k b ob q⟩,λ_ _ _ n _=>n,λb ob q _=>⟨ob,k b ob q⟩,λ_ _ q=>q,λ_ _ _ q=>q,λ_ ps q=>⟨#[],by rw [q];simp⟩⟩
theorem Un.refl:Un fs ex H H h h:=Un.kept λ_ _ q=>q
theorem Un.laid (k:∀b u,h.get? b=some u->h'.get? b=some u) (hp:h.objs.size<=a) (hn:H a=none):Un fs ex H (upd H a o) h h' where
 keep:=λb u q _ _ _=>k b u q
 slot:=λb u q _ _ _=>⟨u.slots,k b u q⟩
 free:=λb u q n _=>by rw [Qq (Nat.ne_of_lt (Nat.lt_of_lt_of_le (Heap.lt_size q) hp))];exact n
 there:=λb u q _=>⟨u,k b u q⟩
 tups:=λb xs q=>by rw [Qq (Q7 q hn)];exact q
 frzs:=λb u xs q=>by rw [Qq (Q7 q hn)];exact q
 tbls:=λb ps q=>⟨#[],by rw [Qq (Q7 q hn),q];simp⟩
theorem Un.write (mu:Mut (H x)) (he:e=x\/H e=some (.own x)) (k:∀b u,b≠e->h.get? b=some u->h'.get? b=some u) (heo:∃u,h'.get? e=some u):Un fs ex H (upd H x o) h h':=by
 have hx:∀b,H b=none->b≠x:=λb n z=>by subst z;rw [n] at mu;exact mu
 have hb:∀b,H b=none->b≠e:=λb n z=>by
  subst z
  rcases he with r | r
  ·exact hx b n r
  ·rw [n] at r;cases r
 have hm:∀b u,H b=some u->¬Mut (some u)->b≠x:=λb u q nm z=>by subst z;rw [q] at mu;exact nm mu
 refine ⟨λb u q n _ _=>k b u (hb b n) q,λb u q n _ _=>⟨u.slots,k b u (hb b n) q⟩,λb u q n _=>by rw [Qq (hx b n)];exact n,λb u q _=>?_,
  λb xs q=>by rw [Qq (hm b _ q λz=>z)];exact q,λb u xs q=>by rw [Qq (hm b _ q λz=>z)];exact q,λb ps q=>⟨#[],by rw [Qq (hm b _ q λz=>z),q];simp⟩⟩
 by_cases hbe:b=e
 ·subst hbe;exact heo
 ·exact ⟨u,k b u hbe q⟩
end
def trk (h:Heap) (H:Hp):List Addr:=(List.range h.objs.size).filter λa=>(H a).isSome
def hidT (h:Heap) (H:Hp):Heap:=PySem.W.hideAll h (trk h H)
theorem Qkb (h:Heap) (H:Hp):(hidT h H).objs.size=h.objs.size:=PySem.W.hideAll_size _ _
theorem Qmz {h:Heap} {o:Obj} (e:h.get? b=some o) (n:H b=none):(hidT h H).get? b=some o :=
 PySem.W.hideAll_get _ e λhm=>by
  have q:(H b).isSome=true:=(List.mem_filter.mp hm).2
  rw [n] at q;simp at q
theorem Qp5 {h:Heap} {o:Obj} (e:(hidT h H).get? b=some o):h.get? b=some o/\H b=none:=by
 have e':h.get? b=some o:=PySem.W.of_hideAll (trk h H) e
 refine ⟨e',?_⟩
 cases q:H b with
 | none=>rfl
 | some x =>
  have hm:b∈trk h H:=List.mem_filter.mpr ⟨List.mem_range.mpr (Heap.lt_size e'),by simp [q]⟩
  have z:(hidT h H).get? b=none:=PySem.W.hideAll_none (trk h H) hm
  rw [z] at e;cases e
structure Mod (K:PySem.W.Frag) (mg:Str->Option Value) (base:Heap):Prop where
 kin:K.In base
 glob:base.Ns mainGlobals mg
 blt:∃mb,base.Ns builtinsNs mb/\∀x:Str,x ≠ "__name__" -> mb x=bootBuiltins x
 nolimit:base.NoLimit
structure Cx where
 prog:Program
 w:World
 K:PySem.W.Frag
 mg:Str->Option Value
 base:Heap
 A:Around
 N:List Str
 s₀:Shared
 H₀:Hp
 env:Env
 outer:List Env
 stack:List Env
 ex:List Addr
 fn:Str->Bool
 calm:Bool
 pn:List (Addr × Obj)
 xe:Value->Shared->Prop
end L2
variable {u:PySem.Value} {g':Array PySem.GenState} {t' i j:Nat} {d':PySem.Drawn} {ch:List PySem.Addr} {it:PySem.Addr} {N:List PySem.Str} {A:PySem.Around} {E:PySem.Value->PySem.Shared->Prop} {v:L2.V} {Q:Unit->PySem.Shared->Prop} {s' s:PySem.Shared} {X:L2.Cx} {pins:List (PySem.Addr × PySem.Obj)}
namespace L2
open PySem PySem.Spec PyProof.Rows
def frs (l:List Env):List Addr:=l.filterMap (·.frame)
abbrev Cx.fs (X:Cx):List Addr:=frs X.outer
def Vis (sc:Scope) (x:Str):Prop:=sc.names.lookup x=some .local\/sc.names.lookup x=some .cell\/sc.names.lookup x=some .free
def Loc (sc:Scope) (x:Str):Prop:=sc.names.lookup x=some .local\/sc.names.lookup x=some .cell
def Look (env:Env) (h:Heap) (m:Str->Option Value) (x:Str) (u:Value):Prop :=
 (env.kindOf x=some .local/\m x=some u)\/((env.kindOf x=some .cell\/env.kindOf x=some .free)/\∃c,env.cells.lookup x=some c/\h.IsCell c (some u))
structure Cx.Ok (X:Cx):Prop where
 mod:Mod X.K X.mg X.base
 kind:X.env.scope.kind=.function
 glob:X.env.globals=mainGlobals
 blt:X.env.builtins=builtinsNs
 above:X.s₀.heap.objs.size<=X.env.locals
 inj:∀x y c,X.env.cells.lookup x=some c->X.env.cells.lookup y=some c->x=y
 has:∀x,(X.env.kindOf x=some .cell\/X.env.kindOf x=some .free)->∃c,X.env.cells.lookup x=some c
 cab:∀x c,X.fn x=true->X.env.cells.lookup x=some c->X.s₀.heap.objs.size<=c
 hd:X.calm=true->X.A.handled=none
 frames:X.A.frames=some X.stack
 stk:X.stack=X.outer\/(X.stack=X.env::X.outer/\X.env.frame=some X.env.locals)
 exf:∀b∈X.ex,b≠X.env.locals/\∀x c,X.env.cells.lookup x=some c->c≠b
 bs:∀b o,X.base.get? b=some o->X.s₀.heap.get? b=some o/\X.H₀ b=none
 bsz:X.base.objs.size<=X.s₀.heap.objs.size
 noex:∀b o,X.base.get? b=some o->b∉X.ex
 exfs:∀b∈X.ex,b∉X.fs
 funs:X.s₀.heap.FunFrames X.base X.outer
 frf:∀b∈X.fs,X.H₀ b=none
structure Inv (X:Cx) (pins:List (Addr × Obj)) (σ:List (Option V)) (H:Hp) (s:Shared):Prop where
 ok:X.Ok
 os:s.os=X.s₀.os
 bare:AllBare s.gens
 base:Un X.fs X.ex X.H₀ H X.s₀.heap s.heap
 loc:∃m,s.heap.Ns X.env.locals m/\∀(i:Nat) (x:Str) (v:V),X.N[i]? = some x->σ[i]? = some (some v)->Vis X.env.scope x->∃u,RelV v u/\Look X.env s.heap m x u
 cell:∀x c,X.env.cells.lookup x=some c->∃v,s.heap.IsCell c v
 free:H X.env.locals=none
 freeC:∀x c,X.env.cells.lookup x=some c->H c=none
 pin:∀p∈X.pn++pins,s.heap.get? p.1=some p.2/\H p.1=none/\p.1≠X.env.locals/\p.1∉X.fs/\∀v,p.2.data ≠ .cell v
 hok:HOk X.prog X.w H s.heap
 len:σ.length=X.N.length
section
variable {σ:List (Option V)}
theorem Cx.Ok.nofr (ok:X.Ok) {o:Obj} (e:X.base.get? b=some o):b∉X.fs:=λhb=>by
 have:=(ok.funs.mem hb).1
 rw [e] at this;cases this
theorem Inv.bs (I:Inv X pins σ H s):∀b o,X.base.get? b=some o->s.heap.get? b=some o/\H b=none:=λb o e =>
 ⟨I.base.keep b o (I.ok.bs b o e).1 (I.ok.bs b o e).2 (I.ok.nofr e) (I.ok.noex b o e),I.base.free b o (I.ok.bs b o e).1 (I.ok.bs b o e).2 (I.ok.noex b o e)⟩
theorem Inv.bk (I:Inv X pins σ H s):∀b o,X.base.get? b=some o->s.heap.get? b=some o:=λb o e=>(I.bs b o e).1
theorem Inv.mod (I:Inv X pins σ H s):Mod X.K X.mg X.base:=I.ok.mod
theorem Inv.kIn (I:Inv X pins σ H s):X.K.In s.heap:=I.ok.mod.kin.keeps I.bk
theorem Inv.lt (I:Inv X pins σ H s):X.env.locals<s.heap.objs.size:=let ⟨_,hn,_⟩:=I.loc;hn.lt
theorem Inv.sz (I:Inv X pins σ H s):X.s₀.heap.objs.size<=s.heap.objs.size:=Nat.le_trans I.ok.above (Nat.le_of_lt I.lt)
theorem Inv.nofs (I:Inv X pins σ H s) (h:s.heap.objs.size<=a):a∉X.fs:=λhb=>by
 obtain ⟨_,o,ho,_⟩:=I.ok.funs.mem hb
 exact absurd (Nat.lt_of_lt_of_le (Heap.lt_size ho) (Nat.le_trans I.sz h)) (Nat.lt_irrefl _)
theorem Inv.cne (I:Inv X pins σ H s):∀x c,X.env.cells.lookup x=some c->c≠X.env.locals:=λx c e z=>by
 obtain ⟨v,o,ho,hd⟩:=I.cell x c e
 obtain ⟨m,⟨o',es,ep,ho',hd',_⟩,_⟩:=I.loc
 rw [z,ho'] at ho;cases ho;rw [hd'] at hd;cases hd
theorem Inv.funs (I:Inv X pins σ H s):s.heap.FunFrames X.base X.outer:=by
 have all:∀(l:List Env),(∀b∈frs l,b∈X.fs)->X.s₀.heap.FunFrames X.base l->s.heap.FunFrames X.base l:=by
  intro l
  induction l with
  | nil=>intro _ _;trivial
  | cons env r ih =>
   intro hs hl
   obtain ⟨hk,⟨L,o,hf,hn,ho,hd⟩,hr⟩:=hl
   have hL:L∈X.fs:=hs L (by unfold frs;rw [List.filterMap_cons,hf];exact List.mem_cons_self)
   obtain ⟨sl,e⟩:=I.base.slot L o ho (I.ok.frf L hL) hL λz=>I.ok.exfs L z hL
   exact ⟨hk,⟨L,_,hf,hn,e,hd⟩,ih (λb hb=>hs b (by unfold frs;rw [List.filterMap_cons,hf];exact List.mem_cons_of_mem _ hb)) hr⟩
 exact all X.outer (λ_ hb=>hb) I.ok.funs
theorem Inv.stack (I:Inv X pins σ H s):s.heap.FunFrames X.base X.stack:=by
 rcases I.ok.stk with e | ⟨e,hf⟩
 ·rw [e];exact I.funs
 ·rw [e]
  obtain ⟨m,hn,_⟩:=I.loc
  refine .cons (by rw [I.ok.kind];decide) hf hn ?_ I.funs
  exact Heap.get?_none_of_le (Nat.le_trans I.ok.bsz I.ok.above)
theorem Inv.stkSub (I:Inv X pins σ H s):∀b∈frs X.stack,b∈X.env.locals::X.fs:=λb hb=>by
 rcases I.ok.stk with e | ⟨e,hf⟩
 ·rw [e] at hb;exact List.mem_cons_of_mem _ hb
 ·rw [e] at hb
  unfold frs at hb
  rw [List.filterMap_cons,hf] at hb
  exact hb
theorem Inv.stkFree (I:Inv X pins σ H s):∀b∈frs X.stack,H b=none:=λb hb=>by
 rcases List.mem_cons.mp (I.stkSub b hb) with e | hb
 ·rw [e];exact I.free
 ·obtain ⟨_,o,ho,_⟩:=I.ok.funs.mem hb
  exact I.base.free b o ho (I.ok.frf b hb) λz=>I.ok.exfs b z hb
theorem Inv.step (I:Inv X pins σ H s)
  (hch:∀b∈ch,(b∈X.ex\/X.s₀.heap.objs.size<=b)/\b≠X.env.locals/\(∀x c,X.env.cells.lookup x=some c->c≠b)/\∀p∈X.pn++pins,p.1≠b)
  (keep:∀b o,b≠X.env.locals->b∉X.fs->b∉ch->s.heap.get? b=some o->H b=none->h'.get? b=some o)
  (slot:∀b o,b≠X.env.locals->b∈X.fs->b∉ch->s.heap.get? b=some o->H b=none->∃sl,h'.get? b=some { o with slots:=sl }) (free:∀b o,b∉ch->s.heap.get? b=some o->H b=none->H' b=none)
  (there:∀b o,b∉ch->s.heap.get? b=some o->∃o',h'.get? b=some o')
  (tups:∀b xs,H b=some (.tup xs)->H' b=some (.tup xs)) (frzs:∀b o u,H b=some (.frz o u)->H' b=some (.frz o u)) (tbls:∀b ps,H b=some (.tbl ps)->∃more,H' b=some (.tbl (ps++more)))
  (ns:∀m,s.heap.Ns X.env.locals m->h'.Ns X.env.locals m) (hok:HOk X.prog X.w H' h') (hg:AllBare g') :
  Inv X pins σ H' { s with heap:=h',gens:=g',drawn:=d',toks:=t' }:=by
 have neL:∀b o,X.s₀.heap.get? b=some o->b≠X.env.locals:=λb o e=>Nat.ne_of_lt (Nat.lt_of_lt_of_le (Heap.lt_size e) I.ok.above)
 have neC:∀b o,X.s₀.heap.get? b=some o->b∉X.ex->b∉ch:=λb o e hx hb=>by
  rcases (hch b hb).1 with z | z
  ·exact hx z
  ·exact absurd (Nat.lt_of_lt_of_le (Heap.lt_size e) z) (Nat.lt_irrefl _)
 have cellK:∀x c,X.env.cells.lookup x=some c->∀v,s.heap.IsCell c v->h'.IsCell c v:=λx c e v ⟨o,ho,hd⟩=>by
  have nch:c∉ch:=λz=>(hch c z).2.2.1 x c e rfl
  by_cases hc:c∈X.fs
  ·obtain ⟨sl,q⟩:=slot c o (I.cne x c e) hc nch ho (I.freeC x c e)
   exact ⟨_,q,hd⟩
  ·exact ⟨o,keep c o (I.cne x c e) hc nch ho (I.freeC x c e),hd⟩
 refine ⟨I.ok,I.os,hg,⟨λb o e n hb hx=>?_,λb o e n hb hx=>?_,λb o e n hx=>?_,λb o e hx=>?_,λb xs e=>tups b xs (I.base.tups b xs e),λb o xs e=>frzs b o xs (I.base.frzs b o xs e),λb ps e=>?_⟩,?_,λx c e=>?_,?_,λx c e=>?_,λp hp=>?_,hok,I.len⟩
 ·exact keep b o (neL b o e) hb (neC b o e hx) (I.base.keep b o e n hb hx) (I.base.free b o e n hx)
 ·obtain ⟨sl,e1⟩:=I.base.slot b o e n hb hx
  obtain ⟨sl',e2⟩:=slot b _ (neL b o e) hb (neC b o e hx) e1 (I.base.free b o e n hx)
  exact ⟨sl',e2⟩
 ·obtain ⟨o',e1⟩:=I.base.there b o e hx
  exact free b o' (neC b o e hx) e1 (I.base.free b o e n hx)
 ·obtain ⟨o',e1⟩:=I.base.there b o e hx
  exact there b o' (neC b o e hx) e1
 ·obtain ⟨m1,e1⟩:=I.base.tbls b ps e
  obtain ⟨m2,e2⟩:=tbls b _ e1
  exact ⟨m1++m2,by rw [e2,Array.append_assoc]⟩
 ·obtain ⟨m,hn,hl⟩:=I.loc
  refine ⟨m,ns m hn,λi x v e1 e2 e3=>?_⟩
  obtain ⟨u,r,l⟩:=hl i x v e1 e2 e3
  refine ⟨u,r,?_⟩
  rcases l with l | ⟨k,c,e,z⟩
  ·exact .inl l
  ·exact .inr ⟨k,c,e,cellK x c e _ z⟩
 ·obtain ⟨v,z⟩:=I.cell x c e
  exact ⟨v,cellK x c e v z⟩
 ·obtain ⟨m,⟨o,_,_,ho,_⟩,_⟩:=I.loc
  exact free _ o (λz=>(hch _ z).2.1 rfl) ho I.free
 ·obtain ⟨v,o,ho,hd⟩:=I.cell x c e
  exact free c o (λz=>(hch c z).2.2.1 x c e rfl) ho (I.freeC x c e)
 ·obtain ⟨e,n,ne,nf,d⟩:=I.pin p hp
  have nch:p.1∉ch:=λz=>(hch p.1 z).2.2.2 p hp rfl
  exact ⟨keep p.1 p.2 ne nf nch e n,free p.1 p.2 nch e n,ne,nf,d⟩
theorem Inv.un (I:Inv X pins σ H s) (u:Un X.fs [] H H' s.heap h') (hok:HOk X.prog X.w H' h'):Inv X pins σ H' { s with heap:=h',toks:=t' }:=by
 obtain ⟨m,⟨o,es,ep,ho,r⟩,_⟩:=id I.loc
 obtain ⟨sl,hL⟩:=u.any ho I.free (by simp)
 exact I.step (g':=s.gens) (d':=s.drawn) (ch:=[]) (λ_ z=>nomatch z) (λb o _ hb _ e n=>u.keep b o e n hb (by simp)) (λb o _ hb _ e n=>u.slot b o e n hb (by simp)) (λb o _ e n=>u.free b o e n (by simp)) (λb o _ e=>u.there b o e (by simp)) u.tups u.frzs u.tbls (λm' hm=>by
  obtain ⟨o',es',ep',ho',r'⟩:=hm
  rw [ho] at ho';cases ho'
  exact ⟨_,es',ep',hL,r'⟩) hok I.bare
theorem Inv.call (I:Inv X pins σ H s) (u:Un (frs X.stack) ch H H' s.heap h') (hok:HOk X.prog X.w H' h') (hg:AllBare g')
  (hch:∀b∈ch,(b∈X.ex\/X.s₀.heap.objs.size<=b)/\b≠X.env.locals/\(∀x c,X.env.cells.lookup x=some c->c≠b)/\∀p∈X.pn++pins,p.1≠b) :
  Inv X pins σ H' { s with heap:=h',gens:=g',drawn:=d',toks:=t' }:=by
 obtain ⟨m,⟨o,es,ep,ho,r⟩,_⟩:=id I.loc
 obtain ⟨sl,hL⟩:=u.any ho I.free λz=>(hch _ z).2.1 rfl
 exact I.step (ch:=ch) hch (λb o hL hb hc e n=>u.keep b o e n (λz=>(List.mem_cons.mp (I.stkSub b z)).elim hL hb) hc) (λb o _ _ hc e n=>u.any e n hc) (λb o hc e n=>u.free b o e n hc) (λb o hc e=>u.there b o e hc) u.tups u.frzs u.tbls (λm' hm=>by
  obtain ⟨o',es',ep',ho',r'⟩:=hm
  rw [ho] at ho';cases ho'
  exact ⟨_,es',ep',hL,r'⟩) hok hg
theorem Inv.turned (I:Inv X pins σ H s) (k:∀b o,b≠it->s.heap.get? b=some o->h'.get? b=some o) (hn:H it=none) (hL:it≠X.env.locals)
  (h1:it∈X.ex\/X.s₀.heap.objs.size<=it) (h2:∀x c,X.env.cells.lookup x=some c->c≠it) (h3:∀p∈X.pn++pins,p.1≠it):Inv X pins σ H { s with heap:=h',toks:=t' }:=by
 have nit:∀b u,H b=some u->b≠it:=λb u e z=>by rw [z,hn] at e;cases e
 refine I.step (g':=s.gens) (d':=s.drawn) (ch:=[it]) (λb hb=>?_) (λb o _ _ hc e _=>k b o (λz=>hc (by simp [z])) e) (λb o _ _ hc e _=>⟨o.slots,k b o (λz=>hc (by simp [z])) e⟩) (λ_ _ _ _ n=>n)
  (λb o hc e=>⟨o,k b o (λz=>hc (by simp [z])) e⟩) (λ_ _ e=>e) (λ_ _ _ e=>e) (λb ps e=>⟨#[],by rw [e];simp⟩) (λm hm=>?_) (λb u e=>?_) I.bare
 ·have e:b=it:=by simpa using hb
  subst e
  exact ⟨h1,hL,h2,h3⟩
 ·obtain ⟨o,es,ep,ho,r⟩:=hm
  exact ⟨o,es,ep,k _ o (Ne.symm hL) ho,r⟩
 ·refine (I.hok b u e).stay (λc v hc q=>k c v ?_ q) (λ_ q=>q) λ_ _ q=>q
  rcases hc with z | z
  ·rw [z];exact nit b u e
  ·exact nit c _ z
theorem Inv.tok (I:Inv X pins σ H s) (t:Nat):Inv X pins σ H { s with toks:=t }:=I.un (h':=s.heap) (t':=t) Un.refl I.hok
theorem Inv.kept (I:Inv X pins σ H s) (k:∀b u,s.heap.get? b=some u->h'.get? b=some u):Inv X pins σ H { s with heap:=h',toks:=t' }:=I.un (Un.kept k) (I.hok.kept k)
theorem Inv.laid (I:Inv X pins σ H s) (k:∀b u,s.heap.get? b=some u->h'.get? b=some u) (hp:s.heap.objs.size<=a) (new:J4 X.prog X.w (upd H a o) h' a o) :
  Inv X pins σ (upd H a o) { s with heap:=h',toks:=t' }:=I.un (Un.laid k hp (I.hok.fresh hp)) (I.hok.laid k hp new)
theorem Inv.write {x:Addr} (I:Inv X pins σ H s) (mu:Mut (H x)) (he:e=x\/H e=some (.own x)) (k:∀b u,b≠e->s.heap.get? b=some u->h'.get? b=some u) (heo:∃u,h'.get? e=some u)
  (new:J4 X.prog X.w (upd H x o) h' x o):Inv X pins σ (upd H x o) { s with heap:=h',toks:=t' }:=I.un (Un.write mu he k heo) (I.hok.write mu he k heo new)
theorem Inv.pins_of {pins':List (Addr × Obj)} (I:Inv X pins σ H s) (h:∀p∈pins',s.heap.get? p.1=some p.2/\H p.1=none/\p.1≠X.env.locals/\p.1∉X.fs/\∀v,p.2.data ≠ .cell v):Inv X pins' σ H s :=
 ⟨I.ok,I.os,I.bare,I.base,I.loc,I.cell,I.free,I.freeC,λp hp=>(List.mem_append.mp hp).elim (λz=>I.pin p (List.mem_append_left _ z)) (h p),I.hok,I.len⟩
theorem Qgo (hN:N.Nodup) (a:N[i]? = some x) (b:N[j]? = some x):i=j:=by
 obtain ⟨h1,e1⟩:=List.getElem?_eq_some_iff.mp a
 obtain ⟨h2,e2⟩:=List.getElem?_eq_some_iff.mp b
 exact (List.getElem_inj hN).mp (e1.trans e2.symm)
theorem X6 {M:Model} (I:Inv X pins σ H s) (hN:X.N.Nodup) (hi:X.N[i]? = some x) (hx:Loc X.env.scope x) (r:RelV v u)
  (h:∀s',Inv X pins (σ.set i (some v)) H s'->(∃a,Heap.SameBut a s.heap s'.heap/\(a=X.env.locals\/X.env.cells.lookup x=some a))->Q () s') (hf:X.fn x=true\/X.env.scope.names.lookup x=some .local:=by first | exact .inl rfl | exact .inr rfl | assumption):wpAny M A (storeName X.env x u) Q E s:=by
 obtain ⟨m,hn,hl⟩:=id I.loc
 have hcls:(X.env.scope.kind == .class || (X.env.scope.kind == .module && X.env.locals != X.env.globals))=false:=by rw [I.ok.kind];rfl
 have hiσ:i<σ.length:=by rw [I.len];exact (List.getElem?_eq_some_iff.mp hi).1
 have cne:=I.cne
 have tracked:∀{a:Addr} {h':Heap},(∃o,s.heap.get? a=some o/\H a=none)->Heap.SameBut a s.heap h'->HOk X.prog X.w H h':=λ{a h'} ha hs b ob e=>by
  obtain ⟨_,_,hfree⟩:=ha
  refine (I.hok b ob e).stay (λc w' hc q=>(hs.2 c ?_).trans q) (λ_ q=>q) λ_ _ q=>q
  rintro rfl
  rcases hc with rfl | hc
  ·rw [hfree] at e;cases e
  ·rw [hfree] at hc;cases hc
 rcases hx with hk | hk
 ·refine wpAny_storeName_local hk hn (λh' hn' hs=>?_) hcls
  obtain ⟨oL,_,_,hoL,_⟩:=id hn
  refine h _ ⟨I.ok,I.os,I.bare,⟨λb o e n hb hx=>?_,λb o e n hb hx=>?_,I.base.free,λb o e hx=>?_,I.base.tups,I.base.frzs,I.base.tbls⟩,⟨_,hn',λj y v' e1 e2 e3=>?_⟩,λy c e=>?_,I.free,I.freeC,λp hp=>?_,tracked ⟨oL,hoL,I.free⟩ hs,by simpa using I.len⟩ ⟨_,hs,.inl rfl⟩
  ·exact (hs.2 b (Nat.ne_of_lt (Nat.lt_of_lt_of_le (Heap.lt_size e) I.ok.above))).trans (I.base.keep b o e n hb hx)
  ·obtain ⟨sl,e1⟩:=I.base.slot b o e n hb hx
   exact ⟨sl,(hs.2 b (Nat.ne_of_lt (Nat.lt_of_lt_of_le (Heap.lt_size e) I.ok.above))).trans e1⟩
  ·obtain ⟨o',e1⟩:=I.base.there b o e hx
   exact ⟨o',(hs.2 b (Nat.ne_of_lt (Nat.lt_of_lt_of_le (Heap.lt_size e) I.ok.above))).trans e1⟩
  ·by_cases hj:j=i
   ·subst hj
    rw [hi] at e1;cases e1
    rw [List.getElem?_set_self hiσ] at e2
    cases e2
    exact ⟨u,r,.inl ⟨hk,by simp⟩⟩
   ·rw [List.getElem?_set_ne (Ne.symm hj)] at e2
    obtain ⟨u',r',q⟩:=hl j y v' e1 e2 e3
    refine ⟨u',r',?_⟩
    rcases q with ⟨k,e⟩ | ⟨k,c,e,z⟩
    ·refine .inl ⟨k,?_⟩
     have:y≠x:=λe=>hj (Qgo hN e1 (e ▸ hi))
     simp [this,e]
    ·exact .inr ⟨k,c,e,z.sameBut hs (cne y c e)⟩
  ·obtain ⟨w',z⟩:=I.cell y c e
   exact ⟨w',z.sameBut hs (cne y c e)⟩
  ·obtain ⟨e,n,ne,nf,d⟩:=I.pin p hp
   exact ⟨(hs.2 p.1 ne).trans e,n,ne,nf,d⟩
 ·have hfn:X.fn x=true:=by
   rcases hf with z | z
   ·exact z
   ·rw [z] at hk;cases hk
  obtain ⟨c,hc⟩:=I.ok.has x (.inl hk)
  obtain ⟨w',z⟩:=I.cell x c hc
  refine wpAny_storeName_cell I.ok.kind hk hc z (λh' hc' hs=>?_)
  obtain ⟨oc,hoc,hocd⟩:=id z
  refine h { s with heap:=h' } ⟨I.ok,I.os,I.bare,⟨λb o e n hb hx=>?_,λb o e n hb hx=>?_,I.base.free,λb o e hx=>?_,I.base.tups,I.base.frzs,I.base.tbls⟩,⟨m,hn.sameBut hs (Ne.symm (cne x c hc)),λj y v' e1 e2 e3=>?_⟩,λy c' e=>?_,I.free,I.freeC,λp hp=>?_,tracked ⟨oc,hoc,I.freeC x c hc⟩ hs,by simpa using I.len⟩ ⟨c,hs,.inr hc⟩
  ·exact (hs.2 b (Nat.ne_of_lt (Nat.lt_of_lt_of_le (Heap.lt_size e) (I.ok.cab x c hfn hc)))).trans (I.base.keep b o e n hb hx)
  ·obtain ⟨sl,e1⟩:=I.base.slot b o e n hb hx
   exact ⟨sl,(hs.2 b (Nat.ne_of_lt (Nat.lt_of_lt_of_le (Heap.lt_size e) (I.ok.cab x c hfn hc)))).trans e1⟩
  ·obtain ⟨o',e1⟩:=I.base.there b o e hx
   exact ⟨o',(hs.2 b (Nat.ne_of_lt (Nat.lt_of_lt_of_le (Heap.lt_size e) (I.ok.cab x c hfn hc)))).trans e1⟩
  ·by_cases hj:j=i
   ·subst hj
    rw [hi] at e1;cases e1
    rw [List.getElem?_set_self hiσ] at e2
    cases e2
    exact ⟨u,r,.inr ⟨.inl hk,c,hc,hc'⟩⟩
   ·rw [List.getElem?_set_ne (Ne.symm hj)] at e2
    obtain ⟨u',r',q⟩:=hl j y v' e1 e2 e3
    refine ⟨u',r',?_⟩
    rcases q with q | ⟨k,c',e,z'⟩
    ·exact .inl q
    ·refine .inr ⟨k,c',e,z'.sameBut hs ?_⟩
     rintro rfl
     exact hj (Qgo hN e1 (I.ok.inj _ _ _ e hc ▸ hi))
  ·by_cases hcc:c'=c
   ·subst hcc;exact ⟨_,hc'⟩
   ·obtain ⟨w2,z2⟩:=I.cell y c' e
    exact ⟨w2,z2.sameBut hs hcc⟩
  ·obtain ⟨e,n,ne,nf,d⟩:=I.pin p hp
   refine ⟨(hs.2 p.1 ?_).trans e,n,ne,nf,d⟩
   intro q
   rw [q,hoc] at e
   have q':oc=p.2:=Option.some.inj e
   exact d w' (by rw [← q'];exact hocd)
theorem Qb2 {M:Model} (I:Inv X pins σ H s) (hN:X.N.Nodup) (hi:X.N[i]? = some x) (hx:Loc X.env.scope x) (r:RelV v u)
  (h:∀s',Inv X pins (σ.set i (some v)) H s'->Q () s') (hf:X.fn x=true\/X.env.scope.names.lookup x=some .local:=by first | exact .inl rfl | exact .inr rfl | assumption):wpAny M A (storeName X.env x u) Q E s :=
 X6 I hN hi hx r (λs' I' _=>h s' I') hf
theorem Inv.call' (I:Inv X pins σ H s) (ho:s'.os=s.os) (u:Un (frs X.stack) ch H H' s.heap s'.heap) (hok:HOk X.prog X.w H' s'.heap) (hg:AllBare s'.gens)
  (hch:∀b∈ch,(b∈X.ex\/X.s₀.heap.objs.size<=b)/\b≠X.env.locals/\(∀x c,X.env.cells.lookup x=some c->c≠b)/\∀p∈X.pn++pins,p.1≠b):Inv X pins σ H' s':=by
 obtain ⟨h',g',d',t',o'⟩:=s'
 have e:o'=s.os:=ho
 subst e
 exact I.call (g':=g') (t':=t') (d':=d') u hok hg hch
end
abbrev XK:=Value->Option Addr->Hp->Prop
abbrev St:=List (Option V)
abbrev VK:=V->Hp->Prop
abbrev TE:=St->Hp->VK->Prop
abbrev TT:=St->Hp->(Bool->Hp->Prop)->Prop
abbrev TA:=St->Hp->(List V->Hp->Prop)->Prop
structure Ends where
 nx:St->Hp->Prop
 rt:VK
 bk:St->Hp->Prop:=λ_ _=>False
 ct:St->Hp->Prop:=λ_ _=>False
abbrev TS:=Ends->St->Hp->Prop
end L2
variable {xs ys:List L2.V} {e c:PySem.Expr} {Q:PySem.Value->PySem.Shared->Prop} {pos:PySem.Pos} {σ:L2.St} {y:L2.V} {K:PySem.W.Frag} {f:PySem.Value->PySem.Value->PySem.Sem PySem.Value} {st:PySem.Stmt} {te ta tb:L2.TE}
namespace L2
open PySem PySem.Spec PyProof.Rows
def EP (X:Cx) (pins:List (Addr × Obj)) (σ:St) (Q:VK) (u:Value) (s':Shared):Prop:=∃v H',Inv X pins σ H' s'/\RelV v u/\Q v H'
def TP (X:Cx) (pins:List (Addr × Obj)) (σ:St) (Q:Bool->Hp->Prop) (b:Bool) (s':Shared):Prop:=∃H',Inv X pins σ H' s'/\Q b H'
def AP (X:Cx) (pins:List (Addr × Obj)) (σ:St) (Q:List V->Hp->Prop) (us:List Value) (s':Shared):Prop:=∃vs H',Inv X pins σ H' s'/\Vals vs us/\Q vs H'
def SP (X:Cx) (pins:List (Addr × Obj)) (D:Ends) (f:Flow) (s':Shared):Prop :=
 match f with
 | .next=>∃σ' H',Inv X pins σ' H' s'/\D.nx σ' H'
 | .brk=>∃σ' H',Inv X pins σ' H' s'/\D.bk σ' H'
 | .cont=>∃σ' H',Inv X pins σ' H' s'/\D.ct σ' H'
 | .ret u=>∃v σ' H',Inv X pins σ' H' s'/\RelV v u/\D.rt v H'
def PE (X:Cx) (e:Expr) (t:TE):Prop :=
 ∀(pins:List (Addr × Obj)) (s:Shared) (σ:St) (H:Hp) (Q:VK),Inv X pins σ H s->t σ H Q->wpAny (model X.prog X.w) X.A (eval e X.env) (EP X pins σ Q) X.xe s
def PT (X:Cx) (e:Expr) (t:TT):Prop :=
 ∀(pins:List (Addr × Obj)) (s:Shared) (σ:St) (H:Hp) (Q:Bool->Hp->Prop),Inv X pins σ H s->t σ H Q->wpAny (model X.prog X.w) X.A (isTrue e X.env (eval e X.env)) (TP X pins σ Q) X.xe s
def PW (X:Cx) (e:Expr) (t:TT):Prop :=
 ∀(whole:Sem Value) (pins:List (Addr × Obj)) (s:Shared) (σ:St) (H:Hp) (Q:Bool->Hp->Prop),Inv X pins σ H s->t σ H Q->wpAny (model X.prog X.w) X.A (isTrue e X.env whole) (TP X pins σ Q) X.xe s
theorem PW.pt {t:TT} (h:PW X e t):PT X e t:=h _
def PA (X:Cx) (es:List Expr) (t:TA):Prop :=
 ∀(pos:Pos) (pins:List (Addr × Obj)) (s:Shared) (σ:St) (H:Hp) (Q:List V->Hp->Prop),Inv X pins σ H s->t σ H Q->wpAny (model X.prog X.w) X.A (spliced (backTo pos (starEach es X.env))) (AP X pins σ Q) X.xe s
def PS (X:Cx) (st:Stmt) (t:TS):Prop :=
 ∀(pins:List (Addr × Obj)) (s:Shared) (σ:St) (H:Hp) (D:Ends),Inv X pins σ H s->t D σ H->wpAny (model X.prog X.w) X.A (exec st X.env) (SP X pins D) X.xe s
def PSs (X:Cx) (st:List Stmt) (t:TS):Prop :=
 ∀(pins:List (Addr × Obj)) (s:Shared) (σ:St) (H:Hp) (D:Ends),Inv X pins σ H s->t D σ H->wpAny (model X.prog X.w) X.A (execs st X.env) (SP X pins D) X.xe s
theorem thn {α:Type} {t:Sem α} {Q Q':α->Shared->Prop} {M:Model} (h:wpAny M A t Q E s) (hQ:∀a s,Q a s->Q' a s):wpAny M A t Q' E s:=wpAny_mono h hQ λ_ _ x=>x
def tVar (i:Nat):TE:=λσ H Q=>∃v,σ[i]? = some (some v)/\Q v H
def tC (v:V):TE:=λ_ H Q=>Q v H
theorem Va (hN:X.N[i]? = some x) (hv:Vis X.env.scope x) (hd:(x == ("__debug__" : Str))=false:=by decide) (hcd:(x == ("__classdict__" : Str))=false:=by decide):PE X (.Name x pos) (tVar i):=by
 intro pins s σ H Q I h
 obtain ⟨v,e,h⟩:=h
 obtain ⟨m,hn,hl⟩:=I.loc
 obtain ⟨u,r,l⟩:=hl i x v hN e hv
 have fin:EP X pins σ Q u s:=⟨v,H,I,r,h⟩
 rcases l with ⟨hk,hm⟩ | ⟨hk,c,hc,hcell⟩
 ·exact wpAny_Name (wpAny_loadName_local I.ok.kind hk hn hm fin) hd
 ·rcases hk with hk | hk
  ·exact wpAny_Name (wpAny_loadName_cell I.ok.kind hk hc hcell fin) hd
  ·exact wpAny_Name (wpAny_loadName_free I.ok.kind hk hc hcell fin hcd) hd
theorem Qsb {i j pos}:PE X (.Constant (.int i) j pos) (tC (.int i)):=λ_ _ _ H _ I h=>wpAny_Constant_int ⟨.int i,H,I.tok _,⟨_,rfl⟩,h⟩
theorem Qup {b j pos}:PE X (.Constant (.bool b) j pos) (tC (.bl b)):=λ_ _ _ H _ I h=>Constant_bool ⟨.bl b,H,I,rfl,h⟩
theorem Qgl {x j pos}:PE X (.Constant (.str x) j pos) (tC (.str x)):=λ_ _ _ H _ I h=>Calls.Constant_str ⟨.str x,H,I.tok _,⟨_,rfl⟩,h⟩
def Gl (X:Cx) (x:Str):Prop:=X.env.kindOf x=some .globalImplicit
theorem Qcp (I:Inv X pins σ H s) (hg:Gl X x) (hm:X.mg x=some u) (h:Q u s)
  (hd:(x == ("__debug__" : Str))=false:=by decide):wpAny (model X.prog X.w) X.A (eval (.Name x pos) X.env) Q E s :=
 Calls.Name_function_global I.ok.kind hg (Calls.loadGlobal_global (by rw [I.ok.glob];exact I.mod.glob.keeps I.bk) hm h) hd
theorem Qd3 (I:Inv X pins σ H s) (hg:Gl X x) (hm:X.mg x=none) (hv:bootBuiltins x=some u) (h:Q u s)
  (hn:x ≠ "__name__":=by decide) (hd:(x == ("__debug__" : Str))=false:=by decide):wpAny (model X.prog X.w) X.A (eval (.Name x pos) X.env) Q E s:=by
 obtain ⟨mb,h1,h2⟩:=I.mod.blt
 exact Calls.Name_function_global I.ok.kind hg (Calls.loadGlobal_builtin (by rw [I.ok.glob];exact I.mod.glob.keeps I.bk) hm (by rw [I.ok.blt];exact h1.keeps I.bk) ((h2 x hn).trans hv) h) hd
theorem Qps (hg:Gl X x) (hm:X.mg x=some u) (r:RelV v u) (hd:(x == ("__debug__" : Str))=false:=by decide):PE X (.Name x pos) (tC v) :=
 λ_ _ _ H _ I h=>Qcp I hg hm ⟨v,H,I,r,h⟩ hd
theorem Qpx (hg:Gl X x) (hm:X.mg x=none) (hv:bootBuiltins x=some u) (r:RelV v u) (hn:x ≠ "__name__":=by decide) (hd:(x == ("__debug__" : Str))=false:=by decide):PE X (.Name x pos) (tC v) :=
 λ_ _ _ H _ I h=>Qd3 I hg hm hv ⟨v,H,I,r,h⟩ hn hd
section
variable {a b:Expr} {tA tB':TT} {rest:List Expr}
def tOr (t u:TT):TT:=λσ H Q=>t σ H λc H1=>if c=true then Q true H1 else u σ H1 Q
def tNot (t:TT):TT:=λσ H Q=>t σ H λc H1=>Q (!c) H1
theorem Qr1 (ha:PT X a tA):PW X (.BoolOp .Or [a] pos) tA:=by
 intro wh pins s σ H Q I h
 refine isTrue_or (thn (ha pins s σ H Q I h) λc s1 e=>?_)
 cases c with
 | false=>exact isTrue_or_nil e
 | true=>exact e
theorem Quj (ha:PT X a tA) (hb:PW X (.BoolOp .Or (b::rest) pos) tB'):PW X (.BoolOp .Or (a::b::rest) pos) (tOr tA tB'):=by
 intro wh pins s σ H Q I h
 refine isTrue_or (thn (ha pins s σ H _ I h) λc s1 ⟨H1,I1,q1⟩=>?_)
 cases c with
 | true=>exact ⟨H1,I1,q1⟩
 | false=>exact hb wh pins s1 σ H1 Q I1 q1
theorem Qr2 (ha:PT X a tA):PT X (.UnaryOp .Not a pos) (tNot tA):=by
 intro pins s σ H Q I h
 exact isTrue_not (ha pins s σ H (λc H1=>Q (!c) H1) I h)
def tIf (t:TT) (ta tb:TE):TE:=λσ H Q=>t σ H λc H1=>if c=true then ta σ H1 Q else tb σ H1 Q
theorem Qma (hc:PT X c tA) (ha:PE X a ta) (hb:PE X b tb):PE X (.IfExp c a b pos) (tIf tA ta tb):=by
 intro pins s σ H Q I h
 refine wpAny_IfExp (thn (hc pins s σ H _ I h) λd s1 ⟨H1,I1,q1⟩=>?_)
 cases d with
 | true=>exact ha pins s1 σ H1 Q I1 q1
 | false=>exact hb pins s1 σ H1 Q I1 q1
end
def SqL (K:PySem.W.Frag) (H:Hp) (a:Addr) (xs:List V):Prop :=
 Rd H a (.lst xs) \/
  ∃(o:Obj) (its:Array Value) (n:Nat),K.lookup a=some o/\o.cls=.type "list" /\ o.dict=none/\o.data=.seq its n/\its.size<=sizeLine/\Vals xs its.toList
def SqT (K:PySem.W.Frag) (H:Hp) (a:Addr) (xs:List V):Prop :=
 Rd H a (.tup xs) \/
  ∃(o:Obj) (its:Array Value) (n:Nat),K.lookup a=some o/\o.cls=.type "tuple" /\ o.data=.seq its n/\its.size<=sizeLine/\Vals xs its.toList
def absV:Value->Option V
 | .none=>some .non
 | .bool b=>some (.bl b)
 | .int i _=>some (.int i)
 | .str x _=>some (.str x)
 | .bytes b _=>some (.byt b)
 | .float b _=>some (.flt b)
 | .ref a=>some (.ref a)
 | .type n=>some (.ty n)
 | _=>none
theorem RelV.abs {x:V} (r:RelV x u):absV u=some x:=by
 cases x with
 | non=>cases r;rfl
 | bl _=>cases r;rfl
 | int _=>obtain ⟨t,rfl⟩:=r;rfl
 | str _=>obtain ⟨t,rfl⟩:=r;rfl
 | byt _=>obtain ⟨t,rfl⟩:=r;rfl
 | flt _=>obtain ⟨t,rfl⟩:=r;rfl
 | ref _=>cases r;rfl
 | ty _=>cases r;rfl
theorem RelV.inj {x:V} (r:RelV x u) (q:RelV y u):x=y:=Option.some.inj (r.abs.symm.trans q.abs)
theorem Vals.inj:∀{xs ys:List V} {us:List Value},Vals xs us->Vals ys us->xs=ys
 | _,_,_,.nil,.nil=>rfl
 | _,_,_,.cons r t,.cons r' t'=>by rw [r.inj r',Vals.inj t t']
theorem SqL.of (h:H a=some (.lst xs)):SqL K H a xs:=.inl (.inl h)
theorem SqT.of (h:H a=some (.tup xs)):SqT K H a xs:=.inl (.inl h)
theorem Inv.list (I:Inv X pins σ H s) (h:SqL X.K H a xs):∃its:List Value,Vals xs its/\PlainL s.heap a its.toArray/\xs.length<=sizeLine:=by
 rcases h with h | ⟨o,its,n,hk,hc,hd,hs,hz,r⟩
 ·obtain ⟨z,its,n,r,e⟩:=h.ok I.hok
  exact ⟨its,r,⟨_,n,e,rfl,rfl,rfl⟩,z⟩
 ·refine ⟨its.toList,r,⟨o,n,I.kIn a o hk,hc,hd,by simpa using hs⟩,?_⟩
  have e:=r.length
  simp only [Array.length_toList] at e
  omega
theorem Inv.tuple (I:Inv X pins σ H s) (h:SqT X.K H a xs):∃its:List Value,Vals xs its/\IsTup s.heap a its.toArray/\xs.length<=sizeLine:=by
 rcases h with h | ⟨o,its,n,hk,hc,hs,hz,r⟩
 ·obtain ⟨z,its,r,p⟩:=h.ok I.hok
  exact ⟨its,r,p,z⟩
 ·refine ⟨its.toList,r,⟨o,I.kIn a o hk,hc,n,by simpa using hs⟩,?_⟩
  have e:=r.length
  simp only [Array.length_toList] at e
  omega
theorem Inv.list_inj (I:Inv X pins σ H s) (h:SqL X.K H a xs) (h':SqL X.K H a ys):xs=ys:=by
 obtain ⟨its,r,⟨o,n,e,_,_,d⟩,_⟩:=I.list h
 obtain ⟨its',r',⟨o',n',e',_,_,d'⟩,_⟩:=I.list h'
 rw [e] at e';cases e'
 rw [d] at d'
 injection d' with d1 _
 have:its=its':=by simpa using congrArg Array.toList d1
 subst this
 exact r.inj r'
theorem Inv.tuple_inj (I:Inv X pins σ H s) (h:SqT X.K H a xs) (h':SqT X.K H a ys):xs=ys:=by
 obtain ⟨its,r,⟨o,e,_,n,d⟩,_⟩:=I.tuple h
 obtain ⟨its',r',⟨o',e',_,n',d'⟩,_⟩:=I.tuple h'
 rw [e] at e';cases e'
 rw [d] at d'
 injection d' with d1 _
 have:its=its':=by simpa using congrArg Array.toList d1
 subst this
 exact r.inj r'
abbrev Cx.wish (X:Cx) (E:Value->Shared->Prop):Cx:={ X with xe:=E }
abbrev Cx.nox (X:Cx):Cx:=X.wish λ_ _=>False
theorem Cx.Ok.wish (ok:X.Ok) (E:Value->Shared->Prop):(X.wish E).Ok :=
 ⟨ok.mod,ok.kind,ok.glob,ok.blt,ok.above,ok.inj,ok.has,ok.cab,ok.hd,ok.frames,ok.stk,ok.exf,ok.bs,ok.bsz,ok.noex,ok.exfs,ok.funs,ok.frf⟩
theorem Cx.Ok.unwish (ok:(X.wish E).Ok):X.Ok :=
 ⟨ok.mod,ok.kind,ok.glob,ok.blt,ok.above,ok.inj,ok.has,ok.cab,ok.hd,ok.frames,ok.stk,ok.exf,ok.bs,ok.bsz,ok.noex,ok.exfs,ok.funs,ok.frf⟩
theorem Inv.wish (I:Inv X pins σ H s) (E:Value->Shared->Prop):Inv (X.wish E) pins σ H s:=⟨I.ok.wish E,I.os,I.bare,I.base,I.loc,I.cell,I.free,I.freeC,I.pin,I.hok,I.len⟩
theorem Inv.unwish (I:Inv (X.wish E) pins σ H s):Inv X pins σ H s:=⟨I.ok.unwish,I.os,I.bare,I.base,I.loc,I.cell,I.free,I.freeC,I.pin,I.hok,I.len⟩
theorem SP.unwish {D:Ends} {f:Flow} (h:SP (X.wish E) pins D f s'):SP X pins D f s':=by
 cases f with
 | next=>obtain ⟨σ',H',I,q⟩:=h;exact ⟨σ',H',I.unwish,q⟩
 | brk=>obtain ⟨σ',H',I,q⟩:=h;exact ⟨σ',H',I.unwish,q⟩
 | cont=>obtain ⟨σ',H',I,q⟩:=h;exact ⟨σ',H',I.unwish,q⟩
 | ret u=>obtain ⟨v,σ',H',I,r,q⟩:=h;exact ⟨v,σ',H',I.unwish,r,q⟩
theorem PE.nox {t:TE} (h:PE X.nox e t):PE X e t:=λpins s σ H Q I hw =>
 wpAny_mono (h pins s σ H Q (I.wish _) hw) (λ_ _ ⟨v,H',I',r,q⟩=>⟨v,H',I'.unwish,r,q⟩) λ_ _ z=>False.elim z
theorem PSs.nox {st:List Stmt} {t:TS} (h:PSs X.nox st t):PSs X st t:=λpins s σ H D I hw =>
 wpAny_mono (h pins s σ H D (I.wish _) hw) (λ_ _ q=>q.unwish) λ_ _ z=>False.elim z
section
variable {rest:List Stmt} {t u:TS}
def Qtx:TS:=λD σ H=>D.nx σ H
def tSeq (t u:TS):TS:=λD σ H=>t { D with nx:=u D } σ H
theorem Qpj:PSs X [] Qtx:=λ_ _ σ H _ I h=>wpAny_execs_nil ⟨σ,H,I,h⟩
theorem Qce (h1:PS X st t) (h2:PSs X rest u):PSs X (st::rest) (tSeq t u):=by
 intro pins s σ H D I h
 refine wpAny_execs_cons (thn (h1 pins s σ H { D with nx:=u D } I h) λf s1 q=>?_)
 cases f with
 | next =>
  obtain ⟨σ',H',I',q⟩:=q
  exact h2 pins s1 σ' H' D I' q
 | ret v=>exact q
 | brk=>exact q
 | cont=>exact q
theorem Qai (h1:PS X st t):PSs X [st] t:=by
 intro pins s σ H D I h
 refine wpAny_execs_cons (thn (h1 pins s σ H D I h) λf s1 q=>?_)
 cases f with
 | next=>exact wpAny_execs_nil q
 | ret v=>exact q
 | brk=>exact q
 | cont=>exact q
theorem Inv.quiet (I:Inv X pins σ H s):interactive X.env=false:=by simp [interactive,I.ok.kind]
def Qtz (te:TE):TS:=λD σ H=>te σ H λ_ H1=>D.nx σ H1
theorem Qpk (he:PE X e te) (hs:swapsWith e none pos.line X.env=pure false:=by rfl):PS X (.Expr e pos) (Qtz te):=by
 intro pins s σ H D I h
 exact wpAny_Expr_any (thn (he pins s σ H _ I h) λv s1 ⟨x,H1,I1,r1,q1⟩=>⟨σ,H1,I1,q1⟩) I.quiet hs
def tRet (te:TE):TS:=λD σ H=>te σ H D.rt
theorem Qn9 (he:PE X e te):PS X (.Return (some e) pos) (tRet te):=by
 intro pins s σ H D I h
 exact wpAny_Return_some (thn (he pins s σ H _ I h) λv s1 ⟨x,H1,I1,r1,q1⟩=>⟨x,σ,H1,I1,r1,q1⟩)
def tIfS (c:TT) (t u:TS):TS:=λD σ H=>c σ H λb H1=>if b=true then t D σ H1 else u D σ H1
theorem Quk {a b:List Stmt} {tc:TT} (hc:PT X c tc) (ha:PSs X a t) (hb:PSs X b u):PS X (.If c a b pos) (tIfS tc t u):=by
 intro pins s σ H D I h
 refine wpAny_If (thn (hc pins s σ H _ I h) λd s1 ⟨H1,I1,q1⟩=>?_)
 cases d with
 | true=>exact ha pins s1 σ H1 D I1 q1
 | false=>exact hb pins s1 σ H1 D I1 q1
end
abbrev TG:=V->St->Hp->(St->Hp->Prop)->Prop
abbrev TGs:=List V->St->Hp->(St->Hp->Prop)->Prop
def PG (X:Cx) (target:Expr) (t:TG):Prop :=
 ∀(pins:List (Addr × Obj)) (s:Shared) (σ:St) (H:Hp) (v:V) (u:Value) (Q:St->Hp->Prop),Inv X pins σ H s->RelV v u->t v σ H Q ->
  wpAny (model X.prog X.w) X.A (assign target X.env u) (λ_ s'=>∃σ' H',Inv X pins σ' H' s'/\Q σ' H') X.xe s
def PGs (X:Cx) (ts:List Expr) (t:TGs):Prop :=
 ∀(pins:List (Addr × Obj)) (s:Shared) (σ:St) (H:Hp) (vs:List V) (us:List Value) (Q:St->Hp->Prop),Inv X pins σ H s->Vals vs us->t vs σ H Q ->
  wpAny (model X.prog X.w) X.A (assignInOrder ((assignEach ts X.env).map (·.2)) us) (λ_ s'=>∃σ' H',Inv X pins σ' H' s'/\Q σ' H') X.xe s
abbrev TSet:=V->V->V->Hp->(Hp->Prop)->Prop
end L2
variable {o:PySem.Obj} {es:List PySem.Expr} {n:Nat} {to:L2.TE} {tg:PySem.Expr} {g:L2.TG} {pos':PySem.Pos}
namespace L2
open PySem PySem.Spec PyProof.Rows
def PSet (X:Cx) (t:TSet):Prop :=
 ∀(pins:List (Addr × Obj)) (s:Shared) (σ:St) (H:Hp) (o i v:V) (ov iv u:Value) (Q:Hp->Prop),Inv X pins σ H s->RelV o ov->RelV i iv->RelV v u->t o i v H Q ->
  wpAny (model X.prog X.w) X.A (setItem ov iv u) (λ_ s'=>∃H',Inv X pins σ H' s'/\Q H') X.xe s
def V1 (i:Nat):TG:=λv σ H Q=>Q (σ.set i (some v)) H
theorem Ua (hN:X.N.Nodup) (hi:X.N[i]? = some x) (hx:Loc X.env.scope x) (hf:X.fn x=true\/X.env.scope.names.lookup x=some .local:=by first | exact .inl rfl | exact .inr rfl | assumption):PG X (.Name x pos) (V1 i):=by
 intro pins s σ H v u Q I r h
 exact wpAny_assign_Name (Qb2 I hN hi hx r (λs' I'=>⟨_,H,I',h⟩) hf)
def gNil:TGs:=λvs σ H Q=>vs=[]/\Q σ H
def Qa2 (t:TG) (u:TGs):TGs:=λvs σ H Q=>∃v r,vs=v::r/\t v σ H λσ' H'=>u r σ' H' Q
theorem Qe4:PGs X [] gNil:=by
 intro pins s σ H vs us Q I r h
 obtain ⟨e,h⟩:=h
 subst e
 cases r
 exact assignInOrder_nil ⟨σ,H,I,h⟩
theorem Vp {t:TG} {u:TGs} (h1:PG X e t) (h2:PGs X es u)
  (hs:(assignEach (e::es) X.env).map (·.2)=assign e X.env::(assignEach es X.env).map (·.2):=by rfl):PGs X (e::es) (Qa2 t u):=by
 intro pins s σ H vs us Q I r h
 obtain ⟨v,vr,e1,h⟩:=h
 subst e1
 cases r with
 | cons r rr =>
  rw [hs]
  refine assignInOrder_cons (thn (h1 pins s σ H _ _ _ I r h) λ_ s1 ⟨σ1,H1,I1,q1⟩=>?_)
  exact h2 pins s1 σ1 H1 _ _ Q I1 rr q1
def gTup (K:PySem.W.Frag) (n:Nat) (t:TGs):TG:=λv σ H Q=>∃a xs,v=.ref a/\SqT K H a xs/\xs.length=n/\t xs σ H Q
theorem Qja {k:Nat} {t:TGs} (hc:X.calm=true) (h:PGs X es t)
  (hn:(assignEach es X.env).length=n:=by rfl) (hst:(assignEach es X.env).findIdx? (·.1)=none:=by rfl):PG X (.Tuple es k pos) (gTup X.K n t):=by
 intro pins s σ H v u Q I r hw
 obtain ⟨a,xs,e1,hq,hl,hw⟩:=hw
 subst e1
 cases r
 obtain ⟨its,rv,ht,hz⟩:=I.tuple hq
 refine assign_Tuple_tuple (I.ok.hd hc) ht (by simp [hn,← hl,rv.length]) hst λh' hx=>?_
 have I1:Inv X pins σ H { s with heap:=h' }:=I.kept (t':=s.toks) λb o e=>hx b o (Nat.ne_of_lt (Heap.lt_size e)) e
 exact h pins _ σ H xs _ Q I1 (by simpa using rv) hw
def gSub (to ti:TE) (t:TSet):TG:=λv σ H Q=>to σ H λo H1=>ti σ H1 λi H2=>t o i v H2 λH3=>Q σ H3
theorem Qr9 {o i:Expr} {ti:TE} {t:TSet} (ho:PE X o to) (hi:PE X i ti) (hs:PSet X t)
  (ha:∀v,assign (.Subscript o i pos) X.env v=(do
   let ov ← holding [v] (eval o X.env)
   let iv ← holding [v,ov] (eval i X.env)
   standAt pos
   holding [v,ov,iv] (setItem ov iv v)
   release [v,ov,iv] []):=by intro _;rfl):PG X (.Subscript o i pos) (gSub to ti t):=by
 intro pins s σ H v u Q I r h
 rw [ha]
 refine wpAny_bind (wpAny_holding (thn (ho pins s σ H _ I h) λov s1 ⟨x,H1,I1,r1,q1⟩=>?_))
 refine wpAny_bind (wpAny_holding (thn (hi pins s1 σ H1 _ I1 q1) λiv s2 ⟨y,H2,I2,r2,q2⟩=>?_))
 refine wpAny_bind (wpAny_standAt (wpAny_bind (wpAny_holding (thn (hs pins s2 σ H2 x y v ov iv u _ I2 r1 r2 r q2) λ_ s3 ⟨H3,I3,q3⟩=>?_))))
 exact wpAny_release ⟨σ,H3,I3,q3⟩
def tAsg (te:TE) (g:TG):TS:=λD σ H=>te σ H λx H1=>g x σ H1 D.nx
theorem Qr5 (he:PE X e te) (hg:PG X tg g) (hs:swapsWithSole [tg] e pos.line X.env=pure false:=by rfl) (hw:swappedStores [tg] e X.env=pure none:=by rfl)
  (h1:(assignEach [tg] X.env).map (·.2)=[assign tg X.env]:=by rfl):PS X (.Assign [tg] e pos) (tAsg te g):=by
 intro pins s σ H D I h
 refine wpAny_Assign_stores (thn (he pins s σ H _ I h) λv s1 ⟨x,H1,I1,r1,q1⟩=>?_) hs hw
 rw [h1]
 exact thn (hg pins s1 σ H1 x v _ I1 r1 q1) λ_ s2 q=>q
theorem Qr3 (hN:X.N.Nodup) (hi:X.N[i]? = some x) (hx:Loc X.env.scope x) (he:PE X e te) (hs:swapsWith e (some (.Name x pos')) pos.line X.env=pure false:=by rfl) (hf:X.fn x=true\/X.env.scope.names.lookup x=some .local:=by first | exact .inl rfl | exact .inr rfl | assumption) :
  PS X (.Assign [.Name x pos'] e pos) (tAsg te (V1 i)):=by
 intro pins s σ H D I h
 refine wpAny_Assign_Name (thn (he pins s σ H _ I h) λv s1 ⟨y,H1,I1,r1,q1⟩=>?_) hs
 exact Qb2 I1 hN hi hx r1 (λs2 I2=>⟨_,H1,I2,q1⟩) hf
structure It where
 go:Nat->Hp->Prop
 yld:Nat->Hp->V->Hp->Prop
 stop:Nat->Hp->Prop
def FpOk (X:Cx) (pins:List (Addr × Obj)) (H:Hp) (b:Addr):Prop :=
 H b=none/\b≠X.env.locals/\b∉X.fs/\(b∈X.ex\/X.s₀.heap.objs.size<=b)/\(∀x c,X.env.cells.lookup x=some c->c≠b)/\∀p∈X.pn++pins,p.1≠b
theorem Inv.fpOk (I:Inv X pins σ H s) (hb:s.heap.objs.size<=b) (hn:H' b=none):FpOk X pins H' b:=by
 refine ⟨hn,Nat.ne_of_gt (Nat.lt_of_lt_of_le I.lt hb),I.nofs hb,.inr (Nat.le_trans I.sz hb),λx c e z=>?_,λp hp z=>?_⟩
 ·obtain ⟨v,q⟩:=I.cell x c e
  exact absurd (Nat.lt_of_lt_of_le q.lt (by rw [z];exact hb)) (Nat.lt_irrefl _)
 ·exact absurd (Nat.lt_of_lt_of_le (Heap.lt_size (I.pin p hp).1) (by rw [z];exact hb)) (Nat.lt_irrefl _)
structure Turn (P:Program) (w:World) (K:PySem.W.Frag) (tg:Expr) (J:It) (fp:List Addr) (it:Addr) (tn:Nat->Heap->Prop):Prop where
 mem:it∈fp
 obj:∀i h,tn i h->∀b∈fp,∃o,h.get? b=some o/\∀v,o.data ≠ .cell v
 keep:∀i h h',tn i h->(∀b∈fp,∀o,h.get? b=some o->h'.get? b=some o)->tn i h'
 item:∀(X:Cx),X.prog=P->X.w=w->X.K=K->X.calm=true->∀(i:Nat) (pins:List (Addr × Obj)) (s:Shared) (σ:St) (H:Hp) (E:Value->Shared->Prop),Inv X pins σ H s->(∀b∈fp,FpOk X pins H b)->tn i s.heap->J.go i H ->
  wpAny (model P w) X.A (pyNext (.ref it)) (λr s1=>∃u,r=some u /\
   wpAny (model P w) X.A (letOwnedTupleGo tg (.ref it) u) (λ_ s2=>∃x H',Inv X pins σ H' s2/\RelV x u/\J.yld i H x H'/\tn (i+1) s2.heap/\∀b∈fp,H' b=none) E s1) E s
 done:∀(X:Cx),X.prog=P->X.w=w->X.K=K->X.calm=true->∀(i:Nat) (pins:List (Addr × Obj)) (s:Shared) (σ:St) (H:Hp) (E:Value->Shared->Prop),Inv X pins σ H s->(∀b∈fp,FpOk X pins H b)->tn i s.heap->J.stop i H ->
  wpAny (model P w) X.A (pyNext (.ref it)) (λr s1=>r=none/\Inv X pins σ H s1) E s
 self:∀(A:Around) (i:Nat) (s:Shared) (Q:Value->Shared->Prop) (E:Value->Shared->Prop),tn i s.heap->Q (.ref it) s->wpAny (model P w) A (pyIter (.ref it)) Q E s
abbrev TI:=St->Hp->(It->Hp->Prop)->Prop
end L2
variable {vs:List L2.V} {R:PySem.Result->PySem.Shared->Prop} {lo hi:Option Int} {p:PySem.Pos} {fp:List PySem.Addr} {pl:PySem.Sem Bool} {iter:PySem.Expr} {body:List PySem.Stmt} {wi:L2.TI}
namespace L2
open PySem PySem.Spec PyProof.Rows
def PIE (X:Cx) (pins:List (Addr × Obj)) (σ:St) (tg:Expr) (R:It->Hp->Prop) (itv:Value) (s2:Shared):Prop :=
 ∃(it:Addr) (fp:List Addr) (tn:Nat->Heap->Prop) (J:It) (H':Hp),itv=.ref it/\Inv X pins σ H' s2/\Turn X.prog X.w X.K tg J fp it tn/\tn 0 s2.heap/\(∀b∈fp,FpOk X pins H' b)/\R J H'
def PI (X:Cx) (tg iter:Expr) (wi:TI):Prop :=
 ∀(pins:List (Addr × Obj)) (s:Shared) (σ:St) (H:Hp) (R:It->Hp->Prop),Inv X pins σ H s->wi σ H R ->
  wpAny (model X.prog X.w) X.A (eval iter X.env) (λv s1=>wpAny (model X.prog X.w) X.A (pyIter v) (PIE X pins σ tg R) X.xe s1) X.xe s
theorem Qkd {M:Model} {n:String} {vs:Array Value} {Q:Unit->Shared->Prop} (ho:s.heap.get? it=some o) (hc:o.cls=.type n) (hd:o.data=.fields vs)
    (hn:["enumerate","zip","dict_itemiterator","dict_reverseitemiterator","odict_iterator","itertools.zip_longest","itertools.pairwise"].contains n=false) (hQ:Q () s):wpAny M A (letOwnedTupleGo tg (.ref it) u) Q E s:=by
  unfold letOwnedTupleGo
  cases tg <;> first
    | exact wpAny_pure hQ
    | (cases u <;> first
        | exact wpAny_pure hQ
        | (refine wpAny_bind (wpAny_load ho ?_)
           rw [hc,hd]
           show wpAny M A (if (["enumerate","zip","dict_itemiterator","dict_reverseitemiterator","odict_iterator","itertools.zip_longest","itertools.pairwise"].contains n && vs[0]? == some (rawInt _))=true then _ else _) Q E s
           rw [if_neg (by intro h;rw [hn,Bool.false_and] at h;cases h)]
           exact wpAny_pure hQ))
def Itl (K:PySem.W.Frag) (a:Addr):It :=
 ⟨λi H=>∃xs x,SqL K H a xs/\xs[i]? = some x,λi H x H'=>H'=H/\∀xs,SqL K H a xs->xs[i]? = some x,λi H=>∃xs,SqL K H a xs/\xs.length<=i⟩
def Itt (K:PySem.W.Frag) (a:Addr):It :=
 ⟨λi H=>∃xs x,SqT K H a xs/\xs[i]? = some x,λi H x H'=>H'=H/\∀xs,SqT K H a xs->xs[i]? = some x,λi H=>∃xs,SqT K H a xs/\xs.length<=i⟩
def Itr (lo:Int) (n:Nat):It:=⟨λi _=>i<n,λi H x H'=>H'=H/\x=.int (lo+i),λi _=>n<=i⟩
theorem Qib (a it:Addr):Turn P w K tg (Itl K a) [it] it (λi h=>h.IsListIter it a i) where
 mem:=by simp
 obj:=λi h st b hb=>by
  have e:b=it:=by simpa using hb
  subst e
  obtain ⟨o,e,c,d⟩:=st
  exact ⟨o,e,λv z=>by rw [d] at z;cases z⟩
 keep:=λi h h' st k=>st.at λo e=>k it (by simp) o e
 item:=by
  intro X hP hw hK hc i pins s σ H E I hf st hg
  subst hP hw hK
  obtain ⟨xs,x,hq,hx⟩:=hg
  obtain ⟨its,rv,p,hz⟩:=I.list hq
  obtain ⟨u,hu,ru⟩:=rv.get hx
  obtain ⟨f0,f1,f2,f3,f4,f5⟩:=hf it (by simp)
  refine wpAny_pyNext_list_item st p.isList (x:=u) (by simpa using hu) λh' st' sb=>?_
  have I1:Inv X pins σ H { s with heap:=h' }:=I.turned (t':=s.toks) (λb o hb e=>(sb.2 b hb).trans e) f0 f1 f3 f4 f5
  obtain ⟨o,e,c,d⟩:=id st'
  exact ⟨u,rfl,Qkd (s:={ s with heap:=h' }) e c d (by decide) ⟨x,H,I1,ru,⟨rfl,λys hy=>by rw [I.list_inj hy hq];exact hx⟩,st',λb hb=>(hf b hb).1⟩⟩
 done:=by
  intro X hP hw hK hc i pins s σ H E I hf st hg
  subst hP hw hK
  obtain ⟨xs,hq,hx⟩:=hg
  obtain ⟨its,rv,p,hz⟩:=I.list hq
  obtain ⟨f0,f1,f2,f3,f4,f5⟩:=hf it (by simp)
  have hl:=rv.length
  exact wpAny_pyNext_list_end (I.ok.hd hc) st p.isList (by simp;omega) λh' eb=>⟨rfl,I.turned (t':=s.toks) (λb o hb e=>eb b o hb e) f0 f1 f3 f4 f5⟩
 self:=λ_ _ _ _ _ st h=>wpAny_pyIter_listiter st h
theorem Qha (a it:Addr):Turn P w K tg (Itt K a) [it] it (λi h=>h.IsTupleIter it a i) where
 mem:=by simp
 obj:=λi h st b hb=>by
  have e:b=it:=by simpa using hb
  subst e
  obtain ⟨o,e,c,d⟩:=st
  exact ⟨o,e,λv z=>by rw [d] at z;cases z⟩
 keep:=λi h h' st k=>st.at λo e=>k it (by simp) o e
 item:=by
  intro X hP hw hK hc i pins s σ H E I hf st hg
  subst hP hw hK
  obtain ⟨xs,x,hq,hx⟩:=hg
  obtain ⟨its,rv,p,hz⟩:=I.tuple hq
  obtain ⟨u,hu,ru⟩:=rv.get hx
  obtain ⟨f0,f1,f2,f3,f4,f5⟩:=hf it (by simp)
  refine wpAny_pyNext_tuple_item st (show s.heap.IsTuple a its.toArray from p) (x:=u) (by simpa using hu) λh' st' sb=>?_
  have I1:Inv X pins σ H { s with heap:=h' }:=I.turned (t':=s.toks) (λb o hb e=>(sb.2 b hb).trans e) f0 f1 f3 f4 f5
  obtain ⟨o,e,c,d⟩:=id st'
  exact ⟨u,rfl,Qkd (s:={ s with heap:=h' }) e c d (by decide) ⟨x,H,I1,ru,⟨rfl,λys hy=>by rw [I.tuple_inj hy hq];exact hx⟩,st',λb hb=>(hf b hb).1⟩⟩
 done:=by
  intro X hP hw hK hc i pins s σ H E I hf st hg
  subst hP hw hK
  obtain ⟨xs,hq,hx⟩:=hg
  obtain ⟨its,rv,p,hz⟩:=I.tuple hq
  obtain ⟨f0,f1,f2,f3,f4,f5⟩:=hf it (by simp)
  have hl:=rv.length
  exact wpAny_pyNext_tuple_end (I.ok.hd hc) st (show s.heap.IsTuple a its.toArray from p) (by simp;omega) λh' eb=>⟨rfl,I.turned (t':=s.toks) (λb o hb e=>eb b o hb e) f0 f1 f3 f4 f5⟩
 self:=λ_ _ _ _ _ st h=>wpAny_pyIter_tupleiter st h
theorem Qhb (it:Addr) (lo:Int) (n:Nat):Turn P w K tg (Itr lo n) [it] it (λi h=>IsRangeIter h it (lo+(i:Nat)*1) ((n:Int)-(i:Nat)) 1) where
 mem:=by simp
 obj:=λi h st b hb=>by
  have e:b=it:=by simpa using hb
  subst e
  exact ⟨_,st,λv z=>by
   have z':Data.fields _=Data.cell v:=z
   cases z'⟩
 keep:=λi h h' st k=>k it (by simp) _ st
 item:=by
  intro X hP hw hK hc i pins s σ H E I hf st hg
  subst hP hw hK
  obtain ⟨f0,f1,f2,f3,f4,f5⟩:=hf it (by simp)
  have W:=Walks.range (prog:=X.prog) (w:=X.w) (I.ok.hd hc) it lo 1 n
  refine W.item i s _ _ hg st λv h' tk hv st' kk=>?_
  obtain ⟨t,rfl⟩:=hv
  have I1:Inv X pins σ H { s with heap:=h',toks:=tk }:=I.turned (λb o hb e=>kk b o (by simpa using hb) e) f0 f1 f3 f4 f5
  refine ⟨_,rfl,Qkd (s:={ s with heap:=h',toks:=tk }) (n:="range_iterator") st' rfl rfl (by decide) ⟨.int (lo+i),H,I1,⟨t,?_⟩,⟨rfl,rfl⟩,st',λb hb=>(hf b hb).1⟩⟩
  rw [Int.mul_one]
 done:=by
  intro X hP hw hK hc i pins s σ H E I hf st hg
  subst hP hw hK
  obtain ⟨f0,f1,f2,f3,f4,f5⟩:=hf it (by simp)
  exact wpAny_pyNext_range_end (I.ok.hd hc) st (by have:n<=i:=hg;omega) λh' eb=>⟨rfl,I.turned (t':=s.toks) (λb o hb e=>eb b o hb e) f0 f1 f3 f4 f5⟩
 self:=λ_ _ _ _ _ st h=>wpAny_pyIter_rangeiter st h
theorem Qlu {R:It->Hp->Prop} {lo hi:Int} {t u v:Tok} {tk:Nat} (I:Inv X pins σ H s) (h1:-(2 ^ 62)<=lo) (h2:lo<2 ^ 62) (h3:-(2 ^ 62)<=hi) (h4:hi<2 ^ 62)
  (q:R (Itr lo (hi-lo).toNat) H):wpAny (model X.prog X.w) X.A (pyIter (.ref s.heap.objs.size)) (PIE X pins σ tg R) E { s with heap:=s.heap.push { cls:=.type "range",data:=.fields #[.int lo t,.int hi u,.int 1 v] },toks:=tk }:=by
 refine wpAny_pyIter_range (IsRange.new ..) (small_one h1 h2 h3 h4) ?_
 have I1:Inv X pins σ H { s with heap:=s.heap.push { cls:=.type "range",data:=.fields #[.int lo t,.int hi u,.int 1 v] },toks:=tk }:=I.kept λb o e=>Heap.get?_push_of_some _ e
 refine ⟨(s.heap.push { cls:=.type "range",data:=.fields #[.int lo t,.int hi u,.int 1 v] }).objs.size,[(s.heap.push { cls:=.type "range",data:=.fields #[.int lo t,.int hi u,.int 1 v] }).objs.size],_,_,H,rfl,
  I1.kept (t':=tk) λb o e=>Heap.get?_push_of_some _ e,Qhb _ lo (hi-lo).toNat,?_,λb hb=>?_,q⟩
 ·have e1:lo+((0:Nat):Int)*1=lo:=by simp
  have e2:(((hi-lo).toNat:Nat):Int)-((0:Nat):Int)=Builtin.Range.rangeSize lo hi 1:=by rw [rangeSize_one];split <;> omega
  show IsRangeIter _ _ (lo+((0:Nat):Int)*1) ((((hi-lo).toNat:Nat):Int)-((0:Nat):Int)) 1
  rw [e1,e2]
  exact Heap.get?_push_size _ rfl
 ·have e:b=(s.heap.push { cls:=.type "range",data:=.fields #[.int lo t,.int hi u,.int 1 v] }).objs.size:=by simpa using hb
  subst e
  exact I1.fpOk (Nat.le_refl _) (I1.hok.fresh (Nat.le_refl _))
def Qu0 (ta:TA):TI:=λσ H R=>ta σ H λvs H1=>∃j:Int,vs=[.int j] /\ -(2 ^ 62)<=j/\j<2 ^ 62/\R (Itr 0 j.toNat) H1
theorem Qi9 {a:Expr} {ta:TA} (hg:Gl X "range") (hm:X.mg "range" = none) (ha:PA X [a] ta) (hs:starEach [a] X.env=[(false,eval a X.env)]:=by rfl):PI X tg (.Call (.Name "range" p) [a] [] pos) (Qu0 ta):=by
 intro pins s σ H R I h
 refine Call_ (Qd3 I hg hm boot_range (PyProof.Rows.callWith_type1 (thn (ha pos pins s σ H _ I h) λus s1 ⟨vs,H1,I1,r1,q1⟩=>?_) hs rfl))
 obtain ⟨j,e,q1,q2,q⟩:=q1
 subst e
 cases r1 with
 | cons r rr =>
  cases rr
  obtain ⟨t,rfl⟩:=r
  exact call_range_1 (Qlu I1 (by omega) (by omega) q1 q2 (by simpa using q))
def tFor (wi:TI) (g:TG) (tb:TS):TS:=λD σ H=>wi σ H λJ H1=>∃W:Nat->Nat->St->Hp->Prop,(∃m,W 0 m σ H1)/\∀i m σ H,W i m σ H ->
 (J.stop i H/\D.nx σ H)\/(J.go i H/\∃N:St->Hp->Prop,(∀σ' H',N σ' H'->∃m',m' < m/\W (i+1) m' σ' H')/\∀x H',J.yld i H x H'->g x σ H' λσ2 H2=>tb { D with nx:=N,ct:=N,bk:=D.nx } σ2 H2)
def Qaj (fp:List Addr) (h:Heap):List (Addr × Obj):=fp.filterMap λb=>(h.get? b).map λo=>(b,o)
theorem Zg {h:Heap} (hb:b∈fp) (e:h.get? b=some o):(b,o)∈Qaj fp h:=List.mem_filterMap.mpr ⟨b,hb,by rw [e];rfl⟩
theorem Qjl {h:Heap} {p:Addr × Obj} (hp:p∈Qaj fp h):p.1∈fp/\h.get? p.1=some p.2:=by
 obtain ⟨b,hb,e⟩:=List.mem_filterMap.mp hp
 cases q:h.get? b with
 | none=>rw [q] at e;cases e
 | some o =>
  rw [q] at e
  have e':(b,o)=p:=Option.some.inj e
  subst e'
  exact ⟨hb,q⟩
theorem Inv.pinned (I:Inv X pins σ H s) (hf:∀b∈fp,FpOk X pins H b) (ho:∀b∈fp,∃o,s.heap.get? b=some o/\∀v,o.data ≠ .cell v):Inv X (pins++Qaj fp s.heap) σ H s :=
 I.pins_of λp hp=>(List.mem_append.mp hp).elim (λz=>I.pin p (List.mem_append_right _ z)) λz=>by
  obtain ⟨hb,e⟩:=Qjl z
  obtain ⟨f0,f1,f2,_⟩:=hf p.1 hb
  obtain ⟨o,e',d⟩:=ho p.1 hb
  rw [e] at e';cases e'
  exact ⟨e,f0,f1,f2,d⟩
theorem Inv.unpinned {pl:List (Addr × Obj)} (I:Inv X (pins++pl) σ H s):Inv X pins σ H s:=I.pins_of λp hp=>I.pin p (List.mem_append_right _ (List.mem_append_left _ hp))
theorem Qr4 {tb:TS} (hp:PassesOwn (model X.prog X.w) X.A X.env X.xe) (hc:X.calm=true) (hi:PI X tg iter wi) (hg:PG X tg g) (hb:PSs X body tb)
  (hs:∀x,foldedSetIterable iter X.env x=pure x:=by intro _;rfl):PS X (.For tg iter body [] pos) (tFor wi g tb):=by
 intro pins s σ H D I h
 refine wpAny_For (thn (hi pins s σ H _ I h) λv s1 h1=>thn h1 λitv s2 h2=>?_) hs
 obtain ⟨it,fp,tn,J,H2,e,I2,T,st2,f2,W,⟨m0,w0⟩,turn⟩:=h2
 subst e
 -- what stays true of the iterator's objects through the loop
 have stat:∀{H':Hp},(∀b∈fp,H' b=none)->∀b∈fp,FpOk X pins H' b:=λhn b hb=>⟨hn b hb,(f2 b hb).2⟩
 refine codeAny_forLoop_any (λn s'=>∃i σ' H',Inv X pins σ' H' s'/\tn i s'.heap/\(∀b∈fp,H' b=none)/\W i n σ' H') ?_ m0 ⟨0,σ,H2,I2,st2,λb hb=>(f2 b hb).1,w0⟩
 rintro n s3 ⟨i,σ3,H3,I3,st3,fr3,w3⟩
 rcases turn i n σ3 H3 w3 with ⟨stop,qn⟩ | ⟨go,N,hN,step⟩
 ·refine wpAny_passesOwn hp (thn (T.done X rfl rfl rfl hc i pins s3 σ3 H3 X.xe I3 (stat fr3) st3 stop) λr s4 ⟨hr,I4⟩=>?_)
  subst hr
  exact wpAny_execs_nil ⟨σ3,H3,I4,qn⟩
 ·refine wpAny_passesOwn hp (thn (T.item X rfl rfl rfl hc i pins s3 σ3 H3 X.xe I3 (stat fr3) st3 go) λr s4 ⟨u,hr,h4⟩=>?_)
  subst hr
  refine wpAny_passesOwn hp (thn h4 λ_ s5 ⟨x,H5,I5,r5,y5,st5,fr5⟩=>?_)
  have I5':=I5.pinned (stat fr5) (T.obj _ _ st5)
  refine wpAny_passesOwn hp (thn (hg _ s5 σ3 H5 x u _ I5' r5 (step x H5 y5)) λ_ s6 ⟨σ6,H6,I6,q6⟩=>?_)
  refine wpAny_passesOwn hp (thn (hb _ s6 σ6 H6 _ I6 q6) λf s7 q7=>?_)
  have again:∀{σ7:St} {H7:Hp},Inv X (pins++Qaj fp s5.heap) σ7 H7 s7->N σ7 H7->∃m,m<n/\∃i σ' H',Inv X pins σ' H' s7/\tn i s7.heap/\(∀b∈fp,H' b=none)/\W i m σ' H':=λ{σ7 H7} I7 n7=>by
   obtain ⟨m',hm,w7⟩:=hN σ7 H7 n7
   refine ⟨m',hm,i+1,σ7,H7,I7.unpinned,T.keep _ _ _ st5 λb hb o e=>(I7.pin (b,o) (List.mem_append_right _ (List.mem_append_right _ (Zg hb e)))).1,λb hb=>?_,w7⟩
   obtain ⟨o,e,d⟩:=T.obj _ _ st5 b hb
   exact (I7.pin (b,o) (List.mem_append_right _ (List.mem_append_right _ (Zg hb e)))).2.1
  cases f with
  | next=>obtain ⟨σ7,H7,I7,n7⟩:=q7;exact again I7 n7
  | cont=>obtain ⟨σ7,H7,I7,n7⟩:=q7;exact again I7 n7
  | brk=>obtain ⟨σ7,H7,I7,q7⟩:=q7;exact ⟨σ7,H7,I7.unpinned,q7⟩
  | ret v=>obtain ⟨x7,σ7,H7,I7,r7,q7⟩:=q7;exact ⟨x7,σ7,H7,I7.unpinned,r7,q7⟩
abbrev R2:=V->V->Hp->VK->Prop
end L2
variable {o:Option PySem.Value} {i:Int} {g:Int->Int->Int} {op:PySem.CmpOp} {r:L2.R2} {C dx:PySem.Addr} {its:List PySem.Value} {mA:PySem.Str->Option PySem.Value} {ns:List Int} {kw:List (PySem.Str × PySem.Value)} {m name:PySem.Str} {prog:PySem.Program} {env:PySem.Env} {fs:List (PySem.Str × L2.V)}
namespace L2
open PySem PySem.Spec PyProof.Rows
def OpR (X:Cx) (f:Value->Value->Sem Value) (r:R2):Prop :=
 ∀(pins:List (Addr × Obj)) (s:Shared) (σ:St) (H:Hp) (x y:V) (v u:Value) (Q:VK),Inv X pins σ H s->RelV x v->RelV y u->r x y H Q ->
  wpAny (model X.prog X.w) X.A (f v u) (EP X pins σ Q) X.xe s
def UnR (X:Cx) (f:Value->Sem Value) (r:V->Hp->VK->Prop):Prop :=
 ∀(pins:List (Addr × Obj)) (s:Shared) (σ:St) (H:Hp) (x:V) (v:Value) (Q:VK),Inv X pins σ H s->RelV x v->r x H Q ->
  wpAny (model X.prog X.w) X.A (f v) (EP X pins σ Q) X.xe s
def Uh (X:Cx) (f:Value) (r:List V->Hp->VK->Prop):Prop :=
 ∀(pins:List (Addr × Obj)) (s:Shared) (σ:St) (H:Hp) (xs:List V) (us:List Value) (Q:VK),Inv X pins σ H s->Vals xs us->r xs H Q ->
  wpAny (model X.prog X.w) X.A (call f us) (EP X pins σ Q) X.xe s
def TruR (X:Cx) (r:V->Hp->(Bool->Hp->Prop)->Prop):Prop :=
 ∀(pins:List (Addr × Obj)) (s:Shared) (σ:St) (H:Hp) (x:V) (v:Value) (Q:Bool->Hp->Prop),Inv X pins σ H s->RelV x v->r x H Q ->
  wpAny (model X.prog X.w) X.A (truthy v) (TP X pins σ Q) X.xe s
def tOp (r:R2) (ta tb:TE):TE:=λσ H Q=>ta σ H λx H1=>tb σ H1 λy H2=>r x y H2 Q
def tUn (r:V->Hp->VK->Prop) (ta:TE):TE:=λσ H Q=>ta σ H λx H1=>r x H1 Q
def rI (C:Int->Int->Prop) (g:Int->Int->V):R2:=λx y H Q=>∃i j,x=.int i/\y=.int j/\C i j/\Q (g i j) H
def rI0 (g:Int->Int->V):R2:=λx y H Q=>∃i j,x=.int i/\y=.int j/\Q (g i j) H
def rU (g:Int->V):V->Hp->VK->Prop:=λx H Q=>∃i,x=.int i/\Q (g i) H
section
variable {a b:Expr}
theorem binT (ha:PE X a ta) (hb:PE X b tb) {R:V->V->Hp->Prop} (I:Inv X pins σ H s)
  (h:ta σ H λx H1=>tb σ H1 λy H2=>R x y H2)
  (hf:∀v u s2 x y H2,Inv X pins σ H2 s2->RelV x v->RelV y u->R x y H2->wpAny (model X.prog X.w) X.A (f v u) Q X.xe s2) :
  wpAny (model X.prog X.w) X.A (eval a X.env) (λv s₁=>wpAny (model X.prog X.w) X.A (eval b X.env) (λu s₂=>wpAny (model X.prog X.w) X.A (f v u) Q X.xe s₂) X.xe s₁) X.xe s:=by
 refine thn (ha pins s σ H _ I h) λv s1 ⟨x,H1,I1,r1,q1⟩=>?_
 refine thn (hb pins s1 σ H1 _ I1 q1) λu s2 ⟨y,H2,I2,r2,q2⟩=>?_
 exact hf v u s2 x y H2 I2 r1 r2 q2
theorem Qun {op:Operator} (ho:OpR X (binaryOp op) r) (ha:PE X a ta) (hb:PE X b tb):PE X (.BinOp a op b pos) (tOp r ta tb):=by
 intro pins s σ H Q I h
 exact wpAny_BinOp (binT ha hb I h λv u s2 x y H2 I2 rx ry q=>ho pins s2 σ H2 x y v u Q I2 rx ry q)
theorem Qum {op:UnaryOp} {r:V->Hp->VK->Prop} (ho:UnR X (unaryOp op) r) (ha:PE X a ta):PE X (.UnaryOp op a pos) (tUn r ta):=by
 intro pins s σ H Q I h
 exact UnaryOp_ (thn (ha pins s σ H _ I h) λv s1 ⟨x,H1,I1,r1,q1⟩=>ho pins s1 σ H1 x v Q I1 r1 q1)
theorem opI {C:Int->Int->Prop}
  (rule:∀(i j:Int) (t u:Tok) (s:Shared) (Q:Value->Shared->Prop) (E:Value->Shared->Prop),C i j->Q (.int (g i j) s.toks) { s with toks:=s.toks+1 }->wpAny (model X.prog X.w) X.A (f (.int i t) (.int j u)) Q E s) :
  OpR X f (rI C λi j=>.int (g i j)):=by
 intro pins s σ H x y v u Q I rx ry h
 obtain ⟨i,j,rfl,rfl,hc,q⟩:=h
 obtain ⟨t,rfl⟩:=rx
 obtain ⟨t',rfl⟩:=ry
 exact rule i j t t' s _ _ hc ⟨.int (g i j),H,I.tok _,⟨_,rfl⟩,q⟩
theorem opI0
  (rule:∀(i j:Int) (t u:Tok) (s:Shared) (Q:Value->Shared->Prop) (E:Value->Shared->Prop),Q (.int (g i j) s.toks) { s with toks:=s.toks+1 }->wpAny (model X.prog X.w) X.A (f (.int i t) (.int j u)) Q E s) :
  OpR X f (rI0 λi j=>.int (g i j)):=by
 intro pins s σ H x y v u Q I rx ry h
 obtain ⟨i,j,rfl,rfl,q⟩:=h
 obtain ⟨t,rfl⟩:=rx
 obtain ⟨t',rfl⟩:=ry
 exact rule i j t t' s _ _ ⟨.int (g i j),H,I.tok _,⟨_,rfl⟩,q⟩
theorem opB0 {g:Int->Int->Bool}
  (rule:∀(i j:Int) (t u:Tok) (s:Shared) (Q:Value->Shared->Prop) (E:Value->Shared->Prop),Q (.bool (g i j)) s->wpAny (model X.prog X.w) X.A (f (.int i t) (.int j u)) Q E s) :
  OpR X f (rI0 λi j=>.bl (g i j)):=by
 intro pins s σ H x y v u Q I rx ry h
 obtain ⟨i,j,rfl,rfl,q⟩:=h
 obtain ⟨t,rfl⟩:=rx
 obtain ⟨t',rfl⟩:=ry
 exact rule i j t t' s _ _ ⟨.bl (g i j),H,I,rfl,q⟩
def CDiv (i j:Int):Prop:=0<j/\j<1073741824
def Qvb (i j:Int):Prop:=j≠0/\j.natAbs<1073741824
def CPow (i j:Int):Prop:=0<=j/\j<=1000000/\i.natAbs<2 ^ 64
def CMul (i j:Int):Prop:=(-(2 ^ 64)<i/\i<2 ^ 64)\/(-(2 ^ 64)<j/\j<2 ^ 64)
theorem CMul.ok {j:Int} (h:CMul i j):IntMulOk i j:=by
 rcases h with ⟨h1,h2⟩ | ⟨h1,h2⟩
 ·exact .of_left (intBits_le_64 h1 h2)
 ·exact .of_right (intBits_le_64 h1 h2)
theorem Qsl:OpR X (binaryOp .Add) (rI0 λi j=>.int (i+j)):=opI0 λ_ _ _ _ _ _ _ q=>add_int q
theorem Qsd:OpR X (binaryOp .Sub) (rI0 λi j=>.int (i-j)):=opI0 λ_ _ _ _ _ _ _ q=>sub_int q
theorem Qsh:OpR X (binaryOp .Mult) (rI CMul λi j=>.int (i*j)):=opI λ_ _ _ _ _ _ _ hc q=>mul_int q hc.ok
theorem Qp0:OpR X (binaryOp .FloorDiv) (rI CDiv λi j=>.int (i / j)):=opI λi j _ _ _ _ _ hc q=>by
 have h1:(0:Int)<j:=hc.1
 have h2:j<1073741824:=hc.2
 exact floordiv_int (by omega) (by rw [Int.fdiv_eq_ediv_of_nonneg i (by omega)];exact q) (.inl (PyProof.noPylong_small (by omega)))
theorem Qmh:OpR X (binaryOp .FloorDiv) (rI Qvb λi j=>.int (i.fdiv j)):=opI λ_ _ _ _ _ _ _ hc q=>floordiv_int hc.1 q (.inl (PyProof.noPylong_small hc.2))
theorem Qsi:OpR X (binaryOp .Mod) (rI (λ_ j=>0<j) λi j=>.int (i % j)):=opI λi j _ _ _ _ _ hc q=>by
 have h1:(0:Int)<j:=hc
 exact mod_int' (by omega) (by rw [Int.fmod_eq_emod_of_nonneg i (by omega)];exact q)
theorem Qpz:OpR X (binaryOp .Mod) (rI (λ_ j=>j≠0) λi j=>.int (i.fmod j)):=opI λ_ _ _ _ _ _ _ hc q=>mod_int' hc q
theorem Qsf:OpR X (binaryOp .Pow) (rI CPow λi j=>.int (i ^ j.toNat)):=opI λ_ _ _ _ _ _ _ hc q=>pow_int_small hc.1 hc.2.1 hc.2.2 q
theorem unI {f:Value->Sem Value} {g:Int->Int}
  (rule:∀(i:Int) (t:Tok) (s:Shared) (Q:Value->Shared->Prop) (E:Value->Shared->Prop),Q (.int (g i) s.toks) { s with toks:=s.toks+1 }->wpAny (model X.prog X.w) X.A (f (.int i t)) Q E s) :
  UnR X f (rU λi=>.int (g i)):=by
 intro pins s σ H x v Q I rx h
 obtain ⟨i,rfl,q⟩:=h
 obtain ⟨t,rfl⟩:=rx
 exact rule i t s _ _ ⟨.int (g i),H,I.tok _,⟨_,rfl⟩,q⟩
theorem Qrh:UnR X (unaryOp .USub) (rU λi=>.int (-i)):=unI λ_ _ _ _ _ q=>neg_int q
end
def scal:V->V->Bool
 | .non,.non=>true | .non,.int _=>true | .int _,.non=>true | .non,.bl _=>true | .bl _,.non=>true | .non,.str _=>true | .str _,.non=>true
 | .int _,.int _=>true | .bl _,.bl _=>true | .str _,.str _=>true | .byt _,.byt _=>true
 | .int _,.str _=>true | .str _,.int _=>true | .bl _,.str _=>true | .str _,.bl _=>true
 | _,_=>false
def rEq:R2:=λx y H Q=>scal x y=true/\Q (.bl (decide (x=y))) H
def rNe:R2:=λx y H Q=>scal x y=true/\Q (.bl (!decide (x=y))) H
theorem Qkp {j:Int}:decide (V.int i=V.int j)=(i == j):=by
 rw [Bool.eq_iff_iff]
 simp
theorem Qg1 {i j:Bool}:decide (V.bl i=V.bl j)=(i == j):=by
 rw [Bool.eq_iff_iff]
 simp
theorem Qko {i j:Str}:decide (V.str i=V.str j)=(i == j):=by
 rw [Bool.eq_iff_iff]
 simp
theorem Qkq {i j:Array UInt8}:decide (V.byt i=V.byt j)=(i.toList == j.toList):=by
 rw [Bool.eq_iff_iff]
 cases i
 cases j
 simp
section
variable {a b:Expr}
theorem Jd {Q:VK} {k k':Bool} (I:Inv X pins σ H s) (q:Q (.bl k) H) (e:k=k'):EP X pins σ Q (.bool k') s:=by
 subst e
 exact ⟨.bl k,H,I,rfl,q⟩
theorem Qut:OpR X (compareOp .Eq) rEq:=by
 intro pins s σ H x y v u Q I rx ry h
 obtain ⟨hs,q⟩:=h
 cases x with
 | non =>
  cases rx
  cases y with
  | non=>cases ry;exact PySem.EqNone.eq_none_none (Jd I q (by simp))
  | bl j=>cases ry;exact PySem.EqNone.eq_none_bool (Jd I q (by simp))
  | int j=>obtain ⟨t',rfl⟩:=ry;exact PySem.EqNone.eq_none_int (Jd I q (by simp))
  | str j=>obtain ⟨t',rfl⟩:=ry;exact PySem.EqNone.eq_none_str (Jd I q (by simp))
  | _=>exact absurd (show false=true from hs) Bool.false_ne_true
 | bl i =>
  cases rx
  cases y with
  | non=>cases ry;exact PySem.EqNone.eq_bool_none (Jd I q (by simp))
  | bl j=>cases ry;exact eq_bool (Jd I q Qg1)
  | str j=>obtain ⟨t',rfl⟩:=ry;exact PySem.EqMixed.eq_bool_str (Jd I q (by simp))
  | _=>exact absurd (show false=true from hs) Bool.false_ne_true
 | int i =>
  obtain ⟨t,rfl⟩:=rx
  cases y with
  | non=>cases ry;exact PySem.EqNone.eq_int_none (Jd I q (by simp))
  | int j=>obtain ⟨t',rfl⟩:=ry;exact eq_int (Jd I q Qkp)
  | str j=>obtain ⟨t',rfl⟩:=ry;exact PySem.EqMixed.eq_int_str (Jd I q (by simp))
  | _=>exact absurd (show false=true from hs) Bool.false_ne_true
 | str i =>
  obtain ⟨t,rfl⟩:=rx
  cases y with
  | non=>cases ry;exact PySem.EqNone.eq_str_none (Jd I q (by simp))
  | bl j=>cases ry;exact PySem.EqMixed.eq_str_bool (Jd I q (by simp))
  | int j=>obtain ⟨t',rfl⟩:=ry;exact PySem.EqMixed.eq_str_int (Jd I q (by simp))
  | str j=>obtain ⟨t',rfl⟩:=ry;exact eq_str (Jd I q Qko)
  | _=>exact absurd (show false=true from hs) Bool.false_ne_true
 | byt i =>
  obtain ⟨t,rfl⟩:=rx
  cases y with
  | byt j=>obtain ⟨t',rfl⟩:=ry;exact PySem.W.eq_bytes (Jd I q Qkq)
  | _=>exact absurd (show false=true from hs) Bool.false_ne_true
 | _=>cases y <;> exact absurd (show false=true from hs) Bool.false_ne_true
theorem Quq:OpR X (compareOp .NotEq) rNe:=by
 intro pins s σ H x y v u Q I rx ry h
 obtain ⟨hs,q⟩:=h
 cases x with
 | non =>
  cases rx
  cases y with
  | non=>cases ry;exact PySem.EqNone.ne_none_none (Jd I q (by simp))
  | bl j=>cases ry;exact PySem.EqNone.ne_none_bool (Jd I q (by simp))
  | int j=>obtain ⟨t',rfl⟩:=ry;exact PySem.EqNone.ne_none_int (Jd I q (by simp))
  | str j=>obtain ⟨t',rfl⟩:=ry;exact PySem.EqNone.ne_none_str (Jd I q (by simp))
  | _=>exact absurd (show false=true from hs) Bool.false_ne_true
 | bl i =>
  cases rx
  cases y with
  | non=>cases ry;exact PySem.EqNone.ne_bool_none (Jd I q (by simp))
  | bl j=>cases ry;exact ne_bool (Jd I q (congrArg not Qg1))
  | str j=>obtain ⟨t',rfl⟩:=ry;exact PySem.EqMixed.ne_bool_str (Jd I q (by simp))
  | _=>exact absurd (show false=true from hs) Bool.false_ne_true
 | int i =>
  obtain ⟨t,rfl⟩:=rx
  cases y with
  | non=>cases ry;exact PySem.EqNone.ne_int_none (Jd I q (by simp))
  | int j=>obtain ⟨t',rfl⟩:=ry;exact ne_int (Jd I q (congrArg not Qkp))
  | str j=>obtain ⟨t',rfl⟩:=ry;exact PySem.EqMixed.ne_int_str (Jd I q (by simp))
  | _=>exact absurd (show false=true from hs) Bool.false_ne_true
 | str i =>
  obtain ⟨t,rfl⟩:=rx
  cases y with
  | non=>cases ry;exact PySem.EqNone.ne_str_none (Jd I q (by simp))
  | bl j=>cases ry;exact PySem.EqMixed.ne_str_bool (Jd I q (by simp))
  | int j=>obtain ⟨t',rfl⟩:=ry;exact PySem.EqMixed.ne_str_int (Jd I q (by simp))
  | str j=>obtain ⟨t',rfl⟩:=ry;exact ne_str (Jd I q (congrArg not Qko))
  | _=>exact absurd (show false=true from hs) Bool.false_ne_true
 | byt i =>
  obtain ⟨t,rfl⟩:=rx
  cases y with
  | byt j=>obtain ⟨t',rfl⟩:=ry;exact PySem.W.ne_bytes (Jd I q (congrArg not Qkq))
  | _=>exact absurd (show false=true from hs) Bool.false_ne_true
 | _=>cases y <;> exact absurd (show false=true from hs) Bool.false_ne_true
theorem Qur:OpR X (compareOp .Lt) (rI0 λi j=>.bl (decide (i<j))):=opB0 λ_ _ _ _ _ _ _ q=>lt_int q
theorem Qus:OpR X (compareOp .Gt) (rI0 λi j=>.bl (decide (j<i))):=opB0 λ_ _ _ _ _ _ _ q=>gt_int q
theorem Qjd:OpR X (compareOp .In) (λx y H Q=>∃i j,x=.str i/\y=.str j/\Q (.bl (!(Builtin.Str.occurrences j i 0 j.length 1).isEmpty)) H):=by
 intro pins s σ H x y v u Q I rx ry h
 obtain ⟨i,j,rfl,rfl,q⟩:=h
 obtain ⟨t,rfl⟩:=rx
 obtain ⟨t',rfl⟩:=ry
 exact in_str (Jd I q rfl)
theorem OpR.or {r':R2} (h:OpR X f r) (h':OpR X f r'):OpR X f (λx y H Q=>r x y H Q\/r' x y H Q):=by
 intro pins s σ H x y v u Q I rx ry q
 rcases q with q | q
 ·exact h pins s σ H x y v u Q I rx ry q
 ·exact h' pins s σ H x y v u Q I rx ry q
theorem Qof (b:Expr) (h:op ≠ .In:=by decide) (h2:op ≠ .NotIn:=by decide):behindInMarks op b=false:=by
 have e1:(op == CmpOp.In)=false:=by cases op <;> first | rfl | exact absurd rfl h
 have e2:(op == CmpOp.NotIn)=false:=by cases op <;> first | rfl | exact absurd rfl h2
 cases b <;> simp [behindInMarks,e1,e2]
theorem Qpv (ho:OpR X (compareOp op) r) (ha:PE X a ta) (hb:PE X b tb) (hm:behindInMarks op b=false):PE X (.Compare a [op] [b] pos) (tOp r ta tb):=by
 intro pins s σ H Q I h
 exact wpAny_Compare1 (binT ha hb I h λv u s2 x y H2 I2 rx ry q=>ho pins s2 σ H2 x y v u Q I2 rx ry q) hm
def Qtv (t:TE):TT:=λσ H Q=>t σ H λx H'=>∃k,x=.bl k/\Q k H'
theorem Qpi (ho:OpR X (compareOp op) r) (ha:PE X a ta) (hb:PE X b tb) (hm:behindInMarks op b=false):PT X (.Compare a [op] [b] pos) (Qtv (tOp r ta tb)):=by
 intro pins s σ H Q I h
 refine wpAny_isTrue_Compare1 (thn (ha pins s σ H _ I h) λv s1 ⟨x,H1,I1,r1,q1⟩=>thn (hb pins s1 σ H1 _ I1 q1) λu s2 ⟨y,H2,I2,r2,q2⟩ =>
  thn (ho pins s2 σ H2 x y v u _ I2 r1 r2 q2) λc s3 ⟨z,H3,I3,r3,k,e,q3⟩=>?_) hm
 subst e
 cases r3
 exact wpAny_truthy_bool ⟨H3,I3,q3⟩
def TruV (K:PySem.W.Frag) (x:V) (H:Hp) (k:Bool):Prop :=
 match x with
 | .non=>k=false
 | .bl b=>k=b
 | .int i=>k=(i != 0)
 | .str y=>y.length<=sizeLine/\k=((y.length:Int) != 0)
 | .byt y=>y.size<=sizeLine/\k=((y.size:Int) != 0)
 | .ref p=>(∃xs,SqL K H p xs/\k = !xs.isEmpty)\/(∃xs,SqT K H p xs/\k = !xs.isEmpty)\/∃kvs,H p=some (.dK kvs)/\k = !kvs.isEmpty
 | _=>False
theorem Qhu {κ:Type} {kvs:List (κ × V)} {vs:List (κ × Value)} (r:KV kvs vs):(!vs.isEmpty) = !kvs.isEmpty:=by
 cases r <;> rfl
theorem Qbw (r:Vals xs its):(!its.toArray.isEmpty) = !xs.isEmpty:=by
 cases r <;> simp
theorem Qbu:(sizeLine:Nat)<2 ^ 63:=by rw [sizeLine_eq];decide
theorem Qrj:TruR X (λx H Q=>∃k,TruV X.K x H k/\Q k H):=by
 intro pins s σ H x v Q I rx h
 obtain ⟨k,e,q⟩:=h
 have hl:=Qbu
 have hs:sizeLine=16777216:=sizeLine_eq
 cases x with
 | non =>
  cases rx
  have e':k=false:=e
  subst e'
  exact truthy_none ⟨H,I,q⟩
 | bl b =>
  cases rx
  have e':k=b:=e
  subst e'
  exact wpAny_truthy_bool ⟨H,I,q⟩
 | int i =>
  obtain ⟨t,rfl⟩:=rx
  have e':k=(i != 0):=e
  subst e'
  exact PySem.P.truthy_int ⟨H,I,q⟩
 | str y =>
  obtain ⟨t,rfl⟩:=rx
  obtain ⟨hy,e'⟩:y.length<=sizeLine/\k=((y.length:Int) != 0):=e
  subst e'
  exact PySem.P.truthy_str (by omega) ⟨H,I.tok _,q⟩
 | byt y =>
  obtain ⟨t,rfl⟩:=rx
  obtain ⟨hy,e'⟩:y.size<=sizeLine/\k=((y.size:Int) != 0):=e
  subst e'
  exact PySem.W.truthy_bytes (by omega) ⟨H,I.tok _,q⟩
 | ref p =>
  cases rx
  have e':(∃xs,SqL X.K H p xs/\k = !xs.isEmpty)\/(∃xs,SqT X.K H p xs/\k = !xs.isEmpty)\/∃kvs,H p=some (.dK kvs)/\k = !kvs.isEmpty:=e
  rcases e' with ⟨xs,hx,e'⟩ | ⟨xs,hx,e'⟩ | ⟨kvs,hx,e'⟩
  ·subst e'
   obtain ⟨its,r,pl,hz⟩:=I.list hx
   have hlen:=r.length
   exact wpAny_truthy_list pl.isList (by simp only [List.size_toArray];omega) ⟨H,I.tok _,by rw [Qbw r];exact q⟩
  ·subst e'
   obtain ⟨its,r,pl,hz⟩:=I.tuple hx
   have hlen:=r.length
   exact truthy_tuple pl (by simp only [List.size_toArray];omega) ⟨H,I.tok _,by rw [Qbw r];exact q⟩
  ·subst e'
   obtain ⟨hz,hS,vs,r,m⟩:kvs.length<=sizeLine/\(p == sysModules)=false/\∃vs,KV kvs vs/\s.heap.DictOf (Q9 X.prog X.w) p vs:=I.hok p _ hx
   have hlen:kvs.length=vs.length:=Paired.length r
   exact wpAny_truthy_dict hS m (by omega) ⟨H,I.tok _,by rw [Qhu r];exact q⟩
 | _=>exact (show False from e).elim
theorem Ql1 (ha:PE X a ta) (he:∀whole,isTrue a X.env whole=(do let v ← whole;standAt a.pos;holding [v] (truthy v))) :
  PT X a (λσ H Q=>ta σ H λx H'=>∃k,TruV X.K x H' k/\Q k H'):=by
 intro pins s σ H Q I h
 exact isTrue_plain (thn (ha pins s σ H _ I h) λv s1 ⟨x,H1,I1,r1,q1⟩=>Qrj pins s1 σ H1 x v Q I1 r1 q1) (he _)
theorem Qhl:OpR X (binaryOp .Add) (λx y H Q=>∃i j,x=.str i/\y=.str j/\i.length+j.length<=sizeLine/\Q (.str (i++j)) H):=by
 intro pins s σ H x y v u Q I rx ry h
 obtain ⟨i,j,rfl,rfl,hz,q⟩:=h
 obtain ⟨t,rfl⟩:=rx
 obtain ⟨t',rfl⟩:=ry
 exact add_str (λt' tk=>⟨.str (i++j),H,I.tok _,⟨_,rfl⟩,q⟩) hz
theorem Qc8 {x:V} (r:Vals [x] us):∃u,us=[u]/\RelV x u:=by
 cases r with
 | cons r1 r2=>cases r2;exact ⟨_,rfl,r1⟩
theorem Qrg {x:V} (r:Vals [x,y] us):∃u w',us=[u,w']/\RelV x u/\RelV y w':=by
 cases r with
 | cons r1 r2 =>
  cases r2 with
  | cons r3 r4=>cases r4;exact ⟨_,_,rfl,r1,r3⟩
theorem Qk4:Uh X (.type "int") (λxs H Q=>(∃i,xs=[.int i]/\Q (.int i) H)\/∃k,xs=[.bl k]/\Q (.int (if k then 1 else 0)) H):=by
 intro pins s σ H xs us Q I r h
 rcases h with ⟨i,rfl,q⟩ | ⟨k,rfl,q⟩
 ·obtain ⟨u,rfl,t,rfl⟩:=Qc8 r
  exact call_int_int ⟨.int i,H,I,⟨_,rfl⟩,q⟩
 ·obtain ⟨u,rfl,r1⟩:=Qc8 r
  cases r1
  exact call_int_bool ⟨.int (if k then 1 else 0),H,I.tok _,⟨_,rfl⟩,q⟩
def LenV (K:PySem.W.Frag) (x:V) (H:Hp) (n:Nat):Prop :=
 match x with
 | .str y=>y.length<=sizeLine/\n=y.length
 | .byt y=>y.size<=sizeLine/\n=y.size
 | .ref p=>(∃xs,SqL K H p xs/\n=xs.length)\/∃xs,SqT K H p xs/\n=xs.length
 | _=>False
theorem Qcz:Uh X (.builtin "len") (λxs H Q=>∃x n,xs=[x]/\LenV X.K x H n/\Q (.int n) H):=by
 intro pins s σ H xs us Q I r h
 obtain ⟨x,n,rfl,e,q⟩:=h
 obtain ⟨u,rfl,rx⟩:=Qc8 r
 have hl:=Qbu
 have hs:sizeLine=16777216:=sizeLine_eq
 cases x with
 | str y =>
  obtain ⟨t,rfl⟩:=rx
  obtain ⟨hy,e'⟩:y.length<=sizeLine/\n=y.length:=e
  subst e'
  exact len_str (by omega) ⟨.int _,H,I.tok _,⟨_,rfl⟩,q⟩
 | byt y =>
  obtain ⟨t,rfl⟩:=rx
  obtain ⟨hy,e'⟩:y.size<=sizeLine/\n=y.size:=e
  subst e'
  exact PySem.W.len_bytes (by omega) ⟨.int _,H,I.tok _,⟨_,rfl⟩,q⟩
 | ref p =>
  cases rx
  have e':(∃xs,SqL X.K H p xs/\n=xs.length)\/∃xs,SqT X.K H p xs/\n=xs.length:=e
  rcases e' with ⟨xs,hx,e'⟩ | ⟨xs,hx,e'⟩
  ·subst e'
   obtain ⟨its,r',pl,hz⟩:=I.list hx
   have hlen:=r'.length
   exact Calls.call_len_list pl.isList (by simp only [List.size_toArray];omega) ⟨.int xs.length,H,I.tok _,⟨_,by simp only [List.size_toArray];rw [hlen]⟩,q⟩
  ·subst e'
   obtain ⟨its,r',pl,hz⟩:=I.tuple hx
   have hlen:=r'.length
   exact len_tuple pl (by simp only [List.size_toArray];omega) ⟨.int xs.length,H,I.tok _,⟨_,by simp only [List.size_toArray];rw [hlen]⟩,q⟩
 | _=>exact (show False from e).elim
end
structure ObjM (h:Heap) (x dx C:Addr) (mA:Str->Option Value):Prop where
 obj:h.get? x=some (PySem.W.instObj C dx)
 ns:h.Ns1 dx mA
 ne:dx≠x
theorem Qjw {h:Heap} (n:h.Ns1 dx mA):∃od,h.get? dx=some od/\∀name,PySem.W.lookIn name od=some (mA name):=by
 obtain ⟨o,es,ep,ho,hd,hk,_,hm⟩:=n
 refine ⟨o,ho,λname=>?_⟩
 have e:=hm name
 unfold nsFind findBy at e
 rw [← Array.find?_toList] at e
 unfold PySem.W.lookIn
 rw [hd]
 dsimp only
 split
 ·rename_i y q
  rw [q] at e
  exact congrArg some e
 ·rename_i q
  rw [q] at e
  have a:es.toList.any (·.refKey)=false:=by
   rw [List.any_eq_false]
   intro y hy
   obtain ⟨z,t,hkey⟩:=hk y (Array.mem_toList_iff.mp hy)
   simp [DictEntry.refKey,hkey]
  have a':¬es.toList.any (·.refKey)=true:=by rw [a];exact Bool.false_ne_true
  rw [if_neg a']
  exact congrArg some e
theorem ObjM.look {h:Heap} {x:Addr} (I:ObjM h x dx C mA):∃od,PySem.W.InstAt h x (PySem.W.instObj C dx) C (some od)/\∀name,PySem.W.lookIn name od=some (mA name) :=
 let ⟨od,ho,hl⟩:=Qjw I.ns
 ⟨od,⟨I.obj,rfl,rfl,ho⟩,hl⟩
section
variable {x f:Addr} {v:Value}
theorem Qqk {expr:Bool} (X:K.In s.heap) (I:ObjM s.heap x dx C mA) (hg:PySem.W.plainGet K C name=true) (hh:PySem.W.hasDictIn K C=true)
  (ha:PySem.W.findIn K (.ref C) name=some none) (hv:mA name=some v) (hv':PySem.W.handedIn v=true) (h:Q v { s with toks:=s.toks+1 }) :
  wpAny (model prog w) A (getAttr (.ref x) name expr) Q E s:=by
 obtain ⟨od,J,hl⟩:=I.look
 exact PySem.W.get_value X J (PySem.W.plainGet_of hg).1 (PySem.W.findObj_own hh ha rfl (by rw [hl,hv])) hv' h
theorem Qm0 {Q:Value × List Value->Shared->Prop} (X:K.In s.heap) (I:ObjM s.heap x dx C mA) (hg:PySem.W.plainGet K C name=true)
  (hf:PySem.W.findIn K (.ref C) name=some (some (.ref f))) (ht:PySem.W.isFn K (.ref f)=true) (hv:mA name=none) (h:Q (.ref f,[.ref x]) s) :
  wpAny (model prog w) A (getMethod (.ref x) name pl) Q E s:=by
 obtain ⟨od,J,hl⟩:=I.look
 exact PySem.W.method_fn X J (PySem.W.plainGet_of hg).1 (PySem.W.plainGet_of hg).2 hf (beq_iff_eq.mp ht) (by show (PySem.W.lookIn name od).map (·.isSome)=some false;rw [hl,hv];rfl) h
theorem Qo4 {ns:List Str} {Q:Unit->Shared->Prop} (X:K.In s.heap) (I:ObjM s.heap x dx C mA)
  (hs:PySem.W.findIn K (.ref C) "__setattr__" = some (some (.builtin "object.__setattr__"))) (hp:PySem.W.plainOver K C=true) (ht:PySem.W.takerIn K C name=some none) (hh:PySem.W.hasDictIn K C=true)
  (hw:PySem.Within mA ns) (hsz:ns.length<=sizeLine)
  (h:∀h',ObjM h' x dx C (λy=>if y=name then some v else mA y)->Heap.SameBut dx s.heap h'->Q () { s with heap:=h',toks:=s.toks+2 }) :
  wpAny (model prog w) A (setAttr (.ref x) name v) Q E s:=by
 obtain ⟨od,J,hl⟩:=I.look
 refine PySem.W.set_plain X J hs (PySem.W.osa_open (s:={ s with toks:=s.toks+1 }) (r:=none) X J hp ht λb=>?_)
 obtain ⟨cd,hc,hd'⟩:=PySem.W.any_some hh
 have hx:s.heap.get? x=some ⟨.ref C,some dx,.plain,#[]⟩:=I.obj
 refine wpAny_bind (wpAny_pure (wpAny_bind (wpAny_bind (wpAny_loadPart hx (wpAny_bind (PySem.W.Looks.here (s:={ s with toks:=s.toks+1 }) (PySem.W.looks_clsIn X hc) ?_))))))
 rw [hd']
 refine wpAny_pure (a:=some dx) (wpAny_bind (wpAny_pure (wpAny_bind ?_)))
 refine wpAny_nsSet1 (s:={ s with toks:=s.toks+1 }) I.ns λh' hn2 hs2=>?_
 obtain ⟨oD,esD,epD,hoD,hdD,hcD⟩:=hn2.count (PySem.Within.cons name v hw)
 refine wpAny_bind (wpAny_lookBehind hoD (by rw [hdD];exact pastItsLine_dict (Nat.le_trans hcD (by rw [List.length_cons];omega))) ?_)
 exact wpAny_pure (h _ ⟨(hs2.2 _ (Ne.symm I.ne)).trans I.obj,hn2,I.ne⟩ hs2)
theorem Qmq {vs:List Value} (X:K.In s.heap) (hm:PySem.W.makesIn K C=true)
  (hi:PySem.W.findIn K (.ref C) "__init__" = some (some (.ref f))) (hf:PySem.W.typeIn K (.ref f)=some (.type "function"))
  (h:codeAny (model prog w) (A.under (.builtin "type.__call__" ⟨.ref C::vs,kw⟩)) (.call (.ref f) ⟨.ref (s.heap.objs.size+1)::vs,kw⟩) (PySem.W.InitBack (s.heap.objs.size+1) R)
   { s with heap:=(s.heap.push PySem.W.emptyDict).push (PySem.W.instObj C s.heap.objs.size) }) :
  codeAny (model prog w) A (.call (.ref C) ⟨vs,kw⟩) R s:=by
 obtain ⟨hh,g,d,t,os⟩:=s
 exact PySem.W.make_core (PySem.W.makes_of X hm) (PySem.W.looks_findIn X hi) (λself=>PySem.W.bind_fn X self hf) (.inl rfl) h
theorem Qjv (X:K.In s.heap) (hm:PySem.W.makesIn K C=true)
  (hi:PySem.W.findIn K (.ref C) "__init__" = some (some (.builtin "object.__init__")))
  (hb:∀self,PySem.W.Looks (model prog w) s.heap (bindSpecial (.builtin "object.__init__") self) (.builtin "object.__init__",[self]))
  (h:codeAny (model prog w) (A.under (.builtin "type.__call__" ⟨[.ref C],[]⟩)) (.call (.builtin "object.__init__") ⟨[.ref (s.heap.objs.size+1)],[]⟩) (PySem.W.InitBack (s.heap.objs.size+1) R)
   { s with heap:=(s.heap.push PySem.W.emptyDict).push (PySem.W.instObj C s.heap.objs.size) }) :
  codeAny (model prog w) A (.call (.ref C) ⟨[],[]⟩) R s:=by
 obtain ⟨hh,g,d,t,os⟩:=s
 exact PySem.W.make_core (PySem.W.makes_of X hm) (PySem.W.looks_findIn X hi) hb (.inr ⟨rfl,rfl⟩) h
end
def putF (f:Str) (v:V):List (Str × V)->List (Str × V)
 | []=>[(f,v)]
 | (g,x)::r=>if g=f then (g,v)::r else (g,x)::putF f v r
theorem Qau (f g:Str) (v:V):∀fs:List (Str × V),(putF f v fs).lookup g=if g=f then some v else fs.lookup g
 | []=>by
  show List.lookup g [(f,v)]=_
  by_cases h:g=f
  ·have hb:(g == f)=true:=beq_iff_eq.mpr h
   simp only [List.lookup,hb,if_pos h]
  ·have hb:(g == f)=false:=beq_eq_false_iff_ne.mpr h
   simp only [List.lookup,hb,if_neg h]
 | (k,x)::r=>by
  have ih:=Qau f g v r
  rw [show putF f v ((k,x)::r)=(if k=f then (k,v)::r else (k,x)::putF f v r) from rfl]
  by_cases hk:k=f
  ·rw [if_pos hk]
   by_cases h:g=k
   ·have hb:(g == k)=true:=beq_iff_eq.mpr h
    simp only [List.lookup,hb,if_pos (h.trans hk)]
   ·have hb:(g == k)=false:=beq_eq_false_iff_ne.mpr h
    simp only [List.lookup,hb,if_neg (λe:g=f=>h (e.trans hk.symm))]
  ·rw [if_neg hk]
   by_cases h:g=k
   ·have hb:(g == k)=true:=beq_iff_eq.mpr h
    simp only [List.lookup,hb,if_neg (λe:g=f=>hk (h.symm.trans e))]
   ·have hb:(g == k)=false:=beq_eq_false_iff_ne.mpr h
    simp only [List.lookup,hb]
    exact ih
theorem Qay (f:Str) (v:V):∀fs:List (Str × V),f∈(putF f v fs).map (·.1)/\∀g,g∈fs.map (·.1)->g∈(putF f v fs).map (·.1)
 | []=>⟨by simp [putF],λg h=>by simp at h⟩
 | (k,x)::r=>by
  obtain ⟨i1,i2⟩:=Qay f v r
  rw [show putF f v ((k,x)::r)=(if k=f then (k,v)::r else (k,x)::putF f v r) from rfl]
  by_cases hk:k=f
  ·rw [if_pos hk]
   subst hk
   exact ⟨by simp,λg h=>by simpa using h⟩
  ·rw [if_neg hk]
   refine ⟨?_,λg h=>?_⟩
   ·rw [List.map_cons]
    exact List.mem_cons_of_mem _ i1
   ·rw [List.map_cons] at h ⊢
    rcases List.mem_cons.mp h with e | e
    ·exact List.mem_cons.mpr (.inl e)
    ·exact List.mem_cons_of_mem _ (i2 g e)
theorem Qaw (f:Str) (v:V):∀fs:List (Str × V),(putF f v fs).length<=fs.length+1
 | []=>by simp [putF]
 | (k,x)::r=>by
  have ih:=Qaw f v r
  rw [show putF f v ((k,x)::r)=(if k=f then (k,v)::r else (k,x)::putF f v r) from rfl]
  by_cases hk:k=f
  ·rw [if_pos hk,List.length_cons,List.length_cons];omega
  ·rw [if_neg hk,List.length_cons,List.length_cons];omega
theorem RelO.some_of (r:RelO (some v) o):∃u,o=some u/\RelV v u:=by
 cases o with
 | none=>exact (show False from r).elim
 | some u=>exact ⟨u,rfl,r⟩
theorem RelO.none_of (r:RelO none o):o=none:=by
 cases o with
 | none=>rfl
 | some u=>exact (show False from r).elim
theorem Qkc (r:RelV v u):PySem.W.handedIn u=true:=by
 cases v with
 | non=>cases (show u=Value.none from r);rfl
 | bl b=>cases (show u=Value.bool b from r);rfl
 | int i=>obtain ⟨t,e⟩:=(show ∃t,u=Value.int i t from r);cases e;rfl
 | str x=>obtain ⟨t,e⟩:=(show ∃t,u=Value.str x t from r);cases e;rfl
 | byt b=>obtain ⟨t,e⟩:=(show ∃t,u=Value.bytes b t from r);cases e;rfl
 | flt b=>obtain ⟨t,e⟩:=(show ∃t,u=Value.float b t from r);cases e;rfl
 | ref a=>cases (show u=Value.ref a from r);rfl
 | ty n=>cases (show u=Value.type n from r);rfl
section
variable {h:Heap}
theorem Qcr (hok:HOk P w H h) (e:H a=some (.ins C dx fs)):∃mA,ObjM h a dx C mA/\(∀f,RelO (fs.lookup f) (mA f))/\PySem.Within mA (fs.map (·.1))/\fs.length<=1000/\H dx=some (.own a):=by
 obtain ⟨d,z,ne,ob,mA,n,r,q⟩:=(show J4 P w H h a (.ins C dx fs) from hok a _ e)
 exact ⟨mA,⟨ob,n,ne⟩,r,q,z,d⟩
end
structure Cls (K:PySem.W.Frag) (C:Addr):Prop where
 pg:PySem.W.plainGet K C Str.empty=true
 hd:PySem.W.hasDictIn K C=true
 po:PySem.W.plainOver K C=true
 sa:PySem.W.findIn K (.ref C) "__setattr__" = some (some (.builtin "object.__setattr__"))
theorem Cls.get (c:Cls K C) (f:Str):PySem.W.plainGet K C f=true:=c.pg
def Jg (K:PySem.W.Frag) (C:Addr) (f:Str):Prop:=PySem.W.findIn K (.ref C) f=some none
theorem Jg.taker {f:Str} (n:Jg K C f):PySem.W.takerIn K C f=some none:=by
 unfold PySem.W.takerIn
 rw [show PySem.W.findIn K (.ref C) f=some none from n]
 rfl
structure Meth (K:PySem.W.Frag) (C:Addr) (m:Str) (f:Addr):Prop where
 at_:PySem.W.findIn K (.ref C) m=some (some (.ref f))
 fn:PySem.W.isFn K (.ref f)=true
 kp:PySem.W.keepIn K (.ref f)=true
section
variable {f:Str}
theorem Qhw {b:Bool} (I:Inv X pins σ H s) (e:H a=some (.ins C dx fs)) (c:Cls X.K C) (n:Jg X.K C f) (l:fs.lookup f=some v)
  (h:∀u s',Inv X pins σ H s'->RelV v u->Q u s'):wpAny (model X.prog X.w) A (getAttr (.ref a) f b) Q E s:=by
 obtain ⟨mA,O,r,_,_,_⟩:=Qcr I.hok e
 obtain ⟨u,hu,ru⟩:=RelO.some_of (v:=v) (o:=mA f) (by rw [← l];exact r f)
 exact Qqk I.kIn O (c.get f) c.hd n hu (Qkc ru) (h u _ (I.tok _) ru)
theorem Qhv {g:Addr} {Q:Value × List Value->Shared->Prop} (I:Inv X pins σ H s) (e:H a=some (.ins C dx fs)) (c:Cls X.K C) (k:Meth X.K C m g) (l:fs.lookup m=none)
  (h:Q (.ref g,[.ref a]) s):wpAny (model X.prog X.w) A (getMethod (.ref a) m pl) Q E s:=by
 obtain ⟨mA,O,r,_,_,_⟩:=Qcr I.hok e
 have hn:mA m=none:=RelO.none_of (by rw [← l];exact r m)
 exact Qm0 I.kIn O (c.get m) k.at_ k.fn hn h
theorem Qhf {Q:Unit->Shared->Prop} (I:Inv X pins σ H s) (e:H a=some (.ins C dx fs)) (c:Cls X.K C) (n:Jg X.K C f) (hl:fs.length<1000) (ry:RelV y u)
  (h:∀s',Inv X pins σ (upd H a (.ins C dx (putF f y fs))) s'->Q () s'):wpAny (model X.prog X.w) A (setAttr (.ref a) f u) Q E s:=by
 obtain ⟨mA,O,r,wi,_,ho⟩:=Qcr I.hok e
 have hz:(fs.map (·.1)).length<=sizeLine:=by rw [List.length_map,sizeLine_eq];omega
 refine Qo4 I.kIn O c.sa c.po n.taker c.hd wi hz λh' O' sb=>h _ ?_
 have hd:∃o,h'.get? dx=some o:=let ⟨o,_,_,e',_⟩:=O'.ns;⟨o,e'⟩
 refine I.write (x:=a) (e:=dx) (by rw [e];exact True.intro) (.inr ho) (λb q hb z=>(sb.2 b hb).trans z) hd ?_
 refine ⟨by rw [Qq O.ne];exact ho,?_,O.ne,O'.obj,_,O'.ns,λg=>?_,λg hg=>?_⟩
 ·have:=Qaw f y fs;omega
 ·show RelO ((putF f y fs).lookup g) (if g=f then some u else mA g)
  rw [Qau]
  by_cases q:g=f
  ·rw [if_pos q,if_pos q];exact ry
  ·rw [if_neg q,if_neg q];exact r g
 ·by_cases q:g=f
  ·rw [q];exact (Qay f y fs).1
  ·refine (Qay f y fs).2 g (wi g λz=>hg ?_)
   show (if g=f then some u else mA g)=none
   rw [if_neg q];exact z
theorem Inv.made (I:Inv X pins σ H s):Inv X pins σ (upd (upd H s.heap.objs.size (.own (s.heap.objs.size+1))) (s.heap.objs.size+1) (.ins C s.heap.objs.size []))
  { s with heap:=(s.heap.push PySem.W.emptyDict).push (PySem.W.instObj C s.heap.objs.size) }:=by
 have e1:(s.heap.push PySem.W.emptyDict).get? s.heap.objs.size=some PySem.W.emptyDict:=Heap.get?_push_size s.heap rfl
 have e2:((s.heap.push PySem.W.emptyDict).push (PySem.W.instObj C s.heap.objs.size)).get? (s.heap.objs.size+1)=some (PySem.W.instObj C s.heap.objs.size):=by
  have:=Heap.get?_push_size (s.heap.push PySem.W.emptyDict) (o:=PySem.W.instObj C s.heap.objs.size) rfl
  rwa [Heap.size_push] at this
 have e3:(s.heap.push PySem.W.emptyDict).Ns s.heap.objs.size (λ_=>none):=⟨PySem.W.emptyDict,#[],_,e1,rfl,(λe he=>absurd he (by simp)),λ_=>rfl⟩
 have I1:=I.laid (a:=s.heap.objs.size) (o:=.own (s.heap.objs.size+1)) (h':=s.heap.push PySem.W.emptyDict) (t':=s.toks) (λb u q=>Heap.get?_push_of_some _ q) (Nat.le_refl _) ⟨_,e1⟩
 refine I1.laid (a:=s.heap.objs.size+1) (o:=.ins C s.heap.objs.size []) (t':=s.toks) (λb u q=>Heap.get?_push_of_some _ q) (Nat.le_of_eq (Heap.size_push _ _)) ?_
 have ne:s.heap.objs.size≠s.heap.objs.size+1:=Nat.ne_of_lt (Nat.lt_succ_self _)
 refine ⟨by rw [Qq ne,Qk],Nat.zero_le _,ne,e2,λ_=>none,(Heap.Ns1.of_empty e3).at λo q=>Heap.get?_push_of_some _ q,λ_=>True.intro,λy hy=>absurd rfl hy⟩
theorem Qq8 {f:Str} (hb:attributeBase e f env (eval e env)=eval e env)
  (h:wpAny (model prog w) A (eval e env) (λo s₁=>wpAny (model prog w) A (getAttr o f true) Q E s₁) E s):wpAny (model prog w) A (eval (.Attribute e f pos) env) Q E s :=
 Attribute_any_ h (by rw [arm_eval_Attribute,hb])
end
def tFld (K:PySem.W.Frag) (ta:TE) (f:Str):TE:=λσ H Q=>ta σ H λx H1=>∃a C dx fs v,x=.ref a/\H1 a=some (.ins C dx fs)/\Cls K C/\Jg K C f/\fs.lookup f=some v/\Q v H1
def sFld (K:PySem.W.Frag) (ta tv:TE) (f:Str):TS:=λD σ H=>tv σ H λy H1=>ta σ H1 λx H2=>∃a C dx fs,x=.ref a/\H2 a=some (.ins C dx fs)/\Cls K C/\Jg K C f/\fs.length<1000 /\
 D.nx σ (upd H2 a (.ins C dx (putF f y fs)))
section
variable {o value:Expr} {f:Str} {tv:TE}
theorem Qsc (he:PE X e ta) (hb:attributeBase e f X.env (eval e X.env)=eval e X.env):PE X (.Attribute e f pos) (tFld X.K ta f):=by
 intro pins s σ H Q I h
 refine Qq8 hb (thn (he pins s σ H _ I h) λu s1 ⟨x,H1,I1,rx,a,C,dx,fs,v,ex,ea,c,n,l,q⟩=>?_)
 subst ex
 obtain rfl:u=Value.ref a:=rx
 exact Qhw I1 ea c n l λu' s2 I2 ru=>⟨v,H1,I2,ru,q⟩
theorem Qbr (ha:PE X o ta) (hv:PE X value tv) (hs:swapsWith value (some (.Attribute o f pos')) pos.line X.env=pure false):PS X (.Assign [.Attribute o f pos'] value pos) (sFld X.K ta tv f):=by
 intro pins s σ H D I h
 refine plainObj_wpAny_Assign_Attribute (thn (hv pins s σ H _ I h) λu s1 ⟨y,H1,I1,ry,q⟩=>thn (ha pins s1 σ H1 _ I1 q) λov s2 ⟨x,H2,I2,rx,a,C,dx,fs,ex,ea,c,n,l,q2⟩=>?_) hs
 subst ex
 obtain rfl:ov=Value.ref a:=rx
 exact Qhf I2 ea c n l ry λs3 I3=>⟨σ,_,I3,q2⟩
end
section
variable {c:Value} {b:Bool}
inductive TyOf (K:PySem.W.Frag) (H:Hp):V->Value->Prop where
 | non:TyOf K H .non (.type "NoneType")
 | bl (x:Bool):TyOf K H (.bl x) (.type "bool")
 | int (i:Int):TyOf K H (.int i) (.type "int")
 | str (x:Str):TyOf K H (.str x) (.type "str")
 | flt (x:UInt64):TyOf K H (.flt x) (.type "float")
 | lst {a:Addr} {xs:List V} (e:H a=some (.lst xs)):TyOf K H (.ref a) (.type "list")
 | frz {a:Addr} {o:Obj} {xs:List V} (e:H a=some (.frz o (.lst xs))):TyOf K H (.ref a) (.type "list")
 | tup {a:Addr} {xs:List V} (e:H a=some (.tup xs)):TyOf K H (.ref a) (.type "tuple")
 | dK {a:Addr} {kvs:List (Key × V)} (e:H a=some (.dK kvs)):TyOf K H (.ref a) (.type "dict")
 | dT {a:Addr} {kvs:List (List Key × V)} (e:H a=some (.dT kvs)):TyOf K H (.ref a) (.type "dict")
 | ins {a C dx:Addr} {fs:List (Str × V)} (e:H a=some (.ins C dx fs)) (cl:Cls K C) (ha:PySem.W.findIn K (.ref C) "__class__" = some (some (.builtin "object.__class__")))
   (hn:PySem.W.specialIn K (.builtin "object.__class__") "__get__" = some (some (.builtin "getset_descriptor.__get__"))) (htk:PySem.W.takesIn K (.builtin "object.__class__")=some true)
   (hm:PySem.W.mroIn K C (.type "object")=some true):TyOf K H (.ref a) (.ref C)
theorem Qj7 {x:V} {t:Value} (I:Inv X pins σ H s) (rx:RelV x u) (ty:TyOf X.K H x t) (e:PySem.W.kitOne X.K t c=some b) (h:∀tk,Q (.bool b) { s with toks:=tk }) :
  wpAny (model X.prog X.w) A (call (.builtin "isinstance") [u,c]) Q E s:=by
 cases ty with
 | non=>cases (show u=Value.none from rx);exact PySem.W.kia_one PySem.W.kitx_none I.kIn True.intro e (λz=>nomatch z) h
 | bl y=>cases (show u=Value.bool y from rx);exact PySem.W.kia_one PySem.W.kitx_bool I.kIn True.intro e (λz=>nomatch z) h
 | int i=>obtain ⟨t,q⟩:=(show ∃t,u=Value.int i t from rx);cases q;exact PySem.W.kia_one PySem.W.kitx_int I.kIn True.intro e (λz=>nomatch z) h
 | str y=>obtain ⟨t,q⟩:=(show ∃t,u=Value.str y t from rx);cases q;exact PySem.W.kia_one PySem.W.kitx_str I.kIn True.intro e (λz=>nomatch z) h
 | flt y=>obtain ⟨t,q⟩:=(show ∃t,u=Value.float y t from rx);cases q;exact PySem.W.kia_one PySem.W.kitx_float I.kIn True.intro e (λz=>nomatch z) h
 | @lst a xs ea =>
  cases (show u=Value.ref a from rx)
  obtain ⟨_,_,n,_,h1⟩:=(show J4 X.prog X.w H s.heap a (.lst xs) from I.hok a _ ea)
  exact PySem.W.kia_one PySem.W.kitx_list I.kIn ⟨_,h1,rfl⟩ e (λz=>nomatch z) h
 | @frz a ob xs ea =>
  cases (show u=Value.ref a from rx)
  obtain ⟨_,_,_,n,_,h1⟩:=(show J4 X.prog X.w H s.heap a (.frz ob (.lst xs)) from I.hok a _ ea)
  exact PySem.W.kia_one PySem.W.kitx_list I.kIn ⟨_,h1,rfl⟩ e (λz=>nomatch z) h
 | @tup a xs ea =>
  cases (show u=Value.ref a from rx)
  obtain ⟨_,_,_,p⟩:=(show J4 X.prog X.w H s.heap a (.tup xs) from I.hok a _ ea)
  obtain ⟨o,h1,h2,_⟩:=p
  exact PySem.W.kia_one PySem.W.kitx_tuple I.kIn ⟨o,h1,h2⟩ e (λz=>nomatch z) h
 | @dK a kvs ea =>
  cases (show u=Value.ref a from rx)
  obtain ⟨_,_,vs,_,p⟩:=(show J4 X.prog X.w H s.heap a (.dK kvs) from I.hok a _ ea)
  obtain ⟨o,es,ep,h1,h2,_⟩:=p
  exact PySem.W.kia_one PySem.W.kitx_dict I.kIn ⟨o,h1,h2.1⟩ e (λz=>nomatch z) h
 | @dT a kvs ea =>
  cases (show u=Value.ref a from rx)
  obtain ⟨_,_,xs,_,o,es,ep,h1,h2,_⟩:=(show J4 X.prog X.w H s.heap a (.dT kvs) from I.hok a _ ea)
  exact PySem.W.kia_one PySem.W.kitx_dict I.kIn ⟨o,h1,h2.1⟩ e (λz=>nomatch z) h
 | @ins a C dx fs ea cl ha hn htk hm =>
  cases (show u=Value.ref a from rx)
  obtain ⟨mA,O,_⟩:=Qcr I.hok ea
  obtain ⟨od,J,_⟩:=O.look
  exact PySem.W.kia_one (PySem.W.kitx_own (cl.get _) cl.hd ha hn htk hm) I.kIn J e (λz=>nomatch z) h
end
structure Room (k:Nat) (A:Around):Prop where
 hd:A.handled=none
 dp:A.depth+3*k+5<recursionLimit
 un:A.units+16*k+200<cLine
theorem Room.mono {k:Nat} (r:Room k A) (h:j<=k):Room j A:=⟨r.hd,by have:=r.dp;omega,by have:=r.un;omega⟩
theorem Room.deeper {k:Nat} (r:Room (k+1) A) (env:Env):Room k (A.deeper env) :=
 ⟨r.hd,by have:=r.dp;show A.depth+1+3*k+5<_;omega,by have:=r.un;show A.units+3+16*k+200<_;omega⟩
theorem Qht:(A.under (.builtin "type.__call__" ⟨.ref C::us,kw⟩)).depth=A.depth+1:=by
 first | rfl | simp [Around.under,Code.weight,Code.isCreation,Code.isGuard,Code.isCaller,Code.frames,Code.isFrame,guardIds]
theorem Qhs:(A.under (.builtin "type.__call__" ⟨.ref C::us,kw⟩)).units=A.units+1:=by
 first | rfl | simp [Around.under,Code.cUnits,Code.frames,Code.isFrame]
theorem Room.make {k:Nat} (r:Room (k+1) A) (C:Addr) (us:List Value) (kw:List (Str × Value)):Room k (A.under (.builtin "type.__call__" ⟨.ref C::us,kw⟩)) :=
 ⟨r.hd,by have:=r.dp;rw [Qht];omega,by have:=r.un;rw [Qhs];omega⟩
theorem Room.depth {k:Nat} (r:Room k A):A.depth<recursionLimit:=by have:=r.dp;omega
theorem Room.units {k:Nat} (r:Room k A):A.units+64<cLine:=by have:=r.un;omega
def tNil:TA:=λ_ H Q=>Q [] H
def Qro (ta:TE) (tr:TA):TA:=λσ H Q=>ta σ H λx H1=>tr σ H1 λxs H2=>Q (x::xs) H2
section
variable {t:TA}
theorem Qdt:PA X [] tNil:=λ_ _ _ _ H Q I h=>Calls.spliced_nil ⟨[],H,I,.nil,h⟩
theorem Vq (ha:PE X e te) (hr:PA X es t) (hs:starEach (e::es) X.env=(false,eval e X.env)::starEach es X.env:=by rfl):PA X (e::es) (Qro te t):=by
 intro pos pins s σ H Q I h
 rw [hs]
 show wpAny _ _ (spliced ((false,eval e X.env)::backTo pos (starEach es X.env))) _ _ s
 refine Calls.spliced_cons (thn (ha pins s σ H _ I h) λu s1 ⟨x,H1,I1,r1,q1⟩=>?_)
 exact thn (hr pos pins s1 σ H1 _ I1 q1) λus s2 ⟨xs,H2,I2,r2,q2⟩=>⟨x::xs,H2,I2,.cons r1 r2,q2⟩
def tTup (t:TA):TE:=λσ H Q=>t σ H λxs H1=>xs.length<=sizeLine/\∀p,H1 p=none->Q (.ref p) (upd H1 p (.tup xs))
def tLst (t:TA):TE:=λσ H Q=>t σ H λxs H1=>xs.length<=sizeLine/\∀p,H1 p=none->Q (.ref p) (upd H1 p (.lst xs))
theorem Qoa {x1} (h:PA X es t):PE X (.Tuple es x1 pos) (tTup t):=by
 intro pins s σ H Q I hq
 refine wpAny_Tuple_spliced (thn (h pos pins s σ H _ I hq) λus s1 ⟨xs,H1,I1,r,z,q⟩=>⟨by rw [← r.length];exact z,?_⟩)
 have hf:H1 s1.heap.objs.size=none:=I1.hok.fresh (Nat.le_refl _)
 refine ⟨.ref s1.heap.objs.size,upd H1 s1.heap.objs.size (.tup xs),I1.laid (t':=s1.toks) (λb u e=>Heap.get?_push_of_some _ e) (Nat.le_refl _) ?_,rfl,q _ hf⟩
 exact ⟨z,us,r,⟨_,Heap.get?_push_size _ rfl,rfl,_,rfl⟩⟩
theorem Qob (h:PA X es t):PE X (.List es pos) (tLst t):=by
 intro pins s σ H Q I hq
 refine wpAny_List_spliced (thn (h pos pins s σ H _ I hq) λus s1 ⟨xs,H1,I1,r,z,q⟩=>⟨by rw [← r.length];exact z,?_⟩)
 have hf:H1 s1.heap.objs.size=none:=I1.hok.fresh (Nat.le_refl _)
 refine ⟨.ref s1.heap.objs.size,upd H1 s1.heap.objs.size (.lst xs),I1.laid (t':=s1.toks) (λb u e=>Heap.get?_push_of_some _ e) (Nat.le_refl _) ?_,rfl,q _ hf⟩
 exact ⟨z,us,0,r,Heap.get?_push_size _ rfl⟩
end
abbrev Sp:=List V->Hp->VK->XK->Prop
abbrev CXT:=List Env->Hp->Shared->XK->Value->Shared->Prop
end L2
variable {o:Option L2.V} {f:PySem.Addr} {r:L2.V->List L2.V->L2.Hp->L2.VK->Prop} {mg:PySem.Str->Option PySem.Value} {base:PySem.Heap} {CX:L2.CXT} {fd:PySem.FuncData} {ps:List PySem.Str} {outer:List PySem.Env} {qual:PySem.Str} {scope:PySem.Scope} {od:PySem.Obj} {osl:Array (Option PySem.Value)} {T:String} {apos:PySem.Pos}
namespace L2
open PySem PySem.Spec PyProof.Rows
structure Env0 (P:Program) (w:World) (K:PySem.W.Frag) (mg:Str->Option Value) (base:Heap) (A:Around) (outer:List Env) (s:Shared) (H:Hp):Prop where
 frames:A.frames=some outer
 mod:Mod K mg base
 bs:∀b o,base.get? b=some o->s.heap.get? b=some o/\H b=none
 bsz:base.objs.size<=s.heap.objs.size
 funs:s.heap.FunFrames base outer
 frf:∀b∈frs outer,H b=none
 hok:HOk P w H s.heap
 bare:AllBare s.gens
def CE (outer:List Env) (P:Program) (w:World) (H:Hp) (s:Shared) (Q:VK) (u:Value) (s':Shared):Prop :=
 ∃v H',s'.os=s.os/\AllBare s'.gens/\Un (frs outer) [] H H' s.heap s'.heap/\HOk P w H' s'.heap/\RelV v u/\Q v H'
def CR (CX:CXT) (outer:List Env) (P:Program) (w:World) (H:Hp) (s:Shared) (Q:VK) (E:XK) (r:Result) (s':Shared):Prop :=
 match r with
 | .ok (.ret u)=>CE outer P w H s Q u s'
 | .ok _=>False
 | .error e=>CX outer H s E e s'
structure FnOk (P:Program) (w:World) (K:PySem.W.Frag) (mg:Str->Option Value) (base:Heap) (CX:CXT) (k:Nat) (f:Addr) (fd:FuncData) (ps:List Str) (sp:Sp):Prop where
 len:∀vs H Q E,sp vs H Q E->vs.length=ps.length
 run:∀(A:Around) (outer:List Env) (s:Shared) (H:Hp) (args:Args) (us:List Value) (vs:List V) (Q:VK) (E:XK),Room k A->Env0 P w K mg base A outer s H->BindsTo s fd args (ps.zip us)->Vals vs us->sp vs H Q E ->
  codeAny (model P w) A (.call (.ref f) args) (CR CX outer P w H s Q E) s
theorem FnOk.mono {k:Nat} {sp:Sp} (F:FnOk P w K mg base CX j f fd ps sp) (h:j<=k) :
  FnOk P w K mg base CX k f fd ps sp:=⟨F.len,λA outer s H args us vs Q E hr=>F.run A outer s H args us vs Q E (hr.mono h)⟩
theorem Env0.make (e:Env0 P w K mg base A outer s H) (C:Addr) (us:List Value) (kw:List (Str × Value)) :
  Env0 P w K mg base (A.under (.builtin "type.__call__" ⟨.ref C::us,kw⟩)) outer s H:=⟨by first | exact e.frames | (simpa [Around.under,Code.envs,Code.isFrame,pushEnvs] using e.frames),e.mod,e.bs,e.bsz,e.funs,e.frf,e.hok,e.bare⟩
theorem Inv.env0 (I:Inv X pins σ H s):Env0 X.prog X.w X.K X.mg X.base X.A X.stack s H :=
 ⟨I.ok.frames,I.ok.mod,I.bs,Nat.le_trans I.ok.bsz I.sz,I.stack,I.stkFree,I.hok,I.bare⟩
theorem Inv.after {Q:VK} (I:Inv X pins σ H s) (h:CE X.stack X.prog X.w H s Q u s'):EP X pins σ Q u s':=by
 obtain ⟨v,H',os,bare,un,hok,r,q⟩:=h
 obtain ⟨hh,g,d,t,os'⟩:=s'
 obtain rfl:os'=s.os:=os
 exact ⟨v,H',I.call (h':=hh) (g':=g) (d':=d) (t':=t) (ch:=[]) un hok bare (λb z=>absurd z (by simp)),r,q⟩
def Qt1 (sp:Sp) (dvs:List V) (E:XK) (t:TA):TE:=λσ H Q=>t σ H λvs H1=>sp (vs++dvs) H1 Q E
def Qty (C:Addr) (sp:Sp) (dvs:List V) (E:XK) (t:TA):TE:=λσ H Q=>t σ H λvs H1=>∀x dx,H1 x=none->H1 dx=none->dx≠x ->
 sp (.ref x::(vs++dvs)) (upd (upd H1 dx (.own x)) x (.ins C dx [])) (λv H2=>v=.non/\Q (.ref x) H2) E
def Z2 (K:PySem.W.Frag) (fd:FuncData) (ps:List Str) (ds:List Value):Prop :=
 ∀(s:Shared) (us:List Value),K.In s.heap->(us++ds).length=ps.length->BindsTo s fd ⟨us,[]⟩ (ps.zip (us++ds))
theorem Z2.all (h:∀us:List Value,us.length=ps.length->bindArgs fd ⟨us,[]⟩=pure (ps.zip us)):Z2 K fd ps []:=λs us _ hl=>by
 rw [List.append_nil] at hl ⊢
 exact .of_eq (h us hl)
def Qep (CX:CXT) (X:Cx) (E:XK):Prop:=∀(pins:List (Addr × Obj)) (σ:St) (H:Hp) (s:Shared) (e:Value) (s':Shared),Inv X pins σ H s->CX X.stack H s E e s'->X.xe e s'
section
variable {k:Nat} {sp:Sp} {dvs:List V} {ds:List Value} {E:XK} {t:TA}
theorem Qnz {Q:VK} (F:FnOk X.prog X.w X.K X.mg X.base CX k f fd ps sp) (hr:Room k X.A) (hb:Z2 X.K fd ps ds) (hd:Vals dvs ds) (hx:Qep CX X E)
  (I:Inv X pins σ H s) (r:Vals vs us) (h:sp (vs++dvs) H Q E):wpAny (model X.prog X.w) X.A (call (.ref f) us) (EP X pins σ Q) X.xe s:=by
 have r2:Vals (vs++dvs) (us++ds):=r.append hd
 have hl:(us++ds).length=ps.length:=by rw [← r2.length];exact F.len _ _ _ _ h
 refine wpAny_call (codeAny_mono (F.run X.A X.stack s H ⟨us,[]⟩ (us++ds) (vs++dvs) Q E hr I.env0 (hb s us I.kIn hl) r2 h) λr s' hq=>?_)
 cases r with
 | error e=>exact hx pins σ H s e s' I hq
 | ok fl =>
  cases fl with
  | ret u=>exact I.after hq
  | next=>exact False.elim hq
  | brk=>exact False.elim hq
  | cont=>exact False.elim hq
theorem Qe5 (F:FnOk X.prog X.w X.K X.mg X.base CX k f fd ps sp) (hr:Room k X.A) (hg:Gl X x) (hm:X.mg x=some (.ref f)) (hk:PySem.W.keepIn X.K (.ref f)=true) (hb:Z2 X.K fd ps ds) (hd:Vals dvs ds) (hx:Qep CX X E)
  (ha:PA X (e::es) t) (hdb:(x == ("__debug__" : Str))=false:=by decide) (he:starEach (e::es) X.env=(false,eval e X.env)::starEach es X.env:=by rfl) (hpl:(backTo pos (starEach es X.env)).any (·.1)=false:=by rfl) :
  PE X (.Call (.Name x p) (e::es) [] pos) (Qt1 sp dvs E t):=by
 intro pins s σ H Q I h
 refine wpAny_Call_Name_kw (Qcp I hg hm ?_ hdb)
 refine PySem.W.callWith_K (h₀:=X.base) I.ok.mod.kin hk (thn (ha pos pins s σ H _ I h) λus s1 ⟨vs,H1,I1,r,q⟩=>⟨I1.kIn,?_⟩) he hpl
 exact Qnz F hr hb hd hx I1 r q
structure Mk (K:PySem.W.Frag) (C f:Addr):Prop where
 makes:PySem.W.makesIn K C=true
 init:PySem.W.findIn K (.ref C) "__init__" = some (some (.ref f))
 fn:PySem.W.isFn K (.ref f)=true
 kp:PySem.W.keepIn K (.ref C)=true
theorem Qlq {Q:VK} (M:Mk X.K C f) (F:FnOk X.prog X.w X.K X.mg X.base CX k f fd ps sp) (hr:Room (k+1) X.A) (hb:Z2 X.K fd ps ds) (hd:Vals dvs ds)
  (hx:Qep CX X E) (I:Inv X pins σ H s) (r:Vals vs us)
  (h:∀x dx,H x=none->H dx=none->dx≠x->sp (.ref x::(vs++dvs)) (upd (upd H dx (.own x)) x (.ins C dx [])) (λv H2=>v=.non/\Q (.ref x) H2) E) :
  wpAny (model X.prog X.w) X.A (call (.ref C) us) (EP X pins σ Q) X.xe s:=by
 have hq:=h (s.heap.objs.size+1) s.heap.objs.size (I.hok.fresh (Nat.le_succ _)) (I.hok.fresh (Nat.le_refl _)) (Nat.ne_of_lt (Nat.lt_succ_self _))
 have I2:=Inv.made (C:=C) I
 have r2:Vals (V.ref (s.heap.objs.size+1)::(vs++dvs)) (Value.ref (s.heap.objs.size+1)::(us++ds)):=.cons rfl (r.append hd)
 have hl:(Value.ref (s.heap.objs.size+1)::us++ds).length=ps.length:=by
  have e:=r2.length
  rw [F.len _ _ _ _ hq] at e
  exact e.symm
 refine wpAny_call (Qmq (f:=f) I.kIn M.makes M.init (beq_iff_eq.mp M.fn) (codeAny_mono (F.run _ X.stack _ _ ⟨Value.ref (s.heap.objs.size+1)::us,[]⟩ (Value.ref (s.heap.objs.size+1)::(us++ds)) _ _ E (hr.make C us [])
  (I2.env0.make C us []) (hb _ (Value.ref (s.heap.objs.size+1)::us) I2.kIn hl) r2 hq) λr s' hq'=>?_))
 cases r with
 | error e=>exact hx pins σ _ _ e s' I2 hq'
 | ok fl =>
  cases fl with
  | ret u =>
   obtain ⟨v,H',I3,rv,ev,q3⟩:=I2.after hq'
   subst ev
   exact ⟨rv,⟨V.ref (s.heap.objs.size+1),H',I3,rfl,q3⟩⟩
  | next=>exact False.elim hq'
  | brk=>exact False.elim hq'
  | cont=>exact False.elim hq'
theorem Qpr (M:Mk X.K C f) (F:FnOk X.prog X.w X.K X.mg X.base CX k f fd ps sp) (hr:Room (k+1) X.A) (hg:Gl X x) (hm:X.mg x=some (.ref C)) (hb:Z2 X.K fd ps ds) (hd:Vals dvs ds) (hx:Qep CX X E)
  (ha:PA X (e::es) t) (hdb:(x == ("__debug__" : Str))=false:=by decide) (he:starEach (e::es) X.env=(false,eval e X.env)::starEach es X.env:=by rfl) (hpl:(backTo pos (starEach es X.env)).any (·.1)=false:=by rfl) :
  PE X (.Call (.Name x p) (e::es) [] pos) (Qty C sp dvs E t):=by
 intro pins s σ H Q I h
 refine wpAny_Call_Name_kw (Qcp I hg hm ?_ hdb)
 refine PySem.W.callWith_K (h₀:=X.base) I.ok.mod.kin M.kp (thn (ha pos pins s σ H _ I h) λus s1 ⟨vs,H1,I1,r,q⟩=>⟨I1.kIn,?_⟩) he hpl
 exact Qlq M F hr hb hd hx I1 r q
end
structure FnScope (N P:List Str) (sc:Scope):Prop where
 kind:sc.kind=.function
 co:sc.isCoroutine=false
 gen:sc.isGenerator=false
 nd:N.Nodup
 pre:N.take P.length=P
 par:∀x∈P,sc.names.lookup x=some .local\/sc.names.lookup x=some .cell
 nofree:∀y∈sc.names,y.2 ≠ .free
theorem Qeg {kindOf:Str->Option NameKind} {x:Str}:∀{binds:List (Str × Value)} {m:Str->Option Value},(∀v,(x,v)∉binds)->bindL kindOf binds m x=m x
 | [],_,_=>rfl
 | (n,v)::r,m,h=>by
  unfold bindL
  rw [Qeg λw hw=>h w (List.mem_cons_of_mem _ hw)]
  split
  ·have:x≠n:=by rintro rfl;exact h v List.mem_cons_self
   simp [this]
  ·rfl
theorem Qei {kindOf:Str->Option NameKind} {x:Str}:∀{binds:List (Str × Value)} {m:Str->Option Value},(∀v,(x,v)∉binds)->bindC kindOf binds m x=m x
 | [],_,_=>rfl
 | (n,v)::r,m,h=>by
  unfold bindC
  rw [Qei λw hw=>h w (List.mem_cons_of_mem _ hw)]
  split
  ·rfl
  ·have:x≠n:=by rintro rfl;exact h v List.mem_cons_self
   simp [this]
theorem Qeh {kindOf:Str->Option NameKind} {x:Str} {v:Value}:∀{P:List Str} {vs:List Value} {i:Nat} {m:Str->Option Value},P.Nodup->P[i]? = some x->vs[i]? = some v->kindOf x=some .local ->
  bindL kindOf (P.zip vs) m x=some v
 | [],_,_,_,_,h,_,_=>by simp at h
 | _::_,[],_,_,_,_,h,_=>by simp at h
 | p::P,w::vs,0,m,nd,h1,h2,hk=>by
  simp at h1 h2;subst h1;subst h2
  show bindL kindOf ((p,w)::P.zip vs) m p=_
  unfold bindL
  rw [Qeg λv hv=>(List.nodup_cons.mp nd).1 (List.of_mem_zip hv).1,if_pos hk]
  simp
 | p::P,w::vs,i+1,m,nd,h1,h2,hk=>by
  show bindL kindOf ((p,w)::P.zip vs) m x=_
  unfold bindL
  exact Qeh (i:=i) (List.nodup_cons.mp nd).2 (by simpa using h1) (by simpa using h2) hk
theorem Qej {kindOf:Str->Option NameKind} {x:Str} {v:Value}:∀{P:List Str} {vs:List Value} {i:Nat} {m:Str->Option Value},P.Nodup->P[i]? = some x->vs[i]? = some v->kindOf x≠some .local ->
  bindC kindOf (P.zip vs) m x=some v
 | [],_,_,_,_,h,_,_=>by simp at h
 | _::_,[],_,_,_,_,h,_=>by simp at h
 | p::P,w::vs,0,m,nd,h1,h2,hk=>by
  simp at h1 h2;subst h1;subst h2
  show bindC kindOf ((p,w)::P.zip vs) m p=_
  unfold bindC
  rw [Qei λv hv=>(List.nodup_cons.mp nd).1 (List.of_mem_zip hv).1,if_neg hk]
  simp
 | p::P,w::vs,i+1,m,nd,h1,h2,hk=>by
  show bindC kindOf ((p,w)::P.zip vs) m x=_
  unfold bindC
  exact Qej (i:=i) (List.nodup_cons.mp nd).2 (by simpa using h1) (by simpa using h2) hk
def Gf (N:List Str) (vs:List V):St:=vs.map some++List.replicate (N.length-vs.length) none
def cxOf (CX:CXT) (P:Program) (w:World) (K:PySem.W.Frag) (mg:Str->Option Value) (base:Heap) (N:List Str) (qual:Str) (scope:Scope) (f:Addr) (cd:Value) (A:Around) (outer:List Env) (s:Shared) (H:Hp) (E:XK):Cx where
 prog:=P
 w:=w
 K:=K
 mg:=mg
 base:=base
 A:=A.deeper (envOfC qual scope s.heap.objs.size f cd)
 N:=N
 s₀:=s
 H₀:=H
 env:=envOfC qual scope s.heap.objs.size f cd
 outer:=outer
 stack:=envOfC qual scope s.heap.objs.size f cd::outer
 ex:=[]
 calm:=true
 fn:=λ_=>true
 pn:=[]
 xe:=λe s'=>wpAny (model P w) (A.deeper (envOfC qual scope s.heap.objs.size f cd)) (leaving (envOfC qual scope s.heap.objs.size f cd) e) (λ_ s''=>CX outer H s E e s'') (λe' s''=>CX outer H s E e' s'') s'
theorem Qg2 {sc:Scope} (h:sc.names.lookup x=some .cell):∃c,(cellsFrom n sc.names []).lookup x=some c:=by
 have q:=PySem.W.cellsFrom_some sc.names n [] (.inl h)
 exact Option.isSome_iff_exists.mp q
theorem Qj8 {cd:Value} {s1:Shared} {E:XK}
  (S:FnScope N ps scope) (hd:A.handled=none) (e0:Env0 P w K mg base A outer s H) (hl:vs.length=ps.length) (r:Vals vs us)
  (x:InCallC s s.heap.objs.size (bindL (envOfC qual scope s.heap.objs.size f cd).kindOf (ps.zip us) λ_=>none) (cellsFrom (s.heap.objs.size+1) scope.names []) (bindC (envOfC qual scope s.heap.objs.size f cd).kindOf (ps.zip us) λ_=>none) s1) :
  Inv (cxOf CX P w K mg base N qual scope f cd A outer s H E) [] (Gf N vs) H s1:=by
 have hpl:ps.length<=N.length:=by have:=congrArg List.length S.pre;rw [List.length_take] at this;omega
 obtain ⟨h1,tk,rfl,hk⟩:=x.done
 have noA:∀b:Addr,b∉(cxOf CX P w K mg base N qual scope f cd A outer s H E).ex:=λb z=>absurd (show b∈([]:List Addr) from z) (by simp)
 refine ⟨⟨e0.mod,S.kind,rfl,rfl,Nat.le_refl _,λy z c h1 h2=>?_,λy hy=>?_,λy c _ h=>?_,λ_=>hd,Around.frames_deeper e0.frames,.inr ⟨rfl,rfl⟩,λb z=>absurd z (noA b),e0.bs,e0.bsz,λb _ _=>noA b,λb z=>absurd z (noA b),e0.funs,e0.frf⟩,
  rfl,e0.bare,Un.kept hk,⟨_,x.toInCall.ns,λi y v h1 h2 h3=>?_⟩,λy c h=>⟨_,x.cell y c h⟩,e0.hok.fresh (Nat.le_refl _),λy c h=>?_,λp hp=>absurd (show p∈([]:List (Addr × Obj)) from hp) (by simp),e0.hok.kept hk,?_⟩
 ·exact name_of_addr x.apart (PySem.mem_of_lookup h1) (PySem.mem_of_lookup h2)
 ·have hy:scope.names.lookup y=some .cell\/scope.names.lookup y=some .free:=hy
  rcases hy with hy | hy
  ·exact Qg2 hy
  ·exact absurd rfl (S.nofree _ (PySem.mem_of_lookup hy))
 ·exact Nat.le_of_lt (x.above y c (PySem.mem_of_lookup h))
 ·have hi:i<vs.length:=by
   unfold Gf at h2
   by_cases hi:i<vs.length
   ·exact hi
   ·rw [List.getElem?_append_right (by simpa using hi)] at h2
    rw [List.getElem?_replicate] at h2
    split at h2 <;> cases h2
  have ha:vs[i]? = some v:=by
   unfold Gf at h2
   rw [List.getElem?_append_left (by simpa using hi),List.getElem?_map] at h2
   cases e:vs[i]? with
   | none=>rw [e] at h2;cases h2
   | some a=>rw [e] at h2;cases h2;rfl
  obtain ⟨u,hu,rv⟩:=r.get ha
  have hp:ps[i]? = some y:=by
   rw [← S.pre,List.getElem?_take_of_lt (by omega)];exact h1
  have ndP:ps.Nodup:=by rw [← S.pre];exact S.nd.sublist (List.take_sublist _ _)
  refine ⟨u,rv,?_⟩
  rcases S.par y (List.mem_of_getElem? hp) with k | k
  ·exact .inl ⟨k,Qeh ndP hp hu k⟩
  ·obtain ⟨c,e⟩:=Qg2 (n:=s.heap.objs.size+1) k
   refine .inr ⟨.inl k,c,e,?_⟩
   have q:=x.cell y c e
   rw [Qej ndP hp hu (by show scope.names.lookup y≠_;rw [k];decide)] at q
   exact q
 ·exact e0.hok.fresh (Nat.le_of_lt (x.above y c (PySem.mem_of_lookup h)))
 ·unfold Gf
  show _=N.length
  rw [List.length_append,List.length_map,List.length_replicate]
  omega
theorem Qu4 {k:Nat} {params:Arguments} {dV kV doc pm cdv ct oc:Value} {an od:Option Addr} {sp:Sp} (lk:K.lookup f=some ⟨oc,od,.func (PySem.W.fnOf name qual params body scope dV kV doc pm an cdv ct),osl⟩) (hcd:PySem.W.codeIn K cdv qual=true) (S:FnScope N ps scope)
  (len:∀vs H Q E,sp vs H Q E->vs.length=ps.length)
  (hbody:∀(A:Around) (outer:List Env) (s:Shared) (H:Hp) (vs:List V) (Q:VK) (E:XK),Room k (A.deeper (envOfC qual scope s.heap.objs.size f cdv))->sp vs H Q E ->
   ∃t,PSs (cxOf CX P w K mg base N qual scope f cdv A outer s H E) body t/\t { nx:=λ_ H'=>Q .non H',rt:=Q } (Gf N vs) H) :
  FnOk P w K mg base CX (k+1) f (PySem.W.fnOf name qual params body scope dV kV doc pm an cdv ct) ps sp:=by
 refine ⟨len,λA outer s H args us vs Q E hr e0 hb r hsp=>?_⟩
 have hl:=len _ _ _ _ hsp
 have KX:K.In s.heap:=e0.mod.kin.keeps λb o e=>(e0.bs b o e).1
 have lim:s.heap.NoLimit:=e0.mod.nolimit.keeps λb o e=>(e0.bs b o e).1
 have hkind:∀y∈ps.zip us,scope.names.lookup y.1=some .local\/(scope.names.lookup y.1=some .cell/\((cellsFrom (s.heap.objs.size+1) scope.names []).lookup y.1).isSome=true):=λ⟨n,v⟩ hy=>by
  rcases S.par n (List.of_mem_zip hy).1 with q | q
  ·exact .inl q
  ·exact .inr ⟨q,PySem.W.cellsFrom_some _ _ _ (.inl q)⟩
 refine codeAny_call_function hr.depth (KX _ _ lk) rfl S.co S.gen rfl (PySem.W.codeRec_of KX hcd) (hb _ _ _ _ ?_)
 refine wpAny_newFunctionEnv_cells S.kind hkind λenv he s1 x=>?_
 subst he
 refine ⟨lim.keeps x.toInCall.keep,codeAny_func ?_⟩
 obtain ⟨t,ht,hq⟩:=hbody A outer s H vs Q E (hr.deeper _) hsp
 have I:Inv (cxOf CX P w K mg base N qual scope f cdv A outer s H E) [] (Gf N vs) H s1:=Qj8 S hr.hd e0 hl r x
 refine wpAny_mono (ht [] s1 (Gf N vs) H _ I hq) (λfl s' hs=>?_) λe s' hs=>hs
 have fin:∀{σ':St} {H':Hp} {v:V} {u:Value},Inv (cxOf CX P w K mg base N qual scope f cdv A outer s H E) [] σ' H' s'->RelV v u->Q v H'->CE outer P w H s Q u s' :=
  λ{σ' H' v u} J rv q=>⟨v,H',J.os,J.bare,J.base,J.hok,rv,q⟩
 cases fl with
 | ret u =>
  obtain ⟨v,σ',H',J,rv,q⟩:=hs
  exact fin J rv q
 | next =>
  obtain ⟨σ',H',J,q⟩:=hs
  exact fin (v:=V.non) (u:=Value.none) J rfl q
 | brk =>
  obtain ⟨_,_,_,q⟩:=hs
  exact False.elim q
 | cont =>
  obtain ⟨_,_,_,q⟩:=hs
  exact False.elim q
section
variable {t:TA} {id:String} {r:List V->Hp->VK->Prop}
def tCB (r:List V->Hp->VK->Prop) (t:TA):TE:=λσ H Q=>t σ H λvs H1=>r vs H1 Q
theorem Qme (hc:Uh X (.builtin id) r) (hg:Gl X x) (hm:X.mg x=none) (hv:bootBuiltins x=some (.builtin id)) (ha:PA X (e::es) t) (hn:x ≠ "__name__":=by decide) (hdb:(x == ("__debug__" : Str))=false:=by decide)
  (he:starEach (e::es) X.env=(false,eval e X.env)::starEach es X.env:=by rfl) (hpl:(backTo pos (starEach es X.env)).any (·.1)=false:=by rfl):PE X (.Call (.Name x p) (e::es) [] pos) (tCB r t):=by
 intro pins s σ H Q I h
 refine wpAny_Call_Name_kw (Qd3 I hg hm hv ?_ hn hdb)
 exact PyProof.Rows.callWith_builtin1 (thn (ha pos pins s σ H _ I h) λus s1 ⟨vs,H1,I1,r1,q1⟩=>hc pins s1 σ H1 vs us Q I1 r1 q1) he hpl
theorem Qjb (hc:Uh X (.type T) r) (hg:Gl X x) (hm:X.mg x=none) (hv:bootBuiltins x=some (.type T)) (ha:PA X (e::es) t) (hn:x ≠ "__name__":=by decide) (hdb:(x == ("__debug__" : Str))=false:=by decide)
  (he:starEach (e::es) X.env=(false,eval e X.env)::starEach es X.env:=by rfl) (hpl:(backTo pos (starEach es X.env)).any (·.1)=false:=by rfl):PE X (.Call (.Name x p) (e::es) [] pos) (tCB r t):=by
 intro pins s σ H Q I h
 refine wpAny_Call_Name_kw (Qd3 I hg hm hv ?_ hn hdb)
 exact PyProof.Rows.callWith_type1 (thn (ha pos pins s σ H _ I h) λus s1 ⟨vs,H1,I1,r1,q1⟩=>hc pins s1 σ H1 vs us Q I1 r1 q1) he hpl
end
end L2
variable {ws:List PySem.Value} {sl:PySem.Addr} {vl vu:PySem.Value} {items:Array PySem.Value}
namespace HT
open PySem PyProof.Rows
theorem Qq1 {t:Addr} {vs:List Value} (ht:IsTup s.heap t vs.toArray) (hb:IsTup s.heap b ws.toArray) (hv:vs≠[])
  (h1:ws=[]->Q (.ref t) s) (h2:ws≠[]->Q (.ref s.heap.objs.size) { s with heap:=s.heap.push { cls:=.type "tuple",data:=.seq (vs++ws).toArray } })
  (hsz:vs.length+ws.length<=sizeLine):wpAny (model prog w) A (binaryOp .Add (.ref t) (.ref b)) Q E s:=by
 obtain ⟨⟨cls,dd,data,sl⟩,ho,hc,n,hd⟩:=id ht
 obtain ⟨⟨cls2,dd2,data2,sl2⟩,ho2,hc2,n2,hd2⟩:=id hb
 simp only at hc hd hc2 hd2
 subst hc hd hc2 hd2
 have e:vs.toArray++ws.toArray=(vs++ws).toArray:=by simp
 by_cases hw:ws=[]
 ·exact concat_meets ⟨_,ho,rfl⟩ ⟨_,ho2,rfl⟩ noFill_tuple_add seq_tuple_add PySem.F.slot_tuple_add PySem.F.entry_tuple_add (PySem.F.args_tuple_add_2 _ _)
   (tuple_addW1 t b vs.toArray ws.toArray n n2 dd dd2 sl sl2 (by simpa using hv) (by simp [hw])) ⟨ho,ho2,h1 hw⟩
 ·refine concat_meets ⟨_,ho,rfl⟩ ⟨_,ho2,rfl⟩ noFill_tuple_add seq_tuple_add PySem.F.slot_tuple_add PySem.F.entry_tuple_add (PySem.F.args_tuple_add_2 _ _)
   (tuple_addW2 t b vs.toArray ws.toArray n n2 dd dd2 sl sl2 (by simpa using hv) (by simpa using hw) (by rw [List.size_toArray,List.size_toArray];exact hsz)) ⟨ho,ho2,?_⟩
  rw [e]
  exact h2 hw
def sIx (n d:Nat):Option Int->Nat
 | none=>d
 | some v=>if v<0 then (v+(n:Int)).toNat else min v.toNat n
theorem Qgd (n d:Nat):sIx n d none=d:=rfl
theorem Qiv (n d k:Nat):sIx n d (some (k:Int))=min k n:=by
 show (if (k:Int)<0 then ((k:Int)+(n:Int)).toNat else min (k:Int).toNat n)=min k n
 rw [if_neg (by omega),Int.toNat_natCast]
theorem Qrr (n d:Nat) (hd:d<=n) (o:Option Int):sIx n d o<=n:=by
 cases o with
 | none=>exact hd
 | some v =>
  show (if v<0 then (v+(n:Int)).toNat else min v.toNat n)<=n
  by_cases hv:v<0
  ·rw [if_pos hv];omega
  ·rw [if_neg hv];exact Nat.min_le_right _ _
theorem Qk0 (v:Int) (n d:Nat):(if v<0 then max (v+(n:Int)) 0 else min v (n:Int))=((sIx n d (some v):Nat):Int):=by
 show (if v<0 then max (v+(n:Int)) 0 else min v (n:Int))=(((if v<0 then (v+(n:Int)).toNat else min v.toNat n):Nat):Int)
 by_cases hv:v<0
 ·simp only [if_pos hv];omega
 ·simp only [if_neg hv];omega
theorem Qh4 (lo hi:Option Int) (n:Nat):Builtin.Slice.sliceAdjust lo hi 1 (n:Int)=(((sIx n 0 lo:Nat):Int),((sIx n n hi:Nat):Int)):=by
 have h1:¬((1:Int)<0):=by omega
 unfold Builtin.Slice.sliceAdjust
 simp only [h1,if_false]
 refine Prod.ext ?_ ?_
 ·cases lo with
  | none=>rfl
  | some v=>exact Qk0 v n 0
 ·cases hi with
  | none=>rfl
  | some v=>exact Qk0 v n n
theorem Qhk (i j:Nat):Builtin.Slice.slicePlaces (i:Int) (j:Int) 1=j-i:=by
 unfold Builtin.Slice.slicePlaces
 have h1:(1:Int) > 0:=by omega
 simp only [h1,if_true,Int.ediv_one]
 split <;> omega
theorem Qbo {v:Value} {o:Option Int} {Q:Option Int->Shared->Prop} (p:IsPart v o) (h:Q o s):wpAny (model prog w) A (Builtin.Slice.slicePartIndex v) Q E s:=by
 cases p with
 | none=>exact slicePart_none h
 | int i t=>exact slicePart_int h
theorem Vx {Q:Int × Int × Nat->Shared->Prop} (hs:s.heap.IsSliceOf sl vl vu .none) (pl:IsPart vl lo) (pu:IsPart vu hi)
  (h:Q (((sIx n 0 lo:Nat):Int),1,sIx n n hi-sIx n 0 lo) s):wpAny (model prog w) A (Builtin.Slice.sliceApplied (.ref sl) (pure (n:Int))) Q E s:=by
 obtain ⟨os,hos,hcs,hds⟩:=id hs
 unfold Builtin.Slice.sliceApplied Builtin.Slice.sliceFields
 refine wpAny_bind (wpAny_bind (wpAny_field hos hds (x:=vl) rfl (wpAny_bind (wpAny_field hos hds (x:=vu) rfl (wpAny_bind (wpAny_field hos hds (x:=.none) rfl (wpAny_pure ?_)))))))
 refine wpAny_bind (slicePart_none ?_)
 show wpAny _ _ (if ((1:Int) == 0)=true then _ else _) _ _ s
 rw [if_neg (by decide)]
 refine wpAny_bind (Qbo pl (wpAny_bind (Qbo pu (wpAny_bind (wpAny_pure ?_)))))
 show wpAny _ _ (match Builtin.Slice.sliceAdjust lo hi 1 (n:Int) with | (lo,hi)=>pure (lo,(1:Int),Builtin.Slice.slicePlaces lo hi 1)) _ _ s
 rw [Qh4 lo hi n]
 show wpAny _ _ (pure (((sIx n 0 lo:Nat):Int),(1:Int),Builtin.Slice.slicePlaces ((sIx n 0 lo:Nat):Int) ((sIx n n hi:Nat):Int) 1)) _ _ s
 rw [Qhk]
 exact wpAny_pure h
theorem Ql6 (xs:Array Value) (i k:Nat):((List.range k).filterMap λ(m:Nat)=>xs[((i:Int)+(m:Int)*1).toNat]?).toArray=((xs.toList.drop i).take k).toArray:=by
 have e:(λ(m:Nat)=>xs[((i:Int)+(m:Int)*1).toNat]?)=λm=>xs[i+m]?:=by
  funext m
  have:((i:Int)+(m:Int)*1).toNat=i+m:=by omega
  rw [this]
 rw [e]
 have:=pick_run xs i k
 rw [List.filterMap_map] at this
 have e2:((λx=>xs[x]?) ∘ λx=>i+x)=λm=>xs[i+m]?:=rfl
 rw [e2] at this
 rw [this]
theorem G5 {t:Addr} (ht:IsTup s.heap t items) (hs:s.heap.IsSliceOf sl vl vu .none) (pl:IsPart vl lo) (pu:IsPart vu hi)
  (hw:¬(sIx items.size 0 lo=0/\sIx items.size items.size hi=items.size))
  (h:Q (.ref s.heap.objs.size) { s with heap:=s.heap.push { cls:=.type "tuple",data:=.seq ((items.toList.drop (sIx items.size 0 lo)).take (sIx items.size items.size hi-sIx items.size 0 lo)).toArray } })
  (hsz:items.size<=sizeLine):wpAny (model prog w) A (getItem (.ref t) (.ref sl)) Q E s:=by
 have htake:sizeOk (.seq ((items.toList.drop (sIx items.size 0 lo)).take (sIx items.size items.size hi-sIx items.size 0 lo)).toArray):=by
  show ((items.toList.drop (sIx items.size 0 lo)).take (sIx items.size items.size hi-sIx items.size 0 lo)).toArray.size<=sizeLine
  rw [List.size_toArray,List.length_take,List.length_drop,Array.length_toList]
  omega
 have hj:sIx items.size items.size hi<=items.size:=Qrr _ _ (Nat.le_refl _) hi
 obtain ⟨os,hos,hcs,hds⟩:=id hs
 have hTs:s.TypeIs (.ref sl) "slice":=⟨os,hos,hcs⟩
 unfold getItem
 try with_reducible refine wpAny_holding ?_
 first | refine wpAny_bind (wpAny_pure ?_) | skip
 refine wpAny_bind (wpAny_sequenceKey ht.typeIs (by decide) ?_)
 refine wpAny_bind (wpAny_callSpecial?_slot (name:=Str.ofString "__getitem__") ht.typeIs PyProof.Rows.slot_tuple_getitem
  (wpAny_call_entry PyProof.Rows.slot_tuple_getitem ht.typeIs entry_tuple_getitem ?_ (args_tuple_getitem _ _)))
 show wpAny _ _ (Builtin.Tuple.tupleItemsOf (.ref t) >>= _) _ _ s
 refine wpAny_bind (tupleItemsOf_ ht ?_)
 refine wpAny_bind (wpAny_typeOf hTs ?_)
 rw [if_pos (by decide)]
 refine wpAny_bind (Vx hs pl pu ?_)
 have hno:¬((((sIx items.size 0 lo:Nat):Int) == 0 && (1:Int) == 1 && (sIx items.size items.size hi-sIx items.size 0 lo) == items.size)=true):=by
  intro q
  rw [Bool.and_eq_true,Bool.and_eq_true] at q
  have q1:((sIx items.size 0 lo:Nat):Int)=0:=eq_of_beq q.1.1
  have q2:sIx items.size items.size hi-sIx items.size 0 lo=items.size:=eq_of_beq q.2
  exact hw ⟨by omega,by omega⟩
 show wpAny _ _ (if (((sIx items.size 0 lo:Nat):Int) == 0 && (1:Int) == 1 && (sIx items.size items.size hi-sIx items.size 0 lo) == items.size)=true then _ else _) _ _ s
 rw [if_neg hno,Ql6]
 first
  | exact wpAny_bind (m:=Builtin.Tuple.tupleExact _) (wpAny_newObj_type (wpAny_pure ⟨_,rfl,wpAny_pure h⟩) htake)
  | exact wpAny_bind (m:=Builtin.Tuple.tupleExact _) (wpAny_newObj_type (wpAny_bind (wpAny_pure (wpAny_pure ⟨_,rfl,wpAny_pure h⟩))) htake)
  | exact wpAny_bind (wpAny_bind (m:=Builtin.Tuple.tupleExact _) (wpAny_newObj_type (wpAny_pure (wpAny_pure ⟨_,rfl,wpAny_pure h⟩)) htake))
  | exact wpAny_bind (wpAny_bind (m:=Builtin.Tuple.tupleExact _) (wpAny_newObj_type (wpAny_pure ⟨_,rfl,wpAny_pure h⟩) htake))
end HT
namespace L2
open PySem PySem.Spec PyProof.Rows
abbrev TO:=St->Hp->(Option Int->Hp->Prop)->Prop
end L2
variable {xs:List (List L2.Key × PySem.Addr × PySem.Value)} {kvs:List (List L2.Key × L2.V)} {ks:List L2.Key} {trs:List (L2.TE × L2.TE)} {l:PySem.W.OpenLaw} {p2 cpos:PySem.Pos} {zs:List L2.V}
namespace L2
open PySem PySem.Spec PyProof.Rows
def PO (X:Cx) (e:Option Expr) (t:TO):Prop :=
 ∀(pins:List (Addr × Obj)) (s:Shared) (σ:St) (H:Hp) (Q:Option Int->Hp->Prop),Inv X pins σ H s->t σ H Q ->
  wpAny (model X.prog X.w) X.A (evalPart e X.env) (λu s'=>∃o H',Inv X pins σ H' s'/\IsPart u o/\Q o H') X.xe s
def Qox:TO:=λ_ H Q=>Q none H
def Qtw (t:TE):TO:=λσ H Q=>t σ H λx H1=>∃i,x=.int i/\Q (some i) H1
section
variable {lo hi:Option Expr} {tl th:TO}
theorem Qpn:PO X none Qox:=by
 intro pins s σ H Q I h
 rw [evalPart_none]
 exact wpAny_pure ⟨none,H,I,.none,h⟩
theorem Qpm (h:PE X e te):PO X (some e) (Qtw te):=by
 intro pins s σ H Q I hw
 rw [evalPart_some]
 refine thn (h pins s σ H _ I hw) λu s1 ⟨x,H1,I1,r1,q1⟩=>?_
 obtain ⟨i,rfl,q⟩:=q1
 obtain ⟨t,rfl⟩:=r1
 exact ⟨some i,H1,I1,.int i t,q⟩
def SlR (X:Cx) (r:V->Option Int->Option Int->Hp->VK->Prop):Prop :=
 ∀(pins:List (Addr × Obj)) (s:Shared) (σ:St) (H:Hp) (x:V) (v vl vu:Value) (lo hi:Option Int) (sl:Addr) (Q:VK),Inv X pins σ H s->RelV x v->s.heap.IsSliceOf sl vl vu .none->IsPart vl lo->IsPart vu hi->r x lo hi H Q ->
  ∃T id,typeLookup (.type T) "__getitem__" = pure (some (.builtin id))/\s.TypeIs v T/\wpAny (model X.prog X.w) X.A (getItem v (.ref sl)) (EP X pins σ Q) X.xe s
theorem SlR.or {r r':V->Option Int->Option Int->Hp->VK->Prop} (h:SlR X r) (h':SlR X r'):SlR X (λx lo hi H Q=>r x lo hi H Q\/r' x lo hi H Q):=by
 intro pins s σ H x v vl vu lo hi sl Q I rx hs pl pu q
 rcases q with q | q
 ·exact h pins s σ H x v vl vu lo hi sl Q I rx hs pl pu q
 ·exact h' pins s σ H x v vl vu lo hi sl Q I rx hs pl pu q
def tSl (r:V->Option Int->Option Int->Hp->VK->Prop) (te:TE) (tl th:TO):TE:=λσ H Q=>te σ H λx H1=>tl σ H1 λl H2=>th σ H2 λu H3=>r x l u H3 Q
theorem Ql8 {r:V->Option Int->Option Int->Hp->VK->Prop} (hr:SlR X r) (he:PE X e te) (hl:PO X lo tl) (hu:PO X hi th):PE X (.Subscript e (.Slice lo hi none p2) pos) (tSl r te tl th):=by
 intro pins s σ H Q I h
 refine Subscript_ (thn (he pins s σ H _ I h) λv s1 ⟨x,H1,I1,r1,q1⟩=>?_)
 refine wpAny_Slice (thn (hl pins s1 σ H1 _ I1 q1) λvl s2 ⟨l,H2,I2,pl,q2⟩=>thn (hu pins s2 σ H2 _ I2 q2) λvu s3 ⟨u,H3,I3,pu,q3⟩=>?_)
 rw [evalPart_none]
 refine wpAny_pure ?_
 have I4:Inv X pins σ H3 { s3 with heap:=s3.heap.push { cls:=.type "slice",data:=.fields #[vl,vu,.none] } }:=I3.kept (t':=s3.toks) λb ob q=>Heap.get?_push_of_some _ q
 obtain ⟨T,id,hT,ht,hg⟩:=hr pins { s3 with heap:=s3.heap.push { cls:=.type "slice",data:=.fields #[vl,vu,.none] } } σ H3 x v vl vu l u s3.heap.objs.size Q I4 r1 (Heap.IsSliceOf.new ..) pl pu q3
 show wpAny (model X.prog X.w) X.A (subscriptTail e (.Slice lo hi none p2) v (.ref s3.heap.objs.size)) (EP X pins σ Q) X.xe { s3 with heap:=s3.heap.push { cls:=.type "slice",data:=.fields #[vl,vu,.none] } }
 exact tail_any (ops:=[.ref s3.heap.objs.size,v]) ht hT hg (by with_unfolding_all rfl)
def cutV (xs:List V) (lo hi:Option Int):List V:=(xs.drop (HT.sIx xs.length 0 lo)).take (HT.sIx xs.length xs.length hi-HT.sIx xs.length 0 lo)
theorem Qa6 (xs:List V) (lo hi:Option Int):(cutV xs lo hi).length<=xs.length:=by
 unfold cutV
 rw [List.length_take,List.length_drop]
 omega
def rSlT (K:PySem.W.Frag):V->Option Int->Option Int->Hp->VK->Prop:=λx lo hi H Q=>∃a xs,x=.ref a/\SqT K H a xs /\
 ¬(HT.sIx xs.length 0 lo=0/\HT.sIx xs.length xs.length hi=xs.length)/\∀p,H p=none->Q (.ref p) (upd H p (.tup (cutV xs lo hi)))
theorem Qrp:SlR X (rSlT X.K):=by
 intro pins s σ H x v vl vu lo hi sl Q I rx hs pl pu h
 obtain ⟨a,xs,rfl,hx,hw,q⟩:=h
 cases rx
 obtain ⟨its,r,ht,hz⟩:=I.tuple hx
 have hlen:its.toArray.size=xs.length:=by rw [List.size_toArray];exact r.length.symm
 refine ⟨"tuple",_,PyProof.Rows.slot_tuple_getitem.lookup,ht.typeIs,?_⟩
 refine HT.G5 ht hs pl pu (by rw [hlen];exact hw) ?_ (by rw [hlen];exact hz)
 rw [hlen]
 refine ⟨.ref s.heap.objs.size,_,I.laid (t':=s.toks) (o:=.tup (cutV xs lo hi)) (λb ob q=>Heap.get?_push_of_some _ q) (Nat.le_refl _) ?_,rfl,q _ (I.hok.fresh (Nat.le_refl _))⟩
 exact ⟨Nat.le_trans (Qa6 xs lo hi) hz,_,(r.drop (HT.sIx xs.length 0 lo)).take (HT.sIx xs.length xs.length hi-HT.sIx xs.length 0 lo),IsTup.new _ _⟩
def Qug (K:PySem.W.Frag):R2:=λx y H Q=>∃a b xs ys,x=.ref a/\y=.ref b/\SqT K H a xs/\SqT K H b ys/\xs≠[]/\xs.length+ys.length<=sizeLine /\
 (ys=[]->Q (.ref a) H)/\(ys≠[]->∀p,H p=none->Q (.ref p) (upd H p (.tup (xs++ys))))
theorem Vals.nil_iff {xs:List V} (r:Vals xs us):us=[]↔xs=[]:=by
 cases r with
 | nil=>simp
 | cons _ _=>simp
theorem Qp2:OpR X (binaryOp .Add) (Qug X.K):=by
 intro pins s σ H x y v u Q I rx ry h
 obtain ⟨a,b,xs,ys,rfl,rfl,ha,hb,hx,hz,q1,q2⟩:=h
 cases rx
 cases ry
 obtain ⟨its,r1,p1,_⟩:=I.tuple ha
 obtain ⟨its2,r2,p2,_⟩:=I.tuple hb
 refine HT.Qq1 p1 p2 (λz=>hx (r1.nil_iff.mp z)) (λz=>⟨.ref a,H,I,rfl,q1 (r2.nil_iff.mp z)⟩) (λz=>?_) (by rw [← r1.length,← r2.length];exact hz)
 refine ⟨.ref s.heap.objs.size,_,I.laid (t':=s.toks) (o:=.tup (xs++ys)) (λb ob q=>Heap.get?_push_of_some _ q) (Nat.le_refl _) ?_,rfl,q2 (λw=>z (r2.nil_iff.mpr w)) _ (I.hok.fresh (Nat.le_refl _))⟩
 exact ⟨by rw [List.length_append];exact hz,_,r1.append r2,IsTup.new _ _⟩
end
def ixN (n:Nat) (i:Int):Option Nat:=if 0<=i then (if i<n then some i.toNat else none) else if -(n:Int)<=i then some (i+n).toNat else none
def atI {α:Type} (xs:List α) (i:Int):Option α:=(ixN xs.length i).bind λj=>xs[j]?
theorem Qfk (h:ixN n i=some j):seqIndex? i n=some j/\j<n /\ -(n:Int)<=i/\i<n:=by
 unfold ixN at h
 by_cases h0:0<=i
 ·rw [if_pos h0] at h
  by_cases h1:i<n
  ·rw [if_pos h1] at h
   have e:i.toNat=j:=Option.some.inj h
   exact ⟨by rw [seqIndex_of h0 h1,e],by omega,by omega,h1⟩
  ·rw [if_neg h1] at h;cases h
 ·rw [if_neg h0] at h
  by_cases h1:-(n:Int)<=i
  ·rw [if_pos h1] at h
   have e:(i+n).toNat=j:=Option.some.inj h
   exact ⟨by rw [seqIndex_neg (by omega) h1,e],by omega,h1,by omega⟩
  ·rw [if_neg h1] at h;cases h
theorem Qfu {α:Type} {xs:List α} {v:α} (h:atI xs i=some v):∃j,seqIndex? i xs.length=some j/\xs[j]? = some v/\j<xs.length /\ -(xs.length:Int)<=i/\i<xs.length:=by
 unfold atI at h
 cases e:ixN xs.length i with
 | none=>rw [e] at h;cases h
 | some j =>
  rw [e] at h
  obtain ⟨h1,h2,h3,h4⟩:=Qfk e
  exact ⟨j,h1,h,h2,h3,h4⟩
def Qlf (b:Expr):Prop:=∀o i,subscripted b false o i=operate [o,i] (getItem o i)
def IxR (X:Cx) (r:R2):Prop :=
 ∀(value slice:Expr) (pins:List (Addr × Obj)) (s:Shared) (σ:St) (H:Hp) (x y:V) (v u:Value) (Q:VK),Inv X pins σ H s->RelV x v->RelV y u->r x y H Q ->
  subscripted slice false v u=operate [v,u] (getItem v u)->wpAny (model X.prog X.w) X.A (subscriptTail value slice v u) (EP X pins σ Q) X.xe s
def MtR (X:Cx) (id:String) (r:V->List V->Hp->VK->Prop):Prop :=
 ∀(pins:List (Addr × Obj)) (s:Shared) (σ:St) (H:Hp) (x:V) (xs:List V) (v:Value) (us:List Value) (Q:VK),Inv X pins σ H s->RelV x v->Vals xs us->r x xs H Q ->
  wpAny (model X.prog X.w) X.A (call (.builtin id) (v::us)) (EP X pins σ Q) X.xe s
section
variable {a b:Expr}
theorem IxR.or {r r':R2} (h:IxR X r) (h':IxR X r'):IxR X (λx y H Q=>r x y H Q\/r' x y H Q):=by
 intro value slice pins s σ H x y v u Q I rx ry q hs
 rcases q with q | q
 ·exact h value slice pins s σ H x y v u Q I rx ry q hs
 ·exact h' value slice pins s σ H x y v u Q I rx ry q hs
theorem Quo {r:R2} (hr:IxR X r) (ha:PE X a ta) (hb:PE X b tb) (hs:Qlf b):PE X (.Subscript a b pos) (tOp r ta tb):=by
 intro pins s σ H Q I h
 exact Subscript_ (binT ha hb I h λv u s2 x y H2 I2 rx ry q=>hr a b pins s2 σ H2 x y v u Q I2 rx ry q (hs _ _))
def rIxL (K:PySem.W.Frag):R2:=λx y H Q=>∃p xs i v,x=.ref p/\y=.int i/\SqL K H p xs/\atI xs i=some v/\Q v H
def rIxT (K:PySem.W.Frag):R2:=λx y H Q=>∃p xs i v,x=.ref p/\y=.int i/\SqT K H p xs/\atI xs i=some v/\Q v H
def rIxS:R2:=λx y H Q=>∃z i c,x=.str z/\y=.int i/\z.length<=sizeLine/\atI z.cps.toList i=some c/\Q (.str ⟨#[c]⟩) H
theorem Qqi:IxR X (rIxL X.K):=by
 intro value slice pins s σ H x y v u Q I rx ry h hs
 obtain ⟨p,xs,i,z,rfl,rfl,hq,he,q⟩:=h
 cases rx
 obtain ⟨t,rfl⟩:=ry
 obtain ⟨its,r,pl,hz⟩:=I.list hq
 obtain ⟨j,h1,h2,h3,h4,h5⟩:=Qfu he
 obtain ⟨w,ew,rw'⟩:=r.get h2
 have hl:=r.length
 have hn:=Qbu
 have fin:EP X pins σ Q w s:=⟨z,H,I,rw',q⟩
 by_cases h0:0<=i
 ·have hj:i.toNat=j:=by
   rw [seqIndex_of h0 h5] at h1
   exact Option.some.inj h1
  exact item_listR pl.isList h0 (by omega) (by rw [hj];simpa using ew) fin hs
 ·have hj:(i+(its.toArray.size:Int)).toNat=j:=by
   rw [seqIndex_neg (by omega) h4] at h1
   rw [List.size_toArray,← hl]
   exact Option.some.inj h1
  exact subscriptTail_builtinR (x:=w) pl.isList.typeIs slot_list_getitem.lookup
   (wpAny_getItem_list_neg (Q:=λr s'=>r=w/\EP X pins σ Q r s') pl.isList (by omega) (by rw [List.size_toArray] <;> omega) (by omega) (by rw [hj];simpa using ew) ⟨rfl,fin⟩) hs
theorem Qs5:IxR X (rIxT X.K):=by
 intro value slice pins s σ H x y v u Q I rx ry h hs
 obtain ⟨p,xs,i,z,rfl,rfl,hq,he,q⟩:=h
 cases rx
 obtain ⟨t,rfl⟩:=ry
 obtain ⟨its,r,pl,hz⟩:=I.tuple hq
 obtain ⟨j,h1,h2,h3,h4,h5⟩:=Qfu he
 obtain ⟨w,ew,rw'⟩:=r.get h2
 have hl:=r.length
 have hn:=Qbu
 have fin:EP X pins σ Q w s:=⟨z,H,I,rw',q⟩
 exact subscriptTail_builtinR (x:=w) pl.typeIs slot_tuple_getitem.lookup
  (getItem_tuple (j:=j) (Q:=λr s'=>r=w/\EP X pins σ Q r s') pl (by omega) (by omega) (by rw [List.size_toArray,← hl];exact h1) (by simpa using ew) ⟨rfl,fin⟩) hs
theorem Qs6:IxR X rIxS:=by
 intro value slice pins s σ H x y v u Q I rx ry h hs
 obtain ⟨z,i,c,rfl,rfl,hz,he,q⟩:=h
 obtain ⟨t,rfl⟩:=rx
 obtain ⟨t',rfl⟩:=ry
 obtain ⟨j,h1,h2,h3,h4,h5⟩:=Qfu he
 have hl:z.cps.toList.length=z.length:=by simp [Str.length]
 rw [hl] at h1 h4 h5
 have hn:=Qbu
 exact tail_any (typeIs_str s z t) slot_str_getitem.lookup (getItem_str (c:=c) (by
  have e1:decide (i < -(2 ^ 63:Int))=false:=decide_eq_false (by omega)
  have e2:decide (i ≥ 2 ^ 63)=false:=decide_eq_false (by omega)
  rw [e1,e2,Bool.or_false]) (by rw [h1];simpa using h2) ⟨.str ⟨#[c]⟩,H,I.tok _,⟨_,rfl⟩,q⟩) hs
def rIx (K:PySem.W.Frag):R2:=λx y H Q=>rIxL K x y H Q\/rIxT K x y H Q\/rIxS x y H Q
theorem Qs7:IxR X (rIx X.K):=Qqi.or (Qs5.or Qs6)
theorem Qhr (its:List Value) (n j:Nat) (u:Value):Obj.mapSeq (·.setIfInBounds j u) { cls:=.type "list",data:=.seq its.toArray n }={ cls:=.type "list",data:=.seq (its.set j u).toArray n }:=by
 simp [Obj.mapSeq]
theorem Inv.lst {pins:List (Addr × Obj)} {σ:St} {H:Hp} {s:Shared} {p:Addr} {xs:List V} (I:Inv X pins σ H s) (h:H p=some (.lst xs)) :
  ∃(its:List Value) (n:Nat),Vals xs its/\s.heap.get? p=some { cls:=.type "list",data:=.seq its.toArray n }/\xs.length<=sizeLine:=by
 obtain ⟨z,its,n,r,e⟩:=I.hok p _ h
 exact ⟨its,n,r,e,z⟩
theorem Inv.lstUpd {p:Addr} {xs:List V} {its':List Value} {n':Nat} {f:Obj->Obj} (I:Inv X pins σ H s) (h:H p=some (.lst xs))
  (ho:s.heap.get? p=some { cls:=.type "list",data:=.seq its.toArray n }) (hf:f { cls:=.type "list",data:=.seq its.toArray n }={ cls:=.type "list",data:=.seq its'.toArray n' }) (r:Vals ys its') (hz:ys.length<=sizeLine) (t:Nat) :
  Inv X pins σ (upd H p (.lst ys)) { s with heap:=s.heap.update p f,toks:=t }:=by
 have e:(s.heap.update p f).get? p=some { cls:=.type "list",data:=.seq its'.toArray n' }:=by
  rw [Heap.get?_update_self f ho (by rw [hf] <;> rfl),hf]
 refine I.write (x:=p) (e:=p) (by rw [h];trivial) (.inl rfl) (λb u hb q=>(Heap.get?_update_other _ _ (Ne.symm hb)).trans q) ⟨_,e⟩ ?_
 exact ⟨hz,its',n',r,e⟩
def Quc:V->V->V->Hp->(Hp->Prop)->Prop:=λo i v H Q=>∃p xs k j,o=.ref p/\i=.int k/\H p=some (.lst xs)/\ixN xs.length k=some j/\Q (upd H p (.lst (xs.set j v)))
theorem Qlm:PSet X Quc:=by
 intro pins s σ H o i v ov iv u Q I ro ri rv h
 obtain ⟨p,xs,k,j,rfl,rfl,hp,hj,q⟩:=h
 cases ro
 obtain ⟨t,rfl⟩:=ri
 obtain ⟨its,n,r,ho,hz⟩:=I.lst hp
 obtain ⟨h1,h2,h3,h4⟩:=Qfk hj
 have hl:=r.length
 have hn:=Qbu
 have I':Inv X pins σ (upd H p (.lst (xs.set j v))) { s with heap:=s.heap.update p (Obj.mapSeq (·.setIfInBounds j u)) } :=
  I.lstUpd hp ho (Qhr its n j u) (r.set rv j) (by rw [List.length_set];exact hz) s.toks
 by_cases h0:0<=k
 ·have hk:k.toNat=j:=by
   rw [seqIndex_of h0 h4] at h1
   exact Option.some.inj h1
  exact PySem.W.ki_setAt ho h0 (by omega) (by rw [List.size_toArray,← hl];exact h4) (by rw [hk];exact ⟨_,I',q⟩)
 ·have hk:(k+(its.toArray.size:Int)).toNat=j:=by
   rw [seqIndex_neg (by omega) h3] at h1
   rw [List.size_toArray,← hl]
   exact Option.some.inj h1
  exact PySem.W.ki_setBack ho (by omega) (by rw [List.size_toArray,← hl];exact h3) (by omega) (by rw [hk];exact ⟨_,I',q⟩)
theorem Qdh (lo hi:Option Int) (n:Nat):(sliceBounds lo hi none n).1=((HT.sIx n 0 lo:Nat):Int)/\(sliceBounds lo hi none n).2.1=((HT.sIx n n hi:Nat):Int)/\(sliceBounds lo hi none n).2.2=1:=by
 refine ⟨?_,?_,rfl⟩
 ·cases lo with
  | none=>simp [sliceBounds,HT.sIx]
  | some i =>
   simp only [sliceBounds,HT.sIx,Option.getD_none,show (1:Int) > 0 by decide,if_true]
   by_cases h:i<0
   ·simp only [h,if_true] <;> omega
   ·simp only [h,if_false] <;> omega
 ·cases hi with
  | none=>simp [sliceBounds,HT.sIx]
  | some i =>
   simp only [sliceBounds,HT.sIx,Option.getD_none,show (1:Int) > 0 by decide,if_true]
   by_cases h:i<0
   ·simp only [h,if_true] <;> omega
   ·simp only [h,if_false] <;> omega
theorem Qb3 (its:List Value) (lo hi:Option Int):slicePick its.toArray lo hi none=((its.drop (HT.sIx its.length 0 lo)).take (HT.sIx its.length its.length hi-HT.sIx its.length 0 lo)).toArray:=by
 obtain ⟨h1,h2,h3⟩:=Qdh lo hi its.toArray.size
 unfold slicePick
 rw [h1,h2,h3]
 simp only [sliceRange_one,pick_run,List.size_toArray] <;> rfl
def rSlL (K:PySem.W.Frag):V->Option Int->Option Int->Hp->VK->Prop:=λx lo hi H Q=>∃a xs,x=.ref a/\SqL K H a xs/\∀p,H p=none->Q (.ref p) (upd H p (.lst (cutV xs lo hi)))
theorem Qo0:SlR X (rSlL X.K):=by
 intro pins s σ H x v vl vu lo hi sl Q I rx hs pl pu h
 obtain ⟨a,xs,rfl,hx,q⟩:=h
 cases rx
 obtain ⟨its,r,ht,hz⟩:=I.list hx
 have hlen:=r.length
 refine ⟨"list",_,slot_list_getitem.lookup,ht.isList.typeIs,?_⟩
 refine wpAny_getItem_list_slice ht.isList hs pl pu .none (by simp) ?_ (by rw [List.size_toArray] <;> omega)
 rw [Qb3,← hlen]
 refine ⟨.ref s.heap.objs.size,_,I.laid (t':=s.toks) (o:=.lst (cutV xs lo hi)) (λb ob q=>Heap.get?_push_of_some _ q) (Nat.le_refl _) ?_,rfl,q _ (I.hok.fresh (Nat.le_refl _))⟩
 exact ⟨Nat.le_trans (Qa6 xs lo hi) hz,_,0,(r.drop (HT.sIx xs.length 0 lo)).take (HT.sIx xs.length xs.length hi-HT.sIx xs.length 0 lo),Heap.get?_push_size _ rfl⟩
def Qbi:V->Bool
 | .non=>true
 | .bl _=>true
 | .int _=>true
 | .str _=>true
 | _=>false
def eqV:V->V->Bool
 | .non,.non=>true
 | .bl a,.bl b=>a == b
 | .bl a,.int b=>(if a then 1 else 0) == b
 | .int a,.bl b=>a == (if b then 1 else 0)
 | .int a,.int b=>a == b
 | .str a,.str b=>a == b
 | _,_=>false
theorem Qtf {x:V} {v:Value} (ry:RelV y u) (rx:RelV x v) (fy:Qbi y=true) (fx:Qbi x=true):SeqAt.EqAt A s u v (eqV y x):=by
 cases y with
 | non =>
  cases ry
  cases x with
  | non=>cases rx;exact SeqAt.EqAt.same _
  | bl b=>cases rx;exact SeqAt.EqAt.none_bool b
  | int b=>obtain ⟨t,rfl⟩:=rx;exact SeqAt.EqAt.none_int b t
  | str b=>obtain ⟨t,rfl⟩:=rx;exact SeqAt.EqAt.none_str b t
  | _=>exact absurd (show false=true from fx) Bool.false_ne_true
 | bl a =>
  cases ry
  cases x with
  | non=>cases rx;exact SeqAt.EqAt.bool_none a
  | bl b=>cases rx;exact SeqAt.EqAt.bool_bool a b
  | int b=>obtain ⟨t,rfl⟩:=rx;exact SeqAt.EqAt.bool_int a b t
  | str b=>obtain ⟨t,rfl⟩:=rx;exact SeqAt.EqAt.bool_str a b t
  | _=>exact absurd (show false=true from fx) Bool.false_ne_true
 | int a =>
  obtain ⟨t',rfl⟩:=ry
  cases x with
  | non=>cases rx;exact SeqAt.EqAt.int_none a t'
  | bl b=>cases rx;exact SeqAt.EqAt.int_bool a t' b
  | int b=>obtain ⟨t,rfl⟩:=rx;exact SeqAt.EqAt.int_int a t' b t
  | str b=>obtain ⟨t,rfl⟩:=rx;exact SeqAt.EqAt.int_str a t' b t
  | _=>exact absurd (show false=true from fx) Bool.false_ne_true
 | str a =>
  obtain ⟨t',rfl⟩:=ry
  cases x with
  | non=>cases rx;exact SeqAt.EqAt.str_none a t'
  | bl b=>cases rx;exact SeqAt.EqAt.str_bool a t' b
  | int b=>obtain ⟨t,rfl⟩:=rx;exact SeqAt.EqAt.str_int a t' b t
  | str b=>obtain ⟨t,rfl⟩:=rx;exact SeqAt.EqAt.str_str a t' b t
  | _=>exact absurd (show false=true from fx) Bool.false_ne_true
 | _=>exact absurd (show false=true from fy) Bool.false_ne_true
def eqU (x:V) (u:Value):Bool:=match u with
 | .none=>eqV .non x
 | .bool b=>eqV (.bl b) x
 | .int i _=>eqV (.int i) x
 | .str z _=>eqV (.str z) x
 | _=>false
theorem Qom {x:V} (r:RelV y u) (f:Qbi y=true):eqU x u=eqV y x:=by
 cases y with
 | non=>cases r;rfl
 | bl b=>cases r;rfl
 | int i=>obtain ⟨t,rfl⟩:=r;rfl
 | str z=>obtain ⟨t,rfl⟩:=r;rfl
 | _=>exact absurd (show false=true from f) Bool.false_ne_true
theorem Qba {x:V}:∀{xs:List V} {us:List Value},Vals xs us->xs.all Qbi=true->us.any (eqU x)=xs.any λy=>eqV y x
 | _,_,.nil,_=>rfl
 | y::xs,u::us,.cons r t,f=>by
  rw [List.all_cons,Bool.and_eq_true] at f
  rw [List.any_cons,List.any_cons,Qom r f.1,Qba t f.2]
theorem Go {A:Around} {s:Shared} {x:V} {v:Value} (rx:RelV x v) (fx:Qbi x=true):∀{xs:List V} {us:List Value},Vals xs us->xs.all Qbi=true->∀u∈us,SeqAt.EqAt A s u v (eqU x u)
 | _,_,.nil,_=>λu hu=>by cases hu
 | y::xs,u::us,.cons r t,f=>λu' hu=>by
  rw [List.all_cons,Bool.and_eq_true] at f
  rcases List.mem_cons.mp hu with rfl | hu
  ·rw [Qom r f.1];exact Qtf r rx f.1 fx
  ·exact Go rx fx t f.2 u' hu
def inV (x:V) (xs:List V):Bool:=xs.any λy=>eqV y x
def rIn (K:PySem.W.Frag) (neg:Bool):R2:=λx y H Q=>∃p xs,y=.ref p/\(SqL K H p xs\/SqT K H p xs)/\Qbi x=true/\xs.all Qbi=true/\Q (.bl (if neg then !inV x xs else inV x xs)) H
theorem Qje:OpR X (compareOp .In) (rIn X.K false):=by
 intro pins s σ H x y v u Q I rx ry h
 obtain ⟨p,xs,rfl,hq,fx,fs,q⟩:=h
 cases ry
 rcases hq with hq | hq
 ·obtain ⟨its,r,pl,hz⟩:=I.list hq
  refine SeqAt.in_listAt (eqU x) pl.isList (λw hw=>Go rx fx r fs w (by simpa using hw)) ⟨.bl _,H,I,rfl,?_⟩
  rw [show its.toArray.any (eqU x)=its.any (eqU x) by simp,Qba r fs]
  exact q
 ·obtain ⟨its,r,pl,hz⟩:=I.tuple hq
  refine SeqAt.in_tupleAt (eqU x) pl (λw hw=>Go rx fx r fs w (by simpa using hw)) ⟨.bl _,H,I,rfl,?_⟩
  rw [show its.toArray.any (eqU x)=its.any (eqU x) by simp,Qba r fs]
  exact q
theorem Qdv:OpR X (compareOp .NotIn) (rIn X.K true):=by
 intro pins s σ H x y v u Q I rx ry h
 obtain ⟨p,xs,rfl,hq,fx,fs,q⟩:=h
 cases ry
 rcases hq with hq | hq
 ·obtain ⟨its,r,pl,hz⟩:=I.list hq
  refine SeqAt.notIn_listAt (eqU x) pl.isList (λw hw=>Go rx fx r fs w (by simpa using hw)) ⟨.bl _,H,I,rfl,?_⟩
  rw [show its.toArray.any (eqU x)=its.any (eqU x) by simp,Qba r fs]
  exact q
 ·obtain ⟨its,r,pl,hz⟩:=I.tuple hq
  refine SeqAt.notIn_tupleAt (eqU x) pl (λw hw=>Go rx fx r fs w (by simpa using hw)) ⟨.bl _,H,I,rfl,?_⟩
  rw [show its.toArray.any (eqU x)=its.any (eqU x) by simp,Qba r fs]
  exact q
theorem Qdu:OpR X (compareOp .NotIn) (λx y H Q=>∃i j,x=.str i/\y=.str j/\Q (.bl (!(!(Builtin.Str.occurrences j i 0 j.length 1).isEmpty))) H):=by
 intro pins s σ H x y v u Q I rx ry h
 obtain ⟨i,j,rfl,rfl,q⟩:=h
 obtain ⟨t,rfl⟩:=rx
 obtain ⟨t',rfl⟩:=ry
 exact notIn_str ⟨.bl _,H,I,rfl,q⟩
theorem Uh.or {f:Value} {r r':List V->Hp->VK->Prop} (h:Uh X f r) (h':Uh X f r'):Uh X f (λxs H Q=>r xs H Q\/r' xs H Q):=by
 intro pins s σ H xs us Q I rs q
 rcases q with q | q
 ·exact h pins s σ H xs us Q I rs q
 ·exact h' pins s σ H xs us Q I rs q
theorem Qef:Uh X (.type "list") (λxs H Q=>∃p ys,xs=[.ref p]/\(SqL X.K H p ys\/SqT X.K H p ys)/\∀l,H l=none->Q (.ref l) (upd H l (.lst ys))):=by
 intro pins s σ H xs us Q I r h
 obtain ⟨p,ys,rfl,hq,q⟩:=h
 obtain ⟨u,rfl,rx⟩:=Qc8 r
 cases rx
 have fin:∀(its:List Value),Vals ys its->ys.length<=sizeLine->∀(h':Heap) (c':Nat),(∀b o',s.heap.get? b=some o'->h'.get? b=some o') ->
   h'.get? s.heap.objs.size=some { cls:=.type "list",dict:=none,data:=.seq its.toArray c',slots:=#[] }->EP X pins σ Q (.ref s.heap.objs.size) { s with heap:=h' }:=λits r' hz h' c' kp e =>
  ⟨.ref s.heap.objs.size,_,I.laid (t':=s.toks) kp (Nat.le_refl _) (show J4 X.prog X.w _ h' _ (.lst ys) from ⟨hz,its,c',r',e⟩),rfl,q _ (I.hok.fresh (Nat.le_refl _))⟩
 rcases hq with hq | hq
 ·obtain ⟨its,r',pl,hz⟩:=I.list hq
  have hlen:=r'.length
  obtain ⟨o,ho,hc,n,hd⟩:=pl.isList
  exact call_list_seq p (.inl rfl) ho hc hd (λh' c' kp e=>fin its r' hz h' c' kp e) (by simp only [List.size_toArray] <;> omega)
 ·obtain ⟨its,r',pl,hz⟩:=I.tuple hq
  have hlen:=r'.length
  obtain ⟨o,ho,hc,n,hd⟩:=pl
  exact call_list_seq p (.inr rfl) ho hc hd (λh' c' kp e=>fin its r' hz h' c' kp e) (by simp only [List.size_toArray] <;> omega)
theorem Qcy:Uh X (.type "tuple") (λxs H Q=>∃p ys,xs=[.ref p]/\((SqL X.K H p ys/\∀l,H l=none->Q (.ref l) (upd H l (.tup ys)))\/(SqT X.K H p ys/\Q (.ref p) H))):=by
 intro pins s σ H xs us Q I r h
 obtain ⟨p,ys,rfl,h⟩:=h
 obtain ⟨u,rfl,rx⟩:=Qc8 r
 cases rx
 rcases h with ⟨hq,q⟩ | ⟨hq,q⟩
 ·obtain ⟨its,r',pl,hz⟩:=I.list hq
  have hlen:=r'.length
  refine call_tuple_list pl.isList (λh' kp=>?_) (by simp only [List.size_toArray] <;> omega)
  have I1:Inv X pins σ H { s with heap:=h' }:=I.kept (t':=s.toks) kp
  have I2:Inv X pins σ (upd H h'.objs.size (.tup ys)) { s with heap:=h'.push { cls:=.type "tuple",data:=.seq its.toArray } } :=
   I1.laid (t':=s.toks) (λb o e=>Heap.get?_push_of_some _ e) (Nat.le_refl _) (show J4 X.prog X.w _ _ _ (.tup ys) from ⟨hz,its,r',IsTup.new _ _⟩)
  exact ⟨.ref h'.objs.size,_,I2,rfl,q _ (I1.hok.fresh (Nat.le_refl _))⟩
 ·obtain ⟨its,r',pl,hz⟩:=I.tuple hq
  exact call_tuple_same pl ⟨.ref p,H,I,rfl,q⟩
def tyV (K:PySem.W.Frag) (T:String) (x:V) (H:Hp):Prop:=match x with
 | .str _=>T = "str"
 | .int _=>T = "int"
 | .ref p=>(T = "list" /\ ∃xs,SqL K H p xs)\/(T = "tuple" /\ ∃o,K.lookup p=some o/\o.cls=.type "tuple" /\ o.dict=none) \/
   (T = "dict" /\ ((∃kvs,H p=some (.dK kvs))\/∃kvs,H p=some (.dT kvs)))\/(T = "set" /\ ∃S n,H p=some (.set S n))\/∃φ,H p=some (.ext φ)/\∀h,φ h->∃o,h.get? p=some o/\o.cls=.type T/\o.dict=none
 | _=>False
theorem Qri {x:V} {v:Value} (I:Inv X pins σ H s) (r:RelV x v) (ty:tyV X.K T x H) :
  s.TypeIs v T/\∀a,v=.ref a->∃ob,s.heap.get? a=some ob/\ob.dict=none:=by
 cases x with
 | str z =>
  obtain ⟨t,rfl⟩:=r
  cases (show T = "str" from ty)
  exact ⟨typeIs_str s z t,λ_ e=>nomatch e⟩
 | int i =>
  obtain ⟨t,rfl⟩:=r
  cases (show T = "int" from ty)
  exact ⟨typeIs_int s i t,λ_ e=>nomatch e⟩
 | ref p =>
  cases r
  rcases ty with ⟨rfl,xs,hq⟩ | ⟨rfl,o,hk,hc,hd⟩ | ⟨rfl,hk⟩ | ⟨rfl,S,n,hk⟩ | ⟨φ,hk,hf⟩
  ·obtain ⟨its,_,pl,_⟩:=I.list hq
   refine ⟨pl.isList.typeIs,λa e=>?_⟩
   cases e
   obtain ⟨o,n,e,c,hd,_⟩:=pl
   exact ⟨o,e,hd⟩
  ·refine ⟨⟨o,I.kIn p o hk,hc⟩,λa e=>?_⟩
   cases e
   exact ⟨o,I.kIn _ o hk,hd⟩
  ·have z:∃o,s.heap.get? p=some o/\o.ExactDict:=by
    rcases hk with ⟨kvs,hk⟩ | ⟨kvs,hk⟩
    ·obtain ⟨_,_,_,_,o,_,_,e,ex,_⟩:=I.hok p _ hk
     exact ⟨o,e,ex⟩
    ·obtain ⟨_,_,_,_,o,_,_,e,ex,_⟩:=I.hok p _ hk
     exact ⟨o,e,ex⟩
   obtain ⟨o,e,ex⟩:=z
   refine ⟨⟨o,e,ex.1⟩,λa e2=>?_⟩
   cases e2
   exact ⟨o,e,ex.2.1⟩
  ·obtain ⟨o,_,_,_,e,ex,_⟩:=I.hok p _ hk
   refine ⟨⟨o,e,ex.1⟩,λa e2=>?_⟩
   cases e2
   exact ⟨o,e,ex.2.1⟩
  ·obtain ⟨h1,_⟩:=I.hok p _ hk
   obtain ⟨o,e,c,d⟩:=hf _ h1
   refine ⟨⟨o,e,c⟩,λa e2=>?_⟩
   cases e2
   exact ⟨o,e,d⟩
 | _=>exact False.elim ty
def tBM (K:PySem.W.Frag) (T:String) (r:V->List V->Hp->VK->Prop) (to:TE) (t:TA):TE:=λσ H Q=>to σ H λx H1=>tyV K T x H1/\t σ H1 λxs H2=>r x xs H2 Q
end
section
variable {o:Expr} {t:TA} {id:String}
theorem Qpw (pa:PlainAttrs T) (slot:Slot T name id) (hty:typeOf (.builtin id)=pure (.type "method_descriptor")) (hm:MtR X id r) (ho:PE X o to) (ha:PA X (e::es) t)
  (hbase:attributeBase o name X.env (eval o X.env)=eval o X.env:=by rfl)
  (hfew:((backTo cpos (starEach (e::es) X.env)).all (λx=>!x.1) && (backToKw cpos (keywordEach [] X.env)).all (λx=>x.1.isSome)
   && decide ((e::es).length+([]:List Keyword).length+(if ([]:List Keyword).isEmpty then 0 else 1)<30))=true:=by rfl)
  (hline:(apos.endLine == cpos.line)=true:=by rfl) (hs:starEach (e::es) X.env=(false,eval e X.env)::starEach es X.env:=by rfl) (hplain:(backTo cpos (starEach es X.env)).any (·.1)=false:=by rfl) :
  PE X (.Call (.Attribute o name apos) (e::es) [] cpos) (tBM X.K T r to t):=by
 intro pins s σ H Q I h
 refine wpAny_Call_method_late hbase hfew hline rfl (thn (ho pins s σ H _ I h) λv s1 ⟨x,H1,I1,r1,ty,q1⟩=>?_)
 obtain ⟨h1,h2⟩:=Qri I1 r1 ty
 refine ⟨T,id,pa,slot,hty,h1,h2,?_⟩
 have hA:=ha cpos pins s1 σ H1 _ I1 q1
 rw [hs] at hA ⊢
 refine Calls.callWith_builtin (by show (false || (backTo cpos (starEach es X.env)).any (·.1))=false;rw [hplain] <;> rfl) (Calls.evalArgs_plain ?_)
 exact thn hA λus s2 ⟨vs,H2,I2,r2,q2⟩=>hm pins s2 σ H2 x vs v us Q I2 r1 r2 q2
end
def MtM (X:Cx) (id:String) (r:V->List V->Hp->VK->Prop):Prop :=
 ∀(pins:List (Addr × Obj)) (s:Shared) (σ:St) (H:Hp) (x:V) (xs:List V) (v:Value) (us:List Value) (Q:VK),Inv X pins σ H s->RelV x v->Vals xs us->r x xs H Q ->
  wpAny (model X.prog X.w) X.A (call (.builtin id) (v::us)) (EP X pins σ Q) X.xe s
theorem Vals.one:∀{x:V} {us:List Value},Vals [x] us->∃u,us=[u]/\RelV x u
 | _,_,.cons r .nil=>⟨_,rfl,r⟩
theorem Vals.two:∀{x y:V} {us:List Value},Vals [x,y] us->∃u v,us=[u,v]/\RelV x u/\RelV y v
 | _,_,_,.cons r (.cons q .nil)=>⟨_,_,rfl,r,q⟩
theorem Vals.rep {xs:List V} {us:List Value} (h:Vals xs us):∀k:Nat,Vals (List.replicate k xs).flatten (List.replicate k us).flatten
 | 0=>.nil
 | k+1=>by
  rw [List.replicate_succ,List.replicate_succ,List.flatten_cons,List.flatten_cons]
  exact Vals.append h (Vals.rep h k)
theorem Qea (its:List Value):∀(k:Nat) (acc:List Value),
  List.foldl (λx1 x2=>x1++x2) acc.toArray (List.replicate k its.toArray)=(acc++(List.replicate k its).flatten).toArray
 | 0,acc=>by simp
 | k+1,acc=>by
  have e:acc.toArray++its.toArray=(acc++its).toArray:=by simp
  have e2:(acc++its)++(List.replicate k its).flatten=acc++(List.replicate (k+1) its).flatten:=by
   rw [List.replicate_succ,List.flatten_cons,List.append_assoc]
  rw [← e2,← Qea its k (acc++its),← e,List.replicate_succ,List.foldl_cons]
section
variable {l:Addr} {xs:List V}
theorem Inv.lset {its':List Value} {f:Array Value->Array Value} (I:Inv X pins σ H s) (hH:H l=some (.lst xs))
  (e:s.heap.get? l=some { cls:=.type "list",data:=.seq its.toArray n }) (hf:f its.toArray=its'.toArray) (hv:Vals ys its') (hz:ys.length<=sizeLine) :
  Inv X pins σ (upd H l (.lst ys)) { s with heap:=s.heap.update l (Obj.mapSeq f),toks:=t' }:=by
 have q:=PySem.IsL.update e f
 rw [hf] at q
 refine I.write (x:=l) (e:=l) (by rw [hH];exact trivial) (.inl rfl) (λb' u hb hu=>(Heap.get?_update_other s.heap (Obj.mapSeq f) (Ne.symm hb)).trans hu) ⟨_,q⟩ ?_
 exact ⟨hz,its',_,hv,q⟩
theorem Inv.lnew (I:Inv X pins σ H s) (hv:Vals ys its) (hz:ys.length<=sizeLine) :
  Inv X pins σ (upd H s.heap.objs.size (.lst ys)) { s with heap:=s.heap.push { cls:=.type "list",data:=.seq its.toArray },toks:=t' } :=
 I.laid (λ_ _ q=>Heap.get?_push_of_some _ q) (Nat.le_refl _) ⟨hz,its,0,hv,Heap.get?_push_size _ rfl⟩
theorem Inv.fresh (I:Inv X pins σ H s):H s.heap.objs.size=none:=I.hok.fresh (Nat.le_refl _)
theorem Inv.lstM (I:Inv X pins σ H s) (hH:H l=some (.lst xs)):xs.length<=sizeLine/\∃(its:List Value) (n:Nat),Vals xs its/\xs.length=its.length/\s.heap.get? l=some { cls:=.type "list",data:=.seq its.toArray n }:=by
 obtain ⟨z,its,n,r,e⟩:=I.hok l _ hH
 exact ⟨z,its,n,r,r.length,e⟩
theorem Qml (h:n<=sizeLine):Builtin.List.listTooLong n=false:=by
 unfold Builtin.List.listTooLong
 exact decide_eq_false (by omega)
end
def Qi1:V->List V->Hp->VK->Prop:=λx vs H Q=>∃l xs y,x=.ref l/\vs=[y]/\H l=some (.lst xs)/\xs.length<sizeLine/\Q .non (upd H l (.lst (xs++[y])))
theorem Qjr:MtM X "list.append" Qi1:=by
 intro pins s σ H x vs v us Q I rx rv h
 obtain ⟨l,xs,y,rfl,rfl,hH,hz,q⟩:=h
 cases rx
 obtain ⟨u,rfl,ru⟩:=rv.one
 obtain ⟨z,its,n,r,hl,e⟩:=I.lstM hH
 refine call_meets F.slot_list_append ⟨_,e,rfl⟩ F.entry_list_append (F.args_list_append_2 _ _) (PySem.list_append l its.toArray n u (by rw [List.size_toArray];omega)) ⟨e,?_⟩
 refine ⟨.non,_,I.lset (its':=its++[u]) hH e (by simp) (r.append (.cons ru .nil)) ?_,rfl,q⟩
 rw [List.length_append,List.length_singleton]
 omega
def rCat:R2:=λx y H Q=>∃l b xs zs,x=.ref l/\y=.ref b/\H l=some (.lst xs)/\H b=some (.lst zs)/\xs.length+zs.length<=sizeLine/\∀p,H p=none->Q (.ref p) (upd H p (.lst (xs++zs)))
theorem Qsk:OpR X (binaryOp .Add) rCat:=by
 intro pins s σ H x y v u Q I rx ry h
 obtain ⟨l,b,xs,zs,rfl,rfl,hH,hB,hz,q⟩:=h
 cases rx
 cases ry
 obtain ⟨z,its,n,r,hl,e⟩:=I.lstM hH
 obtain ⟨z2,its2,n2,r2,hl2,e2⟩:=I.lstM hB
 refine PySem.P.add_list e e2 ?_ (by rw [List.size_toArray,List.size_toArray];omega)
 have ea:its.toArray++its2.toArray=(its++its2).toArray:=by simp
 rw [ea]
 exact ⟨.ref _,_,I.lnew (t':=s.toks) (r.append r2) (by rw [List.length_append];omega),rfl,q _ I.fresh⟩
def rRep:R2:=λx y H Q=>∃l k xs,x=.ref l/\y=.int k/\H l=some (.lst xs) /\ -(2 ^ 63)<=k/\k<2 ^ 63/\xs.length*k.toNat<=sizeLine /\
 ∀p,H p=none->Q (.ref p) (upd H p (.lst (List.replicate k.toNat xs).flatten))
theorem Qqe {α:Type} (xs:List α) (k:Nat):(List.replicate k xs).flatten.length=k*xs.length:=by
 induction k with
 | zero=>simp
 | succ k ih=>rw [List.replicate_succ,List.flatten_cons,List.length_append,ih,Nat.succ_mul,Nat.add_comm]
theorem Qse:OpR X (binaryOp .Mult) rRep:=by
 intro pins s σ H x y v u Q I rx ry h
 obtain ⟨l,k,xs,rfl,rfl,hH,h1,h2,hz,q⟩:=h
 cases rx
 obtain ⟨t,rfl⟩:=ry
 obtain ⟨z,its,n,r,hl,e⟩:=I.lstM hH
 have hlen:its.toArray.size*k.toNat<=sizeLine:=by rw [List.size_toArray,← hl];exact hz
 have hcap:¬its.toArray.size*k.toNat > (2 ^ 63-1) / 8:=by
  have:(sizeLine:Nat)<=(2 ^ 63-1) / 8:=by decide
  omega
 have hfit:¬(!Builtin.List.listFitsIndex k)=true:=by
  rw [fitsIndex_both h1 h2]
  exact Bool.false_ne_true
 have hlong:¬Builtin.List.listTooLong (its.toArray.size*k.toNat)=true:=by
  rw [Qml hlen]
  exact Bool.false_ne_true
 have hnew:List.foldl (λx1 x2=>x1++x2) #[] (List.replicate (if its.toArray.isEmpty=true then 0 else k.toNat) its.toArray)=(List.replicate k.toNat its).flatten.toArray:=by
  have f0:∀m:Nat,List.foldl (λx1 x2=>x1++x2) #[] (List.replicate m its.toArray)=(List.replicate m its).flatten.toArray:=λm=>by
   have:=Qea its m []
   rw [List.nil_append] at this
   exact this
  rw [f0]
  cases its with
  | nil=>simp
  | cons a r'=>rw [if_neg (by simp)]
 refine wpAny_binaryOp_repeat_ref (T:="list") (U:="int") (by decide) ⟨_,e,rfl⟩ (λs'=>typeIs_int s' k t) noFill_list_mul F.fills_int_mul F.slot_int_rmul repeat_list F.slot_int_index.lookup
  (call_meets F.slot_int_rmul (typeIs_int s k t) F.entry_int_rmul (F.args_int_rmul_2 _ _) (int___rmul___int_list k t l its.toArray n)
   ⟨e,rfl,⟨_,e,rfl⟩,call_meets F.slot_list_mul ⟨_,e,rfl⟩ F.entry_list_mul (F.args_list_mul_2 _ _) (AutoListH.list___mul___list_int_3 l its.toArray n k t hfit hcap hlong) ⟨e,?_⟩⟩)
 rw [hnew]
 exact ⟨.ref _,_,I.lnew (t':=s.toks) (r.rep k.toNat) (by rw [Qqe,Nat.mul_comm];exact hz),rfl,q _ I.fresh⟩
section
variable {κ:Type} [DecidableEq κ]
def valV (kvs:List (κ × V)) (k:κ):Option V:=(kvs.find? λkv=>decide (kv.1=k)).map (·.2)
def putK (kvs:List (κ × V)) (k:κ) (v:V):List (κ × V) :=
 if (kvs.any λkv=>decide (kv.1=k))=true then kvs.map (λkv=>if kv.1=k then (kv.1,v) else kv) else kvs++[(k,v)]
def Qfl (kvs:List (κ × V)) (k:κ):List (κ × V):=kvs.filter λkv=>decide (kv.1≠k)
theorem Jv {p:κ × V} {r:List (κ × V)} {k:κ} (e:p.1=k):valV (p::r) k=some p.2:=by simp [valV,List.find?_cons,e]
theorem Jw {p:κ × V} {r:List (κ × V)} {k:κ} (e:¬p.1=k):valV (p::r) k=valV r k:=by simp [valV,List.find?_cons,e]
theorem Ga (k:κ):∀kvs:List (κ × V),(kvs.any λkv=>decide (kv.1=k))=(valV kvs k).isSome
 | []=>rfl
 | p::r=>by
  rw [List.any_cons]
  by_cases e:p.1=k
  ·simp only [Jv e,decide_eq_true e,Bool.true_or,Option.isSome_some]
  ·rw [Jw e,decide_eq_false e,Bool.false_or];exact Ga k r
theorem Qf3 (k j:κ) (y:V):∀kvs:List (κ × V),valV (kvs.map λkv=>if kv.1=k then (kv.1,y) else kv) j=(valV kvs j).map λx=>if j=k then y else x
 | []=>rfl
 | p::r=>by
  have ih:=Qf3 k j y r
  rw [List.map_cons]
  by_cases h:p.1=k
  ·rw [if_pos h]
   by_cases e:p.1=j
   ·rw [Jv (p:=(p.1,y)) e,Jv e,Option.map_some,if_pos (e.symm.trans h)]
   ·rw [Jw (p:=(p.1,y)) e,Jw e,ih]
  ·rw [if_neg h]
   by_cases e:p.1=j
   ·rw [Jv (p:=p) e,Jv e,Option.map_some,if_neg (λz=>h (e.trans z))]
   ·rw [Jw (p:=p) e,Jw e,ih]
theorem Qc9 (k j:κ) (y:V):∀kvs:List (κ × V),valV kvs k=none->valV (kvs++[(k,y)]) j=if j=k then some y else valV kvs j
 | [],_=>by
  by_cases e:k=j
  ·rw [if_pos e.symm];exact Jv (p:=(k,y)) e
  ·rw [if_neg (λz=>e z.symm)];exact Jw (p:=(k,y)) e
 | p::r,hn=>by
  rw [List.cons_append]
  have hk:¬p.1=k:=λz=>by rw [Jv z] at hn;cases hn
  rw [Jw hk] at hn
  have ih:=Qc9 k j y r hn
  by_cases e:p.1=j
  ·rw [Jv e,Jv e,if_neg (λz=>hk (e.trans z))]
  ·rw [Jw e,Jw e,ih]
theorem Qli (kvs:List (κ × V)) (k j:κ) (y:V):valV (putK kvs k y) j=if j=k then some y else valV kvs j:=by
 unfold putK
 by_cases a:(kvs.any λkv=>decide (kv.1=k))=true
 ·rw [if_pos a,Qf3]
  rw [Ga] at a
  by_cases e:j=k
  ·obtain ⟨x,hx⟩:=Option.isSome_iff_exists.mp a
   rw [if_pos e,e,hx,Option.map_some,if_pos rfl]
  ·rw [if_neg e]
   cases valV kvs j with
   | none=>rfl
   | some x=>rw [Option.map_some,if_neg e]
 ·rw [if_neg a]
  refine Qc9 k j y kvs ?_
  rw [Ga] at a
  cases q:valV kvs k with
  | none=>rfl
  | some x=>rw [q] at a;exact (a rfl).elim
theorem Vt (kvs:List (κ × V)) (k:κ) (v:V):(putK kvs k v).length<=kvs.length+1:=by
 unfold putK
 split
 ·rw [List.length_map];omega
 ·rw [List.length_append,List.length_cons,List.length_nil];omega
theorem Ql0 {kvs:List (κ × V)} {k:κ} (v:V) (h:valV kvs k=none):putK kvs k v=kvs++[(k,v)]:=by
 unfold putK
 rw [Ga,h]
 exact if_neg (by decide)
theorem RelO.isSome_eq {u:Option Value} (r:RelO o u):o.isSome=u.isSome:=by
 cases o with
 | none=>cases u with
  | none=>rfl
  | some _=>exact (show False from r).elim
 | some _=>cases u with
  | none=>exact (show False from r).elim
  | some _=>rfl
theorem KV.val {kvs:List (κ × V)} {vs:List (κ × Value)} (r:KV kvs vs) (k:κ):RelO (valV kvs k) (valueAt vs k):=by
 unfold KV at r
 induction r with
 | nil=>exact True.intro
 | @cons p q ps qs h t ih =>
  obtain ⟨h1,h2⟩:=h
  by_cases e:p.1=k
  ·have e':q.1=k:=h1.symm.trans e
   have b:valueAt (q::qs) k=some q.2:=by simp [valueAt,List.find?_cons,e']
   rw [Jv e,b];exact h2
  ·have e':¬q.1=k:=λz=>e (h1.trans z)
   have b:valueAt (q::qs) k=valueAt qs k:=by simp [valueAt,List.find?_cons,e']
   rw [Jw e,b];exact ih
theorem KV.any {kvs:List (κ × V)} {vs:List (κ × Value)} (r:KV kvs vs) (k:κ):(kvs.any λkv=>decide (kv.1=k))=vs.any λkv=>decide (kv.1=k):=by
 unfold KV at r
 induction r with
 | nil=>rfl
 | cons h t ih=>rw [List.any_cons,List.any_cons,ih,h.1]
theorem KV.repl {kvs:List (κ × V)} {vs:List (κ × Value)} (r:KV kvs vs) (k:κ) (ry:RelV y u) :
  KV (kvs.map λkv=>if kv.1=k then (kv.1,y) else kv) (vs.map λkv=>if kv.1=k then (kv.1,u) else kv):=by
 unfold KV at r ⊢
 induction r with
 | nil=>exact .nil
 | @cons p q ps qs h t ih =>
  rw [List.map_cons,List.map_cons]
  refine .cons ?_ ih
  obtain ⟨h1,h2⟩:=h
  by_cases e:p.1=k
  ·rw [if_pos e,if_pos (h1.symm.trans e)];exact ⟨h1,ry⟩
  ·rw [if_neg e,if_neg (λz=>e (h1.trans z))];exact ⟨h1,h2⟩
theorem KV.put {kvs:List (κ × V)} {vs:List (κ × Value)} (r:KV kvs vs) (k:κ) (ry:RelV y u):KV (putK kvs k y) (stored vs k u):=by
 unfold putK stored
 rw [r.any k]
 by_cases e:(vs.any λkv=>decide (kv.1=k))=true
 ·rw [if_pos e,if_pos e];exact r.repl k ry
 ·rw [if_neg e,if_neg e];exact Paired.snoc r ⟨rfl,ry⟩
theorem KV.length {kvs:List (κ × V)} {vs:List (κ × Value)} (r:KV kvs vs):kvs.length=vs.length:=Paired.length r
theorem Qnb (kvs:List (κ × V)) (k:κ):(Qfl kvs k).length<=kvs.length:=List.length_filter_le _ _
end
theorem Qfj {k:Key} (r:RelV (kV k) u):(Q9 P w).is k u=true:=by
 cases k with
 | inl i=>obtain ⟨t,e⟩:=(show ∃t,u=Value.int i t from r);subst e;exact Qfe P w i t
 | inr x=>obtain ⟨t,e⟩:=(show ∃t,u=Value.str x t from r);subst e;exact Qfd P w x t
theorem Qd7 {P:Program} {w:World}:∀{ks:List Key} {us:List Value},Vals (ks.map kV) us->ItemsAre (Q9 P w) ks us
 | [],_,r=>by rw [List.map_nil] at r;cases r;exact .nil
 | k::ks,_,r=>by
  rw [List.map_cons] at r
  cases r with
  | cons h t=>exact .cons (Qfj h) (Qd7 t)
abbrev KT (H:Hp):List (List Key × V)->List (List Key × Addr × Value)->Prop:=Paired λp q=>p.1=q.1/\H q.2.1=some (.tup (p.1.map kV))/\RelV p.2 q.2.2
theorem KT.val (r:KT H kvs xs) (k:List Key):RelO (valV kvs k) ((atKey xs k).map (·.2)):=by
 induction r with
 | nil=>exact True.intro
 | @cons p q ps qs h t ih =>
  obtain ⟨h1,_,h2⟩:=h
  by_cases e:p.1=k
  ·have e':q.1=k:=h1.symm.trans e
   have b:atKey (q::qs) k=some q.2:=by simp [atKey,List.find?_cons,e']
   rw [Jv e,b];exact h2
  ·have e':¬q.1=k:=λz=>e (h1.trans z)
   have b:atKey (q::qs) k=atKey qs k:=by simp [atKey,List.find?_cons,e']
   rw [Jw e,b];exact ih
theorem KT.repl (r:KT H kvs xs) (k:List Key) (ry:RelV y u) :
  KT H (kvs.map λkv=>if kv.1=k then (kv.1,y) else kv) (xs.map (putAt k u)):=by
 induction r with
 | nil=>exact .nil
 | @cons p q ps qs h t ih =>
  rw [List.map_cons,List.map_cons]
  refine .cons ?_ ih
  obtain ⟨h1,h2,h3⟩:=h
  unfold putAt
  by_cases e:p.1=k
  ·rw [if_pos e,if_pos (h1.symm.trans e)];exact ⟨h1,h2,ry⟩
  ·rw [if_neg e,if_neg (λz=>e (h1.trans z))];exact ⟨h1,h2,h3⟩
theorem KT.put (r:KT H kvs xs) (k:List Key) (hb:H b=some (.tup (k.map kV))) (ry:RelV y u) :
  KT H (putK kvs k y) (storedH xs k b u):=by
 have e:(kvs.any λkv=>decide (kv.1=k))=(atKey xs k).isSome:=by
  rw [Ga,(r.val k).isSome_eq,Option.isSome_map]
 unfold putK storedH
 rw [e]
 by_cases q:(atKey xs k).isSome=true
 ·rw [if_pos q,if_pos q];exact r.repl k ry
 ·rw [if_neg q,if_neg q];exact Paired.snoc r ⟨rfl,hb,ry⟩
theorem KT.keeps (r:KT H kvs xs) (ht:∀b ys,H b=some (.tup ys)->H' b=some (.tup ys)):KT H' kvs xs :=
 Paired.mapP r λ_ _ z=>⟨z.1,ht _ _ z.2.1,z.2.2⟩
section
variable {h:Heap}
theorem Qrs {u:HO} (ok:HOk P w H h) (e:Rd H a u):J4 P w H h a u:=e.ok ok
theorem Qh0 {kvs:List (Key × V)} (ok:HOk P w H h) (e:Rd H a (.dK kvs)):kvs.length<=sizeLine/\(a == sysModules)=false/\∃vs,KV kvs vs/\h.DictOf (Q9 P w) a vs :=
 show J4 P w H h a (.dK kvs) from Qrs ok e
theorem Qnd {kvs:List (Key × V)} (ok:HOk P w H h) (e:H a=some (.dK kvs)):kvs.length<=sizeLine/\(a == sysModules)=false/\∃vs,KV kvs vs/\h.DictOf (Q9 P w) a vs:=Qh0 ok (.inl e)
theorem Qbv (ok:HOk P w H h) (e:H a=some (.tup (ks.map kV))):(tupleKind (Q9 P w)).is h ks a:=by
 obtain ⟨_,its,r,o,h1,h2,n,h3⟩:=(show J4 P w H h a (.tup (ks.map kV)) from ok a _ e)
 exact ⟨o,its.toArray,n,h1,h2,h3,by simpa using Qd7 r⟩
theorem Qkm (ok:HOk P w H h) (e:Rd H a (.dT kvs)):kvs.length<=sizeLine/\(a == sysModules)=false /\
  ∃xs,KT H kvs xs/\h.DictOfH (tupleKind (Q9 P w)) a xs:=by
 obtain ⟨z,y,xs,r,o,es,ep,h1,h2,h3,h4,h5⟩:=(show J4 P w H h a (.dT kvs) from Qrs ok e)
 refine ⟨z,y,xs,r,o,es,ep,h1,h2,h3,h4,λx hx=>?_,h5⟩
 have all:∀{l:List (List Key × V)} {m:List (List Key × Addr × Value)},KT H l m->∀x∈m,(tupleKind (Q9 P w)).is h x.1 x.2.1:=by
  intro l m q
  induction q with
  | nil=>intro x hx;exact nomatch hx
  | @cons p q ps qs hq t ih =>
   intro x hx
   rcases List.mem_cons.mp hx with e | hx
   ·subst e
    exact Qbv ok (by rw [← hq.1];exact hq.2.1)
   ·exact ih x hx
 exact all r x hx
theorem Qqq (ok:HOk P w H h) (e:H a=some (.dT kvs)):kvs.length<=sizeLine/\(a == sysModules)=false /\
  ∃xs,KT H kvs xs/\h.DictOfH (tupleKind (Q9 P w)) a xs:=Qkm ok (.inl e)
end
def DGet (H:Hp) (a:Addr) (y:V) (r:Option V):Prop :=
 (∃kvs k,Rd H a (.dK kvs)/\y=kV k/\r=valV kvs k)\/∃kvs k b,Rd H a (.dT kvs)/\y=.ref b/\H b=some (.tup (k.map kV))/\r=valV kvs k
def DPut (H:Hp) (a:Addr) (y v:V) (H':Hp):Prop :=
 (∃kvs k,H a=some (.dK kvs)/\y=kV k/\kvs.length<sizeLine/\H'=upd H a (.dK (putK kvs k v))) \/
 ∃kvs k b,H a=some (.dT kvs)/\y=.ref b/\H b=some (.tup (k.map kV))/\kvs.length<sizeLine/\H'=upd H a (.dT (putK kvs k v))
theorem DGet.k {H:Hp} {a:Addr} {kvs:List (Key × V)} {k:Key} (e:H a=some (.dK kvs)):DGet H a (kV k) (valV kvs k):=.inl ⟨kvs,k,.inl e,rfl,rfl⟩
theorem DGet.t {H:Hp} {a b:Addr} {kvs:List (List Key × V)} {k:List Key} (e:H a=some (.dT kvs)) (eb:H b=some (.tup (k.map kV))):DGet H a (.ref b) (valV kvs k):=.inr ⟨kvs,k,b,.inl e,rfl,eb,rfl⟩
theorem DPut.k {H:Hp} {a:Addr} {kvs:List (Key × V)} {k:Key} {v:V} (e:H a=some (.dK kvs)) (hl:kvs.length<sizeLine):DPut H a (kV k) v (upd H a (.dK (putK kvs k v))):=.inl ⟨kvs,k,e,rfl,hl,rfl⟩
theorem DPut.t {H:Hp} {a b:Addr} {kvs:List (List Key × V)} {k:List Key} {v:V} (e:H a=some (.dT kvs)) (eb:H b=some (.tup (k.map kV))) (hl:kvs.length<sizeLine) :
  DPut H a (.ref b) v (upd H a (.dT (putK kvs k v))):=.inr ⟨kvs,k,b,e,rfl,eb,hl,rfl⟩
section
variable {r:Value}
theorem Inv.big (I:Inv X pins σ H s):sysModules<s.heap.objs.size:=by
 have h:mainGlobals<s.heap.objs.size:=(I.mod.glob.keeps I.bk).lt
 exact Nat.lt_trans (by decide) h
theorem Qkt (hu:A.units+1<cLine) (I:Inv X pins σ H s) (g:DGet H a y (some v)) (ry:RelV y u) (h:∀w' s',Inv X pins σ H s'->RelV v w'->Q w' s') :
  wpAny (model X.prog X.w) A (getItem (.ref a) u) Q E s:=by
 rcases g with ⟨kvs,k,e,ey,l⟩ | ⟨kvs,k,b,e,ey,eb,l⟩
 ·subst ey
  obtain ⟨z,hd,vs,rel,dd⟩:=Qh0 I.hok e
  obtain ⟨w',hw,rw'⟩:=RelO.some_of (v:=v) (o:=valueAt vs k) (by rw [l];exact rel.val k)
  exact wpAny_getItem_of (Qfj ry) dd.mapOf hw (h w' _ (I.tok _) rw')
 ·subst ey
  cases (show u=Value.ref b from ry)
  obtain ⟨z,hd,xs,rel,dd⟩:=Qkm I.hok e
  obtain ⟨w',hw,rw'⟩:=RelO.some_of (v:=v) (o:=(atKey xs k).map (·.2)) (by rw [l];exact rel.val k)
  obtain ⟨p,hp,hp2⟩:=Option.map_eq_some_iff.mp hw
  refine wpAny_getItem_heap (tupleKind_room_in1 hu) (Qbv I.hok eb) dd hp ?_
  rw [hp2]
  exact h w' _ (I.tok _) rw'
theorem d_in (hu:A.units+1<cLine) (I:Inv X pins σ H s) (g:DGet H a y o) (ry:RelV y u) (h:∀s',Inv X pins σ H s'->Q (.bool o.isSome) s') :
  wpAny (model X.prog X.w) A (compareOp .In u (.ref a)) Q E s:=by
 rcases g with ⟨kvs,k,e,ey,l⟩ | ⟨kvs,k,b,e,ey,eb,l⟩
 ·subst ey
  obtain ⟨z,hd,vs,rel,dd⟩:=Qh0 I.hok e
  refine wpAny_in_of (Qfj ry) hd dd.mapOf ?_
  rw [← (rel.val k).isSome_eq,← l]
  exact h _ (I.tok _)
 ·subst ey
  cases (show u=Value.ref b from ry)
  obtain ⟨z,hd,xs,rel,dd⟩:=Qkm I.hok e
  refine wpAny_in_heap (tupleKind_room_in1 hu) (Qbv I.hok eb) hd dd ?_
  have q:=(rel.val k).isSome_eq
  rw [Option.isSome_map] at q
  rw [← q,← l]
  exact h _ (I.tok _)
theorem Qqr (hu:A.units+1<cLine) (I:Inv X pins σ H s) (g:DGet H a y o) (ry:RelV y u) (h:∀s',Inv X pins σ H s'->Q (.bool (!o.isSome)) s') :
  wpAny (model X.prog X.w) A (compareOp .NotIn u (.ref a)) Q E s:=by
 rcases g with ⟨kvs,k,e,ey,l⟩ | ⟨kvs,k,b,e,ey,eb,l⟩
 ·subst ey
  obtain ⟨z,hd,vs,rel,dd⟩:=Qh0 I.hok e
  refine wpAny_notIn_of (Qfj ry) hd dd.mapOf ?_
  rw [← (rel.val k).isSome_eq,← l]
  exact h _ (I.tok _)
 ·subst ey
  cases (show u=Value.ref b from ry)
  obtain ⟨z,hd,xs,rel,dd⟩:=Qkm I.hok e
  refine wpAny_notIn_heap (tupleKind_room_in1 hu) (Qbv I.hok eb) hd dd ?_
  have q:=(rel.val k).isSome_eq
  rw [Option.isSome_map] at q
  rw [← q,← l]
  exact h _ (I.tok _)
theorem Qa5 (I:Inv X pins σ H s) (mu:Mut (H a)) (hs:Heap.SameBut a s.heap h') (he:∃q,h'.get? a=some q) (new:J4 X.prog X.w (upd H a ob) h' a ob) :
  Inv X pins σ (upd H a ob) { s with heap:=h',toks:=t' } :=
 I.write (x:=a) (e:=a) mu (.inl rfl) (λb q hb z=>(hs.2 b hb).trans z) he new
theorem Qkn {kvs:List (Key × V)} {vs:List (Key × Value)} (z:kvs.length<=sizeLine) (hd:(a == sysModules)=false) (rel:KV kvs vs) (dd:h'.DictOf (Q9 P w) a vs) :
  J4 P w H' h' a (.dK kvs):=⟨z,hd,vs,rel,dd⟩
theorem Qks {Q:Unit->Shared->Prop} (hu:A.units+1<cLine) (I:Inv X pins σ H s) (g:DPut H a y v H') (ry:RelV y u) (rv:RelV v r) (h:∀s',Inv X pins σ H' s'->Q () s') :
  wpAny (model X.prog X.w) A (setItem (.ref a) u r) Q E s:=by
 rcases g with ⟨kvs,k,e,ey,l,eH⟩ | ⟨kvs,k,b,e,ey,eb,l,eH⟩
 ·subst ey eH
  obtain ⟨z,hd,vs,rel,dd⟩:=Qnd I.hok e
  have hz:vs.length<=sizeLine:=by rw [← rel.length];exact z
  have hl:(putK kvs k v).length<=sizeLine:=by have:=Vt kvs k v;omega
  refine wpAny_setItem_pairs (hsz:=hz) (Qfj ry) dd λh' dd' hs=>h _ ?_
  have he:∃q,h'.get? a=some q:=let ⟨q,_,_,hq,_⟩:=dd';⟨q,hq⟩
  exact Qa5 I (by rw [e];exact True.intro) hs he (Qkn hl hd (rel.put k rv) dd')
 ·subst ey eH
  cases (show u=Value.ref b from ry)
  obtain ⟨z,hd,xs,rel,dd⟩:=Qqq I.hok e
  have hz:xs.length<=sizeLine:=by rw [← Paired.length rel];exact z
  have hl:(putK kvs k v).length<=sizeLine:=by have:=Vt kvs k v;omega
  refine wpAny_setItem_heap (hsz:=hz) (tupleKind_room_in1 hu) (Qbv I.hok eb) dd λh' dd' hs=>h _ ?_
  obtain ⟨q,es,ep,hq,h2,h3,h4,_,h5⟩:=dd'
  refine Qa5 I (by rw [e];exact True.intro) hs ⟨q,hq⟩ ⟨hl,hd,_,(rel.put k eb rv).keeps λc ys ec=>?_,q,es,ep,hq,h2,h3,h4,h5⟩
  rw [Qq (Qsp ec e (λz=>nomatch z))]
  exact ec
end
section
variable {kvs:List (Key × V)}
theorem Qu8 (I:Inv X pins σ H s) (e:Rd H a (.dK kvs)) (h:∀t s',Inv X pins σ H s'->Q (.int kvs.length t) s'):wpAny (model X.prog X.w) A (call (.builtin "len") [.ref a]) Q E s:=by
 obtain ⟨z,hd,vs,rel,dd⟩:=Qh0 I.hok e
 refine call_len_dict hd dd (by rw [← rel.length];rw [sizeLine_eq] at z;omega) ?_
 rw [← rel.length]
 exact h _ _ (I.tok _)
end
theorem Qfm (I:Inv X pins σ H s) (g:DGet H a y o):s.TypeIs (.ref a) "dict":=by
 rcases g with ⟨kvs,k,e,_,_⟩ | ⟨kvs,k,b,e,_,_,_⟩
 ·obtain ⟨_,_,vs,_,dd⟩:=Qh0 I.hok e
  exact dd.typeIs
 ·obtain ⟨_,_,xs,_,dd⟩:=Qkm I.hok e
  exact dd.typeIs
theorem Qg0 (h:Heap) (hb:sysModules<h.objs.size):J4 P w H (h.push { cls:=.type "dict",data:=.dict #[] }) h.objs.size (.dK []) :=
 ⟨Nat.zero_le _,beq_eq_false_iff_ne.mpr (Ne.symm (Nat.ne_of_lt hb)),[],.nil,Heap.DictOf.new h⟩
theorem Qna (h:Heap) (hb:sysModules<h.objs.size):J4 P w H (h.push { cls:=.type "dict",data:=.dict #[] }) h.objs.size (.dT []) :=
 ⟨Nat.zero_le _,beq_eq_false_iff_ne.mpr (Ne.symm (Nat.ne_of_lt hb)),[],.nil,_,#[],0,Heap.get?_push_size _ rfl,⟨rfl,rfl,rfl⟩,rfl,rfl,List.nodup_nil⟩
def Qrn:TE:=λ_ H Q=>∀p,H p=none->Q (.ref p) (upd H p (.dK []))
def Qrm:TE:=λ_ H Q=>∀p,H p=none->Q (.ref p) (upd H p (.dT []))
theorem Qmc:PE X (.Dict [] [] pos) Qrn:=λpins s σ H Q I h =>
 wpAny_Dict_empty ⟨.ref s.heap.objs.size,_,I.laid (a:=s.heap.objs.size) (o:=.dK []) (t':=s.toks) (λ_ _ q=>Heap.get?_push_of_some _ q) (Nat.le_refl _) (Qg0 s.heap I.big),rfl,h _ (I.hok.fresh (Nat.le_refl _))⟩
theorem Qmb:PE X (.Dict [] [] pos) Qrm:=λpins s σ H Q I h =>
 wpAny_Dict_empty ⟨.ref s.heap.objs.size,_,I.laid (a:=s.heap.objs.size) (o:=.dT []) (t':=s.toks) (λ_ _ q=>Heap.get?_push_of_some _ q) (Nat.le_refl _) (Qna s.heap I.big),rfl,h _ (I.hok.fresh (Nat.le_refl _))⟩
def Qii:List (TE × TE)->St->Hp->(List (V × V)->Hp->Prop)->Prop
 | [],_,H,Q=>Q [] H
 | (tk,tv)::r,σ,H,Q=>tk σ H λx H1=>tv σ H1 λy H2=>Qii r σ H2 λps H3=>Q ((x,y)::ps) H3
abbrev VV:List (V × V)->List (Value × Value)->Prop:=Paired λp q=>RelV p.1 q.1/\RelV p.2 q.2
def PPs (X:Cx) (pos:Pos) (keys:List (Option Expr)) (values:List Expr) (trs:List (TE × TE)):Prop :=
 ∀(pins:List (Addr × Obj)) (s:Shared) (σ:St) (H:Hp) (Q:List (V × V)->Hp->Prop),Inv X pins σ H s->Qii trs σ H Q ->
  wpAny (model X.prog X.w) X.A (evalPairs (pairTrees keys values X.env pos)) (λvs s'=>∃ps H',Inv X pins σ H' s'/\VV ps vs/\Q ps H') X.xe s
theorem Qpl:PPs X pos [] [] []:=λpins s σ H Q I h=>pairTrees_nil_walk ⟨[],H,I,.nil,h⟩
theorem Qcf {k v:Expr} {ks:List (Option Expr)} {vs:List Expr} {tk tv:TE} (hk:PE X k tk) (hv:PE X v tv) (hr:PPs X pos ks vs trs) :
  PPs X pos (some k::ks) (v::vs) ((tk,tv)::trs):=λpins s σ H Q I h =>
 pairTrees_cons_walk (thn (hk pins s σ H _ I h) λu s1 ⟨x,H1,I1,rx,q1⟩=>thn (hv pins s1 σ H1 _ I1 q1) λw2 s2 ⟨y,H2,I2,ry,q2⟩ =>
  thn (hr pins s2 σ H2 _ I2 q2) λws s3 ⟨ps,H3,I3,rel,q3⟩=>⟨(x,y)::ps,H3,I3,.cons ⟨rx,ry⟩ rel,q3⟩)
def Qat (kvs more:List (Key × V)):List (Key × V):=more.foldl (λacc kv=>putK acc kv.1 kv.2) kvs
theorem KV.merge:∀{more:List (Key × V)} {rs:List (Key × Value)} {kvs:List (Key × V)} {vs:List (Key × Value)},KV more rs->KV kvs vs->KV (Qat kvs more) (merged vs rs):=by
 intro more rs kvs vs r
 unfold KV at r
 induction r generalizing kvs vs with
 | nil=>intro q;exact q
 | @cons p q ps qs h t ih =>
  intro r0
  have e:KV (putK kvs p.1 p.2) (stored vs q.1 q.2):=by
   have:=r0.put p.1 h.2
   rw [← h.1];exact this
  exact ih e
theorem Gq:∀(more kvs:List (Key × V)),(Qat kvs more).length<=kvs.length+more.length
 | [],kvs=>by show kvs.length<=kvs.length+0;omega
 | p::r,kvs=>by
  have h1:=Gq r (putK kvs p.1 p.2)
  have h2:=Vt kvs p.1 p.2
  show (Qat (putK kvs p.1 p.2) r).length<=_
  rw [List.length_cons];omega
theorem Qby {P:Program} {w:World}:∀{kvs:List (Key × V)} {ws:List (Value × Value)},VV (kvs.map λkv=>(kV kv.1,kv.2)) ws->∃rs,Carries (Q9 P w) ws rs/\KV kvs rs
 | [],_,r=>by rw [List.map_nil] at r;cases r;exact ⟨[],True.intro,.nil⟩
 | p::kvs,_,r=>by
  rw [List.map_cons] at r
  cases r with
  | @cons a b as bs h t =>
   obtain ⟨rs,c,q⟩:=Qby (P:=P) (w:=w) t
   obtain ⟨b1,b2⟩:=b
   exact ⟨(p.1,b2)::rs,⟨Qfj h.1,rfl,c⟩,.cons ⟨rfl,h.2⟩ q⟩
def Qt0 (trs:List (TE × TE)):TE:=λσ H Q=>∀p,H p=none->Qii trs σ (upd H p (.dK [])) λps H2=>H2 p=some (.dK [])/\∃kvs:List (Key × V),ps=kvs.map (λkv=>(kV kv.1,kv.2))/\kvs.length<=15/\Q (.ref p) (upd H2 p (.dK (Qat [] kvs)))
theorem Qpt {keys:List (Option Expr)} {values:List Expr} (h:PPs X pos keys values trs) (hall:keys.all (·.isSome)=true) (hl:keys.length=values.length) (h0:keys≠[])
  (h15:keys.length<=15):PE X (.Dict keys values pos) (Qt0 trs):=by
 intro pins s σ H Q I q
 have hn:=I.hok.fresh (Nat.le_refl s.heap.objs.size)
 have I1:=I.laid (a:=s.heap.objs.size) (o:=.dK []) (h':=s.heap.push { cls:=.type "dict",data:=.dict #[] }) (t':=s.toks) (λ_ _ q=>Heap.get?_push_of_some _ q) (Nat.le_refl _) (Qg0 s.heap I.big)
 refine wpAny_Dict_walk (knd:=Q9 X.prog X.w) hall hl h0 h15 (thn (h pins _ σ _ _ I1 (q _ hn)) λws s2 ⟨ps,H2,I2,rel,e,kvs,ep,lk,q2⟩=>?_)
 subst ep
 obtain ⟨rs,c,rk⟩:=Qby (P:=X.prog) (w:=X.w) rel
 obtain ⟨z,hd,vs0,r0,dd⟩:=Qnd I2.hok e
 cases r0
 refine ⟨rs,c,dd,λh' dd' hs=>⟨.ref s.heap.objs.size,_,?_,rfl,q2⟩⟩
 have hz:(Qat [] kvs).length<=sizeLine:=by
  have h1:=Gq kvs []
  rw [List.length_nil] at h1
  rw [sizeLine_eq];omega
 have he:∃q,h'.get? s.heap.objs.size=some q:=let ⟨q,_,_,hq,_⟩:=dd';⟨q,hq⟩
 exact Qa5 I2 (by rw [e];exact True.intro) hs he (Qkn hz hd (rk.merge .nil) dd')
end L2
variable {q:PySem.Program} {loose:List PySem.Str} {XP:(PySem.Str->Option PySem.Value)->PySem.Heap->Prop} {YP:PySem.World->PySem.Heap->Prop} {d:PySem.DefRec}
namespace Att
open PySem PySem.W PySem.Calls PyProof.Rows
theorem Qaz {P:Params} {h:Heap}:∀(ns:List Int) (vs:List Value),WellAll P h vs (ns.map WData.int)->IntsAre vs ns:=by
 intro ns
 induction ns with
 | nil =>
  intro vs w
  rw [List.map_nil] at w
  cases w
  exact .nil
 | cons n ns ih =>
  intro vs w
  rw [List.map_cons] at w
  cases w with
  | cons a b =>
   cases a
   exact .cons _ _ (ih _ b)
theorem Qiq (hn:l.most=some n) {P:Params} {h:Heap} {args:List WData} {vals:List Value}
  (hpre:l.row.toRowW.claim.pre args=true) (hwl:WellAll P h vals args) :
  ∃a vs ns,vals=[Value.ref a]/\args=[WData.list (ns.map WData.int)]/\h.get? a=some { cls:=.type "list",data:=.seq vs.toArray }/\IntsAre vs ns/\ns.length<=n:=by
 have hsh:WShape.hasAll [] args [.list .int]=true:=(pre_splitW hpre).1
 have hc:l.pre.holds [] { args:=args }=true:=(pre_splitW hpre).2
 obtain ⟨d,r,rfl,h1,h2⟩:=hasAllW_cons hsh
 obtain rfl:=hasAllW_nil h2
 obtain ⟨xs,rfl,h3⟩:=hasW_list h1
 obtain ⟨ns,rfl⟩:=items_int h3
 have hlen:ns.length<=n:=by
  unfold OpenLaw.pre at hc
  have h4:(WTm.not (.lt (.lit (.int (n:Int))) (.len (.arg 0)))).holds [] { args:=[.list (ns.map .int)] }=true:=by
   have h4:=(holds_andW hc).1
   rw [hn] at h4
   exact h4
  have h5:=condW_of h4 (w_not (w_lt w_lit (w_len_list (w_arg rfl))))
  rw [List.length_map] at h5
  refine Nat.le_of_not_lt λq=>?_
  have q':(n:Int)<((ns.length:Nat):Int):=by omega
  first
   | (rw [decide_eq_true q'] at h5;exact absurd h5 (by decide))
   | (simp at h5;omega)
 cases hwl with
 | cons w1 w2 =>
  cases w2
  cases w1 with
  | list ho hall=>exact ⟨_,_,ns,rfl,rfl,ho,Qaz ns _ hall,hlen⟩
theorem Qi4 (l:OpenLaw) (args:List WData):l.row.toRowW.claim.post args (.bool true) args=true :=
 postW_of (r:=l.row.toRowW) (X:=(true == true))
  (show WShape.has [] (.bool true) .bool=true by first | rfl | decide | simp [WShape.has,WShape.arms,WShape.armsAll])
  (show (WTm.eq .res (.lit (.bool true))).value [] { args:=args,res:=some (.bool true),after:=args }=some (.bool (true == true)) from w_eq_bool (w_res rfl) w_lit) rfl
theorem Qft
  (hn:l.most=some n) (hdf:d.params.defaults=[])
  (call:∀(w:World) (s₀ s₁:Shared) (mg mb:Str->Option Value) (fa:Addr) (o:Obj) (pm cd doc:Value) (a:Addr) (vs:List Value) (ns:List Int),
   Ground q loose [] XP w s₀ mg mb s₁.heap->YP w s₁.heap ->
   s₁.heap.get? fa=some o->o.data=.func (docDef d.name d.params d.body d.scope pm cd doc)->s₁.heap.CodeRec cd d.name->mg d.name=some (.ref fa) ->
   s₁.heap.get? a=some { cls:=.type "list",data:=.seq vs.toArray }->IntsAre vs ns->ns.length<=n->s₁.gens = #[] ->
   codeAny (model l.prog w) callerA (.call (.ref fa) ⟨[.ref a],[]⟩) (λr s'=>r=.ok (.ret (.bool true))/\OldK s₁.heap s'.heap/\s'.os=s₁.os/\AllBare s'.gens) s₁) :
  WalkO q loose XP YP l.row.toRowW d [] (λf vs=>PySem.call f vs):=by
 intro w s₀ s₁ mg mb G Y fa o pm cd doc dV kV ho hd hcd hD hmg hg args vals as hpre hlay hrd hwl hlo
 obtain rfl:dV=.none:=Dflts.none hD hdf
 obtain rfl:kV=.none:=Dflts.noKw hD
 obtain ⟨a,vs,ns,rfl,rfl,hobj,hints,hlen⟩:=Qiq hn hpre hwl
 refine enter_call (codeAny_mono (call w s₀ s₁ mg mb fa o pm cd doc a vs ns G Y ho (fd_plain hd) hcd hmg hobj hints hlen hg) λr s' hq=>?_)
 obtain ⟨rfl,h2,h3,h4⟩:=hq
 exact ⟨.inl ⟨.bool true,.bool true,[],rfl,λ_=>rfl,.bool true,Qi4 l _,λ_=>⟨List.Pairwise.nil,λ_ hm=>(nomatch hm)⟩⟩,h2,h3,h4⟩
end Att
variable {o:L2.HO} {i k kt:Nat} {t fa:PySem.Addr} {tt:L2.TT} {cl:List (PySem.Str × PySem.Addr)} {elt:PySem.Expr} {ifs:List PySem.Expr} {ts:List PySem.Str} {gt:L2.TG} {J:L2.It} {tn:Nat->PySem.Heap->Prop} {RR:PySem.Value->PySem.Addr->PySem.Result->PySem.Shared->Prop} {G:List L2.V->L2.Hp->Prop} {px pt:PySem.Pos}
namespace L2
open PySem PySem.Spec PyProof.Rows
theorem Qc7:∀{vs:List Value} {ns:List Int},IntsAre vs ns->Vals (ns.map V.int) vs
 | _,_,.nil=>.nil
 | _,_,.cons n t h=>.cons ⟨t,rfl⟩ (Qc7 h)
def Only (H:Hp):Prop:=∀b,H b=none\/∃o xs,H b=some (.frz o (.lst xs))
theorem Qmr {mb:Str->Option Value} {sp:Sp} {s₁:Shared} {vs:List Value}
  (KX:K.In s₁.heap) (hns:s₁.heap.Ns mainGlobals mg) (hb:s₁.heap.Ns builtinsNs mb) (hbb:∀x:Str,x ≠ "__name__" -> mb x=bootBuiltins x) (hlim:s₁.heap.NoLimit) (hg:s₁.gens = #[])
  (ha:s₁.heap.get? a=some { cls:=.type "list",data:=.seq vs.toArray }) (hi:IntsAre vs ns) (hl:ns.length<=sizeLine) (hr:Room k callerA)
  (F:∀base:Heap,K.In base->base.Ns mainGlobals mg->FnOk P w K mg base CX k fa fd [x] sp) (hbind:∀(s:Shared) (u:Value),BindsTo s fd ⟨[u],[]⟩ [(x,u)])
  (hsp:∀H:Hp,Only H->SqL K H a (ns.map V.int)->sp [.ref a] H (λv _=>v=.bl true) λ_ _ _=>False)
  (hCX:∀H e s',CX [] H s₁ (λ_ _ _=>False) e s'->False) :
  codeAny (model P w) callerA (.call (.ref fa) ⟨[.ref a],[]⟩) (λr s'=>r=.ok (.ret (.bool true))/\OldK s₁.heap s'.heap/\s'.os=s₁.os/\AllBare s'.gens) s₁:=by
 have rv:=Qc7 hi
 have lenV:=hi.length
 -- from an abstract heap in which nothing but the script may be tracked
 have core:∀H:Hp,Only H->SqL K H a (ns.map V.int)->HOk P w H s₁.heap->(∀b,H b≠none->b=a)->(H a≠none->K.lookup a=none) ->
   codeAny (model P w) callerA (.call (.ref fa) ⟨[.ref a],[]⟩) (λr s'=>r=.ok (.ret (.bool true))/\OldK s₁.heap s'.heap/\s'.os=s₁.os/\AllBare s'.gens) s₁:=by
  intro H hO hS hok hA hK
  have base_of:∀{b:Addr} {o:Obj},s₁.heap.get? b=some o->H b=none->(hidT s₁.heap H).get? b=some o:=λe n=>Qmz e n
  have noA:∀{b:Addr} {o:Obj} {es:Array DictEntry} {ep:Nat},s₁.heap.get? b=some o->o.data=.dict es ep->H b=none:=λ{b o es ep} e d=>by
   cases q:H b with
   | none=>rfl
   | some u =>
    have e':b=a:=hA b (by rw [q];simp)
    subst e'
    rw [ha] at e;cases e
    have d':Data.seq vs.toArray _=Data.dict es ep:=d
    cases d'
  have nsK:∀{b:Addr} {m:Str->Option Value},s₁.heap.Ns b m->(hidT s₁.heap H).Ns b m:=λ{b m} ⟨o,es,ep,e,d,r⟩=>⟨o,es,ep,base_of e (noA e d),d,r⟩
  have hKb:K.In (hidT s₁.heap H):=λb o e=>base_of (KX b o e) (by
   cases q:H b with
   | none=>rfl
   | some u =>
    have e':b=a:=hA b (by rw [q];simp)
    subst e'
    rw [hK (by rw [q];simp)] at e;cases e)
  have hM:Mod K mg (hidT s₁.heap H):=⟨hKb,nsK hns,⟨mb,nsK hb,hbb⟩,let ⟨mc,h1,h2⟩:=hlim;⟨mc,nsK h1,h2⟩⟩
  have e0:Env0 P w K mg (hidT s₁.heap H) callerA [] s₁ H:=⟨rfl,hM,λb o e=>Qp5 e,Nat.le_of_eq (Qkb _ _),trivial,λb hb=>absurd (show b∈([]:List Addr) from hb) (by simp),hok,.of_eq hg⟩
  refine codeAny_mono ((F _ hKb (nsK hns)).run callerA [] s₁ H ⟨[.ref a],[]⟩ [.ref a] [.ref a] _ _ hr e0 (hbind s₁ (.ref a)) (.cons rfl .nil) (hsp H hO hS)) λr s' h=>?_
  cases r with
  | error e=>exact (hCX H e s' h).elim
  | ok fl =>
   cases fl with
   | next=>exact False.elim h
   | brk=>exact False.elim h
   | cont=>exact False.elim h
   | ret u =>
    obtain ⟨v,H',os,bare,un,hok',r',q⟩:=h
    have q':v=.bl true:=q
    subst q'
    obtain rfl:u=Value.bool true:=r'
    refine ⟨rfl,OldK.of_keep λb o e=>?_,os,bare⟩
    cases q:H b with
    | none=>exact un.keep b o e q (by intro z;exact absurd (show b∈([]:List Addr) from z) (by simp)) (by simp)
    | some u =>
     rcases hO b with z | ⟨ob,xs,z⟩
     ·rw [q] at z;cases z
     ·have z2:=un.frzs b ob _ z
      obtain ⟨e1,_⟩:=hok b _ z
      obtain ⟨e2,_⟩:=hok' b _ z2
      rw [e] at e1;cases e1
      exact e2
 cases hk:K.lookup a with
 | some o =>
  -- the script is one of the module's own objects
  have e:=KX a o hk
  rw [ha] at e
  cases e
  refine core (λ_=>none) (λ_=>.inl rfl) (.inr ⟨_,vs.toArray,_,hk,rfl,rfl,rfl,by rw [List.size_toArray,lenV];exact hl,by simpa using rv⟩) (λb u z=>by have z':(none:Option HO)=some u:=z;cases z') (λb z=>absurd rfl z) λz=>absurd rfl z
 | none =>
  refine core (λb=>if b=a then some (.frz { cls:=.type "list",data:=.seq vs.toArray } (.lst (ns.map V.int))) else none) (λb=>?_) (.inl (.inr ⟨{ cls:=.type "list",data:=.seq vs.toArray },if_pos rfl⟩)) (λb u z=>?_) (λb z=>?_) λ_=>hk
  ·by_cases hb:b=a
   ·exact .inr ⟨_,_,if_pos hb⟩
   ·exact .inl (if_neg hb)
  ·by_cases hb:b=a
   ·have z':=(if_pos hb).symm.trans z
    cases z'
    subst hb
    exact ⟨ha,by rw [List.length_map];exact hl,vs,_,rv,ha⟩
   ·have z':=(if_neg hb).symm.trans z
    cases z'
  ·by_cases hb:b=a
   ·exact hb
   ·exact absurd (if_neg hb) z
theorem Qor {K:Params->PySem.W.Frag} {CX:World->CXT} {sp:World->Sp}
  (hn:l.most=some n) (hn2:n<=sizeLine) (hdf:d.params.defaults=[]) (hr:Room k callerA)
  (hY:∀(w:World) (h:Heap),YP w h->(K w.params).In h)
  (F:∀(w:World) (mg:Str->Option Value) (fa:Addr) (h:Heap),(K w.params).In h->h.Ns mainGlobals mg->mg d.name=some (.ref fa) ->
   ∃fd:FuncData,(∀(s:Shared) (u:Value),BindsTo s fd ⟨[u],[]⟩ [(x,u)]) /\
    ∀base:Heap,(K w.params).In base->base.Ns mainGlobals mg->FnOk l.prog w (K w.params) mg base (CX w) k fa fd [x] (sp w))
  (hsp:∀(w:World) (H:Hp) (a:Addr) (ns:List Int),ns.length<=n->Only H->SqL (K w.params) H a (ns.map V.int)->sp w [.ref a] H (λv _=>v=.bl true) λ_ _ _=>False)
  (hCX:∀(w:World) (H:Hp) (s:Shared) (e:Value) (s':Shared),CX w [] H s (λ_ _ _=>False) e s'->False) :
  PySem.W.WalkO q loose XP YP l.row.toRowW d [] (λf vs=>PySem.call f vs):=by
 refine Att.Qft hn hdf λw s₀ s₁ mg mb fa o pm cd doc a vs ns G Y ho hd hcd hmg hobj hints hlen hg=>?_
 have KX:=hY w _ Y
 obtain ⟨fd,hb,hF⟩:=F w mg fa _ KX G.T.g hmg
 exact Qmr KX G.T.g G.T.b G.T.builtins G.T.nolimit hg hobj hints (Nat.le_trans hlen hn2) hr hF hb (λH hO hS=>hsp w H a ns hlen hO hS) λH e s'=>hCX w H s₁ e s'
def Uf (s:Stmt):Arguments:=match s with
 | .FunctionDef _ a _ _ _ _ _ _ _ _=>a
 | _=>{ posonlyargs:=[],args:=[],vararg:=none,kwonlyargs:=[],kw_defaults:=[],kwarg:=none,defaults:=[] }
def Qy (s:Stmt):List Stmt:=match s with
 | .FunctionDef _ _ b _ _ _ _ _ _ _=>b
 | _=>[]
def Qe (s:Stmt):Scope:=match s with
 | .FunctionDef _ _ _ _ _ _ sc _ _ _=>sc
 | _=>{ kind:=.function,names:=[],isGenerator:=false,isCoroutine:=false }
abbrev CX0:CXT:=λ_ _ _ _ _ _=>False
abbrev E0:XK:=λ_ _ _=>False
theorem Qjc:Qep CX0 X E0:=λ_ _ _ _ _ _ _ h=>h.elim
structure Fun (K:PySem.W.Frag) (x qual:Str) (st:Stmt) (f:Addr) (fd:FuncData):Prop where
 ex:∃(oc:Value) (od:Option Addr) (kV doc pm:Value) (an:Option Addr) (cdv ct:Value) (osl:Array (Option Value)),
  fd=PySem.W.fnOf x qual (Uf st) (Qy st) (Qe st) .none kV doc pm an cdv ct/\K.lookup f=some ⟨oc,od,.func fd,osl⟩/\PySem.W.codeIn K cdv qual=true
 kp:PySem.W.keepIn K (.ref f)=true
theorem Fun.ok {sp:Sp} (F:Fun K x qual st f fd) (S:FnScope N ps (Qe st)) (len:∀vs H Q E,sp vs H Q E->vs.length=ps.length)
  (hbody:∀(cdv:Value) (A:Around) (outer:List Env) (s:Shared) (H:Hp) (vs:List V) (Q:VK) (E:XK),Room k (A.deeper (envOfC qual (Qe st) s.heap.objs.size f cdv))->sp vs H Q E ->
   ∃t,PSs (cxOf CX0 P w K mg base N qual (Qe st) f cdv A outer s H E).nox (Qy st) t/\t { nx:=λ_ H'=>Q .non H',rt:=Q } (Gf N vs) H):FnOk P w K mg base CX0 (k+1) f fd ps sp:=by
 obtain ⟨oc,od,kV,doc,pm,an,cdv,ct,osl,rfl,lk,hcd⟩:=F.ex
 refine Qu4 lk hcd S len λA outer s H vs Q E hr hsp=>?_
 obtain ⟨t,h,q⟩:=hbody cdv A outer s H vs Q E hr hsp
 exact ⟨t,h.nox,q⟩
theorem Fun.binds (F:Fun K x qual st f fd)
  (h:∀(kV doc pm:Value) (an:Option Addr) (cdv ct:Value) (us:List Value),us.length=ps.length->bindArgs (PySem.W.fnOf x qual (Uf st) (Qy st) (Qe st) .none kV doc pm an cdv ct) ⟨us,[]⟩=pure (ps.zip us)):Z2 K fd ps []:=by
 obtain ⟨oc,od,kV,doc,pm,an,cdv,ct,osl,rfl,lk,hcd⟩:=F.ex
 exact .all (h kV doc pm an cdv ct)
theorem Qkg {oc:Value} {od an:Option Addr} {kV doc pm cdv ct:Value} (l:K.lookup f=some ⟨oc,od,.func (PySem.W.fnOf x qual (Uf st) (Qy st) (Qe st) .none kV doc pm an cdv ct),osl⟩)
  (c:PySem.W.codeIn K cdv qual=true) (k:PySem.W.keepIn K (.ref f)=true):Fun K x qual st f (PySem.W.fnOf x qual (Uf st) (Qy st) (Qe st) .none kV doc pm an cdv ct):=⟨⟨oc,od,kV,doc,pm,an,cdv,ct,osl,rfl,l,c⟩,k⟩
theorem Qp (hr:Room k A):A.units+1<cLine:=Nat.lt_of_le_of_lt (Nat.add_le_add_left (by decide:1<=64) _) hr.units
theorem Qip (h:n<=1000):n<sizeLine:=Nat.lt_of_le_of_lt h (by decide)
theorem pv (i:Nat) (hN:X.N[i]? = some x:=by rfl) (hv:Vis X.env.scope x:=by first | exact Or.inl rfl | exact Or.inr (Or.inl rfl) | exact Or.inr (Or.inr rfl)) (hd:(x == ("__debug__" : Str))=false:=by decide)
  (hcd:(x == ("__classdict__" : Str))=false:=by decide):PE X (.Name x pos) (tVar i):=Va hN hv hd hcd
theorem Qk2:Uh X (.builtin "len") (λxs H Q=>∃a kvs,xs=[V.ref a]/\H a=some (.dK kvs)/\Q (.int kvs.length) H):=by
 intro pins s σ H xs us Q I r h
 obtain ⟨a,kvs,rfl,ha,q⟩:=h
 obtain ⟨u,rfl,ru⟩:=Qc8 r
 cases ru
 exact Qu8 I (.inl ha) λt s' I'=>⟨.int kvs.length,H,I',⟨t,rfl⟩,q⟩
def Same (H H':Hp):Prop:=∀b o,H b=some o->H' b=some o
theorem Same.refl (H:Hp):Same H H:=λ_ _ h=>h
theorem Same.trans (a:Same H H1) (b:Same H1 H2):Same H H2:=λc o h=>b c o (a c o h)
theorem Same.free (e:Same H H') {l:Addr} (h:H' l=Option.none):H l=Option.none:=by
 cases q:H l with
 | none=>rfl
 | some o =>
  rw [e l o q] at h
  cases h
theorem U5 {env:Env}:∀(names:List (Str × NameKind)) (acc:List (Str × Addr)),
  (∀x∈names,x.2=.free->∃c,env.cells.lookup x.1=some c)->(∀y c,acc.lookup y=some c->env.cells.lookup y=some c) ->
  ∃cl:List (Str × Addr),(forIn names acc (λ(x:Str × NameKind) (cs:List (Str × Addr)) =>
    if (x.2 == NameKind.free)=true then do
     let c ← cellOf env x.1
     pure (ForInStep.yield ((x.1,c)::cs))
    else pure (ForInStep.yield cs)):Sem (List (Str × Addr)))=pure cl /\
   (∀y c,cl.lookup y=some c->env.cells.lookup y=some c)/\(∀y,(acc.lookup y).isSome=true->(cl.lookup y).isSome=true) /\
   ∀x∈names,x.2=.free->(cl.lookup x.1).isSome=true
 | [],acc,_,ha=>⟨acc,by rw [List.forIn_nil],ha,λ_ h=>h,λ_ h=>nomatch h⟩
 | (n,k)::r,acc,hn,ha=>by
  rw [List.forIn_cons]
  by_cases hk:k=.free
  ·subst hk
   obtain ⟨c,hc⟩:=hn (n,.free) List.mem_cons_self rfl
   have hc':env.cells.lookup n=some c:=hc
   obtain ⟨cl,e,h1,h2,h3⟩:=U5 r ((n,c)::acc) (λx hx=>hn x (List.mem_cons_of_mem _ hx)) (λy c' h=>by
    rw [List.lookup_cons] at h
    cases q:y == n with
    | true=>rw [q] at h;cases h;rw [beq_iff_eq.mp q];exact hc'
    | false=>rw [q] at h;exact ha y c' h)
   refine ⟨cl,?_,h1,λy hy=>h2 y ?_,λx hx hf=>?_⟩
   ·have e0:cellOf env n=pure c:=by unfold cellOf;rw [hc']
    show ((if ((NameKind.free == NameKind.free)=true) then (cellOf env n >>= λc=>pure (ForInStep.yield ((n,c)::acc))) else pure (ForInStep.yield acc)) >>= _)=_
    rw [if_pos (by decide),e0]
    exact e
   ·rw [List.lookup_cons]
    cases q:y == n with
    | true=>rfl
    | false=>exact hy
   ·rcases List.mem_cons.mp hx with rfl | hx
    ·exact h2 n (by simp [List.lookup_cons])
    ·exact h3 x hx hf
  ·obtain ⟨cl,e,h1,h2,h3⟩:=U5 r acc (λx hx=>hn x (List.mem_cons_of_mem _ hx)) ha
   refine ⟨cl,?_,h1,h2,λx hx hf=>?_⟩
   ·show ((if ((k == NameKind.free)=true) then (cellOf env n >>= λc=>pure (ForInStep.yield ((n,c)::acc))) else pure (ForInStep.yield acc)) >>= _)=_
    rw [if_neg (by simpa using hk)]
    exact e
   ·rcases List.mem_cons.mp hx with rfl | hx
    ·exact absurd hf hk
    ·exact h3 x hx hf
theorem Vw (h:∀x∈scope.names,x.2=.free->∃c,env.cells.lookup x.1=some c) :
  ∃cl,closureFor scope env=pure cl/\(∀y c,cl.lookup y=some c->env.cells.lookup y=some c)/\∀x∈scope.names,x.2=.free->∃c,cl.lookup x.1=some c:=by
 obtain ⟨cl,e,h1,_,h3⟩:=U5 scope.names [] h (λy c q=>by simp at q)
 refine ⟨cl,?_,h1,λx hx hf=>Option.isSome_iff_exists.mp (h3 x hx hf)⟩
 simp only [closureFor]
 show (forIn scope.names [] _ >>= λr=>pure r)=_
 rw [e]
 rfl
theorem Yc {env:Env} {x:Str}:∀{names:List (Str × NameKind)},names.lookup x=some .free ->
  (names.map λ(n,k)=>if (k == NameKind.free && env.scope.kind == .function && env.kindOf n == some .cell) then (n,NameKind.cell) else (n,k)).lookup x=some .cell \/
  (names.map λ(n,k)=>if (k == NameKind.free && env.scope.kind == .function && env.kindOf n == some .cell) then (n,NameKind.cell) else (n,k)).lookup x=some .free
 | [],h=>by simp at h
 | (n,k)::r,h=>by
  have ih:=@Yc env x r
  show List.lookup x ((if (k == NameKind.free && env.scope.kind == .function && env.kindOf n == some .cell)=true then (n,NameKind.cell) else (n,k))::_)=_\/List.lookup x ((if (k == NameKind.free && env.scope.kind == .function && env.kindOf n == some .cell)=true then (n,NameKind.cell) else (n,k))::_)=_
  cases hx:x == n with
  | true =>
   simp only [List.lookup_cons,hx] at h
   cases h
   by_cases hc:(NameKind.free == NameKind.free && env.scope.kind == .function && env.kindOf n == some .cell)=true
   ·rw [if_pos hc];left;simp only [List.lookup_cons,hx]
   ·rw [if_neg hc];right;simp only [List.lookup_cons,hx]
  | false =>
   simp only [List.lookup_cons,hx] at h
   by_cases hc:(k == NameKind.free && env.scope.kind == .function && env.kindOf n == some .cell)=true
   ·rw [if_pos hc];simp only [List.lookup_cons,hx];exact ih h
   ·rw [if_neg hc];simp only [List.lookup_cons,hx];exact ih h
theorem Zt {env:Env} {x:Str} {q:NameKind}:∀{names:List (Str × NameKind)},(∀y∈names,y.2 ≠ .cell)->q=.cell\/q=.free ->
  (names.map λ(n,k)=>if (k == NameKind.free && env.scope.kind == .function && env.kindOf n == some .cell) then (n,NameKind.cell) else (n,k)).lookup x=some q->(x,NameKind.free)∈names
 | [],_,_,h=>by simp at h
 | (n,k)::r,hn,hq,h=>by
  have h:List.lookup x ((if (k == NameKind.free && env.scope.kind == .function && env.kindOf n == some .cell)=true then (n,NameKind.cell) else (n,k))::(r.map λ(n,k)=>if (k == NameKind.free && env.scope.kind == .function && env.kindOf n == some .cell) then (n,NameKind.cell) else (n,k)))=some q:=h
  by_cases hc:(k == NameKind.free && env.scope.kind == .function && env.kindOf n == some .cell)=true
  ·rw [if_pos hc] at h
   cases hx:x == n with
   | true =>
    have hk:k=.free:=by
     cases k <;> first | rfl | (simp at hc)
    rw [beq_iff_eq.mp hx,hk]
    exact List.mem_cons_self
   | false =>
    simp only [List.lookup_cons,hx] at h
    exact List.mem_cons_of_mem _ (Zt (λy hy=>hn y (List.mem_cons_of_mem _ hy)) hq h)
  ·rw [if_neg hc] at h
   cases hx:x == n with
   | true =>
    simp only [List.lookup_cons,hx] at h
    have hk:k=q:=Option.some.inj h
    have hk2:k=.free:=by
     rcases hq with rfl | rfl
     ·exact absurd hk (hn (n,k) List.mem_cons_self)
     ·exact hk
    rw [beq_iff_eq.mp hx,hk2]
    exact List.mem_cons_self
   | false =>
    simp only [List.lookup_cons,hx] at h
    exact List.mem_cons_of_mem _ (Zt (λy hy=>hn y (List.mem_cons_of_mem _ hy)) hq h)
def cxBlk (X:Cx) (scope:Scope) (cl:List (Str × Addr)) (C:Addr) (N:List Str) (s₀:Shared) (H₀:Hp) (fp:List Addr):Cx :=
 { X with N:=N,s₀:=s₀,H₀:=H₀,env:=compEnvC scope cl C X.env,outer:=X.stack,stack:=X.stack,ex:=fp,fn:=λ_=>false,pn:=[],xe:=λ_ _=>False }
structure BlkScope (env:Env) (scope:Scope) (x:Str):Prop where
 kind:scope.kind=.function
 cells:∀y∈scope.names,y.2 ≠ .cell
 names:∀y∈scope.names,y.2=.local->scope.names.lookup y.1=some .local
 lx:scope.names.lookup x=some .local
 free:∀y∈scope.names,y.2=.free->env.kindOf y.1=some .cell\/env.kindOf y.1=some .free
def bN (N:List Str) (x:Str) (ix:List Nat):List Str:=x::ix.map λi=>N.getD i Str.empty
def bS (σ:St) (o:Option V) (ix:List Nat):St:=o::ix.map λi=>(σ[i]?).getD none
def PIfs (X:Cx) (ifs:List Expr) (tt:TT):Prop :=
 ∀(pins:List (Addr × Obj)) (s:Shared) (σ:St) (H:Hp) (Q:Bool->Hp->Prop),Inv X pins σ H s->tt σ H Q ->
  wpAny (model X.prog X.w) X.A (forIn ifs true λc r=>if r=true then do let ok ← isTrue c X.env (eval c X.env);pure (ForInStep.yield ok) else pure (ForInStep.yield r)) (TP X pins σ Q) X.xe s
def tAll:TT:=λ_ H Q=>Q true H
theorem Qgk:PIfs X [] tAll:=by
 intro pins s σ H Q I h
 rw [List.forIn_nil]
 exact wpAny_pure ⟨H,I,h⟩
theorem Ql5 (h:PT X c tt):PIfs X [c] tt:=by
 intro pins s σ H Q I hw
 rw [List.forIn_cons]
 refine wpAny_bind ?_
 rw [if_pos rfl]
 refine wpAny_bind (thn (h pins s σ H _ I hw) λok s1 q=>wpAny_pure ?_)
 show wpAny _ _ (forIn [] ok _) _ _ s1
 rw [List.forIn_nil]
 exact wpAny_pure q
theorem Qto (I:Inv X pins σ H s) (B:BlkScope X.env scope x)
  (h1:∀y c,cl.lookup y=some c->X.env.cells.lookup y=some c) (h3:∀y∈scope.names,y.2=.free->∃c,cl.lookup y.1=some c) (hC:s.heap.objs.size<=C) (hf:∀b∈fp,FpOk X pins H b) (hl:∀b∈fp,b<s.heap.objs.size) :
  (cxBlk X scope cl C N s H fp).Ok where
 mod:=I.ok.mod
 kind:=by show (relabel scope X.env).kind=_;exact B.kind
 glob:=I.ok.glob
 blt:=I.ok.blt
 above:=hC
 inj:=λy z c q r=>I.ok.inj y z c (h1 y c q) (h1 z c r)
 has:=λy hy=>by
  have hy:(relabel scope X.env).names.lookup y=some .cell\/(relabel scope X.env).names.lookup y=some .free:=hy
  have m:(y,NameKind.free)∈scope.names:=by
   rcases hy with q | q
   ·exact Zt B.cells (.inl rfl) q
   ·exact Zt B.cells (.inr rfl) q
  exact h3 _ m rfl
 cab:=λy c q=>by cases (show false=true from q)
 hd:=I.ok.hd
 frames:=I.ok.frames
 stk:=.inl rfl
 exf:=λb hb=>⟨Nat.ne_of_lt (Nat.lt_of_lt_of_le (hl b hb) hC),λy c q=>(hf b hb).2.2.2.2.1 y c (h1 y c q)⟩
 bs:=I.bs
 bsz:=Nat.le_trans I.ok.bsz I.sz
 noex:=λb o e hb=>by
  rcases (hf b hb).2.2.2.1 with z | z
  ·exact I.ok.noex b o e z
  ·exact absurd (Nat.lt_of_lt_of_le (Heap.lt_size e) (Nat.le_trans I.ok.bsz z)) (Nat.lt_irrefl _)
 exfs:=λb hb z=>by
  have z':=I.stkSub b z
  rcases List.mem_cons.mp z' with q | q
  ·exact (hf b hb).2.1 q
  ·exact (hf b hb).2.2.1 q
 funs:=I.stack
 frf:=I.stkFree
theorem HOk.add {h:Heap} (x:HOk P w H h) (hn:H a=none) (new:J4 P w (upd H a o) h a o):HOk P w (upd H a o) h:=λb u e=>by
 by_cases hb:b=a
 ·subst hb;rw [Qk] at e;cases e;exact new
 ·rw [Qq hb] at e
  exact (x b u e).stay (λc v _ q=>q) (λc q=>by rw [Qq (Q7 q hn)];exact q) (λc xs q=>by rw [Qq (Q7 q hn)];exact q) λc _ _ _ q _=>by rw [Qq (Q7 q hn)];exact q
theorem Un.add {fs ex:List Addr} {h:Heap} (u:Un fs ex H H' h h') (hn:h.get? a=none) (hH:H a=none):Un fs ex H (upd H' a o) h h' where
 keep:=u.keep
 slot:=u.slot
 free:=λb ob e n hx=>by
  have:b≠a:=λz=>by rw [z,hn] at e;cases e
  rw [Qq this];exact u.free b ob e n hx
 there:=u.there
 tups:=λb xs e=>by rw [Qq (Q7 e hH)];exact u.tups b xs e
 frzs:=λb ob w e=>by rw [Qq (Q7 e hH)];exact u.frzs b ob w e
 tbls:=λb ps e=>by rw [Qq (Q7 e hH)];exact u.tbls b ps e
theorem Qbj {target:Expr} {it acc:Value} (I:Nat->Shared->Prop)
  (turn:∀n s,I n s->wpAny (model prog w) A (pyNext it) (λr s₁=>match r with
   | none=>R (.ok .next) s₁
   | some v=>wpAny (model prog w) A (letOwnedTupleGo target it v) (λ_ s₀=>wpAny (model prog w) A (assign target env v) (λ_ s₂ =>
     wpAny (model prog w) A (forIn ifs true λc r=>if r=true then do let ok ← isTrue c env (eval c env);pure (ForInStep.yield ok) else pure (ForInStep.yield r)) (λok s₃ =>
      if ok=true then wpAny (model prog w) A (eval elt env) (λx s₄ =>
       wpAny (model prog w) A (call (.builtin "list.append") [acc,x]) (λ_ s₅=>∃m,m<n/\I m s₅) (notedBy (model prog w) A env λe s'=>R (.error e) s') s₄) (notedBy (model prog w) A env λe s'=>R (.error e) s') s₃
      else ∃m,m<n/\I m s₃) (notedBy (model prog w) A env λe s'=>R (.error e) s') s₂) (notedBy (model prog w) A env λe s'=>R (.error e) s') s₀) (notedBy (model prog w) A env λe s'=>R (.error e) s') s₁) (notedBy (model prog w) A env λe s'=>R (.error e) s') s)
  (n:Nat) (h:I n s):codeAny (model prog w) A (.compLoop (.ListComp elt [⟨target,iter,ifs,0⟩] scope pos) 0 it acc env) R s:=by
 refine codeAny_loop rfl I (λn s hI=>?_) n h
 show wpAny _ A ((compTurn (.ListComp elt [⟨target,iter,ifs,0⟩] scope pos) 0 it acc env).onRaise (λx=>do noteFrame x env;theTreesLotGoes x)) _ _ s
 refine wpAny_noted ?_
 rw [compTurn_list]
 refine wpAny_bind (wpAny_standAt (wpAny_bind (wpAny_mono (turn n s hI) (λr s₁ h₁=>?_) λ_ _ h'=>h')))
 cases r with
 | none=>exact wpAny_pure h₁
 | some v =>
  refine wpAny_bind (wpAny_mono h₁ (λ_ s₀ h₀=>?_) λ_ _ h'=>h')
  refine wpAny_bind (wpAny_mono h₀ (λ_ s₂ h₂=>wpAny_bind (wpAny_mono h₂ (λok s₃ h₃=>?_) λ_ _ h'=>h')) λ_ _ h'=>h')
  cases ok with
  | false=>exact wpAny_pure ⟨rfl,h₃⟩
  | true =>
   exact wpAny_bind (wpAny_bind (wpAny_mono h₃ (λx s₄ h₄=>wpAny_bind (wpAny_mono h₄ (λ_ s₅ h₅=>wpAny_pure (wpAny_pure ⟨rfl,h₅⟩)) λ_ _ h'=>h')) λ_ _ h'=>h'))
def bN2 (N:List Str) (ts:List Str) (ix:List Nat):List Str:=ts++ix.map λi=>N.getD i Str.empty
def bS2 (σ:St) (o:List (Option V)) (ix:List Nat):St:=o++ix.map λi=>(σ[i]?).getD none
theorem Qkv {ix:List Nat} {RR:Value->PySem.Env->Result->Shared->Prop} {Px:Hp->Shared->Value->Shared->Prop}
  (I:Inv X pins σ H s) (hc:X.calm=true) (B:BlkScope X.env scope x) (h1:∀y c,cl.lookup y=some c->X.env.cells.lookup y=some c) (h3:∀y∈scope.names,y.2=.free->∃c,cl.lookup y.1=some c)
  (hix:∀i∈ix,∃y,X.N[i]? = some y/\scope.names.lookup y=some .free) (hN:(bN2 X.N ts ix).Nodup)
  (T:Turn X.prog X.w X.K tg J fp it tn) (st:tn 0 s.heap) (hf:∀b∈fp,FpOk X pins H b)
  (hg:∀cl C s₀ H₀ fp,PG (cxBlk X scope cl C (bN2 X.N ts ix) s₀ H₀ fp) tg gt)
  (he:∀cl C s₀ H₀ fp xe,(∀pins σ' H s e s',Inv (cxBlk X scope cl C (bN2 X.N ts ix) s₀ H₀ fp) pins σ' H s->Px H s e s'->xe e s')->PE ((cxBlk X scope cl C (bN2 X.N ts ix) s₀ H₀ fp).wish xe) elt te)
  (hi:∀cl C s₀ H₀ fp,PIfs (cxBlk X scope cl C (bN2 X.N ts ix) s₀ H₀ fp) ifs tt)
  (W:Nat->Nat->List V->Hp->Prop) (m₀:Nat) (w0:W 0 m₀ [] H)
  (turn:∀i m ys H,W i m ys H->(J.stop i H/\ys.length<=sizeLine/\G ys H)\/(J.go i H/\ys.length<sizeLine/\∀v H',J.yld i H v H'->∀o:List (Option V),o.length=ts.length->gt v (bS2 σ o ix) H' λσ2 H2=>∃o2:List (Option V),σ2=bS2 σ o2 ix/\o2.length=ts.length /\
    tt σ2 H2 λb H1=>if b=true then te σ2 H1 λy H2=>∃m',m' < m/\W (i+1) m' (ys++[y]) H2 else ∃m',m' < m/\W (i+1) m' ys H1))
  (hRR:∀D C cenv s' ys H',cenv.locals=C->Inv X pins σ (upd H' D (.lst ys)) s'->H' D=none->H' C=none->(∃m,s'.heap.Ns C m)->s.heap.objs.size<=C->D≠C->G ys H'->RR (.ref D) cenv (.ok .next) s')
  (hXX:∀D C cenv s' H' e s'',cenv.locals=C->cenv.frame=X.env.frame->Inv X pins σ H' s'->H' C=none->(∃m,s'.heap.Ns C m)->s.heap.objs.size<=C->C∉frs X.stack->Px H' s' e s''->notedBy (model X.prog X.w) X.A (compEnvC scope cl C X.env) (λe s'=>RR (.ref D) cenv (.error e) s') e s'') :
  wpAny (model X.prog X.w) X.A (newList []) (λacc s₃=>wpAny (model X.prog X.w) X.A (newFunctionEnv scope X.env.globals cl [] X.env.qual none .none (some X.env)) (λcenv s₄ =>
   codeAny (model X.prog X.w) X.A (.compStart (.ListComp elt [⟨tg,iter,ifs,0⟩] scope pos) 0 (.ref it) acc { cenv with scope:=relabel scope X.env }) (RR acc { cenv with scope:=relabel scope X.env }) s₄) E s₃) E s:=by
 have hl:∀b∈fp,b<s.heap.objs.size:=λb hb=>by obtain ⟨o,e,_⟩:=T.obj 0 _ st b hb;exact Heap.lt_size e
 refine wpAny_newObj_type (wpAny_newFunctionEnv B.cells (by intro y hy;simp at hy) (λh₁ hns₁ hsb₁=>?_) B.kind)
 dsimp only at hns₁ hsb₁ ⊢
 generalize hH2:s.heap.push { cls:=.type "list",dict:=none,data:=.seq ([]:List Value).toArray }=H2 at hns₁ hsb₁ ⊢
 have hC:H2.objs.size=s.heap.objs.size+1:=by rw [← hH2,Heap.size_push]
 generalize hD:s.heap.objs.size=D at hC hl hRR hXX ⊢
 generalize hCC:H2.objs.size=C at hC hns₁ hsb₁ ⊢
 have hDC:D≠C:=by omega
 have old:∀b o,s.heap.get? b=some o->h₁.get? b=some o:=λb o e=>hsb₁.extBut b o (Nat.ne_of_lt (by have z:=Heap.lt_size e;rw [hD] at z;exact Nat.lt_of_lt_of_le z (by rw [hC];exact Nat.le_succ _))) (Heap.get?_push_of_some _ (hH2 ▸ Heap.get?_push_of_some _ e))
 have hacc:h₁.get? D=some { cls:=.type "list",data:=.seq ([]:List Value).toArray 0 }:=hsb₁.extBut _ _ hDC (Heap.get?_push_of_some _ (hH2 ▸ (by rw [← hD];exact Heap.get?_push_size _ rfl)))
 have hfr:∀a,D<=a->s.heap.get? a=none:=λa ha=>by
  cases e:s.heap.get? a with
  | none=>rfl
  | some o=>exact absurd (Heap.lt_size e) (by rw [hD];exact Nat.not_lt.mpr ha)
 have hHn:∀a,D<=a->H a=none:=λa ha=>I.hok.fresh (by omega)
 have ok:(cxBlk X scope cl C (bN2 X.N ts ix) s H fp).Ok:=Qto I B h1 h3 (by omega) hf (by rw [hD];exact hl)
 generalize hK:cxBlk X scope cl C (bN2 X.N ts ix) s H fp=K at ok
 have kp:K.prog=X.prog:=by rw [← hK];rfl
 have kw:K.w=X.w:=by rw [← hK];rfl
 have kK:K.K=X.K:=by rw [← hK];rfl
 have kA:K.A=X.A:=by rw [← hK];rfl
 have kc:K.calm=true:=by rw [← hK];exact hc
 have kN:K.N=bN2 X.N ts ix:=by rw [← hK];rfl
 have kenv:K.env=compEnvC scope cl C X.env:=by rw [← hK];rfl
 have kloc:K.env.locals=C:=by rw [← hK];rfl
 have kfs:K.fs=frs X.stack:=by rw [← hK];rfl
 have kex:K.ex=fp:=by rw [← hK];rfl
 have kpn:K.pn=[]:=by rw [← hK];rfl
 have ks:K.s₀=s:=by rw [← hK];rfl
 have kH:K.H₀=H:=by rw [← hK];rfl
 have kx:K.xe=λ_ _=>False:=by rw [← hK];rfl
 have kcl:K.env.cells=cl:=by rw [← hK];rfl
 have cellLt:∀y c,cl.lookup y=some c->c<D:=λy c q=>by obtain ⟨v,z⟩:=I.cell y c (h1 y c q);rw [← hD];exact z.lt
 have stkLt:∀b∈frs X.stack,b<D:=λb hb=>by
  rcases List.mem_cons.mp (I.stkSub b hb) with q | q
  ·rw [q,← hD];exact I.lt
  ·rcases Nat.lt_or_ge b D with z | z
   ·exact z
   ·exact absurd q (I.nofs (by omega))
 -- the state at the block's begin
 have I0:∀tk,Inv K [(D,{ cls:=.type "list",data:=.seq ([]:List Value).toArray 0 })] (bS2 σ (ts.map λ_=>none) ix) H { s with heap:=h₁,toks:=tk }:=λtk=>by
  refine ⟨ok,by rw [ks],I.bare,by rw [ks,kH];exact Un.kept old,?_,?_,?_,?_,?_,by rw [kp,kw];exact I.hok.kept old,?_⟩
  ·refine ⟨_,by rw [kloc];exact hns₁,λi y v e1 e2 e3=>?_⟩
   rw [kN] at e1
   by_cases hlt:i<ts.length
   ·unfold bS2 at e2
    rw [List.getElem?_append_left (by simpa using hlt),List.getElem?_map] at e2
    cases hts:ts[i]? with
    | none=>rw [hts] at e2;cases e2
    | some y'=>rw [hts] at e2;have e2:(some (none:Option V))=some (some v):=e2;cases e2
   ·obtain ⟨i,rfl⟩:∃i',i=ts.length+i':=⟨i-ts.length,by omega⟩
    have e1':(ix.map λi=>X.N.getD i Str.empty)[i]? = some y:=by
     unfold bN2 at e1
     rw [List.getElem?_append_right (by omega),show ts.length+i-ts.length=i by omega] at e1
     exact e1
    have e2':(ix.map λi=>(σ[i]?).getD none)[i]? = some (some v):=by
     unfold bS2 at e2
     rw [List.getElem?_append_right (by rw [List.length_map];omega),List.length_map,show ts.length+i-ts.length=i by omega] at e2
     exact e2
    rw [List.getElem?_map] at e1' e2'
    cases q:ix[i]? with
    | none=>rw [q] at e1';cases e1'
    | some j =>
     rw [q] at e1' e2'
     obtain ⟨y',a1,a2⟩:=hix j (List.mem_of_getElem? q)
     have a3:X.N.getD j Str.empty=y':=by simp [List.getD,a1]
     have ey:y'=y:=by rw [← a3];exact Option.some.inj e1'
     subst ey
     have es:σ[j]? = some (some v):=by
      have z:(σ[j]?).getD none=some v:=Option.some.inj e2'
      cases w:σ[j]? with
      | none=>rw [w] at z;cases z
      | some o=>rw [w] at z;have z':o=some v:=z;rw [z']
     obtain ⟨m,hn,hlk⟩:=I.loc
     have hk:=B.free (y',.free) (PySem.mem_of_lookup a2) rfl
     have hk:X.env.kindOf y'=some .cell\/X.env.kindOf y'=some .free:=hk
     have vis:Vis X.env.scope y':=hk.elim (λz=>.inr (.inl z)) λz=>.inr (.inr z)
     obtain ⟨u,ru,lk⟩:=hlk j y' v a1 es vis
     refine ⟨u,ru,?_⟩
     rcases lk with ⟨k,_⟩ | ⟨_,c,ec,ce⟩
     ·rcases hk with z | z <;> (rw [k] at z;cases z)
     ·obtain ⟨c',ec'⟩:=h3 (y',.free) (PySem.mem_of_lookup a2) rfl
      have ec':cl.lookup y'=some c':=ec'
      have:c'=c:=Option.some.inj ((h1 y' c' ec').symm.trans ec)
      subst this
      refine .inr ⟨?_,c',by rw [kcl];exact ec',?_⟩
      ·show K.env.scope.names.lookup y'=_\/K.env.scope.names.lookup y'=_
       rw [kenv]
       exact Yc a2
      ·obtain ⟨oc,hoc,r⟩:=ce
       exact ⟨oc,old _ _ hoc,r⟩
  ·intro y c q
   rw [kcl] at q
   obtain ⟨v,oc,hoc,r⟩:=I.cell y c (h1 y c q)
   exact ⟨v,oc,old _ _ hoc,r⟩
  ·rw [kloc];exact hHn _ (by omega)
  ·intro y c q
   rw [kcl] at q
   exact I.freeC y c (h1 y c q)
  ·intro p hp
   rw [kpn] at hp
   have e:p=(D,{ cls:=.type "list",data:=.seq ([]:List Value).toArray 0 }):=by simpa using hp
   subst e
   refine ⟨hacc,hHn _ (Nat.le_refl _),by rw [kloc];exact hDC,?_,λv z=>?_⟩
   ·rw [kfs];intro z;exact absurd (stkLt D z) (Nat.lt_irrefl _)
   ·have z':Data.seq _ _=Data.cell v:=z
    cases z'
  ·rw [kN];simp [bS2,bN2]
 have stat:∀{H':Hp} {ob:Obj},(∀b∈fp,H' b=none)->∀b∈fp,FpOk K [(D,ob)] H' b:=λ{H' ob} hn b hb=>by
  refine ⟨hn b hb,?_,?_,.inl (by rw [kex];exact hb),?_,?_⟩
  ·rw [kloc];exact Nat.ne_of_lt (Nat.lt_of_lt_of_le (hl b hb) (by rw [hC];exact Nat.le_succ _))
  ·rw [kfs];intro z
   rcases List.mem_cons.mp (I.stkSub b z) with q | q
   ·exact (hf b hb).2.1 q
   ·exact (hf b hb).2.2.1 q
  ·intro y c q;rw [kcl] at q;exact (hf b hb).2.2.2.2.1 y c (h1 y c q)
  ·intro p hp;rw [kpn] at hp
   have e:p=(D,ob):=by simpa using hp
   subst e
   exact Nat.ne_of_gt (hl b hb)
 have st₁:tn 0 h₁:=T.keep _ _ _ st λb hb o e=>old b o e
 have loop:∀tk,codeAny (model X.prog X.w) X.A (.compLoop (.ListComp elt [⟨tg,iter,ifs,0⟩] scope pos) 0 (.ref it) (.ref D) (compEnvC scope cl C X.env)) (RR (.ref D) (compEnvC scope cl C X.env)) { s with heap:=h₁,toks:=tk }:=by
  intro tk
  refine Qbj (λn s'=>∃i o H' ys its c,o.length=ts.length/\Inv K [(D,{ cls:=.type "list",data:=.seq (its:List Value).toArray c })] (bS2 σ o ix) H' s'/\Vals ys its/\tn i s'.heap/\(∀b∈fp,H' b=none)/\W i n ys H') ?_ m₀
   ⟨0,ts.map (λ_=>none),H,[],[],0,by simp,I0 tk,.nil,st₁,λb hb=>(hf b hb).1,w0⟩
  rintro n s1 ⟨i,o,H1,ys,its,c,ol,I1,rv,t1,f1,w1⟩
  rcases turn i n ys H1 w1 with ⟨stop,hz,g⟩ | ⟨go,hz,step⟩
  ·have dn:=T.done K kp kw kK kc i _ s1 _ H1 (notedBy (model X.prog X.w) X.A (compEnvC scope cl C X.env) λe s'=>RR (.ref D) (compEnvC scope cl C X.env) (.error e) s') I1 (stat f1) t1 stop
   rw [kA] at dn
   refine thn dn λr s2 ⟨hr,I2⟩=>?_
   subst hr
   obtain ⟨p1,p2,p3,p4,p5⟩:=I2.pin (D,{ cls:=.type "list",data:=.seq its.toArray c }) (List.mem_append_right _ (List.mem_singleton.mpr rfl))
   have u2:=I2.base
   rw [kfs,kex,kH,ks] at u2
   refine hRR D C (compEnvC scope cl C X.env) s2 ys H1 rfl ?_ p2 (by rw [← kloc];exact I2.free) (by obtain ⟨m,hm,_⟩:=I2.loc;rw [kloc] at hm;exact ⟨m,hm⟩) (by omega) hDC g
   have hk2:HOk X.prog X.w H1 s2.heap:=by have:=I2.hok;rw [kp,kw] at this;exact this
   refine I.call' (ch:=fp) (by have:=I2.os;rw [ks] at this;exact this) (u2.add (hfr D (Nat.le_refl _)) (hHn D (Nat.le_refl _))) (hk2.add p2 ⟨hz,its,c,rv,p1⟩) I2.bare λb hb=>?_
   exact ⟨(hf b hb).2.2.2.1,(hf b hb).2.1,(hf b hb).2.2.2.2.1,(hf b hb).2.2.2.2.2⟩
  ·have im:=T.item K kp kw kK kc i _ s1 _ H1 (notedBy (model X.prog X.w) X.A (compEnvC scope cl C X.env) λe s'=>RR (.ref D) (compEnvC scope cl C X.env) (.error e) s') I1 (stat f1) t1 go
   rw [kA] at im
   refine thn im λr s2 ⟨u,hr,h2⟩=>?_
   subst hr
   refine thn h2 λ_ s3 ⟨v,H3,I3,r3,y3,t3,f3⟩=>?_
   have q3:=step v H3 y3 o ol
   have I3':=I3.pinned (stat f3) (T.obj _ _ t3)
   have hg':=hg cl C s H fp
   rw [hK] at hg'
   have hgv:=hg' _ s3 _ H3 v u _ I3' r3 q3
   rw [kx,kp,kw,kA,kenv] at hgv
   refine wpAny_mono hgv (λ_ s4 ⟨σ4,H4,I4,o4,e4,l4,q4⟩=>?_) λ_ _ z=>z.elim
   subst e4
   have hi':=hi cl C s H fp
   rw [hK] at hi'
   have hiv:=hi' _ s4 _ H4 _ I4 q4
   rw [kx,kp,kw,kA,kenv] at hiv
   refine wpAny_mono hiv (λok s5 ⟨H5,I5,q5⟩=>?_) λ_ _ z=>z.elim
   have back:∀{H7:Hp} {s7:Shared} {o7:List (Option V)},Inv K ([(D,{ cls:=.type "list",data:=.seq its.toArray c })]++Qaj fp s3.heap) (bS2 σ o7 ix) H7 s7->tn (i+1) s7.heap/\∀b∈fp,H7 b=none:=λ{H7 s7 o7} I7=>by
    refine ⟨T.keep _ _ _ t3 λb hb o e=>(I7.pin (b,o) (List.mem_append_right _ (List.mem_append_right _ (Zg hb e)))).1,λb hb=>?_⟩
    obtain ⟨ob,e,d⟩:=T.obj _ _ t3 b hb
    exact (I7.pin (b,ob) (List.mem_append_right _ (List.mem_append_right _ (Zg hb e)))).2.1
   cases ok with
   | false =>
    rw [if_neg Bool.false_ne_true]
    have q5:∃m',m' < n/\W (i+1) m' ys H5:=q5
    obtain ⟨m',hm,w5⟩:=q5
    obtain ⟨b1,b2⟩:=back I5
    exact ⟨m',hm,i+1,o4,H5,ys,its,c,l4,I5.unpinned,rv,b1,b2,w5⟩
   | true =>
    rw [if_pos rfl]
    have q5:te (bS2 σ o4 ix) H5 λy H2=>∃m',m' < n/\W (i+1) m' (ys++[y]) H2:=q5
    have hxe:∀pins' σ' H5 s5 e s',Inv K pins' σ' H5 s5->Px H5 s5 e s'->notedBy (model X.prog X.w) X.A (compEnvC scope cl C X.env) (λe s'=>RR (.ref D) (compEnvC scope cl C X.env) (.error e) s') e s':=by
     intro pins' σ' H5 s5 e s' J5 q
     have u5:=J5.base
     rw [kfs,kex,kH,ks] at u5
     refine hXX D C _ s5 H5 e s' rfl rfl ?_ (by rw [← kloc];exact J5.free) (by obtain ⟨m,hm,_⟩:=J5.loc;rw [kloc] at hm;exact ⟨m,hm⟩) (by omega) (λz=>Nat.lt_irrefl C (Nat.lt_trans (stkLt C z) (by omega))) q
     exact I.call' (ch:=fp) (by have:=J5.os;rw [ks] at this;exact this) u5 (by have:=J5.hok;rw [kp,kw] at this;exact this) J5.bare λb hb=>⟨(hf b hb).2.2.2.1,(hf b hb).2.1,(hf b hb).2.2.2.2.1,(hf b hb).2.2.2.2.2⟩
    have he':=he cl C s H fp _ (hK ▸ hxe)
    rw [hK] at he'
    have hev:=he' _ s5 _ H5 _ (I5.wish _) q5
    change wpAny (model K.prog K.w) K.A (eval elt K.env) _ _ s5 at hev
    rw [kp,kw,kA,kenv] at hev
    refine wpAny_mono hev (λy s6 ⟨yv,H6,I6,r6,m',hm,w6⟩=>?_) λ_ _ z=>z
    have I6:=I6.unwish
    obtain ⟨b1,b2⟩:=back I6
    have I6':=I6.unpinned
    obtain ⟨p1,p2,p3,p4,p5⟩:=I6'.pin (D,{ cls:=.type "list",data:=.seq its.toArray c }) (List.mem_append_right _ (List.mem_singleton.mpr rfl))
    have hlen:=rv.length
    refine call_meets F.slot_list_append ⟨_,p1,rfl⟩ F.entry_list_append (F.args_list_append_2 _ _) (PySem.list_append D its.toArray c y (by rw [List.size_toArray];omega)) ⟨p1,?_⟩
    have ea:its.toArray.push y=(its++[y]).toArray:=by simp
    obtain ⟨c',q⟩:∃c',(s6.heap.update D (Obj.mapSeq (·.push y))).get? D=some { cls:=.type "list",data:=.seq (its++[y]).toArray c' }:=⟨_,by rw [← ea];exact PySem.IsL.update p1 (·.push y)⟩
    refine ⟨m',hm,i+1,o4,H6,ys++[yv],its++[y],c',l4,?_,rv.append (.cons r6 .nil),T.keep _ _ _ b1 λb hb o e=>?_,b2,w6⟩
    ·have Id:Inv K [] (bS2 σ o4 ix) H6 s6:=I6'.pins_of λp hp=>by simp at hp
     have It:Inv K [] (bS2 σ o4 ix) H6 { s6 with heap:=s6.heap.update D (Obj.mapSeq (·.push y)) }:=Id.turned (t':=s6.toks) (it:=D) (λb o hb e=>(Heap.get?_update_other _ _ (Ne.symm hb)).trans e) p2 p3
      (.inr (by rw [ks];omega)) (λy' c' e=>by rw [kcl] at e;exact Nat.ne_of_lt (cellLt y' c' e)) (λp hp=>by rw [kpn] at hp;simp at hp)
     refine It.pins_of λp hp=>?_
     obtain rfl:p=(D,{ cls:=.type "list",data:=.seq (its++[y]).toArray c' }):=by simpa using hp
     refine ⟨q,p2,p3,p4,λv z=>?_⟩
     have z':Data.seq _ _=Data.cell v:=z
     cases z'
    ·exact (Heap.get?_update_other _ _ (Nat.ne_of_gt (hl b hb))).trans e
 have selfs:wpAny (model X.prog X.w) X.A (pyIter (.ref it)) (λit' s'=>codeAny (model X.prog X.w) X.A (.compLoop (.ListComp elt [⟨tg,iter,ifs,0⟩] scope pos) 0 it' (.ref D) (compEnvC scope cl C X.env)) (RR (.ref D) (compEnvC scope cl C X.env)) s')
   (notedBy (model X.prog X.w) X.A (compEnvC scope cl C X.env) λe s'=>RR (.ref D) (compEnvC scope cl C X.env) (.error e) s') { s with heap:=h₁,toks:=s.toks+([]:List (Str × Value)).length }:=T.self X.A 0 _ _ _ st₁ (loop _)
 exact codeAny_compStart_list (loop _) selfs
theorem Qa7 {ix:List Nat}
  (I:Inv X pins σ H s) (hc:X.calm=true) (B:BlkScope X.env scope x) (h1:∀y c,cl.lookup y=some c->X.env.cells.lookup y=some c) (h3:∀y∈scope.names,y.2=.free->∃c,cl.lookup y.1=some c)
  (hix:∀i∈ix,∃y,X.N[i]? = some y/\scope.names.lookup y=some .free) (hN:(bN2 X.N ts ix).Nodup)
  (T:Turn X.prog X.w X.K tg J fp it tn) (st:tn 0 s.heap) (hf:∀b∈fp,FpOk X pins H b)
  (hg:∀cl C s₀ H₀ fp,PG (cxBlk X scope cl C (bN2 X.N ts ix) s₀ H₀ fp) tg gt)
  (he:∀cl C s₀ H₀ fp,PE (cxBlk X scope cl C (bN2 X.N ts ix) s₀ H₀ fp) elt te)
  (hi:∀cl C s₀ H₀ fp,PIfs (cxBlk X scope cl C (bN2 X.N ts ix) s₀ H₀ fp) ifs tt)
  (W:Nat->Nat->List V->Hp->Prop) (m₀:Nat) (w0:W 0 m₀ [] H)
  (turn:∀i m ys H,W i m ys H->(J.stop i H/\ys.length<=sizeLine/\G ys H)\/(J.go i H/\ys.length<sizeLine/\∀v H',J.yld i H v H'->∀o:List (Option V),o.length=ts.length->gt v (bS2 σ o ix) H' λσ2 H2=>∃o2:List (Option V),σ2=bS2 σ o2 ix/\o2.length=ts.length /\
    tt σ2 H2 λb H1=>if b=true then te σ2 H1 λy H2=>∃m',m' < m/\W (i+1) m' (ys++[y]) H2 else ∃m',m' < m/\W (i+1) m' ys H1))
  (hRR:∀D C s' ys H',Inv X pins σ (upd H' D (.lst ys)) s'->H' D=none->H' C=none->(∃m,s'.heap.Ns C m)->s.heap.objs.size<=C->D≠C->G ys H'->RR (.ref D) C (.ok .next) s') :
  wpAny (model X.prog X.w) X.A (newList []) (λacc s₃=>wpAny (model X.prog X.w) X.A (newFunctionEnv scope X.env.globals cl [] X.env.qual none .none (some X.env)) (λcenv s₄ =>
   codeAny (model X.prog X.w) X.A (.compStart (.ListComp elt [⟨tg,iter,ifs,0⟩] scope pos) 0 (.ref it) acc { cenv with scope:=relabel scope X.env }) (RR acc cenv.locals) s₄) E s₃) E s :=
 Qkv (RR:=λacc cenv r s=>RR acc cenv.locals r s) (Px:=λ_ _ _ _=>False) I hc B h1 h3 hix hN T st hf hg (λcl C s₀ H₀ fp xe _=>PE.nox (he cl C s₀ H₀ fp)) hi W m₀ w0 turn (λD C cenv s' ys H' e=>by subst e;exact hRR _ _ _ _ _) λ_ _ _ _ _ _ _ _ _ _ _ _ _ _ z=>z.elim
theorem Qnj {ix:List Nat}
  (I:Inv X pins σ H s) (hc:X.calm=true) (B:BlkScope X.env scope x) (h1:∀y c,cl.lookup y=some c->X.env.cells.lookup y=some c) (h3:∀y∈scope.names,y.2=.free->∃c,cl.lookup y.1=some c)
  (hix:∀i∈ix,∃y,X.N[i]? = some y/\scope.names.lookup y=some .free) (hN:(bN X.N x ix).Nodup)
  (T:Turn X.prog X.w X.K (.Name x px) J fp it tn) (st:tn 0 s.heap) (hf:∀b∈fp,FpOk X pins H b)
  (he:∀cl C s₀ H₀ fp,PE (cxBlk X scope cl C (bN X.N x ix) s₀ H₀ fp) elt te)
  (hi:∀cl C s₀ H₀ fp,PIfs (cxBlk X scope cl C (bN X.N x ix) s₀ H₀ fp) ifs tt)
  (W:Nat->Nat->List V->Hp->Prop) (m₀:Nat) (w0:W 0 m₀ [] H)
  (turn:∀i m ys H,W i m ys H->(J.stop i H/\ys.length<=sizeLine/\G ys H)\/(J.go i H/\ys.length<sizeLine/\∀v H',J.yld i H v H' ->
    tt (bS σ (some v) ix) H' λb H1=>if b=true then te (bS σ (some v) ix) H1 λy H2=>∃m',m' < m/\W (i+1) m' (ys++[y]) H2 else ∃m',m' < m/\W (i+1) m' ys H1))
  (hRR:∀D C s' ys H',Inv X pins σ (upd H' D (.lst ys)) s'->H' D=none->H' C=none->(∃m,s'.heap.Ns C m)->s.heap.objs.size<=C->D≠C->G ys H'->RR (.ref D) C (.ok .next) s') :
  wpAny (model X.prog X.w) X.A (newList []) (λacc s₃=>wpAny (model X.prog X.w) X.A (newFunctionEnv scope X.env.globals cl [] X.env.qual none .none (some X.env)) (λcenv s₄ =>
   codeAny (model X.prog X.w) X.A (.compStart (.ListComp elt [⟨.Name x px,iter,ifs,0⟩] scope pos) 0 (.ref it) acc { cenv with scope:=relabel scope X.env }) (RR acc cenv.locals) s₄) E s₃) E s :=
 Qa7 (ts:=[x]) (gt:=V1 0) I hc B h1 h3 hix hN T st hf (λcl C s₀ H₀ fp=>Ua hN rfl (.inl (lookup_relabel_local B.lx)) (.inr (lookup_relabel_local B.lx))) he hi W m₀ w0 (λi m ys H hw=>(turn i m ys H hw).imp id λ⟨a,b,c⟩=>⟨a,b,λv H' hy o ho=>by
  match o,ho with
  | [o],_=>exact ⟨[some v],rfl,rfl,c v H' hy⟩⟩) hRR
def Qoy (wi:TI) (tt:TT) (te:TE) (ix:List Nat):TE:=λσ H Q=>wi σ H λJ H1=>∃(W:Nat->Nat->List V->Hp->Prop) (m₀:Nat),W 0 m₀ [] H1 /\
 ∀i m ys H,W i m ys H->(J.stop i H/\ys.length<=sizeLine/\∀l,H l=none->Q (.ref l) (upd H l (.lst ys)))\/(J.go i H/\ys.length<sizeLine/\∀v H',J.yld i H v H' ->
  tt (bS σ (some v) ix) H' λb H1=>if b=true then te (bS σ (some v) ix) H1 λy H2=>∃m',m' < m/\W (i+1) m' (ys++[y]) H2 else ∃m',m' < m/\W (i+1) m' ys H1)
theorem Qc0 (I:Inv X pins σ H s) (B:BlkScope X.env scope x):∀y∈scope.names,y.2=.free->∃c,X.env.cells.lookup y.1=some c :=
 λy hy hf=>I.ok.has y.1 (B.free y hy hf)
theorem Inv.blkGone {s₀:Shared} {H₀:Hp} {σ₀:St} (I₀:Inv X pins σ₀ H₀ s₀) (I:Inv X pins σ H s) (hC:s₀.heap.objs.size<=C) (hn:H C=none) (hs:Heap.SameBut C s.heap h'):Inv X pins σ H { s with heap:=h' } :=
 I.turned (t':=s.toks) (it:=C) (λb o hb e=>(hs.2 b hb).trans e) hn (Nat.ne_of_gt (Nat.lt_of_lt_of_le I₀.lt hC)) (.inr (Nat.le_trans I₀.sz hC))
  (λx c e=>by obtain ⟨v,z⟩:=I₀.cell x c e;exact Nat.ne_of_lt (Nat.lt_of_lt_of_le z.lt hC)) (λp hp=>Nat.ne_of_lt (Nat.lt_of_lt_of_le (Heap.lt_size (I₀.pin p hp).1) hC))
theorem Qpu (ix:List Nat) (hc:X.calm=true) (B:BlkScope X.env scope x)
  (hix:∀i∈ix,∃y,X.N[i]? = some y/\scope.names.lookup y=some .free) (hN:(bN X.N x ix).Nodup) (hi:PI X (.Name x px) iter wi)
  (ht:∀cl C s₀ H₀ fp,PIfs (cxBlk X scope cl C (bN X.N x ix) s₀ H₀ fp) ifs tt)
  (he:∀cl C s₀ H₀ fp,PE (cxBlk X scope cl C (bN X.N x ix) s₀ H₀ fp) elt te)
  (hs:∀x,foldedSetIterable iter X.env x=pure x:=by intro _;rfl) :
  PE X (.ListComp elt [⟨.Name x px,iter,ifs,0⟩] scope pos) (Qoy wi tt te ix):=by
 intro pins s σ H Q I h
 obtain ⟨cl,hcl,h1,h3⟩:=Vw (Qc0 I B)
 rw [eval_ListComp]
 refine wpAny_comprehension_free (use:=none) rfl hs hcl B.kind B.names (thn (hi pins s σ H _ I h) λv s1 h1'=>thn h1' λitv s2 h2=>?_)
 obtain ⟨it,fp,tn,J,H2,e,I2,T,st2,f2,W,m0,w0,turn⟩:=h2
 subst e
 refine Qnj (G:=λys H'=>∀l,H' l=none->Q (.ref l) (upd H' l (.lst ys))) I2 hc B h1 h3 hix hN T st2 f2 he ht W m0 w0 turn λD C s' ys H' I' hD hC hm hCs hDC g=>?_
 obtain ⟨m,hm⟩:=hm
 refine ⟨m,hm,λh' hsb=>⟨.ref D,upd H' D (.lst ys),I2.blkGone I' hCs (by rw [Qq (Ne.symm hDC)];exact hC) hsb,rfl,g D hD⟩⟩
theorem Inv.turnNew {T:Addr} (I:Inv X pins σ H s) (hT:s.heap.objs.size<=T)
  (k:∀b u,b∉ch->s.heap.get? b=some u->h'.get? b=some u) (hch:∀b∈ch,FpOk X pins H b) (new:J4 X.prog X.w (upd H T o) h' T o):Inv X pins σ (upd H T o) { s with heap:=h',toks:=t' }:=by
 have hn:H T=none:=I.hok.fresh hT
 have hg:s.heap.get? T=none:=by
  cases e:s.heap.get? T with
  | none=>rfl
  | some u=>exact absurd (Heap.lt_size e) (Nat.not_lt.mpr hT)
 have u:Un (frs X.stack) ch H H s.heap h':=⟨λb q e _ _ hx=>k b q hx e,λb q e _ _ hx=>⟨q.slots,k b q hx e⟩,λb q e n _=>n,λb q e hx=>⟨q,k b q hx e⟩,λ_ _ e=>e,λ_ _ _ e=>e,λb ps e=>⟨#[],by rw [Array.append_empty];exact e⟩⟩
 have hok:HOk X.prog X.w H h':=λb q e=>(I.hok b q e).stay (λc v hc z=>k c v (λm=>by
  have q1:=(hch c m).1
  rcases hc with rfl | hc
  ·rw [q1] at e;cases e
  ·rw [q1] at hc;cases hc) z) (λ_ z=>z) λ_ _ z=>z
 exact I.call' (s':={ s with heap:=h',toks:=t' }) rfl (u.add hg hn) (hok.add hn new) I.bare λb hb=>⟨(hch b hb).2.2.2.1,(hch b hb).2.1,(hch b hb).2.2.2.2.1,(hch b hb).2.2.2.2.2⟩
theorem Inv.turnAll (I:Inv X pins σ H s)
  (k:∀b u,b∉ch->s.heap.get? b=some u->h'.get? b=some u) (hch:∀b∈ch,FpOk X pins H b):Inv X pins σ H { s with heap:=h',toks:=t' }:=by
 have u:Un (frs X.stack) ch H H s.heap h':=⟨λb q e _ _ hx=>k b q hx e,λb q e _ _ hx=>⟨q.slots,k b q hx e⟩,λb q e n _=>n,λb q e hx=>⟨q,k b q hx e⟩,λ_ _ e=>e,λ_ _ _ e=>e,λb ps e=>⟨#[],by rw [Array.append_empty];exact e⟩⟩
 have hok:HOk X.prog X.w H h':=λb q e=>(I.hok b q e).stay (λc v hc z=>k c v (λm=>by
  have q1:=(hch c m).1
  rcases hc with rfl | hc
  ·rw [q1] at e;cases e
  ·rw [q1] at hc;cases hc) z) (λ_ z=>z) λ_ _ z=>z
 exact I.call' (s':={ s with heap:=h',toks:=t' }) rfl u hok I.bare λb hb=>⟨(hch b hb).2.2.2.1,(hch b hb).2.1,(hch b hb).2.2.2.2.1,(hch b hb).2.2.2.2.2⟩
theorem Qou {x:Value} (hit:s.heap.IsTupleIter it t i) (ht:s.heap.IsTuple t items) (hx:items[i]? = some x)
  (hQ:∀h',h'.IsTupleIter it t (i+1)->Heap.SameBut it s.heap h'->Q x { s with heap:=h' }):wpAny (model prog w) A (Builtin.SmallTypes.nextOf (.ref it)) Q E s:=by
 obtain ⟨o,ho,hc,hd⟩:=id hit
 obtain ⟨ol,hol,_,nl,hdl⟩:=ht
 unfold Builtin.SmallTypes.nextOf
 refine wpAny_bind (wpAny_callSpecial?_slot (name:=Str.ofString "__next__") hit.typeIs F.slot_tuple_iterator_next (wpAny_call_entry F.slot_tuple_iterator_next hit.typeIs F.entry_tuple_iterator_next ?_ (F.args_tuple_iterator_next_1 _)))
 show wpAny _ _ (field (.ref it) 0 >>= _) _ _ s;refine wpAny_bind (wpAny_field ho hd (x:=.ref t) rfl ?_)
 show wpAny _ _ (if (Value.ref t == Value.none)=true then _ else _) _ _ s;rw [if_neg (show ¬((Value.ref t == Value.none)=true) from Bool.false_ne_true)]
 show wpAny _ _ (field (.ref it) 1 >>= _) _ _ s;refine wpAny_bind (wpAny_field ho hd (x:=.int i 0) rfl ?_)
 show wpAny _ _ (seqItems? (.ref t) >>= _) _ _ s;refine wpAny_bind (wpAny_seqItems hol hdl ?_)
 simp only [Int.toNat_natCast,hx]
 refine wpAny_bind (wpAny_setField ho hd (by simp) (wpAny_pure ⟨x,rfl,wpAny_pure (hQ _ ⟨_,Heap.get?_update_self _ ho (Obj.isFreed_of_fields (Obj.data_mapFields hd _)),(Obj.cls_mapFields ..).trans hc,by rw [Obj.data_mapFields hd];simp [rawInt]⟩ (Heap.SameBut.update ..))⟩))
theorem Qnt (hh:A.handled=none) (hit:s.heap.IsTupleIter it t i) (ht:s.heap.IsTuple t items) (hx:items[i]? = none)
  (hE:∀h' e,Heap.ExtBut it s.heap h'->(∃o,h'.get? e=some o/\o.cls=.type "StopIteration")->E (.ref e) { s with heap:=h' }):wpAny (model prog w) A (Builtin.SmallTypes.nextOf (.ref it)) Q E s:=by
 obtain ⟨o,ho,hc,hd⟩:=id hit
 obtain ⟨ol,hol,_,nl,hdl⟩:=ht
 unfold Builtin.SmallTypes.nextOf
 refine wpAny_bind (wpAny_callSpecial?_slot (name:=Str.ofString "__next__") hit.typeIs F.slot_tuple_iterator_next (wpAny_call_entry F.slot_tuple_iterator_next hit.typeIs F.entry_tuple_iterator_next ?_ (F.args_tuple_iterator_next_1 _)))
 show wpAny _ _ (field (.ref it) 0 >>= _) _ _ s;refine wpAny_bind (wpAny_field ho hd (x:=.ref t) rfl ?_)
 show wpAny _ _ (if (Value.ref t == Value.none)=true then _ else _) _ _ s;rw [if_neg (show ¬((Value.ref t == Value.none)=true) from Bool.false_ne_true)]
 show wpAny _ _ (field (.ref it) 1 >>= _) _ _ s;refine wpAny_bind (wpAny_field ho hd (x:=.int i 0) rfl ?_)
 show wpAny _ _ (seqItems? (.ref t) >>= _) _ _ s;refine wpAny_bind (wpAny_seqItems hol hdl ?_)
 simp only [Int.toNat_natCast,hx]
 refine wpAny_bind (wpAny_rule (wpAny_bind (wpAny_setField ho hd (by simp) ?_)))
 show wpAny _ _ (newExc (.type "StopIteration") [] >>= _) _ _ _;refine wpAny_bind ?_
 simp only [newExc,newTuple]
 refine wpAny_bind (wpAny_newObj_type ?_ (by size_fits));refine wpAny_bind (m:=firstArgMember _ _) (wpAny_of_eq (a:=Value.none) (by first | rfl | (simp only [firstArgMember];rfl)) ?_)
 refine wpAny_newObj_type ?_ (by size_fits);simp only [raiseNew]
 refine wpAny_bind (wpAny_handled ?_)
 first | rw [show A.in1.handled=none from hh] | rw [hh]
 refine wpAny_bind (wpAny_pure (wpAny_throw (hE _ _ (((Heap.SameBut.update ..).extBut.push _).push _) ⟨_,Heap.get?_push_size _ rfl,rfl⟩)))
theorem Qnc (hh:A.handled=none) (it t:Addr) (hne:t≠it) (items:Array Value) :
  Draws prog w A it [it,t] items.size (λi v=>items[i]? = some v) (λi h=>h.IsTupleIter it t i/\h.IsTuple t items) where
 live:=λ_ _ st=>let ⟨o,ho,_⟩:=st.1;⟨o,ho⟩
 frame:=λ_ _ _ st hk=>⟨st.1.at λo e=>hk it (by simp) o e,let ⟨o,ho,r⟩:=st.2;⟨o,hk t (by simp) o ho,r⟩⟩
 item:=λi s Q E hi st hQ=>Qou st.1 st.2 (x:=items[i]) (by simp [hi]) λh' hit' hs'=>hQ _ h' s.toks (by simp [hi]) ⟨hit',st.2.extBut hs'.extBut hne⟩ hs'
 done:=λs Q E st hE=>Qnt hh st.1 st.2 (by simp) hE
open AutoSeq1 (wpAny_loadPart') in
theorem Qm9 (l:Addr) (items:Array Value) (n:Nat) (dct:Option Addr) (sl:Array (Option Value)) :
  Meets (Builtin.«enumerate.__new__» ⟨[.type "enumerate",.ref l],[]⟩) (λ_ R s=>s.heap.get? l=some { cls:=.type "tuple",dict:=dct,data:=.seq items n,slots:=sl } /\
   R (.ok (.ret (.ref (s.heap.push { cls:=.type "tuple_iterator",data:=.fields #[.ref l,.int 0 0] }).objs.size)))
    { s with heap:=(s.heap.push { cls:=.type "tuple_iterator",data:=.fields #[.ref l,.int 0 0] }).push { cls:=.type "enumerate",data:=.fields #[.none,.bool false,.ref s.heap.objs.size,rawInt 0,.none,.none] } }) :=
 .of_wp λprog w A R s h=>by
  obtain ⟨hp,g,d,tk,os⟩:=s;obtain ⟨hl,h⟩:=h
  have hsub:=sub_enumerate
  have hL:Heap.IsTuple (Shared.heap ⟨hp,g,d,tk,os⟩) l items:=⟨_,hl,rfl,n,rfl⟩
  wp_walk using wpAny_loadPart' hl
  refine wpAny_stack_any λst=>wpAny_pure ?_
  split
  ·rename_i c _ _ _ _ _
   cases (c == Value.type "enumerate")
   ·wp_walk using wpAny_loadPart' hl,wpAny_pyIter_tuple hL
    exact ⟨_,rfl,h⟩
   ·wp_walk using wpAny_loadPart' hl,wpAny_pyIter_tuple hL
    exact ⟨_,rfl,h⟩
  ·wp_walk using wpAny_loadPart' hl,wpAny_pyIter_tuple hL
   exact ⟨_,rfl,h⟩
theorem Qk5 {l:Addr} (hL:s.heap.IsTuple l items)
  (h:∀h',IsEnum h' (s.heap.objs.size+1) s.heap.objs.size 0 .none->h'.IsTupleIter s.heap.objs.size l 0->h'.objs.size=s.heap.objs.size+2->(∀b o,s.heap.get? b=some o->h'.get? b=some o)->Q (.ref (s.heap.objs.size+1)) { s with heap:=h' }) :
  wpAny (model prog w) A (call (.type "enumerate") [.ref l]) Q E s:=by
 obtain ⟨⟨c,dct,dt,sl⟩,hl,hc,n,hd⟩:=hL
 obtain rfl:c=.type "tuple":=hc
 obtain rfl:dt=.seq items n:=hd
 refine callType_new F.called_enumerate (by decide) (F.typeCall_enumerate_1 _) (F.newCall_enumerate_1 _) (λobj=>F.args_object_init_2 obj _) F.entry_enumerate_new (Qm9 l items n dct sl) ⟨hl,?_⟩
 have hz:(s.heap.push { cls:=.type "tuple_iterator",data:=.fields #[.ref l,.int 0 0] }).objs.size=s.heap.objs.size+1:=Heap.size_push ..
 show _/\_
 rw [hz]
 have he:IsEnum ((s.heap.push { cls:=.type "tuple_iterator",data:=.fields #[.ref l,.int 0 0] }).push
   { cls:=.type "enumerate",data:=.fields #[.none,.bool false,.ref s.heap.objs.size,rawInt 0,.none,.none] }) (s.heap.objs.size+1) s.heap.objs.size 0 .none:=by
  have q:=Heap.get?_push_size (s.heap.push { cls:=.type "tuple_iterator",data:=.fields #[.ref l,.int 0 0] }) (o:={ cls:=.type "enumerate",data:=.fields #[.none,.bool false,.ref s.heap.objs.size,rawInt 0,.none,.none] }) rfl
  rw [hz] at q;exact q
 exact ⟨⟨_,he,rfl⟩,h _ he ⟨_,Heap.get?_push_of_some _ (Heap.get?_push_size _ rfl),rfl,rfl⟩ (by rw [Heap.size_push,hz]) λb o x=>Heap.get?_push_of_some _ (Heap.get?_push_of_some _ x)⟩
def Ite (K:PySem.W.Frag) (a:Addr):It :=
 ⟨λi H=>∃xs x,SqT K H a xs/\xs[i]? = some x,λi H v H'=>∀xs,SqT K H a xs->∃x p,xs[i]? = some x/\v=.ref p/\H p=none/\H'=upd H p (.tup [.int i,x]),λi H=>∃xs,SqT K H a xs/\xs.length<=i⟩
theorem Qid (a e it:Addr) (hei:e≠it):Turn P w K (.Tuple es kt pt) (Ite K a) [e,it] e (λi h=>(∃old,IsEnum h e it i old)/\h.IsTupleIter it a i) where
 mem:=by simp
 obj:=λi h st b hb=>by
  obtain ⟨⟨old,h1⟩,o,h2,c,d⟩:=st
  rcases List.mem_cons.mp hb with z | z
  ·subst z;exact ⟨_,h1,λv z=>by have z':Data.fields _=Data.cell v:=z;cases z'⟩
  ·have z':b=it:=by simpa using z
   subst z';exact ⟨o,h2,λv z=>by rw [d] at z;cases z⟩
 keep:=λi h h' st k=>⟨let ⟨old,h1⟩:=st.1;⟨old,k e (by simp) _ h1⟩,st.2.at λo q=>k it (by simp) o q⟩
 item:=by
  intro X hP hw hK hc i pins s σ H E I hf st hg
  subst hP hw hK
  obtain ⟨⟨old,he⟩,hit⟩:=st
  obtain ⟨xs,x,hq,hx⟩:=hg
  obtain ⟨its,rv,p,hz⟩:=I.tuple hq
  have hlen:=rv.length
  have hi:i<its.toArray.size:=by rw [List.size_toArray,← hlen];exact (List.getElem?_eq_some_iff.mp hx).1
  have hai:a≠it:=λz=>by
   obtain ⟨o,h1,h2,_⟩:=p
   obtain ⟨o',h1',h2',_⟩:=hit
   rw [z,h1'] at h1;cases h1;rw [h2'] at h2;exact absurd h2 (by decide)
  have hae:e∉[it,a]:=λz=>by
   rcases List.mem_cons.mp z with q | q
   ·exact hei q
   ·have q':e=a:=by simpa using q
    obtain ⟨o,h1,h2,_⟩:=p
    rw [← q',he] at h1;cases h1;exact absurd h2 (by show ¬(Value.type "enumerate" = Value.type "tuple");decide)
  refine wpAny_pyNext_enum_itemD (Qnc (A:=X.A.in1) (I.ok.hd hc) it a hai its.toArray) he ⟨hit,show s.heap.IsTuple a its.toArray from p⟩ hi hei hae λu h' tk hu ho hst' hT hsz hk=>?_
  refine ⟨_,rfl,wpAny_letOwnedTupleGo_enum ho λh2 he2 hs2=>?_⟩
  obtain ⟨u',hu',ru⟩:=rv.get hx
  have euu:u'=u:=by
   have z:its.toArray[i]? = some u:=hu
   have z2:its[i]? = some u:=by simpa using z
   rw [hu'] at z2;exact Option.some.inj z2
  subst euu
  have hTe:s.heap.objs.size≠e:=Nat.ne_of_gt (Heap.lt_size he)
  have hT2:h2.get? s.heap.objs.size=some { cls:=.type "tuple",data:=.seq #[.int i tk,u'] }:=(hs2.2 _ hTe).trans hT
  have hn:H s.heap.objs.size=none:=I.hok.fresh (Nat.le_refl _)
  refine ⟨.ref s.heap.objs.size,upd H s.heap.objs.size (.tup [.int i,x]),I.turnNew (ch:=[e,it]) (t':=tk+1) (Nat.le_refl _) (λb o hb q=>?_) hf ?_,rfl,λys hy=>?_,⟨⟨_,he2⟩,hst'.1.at λo q=>?_⟩,λb hb=>?_⟩
  ·have h1:b≠e:=λz=>hb (by simp [z])
   have h2':b≠it:=λz=>hb (by simp [z])
   exact (hs2.2 b h1).trans (hk b o h1 h2' q)
  ·exact ⟨by show 2<=sizeLine;decide,[.int i tk,u'],.cons ⟨_,rfl⟩ (.cons ru .nil),⟨_,hT2,rfl,_,rfl⟩⟩
  ·rw [I.tuple_inj hy hq]
   exact ⟨x,_,hx,rfl,hn,rfl⟩
  ·exact (hs2.2 it (Ne.symm hei)).trans q
  ·obtain ⟨o,q,_⟩:∃o,s.heap.get? b=some o/\True:=by
    rcases List.mem_cons.mp hb with z | z
    ·exact ⟨_,z ▸ he,trivial⟩
    ·have z':b=it:=by simpa using z
     obtain ⟨o,q,_⟩:=hit
     exact ⟨o,z' ▸ q,trivial⟩
   rw [Qq (Nat.ne_of_lt (Heap.lt_size q))]
   exact (hf b hb).1
 done:=by
  intro X hP hw hK hc i pins s σ H E I hf st hg
  subst hP hw hK
  obtain ⟨⟨old,he⟩,hit⟩:=st
  obtain ⟨xs,hq,hx⟩:=hg
  obtain ⟨its,rv,p,hz⟩:=I.tuple hq
  have hlen:=rv.length
  have hT:s.TypeIs (.ref e) "enumerate":=⟨_,he,rfl⟩
  unfold pyNext
  refine wpAny_bind (wpAny_attempt (wpAny_callSpecial?_slot (name:=Str.ofString "__next__") hT F.slot_enumerate_next (wpAny_call_entry F.slot_enumerate_next hT F.entry_enumerate_next ?_ (F.args_enumerate_next_1 _))))
  show wpAny _ _ (field (.ref e) 2 >>= _) _ _ _;refine wpAny_bind (wpAny_field he rfl (x:=.ref it) rfl ?_)
  refine wpAny_bind (Qnt (I.ok.hd hc) hit (show s.heap.IsTuple a its.toArray from p) (by simp;omega) λh' x he' hx'=>?_)
  obtain ⟨o,ho,hc⟩:=hx'
  refine wpAny_bind (wpAny_isInstance (T:="StopIteration") (b:=true) ⟨o,ho,hc⟩ isSubtype_stop ?_)
  exact wpAny_pure ⟨rfl,I.turnAll (ch:=[e,it]) (t':=s.toks) (λb u hb q=>he' b u (λz=>hb (by simp [z])) q) hf⟩
 self:=λ_ _ _ _ _ st h=>by
  obtain ⟨⟨old,q⟩,_⟩:=st
  exact wpAny_pyIter_enum q h
def Qu2 (K:PySem.W.Frag) (ta:TA):TI:=λσ H R=>ta σ H λvs H1=>∃a,vs=[.ref a]/\(∃xs,SqT K H1 a xs)/\R (Ite K a) H1
theorem Qpp {a:Expr} {ta:TA} (hg:Gl X "enumerate") (hm:X.mg "enumerate" = none) (ha:PA X [a] ta) (hs:starEach [a] X.env=[(false,eval a X.env)]:=by rfl) :
  PI X (.Tuple es kt pt) (.Call (.Name "enumerate" p) [a] [] pos) (Qu2 X.K ta):=by
 intro pins s σ H R I h
 refine Call_ (Qd3 I hg hm boot_enumerate (PyProof.Rows.callWith_type1 (thn (ha pos pins s σ H _ I h) λus s1 ⟨vs,H1,I1,r1,q1⟩=>?_) hs rfl))
 obtain ⟨x,e,⟨xs,hq⟩,q⟩:=q1
 subst e
 obtain ⟨u,rfl,ru⟩:=Qc8 r1
 cases ru
 obtain ⟨its,rv,pl,hz⟩:=I1.tuple hq
 refine Qk5 (show s1.heap.IsTuple x its.toArray from pl) λh' he hit hz kp=>?_
 have I2:Inv X pins σ H1 { s1 with heap:=h' }:=I1.kept (t':=s1.toks) kp
 refine wpAny_pyIter_enum he ⟨s1.heap.objs.size+1,[s1.heap.objs.size+1,s1.heap.objs.size],_,_,H1,rfl,I2,Qid x _ _ (Nat.ne_of_gt (Nat.lt_succ_self _)),⟨⟨_,he⟩,hit⟩,λb hb=>?_,q⟩
 have hb':s1.heap.objs.size<=b:=by
  rcases List.mem_cons.mp hb with z | z
  ·rw [z];exact Nat.le_succ _
  ·have z':b=s1.heap.objs.size:=by simpa using z
   rw [z'];exact Nat.le_refl _
 exact I1.fpOk hb' (I1.hok.fresh hb')
def Qud:V->List V->Hp->VK->Prop:=λx vs H Q=>∃a kvs k v,x=.ref a/\vs=[kV k,v]/\H a=some (.dK kvs)/\kvs.length<sizeLine /\
 (∀y,valV kvs k=some y->Q y H)/\(valV kvs k=none->Q v (upd H a (.dK (putK kvs k v))))
theorem Qcn:MtM X "dict.setdefault" Qud:=by
 intro pins s σ H x vs v us Q I rx rv h
 obtain ⟨a,kvs,k,y,rfl,rfl,hH,hz,q1,q2⟩:=h
 cases rx
 obtain ⟨ku,vu,rfl,rk,ry⟩:=rv.two
 obtain ⟨z,hd,xs,rel,dd⟩:=Qnd I.hok hH
 have hl:xs.length<=sizeLine:=by rw [← rel.length];exact z
 refine call_meetsIn PySem.F.slot_dict_setdefault dd.typeIs PySem.F.entry_dict_setdefault (PySem.F.args_dict_setdefault_3 _ _ _) (kt_meets_setdefault (Q9 X.prog X.w) a (Qfj rk) hd vu) ⟨xs,dd,hl,λw hw=>?_,λhn h' dd' hs=>?_⟩
 ·have ro:=rel.val k
  rw [hw] at ro
  cases e:valV kvs k with
  | none=>rw [e] at ro;exact ro.elim
  | some b=>rw [e] at ro;exact ⟨b,H,I.tok _,ro,q1 b e⟩
 ·have ro:=rel.val k
  rw [hn] at ro
  cases e:valV kvs k with
  | some b=>rw [e] at ro;exact ro.elim
  | none =>
   have hlp:(putK kvs k y).length<=sizeLine:=by have:=Vt kvs k y;omega
   refine ⟨y,upd H a (.dK (putK kvs k y)),Qa5 (t':=s.toks+1) I (by rw [hH];trivial) hs ?_ (Qkn hlp hd (rel.put k ry) dd'),ry,q2 e⟩
   obtain ⟨o,_,_,e',_⟩:=dd'
   exact ⟨o,e'⟩
theorem Qcg {α β:Type} {F:α->β->Prop}:∀{l₁:List α} {l₂:List β} {i:Nat} {a:α} {b:β},Paired F l₁ l₂->l₁[i]? = some a->l₂[i]? = some b->F a b
 | _,_,_,_,_,.nil,e,_=>by simp at e
 | _,_,0,_,_,.cons r _,e,e'=>by simp at e e';subst e;subst e';exact r
 | _,_,i+1,_,_,.cons _ t,e,e'=>Qcg (i:=i) t (by simpa using e) (by simpa using e')
end L2
variable {d:PySem.Addr}
namespace L2
open PySem PySem.Spec PyProof.Rows
open PySem.W (Dat kqdP kqdPs kqdOk)
mutual
inductive DV (H:Hp):V->Dat->Prop
 | non:DV H .non .none
 | int (i:Int):DV H (.int i) (.int i)
 | str (x:Str):DV H (.str x) (.str x)
 | tup {a:Addr} {xs:List V} {ds:List Dat} (e:H a=some (.tup xs)) (r:DVs H xs ds):DV H (.ref a) (.tuple ds)
 | lst {a:Addr} {xs:List V} {ds:List Dat} (e:H a=some (.lst xs)) (r:DVs H xs ds):DV H (.ref a) (.list ds)
inductive DVs (H:Hp):List V->List Dat->Prop
 | nil:DVs H [] []
 | cons {x:V} {d:Dat} {xs:List V} {ds:List Dat} (h:DV H x d) (r:DVs H xs ds):DVs H (x::xs) (d::ds)
end
mutual
theorem DV.reads {P:Program} {w:World} {H:Hp} {h:Heap} (ok:HOk P w H h):∀{x:V} {d:Dat} {u:Value},DV H x d->RelV x u->∃as,Reads h u (kqdP d) as
 | _,_,_,.non,r=>by cases r;exact ⟨_,by rw [kqdP];exact Reads.none⟩
 | _,_,_,.int i,r=>by obtain ⟨t,rfl⟩:=r;exact ⟨_,by rw [kqdP];exact Reads.int i t⟩
 | _,_,_,.str x,r=>by obtain ⟨t,rfl⟩:=r;exact ⟨_,by rw [kqdP];exact Reads.str x t⟩
 | _,_,_,.tup (a:=a) e q,r=>by
  cases r
  obtain ⟨_,its,rv,o,h1,h2,n,h3⟩:=ok a _ e
  obtain ⟨as,z⟩:=DVs.reads ok q rv
  rw [kqdP]
  exact ⟨as,reads_tuple_at h1 h2 h3 (by simpa using z)⟩
 | _,_,_,.lst (a:=a) e q,r=>by
  cases r
  obtain ⟨_,its,n,rv,h1⟩:=ok a _ e
  obtain ⟨as,z⟩:=DVs.reads ok q rv
  rw [kqdP]
  exact ⟨_,reads_list_at h1 rfl rfl (by simpa using z)⟩
theorem DVs.reads {P:Program} {w:World} {H:Hp} {h:Heap} (ok:HOk P w H h):∀{xs:List V} {ds:List Dat} {us:List Value},DVs H xs ds->Vals xs us->∃as,ReadsAll h us (kqdPs ds) as
 | _,_,_,.nil,r=>by cases r;exact ⟨_,by rw [kqdPs];exact ReadsAll.nil⟩
 | _,_,_,.cons p q,r=>by
  cases r with
  | cons r1 r2 =>
   obtain ⟨as,z⟩:=DV.reads ok p r1
   obtain ⟨bs,y⟩:=DVs.reads ok q r2
   rw [kqdPs]
   exact ⟨_,ReadsAll.cons z y⟩
end
theorem Ur {d:Dat} (h:kqdOk n d=true) (hn:n<=9):SeqAt.shaped (kqdP d)=true:=by
 have l:=PySem.W.kqd_lay n d h
 unfold SeqAt.shaped
 rw [l.1,Bool.true_and]
 exact decide_eq_true (Nat.le_trans l.2 (Nat.le_trans hn (by decide)))
open Classical in
theorem Qkr {d e:Dat} (h:kqdOk n d=true) (h':kqdOk k e=true):PyData.eqv (kqdP d) (kqdP e)=decide (d=e):=by
 have q:=PySem.W.kqd_eqv n d e k h h'
 by_cases hq:d=e
 ·rw [decide_eq_true hq];exact q.mpr hq
 ·rw [decide_eq_false hq];exact Bool.eq_false_iff.mpr λx=>hq (q.mp x)
def rDat (neg:Bool):R2:=λx y H Q=>∃d e n,DV H x d/\DV H y e/\kqdOk n d=true/\kqdOk n e=true/\n<=9/\((d=e->Q (.bl (!neg)) H)/\(d≠e->Q (.bl neg) H))
theorem Qsj (hu:X.A.units+64<cLine):OpR X (compareOp .Eq) (rDat false):=by
 classical
 intro pins s σ H x y v u Q I rx ry h
 obtain ⟨d,e,n,dx,dy,hd,he,hn,q1,q2⟩:=h
 obtain ⟨as,ra⟩:=dx.reads I.hok rx
 obtain ⟨bs,rb⟩:=dy.reads I.hok ry
 refine eq_dataH ra rb (Ur hd hn) (Ur he hn) hu ?_
 rw [Qkr hd he]
 by_cases hq:d=e
 ·rw [decide_eq_true hq];exact ⟨.bl true,H,I,rfl,q1 hq⟩
 ·rw [decide_eq_false hq];exact ⟨.bl false,H,I,rfl,q2 hq⟩
theorem Qsg (hu:X.A.units+64<cLine):OpR X (compareOp .NotEq) (rDat true):=by
 classical
 intro pins s σ H x y v u Q I rx ry h
 obtain ⟨d,e,n,dx,dy,hd,he,hn,q1,q2⟩:=h
 obtain ⟨as,ra⟩:=dx.reads I.hok rx
 obtain ⟨bs,rb⟩:=dy.reads I.hok ry
 refine ne_dataH ra rb (Ur hd hn) (Ur he hn) hu ?_
 rw [Qkr hd he]
 by_cases hq:d=e
 ·rw [decide_eq_true hq];exact ⟨.bl false,H,I,rfl,q1 hq⟩
 ·rw [decide_eq_false hq];exact ⟨.bl true,H,I,rfl,q2 hq⟩
theorem Qfn:Uh X (.builtin "isinstance") (λxs H Q=>∃x T t b,xs=[x,.ty T]/\TyOf X.K H x (.type t)/\PySem.W.kitOne X.K (.type t) (.type T)=some b/\Q (.bl b) H):=by
 intro pins s σ H xs us Q I r h
 obtain ⟨x,T,t,b,rfl,ty,e,q⟩:=h
 obtain ⟨u,c,rfl,ru,rc⟩:=Qrg r
 cases (show c=Value.type T from rc)
 exact Qj7 I ru ty e λtk=>⟨.bl b,H,I.tok _,rfl,q⟩
end L2
variable {f:Int->Int->Bool}
namespace SortT
open PySem PySem.W PyProof.Rows
structure Ord (f:Nat->Nat->Bool):Prop where
 asym:∀i j,f i j=true->f j i=false
 tr:∀i j k,f j i=false->f k j=false->f k i=false
section
variable {f:Nat->Nat->Bool} (O:Ord f)
include O in
abbrev at_ (p:Array Nat) (i:Nat):Nat:=p.getD i 0
end
end SortT
variable {o:PySem.Expr} {k:List L2.Key}
namespace L2
open PySem PySem.Spec PyProof.Rows
theorem Qqh {k:Key} (h:(Q9 P w).is k u=true):RelV (kV k) u:=by
 rw [Qhq] at h
 rcases Jm h with ⟨i,t,rfl,rfl⟩ | ⟨x,t,rfl,rfl⟩
 ·exact ⟨t,rfl⟩
 ·exact ⟨t,rfl⟩
def Itk (d:Addr) (o:Obj) (kvs:List (Key × V)):It :=
 ⟨λi H=>H d=some (.frz o (.dK kvs))/\i<kvs.length,λi H x H'=>H'=H/\∃k v,kvs[i]? = some (k,v)/\x=kV k,λi H=>H d=some (.frz o (.dK kvs))/\kvs.length<=i⟩
theorem Qic (d it:Addr) (o:Obj) (kvs:List (Key × V)) (vs:List (Key × Value)) (ep:Nat) (rel:KV kvs vs) (hdi:d≠it)
  (hd:∀h:Heap,h.get? d=some o->h.DictAt (Q9 P w) d vs ep) :
  Turn P w K tg (Itk d o kvs) [it] it (λi h=>h.IsKeyIter it d i vs.length ep) where
 mem:=by simp
 obj:=λi h st b hb=>by
  have e:b=it:=by simpa using hb
  subst e
  obtain ⟨o,e,c,d⟩:=st
  exact ⟨o,e,λv z=>by rw [d] at z;cases z⟩
 keep:=λi h h' st k=>by
  obtain ⟨o,e,c,d⟩:=st
  exact ⟨o,k it (by simp) o e,c,d⟩
 item:=by
  intro X hP hw hK hc i pins s σ H E I hf st hg
  subst hP hw hK
  obtain ⟨hH,hlt⟩:=hg
  obtain ⟨e1,_⟩:=I.hok d _ hH
  obtain ⟨⟨k,y⟩,hx⟩:∃p,kvs[i]? = some p:=⟨kvs[i],by simp [hlt]⟩
  have hlen:kvs.length=vs.length:=Paired.length rel
  obtain ⟨⟨k',u⟩,hu⟩:∃p,vs[i]? = some p:=⟨vs[i]'(by omega),by simp [show i<vs.length by omega]⟩
  have rk:k=k':=(Qcg rel hx hu).1
  subst rk
  obtain ⟨f0,f1,f2,f3,f4,f5⟩:=hf it (by simp)
  refine wpAny_pyNext_dict_item st (hd _ e1) hu λkey h' hk st' sb=>?_
  have I1:Inv X pins σ H { s with heap:=h' }:=I.turned (t':=s.toks) (λb o hb e=>(sb.2 b hb).trans e) f0 f1 f3 f4 f5
  obtain ⟨oi,e,c,dd⟩:=id st'
  exact ⟨key,rfl,Qkd (s:={ s with heap:=h' }) e c dd (by decide) ⟨kV k,H,I1,Qqh hk,⟨rfl,k,y,hx,rfl⟩,st',λb hb=>(hf b hb).1⟩⟩
 done:=by
  intro X hP hw hK hc i pins s σ H E I hf st hg
  subst hP hw hK
  obtain ⟨hH,hge⟩:=hg
  obtain ⟨e1,_⟩:=I.hok d _ hH
  have hlen:kvs.length=vs.length:=Paired.length rel
  obtain ⟨f0,f1,f2,f3,f4,f5⟩:=hf it (by simp)
  exact wpAny_pyNext_dict_end (I.ok.hd hc) st (hd _ e1) (List.getElem?_eq_none (by omega)) λh' eb=>⟨rfl,I.turned (t':=s.toks) (λb o hb e=>eb b o hb e) f0 f1 f3 f4 f5⟩
 self:=λ_ _ _ _ _ st h=>wpAny_pyIter_keyiter st h
def Qu1 (to:TE):TI:=λσ H R=>to σ H λx H1=>∃d kvs,x=.ref d/\H1 d=some (.dK kvs)/\∀o,R (Itk d o kvs) (upd H1 d (.frz o (.dK kvs)))
theorem Qpo (ho:PE X o to):PI X tg o (Qu1 to):=by
 intro pins s σ H R I h
 refine thn (ho pins s σ H _ I h) λv s1 ⟨x,H1,I1,r1,d,kvs,e,hd,q⟩=>?_
 subst e
 cases r1
 obtain ⟨z,hs,vs,rel,dd⟩:=Qnd I1.hok hd
 obtain ⟨ep,da⟩:=dd.dictAt
 obtain ⟨ob,es,hob,dr⟩:=id da
 refine wpAny_pyIter_dict (knd:=Q9 X.prog X.w) (d:=d) (kvs:=vs) (ep:=ep) hs ⟨ob,es,hob,dr⟩ ?_
 have I3:=I1.kept (h':=s1.heap.push { cls:=.type "dict_keyiterator",data:=.fields #[.ref d,.int 0 0,.int vs.length 0,.int ep 0] }) (t':=s1.toks) λb u e=>Heap.get?_push_of_some _ e
 have hob3:=Heap.get?_push_of_some (h:=s1.heap) { cls:=.type "dict_keyiterator",data:=.fields #[.ref d,.int 0 0,.int vs.length 0,.int ep 0] } hob
 have I4:=I3.write (x:=d) (e:=d) (o:=.frz ob (.dK kvs)) (t':=s1.toks) (by rw [hd];trivial) (.inl rfl) (λb u _ q=>q) ⟨_,hob3⟩
  (show J4 X.prog X.w _ _ d (.frz ob (.dK kvs)) from ⟨hob3,z,hs,vs,rel,ob,es,ep,hob3,dr⟩)
 have hlt:d<s1.heap.objs.size:=Heap.lt_size hob
 refine ⟨s1.heap.objs.size,[s1.heap.objs.size],_,_,_,rfl,I4,
  Qic d _ ob kvs vs ep rel (Nat.ne_of_lt hlt) (λh e=>⟨ob,es,e,dr⟩),⟨_,Heap.get?_push_size _ rfl,rfl,rfl⟩,λb hb=>?_,q ob⟩
 have e:b=s1.heap.objs.size:=by simpa using hb
 subst e
 exact I1.fpOk (Nat.le_refl _) (by rw [Qq (Nat.ne_of_gt hlt)];exact I1.hok.fresh (Nat.le_refl _))
end L2
namespace HT
open PySem PySem.Spec PyProof.Rows L2
theorem Qnk (ht:IsTup s.heap t ([]:List Value).toArray) (hb:IsTup s.heap b ws.toArray) (h1:Q (.ref b) s):wpAny (model prog w) A (binaryOp .Add (.ref t) (.ref b)) Q E s:=by
 obtain ⟨⟨cls,dd,data,sl⟩,ho,hc,n,hd⟩:=id ht
 obtain ⟨⟨cls2,dd2,data2,sl2⟩,ho2,hc2,n2,hd2⟩:=id hb
 simp only at hc hd hc2 hd2
 subst hc hd hc2 hd2
 exact concat_meets ⟨_,ho,rfl⟩ ⟨_,ho2,rfl⟩ noFill_tuple_add seq_tuple_add PySem.F.slot_tuple_add PySem.F.entry_tuple_add (PySem.F.args_tuple_add_2 _ _)
   (tuple_addW0 t b ([]:List Value).toArray ws.toArray n n2 dd dd2 sl sl2 rfl) ⟨ho,ho2,h1⟩
theorem U2 (ht:IsTup s.heap t items) (hs:s.heap.IsSliceOf sl vl vu .none) (pl:IsPart vl lo) (pu:IsPart vu hi)
  (hw:sIx items.size 0 lo=0/\sIx items.size items.size hi=items.size)
  (h:Q (.ref t) s):wpAny (model prog w) A (getItem (.ref t) (.ref sl)) Q E s:=by
 obtain ⟨os,hos,hcs,hds⟩:=id hs
 have hTs:s.TypeIs (.ref sl) "slice":=⟨os,hos,hcs⟩
 unfold getItem
 try with_reducible refine wpAny_holding ?_
 first | refine wpAny_bind (wpAny_pure ?_) | skip
 refine wpAny_bind (wpAny_sequenceKey ht.typeIs (by decide) ?_)
 refine wpAny_bind (wpAny_callSpecial?_slot (name:=Str.ofString "__getitem__") ht.typeIs PyProof.Rows.slot_tuple_getitem
  (wpAny_call_entry PyProof.Rows.slot_tuple_getitem ht.typeIs entry_tuple_getitem ?_ (args_tuple_getitem _ _)))
 show wpAny _ _ (Builtin.Tuple.tupleItemsOf (.ref t) >>= _) _ _ s
 refine wpAny_bind (tupleItemsOf_ ht ?_)
 refine wpAny_bind (wpAny_typeOf hTs ?_)
 rw [if_pos (by decide)]
 refine wpAny_bind (Vx hs pl pu ?_)
 have hyes:(((sIx items.size 0 lo:Nat):Int) == 0 && (1:Int) == 1 && (sIx items.size items.size hi-sIx items.size 0 lo) == items.size)=true:=by
  rw [hw.1,hw.2];simp
 show wpAny _ _ (if (((sIx items.size 0 lo:Nat):Int) == 0 && (1:Int) == 1 && (sIx items.size items.size hi-sIx items.size 0 lo) == items.size)=true then _ else _) _ _ s
 rw [if_pos hyes]
 refine wpAny_bind (wpAny_bind (wpAny_typeOf ht.typeIs (wpAny_pure ?_)))
 rw [if_pos (by decide)]
 refine wpAny_bind (wpAny_rule ?_)
 first
  | exact wpAny_bind (wpAny_pure (wpAny_pure ⟨_,rfl,wpAny_pure h⟩))
  | exact wpAny_pure ⟨_,rfl,wpAny_pure h⟩
  | exact wpAny_bind (wpAny_pure ⟨_,rfl,wpAny_pure h⟩)
end HT
variable {t:String} {y:PySem.Str} {py spos:PySem.Pos}
namespace L2
open PySem PySem.Spec PyProof.Rows
def Quh (K:PySem.W.Frag):R2:=λx y H Q=>∃a b ys,x=.ref a/\y=.ref b/\SqT K H a []/\SqT K H b ys/\Q (.ref b) H
theorem Qp3:OpR X (binaryOp .Add) (Quh X.K):=by
 intro pins s σ H x y v u Q I rx ry h
 obtain ⟨a,b,ys,rfl,rfl,ha,hb,q⟩:=h
 cases rx
 cases ry
 obtain ⟨its,r1,p1,_⟩:=I.tuple ha
 obtain ⟨its2,r2,p2,_⟩:=I.tuple hb
 have:its=[]:=by cases r1;rfl
 subst this
 exact HT.Qnk p1 p2 ⟨.ref b,H,I,rfl,q⟩
def rSlW (K:PySem.W.Frag):V->Option Int->Option Int->Hp->VK->Prop:=λx lo hi H Q=>∃a xs,x=.ref a/\SqT K H a xs /\
 (HT.sIx xs.length 0 lo=0/\HT.sIx xs.length xs.length hi=xs.length)/\Q (.ref a) H
theorem Qoz:SlR X (rSlW X.K):=by
 intro pins s σ H x v vl vu lo hi sl Q I rx hs pl pu h
 obtain ⟨a,xs,rfl,hx,hw,q⟩:=h
 cases rx
 obtain ⟨its,r,ht,hz⟩:=I.tuple hx
 have hlen:its.toArray.size=xs.length:=by rw [List.size_toArray];exact r.length.symm
 refine ⟨"tuple",_,PyProof.Rows.slot_tuple_getitem.lookup,ht.typeIs,?_⟩
 exact HT.U2 ht hs pl pu (by rw [hlen];exact hw) ⟨.ref a,H,I,rfl,q⟩
def isN (n:Int):Value->Bool
 | .int m _=>m == n
 | _=>false
def Qij (ts:List Str) (wi:TI) (gt:TG) (tt:TT) (te:TE) (ix:List Nat):TE:=λσ H Q=>wi σ H λJ H1=>∃(W:Nat->Nat->List V->Hp->Prop) (m₀:Nat),W 0 m₀ [] H1 /\
 ∀i m ys H,W i m ys H->(J.stop i H/\ys.length<=sizeLine/\∀l,H l=none->Q (.ref l) (upd H l (.lst ys)))\/(J.go i H/\ys.length<sizeLine/\∀v H',J.yld i H v H'->∀o:List (Option V),o.length=ts.length->gt v (bS2 σ o ix) H' λσ2 H2=>∃o2:List (Option V),σ2=bS2 σ o2 ix/\o2.length=ts.length /\
  tt σ2 H2 λb H1=>if b=true then te σ2 H1 λy H2=>∃m',m' < m/\W (i+1) m' (ys++[y]) H2 else ∃m',m' < m/\W (i+1) m' ys H1)
theorem Qmd (ix:List Nat) (hc:X.calm=true) (B:BlkScope X.env scope x)
  (hix:∀i∈ix,∃y,X.N[i]? = some y/\scope.names.lookup y=some .free) (hN:(bN2 X.N ts ix).Nodup) (hi:PI X tg iter wi)
  (hg:∀cl C s₀ H₀ fp,PG (cxBlk X scope cl C (bN2 X.N ts ix) s₀ H₀ fp) tg gt)
  (ht:∀cl C s₀ H₀ fp,PIfs (cxBlk X scope cl C (bN2 X.N ts ix) s₀ H₀ fp) ifs tt)
  (he:∀cl C s₀ H₀ fp,PE (cxBlk X scope cl C (bN2 X.N ts ix) s₀ H₀ fp) elt te)
  (hs:∀x,foldedSetIterable iter X.env x=pure x:=by intro _;rfl) :
  PE X (.ListComp elt [⟨tg,iter,ifs,0⟩] scope pos) (Qij ts wi gt tt te ix):=by
 intro pins s σ H Q I h
 obtain ⟨cl,hcl,h1,h3⟩:=Vw (Qc0 I B)
 rw [eval_ListComp]
 refine wpAny_comprehension_free (use:=none) rfl hs hcl B.kind B.names (thn (hi pins s σ H _ I h) λv s1 h1'=>thn h1' λitv s2 h2=>?_)
 obtain ⟨it,fp,tn,J,H2,e,I2,T,st2,f2,W,m0,w0,turn⟩:=h2
 subst e
 refine Qa7 (G:=λys H'=>∀l,H' l=none->Q (.ref l) (upd H' l (.lst ys))) I2 hc B h1 h3 hix hN T st2 f2 hg he ht W m0 w0 turn λD C s' ys H' I' hD hC hm hCs hDC g=>?_
 obtain ⟨m,hm⟩:=hm
 refine ⟨m,hm,λh' hsb=>⟨.ref D,upd H' D (.lst ys),I2.blkGone I' hCs (by rw [Qq (Ne.symm hDC)];exact hC) hsb,rfl,g D hD⟩⟩
theorem Ql3 (ix:List Nat) (hc:X.calm=true) (B:BlkScope X.env scope x)
  (hNd:X.N.Nodup) (hj:X.N[j]? = some y) (hy:Loc X.env.scope y)
  (hsw:swapsWith (.ListComp elt [⟨tg,iter,ifs,0⟩] scope pos) (some (.Name y py)) spos.line X.env=pure true)
  (hix:∀i∈ix,∃y,X.N[i]? = some y/\scope.names.lookup y=some .free) (hN:(bN2 X.N ts ix).Nodup) (hi:PI X tg iter wi)
  (hg:∀cl C s₀ H₀ fp,PG (cxBlk X scope cl C (bN2 X.N ts ix) s₀ H₀ fp) tg gt)
  (ht:∀cl C s₀ H₀ fp,PIfs (cxBlk X scope cl C (bN2 X.N ts ix) s₀ H₀ fp) ifs tt)
  (he:∀cl C s₀ H₀ fp,PE (cxBlk X scope cl C (bN2 X.N ts ix) s₀ H₀ fp) elt te)
  (hf:X.fn y=true\/X.env.scope.names.lookup y=some .local:=by first | exact .inl rfl | exact .inr rfl | assumption)
  (hs:∀x,foldedSetIterable iter X.env x=pure x:=by intro _;rfl) :
  PS X (.Assign [.Name y py] (.ListComp elt [⟨tg,iter,ifs,0⟩] scope pos) spos) (tAsg (Qij ts wi gt tt te ix) (V1 j)):=by
 intro pins s σ H D0 I h
 obtain ⟨cl,hcl,h1,h3⟩:=Vw (Qc0 I B)
 rw [exec_Assign_Name_used _ _ _ _ hsw]
 refine wpAny_bind (wpAny_standAt (wpAny_bind ?_))
 show wpAny _ X.A (do let _ ← comprehension (.ListComp elt [⟨tg,iter,ifs,0⟩] scope pos) scope X.env _ (newList []) false (eval iter X.env) (some (assign (.Name y py) X.env))) _ _ s
 refine wpAny_bind (wpAny_mono (wpAny_comprehension_free (use:=some (assign (.Name y py) X.env)) (Q:=λ_ s'=>SP X pins D0 .next s') rfl hs hcl B.kind B.names
  (thn (hi pins s σ H _ I h) λv s1 h1'=>thn h1' λitv s2 h2=>?_)) (λ_ s' hq=>wpAny_pure (wpAny_pure hq)) λ_ _ e=>e)
 obtain ⟨it,fp,tn,J,H2,e,I2,T,st2,f2,W,m0,w0,turn⟩:=h2
 subst e
 refine Qa7 (G:=λys H'=>∀l,H' l=none->V1 j (.ref l) σ (upd H' l (.lst ys)) D0.nx) I2 hc B h1 h3 hix hN T st2 f2 hg he ht W m0 w0 turn λD C s' ys H' I' hD hC hm hCs hDC g=>?_
 obtain ⟨m,hm⟩:=hm
 have hCn:upd H' D (.lst ys) C=none:=by rw [Qq (Ne.symm hDC)];exact hC
 show wpAny _ _ (assign (.Name y py) X.env (.ref D)) _ _ s'
 refine wpAny_assign_Name (X6 I' hNd hj hy (show RelV (.ref D) (.ref D) from rfl) (λs3 I3 ⟨a,hsa,ha⟩=>?_) hf)
 have hCa:C≠a:=by
  rcases ha with z | z
  ·rw [z];exact Nat.ne_of_gt (Nat.lt_of_lt_of_le I2.lt hCs)
  ·obtain ⟨v,q⟩:=I2.cell y a z;exact Nat.ne_of_gt (Nat.lt_of_lt_of_le q.lt hCs)
 exact ⟨m,hm.sameBut hsa hCa,λh' hsb=>⟨_,_,I2.blkGone I3 hCs hCn hsb,g D hD⟩⟩
end L2
namespace PT
open PySem PySem.Spec
section
variable {K:Type} [DecidableEq K] {knd:HeapKind prog w K}
def wo (xs:List (K × Addr × Value)) (k:K):List (K × Addr × Value):=xs.filter λx=>decide (x.1≠k)
theorem Qrd {k:K}:∀{xs:List (K × Addr × Value)} {j:Nat} {p:Addr × Value},(xs.map (·.1)).Nodup->xs[j]? = some (k,p)->xs.eraseIdx j=wo xs k
 | x::xs,0,p,hn,h=>by
  cases h
  obtain ⟨h1,_⟩:=List.nodup_cons.mp hn
  unfold wo
  rw [List.eraseIdx_cons_zero,List.filter_cons_of_neg (by simp)]
  symm
  rw [List.filter_eq_self]
  intro y hy
  have:y.1≠k:=λe=>h1 (by rw [← e];exact List.mem_map.mpr ⟨y,hy,rfl⟩)
  simpa using this
 | x::xs,j+1,p,hn,h=>by
  obtain ⟨h1,h2⟩:=List.nodup_cons.mp hn
  have h':xs[j]? = some (k,p):=by simpa using h
  have hm:k∈xs.map (·.1):=List.mem_map.mpr ⟨_,List.mem_of_getElem? h',rfl⟩
  have hx:x.1≠k:=λe=>h1 (by show x.1∈_;rw [e];exact hm)
  rw [List.eraseIdx_cons_succ,Qrd h2 h']
  unfold wo
  rw [List.filter_cons_of_pos (by simpa using hx)]
theorem Qec {α β:Type} {f:α->β}:∀{l:List α} {i:Nat},(l.map f).eraseIdx i=(l.eraseIdx i).map f
 | [],_=>rfl
 | _::_,0=>rfl
 | x::l,i+1=>by rw [List.map_cons,List.eraseIdx_cons_succ,List.eraseIdx_cons_succ,List.map_cons,Qec]
theorem Qie {xs:List (K × Addr × Value)} {k:K} {p:Addr × Value} {Q:Option DictEntry->Shared->Prop} (hu:knd.room A) (hkey:knd.is s.heap k a) (hm:s.heap.DictOfH knd d xs) (hz:xs.length<=sizeLine) (hp:atKey xs k=some p)
  (hQ:∀e h',e.val=p.2->h'.DictOfH knd d (wo xs k)->Heap.SameBut d s.heap h'->Q (some e) { s with heap:=h',toks:=s.toks+knd.draws k }):wpAny (model prog w) A (Builtin.Dict.takeOut d (.ref a)) Q E s:=by
 obtain ⟨o,es,ep,ho,hc,hd,he,his,hn⟩:=hm
 unfold Builtin.Dict.takeOut
 try with_reducible refine wpAny_holding ?_
 refine wpAny_bind (knd.pyHash hu hkey (wpAny_bind (wpAny_dictFind_heap (s:={ s with toks:=s.toks+knd.draws k }) hu hkey ho hd he his hn ?_ ?_)))
 ·intro hno
  rw [atKey_none_of_get hno] at hp
  cases hp
 ·intro j q hj
  rw [atKey_of_get hn hj] at hp
  cases hp
  refine wpAny_bind (wpAny_dictEntries (s:={ s with toks:=s.toks+knd.draws k }) ho hd ?_)
  rw [entry_at he j,hj]
  refine wpAny_bind (wpAny_updateDictKeys (hz:=by have e:=size_of_entries he;omega) (s:={ s with toks:=s.toks+knd.draws k }) ho hd (wpAny_pure (hQ _ _ rfl ⟨_,_,ep+1,Heap.get?_update_self _ ho (Obj.isFreed_of_dict (Obj.data_mapDictKeys hd _)),
   hc.mapDictKeys _,Obj.data_mapDictKeys hd _,?_,?_,?_⟩ (Heap.SameBut.update ..))))
  ·rw [← Qrd hn hj]
   obtain ⟨l⟩:=es
   have:l=xs.map (entryOfKey knd):=he
   subst this
   simp [Qec]
  ·intro x hx
   exact knd.keeps (his x (List.mem_filter.mp hx).1) ho hd (Heap.SameBut.update ..)
  ·exact hn.sublist (List.filter_sublist.map _)
theorem Qi5:MeetsIn prog w (Builtin.«dict.pop» ⟨[.ref d,.ref a],[]⟩) (λA R s=>knd.room A.in1/\∃k xs p,knd.is s.heap k a/\s.heap.DictOfH knd d xs/\xs.length<=sizeLine/\atKey xs k=some p /\
   ∀h',h'.DictOfH knd d (wo xs k)->Heap.SameBut d s.heap h'->R (.ok (.ret p.2)) { s with heap:=h',toks:=s.toks+knd.draws k }) :=
 .of_wp λA R s ⟨hu,k,xs,p,hkey,hm,hz,hp,h⟩=>by
  unfold Builtin.«dict.pop»
  refine wpAny_bind ?_
  unfold Builtin.Dict.keyAndDefault
  refine wpAny_bind (wpAny_notOrdered_dict hm.typeIs ?_)
  show wpAny _ _ (pure (d,Value.ref a,none)) _ _ s
  refine wpAny_pure ?_
  obtain ⟨o,es,ep,ho,hc,hd,he,his,hn⟩:=id hm
  have hne:es.isEmpty=false:=by
   cases hx:xs with
   | nil=>subst hx;cases hp
   | cons x r =>
    subst hx
    obtain ⟨l⟩:=es
    have:l=(x::r).map (entryOfKey knd):=he
    subst this
    rfl
  simp only [keyPart,Option.isSome_none,Bool.false_eq_true,if_false]
  refine wpAny_bind (m:=dictEntries d none) (wpAny_dictEntries ho hd ?_)
  refine wpAny_bind (wpAny_pure ?_)
  rw [hne]
  simp only [Bool.false_eq_true,if_false]
  refine wpAny_bind (Qie hu hkey hm hz hp λe h' hv hm' hs'=>?_)
  simp only [Option.isNone_some,Bool.false_eq_true,if_false]
  exact wpAny_bind (wpAny_letGo (wpAny_pure ⟨e.val,rfl,by rw [hv];exact h h' hm' hs'⟩))
theorem Qjx (hd:(d == sysModules)=false):MeetsIn prog w (Builtin.«dict.__len__» ⟨[.ref d],[]⟩) (λ_ R s=>∃xs,s.heap.DictOfH knd d xs/\R (.ok (.ret (.int xs.length s.toks))) { s with toks:=s.toks+1 }) :=
 .of_wp λA R s ⟨xs,hm,h⟩=>by
  obtain ⟨o,es,ep,ho,hc,hdat,he,his,hn⟩:=hm
  show wpAny _ _ (dictSize d >>= _) _ _ s
  unfold dictSize
  refine wpAny_bind (wpAny_bind (wpAny_dictEntries ho hdat (wpAny_pure ?_)))
  show wpAny _ _ (Builtin.Dict.pendingCount d >>= _) _ _ s
  refine wpAny_bind (wpAny_pendingCount_other hd ?_)
  refine wpAny_ret_mkInt ?_
  have:es.size=xs.length:=size_of_entries he
  rw [Nat.add_zero,this];exact h
theorem Qcz {xs:List (K × Addr × Value)} (hd:(d == sysModules)=false) (hm:s.heap.DictOfH knd d xs) (hfit:(xs.length:Int)<2 ^ 63)
  (h:Q (.int xs.length (s.toks+1)) { s with toks:=s.toks+1+1 }):wpAny (model prog w) A (call (.builtin "len") [.ref d]) Q E s:=by
 refine Calls.call_function_entry kind_len plain_len entry_len (args_len1 _) ?_
 unfold Builtin.«len»
 refine wpAny_bind (m:=oneArg "len" _) (wpAny_pure ?_)
 refine wpAny_bind (m:=callSpecial? (.ref d) (Str.ofString "__len__")) (wpAny_callSpecial?_slot (name:=Str.ofString "__len__") hm.typeIs F.slot_dict_len
  (call_meetsIn F.slot_dict_len hm.typeIs F.entry_dict_len (F.args_dict_len_1 _) (Qjx (knd:=knd) hd) ⟨xs,hm,?_⟩))
 show wpAny _ _ _ _ _ { s with toks:=s.toks+1 }
 refine wpAny_bind (wpAny_holding (wpAny_pure ?_))
 refine wpAny_bind (wpAny_letGo ?_)
 show wpAny _ _ (if ((xs.length:Nat):Int)<0 then _ else _) _ _ _
 rw [if_neg (by omega)]
 show wpAny _ _ (if ((xs.length:Nat):Int) ≥ 2 ^ 63 then _ else _) _ _ _
 rw [if_neg (by omega)]
 exact wpAny_bind (wpAny_mkInt (wpAny_pure ⟨_,rfl,h⟩))
end
end PT
namespace L2
open PySem PySem.Spec PyProof.Rows
theorem KT.drop (r:KT H kvs xs) (k:List Key):KT H (Qfl kvs k) (PT.wo xs k):=by
 induction r with
 | nil=>exact .nil
 | @cons p q ps qs hq t ih =>
  unfold Qfl PT.wo at *
  by_cases e:p.1=k
  ·rw [List.filter_cons_of_neg (by simpa using e),List.filter_cons_of_neg (by simpa using (hq.1.symm.trans e))]
   exact ih
  ·rw [List.filter_cons_of_pos (by simpa using e),List.filter_cons_of_pos (by simpa using (λz=>e (hq.1.trans z)))]
   exact .cons hq ih
theorem Qth (hu:A.units+1<cLine) (I:Inv X pins σ H s) (e:H a=some (.dT kvs)) (eb:H b=some (.tup (k.map kV))) (l:valV kvs k=some v)
  (h:∀w' s',Inv X pins σ (upd H a (.dT (Qfl kvs k))) s'->RelV v w'->Q w' s'):wpAny (model X.prog X.w) A (call (.builtin "dict.pop") [.ref a,.ref b]) Q E s:=by
 obtain ⟨z,hd,xs,rel,dd⟩:=Qqq I.hok e
 obtain ⟨w',hw,rw'⟩:=RelO.some_of (v:=v) (o:=(atKey xs k).map (·.2)) (by rw [← l];exact rel.val k)
 obtain ⟨p,hp,hp2⟩:=Option.map_eq_some_iff.mp hw
 have hz:xs.length<=sizeLine:=by rw [← Paired.length rel];exact z
 refine call_meetsIn PySem.F.slot_dict_pop dd.typeIs PySem.F.entry_dict_pop (PySem.F.args_dict_pop_2 _ _) (PT.Qi5 (knd:=tupleKind (Q9 X.prog X.w))) ⟨tupleKind_room_in1 hu,k,xs,p,Qbv I.hok eb,dd,hz,hp,λh' dd' hs=>?_⟩
 rw [hp2]
 refine h w' _ ?_ rw'
 obtain ⟨q,es,ep,hq,h2,h3,h4,_,h5⟩:=dd'
 refine Qa5 I (by rw [e];exact True.intro) hs ⟨q,hq⟩ ⟨Nat.le_trans (Qnb kvs k) z,hd,_,(rel.drop k).keeps λc ys ec=>?_,q,es,ep,hq,h2,h3,h4,h5⟩
 rw [Qq (Qsp ec e (λz=>nomatch z))]
 exact ec
theorem Qk1:Uh X (.builtin "len") (λxs H Q=>∃a kvs,xs=[V.ref a]/\H a=some (.dT kvs)/\Q (.int kvs.length) H):=by
 intro pins s σ H xs us Q I r h
 obtain ⟨a,kvs,rfl,ha,q⟩:=h
 obtain ⟨u,rfl,ru⟩:=Qc8 r
 cases ru
 obtain ⟨z,hd,ys,rel,dd⟩:=Qqq I.hok ha
 refine PT.Qcz (knd:=tupleKind (Q9 X.prog X.w)) hd dd (by rw [← Paired.length rel];rw [sizeLine_eq] at z;omega) ?_
 rw [← Paired.length rel]
 exact ⟨.int kvs.length,H,I.tok _,⟨_,rfl⟩,q⟩
end L2
namespace Mx
open PySem PySem.Spec L2
abbrev MI:=Int ⊕ List Int
def Qu3:MI->Int
 | .inl i=>hashInt i
 | .inr l=>reduceHash (Builtin.Tuple.tupleHashOf (l.map hashInt))
abbrev KVM:=List (MI × V × V)
abbrev VM:=List (MI × Value × Value)
def RelE (p:MI × V × V) (q:MI × Value × Value):Prop:=p.1=q.1/\RelV p.2.1 q.2.1/\RelV p.2.2 q.2.2
def entI (q:MI × Value × Value):DictEntry:={ hash:=Qu3 q.1,key:=q.2.1,val:=q.2.2 }
def phi (a:Addr) (kvs:KVM) (h:Heap):Prop:=(a == sysModules)=false/\kvs.length<=sizeLine/\(kvs.map (·.1)).Nodup/\∃vs:VM,Paired RelE kvs vs/\∃o es ep,h.get? a=some o/\o.ExactDict/\o.data=.dict es ep/\es.toList=vs.map entI
def mixO (a:Addr) (kvs:KVM):HO:=.ext (phi a kvs)
def Qva (H:Hp):MI->V->Prop
 | .inl i,y=>y=.int i
 | .inr l,y=>∃b,y=.ref b/\H b=some (.tup (l.map V.int))
def Keys (H:Hp) (kvs:KVM):Prop:=∀p∈kvs,Qva H p.1 p.2.1
end Mx
variable {es:Array PySem.DictEntry} {ep:Nat}
namespace L2
open PySem PySem.Spec PyProof.Rows
structure BlkScopeC (env:Env) (scope:Scope) (x:Str):Prop where
 kind:scope.kind=.function
 one:∀(n:Nat) (acc:List (Str × Addr)),cellsFrom n scope.names acc=(x,n)::acc
 push:∀h:Heap,pushCells h scope.names=h.push { cls:=.type "cell",data:=.cell none }
 only:∀y∈scope.names,y.2=.cell->y.1=x
 apart:∀y∈scope.names,y.2=.free->y.1≠x
 names:∀y∈scope.names,y.2=.local->scope.names.lookup y.1=some .local
 lx:scope.names.lookup x=some .cell
 free:∀y∈scope.names,y.2=.free->env.kindOf y.1=some .cell\/env.kindOf y.1=some .free
theorem Qoc {x:Str}:∀{names:List (Str × NameKind)},names.filter (λy=>y.2 == .cell)=[(x,.cell)]->(∀(n:Nat) (acc:List (Str × Addr)),cellsFrom n names acc=(x,n)::acc)/\(∀h:Heap,pushCells h names=h.push { cls:=.type "cell",data:=.cell none })
 | [],h=>nomatch h
 | (y,k)::r,h=>by
  have none_of:∀{names:List (Str × NameKind)},names.filter (λy=>y.2 == .cell)=[]->(∀(n:Nat) (acc:List (Str × Addr)),cellsFrom n names acc=acc)/\(∀h:Heap,pushCells h names=h):=λ{names}=>by
   induction names with
   | nil=>exact λ_=>⟨λ_ _=>rfl,λ_=>rfl⟩
   | cons p r ih =>
    obtain ⟨z,q⟩:=p
    intro hf
    cases hq:(q == NameKind.cell) with
    | true=>rw [List.filter_cons_of_pos (by exact hq)] at hf;cases hf
    | false =>
     rw [List.filter_cons_of_neg (by simpa using hq)] at hf
     obtain ⟨a,b⟩:=ih hf
     refine ⟨λn acc=>?_,λh=>?_⟩
     ·unfold cellsFrom;rw [hq];exact a n acc
     ·unfold pushCells;rw [hq];exact b h
  cases hq:(k == NameKind.cell) with
  | true =>
   rw [List.filter_cons_of_pos (by exact hq)] at h
   injection h with h1 h2
   obtain ⟨a,b⟩:=none_of h2
   have hy:y=x:=congrArg Prod.fst h1
   refine ⟨λn acc=>?_,λh=>?_⟩
   ·unfold cellsFrom;rw [hq,if_pos rfl,a,hy]
   ·unfold pushCells;rw [hq,if_pos rfl,b]
  | false =>
   rw [List.filter_cons_of_neg (by simpa using hq)] at h
   obtain ⟨a,b⟩:=Qoc h
   refine ⟨λn acc=>?_,λh=>?_⟩
   ·unfold cellsFrom;rw [hq];exact a n acc
   ·unfold pushCells;rw [hq];exact b h
section
variable {M:Model}
theorem Qmm {globals:Addr} {func:Option Addr} {code:Value} {outer:Env} {builtins:Addr} {Q:Env->Shared->Prop}
  (one:∀(n:Nat) (acc:List (Str × Addr)),cellsFrom n scope.names acc=(x,n)::acc) (push:∀h:Heap,pushCells h scope.names=h.push { cls:=.type "cell",data:=.cell none })
  (hQ:∀h',h'.Ns s.heap.objs.size (λ_=>none)->h'.IsCell (s.heap.objs.size+1) none->(∀b o,s.heap.get? b=some o->h'.get? b=some o) ->
   Q (newEnv scope s.heap.objs.size globals ((x,s.heap.objs.size+1)::cl) qual func code (some outer) builtins) { s with heap:=h',toks:=s.toks+0 }) :
  wpAny M A (newFunctionEnv scope globals cl [] qual func code (some outer) builtins) Q E s:=by
 simp only [newFunctionEnv,Option.isSome_some,if_true]
 simp only [newEnv] at hQ
 refine wpAny_bind (wpAny_alloc ?_)
 refine wpAny_bind (wpAny_layCells _ (λname kind cells=>by cases hkc:kind == NameKind.cell <;> simp [hkc]) _ _ _ _ ?_)
 rw [show ({ s with heap:=s.heap.push { cls:=.type "dict",data:=.dict #[] } }:Shared).heap.objs.size=s.heap.objs.size+1 from Heap.size_push ..,one,push]
 rw [List.forIn_nil]
 refine wpAny_bind (wpAny_pure (wpAny_pure (hQ _ ?_ ?_ ?_)))
 ·exact (Heap.Ns.new s.heap (.type "dict")).keeps λb o e=>Heap.get?_push_of_some _ e
 ·have:=Heap.get?_push_size (s.heap.push { cls:=.type "dict",data:=.dict #[] }) (o:={ cls:=.type "cell",data:=.cell none }) rfl
  rw [Heap.size_push] at this
  exact ⟨_,this,rfl⟩
 ·exact λb o e=>Heap.get?_push_of_some _ (Heap.get?_push_of_some _ e)
end
theorem U0 (h:scope.names.lookup x=some .cell):(relabel scope env).names.lookup x=some .cell:=by
 show (scope.names.map λ(n,k)=>if (k == NameKind.free && env.scope.kind == .function && env.kindOf n == some .cell) then (n,NameKind.cell) else (n,k)).lookup x=some .cell
 generalize scope.names=names at h
 induction names with
 | nil=>cases h
 | cons p r ih =>
  obtain ⟨n,k⟩:=p
  rw [List.lookup_cons] at h
  rw [List.map_cons]
  dsimp only
  split
  ·rename_i hc
   rw [List.lookup_cons]
   cases hq:x == n with
   | true=>rfl
   | false=>rw [hq] at h;exact ih h
  ·rw [List.lookup_cons]
   cases hq:x == n with
   | true=>rw [hq] at h;exact h
   | false=>rw [hq] at h;exact ih h
theorem Vo {env:Env} {x y:Str} {q:NameKind}:∀{names:List (Str × NameKind)},(∀z∈names,z.2=.cell->z.1=x)->q=.cell\/q=.free ->
  (names.map λ(n,k)=>if (k == NameKind.free && env.scope.kind == .function && env.kindOf n == some .cell) then (n,NameKind.cell) else (n,k)).lookup y=some q->y=x\/(y,NameKind.free)∈names
 | [],_,_,h=>by simp at h
 | (n,k)::r,hn,hq,h=>by
  have h:List.lookup y ((if (k == NameKind.free && env.scope.kind == .function && env.kindOf n == some .cell)=true then (n,NameKind.cell) else (n,k))::(r.map λ(n,k)=>if (k == NameKind.free && env.scope.kind == .function && env.kindOf n == some .cell) then (n,NameKind.cell) else (n,k)))=some q:=h
  have ih:=Vo (env:=env) (y:=y) (q:=q) (names:=r) (λz hz=>hn z (List.mem_cons_of_mem _ hz)) hq
  by_cases hc:(k == NameKind.free && env.scope.kind == .function && env.kindOf n == some .cell)=true
  ·rw [if_pos hc] at h
   cases hx:y == n with
   | true =>
    have hk:k=.free:=by
     cases k <;> first | rfl | (simp at hc)
    exact .inr (by rw [beq_iff_eq.mp hx,hk];exact List.mem_cons_self)
   | false =>
    simp only [List.lookup_cons,hx] at h
    exact (ih h).imp id λz=>List.mem_cons_of_mem _ z
  ·rw [if_neg hc] at h
   cases hx:y == n with
   | true =>
    simp only [List.lookup_cons,hx] at h
    have hk:k=q:=Option.some.inj h
    rcases hq with rfl | rfl
    ·exact .inl (by rw [beq_iff_eq.mp hx];exact hn (n,k) List.mem_cons_self hk)
    ·exact .inr (by rw [beq_iff_eq.mp hx,hk];exact List.mem_cons_self)
   | false =>
    simp only [List.lookup_cons,hx] at h
    exact (ih h).imp id λz=>List.mem_cons_of_mem _ z
def Qed (X:Cx) (scope:Scope) (cl:List (Str × Addr)) (C:Addr) (N:List Str) (s₀:Shared) (H₀:Hp) (fp:List Addr):Cx :=
 { cxBlk X scope cl C N s₀ H₀ fp with fn:=λy=>match cl.lookup y with | some c=>decide (s₀.heap.objs.size<=c) | none=>false }
theorem Qq5 {clx:List (Str × Addr)} (I:Inv X pins σ H s) (B:BlkScopeC X.env scope x)
  (h1:∀y c,clx.lookup y=some c->(y=x/\c=C+1)\/X.env.cells.lookup y=some c) (hx:clx.lookup x=some (C+1)) (h3:∀y∈scope.names,y.2=.free->∃c,clx.lookup y.1=some c) (hC:s.heap.objs.size<=C) (hf:∀b∈fp,FpOk X pins H b) (hl:∀b∈fp,b<s.heap.objs.size) :
  (Qed X scope clx C N s H fp).Ok/\(cxBlk X scope clx C N s H fp).Ok:=by
 have lt:∀y c,X.env.cells.lookup y=some c->c<s.heap.objs.size:=λy c q=>by obtain ⟨v,z⟩:=I.cell y c q;exact z.lt
 have inj:∀y z c,clx.lookup y=some c->clx.lookup z=some c->y=z:=λy z c q r=>by
  rcases h1 y c q with ⟨rfl,rfl⟩ | q
  ·rcases h1 z _ r with ⟨rfl,_⟩ | r
   ·rfl
   ·exact absurd (Nat.lt_of_lt_of_le (lt z _ r) hC) (Nat.not_lt.mpr (Nat.le_succ C))
  ·rcases h1 z c r with ⟨rfl,rfl⟩ | r
   ·exact absurd (Nat.lt_of_lt_of_le (lt y _ q) hC) (Nat.not_lt.mpr (Nat.le_succ C))
   ·exact I.ok.inj y z c q r
 have has:∀y,((relabel scope X.env).names.lookup y=some .cell\/(relabel scope X.env).names.lookup y=some .free)->∃c,clx.lookup y=some c:=λy hy=>by
  have m:y=x\/(y,NameKind.free)∈scope.names:=by
   rcases hy with q | q
   ·exact Vo B.only (.inl rfl) q
   ·exact Vo B.only (.inr rfl) q
  rcases m with rfl | m
  ·exact ⟨_,hx⟩
  ·exact h3 _ m rfl
 have exf:∀b∈fp,b≠C/\∀y c,clx.lookup y=some c->c≠b:=λb hb=>by
  refine ⟨Nat.ne_of_lt (Nat.lt_of_lt_of_le (hl b hb) hC),λy c q=>?_⟩
  rcases h1 y c q with ⟨_,rfl⟩ | q
  ·exact Nat.ne_of_gt (Nat.lt_succ_of_lt (Nat.lt_of_lt_of_le (hl b hb) hC))
  ·exact (hf b hb).2.2.2.2.1 y c q
 have noex:∀b o,X.base.get? b=some o->b∉fp:=λb o e hb=>by
  rcases (hf b hb).2.2.2.1 with z | z
  ·exact I.ok.noex b o e z
  ·exact absurd (Nat.lt_of_lt_of_le (Heap.lt_size e) (Nat.le_trans I.ok.bsz z)) (Nat.lt_irrefl _)
 have exfs:∀b∈fp,b∉frs X.stack:=λb hb z=>by
  have z':=I.stkSub b z
  rcases List.mem_cons.mp z' with q | q
  ·exact (hf b hb).2.1 q
  ·exact (hf b hb).2.2.1 q
 refine ⟨⟨I.ok.mod,by show (relabel scope X.env).kind=_;exact B.kind,I.ok.glob,I.ok.blt,hC,inj,has,λy c q e=>?_,I.ok.hd,I.ok.frames,.inl rfl,exf,I.bs,Nat.le_trans I.ok.bsz I.sz,noex,exfs,I.stack,I.stkFree⟩,
  ⟨I.ok.mod,by show (relabel scope X.env).kind=_;exact B.kind,I.ok.glob,I.ok.blt,hC,inj,has,λy c q=>(by cases (show false=true from q)),I.ok.hd,I.ok.frames,.inl rfl,exf,I.bs,Nat.le_trans I.ok.bsz I.sz,noex,exfs,I.stack,I.stkFree⟩⟩
 have q:(match clx.lookup y with | some c=>decide (s.heap.objs.size<=c) | none=>false)=true:=q
 have e:clx.lookup y=some c:=e
 rw [e] at q
 exact of_decide_eq_true q
theorem Qkw {ix:List Nat}
  (I:Inv X pins σ H s) (hc:X.calm=true) (B:BlkScopeC X.env scope x) (h1:∀y c,cl.lookup y=some c->X.env.cells.lookup y=some c) (h3:∀y∈scope.names,y.2=.free->∃c,cl.lookup y.1=some c)
  (hix:∀i∈ix,∃y,X.N[i]? = some y/\scope.names.lookup y=some .free) (hN:(bN X.N x ix).Nodup)
  (T:Turn X.prog X.w X.K (.Name x px) J fp it tn) (st:tn 0 s.heap) (hf:∀b∈fp,FpOk X pins H b)
  (he:∀cl C s₀ H₀ fp,PE (cxBlk X scope cl C (bN X.N x ix) s₀ H₀ fp) elt te)
  (hi:∀cl C s₀ H₀ fp,PIfs (cxBlk X scope cl C (bN X.N x ix) s₀ H₀ fp) ifs tt)
  (W:Nat->Nat->List V->Hp->Prop) (m₀:Nat) (w0:W 0 m₀ [] H)
  (turn:∀i m ys H,W i m ys H->(J.stop i H/\ys.length<=sizeLine/\G ys H)\/(J.go i H/\ys.length<sizeLine/\∀v H',J.yld i H v H' ->
    tt (bS σ (some v) ix) H' λb H1=>if b=true then te (bS σ (some v) ix) H1 λy H2=>∃m',m' < m/\W (i+1) m' (ys++[y]) H2 else ∃m',m' < m/\W (i+1) m' ys H1))
  (hRR:∀D C s' ys H',Inv X pins σ (upd H' D (.lst ys)) s'->H' D=none->H' C=none->(∃m,s'.heap.Ns C m)->s.heap.objs.size<=C->D≠C->G ys H'->RR (.ref D) C (.ok .next) s') :
  wpAny (model X.prog X.w) X.A (newList []) (λacc s₃=>wpAny (model X.prog X.w) X.A (newFunctionEnv scope X.env.globals cl [] X.env.qual none .none (some X.env)) (λcenv s₄ =>
   codeAny (model X.prog X.w) X.A (.compStart (.ListComp elt [⟨.Name x px,iter,ifs,0⟩] scope pos) 0 (.ref it) acc { cenv with scope:=relabel scope X.env }) (RR acc cenv.locals) s₄) E s₃) E s:=by
 have hl:∀b∈fp,b<s.heap.objs.size:=λb hb=>by obtain ⟨o,e,_⟩:=T.obj 0 _ st b hb;exact Heap.lt_size e
 refine wpAny_newObj_type (Qmm B.one B.push (λh₁ hns₁ hcell₁ old₁=>?_))
 dsimp only at hns₁ hcell₁ old₁ ⊢
 generalize hH2:s.heap.push { cls:=.type "list",dict:=none,data:=.seq ([]:List Value).toArray }=H2 at hns₁ hcell₁ old₁ ⊢
 have hC:H2.objs.size=s.heap.objs.size+1:=by rw [← hH2,Heap.size_push]
 generalize hD:s.heap.objs.size=D at hC hl hRR ⊢
 generalize hCC:H2.objs.size=C at hC hns₁ hcell₁ old₁ ⊢
 have hDC:D≠C:=by omega
 have old:∀b o,s.heap.get? b=some o->h₁.get? b=some o:=λb o e=>old₁ b o (hH2 ▸ Heap.get?_push_of_some _ e)
 have hacc:h₁.get? D=some { cls:=.type "list",data:=.seq ([]:List Value).toArray 0 }:=old₁ _ _ (hH2 ▸ (by rw [← hD];exact Heap.get?_push_size _ rfl))
 have hfr:∀a,D<=a->s.heap.get? a=none:=λa ha=>by
  cases e:s.heap.get? a with
  | none=>rfl
  | some o=>exact absurd (Heap.lt_size e) (by rw [hD];exact Nat.not_lt.mpr ha)
 have hHn:∀a,D<=a->H a=none:=λa ha=>I.hok.fresh (by omega)
 generalize hclx:(x,C+1)::cl=clx
 have h1x:∀y c,clx.lookup y=some c->(y=x/\c=C+1)\/X.env.cells.lookup y=some c:=λy c q=>by
  rw [← hclx,List.lookup_cons] at q
  cases hq:y == x with
  | true=>rw [hq] at q;exact .inl ⟨beq_iff_eq.mp hq,(Option.some.inj q).symm⟩
  | false=>rw [hq] at q;exact .inr (h1 y c q)
 have hxx:clx.lookup x=some (C+1):=by rw [← hclx,List.lookup_cons,beq_self_eq_true]
 have h3x:∀y∈scope.names,y.2=.free->∃c,clx.lookup y.1=some c/\X.env.cells.lookup y.1=some c:=λy hy hk=>by
  obtain ⟨c,hc'⟩:=h3 y hy hk
  refine ⟨c,?_,h1 _ _ hc'⟩
  rw [← hclx,List.lookup_cons]
  cases hq:y.1 == x with
  | true=>exact absurd (beq_iff_eq.mp hq) (B.apart y hy hk)
  | false=>exact hc'
 have oks:=Qq5 (N:=bN X.N x ix) I B h1x hxx (λy hy hk=>(h3x y hy hk).imp λc q=>q.1) (by omega) hf (by rw [hD];exact hl)
 obtain ⟨ok,ok0⟩:=oks
 have toK:∀{pins:List (Addr × Obj)} {σ:St} {H':Hp} {s':Shared},Inv (cxBlk X scope clx C (bN X.N x ix) s H fp) pins σ H' s'->Inv (Qed X scope clx C (bN X.N x ix) s H fp) pins σ H' s':=λI=>⟨ok,I.os,I.bare,I.base,I.loc,I.cell,I.free,I.freeC,I.pin,I.hok,I.len⟩
 have ofK:∀{pins:List (Addr × Obj)} {σ:St} {H':Hp} {s':Shared},Inv (Qed X scope clx C (bN X.N x ix) s H fp) pins σ H' s'->Inv (cxBlk X scope clx C (bN X.N x ix) s H fp) pins σ H' s':=λI=>⟨ok0,I.os,I.bare,I.base,I.loc,I.cell,I.free,I.freeC,I.pin,I.hok,I.len⟩
 have he':=he clx C s H fp
 have hi':=hi clx C s H fp
 have kfn:(Qed X scope clx C (bN X.N x ix) s H fp).fn x=true:=by
  show (match clx.lookup x with | some c=>decide (s.heap.objs.size<=c) | none=>false)=true
  rw [hxx];exact decide_eq_true (by rw [hD];omega)
 generalize hK0:cxBlk X scope clx C (bN X.N x ix) s H fp=K0 at ok0 toK ofK he' hi'
 have k0p:K0.prog=X.prog:=by rw [← hK0];rfl
 have k0w:K0.w=X.w:=by rw [← hK0];rfl
 have k0A:K0.A=X.A:=by rw [← hK0];rfl
 have k0x:K0.xe=λ_ _=>False:=by rw [← hK0];rfl
 have k0e:K0.env=compEnvC scope clx C X.env:=by rw [← hK0];rfl
 generalize hK:Qed X scope clx C (bN X.N x ix) s H fp=K at ok toK ofK kfn
 have kp:K.prog=X.prog:=by rw [← hK];rfl
 have kw:K.w=X.w:=by rw [← hK];rfl
 have kK:K.K=X.K:=by rw [← hK];rfl
 have kA:K.A=X.A:=by rw [← hK];rfl
 have kc:K.calm=true:=by rw [← hK];exact hc
 have kN:K.N=bN X.N x ix:=by rw [← hK];rfl
 have kenv:K.env=compEnvC scope clx C X.env:=by rw [← hK];rfl
 have kloc:K.env.locals=C:=by rw [← hK];rfl
 have kfs:K.fs=frs X.stack:=by rw [← hK];rfl
 have kex:K.ex=fp:=by rw [← hK];rfl
 have kpn:K.pn=[]:=by rw [← hK];rfl
 have ks:K.s₀=s:=by rw [← hK];rfl
 have kH:K.H₀=H:=by rw [← hK];rfl
 have kx:K.xe=λ_ _=>False:=by rw [← hK];rfl
 have kcl:K.env.cells=clx:=by rw [← hK];rfl
 have cellLt:∀y c,clx.lookup y=some c->c≠D:=λy c q=>by
  rcases h1x y c q with ⟨_,z⟩ | q
  ·omega
  ·obtain ⟨v,z⟩:=I.cell y c q;have:=z.lt;rw [hD] at this;exact Nat.ne_of_lt this
 have stkLt:∀b∈frs X.stack,b<D:=λb hb=>by
  rcases List.mem_cons.mp (I.stkSub b hb) with q | q
  ·rw [q,← hD];exact I.lt
  ·rcases Nat.lt_or_ge b D with z | z
   ·exact z
   ·exact absurd q (I.nofs (by omega))
 -- the state at the block's begin
 have I0:∀tk,Inv K [(D,{ cls:=.type "list",data:=.seq ([]:List Value).toArray 0 })] (bS σ none ix) H { s with heap:=h₁,toks:=tk }:=λtk=>by
  refine ⟨ok,by rw [ks],I.bare,by rw [ks,kH];exact Un.kept old,?_,?_,?_,?_,?_,by rw [kp,kw];exact I.hok.kept old,?_⟩
  ·refine ⟨_,by rw [kloc];exact hns₁,λi y v e1 e2 e3=>?_⟩
   rw [kN] at e1
   cases i with
   | zero =>
    have:(none:Option V)=some v:=by simpa [bS] using e2
    cases this
   | succ i =>
    have e1':(ix.map λi=>X.N.getD i Str.empty)[i]? = some y:=by simpa [bN] using e1
    have e2':(ix.map λi=>(σ[i]?).getD none)[i]? = some (some v):=by simpa [bS] using e2
    rw [List.getElem?_map] at e1' e2'
    cases q:ix[i]? with
    | none=>rw [q] at e1';cases e1'
    | some j =>
     rw [q] at e1' e2'
     obtain ⟨y',a1,a2⟩:=hix j (List.mem_of_getElem? q)
     have a3:X.N.getD j Str.empty=y':=by simp [List.getD,a1]
     have ey:y'=y:=by rw [← a3];exact Option.some.inj e1'
     subst ey
     have es:σ[j]? = some (some v):=by
      have z:(σ[j]?).getD none=some v:=Option.some.inj e2'
      cases w:σ[j]? with
      | none=>rw [w] at z;cases z
      | some o=>rw [w] at z;have z':o=some v:=z;rw [z']
     obtain ⟨m,hn,hlk⟩:=I.loc
     have hk:=B.free (y',.free) (PySem.mem_of_lookup a2) rfl
     have hk:X.env.kindOf y'=some .cell\/X.env.kindOf y'=some .free:=hk
     have vis:Vis X.env.scope y':=hk.elim (λz=>.inr (.inl z)) λz=>.inr (.inr z)
     obtain ⟨u,ru,lk⟩:=hlk j y' v a1 es vis
     refine ⟨u,ru,?_⟩
     rcases lk with ⟨k,_⟩ | ⟨_,c,ec,ce⟩
     ·rcases hk with z | z <;> (rw [k] at z;cases z)
     ·obtain ⟨c',ec',ex'⟩:=h3x (y',.free) (PySem.mem_of_lookup a2) rfl
      have ec':clx.lookup y'=some c':=ec'
      have ex':X.env.cells.lookup y'=some c':=ex'
      have:c'=c:=Option.some.inj (ex'.symm.trans ec)
      subst this
      refine .inr ⟨?_,c',by rw [kcl];exact ec',?_⟩
      ·show K.env.scope.names.lookup y'=_\/K.env.scope.names.lookup y'=_
       rw [kenv]
       exact Yc a2
      ·obtain ⟨oc,hoc,r⟩:=ce
       exact ⟨oc,old _ _ hoc,r⟩
  ·intro y c q
   rw [kcl] at q
   rcases h1x y c q with ⟨_,rfl⟩ | q
   ·exact ⟨none,hcell₁⟩
   ·obtain ⟨v,oc,hoc,r⟩:=I.cell y c q
    exact ⟨v,oc,old _ _ hoc,r⟩
  ·rw [kloc];exact hHn _ (by omega)
  ·intro y c q
   rw [kcl] at q
   rcases h1x y c q with ⟨_,rfl⟩ | q
   ·exact hHn _ (by omega)
   ·exact I.freeC y c q
  ·intro p hp
   rw [kpn] at hp
   have e:p=(D,{ cls:=.type "list",data:=.seq ([]:List Value).toArray 0 }):=by simpa using hp
   subst e
   refine ⟨hacc,hHn _ (Nat.le_refl _),by rw [kloc];exact hDC,?_,λv z=>?_⟩
   ·rw [kfs];intro z;exact absurd (stkLt D z) (Nat.lt_irrefl _)
   ·have z':Data.seq _ _=Data.cell v:=z
    cases z'
  ·rw [kN];simp [bS,bN]
 have stat:∀{H':Hp} {ob:Obj},(∀b∈fp,H' b=none)->∀b∈fp,FpOk K [(D,ob)] H' b:=λ{H' ob} hn b hb=>by
  refine ⟨hn b hb,?_,?_,.inl (by rw [kex];exact hb),?_,?_⟩
  ·rw [kloc];exact Nat.ne_of_lt (Nat.lt_of_lt_of_le (hl b hb) (by rw [hC];exact Nat.le_succ _))
  ·rw [kfs];intro z
   rcases List.mem_cons.mp (I.stkSub b z) with q | q
   ·exact (hf b hb).2.1 q
   ·exact (hf b hb).2.2.1 q
  ·intro y c q;rw [kcl] at q
   rcases h1x y c q with ⟨_,rfl⟩ | q
   ·exact Nat.ne_of_gt (Nat.lt_trans (hl b hb) (by omega))
   ·exact (hf b hb).2.2.2.2.1 y c q
  ·intro p hp;rw [kpn] at hp
   have e:p=(D,ob):=by simpa using hp
   subst e
   exact Nat.ne_of_gt (hl b hb)
 have st₁:tn 0 h₁:=T.keep _ _ _ st λb hb o e=>old b o e
 have loop:∀tk,codeAny (model X.prog X.w) X.A (.compLoop (.ListComp elt [⟨.Name x px,iter,ifs,0⟩] scope pos) 0 (.ref it) (.ref D) (compEnvC scope clx C X.env)) (RR (.ref D) C) { s with heap:=h₁,toks:=tk }:=by
  intro tk
  refine codeAny_compLoop_tests (λn s'=>∃i o H' ys its c,Inv K [(D,{ cls:=.type "list",data:=.seq (its:List Value).toArray c })] (bS σ o ix) H' s'/\Vals ys its/\tn i s'.heap/\(∀b∈fp,H' b=none)/\W i n ys H') ?_ m₀
   ⟨0,none,H,[],[],0,I0 tk,.nil,st₁,λb hb=>(hf b hb).1,w0⟩
  rintro n s1 ⟨i,o,H1,ys,its,c,I1,rv,t1,f1,w1⟩
  rcases turn i n ys H1 w1 with ⟨stop,hz,g⟩ | ⟨go,hz,step⟩
  ·have dn:=T.done K kp kw kK kc i _ s1 _ H1 (notedBy (model X.prog X.w) X.A (compEnvC scope clx C X.env) λe s'=>RR (.ref D) C (.error e) s') I1 (stat f1) t1 stop
   rw [kA] at dn
   refine thn dn λr s2 ⟨hr,I2⟩=>?_
   subst hr
   obtain ⟨p1,p2,p3,p4,p5⟩:=I2.pin (D,{ cls:=.type "list",data:=.seq its.toArray c }) (List.mem_append_right _ (List.mem_singleton.mpr rfl))
   have u2:=I2.base
   rw [kfs,kex,kH,ks] at u2
   refine hRR D C s2 ys H1 ?_ p2 (by rw [← kloc];exact I2.free) (by obtain ⟨m,hm,_⟩:=I2.loc;rw [kloc] at hm;exact ⟨m,hm⟩) (by omega) hDC g
   have hk2:HOk X.prog X.w H1 s2.heap:=by have:=I2.hok;rw [kp,kw] at this;exact this
   refine I.call' (ch:=fp) (by have:=I2.os;rw [ks] at this;exact this) (u2.add (hfr D (Nat.le_refl _)) (hHn D (Nat.le_refl _))) (hk2.add p2 ⟨hz,its,c,rv,p1⟩) I2.bare λb hb=>?_
   exact ⟨(hf b hb).2.2.2.1,(hf b hb).2.1,(hf b hb).2.2.2.2.1,(hf b hb).2.2.2.2.2⟩
  ·have im:=T.item K kp kw kK kc i _ s1 _ H1 (notedBy (model X.prog X.w) X.A (compEnvC scope clx C X.env) λe s'=>RR (.ref D) C (.error e) s') I1 (stat f1) t1 go
   rw [kA] at im
   refine thn im λr s2 ⟨u,hr,h2⟩=>?_
   subst hr
   show wpAny _ _ (assign (.Name x px) (compEnvC scope clx C X.env) u) _ _ s2
   have h2':wpAny (model X.prog X.w) X.A (pure ():Sem Unit) _ _ s2:=h2
   suffices q:wpAny (model X.prog X.w) X.A ((pure ():Sem Unit) >>= λ_=>assign (.Name x px) (compEnvC scope clx C X.env) u) _ _ s2 from q
   refine wpAny_bind (thn h2' λ_ s3 ⟨v,H3,I3,r3,y3,t3,f3⟩=>?_)
   have q3:=step v H3 y3
   have I3':=I3.pinned (stat f3) (T.obj _ _ t3)
   rw [← kenv]
   refine wpAny_assign_Name (Qb2 I3' (i:=0) (x:=x) (by rw [kN];exact hN) (by rw [kN];rfl) (.inr (by rw [kenv];exact U0 B.lx)) r3 (λs4 I4=>?_) (.inl kfn))
   have I4:Inv K ([(D,{ cls:=.type "list",data:=.seq its.toArray c })]++Qaj fp s3.heap) (bS σ (some v) ix) H3 s4:=I4
   have hiv:=hi' _ s4 _ H3 _ (ofK I4) q3
   rw [k0x,k0p,k0w,k0A] at hiv
   rw [kenv,← k0e]
   refine wpAny_mono hiv (λok s5 ⟨H5,I5,q5⟩=>?_) λ_ _ z=>z.elim
   have I5:=toK I5
   have back:∀{H7:Hp} {s7:Shared} {o7:Option V},Inv K ([(D,{ cls:=.type "list",data:=.seq its.toArray c })]++Qaj fp s3.heap) (bS σ o7 ix) H7 s7->tn (i+1) s7.heap/\∀b∈fp,H7 b=none:=λ{H7 s7 o7} I7=>by
    refine ⟨T.keep _ _ _ t3 λb hb o e=>(I7.pin (b,o) (List.mem_append_right _ (List.mem_append_right _ (Zg hb e)))).1,λb hb=>?_⟩
    obtain ⟨ob,e,d⟩:=T.obj _ _ t3 b hb
    exact (I7.pin (b,ob) (List.mem_append_right _ (List.mem_append_right _ (Zg hb e)))).2.1
   cases ok with
   | false =>
    rw [if_neg Bool.false_ne_true]
    have q5:∃m',m' < n/\W (i+1) m' ys H5:=q5
    obtain ⟨m',hm,w5⟩:=q5
    obtain ⟨b1,b2⟩:=back I5
    exact ⟨m',hm,i+1,some v,H5,ys,its,c,I5.unpinned,rv,b1,b2,w5⟩
   | true =>
    rw [if_pos rfl]
    have q5:te (bS σ (some v) ix) H5 λy H2=>∃m',m' < n/\W (i+1) m' (ys++[y]) H2:=q5
    have hev:=he' _ s5 _ H5 _ (ofK I5) q5
    rw [k0x,k0p,k0w,k0A] at hev
    refine wpAny_mono hev (λy s6 ⟨yv,H6,I6,r6,m',hm,w6⟩=>?_) λ_ _ z=>z.elim
    have I6:=toK I6
    obtain ⟨b1,b2⟩:=back I6
    have I6':=I6.unpinned
    obtain ⟨p1,p2,p3,p4,p5⟩:=I6'.pin (D,{ cls:=.type "list",data:=.seq its.toArray c }) (List.mem_append_right _ (List.mem_singleton.mpr rfl))
    have hlen:=rv.length
    refine call_meets F.slot_list_append ⟨_,p1,rfl⟩ F.entry_list_append (F.args_list_append_2 _ _) (PySem.list_append D its.toArray c y (by rw [List.size_toArray];omega)) ⟨p1,?_⟩
    have ea:its.toArray.push y=(its++[y]).toArray:=by simp
    obtain ⟨c',q⟩:∃c',(s6.heap.update D (Obj.mapSeq (·.push y))).get? D=some { cls:=.type "list",data:=.seq (its++[y]).toArray c' }:=⟨_,by rw [← ea];exact PySem.IsL.update p1 (·.push y)⟩
    refine ⟨m',hm,i+1,some v,H6,ys++[yv],its++[y],c',?_,rv.append (.cons r6 .nil),T.keep _ _ _ b1 λb hb o e=>?_,b2,w6⟩
    ·have Id:Inv K [] (bS σ (some v) ix) H6 s6:=I6'.pins_of λp hp=>by simp at hp
     have It:Inv K [] (bS σ (some v) ix) H6 { s6 with heap:=s6.heap.update D (Obj.mapSeq (·.push y)) }:=Id.turned (t':=s6.toks) (it:=D) (λb o hb e=>(Heap.get?_update_other _ _ (Ne.symm hb)).trans e) p2 p3
      (.inr (by rw [ks];omega)) (λy' c' e=>by rw [kcl] at e;exact cellLt y' c' e) (λp hp=>by rw [kpn] at hp;simp at hp)
     refine It.pins_of λp hp=>?_
     obtain rfl:p=(D,{ cls:=.type "list",data:=.seq (its++[y]).toArray c' }):=by simpa using hp
     refine ⟨q,p2,p3,p4,λv z=>?_⟩
     have z':Data.seq _ _=Data.cell v:=z
     cases z'
    ·exact (Heap.get?_update_other _ _ (Nat.ne_of_gt (hl b hb))).trans e
 have selfs:wpAny (model X.prog X.w) X.A (pyIter (.ref it)) (λit' s'=>codeAny (model X.prog X.w) X.A (.compLoop (.ListComp elt [⟨.Name x px,iter,ifs,0⟩] scope pos) 0 it' (.ref D) (compEnvC scope clx C X.env)) (RR (.ref D) C) s')
   (notedBy (model X.prog X.w) X.A (compEnvC scope clx C X.env) λe s'=>RR (.ref D) C (.error e) s') { s with heap:=h₁,toks:=s.toks+([]:List (Str × Value)).length }:=T.self X.A 0 _ _ _ st₁ (loop _)
 exact codeAny_compStart_list (loop _) selfs
theorem Qk8 (I:Inv X pins σ H s) (B:BlkScopeC X.env scope x):∀y∈scope.names,y.2=.free->∃c,X.env.cells.lookup y.1=some c :=
 λy hy hf=>I.ok.has y.1 (B.free y hy hf)
theorem Ql2 (ix:List Nat) (hc:X.calm=true) (B:BlkScopeC X.env scope x)
  (hNd:X.N.Nodup) (hj:X.N[j]? = some y) (hy:Loc X.env.scope y)
  (hsw:swapsWith (.ListComp elt [⟨.Name x px,iter,ifs,0⟩] scope pos) (some (.Name y py)) spos.line X.env=pure true)
  (hix:∀i∈ix,∃y,X.N[i]? = some y/\scope.names.lookup y=some .free) (hN:(bN X.N x ix).Nodup) (hi:PI X (.Name x px) iter wi)
  (ht:∀cl C s₀ H₀ fp,PIfs (cxBlk X scope cl C (bN X.N x ix) s₀ H₀ fp) ifs tt)
  (he:∀cl C s₀ H₀ fp,PE (cxBlk X scope cl C (bN X.N x ix) s₀ H₀ fp) elt te)
  (hf:X.fn y=true\/X.env.scope.names.lookup y=some .local:=by first | exact .inl rfl | exact .inr rfl | assumption)
  (hs:∀x,foldedSetIterable iter X.env x=pure x:=by intro _;rfl) :
  PS X (.Assign [.Name y py] (.ListComp elt [⟨.Name x px,iter,ifs,0⟩] scope pos) spos) (tAsg (Qoy wi tt te ix) (V1 j)):=by
 intro pins s σ H D0 I h
 obtain ⟨cl,hcl,h1,h3⟩:=Vw (Qk8 I B)
 rw [exec_Assign_Name_used _ _ _ _ hsw]
 refine wpAny_bind (wpAny_standAt (wpAny_bind ?_))
 show wpAny _ X.A (do let _ ← comprehension (.ListComp elt [⟨.Name x px,iter,ifs,0⟩] scope pos) scope X.env _ (newList []) false (eval iter X.env) (some (assign (.Name y py) X.env))) _ _ s
 refine wpAny_bind (wpAny_mono (wpAny_comprehension_free (use:=some (assign (.Name y py) X.env)) (Q:=λ_ s'=>SP X pins D0 .next s') rfl hs hcl B.kind B.names
  (thn (hi pins s σ H _ I h) λv s1 h1'=>thn h1' λitv s2 h2=>?_)) (λ_ s' hq=>wpAny_pure (wpAny_pure hq)) λ_ _ e=>e)
 obtain ⟨it,fp,tn,J,H2,e,I2,T,st2,f2,W,m0,w0,turn⟩:=h2
 subst e
 refine Qkw (G:=λys H'=>∀l,H' l=none->V1 j (.ref l) σ (upd H' l (.lst ys)) D0.nx) I2 hc B h1 h3 hix hN T st2 f2 he ht W m0 w0 turn λD C s' ys H' I' hD hC hm hCs hDC g=>?_
 obtain ⟨m,hm⟩:=hm
 have hCn:upd H' D (.lst ys) C=none:=by rw [Qq (Ne.symm hDC)];exact hC
 show wpAny _ _ (assign (.Name y py) X.env (.ref D)) _ _ s'
 refine wpAny_assign_Name (X6 I' hNd hj hy (show RelV (.ref D) (.ref D) from rfl) (λs3 I3 ⟨a,hsa,ha⟩=>?_) hf)
 have hCa:C≠a:=by
  rcases ha with z | z
  ·rw [z];exact Nat.ne_of_gt (Nat.lt_of_lt_of_le I2.lt hCs)
  ·obtain ⟨v,q⟩:=I2.cell y a z;exact Nat.ne_of_gt (Nat.lt_of_lt_of_le q.lt hCs)
 exact ⟨m,hm.sameBut hsa hCa,λh' hsb=>⟨_,_,I2.blkGone I3 hCs hCn hsb,g D hD⟩⟩
theorem Qmw (hd:(d == sysModules)=false) (ho:s.heap.get? d=some od) (hc:od.ExactDict) (hdat:od.data=.dict es ep)
  (hQ:Q (.ref s.heap.objs.size) { s with heap:=s.heap.push { cls:=.type "dict_keyiterator",data:=.fields #[.ref d,.int 0 0,.int es.size 0,.int ep 0] } }) :
  wpAny (model prog w) A (pyIter (.ref d)) Q E s:=by
 have hT:s.TypeIs (.ref d) "dict":=⟨od,ho,hc.1⟩
 refine wpAny_pyIter_slot hT F.slot_dict_iter (wpAny_call_entry F.slot_dict_iter hT F.entry_dict_iter ?_ (F.args_dict_iter_1 _))
 unfold Builtin.«dict.__iter__»
 refine wpAny_bind ?_
 unfold Builtin.Dict.dictSlotNone
 refine wpAny_bind (wpAny_notOrdered_dict hT ?_)
 show wpAny _ _ (pure (Value.ref d)) _ _ s
 refine wpAny_pure ?_
 show wpAny _ _ (Builtin.Dict.showsAll d >>= _) _ _ s
 unfold Builtin.Dict.showsAll
 rw [if_neg (by rw [hd];exact Bool.false_ne_true)]
 refine wpAny_bind (wpAny_pure (wpAny_bind (wpAny_dictEntries ho hdat (wpAny_bind (wpAny_dictEpoch ho hdat ?_)))))
 refine wpAny_bind (wpAny_newObj_type (wpAny_pure ⟨_,rfl,"dict_keyiterator",_,⟨_,Heap.get?_push_size _ rfl,rfl⟩,F.slot_dict_keyiterator_next.lookup,?_⟩))
 simpa [rawInt] using hQ
theorem Qmn {e:DictEntry} {Q:Option Value->Shared->Prop} (hit:s.heap.IsKeyIter it d i es.size ep) (hod:s.heap.get? d=some od) (hdd:od.data=.dict es ep) (hx:es[i]? = some e)
  (hQ:∀h',h'.IsKeyIter it d (i+1) es.size ep->Heap.SameBut it s.heap h'->Q (some e.key) { s with heap:=h' }):wpAny (model prog w) A (pyNext (.ref it)) Q E s:=by
 obtain ⟨o,ho,hc,hd⟩:=id hit
 unfold pyNext
 refine wpAny_bind (wpAny_attempt (wpAny_callSpecial?_slot (name:=Str.ofString "__next__") hit.typeIs F.slot_dict_keyiterator_next
  (wpAny_call_entry F.slot_dict_keyiterator_next hit.typeIs F.entry_dict_keyiterator_next ?_ (F.args_dict_keyiterator_next_1 _))))
 refine wpAny_bind (wpAny_pure (wpAny_bind (wpAny_bind ?_)))
 first | refine wpAny_bind (wpAny_typeNameOfWhole_keyiter hit.typeIs (wpAny_pure ?_)) | refine wpAny_bind (wpAny_typeNameOf_keyiter hit.typeIs (wpAny_pure ?_))
 refine wpAny_bind (wpAny_fieldsOf ho hd ?_)
 simp only [show Builtin.Dict_items.ownsTuple "dict_keyiterator" = false by decide,Bool.false_eq_true,if_false]
 show wpAny _ _ (if (Value.ref d == Value.none)=true then _ else _) _ _ s
 rw [if_neg (show ¬((Value.ref d == Value.none)=true) from Bool.false_ne_true)]
 refine wpAny_bind (wpAny_pure (wpAny_bind (wpAny_dictEntries hod hdd ?_)))
 rw [if_neg (by simp)]
 refine wpAny_bind (wpAny_pure (wpAny_bind (wpAny_dictEpoch hod hdd ?_)))
 rw [if_neg (by simp)]
 refine wpAny_pure ?_
 simp only [show ¬((i:Int)<0) from by omega,if_false,Int.toNat_natCast,hx]
 refine wpAny_bind ?_
 first | refine wpAny_bind (wpAny_typeNameOfWhole_keyiter hit.typeIs (wpAny_pure ?_)) | refine wpAny_bind (wpAny_typeNameOf_keyiter hit.typeIs (wpAny_pure ?_))
 refine wpAny_bind (wpAny_isOneOf_keyiter hit.typeIs ?_)
 show wpAny _ _ (setField (.ref it) 1 (rawInt ((i:Int)+1)) >>= _) _ _ s
 refine wpAny_bind (wpAny_setField ho hd (by simp) ?_)
 have hit':(s.heap.update it (Obj.mapFields (·.setIfInBounds 1 (rawInt ((i:Int)+1))))).IsKeyIter it d (i+1) es.size ep :=
  ⟨_,Heap.get?_update_self _ ho (Obj.isFreed_of_fields (Obj.data_mapFields hd _)),(Obj.cls_mapFields ..).trans hc,by rw [Obj.data_mapFields hd];simp [rawInt]⟩
 refine wpAny_bind (wpAny_holding (wpAny_bind (wpAny_isOneOf_keyiter (s:={ s with heap:=s.heap.update it (Obj.mapFields (·.setIfInBounds 1 (rawInt ((i:Int)+1)))) }) hit'.typeIs ?_)))
 show wpAny _ _ (pure e.key) _ _ _
 exact wpAny_pure (wpAny_pure ⟨_,rfl,wpAny_pure (hQ _ hit' (Heap.SameBut.update ..))⟩)
theorem Qqp {Q:Option Value->Shared->Prop} (hh:A.handled=none) (hit:s.heap.IsKeyIter it d i es.size ep) (hod:s.heap.get? d=some od) (hdd:od.data=.dict es ep) (hx:es.size<=i)
  (hQ:∀h',Heap.ExtBut it s.heap h'->Q none { s with heap:=h' }):wpAny (model prog w) A (pyNext (.ref it)) Q E s:=by
 obtain ⟨o,ho,hc,hd⟩:=id hit
 unfold pyNext
 refine wpAny_bind (wpAny_attempt (wpAny_callSpecial?_slot (name:=Str.ofString "__next__") hit.typeIs F.slot_dict_keyiterator_next
  (wpAny_call_entry F.slot_dict_keyiterator_next hit.typeIs F.entry_dict_keyiterator_next ?_ (F.args_dict_keyiterator_next_1 _))))
 refine wpAny_bind (wpAny_pure (wpAny_bind (wpAny_bind ?_)))
 first | refine wpAny_bind (wpAny_typeNameOfWhole_keyiter hit.typeIs (wpAny_pure ?_)) | refine wpAny_bind (wpAny_typeNameOf_keyiter hit.typeIs (wpAny_pure ?_))
 refine wpAny_bind (wpAny_fieldsOf ho hd ?_)
 simp only [show Builtin.Dict_items.ownsTuple "dict_keyiterator" = false by decide,Bool.false_eq_true,if_false]
 show wpAny _ _ (if (Value.ref d == Value.none)=true then _ else _) _ _ s
 rw [if_neg (show ¬((Value.ref d == Value.none)=true) from Bool.false_ne_true)]
 refine wpAny_bind (wpAny_pure (wpAny_bind (wpAny_dictEntries hod hdd ?_)))
 rw [if_neg (by simp)]
 refine wpAny_bind (wpAny_pure (wpAny_bind (wpAny_dictEpoch hod hdd ?_)))
 rw [if_neg (by simp)]
 refine wpAny_pure ?_
 simp only [show ¬((i:Int)<0) from by omega,if_false,Int.toNat_natCast,Array.getElem?_eq_none hx]
 refine wpAny_bind ?_
 first | refine wpAny_bind (wpAny_typeNameOfWhole_keyiter hit.typeIs (wpAny_pure ?_)) | refine wpAny_bind (wpAny_typeNameOf_keyiter hit.typeIs (wpAny_pure ?_))
 show wpAny _ _ (setField (.ref it) 0 .none >>= _) _ _ s
 refine wpAny_bind (wpAny_setField ho hd (by simp) ?_)
 show wpAny _ _ (newExc (.type "StopIteration") [] >>= _) _ _ _
 refine wpAny_bind ?_
 simp only [newExc,newTuple]
 refine wpAny_bind (wpAny_newObj_type ?_ (by size_fits))
 refine wpAny_bind (m:=firstArgMember _ _) (wpAny_of_eq (a:=Value.none) (by first | rfl | (simp only [firstArgMember];rfl)) ?_)
 refine wpAny_newObj_type ?_ (by size_fits)
 simp only [raiseNew]
 refine wpAny_bind (wpAny_handled ?_)
 rw [show A.in1.handled=none from hh]
 refine wpAny_bind (wpAny_pure (wpAny_throw ?_))
 refine wpAny_bind (wpAny_isInstance (T:="StopIteration") (b:=true) ⟨_,Heap.get?_push_size _ rfl,rfl⟩ isSubtype_stop ?_)
 exact wpAny_pure (hQ _ (((Heap.SameBut.update ..).extBut.push _).push _))
def ItkT (d:Addr) (o:Obj) (kvs:List (List Key × V)):It :=
 ⟨λi H=>H d=some (.frz o (.dT kvs))/\i<kvs.length,λi H x H'=>H'=H/\∃k v b,kvs[i]? = some (k,v)/\x=.ref b/\H b=some (.tup (k.map kV)),λi H=>H d=some (.frz o (.dT kvs))/\kvs.length<=i⟩
theorem Qhc (d it:Addr) (o:Obj) (kvs:List (List Key × V)) (es:Array DictEntry) (ep:Nat) (hdi:d≠it) (ho:o.data=.dict es ep) (hn:es.size=kvs.length) :
  Turn P w K tg (ItkT d o kvs) [it] it (λi h=>h.IsKeyIter it d i es.size ep) where
 mem:=by simp
 obj:=λi h st b hb=>by
  have e:b=it:=by simpa using hb
  subst e
  obtain ⟨o,e,c,d⟩:=st
  exact ⟨o,e,λv z=>by rw [d] at z;cases z⟩
 keep:=λi h h' st k=>by
  obtain ⟨o,e,c,d⟩:=st
  exact ⟨o,k it (by simp) o e,c,d⟩
 item:=by
  intro X hP hw hK hc i pins s σ H E I hf st hg
  subst hP hw hK
  obtain ⟨hH,hlt⟩:=hg
  obtain ⟨e1,_,_,xs,pr,o',es',ep',g1,g2,g3,g4,g5⟩:=I.hok d _ hH
  have eo:o'=o:=Option.some.inj (g1.symm.trans e1)
  subst eo
  have ee:es'=es:=by rw [ho] at g3;cases g3;rfl
  subst ee
  have hlen:kvs.length=xs.length:=Paired.length pr
  obtain ⟨⟨k,y⟩,hx⟩:∃p,kvs[i]? = some p:=⟨kvs[i],by simp [hlt]⟩
  obtain ⟨⟨k',b,u⟩,hu⟩:∃p,xs[i]? = some p:=⟨xs[i]'(by omega),by simp [show i<xs.length by omega]⟩
  obtain ⟨rk,hb,_⟩:=Qcg pr hx hu
  have hk:es'[i]? = some (entryOfKey (tupleKind (Q9 X.prog X.w)) (k',b,u)):=by rw [entry_at g4,hu];rfl
  obtain ⟨f0,f1,f2,f3,f4,f5⟩:=hf it (by simp)
  refine Qmn st e1 ho hk λh' st' sb=>?_
  have I1:Inv X pins σ H { s with heap:=h' }:=I.turned (t':=s.toks) (λb o hb e=>(sb.2 b hb).trans e) f0 f1 f3 f4 f5
  obtain ⟨oi,e,c,dd⟩:=id st'
  exact ⟨_,rfl,Qkd (s:={ s with heap:=h' }) e c dd (by decide) ⟨.ref b,H,I1,rfl,⟨rfl,k,y,b,hx,rfl,hb⟩,st',λb hb=>(hf b hb).1⟩⟩
 done:=by
  intro X hP hw hK hc i pins s σ H E I hf st hg
  subst hP hw hK
  obtain ⟨hH,hge⟩:=hg
  obtain ⟨e1,_⟩:=I.hok d _ hH
  obtain ⟨f0,f1,f2,f3,f4,f5⟩:=hf it (by simp)
  exact Qqp (I.ok.hd hc) st e1 ho (by omega) λh' eb=>⟨rfl,I.turned (t':=s.toks) (λb o hb e=>eb b o hb e) f0 f1 f3 f4 f5⟩
 self:=λ_ _ _ _ _ st h=>wpAny_pyIter_keyiter st h
def Qtc (to:TE):TI:=λσ H R=>to σ H λx H1=>∃d kvs,x=.ref d/\H1 d=some (.dT kvs)/\∀o,R (ItkT d o kvs) (upd H1 d (.frz o (.dT kvs)))
theorem Ql7 (ho:PE X o to):PI X tg o (Qtc to):=by
 intro pins s σ H R I h
 refine thn (ho pins s σ H _ I h) λv s1 ⟨x,H1,I1,r1,d,kvs,e,hd,q⟩=>?_
 subst e
 cases r1
 obtain ⟨z,hs,xs,rel,ob,es,ep,hob,dr,hdat,g4,g5⟩:=(show J4 X.prog X.w H1 s1.heap d (.dT kvs) from I1.hok d _ hd)
 refine Qmw hs hob dr hdat ?_
 have I3:=I1.kept (h':=s1.heap.push { cls:=.type "dict_keyiterator",data:=.fields #[.ref d,.int 0 0,.int es.size 0,.int ep 0] }) (t':=s1.toks) λb u e=>Heap.get?_push_of_some _ e
 have hob3:=Heap.get?_push_of_some (h:=s1.heap) { cls:=.type "dict_keyiterator",data:=.fields #[.ref d,.int 0 0,.int es.size 0,.int ep 0] } hob
 have hlt:d<s1.heap.objs.size:=Heap.lt_size hob
 have rel2:Paired (λ(p:List Key × V) (q:List Key × Addr × Value)=>p.1=q.1/\upd H1 d (.frz ob (.dT kvs)) q.2.1=some (.tup (p.1.map kV))/\RelV p.2 q.2.2) kvs xs:=by
  refine Paired.mapP rel ?_
  rintro p q ⟨a1,a2,a3⟩
  refine ⟨a1,?_,a3⟩
  rw [Qq (λz=>by rw [z,hd] at a2;cases a2)]
  exact a2
 have I4:=I3.write (x:=d) (e:=d) (o:=.frz ob (.dT kvs)) (t':=s1.toks) (by rw [hd];trivial) (.inl rfl) (λb u _ q=>q) ⟨_,hob3⟩
  (show J4 X.prog X.w _ _ d (.frz ob (.dT kvs)) from ⟨hob3,z,hs,xs,rel2,ob,es,ep,hob3,dr,hdat,g4,g5⟩)
 have hn:es.size=kvs.length:=by rw [size_of_entries g4];exact (Paired.length rel).symm
 refine ⟨s1.heap.objs.size,[s1.heap.objs.size],_,_,_,rfl,I4,
  Qhc d _ ob kvs es ep (Nat.ne_of_lt hlt) hdat hn,⟨_,Heap.get?_push_size _ rfl,rfl,rfl⟩,λb hb=>?_,q ob⟩
 have e:b=s1.heap.objs.size:=by simpa using hb
 subst e
 exact I1.fpOk (Nat.le_refl _) (by rw [Qq (Nat.ne_of_gt hlt)];exact I1.hok.fresh (Nat.le_refl _))
end L2
variable {A:Nat->Int}
namespace M
def sp (m i:Nat):Int × Int:=if i<4*m then (((i / 4:Nat):Int),((i % 4:Nat):Int)) else (-1,((i-4*m:Nat):Int))
theorem Qin {m k:Nat} (hk:k<m) (hj:j<4):sp m (4*k+j)=((k:Int),(j:Int)):=by
 unfold sp
 rw [if_pos (by omega)]
 congr 1 <;> omega
theorem Z3 (m j:Nat):sp m (4*m+j)=(-1,(j:Int)):=by
 unfold sp
 rw [if_neg (by omega)]
 congr 1;omega
theorem Qgb {m:Nat} (h:sp m i=sp m j):i=j:=by
 unfold sp at h
 by_cases hi:i<4*m
 ·rw [if_pos hi] at h
  by_cases hj:j<4*m
  ·rw [if_pos hj] at h
   have h1:=congrArg Prod.fst h
   have h2:=congrArg Prod.snd h
   dsimp only at h1 h2
   omega
  ·rw [if_neg hj] at h
   have h1:=congrArg Prod.fst h
   dsimp only at h1
   omega
 ·rw [if_neg hi] at h
  by_cases hj:j<4*m
  ·rw [if_pos hj] at h
   have h1:=congrArg Prod.fst h
   dsimp only at h1
   omega
  ·rw [if_neg hj] at h
   have h2:=congrArg Prod.snd h
   dsimp only at h2
   omega
structure Tw (n:Nat) (A:Nat->Int) (g:Nat->Nat):Prop where
 lt:∀i,i<n->g i<n
 ne:∀i,i<n->g i≠i
 eq:∀i,i<n->A (g i)=A i
 only:∀i k,i<n->k<n->A k=A i->k=i\/k=g i
theorem Tw.inv {g:Nat->Nat} (T:Tw n A g) (h:i<n):g (g i)=i:=by
 rcases T.only (g i) i (T.lt i h) h (T.eq i h).symm with z | z
 ·exact absurd z.symm (T.ne i h)
 ·exact z.symm
def addP (P:List (Int × List Nat)) (a:Int) (i:Nat):List (Int × List Nat) :=
 if (P.any λe=>decide (e.1=a))=true then P.map (λe=>if e.1=a then (e.1,e.2++[i]) else e) else P++[(a,[i])]
def plc (A:Nat->Int) (t:Nat):List (Int × List Nat):=(List.range t).foldl (λP i=>addP P (A i) i) []
theorem Um (A:Nat->Int) (t:Nat):plc A (t+1)=addP (plc A t) (A t) t:=by
 unfold plc;rw [List.range_succ,List.foldl_append];rfl
theorem Qbc (P:List (Int × List Nat)) (a:Int) (i:Nat):(addP P a i).map (·.1)=if (P.any λe=>decide (e.1=a))=true then P.map (·.1) else P.map (·.1)++[a]:=by
 unfold addP
 by_cases h:(P.any λe=>decide (e.1=a))=true
 ·rw [if_pos h,if_pos h,List.map_map]
  apply List.map_congr_left
  intro e _
  show (if e.1=a then (e.1,e.2++[i]) else e).1=e.1
  split <;> rfl
 ·rw [if_neg h,if_neg h,List.map_append];rfl
theorem Qdr (A:Nat->Int):∀t,((plc A t).map (·.1)).Nodup/\(∀e∈plc A t,e.2=(List.range t).filter (λi=>decide (A i=e.1))/\e.2≠[])/\∀i,i<t->∃e∈plc A t,e.1=A i:=by
 intro t
 induction t with
 | zero=>exact ⟨List.nodup_nil,(λe h=>by cases h),λi h=>absurd h (Nat.not_lt_zero _)⟩
 | succ t ih =>
  obtain ⟨h1,h2,h3⟩:=ih
  rw [Um]
  have hr:∀(p:Nat->Bool),(List.range (t+1)).filter p=(List.range t).filter p++if p t then [t] else []:=λp=>by
   rw [List.range_succ,List.filter_append]
   congr 1
   by_cases hp:p t=true
   ·simp [hp]
   ·simp [hp]
  by_cases h:((plc A t).any λe=>decide (e.1=A t))=true
  ·refine ⟨by rw [Qbc,if_pos h];exact h1,λe he=>?_,λi hi=>?_⟩
   ·unfold addP at he
    rw [if_pos h] at he
    obtain ⟨e',he',rfl⟩:=List.mem_map.mp he
    obtain ⟨a1,a2⟩:=h2 e' he'
    by_cases hk:e'.1=A t
    ·rw [if_pos hk]
     refine ⟨?_,by simp⟩
     show e'.2++[t]=_
     rw [hr,← a1,if_pos (by simp [hk])]
    ·rw [if_neg hk]
     refine ⟨?_,a2⟩
     rw [hr,← a1,if_neg (by simp;exact λz=>hk z.symm),List.append_nil]
   ·have hmem:∀e∈plc A t,∃e'∈addP (plc A t) (A t) t,e'.1=e.1:=λe he=>by
     have:e.1∈(addP (plc A t) (A t) t).map (·.1):=by rw [Qbc,if_pos h];exact List.mem_map.mpr ⟨e,he,rfl⟩
     obtain ⟨e',h1',h2'⟩:=List.mem_map.mp this
     exact ⟨e',h1',h2'⟩
    by_cases hit:i<t
    ·obtain ⟨e,he,q⟩:=h3 i hit
     obtain ⟨e',a1,a2⟩:=hmem e he
     exact ⟨e',a1,a2.trans q⟩
    ·have:i=t:=by omega
     subst this
     obtain ⟨e,he,q⟩:=List.any_eq_true.mp h
     obtain ⟨e',a1,a2⟩:=hmem e he
     exact ⟨e',a1,a2.trans (of_decide_eq_true q)⟩
  ·have hno:∀e∈plc A t,e.1≠A t:=λe he z=>h (List.any_eq_true.mpr ⟨e,he,decide_eq_true z⟩)
   have hadd:addP (plc A t) (A t) t=plc A t++[(A t,[t])]:=by unfold addP;rw [if_neg h]
   rw [hadd]
   refine ⟨?_,λe he=>?_,λi hi=>?_⟩
   ·rw [List.map_append]
    refine List.nodup_append.mpr ⟨h1,by simp,λa ha b hb=>?_⟩
    obtain ⟨e,he,rfl⟩:=List.mem_map.mp ha
    have:b=A t:=by simpa using hb
    rw [this];exact hno e he
   ·rcases List.mem_append.mp he with he | he
    ·obtain ⟨a1,a2⟩:=h2 e he
     refine ⟨?_,a2⟩
     rw [hr,← a1,if_neg (by simp;exact λz=>hno e he z.symm),List.append_nil]
    ·have ee:e=(A t,[t]):=by simpa using he
     subst ee
     refine ⟨?_,by simp⟩
     rw [hr,if_pos (by simp)]
     have:(List.range t).filter (λi=>decide (A i=A t))=[]:=by
      rw [List.filter_eq_nil_iff]
      intro i hi
      have hi':i<t:=List.mem_range.mp hi
      obtain ⟨e,he,q⟩:=h3 i hi'
      simp
      intro z
      exact hno e he (q.trans z)
     show [t]=List.filter (λi=>decide (A i=A t)) (List.range t)++[t]
     rw [this];rfl
   ·by_cases hit:i<t
    ·obtain ⟨e,he,q⟩:=h3 i hit
     exact ⟨e,List.mem_append_left _ he,q⟩
    ·have:i=t:=by omega
     subst this
     exact ⟨_,List.mem_append_right _ (List.mem_singleton.mpr rfl),rfl⟩
end M
variable {xs:List L2.V}
namespace L2
open PySem PySem.Spec PyProof.Rows
structure Lam where
 qual:Str
 args:Arguments
 body:Expr
 scope:Scope
 names:List Str
abbrev anyO:HO:=.ext λ_=>True
abbrev Lam.obj (L:Lam) (cl:List (Str × Addr)) (pm:Value) (c':Addr) (ctv:Value):Obj:=PySem.W.kla_obj "<lambda>" L.qual L.args L.body L.scope cl pm c' ctv
def Qg8 (H:Hp) (L:Lam) (a:Addr) (cl:List (Str × Addr)):Prop :=
 ∃(c':Addr) (oc:Obj) (vs:Array Value) (t:Tok) (pm ctv:Value) (u:HO),H a=some (.frz (L.obj cl pm c' ctv) anyO)/\H c'=some (.frz oc u)/\oc.data=.fields vs/\vs[1]? = some (.str L.qual t)
def G7 (H:Hp):List (Str × Addr)->List V->Prop
 | [],[]=>True
 | p::cl,x::xs=>(∃oo v,H p.2=some (.frz oo anyO)/\oo.data=.cell (some v)/\RelV x v)/\G7 H cl xs
 | _,_=>False
def Qnq (H:Hp) (L:Lam) (a:Addr) (xs:List V):Prop :=
 ∃cl:List (Str × Addr),Qg8 H L a cl/\cl.map (·.1)=L.names/\(cl.map (·.2)).Nodup/\G7 H cl xs
section
variable {L:Lam}
theorem Qg8.keeps (hi:∀b o u,H b=some (.frz o u)->H' b=some (.frz o u)) (x:Qg8 H L a cl):Qg8 H' L a cl:=by
 obtain ⟨c',oc,vs,t,pm,ctv,u,h1,h2,r⟩:=x
 exact ⟨c',oc,vs,t,pm,ctv,u,hi _ _ _ h1,hi _ _ _ h2,r⟩
theorem G7.keeps (hi:∀b o u,H b=some (.frz o u)->H' b=some (.frz o u)):∀{cl:List (Str × Addr)} {xs:List V},G7 H cl xs->G7 H' cl xs
 | [],[],_=>trivial
 | p::cl,x::xs,⟨⟨oo,v,h1,r⟩,q⟩=>⟨⟨oo,v,hi _ _ _ h1,r⟩,G7.keeps hi q⟩
 | [],_::_,h=>h.elim
 | _::_,[],h=>h.elim
theorem Qnq.keeps (hi:∀b o u,H b=some (.frz o u)->H' b=some (.frz o u)) (x:Qnq H L a xs):Qnq H' L a xs:=by
 obtain ⟨cl,h1,h2,h3,h4⟩:=x
 exact ⟨cl,h1.keeps hi,h2,h3,h4.keeps hi⟩
end
def clsB (K:PySem.W.Frag) (C:Addr):Bool:=PySem.W.plainGet K C Str.empty && PySem.W.hasDictIn K C && PySem.W.plainOver K C && PySem.W.makesIn K C && PySem.W.keepIn K (.ref C)
structure ClsD (K:PySem.W.Frag) (C:Addr):Prop where
 b:clsB K C=true
 sa:PySem.W.findIn K (.ref C) "__setattr__" = some (some (.builtin "object.__setattr__"))
 ca:PySem.W.findIn K (.ref C) "__class__" = some (some (.builtin "object.__class__"))
 mr:PySem.W.mroIn K C (.type "object")=some true
structure ObjD (K:PySem.W.Frag):Prop where
 hn:PySem.W.specialIn K (.builtin "object.__class__") "__get__" = some (some (.builtin "getset_descriptor.__get__"))
 tk:PySem.W.takesIn K (.builtin "object.__class__")=some true
theorem ClsD.all (h:ClsD K C):PySem.W.plainGet K C Str.empty=true/\PySem.W.hasDictIn K C=true/\PySem.W.plainOver K C=true/\PySem.W.makesIn K C=true/\PySem.W.keepIn K (.ref C)=true:=by
 have:=h.b
 simp only [clsB,Bool.and_eq_true] at this
 exact ⟨this.1.1.1.1,this.1.1.1.2,this.1.1.2,this.1.2,this.2⟩
theorem ClsD.cls (h:ClsD K C):Cls K C:=⟨h.all.1,h.all.2.1,h.all.2.2.1,h.sa⟩
theorem Qsa (h:ClsD X.K C) (hi:PySem.W.findIn X.K (.ref C) "__init__" = some (some (.builtin "object.__init__"))) (hg:Gl X x) (hm:X.mg x=some (.ref C)) (hdb:(x == ("__debug__" : Str))=false:=by decide) :
  PE X (.Call (.Name x p) [] [] pos) (λσ H Q=>∀a dx,H a=none->H dx=none->dx≠a->Q (.ref a) (upd (upd H dx (.own a)) a (.ins C dx []))):=by
 intro pins s σ H Q I q
 refine wpAny_Call_Name_kw (Qcp I hg hm ?_ hdb)
 refine PySem.W.callWith_K0 I.kIn h.all.2.2.2.2 (wpAny_call (Qjv I.kIn h.all.2.2.2.1 hi (λself=>PySem.W.Looks.of_pure (PySem.W.oi_bind self)) ?_))
 have I2:=Inv.made (C:=C) I
 have Y:=PySem.W.makes_of (M:=model X.prog X.w) I.kIn h.all.2.2.2.1
 have e1:((s.heap.push PySem.W.emptyDict).push (PySem.W.instObj C s.heap.objs.size)).get? (s.heap.objs.size+1)=some (PySem.W.instObj C s.heap.objs.size):=by
  have:=Heap.get?_push_size (s.heap.push PySem.W.emptyDict) (o:=PySem.W.instObj C s.heap.objs.size) rfl
  rwa [Heap.size_push] at this
 have t1:PySem.W.Looks (model X.prog X.w) ((s.heap.push PySem.W.emptyDict).push (PySem.W.instObj C s.heap.objs.size)) (typeOf (.ref (s.heap.objs.size+1))) (.ref C):=(PySem.W.Looks.ld e1).andThen .now
 have t2:PySem.W.Looks (model X.prog X.w) ((s.heap.push PySem.W.emptyDict).push (PySem.W.instObj C s.heap.objs.size)) (isInstance (.ref (s.heap.objs.size+1)) (.type "object")) true:=t1.andThen (Y.top.keeps λb o e=>Heap.get?_push_of_some _ (Heap.get?_push_of_some _ e))
 have z:=q (s.heap.objs.size+1) s.heap.objs.size (I.hok.fresh (Nat.le_succ _)) (I.hok.fresh (Nat.le_refl _)) (Nat.ne_of_lt (Nat.lt_succ_self _))
 refine PySem.codeAny_call_builtin PySem.W.oi_plain PySem.W.entry_oi (@PySem.W.check_slot (model X.prog X.w) _ _ _ "object.__init__" "object" "__init__" (.ref (s.heap.objs.size+1)) [] [] _ PySem.W.oi_kind PySem.W.oi_split t2 (PySem.W.oi_args (.ref (s.heap.objs.size+1))) ?_)
 rw [PySem.W.oi_run]
 have zz:EP X pins σ Q (.ref (s.heap.objs.size+1)) { s with heap:=(s.heap.push PySem.W.emptyDict).push (PySem.W.instObj C s.heap.objs.size) }:=⟨V.ref (s.heap.objs.size+1),_,I2,rfl,z⟩
 exact wpAny_pure (And.intro rfl zz)
section
variable {k:Nat}
theorem Ql9 (he:PE X o ta) (hr:Room k X.A)
  (ht:eval (.Call (.Attribute o m apos) [] [] pos) X.env=(do
   let ov ← eval o X.env
   standAt apos.atName
   let (f,first) ← holding [ov] (getMethod ov m pl)
   callWith pos f first (backTo pos (starEach [] X.env)) (backToKw pos (keywordEach [] X.env))):=by rfl) :
  PE X (.Call (.Attribute o m apos) [] [] pos) (λσ H Q=>ta σ H λx H1=>∃a C dx fs f fd sp,x=.ref a/\H1 a=some (.ins C dx fs)/\Cls X.K C/\Meth X.K C m f/\FnOk X.prog X.w X.K X.mg X.base CX0 k f fd ["self"] sp/\Z2 X.K fd ["self"] []/\fs.lookup m=none/\sp [.ref a] H1 Q E0):=by
 intro pins s σ H Q I h
 refine PySem.W.methodCall_KW (pl:=pl) (thn (he pins s σ H _ I h) λu s1 ⟨x,H1,I1,rx,a,C,dx,fs,f,fd,sp,ex,ea,c,hm,F,hb,l,q⟩=>?_) ht
 subst ex
 obtain rfl:u=Value.ref a:=rx
 refine Qhv I1 ea c hm l ?_
 exact PySem.W.callWith_K0 (first:=[.ref a]) I1.kIn hm.kp (Qnz (us:=[.ref a]) (vs:=[.ref a]) F hr hb .nil Qjc I1 (.cons rfl .nil) q)
end
end L2
namespace L2
open PySem PySem.Spec PyProof.Rows PySem.Builtin
theorem Xs:fillsNumberSlot (.type "tuple") "mul" = pure false :=
 PySem.fillsNumberSlot_seq (id:="tuple.__mul__") (r:=some (.builtin "tuple.__rmul__")) F.slot_tuple_mul.lookup (by decide +kernel) F.slot_tuple_rmul.lookup (by decide +kernel)
theorem Qdn:seqRepeat? (.type "tuple")=pure (some (.builtin "tuple.__mul__")):=by
 unfold seqRepeat?
 rw [PySem.seqSlot_of (T:="tuple") (name:="__mul__") (id:="tuple.__mul__") F.slot_tuple_mul.lookup (by decide +kernel),PySem.seqSlot_of (T:="tuple") (name:="__rmul__") (id:="tuple.__rmul__") F.slot_tuple_rmul.lookup (by decide +kernel)]
 rfl
theorem Qlr (a:Int) (t:Tok) (l:Addr) (items:Array Value) (n:Nat) (d:Option Addr) (sl:Array (Option Value)) :
  Meets (Builtin.«int.__rmul__» ⟨[.int a t,.ref l],[]⟩) (λ_ R s=>s.heap.get? l=some { cls:=.type "tuple",dict:=d,data:=.seq items n,slots:=sl }/\R (.ok (.ret Value.notImplemented)) s) :=
 .of_wp λprog w A R s h=>by obtain ⟨hp,g,dd,tk,os⟩:=s;obtain ⟨hl,h⟩:=h;wp_walk;exact ⟨_,rfl,h⟩
theorem Qmo (l:Addr) (items:Array Value) (n:Nat) (d:Option Addr) (sl:Array (Option Value)) (u:Tok) :
  Meets (Builtin.«tuple.__mul__» ⟨[.ref l,.int 1 u],[]⟩) (λ_ R s=>s.heap.get? l=some { cls:=.type "tuple",dict:=d,data:=.seq items n,slots:=sl }/\R (.ok (.ret (.ref l))) s) :=
 .of_wp λprog w A R s h=>by obtain ⟨hp,g,dd,tk,os⟩:=s;obtain ⟨hl,h⟩:=h;wp_walk;exact ⟨_,rfl,h⟩
theorem Qmp (l:Addr) (items:Array Value) (n:Nat) (d:Option Addr) (sl:Array (Option Value)) (u:Tok) (hi:items.isEmpty=false) :
  Meets (Builtin.«tuple.__mul__» ⟨[.ref l,.int 0 u],[]⟩) (λ_ R s=>s.heap.get? l=some { cls:=.type "tuple",dict:=d,data:=.seq items n,slots:=sl }/\R (.ok (.ret (.ref s.heap.objs.size))) { s with heap:=s.heap.push { cls:=.type "tuple",data:=.seq #[] } }) :=
 .of_wp λprog w A R s h=>by obtain ⟨hp,g,dd,tk,os⟩:=s;obtain ⟨hl,h⟩:=h;wp_walk;exact ⟨_,rfl,h⟩
def Quf (K:PySem.W.Frag):R2:=λx y H Q=>∃l n v xs,x=.ref l/\y=.int n/\SqT K H l (v::xs)/\((n=1/\Q (.ref l) H)\/(n=0/\∀p,H p=none->Q (.ref p) (upd H p (.tup []))))
theorem Qpy:OpR X (binaryOp .Mult) (Quf X.K):=by
 intro pins s σ H x y v u Q I rx ry h
 obtain ⟨l,n,v0,xs,rfl,rfl,hS,h⟩:=h
 cases rx
 obtain ⟨t,rfl⟩:=ry
 obtain ⟨its,rv,⟨⟨cls,d,data,sl⟩,ho,hcl,k,hd⟩,hz⟩:=I.tuple hS
 simp only at hcl hd
 subst hcl hd
 have hne:its.toArray.isEmpty=false:=by
  cases rv
  rfl
 refine wpAny_binaryOp_repeat_ref (T:="tuple") (U:="int") (by decide) ⟨_,ho,rfl⟩ (λs'=>typeIs_int s' n t) Xs F.fills_int_mul F.slot_int_rmul Qdn F.slot_int_index.lookup
  (call_meets F.slot_int_rmul (typeIs_int s n t) F.entry_int_rmul (F.args_int_rmul_2 _ _) (Qlr n t l its.toArray k d sl) ⟨ho,rfl,⟨_,ho,rfl⟩,?_⟩)
 rcases h with ⟨rfl,q⟩ | ⟨rfl,q⟩
 ·exact call_meets F.slot_tuple_mul ⟨_,ho,rfl⟩ F.entry_tuple_mul (F.args_tuple_mul_2 _ _) (Qmo l its.toArray k d sl t) ⟨ho,.ref l,H,I,rfl,q⟩
 ·exact call_meets F.slot_tuple_mul ⟨_,ho,rfl⟩ F.entry_tuple_mul (F.args_tuple_mul_2 _ _) (Qmp l its.toArray k d sl t hne) ⟨ho,.ref s.heap.objs.size,_,I.laid (o:=.tup []) (t':=s.toks) (λb u e=>Heap.get?_push_of_some _ e) (Nat.le_refl _) ⟨Nat.zero_le _,[],.nil,_,Heap.get?_push_size _ rfl,rfl,0,rfl⟩,rfl,q _ (I.hok.fresh (Nat.le_refl _))⟩
end L2
namespace PV
open PySem PySem.Spec L2
inductive Ty where
 | int | bool | str | tuple | list | dict
 deriving DecidableEq
def Ty.nm:Ty->String
 | .int=>"int" | .bool=>"bool" | .str=>"str" | .tuple=>"tuple" | .list=>"list" | .dict=>"dict"
inductive KC where
 | any (a:Addr)
 | fn (x:Str)
 | int (i:Int)
 | tup (ks:List KC)
mutual
inductive IsKC (K:PySem.W.Frag):KC->V->Prop
 | any (a:Addr):IsKC K (.any a) (.ref a)
 | fn {x:Str} {f:Addr} (h:PySem.W.nsIn K mainGlobals x=some (some (.ref f))):IsKC K (.fn x) (.ref f)
 | int (i:Int):IsKC K (.int i) (.int i)
 | tup {a:Addr} {xs:List V} {ks:List KC} {o:Obj} {its:Array Value} {n:Nat} (h1:K.lookup a=some o) (h2:o.cls=.type "tuple") (h3:o.data=.seq its n) (h4:its.size<=sizeLine) (h5:Vals xs its.toList) (r:AreKC K ks xs):IsKC K (.tup ks) (.ref a)
inductive AreKC (K:PySem.W.Frag):List KC->List V->Prop
 | nil:AreKC K [] []
 | cons {c:KC} {v:V} {cs:List KC} {vs:List V} (h:IsKC K c v) (r:AreKC K cs vs):AreKC K (c::cs) (v::vs)
end
inductive D where
 | non
 | bl (b:Bool)
 | int (i:Int)
 | str (x:Str)
 | tup (xs:List D)
 | lst (xs:List D)
 | dik (kvs:List (Key × D))
 | dit (kvs:List (List Key × D))
 | kls (xs:List D)
 | ty (t:Ty)
 | fdk (kvs:List (Key × D))
 | ftp (xs:List D)
 | fls (xs:List D)
 | fdt (kvs:List (List Key × D))
 | obj (x:Str) (fs:List (Str × Int))
 | clo (L:Lam) (ds:List D)
 | kc (c:KC)
 | dmx (kvs:List (Mx.MI × D))
 | fmx (kvs:List (Mx.MI × D))
 | lsa (a:Addr) (xs:List D)
 | ist (x:Str) (ds:List D)
end PV
variable {o:Option PV.D} {es:List PySem.Expr} {d:PV.D} {G F:List PySem.Addr} {ds:List (List L2.Key × PV.D)}
namespace PV
open PySem PySem.Spec L2
def imm:HO->Bool
 | .tup _=>true
 | .frz _ _=>true
 | .ins _ _ _=>true
 | _=>false
def FzL (K:PySem.W.Frag) (H:Hp) (a:Addr) (xs:List V):Prop :=
 (∃o,H a=some (.frz o (.lst xs))) \/
  ∃(o:Obj) (its:Array Value) (n:Nat),K.lookup a=some o/\o.cls=.type "list" /\ o.dict=none/\o.data=.seq its n/\its.size<=sizeLine/\Vals xs its.toList
theorem FzL.sq (h:FzL K H a xs):SqL K H a xs:=by
 rcases h with h | h
 ·exact .inl (.inr h)
 ·exact .inr h
def fldN:Nat->List Str
 | 0=>[]
 | 1=>["one"]
 | _=>["one","other"]
mutual
inductive Rep (K:PySem.W.Frag) (H:Hp):D->V->List Addr->Prop
 | non:Rep K H .non .non []
 | bl (b:Bool):Rep K H (.bl b) (.bl b) []
 | int (i:Int):Rep K H (.int i) (.int i) []
 | str (x:Str):Rep K H (.str x) (.str x) []
 | tup {a:Addr} {xs:List V} {ds:List D} {F:List Addr} (e:H a=some (.tup xs)) (r:Reps K H ds xs F):Rep K H (.tup ds) (.ref a) F
 | lst {a:Addr} {xs:List V} {ds:List D} {F:List Addr} (e:H a=some (.lst xs)) (r:Reps K H ds xs F):Rep K H (.lst ds) (.ref a) (a::F)
 | dik {a:Addr} {kvs:List (Key × V)} {ds:List (Key × D)} {F:List Addr} (e:H a=some (.dK kvs)) (r:RepK K H ds kvs F):Rep K H (.dik ds) (.ref a) (a::F)
 | dit {a:Addr} {kvs:List (List Key × V)} {ds:List (List Key × D)} {F:List Addr} (e:H a=some (.dT kvs)) (r:RepT K H ds kvs F):Rep K H (.dit ds) (.ref a) (a::F)
 | kls {a:Addr} {xs:List V} {ds:List D} (e:FzL K H a xs) (r:Reps K H ds xs []):Rep K H (.kls ds) (.ref a) []
 | ty (t:Ty):Rep K H (.ty t) (.ty t.nm) []
 | fdk {a:Addr} {o:Obj} {kvs:List (Key × V)} {ds:List (Key × D)} {F:List Addr} (e:H a=some (.frz o (.dK kvs))) (r:RepK K H ds kvs F):Rep K H (.fdk ds) (.ref a) F
 | ftp {a:Addr} {o:Obj} {xs:List V} {ds:List D} (e:H a=some (.frz o (.tup xs))) (hd:o.dict=none) (r:Reps K H ds xs []):Rep K H (.ftp ds) (.ref a) []
 | fls {a:Addr} {o:Obj} {xs:List V} {ds:List D} (e:H a=some (.frz o (.lst xs))) (r:Reps K H ds xs []):Rep K H (.fls ds) (.ref a) []
 | fdt {a:Addr} {o:Obj} {kvs:List (List Key × V)} {ds:List (List Key × D)} {F:List Addr} (e:H a=some (.frz o (.dT kvs))) (r:RepT K H ds kvs F):Rep K H (.fdt ds) (.ref a) F
 | obj {a:Addr} {x:Str} {o:Obj} {φ:Heap->Prop} {fs:List (Str × Int)} (e:H a=some (.frz o (.ext φ))) (hc:∃C,o.cls=.ref C/\PySem.W.nsIn K mainGlobals x=some (some (.ref C))) (hf:fs=[]\/∃dx od vs,o.dict=some dx/\o.data=.fields vs/\H dx=some (.frz od (.xd (fs.map λp=>(p.1,V.int p.2))))):Rep K H (.obj x fs) (.ref a) []
 | clo {a:Addr} {L:Lam} {xs:List V} {ds:List D} {F:List Addr} (e:Qnq H L a xs) (r:Reps K H ds xs F):Rep K H (.clo L ds) (.ref a) F
 | kc {c:KC} {v:V} (h:IsKC K c v):Rep K H (.kc c) v []
 | dmx {a:Addr} {kvs:Mx.KVM} {ds:List (Mx.MI × D)} (e:H a=some (Mx.mixO a kvs)) (hk:Mx.Keys H kvs) (hm:kvs.map (·.1)=ds.map (·.1)) (r:Reps K H (ds.map (·.2)) (kvs.map (·.2.2)) []):Rep K H (.dmx ds) (.ref a) [a]
 | fmx {a:Addr} {o:Obj} {kvs:Mx.KVM} {ds:List (Mx.MI × D)} (e:H a=some (.frz o (Mx.mixO a kvs))) (hk:Mx.Keys H kvs) (hm:kvs.map (·.1)=ds.map (·.1)) (r:Reps K H (ds.map (·.2)) (kvs.map (·.2.2)) []):Rep K H (.fmx ds) (.ref a) []
 | lsa {a:Addr} {xs:List V} {ds:List D} {F:List Addr} (e:H a=some (.lst xs)) (r:Reps K H ds xs F):Rep K H (.lsa a ds) (.ref a) (a::F)
 | ist {a C dx:Addr} {x:Str} {fs:List (Str × V)} {ds:List D} (e:H a=some (.ins C dx fs)) (hc:PySem.W.nsIn K mainGlobals x=some (some (.ref C))) (hn:fs.map (·.1)=fldN ds.length) (r:Reps K H ds (fs.map (·.2)) []):Rep K H (.ist x ds) (.ref a) []
inductive Reps (K:PySem.W.Frag) (H:Hp):List D->List V->List Addr->Prop
 | nil:Reps K H [] [] []
 | cons {d:D} {v:V} {ds:List D} {vs:List V} {F G:List Addr} (h:Rep K H d v F) (r:Reps K H ds vs G):Reps K H (d::ds) (v::vs) (F++G)
inductive RepK (K:PySem.W.Frag) (H:Hp):List (Key × D)->List (Key × V)->List Addr->Prop
 | nil:RepK K H [] [] []
 | cons {k:Key} {d:D} {v:V} {ds:List (Key × D)} {vs:List (Key × V)} {F G:List Addr} (h:Rep K H d v F) (r:RepK K H ds vs G):RepK K H ((k,d)::ds) ((k,v)::vs) (F++G)
inductive RepT (K:PySem.W.Frag) (H:Hp):List (List Key × D)->List (List Key × V)->List Addr->Prop
 | nil:RepT K H [] [] []
 | cons {k:List Key} {d:D} {v:V} {ds:List (List Key × D)} {vs:List (List Key × V)} {F G:List Addr} (h:Rep K H d v F) (r:RepT K H ds vs G):RepT K H ((k,d)::ds) ((k,v)::vs) (F++G)
end
def ImmK (H H':Hp):Prop:=∀b ob,H b=some ob->imm ob=true->H' b=some ob
theorem ImmK.fzL (hi:ImmK H H') (e:FzL K H a xs):FzL K H' a xs:=by
 rcases e with ⟨o,e⟩ | e
 ·exact .inl ⟨o,hi _ _ e rfl⟩
 ·exact .inr e
theorem ImmK.keys {H H':Hp} (hi:ImmK H H') {kvs:Mx.KVM} (h:Mx.Keys H kvs):Mx.Keys H' kvs:=λp hp=>by
 have:=h p hp
 revert this
 cases p.1 with
 | inl i=>exact id
 | inr l=>exact λ⟨b,e1,e2⟩=>⟨b,e1,hi _ _ e2 rfl⟩
theorem Rep.frame (hi:ImmK H H') (r:Rep K H d v F):(∀a∈F,H' a=H a)->Rep K H' d v F:=by
 refine Rep.rec (motive_1:=λd v F _=>(∀a∈F,H' a=H a)->Rep K H' d v F) (motive_2:=λd v F _=>(∀a∈F,H' a=H a)->Reps K H' d v F) (motive_3:=λd v F _=>(∀a∈F,H' a=H a)->RepK K H' d v F) (motive_4:=λd v F _=>(∀a∈F,H' a=H a)->RepT K H' d v F) ?_ ?_ ?_ ?_ ?_ ?_ ?_ ?_ ?_ ?_ ?_ ?_ ?_ ?_ ?_ ?_ ?_ ?_ ?_ ?_ ?_ ?_ ?_ ?_ ?_ ?_ ?_ r
 ·exact λ_=>.non
 ·exact λb _=>.bl b
 ·exact λb _=>.int b
 ·exact λb _=>.str b
 ·exact λe _ ih k=>.tup (hi _ _ e rfl) (ih k)
 ·exact λe _ ih k=>.lst ((k _ (List.mem_cons_self)).trans e) (ih λa h=>k a (List.mem_cons_of_mem _ h))
 ·exact λe _ ih k=>.dik ((k _ (List.mem_cons_self)).trans e) (ih λa h=>k a (List.mem_cons_of_mem _ h))
 ·exact λe _ ih k=>.dit ((k _ (List.mem_cons_self)).trans e) (ih λa h=>k a (List.mem_cons_of_mem _ h))
 ·exact λe _ ih k=>.kls (hi.fzL e) (ih k)
 ·exact λt _=>.ty t
 ·exact λe _ ih k=>.fdk (hi _ _ e rfl) (ih k)
 ·exact λe hd _ ih k=>.ftp (hi _ _ e rfl) hd (ih k)
 ·exact λe _ ih k=>.fls (hi _ _ e rfl) (ih k)
 ·exact λe _ ih k=>.fdt (hi _ _ e rfl) (ih k)
 ·exact λe hc hf _=>.obj (hi _ _ e rfl) hc (hf.imp id λ⟨dx,od,vs,h1,h0,h2⟩=>⟨dx,od,vs,h1,h0,hi _ _ h2 rfl⟩)
 ·exact λe _ ih k=>.clo (e.keeps λ_ _ _ q=>hi _ _ q rfl) (ih k)
 ·exact λh _=>.kc h
 ·exact λe hk hm _ ih k=>.dmx ((k _ (List.mem_cons_self)).trans e) (hi.keys hk) hm (ih λa h=>nomatch h)
 ·exact λe hk hm _ ih k=>.fmx (hi _ _ e rfl) (hi.keys hk) hm (ih λa h=>nomatch h)
 ·exact λe _ ih k=>.lsa ((k _ (List.mem_cons_self)).trans e) (ih λa h=>k a (List.mem_cons_of_mem _ h))
 ·exact λe hc hn _ ih k=>.ist (hi _ _ e rfl) hc hn (ih λa h=>nomatch h)
 ·exact λ_=>.nil
 ·exact λ_ _ ih1 ih2 k=>.cons (ih1 λa q=>k a (List.mem_append.mpr (.inl q))) (ih2 λa q=>k a (List.mem_append.mpr (.inr q)))
 ·exact λ_=>.nil
 ·exact λ_ _ ih1 ih2 k=>.cons (ih1 λa q=>k a (List.mem_append.mpr (.inl q))) (ih2 λa q=>k a (List.mem_append.mpr (.inr q)))
 ·exact λ_=>.nil
 ·exact λ_ _ ih1 ih2 k=>.cons (ih1 λa q=>k a (List.mem_append.mpr (.inl q))) (ih2 λa q=>k a (List.mem_append.mpr (.inr q)))
theorem Reps.frame (hi:ImmK H H') {d:List D} {v:List V} (r:Reps K H d v F) (k:∀a∈F,H' a=H a):Reps K H' d v F:=by
 induction d generalizing v F with
 | nil=>cases r;exact .nil
 | cons d ds ih=>cases r with | cons h r=>exact .cons (Rep.frame hi h λa q=>k a (List.mem_append.mpr (.inl q))) (ih r λa q=>k a (List.mem_append.mpr (.inr q)))
theorem RepK.frame (hi:ImmK H H') {d:List (Key × D)} {v:List (Key × V)} (r:RepK K H d v F) (k:∀a∈F,H' a=H a):RepK K H' d v F:=by
 induction d generalizing v F with
 | nil=>cases r;exact .nil
 | cons d ds ih=>cases r with | cons h r=>exact .cons (Rep.frame hi h λa q=>k a (List.mem_append.mpr (.inl q))) (ih r λa q=>k a (List.mem_append.mpr (.inr q)))
theorem RepT.frame (hi:ImmK H H') {d:List (List Key × D)} {v:List (List Key × V)} (r:RepT K H d v F) (k:∀a∈F,H' a=H a):RepT K H' d v F:=by
 induction d generalizing v F with
 | nil=>cases r;exact .nil
 | cons d ds ih=>cases r with | cons h r=>exact .cons (Rep.frame hi h λa q=>k a (List.mem_append.mpr (.inl q))) (ih r λa q=>k a (List.mem_append.mpr (.inr q)))
theorem Rep.dom (r:Rep K H d v F):∀a∈F,∃ob,H a=some ob/\imm ob=false:=by
 have cn:∀{b:Addr} {F:List Addr} {ob:HO},H b=some ob->imm ob=false->(∀a∈F,∃ob,H a=some ob/\imm ob=false)->∀a∈b::F,∃ob,H a=some ob/\imm ob=false:=λe hb ih a m=>(List.mem_cons.mp m).elim (λz=>z ▸ ⟨_,e,hb⟩) (ih a)
 have ap:∀{F G:List Addr},(∀a∈F,∃ob,H a=some ob/\imm ob=false)->(∀a∈G,∃ob,H a=some ob/\imm ob=false)->∀a∈F++G,∃ob,H a=some ob/\imm ob=false:=λih1 ih2 a m=>(List.mem_append.mp m).elim (ih1 a) (ih2 a)
 have no:∀a∈([]:List Addr),∃ob,H a=some ob/\imm ob=false:=λ_ m=>nomatch m
 refine Rep.rec (motive_1:=λ_ _ F _=>∀a∈F,∃ob,H a=some ob/\imm ob=false) (motive_2:=λ_ _ F _=>∀a∈F,∃ob,H a=some ob/\imm ob=false) (motive_3:=λ_ _ F _=>∀a∈F,∃ob,H a=some ob/\imm ob=false) (motive_4:=λ_ _ F _=>∀a∈F,∃ob,H a=some ob/\imm ob=false) no (λ_=>no) (λ_=>no) (λ_=>no) (λ_ _ ih=>ih) (λe _ ih=>cn e rfl ih) (λe _ ih=>cn e rfl ih) (λe _ ih=>cn e rfl ih) (λ_ _ _=>no) (λ_=>no) (λ_ _ ih=>ih) (λ_ _ _ _=>no) (λ_ _ _=>no) (λ_ _ ih=>ih) (λ_ _ _=>no) (λ_ _ ih=>ih) (λ_=>no) (λe _ _ _ _=>cn e rfl no) (λ_ _ _ _ _=>no) (λe _ ih=>cn e rfl ih) (λ_ _ _ _ _=>no) no (λ_ _=>ap) no (λ_ _=>ap) no (λ_ _=>ap) r
theorem Reps.dom {d:List D} {v:List V} (r:Reps K H d v F):∀a∈F,∃ob,H a=some ob/\imm ob=false:=by
 induction d generalizing v F with
 | nil=>cases r;exact λ_ m=>nomatch m
 | cons d ds ih=>cases r with | cons h r=>exact λa m=>(List.mem_append.mp m).elim (Rep.dom h a) (ih r a)
mutual
def D.pure:D->Bool
 | .tup xs=>Ql xs
 | .lst _=>false
 | .dik _=>false
 | .dit _=>false
 | .kls _=>true
 | .non=>true
 | .bl _=>true
 | .int _=>true
 | .str _=>true
 | .ty _=>true
 | .fdk kvs=>kvs.isEmpty
 | .ftp _=>true
 | .fls _=>true
 | .fdt _=>false
 | .obj _ _=>true
 | .clo _ _=>false
 | .kc _=>true
 | .dmx _=>false
 | .fmx _=>false
 | .lsa _ _=>false
 | .ist _ _=>true
def Ql:List D->Bool
 | []=>true
 | d::r=>d.pure && Ql r
end
theorem Zm {xs:List D}:Ql xs=true↔∀x∈xs,x.pure=true:=by
 induction xs with
 | nil=>simp [Ql]
 | cons d r ih=>simp only [Ql,Bool.and_eq_true,ih,List.mem_cons,forall_eq_or_imp]
theorem Rep.pure (r:Rep K H d v F):d.pure=true->F=[]/\Rep K H d v []:=by
 have no:∀{P:Prop} {b:Bool},b=false->b=true->P:=λh h'=>absurd (h.symm.trans h') (by simp)
 refine Rep.rec (motive_1:=λd v F _=>d.pure=true->F=[]/\Rep K H d v []) (motive_2:=λd v F _=>Ql d=true->F=[]/\Reps K H d v []) (motive_3:=λ_ _ _ _=>True) (motive_4:=λ_ _ _ _=>True) ?_ ?_ ?_ ?_ ?_ ?_ ?_ ?_ ?_ ?_ ?_ ?_ ?_ ?_ ?_ ?_ ?_ ?_ ?_ ?_ ?_ ?_ ?_ trivial (λ_ _ _ _=>trivial) trivial (λ_ _ _ _=>trivial) r
 ·exact λ_=>⟨rfl,.non⟩
 ·exact λb _=>⟨rfl,.bl b⟩
 ·exact λb _=>⟨rfl,.int b⟩
 ·exact λb _=>⟨rfl,.str b⟩
 ·exact λe _ ih p=>⟨(ih (by rw [D.pure] at p;exact p)).1,.tup e (ih (by rw [D.pure] at p;exact p)).2⟩
 ·exact λ_ _ _=>no (by rw [D.pure])
 ·exact λ_ _ _=>no (by rw [D.pure])
 ·exact λ_ _ _=>no (by rw [D.pure])
 ·exact λe r _ _=>⟨rfl,.kls e r⟩
 ·exact λb _=>⟨rfl,.ty b⟩
 ·intro a o kvs ds F e r _ p
  have hd:ds=[]:=by rw [D.pure] at p;exact List.isEmpty_iff.mp p
  subst hd
  cases r
  exact ⟨rfl,.fdk e .nil⟩
 ·exact λe hd r _ _=>⟨rfl,.ftp e hd r⟩
 ·exact λe r _ _=>⟨rfl,.fls e r⟩
 ·exact λ_ _ _=>no (by rw [D.pure])
 ·exact λe hc hf _=>⟨rfl,.obj e hc hf⟩
 ·exact λ_ _ _=>no (by rw [D.pure])
 ·exact λh _=>⟨rfl,.kc h⟩
 ·exact λ_ _ _ _ _=>no (by rw [D.pure])
 ·exact λ_ _ _ _ _=>no (by rw [D.pure])
 ·exact λ_ _ _=>no (by rw [D.pure])
 ·exact λe hc hn r _ _=>⟨rfl,.ist e hc hn r⟩
 ·exact λ_=>⟨rfl,.nil⟩
 ·intro _ _ _ _ _ _ _ _ ih1 ih2 p
  rw [Ql,Bool.and_eq_true] at p
  obtain ⟨e1,r1⟩:=ih1 p.1
  obtain ⟨e2,r2⟩:=ih2 p.2
  subst e1 e2
  exact ⟨rfl,.cons (F:=[]) (G:=[]) r1 r2⟩
theorem Reps.pure {d:List D} {v:List V} (r:Reps K H d v F) (p:Ql d=true):F=[]/\Reps K H d v []:=by
 induction d generalizing v F with
 | nil=>cases r;exact ⟨rfl,.nil⟩
 | cons d ds ih =>
  cases r with
  | cons h r =>
   rw [Ql,Bool.and_eq_true] at p
   obtain ⟨e1,r1⟩:=h.pure p.1
   obtain ⟨e2,r2⟩:=ih r p.2
   subst e1 e2
   exact ⟨rfl,.cons (F:=[]) (G:=[]) r1 r2⟩
theorem Reps.length {ds:List D} (r:Reps K H ds xs F):xs.length=ds.length:=by
 induction ds generalizing xs F with
 | nil=>cases r;rfl
 | cons d ds ih=>cases r with | cons h r=>simp [ih r]
theorem Reps.append {ds es:List D} (r:Reps K H ds xs F) (q:Reps K H es ys G):Reps K H (ds++es) (xs++ys) (F++G):=by
 induction ds generalizing xs F with
 | nil=>cases r;exact q
 | cons d ds ih=>cases r with | cons h r=>rw [List.append_assoc];exact .cons h (ih r)
theorem Reps.one {x:V} (h:Rep K H d x F):Reps K H [d] [x] F:=by
 have:=Reps.cons h (Reps.nil (K:=K) (H:=H))
 rwa [List.append_nil] at this
theorem Reps.snoc {ds:List D} {x:V} (r:Reps K H ds xs F) (h:Rep K H d x G):Reps K H (ds++[d]) (xs++[x]) (F++G):=r.append (.one h)
theorem Reps.split {ds:List D} (r:Reps K H ds xs F) (h:ds[i]? = some d) :
  ∃x A B C,xs[i]? = some x/\F=A++B++C/\Rep K H d x B/\Reps K H (ds.take i) (xs.take i) A/\Reps K H (ds.drop (i+1)) (xs.drop (i+1)) C:=by
 induction ds generalizing xs F i with
 | nil=>simp at h
 | cons e ds ih =>
  cases r with
  | @cons _ v _ vs F G p r =>
   cases i with
   | zero =>
    simp at h
    subst h
    exact ⟨v,[],F,G,rfl,by simp,p,.nil,by simpa using r⟩
   | succ i =>
    obtain ⟨x,A,B,C,h1,h2,h3,h4,h5⟩:=ih r (i:=i) (by simpa using h)
    exact ⟨x,F++A,B,C,by simpa using h1,by rw [h2];simp,h3,by simpa using Reps.cons p h4,by simpa using h5⟩
theorem Reps.get {ds:List D} (r:Reps K H ds xs F) (h:ds[i]? = some d):∃x B,xs[i]? = some x/\Rep K H d x B/\B.Sublist F:=by
 obtain ⟨x,A,B,C,h1,h2,h3,_⟩:=r.split h
 exact ⟨x,B,h1,h3,h2 ▸ (List.sublist_append_right A B).trans (List.sublist_append_left _ C)⟩
theorem Gc {α:Type} {l:List α} {a:α} (h:i<l.length):l.set i a=l.take i++a::l.drop (i+1):=by
 rw [List.set_eq_take_append_cons_drop,if_pos h]
theorem Reps.take {ds:List D} (i:Nat) (r:Reps K H ds xs F):∃G,Reps K H (ds.take i) (xs.take i) G/\G.Sublist F:=by
 induction ds generalizing xs F i with
 | nil=>cases r;exact ⟨[],by simpa using Reps.nil,List.Sublist.slnil⟩
 | cons d ds ih =>
  cases r with
  | @cons _ v _ vs F G p r =>
   cases i with
   | zero=>exact ⟨[],by simpa using Reps.nil,List.nil_sublist _⟩
   | succ i =>
    obtain ⟨G',q,s⟩:=ih i r
    exact ⟨F++G',by simpa using Reps.cons p q,List.Sublist.append (List.Sublist.refl _) s⟩
theorem Reps.drop {ds:List D} (i:Nat) (r:Reps K H ds xs F):∃G,Reps K H (ds.drop i) (xs.drop i) G/\G.Sublist F:=by
 induction ds generalizing xs F i with
 | nil=>cases r;exact ⟨[],by simpa using Reps.nil,List.Sublist.slnil⟩
 | cons d ds ih =>
  cases i with
  | zero=>exact ⟨F,by simpa using r,List.Sublist.refl _⟩
  | succ i =>
   cases r with
   | @cons _ v _ vs F G p r =>
    obtain ⟨G',q,s⟩:=ih i r
    exact ⟨G',by simpa using q,s.trans (List.sublist_append_right _ _)⟩
theorem Reps.ints (ns:List Int):Reps K H (ns.map D.int) (ns.map V.int) []:=by
 induction ns with
 | nil=>exact .nil
 | cons n ns ih=>exact .cons (F:=[]) (G:=[]) (.int n) ih
def kcD:KC->D
 | .int i=>.int i
 | .any a=>.kc (.any a)
 | .fn x=>.kc (.fn x)
 | .tup ks=>.kc (.tup ks)
theorem IsKC.rep {c:KC} (h:IsKC K c v):Rep K H (kcD c) v []:=by
 cases h with
 | int i=>exact .int i
 | any a=>exact .kc (.any a)
 | fn h=>exact .kc (.fn h)
 | tup h1 h2 h3 h4 h5 r=>exact .kc (.tup h1 h2 h3 h4 h5 r)
theorem AreKC.reps {cs:List KC} (h:AreKC K cs vs):Reps K H (cs.map kcD) vs []:=by
 induction cs generalizing vs with
 | nil=>cases h;exact .nil
 | cons c cs ih=>cases h with | cons h r=>exact .cons (F:=[]) (G:=[]) h.rep (ih r)
theorem IsKC.sqT {ks:List KC} (h:IsKC K (.tup ks) v):∃a xs,v=.ref a/\(∀H,SqT K H a xs)/\AreKC K ks xs:=by
 cases h with
 | tup h1 h2 h3 h4 h5 r=>exact ⟨_,_,rfl,λH=>.inr ⟨_,_,_,h1,h2,h3,h4,h5⟩,r⟩
theorem Rep.iInt {i:Int} (r:Rep K H (.int i) v F):v=.int i:=by cases r;rfl
theorem Rep.iStr {i:Str} (r:Rep K H (.str i) v F):v=.str i:=by cases r;rfl
theorem Rep.iBl {i:Bool} (r:Rep K H (.bl i) v F):v=.bl i:=by cases r;rfl
theorem Rep.iTup {ds:List D} (r:Rep K H (.tup ds) v F):∃a xs,v=.ref a/\H a=some (.tup xs)/\Reps K H ds xs F:=by cases r with | tup e r=>exact ⟨_,_,rfl,e,r⟩
theorem Rep.iLst {ds:List D} (r:Rep K H (.lst ds) v F):∃a xs G,v=.ref a/\F=a::G/\H a=some (.lst xs)/\Reps K H ds xs G:=by cases r with | lst e r=>exact ⟨_,_,_,rfl,rfl,e,r⟩
theorem Rep.iDik {ds:List (Key × D)} (r:Rep K H (.dik ds) v F):∃a xs G,v=.ref a/\F=a::G/\H a=some (.dK xs)/\RepK K H ds xs G:=by cases r with | dik e r=>exact ⟨_,_,_,rfl,rfl,e,r⟩
theorem Rep.iDit (r:Rep K H (.dit ds) v F):∃a xs G,v=.ref a/\F=a::G/\H a=some (.dT xs)/\RepT K H ds xs G:=by cases r with | dit e r=>exact ⟨_,_,_,rfl,rfl,e,r⟩
theorem Rep.iKls {ds:List D} (r:Rep K H (.kls ds) v F):∃a xs,v=.ref a/\F=[]/\FzL K H a xs/\Reps K H ds xs []:=by cases r with | kls e r=>exact ⟨_,_,rfl,rfl,e,r⟩
theorem Rep.iFdk {ds:List (Key × D)} (r:Rep K H (.fdk ds) v F):∃a o xs,v=.ref a/\H a=some (.frz o (.dK xs))/\RepK K H ds xs F:=by cases r with | fdk e r=>exact ⟨_,_,_,rfl,e,r⟩
section
variable {κ:Type} [DecidableEq κ]
def valD (kvs:List (κ × D)) (k:κ):Option D:=(kvs.find? λkv=>decide (kv.1=k)).map (·.2)
def putD (kvs:List (κ × D)) (k:κ) (v:D):List (κ × D) :=
 if (kvs.any λkv=>decide (kv.1=k))=true then kvs.map (λkv=>if kv.1=k then (kv.1,v) else kv) else kvs++[(k,v)]
def Y8 (kvs:List (κ × D)) (k:κ):List (κ × D):=kvs.filter λkv=>decide (kv.1≠k)
theorem Qf4 {k:κ}:valD ([]:List (κ × D)) k=none:=rfl
theorem Jb {p:κ × D} {r:List (κ × D)} {k:κ}:valD (p::r) k=if p.1=k then some p.2 else valD r k:=by
 unfold valD
 by_cases h:p.1=k
 ·rw [List.find?_cons_of_pos (by simpa using h),if_pos h];rfl
 ·rw [List.find?_cons_of_neg (by simpa using h),if_neg h]
theorem Gu (k:κ):∀kvs:List (κ × D),(kvs.any λkv=>decide (kv.1=k))=(valD kvs k).isSome
 | []=>rfl
 | p::r=>by
  rw [List.any_cons,Jb,Gu k r]
  by_cases h:p.1=k <;> simp [h]
theorem Qcd {kvs:List (κ × D)} {k:κ} (v:D) (h:valD kvs k=none):putD kvs k v=kvs++[(k,v)]:=by
 unfold putD
 rw [Gu,h]
 rfl
theorem Qf5 (k j:κ) (y:D):∀kvs:List (κ × D),valD (kvs.map λkv=>if kv.1=k then (kv.1,y) else kv) j=(valD kvs j).map λx=>if j=k then y else x
 | []=>rfl
 | p::r=>by
  rw [List.map_cons,Jb,Jb,Qf5 k j y r]
  by_cases h:p.1=k
  ·rw [if_pos h]
   by_cases h':p.1=j
   ·simp [h',← h]
   ·simp [h']
  ·rw [if_neg h]
   by_cases h':p.1=j
   ·subst h';simp [h]
   ·simp [h']
theorem X0 (k j:κ) (y:D):∀kvs:List (κ × D),valD (kvs++[(k,y)]) j=if (valD kvs j).isSome then valD kvs j else if k=j then some y else none
 | []=>by simp [Jb,Qf4]
 | p::r=>by
  rw [List.cons_append,Jb,Jb,X0 k j y r]
  by_cases h:p.1=j <;> simp [h]
theorem Ym (kvs:List (κ × D)) (k j:κ) (y:D):valD (putD kvs k y) j=if j=k then some y else valD kvs j:=by
 unfold putD
 rw [Gu]
 cases h:(valD kvs k).isSome with
 | true =>
  rw [if_pos rfl,Qf5]
  by_cases e:j=k
  ·subst e
   obtain ⟨x,hx⟩:=Option.isSome_iff_exists.mp h
   simp [hx]
  ·rw [if_neg e]
   cases valD kvs j <;> simp [e]
 | false =>
  rw [if_neg (by simp),X0]
  have hn:valD kvs k=none:=by simpa using h
  by_cases e:j=k
  ·subst e;simp [hn]
  ·have e':¬k=j:=λz=>e z.symm
   rw [if_neg e]
   cases valD kvs j <;> simp [e']
theorem J1 (kvs:List (κ × D)) (k:κ) (v:D):(putD kvs k v).length<=kvs.length+1:=by
 unfold putD
 split <;> simp
end
theorem RepK.length {ds:List (Key × D)} {xs:List (Key × V)} (r:RepK K H ds xs F):xs.length=ds.length:=by
 induction ds generalizing xs F with
 | nil=>cases r;rfl
 | cons d ds ih=>cases r with | cons h r=>simp [ih r]
theorem RepK.keys {ds:List (Key × D)} {xs:List (Key × V)} (r:RepK K H ds xs F):xs.map (·.1)=ds.map (·.1):=by
 induction ds generalizing xs F with
 | nil=>cases r;rfl
 | cons d ds ih=>cases r with | cons h r=>simp [ih r]
theorem RepK.val {ds:List (Key × D)} {xs:List (Key × V)} (r:RepK K H ds xs F) (k:Key) :
  (valD ds k=none/\valV xs k=none)\/∃d v B,valD ds k=some d/\valV xs k=some v/\Rep K H d v B/\B.Sublist F:=by
 induction ds generalizing xs F with
 | nil=>cases r;exact .inl ⟨rfl,rfl⟩
 | cons d ds ih =>
  cases r with
  | @cons j d v _ vs F G h r =>
   rw [Jb]
   by_cases e:j=k
   ·rw [Jv e,if_pos e]
    exact .inr ⟨d,v,F,rfl,rfl,h,List.sublist_append_left _ _⟩
   ·rw [Jw e,if_neg e]
    rcases ih r with q | ⟨d',v',B,h1,h2,h3,h4⟩
    ·exact .inl q
    ·exact .inr ⟨d',v',B,h1,h2,h3,h4.trans (List.sublist_append_right _ _)⟩
theorem RepK.append {ds es:List (Key × D)} {xs ys:List (Key × V)} (r:RepK K H ds xs F) (q:RepK K H es ys G):RepK K H (ds++es) (xs++ys) (F++G):=by
 induction ds generalizing xs F with
 | nil=>cases r;exact q
 | cons d ds ih=>cases r with | cons h r=>rw [List.append_assoc];exact .cons h (ih r)
theorem RepK.put {ds:List (Key × D)} {xs:List (Key × V)} {k:Key} (r:RepK K H ds xs F) (h:Rep K H d v []):∃G,RepK K H (putD ds k d) (putK xs k v) G/\G.Sublist F:=by
 have hk:(xs.any λkv=>decide (kv.1=k))=(ds.any λkv=>decide (kv.1=k)):=by
  have e:=r.keys
  rw [show (xs.any λkv=>decide (kv.1=k))=(xs.map (·.1)).any (λj=>decide (j=k)) by rw [List.any_map];rfl,e,List.any_map];rfl
 unfold putD putK
 rw [hk]
 split
 ·clear hk
  rename_i hc
  clear hc
  induction ds generalizing xs F with
  | nil=>cases r;exact ⟨[],.nil,List.Sublist.slnil⟩
  | cons e ds ih =>
   cases r with
   | @cons j e u _ us F G p r =>
    obtain ⟨G',q,s⟩:=ih r
    by_cases ej:j=k
    ·exact ⟨[]++G',by simpa [ej] using RepK.cons (k:=k) h q,s.trans (List.sublist_append_right _ _)⟩
    ·exact ⟨F++G',by simpa [ej] using RepK.cons (k:=j) p q,List.Sublist.append (List.Sublist.refl _) s⟩
 ·refine ⟨F++[],r.append ?_,by simp⟩
  exact RepK.cons (F:=[]) (G:=[]) h .nil
theorem RepT.length {xs:List (List Key × V)} (r:RepT K H ds xs F):xs.length=ds.length:=by
 induction ds generalizing xs F with
 | nil=>cases r;rfl
 | cons d ds ih=>cases r with | cons h r=>simp [ih r]
theorem RepT.keys {xs:List (List Key × V)} (r:RepT K H ds xs F):xs.map (·.1)=ds.map (·.1):=by
 induction ds generalizing xs F with
 | nil=>cases r;rfl
 | cons d ds ih=>cases r with | cons h r=>simp [ih r]
theorem RepT.val {xs:List (List Key × V)} (r:RepT K H ds xs F) (k:List Key) :
  (valD ds k=none/\valV xs k=none)\/∃d v B,valD ds k=some d/\valV xs k=some v/\Rep K H d v B/\B.Sublist F:=by
 induction ds generalizing xs F with
 | nil=>cases r;exact .inl ⟨rfl,rfl⟩
 | cons d ds ih =>
  cases r with
  | @cons j d v _ vs F G h r =>
   rw [Jb]
   by_cases e:j=k
   ·rw [Jv e,if_pos e]
    exact .inr ⟨d,v,F,rfl,rfl,h,List.sublist_append_left _ _⟩
   ·rw [Jw e,if_neg e]
    rcases ih r with q | ⟨d',v',B,h1,h2,h3,h4⟩
    ·exact .inl q
    ·exact .inr ⟨d',v',B,h1,h2,h3,h4.trans (List.sublist_append_right _ _)⟩
theorem RepT.append {es:List (List Key × D)} {xs ys:List (List Key × V)} (r:RepT K H ds xs F) (q:RepT K H es ys G):RepT K H (ds++es) (xs++ys) (F++G):=by
 induction ds generalizing xs F with
 | nil=>cases r;exact q
 | cons d ds ih=>cases r with | cons h r=>rw [List.append_assoc];exact .cons h (ih r)
theorem RepT.put {xs:List (List Key × V)} (r:RepT K H ds xs F) (h:Rep K H d v []):∃G,RepT K H (putD ds k d) (putK xs k v) G/\G.Sublist F:=by
 have hk:(xs.any λkv=>decide (kv.1=k))=(ds.any λkv=>decide (kv.1=k)):=by
  have e:=r.keys
  rw [show (xs.any λkv=>decide (kv.1=k))=(xs.map (·.1)).any (λj=>decide (j=k)) by rw [List.any_map];rfl,e,List.any_map];rfl
 unfold putD putK
 rw [hk]
 split
 ·clear hk
  rename_i hc
  clear hc
  induction ds generalizing xs F with
  | nil=>cases r;exact ⟨[],.nil,List.Sublist.slnil⟩
  | cons e ds ih =>
   cases r with
   | @cons j e u _ us F G p r =>
    obtain ⟨G',q,s⟩:=ih r
    by_cases ej:j=k
    ·exact ⟨[]++G',by simpa [ej] using RepT.cons (k:=k) h q,s.trans (List.sublist_append_right _ _)⟩
    ·exact ⟨F++G',by simpa [ej] using RepT.cons (k:=j) p q,List.Sublist.append (List.Sublist.refl _) s⟩
 ·refine ⟨F++[],r.append ?_,by simp⟩
  exact RepT.cons (F:=[]) (G:=[]) h .nil
theorem RepT.drop {xs:List (List Key × V)} (r:RepT K H ds xs F):∃G,RepT K H (Y8 ds k) (Qfl xs k) G/\G.Sublist F:=by
 induction ds generalizing xs F with
 | nil=>cases r;exact ⟨[],.nil,List.Sublist.slnil⟩
 | cons e ds ih =>
  cases r with
  | @cons j e u _ us F G p r =>
   obtain ⟨G',q,s⟩:=ih r
   unfold Y8 Qfl at *
   by_cases ej:j=k
   ·exact ⟨G',by simpa [ej] using q,s.trans (List.sublist_append_right _ _)⟩
   ·exact ⟨F++G',by simpa [ej] using RepT.cons (k:=j) p q,List.Sublist.append (List.Sublist.refl _) s⟩
abbrev Env:=List (Option D)
def look:Env->Nat->Option D
 | [],_=>none
 | a::_,0=>a
 | _::r,n+1=>look r n
theorem Qgr:∀{ρ:Env} {i:Nat} {d:D},look ρ i=some d->ρ[i]? = some (some d)
 | _::_,0,_,h=>by simpa [look] using h
 | _::r,n+1,_,h=>by simpa using Qgr (ρ:=r) (i:=n) (by simpa [look] using h)
theorem Qav {ρ:Env} (h:look ρ i=some d):i<ρ.length:=by
 have:=Qgr h
 exact (List.getElem?_eq_some_iff.mp this).1
theorem Gp {o:Option D}:∀{ρ:Env} {i j:Nat},look (ρ.set i o) j=if j=i/\i<ρ.length then o else look ρ j
 | [],i,j=>by simp [look]
 | a::r,0,0=>by simp [look]
 | a::r,0,j+1=>by simp [look]
 | a::r,i+1,0=>by simp [look]
 | a::r,i+1,j+1=>by
  have:=Gp (o:=o) (ρ:=r) (i:=i) (j:=j)
  simp only [List.set_cons_succ,look,this,List.length_cons,Nat.add_right_cancel_iff,Nat.add_lt_add_iff_right]
theorem Vs {ρ:Env} (h:i<ρ.length):look (ρ.set i o) i=o:=by rw [Gp,if_pos ⟨rfl,h⟩]
theorem Qz {ρ:Env} (h:j≠i):look (ρ.set i o) j=look ρ j:=by rw [Gp,if_neg (λz=>h z.1)]
structure Tg where
 own:Nat->Bool
 io:List Nat
 xe:D->St->Hp->Prop:=λ_ _ _=>False
end PV
variable {R W1 W':PySem.Addr->Prop} {T:PV.Tg} {ρ:PV.Env} {z:Nat->L2.V}
namespace PV
open PySem PySem.Spec L2
structure SR0 (K:PySem.W.Frag) (T:Tg) (z:Nat->V) (R:Addr->Prop) (H:Hp) (W:Addr->Prop) (σ:St) (ρ:Env) (fp:Nat->List Addr):Prop where
 len:ρ.length=σ.length
 wd:∀a,W a->∃ob,H a=some ob/\imm ob=false
 at_:∀i d,look ρ i=some d->∃v,σ[i]? = some (some v)/\Rep K H d v (fp i)
 own:∀i d,look ρ i=some d->T.own i=true->(fp i).Nodup/\∀a∈fp i,W a
 ro:∀i d,look ρ i=some d->T.own i=false->∀a∈fp i,R a
 wr:∀a,W a->¬R a
 rd:∀a,R a->∃ob,H a=some ob/\imm ob=false
 dis:∀i j d e,look ρ i=some d->look ρ j=some e->T.own i=true->T.own j=true->i≠j->∀a∈fp i,a∉fp j
 fix:∀i∈T.io,σ[i]? = some (some (z i))
def SR (K:PySem.W.Frag) (T:Tg) (z:Nat->V) (R:Addr->Prop) (H:Hp) (W:Addr->Prop) (σ:St) (ρ:Env):Prop:=∃fp,SR0 K T z R H W σ ρ fp
structure FrW (H:Hp) (W:Addr->Prop) (H':Hp) (W':Addr->Prop):Prop where
 keep:∀b ob,H b=some ob->¬W b->H' b=some ob
 dom:∀b,H' b=none->H b=none
 imm:ImmK H H'
 new:∀b,W' b->W b\/H b=none
theorem FrW.refl (H:Hp) (W:Addr->Prop):FrW H W H W:=⟨λ_ _ h _=>h,λ_ h=>h,λ_ _ h _=>h,λ_ h=>.inl h⟩
theorem FrW.trans {W W2:Addr->Prop} (a:FrW H W H1 W1) (b:FrW H1 W1 H2 W2):FrW H W H2 W2 where
 keep:=λc ob h n=>b.keep c ob (a.keep c ob h n) λw=>by
  rcases a.new c w with w | w
  ·exact n w
  ·rw [w] at h;cases h
 dom:=λc h=>a.dom c (b.dom c h)
 imm:=λc ob h i=>b.imm c ob (a.imm c ob h i) i
 new:=λc h=>by
  rcases b.new c h with w | w
  ·exact a.new c w
  ·exact .inr (a.dom c w)
theorem Same.imm (s:Same H H'):ImmK H H':=λb ob h _=>s b ob h
theorem FrW.same (W:Addr->Prop) (s:Same H H'):FrW H W H' W:=⟨λb ob h _=>s b ob h,λb h=>s.free h,Same.imm s,λ_ h=>.inl h⟩
theorem Rep.same (r:Rep K H d v F) (s:Same H H'):Rep K H' d v F :=
 r.frame (Same.imm s) λa m=>by
  obtain ⟨ob,h,_⟩:=r.dom a m
  rw [h];exact s _ _ h
theorem Reps.same {d:List D} {v:List V} (r:Reps K H d v F) (s:Same H H'):Reps K H' d v F :=
 r.frame (Same.imm s) λa m=>by
  obtain ⟨ob,h,_⟩:=r.dom a m
  rw [h];exact s _ _ h
theorem Rep.keep {W:Addr->Prop} (r:Rep K H d v F) (f:FrW H W H' W') (n:∀a∈F,¬W a):Rep K H' d v F :=
 r.frame f.imm λa m=>by
  obtain ⟨ob,h,_⟩:=r.dom a m
  rw [h];exact f.keep _ _ h (n a m)
section
variable {W:Addr->Prop}
theorem SR.same (s:SR K T z R H W σ ρ) (k:Same H H'):SR K T z R H' W σ ρ:=by
 obtain ⟨fp,r⟩:=s
 exact ⟨fp,r.len,λa h=>(r.wd a h).imp λob q=>⟨k _ _ q.1,q.2⟩,λi d h=>(r.at_ i d h).imp λv q=>⟨q.1,q.2.same k⟩,r.own,r.ro,r.wr,λa h=>(r.rd a h).imp λob q=>⟨k _ _ q.1,q.2⟩,r.dis,r.fix⟩
theorem SR.wd (s:SR K T z R H W σ ρ):∀a,W a->∃ob,H a=some ob/\imm ob=false:=by obtain ⟨fp,r⟩:=s;exact r.wd
theorem SR.rd (s:SR K T z R H W σ ρ):∀a,R a->∃ob,H a=some ob/\imm ob=false:=by obtain ⟨fp,r⟩:=s;exact r.rd
theorem SR.nr (s:SR K T z R H W σ ρ) (h:H a=none):¬R a:=λw=>by
 obtain ⟨ob,q,_⟩:=s.rd a w
 rw [h] at q;cases q
theorem SR.nw (s:SR K T z R H W σ ρ) (h:H a=none):¬W a:=λw=>by
 obtain ⟨ob,q,_⟩:=s.wd a w
 rw [h] at q;cases q
end
abbrev WE:=Env->(D->Env->Prop)->Prop
end PV
variable {a b:PV.D} {o m m0 m1 m2 o1 o2:Bool} {i:Int} {ds:List PV.D} {ρ1:PV.Env} {wb wa:PV.WE}
namespace PV
open PySem PySem.Spec L2
structure Post (K:PySem.W.Frag) (T:Tg) (z:Nat->V) (R:Addr->Prop) (m o:Bool) (H:Hp) (W:Addr->Prop) (σ:St) (ρ:Env) (H':Hp) (W':Addr->Prop) (ρ':Env) (d:D) (v:V) (F:List Addr):Prop where
 sr:SR K T z R H' W' σ ρ'
 fr:FrW H W H' W'
 calm:m=false->Same H H'/\W'=W/\ρ'=ρ
 rep:Rep K H' d v F
 own:o=true->F.Nodup/\∀a∈F,H a=none/\¬W' a
def EV (X:Cx) (T:Tg) (m o:Bool) (e:Expr) (w:WE):Prop :=
 ∃te,PE X e te/\∀(z:Nat->V) (R:Addr->Prop) (σ:St) (H:Hp) (W:Addr->Prop) (ρ:Env) (Q:D->Env->Prop) (Q':VK),SR X.K T z R H W σ ρ->w ρ Q ->
  (∀v H' W' d ρ' F,Post X.K T z R m o H W σ ρ H' W' ρ' d v F->Q d ρ'->Q' v H')->te σ H Q'
section
variable {W W2:Addr->Prop} {ρ2:Env} {d1 d2:D} {v1 v2:V} {F1 F2:List Addr}
theorem Post.first (p:Post K T z R m1 o1 H W σ ρ H1 W1 ρ1 d1 v1 F1) (q:Post K T z R m2 o2 H1 W1 σ ρ1 H2 W2 ρ2 d2 v2 F2) (hc:o1=true\/m2=false):Rep K H2 d1 v1 F1:=by
 rcases hc with hc | hc
 ·exact p.rep.keep q.fr λa h=>((p.own hc).2 a h).2
 ·exact p.rep.same (q.calm hc).1
theorem Post.firstOwn (p:Post K T z R m1 o1 H W σ ρ H1 W1 ρ1 d1 v1 F1) (q:Post K T z R m2 o2 H1 W1 σ ρ1 H2 W2 ρ2 d2 v2 F2) (h:o1=true):F1.Nodup/\∀a∈F1,H a=none/\¬W2 a:=by
 obtain ⟨h1,h2⟩:=p.own h
 refine ⟨h1,λa m=>⟨(h2 a m).1,λw=>?_⟩⟩
 rcases q.fr.new a w with w | w
 ·exact (h2 a m).2 w
 ·obtain ⟨ob,e,_⟩:=p.rep.dom a m
  rw [e] at w;cases w
theorem Post.lastOwn (p:Post K T z R m1 o1 H W σ ρ H1 W1 ρ1 d1 v1 F1) (q:Post K T z R m2 o2 H1 W1 σ ρ1 H2 W2 ρ2 d2 v2 F2) (h:o2=true):F2.Nodup/\∀a∈F2,H a=none/\¬W2 a:=by
 obtain ⟨h1,h2⟩:=q.own h
 exact ⟨h1,λa m=>⟨p.fr.dom a (h2 a m).1,(h2 a m).2⟩⟩
theorem Post.calm2 (p:Post K T z R m1 o1 H W σ ρ H1 W1 ρ1 d1 v1 F1) (q:Post K T z R m2 o2 H1 W1 σ ρ1 H2 W2 ρ2 d2 v2 F2) (h:(m1 || m2)=false):Same H H2/\W2=W/\ρ2=ρ:=by
 rw [Bool.or_eq_false_iff] at h
 obtain ⟨a1,a2,a3⟩:=p.calm h.1
 obtain ⟨b1,b2,b3⟩:=q.calm h.2
 exact ⟨a1.trans b1,b2.trans a2,b3.trans a3⟩
theorem Post.fin (s:SR K T z R H1 W1 σ ρ1) (f:FrW H W H1 W1) (c:m=false->Same H H1/\W1=W/\ρ1=ρ) (k:Same H1 H2) (r:Rep K H2 d v F) (nd:F.Nodup) (nw:∀a∈F,H1 a=none) :
  Post K T z R m true H W σ ρ H2 W1 ρ1 d v F where
 sr:=s.same k
 fr:=f.trans (FrW.same W1 k)
 calm:=λh=>⟨(c h).1.trans k,(c h).2⟩
 rep:=r
 own:=λ_=>⟨nd,λa m=>⟨f.dom a (nw a m),s.nw (nw a m)⟩⟩
theorem Post.flat (s:SR K T z R H1 W1 σ ρ1) (f:FrW H W H1 W1) (c:m=false->Same H H1/\W1=W/\ρ1=ρ) (r:Rep K H1 d v []):Post K T z R m true H W σ ρ H1 W1 ρ1 d v [] where
 sr:=s
 fr:=f
 calm:=c
 rep:=r
 own:=λ_=>⟨List.nodup_nil,λa m=>nomatch m⟩
end
section
variable {a b:Expr} {w:WE}
theorem EV.lift (h:EV X T m o e w):EV X T m true e (λρ Q=>w ρ λd ρ'=>d.pure=true/\Q d ρ'):=by
 obtain ⟨te,p,g⟩:=h
 refine ⟨te,p,λz R σ H W ρ Q Q' s hw k=>g z R σ H W ρ _ Q' s hw λv H' W' d ρ' F q ⟨hp,hq⟩=>?_⟩
 obtain ⟨e,r⟩:=q.rep.pure hp
 exact k v H' W' d ρ' [] ⟨q.sr,q.fr,q.calm,r,λ_=>⟨List.nodup_nil,λa m=>nomatch m⟩⟩ hq
def wVar (i:Nat):WE:=λρ Q=>match look ρ i with
 | some d=>Q d ρ
 | none=>False
def wC (d:D):WE:=λρ Q=>Q d ρ
theorem Qu5 (i:Nat) (h:PE X e (tVar i)):EV X T false false e (wVar i):=by
 refine ⟨_,h,λz R σ H W ρ Q Q' s hw k=>?_⟩
 unfold wVar at hw
 cases hl:look ρ i with
 | none=>rw [hl] at hw;exact hw.elim
 | some d =>
  rw [hl] at hw
  obtain ⟨fp,r⟩:=s
  obtain ⟨v,h1,h2⟩:=r.at_ i d hl
  exact ⟨v,h1,k v H W d ρ (fp i) ⟨⟨fp,r⟩,FrW.refl H W,λ_=>⟨Same.refl H,rfl,rfl⟩,h2,λh=>nomatch h⟩ hw⟩
theorem Qc (i:Nat) (hN:X.N[i]? = some x:=by rfl) (hv:Vis X.env.scope x:=by first | exact Or.inl rfl | exact Or.inr (Or.inl rfl) | exact Or.inr (Or.inr rfl)) (hd:(x == ("__debug__" : Str))=false:=by decide)
  (hcd:(x == ("__classdict__" : Str))=false:=by decide):EV X T false false (.Name x pos) (wVar i):=Qu5 i (Va hN hv hd hcd)
theorem Gs (h:PE X e (tC v)) (r:∀H,Rep X.K H d v []):EV X T false true e (wC d) :=
 ⟨_,h,λz R σ H W ρ Q Q' s hw k=>k v H W d ρ [] (Post.flat s (FrW.refl H W) (λ_=>⟨Same.refl H,rfl,rfl⟩) (r H)) hw⟩
theorem Qd {j pos}:EV X T false true (.Constant (.int i) j pos) (wC (.int i)):=Gs Qsb λ_=>.int i
theorem Qhz {i:Bool} {j pos}:EV X T false true (.Constant (.bool i) j pos) (wC (.bl i)):=Gs Qup λ_=>.bl i
theorem Yr {i:Str} {j pos}:EV X T false true (.Constant (.str i) j pos) (wC (.str i)):=Gs Qgl λ_=>.str i
theorem Qqm {t:Tok} (hm:X.mg x=some (.int i t)) (hg:Gl X x:=by rfl) (hd:(x == ("__debug__" : Str))=false:=by decide):EV X T false true (.Name x pos) (wC (.int i)) :=
 Gs (Qps hg hm (v:=.int i) ⟨t,rfl⟩ hd) λ_=>.int i
abbrev G2:=D->D->(D->Prop)->Prop
structure Fin (K:PySem.W.Frag) (H H':Hp) (d:D) (v:V) (F:List Addr):Prop where
 same:Same H H'
 rep:Rep K H' d v F
 nd:F.Nodup
 new:∀a∈F,H a=none
theorem Fin.flat (r:Rep K H d v []):Fin K H H d v []:=⟨Same.refl H,r,List.nodup_nil,λ_ m=>nomatch m⟩
theorem Qm {p:Addr} (h:H p=none):Same H (upd H p ob):=λb u e=>by rw [Qq (Q7 e h)];exact e
def OpD (X:Cx) (f:Value->Value->Sem Value) (g:G2):Prop :=
 ∃r,OpR X f r/\∀(H:Hp) (a b:D) (x y:V) (F1 F2:List Addr) (k:D->Prop) (Q:VK),Rep X.K H a x F1->Rep X.K H b y F2->g a b k ->
  (∀v H' d F,Fin X.K H H' d v F->k d->Q v H')->r x y H Q
def wBin (g:G2) (wa wb:WE):WE:=λρ Q=>wa ρ λx ρ1=>wb ρ1 λy ρ2=>g x y λd=>Q d ρ2
theorem two {W:Addr->Prop} {RR:V->V->Hp->Prop} {Q2:D->D->Env->Prop}
  (ga:∀(z:Nat->V) (R:Addr->Prop) (σ:St) (H:Hp) (W:Addr->Prop) (ρ:Env) (Q:D->Env->Prop) (Q':VK),SR X.K T z R H W σ ρ->wa ρ Q->(∀v H' W' d ρ' F,Post X.K T z R m1 o1 H W σ ρ H' W' ρ' d v F->Q d ρ'->Q' v H')->ta σ H Q')
  (gb:∀(z:Nat->V) (R:Addr->Prop) (σ:St) (H:Hp) (W:Addr->Prop) (ρ:Env) (Q:D->Env->Prop) (Q':VK),SR X.K T z R H W σ ρ->wb ρ Q->(∀v H' W' d ρ' F,Post X.K T z R m2 o2 H W σ ρ H' W' ρ' d v F->Q d ρ'->Q' v H')->tb σ H Q')
  (hc:o1=true\/m2=false) (s:SR X.K T z R H W σ ρ) (hw:wa ρ λx ρ1=>wb ρ1 λy ρ2=>Q2 x y ρ2)
  (k:∀x y H2 W2 d1 d2 ρ2 F1 F2,SR X.K T z R H2 W2 σ ρ2->FrW H W H2 W2->((m1 || m2)=false->Same H H2/\W2=W/\ρ2=ρ)->Rep X.K H2 d1 x F1->Rep X.K H2 d2 y F2 ->
   (o1=true->F1.Nodup/\∀a∈F1,H a=none/\¬W2 a)->(o2=true->F2.Nodup/\∀a∈F2,H a=none/\¬W2 a)->(o2=true->∀a∈F1,a∉F2)->Q2 d1 d2 ρ2->RR x y H2) :
  ta σ H λx H1=>tb σ H1 λy H2=>RR x y H2:=by
 refine ga z R σ H W ρ _ _ s hw λv1 H1 W1 d1 ρ1 F1 p q1=>?_
 refine gb z R σ H1 W1 ρ1 _ _ p.sr q1 λv2 H2 W2 d2 ρ2 F2 q q2=>?_
 refine k v1 v2 H2 W2 d1 d2 ρ2 F1 F2 q.sr (p.fr.trans q.fr) (p.calm2 q) (p.first q hc) q.rep (p.firstOwn q) (p.lastOwn q) (λh a m1 m2=>?_) q2
 obtain ⟨ob,e,_⟩:=p.rep.dom a m1
 rw [((q.own h).2 a m2).1] at e
 cases e
theorem Ja {op:Operator} {g:G2} (ho:OpD X (binaryOp op) g) (ha:EV X T m1 o1 a wa) (hb:EV X T m2 o2 b wb) (hc:o1=true\/m2=false:=by first | exact .inl rfl | exact .inr rfl) :
  EV X T (m1 || m2) true (.BinOp a op b pos) (wBin g wa wb):=by
 obtain ⟨r,ro,gr⟩:=ho
 obtain ⟨ta,pa,ga⟩:=ha
 obtain ⟨tb,pb,gb⟩:=hb
 refine ⟨_,Qun ro pa pb,λz R σ H W ρ Q Q' s hw k=>?_⟩
 refine two ga gb hc s hw λx y H2 W2 d1 d2 ρ2 F1 F2 s2 f2 c2 r1 r2 _ _ _ q2=>?_
 exact gr H2 d1 d2 x y F1 F2 _ Q' r1 r2 q2 λv H' d F fi hk=>k v H' W2 d ρ2 F (Post.fin s2 f2 c2 fi.same fi.rep fi.nd fi.new) hk
theorem Qte {g:G2} (ho:OpD X (compareOp op) g) (ha:EV X T m1 o1 a wa) (hb:EV X T m2 o2 b wb) (hc:o1=true\/m2=false:=by first | exact .inl rfl | exact .inr rfl)
  (hm:behindInMarks op b=false:=by first | exact Qof _ | with_unfolding_all rfl):EV X T (m1 || m2) true (.Compare a [op] [b] pos) (wBin g wa wb):=by
 obtain ⟨r,ro,gr⟩:=ho
 obtain ⟨ta,pa,ga⟩:=ha
 obtain ⟨tb,pb,gb⟩:=hb
 refine ⟨_,Qpv ro pa pb hm,λz R σ H W ρ Q Q' s hw k=>?_⟩
 refine two ga gb hc s hw λx y H2 W2 d1 d2 ρ2 F1 F2 s2 f2 c2 r1 r2 _ _ _ q2=>?_
 exact gr H2 d1 d2 x y F1 F2 _ Q' r1 r2 q2 λv H' d F fi hk=>k v H' W2 d ρ2 F (Post.fin s2 f2 c2 fi.same fi.rep fi.nd fi.new) hk
def UnD (X:Cx) (f:Value->Sem Value) (g:D->(D->Prop)->Prop):Prop :=
 ∃r,UnR X f r/\∀(H:Hp) (a:D) (x:V) (F1:List Addr) (k:D->Prop) (Q:VK),Rep X.K H a x F1->g a k->(∀v H' d F,Fin X.K H H' d v F->k d->Q v H')->r x H Q
def wUn (g:D->(D->Prop)->Prop) (wa:WE):WE:=λρ Q=>wa ρ λx ρ1=>g x λd=>Q d ρ1
theorem Vg {op:UnaryOp} {g:D->(D->Prop)->Prop} (ho:UnD X (unaryOp op) g) (ha:EV X T m o a wa):EV X T m true (.UnaryOp op a pos) (wUn g wa):=by
 obtain ⟨r,ro,gr⟩:=ho
 obtain ⟨ta,pa,ga⟩:=ha
 refine ⟨_,Qum ro pa,λz R σ H W ρ Q Q' s hw k=>?_⟩
 refine ga z R σ H W ρ _ _ s hw λv1 H1 W1 d1 ρ1 F1 p q1=>?_
 exact gr H1 d1 v1 F1 _ Q' p.rep q1 λv H' d F fi hk=>k v H' W1 d ρ1 F (Post.fin p.sr p.fr p.calm fi.same fi.rep fi.nd fi.new) hk
abbrev WT:=Env->(Bool->Env->Prop)->Prop
structure PostT (K:PySem.W.Frag) (T:Tg) (z:Nat->V) (R:Addr->Prop) (m:Bool) (H:Hp) (W:Addr->Prop) (σ:St) (ρ:Env) (H':Hp) (W':Addr->Prop) (ρ':Env):Prop where
 sr:SR K T z R H' W' σ ρ'
 fr:FrW H W H' W'
 calm:m=false->Same H H'/\W'=W/\ρ'=ρ
def TV (X:Cx) (T:Tg) (m:Bool) (e:Expr) (w:WT):Prop :=
 ∃tt,PT X e tt/\∀(z:Nat->V) (R:Addr->Prop) (σ:St) (H:Hp) (W:Addr->Prop) (ρ:Env) (Q:Bool->Env->Prop) (Q':Bool->Hp->Prop),SR X.K T z R H W σ ρ->w ρ Q ->
  (∀b H' W' ρ',PostT X.K T z R m H W σ ρ H' W' ρ'->Q b ρ'->Q' b H')->tt σ H Q'
def truD:D->Option Bool
 | .non=>some false
 | .bl b=>some b
 | .int i=>some (i != 0)
 | .str y=>if y.length<=sizeLine then some ((y.length:Int) != 0) else none
 | .lst xs=>some (!xs.isEmpty)
 | .tup xs=>some (!xs.isEmpty)
 | .dik kvs=>some (!kvs.isEmpty)
 | .kls xs=>some (!xs.isEmpty)
 | .dit _=>none
 | .ty _=>none
 | .fdk _=>none
 | .ftp _=>none
 | .fls _=>none
 | .fdt _=>none
 | .obj _ _=>none
 | .clo _ _=>none
 | .kc _=>none
 | .dmx _=>none
 | .fmx _=>none
 | .lsa _ _=>none
 | .ist _ _=>none
def wTru (wa:WE):WT:=λρ Q=>wa ρ λd ρ'=>match truD d with
 | some b=>Q b ρ'
 | none=>False
theorem Reps.emp (r:Reps K H ds xs F):ds.isEmpty=xs.isEmpty:=by
 have:=r.length
 cases ds <;> cases xs <;> simp at this <;> rfl
theorem RepK.emp {ds:List (Key × D)} {xs:List (Key × V)} (r:RepK K H ds xs F):ds.isEmpty=xs.isEmpty:=by
 have:=r.length
 cases ds <;> cases xs <;> simp at this <;> rfl
theorem Qov {x:V} {b:Bool} (r:Rep K H d x F) (h:truD d=some b):TruV K x H b:=by
 cases r with
 | non=>exact (Option.some.inj h).symm
 | bl c=>exact (Option.some.inj h).symm
 | int c=>exact (Option.some.inj h).symm
 | str y =>
  have h:(if y.length<=sizeLine then some ((y.length:Int) != 0) else none)=some b:=h
  split at h
  ·rename_i hl;exact ⟨hl,(Option.some.inj h).symm⟩
  ·cases h
 | tup e r =>
  refine .inr (.inl ⟨_,.of e,?_⟩)
  rw [← Option.some.inj h,r.emp]
 | lst e r =>
  refine .inl ⟨_,.of e,?_⟩
  rw [← Option.some.inj h,r.emp]
 | kls e r =>
  refine .inl ⟨_,e.sq,?_⟩
  rw [← Option.some.inj h,r.emp]
 | dik e r =>
  refine .inr (.inr ⟨_,e,?_⟩)
  rw [← Option.some.inj h,r.emp]
 | dit e r=>cases h
 | ty t=>cases h
 | fdk e r=>cases h
 | ftp e hd r=>cases h
 | fls e r=>cases h
 | fdt e r=>cases h
 | obj e hc hf=>cases h
 | clo e r=>cases h
 | kc a=>cases h
 | dmx e hk hm r=>cases h
 | fmx e hk hm r=>cases h
 | lsa e r=>cases h
 | ist e hc hn r=>cases h
theorem Qda (ha:EV X T m o a wa) (he:∀whole,isTrue a X.env whole=(do let v ← whole;standAt a.pos;holding [v] (truthy v)):=by intro _;rfl):TV X T m a (wTru wa):=by
 obtain ⟨ta,pa,ga⟩:=ha
 refine ⟨_,Ql1 pa he,λz R σ H W ρ Q Q' s hw k=>?_⟩
 refine ga z R σ H W ρ _ _ s hw λv1 H1 W1 d1 ρ1 F1 p q1=>?_
 cases ht:truD d1 with
 | none=>rw [ht] at q1;exact q1.elim
 | some b =>
  rw [ht] at q1
  exact ⟨b,Qov p.rep ht,k b H1 W1 ρ1 ⟨p.sr,p.fr,p.calm⟩ q1⟩
def wBl (wa:WE):WT:=λρ Q=>wa ρ λd ρ'=>match d with
 | .bl b=>Q b ρ'
 | _=>False
theorem Qn3 {b:Bool} {x:V} (r:Rep K H (.bl b) x F):x=.bl b:=by cases r;rfl
theorem Jx {g:G2} (ho:OpD X (compareOp op) g) (ha:EV X T m1 o1 a wa) (hb:EV X T m2 o2 b wb) (hc:o1=true\/m2=false:=by first | exact .inl rfl | exact .inr rfl)
  (hm:behindInMarks op b=false:=by first | exact Qof _ | with_unfolding_all rfl):TV X T (m1 || m2) (.Compare a [op] [b] pos) (wBl (wBin g wa wb)):=by
 obtain ⟨r,ro,gr⟩:=ho
 obtain ⟨ta,pa,ga⟩:=ha
 obtain ⟨tb,pb,gb⟩:=hb
 refine ⟨_,Qpi ro pa pb hm,λz R σ H W ρ Q Q' s hw k=>?_⟩
 refine two ga gb hc s hw λx y H2 W2 d1 d2 ρ2 F1 F2 s2 f2 c2 r1 r2 _ _ _ q2=>?_
 refine gr H2 d1 d2 x y F1 F2 _ _ r1 r2 q2 λv H' d F fi hk=>?_
 cases d with
 | bl b=>exact ⟨b,Qn3 fi.rep,k b H' W2 ρ2 ⟨s2.same fi.same,f2.trans (FrW.same W2 fi.same),λh=>⟨(c2 h).1.trans fi.same,(c2 h).2⟩⟩ hk⟩
 | _=>exact hk.elim
end
section
variable {a b:Expr} {w:WE} {wt wu:WT} {rest:List Expr}
def wNot (wt:WT):WT:=λρ Q=>wt ρ λb ρ'=>Q (!b) ρ'
def wOr (wt wu:WT):WT:=λρ Q=>wt ρ λb ρ'=>if b=true then Q true ρ' else wu ρ' Q
theorem Qf6 (ha:TV X T m a wt):TV X T m (.UnaryOp .Not a pos) (wNot wt):=by
 obtain ⟨ta,pa,ga⟩:=ha
 exact ⟨_,Qr2 pa,λz R σ H W ρ Q Q' s hw k=>ga z R σ H W ρ _ _ s hw λb H1 W1 ρ1 p q1=>k (!b) H1 W1 ρ1 p q1⟩
def BV (X:Cx) (T:Tg) (m:Bool) (e:Expr) (w:WT):Prop :=
 ∃tt,PW X e tt/\∀(z:Nat->V) (R:Addr->Prop) (σ:St) (H:Hp) (W:Addr->Prop) (ρ:Env) (Q:Bool->Env->Prop) (Q':Bool->Hp->Prop),SR X.K T z R H W σ ρ->w ρ Q ->
  (∀b H' W' ρ',PostT X.K T z R m H W σ ρ H' W' ρ'->Q b ρ'->Q' b H')->tt σ H Q'
theorem PostT.seq {W W2:Addr->Prop} {ρ2:Env} (p:PostT K T z R m1 H W σ ρ H1 W1 ρ1) (q:PostT K T z R m2 H1 W1 σ ρ1 H2 W2 ρ2):PostT K T z R (m1 || m2) H W σ ρ H2 W2 ρ2 where
 sr:=q.sr
 fr:=p.fr.trans q.fr
 calm:=λh=>by
  rw [Bool.or_eq_false_iff] at h
  obtain ⟨a1,a2,a3⟩:=p.calm h.1
  obtain ⟨b1,b2,b3⟩:=q.calm h.2
  exact ⟨a1.trans b1,b2.trans a2,b3.trans a3⟩
theorem PostT.left {W:Addr->Prop} (p:PostT K T z R m1 H W σ ρ H1 W1 ρ1):PostT K T z R (m1 || m2) H W σ ρ H1 W1 ρ1 :=
 ⟨p.sr,p.fr,λh=>p.calm (Bool.or_eq_false_iff.mp h).1⟩
theorem Qk7 (ha:TV X T m a wt):BV X T m (.BoolOp .Or [a] pos) wt:=by
 obtain ⟨ta,pa,ga⟩:=ha
 exact ⟨_,Qr1 pa,ga⟩
theorem Qq2 (ha:TV X T m1 a wt) (hb:BV X T m2 (.BoolOp .Or (b::rest) pos) wu):BV X T (m1 || m2) (.BoolOp .Or (a::b::rest) pos) (wOr wt wu):=by
 obtain ⟨ta,pa,ga⟩:=ha
 obtain ⟨tb,pb,gb⟩:=hb
 refine ⟨_,Quj pa pb,λz R σ H W ρ Q Q' s hw k=>ga z R σ H W ρ _ _ s hw λc H1 W1 ρ1 p q1=>?_⟩
 cases c with
 | false=>exact gb z R σ H1 W1 ρ1 Q Q' p.sr q1 λb H2 W2 ρ2 q q2=>k b H2 W2 ρ2 (p.seq q) q2
 | true=>exact k true H1 W1 ρ1 p.left q1
theorem Qeu (h:BV X T m e wt):TV X T m e wt:=by
 obtain ⟨ta,pa,ga⟩:=h
 exact ⟨_,pa.pt,ga⟩
def wIfE (wt:WT) (wa wb:WE):WE:=λρ Q=>wt ρ λc ρ1=>if c=true then wa ρ1 Q else wb ρ1 Q
theorem Qu6 (hc:TV X T m0 c wt) (ha:EV X T m1 o a wa) (hb:EV X T m2 o b wb):EV X T (m0 || (m1 || m2)) o (.IfExp c a b pos) (wIfE wt wa wb):=by
 obtain ⟨tc,pc,gc⟩:=hc
 obtain ⟨ta,pa,ga⟩:=ha
 obtain ⟨tb,pb,gb⟩:=hb
 refine ⟨_,Qma pc pa pb,λz R σ H W ρ Q Q' s hw k=>gc z R σ H W ρ _ _ s hw λc H1 W1 ρ1 p q1=>?_⟩
 have fin:∀{m':Bool} v H' W' d ρ' F,Post X.K T z R m' o H1 W1 σ ρ1 H' W' ρ' d v F->((m1 || m2)=false->m'=false)->Q d ρ'->Q' v H':=λv H' W' d ρ' F q hm hq=>by
  refine k v H' W' d ρ' F ⟨q.sr,p.fr.trans q.fr,λh=>?_,q.rep,λh=>⟨(q.own h).1,λa ma=>⟨p.fr.dom a ((q.own h).2 a ma).1,((q.own h).2 a ma).2⟩⟩⟩ hq
  rw [Bool.or_eq_false_iff] at h
  obtain ⟨a1,a2,a3⟩:=p.calm h.1
  obtain ⟨b1,b2,b3⟩:=q.calm (hm h.2)
  exact ⟨a1.trans b1,b2.trans a2,b3.trans a3⟩
 cases c with
 | true=>exact ga z R σ H1 W1 ρ1 Q Q' p.sr q1 λv H' W' d ρ' F q hq=>fin v H' W' d ρ' F q (λh=>(Bool.or_eq_false_iff.mp h).1) hq
 | false=>exact gb z R σ H1 W1 ρ1 Q Q' p.sr q1 λv H' W' d ρ' F q hq=>fin v H' W' d ρ' F q (λh=>(Bool.or_eq_false_iff.mp h).2) hq
end
end PV
variable {k:PV.D->Prop} {neg:Bool}
namespace PV
open PySem PySem.Spec L2
open PySem.W (Dat kqdP kqdPs kqdOk)
mutual
def Ys:D->Dat
 | .non=>.none
 | .bl b=>.bool b
 | .int i=>.int i
 | .str x=>.str x
 | .tup xs=>.tuple (Zq xs)
 | .lst xs=>.list (Zq xs)
 | .dik _=>.none
 | .dit _=>.none
 | .kls _=>.none
 | .ty _=>.none
 | .fdk _=>.none
 | .ftp _=>.none
 | .fls _=>.none
 | .fdt _=>.none
 | .obj _ _=>.none
 | .clo _ _=>.none
 | .kc _=>.none
 | .dmx _=>.none
 | .fmx _=>.none
 | .lsa _ _=>.none
 | .ist _ _=>.none
def Zq:List D->List Dat
 | []=>[]
 | d::r=>Ys d::Zq r
end
mutual
def eqOk:Nat->D->Bool
 | _,.non=>true
 | _,.int _=>true
 | _,.str x=>PyData.strOk x
 | n+1,.tup xs=>U4 n xs
 | n+1,.lst xs=>U4 n xs
 | _,_=>false
def U4:Nat->List D->Bool
 | _,[]=>true
 | n,d::r=>eqOk n d && U4 n r
end
theorem Qkj {xs:List D}:U4 n xs=true↔∀x∈xs,eqOk n x=true:=by
 induction xs with
 | nil=>simp [U4]
 | cons d r ih=>simp only [U4,Bool.and_eq_true,ih,List.mem_cons,forall_eq_or_imp]
mutual
theorem Qcv:∀(n:Nat) (d:D),eqOk n d=true->kqdOk n (Ys d)=true
 | _,.non,_=>by simp [Ys,kqdOk]
 | _,.bl _,h=>by cases ‹Nat› <;> simp [eqOk] at h
 | _,.int _,_=>by simp [Ys,kqdOk]
 | _,.str x,h=>by
  cases ‹Nat› <;> (simp only [eqOk] at h;simpa [Ys,kqdOk] using h)
 | 0,.tup _,h=>by simp [eqOk] at h
 | 0,.lst _,h=>by simp [eqOk] at h
 | n+1,.tup xs,h=>by
  simp only [eqOk] at h
  rw [Ys];simp only [kqdOk]
  exact Qa4 n xs h
 | n+1,.lst xs,h=>by
  simp only [eqOk] at h
  rw [Ys];simp only [kqdOk]
  exact Qa4 n xs h
 | n,.dik _,h=>by cases n <;> simp [eqOk] at h
 | n,.dit _,h=>by cases n <;> simp [eqOk] at h
 | n,.kls _,h=>by cases n <;> simp [eqOk] at h
 | n,.ty _,h=>by cases n <;> simp [eqOk] at h
 | n,.fdk _,h=>by cases n <;> simp [eqOk] at h
 | n,.ftp _,h=>by cases n <;> simp [eqOk] at h
 | n,.fls _,h=>by cases n <;> simp [eqOk] at h
 | n,.fdt _,h=>by cases n <;> simp [eqOk] at h
 | n,.obj _ _,h=>by cases n <;> simp [eqOk] at h
 | n,.clo _ _,h=>by cases n <;> simp [eqOk] at h
 | n,.kc _,h=>by cases n <;> simp [eqOk] at h
theorem Qa4:∀(n:Nat) (xs:List D),U4 n xs=true->(Zq xs).all (kqdOk n)=true
 | _,[],_=>by simp [Zq]
 | n,d::r,h=>by
  simp only [U4,Bool.and_eq_true] at h
  rw [Zq,List.all_cons,Qcv n d h.1,Qa4 n r h.2];rfl
end
mutual
theorem Qdb:∀(n k:Nat) (a b:D),eqOk n a=true->eqOk k b=true->Ys a=Ys b->a=b
 | n,k,a,b,ha,hb,h=>by
  cases a with
  | non=>cases b <;> first | rfl | (simp [Ys] at h;done) | (cases k <;> simp [eqOk] at hb)
  | bl x=>cases n <;> simp [eqOk] at ha
  | int x=>cases b <;> first | (simp [Ys] at h;rw [h]) | (simp [Ys] at h)
  | str x=>cases b <;> first | (simp [Ys] at h;rw [h]) | (simp [Ys] at h)
  | tup xs =>
   cases b with
   | tup ys =>
    cases n with
    | zero=>simp [eqOk] at ha
    | succ n =>
     cases k with
     | zero=>simp [eqOk] at hb
     | succ k =>
      simp only [eqOk] at ha hb
      simp only [Ys,Dat.tuple.injEq] at h
      rw [Gx n k xs ys ha hb h]
   | _=>simp [Ys] at h
  | lst xs =>
   cases b with
   | lst ys =>
    cases n with
    | zero=>simp [eqOk] at ha
    | succ n =>
     cases k with
     | zero=>simp [eqOk] at hb
     | succ k =>
      simp only [eqOk] at ha hb
      simp only [Ys,Dat.list.injEq] at h
      rw [Gx n k xs ys ha hb h]
   | _=>simp [Ys] at h
  | dik x=>cases n <;> simp [eqOk] at ha
  | dit x=>cases n <;> simp [eqOk] at ha
  | kls x=>cases n <;> simp [eqOk] at ha
  | ty x=>cases n <;> simp [eqOk] at ha
  | fdk x=>cases n <;> simp [eqOk] at ha
  | ftp x=>cases n <;> simp [eqOk] at ha
  | fls x=>cases n <;> simp [eqOk] at ha
  | fdt x=>cases n <;> simp [eqOk] at ha
  | obj x y=>cases n <;> simp [eqOk] at ha
  | clo x y=>cases n <;> simp [eqOk] at ha
  | kc x=>cases n <;> simp [eqOk] at ha
  | dmx x=>cases n <;> simp [eqOk] at ha
  | fmx x=>cases n <;> simp [eqOk] at ha
  | lsa x y=>cases n <;> simp [eqOk] at ha
  | ist x y=>cases n <;> simp [eqOk] at ha
theorem Gx:∀(n k:Nat) (a b:List D),U4 n a=true->U4 k b=true->Zq a=Zq b->a=b
 | n,k,[],b,ha,hb,h=>by
  cases b with
  | nil=>rfl
  | cons=>simp [Zq] at h
 | n,k,x::a,b,ha,hb,h=>by
  cases b with
  | nil=>simp [Zq] at h
  | cons y b =>
   simp only [Zq,List.cons.injEq] at h
   simp only [U4,Bool.and_eq_true] at ha hb
   rw [Qdb n k x y ha.1 hb.1 h.1,Gx n k a b ha.2 hb.2 h.2]
end
theorem Rep.dv (n:Nat) (r:Rep K H d v F):eqOk n d=true->DV H v (Ys d):=by
 have no:∀{P:Prop} {n:Nat} {d:D},(∀n,eqOk n d=false)->eqOk n d=true->P:=λh h'=>absurd ((h _).symm.trans h') (by simp)
 refine Rep.rec (motive_1:=λd v _ _=>∀n,eqOk n d=true->DV H v (Ys d)) (motive_2:=λd v _ _=>∀n,U4 n d=true->DVs H v (Zq d)) (motive_3:=λ_ _ _ _=>True) (motive_4:=λ_ _ _ _=>True) ?_ ?_ ?_ ?_ ?_ ?_ ?_ ?_ ?_ ?_ ?_ ?_ ?_ ?_ ?_ ?_ ?_ ?_ ?_ ?_ ?_ ?_ ?_ trivial (λ_ _ _ _=>trivial) trivial (λ_ _ _ _=>trivial) r n
 ·exact λ_ _=>by rw [Ys];exact .non
 ·exact λb n=>no λn=>by cases n <;> rfl
 ·exact λi _ _=>by rw [Ys];exact .int i
 ·exact λi _ _=>by rw [Ys];exact .str i
 ·intro _ _ _ _ e _ ih n h
  cases n with
  | zero=>simp [eqOk] at h
  | succ n=>rw [eqOk] at h;rw [Ys];exact .tup e (ih n h)
 ·intro _ _ _ _ e _ ih n h
  cases n with
  | zero=>simp [eqOk] at h
  | succ n=>rw [eqOk] at h;rw [Ys];exact .lst e (ih n h)
 ·exact λ_ _ _ n=>no λn=>by cases n <;> rfl
 ·exact λ_ _ _ n=>no λn=>by cases n <;> rfl
 ·exact λ_ _ _ n=>no λn=>by cases n <;> rfl
 ·exact λ_ n=>no λn=>by cases n <;> rfl
 ·exact λ_ _ _ n=>no λn=>by cases n <;> rfl
 ·exact λ_ _ _ _ n=>no λn=>by cases n <;> rfl
 ·exact λ_ _ _ n=>no λn=>by cases n <;> rfl
 ·exact λ_ _ _ n=>no λn=>by cases n <;> rfl
 ·exact λ_ _ _ n=>no λn=>by cases n <;> rfl
 ·exact λ_ _ _ n=>no λn=>by cases n <;> rfl
 ·exact λ_ n=>no λn=>by cases n <;> rfl
 ·exact λ_ _ _ _ _ n=>no λn=>by cases n <;> rfl
 ·exact λ_ _ _ _ _ n=>no λn=>by cases n <;> rfl
 ·exact λ_ _ _ n=>no λn=>by cases n <;> rfl
 ·exact λ_ _ _ _ _ n=>no λn=>by cases n <;> rfl
 ·exact λ_ _=>by rw [Zq];exact .nil
 ·intro _ _ _ _ _ _ _ _ ih1 ih2 n q
  rw [U4,Bool.and_eq_true] at q
  rw [Zq];exact .cons (ih1 n q.1) (ih2 n q.2)
def dAdd:G2
 | .int i,.int j,k=>k (.int (i+j))
 | .str x,.str y,k=>x.length+y.length<=sizeLine/\k (.str (x++y))
 | .tup xs,.tup ys,k=>Ql xs=true/\Ql ys=true/\xs≠[]/\xs.length+ys.length<=sizeLine/\k (.tup (xs++ys))
 | .lst xs,.lst ys,k=>Ql xs=true/\Ql ys=true/\xs.length+ys.length<=sizeLine/\k (.lst (xs++ys))
 | _,_,_=>False
def dSub:G2
 | .int i,.int j,k=>k (.int (i-j))
 | _,_,_=>False
def dMul:G2
 | .int i,.int j,k=>CMul i j/\k (.int (i*j))
 | .lst xs,.int n,k=>Ql xs=true /\ -(2 ^ 63)<=n/\n<2 ^ 63/\xs.length*n.toNat<=sizeLine/\k (.lst (List.replicate n.toNat xs).flatten)
 | _,_,_=>False
def dDiv:G2
 | .int i,.int j,k=>(0<j/\j<1073741824/\k (.int (i / j)))\/(j<0/\j.natAbs<1073741824/\k (.int (i.fdiv j)))
 | _,_,_=>False
def dMod:G2
 | .int i,.int j,k=>(0<j/\k (.int (i % j)))\/(j<0/\k (.int (i.fmod j)))
 | _,_,_=>False
def dPow:G2
 | .int i,.int j,k=>CPow i j/\k (.int (i ^ j.toNat))
 | _,_,_=>False
def dEq:G2
 | .int i,.int j,k=>k (.bl (decide (i=j)))
 | .bl i,.bl j,k=>k (.bl (i == j))
 | .str i,.str j,k=>k (.bl (decide (i=j)))
 | a,b,k=>eqOk 9 a=true/\eqOk 9 b=true/\(a=b->k (.bl true))/\(a≠b->k (.bl false))
def dNe:G2
 | .int i,.int j,k=>k (.bl (!decide (i=j)))
 | .bl i,.bl j,k=>k (.bl (!(i == j)))
 | .str i,.str j,k=>k (.bl (!decide (i=j)))
 | a,b,k=>eqOk 9 a=true/\eqOk 9 b=true/\(a=b->k (.bl false))/\(a≠b->k (.bl true))
def dCmp (f:Int->Int->Bool):G2
 | .int i,.int j,k=>k (.bl (f i j))
 | _,_,_=>False
theorem Qo9 {x:V} (r:Rep K H (.int i) x F):x=.int i:=by cases r;rfl
theorem Reps.flatten {K:PySem.W.Frag} {H:Hp} {ds:List D} {xs:List V} (r:Reps K H ds xs []):∀n:Nat,Reps K H (List.replicate n ds).flatten (List.replicate n xs).flatten []
 | 0=>.nil
 | n+1=>by
  have:=r.append (Reps.flatten r n)
  simpa [List.replicate_succ,List.flatten_cons] using this
theorem Qnf (g:dAdd a b k):(∃i j,a=.int i/\b=.int j)\/(∃i j,a=.str i/\b=.str j)\/(∃i j,a=.tup i/\b=.tup j)\/∃i j,a=.lst i/\b=.lst j:=by
 cases a with
 | int i=>cases b with
  | int j=>exact .inl ⟨i,j,rfl,rfl⟩
  | _=>exact (show False from g).elim
 | str i=>cases b with
  | str j=>exact .inr (.inl ⟨i,j,rfl,rfl⟩)
  | _=>exact (show False from g).elim
 | tup i=>cases b with
  | tup j=>exact .inr (.inr (.inl ⟨i,j,rfl,rfl⟩))
  | _=>exact (show False from g).elim
 | lst i=>cases b with
  | lst j=>exact .inr (.inr (.inr ⟨i,j,rfl,rfl⟩))
  | _=>exact (show False from g).elim
 | _=>exact (show False from g).elim
theorem Qsn:OpD X (binaryOp .Add) dAdd:=by
 refine ⟨_,OpR.or Qsl (OpR.or Qsk (OpR.or Qp2 Qhl)),λH a b x y F1 F2 k Q ra rb g q=>?_⟩
 rcases Qnf g with ⟨i,j,rfl,rfl⟩ | ⟨i,j,rfl,rfl⟩ | ⟨ds,es,rfl,rfl⟩ | ⟨ds,es,rfl,rfl⟩
 ·exact .inl ⟨_,_,ra.iInt,rb.iInt,q _ _ _ _ (.flat (.int _)) g⟩
 ·exact .inr (.inr (.inr ⟨_,_,ra.iStr,rb.iStr,g.1,q _ _ _ _ (.flat (.str _)) g.2⟩))
 ·obtain ⟨a,xs,rfl,e1,r1⟩:=ra.iTup
  obtain ⟨b,ys,rfl,e2,r2⟩:=rb.iTup
  obtain ⟨p1,p2,hne,hz,g⟩:=g
  obtain ⟨-,r1⟩:=r1.pure p1
  obtain ⟨-,r2⟩:=r2.pure p2
  have l1:=r1.length
  have l2:=r2.length
  refine .inr (.inr (.inl ⟨a,b,xs,ys,rfl,rfl,.of e1,.of e2,λz=>hne (List.length_eq_zero_iff.mp (by rw [← l1,z];rfl)),by omega,λz=>?_,λz p hp=>?_⟩))
  ·have:es=[]:=List.length_eq_zero_iff.mp (by rw [← l2,z];rfl)
   subst this
   rw [List.append_nil] at g
   exact q _ _ _ _ (.flat (.tup e1 r1)) g
  ·refine q _ _ _ [] ⟨Qm hp,.tup Qk ?_,List.nodup_nil,λ_ m=>nomatch m⟩ g
   exact (r1.append r2).same (Qm hp)
 ·obtain ⟨a,xs,_,rfl,_,e1,r1⟩:=ra.iLst
  obtain ⟨b,ys,_,rfl,_,e2,r2⟩:=rb.iLst
  obtain ⟨p1,p2,hz,g⟩:=g
  obtain ⟨-,r1⟩:=r1.pure p1
  obtain ⟨-,r2⟩:=r2.pure p2
  have l1:=r1.length
  have l2:=r2.length
  refine .inr (.inl ⟨a,b,xs,ys,rfl,rfl,e1,e2,by omega,λp hp=>?_⟩)
  refine q _ _ _ [p] ⟨Qm hp,.lst Qk ((r1.append r2).same (Qm hp)),by simp,λc m=>by rw [List.mem_singleton.mp m];exact hp⟩ g
theorem Qaq:OpD X (binaryOp .Sub) dSub:=by
 refine ⟨_,Qsd,λH a b x y F1 F2 k Q ra rb g q=>?_⟩
 (cases ra <;> first | exact (show False from g).elim | skip) <;> (cases rb <;> first | exact (show False from g).elim | skip)
 exact ⟨_,_,rfl,rfl,q _ _ _ _ (.flat (.int _)) g⟩
theorem Qne (g:dMul a b k):(∃i j,a=.int i/\b=.int j)\/∃i j,a=.lst i/\b=.int j:=by
 cases a with
 | int i=>cases b with
  | int j=>exact .inl ⟨i,j,rfl,rfl⟩
  | _=>exact (show False from g).elim
 | lst i=>cases b with
  | int j=>exact .inr ⟨i,j,rfl,rfl⟩
  | _=>exact (show False from g).elim
 | _=>exact (show False from g).elim
theorem Qd2:OpD X (binaryOp .Mult) dMul:=by
 refine ⟨_,OpR.or Qsh Qse,λH a b x y F1 F2 k Q ra rb g q=>?_⟩
 rcases Qne g with ⟨i,j,rfl,rfl⟩ | ⟨ds,n,rfl,rfl⟩
 ·exact .inl ⟨_,_,ra.iInt,rb.iInt,g.1,q _ _ _ _ (.flat (.int _)) g.2⟩
 ·obtain ⟨a,xs,_,rfl,_,e1,r1⟩:=ra.iLst
  obtain rfl:=rb.iInt
  obtain ⟨p1,h1,h2,hz,g⟩:=g
  obtain ⟨-,r1⟩:=r1.pure p1
  have l1:=r1.length
  refine .inr ⟨a,n,xs,rfl,rfl,e1,h1,h2,by rw [l1];exact hz,λp hp=>?_⟩
  refine q _ _ _ [p] ⟨Qm hp,.lst Qk ((r1.flatten _).same (Qm hp)),by simp,λc m=>by rw [List.mem_singleton.mp m];exact hp⟩ g
theorem Qjn:OpD X (binaryOp .FloorDiv) dDiv:=by
 refine ⟨_,OpR.or Qp0 Qmh,λH a b x y F1 F2 k Q ra rb g q=>?_⟩
 (cases ra <;> first | exact (show False from g).elim | skip) <;> (cases rb <;> first | exact (show False from g).elim | skip)
 rcases (show _\/_ from g) with ⟨h1,h2,g⟩ | ⟨h1,h2,g⟩
 ·exact .inl ⟨_,_,rfl,rfl,⟨h1,h2⟩,q _ _ _ _ (.flat (.int _)) g⟩
 ·exact .inr ⟨_,_,rfl,rfl,⟨by omega,h2⟩,q _ _ _ _ (.flat (.int _)) g⟩
theorem Qbs:OpD X (binaryOp .Mod) dMod:=by
 refine ⟨_,OpR.or Qsi Qpz,λH a b x y F1 F2 k Q ra rb g q=>?_⟩
 (cases ra <;> first | exact (show False from g).elim | skip) <;> (cases rb <;> first | exact (show False from g).elim | skip)
 rcases (show _\/_ from g) with ⟨h1,g⟩ | ⟨h1,g⟩
 ·exact .inl ⟨_,_,rfl,rfl,h1,q _ _ _ _ (.flat (.int _)) g⟩
 ·exact .inr ⟨_,_,rfl,rfl,by omega,q _ _ _ _ (.flat (.int _)) g⟩
theorem Qjm:OpD X (binaryOp .Pow) dPow:=by
 refine ⟨_,Qsf,λH a b x y F1 F2 k Q ra rb g q=>?_⟩
 (cases ra <;> first | exact (show False from g).elim | skip) <;> (cases rb <;> first | exact (show False from g).elim | skip)
 exact ⟨_,_,rfl,rfl,g.1,q _ _ _ _ (.flat (.int _)) g.2⟩
theorem Qjo (h:OpR X (compareOp op) (rI0 λi j=>.bl (f i j))):OpD X (compareOp op) (dCmp f):=by
 refine ⟨_,h,λH a b x y F1 F2 k Q ra rb g q=>?_⟩
 (cases ra <;> first | exact (show False from g).elim | skip) <;> (cases rb <;> first | exact (show False from g).elim | skip)
 exact ⟨_,_,rfl,rfl,q _ _ _ _ (.flat (.bl _)) g⟩
theorem Qp7:OpD X (compareOp .Lt) (dCmp λi j=>decide (i<j)):=Qjo Qur
theorem Quw:OpD X (compareOp .Gt) (dCmp λi j=>decide (j<i)):=Qjo Qus
theorem Qki {x y:V} {F1 F2:List Addr} {Q:VK} (ra:Rep X.K H a x F1) (rb:Rep X.K H b y F2)
  (h1:eqOk 9 a=true) (h2:eqOk 9 b=true) (g1:a=b->k (.bl (!neg))) (g2:a≠b->k (.bl neg)) (q:∀v H' d F,Fin X.K H H' d v F->k d->Q v H'):rDat neg x y H Q:=by
 refine ⟨Ys a,Ys b,9,ra.dv 9 h1,rb.dv 9 h2,Qcv _ _ h1,Qcv _ _ h2,Nat.le_refl _,λe=>?_,λe=>?_⟩
 ·exact q _ _ _ _ (.flat (.bl _)) (g1 (Qdb 9 9 a b h1 h2 e))
 ·exact q _ _ _ _ (.flat (.bl _)) (g2 λz=>e (by rw [z]))
theorem Qqx (g:dEq a b k):(∃i j,a=.int i/\b=.int j)\/(∃i j,a=.bl i/\b=.bl j)\/(∃i j,a=.str i/\b=.str j)\/(eqOk 9 a=true/\eqOk 9 b=true/\(a=b->k (.bl true))/\(a≠b->k (.bl false))):=by
 cases a with
 | int i=>cases b with
  | int j=>exact .inl ⟨i,j,rfl,rfl⟩
  | _=>exact .inr (.inr (.inr g))
 | bl i=>cases b with
  | bl j=>exact .inr (.inl ⟨i,j,rfl,rfl⟩)
  | _=>exact .inr (.inr (.inr g))
 | str i=>cases b with
  | str j=>exact .inr (.inr (.inl ⟨i,j,rfl,rfl⟩))
  | _=>exact .inr (.inr (.inr g))
 | _=>exact .inr (.inr (.inr g))
theorem Ub (hu:X.A.units+64<cLine):OpD X (compareOp .Eq) dEq:=by
 refine ⟨_,OpR.or Qut (Qsj hu),λH a b x y F1 F2 k Q ra rb g q=>?_⟩
 rcases Qqx g with ⟨i,j,rfl,rfl⟩ | ⟨i,j,rfl,rfl⟩ | ⟨i,j,rfl,rfl⟩ | ⟨h1,h2,g1,g2⟩
 ·obtain rfl:=ra.iInt
  obtain rfl:=rb.iInt
  refine .inl ⟨rfl,?_⟩
  have e:decide (V.int i=V.int j)=decide (i=j):=by simp
  rw [e]
  exact q _ _ _ _ (.flat (.bl _)) g
 ·obtain rfl:=ra.iBl
  obtain rfl:=rb.iBl
  refine .inl ⟨rfl,?_⟩
  rw [Qg1]
  exact q _ _ _ _ (.flat (.bl _)) g
 ·obtain rfl:=ra.iStr
  obtain rfl:=rb.iStr
  refine .inl ⟨rfl,?_⟩
  have e:decide (V.str i=V.str j)=decide (i=j):=by simp
  rw [e]
  exact q _ _ _ _ (.flat (.bl _)) g
 ·exact .inr (Qki ra rb h1 h2 g1 g2 q)
theorem Qqs (g:dNe a b k):(∃i j,a=.int i/\b=.int j)\/(∃i j,a=.bl i/\b=.bl j)\/(∃i j,a=.str i/\b=.str j)\/(eqOk 9 a=true/\eqOk 9 b=true/\(a=b->k (.bl false))/\(a≠b->k (.bl true))):=by
 cases a with
 | int i=>cases b with
  | int j=>exact .inl ⟨i,j,rfl,rfl⟩
  | _=>exact .inr (.inr (.inr g))
 | bl i=>cases b with
  | bl j=>exact .inr (.inl ⟨i,j,rfl,rfl⟩)
  | _=>exact .inr (.inr (.inr g))
 | str i=>cases b with
  | str j=>exact .inr (.inr (.inl ⟨i,j,rfl,rfl⟩))
  | _=>exact .inr (.inr (.inr g))
 | _=>exact .inr (.inr (.inr g))
theorem Quu (hu:X.A.units+64<cLine):OpD X (compareOp .NotEq) dNe:=by
 refine ⟨_,OpR.or Quq (Qsg hu),λH a b x y F1 F2 k Q ra rb g q=>?_⟩
 rcases Qqs g with ⟨i,j,rfl,rfl⟩ | ⟨i,j,rfl,rfl⟩ | ⟨i,j,rfl,rfl⟩ | ⟨h1,h2,g1,g2⟩
 ·obtain rfl:=ra.iInt
  obtain rfl:=rb.iInt
  refine .inl ⟨rfl,?_⟩
  have e:(!decide (V.int i=V.int j)) = !decide (i=j):=by simp
  rw [e]
  exact q _ _ _ _ (.flat (.bl _)) g
 ·obtain rfl:=ra.iBl
  obtain rfl:=rb.iBl
  refine .inl ⟨rfl,?_⟩
  rw [Qg1]
  exact q _ _ _ _ (.flat (.bl _)) g
 ·obtain rfl:=ra.iStr
  obtain rfl:=rb.iStr
  refine .inl ⟨rfl,?_⟩
  have e:(!decide (V.str i=V.str j)) = !decide (i=j):=by simp
  rw [e]
  exact q _ _ _ _ (.flat (.bl _)) g
 ·exact .inr (Qki (neg:=true) ra rb h1 h2 g1 g2 q)
def dNeg:D->(D->Prop)->Prop
 | .int i,k=>k (.int (-i))
 | _,_=>False
theorem Ye:UnD X (unaryOp .USub) dNeg:=by
 refine ⟨_,Qrh,λH a x F1 k Q ra g q=>?_⟩
 cases ra <;> try exact (show False from g).elim
 exact ⟨_,rfl,q _ _ _ _ (.flat (.int _)) g⟩
end PV
variable {a:PySem.Expr} {m3:Bool}
namespace PV
open PySem PySem.Spec L2
open PyProof.Rows (subscriptTail)
def Jy:List D->Option (List Key)
 | []=>some []
 | .int i::r=>(Jy r).map λl=>.inl i::l
 | .str x::r=>(Jy r).map λl=>.inr x::l
 | _::_=>none
theorem Reps.keys {K:PySem.W.Frag} {H:Hp}:∀{ds:List D} {xs:List V} {F:List Addr} {l:List Key},Reps K H ds xs F->Jy ds=some l->xs=l.map kV
 | [],_,_,_,r,h=>by
  cases r
  simp only [Jy,Option.some.injEq] at h
  subst h
  rfl
 | d::ds,_,_,_,r,h=>by
  cases r with
  | cons p r =>
   cases d with
   | int i =>
    simp only [Jy,Option.map_eq_some_iff] at h
    obtain ⟨l',h1,rfl⟩:=h
    cases p
    rw [Reps.keys r h1]
    rfl
   | str i =>
    simp only [Jy,Option.map_eq_some_iff] at h
    obtain ⟨l',h1,rfl⟩:=h
    cases p
    rw [Reps.keys r h1]
    rfl
   | _=>simp [Jy] at h
theorem Reps.atI (r:Reps K H ds xs F) (h:L2.atI ds i=some d):∃x B,L2.atI xs i=some x/\Rep K H d x B/\B.Sublist F:=by
 unfold L2.atI at h
 cases hj:ixN ds.length i with
 | none=>rw [hj] at h;cases h
 | some j =>
  rw [hj] at h
  obtain ⟨x,B,h1,h2,h3⟩:=r.get (i:=j) h
  refine ⟨x,B,?_,h2,h3⟩
  unfold L2.atI
  rw [r.length,hj]
  exact h1
def oget {α:Type} (o:Option α) (k:α->Prop):Prop:=match o with
 | some d=>k d
 | none=>False
def onI (b:D) (k:Int->Prop):Prop:=match b with
 | .int i=>k i
 | _=>False
def onK (b:D) (k:Key->Prop):Prop:=match b with
 | .int i=>k (.inl i)
 | .str i=>k (.inr i)
 | _=>False
def onT (b:D) (k:List D->Prop):Prop:=match b with
 | .tup l=>k l
 | _=>False
theorem Qam {k:Int->Prop} (h:onI b k):∃i,b=.int i/\k i:=by
 cases b with
 | int i=>exact ⟨i,rfl,h⟩
 | _=>exact (show False from h).elim
theorem Qjf {k:List D->Prop} (h:onT b k):∃i,b=.tup i/\k i:=by
 cases b with
 | tup i=>exact ⟨i,rfl,h⟩
 | _=>exact (show False from h).elim
theorem Qe6 {k:Key->Prop} (h:onK b k):∃key,k key/\∀{K:PySem.W.Frag} {H:Hp} {v:V} {F:List Addr},Rep K H b v F->v=kV key:=by
 cases b with
 | int i=>exact ⟨.inl i,h,λr=>r.iInt⟩
 | str i=>exact ⟨.inr i,h,λr=>r.iStr⟩
 | _=>exact (show False from h).elim
def dIx:G2:=λa b k=>match a with
 | .lst xs=>onI b λi=>oget (L2.atI xs i) k
 | .tup xs=>onI b λi=>oget (L2.atI xs i) k
 | .kls xs=>onI b λi=>oget (L2.atI xs i) k
 | .str z=>onI b λi=>z.length<=sizeLine/\oget (L2.atI z.cps.toList i) λc=>k (.str ⟨#[c]⟩)
 | .dik kvs=>onK b λkey=>oget (valD kvs key) k
 | .dit kvs=>onT b λl=>oget (Jy l) λks=>oget (valD kvs ks) k
 | .fdk kvs=>onK b λkey=>oget (valD kvs key) k
 | _=>False
theorem Qu {α:Type} {o:Option α} {k:α->Prop} (h:oget o k):∃d,o=some d/\k d:=by
 cases o with
 | none=>exact h.elim
 | some d=>exact ⟨d,rfl,h⟩
theorem Qif {A:Around} {s₂:Shared} {value slice:Expr} {o i:Value} {T id:String}
  (hl:typeLookup (.type T) "__getitem__" = pure (some (.builtin id))) (hs:subscripted slice false o i=operate [o,i] (getItem o i)) (hT:s₂.TypeIs o T) (h₂:wpAny (model prog w) A (getItem o i) Q E s₂) :
  wpAny (model prog w) A (subscriptTail value slice o i) Q E s₂:=by
 unfold subscriptTail
 refine wpAny_bind ?_
 rw [getitemInPython_of_ne hT.not_modules]
 refine wpAny_bind (wpAny_specialOf hT hl ?_)
 have fin:wpAny (model prog w) A (subscripted slice false o i) (λr s₃=>wpAny (model prog w) A (letTemporaryGo value o r >>= λ_=>pure r) Q E s₃) E s₂:=by
  rw [hs]
  exact wpAny_operating (wpAny_mono h₂ (λr s₃ h₃=>wpAny_bind (wpAny_letTemporaryGo (wpAny_pure h₃))) λ_ _ x=>x)
 first
  | exact wpAny_pure (wpAny_bind fin)
  | exact wpAny_bind (wpAny_pure (wpAny_bind fin))
  | exact wpAny_bind fin
theorem Qj3 (hu:X.A.units+1<cLine):IxR X (λx y H Q=>∃a v,x=.ref a/\DGet H a y (some v)/\Q v H):=by
 intro value slice pins s σ H x y v u Q I rx ry h hs
 obtain ⟨a,z,rfl,g,q⟩:=h
 cases rx
 exact Qif PySem.F.slot_dict_getitem.lookup hs (Qfm I g) (Qkt hu I g ry λw' s3 I3 rw'=>⟨z,H,I3,rw',q⟩)
def IxD (X:Cx) (g:G2):Prop :=
 ∃r,IxR X r/\∀(H:Hp) (a b:D) (x y:V) (F1 F2:List Addr) (k:D->Prop) (Q:VK),Rep X.K H a x F1->Rep X.K H b y F2->g a b k ->
  (∀v d F,Rep X.K H d v F->F.Sublist F1->k d->Q v H)->r x y H Q
theorem Qt (hu:X.A.units+1<cLine):IxD X dIx:=by
 refine ⟨_,IxR.or Qs7 (Qj3 hu),λH a b x y F1 F2 k Q ra rb g q=>?_⟩
 cases a with
 | str z =>
  obtain ⟨i,rfl,hz,g⟩:=Qam g
  obtain ⟨c,e,g⟩:=Qu g
  exact .inl (.inr (.inr ⟨_,_,c,ra.iStr,rb.iInt,hz,e,q _ _ _ (.str _) (List.nil_sublist _) g⟩))
 | tup ds =>
  obtain ⟨i,rfl,g⟩:=Qam g
  obtain ⟨a,xs,rfl,e,r⟩:=ra.iTup
  obtain ⟨d,h,g⟩:=Qu g
  obtain ⟨v,B,h1,h2,h3⟩:=r.atI h
  exact .inl (.inr (.inl ⟨a,xs,i,v,rfl,rb.iInt,.of e,h1,q _ _ _ h2 h3 g⟩))
 | lst ds =>
  obtain ⟨i,rfl,g⟩:=Qam g
  obtain ⟨a,xs,G,rfl,rfl,e,r⟩:=ra.iLst
  obtain ⟨d,h,g⟩:=Qu g
  obtain ⟨v,B,h1,h2,h3⟩:=r.atI h
  exact .inl (.inl ⟨a,xs,i,v,rfl,rb.iInt,.of e,h1,q _ _ _ h2 (h3.trans (List.sublist_cons_self _ _)) g⟩)
 | dik ds =>
  obtain ⟨key,g,hy⟩:=Qe6 (show onK b (λkey=>oget (valD ds key) k) from g)
  obtain ⟨a,kvs,G,rfl,rfl,e,r⟩:=ra.iDik
  obtain rfl:=hy rb
  obtain ⟨d,h,g⟩:=Qu g
  rcases r.val key with ⟨z,_⟩ | ⟨d',v,B,h1,h2,h3,h4⟩
  ·rw [h] at z;cases z
  ·rw [h] at h1;cases h1
   exact .inr ⟨a,v,rfl,h2 ▸ DGet.k (k:=key) e,q _ _ _ h3 (h4.trans (List.sublist_cons_self _ _)) g⟩
 | dit ds =>
  obtain ⟨l,rfl,g⟩:=Qjf g
  obtain ⟨a,kvs,G,rfl,rfl,e,r⟩:=ra.iDit
  obtain ⟨b,xs,rfl,e2,r2⟩:=rb.iTup
  obtain ⟨ks,hk,g⟩:=Qu g
  obtain ⟨d,h,g⟩:=Qu g
  have hx:=r2.keys hk
  subst hx
  rcases r.val ks with ⟨z,_⟩ | ⟨d',v,B,h1,h2,h3,h4⟩
  ·rw [h] at z;cases z
  ·rw [h] at h1;cases h1
   exact .inr ⟨a,v,rfl,h2 ▸ DGet.t (k:=ks) e e2,q _ _ _ h3 (h4.trans (List.sublist_cons_self _ _)) g⟩
 | kls ds =>
  obtain ⟨i,rfl,g⟩:=Qam g
  obtain ⟨a,xs,rfl,rfl,e,r⟩:=ra.iKls
  obtain ⟨d,h,g⟩:=Qu g
  obtain ⟨v,B,h1,h2,h3⟩:=r.atI h
  exact .inl (.inl ⟨a,xs,i,v,rfl,rb.iInt,e.sq,h1,q _ _ _ h2 h3 g⟩)
 | fdk ds =>
  obtain ⟨key,g,hy⟩:=Qe6 (show onK b (λkey=>oget (valD ds key) k) from g)
  obtain ⟨a,ob,kvs,rfl,e,r⟩:=ra.iFdk
  obtain rfl:=hy rb
  obtain ⟨d,h,g⟩:=Qu g
  rcases r.val key with ⟨z,_⟩ | ⟨d',v,B,h1,h2,h3,h4⟩
  ·rw [h] at z;cases z
  ·rw [h] at h1;cases h1
   exact .inr ⟨a,v,rfl,.inl ⟨kvs,key,.inr ⟨ob,e⟩,rfl,h2.symm⟩,q _ _ _ h3 h4 g⟩
 | _=>exact (show False from g).elim
section
variable {b:Expr} {w:WE}
theorem Qs {g:G2} (hg:IxD X g) (ha:EV X T m1 o1 a wa) (hb:EV X T m2 o2 b wb) (hc:o1=true\/m2=false:=by first | exact .inl rfl | exact .inr rfl) (hs:Qlf b:=by intro _ _;rfl) :
  EV X T (m1 || m2) o1 (.Subscript a b pos) (wBin g wa wb):=by
 obtain ⟨r,ro,gr⟩:=hg
 obtain ⟨ta,pa,ga⟩:=ha
 obtain ⟨tb,pb,gb⟩:=hb
 refine ⟨_,Quo ro pa pb hs,λz R σ H W ρ Q Q' s hw k=>?_⟩
 refine two ga gb hc s hw λx y H2 W2 d1 d2 ρ2 F1 F2 s2 f2 c2 r1 r2 o1 _ _ q2=>?_
 exact gr H2 d1 d2 x y F1 F2 _ Q' r1 r2 q2 λv d F rd sub hk=>k v H2 W2 d ρ2 F ⟨s2,f2,c2,rd,λh=>⟨(o1 h).1.sublist sub,λa m=>(o1 h).2 a (sub.subset m)⟩⟩ hk
def inD:D->List D->Option Bool
 | .int i,[]=>some false
 | .int i,.int j::r=>(inD (.int i) r).map λb=>(j == i) || b
 | .str i,[]=>some false
 | .str i,.str j::r=>(inD (.str i) r).map λb=>(j == i) || b
 | _,_=>none
def dIn (neg:Bool):G2
 | .int i,.dik kvs,k=>k (.bl (xor neg (valD kvs (.inl i)).isSome))
 | .str i,.dik kvs,k=>k (.bl (xor neg (valD kvs (.inr i)).isSome))
 | .tup l,.dit kvs,k=>oget (Jy l) λks=>k (.bl (xor neg (valD kvs ks).isSome))
 | .int i,.lst xs,k=>oget (inD (.int i) xs) λb=>k (.bl (xor neg b))
 | .int i,.tup xs,k=>oget (inD (.int i) xs) λb=>k (.bl (xor neg b))
 | .str i,.lst xs,k=>oget (inD (.str i) xs) λb=>k (.bl (xor neg b))
 | .str i,.tup xs,k=>oget (inD (.str i) xs) λb=>k (.bl (xor neg b))
 | .str i,.str j,k=>k (.bl (xor neg (!(Builtin.Str.occurrences j i 0 j.length 1).isEmpty)))
 | _,_,_=>False
theorem Qka {K:PySem.W.Frag} {H:Hp} {i:Int}:∀{ds:List D} {xs:List V} {F:List Addr} {b:Bool},Reps K H ds xs F->inD (.int i) ds=some b->xs.all Qbi=true/\inV (.int i) xs=b
 | [],_,_,_,r,h=>by
  cases r
  simp only [inD,Option.some.injEq] at h
  subst h
  exact ⟨rfl,rfl⟩
 | d::ds,_,_,_,r,h=>by
  cases r with
  | cons p r =>
   cases d with
   | int j =>
    simp only [inD,Option.map_eq_some_iff] at h
    obtain ⟨b',h1,rfl⟩:=h
    cases p
    obtain ⟨e1,e2⟩:=Qka r h1
    refine ⟨by rw [List.all_cons,e1];rfl,?_⟩
    unfold inV at e2 ⊢
    rw [List.any_cons,e2]
    rfl
   | _=>simp [inD] at h
theorem Qj9 {K:PySem.W.Frag} {H:Hp} {i:Str}:∀{ds:List D} {xs:List V} {F:List Addr} {b:Bool},Reps K H ds xs F->inD (.str i) ds=some b->xs.all Qbi=true/\inV (.str i) xs=b
 | [],_,_,_,r,h=>by
  cases r
  simp only [inD,Option.some.injEq] at h
  subst h
  exact ⟨rfl,rfl⟩
 | d::ds,_,_,_,r,h=>by
  cases r with
  | cons p r =>
   cases d with
   | str j =>
    simp only [inD,Option.map_eq_some_iff] at h
    obtain ⟨b',h1,rfl⟩:=h
    cases p
    obtain ⟨e1,e2⟩:=Qj9 r h1
    refine ⟨by rw [List.all_cons,e1];rfl,?_⟩
    unfold inV at e2 ⊢
    rw [List.any_cons,e2]
    rfl
   | _=>simp [inD] at h
theorem Qp1 (neg:Bool) (hu:X.A.units+1<cLine):OpR X (compareOp (if neg then .NotIn else .In)) (λy x H Q=>∃a o,x=.ref a/\DGet H a y o/\Q (.bl (xor neg o.isSome)) H):=by
 intro pins s σ H y x u v Q I ry rx h
 obtain ⟨a,ov,rfl,g,q⟩:=h
 cases rx
 cases neg with
 | false=>exact d_in hu I g ry λs3 I3=>⟨.bl ov.isSome,H,I3,rfl,by simpa using q⟩
 | true=>exact Qqr hu I g ry λs3 I3=>⟨.bl (!ov.isSome),H,I3,rfl,by simpa using q⟩
theorem Qmg (neg:Bool):OpR X (compareOp (if neg then .NotIn else .In)) (rIn X.K neg):=by
 cases neg with
 | false=>exact Qje
 | true=>exact Qdv
theorem Qmf (neg:Bool):OpR X (compareOp (if neg then .NotIn else .In)) (λx y H Q=>∃i j,x=.str i/\y=.str j/\Q (.bl (xor neg (!(Builtin.Str.occurrences j i 0 j.length 1).isEmpty))) H):=by
 cases neg with
 | false=>simpa using Qjd (X:=X)
 | true=>simpa using Qdu (X:=X)
theorem Qdm {a:Addr} {kvs:List (Key × V)} {ds:List (Key × D)} {k:Key} (e:H a=some (.dK kvs)) (r:RepK X.K H ds kvs F):∃o,DGet H a (kV k) o/\o.isSome=(valD ds k).isSome:=by
 refine ⟨_,DGet.k (k:=k) e,?_⟩
 rcases r.val k with ⟨h1,h2⟩ | ⟨d,v,B,h1,h2,_⟩ <;> simp [h1,h2]
theorem Qqw {a b:D} (g:dIn neg a b k):(∃i z,a=.int i/\b=.tup z)\/(∃i z,a=.int i/\b=.lst z)\/(∃i z,a=.int i/\b=.dik z)\/(∃i z,a=.str i/\b=.str z)\/(∃i z,a=.str i/\b=.tup z)\/(∃i z,a=.str i/\b=.lst z)\/(∃i z,a=.str i/\b=.dik z)\/∃i z,a=.tup i/\b=.dit z:=by
 cases a with
 | int i=>cases b with
  | tup z=>exact .inl ⟨i,z,rfl,rfl⟩
  | lst z=>exact .inr (.inl ⟨i,z,rfl,rfl⟩)
  | dik z=>exact .inr (.inr (.inl ⟨i,z,rfl,rfl⟩))
  | _=>exact (show False from g).elim
 | str i=>cases b with
  | str z=>exact .inr (.inr (.inr (.inl ⟨i,z,rfl,rfl⟩)))
  | tup z=>exact .inr (.inr (.inr (.inr (.inl ⟨i,z,rfl,rfl⟩))))
  | lst z=>exact .inr (.inr (.inr (.inr (.inr (.inl ⟨i,z,rfl,rfl⟩)))))
  | dik z=>exact .inr (.inr (.inr (.inr (.inr (.inr (.inl ⟨i,z,rfl,rfl⟩))))))
  | _=>exact (show False from g).elim
 | tup i=>cases b with
  | dit z=>exact .inr (.inr (.inr (.inr (.inr (.inr (.inr ⟨i,z,rfl,rfl⟩))))))
  | _=>exact (show False from g).elim
 | _=>exact (show False from g).elim
theorem Qoe (neg:Bool) (hu:X.A.units+1<cLine):OpD X (compareOp (if neg then .NotIn else .In)) (dIn neg):=by
 refine ⟨_,OpR.or (Qp1 neg hu) (OpR.or (Qmg neg) (Qmf neg)),λH a b x y F1 F2 k Q ra rb g q=>?_⟩
 have seqI:∀{i:Int} {p:Addr} {ds:List D} {xs:List V} {F:List Addr},x=.int i->y=.ref p->Reps X.K H ds xs F->(SqL X.K H p xs\/SqT X.K H p xs)->oget (inD (.int i) ds) (λb=>k (.bl (xor neg b)))->rIn X.K neg x y H Q:=λ{i p ds xs F} ex ey r hs g=>by
  subst ex ey
  obtain ⟨b,h,g⟩:=Qu g
  obtain ⟨e1,e2⟩:=Qka r h
  refine ⟨p,xs,rfl,hs,rfl,e1,?_⟩
  rw [e2]
  have:=q _ _ _ _ (.flat (.bl _)) g
  cases neg <;> simpa using this
 have seqS:∀{i:Str} {p:Addr} {ds:List D} {xs:List V} {F:List Addr},x=.str i->y=.ref p->Reps X.K H ds xs F->(SqL X.K H p xs\/SqT X.K H p xs)->oget (inD (.str i) ds) (λb=>k (.bl (xor neg b)))->rIn X.K neg x y H Q:=λ{i p ds xs F} ex ey r hs g=>by
  subst ex ey
  obtain ⟨b,h,g⟩:=Qu g
  obtain ⟨e1,e2⟩:=Qj9 r h
  refine ⟨p,xs,rfl,hs,rfl,e1,?_⟩
  rw [e2]
  have:=q _ _ _ _ (.flat (.bl _)) g
  cases neg <;> simpa using this
 rcases Qqw g with ⟨i,z,rfl,rfl⟩ | ⟨i,z,rfl,rfl⟩ | ⟨i,ds,rfl,rfl⟩ | ⟨i,z,rfl,rfl⟩ | ⟨i,z,rfl,rfl⟩ | ⟨i,z,rfl,rfl⟩ | ⟨i,ds,rfl,rfl⟩ | ⟨l,ds,rfl,rfl⟩
 ·obtain ⟨p,xs,ey,e,r⟩:=rb.iTup
  exact .inr (.inl (seqI ra.iInt ey r (.inr (.of e)) g))
 ·obtain ⟨p,xs,G,ey,_,e,r⟩:=rb.iLst
  exact .inr (.inl (seqI ra.iInt ey r (.inl (.of e)) g))
 ·obtain ⟨a,kvs,G,rfl,_,e,r⟩:=rb.iDik
  obtain rfl:=ra.iInt
  obtain ⟨o,h1,h2⟩:=Qdm (k:=.inl i) e r
  refine .inl ⟨a,o,rfl,h1,?_⟩
  rw [h2]
  exact q _ _ _ _ (.flat (.bl _)) g
 ·exact .inr (.inr ⟨_,_,ra.iStr,rb.iStr,q _ _ _ _ (.flat (.bl _)) g⟩)
 ·obtain ⟨p,xs,ey,e,r⟩:=rb.iTup
  exact .inr (.inl (seqS ra.iStr ey r (.inr (.of e)) g))
 ·obtain ⟨p,xs,G,ey,_,e,r⟩:=rb.iLst
  exact .inr (.inl (seqS ra.iStr ey r (.inl (.of e)) g))
 ·obtain ⟨a,kvs,G,rfl,_,e,r⟩:=rb.iDik
  obtain rfl:=ra.iStr
  obtain ⟨o,h1,h2⟩:=Qdm (k:=.inr i) e r
  refine .inl ⟨a,o,rfl,h1,?_⟩
  rw [h2]
  exact q _ _ _ _ (.flat (.bl _)) g
 ·obtain ⟨b,xs,rfl,e2,r2⟩:=ra.iTup
  obtain ⟨a,kvs,G,rfl,_,e,r⟩:=rb.iDit
  obtain ⟨ks,hk,g⟩:=Qu g
  have hx:=r2.keys hk
  subst hx
  refine .inl ⟨a,valV kvs ks,rfl,DGet.t (k:=ks) e e2,?_⟩
  have h2:(valV kvs ks).isSome=(valD ds ks).isSome:=by
   rcases r.val ks with ⟨h1,h2⟩ | ⟨d,v,B,h1,h2,_⟩ <;> simp [h1,h2]
  rw [h2]
  exact q _ _ _ _ (.flat (.bl _)) g
theorem Quv (hu:X.A.units+1<cLine):OpD X (compareOp .In) (dIn false):=Qoe false hu
theorem Qod (hu:X.A.units+1<cLine):OpD X (compareOp .NotIn) (dIn true):=Qoe true hu
abbrev WA:=Env->(List D->Env->Prop)->Prop
structure PostA (K:PySem.W.Frag) (T:Tg) (z:Nat->V) (R:Addr->Prop) (m o:Bool) (H:Hp) (W:Addr->Prop) (σ:St) (ρ:Env) (H':Hp) (W':Addr->Prop) (ρ':Env) (ds:List D) (vs:List V) (F:List Addr):Prop where
 sr:SR K T z R H' W' σ ρ'
 fr:FrW H W H' W'
 calm:m=false->Same H H'/\W'=W/\ρ'=ρ
 rep:Reps K H' ds vs F
 own:o=true->F.Nodup/\∀a∈F,H a=none/\¬W' a
def AV (X:Cx) (T:Tg) (m o:Bool) (es:List Expr) (w:WA):Prop :=
 ∃ta,PA X es ta/\∀(z:Nat->V) (R:Addr->Prop) (σ:St) (H:Hp) (W:Addr->Prop) (ρ:Env) (Q:List D->Env->Prop) (Q':List V->Hp->Prop),SR X.K T z R H W σ ρ->w ρ Q ->
  (∀vs H' W' ds ρ' F,PostA X.K T z R m o H W σ ρ H' W' ρ' ds vs F->Q ds ρ'->Q' vs H')->ta σ H Q'
end
section
variable {b:Expr} {w:WE} {wr:WA}
def wNil:WA:=λρ Q=>Q [] ρ
def Qb (w:WE) (wr:WA):WA:=λρ Q=>w ρ λd ρ1=>wr ρ1 λds ρ2=>Q (d::ds) ρ2
theorem Qf:AV X T false true [] wNil:=⟨_,Qdt,λz R σ H W ρ Q Q' s hw k=>k [] H W [] ρ [] ⟨s,FrW.refl H W,λ_=>⟨Same.refl H,rfl,rfl⟩,.nil,λ_=>⟨List.nodup_nil,λa m=>nomatch m⟩⟩ hw⟩
theorem Qa (he:EV X T m1 o1 e w) (hr:AV X T m2 o2 es wr) (hc:o1=true\/m2=false:=by first | exact .inl rfl | exact .inr rfl) (hs:starEach (e::es) X.env=(false,eval e X.env)::starEach es X.env:=by rfl) :
  AV X T (m1 || m2) (o1 && o2) (e::es) (Qb w wr):=by
 obtain ⟨te,pe,ge⟩:=he
 obtain ⟨ta,pa,ga⟩:=hr
 refine ⟨_,Vq pe pa hs,λz R σ H W ρ Q Q' s hw k=>?_⟩
 refine ge z R σ H W ρ _ _ s hw λv1 H1 W1 d1 ρ1 F1 p q1=>?_
 refine ga z R σ H1 W1 ρ1 _ _ p.sr q1 λvs H2 W2 ds ρ2 F2 q q2=>?_
 have r1:Rep X.K H2 d1 v1 F1:=by
  rcases hc with hc | hc
  ·exact p.rep.keep q.fr λa h=>((p.own hc).2 a h).2
  ·exact p.rep.same (q.calm hc).1
 refine k (v1::vs) H2 W2 (d1::ds) ρ2 (F1++F2) ⟨q.sr,p.fr.trans q.fr,λh=>?_,.cons r1 q.rep,λh=>?_⟩ q2
 ·rw [Bool.or_eq_false_iff] at h
  obtain ⟨a1,a2,a3⟩:=p.calm h.1
  obtain ⟨b1,b2,b3⟩:=q.calm h.2
  exact ⟨a1.trans b1,b2.trans a2,b3.trans a3⟩
 ·rw [Bool.and_eq_true] at h
  obtain ⟨n1,k1⟩:=p.own h.1
  obtain ⟨n2,k2⟩:=q.own h.2
  refine ⟨List.nodup_append.mpr ⟨n1,n2,λa ma b mb e=>?_⟩,λa ma=>?_⟩
  ·subst e
   obtain ⟨ob,e,_⟩:=p.rep.dom a ma
   rw [(k2 a mb).1] at e;cases e
  ·rcases List.mem_append.mp ma with ma | ma
   ·refine ⟨(k1 a ma).1,λw=>?_⟩
    rcases q.fr.new a w with w | w
    ·exact (k1 a ma).2 w
    ·obtain ⟨ob,e,_⟩:=p.rep.dom a ma
     rw [w] at e;cases e
   ·exact ⟨p.fr.dom a (k2 a ma).1,(k2 a ma).2⟩
def wTup (wr:WA):WE:=λρ Q=>wr ρ λds ρ'=>ds.length<=sizeLine/\Q (.tup ds) ρ'
def wLst (wr:WA):WE:=λρ Q=>wr ρ λds ρ'=>ds.length<=sizeLine/\Q (.lst ds) ρ'
theorem Qr {x1} (h:AV X T m o es wr):EV X T m o (.Tuple es x1 pos) (wTup wr):=by
 obtain ⟨ta,pa,ga⟩:=h
 refine ⟨_,Qoa pa,λz R σ H W ρ Q Q' s hw k=>?_⟩
 refine ga z R σ H W ρ _ _ s hw λvs H1 W1 ds ρ1 F p q=>?_
 obtain ⟨hz,q⟩:=q
 refine ⟨by rw [p.rep.length];exact hz,λa ha=>k _ _ W1 (.tup ds) ρ1 F ⟨p.sr.same (Qm ha),p.fr.trans (FrW.same W1 (Qm ha)),λh=>⟨(p.calm h).1.trans (Qm ha),(p.calm h).2⟩,.tup Qk (p.rep.same (Qm ha)),p.own⟩ q⟩
theorem Zx (h:AV X T m o es wr):EV X T m o (.List es pos) (wLst wr):=by
 obtain ⟨ta,pa,ga⟩:=h
 refine ⟨_,Qob pa,λz R σ H W ρ Q Q' s hw k=>?_⟩
 refine ga z R σ H W ρ _ _ s hw λvs H1 W1 ds ρ1 F p q=>?_
 obtain ⟨hz,q⟩:=q
 refine ⟨by rw [p.rep.length];exact hz,λa ha=>k _ _ W1 (.lst ds) ρ1 (a::F) ⟨p.sr.same (Qm ha),p.fr.trans (FrW.same W1 (Qm ha)),λh=>⟨(p.calm h).1.trans (Qm ha),(p.calm h).2⟩,.lst Qk (p.rep.same (Qm ha)),λh=>?_⟩ q⟩
 obtain ⟨n1,k1⟩:=p.own h
 refine ⟨List.nodup_cons.mpr ⟨λm=>?_,n1⟩,λb mb=>?_⟩
 ·obtain ⟨ob,e,_⟩:=p.rep.dom a m
  rw [ha] at e;cases e
 ·rcases List.mem_cons.mp mb with rfl | mb
  ·exact ⟨p.fr.dom _ ha,p.sr.nw ha⟩
  ·exact k1 b mb
theorem Qcu:EV X T false true (.Dict [] [] pos) (wC (.dik [])) :=
 ⟨_,Qmc,λz R σ H W ρ Q Q' s hw k a ha=>k _ _ W (.dik []) ρ [a] (Post.fin s (FrW.refl H W) (λ_=>⟨Same.refl H,rfl,rfl⟩) (Qm ha) (.dik Qk .nil) (by simp) (λb m=>by rw [List.mem_singleton.mp m];exact ha)) hw⟩
theorem Qgx:EV X T false true (.Dict [] [] pos) (wC (.dit [])) :=
 ⟨_,Qmb,λz R σ H W ρ Q Q' s hw k a ha=>k _ _ W (.dit []) ρ [a] (Post.fin s (FrW.refl H W) (λ_=>⟨Same.refl H,rfl,rfl⟩) (Qm ha) (.dit Qk .nil) (by simp) (λb m=>by rw [List.mem_singleton.mp m];exact ha)) hw⟩
abbrev GA:=List D->(D->Prop)->Prop
end
end PV
variable {Q:PV.D->PV.Env->Prop} {g:PV.GA} {ta:L2.TA} {Q':L2.VK} {T':String}
namespace PV
open PySem PySem.Spec L2
open PyProof.Rows (subscriptTail)
section
variable {wr:WA}
def Qer (X:Cx) (f:Value) (g:GA):Prop :=
 ∃r,Uh X f r/\∀(H:Hp) (ds:List D) (xs:List V) (F:List Addr) (k:D->Prop) (Q:VK),Reps X.K H ds xs F->g ds k->(∀v H' d F',Fin X.K H H' d v F'->k d->Q v H')->r xs H Q
def Qn (g:GA) (wr:WA):WE:=λρ Q=>wr ρ λds ρ'=>g ds λd=>Q d ρ'
end
section
variable {b:Expr} {wr:WA} {id:String}
theorem Qg4 {r:List V->Hp->VK->Prop} (gr:∀(H:Hp) (ds:List D) (xs:List V) (F:List Addr) (k:D->Prop) (Q:VK),Reps X.K H ds xs F->g ds k->(∀v H' d F',Fin X.K H H' d v F'->k d->Q v H')->r xs H Q) (ga:∀(z:Nat->V) (R:Addr->Prop) (σ:St) (H:Hp) (W:Addr->Prop) (ρ:Env) (Q:List D->Env->Prop) (Q':List V->Hp->Prop),SR X.K T z R H W σ ρ->wr ρ Q ->
   (∀vs H' W' ds ρ' F,PostA X.K T z R m o H W σ ρ H' W' ρ' ds vs F->Q ds ρ'->Q' vs H')->ta σ H Q') {W:Addr->Prop} (s:SR X.K T z R H W σ ρ) (hw:Qn g wr ρ Q)
  (k:∀v H' W' d ρ' F,Post X.K T z R m true H W σ ρ H' W' ρ' d v F->Q d ρ'->Q' v H'):ta σ H λvs H1=>r vs H1 Q':=by
 refine ga z R σ H W ρ _ _ s hw λvs H1 W1 ds ρ1 F p q=>?_
 exact gr H1 ds vs F _ Q' p.rep q λv H' d F' fi hk=>k v H' W1 d ρ1 F' (Post.fin p.sr p.fr p.calm fi.same fi.rep fi.nd fi.new) hk
theorem Je (hc:Qer X (.builtin id) g) (hm:X.mg x=none) (hv:bootBuiltins x=some (.builtin id)) (ha:AV X T m o (e::es) wr) (hg:Gl X x:=by rfl) (hn:x ≠ "__name__":=by decide) (hdb:(x == ("__debug__" : Str))=false:=by decide)
  (he:starEach (e::es) X.env=(false,eval e X.env)::starEach es X.env:=by rfl) (hpl:(backTo pos (starEach es X.env)).any (·.1)=false:=by rfl):EV X T m true (.Call (.Name x p) (e::es) [] pos) (Qn g wr):=by
 obtain ⟨r,rc,gr⟩:=hc
 obtain ⟨ta,pa,ga⟩:=ha
 exact ⟨_,Qme rc hg hm hv pa hn hdb he hpl,λz R σ H W ρ Q Q' s hw k=>Qg4 gr ga s hw k⟩
theorem Jl (hc:Qer X (.type T') g) (hm:X.mg x=none) (hv:bootBuiltins x=some (.type T')) (ha:AV X T m o (e::es) wr) (hg:Gl X x:=by rfl) (hn:x ≠ "__name__":=by decide) (hdb:(x == ("__debug__" : Str))=false:=by decide)
  (he:starEach (e::es) X.env=(false,eval e X.env)::starEach es X.env:=by rfl) (hpl:(backTo pos (starEach es X.env)).any (·.1)=false:=by rfl):EV X T m true (.Call (.Name x p) (e::es) [] pos) (Qn g wr):=by
 obtain ⟨r,rc,gr⟩:=hc
 obtain ⟨ta,pa,ga⟩:=ha
 exact ⟨_,Qjb rc hg hm hv pa hn hdb he hpl,λz R σ H W ρ Q Q' s hw k=>Qg4 gr ga s hw k⟩
theorem Qm4 (t:Ty) (hm:X.mg x=none) (hv:bootBuiltins x=some (.type t.nm)) (hg:Gl X x:=by rfl) (hn:x ≠ "__name__":=by decide) (hdb:(x == ("__debug__" : Str))=false:=by decide):EV X T false true (.Name x pos) (wC (.ty t)) :=
 Gs (Qpx hg hm hv (v:=.ty t.nm) rfl hn hdb) λ_=>.ty t
theorem Reps.at1 (r:Reps K H [d] xs F):∃v,xs=[v]/\Rep K H d v F:=by
 cases r with
 | cons h r=>cases r;rw [List.append_nil];exact ⟨_,rfl,h⟩
theorem Reps.at2 {e:D} (r:Reps K H [d,e] xs F):∃v u F1 F2,xs=[v,u]/\Rep K H d v F1/\Rep K H e u F2:=by
 cases r with
 | cons h r =>
  obtain ⟨u,rfl,h2⟩:=r.at1
  exact ⟨_,_,_,_,rfl,h,h2⟩
def dLen:GA
 | [.lst xs],k=>k (.int xs.length)
 | [.tup xs],k=>k (.int xs.length)
 | [.kls xs],k=>k (.int xs.length)
 | [.dik xs],k=>k (.int xs.length)
 | [.str z],k=>z.length<=sizeLine/\k (.int z.length)
 | _,_=>False
theorem Vk:Qer X (.builtin "len") dLen:=by
 refine ⟨_,Uh.or Qcz Qk2,λH ds xs F k Q r g q=>?_⟩
 cases ds with
 | nil=>exact (show False from g).elim
 | cons d ds =>
  cases ds with
  | cons _ _=>cases d <;> exact (show False from g).elim
  | nil =>
   cases d with
   | lst es =>
    obtain ⟨v,rfl,rd⟩:=r.at1
    clear r
    cases rd with
    | lst e r9=>exact .inl ⟨_,_,rfl,.inl ⟨_,.of e,rfl⟩,by rw [r9.length];exact q _ _ _ _ (.flat (.int _)) g⟩
   | tup es =>
    obtain ⟨v,rfl,rd⟩:=r.at1
    clear r
    cases rd with
    | tup e r9=>exact .inl ⟨_,_,rfl,.inr ⟨_,.of e,rfl⟩,by rw [r9.length];exact q _ _ _ _ (.flat (.int _)) g⟩
   | kls es =>
    obtain ⟨v,rfl,rd⟩:=r.at1
    clear r
    cases rd with
    | kls e r9=>exact .inl ⟨_,_,rfl,.inl ⟨_,e.sq,rfl⟩,by rw [r9.length];exact q _ _ _ _ (.flat (.int _)) g⟩
   | dik es =>
    obtain ⟨v,rfl,rd⟩:=r.at1
    clear r
    cases rd with
    | dik e r9=>exact .inr ⟨_,_,rfl,e,by rw [r9.length];exact q _ _ _ _ (.flat (.int _)) g⟩
   | str es =>
    obtain ⟨v,rfl,rd⟩:=r.at1
    clear r
    cases rd
    exact .inl ⟨_,_,rfl,⟨g.1,rfl⟩,q _ _ _ _ (.flat (.int _)) g.2⟩
   | _=>exact (show False from g).elim
def dInt:GA
 | [.int i],k=>k (.int i)
 | [.bl b],k=>k (.int (if b then 1 else 0))
 | _,_=>False
theorem Qtl:Qer X (.type "int") dInt:=by
 refine ⟨_,Qk4,λH ds xs F k Q r g q=>?_⟩
 cases ds with
 | nil=>exact (show False from g).elim
 | cons d ds =>
  cases ds with
  | cons _ _=>cases d <;> exact (show False from g).elim
  | nil =>
   cases d with
   | int i =>
    obtain ⟨v,rfl,rd⟩:=r.at1
    cases rd
    exact .inl ⟨_,rfl,q _ _ _ _ (.flat (.int _)) g⟩
   | bl i =>
    obtain ⟨v,rfl,rd⟩:=r.at1
    cases rd
    exact .inr ⟨_,rfl,q _ _ _ _ (.flat (.int _)) g⟩
   | _=>exact (show False from g).elim
def Qqu:GA
 | [.lst xs],k=>Ql xs=true/\k (.lst xs)
 | [.tup xs],k=>Ql xs=true/\k (.lst xs)
 | [.kls xs],k=>Ql xs=true/\k (.lst xs)
 | _,_=>False
theorem Qqz:Qer X (.type "list") Qqu:=by
 refine ⟨_,Qef,λH ds xs F k Q r g q=>?_⟩
 cases ds with
 | nil=>exact (show False from g).elim
 | cons d ds =>
  cases ds with
  | cons _ _=>cases d <;> exact (show False from g).elim
  | nil =>
   cases d with
   | lst es =>
    obtain ⟨v,rfl,rd⟩:=r.at1
    clear r
    cases rd with
    | lst e r9=>exact ⟨_,_,rfl,.inl (.of e),λl hl=>q _ _ _ [l] ⟨Qm hl,.lst Qk ((r9.pure g.1).2.same (Qm hl)),by simp,λb m=>by rw [List.mem_singleton.mp m];exact hl⟩ g.2⟩
   | tup es =>
    obtain ⟨v,rfl,rd⟩:=r.at1
    clear r
    cases rd with
    | tup e r9=>exact ⟨_,_,rfl,.inr (.of e),λl hl=>q _ _ _ [l] ⟨Qm hl,.lst Qk ((r9.pure g.1).2.same (Qm hl)),by simp,λb m=>by rw [List.mem_singleton.mp m];exact hl⟩ g.2⟩
   | kls es =>
    obtain ⟨v,rfl,rd⟩:=r.at1
    clear r
    cases rd with
    | kls e r9=>exact ⟨_,_,rfl,.inl e.sq,λl hl=>q _ _ _ [l] ⟨Qm hl,.lst Qk ((r9.pure g.1).2.same (Qm hl)),by simp,λb m=>by rw [List.mem_singleton.mp m];exact hl⟩ g.2⟩
   | _=>exact (show False from g).elim
def Zy:GA
 | [.lst xs],k=>Ql xs=true/\k (.tup xs)
 | [.tup xs],k=>Ql xs=true/\k (.tup xs)
 | [.kls xs],k=>Ql xs=true/\k (.tup xs)
 | _,_=>False
theorem J8:Qer X (.type "tuple") Zy:=by
 refine ⟨_,Qcy,λH ds xs F k Q r g q=>?_⟩
 cases ds with
 | nil=>exact (show False from g).elim
 | cons d ds =>
  cases ds with
  | cons _ _=>cases d <;> exact (show False from g).elim
  | nil =>
   cases d with
   | lst es =>
    obtain ⟨v,rfl,rd⟩:=r.at1
    clear r
    cases rd with
    | lst e r9=>exact ⟨_,_,rfl,.inl ⟨.of e,λl hl=>q _ _ _ [] ⟨Qm hl,.tup Qk ((r9.pure g.1).2.same (Qm hl)),by simp,λb m=>nomatch m⟩ g.2⟩⟩
   | tup es =>
    obtain ⟨v,rfl,rd⟩:=r.at1
    clear r
    cases rd with
    | tup e r9=>exact ⟨_,_,rfl,.inr ⟨.of e,q _ _ _ _ (.flat (.tup e (r9.pure g.1).2)) g.2⟩⟩
   | kls es =>
    obtain ⟨v,rfl,rd⟩:=r.at1
    clear r
    cases rd with
    | kls e r9=>exact ⟨_,_,rfl,.inl ⟨e.sq,λl hl=>q _ _ _ [] ⟨Qm hl,.tup Qk ((r9.pure g.1).2.same (Qm hl)),by simp,λb m=>nomatch m⟩ g.2⟩⟩
   | _=>exact (show False from g).elim
end
end PV
variable {b:PySem.Expr} {w:PV.WE} {i q:Nat} {fp:Nat->List PySem.Addr} {l:PySem.Addr} {G:Nat->Nat} {F':List PySem.Addr} {ob':L2.HO} {wr:PV.WA} {wt:PV.WT}
namespace PV
open PySem PySem.Spec L2
def isiD:D->Ty->Option Bool
 | .non,_=>some false
 | .bl _,t=>some (t == .bool || t == .int)
 | .int _,t=>some (t == .int)
 | .str _,t=>some (t == .str)
 | .tup _,t=>some (t == .tuple)
 | .lst _,t=>some (t == .list)
 | .dik _,t=>some (t == .dict)
 | .dit _,t=>some (t == .dict)
 | .kls _,_=>none
 | .ty _,_=>none
 | .fdk _,t=>some (t == .dict)
 | .ftp _,_=>none
 | .fls _,t=>some (t == .list)
 | .fdt _,_=>none
 | .obj _ _,_=>none
 | .clo _ _,_=>none
 | .kc _,_=>none
 | .dmx _,_=>none
 | .fmx _,_=>none
 | .lsa _ _,_=>none
 | .ist _ _,_=>none
def dIsi:GA
 | [d,.ty t],k=>oget (isiD d t) λb=>k (.bl b)
 | _,_=>False
theorem Qsw (t:Ty):PySem.W.kitOne K (.type "NoneType") (.type t.nm)=some false:=by
 cases t <;> (unfold PySem.W.kitOne;rw [if_neg (by decide)];rfl)
theorem Qsy (t:Ty):PySem.W.kitOne K (.type "bool") (.type t.nm)=some (t == .bool || t == .int):=by
 cases t <;> first | (unfold PySem.W.kitOne;rw [if_pos (by decide)];rfl) | (unfold PySem.W.kitOne;rw [if_neg (by decide)];rfl)
theorem Qsx (t:Ty):PySem.W.kitOne K (.type "int") (.type t.nm)=some (t == .int):=by
 cases t <;> first | (unfold PySem.W.kitOne;rw [if_pos (by decide)];rfl) | (unfold PySem.W.kitOne;rw [if_neg (by decide)];rfl)
theorem Qsv (t:Ty):PySem.W.kitOne K (.type "str") (.type t.nm)=some (t == .str):=by
 cases t <;> first | (unfold PySem.W.kitOne;rw [if_pos (by decide)];rfl) | (unfold PySem.W.kitOne;rw [if_neg (by decide)];rfl)
theorem Qsu (t:Ty):PySem.W.kitOne K (.type "tuple") (.type t.nm)=some (t == .tuple):=by
 cases t <;> first | (unfold PySem.W.kitOne;rw [if_pos (by decide)];rfl) | (unfold PySem.W.kitOne;rw [if_neg (by decide)];rfl)
theorem Qoi (t:Ty):PySem.W.kitOne K (.type "list") (.type t.nm)=some (t == .list):=by
 cases t <;> first | (unfold PySem.W.kitOne;rw [if_pos (by decide)];rfl) | (unfold PySem.W.kitOne;rw [if_neg (by decide)];rfl)
theorem Qjy (t:Ty):PySem.W.kitOne K (.type "dict") (.type t.nm)=some (t == .dict):=by
 cases t <;> first | (unfold PySem.W.kitOne;rw [if_pos (by decide)];rfl) | (unfold PySem.W.kitOne;rw [if_neg (by decide)];rfl)
theorem Qk3:Uh X (.builtin "isinstance") (λxs H Q=>∃a o kvs T b,xs=[.ref a,.ty T]/\H a=some (.frz o (.dK kvs))/\PySem.W.kitOne X.K (.type "dict") (.type T)=some b/\Q (.bl b) H):=by
 intro pins s σ H xs us Q I r h
 obtain ⟨a,o,kvs,T,b,rfl,ea,e,q⟩:=h
 obtain ⟨u,c,rfl,ru,rc⟩:=Qrg r
 cases (show c=Value.type T from rc)
 cases (show u=Value.ref a from ru)
 obtain ⟨_,_,_,vs,_,p⟩:=(show J4 X.prog X.w H s.heap a (.frz o (.dK kvs)) from I.hok a _ ea)
 obtain ⟨o',es,ep,h1,h2,_⟩:=p
 exact PySem.W.kia_one PySem.W.kitx_dict I.kIn ⟨o',h1,h2.1⟩ e (λz=>nomatch z) λtk=>⟨.bl b,H,I.tok _,rfl,q⟩
theorem Qg3:Qer X (.builtin "isinstance") dIsi:=by
 refine ⟨_,Uh.or Qfn Qk3,λH ds xs F k Q r g q=>?_⟩
 match ds,r,g with
 | [d,.ty t],r,g =>
  obtain ⟨v,u,F1,F2,rfl,r1,r2⟩:=r.at2
  obtain ⟨b,hb,g⟩:=Qu g
  cases r2
  have fin:=q _ _ _ _ (.flat (.bl b)) g
  cases r1 with
  | non=>exact .inl ⟨_,_,_,_,rfl,.non,Qsw t,by cases hb;exact fin⟩
  | bl c=>exact .inl ⟨_,_,_,_,rfl,.bl c,Qsy t,by cases hb;exact fin⟩
  | int c=>exact .inl ⟨_,_,_,_,rfl,.int c,Qsx t,by cases hb;exact fin⟩
  | str c=>exact .inl ⟨_,_,_,_,rfl,.str c,Qsv t,by cases hb;exact fin⟩
  | tup e _=>exact .inl ⟨_,_,_,_,rfl,.tup e,Qsu t,by cases hb;exact fin⟩
  | lst e _=>exact .inl ⟨_,_,_,_,rfl,.lst e,Qoi t,by cases hb;exact fin⟩
  | dik e _=>exact .inl ⟨_,_,_,_,rfl,.dK e,Qjy t,by cases hb;exact fin⟩
  | dit e _=>exact .inl ⟨_,_,_,_,rfl,.dT e,Qjy t,by cases hb;exact fin⟩
  | kls _ _=>cases hb
  | ty _=>cases hb
  | fdk e _=>exact .inr ⟨_,_,_,_,_,rfl,e,Qjy t,by cases hb;exact fin⟩
  | ftp _ _ _=>cases hb
  | fls e _=>exact .inl ⟨_,_,_,_,rfl,.frz e,Qoi t,by cases hb;exact fin⟩
  | fdt _ _=>cases hb
  | obj _ _ _=>cases hb
  | clo _ _=>cases hb
  | kc _=>cases hb
  | dmx _ _ _ _=>cases hb
  | fmx _ _ _ _=>cases hb
  | lsa _ _=>cases hb
  | ist _ _ _ _=>cases hb
theorem SR0.write {W:Addr->Prop} {d':D} (s:SR0 K T z R H W σ ρ fp)
  (hl:look ρ i=some d) (ht:T.own i=true) (hv:σ[i]? = some (some v)) (hm:l∈fp i) (hk:∀b u,H b=some u->b≠l->H' b=some u) (hnew:∃ob,H' l=some ob/\imm ob=false) (r:Rep K H' d' v F') (nd:F'.Nodup)
  (sub:∀a∈F',a∈fp i\/(¬W a/\¬R a)):SR K T z R H' (λa=>W a\/a∈F') σ (ρ.set i (some d')):=by
 have hW:W l:=(s.own i d hl ht).2 l hm
 have hi:ImmK H H':=λb ob' e im=>by
  obtain ⟨ol,e1,e2⟩:=s.wd l hW
  have:b≠l:=λz=>by rw [z,e1] at e;cases e;rw [e2] at im;cases im
  exact hk b _ e this
 refine ⟨λj=>if j=i then F' else fp j,?_,?_,?_,?_,?_,?_,?_,?_,s.fix⟩
 ·rw [List.length_set];exact s.len
 ·intro a ha
  by_cases e:a=l
  ·subst e;exact hnew
  ·rcases ha with ha | ha
   ·exact (s.wd a ha).imp λob q=>⟨hk a ob q.1 e,q.2⟩
   ·exact r.dom a ha
 ·intro j e hj
  by_cases hji:j=i
  ·subst hji
   rw [Vs (Qav hl)] at hj
   cases hj
   exact ⟨v,hv,by rw [if_pos rfl];exact r⟩
  ·rw [Qz hji] at hj
   obtain ⟨u,h1,h2⟩:=s.at_ j e hj
   refine ⟨u,h1,?_⟩
   rw [if_neg hji]
   refine h2.frame hi λa ha=>?_
   obtain ⟨oa,e1,_⟩:=h2.dom a ha
   rw [e1]
   refine hk a _ e1 λz=>?_
   subst z
   cases hto:T.own j with
   | true=>exact s.dis i j d e hl hj ht hto (λz=>hji z.symm) _ hm ha
   | false=>exact s.wr _ hW (s.ro j e hj hto _ ha)
 ·intro j e hj hto
  by_cases hji:j=i
  ·subst hji;simp only [if_pos];exact ⟨nd,λa h=>.inr h⟩
  ·rw [Qz hji] at hj
   simp only [if_neg hji]
   exact ⟨(s.own j e hj hto).1,λa h=>.inl ((s.own j e hj hto).2 a h)⟩
 ·intro j e hj hto
  have hji:j≠i:=λz=>by subst z;rw [ht] at hto;cases hto
  rw [Qz hji] at hj
  simp only [if_neg hji]
  exact s.ro j e hj hto
 ·intro a ha hr
  rcases ha with ha | ha
  ·exact s.wr a ha hr
  ·rcases sub a ha with h | h
   ·exact s.wr a ((s.own i d hl ht).2 a h) hr
   ·exact h.2 hr
 ·intro a hr
  have:a≠l:=λz=>by subst z;exact s.wr _ hW hr
  exact (s.rd a hr).imp λob q=>⟨hk a ob q.1 this,q.2⟩
 ·intro j k e e' hj hk tj tk hne a ha ha'
  by_cases hji:j=i
  ·subst hji
   have hkj:k≠j:=λz=>hne z.symm
   rw [Qz hkj] at hk
   simp only [if_pos,if_neg hkj] at ha ha'
   rcases sub a ha with h | h
   ·exact s.dis j k d e' hl hk ht tk hne a h ha'
   ·exact h.1 ((s.own k e' hk tk).2 a ha')
  ·rw [Qz hji] at hj
   simp only [if_neg hji] at ha
   by_cases hki:k=i
   ·subst hki
    simp only [if_pos] at ha'
    rcases sub a ha' with h | h
    ·exact s.dis j k e d hj hl tj ht hne a ha h
    ·exact h.1 ((s.own j e hj tj).2 a ha)
   ·rw [Qz hki] at hk
    simp only [if_neg hki] at ha'
    exact s.dis j k e e' hj hk tj tk hne a ha ha'
theorem FrW.write {H0:Hp} {W0 W:Addr->Prop} (f:FrW H0 W0 H W) (hl:W l) (hm:∃ol,H l=some ol/\PV.imm ol=false) (hk:∀b u,H b=some u->b≠l->H' b=some u) (hnew:∃ob,H' l=some ob/\PV.imm ob=false)
  (sub:∀a∈F',W a\/H0 a=none):FrW H0 W0 H' (λa=>W a\/a∈F') where
 keep:=λb ob' e n=>by
  have:b≠l:=λz=>by
   subst z
   rcases f.new _ hl with h | h
   ·exact n h
   ·rw [h] at e;cases e
  exact hk b _ (f.keep b ob' e n) this
 dom:=λb e=>by
  by_cases h:b=l
  ·subst h
   obtain ⟨ob,e1,_⟩:=hnew
   rw [e1] at e;cases e
  ·refine f.dom b ?_
   cases q:H b with
   | none=>rfl
   | some u=>rw [hk b u q h] at e;cases e
 imm:=λb ob' e im=>by
  have e':=f.imm b ob' e im
  obtain ⟨ol,e1,e2⟩:=hm
  have:b≠l:=λz=>by rw [z,e1] at e';cases e';rw [e2] at im;cases im
  exact hk b _ e' this
 new:=λb h=>by
  rcases h with h | h
  ·exact f.new b h
  ·rcases sub b h with h | h
   ·exact f.new b h
   ·exact .inr h
theorem Zp:∀b u,H b=some u->b≠l->upd H l ob b=some u:=λb u e n=>by rw [Qq n];exact e
abbrev GM:=D->List D->(D->D->Prop)->Prop
def MtD (X:Cx) (id:String) (g:GM):Prop :=
 ∃r,MtR X id r/\∀(H:Hp) (d:D) (ds:List D) (v:V) (xs:List V) (F G:List Addr) (k:D->D->Prop) (Q:VK),Rep X.K H d v F->F.Nodup->Reps X.K H ds xs G->G.Nodup->(∀a∈G,a∉F)->g d ds k ->
  (∀u l ob e d' F',l∈F->imm ob=false->Rep X.K (upd H l ob) d' v F'->F'.Nodup->(∀a∈F',a∈F\/a∈G)->Rep X.K (upd H l ob) e u []->k e d'->Q u (upd H l ob))->r v xs H Q
def tyD:Option D->String->Bool
 | some (.lst _),t=>t == "list"
 | some (.dik _),t=>t == "dict"
 | some (.dit _),t=>t == "dict"
 | some (.dmx _),t=>t == "dict"
 | _,_=>false
theorem Qns (r:Rep K H d v F) (h:tyD (some d) t=true):tyV K t v H:=by
 cases r <;> try (simp [tyD] at h)
 ·subst h;exact .inl ⟨rfl,_,.of ‹_›⟩
 ·subst h;exact .inr (.inr (.inl ⟨rfl,.inl ⟨_,‹_›⟩⟩))
 ·subst h;exact .inr (.inr (.inl ⟨rfl,.inr ⟨_,‹_›⟩⟩))
 ·rename_i e hk hm r
  subst h
  refine .inr (.inr (.inr (.inr ⟨Mx.phi _ _,e,λh p=>?_⟩)))
  obtain ⟨_,_,_,_,_,o,_,_,e,x,_⟩:=p
  exact ⟨o,e,x.1,x.2.1⟩
def wMt (i:Nat) (t:String) (g:GM) (wr:WA):WE:=λρ Q=>tyD (look ρ i) t=true/\wr ρ λds ρ1=>oget (look ρ1 i) λd=>g d ds λe d'=>Q e (ρ1.set i (some d'))
theorem Qsr {g:GM} (ht:T.own i=true)
  (gr:∀(H:Hp) (d:D) (ds:List D) (v:V) (xs:List V) (F G:List Addr) (k:D->D->Prop) (Q:VK),Rep X.K H d v F->F.Nodup->Reps X.K H ds xs G->G.Nodup->(∀a∈G,a∉F)->g d ds k ->
   (∀u l ob e d' F',l∈F->imm ob=false->Rep X.K (upd H l ob) d' v F'->F'.Nodup->(∀a∈F',a∈F\/a∈G)->Rep X.K (upd H l ob) e u []->k e d'->Q u (upd H l ob))->r v xs H Q) (ga:∀(z:Nat->V) (R:Addr->Prop) (σ:St) (H:Hp) (W:Addr->Prop) (ρ:Env) (Q:List D->Env->Prop) (Q':List V->Hp->Prop),SR X.K T z R H W σ ρ->wr ρ Q ->
   (∀vs H' W' ds ρ' F,PostA X.K T z R m true H W σ ρ H' W' ρ' ds vs F->Q ds ρ'->Q' vs H')->ta σ H Q') {W:Addr->Prop} (s:SR X.K T z R H W σ ρ) (hw:wMt i t g wr ρ Q)
  (k:∀v H' W' d ρ' F,Post X.K T z R true true H W σ ρ H' W' ρ' d v F->Q d ρ'->Q' v H'):tVar i σ H λx H1=>tyV X.K t x H1/\ta σ H1 λxs H2=>r x xs H2 Q':=by
 obtain ⟨hty,hw⟩:=hw
 obtain ⟨fp0,s0⟩:=id s
 cases hl:look ρ i with
 | none=>rw [hl] at hty;cases hty
 | some d0 =>
  obtain ⟨v,hv,r0⟩:=s0.at_ i d0 hl
  refine ⟨v,hv,Qns r0 (by rw [hl] at hty;exact hty),?_⟩
  refine ga z R σ H W ρ _ _ s hw λvs H1 W1 ds ρ1 G p q=>?_
  obtain ⟨d,hd,q⟩:=Qu q
  obtain ⟨fp,s1⟩:=id p.sr
  obtain ⟨v',hv',r1⟩:=s1.at_ i d hd
  have:v'=v:=by rw [hv] at hv';cases hv';rfl
  subst this
  obtain ⟨nd1,sw⟩:=s1.own i d hd ht
  obtain ⟨ndG,kG⟩:=p.own rfl
  refine gr H1 d ds v' vs (fp i) G _ Q' r1 nd1 p.rep ndG (λa ha hf=>(kG a ha).2 (sw a hf)) q λu l ob e d' F' hlF him rd' ndF sub re hk=>?_
  have hWl:=sw l hlF
  refine k u _ (λa=>W1 a\/a∈F') e _ [] ⟨s1.write hd ht hv' hlF Zp ⟨ob,Qk,him⟩ rd' ndF (λa ha=>?_),p.fr.write hWl (s1.wd l hWl) Zp ⟨ob,Qk,him⟩ (λa ha=>?_),(λh=>nomatch h),re,λ_=>⟨List.nodup_nil,λa m=>nomatch m⟩⟩ hk
  ·rcases sub a ha with h | h
   ·exact .inl h
   ·exact .inr ⟨(kG a h).2,s.nr (kG a h).1⟩
  ·rcases sub a ha with h | h
   ·exact .inl (sw a h)
   ·exact .inr (kG a h).1
section
variable {id:String}
theorem Qtd {g:GM} (hm:MtD X id g) (pa:PlainAttrs T') (slot:Slot T' name id) (hty:typeOf (.builtin id)=pure (.type "method_descriptor")) (ha:AV X T m true (e::es) wr)
  (ht:T.own i=true:=by rfl) (hN:X.N[i]? = some x:=by rfl) (hv:Vis X.env.scope x:=by first | exact Or.inl rfl | exact Or.inr (Or.inl rfl) | exact Or.inr (Or.inr rfl)) (hd:(x == ("__debug__" : Str))=false:=by decide)
  (hcd:(x == ("__classdict__" : Str))=false:=by decide)
  (hbase:attributeBase (.Name x p) name X.env (eval (.Name x p) X.env)=eval (.Name x p) X.env:=by rfl)
  (hfew:((backTo cpos (starEach (e::es) X.env)).all (λx=>!x.1) && (backToKw cpos (keywordEach [] X.env)).all (λx=>x.1.isSome)
   && decide ((e::es).length+([]:List Keyword).length+(if ([]:List Keyword).isEmpty then 0 else 1)<30))=true:=by rfl)
  (hline:(apos.endLine == cpos.line)=true:=by rfl) (hs:starEach (e::es) X.env=(false,eval e X.env)::starEach es X.env:=by rfl) (hplain:(backTo cpos (starEach es X.env)).any (·.1)=false:=by rfl) :
  EV X T true true (.Call (.Attribute (.Name x p) name apos) (e::es) [] cpos) (wMt i T' g wr):=by
 obtain ⟨r,mr,gr⟩:=hm
 obtain ⟨ta,pa',ga⟩:=ha
 exact ⟨_,Qpw pa slot hty mr (Va hN hv hd hcd) pa' hbase hfew hline hs hplain,λz R σ H W ρ Q Q' s hw k=>Qsr ht gr ga s hw k⟩
theorem Qas {α:Type} {F G:List α} (h:F.Nodup) (h':G.Nodup) (d:∀a∈G,a∉F):(F++G).Nodup :=
 List.nodup_append.mpr ⟨h,h',λa ha b hb e=>d b hb (e ▸ ha)⟩
theorem U1 (h:H l=some ob) (hi:imm ob=false):ImmK H (upd H l ob'):=λb u e im=>by
 have:b≠l:=λz=>by rw [z,h] at e;cases e;rw [hi] at im;cases im
 rw [Qq this];exact e
theorem Reps.upd (r:Reps K H ds xs F) (h:H l=some ob) (hi:imm ob=false) (hn:l∉F):Reps K (L2.upd H l ob') ds xs F :=
 r.frame (U1 h hi) λa ha=>Qq λz=>hn (z ▸ ha)
theorem Rep.upd {x:V} (r:Rep K H d x F) (h:H l=some ob) (hi:imm ob=false) (hn:l∉F):Rep K (L2.upd H l ob') d x F :=
 r.frame (U1 h hi) λa ha=>Qq λz=>hn (z ▸ ha)
theorem RepK.upd {ds:List (Key × D)} {xs:List (Key × V)} (r:RepK K H ds xs F) (h:H l=some ob) (hi:imm ob=false) (hn:l∉F):RepK K (L2.upd H l ob') ds xs F :=
 r.frame (U1 h hi) λa ha=>Qq λz=>hn (z ▸ ha)
theorem RepT.upd {ds:List (List Key × D)} {xs:List (List Key × V)} (r:RepT K H ds xs F) (h:H l=some ob) (hi:imm ob=false) (hn:l∉F):RepT K (L2.upd H l ob') ds xs F :=
 r.frame (U1 h hi) λa ha=>Qq λz=>hn (z ▸ ha)
theorem sub3 {α:Type} {F A B C:List α} (h:F=A++B++C):(A++C).Sublist F:=by
 rw [h,List.append_assoc]
 exact List.Sublist.append (List.Sublist.refl _) (List.sublist_append_right _ _)
end
def spR (K:PySem.W.Frag) (g:GA):Sp:=λvs H Q _=>∃(ds:List D) (F:List Addr) (k:D->Prop),Reps K H ds vs F/\g ds k/\∀v H' d F',Fin K H H' d v F'->k d->Q v H'
abbrev GI:=List D->(D->D->Prop)->Prop
def spI (K:PySem.W.Frag) (p:Nat) (g:GI):Sp:=λvs H Q _=>∃(ds:List D) (a:Addr) (k:D->D->Prop),Reps K H ds vs [a]/\vs[p]? = some (.ref a)/\g ds k /\
 ∀v H' d d' F',Rep K H' d' (.ref a) [a]->Rep K H' d v F'->F'.Nodup->(∀b∈F',H b=none)->(∀b o,H b=some o->b≠a->H' b=some o)->k d d'->Q v H'
def Us:D->Bool
 | .lst xs=>Ql xs
 | .dik kvs=>kvs.all λkv=>kv.2.pure
 | .dit kvs=>kvs.all λkv=>kv.2.pure
 | .dmx _=>true
 | _=>false
theorem RepK.pure {K:PySem.W.Frag} {H:Hp}:∀{ds:List (Key × D)} {xs:List (Key × V)} {F:List Addr},RepK K H ds xs F->(ds.all λkv=>kv.2.pure)=true->F=[]
 | [],_,_,r,_=>by cases r;rfl
 | d::ds,_,_,r,h=>by
  rw [List.all_cons,Bool.and_eq_true] at h
  cases r with
  | cons p r=>rw [(p.pure h.1).1,RepK.pure r h.2];rfl
theorem RepT.pure {K:PySem.W.Frag} {H:Hp}:∀{ds:List (List Key × D)} {xs:List (List Key × V)} {F:List Addr},RepT K H ds xs F->(ds.all λkv=>kv.2.pure)=true->F=[]
 | [],_,_,r,_=>by cases r;rfl
 | d::ds,_,_,r,h=>by
  rw [List.all_cons,Bool.and_eq_true] at h
  cases r with
  | cons p r=>rw [(p.pure h.1).1,RepT.pure r h.2];rfl
theorem Rep.flat1 (r:Rep K H d v F) (h:Us d=true):∃a,v=.ref a/\F=[a]:=by
 cases r with
 | lst e r=>exact ⟨_,rfl,by rw [(r.pure (by simpa [Us] using h)).1]⟩
 | dik e r=>exact ⟨_,rfl,by rw [r.pure (by simpa [Us] using h)]⟩
 | dit e r=>exact ⟨_,rfl,by rw [r.pure (by simpa [Us] using h)]⟩
 | dmx e _ _ _=>exact ⟨_,rfl,rfl⟩
 | _=>simp [Us] at h
section
variable {k:Nat} {f:Addr}
theorem Qqo (F:FnOk X.prog X.w X.K X.mg X.base CX0 k f fd ps (spR X.K g)) (hr:Room k X.A) (hm:X.mg x=some (.ref f)) (hk:PySem.W.keepIn X.K (.ref f)=true) (hb:Z2 X.K fd ps []) (ha:AV X T m o (e::es) wr) (hg:Gl X x:=by rfl)
  (hdb:(x == ("__debug__" : Str))=false:=by decide) (he:starEach (e::es) X.env=(false,eval e X.env)::starEach es X.env:=by rfl) (hpl:(backTo pos (starEach es X.env)).any (·.1)=false:=by rfl) :
  EV X T m true (.Call (.Name x p) (e::es) [] pos) (Qn g wr):=by
 obtain ⟨ta,pa,ga⟩:=ha
 refine ⟨_,Qe5 F hr hg hm hk hb .nil Qjc pa hdb he hpl,λz R σ H W ρ Q Q' s hw k=>?_⟩
 refine ga z R σ H W ρ _ _ s hw λvs H1 W1 ds ρ1 F p q=>?_
 refine ⟨ds,F,_,by rw [List.append_nil];exact p.rep,q,λv H' d F' fi hk=>k v H' W1 d ρ1 F' (Post.fin p.sr p.fr p.calm fi.same fi.rep fi.nd fi.new) hk⟩
abbrev WI:=Env->(List D->List D->Env->Prop)->Prop
def AI (X:Cx) (T:Tg) (m:Bool) (i p:Nat) (es:List Expr) (w:WI):Prop :=
 ∃ta,PA X es ta/\∀(z:Nat->V) (R:Addr->Prop) (σ:St) (H:Hp) (W:Addr->Prop) (ρ:Env) (Q:List D->List D->Env->Prop) (Q':List V->Hp->Prop),SR X.K T z R H W σ ρ->w ρ Q ->
  (∀v xs ys H' W' pre post ρ',PostT X.K T z R m H W σ ρ H' W' ρ'->σ[i]? = some (some v)->Reps X.K H' pre xs []->Reps X.K H' post ys []->pre.length=p->Q pre post ρ'->Q' (xs++v::ys) H')->ta σ H Q'
def Qbe (i:Nat) (wr:WA):WI:=λρ Q=>(look ρ i).isSome=true/\wr ρ λds ρ'=>Ql ds=true/\Q [] ds ρ'
theorem G6 (hr:AV X T m o es wr) (hN:X.N[i]? = some x:=by rfl) (hv:Vis X.env.scope x:=by first | exact Or.inl rfl | exact Or.inr (Or.inl rfl) | exact Or.inr (Or.inr rfl)) (hd:(x == ("__debug__" : Str))=false:=by decide)
  (hcd:(x == ("__classdict__" : Str))=false:=by decide) (hs:starEach (.Name x p::es) X.env=(false,eval (.Name x p) X.env)::starEach es X.env:=by rfl):AI X T m i 0 (.Name x p::es) (Qbe i wr):=by
 obtain ⟨ta,pa,ga⟩:=hr
 refine ⟨_,Vq (Va hN hv hd hcd) pa hs,λz R σ H W ρ Q Q' s hw k=>?_⟩
 obtain ⟨h1,hw⟩:=hw
 obtain ⟨d,hl⟩:=Option.isSome_iff_exists.mp h1
 obtain ⟨fp,s0⟩:=id s
 obtain ⟨v,hv',_⟩:=s0.at_ i d hl
 refine ⟨v,hv',ga z R σ H W ρ _ _ s hw λvs H1 W1 ds ρ1 F p q=>?_⟩
 exact k v [] vs H1 W1 [] ds ρ1 ⟨p.sr,p.fr,p.calm⟩ hv' .nil (p.rep.pure q.1).2 rfl q.2
def V3 (i:Nat) (g:GI) (wi:WI):WE:=λρ Q=>wi ρ λpre post ρ1=>oget (look ρ1 i) λd0=>Us d0=true/\g (pre++d0::post) λd d'=>Q d (ρ1.set i (some d'))
theorem Qm7 {g:GI} {wi:WI} (F:FnOk X.prog X.w X.K X.mg X.base CX0 k f fd ps (spI X.K q g)) (hr:Room k X.A) (hm:X.mg x=some (.ref f)) (hk:PySem.W.keepIn X.K (.ref f)=true) (hb:Z2 X.K fd ps []) (ha:AI X T m i q (e::es) wi)
  (ht:T.own i=true:=by rfl) (hg:Gl X x:=by rfl)
  (hdb:(x == ("__debug__" : Str))=false:=by decide) (he:starEach (e::es) X.env=(false,eval e X.env)::starEach es X.env:=by rfl) (hpl:(backTo pos (starEach es X.env)).any (·.1)=false:=by rfl) :
  EV X T true true (.Call (.Name x p) (e::es) [] pos) (V3 i g wi):=by
 obtain ⟨ta,pa,ga⟩:=ha
 refine ⟨_,Qe5 F hr hg hm hk hb .nil Qjc pa hdb he hpl,λz R σ H W ρ Q Q' s hw k=>?_⟩
 refine ga z R σ H W ρ _ _ s hw λv xs ys H1 W1 pre post ρ1 p hv rp rq hl q=>?_
 obtain ⟨d0,hd,hf,q⟩:=Qu q
 obtain ⟨fp,s1⟩:=id p.sr
 obtain ⟨v',hv',r0⟩:=s1.at_ i d0 hd
 have:v'=v:=by rw [hv] at hv';cases hv';rfl
 subst this
 obtain ⟨a,rfl,hF⟩:=r0.flat1 hf
 rw [hF] at r0
 have sw:=(s1.own i d0 hd ht).2
 have hWa:W1 a:=sw a (by rw [hF];exact List.mem_singleton.mpr rfl)
 refine ⟨pre++d0::post,a,_,?_,?_,q,λv H' d d' F' rd' rd nd new kp hk=>?_⟩
 ·rw [List.append_nil]
  have:=rp.append (.cons r0 rq)
  simpa using this
 ·rw [List.append_nil]
  have hx:=rp.length
  rw [List.getElem?_append_right (by omega),show _-xs.length=0 by omega]
  rfl
 ·obtain ⟨oa,ea,ia⟩:=s1.wd a hWa
  have hnew:∃ob,H' a=some ob/\imm ob=false:=rd'.dom a (List.mem_singleton.mpr rfl)
  have nd1:([a]:List Addr).Nodup:=by simp
  have sN:=s1.write (H':=H') (d':=d') (F':=[a]) hd ht hv' (by rw [hF];exact List.mem_singleton.mpr rfl) (λb u e n=>kp b u e n) hnew rd' nd1 (λb hb=>.inl (by rw [hF];exact hb))
  have fN:=p.fr.write (H':=H') (F':=[a]) hWa ⟨oa,ea,ia⟩ (λb u e n=>kp b u e n) hnew (λb hb=>.inl (by rw [List.mem_singleton.mp hb];exact hWa))
  refine k v H' _ d _ F' ⟨sN,fN,(λh=>nomatch h),rd,λ_=>⟨nd,λb hb=>⟨p.fr.dom b (new b hb),λhw=>?_⟩⟩⟩ hk
  rcases hw with hw | hw
  ·exact p.sr.nw (new b hb) hw
  ·rw [List.mem_singleton.mp hw] at hb
   rw [new a hb] at ea;cases ea
abbrev WL:=Env->(List D->Env->Prop)->Prop
def JD (K:PySem.W.Frag) (J:It) (H:Hp) (W:Addr->Prop) (ds:List D):Prop :=
 ∀(i:Nat) (H1:Hp) (W1:Addr->Prop),FrW H W H1 W1->(ds.length<=i->J.stop i H1)/\∀d,ds[i]? = some d->J.go i H1/\∀v H2,J.yld i H1 v H2->Same H1 H2/\∃F,Rep K H2 d v F/\∀a∈F,¬W1 a
def wz (pr:Bool) (W:Addr->Prop):Addr->Prop:=λa=>pr=true/\W a
def IV (X:Cx) (T:Tg) (m pr:Bool) (tg iter:Expr) (w:WL):Prop :=
 ∃wi,PI X tg iter wi/\∀(z:Nat->V) (R:Addr->Prop) (σ:St) (H:Hp) (W:Addr->Prop) (ρ:Env) (Q:List D->Env->Prop) (RR:It->Hp->Prop),SR X.K T z R H W σ ρ->w ρ Q ->
  (∀J H' W' ds ρ',PostT X.K T z R m H W σ ρ H' W' ρ'->JD X.K J H' (wz pr W') ds->Q ds ρ'->RR J H')->wi σ H RR
end
section
variable {k:Nat} {f:Addr}
theorem Qi8 {l:Expr} {tl:TE} (hl:PE X l tl):PI X tg l (λσ H R=>tl σ H λx H1=>∃a,x=.ref a/\(((∃xs,SqL X.K H1 a xs)/\R (Itl X.K a) H1)\/((∃xs,SqT X.K H1 a xs)/\R (Itt X.K a) H1))):=by
 intro pins s σ H R I h
 refine thn (hl pins s σ H _ I h) λv s1 ⟨x,H1,I1,r1,q1⟩=>?_
 obtain ⟨a,e,q⟩:=q1
 subst e
 cases r1
 rcases q with ⟨⟨xs,hq⟩,q⟩ | ⟨⟨xs,hq⟩,q⟩
 ·obtain ⟨its,rv,p,hz⟩:=I1.list hq
  refine wpAny_pyIter_list p.isList ?_
  refine ⟨s1.heap.objs.size,[s1.heap.objs.size],_,_,H1,rfl,I1.kept (t':=s1.toks) λb o e=>Heap.get?_push_of_some _ e,Qib a _,⟨_,Heap.get?_push_size _ rfl,rfl,rfl⟩,λb hb=>?_,q⟩
  have e:b=s1.heap.objs.size:=by simpa using hb
  subst e
  exact I1.fpOk (Nat.le_refl _) (I1.hok.fresh (Nat.le_refl _))
 ·obtain ⟨its,rv,p,hz⟩:=I1.tuple hq
  refine wpAny_pyIter_tuple (show s1.heap.IsTuple a its.toArray from p) ?_
  refine ⟨s1.heap.objs.size,[s1.heap.objs.size],_,_,H1,rfl,I1.kept (t':=s1.toks) λb o e=>Heap.get?_push_of_some _ e,Qha a _,⟨_,Heap.get?_push_size _ rfl,rfl,rfl⟩,λb hb=>?_,q⟩
  have e:b=s1.heap.objs.size:=by simpa using hb
  subst e
  exact I1.fpOk (Nat.le_refl _) (I1.hok.fresh (Nat.le_refl _))
def V0 (w:WE):WL:=λρ Q=>w ρ λd ρ'=>match d with
 | .tup ds=>Ql ds=true/\Q ds ρ'
 | .lst ds=>Q ds ρ'
 | .kc (.tup ks)=>Q (ks.map kcD) ρ'
 | _=>False
theorem Qs4 {W:Addr->Prop} {a:Addr} {ks:List KC} (hs:∀H,SqT K H a xs) (ar:AreKC K ks xs):JD K (Itt K a) H W (ks.map kcD):=by
 intro i H2 W2 f
 have r:Reps K H2 (ks.map kcD) xs []:=ar.reps
 refine ⟨λhi=>⟨xs,hs H2,by rw [r.length];exact hi⟩,λd hd=>?_⟩
 obtain ⟨x,B,hx,rx,sx⟩:=r.get hd
 refine ⟨⟨xs,x,hs H2,hx⟩,λv H3 y=>?_⟩
 obtain ⟨rfl,y⟩:=y
 have:=y xs (hs _)
 rw [hx] at this
 cases this
 exact ⟨Same.refl _,B,rx,λa ha=>nomatch sx.subset ha⟩
theorem Vb (h:EV X T m o e w):IV X T m o tg e (V0 w):=by
 obtain ⟨te,pe,ge⟩:=h
 refine ⟨_,Qi8 pe,λz R σ H W ρ Q RR s hw k=>?_⟩
 refine ge z R σ H W ρ _ _ s hw λv H1 W1 d ρ1 F p q=>?_
 cases d with
 | tup ds =>
  obtain ⟨hp,q⟩:=q
  obtain ⟨hF,rp⟩:=p.rep.pure (by simpa [D.pure] using hp)
  cases rp with
  | @tup a xs _ _ e1 r =>
   refine ⟨a,rfl,.inr ⟨⟨xs,.of e1⟩,k _ H1 W1 ds ρ1 ⟨p.sr,p.fr,p.calm⟩ (λi H2 W2 f=>?_) q⟩⟩
   have e2:H2 a=some (.tup xs):=f.imm _ _ e1 rfl
   refine ⟨λhi=>⟨xs,.of e2,by rw [r.length];exact hi⟩,λd hd=>?_⟩
   obtain ⟨x,B,hx,rx,sx⟩:=r.get hd
   refine ⟨⟨xs,x,.of e2,hx⟩,λv H3 y=>?_⟩
   obtain ⟨rfl,y⟩:=y
   have:=y xs (.of e2)
   rw [hx] at this
   cases this
   exact ⟨Same.refl _,B,rx.keep f (λa ha=>(nomatch sx.subset ha)),(λa ha=>(nomatch sx.subset ha))⟩
 | lst ds =>
  obtain ⟨p1,p2,p3,p4,p5⟩:=p
  cases p4 with
  | @lst a xs _ F e1 r =>
   refine ⟨a,rfl,.inl ⟨⟨xs,.of e1⟩,k _ H1 W1 ds ρ1 ⟨p1,p2,p3⟩ (λi H2 W2 f=>?_) q⟩⟩
   have nW:∀b∈a::F,¬wz o W1 b:=λb hb hw=>by
    obtain ⟨h1,h2⟩:=hw
    exact ((p5 h1).2 b hb).2 h2
   have e2:H2 a=some (.lst xs):=f.keep _ _ e1 (nW a List.mem_cons_self)
   refine ⟨λhi=>⟨xs,.of e2,by rw [r.length];exact hi⟩,λd hd=>?_⟩
   obtain ⟨x,B,hx,rx,sx⟩:=r.get hd
   refine ⟨⟨xs,x,.of e2,hx⟩,λv H3 y=>?_⟩
   obtain ⟨rfl,y⟩:=y
   have:=y xs (.of e2)
   rw [hx] at this
   cases this
   refine ⟨Same.refl _,B,rx.keep f λb hb=>nW b (List.mem_cons_of_mem _ (sx.subset hb)),λb hb hw=>?_⟩
   have hb':b∈a::F:=List.mem_cons_of_mem _ (sx.subset hb)
   rcases f.new b hw with h | h
   ·exact nW b hb' h
   ·obtain ⟨ob,e3,_⟩:=rx.dom b hb
    rw [h] at e3;cases e3
 | kc c =>
  cases c with
  | tup ks =>
   obtain ⟨-,rp⟩:=p.rep.pure (by rw [D.pure])
   cases rp with
   | kc h =>
    obtain ⟨a,xs,rfl,hs,ar⟩:=h.sqT
    exact ⟨a,rfl,.inr ⟨⟨xs,hs H1⟩,k _ H1 W1 (ks.map kcD) ρ1 ⟨p.sr,p.fr,p.calm⟩ (Qs4 hs ar) q⟩⟩
  | _=>exact (show False from q).elim
 | _=>exact q.elim
def rngD (lo:Int) (n:Nat):List D:=(List.range n).map λ(i:Nat)=>.int (lo+(i:Int))
theorem Qmv {W:Addr->Prop} {lo:Int}:JD K (Itr lo n) H W (rngD lo n):=by
 intro i H1 W1 f
 have hl:(rngD lo n).length=n:=by simp [rngD]
 refine ⟨λh=>by rw [hl] at h;exact h,λd hd=>?_⟩
 have hi:i<n:=by have:=(List.getElem?_eq_some_iff.mp hd).1;rwa [hl] at this
 have hd':d=.int (lo+(i:Int)):=by
  simp only [rngD,List.getElem?_map,List.getElem?_range hi,Option.map_some,Option.some.injEq] at hd
  exact hd.symm
 refine ⟨hi,λv H2 y=>?_⟩
 obtain ⟨rfl,rfl⟩:=y
 exact ⟨Same.refl _,[],by rw [hd'];exact .int _,λa m=>nomatch m⟩
def Qbd (wr:WA):WL:=λρ Q=>wr ρ λds ρ'=>match ds with
 | [.int j]=>-(2 ^ 62)<=j/\j<2 ^ 62/\Q (rngD 0 j.toNat) ρ'
 | _=>False
theorem Y6 (hm:X.mg "range" = none) (ha:AV X T m o [a] wr) (hg:Gl X "range":=by rfl) (hs:starEach [a] X.env=[(false,eval a X.env)]:=by rfl):IV X T m true tg (.Call (.Name "range" p) [a] [] pos) (Qbd wr):=by
 obtain ⟨ta,pa,ga⟩:=ha
 refine ⟨_,Qi9 hg hm pa hs,λz R σ H W ρ Q RR s hw k=>?_⟩
 refine ga z R σ H W ρ _ _ s hw λvs H1 W1 ds ρ1 F p q=>?_
 obtain ⟨j,rfl⟩:∃j,ds=[D.int j]:=by
  clear p
  cases ds with
  | nil=>exact (show False from q).elim
  | cons d0 r0 =>
   cases r0 with
   | nil =>
    cases d0 with
    | int j=>exact ⟨j,rfl⟩
    | _=>exact (show False from q).elim
   | cons _ _=>cases d0 <;> exact (show False from q).elim
 obtain ⟨v,rfl,rd⟩:=p.rep.at1
 cases rd
 exact ⟨j,rfl,q.1,q.2.1,k _ H1 W1 _ ρ1 ⟨p.sr,p.fr,p.calm⟩ Qmv q.2.2⟩
def Ue:Nat->List D->List D
 | _,[]=>[]
 | n,d::r=>.tup [.int (n:Int),d]::Ue (n+1) r
theorem Vi:∀{ds:List D} {n i:Nat},(Ue n ds)[i]? = ds[i]?.map λd=>.tup [.int ((n+i:Nat):Int),d]
 | [],_,_=>by simp [Ue]
 | d::r,n,0=>by simp [Ue]
 | d::r,n,i+1=>by
  simp only [Ue,List.getElem?_cons_succ]
  rw [Vi (ds:=r) (n:=n+1) (i:=i),show n+1+i=n+(i+1) by omega]
theorem Yj:∀{ds:List D} {n:Nat},(Ue n ds).length=ds.length
 | [],_=>rfl
 | d::r,n=>by simp [Ue,Yj]
def Qg9 (wr:WA):WL:=λρ Q=>wr ρ λds ρ'=>match ds with
 | [.tup es]=>Ql es=true/\Q (Ue 0 es) ρ'
 | _=>False
theorem Qcq {ts:List Expr} (hm:X.mg "enumerate" = none) (ha:AV X T m o [a] wr) (hg:Gl X "enumerate":=by rfl) (hs:starEach [a] X.env=[(false,eval a X.env)]:=by rfl):IV X T m true (.Tuple ts kt pt) (.Call (.Name "enumerate" p) [a] [] pos) (Qg9 wr):=by
 obtain ⟨ta,pa,ga⟩:=ha
 refine ⟨_,Qpp hg hm pa hs,λz R σ H W ρ Q RR s hw k=>?_⟩
 refine ga z R σ H W ρ _ _ s hw λvs H1 W1 ds ρ1 F p q=>?_
 obtain ⟨es,rfl⟩:∃es,ds=[D.tup es]:=by
  clear p
  cases ds with
  | nil=>exact (show False from q).elim
  | cons d0 r0 =>
   cases r0 with
   | nil =>
    cases d0 with
    | tup es=>exact ⟨es,rfl⟩
    | _=>exact (show False from q).elim
   | cons _ _=>cases d0 <;> exact (show False from q).elim
 obtain ⟨hp,q⟩:=q
 obtain ⟨v,rfl,rd⟩:=p.rep.at1
 obtain ⟨hF,rd⟩:=rd.pure (by simpa [D.pure] using hp)
 cases rd with
 | @tup a xs _ _ e1 r =>
  refine ⟨a,rfl,⟨xs,.of e1⟩,k _ H1 W1 _ ρ1 ⟨p.sr,p.fr,p.calm⟩ (λi H2 W2 f=>?_) q⟩
  have e2:H2 a=some (.tup xs):=f.imm _ _ e1 rfl
  refine ⟨λhi=>⟨xs,.of e2,by rw [r.length];rwa [Yj] at hi⟩,λd hd=>?_⟩
  rw [Vi] at hd
  cases hd':es[i]? with
  | none=>rw [hd'] at hd;cases hd
  | some d' =>
   rw [hd'] at hd
   obtain ⟨x,B,hx,rx,sx⟩:=r.get hd'
   refine ⟨⟨xs,x,.of e2,hx⟩,λv H3 y=>?_⟩
   obtain ⟨x',t,h1,rfl,h3,rfl⟩:=y xs (.of e2)
   rw [hx] at h1
   cases h1
   have hB:B=[]:=List.sublist_nil.mp sx
   subst hB
   refine ⟨Qm h3,[],?_,λa m=>nomatch m⟩
   cases hd
   rw [Nat.zero_add]
   exact .tup Qk (.cons (F:=[]) (G:=[]) (.int _) (Reps.one ((rx.keep f λa m=>nomatch m).same (Qm h3))))
end
structure EndsP where
 nx:Env->Prop
 rt:D->Env->Prop
 bk:Env->Prop:=λ_=>False
 ct:Env->Prop:=λ_=>False
 xc:D->Env->Prop:=λ_ _=>False
abbrev WS:=EndsP->Env->Prop
structure Lk (K:PySem.W.Frag) (T:Tg) (z:Nat->V) (H:Hp) (W:Addr->Prop) (P:EndsP) (E:Ends):Prop where
 nx:∀R σ' H' W' ρ',SR K T z R H' W' σ' ρ'->FrW H W H' W'->P.nx ρ'->E.nx σ' H'
 bk:∀R σ' H' W' ρ',SR K T z R H' W' σ' ρ'->FrW H W H' W'->P.bk ρ'->E.bk σ' H'
 ct:∀R σ' H' W' ρ',SR K T z R H' W' σ' ρ'->FrW H W H' W'->P.ct ρ'->E.ct σ' H'
 rt:∀R v σ' H' W' ρ' d F,SR K T z R H' W' σ' ρ'->FrW H W H' W'->Rep K H' d v F->F.Nodup->(∀a∈F,¬W' a/\(W a\/H a=none))->P.rt d ρ'->E.rt v H'
 xc:∀R σ' H' W' ρ' d,SR K T z R H' W' σ' ρ'->FrW H W H' W'->P.xc d ρ'->T.xe d σ' H'
theorem Lk.step {W:Addr->Prop} {P:EndsP} {E:Ends} (l:Lk K T z H W P E) (f:FrW H W H1 W1):Lk K T z H1 W1 P E where
 nx:=λR σ' H' W' ρ' s g q=>l.nx R σ' H' W' ρ' s (f.trans g) q
 bk:=λR σ' H' W' ρ' s g q=>l.bk R σ' H' W' ρ' s (f.trans g) q
 ct:=λR σ' H' W' ρ' s g q=>l.ct R σ' H' W' ρ' s (f.trans g) q
 rt:=λR v σ' H' W' ρ' d F s g r nd k q=>l.rt R v σ' H' W' ρ' d F s (f.trans g) r nd (λa ha=>⟨(k a ha).1,by
  rcases (k a ha).2 with h | h
  ·exact f.new a h
  ·exact .inr (f.dom a h)⟩) q
 xc:=λR σ' H' W' ρ' d s g q=>l.xc R σ' H' W' ρ' d s (f.trans g) q
def SV (X:Cx) (T:Tg) (st:Stmt) (w:WS):Prop :=
 ∃ts,PS X st ts/\∀(z:Nat->V) (R:Addr->Prop) (σ:St) (H:Hp) (W:Addr->Prop) (ρ:Env) (P:EndsP) (E:Ends),SR X.K T z R H W σ ρ->w P ρ->Lk X.K T z H W P E->ts E σ H
def SVs (X:Cx) (T:Tg) (st:List Stmt) (w:WS):Prop :=
 ∃ts,PSs X st ts/\∀(z:Nat->V) (R:Addr->Prop) (σ:St) (H:Hp) (W:Addr->Prop) (ρ:Env) (P:EndsP) (E:Ends),SR X.K T z R H W σ ρ->w P ρ->Lk X.K T z H W P E->ts E σ H
section
variable {rest:List Stmt} {ws wu:WS}
def Jh:WS:=λP ρ=>P.nx ρ
def wSeq (w u:WS):WS:=λP ρ=>w { P with nx:=u P } ρ
theorem Jc:SVs X T [] Jh:=⟨_,Qpj,λz R σ H W ρ P E s hw l=>l.nx R σ H W ρ s (FrW.refl H W) hw⟩
theorem Qj (h:SV X T st ws):SVs X T [st] ws:=by
 obtain ⟨t,pt,g⟩:=h
 exact ⟨_,Qai pt,g⟩
theorem Qg (h:SV X T st ws) (hr:SVs X T rest wu):SVs X T (st::rest) (wSeq ws wu):=by
 obtain ⟨t,pt,g⟩:=h
 obtain ⟨u,pu,gu⟩:=hr
 refine ⟨_,Qce pt pu,λz R σ H W ρ P E s hw l=>g z R σ H W ρ _ _ s hw ⟨λR' σ' H' W' ρ' s' f q=>gu z R' σ' H' W' ρ' P E s' q (l.step f),l.bk,l.ct,l.rt,l.xc⟩⟩
def wRet (w:WE):WS:=λP ρ=>w ρ λd ρ'=>P.rt d ρ'
theorem Qx (he:EV X T m true e w):SV X T (.Return (some e) pos) (wRet w):=by
 obtain ⟨te,pe,ge⟩:=he
 exact ⟨_,Qn9 pe,λz R σ H W ρ P E s hw l=>ge z R σ H W ρ _ _ s hw λv H1 W1 d ρ1 F p q=>l.rt R v σ H1 W1 ρ1 d F p.sr p.fr p.rep (p.own rfl).1 (λa ha=>⟨((p.own rfl).2 a ha).2,.inr ((p.own rfl).2 a ha).1⟩) q⟩
def Qh8 (i:Nat):WS:=λP ρ=>oget (look ρ i) λd=>P.rt d (ρ.set i none)
theorem Qil (ht:T.own i=true:=by rfl) (hN:X.N[i]? = some x:=by rfl) (hv:Vis X.env.scope x:=by first | exact Or.inl rfl | exact Or.inr (Or.inl rfl) | exact Or.inr (Or.inr rfl)) (hd:(x == ("__debug__" : Str))=false:=by decide)
  (hcd:(x == ("__classdict__" : Str))=false:=by decide):SV X T (.Return (some (.Name x p)) pos) (Qh8 i):=by
 refine ⟨_,Qn9 (Va hN hv hd hcd),λz R σ H W ρ P E s hw l=>?_⟩
 obtain ⟨d,hl,q⟩:=Qu hw
 obtain ⟨fp,s0⟩:=s
 obtain ⟨v,h1,h2⟩:=s0.at_ i d hl
 have key:∀j e,look (ρ.set i none) j=some e->j≠i/\look ρ j=some e:=λj e h=>by
  rw [Gp] at h
  split at h
  ·cases h
  ·refine ⟨λz=>?_,h⟩
   subst z
   rename_i hn
   exact hn ⟨rfl,Qav hl⟩
 refine ⟨v,h1,l.rt R v σ H (λa=>W a/\a∉fp i) (ρ.set i none) d (fp i) ⟨fp,?_⟩ ?_ h2 (s0.own i d hl ht).1 (λa ha=>⟨λh=>h.2 ha,.inl ((s0.own i d hl ht).2 a ha)⟩) q⟩
 ·refine ⟨by rw [List.length_set];exact s0.len,λa h=>s0.wd a h.1,λj e h=>s0.at_ j e (key j e h).2,λj e h t=>⟨(s0.own j e (key j e h).2 t).1,λa ha=>⟨(s0.own j e (key j e h).2 t).2 a ha,λha'=>s0.dis j i e d (key j e h).2 hl t ht (key j e h).1 a ha ha'⟩⟩,
   λj e h t=>s0.ro j e (key j e h).2 t,λa h=>s0.wr a h.1,s0.rd,λj k e e' h h' t t'=>s0.dis j k e e' (key j e h).2 (key k e' h').2 t t',s0.fix⟩
 ·exact ⟨λb ob e _=>e,λb e=>e,λb ob e _=>e,λb h=>.inl h.1⟩
theorem SR0.bindE {W:Addr->Prop} (s:SR0 K T z R H W σ ρ fp) (hio:i∉T.io) (r:Rep K H d v F) (nd:F.Nodup) (nw:∀a∈F,¬W a/\¬R a) :
  SR K T z (λa=>R a\/(T.own i=false/\a∈F)) H (λa=>W a\/(T.own i=true/\a∈F)) (σ.set i (some v)) (ρ.set i (some d)):=by
 refine ⟨λj=>if j=i then F else fp j,?_,?_,?_,?_,?_,?_,?_,?_,?_⟩
 ·rw [List.length_set,List.length_set];exact s.len
 ·intro a ha
  rcases ha with ha | ⟨_,ha⟩
  ·exact s.wd a ha
  ·exact r.dom a ha
 ·intro j e hj
  rw [Gp] at hj
  split at hj
  ·rename_i h
   obtain ⟨rfl,hlt⟩:=h
   cases hj
   exact ⟨v,by rw [List.getElem?_set_self (by rw [← s.len];exact hlt)],by rw [if_pos rfl];exact r⟩
  ·rename_i h
   obtain ⟨u,h1,h2⟩:=s.at_ j e hj
   have hji:j≠i:=λz=>h ⟨z,by rw [← z];exact Qav hj⟩
   exact ⟨u,by rw [List.getElem?_set_ne (Ne.symm hji)];exact h1,by rw [if_neg hji];exact h2⟩
 ·intro j e hj hto
  by_cases hji:j=i
  ·subst hji;simp only [if_pos];exact ⟨nd,λa h=>.inr ⟨hto,h⟩⟩
  ·rw [Qz hji] at hj
   simp only [if_neg hji]
   exact ⟨(s.own j e hj hto).1,λa h=>.inl ((s.own j e hj hto).2 a h)⟩
 ·intro j e hj hto
  by_cases hji:j=i
  ·subst hji;simp only [if_pos];exact λa h=>.inr ⟨hto,h⟩
  ·rw [Qz hji] at hj
   simp only [if_neg hji]
   exact λa h=>.inl (s.ro j e hj hto a h)
 ·intro a ha hr
  rcases ha with ha | ⟨t,ha⟩
  ·rcases hr with hr | ⟨_,hr⟩
   ·exact s.wr a ha hr
   ·exact (nw a hr).1 ha
  ·rcases hr with hr | ⟨t',hr⟩
   ·exact (nw a ha).2 hr
   ·rw [t] at t';cases t'
 ·intro a hr
  rcases hr with hr | ⟨_,hr⟩
  ·exact s.rd a hr
  ·exact r.dom a hr
 ·intro j k e e' hj hk tj tk hne a ha ha'
  by_cases hji:j=i
  ·subst hji
   have hkj:k≠j:=λz=>hne z.symm
   rw [Qz hkj] at hk
   simp only [if_pos,if_neg hkj] at ha ha'
   exact (nw a ha).1 ((s.own k e' hk tk).2 a ha')
  ·rw [Qz hji] at hj
   simp only [if_neg hji] at ha
   by_cases hki:k=i
   ·subst hki
    simp only [if_pos] at ha'
    exact (nw a ha').1 ((s.own j e hj tj).2 a ha)
   ·rw [Qz hki] at hk
    simp only [if_neg hki] at ha'
    exact s.dis j k e e' hj hk tj tk hne a ha ha'
 ·intro j hj
  have hji:j≠i:=λz=>hio (z ▸ hj)
  rw [List.getElem?_set_ne (Ne.symm hji)]
  exact s.fix j hj
theorem SR0.bind {W:Addr->Prop} (s:SR0 K T z R H W σ ρ fp) (hio:i∉T.io) (r:Rep K H d v F) (nd:F.Nodup) (nw:∀a∈F,¬W a/\¬R a) :
  ∃R',SR K T z R' H (λa=>W a\/(T.own i=true/\a∈F)) (σ.set i (some v)) (ρ.set i (some d)):=⟨_,s.bindE hio r nd nw⟩
def wSet (i:Nat) (w:WE):WS:=λP ρ=>w ρ λd ρ'=>P.nx (ρ'.set i (some d))
theorem Qct {W:Addr->Prop} {G:Addr->Prop} (f:FrW H W H' W') (n:∀a,G a->H a=none):FrW H W H' (λa=>W' a\/G a) :=
 ⟨f.keep,f.dom,f.imm,λb h=>h.elim (f.new b) λh=>.inr (n b h)⟩
theorem Q4 (he:EV X T m true e w) (hN:X.N.Nodup) (hi:X.N[i]? = some x:=by rfl) (hio:i∉T.io:=by decide) (hx:Loc X.env.scope x:=by first | exact Or.inl rfl | exact Or.inr rfl) (hs:swapsWith e (some (.Name x pos')) pos.line X.env=pure false:=by rfl)
  (hf:X.fn x=true\/X.env.scope.names.lookup x=some .local:=by first | exact .inl rfl | exact .inr rfl | assumption):SV X T (.Assign [.Name x pos'] e pos) (wSet i w):=by
 obtain ⟨te,pe,ge⟩:=he
 refine ⟨_,Qr3 hN hi hx pe hs hf,λz R σ H W ρ P E s hw l=>ge z R σ H W ρ _ _ s hw λv H1 W1 d ρ1 F p q=>?_⟩
 obtain ⟨fp,s1⟩:=p.sr
 obtain ⟨nd,nw⟩:=p.own rfl
 obtain ⟨R',s2⟩:=s1.bind (i:=i) hio p.rep nd (λa ha=>⟨(nw a ha).2,s.nr (nw a ha).1⟩)
 exact l.nx R' _ H1 _ _ s2 (Qct p.fr λa h=>(nw a h.2).1) q
theorem Qik (he:∃te,PS X (.Assign [.Name x pos'] e pos) (tAsg te (V1 i))/\∀(z:Nat->V) (R:Addr->Prop) (σ:St) (H:Hp) (W:Addr->Prop) (ρ:Env) (Q:D->Env->Prop) (Q':VK),SR X.K T z R H W σ ρ->w ρ Q ->
  (∀v H' W' d ρ' F,Post X.K T z R m true H W σ ρ H' W' ρ' d v F->Q d ρ'->Q' v H')->te σ H Q') (hio:i∉T.io:=by decide):SV X T (.Assign [.Name x pos'] e pos) (wSet i w):=by
 obtain ⟨te,pe,ge⟩:=he
 refine ⟨_,pe,λz R σ H W ρ P E s hw l=>ge z R σ H W ρ _ _ s hw λv H1 W1 d ρ1 F p q=>?_⟩
 obtain ⟨fp,s1⟩:=p.sr
 obtain ⟨nd,nw⟩:=p.own rfl
 obtain ⟨R',s2⟩:=s1.bind (i:=i) hio p.rep nd (λa ha=>⟨(nw a ha).2,s.nr (nw a ha).1⟩)
 exact l.nx R' _ H1 _ _ s2 (Qct p.fr λa h=>(nw a h.2).1) q
abbrev WG:=D->Env->(Env->Prop)->Prop
end
end PV
variable {u:PySem.Str} {wg:PV.WG} {wgs:List PV.D->PV.Env->(PV.Env->Prop)->Prop} {wv:PV.WE} {wl:PV.WL}
namespace PV
open PySem PySem.Spec L2
section
variable {ws wu:WS}
def GV (X:Cx) (T:Tg) (tg:Expr) (wg:WG):Prop :=
 ∃t,PG X tg t/\∀(z:Nat->V) (R:Addr->Prop) (σ:St) (H:Hp) (W:Addr->Prop) (ρ:Env) (d:D) (v:V) (Q:Env->Prop) (Q':St->Hp->Prop),SR X.K T z R H W σ ρ->Rep X.K H d v []->d.pure=true->wg d ρ Q ->
  (∀R' W' σ' ρ',SR X.K T z R' H W' σ' ρ'->FrW H W H W'->Q ρ'->Q' σ' H)->t v σ H Q'
def GVs (X:Cx) (T:Tg) (tgs:List Expr) (wg:List D->Env->(Env->Prop)->Prop):Prop :=
 ∃t,PGs X tgs t/\∀(z:Nat->V) (R:Addr->Prop) (σ:St) (H:Hp) (W:Addr->Prop) (ρ:Env) (ds:List D) (vs:List V) (Q:Env->Prop) (Q':St->Hp->Prop),SR X.K T z R H W σ ρ->Reps X.K H ds vs []->Ql ds=true->wg ds ρ Q ->
  (∀R' W' σ' ρ',SR X.K T z R' H W' σ' ρ'->FrW H W H W'->Q ρ'->Q' σ' H)->t vs σ H Q'
def gN (i:Nat):WG:=λd ρ Q=>Q (ρ.set i (some d))
theorem Ju (hN:X.N.Nodup) (hi:X.N[i]? = some x:=by rfl) (hio:i∉T.io:=by decide) (hx:Loc X.env.scope x:=by first | exact Or.inl rfl | exact Or.inr rfl) (hf:X.fn x=true\/X.env.scope.names.lookup x=some .local:=by first | exact .inl rfl | exact .inr rfl | assumption):GV X T (.Name x pos) (gN i):=by
 refine ⟨_,Ua hN hi hx hf,λz R σ H W ρ d v Q Q' s r hp hw k=>?_⟩
 obtain ⟨fp,s1⟩:=s
 obtain ⟨R',s2⟩:=s1.bind (i:=i) hio r List.nodup_nil (λa ha=>nomatch ha)
 exact k R' _ _ _ s2 (Qct (FrW.refl H W) λa h=>nomatch h.2) hw
def Qhy:List D->Env->(Env->Prop)->Prop
 | [],ρ,Q=>Q ρ
 | _,_,_=>False
def Uw (wg:WG) (wgs:List D->Env->(Env->Prop)->Prop):List D->Env->(Env->Prop)->Prop
 | d::r,ρ,Q=>wg d ρ λρ'=>wgs r ρ' Q
 | _,_,_=>False
theorem Reps.inv (r:Reps K H (d::ds) vs F):∃v us F1 F2,vs=v::us/\Rep K H d v F1/\Reps K H ds us F2:=by
 cases r with
 | cons h r=>exact ⟨_,_,_,_,rfl,h,r⟩
theorem Qcs:GVs X T [] Qhy:=by
 refine ⟨_,Qe4,λz R σ H W ρ ds vs Q Q' s r hp hw k=>?_⟩
 cases ds with
 | nil=>cases r;exact ⟨rfl,k R W σ ρ s (FrW.refl H W) hw⟩
 | cons=>exact hw.elim
theorem Zu (h:GV X T e wg) (hr:GVs X T es wgs) (hs:(assignEach (e::es) X.env).map (·.2)=assign e X.env::(assignEach es X.env).map (·.2):=by rfl):GVs X T (e::es) (Uw wg wgs):=by
 obtain ⟨t,pt,g⟩:=h
 obtain ⟨u,pu,gu⟩:=hr
 refine ⟨_,Vp pt pu hs,λz R σ H W ρ ds vs Q Q' s r hp hw k=>?_⟩
 cases ds with
 | nil=>exact hw.elim
 | cons d ds =>
  obtain ⟨v,vs,F,G,rfl,r1,r2⟩:=r.inv
  simp only [Ql,Bool.and_eq_true] at hp
  obtain ⟨e1,r1⟩:=r1.pure hp.1
  obtain ⟨e2,r2⟩:=r2.pure hp.2
  refine ⟨v,vs,rfl,g z R σ H W ρ d v _ _ s r1 hp.1 hw λR' W' σ' ρ' s' f q=>?_⟩
  exact gu z R' σ' H W' ρ' ds vs Q Q' s' r2 hp.2 q λR2 W2 σ2 ρ2 s2 f2 q2=>k R2 W2 σ2 ρ2 s2 (f.trans f2) q2
def Qhx (n:Nat) (wgs:List D->Env->(Env->Prop)->Prop):WG:=λd ρ Q=>match d with
 | .tup ds=>ds.length=n/\wgs ds ρ Q
 | _=>False
theorem Qgu (h:GVs X T es wgs) (hc:X.calm=true:=by rfl) (hn:(assignEach es X.env).length=n:=by rfl) (hst:(assignEach es X.env).findIdx? (·.1)=none:=by rfl):GV X T (.Tuple es kt pos) (Qhx n wgs):=by
 obtain ⟨t,pt,g⟩:=h
 refine ⟨_,Qja hc pt hn hst,λz R σ H W ρ d v Q Q' s r hp hw k=>?_⟩
 cases d with
 | tup ds =>
  cases r with
  | @tup a xs _ _ e1 r=>exact ⟨a,xs,rfl,.of e1,by rw [r.length];exact hw.1,g z R σ H W ρ ds xs Q Q' s r (by simpa [D.pure] using hp) hw.2 k⟩
 | _=>exact hw.elim
def dSet (s c d:D) (k:D->Prop):Prop:=match s with
 | .lst xs=>onI c λj=>oget (ixN xs.length j) λn=>k (.lst (xs.set n d))
 | .dik kvs=>onK c λkey=>kvs.length<sizeLine/\k (.dik (putD kvs key d))
 | .dit kvs=>onT c λl=>kvs.length<sizeLine/\oget (Jy l) λks=>k (.dit (putD kvs ks d))
 | _=>False
theorem Qln (hu:X.A.units+1<cLine):PSet X (λo i v H Q=>∃a H',o=.ref a/\DPut H a i v H'/\Q H'):=by
 intro pins s σ H o i v ov iv u Q I ro ri rv h
 obtain ⟨a,H',rfl,g,q⟩:=h
 cases ro
 exact Qks hu I g ri rv λs' I'=>⟨H',I',q⟩
theorem PSet.or {t u:TSet} (h:PSet X t) (h':PSet X u):PSet X (λo i v H Q=>t o i v H Q\/u o i v H Q):=by
 intro pins s σ H o i v ov iv u Q I ro ri rv q
 rcases q with q | q
 ·exact h pins s σ H o i v ov iv u Q I ro ri rv q
 ·exact h' pins s σ H o i v ov iv u Q I ro ri rv q
def Yl (i:Nat) (wv wi:WE):WS:=λP ρ=>wv ρ λd ρ1=>d.pure=true/\(look ρ1 i).isSome=true/\wi ρ1 λc ρ2=>oget (look ρ2 i) λs=>dSet s c d λs'=>P.nx (ρ2.set i (some s'))
theorem Yn {v ix:Expr} {wi:WE} {ps':Pos} (hu:X.A.units+1<cLine) (hv:EV X T m1 o1 v wv) (hi:EV X T m2 o2 ix wi) (ht:T.own i=true:=by rfl) (hN:X.N[i]? = some x:=by rfl)
  (hvis:Vis X.env.scope x:=by first | exact Or.inl rfl | exact Or.inr (Or.inl rfl) | exact Or.inr (Or.inr rfl)) (hd:(x == ("__debug__" : Str))=false:=by decide) (hcd:(x == ("__classdict__" : Str))=false:=by decide)
  (ha:∀v,assign (.Subscript (.Name x px) ix ps') X.env v=(do
   let ov ← holding [v] (eval (.Name x px) X.env)
   let iv ← holding [v,ov] (eval ix X.env)
   standAt ps'
   holding [v,ov,iv] (setItem ov iv v)
   release [v,ov,iv] []):=by intro _;rfl) (hs:swapsWithSole [.Subscript (.Name x px) ix ps'] v pos.line X.env=pure false:=by rfl) (hw:swappedStores [.Subscript (.Name x px) ix ps'] v X.env=pure none:=by rfl)
  (h1:(assignEach [.Subscript (.Name x px) ix ps'] X.env).map (·.2)=[assign (.Subscript (.Name x px) ix ps') X.env]:=by rfl):SV X T (.Assign [.Subscript (.Name x px) ix ps'] v pos) (Yl i wv wi):=by
 obtain ⟨tv,pv,gv⟩:=hv
 obtain ⟨ti,pi,gi⟩:=hi
 refine ⟨_,Qr5 pv (Qr9 (Va hN hvis hd hcd) pi (PSet.or Qlm (Qln hu)) ha) hs hw h1,λz R σ H W ρ P E s hw l=>?_⟩
 refine gv z R σ H W ρ _ _ s hw λv1 H1 W1 d ρ1 F1 p ⟨hp,hso,q⟩=>?_
 obtain ⟨-,rv⟩:=p.rep.pure hp
 obtain ⟨d0,hl0⟩:=Option.isSome_iff_exists.mp hso
 obtain ⟨fp0,s0⟩:=id p.sr
 obtain ⟨u,hu',_⟩:=s0.at_ i d0 hl0
 refine ⟨u,hu',gi z R σ H1 W1 ρ1 _ _ p.sr q λv2 H2 W2 c ρ2 F2 p2 q2=>?_⟩
 obtain ⟨d1,hl,q2⟩:=Qu q2
 obtain ⟨fp,s2⟩:=id p2.sr
 obtain ⟨u',hu2,ru⟩:=s2.at_ i d1 hl
 have:u'=u:=by rw [hu'] at hu2;cases hu2;rfl
 subst this
 have rv2:Rep X.K H2 d v1 []:=rv.keep p2.fr λa m=>nomatch m
 obtain ⟨nd,sw⟩:=s2.own i d1 hl ht
 have fin:∀(lad:Addr) (ob:HO) (d':D) (F':List Addr),lad∈fp i->imm ob=false->Rep X.K (upd H2 lad ob) d' u' F'->F'.Nodup->(∀a∈F',a∈fp i)->P.nx (ρ2.set i (some d'))->E.nx σ (upd H2 lad ob):=λlad ob d' F' hm him r' nd' sub hq=>by
  have hW:=sw lad hm
  exact l.nx R σ _ _ _ (s2.write hl ht hu2 hm Zp ⟨ob,Qk,him⟩ r' nd' λa ha=>.inl (sub a ha)) ((p.fr.trans p2.fr).write hW (s2.wd lad hW) Zp ⟨ob,Qk,him⟩ λa ha=>.inl (sw a (sub a ha))) hq
 have nilnot:∀a:Addr,a∉([]:List Addr):=λa h=>nomatch h
 generalize hF:fp i=F at *
 cases d1 with
 | lst ds =>
  obtain ⟨j,rfl,q2⟩:=Qam q2
  obtain ⟨a,xs,G,rfl,rfl,e,r⟩:=ru.iLst
  obtain ⟨n,hn,hq⟩:=Qu q2
  have rc:=p2.rep.iInt
  subst rc
  have hlt:=(Qfk hn).2.1
  obtain ⟨dn,hdn⟩:∃dn,ds[n]? = some dn:=⟨ds[n],List.getElem?_eq_getElem hlt⟩
  obtain ⟨y,A,B,C,hy,hG,rB,rA,rC⟩:=r.split hdn
  obtain ⟨na,ndG⟩:=List.nodup_cons.mp nd
  have sub:=sub3 hG
  have nAC:a∉A++C:=λh=>na (sub.subset h)
  have hxl:n<xs.length:=by rw [r.length];exact hlt
  refine .inl ⟨a,xs,j,n,rfl,rfl,e,by rw [r.length];exact hn,?_⟩
  refine fin a _ _ (a::(A++C)) List.mem_cons_self rfl (.lst Qk ?_) (List.nodup_cons.mpr ⟨nAC,ndG.sublist sub⟩) (λb hb=>?_) hq
  ·rw [Gc hlt,Gc hxl]
   have:=(rA.upd (ob':=.lst (xs.take n++v1::xs.drop (n+1))) e rfl (λh=>nAC (List.mem_append.mpr (.inl h)))).append (.cons (rv2.upd e rfl (nilnot a)) (rC.upd e rfl λh=>nAC (List.mem_append.mpr (.inr h))))
   simpa using this
  ·rcases List.mem_cons.mp hb with rfl | hb
   ·exact List.mem_cons_self
   ·exact List.mem_cons_of_mem _ (sub.subset hb)
 | dik ds =>
  obtain ⟨key,⟨hz,hq⟩,hy⟩:=Qe6 (show onK c (λkey=>ds.length<sizeLine/\P.nx (ρ2.set i (some (.dik (putD ds key d))))) from q2)
  obtain ⟨a,kvs,G,rfl,rfl,e,r⟩:=ru.iDik
  obtain rfl:=hy p2.rep
  obtain ⟨na,ndG⟩:=List.nodup_cons.mp nd
  obtain ⟨G',rp,sub⟩:=(r.upd (ob':=.dK (putK kvs key v1)) e rfl na).put (k:=key) (rv2.upd e rfl (nilnot a))
  refine .inr ⟨a,_,rfl,DPut.k (k:=key) e (by rw [r.length];exact hz),?_⟩
  refine fin a _ _ (a::G') List.mem_cons_self rfl (.dik Qk rp) (List.nodup_cons.mpr ⟨λh=>na (sub.subset h),ndG.sublist sub⟩) (λb hb=>?_) hq
  rcases List.mem_cons.mp hb with rfl | hb
  ·exact List.mem_cons_self
  ·exact List.mem_cons_of_mem _ (sub.subset hb)
 | dit ds =>
  obtain ⟨l',rfl,hz,q2⟩:=Qjf q2
  obtain ⟨a,kvs,G,rfl,rfl,e,r⟩:=ru.iDit
  obtain ⟨na,ndG⟩:=List.nodup_cons.mp nd
  obtain ⟨ks,hk,hq⟩:=Qu q2
  obtain ⟨b,ys,rfl,e2,r2⟩:=p2.rep.iTup
  have hx:=r2.keys hk
  subst hx
  obtain ⟨G',rp,sub⟩:=(r.upd (ob':=.dT (putK kvs ks v1)) e rfl na).put (k:=ks) (rv2.upd e rfl (nilnot a))
  refine .inr ⟨a,_,rfl,DPut.t (k:=ks) e e2 (by rw [r.length];exact hz),?_⟩
  refine fin a _ _ (a::G') List.mem_cons_self rfl (.dit Qk rp) (List.nodup_cons.mpr ⟨λh=>na (sub.subset h),ndG.sublist sub⟩) (λb hb=>?_) hq
  rcases List.mem_cons.mp hb with rfl | hb
  ·exact List.mem_cons_self
  ·exact List.mem_cons_of_mem _ (sub.subset hb)
 | _=>exact (show False from q2).elim
def wIf (wt:WT) (w u:WS):WS:=λP ρ=>wt ρ λb ρ'=>if b=true then w P ρ' else u P ρ'
theorem Za {sa sb:List Stmt} (hc:TV X T m c wt) (ha:SVs X T sa ws) (hb:SVs X T sb wu):SV X T (.If c sa sb pos) (wIf wt ws wu):=by
 obtain ⟨tc,pc,gc⟩:=hc
 obtain ⟨ta,pa,ga⟩:=ha
 obtain ⟨tb,pb,gb⟩:=hb
 refine ⟨_,Quk pc pa pb,λz R σ H W ρ P E s hw l=>gc z R σ H W ρ _ _ s hw λb H1 W1 ρ1 p q=>?_⟩
 cases b with
 | true=>exact ga z R σ H1 W1 ρ1 P E p.sr q (l.step p.fr)
 | false=>exact gb z R σ H1 W1 ρ1 P E p.sr q (l.step p.fr)
def wFor (wl:WL) (wg:WG) (wb:WS):WS:=λP ρ=>wl ρ λds ρ1=>Ql ds=true/\∃I:Nat->Env->Prop,I 0 ρ1 /\
 (∀i d ρ,ds[i]? = some d->I i ρ->wg d ρ λρ'=>wb { P with nx:=I (i+1),ct:=I (i+1),bk:=P.nx } ρ')/\∀ρ,I ds.length ρ->P.nx ρ
theorem Qbz (W:Addr->Prop):wz true W=W:=by funext a;simp [wz]
theorem Zr (hp:PassesOwn (model X.prog X.w) X.A X.env X.xe) (hi:IV X T m true tg iter wl) (hg:GV X T tg wg) (hb:SVs X T body ws) (hc:X.calm=true:=by rfl)
  (hs:∀x,foldedSetIterable iter X.env x=pure x:=by intro _;rfl):SV X T (.For tg iter body [] pos) (wFor wl wg ws):=by
 obtain ⟨ti,pi,gi⟩:=hi
 obtain ⟨tt,pt,gt⟩:=hg
 obtain ⟨tb,pb,gb⟩:=hb
 refine ⟨_,Qr4 hp hc pi pt pb hs,λz R σ H W ρ P E s hw l=>gi z R σ H W ρ _ _ s hw λJ H1 W1 ds ρ1 p jd q=>?_⟩
 rw [Qbz] at jd
 obtain ⟨hpu,I,h0,hI,hd⟩:=q
 refine ⟨λi n σ' H'=>n=ds.length-i/\i<=ds.length/\∃R' W' ρ',SR X.K T z R' H' W' σ' ρ'/\FrW H1 W1 H' W'/\I i ρ',⟨ds.length,by simp,Nat.zero_le _,R,W1,ρ1,p.sr,FrW.refl _ _,h0⟩,?_⟩
 rintro i n σ2 H2 ⟨rfl,hi,R2,W2,ρ2,s2,f2,i2⟩
 obtain ⟨j1,j2⟩:=jd i H2 W2 f2
 by_cases hlt:i<ds.length
 ·have hdi:ds[i]? = some ds[i]:=List.getElem?_eq_getElem hlt
  obtain ⟨hgo,hy⟩:=j2 _ hdi
  have hpd:(ds[i]).pure=true:=Zm.mp hpu _ (List.getElem_mem hlt)
  refine .inr ⟨hgo,λσ' H'=>i+1<=ds.length/\∃R' W' ρ',SR X.K T z R' H' W' σ' ρ'/\FrW H1 W1 H' W'/\I (i+1) ρ',λσ' H' ⟨h1,h2⟩=>⟨ds.length-(i+1),by omega,rfl,h1,h2⟩,λv H3 yl=>?_⟩
  obtain ⟨sm,F,rv,_⟩:=hy v H3 yl
  obtain ⟨-,rv⟩:=rv.pure hpd
  have f3:FrW H1 W1 H3 W2:=f2.trans (FrW.same W2 sm)
  refine gt z R2 σ2 H3 W2 ρ2 _ v _ _ (s2.same sm) rv hpd (hI i _ ρ2 hdi i2) λR4 W4 σ4 ρ4 s4 f4 q4=>?_
  refine gb z R4 σ4 H3 W4 ρ4 _ _ s4 q4 ⟨?_,?_,?_,?_,?_⟩
  ·exact λR' σ' H' W' ρ' s' f' h=>⟨hlt,R',W',ρ',s',(f3.trans f4).trans f',h⟩
  ·exact λR' σ' H' W' ρ' s' f' h=>l.nx R' σ' H' W' ρ' s' (((p.fr.trans f3).trans f4).trans f') h
  ·exact λR' σ' H' W' ρ' s' f' h=>⟨hlt,R',W',ρ',s',(f3.trans f4).trans f',h⟩
  ·exact (((l.step p.fr).step f3).step f4).rt
  ·exact (((l.step p.fr).step f3).step f4).xc
 ·have e:i=ds.length:=by omega
  subst e
  exact .inl ⟨j1 (Nat.le_refl _),l.nx R2 σ2 H2 W2 ρ2 s2 (p.fr.trans f2) (hd ρ2 i2)⟩
end
end PV
variable {g:PV.GI} {pr:Bool} {we:PV.WE}
namespace PV
open PySem PySem.Spec L2
open PyProof.Rows (envOfC)
def TR:Tg:={ own:=λ_=>false,io:=[] }
def Any (H:Hp):Addr->Prop:=λa=>∃ob,H a=some ob/\imm ob=false
theorem SR.readonly (hio:T.io=[]) (hlen:ρ.length=σ.length) (h:∀i d,look ρ i=some d->T.own i=false/\∃v F,σ[i]? = some (some v)/\Rep K H d v F) :
  SR K T z (Any H) H (λ_=>False) σ ρ:=by
 have ch:∀i,∃F,∀d,look ρ i=some d->∃v,σ[i]? = some (some v)/\Rep K H d v F:=λi=>by
  cases hl:look ρ i with
  | none=>exact ⟨[],λd e=>nomatch e⟩
  | some d =>
   obtain ⟨_,v,F,h1,h2⟩:=h i d hl
   exact ⟨F,λd' e=>by cases e;exact ⟨v,h1,h2⟩⟩
 refine ⟨λi=>Classical.choose (ch i),hlen,λa h=>h.elim,λi d hl=>Classical.choose_spec (ch i) d hl,λi d hl ht=>?_,λi d hl ht a ha=>?_,λa h=>h.elim,λa h=>h,λi j d e hl hl' ht=>?_,λi hi=>?_⟩
 ·rw [(h i d hl).1] at ht;cases ht
 ·obtain ⟨v,_,r⟩:=Classical.choose_spec (ch i) d hl
  exact r.dom a ha
 ·rw [(h i d hl).1] at ht;cases ht
 ·rw [hio] at hi;cases hi
theorem Uo:∀{ds:List D} {n i:Nat},look (ds.map some++List.replicate n none) i=ds[i]?
 | [],0,i=>by simp [look]
 | [],n+1,0=>by simp [look,List.replicate_succ]
 | [],n+1,i+1=>by
  have:=Uo (ds:=[]) (n:=n) (i:=i)
  simpa [look,List.replicate_succ] using this
 | d::ds,n,0=>by simp [look]
 | d::ds,n,i+1=>by
  have:=Uo (ds:=ds) (n:=n) (i:=i)
  simpa [look] using this
theorem Ge (h:vs[i]? = some v):(L2.Gf N vs)[i]? = some (some v):=by
 have hi:=(List.getElem?_eq_some_iff.mp h).1
 unfold L2.Gf
 rw [List.getElem?_append_left (by simpa using hi),List.getElem?_map,h]
 rfl
section
variable {w:World} {f:Addr} {k:Nat} {ww:WS}
def env0 (N:List Str) (ds:List D):Env:=ds.map some++List.replicate (N.length-ds.length) none
theorem Yk {g:GA} (F:Fun K x qual st f fd) (S:FnScope N ps (Qe st)) (hio:T.io=[]) (hown:∀i,i<ps.length->T.own i=false) (hg:∀ds kk,g ds kk->ds.length=ps.length)
  (hb:∀(cdv:Value) (A:Around) (outer:List PySem.Env) (s:Shared) (H:Hp) (E:XK),Room k (A.deeper (envOfC qual (Qe st) s.heap.objs.size f cdv))->SVs (cxOf CX0 P w K mg base N qual (Qe st) f cdv A outer s H E).nox T (Qy st) ww)
  (hr:∀ds kk,g ds kk->ww { nx:=λ_=>kk .non,rt:=λd _=>kk d } (env0 N ds)):FnOk P w K mg base CX0 (k+1) f fd ps (spR K g):=by
 refine F.ok S (λvs H Q E h=>?_) (λcdv A outer s H vs Q E hroom h=>?_)
 ·obtain ⟨ds,Fp,kk,rep,hgk,_⟩:=h
  rw [rep.length];exact hg ds kk hgk
 ·obtain ⟨ds,Fp,kk,rep,hgk,q⟩:=h
  obtain ⟨ts,pts,gts⟩:=hb cdv A outer s H E hroom
  have hl:=rep.length
  have hds:=hg ds kk hgk
  refine ⟨ts,pts,gts (λ_=>.non) (Any H) (L2.Gf N vs) H (λ_=>False) (env0 N ds) _ _ (SR.readonly hio ?_ λi d hli=>?_) (hr ds kk hgk) ⟨?_,?_,?_,?_,λ_ _ _ _ _ _ _ _ hk=>hk.elim⟩⟩
  ·unfold env0 L2.Gf;simp [hl]
  ·unfold env0 at hli
   rw [Uo] at hli
   obtain ⟨v,B,h1,h2,_⟩:=rep.get hli
   exact ⟨hown i (by rw [← hds];exact (List.getElem?_eq_some_iff.mp hli).1),v,B,Ge h1,h2⟩
  ·intro R' σ' H' W' ρ' s' fr hk
   have sm:Same H H':=λb o e=>fr.keep b o e (λz=>z)
   exact q .non H' .non [] ⟨sm,.non,List.nodup_nil,λ_ m=>nomatch m⟩ hk
  ·exact λR' σ' H' W' ρ' s' fr hk=>hk.elim
  ·exact λR' σ' H' W' ρ' s' fr hk=>hk.elim
  ·intro R' v σ' H' W' ρ' d F' s' fr r nd nw hk
   have sm:Same H H':=λb o e=>fr.keep b o e (λz=>z)
   exact q v H' d F' ⟨sm,r,nd,λa ha=>(nw a ha).2.resolve_left id⟩ hk
theorem Qql {p:Nat} (F:Fun K x qual st f fd) (S:FnScope N ps (Qe st)) (hio:T.io=[p]) (hown:T.own p=true) (hg:∀ds kk,g ds kk->ds.length=ps.length/\∃d0,ds[p]? = some d0/\Us d0=true)
  (hb:∀(cdv:Value) (A:Around) (outer:List PySem.Env) (s:Shared) (H:Hp) (E:XK),Room k (A.deeper (envOfC qual (Qe st) s.heap.objs.size f cdv))->SVs (cxOf CX0 P w K mg base N qual (Qe st) f cdv A outer s H E).nox T (Qy st) ww)
  (hr:∀ds kk,g ds kk->ww { nx:=λρ=>oget (look ρ p) λd'=>Us d'=true/\kk .non d',rt:=λd ρ=>oget (look ρ p) λd'=>Us d'=true/\kk d d' } (env0 N ds)):FnOk P w K mg base CX0 (k+1) f fd ps (spI K p g):=by
 refine F.ok S (λvs H Q E h=>?_) (λcdv A outer s H vs Q E hroom h=>?_)
 ·obtain ⟨ds,a,kk,rep,hp,hgk,_⟩:=h
  rw [rep.length];exact (hg ds kk hgk).1
 ·obtain ⟨ds,a,kk,rep,hp,hgk,q⟩:=h
  obtain ⟨ts,pts,gts⟩:=hb cdv A outer s H E hroom
  have hl:=rep.length
  obtain ⟨hds,d0,hd0,hf0⟩:=hg ds kk hgk
  obtain ⟨v0,A',B,C,h1,h2,r0,rA,rC⟩:=rep.split hd0
  rw [hp] at h1;cases h1
  obtain ⟨a',e1,e2⟩:=r0.flat1 hf0
  cases e1
  subst e2
  have hA:A'=[]:=by
   cases A' with
   | nil=>rfl
   | cons y A'=>simp at h2
  subst hA
  have hC:C=[]:=by
   cases C with
   | nil=>rfl
   | cons y C=>simp at h2
  subst hC
  have oth:∀i d,i≠p->ds[i]? = some d->∃v,vs[i]? = some v/\Rep K H d v []:=λi d hne hd=>by
   rcases Nat.lt_or_gt_of_ne hne with h | h
   ·obtain ⟨v,B,h1,h2,h3⟩:=rA.get (i:=i) (by rw [List.getElem?_take_of_lt h];exact hd)
    rw [List.getElem?_take_of_lt h] at h1
    have:=List.sublist_nil.mp h3
    subst this
    exact ⟨v,h1,h2⟩
   ·obtain ⟨v,B,h1,h2,h3⟩:=rC.get (i:=i-(p+1)) (by rw [List.getElem?_drop,show p+1+(i-(p+1))=i by omega];exact hd)
    rw [List.getElem?_drop,show p+1+(i-(p+1))=i by omega] at h1
    have:=List.sublist_nil.mp h3
    subst this
    exact ⟨v,h1,h2⟩
  obtain ⟨oa,ea,ia⟩:=r0.dom a (List.mem_singleton.mpr rfl)
  have fin:∀R' v σ' H' W' ρ' d F',SR K T (λ_=>.ref a) R' H' W' σ' ρ'->FrW H (λb=>b=a) H' W'->Rep K H' d v F'->F'.Nodup->(∀b∈F',¬W' b/\(b=a\/H b=none))->(oget (look ρ' p) λd'=>Us d'=true/\kk d d')->Q v H':=λR' v σ' H' W' ρ' d F' s' fr r nd nw hk=>by
   obtain ⟨d',hl',hf',hk⟩:=Qu hk
   obtain ⟨fp,s0⟩:=s'
   obtain ⟨u,hu,ru⟩:=s0.at_ p d' hl'
   have hfx:=s0.fix p (by rw [hio];exact List.mem_singleton.mpr rfl)
   rw [hu] at hfx
   cases hfx
   obtain ⟨a'',e1,e2⟩:=ru.flat1 hf'
   cases e1
   rw [e2] at ru
   have hWa:W' a:=(s0.own p d' hl' hown).2 a (by rw [e2];exact List.mem_singleton.mpr rfl)
   refine q v H' d d' F' ru r nd (λb hb=>?_) (λb o e hne=>fr.keep b o e hne) hk
   rcases (nw b hb).2 with h | h
   ·exact absurd hWa (by rw [← h];exact (nw b hb).1)
   ·exact h
  refine ⟨ts,pts,gts (λ_=>.ref a) (λb=>b≠a/\Any H b) (L2.Gf N vs) H (λb=>b=a) (env0 N ds) _ _ ⟨λi=>if i=p then [a] else [],?_,?_,?_,?_,?_,?_,?_,?_,?_⟩ (hr ds kk hgk) ⟨?_,?_,?_,?_,λ_ _ _ _ _ _ _ _ hk=>hk.elim⟩⟩
  ·unfold env0 L2.Gf;simp [hl]
  ·rintro b rfl;exact ⟨oa,ea,ia⟩
  ·intro i d hli
   unfold env0 at hli
   rw [Uo] at hli
   by_cases hip:i=p
   ·subst hip
    rw [hd0] at hli;cases hli
    exact ⟨.ref a,Ge hp,by rw [if_pos rfl];exact r0⟩
   ·obtain ⟨v,h1,h2⟩:=oth i d hip hli
    exact ⟨v,Ge h1,by rw [if_neg hip];exact h2⟩
  ·intro i d _ _
   by_cases hip:i=p
   ·rw [if_pos hip];exact ⟨by simp,λb hb=>List.mem_singleton.mp hb⟩
   ·rw [if_neg hip];exact ⟨by simp,λb hb=>nomatch hb⟩
  ·intro i d _ ht b hb
   have hip:i≠p:=λz=>by subst z;rw [hown] at ht;cases ht
   rw [if_neg hip] at hb;cases hb
  ·rintro b rfl ⟨h,_⟩;exact h rfl
  ·exact λb h=>h.2
  ·intro i j d e _ _ _ _ hne b hb hb'
   by_cases hip:i=p
   ·have hjp:j≠p:=λz=>hne (hip.trans z.symm)
    rw [if_neg hjp] at hb';cases hb'
   ·rw [if_neg hip] at hb;cases hb
  ·intro i hi
   rw [hio] at hi
   rw [List.mem_singleton.mp hi]
   exact Ge hp
  ·exact λR' σ' H' W' ρ' s' fr hk=>fin R' .non σ' H' W' ρ' .non [] s' fr .non List.nodup_nil (λb hb=>nomatch hb) hk
  ·exact λR' σ' H' W' ρ' s' fr hk=>hk.elim
  ·exact λR' σ' H' W' ρ' s' fr hk=>hk.elim
  ·exact λR' v σ' H' W' ρ' d F' s' fr r nd nw hk=>fin R' v σ' H' W' ρ' d F' s' fr r nd nw hk
end
def CV (X:Cx) (ifs:List Expr) (w:WT):Prop :=
 ∃tt,PIfs X ifs tt/\∀(z:Nat->V) (R:Addr->Prop) (σ:St) (H:Hp) (W:Addr->Prop) (ρ:Env) (Q:Bool->Env->Prop) (Q':Bool->Hp->Prop),SR X.K TR z R H W σ ρ->w ρ Q ->
  (∀b H' W' ρ',PostT X.K TR z R false H W σ ρ H' W' ρ'->Q b ρ'->Q' b H')->tt σ H Q'
def wAll:WT:=λρ Q=>Q true ρ
theorem Vj:CV X [] wAll:=⟨_,Qgk,λz R σ H W ρ Q Q' s hw k=>k true H W ρ ⟨s,FrW.refl H W,λ_=>⟨Same.refl H,rfl,rfl⟩⟩ hw⟩
theorem Qti (h:TV X TR false c wt):CV X [c] wt:=by
 obtain ⟨tt,pt,g⟩:=h
 exact ⟨_,Ql5 pt,g⟩
def blkE (ρ:Env) (d:D) (ix:List Nat):Env:=some d::ix.map (look ρ)
theorem Qco {f:Nat->Option D}:∀{ix:List Nat} {j:Nat},look (ix.map f) j=ix[j]?.bind f
 | [],_=>by simp [look]
 | i::r,0=>by simp [look]
 | i::r,j+1=>by simpa [look] using Qco (f:=f) (ix:=r) (j:=j)
def Ux (wl:WL) (wt:WT) (we:WE) (ix:List Nat):WE:=λρ Q=>wl ρ λds ρ1=>∃I:Nat->List D->Prop,I 0 [] /\
 (∀i d ys,ds[i]? = some d->I i ys->ys.length<sizeLine/\wt (blkE ρ1 d ix) λb _=>if b=true then we (blkE ρ1 d ix) (λy _=>I (i+1) (ys++[y])) else I (i+1) ys) /\
 ∀ys,I ds.length ys->ys.length<=sizeLine/\Q (.lst ys) ρ1
def Qg7 (X:Cx) (T:Tg) (m:Bool) (elt iter:Expr) (x:Str) (px:Pos) (scope:Scope) (ifs:List Expr) (ix:List Nat) (w:WE):Prop :=
 ∃(wi:TI) (tt:TT) (te:TE),PI X (.Name x px) iter wi/\(∀cl C s₀ H₀ fp,PIfs (cxBlk X scope cl C (bN X.N x ix) s₀ H₀ fp) ifs tt)/\(∀cl C s₀ H₀ fp,PE (cxBlk X scope cl C (bN X.N x ix) s₀ H₀ fp) elt te) /\
  ∀(z:Nat->V) (R:Addr->Prop) (σ:St) (H:Hp) (W:Addr->Prop) (ρ:Env) (Q:D->Env->Prop) (Q':VK),SR X.K T z R H W σ ρ->w ρ Q ->
   (∀v H' W' d ρ' F,Post X.K T z R m true H W σ ρ H' W' ρ' d v F->Q d ρ'->Q' v H')->Qoy wi tt te ix σ H Q'
theorem Yz (ix:List Nat) (hi:IV X T m pr (.Name x px) iter wl)
  (ht:∀cl C s₀ H₀ fp,CV (cxBlk X scope cl C (bN X.N x ix) s₀ H₀ fp) ifs wt) (he:∀cl C s₀ H₀ fp,EV (cxBlk X scope cl C (bN X.N x ix) s₀ H₀ fp) TR false true elt we) :
  Qg7 X T m elt iter x px scope ifs ix (Ux wl wt we ix):=by
 obtain ⟨wi,pi,gi⟩:=hi
 refine ⟨wi,λσ H Q=>∀cl C s₀ H₀ fp,Classical.choose (ht cl C s₀ H₀ fp) σ H Q,λσ H Q=>∀cl C s₀ H₀ fp,Classical.choose (he cl C s₀ H₀ fp) σ H Q,pi,
  λcl C s₀ H₀ fp pins s σ H Q I h=>(Classical.choose_spec (ht cl C s₀ H₀ fp)).1 pins s σ H Q I (h cl C s₀ H₀ fp),λcl C s₀ H₀ fp pins s σ H Q I h=>(Classical.choose_spec (he cl C s₀ H₀ fp)).1 pins s σ H Q I (h cl C s₀ H₀ fp),?_⟩
 intro z R σ H W ρ Q Q' s hw k
 refine gi z R σ H W ρ _ _ s hw λJ H1 W1 ds ρ1 p jd q=>?_
 obtain ⟨I,h0,hI,hd⟩:=q
 refine ⟨λi n ys H2=>n=ds.length-i/\i<=ds.length/\Same H1 H2/\∃es F,Reps X.K H2 es ys F/\F.Nodup/\(∀a∈F,H1 a=none)/\I i es,ds.length,⟨by simp,Nat.zero_le _,Same.refl _,[],[],.nil,List.nodup_nil,(λa m=>(nomatch m)),h0⟩,?_⟩
 rintro i n ys H2 ⟨rfl,hi,sm,es,F,re,nd,nw,i2⟩
 obtain ⟨j1,j2⟩:=jd i H2 (wz pr W1) (FrW.same _ sm)
 by_cases hlt:i<ds.length
 ·have hdi:ds[i]? = some ds[i]:=List.getElem?_eq_getElem hlt
  obtain ⟨hgo,hy⟩:=j2 _ hdi
  obtain ⟨hz,q1⟩:=hI i _ es hdi i2
  refine .inr ⟨hgo,by rw [re.length];exact hz,λv H3 yl=>?_⟩
  obtain ⟨sm3,Fv,rv,_⟩:=hy v H3 yl
  have srB:∀z',SR X.K TR z' (Any H3) H3 (λ_=>False) (bS σ (some v) ix) (blkE ρ1 ds[i] ix):=λz'=>by
   refine SR.readonly rfl (by simp [bS,blkE]) λj d hj=>⟨rfl,?_⟩
   cases j with
   | zero =>
    simp only [blkE,look,Option.some.injEq] at hj
    subst hj
    exact ⟨v,Fv,rfl,rv⟩
   | succ j =>
    have hj':look (ix.map (look ρ1)) j=some d:=hj
    rw [Qco] at hj'
    cases hx:ix[j]? with
    | none=>rw [hx] at hj';cases hj'
    | some q =>
     rw [hx] at hj'
     obtain ⟨fp,s1⟩:=(p.sr.same sm).same sm3
     obtain ⟨u,hu,ru⟩:=s1.at_ q d hj'
     refine ⟨u,fp q,?_,ru⟩
     show (ix.map λi=>(σ[i]?).getD none)[j]? = some (some u)
     rw [List.getElem?_map,hx]
     simp [hu]
  intro cl C s₀ H₀ fp
  refine (Classical.choose_spec (ht cl C s₀ H₀ fp)).2 (λ_=>.non) (Any H3) (bS σ (some v) ix) H3 (λ_=>False) (blkE ρ1 ds[i] ix) _ _ (srB _) q1 λbb H4 W4 ρ4 p4 q4=>?_
  obtain ⟨sm4,hW4,hρ4⟩:=p4.calm rfl
  have re4:=((re.same sm3).same sm4)
  cases bb with
  | false=>exact ⟨ds.length-(i+1),by omega,rfl,hlt,(sm.trans sm3).trans sm4,es,F,re4,nd,nw,q4⟩
  | true =>
   show if true=true then _ else _
   rw [if_pos rfl]
   intro cl C s₀ H₀ fp
   refine (Classical.choose_spec (he cl C s₀ H₀ fp)).2 (λ_=>.non) (Any H3) (bS σ (some v) ix) H4 W4 (blkE ρ1 ds[i] ix) _ _ (hρ4 ▸ p4.sr) (by simpa using q4) λu H5 W5 y ρ5 Fy p5 q5=>?_
   obtain ⟨sm5,_,_⟩:=p5.calm rfl
   obtain ⟨ny,ky⟩:=p5.own rfl
   have sm15:Same H1 H5:=((sm.trans sm3).trans sm4).trans sm5
   refine ⟨ds.length-(i+1),by omega,rfl,hlt,sm15,es++[y],F++Fy,(re4.same sm5).snoc p5.rep,Qas nd ny λa ha hf=>?_,λa ha=>?_,q5⟩
   ·obtain ⟨ob,e1,_⟩:=re4.dom a hf
    rw [(ky a ha).1] at e1;cases e1
   ·rcases List.mem_append.mp ha with ha | ha
    ·exact nw a ha
    ·exact ((sm.trans sm3).trans sm4).free (ky a ha).1
 ·have e:i=ds.length:=by omega
  subst e
  obtain ⟨hz,q1⟩:=hd es i2
  refine .inl ⟨j1 (Nat.le_refl _),by rw [re.length];exact hz,λl hl=>?_⟩
  have hl1:H1 l=none:=sm.free hl
  refine k _ _ W1 (.lst es) ρ1 (l::F) ⟨(p.sr.same sm).same (Qm hl),(p.fr.trans (FrW.same W1 sm)).trans (FrW.same W1 (Qm hl)),λh=>⟨((p.calm h).1.trans sm).trans (Qm hl),(p.calm h).2⟩,.lst Qk (re.same (Qm hl)),λ_=>⟨List.nodup_cons.mpr ⟨λh=>?_,nd⟩,λb hb=>?_⟩⟩ q1
  ·obtain ⟨ob,e1,_⟩:=re.dom l h
   rw [hl] at e1;cases e1
  ·rcases List.mem_cons.mp hb with rfl | hb
   ·exact ⟨p.fr.dom _ hl1,p.sr.nw hl1⟩
   ·exact ⟨p.fr.dom _ (nw b hb),p.sr.nw (nw b hb)⟩
theorem Qqn {ix:List Nat} (h:Qg7 X T m elt iter x px scope ifs ix w) (B:BlkScope X.env scope x)
  (hix:∀i∈ix,∃y,X.N[i]? = some y/\scope.names.lookup y=some .free) (hN:(bN X.N x ix).Nodup) (hc:X.calm=true:=by rfl)
  (hs:∀x,foldedSetIterable iter X.env x=pure x:=by intro _;rfl):EV X T m true (.ListComp elt [⟨.Name x px,iter,ifs,0⟩] scope pos) w:=by
 obtain ⟨wi,tt,te,h1,h2,h3,h4⟩:=h
 exact ⟨_,Qpu ix hc B hix hN h1 h2 h3 hs,h4⟩
end PV
variable {xs:List PV.D} {ws:PV.WS} {me:Bool}
namespace PV
open PySem PySem.Spec L2
abbrev WO:=Env->(Option Int->Env->Prop)->Prop
def OV (X:Cx) (T:Tg) (m:Bool) (e:Option Expr) (w:WO):Prop :=
 ∃t,PO X e t/\∀(z:Nat->V) (R:Addr->Prop) (σ:St) (H:Hp) (W:Addr->Prop) (ρ:Env) (Q:Option Int->Env->Prop) (Q':Option Int->Hp->Prop),SR X.K T z R H W σ ρ->w ρ Q ->
  (∀b H' W' ρ',PostT X.K T z R m H W σ ρ H' W' ρ'->Q b ρ'->Q' b H')->t σ H Q'
def Qb0:WO:=λρ Q=>Q none ρ
def Qes (w:WE):WO:=λρ Q=>w ρ λd ρ'=>match d with
 | .int i=>Q (some i) ρ'
 | _=>False
theorem Qal:OV X T false none Qb0:=⟨_,Qpn,λz R σ H W ρ Q Q' s hw k=>k none H W ρ ⟨s,FrW.refl H W,λ_=>⟨Same.refl H,rfl,rfl⟩⟩ hw⟩
theorem Qak (h:EV X T m o e w):OV X T m (some e) (Qes w):=by
 obtain ⟨t,pt,g⟩:=h
 refine ⟨_,Qpm pt,λz R σ H W ρ Q Q' s hw k=>g z R σ H W ρ _ _ s hw λv H1 W1 d ρ1 F p q=>?_⟩
 cases d with
 | int i=>exact ⟨i,Qo9 p.rep,k (some i) H1 W1 ρ1 ⟨p.sr,p.fr,p.calm⟩ q⟩
 | _=>exact q.elim
def cutD (xs:List D) (lo hi:Option Int):List D:=(xs.drop (HT.sIx xs.length 0 lo)).take (HT.sIx xs.length xs.length hi-HT.sIx xs.length 0 lo)
theorem Reps.cut {xs:List V} (r:Reps K H ds xs []):Reps K H (cutD ds lo hi) (cutV xs lo hi) []:=by
 unfold cutD cutV
 rw [r.length]
 obtain ⟨G,r1,s1⟩:=r.drop (HT.sIx ds.length 0 lo)
 obtain ⟨G',r2,s2⟩:=r1.take (HT.sIx ds.length ds.length hi-HT.sIx ds.length 0 lo)
 have:=List.sublist_nil.mp s1
 subst this
 have:=List.sublist_nil.mp s2
 subst this
 exact r2
theorem Qrq:SlR X (λx lo hi H Q=>rSlL X.K x lo hi H Q\/rSlT X.K x lo hi H Q):=SlR.or Qo0 Qrp
theorem RepK.get {K:PySem.W.Frag} {H:Hp}:∀{ds:List (Key × D)} {xs:List (Key × V)} {F:List Addr} {i:Nat} {k:Key} {v:V},RepK K H ds xs F->xs[i]? = some (k,v)->∃d B,ds[i]? = some (k,d)/\Rep K H d v B/\B.Sublist F
 | [],_,_,_,_,_,r,h=>by cases r;simp at h
 | d::ds,_,_,i,_,_,r,h=>by
  cases r with
  | @cons j d v _ vs F G p r =>
   cases i with
   | zero =>
    simp at h
    obtain ⟨rfl,rfl⟩:=h
    exact ⟨d,F,rfl,p,List.sublist_append_left _ _⟩
   | succ i =>
    obtain ⟨d',B,h1,h2,h3⟩:=RepK.get r (i:=i) (by simpa using h)
    exact ⟨d',B,by simpa using h1,h2,h3.trans (List.sublist_append_right _ _)⟩
section
variable {κ:Type} [DecidableEq κ]
theorem Qpf {j k:κ} {y:D} {r:List (κ × D)} (h:¬j=k):putD ((j,d)::r) k y=(j,d)::putD r k y:=by
 unfold putD
 by_cases q:(r.any λkv=>decide (kv.1=k))=true
 ·rw [if_pos (by rw [List.any_cons,q];simp),if_pos q,List.map_cons,if_neg h]
 ·rw [if_neg (by rw [List.any_cons];simp only [h,decide_false,Bool.false_or];exact q),if_neg q];rfl
theorem Qgq {k:κ} {y:D}:∀{r:List (κ × D)},k∉r.map (·.1)->(r.map λkv=>if kv.1=k then (kv.1,y) else kv)=r
 | [],_=>rfl
 | p::r,h=>by
  simp only [List.map_cons,List.mem_cons,not_or] at h
  rw [List.map_cons,if_neg (λz=>h.1 z.symm),Qgq h.2]
theorem Qpg {k:κ} {y:D} {r:List (κ × D)} (h:k∉r.map (·.1)):putD ((k,d)::r) k y=(k,y)::r:=by
 unfold putD
 rw [if_pos (by rw [List.any_cons];simp),List.map_cons,if_pos rfl,Qgq h]
end
theorem RepK.app {k:Key} {xs:List D}:∀{ds:List (Key × D)} {kvs:List (Key × V)} {F:List Addr},RepK K H ds kvs F->F.Nodup->(ds.map (·.1)).Nodup->valD ds k=some (.lst xs) ->
  ∃l ys,valV kvs k=some (.ref l)/\H l=some (.lst ys)/\l∈F/\ys.length=xs.length/\∀v x,Rep K H x v []->RepK K (L2.upd H l (.lst (ys++[v]))) (putD ds k (.lst (xs++[x]))) kvs F
 | [],_,_,r,_,_,h=>by cases h
 | (j,d)::ds,_,_,r,nd,hk,h=>by
  cases r with
  | @cons _ _ v _ vs F G p r =>
   obtain ⟨n1,n2,n3⟩:=List.nodup_append.mp nd
   obtain ⟨k1,k2⟩:=List.nodup_cons.mp (show (j::ds.map (·.1)).Nodup from hk)
   rw [Jb] at h
   by_cases e:j=k
   ·subst e
    rw [if_pos rfl] at h
    cases h
    cases p with
    | @lst l ys _ F0 e1 r1 =>
     obtain ⟨nl,n0⟩:=List.nodup_cons.mp n1
     refine ⟨l,ys,Jv rfl,e1,List.mem_append.mpr (.inl List.mem_cons_self),r1.length,λv x rx=>?_⟩
     rw [Qpg k1]
     refine .cons (.lst Qk ?_) (r.upd e1 rfl λh=>n3 l List.mem_cons_self l h rfl)
     have:=(r1.upd (ob':=.lst (ys++[v])) e1 rfl nl).snoc (rx.upd e1 rfl (λh=>nomatch h))
     simpa using this
   ·rw [if_neg e] at h
    obtain ⟨l,ys,h1,h2,h3,h4,h5⟩:=RepK.app r n2 k2 h
    refine ⟨l,ys,by rw [Jw e];exact h1,h2,List.mem_append.mpr (.inr h3),h4,λv x rx=>?_⟩
    rw [Qpf e]
    exact .cons (p.upd h2 rfl λh=>n3 l h l h3 rfl) (h5 v x rx)
def Qqg:D->Option Key
 | .int i=>some (.inl i)
 | .str i=>some (.inr i)
 | _=>none
theorem Rep.key {k:Key} (r:Rep K H d v F) (h:Qqg d=some k):v=kV k:=by
 cases r <;> simp [Qqg] at h <;> subst h <;> rfl
def Z4 (kvs:List (Key × D)) (k:Key):List (Key × D):=if (valD kvs k).isNone then kvs++[(k,.lst [])] else kvs
def wSda (i:Nat) (wk wv:WE):WS:=λP ρ=>oget (look ρ i) λs=>match s with
 | .dik kvs=>kvs.length<sizeLine/\(kvs.map (·.1)).Nodup/\wk ρ λkd _=>oget (Qqg kd) λk=>oget (valD (Z4 kvs k) k) λl=>match l with
  | .lst xs=>xs.length<sizeLine/\wv (ρ.set i (some (.dik (Z4 kvs k)))) λd _=>d.pure=true/\P.nx (ρ.set i (some (.dik (putD (Z4 kvs k) k (.lst (xs++[d]))))))
  | _=>False
 | _=>False
theorem Qgc:∀{ρ:Env} {i:Nat} {d:D},look ρ i=some d->ρ.set i (some d)=ρ
 | [],_,_,h=>by simp [look] at h
 | a::r,0,d,h=>by simp only [look] at h;rw [h];rfl
 | a::r,i+1,d,h=>by simp only [List.set_cons_succ];rw [Qgc (ρ:=r) (i:=i) h]
theorem Qsq {κ:Type} [DecidableEq κ] {kvs:List (κ × D)} {k:κ} (h:(kvs.map (·.1)).Nodup) (hn:valD kvs k=none):((kvs++[(k,d)]).map (·.1)).Nodup:=by
 rw [List.map_append]
 refine List.nodup_append.mpr ⟨h,by simp,λa ha b hb e=>?_⟩
 have hb':b=k:=by simpa using hb
 subst e hb'
 obtain ⟨q,hq,e⟩:=List.mem_map.mp ha
 have:(kvs.any λkv=>decide (kv.1=a))=true:=List.any_eq_true.mpr ⟨q,hq,decide_eq_true e⟩
 rw [Gu,hn] at this
 cases this
theorem Qnv {ek ev:Expr} {wk:WE} {ap1 ap2 cp1 cp2 pl:Pos} (hk:EV X T false o1 ek wk) (hv:EV X T false o2 ev wv) (ht:T.own i=true:=by rfl) (hN:X.N[i]? = some x:=by rfl)
  (hvis:Vis X.env.scope x:=by first | exact Or.inl rfl | exact Or.inr (Or.inl rfl) | exact Or.inr (Or.inr rfl)) (hd:(x == ("__debug__" : Str))=false:=by decide) (hcd:(x == ("__classdict__" : Str))=false:=by decide)
  (b1:attributeBase (.Name x p) "setdefault" X.env (eval (.Name x p) X.env)=eval (.Name x p) X.env:=by rfl)
  (f1:((backTo cp1 (starEach [ek,.List [] pl] X.env)).all (λx=>!x.1) && (backToKw cp1 (keywordEach [] X.env)).all (λx=>x.1.isSome)
   && decide (([ek,.List [] pl]:List Expr).length+([]:List Keyword).length+(if ([]:List Keyword).isEmpty then 0 else 1)<30))=true:=by rfl)
  (l1:(ap1.endLine == cp1.line)=true:=by rfl) (s1:starEach [ek,.List [] pl] X.env=(false,eval ek X.env)::starEach [.List [] pl] X.env:=by rfl) (s1':starEach [.List [] pl] X.env=(false,eval (.List [] pl) X.env)::starEach [] X.env:=by rfl) (q1:(backTo cp1 (starEach [.List [] pl] X.env)).any (·.1)=false:=by rfl)
  (b2:attributeBase (.Call (.Attribute (.Name x p) "setdefault" ap1) [ek,.List [] pl] [] cp1) "append" X.env (eval (.Call (.Attribute (.Name x p) "setdefault" ap1) [ek,.List [] pl] [] cp1) X.env)=eval (.Call (.Attribute (.Name x p) "setdefault" ap1) [ek,.List [] pl] [] cp1) X.env:=by rfl)
  (f2:((backTo cp2 (starEach [ev] X.env)).all (λx=>!x.1) && (backToKw cp2 (keywordEach [] X.env)).all (λx=>x.1.isSome)
   && decide (([ev]:List Expr).length+([]:List Keyword).length+(if ([]:List Keyword).isEmpty then 0 else 1)<30))=true:=by rfl)
  (l2:(ap2.endLine == cp2.line)=true:=by rfl) (s2:starEach [ev] X.env=(false,eval ev X.env)::starEach [] X.env:=by rfl) (q2:(backTo cp2 (starEach [] X.env)).any (·.1)=false:=by rfl)
  (hs:swapsWith (.Call (.Attribute (.Call (.Attribute (.Name x p) "setdefault" ap1) [ek,.List [] pl] [] cp1) "append" ap2) [ev] [] cp2) none pos.line X.env=pure false:=by rfl) :
  SV X T (.Expr (.Call (.Attribute (.Call (.Attribute (.Name x p) "setdefault" ap1) [ek,.List [] pl] [] cp1) "append" ap2) [ev] [] cp2) pos) (wSda i wk wv):=by
 obtain ⟨tk,pk,gk⟩:=hk
 obtain ⟨tv,pv,gv⟩:=hv
 refine ⟨_,Qpk (Qpw PySem.F.plainAttrs_list PySem.F.slot_list_append PySem.F.type_list_append Qjr (Qpw PySem.F.plainAttrs_dict PySem.F.slot_dict_setdefault PySem.F.type_dict_setdefault Qcn (Va hN hvis hd hcd) (Vq pk (Vq (Qob Qdt) Qdt s1') s1) b1 f1 l1 s1 q1) (Vq pv Qdt s2) b2 f2 l2 s2 q2) hs,λz R σ H W ρ P E s hw l=>?_⟩
 obtain ⟨sd,hl0,hw⟩:=Qu hw
 obtain ⟨kvs,rfl⟩:∃kvs,sd=D.dik kvs:=by
  clear hl0
  cases sd with
  | dik kvs=>exact ⟨kvs,rfl⟩
  | _=>exact (show False from hw).elim
 obtain ⟨hz,hnd,hw⟩:=hw
 obtain ⟨fp,s0⟩:=id s
 obtain ⟨v0,hv0,r0⟩:=s0.at_ i _ hl0
 refine ⟨v0,hv0,Qns r0 (t:="dict") rfl,?_⟩
 refine gk z R σ H W ρ _ _ s hw λvk H1 W1 kd ρ1 Fk p q=>?_
 obtain ⟨sm1,hW1,hρ1⟩:=p.calm rfl
 subst hW1 hρ1
 obtain ⟨k,hkey,q⟩:=Qu q
 have ek:=p.rep.key hkey
 subst ek
 obtain ⟨ld,hval,q⟩:=Qu q
 obtain ⟨xs,rfl⟩:∃xs,ld=D.lst xs:=by
  clear hval
  cases ld with
  | lst xs=>exact ⟨xs,rfl⟩
  | _=>exact (show False from q).elim
 obtain ⟨hxz,q⟩:=q
 -- what is to be done with the list that comes
 have fin:∀(Hs:Hp) (Ws:Addr->Prop) (y:V),SR X.K T z R Hs Ws σ (ρ1.set i (some (.dik (Z4 kvs k))))->FrW H W1 Hs Ws->((Z4 kvs k).map (·.1)).Nodup->(∀a kv,v0=.ref a->Hs a=some (.dK kv)->valV kv k=some y) ->
   tyV X.K "list" y Hs/\Qro tv tNil σ Hs λxs H2=>Qi1 y xs H2 λ_ H1=>E.nx σ H1:=λHs Ws y ss fs hns hy=>by
  obtain ⟨fpS,sS⟩:=id ss
  have hlS:look (ρ1.set i (some (.dik (Z4 kvs k)))) i=some (.dik (Z4 kvs k)):=Vs (Qav hl0)
  obtain ⟨vS,hvS,rS⟩:=sS.at_ i _ hlS
  have:vS=v0:=by rw [hv0] at hvS;cases hvS;rfl
  subst this
  obtain ⟨ndS,swS⟩:=sS.own i _ hlS ht
  have app:∃(l:Addr) (ys:List V) (a:Addr) (kvS:List (Key × V)),y=.ref l/\Hs l=some (.lst ys)/\vS=.ref a/\Hs a=some (.dK kvS):=by
   generalize fpS i=Fi at rS ndS
   cases rS with
   | @dik a kv _ F e1 r =>
    obtain ⟨na,nF⟩:=List.nodup_cons.mp ndS
    obtain ⟨l,ys,h1,h2,_⟩:=r.app nF hns hval
    have:=hy a kv rfl e1
    rw [h1] at this
    cases this
    exact ⟨l,ys,a,kv,rfl,h2,rfl,e1⟩
  obtain ⟨l0,ys0,aS,kvS,rfl,hl0',rfl,eS⟩:=app
  refine ⟨.inl ⟨rfl,_,.of hl0'⟩,?_⟩
  refine gv z R σ Hs Ws _ _ _ ss q λvd H2 W2 d ρ2 Fd pd ⟨hp,qn⟩=>?_
  obtain ⟨sm2,hW2,hρ2⟩:=pd.calm rfl
  subst hW2 hρ2
  obtain ⟨_,rd⟩:=pd.rep.pure hp
  obtain ⟨fp2,s2⟩:=id pd.sr
  obtain ⟨v2,hv2,r2⟩:=s2.at_ i _ hlS
  have:v2=.ref aS:=by rw [hvS] at hv2;cases hv2;rfl
  subst this
  obtain ⟨nd2,sw2⟩:=s2.own i _ hlS ht
  have h2l:H2 l0=some (.lst ys0):=sm2 _ _ hl0'
  have fin2:∃(ys:List V) (F':List Addr),H2 l0=some (.lst ys)/\ys.length=xs.length/\l0∈fp2 i/\Rep X.K (upd H2 l0 (.lst (ys++[vd]))) (.dik (putD (Z4 kvs k) k (.lst (xs++[d])))) (.ref aS) F'/\F'=fp2 i:=by
   generalize fp2 i=Fi at r2 nd2
   cases r2 with
   | @dik a kv _ F e1 r =>
    obtain ⟨na,nF⟩:=List.nodup_cons.mp nd2
    obtain ⟨l,ys,h1,h2,h3,h4,h5⟩:=r.app nF hns hval
    have hkv:kv=kvS:=by
     have:=sm2 _ _ eS
     rw [e1] at this
     cases this
     rfl
    subst hkv
    have:=hy aS kv rfl eS
    rw [h1] at this
    cases this
    have hne:aS≠l0:=λz=>na (z ▸ h3)
    exact ⟨ys,_,h2,h4,List.mem_cons_of_mem _ h3,.dik (by rw [Qq hne];exact e1) (h5 vd d rd),rfl⟩
  obtain ⟨ys,F',h1,h2,h3,h4,rfl⟩:=fin2
  refine ⟨l0,ys,vd,rfl,rfl,h1,by rw [h2];exact hxz,?_⟩
  have hWl:=sw2 l0 h3
  have sF:=s2.write hlS ht hv2 h3 Zp ⟨_,Qk,rfl⟩ h4 nd2 (λa ha=>.inl ha)
  have fF:=(fs.trans pd.fr).write hWl (s2.wd l0 hWl) (H':=upd H2 l0 (.lst (ys++[vd]))) Zp ⟨_,Qk,rfl⟩ (F':=fp2 i) (λa ha=>.inl (sw2 a ha))
  rw [List.set_set] at sF
  exact l.nx R σ _ _ _ sF fF qn
 refine ⟨Nat.zero_le _,λpn hpn=>?_⟩
 have smn:Same H1 (upd H1 pn (.lst [])):=Qm hpn
 have sn:=p.sr.same smn
 have fn1:FrW H W1 (upd H1 pn (.lst [])) W1:=p.fr.trans (FrW.same W1 smn)
 obtain ⟨fp1,s1⟩:=id sn
 obtain ⟨v1,hv1,r1⟩:=s1.at_ i _ hl0
 have:v1=v0:=by rw [hv0] at hv1;cases hv1;rfl
 subst this
 obtain ⟨nd1,sw1⟩:=s1.own i _ hl0 ht
 have hpnW:¬W1 pn:=p.sr.nw hpn
 have hpnR:¬R pn:=p.sr.nr hpn
 have hpn0:H pn=none:=sm1.free hpn
 have rep1:∃(a:Addr) (kv:List (Key × V)) (F:List Addr),v1=.ref a/\upd H1 pn (.lst []) a=some (.dK kv)/\RepK X.K (upd H1 pn (.lst [])) kvs kv F/\fp1 i=a::F:=by
  generalize fp1 i=Fi at r1
  cases r1 with
  | @dik a kv _ F e1 r=>exact ⟨a,kv,F,rfl,e1,r,rfl⟩
 obtain ⟨a,kv,F,rfl,e1,r,hfp⟩:=rep1
 rw [hfp] at nd1 sw1
 obtain ⟨na,nF⟩:=List.nodup_cons.mp nd1
 refine ⟨a,kv,k,.ref pn,rfl,rfl,e1,by rw [r.length];exact hz,λy hy=>?_,λhn=>?_⟩
 ·have hs:(valD kvs k).isNone=false:=by
   rcases r.val k with ⟨_,h2⟩ | ⟨d,v,B,h1,_⟩
   ·rw [hy] at h2;cases h2
   ·rw [h1];rfl
  have e2:Z4 kvs k=kvs:=by unfold Z4;rw [hs];rfl
  refine fin _ W1 y ?_ fn1 (by rw [e2];exact hnd) λa' kv' ea ha=>?_
  ·rw [e2,Qgc hl0];exact sn
  ·cases ea
   rw [e1] at ha
   cases ha
   exact hy
 ·have hs:valD kvs k=none:=by
   rcases r.val k with ⟨h1,_⟩ | ⟨d,v,B,_,h2,_⟩
   ·exact h1
   ·rw [hn] at h2;cases h2
  have e2:Z4 kvs k=kvs++[(k,.lst [])]:=by unfold Z4;rw [hs];rfl
  have hapn:a≠pn:=λz=>hpnW (z ▸ sw1 a List.mem_cons_self)
  have hput:=Ql0 (V.ref pn) hn
  have rN:Rep X.K (upd (upd H1 pn (.lst [])) a (.dK (putK kv k (.ref pn)))) (.dik (Z4 kvs k)) (.ref a) (a::(F++[pn])):=by
   rw [e2,hput]
   refine .dik Qk ((r.upd e1 rfl na).append ?_)
   have:Rep X.K (upd (upd H1 pn (.lst [])) a (.dK (kv++[(k,.ref pn)]))) (.lst []) (.ref pn) [pn]:=.lst (by rw [Qq (Ne.symm hapn),Qk]) .nil
   have:=RepK.cons (k:=k) this .nil
   simpa using this
  have ndN:(a::(F++[pn])).Nodup:=by
   refine List.nodup_cons.mpr ⟨λh=>?_,Qas nF (by simp) λb hb hf=>?_⟩
   ·rcases List.mem_append.mp h with h | h
    ·exact na h
    ·exact hapn (List.mem_singleton.mp h)
   ·rw [List.mem_singleton.mp hb] at hf
    exact hpnW (sw1 pn (List.mem_cons_of_mem _ hf))
  have hWa:=sw1 a List.mem_cons_self
  have sN:=s1.write hl0 ht hv1 (by rw [hfp];exact List.mem_cons_self) Zp ⟨_,Qk,rfl⟩ rN ndN (λb hb=>by
   rcases List.mem_cons.mp hb with rfl | hb
   ·exact .inl (by rw [hfp];exact List.mem_cons_self)
   ·rcases List.mem_append.mp hb with hb | hb
    ·exact .inl (by rw [hfp];exact List.mem_cons_of_mem _ hb)
    ·rw [List.mem_singleton.mp hb];exact .inr ⟨hpnW,hpnR⟩)
  have fN:=fn1.write (H':=upd (upd H1 pn (.lst [])) a (.dK (putK kv k (.ref pn)))) (F':=a::(F++[pn])) hWa (s1.wd a hWa) Zp ⟨_,Qk,rfl⟩ (λb hb=>by
   rcases List.mem_cons.mp hb with rfl | hb
   ·exact .inl hWa
   ·rcases List.mem_append.mp hb with hb | hb
    ·exact .inl (sw1 b (List.mem_cons_of_mem _ hb))
    ·rw [List.mem_singleton.mp hb];exact .inr hpn0)
  refine fin _ _ (.ref pn) sN fN (by rw [e2];exact Qsq hnd hs) λa' kv' ea ha=>?_
  cases ea
  rw [Qk] at ha
  cases ha
  rw [Qli,if_pos rfl]
theorem Ze:bootBuiltins "isinstance" = some (.builtin "isinstance"):=by decide +kernel
theorem Zz:bootBuiltins "len" = some (.builtin "len"):=by decide +kernel
theorem Qoq:bootBuiltins "int" = some (.type "int"):=by decide +kernel
theorem Qq4:bootBuiltins "bool" = some (.type "bool"):=by decide +kernel
theorem Qq3:bootBuiltins "list" = some (.type "list"):=by decide +kernel
theorem Jz:bootBuiltins "tuple" = some (.type "tuple"):=by decide +kernel
def Q0 (w:WE):WE:=λρ Q=>w ρ λd ρ'=>d.pure=true/\Q d ρ'
def Cal (P:Program) (w:World) (K:PySem.W.Frag) (mg:Str->Option Value) (base:Heap) (x:Str) (k:Nat) (ps:List Str) (sp:Sp):Prop :=
 ∃f fd,FnOk P w K mg base CX0 k f fd ps sp/\mg x=some (.ref f)/\PySem.W.keepIn K (.ref f)=true/\Z2 K fd ps []
section
variable {k:Nat}
theorem Q3 (h:EV X T m o e w):EV X T m true e (Q0 w):=h.lift
theorem Qo {g:GA} (C:Cal X.prog X.w X.K X.mg X.base x k ps (spR X.K g)) (hr:Room k X.A) (ha:AV X T m o (e::es) wr) (hg:Gl X x:=by rfl)
  (hdb:(x == ("__debug__" : Str))=false:=by decide) (he:starEach (e::es) X.env=(false,eval e X.env)::starEach es X.env:=by rfl) (hpl:(backTo pos (starEach es X.env)).any (·.1)=false:=by rfl) :
  EV X T m true (.Call (.Name x p) (e::es) [] pos) (Qn g wr):=by
 obtain ⟨f,fd,F,h1,h2,h3⟩:=C
 exact Qqo F hr h1 h2 h3 ha hg hdb he hpl
theorem Vh {wi:WI} (C:Cal X.prog X.w X.K X.mg X.base x k ps (spI X.K q g)) (hr:Room k X.A) (ha:AI X T m i q (e::es) wi) (ht:T.own i=true:=by rfl) (hg:Gl X x:=by rfl)
  (hdb:(x == ("__debug__" : Str))=false:=by decide) (he:starEach (e::es) X.env=(false,eval e X.env)::starEach es X.env:=by rfl) (hpl:(backTo pos (starEach es X.env)).any (·.1)=false:=by rfl) :
  EV X T true true (.Call (.Name x p) (e::es) [] pos) (V3 i g wi):=by
 obtain ⟨f,fd,F,h1,h2,h3⟩:=C
 exact Qm7 F hr h1 h2 h3 ha ht hg hdb he hpl
def Qee (sc scope:Scope) (N:List Str) (x:Str) (ix:List Nat):Bool :=
 (scope.kind == .function) && scope.names.all (λy=>y.2 != .cell) && scope.names.all (λy=>y.2 != .local || scope.names.lookup y.1 == some .local) && (scope.names.lookup x == some .local) &&
  scope.names.all (λy=>y.2 != .free || (sc.names.lookup y.1 == some .cell || sc.names.lookup y.1 == some .free)) &&
  ix.all (λi=>match N[i]? with | some y=>scope.names.lookup y == some .free | none=>false) && decide (bN N x ix).Nodup
structure CompB (X:Cx) (scope:Scope) (x:Str) (ix:List Nat):Prop where
 B:BlkScope X.env scope x
 hix:∀i∈ix,∃y,X.N[i]? = some y/\scope.names.lookup y=some .free
 hN:(bN X.N x ix).Nodup
theorem Jf {ix:List Nat} (sc:Scope) (N:List Str) (h:Qee sc scope N x ix=true) (h1:X.env.scope=sc:=by rfl) (h2:X.N=N:=by rfl):CompB X scope x ix:=by
 subst h1 h2
 simp only [Qee,Bool.and_eq_true,List.all_eq_true,Bool.or_eq_true,decide_eq_true_eq,beq_iff_eq,bne_iff_ne] at h
 obtain ⟨⟨⟨⟨⟨⟨a1,a2⟩,a3⟩,a4⟩,a5⟩,a6⟩,a7⟩:=h
 refine ⟨⟨a1,a2,λy hy e=>(a3 y hy).resolve_left (λz=>z e),a4,λy hy e=>(a5 y hy).resolve_left (λz=>z e)⟩,λi hi=>?_,a7⟩
 have:=a6 i hi
 cases q:X.N[i]? with
 | none=>rw [q] at this;cases this
 | some y =>
  rw [q] at this
  exact ⟨y,rfl,by simpa using this⟩
theorem J7 {ix:List Nat} (h:Qg7 X T m elt iter x px scope ifs ix w) (B:CompB X scope x ix) (hc:X.calm=true:=by rfl)
  (hs:∀x,foldedSetIterable iter X.env x=pure x:=by intro _;rfl):EV X T m true (.ListComp elt [⟨.Name x px,iter,ifs,0⟩] scope pos) w:=Qqn h B.B B.hix B.hN hc hs
end
def kD:Key->D
 | .inl i=>.int i
 | .inr x=>.str x
theorem Qn2 (k:Key):Rep K H (kD k) (kV k) []:=by
 cases k with
 | inl i=>exact .int i
 | inr x=>exact .str x
def Qbh (kvs:List (Key × D)):List D:=kvs.map λkv=>kD kv.1
def Qos (w:WE):WL:=λρ Q=>w ρ λd ρ'=>match d with
 | .dik kvs=>Q (Qbh kvs) ρ'
 | _=>False
theorem Qqj {oe:Expr} (h:EV X T m true oe w):IV X T m true tg oe (Qos w):=by
 obtain ⟨te,pe,ge⟩:=h
 refine ⟨_,Qpo pe,λz R σ H W ρ Q RR s hw k=>?_⟩
 refine ge z R σ H W ρ _ _ s hw λv H1 W1 d ρ1 F p q=>?_
 obtain ⟨es,rfl⟩:∃es,d=D.dik es:=by
  clear p
  cases d with
  | dik es=>exact ⟨es,rfl⟩
  | _=>exact (show False from q).elim
 obtain ⟨p1,p2,p3,p4,p5⟩:=p
 obtain ⟨nd,kF⟩:=p5 rfl
 cases p4 with
 | @dik dd kvs _ F e1 r =>
  have hd0:=kF dd List.mem_cons_self
  obtain ⟨nF,ndF⟩:=List.nodup_cons.mp nd
  refine ⟨dd,kvs,rfl,e1,λob=>k _ _ W1 (Qbh es) ρ1 ⟨?_,?_,λh=>?_⟩ ?_ q⟩
  ·obtain ⟨fp,s1⟩:=p1
   have hi:ImmK H1 (upd H1 dd (.frz ob (.dK kvs))):=U1 e1 rfl
   refine ⟨fp,s1.len,λa ha=>?_,λi d hl=>?_,s1.own,s1.ro,s1.wr,λa ha=>?_,s1.dis,s1.fix⟩
   ·have:a≠dd:=λz=>hd0.2 (z ▸ ha)
    rw [Qq this];exact s1.wd a ha
   ·obtain ⟨u,h1,h2⟩:=s1.at_ i d hl
    refine ⟨u,h1,h2.frame hi λa ha=>Qq λz=>?_⟩
    subst z
    cases hto:T.own i with
    | true=>exact hd0.2 ((s1.own i d hl hto).2 _ ha)
    | false=>exact s.nr hd0.1 (s1.ro i d hl hto _ ha)
   ·have:a≠dd:=λz=>s.nr hd0.1 (z ▸ ha)
    rw [Qq this];exact s1.rd a ha
  ·refine ⟨λb u e n=>?_,λb e=>?_,λb u e im=>?_,p2.new⟩
   ·have:b≠dd:=λz=>by rw [z,hd0.1] at e;cases e
    rw [Qq this];exact p2.keep b u e n
   ·by_cases hb:b=dd
    ·rw [hb,Qk] at e;cases e
    ·rw [Qq hb] at e;exact p2.dom b e
   ·have:b≠dd:=λz=>by rw [z,hd0.1] at e;cases e
    rw [Qq this];exact p2.imm b u e im
  ·obtain ⟨a1,a2,a3⟩:=p3 h
   refine ⟨λb u e=>?_,a2,a3⟩
   have:b≠dd:=λz=>by rw [z,hd0.1] at e;cases e
   rw [Qq this];exact a1 b u e
  ·rw [Qbz]
   intro i H2 W2 f
   have e2:H2 dd=some (.frz ob (.dK kvs)):=f.imm _ _ Qk rfl
   have hlen:kvs.length=es.length:=r.length
   refine ⟨λhi=>⟨e2,by rw [Qbh,List.length_map] at hi;omega⟩,λd hd=>?_⟩
   have hi:i<es.length:=by have:=(List.getElem?_eq_some_iff.mp hd).1;rwa [Qbh,List.length_map] at this
   refine ⟨⟨e2,by omega⟩,λv H3 y=>?_⟩
   obtain ⟨rfl,kk,vv,hk,rfl⟩:=y
   obtain ⟨d',B,h1,h2,h3⟩:=r.get hk
   rw [Qbh,List.getElem?_map,h1] at hd
   cases hd
   exact ⟨Same.refl _,[],Qn2 kk,λa ha=>nomatch ha⟩
def Yq:G2
 | .int i,.int j,k=>k (.int (i+j))
 | .str x,.str y,k=>x.length+y.length<=sizeLine/\k (.str (x++y))
 | .tup xs,.tup ys,k=>Ql xs=true/\Ql ys=true/\xs.length+ys.length<=sizeLine/\k (.tup (xs++ys))
 | .lst xs,.lst ys,k=>Ql xs=true/\Ql ys=true/\xs.length+ys.length<=sizeLine/\k (.lst (xs++ys))
 | _,_,_=>False
theorem Qnp {a b:D} (g:Yq a b k):(∃i j,a=.int i/\b=.int j)\/(∃i j,a=.str i/\b=.str j)\/(∃i j,a=.lst i/\b=.lst j)\/∃i j,a=.tup i/\b=.tup j:=by
 cases a with
 | int i=>cases b with
  | int j=>exact .inl ⟨i,j,rfl,rfl⟩
  | _=>exact (show False from g).elim
 | str i=>cases b with
  | str j=>exact .inr (.inl ⟨i,j,rfl,rfl⟩)
  | _=>exact (show False from g).elim
 | lst i=>cases b with
  | lst j=>exact .inr (.inr (.inl ⟨i,j,rfl,rfl⟩))
  | _=>exact (show False from g).elim
 | tup i=>cases b with
  | tup j=>exact .inr (.inr (.inr ⟨i,j,rfl,rfl⟩))
  | _=>cases i <;> exact (show False from g).elim
 | _=>exact (show False from g).elim
theorem Q8:OpD X (binaryOp .Add) Yq:=by
 obtain ⟨r0,o0,g0⟩:=Qsn (X:=X)
 refine ⟨_,OpR.or Qp3 o0,λH a b x y F1 F2 k Q ra rb g q=>?_⟩
 rcases Qnp g with ⟨i,j,rfl,rfl⟩ | ⟨i,j,rfl,rfl⟩ | ⟨i,j,rfl,rfl⟩ | ⟨i,ys,rfl,rfl⟩
 ·exact .inr (g0 H _ _ x y F1 F2 k Q ra rb g q)
 ·exact .inr (g0 H _ _ x y F1 F2 k Q ra rb g q)
 ·exact .inr (g0 H _ _ x y F1 F2 k Q ra rb g q)
 ·cases i with
  | nil =>
   cases ra with
   | @tup p _ _ _ e1 r1 =>
    cases r1
    cases rb with
    | @tup p' us _ _ e2 r2=>exact .inl ⟨p,p',us,rfl,rfl,.of e1,.of e2,q _ _ _ _ (.flat (.tup e2 (r2.pure g.2.1).2)) g.2.2.2⟩
  | cons d xs=>exact .inr (g0 H _ _ x y F1 F2 k Q ra rb ⟨g.1,g.2.1,by simp,g.2.2⟩ q)
def dSlT:D->Option Int->Option Int->(D->Prop)->Prop
 | .lst xs,lo,hi,k=>Ql xs=true/\k (.lst (cutD xs lo hi))
 | .kls xs,lo,hi,k=>Ql xs=true/\k (.lst (cutD xs lo hi))
 | .tup xs,lo,hi,k=>Ql xs=true/\k (.tup (cutD xs lo hi))
 | _,_,_,_=>False
theorem Qo2 (g:dSlT d lo hi k):(∃ds,d=.lst ds)\/(∃ds,d=.kls ds)\/∃ds,d=.tup ds:=by
 cases d with
 | lst ds=>exact .inl ⟨ds,rfl⟩
 | kls ds=>exact .inr (.inl ⟨ds,rfl⟩)
 | tup ds=>exact .inr (.inr ⟨ds,rfl⟩)
 | _=>exact (show False from g).elim
theorem Qo1:SlR X (λx lo hi H Q=>(rSlL X.K x lo hi H Q\/rSlT X.K x lo hi H Q)\/rSlW X.K x lo hi H Q):=SlR.or Qrq Qoz
def wSlT (w:WE) (wl wh:WO):WE:=λρ Q=>w ρ λd ρ1=>wl ρ1 λlo ρ2=>wh ρ2 λhi ρ3=>dSlT d lo hi λd'=>Q d' ρ3
theorem Qku (h:HT.sIx xs.length 0 lo=0/\HT.sIx xs.length xs.length hi=xs.length):cutD xs lo hi=xs:=by
 unfold cutD
 rw [h.1,h.2]
 simp
theorem Qeb {lo hi:Option Expr} {wl wh:WO} (he:EV X T m1 o1 e w) (hl:OV X T m2 lo wl) (hh:OV X T m3 hi wh) (hc:o1=true\/(m2 || m3)=false:=by first | exact .inl rfl | exact .inr rfl) :
  EV X T (m1 || (m2 || m3)) true (.Subscript e (.Slice lo hi none p2) pos) (wSlT w wl wh):=by
 obtain ⟨te,pe,ge⟩:=he
 obtain ⟨tl,pl,gl⟩:=hl
 obtain ⟨th,ph,gh⟩:=hh
 refine ⟨_,Ql8 Qo1 pe pl ph,λz R σ H W ρ Q Q' s hw k=>?_⟩
 refine ge z R σ H W ρ _ _ s hw λv H1 W1 d ρ1 F p q=>?_
 refine gl z R σ H1 W1 ρ1 _ _ p.sr q λlo H2 W2 ρ2 p2 q2=>?_
 refine gh z R σ H2 W2 ρ2 _ _ p2.sr q2 λhi H3 W3 ρ3 p3 q3=>?_
 have pp:=p2.seq p3
 have r3:Rep X.K H3 d v F:=by
  rcases hc with hc | hc
  ·exact p.rep.keep pp.fr λa h=>((p.own hc).2 a h).2
  ·exact p.rep.same (pp.calm hc).1
 have fin:∀ad d' v' Fn,Fin X.K H3 ad d' v' Fn->Q d' ρ3->Q' v' ad:=λH' d' v' F' fi hq=>by
  refine k v' H' W3 d' ρ3 F' (Post.fin p3.sr (p.fr.trans pp.fr) (λh=>?_) fi.same fi.rep fi.nd fi.new) hq
  rw [Bool.or_eq_false_iff] at h
  obtain ⟨a1,a2,a3⟩:=p.calm h.1
  obtain ⟨b1,b2,b3⟩:=pp.calm h.2
  exact ⟨a1.trans b1,b2.trans a2,b3.trans a3⟩
 have q4:dSlT d lo hi λd'=>Q d' ρ3:=q3
 clear q3
 rcases Qo2 q4 with ⟨ds,rfl⟩ | ⟨ds,rfl⟩ | ⟨ds,rfl⟩
 ·have q3:=q4
  cases r3 with
  | @lst a xs _ F e1 r9 =>
   obtain ⟨hp,hq⟩:=q3
   obtain ⟨_,r9⟩:=r9.pure hp
   exact .inl (.inl ⟨a,xs,rfl,.of e1,λl hl=>fin _ _ _ [l] ⟨Qm hl,.lst Qk (r9.cut.same (Qm hl)),by simp,λb m=>by rw [List.mem_singleton.mp m];exact hl⟩ hq⟩)
 ·have q3:=q4
  cases r3 with
  | @kls a xs _ e1 r9 =>
   obtain ⟨hp,hq⟩:=q3
   exact .inl (.inl ⟨a,xs,rfl,e1.sq,λl hl=>fin _ _ _ [l] ⟨Qm hl,.lst Qk (r9.cut.same (Qm hl)),by simp,λb m=>by rw [List.mem_singleton.mp m];exact hl⟩ hq⟩)
 ·have q3:=q4
  cases r3 with
  | @tup a xs _ F e1 r9 =>
   obtain ⟨hp,hq⟩:=q3
   obtain ⟨_,r9⟩:=r9.pure hp
   by_cases hn:HT.sIx ds.length 0 lo=0/\HT.sIx ds.length ds.length hi=ds.length
   ·rw [Qku hn] at hq
    exact .inr ⟨a,xs,rfl,.of e1,by rw [r9.length];exact hn,fin _ _ _ [] (.flat (.tup e1 r9)) hq⟩
   ·exact .inl (.inr ⟨a,xs,rfl,.of e1,by rw [r9.length];exact hn,λl hl=>fin _ _ _ [] ⟨Qm hl,.tup Qk (r9.cut.same (Qm hl)),by simp,λb m=>nomatch m⟩ hq⟩)
def Qu7 (d:D) (k:List (Key × D)->Prop):Prop:=match d with
 | .dik kvs=>k kvs
 | _=>False
def TB (q:Nat):Tg:={ own:=λi=>i == q,io:=[q] }
def dAll:GA
 | [.lst ds],k=>∃bs:List Bool,ds=bs.map D.bl/\k (.bl (bs.all id))
 | _,_=>False
def Qc1 (ρ:Env) (d1 d2:D) (ix:List Nat):Env:=some d1::some d2::ix.map (look ρ)
def two2 (d:D) (k:D->D->Prop):Prop:=match d with
 | .tup [a,b]=>k a b
 | .kc (.tup [a,b])=>k (kcD a) (kcD b)
 | _=>False
theorem two2_rep {k:D->D->Prop} (r:Rep K H d v F) (q:two2 d k):∃av v1 v2 d1 d2 F1 F2,v=.ref av/\SqT K H av [v1,v2]/\Rep K H d1 v1 F1/\Rep K H d2 v2 F2/\k d1 d2:=by
 cases r with
 | @tup a xs ds F e r =>
  match ds,r,q with
  | [d1,d2],r,q =>
   obtain ⟨v1,v2,F1,F2,rfl,r1,r2⟩:=r.at2
   exact ⟨a,v1,v2,d1,d2,F1,F2,rfl,.of e,r1,r2,q⟩
 | @kc c v h =>
  match c,h,q with
  | .tup [d1,d2],h,q =>
   obtain ⟨a,xs,rfl,hs,ar⟩:=h.sqT
   have r:Reps K H [kcD d1,kcD d2] xs []:=ar.reps
   obtain ⟨v1,v2,F1,F2,rfl,r1,r2⟩:=r.at2
   exact ⟨a,v1,v2,kcD d1,kcD d2,F1,F2,rfl,hs H,r1,r2,q⟩
 | _=>exact (show False from q).elim
def Qtj (ds:List D) (wt:WT) (we:WE) (ρ1:Env) (ix:List Nat) (Q:D->Env->Prop):Prop:=∃I:Nat->List D->Prop,I 0 [] /\
 (∀i d ys,ds[i]? = some d->I i ys->ys.length<sizeLine/\two2 d λd1 d2=>wt (Qc1 ρ1 d1 d2 ix) λb _=>if b=true then we (Qc1 ρ1 d1 d2 ix) (λy _=>I (i+1) (ys++[y])) else I (i+1) ys) /\
 ∀ys,I ds.length ys->ys.length<=sizeLine/\Q (.lst ys) ρ1
def Qh9 (wl:WL) (wt:WT) (we:WE) (ix:List Nat):WE:=λρ Q=>wl ρ λds ρ1=>Qtj ds wt we ρ1 ix Q
def Qfv (X:Cx) (T:Tg) (m:Bool) (elt iter tg:Expr) (ts:List Str) (gt:TG) (scope:Scope) (ifs:List Expr) (ix:List Nat) (w:WE):Prop :=
 ∃(wi:TI) (tt:TT) (te:TE),PI X tg iter wi/\(∀cl C s₀ H₀ fp,PIfs (cxBlk X scope cl C (bN2 X.N ts ix) s₀ H₀ fp) ifs tt)/\(∀cl C s₀ H₀ fp,PE (cxBlk X scope cl C (bN2 X.N ts ix) s₀ H₀ fp) elt te) /\
  ∀(z:Nat->V) (R:Addr->Prop) (σ:St) (H:Hp) (W:Addr->Prop) (ρ:Env) (Q:D->Env->Prop) (Q':VK),SR X.K T z R H W σ ρ->w ρ Q ->
   (∀v H' W' d ρ' F,Post X.K T z R m true H W σ ρ H' W' ρ' d v F->Q d ρ'->Q' v H')->Qij ts wi gt tt te ix σ H Q'
def g2 (K:PySem.W.Frag):TG:=gTup K 2 (Qa2 (V1 0) (Qa2 (V1 1) gNil))
theorem Qni (ix:List Nat) (hi:IV X T m pr (.Tuple [.Name x px,.Name y py] kt pt) iter wl)
  (ht:∀cl C s₀ H₀ fp,CV (cxBlk X scope cl C (bN2 X.N [x,y] ix) s₀ H₀ fp) ifs wt) (he:∀cl C s₀ H₀ fp,EV (cxBlk X scope cl C (bN2 X.N [x,y] ix) s₀ H₀ fp) TR false true elt we) :
  Qfv X T m elt iter (.Tuple [.Name x px,.Name y py] kt pt) [x,y] (g2 X.K) scope ifs ix (Qh9 wl wt we ix):=by
 obtain ⟨wi,pi,gi⟩:=hi
 refine ⟨wi,λσ H Q=>∀cl C s₀ H₀ fp,Classical.choose (ht cl C s₀ H₀ fp) σ H Q,λσ H Q=>∀cl C s₀ H₀ fp,Classical.choose (he cl C s₀ H₀ fp) σ H Q,pi,
  λcl C s₀ H₀ fp pins s σ H Q I h=>(Classical.choose_spec (ht cl C s₀ H₀ fp)).1 pins s σ H Q I (h cl C s₀ H₀ fp),λcl C s₀ H₀ fp pins s σ H Q I h=>(Classical.choose_spec (he cl C s₀ H₀ fp)).1 pins s σ H Q I (h cl C s₀ H₀ fp),?_⟩
 intro z R σ H W ρ Q Q' s hw k
 refine gi z R σ H W ρ _ _ s hw λJ H1 W1 ds ρ1 p jd q=>?_
 obtain ⟨I,h0,hI,hd⟩:=q
 refine ⟨λi n ys H2=>n=ds.length-i/\i<=ds.length/\Same H1 H2/\∃es F,Reps X.K H2 es ys F/\F.Nodup/\(∀a∈F,H1 a=none)/\I i es,ds.length,⟨by simp,Nat.zero_le _,Same.refl _,[],[],.nil,List.nodup_nil,(λa m=>(nomatch m)),h0⟩,?_⟩
 rintro i n ys H2 ⟨rfl,hi,sm,es,F,re,nd,nw,i2⟩
 obtain ⟨j1,j2⟩:=jd i H2 (wz pr W1) (FrW.same _ sm)
 by_cases hlt:i<ds.length
 ·have hdi:ds[i]? = some ds[i]:=List.getElem?_eq_getElem hlt
  obtain ⟨hgo,hy⟩:=j2 _ hdi
  obtain ⟨hz,q1⟩:=hI i _ es hdi i2
  refine .inr ⟨hgo,by rw [re.length];exact hz,λv H3 yl o ol=>?_⟩
  obtain ⟨sm3,Fv,rv,_⟩:=hy v H3 yl
  generalize ds[i]=dd at q1 rv
  obtain ⟨av,v1,v2,d1,d2,F1,F2,rfl,ev,r1,r2,q1⟩:=two2_rep rv q1
  ··refine ⟨av,[v1,v2],rfl,ev,rfl,v1,[v2],rfl,v2,[],rfl,rfl,[some v1,some v2],?_,rfl,?_⟩
    ·match o,ol with
     | [o1,o2],_=>rfl
    have srB:∀z',SR X.K TR z' (Any H3) H3 (λ_=>False) (((bS2 σ o ix).set 0 (some v1)).set 1 (some v2)) (Qc1 ρ1 d1 d2 ix):=λz'=>by
     have eS:((bS2 σ o ix).set 0 (some v1)).set 1 (some v2)=bS2 σ [some v1,some v2] ix:=by
      match o,ol with
      | [o1,o2],_=>rfl
     rw [eS]
     refine SR.readonly rfl (by simp [bS2,Qc1]) λj d hj=>⟨rfl,?_⟩
     match j with
     | 0 =>
      simp only [Qc1,look,Option.some.injEq] at hj
      subst hj
      exact ⟨v1,F1,rfl,r1⟩
     | 1 =>
      simp only [Qc1,look,Option.some.injEq] at hj
      subst hj
      exact ⟨v2,F2,rfl,r2⟩
     | j+2 =>
      have hj':look (ix.map (look ρ1)) j=some d:=hj
      rw [Qco] at hj'
      cases hx:ix[j]? with
      | none=>rw [hx] at hj';cases hj'
      | some q =>
       rw [hx] at hj'
       obtain ⟨fp,s1⟩:=(p.sr.same sm).same sm3
       obtain ⟨u,hu,ru⟩:=s1.at_ q d hj'
       refine ⟨u,fp q,?_,ru⟩
       show (ix.map λi=>(σ[i]?).getD none)[j]? = some (some u)
       rw [List.getElem?_map,hx]
       simp [hu]
    intro cl C s₀ H₀ fp
    refine (Classical.choose_spec (ht cl C s₀ H₀ fp)).2 (λ_=>.non) (Any H3) _ H3 (λ_=>False) (Qc1 ρ1 d1 d2 ix) _ _ (srB _) q1 λbb H4 W4 ρ4 p4 q4=>?_
    obtain ⟨sm4,hW4,hρ4⟩:=p4.calm rfl
    have re4:=((re.same sm3).same sm4)
    cases bb with
    | false=>exact ⟨ds.length-(i+1),by omega,rfl,hlt,(sm.trans sm3).trans sm4,es,F,re4,nd,nw,q4⟩
    | true =>
     show if true=true then _ else _
     rw [if_pos rfl]
     intro cl C s₀ H₀ fp
     refine (Classical.choose_spec (he cl C s₀ H₀ fp)).2 (λ_=>.non) (Any H3) _ H4 W4 (Qc1 ρ1 d1 d2 ix) _ _ (hρ4 ▸ p4.sr) (by simpa using q4) λu H5 W5 y ρ5 Fy p5 q5=>?_
     obtain ⟨sm5,_,_⟩:=p5.calm rfl
     obtain ⟨ny,ky⟩:=p5.own rfl
     have sm15:Same H1 H5:=((sm.trans sm3).trans sm4).trans sm5
     refine ⟨ds.length-(i+1),by omega,rfl,hlt,sm15,es++[y],F++Fy,(re4.same sm5).snoc p5.rep,Qas nd ny λa ha hf=>?_,λa ha=>?_,q5⟩
     ·obtain ⟨ob,e1,_⟩:=re4.dom a hf
      rw [(ky a ha).1] at e1;cases e1
     ·rcases List.mem_append.mp ha with ha | ha
      ·exact nw a ha
      ·exact ((sm.trans sm3).trans sm4).free (ky a ha).1
 ·have e:i=ds.length:=by omega
  subst e
  obtain ⟨hz,q1⟩:=hd es i2
  refine .inl ⟨j1 (Nat.le_refl _),by rw [re.length];exact hz,λl hl=>?_⟩
  have hl1:H1 l=none:=sm.free hl
  refine k _ _ W1 (.lst es) ρ1 (l::F) ⟨(p.sr.same sm).same (Qm hl),(p.fr.trans (FrW.same W1 sm)).trans (FrW.same W1 (Qm hl)),λh=>⟨((p.calm h).1.trans sm).trans (Qm hl),(p.calm h).2⟩,.lst Qk (re.same (Qm hl)),λ_=>⟨List.nodup_cons.mpr ⟨λh=>?_,nd⟩,λb hb=>?_⟩⟩ q1
  ·obtain ⟨ob,e1,_⟩:=re.dom l h
   rw [hl] at e1;cases e1
  ·rcases List.mem_cons.mp hb with rfl | hb
   ·exact ⟨p.fr.dom _ hl1,p.sr.nw hl1⟩
   ·exact ⟨p.fr.dom _ (nw b hb),p.sr.nw (nw b hb)⟩
structure CompB2 (X:Cx) (scope:Scope) (x y:Str) (ix:List Nat):Prop where
 B1:CompB X scope x ix
 B2:CompB X scope y ix
 nd:(bN2 X.N [x,y] ix).Nodup
theorem Qkz {ix:List Nat} (sc:Scope) (N:List Str) (h:(Qee sc scope N x ix && Qee sc scope N y ix && decide (bN2 N [x,y] ix).Nodup)=true) (h1:X.env.scope=sc:=by rfl) (h2:X.N=N:=by rfl):CompB2 X scope x y ix:=by
 simp only [Bool.and_eq_true,decide_eq_true_eq] at h
 exact ⟨Jf sc N h.1.1 h1 h2,Jf sc N h.1.2 h1 h2,by rw [h2];exact h.2⟩
theorem pg2 {ix:List Nat} (B:CompB2 X scope x y ix) (hc:X.calm=true) (cl:List (Str × Addr)) (C:Addr) (s₀:Shared) (H₀:Hp) (fp:List Addr) :
  PG (cxBlk X scope cl C (bN2 X.N [x,y] ix) s₀ H₀ fp) (.Tuple [.Name x px,.Name y py] kt pt) (g2 X.K):=by
 have l1:(cxBlk X scope cl C (bN2 X.N [x,y] ix) s₀ H₀ fp).env.scope.names.lookup x=some .local:=lookup_relabel_local B.B1.B.lx
 have l2:(cxBlk X scope cl C (bN2 X.N [x,y] ix) s₀ H₀ fp).env.scope.names.lookup y=some .local:=lookup_relabel_local B.B2.B.lx
 exact Qja hc (Vp (Ua (i:=0) B.nd rfl (.inl l1) (.inr l1)) (Vp (Ua (i:=1) B.nd rfl (.inl l2) (.inr l2)) Qe4))
theorem Qm6 {ix:List Nat} (h:Qfv X T m elt iter (.Tuple [.Name x px,.Name y py] kt pt) [x,y] (g2 X.K) scope ifs ix w) (B:CompB2 X scope x y ix) (hc:X.calm=true:=by rfl)
  (hs:∀x,foldedSetIterable iter X.env x=pure x:=by intro _;rfl):EV X T m true (.ListComp elt [⟨.Tuple [.Name x px,.Name y py] kt pt,iter,ifs,0⟩] scope pos) w:=by
 obtain ⟨wi,tt,te,h1,h2,h3,h4⟩:=h
 exact ⟨_,Qmd ix hc B.B1.B B.B1.hix B.nd h1 (pg2 B hc) h2 h3 hs,h4⟩
end PV
variable {kts:List (List L2.Key × PV.D)}
namespace PV
open PySem PySem.Spec L2 PyProof.Rows
section
variable {k:Nat}
def Qf2 (g:GI) (wr:WA):WE:=λρ Q=>wr ρ λds ρ1=>match ds with
 | d0::post=>Us d0=true/\Ql post=true/\g (d0::post) λd _=>Q d ρ1
 | []=>False
theorem Qm8 (C:Cal X.prog X.w X.K X.mg X.base x k ps (spI X.K 0 g)) (hr:Room k X.A) (ha:AV X T false true (e::es) wr) (hg:Gl X x:=by rfl)
  (hdb:(x == ("__debug__" : Str))=false:=by decide) (he:starEach (e::es) X.env=(false,eval e X.env)::starEach es X.env:=by rfl) (hpl:(backTo pos (starEach es X.env)).any (·.1)=false:=by rfl) :
  EV X T false true (.Call (.Name x p) (e::es) [] pos) (Qf2 g wr):=by
 obtain ⟨f,fd,F,hm,hk,hb⟩:=C
 obtain ⟨ta,pa,ga⟩:=ha
 refine ⟨_,Qe5 F hr hg hm hk hb .nil Qjc pa hdb he hpl,λz R σ H W ρ Q Q' s hw k=>?_⟩
 refine ga z R σ H W ρ _ _ s hw λvs H1 W1 ds ρ1 F p q=>?_
 obtain ⟨sm,rfl,rfl⟩:=p.calm rfl
 obtain ⟨nd,own⟩:=p.own rfl
 have rp:=p.rep
 match ds,rp,q with
 | d0::post,rp,q =>
  obtain ⟨hf,hp,q⟩:=q
  cases rp with
  | @cons _ v0 _ vs F0 G r0 rr =>
   obtain ⟨a,rfl,hF⟩:=r0.flat1 hf
   obtain ⟨hE,rr⟩:=rr.pure hp
   subst hF hE
   refine ⟨d0::post,a,_,by rw [List.append_nil];exact .cons (G:=[]) r0 rr,rfl,q,λv H' d d' F' rd' rd nd new kp hk=>?_⟩
   have ha:H a=none:=(own a (by simp)).1
   have same:Same H H':=λb ob eb=>kp b ob (sm b ob eb) λz=>by rw [z,ha] at eb;cases eb
   refine k v H' W1 d ρ1 F' (Post.fin s (FrW.refl H W1) (λ_=>⟨Same.refl H,rfl,rfl⟩) same rd nd λb hb=>?_) hk
   cases hq:H b with
   | none=>rfl
   | some ob=>have:=sm b ob hq;rw [new b hb] at this;cases this
def Que:V->List V->Hp->VK->Prop:=λx vs H Q=>∃a b kvs k v,x=.ref a/\vs=[.ref b]/\H a=some (.dT kvs)/\H b=some (.tup (k.map kV))/\valV kvs k=some v/\Q v (upd H a (.dT (Qfl kvs k)))
theorem Qqa (hu:X.A.units+1<cLine):MtM X "dict.pop" Que:=by
 intro pins s σ H x vs v us Q I rx rv h
 obtain ⟨a,b,kvs,k,y,rfl,rfl,hH,hb,hv,q⟩:=h
 cases rx
 obtain ⟨u,rfl,ru⟩:=Vals.one rv
 cases ru
 exact Qth hu I hH hb hv λw' s' I' rw'=>⟨y,_,I',rw',q⟩
def Qm2:GM
 | .dit kvs,[.tup xs],k=>oget (Jy xs) λks=>oget (valD kvs ks) λd=>d.pure=true/\k d (.dit (Y8 kvs ks))
 | _,_,_=>False
theorem Qju (hu:X.A.units+1<cLine):MtD X "dict.pop" Qm2:=by
 refine ⟨_,Qqa hu,λH d ds v xs F G k Q r nd rs ndG dis g q=>?_⟩
 cases d with
 | dit es =>
  cases ds with
  | nil=>exact (show False from g).elim
  | cons d ds =>
   cases ds with
   | cons _ _=>cases d <;> exact (show False from g).elim
   | nil =>
    cases d with
    | tup ys =>
     obtain ⟨u,rfl,rd⟩:=rs.at1
     obtain ⟨ks,hks,g⟩:=Qu g
     obtain ⟨d,hd,hp,g⟩:=Qu g
     cases r with
     | @dit l kvs _ F e r9 =>
      cases rd with
      | @tup b us _ _ eb rb =>
       have hkv:=rb.keys hks
       rcases r9.val ks with ⟨q1,_⟩ | ⟨d',v',B,q1,q2,q3,q4⟩
       ·rw [q1] at hd;cases hd
       ·rw [q1] at hd
        cases hd
        obtain ⟨hB,q3⟩:=q3.pure hp
        obtain ⟨nl,nd⟩:=List.nodup_cons.mp nd
        obtain ⟨G',rG,sG⟩:=r9.drop (k:=ks)
        have nG:l∉G':=λh=>nl (sG.subset h)
        refine ⟨l,b,kvs,ks,v',rfl,rfl,e,by rw [← hkv];exact eb,q2,?_⟩
        refine q v' l _ d _ (l::G') List.mem_cons_self rfl (.dit Qk (rG.upd e rfl nG)) (List.nodup_cons.mpr ⟨nG,nd.sublist sG⟩) (λa ha=>?_) (q3.upd e rfl (λh=>nomatch h)) g
        rcases List.mem_cons.mp ha with rfl | ha
        ·exact .inl List.mem_cons_self
        ·exact .inl (List.mem_cons_of_mem _ (sG.subset ha))
    | _=>exact (show False from g).elim
 | _=>exact (show False from g).elim
def Qqv:GA
 | [.dit xs],k=>k (.int xs.length)
 | _,_=>False
theorem Qq0:Qer X (.builtin "len") Qqv:=by
 refine ⟨_,Qk1,λH ds xs F k Q r g q=>?_⟩
 cases ds with
 | nil=>exact (show False from g).elim
 | cons d ds =>
  cases ds with
  | cons _ _=>cases d <;> exact (show False from g).elim
  | nil =>
   cases d with
   | dit es =>
    obtain ⟨v,rfl,rd⟩:=r.at1
    clear r
    cases rd with
    | dit e r9=>exact ⟨_,_,rfl,e,by rw [r9.length];exact q _ _ _ _ (.flat (.int _)) g⟩
   | _=>exact (show False from g).elim
theorem Qs9 (ht:T.own i=false:=by rfl) (hN:X.N[i]? = some x:=by rfl) (hv:Vis X.env.scope x:=by first | exact Or.inl rfl | exact Or.inr (Or.inl rfl) | exact Or.inr (Or.inr rfl)) (hd:(x == ("__debug__" : Str))=false:=by decide)
  (hcd:(x == ("__classdict__" : Str))=false:=by decide):IV X T false true tg (.Name x p) (V0 (wVar i)):=by
 refine ⟨_,Qi8 (Va hN hv hd hcd),λz R σ H W ρ Q RR s hw k=>?_⟩
 unfold V0 wVar at hw
 cases hl:look ρ i with
 | none=>rw [hl] at hw;exact hw.elim
 | some d =>
 rw [hl] at hw
 have q:=hw
 obtain ⟨fp,s0⟩:=id s
 obtain ⟨v,h1,r0⟩:=s0.at_ i d hl
 have nW:∀b∈fp i,¬W b:=λb hb hw=>s0.wr b hw (s0.ro i d hl ht b hb)
 refine ⟨v,h1,?_⟩
 cases d with
 | tup ds =>
  obtain ⟨hp,q⟩:=q
  obtain ⟨hF,rp⟩:=r0.pure (by simpa [D.pure] using hp)
  cases rp with
  | @tup a xs _ _ e1 r =>
   refine ⟨a,rfl,.inr ⟨⟨xs,.of e1⟩,k _ H W ds ρ ⟨s,FrW.refl H W,λ_=>⟨Same.refl H,rfl,rfl⟩⟩ (λi H2 W2 f=>?_) q⟩⟩
   have e2:H2 a=some (.tup xs):=f.imm _ _ e1 rfl
   refine ⟨λhi=>⟨xs,.of e2,by rw [r.length];exact hi⟩,λd hd=>?_⟩
   obtain ⟨x,B,hx,rx,sx⟩:=r.get hd
   refine ⟨⟨xs,x,.of e2,hx⟩,λv H3 y=>?_⟩
   obtain ⟨rfl,y⟩:=y
   have:=y xs (.of e2)
   rw [hx] at this
   cases this
   exact ⟨Same.refl _,B,rx.keep f (λa ha=>(nomatch sx.subset ha)),(λa ha=>(nomatch sx.subset ha))⟩
 | lst ds =>
  generalize hfp:fp i=G at r0 nW
  cases r0 with
  | @lst a xs _ F e1 r =>
   refine ⟨a,rfl,.inl ⟨⟨xs,.of e1⟩,k _ H W ds ρ ⟨s,FrW.refl H W,λ_=>⟨Same.refl H,rfl,rfl⟩⟩ (λi H2 W2 f=>?_) q⟩⟩
   rw [Qbz] at f
   have e2:H2 a=some (.lst xs):=f.keep _ _ e1 (nW a List.mem_cons_self)
   refine ⟨λhi=>⟨xs,.of e2,by rw [r.length];exact hi⟩,λd hd=>?_⟩
   obtain ⟨x,B,hx,rx,sx⟩:=r.get hd
   refine ⟨⟨xs,x,.of e2,hx⟩,λv H3 y=>?_⟩
   obtain ⟨rfl,y⟩:=y
   have:=y xs (.of e2)
   rw [hx] at this
   cases this
   refine ⟨Same.refl _,B,rx.keep f λb hb=>nW b (List.mem_cons_of_mem _ (sx.subset hb)),λb hb hw=>?_⟩
   have hb':b∈a::F:=List.mem_cons_of_mem _ (sx.subset hb)
   rcases f.new b hw with h | h
   ·exact nW b hb' h
   ·obtain ⟨ob,e3,_⟩:=rx.dom b hb
    rw [h] at e3;cases e3
 | kc c =>
  cases c with
  | tup ks =>
   obtain ⟨-,rp⟩:=r0.pure (by rw [D.pure])
   cases rp with
   | kc h =>
    obtain ⟨a,xs,rfl,hs,ar⟩:=h.sqT
    exact ⟨a,rfl,.inr ⟨⟨xs,hs H⟩,k _ H W (ks.map kcD) ρ ⟨s,FrW.refl H W,λ_=>⟨Same.refl H,rfl,rfl⟩⟩ (Qs4 hs ar) q⟩⟩
  | _=>exact (show False from q).elim
 | _=>exact (show False from q).elim
end
section
variable {i:Int} {kk:D->D->Prop} {kvs:List (List Key × D)}
theorem sz0:(0<=sizeLine)=True:=propext ⟨λ_=>trivial,λ_=>by decide⟩
theorem sz1:(1<=sizeLine)=True:=propext ⟨λ_=>trivial,λ_=>by decide⟩
theorem sz2:(2<=sizeLine)=True:=propext ⟨λ_=>trivial,λ_=>by decide⟩
theorem sz3:(3<=sizeLine)=True:=propext ⟨λ_=>trivial,λ_=>by decide⟩
theorem sz4:(4<=sizeLine)=True:=propext ⟨λ_=>trivial,λ_=>by decide⟩
theorem Qi2:Qqv [.dit kts] k=k (.int kts.length):=rfl
theorem Qry {n:Bool}:dIn n (.int i) (.tup xs) k=oget (inD (.int i) xs) λb=>k (.bl (xor n b)):=rfl
theorem Qpc:Qm2 (.dit kvs) [.tup xs] kk=oget (Jy xs) λks=>oget (valD kvs ks) λd=>d.pure=true/\kk d (.dit (Y8 kvs ks)):=rfl
def cfOf (g:GI) (ds:List D) (Q:D->Prop):Prop:=match ds with
 | d0::post=>Us d0=true/\Ql post=true/\g (d0::post) λd _=>Q d
 | []=>False
theorem Qly:Qf2 g wr ρ Q=wr ρ λds ρ1=>cfOf g ds λd=>Q d ρ1:=by
 unfold Qf2 cfOf
 rfl
theorem Qui {d0:D} {post:List D} {Q:D->Prop}:cfOf g (d0::post) Q=(Us d0=true/\Ql post=true/\g (d0::post) λd _=>Q d):=rfl
end
end PV
namespace PV
open PySem PySem.Spec L2
open PyProof.Rows (envOfC)
def Qop (sc scope:Scope) (N:List Str) (x:Str) (ix:List Nat):Bool :=
 (scope.kind == .function) && (scope.names.filter (λy=>y.2 == .cell) == [(x,.cell)]) && scope.names.all (λy=>y.2 != .local || scope.names.lookup y.1 == some .local) && (scope.names.lookup x == some .cell) &&
  scope.names.all (λy=>y.2 != .free || (sc.names.lookup y.1 == some .cell || sc.names.lookup y.1 == some .free)) &&
  ix.all (λi=>match N[i]? with | some y=>scope.names.lookup y == some .free | none=>false) && decide (bN N x ix).Nodup && scope.names.all (λy=>y.2 != .free || y.1 != x)
structure CompBC (X:Cx) (scope:Scope) (x:Str) (ix:List Nat):Prop where
 B:BlkScopeC X.env scope x
 hix:∀i∈ix,∃y,X.N[i]? = some y/\scope.names.lookup y=some .free
 hN:(bN X.N x ix).Nodup
theorem Qkx {ix:List Nat} (sc:Scope) (N:List Str) (h:Qop sc scope N x ix=true) (h1:X.env.scope=sc:=by rfl) (h2:X.N=N:=by rfl):CompBC X scope x ix:=by
 subst h1 h2
 simp only [Qop,Bool.and_eq_true,List.all_eq_true,Bool.or_eq_true,decide_eq_true_eq,beq_iff_eq,bne_iff_ne] at h
 obtain ⟨⟨⟨⟨⟨⟨⟨a1,a2⟩,a3⟩,a4⟩,a5⟩,a6⟩,a7⟩,a8⟩:=h
 obtain ⟨o1,o2⟩:=Qoc a2
 refine ⟨⟨a1,o1,o2,λy hy e=>?_,λy hy e=>(a8 y hy).resolve_left (λz=>z e),λy hy e=>(a3 y hy).resolve_left (λz=>z e),a4,λy hy e=>(a5 y hy).resolve_left (λz=>z e)⟩,λi hi=>?_,a7⟩
 ·have:y∈scope.names.filter (λy=>y.2 == .cell):=List.mem_filter.mpr ⟨hy,by simpa using e⟩
  rw [a2] at this
  rw [List.mem_singleton.mp this]
 have:=a6 i hi
 cases q:X.N[i]? with
 | none=>rw [q] at this;cases this
 | some y =>
  rw [q] at this
  exact ⟨y,rfl,by simpa using this⟩
theorem Qlk {ix:List Nat} (h:Qg7 X T m elt iter x px scope ifs ix w) (B:CompBC X scope x ix) (hNd:X.N.Nodup)
  (hj:X.N[j]? = some y:=by rfl) (hy:Loc X.env.scope y:=by first | exact Or.inl rfl | exact Or.inr rfl) (hio:j∉T.io:=by decide)
  (hsw:swapsWith (.ListComp elt [⟨.Name x px,iter,ifs,0⟩] scope pos) (some (.Name y py)) spos.line X.env=pure true:=by rfl)
  (hf:X.fn y=true\/X.env.scope.names.lookup y=some .local:=by first | exact .inl rfl | exact .inr rfl | assumption) (hc:X.calm=true:=by rfl)
  (hs:∀x,foldedSetIterable iter X.env x=pure x:=by intro _;rfl):SV X T (.Assign [.Name y py] (.ListComp elt [⟨.Name x px,iter,ifs,0⟩] scope pos) spos) (wSet j w):=by
 obtain ⟨wi,tt,te,h1,h2,h3,h4⟩:=h
 exact Qik ⟨_,Ql2 ix hc B.B hNd hj hy hsw B.hix B.hN h1 h2 h3 hf hs,h4⟩ hio
end PV
variable {b c:Bool} {P:List (Int × List Nat)} {j r:Int} {Q:List PV.D->PV.Env->Prop} {s:Nat} {k:List PV.D->Prop} {ys:List PV.D}
namespace PV
open PySem PySem.Spec L2
section
variable {b:Expr}
theorem RepT.get {K:PySem.W.Frag} {H:Hp}:∀{ds:List (List Key × D)} {xs:List (List Key × V)} {F:List Addr} {i:Nat} {k:List Key} {v:V},RepT K H ds xs F->xs[i]? = some (k,v)->∃d B,ds[i]? = some (k,d)/\Rep K H d v B/\B.Sublist F
 | [],_,_,_,_,_,r,h=>by cases r;simp at h
 | d::ds,_,_,i,_,_,r,h=>by
  cases r with
  | @cons j d v _ vs F G p r =>
   cases i with
   | zero =>
    simp at h
    obtain ⟨rfl,rfl⟩:=h
    exact ⟨d,F,rfl,p,List.sublist_append_left _ _⟩
   | succ i =>
    obtain ⟨d',B,h1,h2,h3⟩:=RepT.get r (i:=i) (by simpa using h)
    exact ⟨d',B,by simpa using h1,h2,h3.trans (List.sublist_append_right _ _)⟩
def Xo (kvs:List (List Key × D)):List D:=kvs.map λkv=>.tup (kv.1.map kD)
theorem Qix {K:PySem.W.Frag} {H:Hp}:∀{ks:List Key},Reps K H (ks.map kD) (ks.map kV) []
 | []=>.nil
 | k::ks=>.cons (F:=[]) (G:=[]) (Qn2 k) Qix
theorem Qo8 {b:Addr} (h:H b=some (.tup (ks.map kV))):Rep K H (.tup (ks.map kD)) (.ref b) []:=.tup h Qix
theorem SR0.freezeT {W:Addr->Prop} {ds:List (List Key × D)} {a:Addr} {ob:Obj} (h:SR0 K T z R H W σ ρ fp)
  (hl:look ρ s=some (.dit ds)) (ht:T.own s=true) (hv:σ[s]? = some (some (.ref a))) (e:H a=some (.dT kvs)) (r:RepT K H ds kvs F) (hF:fp s=a::F) :
  SR K T z R (upd H a (.frz ob (.dT kvs))) (λb=>W b/\b≠a) σ (ρ.set s (some (.fdt ds))):=by
 obtain ⟨nd,sw⟩:=h.own s _ hl ht
 rw [hF] at nd sw
 obtain ⟨na,ndF⟩:=List.nodup_cons.mp nd
 have hWa:=sw a List.mem_cons_self
 have hRa:¬R a:=h.wr a hWa
 have hi:ImmK H (upd H a (.frz ob (.dT kvs))):=U1 e rfl
 have notin:∀j d,look ρ j=some d->j≠s->a∉fp j:=λj d hj hne ha=>by
  cases hto:T.own j with
  | true=>exact h.dis s j _ d hl hj ht hto (λz=>hne z.symm) a (by rw [hF];exact List.mem_cons_self) ha
  | false=>exact hRa (h.ro j d hj hto a ha)
 refine ⟨λj=>if j=s then F else fp j,?_,?_,?_,?_,?_,?_,?_,?_,h.fix⟩
 ·rw [List.length_set];exact h.len
 ·rintro b ⟨hb,hne⟩
  rw [Qq hne];exact h.wd b hb
 ·intro j d hj
  by_cases hjs:j=s
  ·subst hjs
   rw [Vs (Qav hl)] at hj
   cases hj
   exact ⟨_,hv,by rw [if_pos rfl];exact .fdt Qk (r.upd e rfl na)⟩
  ·rw [Qz hjs] at hj
   obtain ⟨u,h1,h2⟩:=h.at_ j d hj
   refine ⟨u,h1,?_⟩
   rw [if_neg hjs]
   exact h2.frame hi λb hb=>Qq λz=>notin j d hj hjs (z ▸ hb)
 ·intro j d hj hto
  by_cases hjs:j=s
  ·subst hjs
   simp only [if_pos]
   exact ⟨ndF,λb hb=>⟨sw b (List.mem_cons_of_mem _ hb),λz=>na (z ▸ hb)⟩⟩
  ·rw [Qz hjs] at hj
   simp only [if_neg hjs]
   exact ⟨(h.own j d hj hto).1,λb hb=>⟨(h.own j d hj hto).2 b hb,λz=>notin j d hj hjs (z ▸ hb)⟩⟩
 ·intro j d hj hto
  have hjs:j≠s:=λz=>by subst z;rw [ht] at hto;cases hto
  rw [Qz hjs] at hj
  simp only [if_neg hjs]
  exact h.ro j d hj hto
 ·exact λb hb hr=>h.wr b hb.1 hr
 ·intro b hr
  rw [Qq (show b≠a from λz=>hRa (z ▸ hr))];exact h.rd b hr
 ·intro j k d d' hj hk tj tk hne b hb hb'
  by_cases hjs:j=s
  ·subst hjs
   have hkj:k≠j:=λz=>hne z.symm
   rw [Qz hkj] at hk
   simp only [if_pos,if_neg hkj] at hb hb'
   exact h.dis j k _ d' hl hk ht tk hne b (by rw [hF];exact List.mem_cons_of_mem _ hb) hb'
  ·rw [Qz hjs] at hj
   simp only [if_neg hjs] at hb
   by_cases hks:k=s
   ·subst hks
    simp only [if_pos] at hb'
    exact h.dis j k d _ hj hl tj ht hne b hb (by rw [hF];exact List.mem_cons_of_mem _ hb')
   ·rw [Qz hks] at hk
    simp only [if_neg hks] at hb'
    exact h.dis j k d d' hj hk tj tk hne b hb hb'
def Qtg (d:D) (k:List (List Key × D)->Prop):Prop:=match d with
 | .dit kvs=>k kvs
 | _=>False
theorem Qpe {kvs:List (List Key × D)} {k:List (List Key × D)->Prop}:Qtg (.dit kvs) k=k kvs:=rfl
def Qet (s:Nat):WL:=λρ Q=>oget (look ρ s) λc=>Qtg c λkvs=>Q (Xo kvs) (ρ.set s (some (.fdt kvs)))
theorem Qj4 (ht:T.own s=true:=by rfl) (hN:X.N[s]? = some x:=by rfl) (hv:Vis X.env.scope x:=by first | exact Or.inl rfl | exact Or.inr (Or.inl rfl) | exact Or.inr (Or.inr rfl)) (hd:(x == ("__debug__" : Str))=false:=by decide)
  (hcd:(x == ("__classdict__" : Str))=false:=by decide):IV X T true true tg (.Name x p) (Qet s):=by
 refine ⟨_,Ql7 (Va hN hv hd hcd),λz R σ H W ρ Q RR sr hw k=>?_⟩
 obtain ⟨c,hl,hw⟩:=Qu hw
 obtain ⟨ds,rfl⟩:∃ds,c=D.dit ds:=by
  clear hl
  cases c with
  | dit ds=>exact ⟨ds,rfl⟩
  | _=>exact (show False from hw).elim
 obtain ⟨fp,s0⟩:=id sr
 obtain ⟨v,hv0,r0⟩:=s0.at_ s _ hl
 obtain ⟨a,kvs,F,rfl,e,r,hF⟩:∃(a:Addr) (kvs:List (List Key × V)) (F:List Addr),v=.ref a/\H a=some (.dT kvs)/\RepT X.K H ds kvs F/\fp s=a::F:=by
  generalize fp s=Fi at r0
  cases r0 with
  | @dit a kv _ F e1 r=>exact ⟨a,kv,F,rfl,e1,r,rfl⟩
 have hWa:W a:=(s0.own s _ hl ht).2 a (by rw [hF];exact List.mem_cons_self)
 refine ⟨_,hv0,a,kvs,rfl,e,λob=>k _ _ (λb=>W b/\b≠a) (Xo ds) _ ⟨s0.freezeT hl ht hv0 e r hF,⟨λb u eb nb=>?_,λb eb=>?_,U1 e rfl,λb hb=>.inl hb.1⟩,λh=>nomatch h⟩ ?_ hw⟩
 ·rw [Qq (show b≠a from λz=>nb (z ▸ hWa))];exact eb
 ·by_cases hb:b=a
  ·rw [hb,Qk] at eb;cases eb
  ·rw [Qq hb] at eb;exact eb
 ·rw [Qbz]
  intro i H2 W2 f
  have e2:H2 a=some (.frz ob (.dT kvs)):=f.imm _ _ Qk rfl
  have hlen:kvs.length=ds.length:=r.length
  refine ⟨λhi=>⟨e2,by rw [Xo,List.length_map] at hi;omega⟩,λd hd=>?_⟩
  have hi:i<ds.length:=by have:=(List.getElem?_eq_some_iff.mp hd).1;rwa [Xo,List.length_map] at this
  refine ⟨⟨e2,by omega⟩,λv H3 y=>?_⟩
  obtain ⟨rfl,kk,vv,bb,hk,rfl,hbb⟩:=y
  obtain ⟨d',B,h1,h2,h3⟩:=r.get hk
  rw [Xo,List.getElem?_map,h1] at hd
  cases hd
  exact ⟨Same.refl _,[],Qo8 hbb,λa ha=>nomatch ha⟩
def dIxT:G2
 | .fdt kvs,.tup l,k=>oget (Jy l) λks=>oget (valD kvs ks) k
 | _,_,_=>False
theorem Qrc (hu:X.A.units+1<cLine):IxD X dIxT:=by
 refine ⟨_,Qj3 hu,λH a b x y F1 F2 k Q ra rb g q=>?_⟩
 (cases ra <;> first | exact (show False from g).elim | skip) <;> (cases rb <;> first | exact (show False from g).elim | skip)
 rename_i a ob kvs ds e r b xs es e2 r2
 obtain ⟨ks,hk,g⟩:=Qu g
 obtain ⟨d,h,g⟩:=Qu g
 have hx:=r2.keys hk
 subst hx
 rcases r.val ks with ⟨z,_⟩ | ⟨d',v,B,h1,h2,h3,h4⟩
 ·rw [h] at z;cases z
 ·rw [h] at h1;cases h1
  exact ⟨a,v,rfl,.inr ⟨kvs,ks,b,.inr ⟨ob,e⟩,rfl,e2,h2.symm⟩,q _ _ _ h3 h4 g⟩
end
theorem Vl {α:Type} (xs:List α) (j:Nat):L2.atI xs (j:Int)=xs[j]?:=by
 unfold L2.atI ixN
 rw [if_pos (by omega)]
 by_cases h:j<xs.length
 ·rw [if_pos (by omega)];simp
 ·rw [if_neg (by omega)];simp;omega
theorem Y1 {α:Type} (xs:List α):L2.atI xs 0=xs[0]?:=Vl xs 0
theorem Y0 {α:Type} (xs:List α):L2.atI xs 1=xs[1]?:=Vl xs 1
theorem Zo {α:Type} (xs:List α):L2.atI xs 2=xs[2]?:=Vl xs 2
theorem Qd6 {j:Nat} (h:j<n):ixN n (j:Int)=some j:=by
 unfold ixN
 rw [if_pos (by omega),if_pos (by omega)];simp
theorem Quz (h:0<n):ixN n 0=some 0:=Qd6 h
theorem Quy (h:1<n):ixN n 1=some 1:=Qd6 h
theorem Qh {α:Type} {d:α} {k:α->Prop}:oget (some d) k=k d:=rfl
theorem Qw {Q:D->Env->Prop}:wVar i ρ Q=oget (look ρ i) λd=>Q d ρ:=by
 unfold wVar oget
 cases look ρ i <;> rfl
section
variable {i:Int} {k:D->Prop} {kvs:List (Key × D)}
theorem Qlw:dSub (.int i) (.int j) k=k (.int (i-j)):=rfl
theorem Qrw:dMul (.int i) (.int j) k=(CMul i j/\k (.int (i*j))):=rfl
theorem Qub:dDiv (.int i) (.int j) k=((0<j/\j<1073741824/\k (.int (i / j)))\/(j<0/\j.natAbs<1073741824/\k (.int (i.fdiv j)))):=rfl
theorem Qt9:dMod (.int i) (.int j) k=((0<j/\k (.int (i % j)))\/(j<0/\k (.int (i.fmod j)))):=rfl
theorem Qt7:dPow (.int i) (.int j) k=(CPow i j/\k (.int (i ^ j.toNat))):=rfl
theorem Qac:dNeg (.int i) k=k (.int (-i)):=rfl
theorem Xq:dEq (.int i) (.int j) k=k (.bl (decide (i=j))):=rfl
theorem G1:dEq (.str x) (.str y) k=k (.bl (decide (x=y))):=rfl
theorem Qua:dEq (.tup xs) d k=(eqOk 9 (.tup xs)=true/\eqOk 9 d=true/\(.tup xs=d->k (.bl true))/\(.tup xs≠d->k (.bl false))):=by cases d <;> rfl
theorem Qt8:dNe (.tup xs) d k=(eqOk 9 (.tup xs)=true/\eqOk 9 d=true/\(.tup xs=d->k (.bl false))/\(.tup xs≠d->k (.bl true))):=by cases d <;> rfl
theorem Qi0:dCmp f (.int i) (.int j) k=k (.bl (f i j)):=rfl
theorem Qhj:dIx (.lst xs) (.int i) k=oget (L2.atI xs i) k:=rfl
theorem Zd:dIx (.tup xs) (.int i) k=oget (L2.atI xs i) k:=rfl
theorem Qn6:dIx (.dik kvs) (.int i) k=oget (valD kvs (.inl i)) k:=rfl
theorem Qae:dIx (.dik kvs) (.str x) k=oget (valD kvs (.inr x)) k:=rfl
theorem Qgh:dIx (.dit kts) (.tup xs) k=oget (Jy xs) λks=>oget (valD kts ks) k:=rfl
theorem Qad:dLen [.tup xs] k=k (.int xs.length):=rfl
theorem Qn5:dLen [.dik kvs] k=k (.int kvs.length):=rfl
theorem Qaf:dInt [.bl b] k=k (.int (if b then 1 else 0)):=rfl
theorem Qpa:Qqu [.tup xs] k=(Ql xs=true/\k (.lst xs)):=rfl
theorem Vy:Zy [.lst xs] k=(Ql xs=true/\k (.tup xs)):=rfl
theorem Qpb {t:Ty}:dIsi [d,.ty t] k=oget (isiD d t) λb=>k (.bl b):=rfl
theorem Qrt:dSet (.lst xs) (.int i) d k=oget (ixN xs.length i) λn=>k (.lst (xs.set n d)):=rfl
theorem Qiz:dSet (.dik kvs) (.int i) d k=(kvs.length<sizeLine/\k (.dik (putD kvs (.inl i) d))):=rfl
theorem Qab:dSet (.dit kts) (.tup xs) d k=(kts.length<sizeLine/\oget (Jy xs) λks=>k (.dit (putD kts ks d))):=rfl
theorem Qrx {n:Bool}:dIn n (.int i) (.dik kvs) k=k (.bl (xor n (valD kvs (.inl i)).isSome)):=rfl
theorem Qn7 {n:Bool}:dIn n (.tup xs) (.dit kts) k=oget (Jy xs) λks=>k (.bl (xor n (valD kts ks).isSome)):=rfl
end
section
variable {i:Int} {k:D->Prop}
theorem Qgj (h:0<j) (h2:j<1073741824):dDiv (.int i) (.int j) k=k (.int (i / j)):=by
 rw [Qub]
 apply propext
 exact ⟨λq=>q.elim (λz=>z.2.2) (λz=>absurd z.1 (by omega)),λq=>.inl ⟨h,h2,q⟩⟩
theorem Qgg (h:0<j):dMod (.int i) (.int j) k=k (.int (i % j)):=by
 rw [Qt9]
 apply propext
 exact ⟨λq=>q.elim (λz=>z.2) (λz=>absurd z.1 (by omega)),λq=>.inl ⟨h,q⟩⟩
theorem Qn4 (h:-18446744073709551616<i) (h2:i<18446744073709551616):dMul (.int i) (.int j) k=k (.int (i*j)):=by
 rw [Qrw]
 exact propext ⟨λq=>q.2,λq=>⟨.inl ⟨by omega,by omega⟩,q⟩⟩
theorem Qrv (h:-18446744073709551616<j) (h2:j<18446744073709551616):dMul (.int i) (.int j) k=k (.int (i*j)):=by
 rw [Qrw]
 exact propext ⟨λq=>q.2,λq=>⟨.inr ⟨by omega,by omega⟩,q⟩⟩
theorem Qru (h:0<=j) (h2:j<=1000000) (h3:-18446744073709551616<i) (h4:i<18446744073709551616):dPow (.int i) (.int j) k=k (.int (i ^ j.toNat)):=by
 rw [Qt7]
 exact propext ⟨λq=>q.2,λq=>⟨⟨h,h2,by omega⟩,q⟩⟩
end
def blOf (d:D) (k:Bool->Prop):Prop:=match d with
 | .bl b=>k b
 | _=>False
theorem r_bl {Q:Bool->Env->Prop}:wBl w ρ Q=w ρ λd ρ'=>blOf d λb=>Q b ρ':=by
 show (w ρ λd ρ'=>match d with | .bl b=>Q b ρ' | _=>False)=_
 rfl
theorem Jn {k:Bool->Prop}:blOf (.bl b) k=k b:=rfl
def Qow (d:D) (k:Bool->Prop):Prop:=oget (truD d) k
theorem Qlv {Q:Bool->Env->Prop}:wTru w ρ Q=w ρ λd ρ'=>Qow d λb=>Q b ρ':=by
 unfold wTru
 congr 1
 funext d ρ'
 unfold Qow oget
 cases truD d <;> rfl
theorem Qgf {k:Bool->Prop}:Qow (.bl b) k=k b:=rfl
def Qo5 (d:D) (k:List D->Prop):Prop:=match d with
 | .tup ds=>Ql ds=true/\k ds
 | .lst ds=>k ds
 | .kc (.tup ks)=>k (ks.map kcD)
 | _=>False
theorem Gg:V0 w ρ Q=w ρ λd ρ'=>Qo5 d λds=>Q ds ρ':=by
 show (w ρ λd ρ'=>match d with | .tup ds=>Ql ds=true/\Q ds ρ' | .lst ds=>Q ds ρ' | .kc (.tup ks)=>Q (ks.map kcD) ρ' | _=>False)=_
 rfl
theorem Xi:Qo5 (.tup xs) k=(Ql xs=true/\k xs):=rfl
theorem Qbq:Qo5 (.lst xs) k=k xs:=rfl
def Qta (d:D) (k:Option Int->Prop):Prop:=match d with
 | .int i=>k (some i)
 | _=>False
theorem Qiy {Q:Option Int->Env->Prop}:Qes w ρ Q=w ρ λd ρ'=>Qta d λi=>Q i ρ':=by
 show (w ρ λd ρ'=>match d with | .int i=>Q (some i) ρ' | _=>False)=_
 rfl
theorem Qe2 {i:Int} {k:Option Int->Prop}:Qta (.int i) k=k (some i):=rfl
def Qn0 (ds:List D) (k:List D->Prop):Prop:=match ds with
 | [.int j]=>-(2 ^ 62)<=j/\j<2 ^ 62/\k (rngD 0 j.toNat)
 | _=>False
theorem Xj:Qbd wr ρ Q=wr ρ λds ρ'=>Qn0 ds λl=>Q l ρ':=by
 show (wr ρ λds ρ'=>match ds with | [.int j]=>-(2 ^ 62)<=j/\j<2 ^ 62/\Q (rngD 0 j.toNat) ρ' | _=>False)=_
 rfl
theorem V8:Qn0 [.int j] k=(-(2 ^ 62)<=j/\j<2 ^ 62/\k (rngD 0 j.toNat)):=rfl
def Qon (ds:List D) (k:List D->Prop):Prop:=match ds with
 | [.tup es]=>Ql es=true/\k (Ue 0 es)
 | _=>False
theorem Qgi:Qg9 wr ρ Q=wr ρ λds ρ'=>Qon ds λl=>Q l ρ':=by
 show (wr ρ λds ρ'=>match ds with | [.tup es]=>Ql es=true/\Q (Ue 0 es) ρ' | _=>False)=_
 rfl
theorem Qcb:Qon [.tup xs] k=(Ql xs=true/\k (Ue 0 xs)):=rfl
theorem Qdo {Q:Env->Prop}:Qhx n wgs (.tup xs) ρ Q=(xs.length=n/\wgs xs ρ Q):=rfl
theorem Qag {r:List D} {Q:Env->Prop}:Uw wg wgs (d::r) ρ Q=wg d ρ λρ'=>wgs r ρ' Q:=rfl
theorem Qdp {Q:Env->Prop}:Qhy [] ρ Q=Q ρ:=rfl
theorem Qt6 {xs:List (List Key × D)}:tyD (some (.dit xs)) t=(t == "dict"):=rfl
theorem Qdq:Us (.lst xs)=Ql xs:=rfl
theorem Qlx {xs:List (List Key × D)}:Us (.dit xs)=xs.all λkv=>kv.2.pure:=rfl
theorem Qi {α:Type} {f:α->D} {l:List α} (h:∀a∈l,(f a).pure=true):Ql (l.map f)=true:=by
 rw [Zm]
 intro x hx
 obtain ⟨a,ha,rfl⟩:=List.mem_map.mp hx
 exact h a ha
theorem Qa3 {α:Type} {f:α->D} {l:List α} (h:∀a∈l,eqOk n (f a)=true):U4 n (l.map f)=true:=by
 rw [Qkj]
 intro x hx
 obtain ⟨a,ha,rfl⟩:=List.mem_map.mp hx
 exact h a ha
def Qtk (ds:List D) (wt:WT) (we:WE) (ρ1:Env) (ix:List Nat) (Q:D->Env->Prop):Prop:=∃I:Nat->List D->Prop,I 0 [] /\
 (∀i d ys,ds[i]? = some d->I i ys->ys.length<sizeLine/\wt (blkE ρ1 d ix) λb _=>if b=true then we (blkE ρ1 d ix) (λy _=>I (i+1) (ys++[y])) else I (i+1) ys) /\
 ∀ys,I ds.length ys->ys.length<=sizeLine/\Q (.lst ys) ρ1
theorem Vz {ix:List Nat} {Q:D->Env->Prop}:Ux wl wt we ix ρ Q=wl ρ λds ρ1=>Qtk ds wt we ρ1 ix Q:=rfl
theorem Jo {ix:List Nat} {Q:D->Env->Prop} (f:D->D) (hz:ds.length<sizeLine) (he:∀d∈ds,∀Q':D->Env->Prop,Q' (f d) (blkE ρ1 d ix)->we (blkE ρ1 d ix) Q') (hQ:Q (.lst (ds.map f)) ρ1):Qtk ds wAll we ρ1 ix Q:=by
 refine ⟨λi ys=>ys=(ds.take i).map f/\i<=ds.length,⟨by simp,Nat.zero_le _⟩,λi d ys hd ⟨hy,hi⟩=>?_,λys ⟨hy,_⟩=>?_⟩
 ·have hlt:=(List.getElem?_eq_some_iff.mp hd).1
  refine ⟨by rw [hy];simp;omega,?_⟩
  simp only [wAll,reduceIte]
  refine he d (List.mem_of_getElem? hd) _ ⟨?_,hlt⟩
  rw [hy,List.take_add_one,hd]
  simp
 ·rw [hy,List.take_length]
  exact ⟨by simp;omega,hQ⟩
def forI (ds:List D) (wg:WG) (wb:WS) (P:EndsP) (ρ1:Env):Prop:=∃I:Nat->Env->Prop,I 0 ρ1 /\
 (∀i d ρ,ds[i]? = some d->I i ρ->wg d ρ λρ'=>wb { P with nx:=I (i+1),ct:=I (i+1),bk:=P.nx } ρ')/\∀ρ,I ds.length ρ->P.nx ρ
theorem Gh {wb:WS} {P:EndsP}:wFor wl wg wb P ρ=wl ρ λds ρ1=>Ql ds=true/\forI ds wg wb P ρ1:=rfl
end PV
namespace PV
open PySem PySem.Spec L2
open PyProof.Rows (envOfC)
abbrev atN (K:PySem.W.Frag) (x:Str) (C:Addr):Prop:=PySem.W.nsIn K mainGlobals x=some (some (.ref C))
end PV
variable {a lo:Int} {b e m:Nat} {s:Nat->PV.D} {k:PV.D->Prop} {kvs:List (L2.Key × PV.D)} {l:List Nat}
namespace PV
open PySem PySem.Spec L2
section
variable {i:Int}
theorem V9:Yq (.int i) (.int j) k=k (.int (i+j)):=rfl
theorem Qcc:Yq (.tup xs) (.tup ys) k=(Ql xs=true/\Ql ys=true/\xs.length+ys.length<=sizeLine/\k (.tup (xs++ys))):=rfl
theorem G4:Yq (.lst xs) (.lst ys) k=(Ql xs=true/\Ql ys=true/\xs.length+ys.length<=sizeLine/\k (.lst (xs++ys))):=rfl
theorem Qr0 {lo:Option Int}:dSlT (.kls xs) lo hi k=(Ql xs=true/\k (.lst (cutD xs lo hi))):=rfl
theorem Qn8 {lo:Option Int}:dSlT (.tup xs) lo hi k=(Ql xs=true/\k (.tup (cutD xs lo hi))):=rfl
end
def Qjz (d:D) (k:List D->Prop):Prop:=Qu7 d λkvs=>k (Qbh kvs)
theorem Qpd:Qos w ρ Q=w ρ λd ρ'=>Qjz d λds=>Q ds ρ':=by
 show (w ρ λd ρ'=>match d with | .dik kvs=>Q (Qbh kvs) ρ' | _=>False)=_
 first | rfl | (congr 1;funext d ρ';cases d <;> rfl)
theorem Qlz {k:List D->Prop}:Qjz (.dik kvs) k=k (Qbh kvs):=rfl
section
variable {e:D}
theorem Qrz {k:D->D->Prop}:two2 (.tup [d,e]) k=k d e:=rfl
end
theorem Qul {a b c:D} (h0:0<=r) (h1:r<4):L2.atI [a,b,c,d] r=some a\/L2.atI [a,b,c,d] r=some b\/L2.atI [a,b,c,d] r=some c\/L2.atI [a,b,c,d] r=some d:=by
 have:r=0\/r=1\/r=2\/r=3:=by omega
 rcases this with rfl | rfl | rfl | rfl
 ·exact .inl rfl
 ·exact .inr (.inl rfl)
 ·exact .inr (.inr (.inl rfl))
 ·exact .inr (.inr (.inr rfl))
theorem Gn (h:d∈rngD lo n):∃i:Nat,i<n/\d=.int (lo+(i:Int)):=by
 obtain ⟨i,hi,rfl⟩:=List.mem_map.mp h
 exact ⟨i,List.mem_range.mp hi,rfl⟩
theorem Jr:(rngD lo n).length=n:=by simp [rngD]
theorem Qca (h:(rngD lo n)[i]? = some d):i<n/\d=.int (lo+(i:Int)):=by
 have hi:i<n:=by have:=(List.getElem?_eq_some_iff.mp h).1;rwa [Jr] at this
 simp only [rngD,List.getElem?_map,List.getElem?_range hi,Option.map_some,Option.some.injEq] at h
 exact ⟨hi,h.symm⟩
theorem Qah:Ql (rngD lo n)=true:=Qi λ_ _=>rfl
theorem Zl:Ql (ns.map D.int)=true:=Qi λ_ _=>rfl
theorem Qng {a:Nat} (h:a<=ds.length):cutD ds (some (a:Int)) none=ds.drop a:=by
 unfold cutD
 rw [HT.Qiv,HT.Qgd,Nat.min_eq_left h,List.take_of_length_le (by simp)]
theorem Qoo:cutD ds none (some (b:Int))=ds.take b:=by
 unfold cutD
 rw [HT.Qiv,HT.Qgd,List.drop_zero,Nat.sub_zero]
 by_cases h:b<=ds.length
 ·rw [Nat.min_eq_left h]
 ·rw [Nat.min_eq_right (by omega),List.take_of_length_le (by omega),List.take_of_length_le (by omega)]
def rowD (c n:Int):D:=.lst [.int c,.int n]
def webD (m e:Nat) (A:Nat->Int) (r:Int):D:=.tup [.tup ((List.range m).map λk=>.tup ((List.range 4).map λj=>.int (A (4*k+j)))),.tup ((List.range e).map λj=>.int (A (4*m+j))),.int r]
theorem len1 {α:Type}:∀{us:List α},us.length=1->∃a,us=[a]
 | [a],_=>⟨a,rfl⟩
theorem len2 {α:Type} {us:List α} (h:us.length=2):∃a b,us=[a,b]:=by
 cases us with
 | nil=>cases h
 | cons a us=>obtain ⟨b,rfl⟩:=len1 (Nat.succ.inj h);exact ⟨a,b,rfl⟩
theorem len3 {α:Type} {us:List α} (h:us.length=3):∃a b c,us=[a,b,c]:=by
 cases us with
 | nil=>cases h
 | cons a us=>obtain ⟨b,c,rfl⟩:=len2 (Nat.succ.inj h);exact ⟨a,b,c,rfl⟩
theorem len4 {α:Type} {us:List α} (h:us.length=4):∃a b c d,us=[a,b,c,d]:=by
 cases us with
 | nil=>cases h
 | cons a us=>obtain ⟨b,c,d,rfl⟩:=len3 (Nat.succ.inj h);exact ⟨a,b,c,d,rfl⟩
def spD (m i:Nat):D:=.tup [.int (M.sp m i).1,.int (M.sp m i).2]
def ksP (m i:Nat):List Key:=[.inl (M.sp m i).1,.inl (M.sp m i).2]
theorem Qff {j:Nat} (h:ksP m i=ksP m j):i=j:=by
 unfold ksP at h
 injection h with h1 h2
 injection h2 with h2 _
 injection h1 with h1
 injection h2 with h2
 exact M.Qgb (Prod.ext h1 h2)
def encP (s:Nat->D) (P:List (Int × List Nat)):List (Key × D):=P.map λe=>((.inl e.1:Key),D.lst (e.2.map s))
theorem Qkk (nd:(P.map (·.1)).Nodup):((encP s P).map (·.1)).Nodup:=by
 unfold encP
 rw [List.map_map]
 have:(P.map ((λ(x:Key × D)=>x.1) ∘ λe=>((.inl e.1:Key),D.lst (e.2.map s))))=(P.map (·.1)).map (λa=>(.inl a:Key)):=by rw [List.map_map];rfl
 rw [this,List.nodup_iff_pairwise_ne,List.pairwise_map]
 exact List.Pairwise.imp (λh z=>h (by injection z)) (List.nodup_iff_pairwise_ne.mp nd)
theorem Qgy {s:Nat->D} {a:Int}:∀{P:List (Int × List Nat)},valD (encP s P) (.inl a)=(P.find? λe=>decide (e.1=a)).map λe=>D.lst (e.2.map s)
 | []=>rfl
 | e::P=>by
  show valD (((.inl e.1:Key),D.lst (e.2.map s))::encP s P) (.inl a)=_
  rw [Jb]
  by_cases h:e.1=a
  ·rw [if_pos (by rw [h]),List.find?_cons_of_pos (by simp [h])];rfl
  ·rw [if_neg (λz=>h (by injection z)),Qgy,List.find?_cons_of_neg (by simp [h])]
theorem Qgt {α β:Type} {f:α->β}:∀{l:List α} {a b:α},(l.map f).Nodup->a∈l->b∈l->f a=f b->a=b
 | [],_,_,_,h,_,_=>by cases h
 | x::l,a,b,nd,ha,hb,e=>by
  obtain ⟨n1,n2⟩:=List.nodup_cons.mp (show (f x::l.map f).Nodup from nd)
  rcases List.mem_cons.mp ha with za | ha
  ·rcases List.mem_cons.mp hb with zb | hb
   ·rw [za,zb]
   ·exact absurd (by rw [← za,e];exact List.mem_map.mpr ⟨b,hb,rfl⟩) n1
  ·rcases List.mem_cons.mp hb with zb | hb
   ·exact absurd (by rw [← zb,← e];exact List.mem_map.mpr ⟨a,ha,rfl⟩) n1
   ·exact Qgt n2 ha hb e
theorem Qo6 (nd:(P.map (·.1)).Nodup):∃l:List Nat,(l=[]\/∃e∈P,l=e.2)/\valD (Z4 (encP s P) (.inl a)) (.inl a)=some (.lst (l.map s)) /\
  putD (Z4 (encP s P) (.inl a)) (.inl a) (.lst (l.map s++[s i]))=encP s (M.addP P a i):=by
 have hv:=Qgy (s:=s) (a:=a) (P:=P)
 cases hf:P.find? λe=>decide (e.1=a) with
 | none =>
  rw [hf] at hv
  have hv:valD (encP s P) (.inl a)=none:=hv
  have e1:Z4 (encP s P) (.inl a)=encP s P++[((.inl a:Key),.lst [])]:=by unfold Z4;rw [hv];rfl
  have hany:¬(P.any λe=>decide (e.1=a))=true:=λz=>by
   obtain ⟨e,he,h⟩:=List.any_eq_true.mp z
   exact List.find?_eq_none.mp hf e he h
  refine ⟨[],.inl rfl,?_,?_⟩
  ·rw [e1,X0,hv];simp
  ·have hadd:M.addP P a i=P++[(a,[i])]:=by unfold M.addP;rw [if_neg hany]
   have hno:∀kv∈encP s P,kv.1≠(.inl a:Key):=λkv hkv z=>by
    obtain ⟨e,he,rfl⟩:=List.mem_map.mp hkv
    exact hany (List.any_eq_true.mpr ⟨e,he,by simpa using z⟩)
   rw [hadd,e1]
   unfold putD
   rw [if_pos (by simp),List.map_append]
   have:(encP s P).map (λkv=>if kv.1=(.inl a:Key) then (kv.1,D.lst (([]:List Nat).map s++[s i])) else kv)=encP s P:=by
    conv=>rhs;rw [← List.map_id (encP s P)]
    apply List.map_congr_left
    intro kv hkv
    rw [if_neg (hno kv hkv)];rfl
   rw [this]
   simp [encP]
 | some e =>
  rw [hf] at hv
  have hv:valD (encP s P) (.inl a)=some (.lst (e.2.map s)):=hv
  have he:=List.mem_of_find?_eq_some hf
  have hk:e.1=a:=by have:=List.find?_some hf;simpa using this
  have e1:Z4 (encP s P) (.inl a)=encP s P:=by unfold Z4;rw [hv];rfl
  have hany:(P.any λe=>decide (e.1=a))=true:=List.any_eq_true.mpr ⟨e,he,by simpa using hk⟩
  refine ⟨e.2,.inr ⟨e,he,rfl⟩,by rw [e1];exact hv,?_⟩
  have hadd:M.addP P a i=P.map (λx=>if x.1=a then (x.1,x.2++[i]) else x):=by unfold M.addP;rw [if_pos hany]
  rw [e1,hadd]
  unfold putD
  rw [if_pos (by rw [Gu,hv];rfl)]
  unfold encP
  rw [List.map_map,List.map_map]
  apply List.map_congr_left
  intro x hx
  show (if (.inl x.1:Key)=.inl a then ((.inl x.1:Key),D.lst (e.2.map s++[s i])) else ((.inl x.1:Key),D.lst (x.2.map s)))=((.inl (if x.1=a then (x.1,x.2++[i]) else x).1:Key),D.lst ((if x.1=a then (x.1,x.2++[i]) else x).2.map s))
  by_cases q:x.1=a
  ·have:x=e:=Qgt nd hx he (q.trans hk.symm)
   subst this
   rw [if_pos (by rw [q]),if_pos q]
   simp
  ·rw [if_neg (λz=>q (by injection z)),if_neg q]
theorem Qe3 (A:Nat->Int):∀t,(M.plc A t).length<=t
 | 0=>Nat.le_refl _
 | t+1=>by
  rw [M.Um]
  have:=Qe3 A t
  unfold M.addP
  split <;> simp <;> omega
theorem Ql4 (A:Nat->Int) (t:Nat):∀e∈M.plc A t,e.2.length<=t:=λe he=>by
 obtain ⟨_,h2,_⟩:=M.Qdr A t
 rw [(h2 e he).1]
 have:=List.length_filter_le (λi=>decide (A i=e.1)) (List.range t)
 simpa using this
theorem Gj:∀{ds:List D} {n:Nat},Ql ds=true->Ql (Ue n ds)=true
 | [],_,_=>rfl
 | d::r,n,h=>by
  simp only [Ql,Bool.and_eq_true] at h
  simp only [Ue,Ql,D.pure,Bool.and_eq_true]
  exact ⟨⟨trivial,h.1,trivial⟩,Gj h.2⟩
theorem Qph:(spD m i).pure=true:=rfl
theorem Gi:Ql (l.map (spD m))=true:=Qi λ_ _=>rfl
end PV
variable {t:Nat} {f:Int->Int}
namespace M
open PySem PySem.Spec L2 PV
def ix (a:Int):List Int->Nat
 | []=>0
 | x::l=>if x=a then 0 else ix a l+1
theorem Qs8 {a:Int}:∀{l:List Int},a∈l->ix a l<l.length
 | [],h=>by cases h
 | x::l,h=>by
  unfold ix
  split
  ·simp
  ·rename_i n
   rcases List.mem_cons.mp h with z | h
   ·exact absurd z.symm n
   ·have:=Qs8 h;simp;omega
theorem Qj2 {a b:Int}:∀{l:List Int},a∈l->b∈l->ix a l=ix b l->a=b
 | [],h,_,_=>by cases h
 | x::l,ha,hb,e=>by
  unfold ix at e
  split at e
  ·rename_i h1
   split at e
   ·rename_i h2;rw [← h1,← h2]
   ·omega
  ·rename_i h1
   split at e
   ·omega
   ·rename_i h2
    rcases List.mem_cons.mp ha with z | ha
    ·exact absurd z.symm h1
    ·rcases List.mem_cons.mp hb with z | hb
     ·exact absurd z.symm h2
     ·exact Qj2 ha hb (by omega)
theorem Qok {f:Int->Int} {a:Int}:∀{l:List Int},(∀x∈l,f x=f a->x=a)->ix (f a) (l.map f)=ix a l
 | [],_=>rfl
 | x::l,h=>by
  rw [List.map_cons]
  unfold ix
  by_cases e:x=a
  ·rw [if_pos (by rw [e]),if_pos e]
  ·rw [if_neg (λz=>e (h x List.mem_cons_self z)),if_neg e,Qok λy hy=>h y (List.mem_cons_of_mem _ hy)]
def keys (A:Nat->Int) (t:Nat):List Int:=(plc A t).map (·.1)
theorem Qqf (A:Nat->Int) (t:Nat):(keys A t).Nodup:=(Qdr A t).1
theorem Vu (h:i<t):A i∈keys A t:=by
 obtain ⟨e,he,hk⟩:=(Qdr A t).2.2 i h
 exact List.mem_map.mpr ⟨e,he,hk⟩
theorem Qfh (h:a∈keys A t):∃i,i<t/\A i=a:=by
 obtain ⟨e,he,rfl⟩:=List.mem_map.mp h
 obtain ⟨h1,h2⟩:=(Qdr A t).2.1 e he
 rw [h1] at h2
 obtain ⟨i,hi⟩:=List.exists_mem_of_ne_nil _ h2
 rw [List.mem_filter] at hi
 exact ⟨i,List.mem_range.mp hi.1,by simpa using hi.2⟩
theorem Qmt (A:Nat->Int) (t:Nat):(keys A t).length<=t:=by unfold keys;rw [List.length_map];exact Qe3 A t
theorem Qi6 {f:Int->Int} {A:Nat->Int}:∀{t:Nat},(∀i j,i<t->j<t->f (A i)=f (A j)->A i=A j)->plc (λi=>f (A i)) t=(plc A t).map λe=>(f e.1,e.2)
 | 0,_=>rfl
 | t+1,h=>by
  have ih:=Qi6 (f:=f) (A:=A) (t:=t) λi j hi hj=>h i j (by omega) (by omega)
  rw [Um,Um,ih]
  have hk:∀e∈plc A t,(f e.1=f (A t)↔e.1=A t):=λe he=>by
   obtain ⟨i,hi,q⟩:=Qfh (A:=A) (t:=t) (a:=e.1) (List.mem_map.mpr ⟨e,he,rfl⟩)
   constructor
   ·intro z
    rw [← q] at z ⊢
    exact h i t (by omega) (by omega) z
   ·intro z;rw [z]
  unfold addP
  have ha:(((plc A t).map λe=>(f e.1,e.2)).any λe=>decide (e.1=f (A t)))=((plc A t).any λe=>decide (e.1=A t)):=by
   rw [List.any_map]
   rw [Bool.eq_iff_iff,List.any_eq_true,List.any_eq_true]
   constructor
   ·rintro ⟨e,he,z⟩;exact ⟨e,he,by simpa using (hk e he).mp (by simpa using z)⟩
   ·rintro ⟨e,he,z⟩;exact ⟨e,he,by simpa using (hk e he).mpr (by simpa using z)⟩
  rw [ha]
  split
  ·rw [List.map_map,List.map_map]
   apply List.map_congr_left
   intro e he
   simp only [Function.comp]
   by_cases z:e.1=A t
   ·rw [if_pos ((hk e he).mpr z),if_pos z]
   ·rw [if_neg (λq=>z ((hk e he).mp q)),if_neg z]
  ·simp
theorem Qms (h:∀i j,i<t->j<t->f (A i)=f (A j)->A i=A j):keys (λi=>f (A i)) t=(keys A t).map f:=by
 unfold keys
 rw [Qi6 h,List.map_map,List.map_map];rfl
def anw (A:Nat->Int) (t:Nat) (i:Nat):Int:=(ix (A i) (keys A t):Nat)
theorem Qq9 (h:∀i j,i<t->j<t->f (A i)=f (A j)->A i=A j) (hi:i<t):anw (λi=>f (A i)) t i=anw A t i:=by
 unfold anw
 rw [Qms h,Qok]
 intro x hx e
 obtain ⟨j,hj,rfl⟩:=Qfh hx
 exact h j i hj hi e
theorem Qrb (hi:i<t):anw (anw A t) t i=anw A t i:=by
 have h:∀i j,i<t->j<t->(λb=>((ix b (keys A t):Nat):Int)) (A i)=(λb=>((ix b (keys A t):Nat):Int)) (A j)->A i=A j:=λi j hi hj e=>Qj2 (Vu hi) (Vu hj) (Int.ofNat.inj e)
 exact Qq9 (f:=λb=>((ix b (keys A t):Nat):Int)) h hi
end M
namespace PV
open PySem PySem.Spec L2
def num:Nat->List Int->List (Key × D)
 | _,[]=>[]
 | n,a::l=>(.inl a,.int (n:Nat))::num (n+1) l
theorem Qfc:∀{l:List Int} {n:Nat},(num n l).length=l.length
 | [],_=>rfl
 | a::l,n=>by simp [num,Qfc]
theorem Qjp {a:Int}:∀{l:List Int} {n:Nat},a∈l->valD (num n l) (.inl a)=some (.int ((n+M.ix a l:Nat):Int))
 | [],_,h=>by cases h
 | x::l,n,h=>by
  unfold num M.ix
  rw [Jb]
  by_cases e:x=a
  ·rw [if_pos (by rw [e]),if_pos e];rfl
  ·rw [if_neg (λz=>e (by injection z)),if_neg e]
   rcases List.mem_cons.mp h with z | h
   ·exact absurd z.symm e
   ·rw [Qjp h];congr 2;omega
theorem Qgn {a:Int}:∀{l:List Int} {n:Nat},a∉l->valD (num n l) (.inl a)=none
 | [],_,_=>rfl
 | x::l,n,h=>by
  rw [List.mem_cons,not_or] at h
  unfold num
  rw [Jb,if_neg (λz=>h.1 (by injection z with z;exact z.symm)),Qgn h.2]
theorem Qgm {a:Int}:∀{l:List Int} {n:Nat},num n (l++[a])=num n l++[(.inl a,.int ((n+l.length:Nat):Int))]
 | [],n=>by simp [num]
 | x::l,n=>by
  rw [List.cons_append,num,num,Qgm,List.cons_append]
  congr 3
  simp;omega
theorem Qp9 {l:List Int} (h:a∉l):putD (num 0 l) (.inl a) (.int ((num 0 l).length:Nat))=num 0 (l++[a]):=by
 rw [Qcd _ (Qgn h),Qgm,Qfc,Nat.zero_add]
theorem Qmu:Qbh (encP s P)=(P.map (·.1)).map D.int:=by
 unfold Qbh encP
 rw [List.map_map,List.map_map];rfl
theorem Qfw:eqOk 9 (webD m e A r)=true:=by
 unfold webD
 simp only [eqOk,U4,Bool.and_true,Bool.and_eq_true]
 exact ⟨Qa3 λ_ _=>by simp only [eqOk];exact Qa3 λ_ _=>rfl,Qa3 λ_ _=>rfl⟩
end PV
namespace P58
open PySem PySem.Builtin PySem.Builtin.Str
inductive Tr where
 | lf (k:Nat)
 | un (b:Bool) (t:Tr)
 | bi (b:Bool) (t u:Tr)
def Tr.h:Tr->Nat
 | .lf _=>0
 | .un _ t=>t.h+1
 | .bi _ t u=>max t.h u.h+1
def lfW:Nat->Str
 | 0=>Str.ofString "single"
 | 1=>Str.ofString "level"
 | _=>Str.ofString "upright"
def unW:Bool->Str
 | false=>Str.ofString "turned"
 | true=>Str.ofString "mirrored"
def biW:Bool->Str
 | false=>Str.ofString "beside"
 | true=>Str.ofString "above"
end P58
variable {a j p:Nat} {s:Nat->Int × Int} {g:Nat->Nat}
namespace M
theorem Qax (A:Nat->Int) (t:Nat):keys A (t+1)=if A t∈keys A t then keys A t else keys A t++[A t]:=by
 unfold keys
 rw [Um,Qbc]
 by_cases h:A t∈(plc A t).map (·.1)
 ·rw [if_pos h,if_pos]
  obtain ⟨e,he,hq⟩:=List.mem_map.mp h
  exact List.any_eq_true.mpr ⟨e,he,decide_eq_true hq⟩
 ·rw [if_neg h,if_neg]
  intro z
  obtain ⟨e,he,hq⟩:=List.any_eq_true.mp z
  exact h (List.mem_map.mpr ⟨e,he,of_decide_eq_true hq⟩)
theorem Qfg (A:Nat->Int) {s:Nat} (h:s<=t):∃r,keys A t=keys A s++r:=by
 induction t with
 | zero=>exact ⟨[],by rw [show s=0 by omega,List.append_nil]⟩
 | succ t ih =>
  by_cases e:s=t+1
  ·exact ⟨[],by rw [e,List.append_nil]⟩
  ·obtain ⟨r,hr⟩:=ih (by omega)
   rw [Qax]
   split
   ·exact ⟨r,hr⟩
   ·exact ⟨r++[A t],by rw [hr,List.append_assoc]⟩
theorem Qoj {a:Int}:∀{l r:List Int},a∉l->ix a (l++a::r)=l.length
 | [],r,_=>by show (if a=a then 0 else _)=0;rw [if_pos rfl]
 | x::l,r,h=>by
  rw [List.cons_append]
  unfold ix
  rw [if_neg (λe=>h (by rw [e];exact List.mem_cons_self)),Qoj λz=>h (List.mem_cons_of_mem _ z),List.length_cons]
theorem Qb4 (T:Tw n A g) (ht:t<n):A t∈keys A t↔g t<t:=by
 refine ⟨λh=>?_,λh=>?_⟩
 ·obtain ⟨i,hi,e⟩:=Qfh h
  rcases T.only t i ht (by omega) e with z | z
  ·omega
  ·omega
 ·rw [← T.eq t ht]
  exact Vu h
theorem Qra (T:Tw n A g) (ht:t<n) (h:¬g t<t):anw A n t=((keys A t).length:Nat):=by
 have hn:A t∉keys A t:=λz=>h ((Qb4 T ht).mp z)
 obtain ⟨r,hr⟩:=Qfg A (show t+1<=n by omega)
 rw [Qax,if_neg hn,List.append_assoc] at hr
 unfold anw
 rw [hr]
 exact congrArg _ (Qoj hn)
theorem Qg5 (T:Tw n A g) (h:i<n):anw A n (g i)=anw A n i:=by
 unfold anw
 rw [T.eq i h]
theorem Vv (T:Tw n A g) (ht:t<n):(keys A (t+1)).length=(keys A t).length+if g t<t then 0 else 1:=by
 rw [Qax]
 by_cases h:g t<t
 ·rw [if_pos ((Qb4 T ht).mpr h),if_pos h];omega
 ·rw [if_neg (λz=>h ((Qb4 T ht).mp z)),if_neg h,List.length_append];rfl
def rest (e p q:Nat):List Nat:=(List.range e).filter λj=>decide (j≠p/\j≠q)
theorem Uk:j∈rest e p q↔j<e/\j≠p/\j≠q:=by
 unfold rest
 rw [List.mem_filter,List.mem_range]
 simp
theorem Qiw:(rest e p q).Nodup:=List.nodup_range.filter _
theorem Qar {α:Type} [DecidableEq α]:∀{l r:List α},l.Nodup->(∀x∈l,x∈r)->l.length<=r.length
 | [],_,_,_=>Nat.zero_le _
 | x::l,r,hn,h=>by
  obtain ⟨h1,h2⟩:=List.nodup_cons.mp hn
  have hx:x∈r:=h x List.mem_cons_self
  have:=Qar (r:=r.erase x) h2 λy hy=>(List.mem_erase_of_ne (show y≠x from λz=>h1 (by rw [← z];exact hy))).mpr (h y (List.mem_cons_of_mem _ hy))
  rw [List.length_erase_of_mem hx] at this
  have:0<r.length:=List.length_pos_of_mem hx
  rw [List.length_cons]
  omega
theorem Qog {α:Type}:∀{l:List α},l.Nodup->∀{i j:Nat} (hi:i<l.length) (hj:j<l.length),l[i]=l[j]->i=j
 | x::l,hn,0,0,_,_,_=>rfl
 | x::l,hn,0,j+1,_,hj,h=>absurd (show x∈l by rw [show x=l[j]'(by simpa using hj) from h];exact List.getElem_mem _) (List.nodup_cons.mp hn).1
 | x::l,hn,i+1,0,hi,_,h=>absurd (show x∈l by rw [show x=l[i]'(by simpa using hi) from h.symm];exact List.getElem_mem _) (List.nodup_cons.mp hn).1
 | x::l,hn,i+1,j+1,hi,hj,h=>congrArg (· + 1) (Qog (List.nodup_cons.mp hn).2 (i:=i) (j:=j) (by simpa using hi) (by simpa using hj) (by simpa using h))
theorem Qge (hp:p<e) (hq:q<e) (h:p≠q):(rest e p q).length+2=e:=by
 have h1:(p::q::rest e p q).length<=(List.range e).length:=by
  refine Qar ?_ ?_
  ·refine List.nodup_cons.mpr ⟨?_,List.nodup_cons.mpr ⟨?_,Qiw⟩⟩
   ·intro z
    rcases List.mem_cons.mp z with z | z
    ·exact h z
    ·exact (Uk.mp z).2.1 rfl
   ·intro z
    exact (Uk.mp z).2.2 rfl
  ·intro x hx
   rcases List.mem_cons.mp hx with z | hx
   ·rw [z];exact List.mem_range.mpr hp
   ·rcases List.mem_cons.mp hx with z | hx
    ·rw [z];exact List.mem_range.mpr hq
    ·exact List.mem_range.mpr (Uk.mp hx).1
 have h2:(List.range e).length<=(p::q::rest e p q).length:=by
  refine Qar List.nodup_range λx hx=>?_
  by_cases e1:x=p
  ·rw [e1];exact List.mem_cons_self
  ·by_cases e2:x=q
   ·rw [e2];exact List.mem_cons_of_mem _ List.mem_cons_self
   ·exact List.mem_cons_of_mem _ (List.mem_cons_of_mem _ (Uk.mpr ⟨List.mem_range.mp hx,e1,e2⟩))
 rw [List.length_range,List.length_cons,List.length_cons] at h1 h2
 omega
def old (m e p q i:Nat):Nat:=if i<4*m then i else 4*m+(rest e p q).getD (i-4*m) 0
def tie (g:Nat->Nat) (a b x:Nat):Nat:=if x=g a then g b else if x=g b then g a else g x
theorem Uu (h:i<4*m):old m e p q i=i:=if_pos h
theorem Vr:old m e p q (4*m+j)=4*m+(rest e p q).getD j 0:=by
 unfold old
 rw [if_neg (by omega),show 4*m+j-4*m=j by omega]
theorem Qls (h:j<(rest e p q).length):(rest e p q).getD j 0<e/\(rest e p q).getD j 0≠p/\(rest e p q).getD j 0≠q:=by
 rw [List.getD_eq_getElem?_getD,List.getElem?_eq_getElem h]
 exact Uk.mp (List.getElem_mem h)
theorem Gk (h:i<4*m+(rest e p q).length):old m e p q i<4*m+e/\old m e p q i≠4*m+p/\old m e p q i≠4*m+q:=by
 by_cases hi:i<4*m
 ·rw [Uu hi];exact ⟨by omega,by omega,by omega⟩
 ·obtain ⟨j,rfl⟩:∃j,i=4*m+j:=⟨i-4*m,by omega⟩
  rw [Vr]
  obtain ⟨h1,h2,h3⟩:=Qls (e:=e) (p:=p) (q:=q) (j:=j) (by omega)
  exact ⟨by omega,by omega,by omega⟩
theorem Qe7 (hi:i<4*m+(rest e p q).length) (hj:j<4*m+(rest e p q).length) (h:old m e p q i=old m e p q j):i=j:=by
 by_cases h1:i<4*m
 ·by_cases h2:j<4*m
  ·rwa [Uu h1,Uu h2] at h
  ·obtain ⟨k,rfl⟩:∃k,j=4*m+k:=⟨j-4*m,by omega⟩
   rw [Uu h1,Vr] at h
   omega
 ·obtain ⟨k,rfl⟩:∃k,i=4*m+k:=⟨i-4*m,by omega⟩
  by_cases h2:j<4*m
  ·rw [Uu h2,Vr] at h
   omega
  ·obtain ⟨l,rfl⟩:∃l,j=4*m+l:=⟨j-4*m,by omega⟩
   rw [Vr,Vr] at h
   have hk:k<(rest e p q).length:=by omega
   have hl:l<(rest e p q).length:=by omega
   rw [List.getD_eq_getElem?_getD,List.getD_eq_getElem?_getD,List.getElem?_eq_getElem hk,List.getElem?_eq_getElem hl] at h
   have h':(rest e p q)[k]=(rest e p q)[l]:=by simpa using h
   have:=Qog Qiw hk hl h'
   omega
theorem Qmi {x:Nat} (h:x<4*m+e) (h1:x≠4*m+p) (h2:x≠4*m+q):∃i,i<4*m+(rest e p q).length/\old m e p q i=x:=by
 by_cases hx:x<4*m
 ·exact ⟨x,by omega,Uu hx⟩
 ·obtain ⟨j,rfl⟩:∃j,x=4*m+j:=⟨x-4*m,by omega⟩
  obtain ⟨k,hk,e'⟩:=List.getElem_of_mem (Uk.mpr (⟨by omega,by omega,by omega⟩:j<e/\j≠p/\j≠q))
  refine ⟨4*m+k,by omega,?_⟩
  rw [Vr,List.getD_eq_getElem?_getD,List.getElem?_eq_getElem hk,e']
  rfl
def cal (A:Nat->Int) (a b:Nat) (x:Nat):Int:=if A x=A a then A b else A x
theorem Xt (T:Tw n A g) (ha:a<n) (hb:b<n) (hab:a≠b) {x:Nat} (hx:x<n) (h1:x≠a) (h2:x≠b) :
  tie g a b x<n/\tie g a b x≠a/\tie g a b x≠b/\tie g a b x≠x/\cal A a b (tie g a b x)=cal A a b x/\∀y,y<n->y≠a->y≠b->cal A a b y=cal A a b x->y=x\/y=tie g a b x:=by
 have gga:=T.inv ha
 have ggb:=T.inv hb
 have ggx:=T.inv hx
 have gna:=T.ne a ha
 have gnb:=T.ne b hb
 have gnx:=T.ne x hx
 have la:=T.lt a ha
 have lb:=T.lt b hb
 have lx:=T.lt x hx
 have ea:=T.eq a ha
 have eb:=T.eq b hb
 have ex:=T.eq x hx
 have inj:∀y z,y<n->z<n->g y=g z->y=z:=λy z hy hz h=>by rw [← T.inv hy,h,T.inv hz]
 have oa:=λy hy=>T.only a y ha hy
 have ob:=λy hy=>T.only b y hb hy
 have ox:=λy hy=>T.only x y hx hy
 unfold tie cal
 by_cases c1:x=g a
 ·-- x was tied to a
  have hxb:g b≠a:=λz=>h2 (by rw [c1,← z,ggb])
  have hAx:A x=A a:=by rw [c1,ea]
  have hAb:A b≠A a:=λz=>by
   rcases oa b hb z with z | z
   ·exact hab z.symm
   ·exact h2 (by rw [c1,z])
  rw [if_pos c1,eb,if_neg hAb,if_pos hAx]
  refine ⟨lb,hxb,gnb,λz=>?_,rfl,λy hy y1 y2 hq=>?_⟩
  ·rw [c1] at z
   exact hab (inj a b ha hb z.symm)
  ·by_cases hya:A y=A a
   ·rcases oa y hy hya with z | z
    ·exact absurd z y1
    ·exact .inl (by rw [z,c1])
   ·rw [if_neg hya] at hq
    rcases ob y hy hq with z | z
    ·exact absurd z y2
    ·exact .inr z
 ·rw [if_neg c1]
  have hAx:A x≠A a:=λz=>by
   rcases oa x hx z with z | z
   ·exact h1 z
   ·exact c1 z
  by_cases c2:x=g b
  ·have hxa:g a≠b:=λz=>h1 (by rw [c2,← z,gga])
   have hAb:A x=A b:=by rw [c2,eb]
   rw [if_pos c2,ea,if_pos rfl,if_neg hAx]
   refine ⟨la,gna,hxa,λz=>c1 z.symm,hAb.symm,λy hy y1 y2 hq=>?_⟩
   by_cases hya:A y=A a
   ·rcases oa y hy hya with z | z
    ·exact absurd z y1
    ·exact .inr z
   ·rw [if_neg hya] at hq
    rcases ox y hy hq with z | z
    ·exact .inl z
    ·rw [c2,ggb] at z
     exact absurd z y2
  ·rw [if_neg c2,ex,if_neg hAx]
   have hAb:A x≠A b:=λz=>by
    rcases ob x hx z with z | z
    ·exact h2 z
    ·exact c2 z
   refine ⟨lx,λz=>c1 (by rw [← z,ggx]),λz=>c2 (by rw [← z,ggx]),gnx,rfl,λy hy y1 y2 hq=>?_⟩
   by_cases hya:A y=A a
   ·rw [if_pos hya] at hq
    exact absurd hq.symm hAb
   ·rw [if_neg hya] at hq
    exact ox y hy hq
theorem Qo3 (T:Tw (4*m+e) A g) (hp:p<e) (hq:q<e) (hpq:p≠q) :
  ∃h:Nat->Nat,Tw (4*m+(rest e p q).length) (λi=>cal A (4*m+p) (4*m+q) (old m e p q i)) h/\∀i,i<4*m+(rest e p q).length->old m e p q (h i)=tie g (4*m+p) (4*m+q) (old m e p q i):=by
 have key:∀i,∃j,i<4*m+(rest e p q).length->j<4*m+(rest e p q).length/\old m e p q j=tie g (4*m+p) (4*m+q) (old m e p q i):=λi=>by
  by_cases hi:i<4*m+(rest e p q).length
  ·obtain ⟨a1,a2,a3⟩:=Gk (m:=m) hi
   obtain ⟨b1,b2,b3,_⟩:=Xt T (show 4*m+p<4*m+e by omega) (show 4*m+q<4*m+e by omega) (by omega) a1 a2 a3
   obtain ⟨j,hj,ej⟩:=Qmi b1 b2 b3
   exact ⟨j,λ_=>⟨hj,ej⟩⟩
  ·exact ⟨0,λz=>absurd z hi⟩
 obtain ⟨h,hh⟩:=Classical.skolem.mp key
 refine ⟨h,⟨λi hi=>(hh i hi).1,λi hi z=>?_,λi hi=>?_,λi k hi hk hc=>?_⟩,λi hi=>(hh i hi).2⟩
 ·obtain ⟨a1,a2,a3⟩:=Gk (m:=m) hi
  obtain ⟨b1,b2,b3,b4,_⟩:=Xt T (show 4*m+p<4*m+e by omega) (show 4*m+q<4*m+e by omega) (by omega) a1 a2 a3
  rw [← (hh i hi).2,z] at b4
  exact b4 rfl
 ·obtain ⟨a1,a2,a3⟩:=Gk (m:=m) hi
  obtain ⟨b1,b2,b3,b4,b5,_⟩:=Xt T (show 4*m+p<4*m+e by omega) (show 4*m+q<4*m+e by omega) (by omega) a1 a2 a3
  show cal A _ _ (old m e p q (h i))=_
  rw [(hh i hi).2,b5]
 ·obtain ⟨a1,a2,a3⟩:=Gk (m:=m) hi
  obtain ⟨k1,k2,k3⟩:=Gk (m:=m) hk
  obtain ⟨b1,b2,b3,b4,b5,b6⟩:=Xt T (show 4*m+p<4*m+e by omega) (show 4*m+q<4*m+e by omega) (by omega) a1 a2 a3
  rcases b6 _ k1 k2 k3 hc with z | z
  ·exact .inl (Qe7 hk hi z)
  ·rw [← (hh i hi).2] at z
   exact .inr (Qe7 hk (hh i hi).1 z)
end M
namespace L2
open PySem PySem.Spec PyProof.Rows
open PySem.Sem (wp)
def DK (h h':Heap):Prop:=∀b o,h.get? b=some o->∃o',h'.get? b=some o'/\o'.dict=o.dict/\∀vs,o.data=.fields vs->∃vs':Array Value,o'.data=.fields vs'/\vs'[2]? = vs[2]?
structure KD {α:Type} (t:Sem α):Prop where
 out:∀(M:Model) (Γ:PySem.Ctx) (Q:α->Pos->Shared->Prop) (E:Value->Pos->Shared->Prop) (p:Pos) (s:Shared),wp M Γ t Q E p s->wp M Γ t (λa p' s'=>Q a p' s'/\DK s.heap s'.heap) (λe p' s'=>E e p' s'/\DK s.heap s'.heap) p s
end L2
variable {c:PySem.Str} {f:PySem.Addr} {e1 k2:Nat}
namespace PV
open PySem PySem.Spec L2
open PyProof.Rows (envOfC)
abbrev XC:=D->Env->Prop
abbrev WX:=Env->(D->Env->Prop)->XC->Prop
abbrev WAX:=Env->(List D->Env->Prop)->XC->Prop
structure ClN (K:PySem.W.Frag) (mg:Str->Option Value) (x:Str) (C:Addr):Prop where
 mg:mg x=some (.ref C)
 ns:PySem.W.nsIn K mainGlobals x=some (some (.ref C))
 d:ClsD K C
def Qio (C:Addr) (n:Nat):Sp:=λvs H Q _=>∃a dx ys,vs=.ref a::ys/\ys.length=n/\H a=some (.ins C dx [])/\Q .non (upd H a (.ins C dx ((fldN n).zip ys)))
def IniN (P:Program) (w:World) (K:PySem.W.Frag) (mg:Str->Option Value) (base:Heap) (x:Str) (n k:Nat):Prop :=
 ∃C f fd,ClN K mg x C/\Mk K C f/\FnOk P w K mg base CX0 k f fd ("self" :: fldN n) (Qio C n)/\Z2 K fd ("self" :: fldN n) []
def Qj6 (d:D) (k:Str->List D->Prop):Prop:=match d with
 | .ist x ds=>k x ds
 | _=>False
theorem Qd8 {k:Str->List D->Prop} (h:Qj6 d k):∃x ds,d=.ist x ds/\k x ds:=by
 cases d with
 | ist x ds=>exact ⟨x,ds,rfl,h⟩
 | _=>exact (show False from h).elim
theorem Rep.iIst (r:Rep K H (.ist x ds) v F):∃a C dx fs,v=.ref a/\F=[]/\H a=some (.ins C dx fs)/\PySem.W.nsIn K mainGlobals x=some (some (.ref C))/\fs.map (·.1)=fldN ds.length/\Reps K H ds (fs.map (·.2)) []:=by
 cases r with | ist e hc hn r=>exact ⟨_,_,_,_,rfl,rfl,e,hc,hn,r⟩
theorem Ug {D:Addr} (h:PySem.W.nsIn K mainGlobals x=some (some (.ref C))) (h':PySem.W.nsIn K mainGlobals x=some (some (.ref D))):C=D:=by
 rw [h] at h';cases h';rfl
section
variable {m:Bool} {e:Expr} {p:Pos} {f:Str} {k:Nat}
theorem Qkh (h:ClN X.K X.mg x C) (hi:PySem.W.findIn X.K (.ref C) "__init__" = some (some (.builtin "object.__init__"))) (hg:Gl X x:=by rfl) (hdb:(x == ("__debug__" : Str))=false:=by decide):EV X T false true (.Call (.Name x p) [] [] pos) (wC (.ist x [])):=by
 refine ⟨_,Qsa h.d hi hg h.mg hdb,λz R σ H W ρ Q Q' s hw kk a dx ha hdx hne=>?_⟩
 have sm:Same H (upd (upd H dx (.own a)) a (.ins C dx [])):=(Qm hdx).trans (Qm (by rw [Qq (Ne.symm hne)];exact ha))
 exact kk (.ref a) _ W (.ist x []) ρ [] (Post.fin s (FrW.refl H W) (λ_=>⟨Same.refl H,rfl,rfl⟩) sm (.ist (fs:=[]) Qk h.ns rfl .nil) List.nodup_nil λa m=>nomatch m) hw
def wMk (x:Str) (n:Nat) (wr:WA):WE:=λρ Q=>wr ρ λds ρ1=>ds.length=n/\Ql ds=true/\Q (.ist x ds) ρ1
theorem Qgw (I:IniN X.prog X.w X.K X.mg X.base x n k) (hr:Room (k+1) X.A) (ha:AV X T m o (e::es) wr) (hn:(fldN n).length=n:=by rfl) (hg:Gl X x:=by rfl) (hdb:(x == ("__debug__" : Str))=false:=by decide)
  (he:starEach (e::es) X.env=(false,eval e X.env)::starEach es X.env:=by rfl) (hpl:(backTo pos (starEach es X.env)).any (·.1)=false:=by rfl):EV X T m true (.Call (.Name x p) (e::es) [] pos) (wMk x n wr):=by
 obtain ⟨C,f,fd,h,M,F,hb⟩:=I
 obtain ⟨ta,pa,ga⟩:=ha
 refine ⟨_,Qpr M F hr hg h.mg hb .nil Qjc pa hdb he hpl,λz R σ H W ρ Q Q' s hw kk=>?_⟩
 refine ga z R σ H W ρ _ _ s hw λvs H1 W1 ds ρ1 Fp pp q=>?_
 obtain ⟨hl,hp,q⟩:=q
 obtain ⟨hF,rp⟩:=pp.rep.pure hp
 intro a dx ha hdx hne
 have hlv:vs.length=n:=by rw [pp.rep.length];exact hl
 have sm:Same H1 (upd (upd (upd H1 dx (.own a)) a (.ins C dx [])) a (.ins C dx ((fldN n).zip vs))):=λb ob eb=>by
  have n1:b≠a:=λz=>by rw [z,ha] at eb;cases eb
  have n2:b≠dx:=λz=>by rw [z,hdx] at eb;cases eb
  rw [Qq n1,Qq n1,Qq n2];exact eb
 refine ⟨a,dx,vs,by simp,hlv,Qk,rfl,kk (.ref a) _ W1 (.ist x ds) ρ1 [] (Post.fin pp.sr pp.fr pp.calm sm (.ist Qk h.ns ?_ ?_) List.nodup_nil λa m=>nomatch m) q⟩
 ·rw [List.map_fst_zip (by omega),hl]
 ·rw [List.map_snd_zip (by omega)];exact rp.same sm
def fldS:Nat->Str
 | 0=>"one"
 | _=>"other"
theorem Qm3 (hn:fs.map (·.1)=fldN ds.length) (r:Reps K H ds (fs.map (·.2)) []) (h2:ds.length<=2) (hd:ds[i]? = some d):∃v,fs.lookup (fldS i)=some v/\Rep K H d v []:=by
 obtain ⟨v,B,h1,h3,h4⟩:=r.get hd
 have:=List.sublist_nil.mp h4
 subst this
 refine ⟨v,?_,h3⟩
 have hi:=(List.getElem?_eq_some_iff.mp hd).1
 have e:fs=(fldN ds.length).zip (fs.map (·.2)):=by rw [← hn];exact List.zip_of_prod rfl rfl
 have hl:=r.length
 generalize fs.map (·.2)=vs at e h1 hl
 clear hn r
 subst e
 match ds,h2,hi,vs,hl,h1 with
 | [d0],_,hi,[u],_,h1 =>
  have:i=0:=by simp at hi;exact hi
  subst this
  simp at h1;subst h1;rfl
 | [d0,d1],_,hi,[u,u'],_,h1 =>
  match i,hi,h1 with
  | 0,_,h1=>simp at h1;subst h1;rfl
  | 1,_,h1=>simp at h1;subst h1;rfl
def wFld (isC:Str->Bool) (i:Nat) (w:WE):WE:=λρ Q=>w ρ λd ρ1=>Qj6 d λx ds=>isC x=true/\ds.length<=2/\oget (ds[i]?) λv=>Q v ρ1
theorem Qbx {isC:Str->Bool} (i:Nat) (hC:∀x C,isC x=true->atN X.K x C->ClsD X.K C/\Jg X.K C (fldS i)) (he:EV X T m o e w) (hb:attributeBase e (fldS i) X.env (eval e X.env)=eval e X.env:=by rfl):EV X T m true (.Attribute e (fldS i) pos) (wFld isC i w):=by
 obtain ⟨te,pe,ge⟩:=he
 refine ⟨_,Qsc pe hb,λz R σ H W ρ Q Q' s hw kk=>?_⟩
 refine ge z R σ H W ρ _ _ s hw λv H1 W1 d ρ1 F p q=>?_
 obtain ⟨x,ds,rfl,hx,h2,q⟩:=Qd8 q
 obtain ⟨v0,hd,q⟩:=Qu q
 obtain ⟨a,C,dx,fs,rfl,rfl,ea,hc,hn,r⟩:=p.rep.iIst
 obtain ⟨cd,na⟩:=hC x C hx hc
 obtain ⟨u,hl,ru⟩:=Qm3 hn r h2 hd
 exact ⟨a,C,dx,fs,u,rfl,ea,cd.cls,na,hl,kk u H1 W1 v0 ρ1 [] ⟨p.sr,p.fr,p.calm,ru,λ_=>⟨List.nodup_nil,λa m=>nomatch m⟩⟩ q⟩
def Gw (isC:Str->Bool) (g:Str->GA) (w:WE):WE:=λρ Q=>w ρ λd ρ1=>Qj6 d λx ds=>isC x=true/\ds.length<=2/\g x [d] λr=>Q r ρ1
theorem U3 {isC:Str->Bool} {g:Str->GA} (hC:∀x C,isC x=true->atN X.K x C->ClsD X.K C/\∃f fd,Meth X.K C y f/\FnOk X.prog X.w X.K X.mg X.base CX0 k f fd ["self"] (spR X.K (g x))/\Z2 X.K fd ["self"] []) (hr:Room k X.A) (he:EV X T m o e w) (hy:y ≠ "one" /\ y ≠ "other":=by decide)
  (ht:eval (.Call (.Attribute e y apos) [] [] pos) X.env=(do
   let ov ← eval e X.env
   standAt apos.atName
   let (f,first) ← holding [ov] (getMethod ov y pl)
   callWith pos f first (backTo pos (starEach [] X.env)) (backToKw pos (keywordEach [] X.env))):=by rfl) :
  EV X T m true (.Call (.Attribute e y apos) [] [] pos) (Gw isC g w):=by
 obtain ⟨te,pe,ge⟩:=he
 refine ⟨_,Ql9 pe hr ht,λz R σ H W ρ Q Q' s hw kk=>?_⟩
 refine ge z R σ H W ρ _ _ s hw λv H1 W1 d ρ1 F p q=>?_
 obtain ⟨x,ds,rfl,hx,h2,q⟩:=Qd8 q
 obtain ⟨a,C,dx,fs,rfl,rfl,ea,hc,hn,r⟩:=p.rep.iIst
 obtain ⟨cd,f,fd,hm,Fk,hb⟩:=hC x C hx hc
 have hl:fs.lookup y=none:=by
  have gen:∀fs:List (Str × V),y∉fs.map (·.1)->fs.lookup y=none:=λfs=>by
   induction fs with
   | nil=>intro _;rfl
   | cons q fs ih =>
    intro h
    obtain ⟨q1,q2⟩:=q
    rw [List.lookup_cons,show (y == q1)=false by simpa using λz:y=q1=>h (by rw [z];exact List.mem_cons_self)]
    exact ih λz=>h (List.mem_cons_of_mem _ z)
  refine gen fs ?_
  rw [hn]
  match ds.length,h2 with
  | 0,_=>simp [fldN]
  | 1,_=>simpa [fldN] using hy.1
  | 2,_=>simpa [fldN] using hy
 exact ⟨a,C,dx,fs,f,fd,_,rfl,ea,cd.cls,hm,Fk,hb,hl,[.ist x ds],_,_,.cons p.rep .nil,q,λv H' dd F' fi hk=>kk v H' W1 dd ρ1 F' (Post.fin p.sr p.fr p.calm fi.same fi.rep fi.nd fi.new) hk⟩
end
section
variable {m o3:Bool} {e:Expr} {p:Pos}
def Qqt:G2:=λa b k=>match a,b with
 | .tup (d::ds),.int n=>Ql (d::ds)=true/\((n=1/\k (.tup (d::ds)))\/(n=0/\k (.tup [])))
 | _,_=>False
theorem Qp6:OpD X (binaryOp .Mult) Qqt:=by
 refine ⟨_,Qpy,λH a b x y F1 F2 k Q ra rb g q=>?_⟩
 obtain ⟨d,ds,n,rfl,rfl,hp,g'⟩:∃d ds n,a=.tup (d::ds)/\b=.int n/\Ql (d::ds)=true/\((n=1/\k (.tup (d::ds)))\/(n=0/\k (.tup []))):=by
  unfold Qqt at g
  split at g
  ·exact ⟨_,_,_,rfl,rfl,g⟩
  ·exact g.elim
 obtain rfl:=rb.iInt
 have hp':(D.tup (d::ds)).pure=true:=hp
 obtain ⟨-,ra⟩:=ra.pure hp'
 obtain ⟨t,zs,rfl,e,r2⟩:=ra.iTup
 obtain ⟨v0,vs,rfl⟩:∃v0 vs,zs=v0::vs:=by
  have:=r2.length
  cases zs with
  | nil=>simp at this
  | cons v0 vs=>exact ⟨v0,vs,rfl⟩
 refine ⟨t,n,v0,vs,rfl,rfl,.of e,?_⟩
 rcases g' with ⟨rfl,g'⟩ | ⟨rfl,g'⟩
 ·exact .inl ⟨rfl,q _ _ _ [] ⟨Same.refl H,ra,List.nodup_nil,λ_ m=>nomatch m⟩ g'⟩
 ·exact .inr ⟨rfl,λp hp=>q _ _ _ [] ⟨Qm hp,.tup Qk .nil,List.nodup_nil,λ_ m=>nomatch m⟩ g'⟩
def U8 (a b c:Str) (w1 w2 w3:WE):WE:=λρ Q=>w1 ρ λd1 ρ1=>d1.pure=true/\w2 ρ1 λd2 ρ2=>d2.pure=true/\w3 ρ2 λd3 ρ3=>d3.pure=true/\Q (.dik [(.inr a,d1),(.inr b,d2),(.inr c,d3)]) ρ3
theorem Qm5 {a b:Str} {e1 e2 e3:Expr} {w1 w2 w3:WE} {j1 j2 j3:Nat} {p1 p3:Pos} (hv1:EV X T false o1 e1 w1) (hv2:EV X T false o2 e2 w2) (hv3:EV X T false o3 e3 w3) (hab:a≠b:=by decide +kernel) (hac:a≠c:=by decide +kernel) (hbc:b≠c:=by decide +kernel) :
  EV X T false true (.Dict [some (.Constant (.str a) j1 p1),some (.Constant (.str b) j2 p2),some (.Constant (.str c) j3 p3)] [e1,e2,e3] pos) (U8 a b c w1 w2 w3):=by
 obtain ⟨t1,q1,g1⟩:=hv1
 obtain ⟨t2,q2,g2⟩:=hv2
 obtain ⟨t3,q3,g3⟩:=hv3
 refine ⟨_,Qpt (Qcf Qgl q1 (Qcf Qgl q2 (Qcf Qgl q3 Qpl))) rfl rfl (by simp) (by simp),λz R σ H W ρ Q Q' s hw k=>?_⟩
 intro l hl
 refine g1 z R σ _ W ρ _ _ (s.same (Qm hl)) hw λv1 H1 W1 d1 ρ1 F1 u1 ⟨h1,hw1⟩=>?_
 obtain ⟨c1,rfl,rfl⟩:=u1.calm rfl
 refine g2 z R σ H1 W1 ρ1 _ _ u1.sr hw1 λv2 H2 W2 d2 ρ2 F2 u2 ⟨h2,hw2⟩=>?_
 obtain ⟨c2,rfl,rfl⟩:=u2.calm rfl
 refine g3 z R σ H2 W2 ρ2 _ _ u2.sr hw2 λv3 H3 W3 d3 ρ3 F3 u3 ⟨h3,hw3⟩=>?_
 obtain ⟨c3,rfl,rfl⟩:=u3.calm rfl
 have r1:=(((u1.rep.pure h1).2).same c2).same c3
 have r2:=((u2.rep.pure h2).2).same c3
 have r3:=(u3.rep.pure h3).2
 have ha2:H3 l=some (.dK []):=c3 l _ (c2 l _ (c1 l _ Qk))
 have em:Qat [] [((.inr a:Key),v1),(.inr b,v2),(.inr c,v3)]=[(.inr a,v1),(.inr b,v2),(.inr c,v3)]:=by
  simp [Qat,putK,hab,hac,hbc,Ne.symm hab,Ne.symm hac,Ne.symm hbc]
 refine ⟨ha2,[(.inr a,v1),(.inr b,v2),(.inr c,v3)],rfl,by simp,?_⟩
 have sm:Same H (upd H3 l (.dK [(.inr a,v1),(.inr b,v2),(.inr c,v3)])):=λb u eb=>by
  have hne:b≠l:=Q7 eb hl
  rw [Qq hne]
  exact c3 b u (c2 b u (c1 b u (by rw [Qq hne];exact eb)))
 rw [em]
 refine k _ _ _ (.dik [(.inr a,d1),(.inr b,d2),(.inr c,d3)]) _ [l] (Post.fin s (FrW.refl H _) (λ_=>⟨Same.refl H,rfl,rfl⟩) sm (.dik Qk ?_) (by simp) (λc m=>by rw [List.mem_singleton.mp m];exact hl)) hw3
 exact RepK.cons (F:=[]) (G:=[]) (r1.upd ha2 rfl (by simp)) (RepK.cons (F:=[]) (G:=[]) (r2.upd ha2 rfl (by simp)) (RepK.cons (F:=[]) (G:=[]) (r3.upd ha2 rfl (by simp)) .nil))
abbrev q4 (q:D × D × D × D):D:=.tup [q.1,q.2.1,q.2.2.1,q.2.2.2]
abbrev q4r (q:D × D × D × D):D:=.tup [q.2.1,q.2.2.1,q.2.2.2,q.1]
structure CompB4 (X:Cx) (scope:Scope) (x y u v:Str):Prop where
 B1:CompB X scope x []
 B2:CompB X scope y []
 B3:CompB X scope u []
 B4:CompB X scope v []
 nd:(bN2 X.N [x,y,u,v] []).Nodup
theorem Qky {v:Str} (sc:Scope) (N:List Str) (h:(Qee sc scope N x [] && Qee sc scope N y [] && Qee sc scope N u [] && Qee sc scope N v [] && decide (bN2 N [x,y,u,v] []).Nodup)=true) (h1:X.env.scope=sc:=by rfl) (h2:X.N=N:=by rfl):CompB4 X scope x y u v:=by
 simp only [Bool.and_eq_true,decide_eq_true_eq] at h
 exact ⟨Jf sc N h.1.1.1.1 h1 h2,Jf sc N h.1.1.1.2 h1 h2,Jf sc N h.1.1.2 h1 h2,Jf sc N h.1.2 h1 h2,by rw [h2];exact h.2⟩
theorem pg4 {v:Str} {pu pv:Pos} (B:CompB4 X scope x y u v) (hc:X.calm=true) (cl:List (Str × Addr)) (C:Addr) (s₀:Shared) (H₀:Hp) (fp:List Addr) :
  PG (cxBlk X scope cl C (bN2 X.N [x,y,u,v] []) s₀ H₀ fp) (.Tuple [.Name x px,.Name y py,.Name u pu,.Name v pv] kt pt) (gTup X.K 4 (Qa2 (V1 0) (Qa2 (V1 1) (Qa2 (V1 2) (Qa2 (V1 3) gNil))))):=by
 have l1:(cxBlk X scope cl C (bN2 X.N [x,y,u,v] []) s₀ H₀ fp).env.scope.names.lookup x=some .local:=lookup_relabel_local B.B1.B.lx
 have l2:(cxBlk X scope cl C (bN2 X.N [x,y,u,v] []) s₀ H₀ fp).env.scope.names.lookup y=some .local:=lookup_relabel_local B.B2.B.lx
 have l3:(cxBlk X scope cl C (bN2 X.N [x,y,u,v] []) s₀ H₀ fp).env.scope.names.lookup u=some .local:=lookup_relabel_local B.B3.B.lx
 have l4:(cxBlk X scope cl C (bN2 X.N [x,y,u,v] []) s₀ H₀ fp).env.scope.names.lookup v=some .local:=lookup_relabel_local B.B4.B.lx
 exact Qja hc (Vp (Ua (i:=0) B.nd rfl (.inl l1) (.inr l1)) (Vp (Ua (i:=1) B.nd rfl (.inl l2) (.inr l2)) (Vp (Ua (i:=2) B.nd rfl (.inl l3) (.inr l3)) (Vp (Ua (i:=3) B.nd rfl (.inl l4) (.inr l4)) Qe4))))
def Qf1 (w:WE):WE:=λρ Q=>w ρ λd ρ1=>∃qs:List (D × D × D × D),d=.tup (qs.map q4)/\Ql (qs.map q4)=true/\qs.length<sizeLine/\Q (.lst (qs.map q4r)) ρ1
theorem Reps.four {a b c:D} (r:Reps K H [a,b,c,d] zs []):∃u1 u2 u3 u4,zs=[u1,u2,u3,u4]/\Rep K H a u1 []/\Rep K H b u2 []/\Rep K H c u3 []/\Rep K H d u4 []:=by
 have hl:=r.length
 match zs,hl with
 | [u1,u2,u3,u4],_ =>
  have g:∀(i:Nat) (x:D) (u:V),[a,b,c,d][i]? = some x->[u1,u2,u3,u4][i]? = some u->Rep K H x u []:=λi x u hx hu=>by
   obtain ⟨y,B,h1,h2,h3⟩:=r.get hx
   rw [hu] at h1
   cases h1
   rwa [List.sublist_nil.mp h3] at h2
  exact ⟨u1,u2,u3,u4,rfl,g 0 a u1 rfl rfl,g 1 b u2 rfl rfl,g 2 c u3 rfl rfl,g 3 d u4 rfl rfl⟩
def g4 (K:PySem.W.Frag):TG:=gTup K 4 (Qa2 (V1 0) (Qa2 (V1 1) (Qa2 (V1 2) (Qa2 (V1 3) gNil))))
theorem Qnh {v:Str} {pu pv qx qy qu qv qt:Pos} (he:EV X T m o iter w) (B:CompB4 X scope x y u v)
  (hd:(x == ("__debug__" : Str))=false/\(y == ("__debug__" : Str))=false/\(u == ("__debug__" : Str))=false/\(v == ("__debug__" : Str))=false) (hcd:(x == ("__classdict__" : Str))=false/\(y == ("__classdict__" : Str))=false/\(u == ("__classdict__" : Str))=false/\(v == ("__classdict__" : Str))=false) :
  Qfv X T m (.Tuple [.Name y qy,.Name u qu,.Name v qv,.Name x qx] k2 qt) iter (.Tuple [.Name x px,.Name y py,.Name u pu,.Name v pv] kt pt) [x,y,u,v] (g4 X.K) scope [] [] (Qf1 w):=by
 obtain ⟨te,pe,ge⟩:=he
 have l1:∀cl C s₀ H₀ fp,(cxBlk X scope cl C (bN2 X.N [x,y,u,v] []) s₀ H₀ fp).env.scope.names.lookup x=some .local:=λcl C s₀ H₀ fp=>lookup_relabel_local B.B1.B.lx
 have l2:∀cl C s₀ H₀ fp,(cxBlk X scope cl C (bN2 X.N [x,y,u,v] []) s₀ H₀ fp).env.scope.names.lookup y=some .local:=λcl C s₀ H₀ fp=>lookup_relabel_local B.B2.B.lx
 have l3:∀cl C s₀ H₀ fp,(cxBlk X scope cl C (bN2 X.N [x,y,u,v] []) s₀ H₀ fp).env.scope.names.lookup u=some .local:=λcl C s₀ H₀ fp=>lookup_relabel_local B.B3.B.lx
 have l4:∀cl C s₀ H₀ fp,(cxBlk X scope cl C (bN2 X.N [x,y,u,v] []) s₀ H₀ fp).env.scope.names.lookup v=some .local:=λcl C s₀ H₀ fp=>lookup_relabel_local B.B4.B.lx
 refine ⟨_,_,_,Qi8 pe,(λcl C s₀ H₀ fp=>Qgk),(λcl C s₀ H₀ fp=>Qoa (Vq (Va (i:=1) rfl (.inl (l2 cl C s₀ H₀ fp)) hd.2.1 hcd.2.1) (Vq (Va (i:=2) rfl (.inl (l3 cl C s₀ H₀ fp)) hd.2.2.1 hcd.2.2.1) (Vq (Va (i:=3) rfl (.inl (l4 cl C s₀ H₀ fp)) hd.2.2.2 hcd.2.2.2) (Vq (Va (i:=0) rfl (.inl (l1 cl C s₀ H₀ fp)) hd.1 hcd.1) Qdt))))),λz R σ H W ρ Q Q' s hw k=>?_⟩
 refine ge z R σ H W ρ _ _ s hw λv0 H1 W1 d ρ1 F p q=>?_
 obtain ⟨qs,rfl,hp,hz,hq⟩:=q
 obtain ⟨-,rp⟩:=p.rep.pure (show (D.tup (qs.map q4)).pure=true from hp)
 obtain ⟨a,xs,rfl,e1,r1⟩:=rp.iTup
 have hlen:=r1.length
 rw [List.length_map] at hlen
 refine ⟨a,rfl,.inr ⟨⟨xs,.of e1⟩,λi n ys H2=>Same H1 H2/\n=xs.length-i/\i<=xs.length/\Reps X.K H2 ((qs.take i).map q4r) ys [],xs.length,⟨Same.refl _,by simp,Nat.zero_le _,.nil⟩,?_⟩⟩
 rintro i n ys H2 ⟨sm,rfl,hi,ry⟩
 have e2:H2 a=some (.tup xs):=sm _ _ e1
 have hly:=ry.length
 rw [List.length_map,List.length_take] at hly
 by_cases hlt:i<xs.length
 ·refine .inr ⟨⟨xs,xs[i],.of e2,List.getElem?_eq_getElem hlt⟩,by omega,λv H3 yl o ol=>?_⟩
  obtain ⟨rfl,yl⟩:=yl
  have hv:=yl xs (.of e2)
  have hq0:i<qs.length:=by omega
  have hqi:(qs.map q4)[i]? = some (q4 qs[i]):=by rw [List.getElem?_map,List.getElem?_eq_getElem hq0];rfl
  obtain ⟨x9,B9,hx9,rx9,sx9⟩:=r1.get hqi
  rw [hv] at hx9
  cases hx9
  rw [List.sublist_nil.mp sx9] at rx9
  obtain ⟨t,zs,rfl,h3,r4⟩:=rx9.iTup
  obtain ⟨u1,u2,u3,u4,rfl,a1,a2,a3,a4⟩:=r4.four
  have h3':=sm _ _ h3
  refine ⟨t,[u1,u2,u3,u4],rfl,.of h3',rfl,u1,[u2,u3,u4],rfl,u2,[u3,u4],rfl,u3,[u4],rfl,u4,[],rfl,rfl,[some u1,some u2,some u3,some u4],?_,rfl,?_⟩
  ·match o,ol with
   | [o1,o2,o3,o4],_=>rfl
  ·unfold tAll
   dsimp only
   rw [if_pos rfl]
   have eS:((((bS2 σ o []).set 0 (some u1)).set 1 (some u2)).set 2 (some u3)).set 3 (some u4)=bS2 σ [some u1,some u2,some u3,some u4] []:=by
    match o,ol with
    | [o1,o2,o3,o4],_=>rfl
   rw [eS]
   refine ⟨u2,rfl,u3,rfl,u4,rfl,u1,rfl,(by decide:4<=sizeLine),λl hl=>⟨xs.length-(i+1),by omega,sm.trans (Qm hl),rfl,hlt,?_⟩⟩
   rw [List.take_add_one,List.getElem?_eq_getElem hq0,List.map_append]
   have sl:=Qm (ob:=.tup [u2,u3,u4,u1]) hl
   have smm:=sm.trans sl
   exact Reps.append (F:=[]) (G:=[]) (ry.same sl) (Reps.one (.tup Qk (.cons (F:=[]) (G:=[]) (a2.same smm) (.cons (F:=[]) (G:=[]) (a3.same smm) (.cons (F:=[]) (G:=[]) (a4.same smm) (.cons (F:=[]) (G:=[]) (a1.same smm) .nil))))))
 ·have e:i=xs.length:=by omega
  subst e
  refine .inl ⟨⟨xs,.of e2,Nat.le_refl _⟩,by omega,λl hl=>?_⟩
  rw [List.take_of_length_le (by omega)] at ry
  have sl:=sm.trans (Qm (ob:=.lst ys) hl)
  have hl1:H1 l=none:=by
   cases hh:H1 l with
   | none=>rfl
   | some ob=>have:=sm _ _ hh;rw [hl] at this;cases this
  exact k _ _ W1 (.lst (qs.map q4r)) ρ1 [l] ⟨p.sr.same sl,p.fr.trans (FrW.same W1 sl),λh=>⟨(p.calm h).1.trans sl,(p.calm h).2⟩,.lst Qk (ry.same (Qm hl)),λ_=>⟨by simp,λb hb=>by rw [List.mem_singleton.mp hb];exact ⟨p.fr.dom _ hl1,p.sr.nw hl1⟩⟩⟩ hq
theorem Qll {v:Str} {n:Str} {pu pv qx qy qu qv qt pn:Pos} (he:EV X T m o iter w) (B:CompB4 X scope x y u v) (hNd:X.N.Nodup)
  (hj:X.N[j]? = some n:=by rfl) (hy:Loc X.env.scope n:=by first | exact Or.inl rfl | exact Or.inr rfl) (hio:j∉T.io:=by decide)
  (hsw:swapsWith (.ListComp (.Tuple [.Name y qy,.Name u qu,.Name v qv,.Name x qx] k2 qt) [⟨.Tuple [.Name x px,.Name y py,.Name u pu,.Name v pv] kt pt,iter,[],0⟩] scope pos) (some (.Name n pn)) spos.line X.env=pure true:=by rfl)
  (hf:X.fn n=true\/X.env.scope.names.lookup n=some .local:=by first | exact .inl rfl | exact .inr rfl | assumption) (hc:X.calm=true:=by rfl)
  (hd:(x == ("__debug__" : Str))=false/\(y == ("__debug__" : Str))=false/\(u == ("__debug__" : Str))=false/\(v == ("__debug__" : Str))=false:=by decide) (hcd:(x == ("__classdict__" : Str))=false/\(y == ("__classdict__" : Str))=false/\(u == ("__classdict__" : Str))=false/\(v == ("__classdict__" : Str))=false:=by decide)
  (hs:∀x,foldedSetIterable iter X.env x=pure x:=by intro _;rfl) :
  SV X T (.Assign [.Name n pn] (.ListComp (.Tuple [.Name y qy,.Name u qu,.Name v qv,.Name x qx] k2 qt) [⟨.Tuple [.Name x px,.Name y py,.Name u pu,.Name v pv] kt pt,iter,[],0⟩] scope pos) spos) (wSet j (Qf1 w)):=by
 obtain ⟨wi,tt,te,h1,h2,h3,h4⟩:=Qnh (px:=px) (py:=py) (pu:=pu) (pv:=pv) (pt:=pt) (qx:=qx) (qy:=qy) (qu:=qu) (qv:=qv) (qt:=qt) (kt:=kt) (k2:=k2) he B hd hcd
 exact Qik ⟨_,Ql3 [] hc B.B1.B hNd hj hy hsw B.B1.hix B.nd h1 (pg4 B hc) h2 h3 hf hs,h4⟩ hio
end
end PV
variable {P:PySem.Program} {w:PySem.World} {d:Nat} {GR:PV.GA} {C_Level C_Single C_Upright:PySem.Addr}
namespace K59
open PySem PySem.Spec L2 PV P58
open PyProof.Rows (envOfC)
def top (i:Nat):Stmt:=PySem.Challenge.pw_tanglehouse_k59_webs_of_parts.main.body.getD i (.Pass ⟨0,0,0,0⟩)
def isC (x:Str):Bool:=decide (x=(Str.ofString "Level")) || decide (x=(Str.ofString "Upright")) || decide (x=(Str.ofString "Single")) || decide (x=(Str.ofString "Beside")) || decide (x=(Str.ofString "Above")) || decide (x=(Str.ofString "Turned")) || decide (x=(Str.ofString "Mirrored"))
structure Bn (K:PySem.W.Frag) (mg:Str->Option Value):Prop where
 nb_bool:mg "bool" = none
 nb_enumerate:mg "enumerate" = none
 nb_int:mg "int" = none
 nb_isinstance:mg "isinstance" = none
 nb_len:mg "len" = none
 nb_list:mg "list" = none
 nb_range:mg "range" = none
 nb_tuple:mg "tuple" = none
 c_RIM:∃t:Tok,mg "RIM" = some (.int (-1) t)
 ob:ObjD K
 fl:∀(i:Nat) (x:Str) (C:Addr),isC x=true->atN K x C->ClsD K C/\Jg K C (fldS i)
def Yh:GI:=λds k=>∃c n b,ds=[rowD c n,.int b]/\0<b/\b<1073741824/\0<=n/\n<=1000000/\∀c' r,0<=r->r<b->k (.int r) (rowD c' (n+1))
abbrev Yv:Stmt:=top 28
theorem Zs:FnScope ["_law_row","_law_base","_law_rest","_law_number"] ["_law_row","_law_base"] (Qe Yv):=⟨rfl,rfl,rfl,by decide +kernel,rfl,by decide +kernel,by decide +kernel⟩
def X3:Tg:={ own:=λi=>i == 0 || i == 2 || i == 3,io:=[0] }
def Xx:WS:=(wSeq (Yl 0 (wBin Yq (wBin dIx (wVar 0) (wC (.int 1))) (wC (.int 1))) (wC (.int 1)))
 (wSeq (wIf (wBl (wBin (dCmp λi j=>decide (j<i)) (wBin dIx (wVar 0) (wC (.int 0))) (wBin dPow (wC (.int 10)) (wC (.int 18))))) (wSeq (wSet 2 (wBin dSub (wBin dIx (wVar 0) (wC (.int 0))) (wBin dPow (wC (.int 10)) (wC (.int 18)))))
 (wSeq (Yl 0 (wBin Yq (wBin dPow (wC (.int 10)) (wC (.int 18))) (wBin dDiv (wVar 2) (wVar 1))) (wC (.int 0)))
 (wRet (wBin dMod (wVar 2) (wVar 1))))) Jh)
 (wSeq (wSet 3 (wBin dMod (wBin Yq (wBin Yq (wBin dMul (wBin dIx (wVar 0) (wC (.int 0))) (wC (.int 48271))) (wBin dMul (wBin dMul (wC (.int 7919)) (wBin dIx (wVar 0) (wC (.int 1)))) (wBin dIx (wVar 0) (wC (.int 1))))) (wC (.int 11))) (wC (.int 2147483629))))
 (wSeq (wSet 3 (wBin dMod (wBin Yq (wBin Yq (wBin dMul (wVar 3) (wVar 3)) (wBin dMul (wC (.int 69621)) (wBin dIx (wVar 0) (wC (.int 1))))) (wC (.int 7))) (wC (.int 2147483587))))
 (wRet (wBin dMod (wBin dDiv (wVar 3) (wC (.int 5))) (wVar 1)))))))
theorem Qfq (B:Bn K mg):∀(cdv:Value) (A:Around) (outer:List PySem.Env) (s:Shared) (H:Hp) (E:XK),Room 0 (A.deeper (envOfC "_law_take" (Qe Yv) s.heap.objs.size f cdv))->SVs (cxOf CX0 P w K mg base ["_law_row","_law_base","_law_rest","_law_number"] "_law_take" (Qe Yv) f cdv A outer s H E).nox X3 (Qy Yv) Xx:=λcdv A outer s H E hr =>
  (Qg (Yn (i:=0) (Qp hr) (Ja Q8 (Qs (Qt (Qp hr)) (Qc 0) Qd) Qd) Qd)
  (Qg (Za (Jx Quw (Qs (Qt (Qp hr)) (Qc 0) Qd) (Ja Qjm Qd Qd)) (Qg (Q4 (i:=2) (Ja Qaq (Qs (Qt (Qp hr)) (Qc 0) Qd) (Ja Qjm Qd Qd)) Zs.nd)
  (Qg (Yn (i:=0) (Qp hr) (Ja Q8 (Ja Qjm Qd Qd) (Ja Qjn (Qc 2) (Qc 1))) Qd)
  (Qj (Qx (Ja Qbs (Qc 2) (Qc 1)))))) Jc)
  (Qg (Q4 (i:=3) (Ja Qbs (Ja Q8 (Ja Q8 (Ja Qd2 (Qs (Qt (Qp hr)) (Qc 0) Qd) Qd) (Ja Qd2 (Ja Qd2 Qd (Qs (Qt (Qp hr)) (Qc 0) Qd)) (Qs (Qt (Qp hr)) (Qc 0) Qd))) Qd) Qd) Zs.nd)
  (Qg (Q4 (i:=3) (Ja Qbs (Ja Q8 (Ja Q8 (Ja Qd2 (Qc 3) (Qc 3)) (Ja Qd2 Qd (Qs (Qt (Qp hr)) (Qc 0) Qd))) Qd) Qd) Zs.nd)
  (Qj (Qx (Ja Qbs (Ja Qjn (Qc 3) Qd) (Qc 1))))))))
theorem Qdz (F:Fun K "_law_take" "_law_take" Yv f fd) (B:Bn K mg):FnOk P w K mg base CX0 1 f fd ["_law_row","_law_base"] (spI K 0 Yh):=by
 refine Qql (T:=X3) F Zs rfl rfl (λds kk h=>?_) (Qfq B) (λds kk h=>?_)
 ·obtain ⟨c,n,b,rfl,_⟩:=h
  exact ⟨rfl,_,rfl,rfl⟩
 ·obtain ⟨c,n,b,rfl,hb,hb2,hn,hn2,k⟩:=h
  have hn1:-18446744073709551616<n+1:=by omega
  have hn2':n+1<18446744073709551616:=by omega
  simp only [Xx,wSeq,Yl,wBin,env0,rowD,List.map_cons,List.map_nil,List.length_cons,List.length_nil,Nat.zero_add,Nat.reduceAdd,List.replicate,List.cons_append,List.nil_append,wC,wIf,wSet,wRet,Qw,Int.reduceLE,Int.reduceNeg,Int.reduceLT,Qru,Int.reduceToNat,Int.reducePow,Jh,r_bl,look,Option.isSome_some,List.set_cons_zero,List.set_cons_succ,Qh,true_and,Qrt,Nat.lt_add_one,Quy,List.length_set,Nat.zero_lt_succ,Quz,Qdq,Qhj,Y1,Y0,List.getElem?_cons_zero,Ql,Bool.and_true,Qlw,hb,Qgg,hb2,Qgj,V9,D.pure,Bool.true_and,List.getElem?_cons_succ,Qrv,Qi0,Jn,Qn4,hn1,hn2']
  split
  ·exact k _ _ (Int.emod_nonneg _ (by omega)) (Int.emod_lt_of_pos _ hb)
  ·have hx:-18446744073709551616<(c*48271+7919*(n+1)*(n+1)+11) % 2147483629/\(c*48271+7919*(n+1)*(n+1)+11) % 2147483629<18446744073709551616:=by omega
   generalize (c*48271+7919*(n+1)*(n+1)+11) % 2147483629=x at hx
   simp only [Int.reduceNeg,hx.1,hx.2,Qn4,V9,Int.reduceLT,Qgg,Qgj,hb]
   exact k _ _ (Int.emod_nonneg _ (by omega)) (Int.emod_lt_of_pos _ hb)
def mk (l:Bool) (xs:List D):D:=if l then .kls xs else .tup xs
def tD (l:Bool):Tr->D
 | .lf k=>mk l [.str (lfW k)]
 | .un b t=>mk l [.str (unW b),tD l t]
 | .bi b t u=>mk l [.str (biW b),tD l t,tD l u]
def lfC:Nat->Str
 | 0=>Str.ofString "Single"
 | 1=>Str.ofString "Level"
 | _=>Str.ofString "Upright"
def unC:Bool->Str
 | false=>Str.ofString "Turned"
 | true=>Str.ofString "Mirrored"
def biC:Bool->Str
 | false=>Str.ofString "Beside"
 | true=>Str.ofString "Above"
def oD:Tr->D
 | .lf k=>.ist (lfC k) []
 | .un b t=>.ist (unC b) [oD t]
 | .bi b t u=>.ist (biC b) [oD t,oD u]
theorem Qfb:∀t,(oD t).pure=true
 | .lf _=>rfl
 | .un _ _=>rfl
 | .bi _ _ _=>rfl
def Qke (d:Nat):GI:=λds k=>∃(c n:Int) (m:Nat),ds=[rowD c n,.int m]/\m<=d/\0<=n/\n+((4*4 ^ m:Nat):Int)<=100000/\∀(c' n':Int) (t:Tr),t.h<=m->n<=n'->n'<=n+((4*4 ^ m:Nat):Int)->k (tD false t) (rowD c' n')
def Ve:GI:=Qke 3
abbrev Ya:Stmt:=top 29
theorem Xg:FnScope ["_law_row","_law_deep","_law_way"] ["_law_row","_law_deep"] (Qe Ya):=⟨rfl,rfl,rfl,by decide +kernel,rfl,by decide +kernel,by decide +kernel⟩
def X1:Tg:={ own:=λi=>i == 0 || i == 2,io:=[0] }
def Xv (GR:GI):WS:=(wSeq (wSet 2 (V3 0 Yh (Qbe 0 (Qb (wC (.int 8)) wNil))))
 (wSeq (wIf (wOr (wBl (wBin dEq (wVar 1) (wC (.int 0)))) (wBl (wBin dEq (wVar 2) (wC (.int 0))))) (wRet (wBin dIx (wLst (Qb (wTup (Qb (wC (.str (Str.ofString "single"))) wNil)) (Qb (wTup (Qb (wC (.str (Str.ofString "single"))) wNil)) (Qb (wTup (Qb (wC (.str (Str.ofString "level"))) wNil)) (Qb (wTup (Qb (wC (.str (Str.ofString "upright"))) wNil)) wNil))))) (V3 0 Yh (Qbe 0 (Qb (wC (.int 4)) wNil))))) Jh)
 (wSeq (wIf (wBl (wBin (dCmp λi j=>decide (i<j)) (wVar 2) (wC (.int 3)))) (wRet (wTup (Qb (wBin dIx (wLst (Qb (wC (.str (Str.ofString "turned"))) (Qb (wC (.str (Str.ofString "mirrored"))) wNil))) (wBin dSub (wVar 2) (wC (.int 1)))) (Qb (V3 0 GR (Qbe 0 (Qb (wBin dSub (wVar 1) (wC (.int 1))) wNil))) wNil)))) Jh)
 (wRet (wTup (Qb (wBin dIx (wLst (Qb (wC (.str (Str.ofString "beside"))) (Qb (wC (.str (Str.ofString "above"))) wNil))) (wBin dMod (wVar 2) (wC (.int 2)))) (Qb (V3 0 GR (Qbe 0 (Qb (wBin dSub (wVar 1) (wC (.int 1))) wNil))) (Qb (V3 0 GR (Qbe 0 (Qb (wBin dSub (wVar 1) (wC (.int 1))) wNil))) wNil))))))))
theorem Qfo (B:Bn K mg) (C__law_take:Cal P w K mg base "_law_take" 1 ["_law_row","_law_base"] (spI K 0 Yh)) {GR:GI} (C__law_tree:Cal P w K mg base "_law_tree" j ["_law_row","_law_deep"] (spI K 0 GR)):∀(cdv:Value) (A:Around) (outer:List PySem.Env) (s:Shared) (H:Hp) (E:XK),Room (max j 1) (A.deeper (envOfC "_law_tree" (Qe Ya) s.heap.objs.size f cdv))->SVs (cxOf CX0 P w K mg base ["_law_row","_law_deep","_law_way"] "_law_tree" (Qe Ya) f cdv A outer s H E).nox X1 (Qy Ya) (Xv GR):=λcdv A outer s H E hr =>
  (Qg (Q4 (i:=2) (Vh C__law_take (hr.mono (by omega)) (G6 (i:=0) (Qa Qd Qf))) Xg.nd)
  (Qg (Za (Qeu (Qq2 (Jx (Ub hr.units) (Qc 1) Qd) (Qk7 (Jx (Ub hr.units) (Qc 2) Qd)))) (Qj (Qx (Qs (Qt (Qp hr)) (Zx (Qa (Qr (Qa Yr Qf)) (Qa (Qr (Qa Yr Qf)) (Qa (Qr (Qa Yr Qf)) (Qa (Qr (Qa Yr Qf)) Qf))))) (Vh C__law_take (hr.mono (by omega)) (G6 (i:=0) (Qa Qd Qf)))))) Jc)
  (Qg (Za (Jx Qp7 (Qc 2) Qd) (Qj (Qx (Qr (Qa (Qs (Qt (Qp hr)) (Zx (Qa Yr (Qa Yr Qf))) (Ja Qaq (Qc 2) Qd)) (Qa (Vh C__law_tree (hr.mono (by omega)) (G6 (i:=0) (Qa (Ja Qaq (Qc 1) Qd) Qf))) Qf))))) Jc)
  (Qj (Qx (Qr (Qa (Qs (Qt (Qp hr)) (Zx (Qa Yr (Qa Yr Qf))) (Ja Qbs (Qc 2) Qd)) (Qa (Vh C__law_tree (hr.mono (by omega)) (G6 (i:=0) (Qa (Ja Qaq (Qc 1) Qd) Qf))) (Qa (Vh C__law_tree (hr.mono (by omega)) (G6 (i:=0) (Qa (Ja Qaq (Qc 1) Qd) Qf))) Qf)))))))))
theorem Gb (F:Fun K "_law_tree" "_law_tree" Ya f fd) (B:Bn K mg) (C1:Cal P w K mg base "_law_take" 1 ["_law_row","_law_base"] (spI K 0 Yh)) {GR:GI} (C2:Cal P w K mg base "_law_tree" j ["_law_row","_law_deep"] (spI K 0 GR)) (hd:0<d->GR=Qke (d-1)) (h3:d<=3) :
  FnOk P w K mg base CX0 (max j 1+1) f fd ["_law_row","_law_deep"] (spI K 0 (Qke d)):=by
 refine Qql (T:=X1) F Xg rfl rfl (λds kk h=>?_) (Qfo B C1 C2) (λds kk h=>?_)
 ·obtain ⟨c,n,m,rfl,_⟩:=h
  exact ⟨rfl,_,rfl,rfl⟩
 ·obtain ⟨c,n,m,rfl,hm,hn,hn2,k⟩:=h
  simp only [Xv,wSeq,wSet,V3,Qbe,env0,rowD,List.map_cons,List.map_nil,List.length_cons,List.length_nil,Nat.zero_add,Nat.reduceAdd,List.replicate,List.cons_append,List.nil_append,look,Option.isSome_some,Qb,wC,wNil,Ql,D.pure,Bool.and_self,wIf,wOr,List.set_cons_zero,List.set_cons_succ,wRet,wBin,wLst,wTup,true_and,Jh,Bool.and_true,Qw,r_bl,reduceIte,Qh,Qlw,Xq,Jn,Qdq]
  refine ⟨c,n,8,rfl,by decide,by decide,hn,by omega,λc1 r1 h1 h2=>?_⟩
  simp only [rowD,Qdq,Ql,D.pure,Bool.and_self,true_and,Qlw,Qhj,Int.reduceLT,Qgg,Qi0,Jn,Xq]
  have hp:0<4 ^ m:=Nat.pow_pos (by decide)
  have sz:∀i:Nat,i<=4->i<=sizeLine:=λi hi=>Nat.le_trans hi (by decide)
  have leaf:1<=sizeLine/\1<=sizeLine/\1<=sizeLine/\1<=sizeLine/\4<=sizeLine/\Yh [D.lst [D.int c1,D.int (n+1)],D.int 4] λd d'=>dIx (D.lst [D.tup [D.str (Str.ofString "single")],D.tup [D.str (Str.ofString "single")],D.tup [D.str (Str.ofString "level")],D.tup [D.str (Str.ofString "upright")]]) d λd=>Us d'=true/\kk d d':=by
   refine ⟨sz _ (by decide),sz _ (by decide),sz _ (by decide),sz _ (by decide),sz _ (by decide),c1,n+1,4,rfl,by decide,by decide,by omega,by omega,λc2 r2 a1 a2=>?_⟩
   have fin:∀i:Nat,kk (tD false (.lf i)) (rowD c2 (n+1+1)):=λi=>k c2 (n+1+1) (.lf i) (Nat.zero_le _) (by omega) (by omega)
   rcases Qul (a:=D.tup [D.str (Str.ofString "single")]) (b:=D.tup [D.str (Str.ofString "single")]) (c:=D.tup [D.str (Str.ofString "level")]) (d:=D.tup [D.str (Str.ofString "upright")]) a1 a2 with q | q | q | q
   ·simp only [rowD,Qdq,Ql,D.pure,Bool.and_self,true_and,Qhj,q,Qh];exact fin 0
   ·simp only [rowD,Qdq,Ql,D.pure,Bool.and_self,true_and,Qhj,q,Qh];exact fin 0
   ·simp only [rowD,Qdq,Ql,D.pure,Bool.and_self,true_and,Qhj,q,Qh];exact fin 1
   ·simp only [rowD,Qdq,Ql,D.pure,Bool.and_self,true_and,Qhj,q,Qh];exact fin 2
  by_cases hm0:(m:Int)=0
  ·simp only [hm0,decide_true,reduceIte];exact leaf
  ·simp only [hm0,decide_false,Bool.false_eq_true,reduceIte]
   by_cases hr0:r1=0
   ·simp only [hr0,decide_true,reduceIte];exact leaf
   ·simp only [hr0,decide_false,Bool.false_eq_true,reduceIte]
    obtain ⟨m',rfl⟩:∃m',m=m'+1:=⟨m-1,by omega⟩
    have hG:=hd (by omega)
    subst hG
    have e1:((m'+1:Nat):Int)-1=(m':Int):=by omega
    rw [e1]
    have hpow:4 ^ (m'+1)=4 ^ m'*4:=Nat.pow_succ ..
    rw [hpow] at k hn2
    have hp:0<4 ^ m':=Nat.pow_pos (by decide)
    have hpb:4 ^ m'<=4 ^ 3:=Nat.pow_le_pow_right (by decide) (by omega)
    by_cases hr3:r1<3
    ·simp only [hr3,decide_true,reduceIte]
     obtain ⟨b,hb⟩:∃b:Bool,L2.atI [D.str (Str.ofString "turned"),D.str (Str.ofString "mirrored")] (r1-1)=some (.str (unW b)):=by
      have:r1=1\/r1=2:=by omega
      rcases this with rfl | rfl
      ·exact ⟨false,rfl⟩
      ·exact ⟨true,rfl⟩
     rw [hb]
     refine ⟨sz _ (by decide),c1,n+1,m',rfl,by omega,by omega,by omega,λc2 n2 t ht b1 b2=>⟨sz _ (by decide),rfl,?_⟩⟩
     exact k c2 n2 (.un b t) (by show t.h+1<=_;omega) (by omega) (by omega)
    ·simp only [hr3,decide_false,Bool.false_eq_true,reduceIte]
     obtain ⟨b,hb⟩:∃b:Bool,L2.atI [D.str (Str.ofString "beside"),D.str (Str.ofString "above")] (r1 % 2)=some (.str (biW b)):=by
      have:r1 % 2=0\/r1 % 2=1:=by omega
      rcases this with e | e
      ·exact ⟨false,by rw [e];rfl⟩
      ·exact ⟨true,by rw [e];rfl⟩
     rw [hb]
     refine ⟨sz _ (by decide),c1,n+1,m',rfl,by omega,by omega,by omega,λc2 n2 t ht b1 b2=>⟨rfl,c2,n2,m',rfl,by omega,by omega,by omega,λc3 n3 u hu b3 b4=>⟨sz _ (by decide),rfl,?_⟩⟩⟩
     exact k c3 n3 (.bi b t u) (by show max t.h u.h+1<=_;omega) (by omega) (by omega)
theorem Qtm (F:Fun K x x st f fd) (hm:mg x=some (.ref f)) (hk:PySem.W.keepIn K (.ref f)=true) (hb:Z2 K fd ps []):Cal P w K mg base x 0 ps (spI K p λ_ _=>False) :=
 ⟨f,fd,⟨λvs H Q E h=>by obtain ⟨ds,_,_,_,_,h,_⟩:=h;exact h.elim,λA outer s H args us vs Q E _ _ _ _ h=>by obtain ⟨ds,_,_,_,_,h,_⟩:=h;exact h.elim⟩,hm,hk,hb⟩
theorem Qdx (F:Fun K "_law_tree" "_law_tree" Ya f fd) (B:Bn K mg) (C1:Cal P w K mg base "_law_take" 1 ["_law_row","_law_base"] (spI K 0 Yh)) (hm:mg "_law_tree" = some (.ref f)) (hb:Z2 K fd ["_law_row","_law_deep"] []) :
  FnOk P w K mg base CX0 14 f fd ["_law_row","_law_deep"] (spI K 0 Ve):=by
 have s0:=Gb (d:=0) F B C1 (Qtm F hm F.kp hb) (λh=>nomatch h) (by decide)
 have s1:=Gb (d:=1) F B C1 ⟨f,fd,s0,hm,F.kp,hb⟩ (λ_=>rfl) (by decide)
 have s2:=Gb (d:=2) F B C1 ⟨f,fd,s1,hm,F.kp,hb⟩ (λ_=>rfl) (by decide)
 have s3:=Gb (d:=3) F B C1 ⟨f,fd,s2,hm,F.kp,hb⟩ (λ_=>rfl) (by decide)
 exact s3.mono (by decide)
theorem ixM {l:Bool} {i:Int}:dIx (mk l xs) (.int i) k=oget (L2.atI xs i) k:=by cases l <;> rfl
theorem lenM {l:Bool}:dLen [mk l xs] k=k (.int (xs.length:Nat)):=by cases l <;> rfl
theorem ofS (a b:String):(Str.ofString a=Str.ofString b)=(a=b):=propext ⟨λh=>by
 rw [Str.ofString_eq_toList,Str.ofString_eq_toList] at h
 injection h with h
 have h:=congrArg Array.toList h
 simp only at h
 have inj:∀l m:List Char,l.map Char.toNat=m.map Char.toNat->l=m:=λl=>by
  induction l with
  | nil=>intro m h;cases m with
   | nil=>rfl
   | cons _ _=>cases h
  | cons c l ih=>intro m h;cases m with
   | nil=>cases h
   | cons e m =>
    rw [List.map_cons,List.map_cons] at h
    injection h with h1 h2
    rw [ih m h2,Char.toNat_inj.mp h1]
 exact String.toList_inj.mp (inj _ _ h),λh=>by rw [h]⟩
def Qgv (d:Nat):GA:=λds k=>∃(l:Bool) (t:Tr),ds=[tD l t]/\t.h<=d/\k (oD t)
def Vf:GA:=Qgv 8
abbrev Yb:Stmt:=top 30
theorem Xh:FnScope ["_law_tree_here","_law_one"] ["_law_tree_here"] (Qe Yb):=⟨rfl,rfl,rfl,by decide +kernel,rfl,by decide +kernel,by decide +kernel⟩
def X4:Tg:={ own:=λi=>i == 1,io:=[] }
def Xy (GR:GA):WS:=(wSeq (wIf (wBl (wBin dEq (wBin dIx (wVar 0) (wC (.int 0))) (wC (.str (Str.ofString "single"))))) (wRet (wC (.ist (Str.ofString "Single") []))) Jh)
 (wSeq (wIf (wBl (wBin dEq (wBin dIx (wVar 0) (wC (.int 0))) (wC (.str (Str.ofString "level"))))) (wRet (wC (.ist (Str.ofString "Level") []))) Jh)
 (wSeq (wIf (wBl (wBin dEq (wBin dIx (wVar 0) (wC (.int 0))) (wC (.str (Str.ofString "upright"))))) (wRet (wC (.ist (Str.ofString "Upright") []))) Jh)
 (wSeq (wSet 1 (Qn GR (Qb (wBin dIx (wVar 0) (wC (.int 1))) wNil)))
 (wSeq (wIf (wBl (wBin dEq (wBin dIx (wVar 0) (wC (.int 0))) (wC (.str (Str.ofString "turned"))))) (wRet (wMk (Str.ofString "Turned") 1 (Qb (wVar 1) wNil))) Jh)
 (wSeq (wIf (wBl (wBin dEq (wBin dIx (wVar 0) (wC (.int 0))) (wC (.str (Str.ofString "mirrored"))))) (wRet (wMk (Str.ofString "Mirrored") 1 (Qb (wVar 1) wNil))) Jh)
 (wSeq (wIf (wBl (wBin dEq (wBin dIx (wVar 0) (wC (.int 0))) (wC (.str (Str.ofString "beside"))))) (wRet (wMk (Str.ofString "Beside") 2 (Qb (wVar 1) (Qb (Qn GR (Qb (wBin dIx (wVar 0) (wC (.int 2))) wNil)) wNil)))) Jh)
 (wRet (wMk (Str.ofString "Above") 2 (Qb (wVar 1) (Qb (Qn GR (Qb (wBin dIx (wVar 0) (wC (.int 2))) wNil)) wNil)))))))))))
theorem Qfr (B:Bn K mg) (I_Above:IniN P w K mg base "Above" 2 1) (I_Beside:IniN P w K mg base "Beside" 2 1) (K_Level:ClN K mg "Level" C_Level) (J_Level:PySem.W.findIn K (.ref C_Level) "__init__" = some (some (.builtin "object.__init__"))) (I_Mirrored:IniN P w K mg base "Mirrored" 1 1) (K_Single:ClN K mg "Single" C_Single) (J_Single:PySem.W.findIn K (.ref C_Single) "__init__" = some (some (.builtin "object.__init__"))) (I_Turned:IniN P w K mg base "Turned" 1 1) (K_Upright:ClN K mg "Upright" C_Upright) (J_Upright:PySem.W.findIn K (.ref C_Upright) "__init__" = some (some (.builtin "object.__init__"))) (C__law_part:Cal P w K mg base "_law_part" j ["_law_tree_here"] (spR K GR)):∀(cdv:Value) (A:Around) (outer:List PySem.Env) (s:Shared) (H:Hp) (E:XK),Room (max j 2) (A.deeper (envOfC "_law_part" (Qe Yb) s.heap.objs.size f cdv))->SVs (cxOf CX0 P w K mg base ["_law_tree_here","_law_one"] "_law_part" (Qe Yb) f cdv A outer s H E).nox X4 (Qy Yb) (Xy GR):=λcdv A outer s H E hr =>
  (Qg (Za (Jx (Ub hr.units) (Qs (Qt (Qp hr)) (Qc 0) Qd) Yr) (Qj (Qx (Qkh K_Single J_Single))) Jc)
  (Qg (Za (Jx (Ub hr.units) (Qs (Qt (Qp hr)) (Qc 0) Qd) Yr) (Qj (Qx (Qkh K_Level J_Level))) Jc)
  (Qg (Za (Jx (Ub hr.units) (Qs (Qt (Qp hr)) (Qc 0) Qd) Yr) (Qj (Qx (Qkh K_Upright J_Upright))) Jc)
  (Qg (Q4 (i:=1) (Qo C__law_part (hr.mono (by omega)) (Qa (Qs (Qt (Qp hr)) (Qc 0) Qd) Qf)) Xh.nd)
  (Qg (Za (Jx (Ub hr.units) (Qs (Qt (Qp hr)) (Qc 0) Qd) Yr) (Qj (Qx (Qgw I_Turned (hr.mono (by omega)) (Qa (Qc 1) Qf)))) Jc)
  (Qg (Za (Jx (Ub hr.units) (Qs (Qt (Qp hr)) (Qc 0) Qd) Yr) (Qj (Qx (Qgw I_Mirrored (hr.mono (by omega)) (Qa (Qc 1) Qf)))) Jc)
  (Qg (Za (Jx (Ub hr.units) (Qs (Qt (Qp hr)) (Qc 0) Qd) Yr) (Qj (Qx (Qgw I_Beside (hr.mono (by omega)) (Qa (Qc 1) (Qa (Qo C__law_part (hr.mono (by omega)) (Qa (Qs (Qt (Qp hr)) (Qc 0) Qd) Qf)) Qf))))) Jc)
  (Qj (Qx (Qgw I_Above (hr.mono (by omega)) (Qa (Qc 1) (Qa (Qo C__law_part (hr.mono (by omega)) (Qa (Qs (Qt (Qp hr)) (Qc 0) Qd) Qf)) Qf))))))))))))
theorem Qk6 (F:Fun K x x st f fd) (hm:mg x=some (.ref f)) (hb:Z2 K fd ps []):Cal P w K mg base x 0 ps (spR K λ_ _=>False) :=
 ⟨f,fd,⟨λvs H Q E h=>by obtain ⟨ds,_,_,_,h,_⟩:=h;exact h.elim,λA outer s H args us vs Q E _ _ _ _ h=>by obtain ⟨ds,_,_,_,h,_⟩:=h;exact h.elim⟩,hm,F.kp,hb⟩
theorem Qds (F:Fun K "_law_part" "_law_part" Yb f fd) (B:Bn K mg) (I_Above:IniN P w K mg base "Above" 2 1) (I_Beside:IniN P w K mg base "Beside" 2 1) (K_Level:ClN K mg "Level" C_Level) (J_Level:PySem.W.findIn K (.ref C_Level) "__init__" = some (some (.builtin "object.__init__"))) (I_Mirrored:IniN P w K mg base "Mirrored" 1 1) (K_Single:ClN K mg "Single" C_Single) (J_Single:PySem.W.findIn K (.ref C_Single) "__init__" = some (some (.builtin "object.__init__"))) (I_Turned:IniN P w K mg base "Turned" 1 1) (K_Upright:ClN K mg "Upright" C_Upright) (J_Upright:PySem.W.findIn K (.ref C_Upright) "__init__" = some (some (.builtin "object.__init__"))) (C2:Cal P w K mg base "_law_part" j ["_law_tree_here"] (spR K GR)) (hd:0<d->GR=Qgv (d-1)):FnOk P w K mg base CX0 (max j 2+1) f fd ["_law_tree_here"] (spR K (Qgv d)):=by
 refine Yk (T:=X4) F Xh rfl (by decide) (λds kk h=>?_) (Qfr B I_Above I_Beside K_Level J_Level I_Mirrored K_Single J_Single I_Turned K_Upright J_Upright C2) (λds kk h=>?_)
 ·obtain ⟨l,t,rfl,_⟩:=h
  rfl
 ·obtain ⟨l,t,rfl,ht,k⟩:=h
  simp only [Xy,wSeq,wIf,env0,List.map_cons,List.map_nil,List.length_cons,List.length_nil,Nat.zero_add,Nat.reduceAdd,List.replicate,List.cons_append,List.nil_append,wRet,wC,Jh,wSet,Qn,Qb,wBin,wNil,wMk,Ql,Bool.and_true,true_and,Qw,r_bl,look,List.set_cons_succ,List.set_cons_zero,Qh]
  cases t with
  | lf i =>
   simp only [tD,ixM,Zo,List.getElem?_cons_succ,Y1,List.getElem?_cons_zero,Qh,G1,Jn,Y0]
   match i with
   | 0=>simp only [lfW,ofS,String.reduceEq,decide_true,decide_false,Bool.false_eq_true,reduceIte];exact k
   | 1=>simp only [lfW,ofS,String.reduceEq,decide_true,decide_false,Bool.false_eq_true,reduceIte];exact k
   | i+2=>simp only [lfW,ofS,String.reduceEq,decide_true,decide_false,Bool.false_eq_true,reduceIte];exact k
  | un b t =>
   have hG:=hd (by simp only [Tr.h] at ht;omega)
   subst hG
   have hp:=Qfb t
   cases b
   ·simp only [tD,unW,ixM,Zo,List.getElem?_cons_succ,Y1,List.getElem?_cons_zero,Qh,G1,ofS,String.reduceEq,decide_false,Jn,Bool.false_eq_true,reduceIte,decide_true,Y0]
    exact ⟨l,t,rfl,by simp only [Tr.h] at ht;omega,by simp only [ofS,String.reduceEq,decide_true,decide_false,Bool.false_eq_true,reduceIte];exact ⟨hp,k⟩⟩
   ·simp only [tD,unW,ixM,Zo,List.getElem?_cons_succ,Y1,List.getElem?_cons_zero,Qh,G1,ofS,String.reduceEq,decide_false,Jn,Bool.false_eq_true,reduceIte,decide_true,Y0]
    exact ⟨l,t,rfl,by simp only [Tr.h] at ht;omega,by simp only [ofS,String.reduceEq,decide_true,decide_false,Bool.false_eq_true,reduceIte];exact ⟨hp,k⟩⟩
  | bi b t u =>
   have hG:=hd (by simp only [Tr.h] at ht;omega)
   subst hG
   have hp:=Qfb t
   have hp2:=Qfb u
   cases b
   ·simp only [tD,biW,ixM,Zo,List.getElem?_cons_succ,List.getElem?_cons_zero,Qh,Y1,G1,decide_true,Jn,reduceIte,ofS,String.reduceEq,decide_false,Bool.false_eq_true,Y0]
    exact ⟨l,t,rfl,by simp only [Tr.h] at ht;omega,l,u,rfl,by simp only [Tr.h] at ht;omega,by rw [hp,hp2];rfl,k⟩
   ·simp only [tD,biW,ixM,Zo,List.getElem?_cons_succ,List.getElem?_cons_zero,Qh,Y1,G1,ofS,String.reduceEq,decide_false,Jn,Bool.false_eq_true,reduceIte,Y0]
    exact ⟨l,t,rfl,by simp only [Tr.h] at ht;omega,l,u,rfl,by simp only [Tr.h] at ht;omega,by rw [hp,hp2];rfl,k⟩
theorem Qd0 (F:Fun K "_law_part" "_law_part" Yb f fd) (B:Bn K mg) (I_Above:IniN P w K mg base "Above" 2 1) (I_Beside:IniN P w K mg base "Beside" 2 1) (K_Level:ClN K mg "Level" C_Level) (J_Level:PySem.W.findIn K (.ref C_Level) "__init__" = some (some (.builtin "object.__init__"))) (I_Mirrored:IniN P w K mg base "Mirrored" 1 1) (K_Single:ClN K mg "Single" C_Single) (J_Single:PySem.W.findIn K (.ref C_Single) "__init__" = some (some (.builtin "object.__init__"))) (I_Turned:IniN P w K mg base "Turned" 1 1) (K_Upright:ClN K mg "Upright" C_Upright) (J_Upright:PySem.W.findIn K (.ref C_Upright) "__init__" = some (some (.builtin "object.__init__")))
  (hm:mg "_law_part" = some (.ref f)) (hb:Z2 K fd ["_law_tree_here"] []):FnOk P w K mg base CX0 14 f fd ["_law_tree_here"] (spR K Vf):=by
 have st:∀d:Nat,FnOk P w K mg base CX0 (3+d) f fd ["_law_tree_here"] (spR K (Qgv d)):=λd=>by
  induction d with
  | zero=>exact (Qds (d:=0) F B I_Above I_Beside K_Level J_Level I_Mirrored K_Single J_Single I_Turned K_Upright J_Upright (Qk6 F hm hb) (λh=>nomatch h)).mono (by decide)
  | succ d ih=>exact (Qds (d:=d+1) F B I_Above I_Beside K_Level J_Level I_Mirrored K_Single J_Single I_Turned K_Upright J_Upright ⟨f,fd,ih,hm,F.kp,hb⟩ (λ_=>rfl)).mono (by omega)
 exact (st 8).mono (by decide)
end K59
variable {h g1:Nat->Nat} {x y k m1 m2:Nat} {v:PV.D} {T:List (List L2.Key × PV.D)} {A1 A2:Nat->Int}
namespace K59
open PySem PySem.Spec L2 PV
open PyProof.Rows (envOfC)
theorem big (h:n<=1000):n<sizeLine:=Nat.lt_of_le_of_lt h (by decide)
def crD (A:Nat->Int) (k:Nat):D:=.tup ((List.range 4).map λj=>.int (A (4*k+j)))
def Zv:GA:=λds k=>∃(m e:Nat) (A:Nat->Int) (r:Int),ds=[webD m e A r]/\m<=100/\e<=100/\k (.dik (encP (spD m) (M.plc A (4*m+e))))
abbrev Ui:Stmt:=top 3
theorem Y2:FnScope ["web","told","k","crossing","j","arc"] ["web"] (Qe Ui):=⟨rfl,rfl,rfl,by decide +kernel,rfl,by decide +kernel,by decide +kernel⟩
def Qf8:Tg:={ own:=λi=>i == 1 || i == 2 || i == 3 || i == 4 || i == 5,io:=[] }
def Qfy:WS:=(wSeq (wSet 1 (wC (.dik [])))
 (wSeq (wFor (Qg9 (Qb (wBin dIx (wVar 0) (wC (.int 0))) wNil)) (Qhx 2 (Uw (gN 2) (Uw (gN 3) Qhy))) (wFor (Qg9 (Qb (wVar 3) wNil)) (Qhx 2 (Uw (gN 4) (Uw (gN 5) Qhy))) (wSda 1 (wVar 5) (wTup (Qb (wVar 2) (Qb (wVar 4) wNil))))))
 (wSeq (wFor (Qg9 (Qb (wBin dIx (wVar 0) (wC (.int 1))) wNil)) (Qhx 2 (Uw (gN 4) (Uw (gN 5) Qhy))) (wSda 1 (wVar 5) (wTup (Qb (wC (.int (-1))) (Qb (wVar 4) wNil)))))
 (Qh8 1))))
theorem Qnm (B:Bn K mg):∀(cdv:Value) (A:Around) (outer:List PySem.Env) (s:Shared) (H:Hp) (E:XK),Room 0 (A.deeper (envOfC "places" (Qe Ui) s.heap.objs.size f cdv))->SVs (cxOf CX0 P w K mg base ["web","told","k","crossing","j","arc"] "places" (Qe Ui) f cdv A outer s H E).nox Qf8 (Qy Ui) Qfy:=λcdv A outer s H E hr =>
  (Qg (Q4 (i:=1) Qcu Y2.nd)
  (Qg (Zr PassesOwn.never (Qcq B.nb_enumerate (Qa (Qs (Qt (Qp hr)) (Qc 0) Qd) Qf)) (Qgu (Zu (Ju (i:=2) Y2.nd) (Zu (Ju (i:=3) Y2.nd) Qcs))) (Qj (Zr PassesOwn.never (Qcq B.nb_enumerate (Qa (Qc 3) Qf)) (Qgu (Zu (Ju (i:=4) Y2.nd) (Zu (Ju (i:=5) Y2.nd) Qcs))) (Qj (Qnv (i:=1) (Qc 5) (Qr (Qa (Qc 2) (Qa (Qc 4) Qf))))))))
  (Qg (Zr PassesOwn.never (Qcq B.nb_enumerate (Qa (Qs (Qt (Qp hr)) (Qc 0) Qd) Qf)) (Qgu (Zu (Ju (i:=4) Y2.nd) (Zu (Ju (i:=5) Y2.nd) Qcs))) (Qj (Qnv (i:=1) (Qc 5) (Qr (Qa (Qqm B.c_RIM.choose_spec) (Qa (Qc 4) Qf))))))
  (Qj (Qil (i:=1))))))
theorem Qi7 (ht:t<900) {P:EndsP} {wk:WE} {a:Int} (ha:a=A t)
  (h1:look ρ 1=some (.dik (encP (spD m) (M.plc A t)))) (hk:∀Q,Q (.int a) ρ->wk ρ Q) (hv:∀d Q,Q (spD m t) (ρ.set 1 d)->wv (ρ.set 1 d) Q) (hn:P.nx (ρ.set 1 (some (.dik (encP (spD m) (M.plc A (t+1))))))):wSda 1 wk wv P ρ:=by
 obtain ⟨k1,k2,_⟩:=M.Qdr A t
 unfold wSda
 rw [h1]
 obtain ⟨l,hl,v1,v2⟩:=Qo6 (s:=spD m) (P:=M.plc A t) (a:=a) (i:=t) k1
 have hlen:l.length<=t:=by
  rcases hl with rfl | ⟨e,he,rfl⟩
  ·exact Nat.zero_le _
  ·exact Ql4 A t e he
 refine ⟨?_,Qkk k1,hk _ ?_⟩
 ·have:=Qe3 A t
  unfold encP
  rw [List.length_map]
  exact big (by omega)
 ·show oget (valD (Z4 (encP (spD m) (M.plc A t)) (.inl a)) (.inl a)) _
  rw [v1]
  refine ⟨by rw [List.length_map];exact big (by omega),hv _ _ ⟨Qph,?_⟩⟩
  rw [v2,ha,← M.Um]
  exact hn
theorem Qji (F:Fun K "places" "places" Ui f fd) (B:Bn K mg):FnOk P w K mg base CX0 1 f fd ["web"] (spR K Zv):=by
 refine Yk (T:=Qf8) F Y2 rfl (by decide) (λds kk h=>?_) (Qnm B) (λds kk h=>?_)
 ·obtain ⟨m,e,A,r,rfl,_⟩:=h
  rfl
 ·obtain ⟨m,e,A,r,rfl,hm,he,k⟩:=h
  simp only [Qfy,wSeq,wSet,wC,Int.reduceNeg,env0,webD,List.map_cons,List.map_nil,List.length_cons,List.length_nil,Nat.zero_add,Nat.reduceAdd,List.replicate,List.cons_append,List.nil_append,List.set_cons_succ,List.set_cons_zero,Gh,Qgi,Qb,wBin,wNil,Qw,look,Qh,Zd,Y1,List.getElem?_cons_zero,Qcb]
  have pc:Ql ((List.range m).map λk=>D.tup ((List.range 4).map λj=>.int (A (4*k+j))))=true:=Qi λ_ _=>by simp only [D.pure];exact Qi λ_ _=>rfl
  have pe:Ql ((List.range e).map λj=>D.int (A (4*m+j)))=true:=Qi λ_ _=>rfl
  refine ⟨pc,Gj pc,λk ρ=>∃o2 o3 o4 o5:Option D,ρ=[some (webD m e A r),some (.dik (encP (spD m) (M.plc A (4*k)))),o2,o3,o4,o5],⟨none,none,none,none,rfl⟩,?_,?_⟩
  ·rintro i d ρ hd ⟨o2,o3,o4,o5,rfl⟩
   rw [Vi] at hd
   have hi:i<m:=by
    cases q:((List.range m).map λk=>D.tup ((List.range 4).map λj=>.int (A (4*k+j))))[i]? with
    | none=>rw [q] at hd;cases hd
    | some z=>simpa using (List.getElem?_eq_some_iff.mp q).1
   rw [List.getElem?_map,List.getElem?_range hi] at hd
   have hd:=(Option.some.inj hd).symm
   subst hd
   have pi:Ql ((List.range 4).map λj=>D.int (A (4*i+j)))=true:=Qi λ_ _=>rfl
   simp only [Nat.zero_add,Int.reduceNeg,Gh,Qgi,Qb,wNil,Qw,Qdo,List.length_cons,List.length_nil,Nat.reduceAdd,Qag,gN,List.set_cons_succ,List.set_cons_zero,Qdp,look,Qh,Qcb,true_and]
   refine ⟨pi,Gj pi,λj ρ=>∃o4 o5:Option D,ρ=[some (webD m e A r),some (.dik (encP (spD m) (M.plc A (4*i+j)))),some (.int (i:Int)),some (crD A i),o4,o5],⟨o4,o5,by simp [crD]⟩,?_,?_⟩
   ·rintro j d ρ hd ⟨o4,o5,rfl⟩
    rw [Vi] at hd
    have hj:j<4:=by
     cases q:((List.range 4).map λj=>D.int (A (4*i+j)))[j]? with
     | none=>rw [q] at hd;cases hd
     | some z=>simpa using (List.getElem?_eq_some_iff.mp q).1
    rw [List.getElem?_map,List.getElem?_range hj] at hd
    have hd:=(Option.some.inj hd).symm
    subst hd
    simp only [Nat.zero_add,Qdo,List.length_cons,List.length_nil,Nat.reduceAdd,Qag,gN,List.set_cons_succ,List.set_cons_zero,Qdp,true_and]
    refine Qi7 (m:=m) (t:=4*i+j) (A:=A) (a:=A (4*i+j)) (by omega) rfl rfl (λQ hQ=>?_) (λd Q hQ=>?_) ?_
    ·simp only [Qw,look,Qh];exact hQ
    ·simp only [wTup,Qb,List.set_cons_succ,List.set_cons_zero,wNil,List.length_cons,List.length_nil,Nat.zero_add,Nat.reduceAdd,Qw,look,Qh]
     refine ⟨by decide,?_⟩
     simpa [spD,M.Qin hi hj] using hQ
    ·exact ⟨some (.int (j:Int)),some (.int (A (4*i+j))),by simp [Nat.add_assoc]⟩
   ·rintro ρ ⟨o4,o5,rfl⟩
    have hl:(Ue 0 ((List.range 4).map λj=>D.int (A (4*i+j)))).length=4:=by rw [Yj];simp
    exact ⟨some (.int (i:Int)),some (crD A i),o4,o5,by rw [hl,Nat.mul_add]⟩
  ·rintro ρ ⟨o2,o3,o4,o5,rfl⟩
   have hl:(Ue 0 ((List.range m).map λk=>D.tup ((List.range 4).map λj=>.int (A (4*k+j))))).length=m:=by rw [Yj];simp
   rw [hl]
   simp only [wSeq,Int.reduceNeg,webD,Gh,Qgi,Qb,wBin,wC,wNil,Qw,look,Qh,Zd,Y0,List.getElem?_cons_succ,List.getElem?_cons_zero,Qcb]
   refine ⟨pe,Gj pe,λj ρ=>∃o4 o5:Option D,ρ=[some (webD m e A r),some (.dik (encP (spD m) (M.plc A (4*m+j)))),o2,o3,o4,o5],⟨o4,o5,by simp [webD]⟩,?_,?_⟩
   ·rintro j d ρ hd ⟨o4,o5,rfl⟩
    rw [Vi] at hd
    have hj:j<e:=by
     cases q:((List.range e).map λj=>D.int (A (4*m+j)))[j]? with
     | none=>rw [q] at hd;cases hd
     | some z=>simpa using (List.getElem?_eq_some_iff.mp q).1
    rw [List.getElem?_map,List.getElem?_range hj] at hd
    have hd:=(Option.some.inj hd).symm
    subst hd
    simp only [Nat.zero_add,Int.reduceNeg,Qdo,List.length_cons,List.length_nil,Nat.reduceAdd,Qag,gN,List.set_cons_succ,List.set_cons_zero,Qdp,true_and]
    refine Qi7 (m:=m) (t:=4*m+j) (A:=A) (a:=A (4*m+j)) (by omega) rfl rfl (λQ hQ=>?_) (λd Q hQ=>?_) ?_
    ·simp only [Qw,look,Qh];exact hQ
    ·simp only [wTup,Qb,wC,List.set_cons_succ,List.set_cons_zero,wNil,Int.reduceNeg,List.length_cons,List.length_nil,Nat.zero_add,Nat.reduceAdd,Qw,look,Qh]
     refine ⟨by decide,?_⟩
     simpa [spD,M.Z3] using hQ
    ·exact ⟨some (.int (j:Int)),some (.int (A (4*m+j))),by simp [Nat.add_assoc]⟩
   ·rintro ρ ⟨o4,o5,rfl⟩
    have hl:(Ue 0 ((List.range e).map λj=>D.int (A (4*m+j)))).length=e:=by rw [Yj];simp
    rw [hl]
    simp only [Qh8,look,Qh]
    exact k
def renF (f:Int->Int):D->D
 | .int i=>.int (f i)
 | d=>d
def Vc:GA:=λds k=>∃(ns:List Int) (T:List (Key × D)) (f:Int->Int),ds=[.tup (ns.map .int),.dik T]/\ns.length<=100/\(∀n∈ns,valD T (.inl n)=some (.int (f n)))/\k (.tup (ns.map λn=>.int (f n)))
abbrev Zk:Stmt:=top 4
theorem Qhh:FnScope ["arcs","names"] ["arcs","names"] (Qe Zk):=⟨rfl,rfl,rfl,by decide +kernel,rfl,by decide +kernel,by decide +kernel⟩
def Qde:Tg:={ own:=λi=>false,io:=[] }
def Qc4:WS:=(wRet (Qn Zy (Qb (Ux (V0 (wVar 0)) wAll (Q0 (wBin dIx (wVar 1) (wVar 0))) [1]) wNil)))
theorem Qla (B:Bn K mg):∀(cdv:Value) (A:Around) (outer:List PySem.Env) (s:Shared) (H:Hp) (E:XK),Room 0 (A.deeper (envOfC "renamed" (Qe Zk) s.heap.objs.size f cdv))->SVs (cxOf CX0 P w K mg base ["arcs","names"] "renamed" (Qe Zk) f cdv A outer s H E).nox Qde (Qy Zk) Qc4:=λcdv A outer s H E hr =>
  (Qj (Qx (Jl J8 B.nb_tuple Jz (Qa (J7 (Yz [1] (Vb (Qc 0)) (λ_ _ _ _ _=>Vj) (λ_ _ _ _ _=>(Q3 (Qs (Qt (Qp hr)) (Qc 1) (Qc 0))))) (Jf (Qe Zk) ["arcs","names"] (by decide +kernel))) Qf))))
theorem Qhn (F:Fun K "renamed" "renamed" Zk f fd) (B:Bn K mg):FnOk P w K mg base CX0 1 f fd ["arcs","names"] (spR K Vc):=by
 refine Yk (T:=Qde) F Qhh rfl (by decide) (λds kk h=>?_) (Qla B) (λds kk h=>?_)
 ·obtain ⟨ns,T,f,rfl,_⟩:=h
  rfl
 ·obtain ⟨ns,T,f,rfl,hl,hT,k⟩:=h
  simp only [Qc4,wRet,Qn,Qb,env0,List.map_cons,List.map_nil,List.length_cons,List.length_nil,Nat.zero_add,Nat.reduceAdd,List.cons_append,List.nil_append,wNil,Vz,Gg,Qw,look,Qh,Xi]
  refine ⟨Zl,Jo (renF f) (by rw [List.length_map];exact big (by omega)) (λd hd Q' hQ=>?_) ?_⟩
  ·obtain ⟨n,hn,rfl⟩:=List.mem_map.mp hd
   simp only [Q0,wBin,blkE,List.map_cons,look,List.map_nil,Qw,Qh,Qn6,hT n hn,D.pure,true_and]
   exact hQ
  ·simp only [Vy]
   rw [List.map_map]
   exact ⟨Qi λ_ _=>rfl,k⟩
def Qv:GA:=λds k=>∃(m e:Nat) (A:Nat->Int) (r:Int),ds=[webD m e A r]/\m<=20/\e<=20/\k (webD m e (M.anw A (4*m+e)) r)
def crF (A:Nat->Int):D->D
 | .tup ds=>.tup (ds.map λd=>match d with | .int a=>.int (A a.toNat) | d=>d)
 | d=>d
def nmF (f:Int->Int):D->D
 | .tup ds=>.tup (ds.map (renF f))
 | d=>d
theorem Qre {f:Int->Int}:D.tup [.tup (((List.range m).map λk=>D.tup ((List.range 4).map λj=>.int (A (4*k+j)))).map (nmF f)),.tup (((List.range e).map λj=>A (4*m+j)).map λn=>.int (f n)),.int r]=webD m e (λi=>f (A i)) r:=by
 unfold webD
 rw [List.map_map,List.map_map]
 congr 3
abbrev J0:Stmt:=top 5
theorem Zb:FnScope ["web","names","arc","crossings"] ["web"] (Qe J0):=⟨rfl,rfl,rfl,by decide +kernel,rfl,by decide +kernel,by decide +kernel⟩
def Xc:Tg:={ own:=λi=>i == 1 || i == 2 || i == 3,io:=[] }
def G8:WS:=(wSeq (wSet 1 (wC (.dik [])))
 (wSeq (wFor (Qos (Qn Zv (Qb (wVar 0) wNil))) (gN 2) (Yl 1 (Qn dLen (Qb (wVar 1) wNil)) (wVar 2)))
 (wSeq (wSet 3 (Qn Zy (Qb (Ux (V0 (wBin dIx (wVar 0) (wC (.int 0)))) wAll (Qn Vc (Qb (wVar 0) (Qb (wVar 1) wNil))) [1]) wNil)))
 (wRet (Q0 (wTup (Qb (wVar 3) (Qb (Qn Vc (Qb (wBin dIx (wVar 0) (wC (.int 1))) (Qb (wVar 1) wNil))) (Qb (wBin dIx (wVar 0) (wC (.int 2))) wNil)))))))))
theorem Qek (B:Bn K mg) (C_places:Cal P w K mg base "places" 1 ["web"] (spR K Zv)) (C_renamed:Cal P w K mg base "renamed" 1 ["arcs","names"] (spR K Vc)):∀(cdv:Value) (A:Around) (outer:List PySem.Env) (s:Shared) (H:Hp) (E:XK),Room 1 (A.deeper (envOfC "named_anew" (Qe J0) s.heap.objs.size f cdv))->SVs (cxOf CX0 P w K mg base ["web","names","arc","crossings"] "named_anew" (Qe J0) f cdv A outer s H E).nox Xc (Qy J0) G8:=λcdv A outer s H E hr =>
  (Qg (Q4 (i:=1) Qcu Zb.nd)
  (Qg (Zr PassesOwn.never (Qqj (Qo C_places (hr.mono (by decide)) (Qa (Qc 0) Qf))) (Ju (i:=2) Zb.nd) (Qj (Yn (i:=1) (Qp hr) (Je Vk B.nb_len Zz (Qa (Qc 1) Qf)) (Qc 2))))
  (Qg (Q4 (i:=3) (Jl J8 B.nb_tuple Jz (Qa (J7 (Yz [1] (Vb (Qs (Qt (Qp hr)) (Qc 0) Qd)) (λ_ _ _ _ _=>Vj) (λ_ _ _ _ _=>(Qo C_renamed (hr.mono (by decide)) (Qa (Qc 0) (Qa (Qc 1) Qf))))) (Jf (Qe J0) ["web","names","arc","crossings"] (by decide +kernel))) Qf)) Zb.nd)
  (Qj (Qx (Q3 (Qr (Qa (Qc 3) (Qa (Qo C_renamed (hr.mono (by decide)) (Qa (Qs (Qt (Qp hr)) (Qc 0) Qd) (Qa (Qc 1) Qf))) (Qa (Qs (Qt (Qp hr)) (Qc 0) Qd) Qf))))))))))
theorem Qch (F:Fun K "named_anew" "named_anew" J0 f fd) (B:Bn K mg) (C1:Cal P w K mg base "places" 1 ["web"] (spR K Zv)) (C2:Cal P w K mg base "renamed" 1 ["arcs","names"] (spR K Vc)):FnOk P w K mg base CX0 2 f fd ["web"] (spR K Qv):=by
 refine Yk (T:=Xc) F Zb rfl (by decide) (λds kk h=>?_) (Qek B C1 C2) (λds kk h=>?_)
 ·obtain ⟨m,e,A,r,rfl,_⟩:=h
  rfl
 ·obtain ⟨m,e,A,r,rfl,hm,he,k⟩:=h
  simp only [G8,wSeq,wSet,wC,env0,List.map_cons,List.map_nil,List.length_cons,List.length_nil,Nat.zero_add,Nat.reduceAdd,List.replicate,List.cons_append,List.nil_append,List.set_cons_succ,List.set_cons_zero,Gh,Qpd,Qn,Qb,wNil,Qw,look,Qh]
  refine ⟨m,e,A,r,rfl,by omega,by omega,?_⟩
  simp only [Qlz,Qmu]
  refine ⟨Zl,λt ρ=>t<=(M.keys A (4*m+e)).length/\∃o:Option D,ρ=[some (webD m e A r),some (.dik (num 0 ((M.keys A (4*m+e)).take t))),o,none],⟨Nat.zero_le _,none,rfl⟩,?_,?_⟩
  ·rintro t d ρ hd ⟨ht,o,rfl⟩
   rw [List.getElem?_map] at hd
   cases hq:(M.keys A (4*m+e))[t]? with
   | none=>rw [show (M.plc A (4*m+e)).map (·.1)=M.keys A (4*m+e) from rfl,hq] at hd;cases hd
   | some a =>
    rw [show (M.plc A (4*m+e)).map (·.1)=M.keys A (4*m+e) from rfl,hq] at hd
    cases hd
    have hlt:=(List.getElem?_eq_some_iff.mp hq).1
    have hk:=M.Qmt A (4*m+e)
    have hno:a∉(M.keys A (4*m+e)).take t:=λhm'=>by
     obtain ⟨i,hi,e1⟩:=List.mem_take_iff_getElem.mp hm'
     have e2:=(List.getElem?_eq_some_iff.mp hq).2
     have:=(List.getElem_inj (M.Qqf A (4*m+e))).mp (e1.trans e2.symm)
     omega
    simp only [gN,Yl,Qn,Qb,List.set_cons_succ,List.set_cons_zero,wNil,Qw,look,Option.isSome_some,Qh,Qiz,true_and,Qn5,D.pure]
    refine ⟨by rw [Qfc,List.length_take];exact big (by omega),by omega,some (.int a),?_⟩
    rw [Qp9 hno,List.take_add_one,hq]
    rfl
  ·rintro ρ ⟨ht,o,rfl⟩
   rw [show ((M.plc A (4*m+e)).map (·.1)).map D.int=(M.keys A (4*m+e)).map D.int from rfl,List.length_map,List.take_length]
   have hval:∀i,i<4*m+e->valD (num 0 (M.keys A (4*m+e))) (.inl (A i))=some (.int (M.anw A (4*m+e) i)):=λi hi=>by
    rw [Qjp (M.Vu hi)];simp [M.anw]
   simp only [wSeq,wSet,Qn,Qb,webD,wNil,wRet,Q0,wTup,wBin,wC,List.length_cons,List.length_nil,Nat.zero_add,Nat.reduceAdd,D.pure,Ql,Bool.and_true,Qw,Vz,Gg,look,Qh,Zd,Y1,List.getElem?_cons_zero,Xi]
   refine ⟨Qi λ_ _=>by simp only [D.pure];exact Qi λ_ _=>rfl,Jo (nmF λa=>((M.ix a (M.keys A (4*m+e)):Nat):Int)) (by simp;exact big (by omega)) (λd hd Q' hQ=>?_) ?_⟩
   ·obtain ⟨kk,hk,rfl⟩:=List.mem_map.mp hd
    have hk:=List.mem_range.mp hk
    simp only [Qn,Qb,blkE,List.map_cons,look,List.map_nil,wNil,Qw,Qh]
    refine ⟨(List.range 4).map λj=>A (4*kk+j),num 0 (M.keys A (4*m+e)),λa=>((M.ix a (M.keys A (4*m+e)):Nat):Int),by simp,by simp,λn hn=>?_,?_⟩
    ·obtain ⟨j,hj,rfl⟩:=List.mem_map.mp hn
     have hj:=List.mem_range.mp hj
     exact hval _ (by omega)
    ·have e1:D.tup (((List.range 4).map λj=>A (4*kk+j)).map λn=>.int ((M.ix n (M.keys A (4*m+e)):Nat):Int))=nmF (λa=>((M.ix a (M.keys A (4*m+e)):Nat):Int)) (D.tup ((List.range 4).map λj=>.int (A (4*kk+j)))):=by
      simp [nmF,renF,Function.comp]
     rw [e1]
     exact hQ
   ·simp only [List.set_cons_succ,List.set_cons_zero,look,Qh,Zd,Zo,List.getElem?_cons_succ,List.getElem?_cons_zero,D.pure,Bool.and_true,Y0,Vy]
    refine ⟨Qi λd hd=>?_,?_⟩
    ·obtain ⟨kk,hk,rfl⟩:=List.mem_map.mp hd
     simp only [nmF,D.pure,List.map_map]
     exact Qi λ_ _=>rfl
    ·refine ⟨(List.range e).map λj=>A (4*m+j),num 0 (M.keys A (4*m+e)),λa=>((M.ix a (M.keys A (4*m+e)):Nat):Int),by simp,by simp;omega,λn hn=>?_,by decide,?_⟩
     ·obtain ⟨j,hj,rfl⟩:=List.mem_map.mp hn
      have hj:=List.mem_range.mp hj
      exact hval _ (by omega)
     ·rw [Qre]
      refine ⟨?_,k⟩
      rw [Bool.and_eq_true]
      refine ⟨Qi λd hd=>?_,by simp only [D.pure];exact Qi λ_ _=>rfl⟩
      obtain ⟨kk,hk,rfl⟩:=List.mem_map.mp hd
      simp only [nmF,D.pure,List.map_map]
      exact Qi λ_ _=>rfl
theorem U6 {κ:Type} [DecidableEq κ] {kvs:List (κ × D)} {k:κ} (h:(kvs.all λkv=>kv.2.pure)=true) (hv:v.pure=true):((putD kvs k v).all λkv=>kv.2.pure)=true:=by
 rw [List.all_eq_true] at *
 intro x hx
 unfold putD at hx
 split at hx
 ·obtain ⟨y,hy,rfl⟩:=List.mem_map.mp hx
  split
  ·exact hv
  ·exact h y hy
 ·rcases List.mem_append.mp hx with hx | hx
  ·exact h x hx
  ·rw [List.mem_singleton.mp hx];exact hv
theorem Qg6 {κ:Type} [DecidableEq κ] {kvs:List (κ × D)} {k:κ} (h:(kvs.all λkv=>kv.2.pure)=true):((Y8 kvs k).all λkv=>kv.2.pure)=true:=by
 rw [List.all_eq_true] at *
 exact λx hx=>h x (List.mem_filter.mp hx).1
theorem U9 {κ:Type} [DecidableEq κ] {k j:κ}:∀{kvs:List (κ × D)},valD (Y8 kvs k) j=if j=k then none else valD kvs j
 | []=>by rw [show Y8 ([]:List (κ × D)) k=[] from rfl,Qf4];split <;> rfl
 | p::r=>by
  unfold Y8
  by_cases h:p.1=k
  ·rw [List.filter_cons_of_neg (by simpa using h)]
   show valD (Y8 r k) j=_
   rw [U9,Jb]
   by_cases hj:j=k
   ·rw [if_pos hj,if_pos hj]
   ·rw [if_neg hj,if_neg hj,if_neg λz=>hj (z.symm.trans h)]
  ·rw [List.filter_cons_of_pos (by simpa using h),Jb]
   show (if p.1=j then some p.2 else valD (Y8 r k) j)=_
   rw [U9,Jb]
   by_cases hj:j=k
   ·rw [if_pos hj,if_pos hj,if_neg λz=>h (z.trans hj)]
   ·rw [if_neg hj,if_neg hj]
theorem Qgs {κ:Type} [DecidableEq κ] {kvs:List (κ × D)} {k:κ}:(Y8 kvs k).length<=kvs.length:=List.length_filter_le _ _
def Zn:GA:=λds k=>∃(m e:Nat) (A:Nat->Int) (r:Int),ds=[webD m e A r]/\m<=100/\e<=100/\k (.lst ((List.range (4*m+e)).map (spD m)))
abbrev Jq:Stmt:=top 32
theorem Zc:FnScope ["_law_web","_law_found","_law_k"] ["_law_web"] (Qe Jq):=⟨rfl,rfl,rfl,by decide +kernel,rfl,by decide +kernel,by decide +kernel⟩
def Xd:Tg:={ own:=λi=>i == 1 || i == 2,io:=[] }
def G9:WS:=(wSeq (wSet 1 (wLst wNil))
 (wSeq (wFor (Qbd (Qb (Qn dLen (Qb (wBin dIx (wVar 0) (wC (.int 0))) wNil)) wNil)) (gN 2) (wSet 1 (wBin Yq (wVar 1) (Ux (Qbd (Qb (wC (.int 4)) wNil)) wAll (Q0 (wTup (Qb (wVar 1) (Qb (wVar 0) wNil)))) [2]))))
 (wRet (wBin Yq (wVar 1) (Ux (Qbd (Qb (Qn dLen (Qb (wBin dIx (wVar 0) (wC (.int 1))) wNil)) wNil)) wAll (Q0 (wTup (Qb (wUn dNeg (wC (.int 1))) (Qb (wVar 0) wNil)))) [])))))
theorem Qel (B:Bn K mg):∀(cdv:Value) (A:Around) (outer:List PySem.Env) (s:Shared) (H:Hp) (E:XK),Room 0 (A.deeper (envOfC "_law_spots" (Qe Jq) s.heap.objs.size f cdv))->SVs (cxOf CX0 P w K mg base ["_law_web","_law_found","_law_k"] "_law_spots" (Qe Jq) f cdv A outer s H E).nox Xd (Qy Jq) G9:=λcdv A outer s H E hr =>
  (Qg (Q4 (i:=1) (Zx Qf) Zc.nd)
  (Qg (Zr PassesOwn.never (Y6 B.nb_range (Qa (Je Vk B.nb_len Zz (Qa (Qs (Qt (Qp hr)) (Qc 0) Qd) Qf)) Qf)) (Ju (i:=2) Zc.nd) (Qj (Q4 (i:=1) (Ja Q8 (Qc 1) (J7 (Yz [2] (Y6 B.nb_range (Qa Qd Qf)) (λ_ _ _ _ _=>Vj) (λ_ _ _ _ _=>(Q3 (Qr (Qa (Qc 1) (Qa (Qc 0) Qf)))))) (Jf (Qe Jq) ["_law_web","_law_found","_law_k"] (by decide +kernel)))) Zc.nd)))
  (Qj (Qx (Ja Q8 (Qc 1) (J7 (Yz [] (Y6 B.nb_range (Qa (Je Vk B.nb_len Zz (Qa (Qs (Qt (Qp hr)) (Qc 0) Qd) Qf)) Qf)) (λ_ _ _ _ _=>Vj) (λ_ _ _ _ _=>(Q3 (Qr (Qa (Vg Ye Qd) (Qa (Qc 0) Qf)))))) (Jf (Qe Jq) ["_law_web","_law_found","_law_k"] (by decide +kernel))))))))
theorem range_add {α:Type} {f:Nat->α}:(List.range (a+b)).map f=(List.range a).map f++(List.range b).map λj=>f (a+j):=by
 rw [List.range_add,List.map_append,List.map_map];rfl
theorem Qck (F:Fun K "_law_spots" "_law_spots" Jq f fd) (B:Bn K mg):FnOk P w K mg base CX0 1 f fd ["_law_web"] (spR K Zn):=by
 refine Yk (T:=Xd) F Zc rfl (by decide) (λds kk h=>?_) (Qel B) (λds kk h=>?_)
 ·obtain ⟨m,e,A,r,rfl,_⟩:=h
  rfl
 ·obtain ⟨m,e,A,r,rfl,hm,he,k⟩:=h
  simp only [G9,wSeq,wSet,wLst,wNil,List.length_nil,env0,webD,List.map_cons,List.map_nil,List.length_cons,Nat.zero_add,Nat.reduceAdd,List.replicate,List.cons_append,List.nil_append,List.set_cons_succ,List.set_cons_zero,Gh,Xj,Qb,Qn,wBin,wC,Qw,look,Qh,Zd,Y1,List.getElem?_cons_zero,Qad,V8,Int.reducePow,Int.reduceNeg,Int.toNat_natCast]
  refine ⟨by decide,by simp <;> omega,by simp <;> omega,Qah,λt ρ=>∃o:Option D,ρ=[some (webD m e A r),some (.lst ((List.range (4*t)).map (spD m))),o],⟨none,rfl⟩,?_,?_⟩
  ·rintro t d ρ hd ⟨o,rfl⟩
   obtain ⟨ht,rfl⟩:=Qca hd
   simp only [List.length_map,List.length_range] at ht
   simp only [gN,wSet,wBin,List.set_cons_succ,List.set_cons_zero,Vz,Xj,Qb,wC,wNil,V8,Int.reducePow,Int.reduceNeg,Int.reduceLE,Int.reduceLT,Int.reduceToNat,true_and,Qw,look,Qh]
   refine Jo (λd=>.tup [.int (0+(t:Int)),d]) (by rw [Jr];decide) (λd hd Q' hQ=>?_) ?_
   ·obtain ⟨j,hj,rfl⟩:=Gn hd
    simp only [Q0,wTup,Qb,blkE,List.map_cons,look,List.map_nil,wNil,List.length_cons,List.length_nil,Nat.zero_add,Nat.reduceAdd,D.pure,Ql,Bool.and_true,Qw,Qh,true_and]
    exact ⟨by decide,hQ⟩
   ·have e1:(rngD 0 4).map (λd=>D.tup [.int (0+(t:Int)),d])=(List.range 4).map λj=>spD m (4*t+j):=by
     unfold rngD
     rw [List.map_map]
     apply List.map_congr_left
     intro j hj
     unfold spD
     rw [M.Qin ht (List.mem_range.mp hj)]
     simp
    simp only [List.set_cons_succ,List.set_cons_zero,G4]
    rw [e1]
    refine ⟨Gi,Qi λ_ _=>rfl,by simp <;> exact Nat.le_of_lt (big (by omega)),some (.int (0+(t:Int))),?_⟩
    rw [show 4*(t+1)=4*t+4 by omega,range_add]
  ·rintro ρ ⟨o,rfl⟩
   have hl:(rngD 0 ((List.range m).map λk=>D.tup ((List.range 4).map λj=>.int (A (4*k+j)))).length).length=m:=by rw [Jr];simp
   rw [hl]
   simp only [wRet,wBin,webD,Vz,Xj,Qb,Qn,wC,wNil,Qw,look,Qh,Zd,Y0,List.getElem?_cons_succ,List.getElem?_cons_zero,Qad,V8,Int.reducePow,Int.reduceNeg,Int.toNat_natCast]
   refine ⟨by simp <;> omega,by simp <;> omega,Jo (λd=>.tup [.int (-1),d]) (by rw [Jr];simp;exact big (by omega)) (λd hd Q' hQ=>?_) ?_⟩
   ·obtain ⟨j,hj,rfl⟩:=Gn hd
    simp only [Q0,wTup,Qb,wUn,wC,blkE,List.map_nil,wNil,List.length_cons,List.length_nil,Nat.zero_add,Nat.reduceAdd,D.pure,Ql,Bool.and_true,Qw,look,Qh,Qac,Int.reduceNeg,true_and]
    exact ⟨by decide,hQ⟩
   ·have e1:(rngD 0 ((List.range e).map λj=>D.int (A (4*m+j))).length).map (λd=>D.tup [.int (-1),d])=(List.range e).map λj=>spD m (4*m+j):=by
     unfold rngD
     rw [List.map_map,List.length_map,List.length_range]
     apply List.map_congr_left
     intro j hj
     unfold spD
     rw [M.Z3]
     simp
    simp only [Int.reduceNeg,G4]
    rw [e1]
    refine ⟨Gi,Qi λ_ _=>rfl,by simp <;> exact Nat.le_of_lt (big (by omega)),?_⟩
    rw [← range_add]
    exact k
def Ud:GA:=λds k=>∃(m e i:Nat) (A:Nat->Int) (r:Int),ds=[webD m e A r,spD m i]/\i<4*m+e/\k (.int (A i))
abbrev Zf:Stmt:=top 33
theorem Qe1:FnScope ["_law_web","_law_spot"] ["_law_web","_law_spot"] (Qe Zf):=⟨rfl,rfl,rfl,by decide +kernel,rfl,by decide +kernel,by decide +kernel⟩
def Qbn:Tg:={ own:=λi=>false,io:=[] }
def Gv:WS:=(wSeq (wIf (wBl (wBin (dCmp λi j=>decide (i<j)) (wBin dIx (wVar 1) (wC (.int 0))) (wC (.int 0)))) (wRet (Q0 (wBin dIx (wBin dIx (wVar 0) (wC (.int 1))) (wBin dIx (wVar 1) (wC (.int 1)))))) Jh)
 (wRet (Q0 (wBin dIx (wBin dIx (wBin dIx (wVar 0) (wC (.int 0))) (wBin dIx (wVar 1) (wC (.int 0)))) (wBin dIx (wVar 1) (wC (.int 1)))))))
theorem Qh3 (B:Bn K mg):∀(cdv:Value) (A:Around) (outer:List PySem.Env) (s:Shared) (H:Hp) (E:XK),Room 0 (A.deeper (envOfC "_law_arc" (Qe Zf) s.heap.objs.size f cdv))->SVs (cxOf CX0 P w K mg base ["_law_web","_law_spot"] "_law_arc" (Qe Zf) f cdv A outer s H E).nox Qbn (Qy Zf) Gv:=λcdv A outer s H E hr =>
  (Qg (Za (Jx Qp7 (Qs (Qt (Qp hr)) (Qc 1) Qd) Qd) (Qj (Qx (Q3 (Qs (Qt (Qp hr)) (Qs (Qt (Qp hr)) (Qc 0) Qd) (Qs (Qt (Qp hr)) (Qc 1) Qd))))) Jc)
  (Qj (Qx (Q3 (Qs (Qt (Qp hr)) (Qs (Qt (Qp hr)) (Qs (Qt (Qp hr)) (Qc 0) Qd) (Qs (Qt (Qp hr)) (Qc 1) Qd)) (Qs (Qt (Qp hr)) (Qc 1) Qd))))))
theorem Qfa (F:Fun K "_law_arc" "_law_arc" Zf f fd) (B:Bn K mg):FnOk P w K mg base CX0 1 f fd ["_law_web","_law_spot"] (spR K Ud):=by
 refine Yk (T:=Qbn) F Qe1 rfl (by decide) (λds kk h=>?_) (Qh3 B) (λds kk h=>?_)
 ·obtain ⟨m,e,i,A,r,rfl,_⟩:=h
  rfl
 ·obtain ⟨m,e,i,A,r,rfl,hi,k⟩:=h
  by_cases h4:i<4*m
  ·obtain ⟨q,j,rfl,hj⟩:∃q j,i=4*q+j/\j<4:=⟨i / 4,i % 4,by omega,by omega⟩
   have hq:q<m:=by omega
   simp only [Gv,wSeq,wIf,env0,webD,spD,M.Qin hq hj,List.map_cons,List.map_nil,List.length_cons,List.length_nil,Nat.zero_add,Nat.reduceAdd,List.cons_append,List.nil_append,wRet,Q0,wBin,wC,Qw,Jh,r_bl,look,Qh,Zd,Y0,List.getElem?_cons_succ,List.getElem?_cons_zero,Y1,Qi0,Jn]
   have:¬((q:Int)<0):=by omega
   simp only [this,decide_false,Bool.false_eq_true,Vl,List.getElem?_map,List.getElem?_range hq,Option.map_some,Qh,Zd,List.getElem?_range hj,D.pure,true_and,reduceIte]
   exact k
  ·obtain ⟨j,rfl⟩:∃j,i=4*m+j:=⟨i-4*m,by omega⟩
   have hj:j<e:=by omega
   simp only [Gv,wSeq,wIf,env0,webD,spD,M.Z3,Int.reduceNeg,List.map_cons,List.map_nil,List.length_cons,List.length_nil,Nat.zero_add,Nat.reduceAdd,List.cons_append,List.nil_append,wRet,Q0,wBin,wC,Qw,Jh,r_bl,look,Qh,Zd,Y0,List.getElem?_cons_succ,List.getElem?_cons_zero,Y1,Qi0,Int.reduceLT,Jn]
   simp only [decide_true,Vl,List.getElem?_map,List.getElem?_range hj,Option.map_some,Qh,D.pure,true_and,Int.reduceNeg,reduceIte]
   exact k
def Qeq (m n:Nat) (T:List (List Key × D)):Prop:=∀kv∈T,∃i,i<n/\kv.1=ksP m i
theorem Qeq.put (h:Qeq m n T) (hi:i<n):Qeq m n (putD T (ksP m i) v):=by
 intro kv hkv
 unfold putD at hkv
 split at hkv
 ·obtain ⟨kv',h1,rfl⟩:=List.mem_map.mp hkv
  split
  ·exact h kv' h1
  ·exact h kv' h1
 ·rcases List.mem_append.mp hkv with h1 | h1
  ·exact h kv h1
  ·rw [List.mem_singleton.mp h1];exact ⟨i,hi,rfl⟩
def Jt:GA:=λds k=>∃(m e:Nat) (A:Nat->Int) (r:Int) (g:Nat->Nat),ds=[webD m e A r]/\m<=100/\e<=100/\M.Tw (4*m+e) A g/\∀T:List (List Key × D),T.length<=1000->(T.all λkv=>kv.2.pure)=true->(∀i,i<4*m+e->valD T (ksP m i)=some (spD m (g i)))->Qeq m (4*m+e) T->k (.dit T)
abbrev Yu:Stmt:=top 34
theorem Y3:FnScope ["_law_web","_law_first","_law_found","_law_spot","_law_arc_here"] ["_law_web"] (Qe Yu):=⟨rfl,rfl,rfl,by decide +kernel,rfl,by decide +kernel,by decide +kernel⟩
def X2:Tg:={ own:=λi=>i == 1 || i == 2 || i == 3 || i == 4,io:=[] }
def Xw:WS:=(wSeq (wSet 1 (wC (.dik [])))
 (wSeq (wSet 2 (wC (.dit [])))
 (wSeq (wFor (V0 (Qn Zn (Qb (wVar 0) wNil))) (gN 3) (wSeq (wSet 4 (Qn Ud (Qb (wVar 0) (Qb (wVar 3) wNil))))
 (wIf (wBl (wBin (dIn false) (wVar 4) (wVar 1))) (wSeq (Yl 2 (wBin dIx (wVar 1) (wVar 4)) (wVar 3))
 (Yl 2 (wVar 3) (wBin dIx (wVar 1) (wVar 4)))) (Yl 1 (wVar 3) (wVar 4)))))
 (Qh8 2))))
theorem Qfp (B:Bn K mg) (C__law_spots:Cal P w K mg base "_law_spots" 1 ["_law_web"] (spR K Zn)) (C__law_arc:Cal P w K mg base "_law_arc" 1 ["_law_web","_law_spot"] (spR K Ud)):∀(cdv:Value) (A:Around) (outer:List PySem.Env) (s:Shared) (H:Hp) (E:XK),Room 1 (A.deeper (envOfC "_law_ties" (Qe Yu) s.heap.objs.size f cdv))->SVs (cxOf CX0 P w K mg base ["_law_web","_law_first","_law_found","_law_spot","_law_arc_here"] "_law_ties" (Qe Yu) f cdv A outer s H E).nox X2 (Qy Yu) Xw:=λcdv A outer s H E hr =>
  (Qg (Q4 (i:=1) Qcu Y3.nd)
  (Qg (Q4 (i:=2) Qgx Y3.nd)
  (Qg (Zr PassesOwn.never (Vb (Qo C__law_spots (hr.mono (by decide)) (Qa (Qc 0) Qf))) (Ju (i:=3) Y3.nd) (Qg (Q4 (i:=4) (Qo C__law_arc (hr.mono (by decide)) (Qa (Qc 0) (Qa (Qc 3) Qf))) Y3.nd)
  (Qj (Za (Jx (Quv (Qp hr)) (Qc 4) (Qc 1)) (Qg (Yn (i:=2) (Qp hr) (Qs (Qt (Qp hr)) (Qc 1) (Qc 4)) (Qc 3))
  (Qj (Yn (i:=2) (Qp hr) (Qc 3) (Qs (Qt (Qp hr)) (Qc 1) (Qc 4))))) (Qj (Yn (i:=1) (Qp hr) (Qc 3) (Qc 4)))))))
  (Qj (Qil (i:=2))))))
theorem Qdy (F:Fun K "_law_ties" "_law_ties" Yu f fd) (B:Bn K mg) (C1:Cal P w K mg base "_law_spots" 1 ["_law_web"] (spR K Zn)) (C2:Cal P w K mg base "_law_arc" 1 ["_law_web","_law_spot"] (spR K Ud)):FnOk P w K mg base CX0 2 f fd ["_law_web"] (spR K Jt):=by
 refine Yk (T:=X2) F Y3 rfl (by decide) (λds kk h=>?_) (Qfp B C1 C2) (λds kk h=>?_)
 ·obtain ⟨m,e,A,r,g,rfl,_⟩:=h
  rfl
 ·obtain ⟨m,e,A,r,g,rfl,hm,he,tw,k⟩:=h
  simp only [Xw,wSeq,wSet,wC,env0,List.map_cons,List.map_nil,List.length_cons,List.length_nil,Nat.zero_add,Nat.reduceAdd,List.replicate,List.cons_append,List.nil_append,List.set_cons_succ,List.set_cons_zero,Gh,Gg,Qn,Qb,wNil,Qw,look,Qh]
  refine ⟨m,e,A,r,rfl,hm,he,?_⟩
  simp only [Qbq]
  refine ⟨Gi,λt ρ=>∃(U:List (Key × D)) (T:List (List Key × D)) (o3 o4:Option D),ρ=[some (webD m e A r),some (.dik U),some (.dit T),o3,o4]/\t<=4*m+e/\U.length<=t/\T.length<=2*t/\(T.all λkv=>kv.2.pure)=true /\
   (∀a,valD U (.inl a)=none\/∃i,i<t/\A i=a/\valD U (.inl a)=some (spD m i))/\(∀i,i<t->(valD U (.inl (A i))).isSome=true)/\(∀i,i<t->g i<t->valD T (ksP m i)=some (spD m (g i)))/\Qeq m (4*m+e) T,⟨[],[],none,none,rfl,Nat.zero_le _,Nat.zero_le _,Nat.zero_le _,rfl,λa=>.inl rfl,λi h=>by omega,λi h=>by omega,λkv h=>nomatch h⟩,?_,?_⟩
  ·rintro t d ρ hd ⟨U,T,o3,o4,rfl,ht,hU,hT,hpu,u1,u2,u3,hki⟩
   have htl:t<4*m+e:=by have:=(List.getElem?_eq_some_iff.mp hd).1;simpa using this
   rw [List.getElem?_map,List.getElem?_range htl] at hd
   have hd:=(Option.some.inj hd).symm
   subst hd
   simp only [gN,wSeq,wSet,Qn,Qb,List.set_cons_succ,List.set_cons_zero,wNil,wIf,Yl,wBin,Qw,r_bl,look,Option.isSome_some,Qh,true_and]
   refine ⟨m,e,t,A,r,rfl,htl,?_⟩
   simp only [spD,D.pure,Ql,Bool.and_self,Qn6,true_and,Qab,Jy,Option.map_some,Qh,Qiz,Qrx,Jn]
   rcases u1 (A t) with hv | ⟨i,hi,hA,hv⟩
   ·-- the arc comes for the first time
    simp only [hv,Option.isSome_none,Bool.xor_false,Bool.false_eq_true,reduceIte]
    refine ⟨big (by omega),_,T,_,_,rfl,htl,Nat.le_trans (J1 _ _ _) (by omega),by omega,hpu,λa=>?_,λi hi=>?_,λi hi hg=>?_,hki⟩
    ·rw [Ym]
     by_cases z:(.inl a:Key)=.inl (A t)
     ·rw [if_pos z]
      exact .inr ⟨t,by omega,by injection z with z;exact z.symm,rfl⟩
     ·rw [if_neg z]
      rcases u1 a with h | ⟨i,h1,h2,h3⟩
      ·exact .inl h
      ·exact .inr ⟨i,by omega,h2,h3⟩
    ·rw [Ym]
     split
     ·rfl
     ·rename_i z
      have:i≠t:=λq=>z (by rw [q])
      exact u2 i (by omega)
    ·have ht0:∀j,j<t->A j≠A t:=λj hj q=>by
      have:=u2 j hj
      rw [q,hv] at this
      cases this
     by_cases hit:i=t
     ·subst hit
      exact absurd (tw.eq i htl) (ht0 (g i) (by have:=tw.ne i htl;omega))
     ·by_cases hgt:g i=t
      ·exact absurd (by rw [← hgt];exact (tw.eq i (by omega)).symm) (ht0 i (by omega))
      ·exact u3 i (by omega) (by omega)
   ·-- its second place
    have hgi:g i=t:=by
     rcases tw.only i t (by omega) htl hA.symm with z | z
     ·omega
     ·exact z.symm
    have hgt:g t=i:=by rw [← hgi];exact tw.inv (by omega)
    simp only [hv,spD,Option.isSome_some,Bool.xor_true,Bool.not_false,Qh,Qab,Jy,Option.map_some,D.pure,Ql,Bool.and_self,true_and,reduceIte]
    refine ⟨big (by omega),big (Nat.le_trans (J1 _ _ _) (by omega)),U,_,_,_,rfl,htl,by omega,?_,U6 (U6 hpu rfl) rfl,λa=>?_,λj hj=>?_,λj hj hg=>?_,(hki.put htl).put (show i<4*m+e by omega)⟩
    ·have a1:=J1 T (ksP m t) (spD m i)
     have a2:=J1 (putD T (ksP m t) (spD m i)) (ksP m i) (spD m t)
     exact Nat.le_trans a2 (by omega)
    ·rcases u1 a with h | ⟨i,h1,h2,h3⟩
     ·exact .inl h
     ·exact .inr ⟨i,by omega,h2,h3⟩
    ·by_cases z:j=t
     ·rw [z,← hA,hA,hv];rfl
     ·exact u2 j (by omega)
    ·show valD (putD (putD T (ksP m t) (spD m i)) (ksP m i) (spD m t)) (ksP m j)=_
     rw [Ym,Ym]
     by_cases z1:ksP m j=ksP m i
     ·rw [if_pos z1,Qff z1,hgi];rfl
     ·rw [if_neg z1]
      by_cases z2:ksP m j=ksP m t
      ·rw [if_pos z2,Qff z2,hgt];rfl
      ·rw [if_neg z2]
       have hjt:j≠t:=λq=>z2 (by rw [q])
       have hji:j≠i:=λq=>z1 (by rw [q])
       have hgj:g j≠t:=λq=>hji (by rw [← tw.inv (show j<4*m+e by omega),q,hgt])
       exact u3 j (by omega) (by omega)
  ·rintro ρ ⟨U,T,o3,o4,rfl,ht,hU,hT,hpu,u1,u2,u3,hki⟩
   simp only [List.length_map,List.length_range] at u3
   simp only [Qh8,look,Qh]
   rw [List.length_map,List.length_range] at hT
   exact k T (by omega) hpu (λi hi=>u3 i hi (tw.lt i hi)) hki
def calF (a b:Int) (n:Int):Int:=if n=a then b else n
def dF (f:Int->Int):D->D
 | .int n=>.int (f n)
 | d=>d
def Uq:GA:=λds k=>∃(ns:List Int) (a b:Int),ds=[.tup (ns.map .int),.int a,.int b]/\ns.length<=100/\k (.tup (ns.map λn=>.int (calF a b n)))
abbrev Vn:Stmt:=top 9
theorem Qit:FnScope ["arcs","gone","kept"] ["arcs","gone","kept"] (Qe Vn):=⟨rfl,rfl,rfl,by decide +kernel,rfl,by decide +kernel,by decide +kernel⟩
def Qf9:Tg:={ own:=λi=>false,io:=[] }
def Qfz:WS:=(wRet (Qn Zy (Qb (Ux (V0 (wVar 0)) wAll (Q0 (wIfE (wBl (wBin dEq (wVar 0) (wVar 1))) (wVar 2) (wVar 0))) [1,2]) wNil)))
theorem Qnn (B:Bn K mg):∀(cdv:Value) (A:Around) (outer:List PySem.Env) (s:Shared) (H:Hp) (E:XK),Room 0 (A.deeper (envOfC "called" (Qe Vn) s.heap.objs.size f cdv))->SVs (cxOf CX0 P w K mg base ["arcs","gone","kept"] "called" (Qe Vn) f cdv A outer s H E).nox Qf9 (Qy Vn) Qfz:=λcdv A outer s H E hr =>
  (Qj (Qx (Jl J8 B.nb_tuple Jz (Qa (J7 (Yz [1,2] (Vb (Qc 0)) (λ_ _ _ _ _=>Vj) (λ_ _ _ _ _=>(Q3 (Qu6 (Jx (Ub hr.units) (Qc 0) (Qc 1)) (Qc 2) (Qc 0))))) (Jf (Qe Vn) ["arcs","gone","kept"] (by decide +kernel))) Qf))))
theorem Qjj (F:Fun K "called" "called" Vn f fd) (B:Bn K mg):FnOk P w K mg base CX0 1 f fd ["arcs","gone","kept"] (spR K Uq):=by
 refine Yk (T:=Qf9) F Qit rfl (by decide) (λds kk h=>?_) (Qnn B) (λds kk h=>?_)
 ·obtain ⟨ns,a,b,rfl,_⟩:=h
  rfl
 ·obtain ⟨ns,a,b,rfl,hl,k⟩:=h
  simp only [Qfz,wRet,Qn,Qb,env0,List.map_cons,List.map_nil,List.length_cons,List.length_nil,Nat.zero_add,Nat.reduceAdd,List.cons_append,List.nil_append,wNil,Vz,Gg,Qw,look,Qh,Xi,Zl,true_and]
  refine Jo (dF (calF a b)) (by rw [List.length_map];exact big (by omega)) (λd hd Q' hQ=>?_) ?_
  ·obtain ⟨n,hn,rfl⟩:=List.mem_map.mp hd
   simp only [Q0,wIfE,blkE,List.map_cons,look,List.map_nil,Qw,r_bl,wBin,Qh,D.pure,true_and,Xq,Jn]
   have hQ:Q' (.int (if n=a then b else n)) (blkE (some (D.tup (List.map D.int ns))::some (D.int a)::some (D.int b)::List.replicate (3-3) none) (D.int n) [1,2]):=hQ
   split
   ·rename_i h
    rw [if_pos (of_decide_eq_true h)] at hQ
    exact hQ
   ·rename_i h
    rw [if_neg (λz=>h (decide_eq_true z))] at hQ
    exact hQ
  ·simp only [Vy]
   rw [List.map_map]
   exact ⟨Qi λ_ _=>rfl,k⟩
def aft (e p:Nat):Nat:=(p+1) % e
def shA (m e p:Nat) (A:Nat->Int) (i:Nat):Int:=M.cal A (4*m+p) (4*m+aft e p) (M.old m e p (aft e p) i)
def shR (m e p:Nat) (A:Nat->Int) (r:Int):Int:=if A (4*m+p)=A (4*m+aft e p) then r+1 else r
theorem Qle (h:0<e):aft e p<e:=Nat.mod_lt _ h
theorem Qld (h:2<=e) (hp:p<e):p≠aft e p:=by
 unfold aft
 by_cases hq:p+1=e
 ·rw [hq,Nat.mod_self];omega
 ·rw [Nat.mod_eq_of_lt (by omega)];omega
theorem Qbt {f:Nat->D}:l.map f=(List.range l.length).map λj=>f (l.getD j 0):=by
 apply List.ext_getElem
 ·simp
 ·intro i h1 h2
  simp only [List.getElem_map,List.getElem_range]
  rw [List.getD_eq_getElem?_getD,List.getElem?_eq_getElem (by simpa using h1)]
  rfl
def J2:GA:=λds k=>∃(m e:Nat) (A:Nat->Int) (r:Int) (p:Nat),ds=[webD m e A r,.int p]/\p<e/\2<=e/\m<=50/\e<=50/\k (webD m (M.rest e p (aft e p)).length (shA m e p A) (shR m e p A r))
theorem Qtb {j p q:Int}:inD (.int j) [.int p,.int q]=some (decide (j=p) || decide (j=q)):=by
 simp only [inD,Option.map_some,Bool.or_false]
 have h:∀a b:Int,(a == b)=decide (b=a):=λa b=>by
  by_cases h:b=a
  ·rw [decide_eq_true h,h];exact beq_self_eq_true a
  ·rw [decide_eq_false h];exact beq_eq_false_iff_ne.mpr λz=>h z.symm
 rw [h,h]
theorem Qlg (hne:A (4*m+p)≠A (4*m+aft e p)):D.tup [.tup ((List.range m).map λk=>.tup ((List.range 4).map λj=>.int (calF (A (4*m+p)) (A (4*m+aft e p)) (A (4*k+j))))),
  .tup ((M.rest e p (aft e p)).map λj=>.int (calF (A (4*m+p)) (A (4*m+aft e p)) (A (4*m+j)))),.int r]=webD m (M.rest e p (aft e p)).length (shA m e p A) (shR m e p A r):=by
 unfold webD shR
 rw [if_neg hne,Qbt (l:=M.rest e p (aft e p))]
 have e1:(List.range m).map (λk=>D.tup ((List.range 4).map λj=>.int (calF (A (4*m+p)) (A (4*m+aft e p)) (A (4*k+j)))))=(List.range m).map λk=>D.tup ((List.range 4).map λj=>.int (shA m e p A (4*k+j))):=by
  refine List.map_congr_left λk hk=>?_
  congr 1
  refine List.map_congr_left λj hj=>?_
  have hk:=List.mem_range.mp hk
  have hj:=List.mem_range.mp hj
  unfold shA
  rw [M.Uu (by omega)]
  rfl
 have e2:(List.range (M.rest e p (aft e p)).length).map (λj=>D.int (calF (A (4*m+p)) (A (4*m+aft e p)) (A (4*m+(M.rest e p (aft e p)).getD j 0))))=(List.range (M.rest e p (aft e p)).length).map λj=>D.int (shA m e p A (4*m+j)):=by
  refine List.map_congr_left λj hj=>?_
  unfold shA
  rw [M.Vr]
  rfl
 rw [e1,e2]
theorem Qlh (he:A (4*m+p)=A (4*m+aft e p)):D.tup [.tup ((List.range m).map λk=>.tup ((List.range 4).map λj=>.int (A (4*k+j)))),
  .tup ((M.rest e p (aft e p)).map λj=>.int (A (4*m+j))),.int (r+1)]=webD m (M.rest e p (aft e p)).length (shA m e p A) (shR m e p A r):=by
 have hc:∀x,M.cal A (4*m+p) (4*m+aft e p) x=A x:=λx=>by
  unfold M.cal
  split
  ·rename_i h;rw [h,← he]
  ·rfl
 unfold webD shR
 rw [if_pos he,Qbt (l:=M.rest e p (aft e p))]
 have e1:(List.range m).map (λk=>D.tup ((List.range 4).map λj=>.int (A (4*k+j))))=(List.range m).map λk=>D.tup ((List.range 4).map λj=>.int (shA m e p A (4*k+j))):=by
  refine List.map_congr_left λk hk=>?_
  congr 1
  refine List.map_congr_left λj hj=>?_
  have hk:=List.mem_range.mp hk
  have hj:=List.mem_range.mp hj
  unfold shA
  rw [M.Uu (by omega),hc]
 have e2:(List.range (M.rest e p (aft e p)).length).map (λj=>D.int (A (4*m+(M.rest e p (aft e p)).getD j 0)))=(List.range (M.rest e p (aft e p)).length).map λj=>D.int (shA m e p A (4*m+j)):=by
  refine List.map_congr_left λj hj=>?_
  unfold shA
  rw [M.Vr,hc]
 rw [e1,e2]
abbrev Q6:Stmt:=top 10
theorem Ji:FnScope ["web","place","after","gone","kept","ends","crossings"] ["web","place"] (Qe Q6):=⟨rfl,rfl,rfl,by decide +kernel,rfl,by decide +kernel,by decide +kernel⟩
def V4:Tg:={ own:=λi=>i == 2 || i == 3 || i == 4 || i == 5 || i == 6,io:=[] }
def V2:WS:=(wSeq (wSet 2 (wBin dMod (wBin Yq (wVar 1) (wC (.int 1))) (Qn dLen (Qb (wBin dIx (wVar 0) (wC (.int 1))) wNil))))
 (wSeq (wSet 3 (Q0 (wBin dIx (wBin dIx (wVar 0) (wC (.int 1))) (wVar 1))))
 (wSeq (wSet 4 (Q0 (wBin dIx (wBin dIx (wVar 0) (wC (.int 1))) (wVar 2))))
 (wSeq (wSet 5 (Qn Zy (Qb (Qh9 (Qg9 (Qb (wBin dIx (wVar 0) (wC (.int 1))) wNil)) (wBl (wBin (dIn true) (wVar 0) (wTup (Qb (wVar 3) (Qb (wVar 2) wNil))))) (Q0 (wVar 1)) [2,1]) wNil)))
 (wSeq (wIf (wBl (wBin dEq (wVar 3) (wVar 4))) (wRet (Q0 (wTup (Qb (wBin dIx (wVar 0) (wC (.int 0))) (Qb (wVar 5) (Qb (wBin Yq (wBin dIx (wVar 0) (wC (.int 2))) (wC (.int 1))) wNil)))))) Jh)
 (wSeq (wSet 6 (Qn Zy (Qb (Ux (V0 (wBin dIx (wVar 0) (wC (.int 0)))) wAll (Qn Uq (Qb (wVar 0) (Qb (wVar 1) (Qb (wVar 2) wNil)))) [3,4]) wNil)))
 (wRet (Q0 (wTup (Qb (wVar 6) (Qb (Qn Uq (Qb (wVar 5) (Qb (wVar 3) (Qb (wVar 4) wNil)))) (Qb (wBin dIx (wVar 0) (wC (.int 2))) wNil))))))))))))
theorem Qa9 (B:Bn K mg) (C_called:Cal P w K mg base "called" 1 ["arcs","gone","kept"] (spR K Uq)):∀(cdv:Value) (A:Around) (outer:List PySem.Env) (s:Shared) (H:Hp) (E:XK),Room 1 (A.deeper (envOfC "shut_as_named" (Qe Q6) s.heap.objs.size f cdv))->SVs (cxOf CX0 P w K mg base ["web","place","after","gone","kept","ends","crossings"] "shut_as_named" (Qe Q6) f cdv A outer s H E).nox V4 (Qy Q6) V2:=λcdv A outer s H E hr =>
  (Qg (Q4 (i:=2) (Ja Qbs (Ja Q8 (Qc 1) Qd) (Je Vk B.nb_len Zz (Qa (Qs (Qt (Qp hr)) (Qc 0) Qd) Qf))) Ji.nd)
  (Qg (Q4 (i:=3) (Q3 (Qs (Qt (Qp hr)) (Qs (Qt (Qp hr)) (Qc 0) Qd) (Qc 1))) Ji.nd)
  (Qg (Q4 (i:=4) (Q3 (Qs (Qt (Qp hr)) (Qs (Qt (Qp hr)) (Qc 0) Qd) (Qc 2))) Ji.nd)
  (Qg (Q4 (i:=5) (Jl J8 B.nb_tuple Jz (Qa (Qm6 (Qni [2,1] (Qcq B.nb_enumerate (Qa (Qs (Qt (Qp hr)) (Qc 0) Qd) Qf)) (λ_ _ _ _ _=>Qti (Jx (Qod (Qp hr)) (Qc 0) (Qr (Qa (Qc 3) (Qa (Qc 2) Qf))))) (λ_ _ _ _ _=>(Q3 (Qc 1)))) (Qkz (Qe Q6) ["web","place","after","gone","kept","ends","crossings"] (by decide +kernel))) Qf)) Ji.nd)
  (Qg (Za (Jx (Ub hr.units) (Qc 3) (Qc 4)) (Qj (Qx (Q3 (Qr (Qa (Qs (Qt (Qp hr)) (Qc 0) Qd) (Qa (Qc 5) (Qa (Ja Q8 (Qs (Qt (Qp hr)) (Qc 0) Qd) Qd) Qf))))))) Jc)
  (Qg (Q4 (i:=6) (Jl J8 B.nb_tuple Jz (Qa (J7 (Yz [3,4] (Vb (Qs (Qt (Qp hr)) (Qc 0) Qd)) (λ_ _ _ _ _=>Vj) (λ_ _ _ _ _=>(Qo C_called (hr.mono (by decide)) (Qa (Qc 0) (Qa (Qc 1) (Qa (Qc 2) Qf)))))) (Jf (Qe Q6) ["web","place","after","gone","kept","ends","crossings"] (by decide +kernel))) Qf)) Ji.nd)
  (Qj (Qx (Q3 (Qr (Qa (Qc 6) (Qa (Qo C_called (hr.mono (by decide)) (Qa (Qc 5) (Qa (Qc 3) (Qa (Qc 4) Qf)))) (Qa (Qs (Qt (Qp hr)) (Qc 0) Qd) Qf)))))))))))))
theorem Xr (F:Fun K "shut_as_named" "shut_as_named" Q6 f fd) (B:Bn K mg) (C1:Cal P w K mg base "called" 1 ["arcs","gone","kept"] (spR K Uq)):FnOk P w K mg base CX0 2 f fd ["web","place"] (spR K J2):=by
 refine Yk (T:=V4) F Ji rfl (by decide) (λds kk h=>?_) (Qa9 B C1) (λds kk h=>?_)
 ·obtain ⟨m,e,A,r,p,rfl,_⟩:=h
  rfl
 ·obtain ⟨m,e,A,r,p,rfl,hp,he,hm,he2,k⟩:=h
  have hq:=Qle (p:=p) (show 0<e by omega)
  have hpe:((p:Int)+1) % (e:Int)=((aft e p:Nat):Int):=by unfold aft;rw [Int.natCast_emod];rfl
  have he0:(0:Int)<(e:Int):=by omega
  have hpe2:Ql ((List.range e).map λj=>D.int (A (4*m+j)))=true:=Qi λ_ _=>rfl
  simp only [V2,wSeq,wSet,wBin,env0,webD,List.map_cons,List.map_nil,List.length_cons,List.length_nil,Nat.zero_add,Nat.reduceAdd,List.replicate,List.cons_append,List.nil_append,wC,Qn,Qb,wNil,Q0,Qh9,wIf,wRet,wTup,sz3,D.pure,Ql,Bool.and_true,true_and,Qw,Jh,Vz,Gg,r_bl,Qgi,look,List.set_cons_succ,List.set_cons_zero,Qh,Zd,Y0,List.getElem?_cons_succ,List.getElem?_cons_zero,Qcb,Vl,List.getElem?_map,List.getElem?_range hp,Option.map_some,Qad,List.length_map,List.length_range,V9,he0,Qgg,hpe,List.getElem?_range hq]
  refine ⟨hpe2,λi ys=>i<=e/\ys=((List.range i).filter λj=>decide (j≠p/\j≠aft e p)).map (λj=>D.int (A (4*m+j))),⟨Nat.zero_le _,rfl⟩,?_,?_⟩
  ·rintro i d ys hd ⟨_,rfl⟩
   rw [Vi] at hd
   have hi:i<e:=by
    cases q:((List.range e).map λj=>D.int (A (4*m+j)))[i]? with
    | none=>rw [q] at hd;cases hd
    | some z=>simpa using (List.getElem?_eq_some_iff.mp q).1
   rw [List.getElem?_map,List.getElem?_range hi] at hd
   have hd:=(Option.some.inj hd).symm
   subst hd
   have hlen:((List.range i).filter λj=>decide (j≠p/\j≠aft e p)).length<=i:=by
    refine Nat.le_trans (List.length_filter_le _ _) ?_
    rw [List.length_range];exact Nat.le_refl _
   refine ⟨by rw [List.length_map];exact big (by omega),?_⟩
   simp only [Nat.zero_add,Qc1,List.map_cons,look,List.map_nil,Q0,Qw,Qh,r_bl,wBin,wTup,Qb,wNil,List.length_cons,List.length_nil,Nat.reduceAdd,sz2,true_and,Qrz,D.pure,Qry,Qtb,Jn]
   rw [List.range_succ,List.filter_append,List.map_append]
   have c1:((i:Int)=(p:Int))=(i=p):=propext ⟨λh=>by omega,λh=>by omega⟩
   have c2:((i:Int)=((aft e p:Nat):Int))=(i=aft e p):=propext ⟨λh=>by omega,λh=>by omega⟩
   simp only [c1,c2]
   by_cases h:i≠p/\i≠aft e p
   ·simp only [h.1,decide_false,h.2,Bool.or_self,Bool.xor_false,reduceIte]
    refine ⟨by omega,?_⟩
    simp [h.1,h.2]
   ·have hx:(decide (i=p) || decide (i=aft e p))=true:=by
     by_cases h1:i=p
     ·simp [h1]
     ·have h2:i=aft e p:=Classical.byContradiction λz=>h ⟨h1,z⟩
      simp [h2]
    simp only [hx,Bool.xor_true,Bool.not_true,Bool.false_eq_true,reduceIte]
    refine ⟨by omega,?_⟩
    rw [List.filter_cons_of_neg (by simpa using h)]
    simp
  ·rintro ys ⟨_,rfl⟩
   have hlen:(Ue 0 ((List.range e).map λj=>D.int (A (4*m+j)))).length=e:=by rw [Yj];simp
   rw [hlen]
   have hrl:=M.Qge hp hq (Qld he hp)
   have er:((List.range e).filter λj=>decide (j≠p/\j≠aft e p))=M.rest e p (aft e p):=rfl
   rw [er]
   have pr:Ql ((M.rest e p (aft e p)).map λj=>D.int (A (4*m+j)))=true:=Qi λ_ _=>rfl
   have pc:Ql ((List.range m).map λk=>D.tup ((List.range 4).map λj=>.int (A (4*k+j))))=true:=Qi λ_ _=>by simp only [D.pure];exact Qi λ_ _=>rfl
   simp only [List.set_cons_succ,List.set_cons_zero,look,Qh,Zd,Zo,List.getElem?_cons_succ,List.getElem?_cons_zero,V9,D.pure,Bool.and_true,Y1,pc,Bool.true_and,Xi,true_and,Xq,Jn,Vy,pr]
   refine ⟨by rw [List.length_map];exact Nat.le_of_lt (big (by omega)),?_⟩
   split
   ·rename_i h
    rw [Qlh (of_decide_eq_true h)]
    exact k
   ·rename_i h
    have h:A (4*m+p)≠A (4*m+aft e p):=λz=>h (decide_eq_true z)
    refine Jo (nmF (calF (A (4*m+p)) (A (4*m+aft e p)))) (by rw [List.length_map,List.length_range];exact big (by omega)) (λd hd Q' hQ=>?_) ?_
    ·obtain ⟨kk,hk,rfl⟩:=List.mem_map.mp hd
     simp only [Qn,Qb,blkE,List.map_cons,look,List.map_nil,wNil,Qw,Qh]
     refine ⟨(List.range 4).map λj=>A (4*kk+j),_,_,by rw [List.map_map];rfl,by simp,?_⟩
     rw [List.map_map]
     exact hQ
    ·have e1:((List.range m).map λk=>D.tup ((List.range 4).map λj=>.int (A (4*k+j)))).map (nmF (calF (A (4*m+p)) (A (4*m+aft e p))))=(List.range m).map λk=>D.tup ((List.range 4).map λj=>.int (calF (A (4*m+p)) (A (4*m+aft e p)) (A (4*k+j)))):=by
      rw [List.map_map];rfl
     rw [e1]
     have pc2:Ql ((List.range m).map λk=>D.tup ((List.range 4).map λj=>.int (calF (A (4*m+p)) (A (4*m+aft e p)) (A (4*k+j)))))=true:=Qi λ_ _=>by simp only [D.pure];exact Qi λ_ _=>rfl
     have pr2:Ql ((M.rest e p (aft e p)).map λj=>D.int (calF (A (4*m+p)) (A (4*m+aft e p)) (A (4*m+j))))=true:=Qi λ_ _=>rfl
     simp only [List.set_cons_succ,List.set_cons_zero,look,Qh,Zd,Zo,List.getElem?_cons_succ,List.getElem?_cons_zero,D.pure,Bool.and_true,Vy,pc2,Bool.true_and,true_and]
     refine ⟨(M.rest e p (aft e p)).map λj=>A (4*m+j),_,_,by rw [List.map_map];rfl,by rw [List.length_map];omega,?_⟩
     rw [List.map_map]
     have e2:(M.rest e p (aft e p)).map ((λn=>D.int (calF (A (4*m+p)) (A (4*m+aft e p)) n)) ∘ λj=>A (4*m+j))=(M.rest e p (aft e p)).map λj=>D.int (calF (A (4*m+p)) (A (4*m+aft e p)) (A (4*m+j))):=rfl
     rw [e2]
     simp only [D.pure,pr2,Qlg h,true_and]
     exact k
def sd (q:Int × Int):D:=.tup [.int q.1,.int q.2]
def sk (q:Int × Int):List Key:=[.inl q.1,.inl q.2]
theorem Ut {q r:Int × Int} (h:sk q=sk r):q=r:=by
 unfold sk at h
 injection h with h1 h2
 injection h2 with h2 _
 exact Prod.ext (Sum.inl.inj h1) (Sum.inl.inj h2)
theorem Qny {q r:Int × Int} (h:sd q=sd r):q=r:=by
 unfold sd at h
 injection h with h
 injection h with h1 h2
 injection h2 with h2 _
 injection h1 with h1
 injection h2 with h2
 exact Prod.ext h1 h2
def pur (T:List (List Key × D)):Prop:=(T.all λkv=>kv.2.pure)=true
theorem big2 (h:n<=5000):n<sizeLine:=Nat.lt_of_le_of_lt h (by decide)
def Yi:GI:=λds k=>∃(T:List (List Key × D)) (a b h t:Int × Int),ds=[.dit T,sd a,sd b]/\T.length<=4000/\pur T/\a≠b/\valD T (sk a)=some (sd h)/\valD T (sk b)=some (sd t) /\
 (h=b->∀U,U.length<=T.length+2->pur U->(∀x,x≠sk a->x≠sk b->valD U x=valD T x)->k (.int 1) (.dit U)) /\
 (h≠b->∀U,U.length<=T.length+2->pur U->(∀x,x≠sk a->x≠sk b->valD U x=if x=sk t then some (sd h) else if x=sk h then some (sd t) else valD T x)->k (.int 0) (.dit U))
abbrev J3:Stmt:=top 35
theorem Z0:FnScope ["_law_ties_here","_law_one","_law_other","_law_here","_law_there"] ["_law_ties_here","_law_one","_law_other"] (Qe J3):=⟨rfl,rfl,rfl,by decide +kernel,rfl,by decide +kernel,by decide +kernel⟩
def Gd:Tg:={ own:=λi=>i == 0 || i == 3 || i == 4,io:=[0] }
def U7:WS:=(wSeq (wSet 3 (wMt 0 "dict" Qm2 (Qb (Q0 (wVar 1)) wNil)))
 (wSeq (wSet 4 (wMt 0 "dict" Qm2 (Qb (Q0 (wVar 2)) wNil)))
 (wSeq (wIf (wBl (wBin dEq (wVar 3) (wVar 2))) (wRet (wC (.int 1))) Jh)
 (wSeq (Yl 0 (wVar 4) (wVar 3))
 (wSeq (Yl 0 (wVar 3) (wVar 4))
 (wRet (wC (.int 0))))))))
theorem Qc2 (B:Bn K mg):∀(cdv:Value) (A:Around) (outer:List PySem.Env) (s:Shared) (H:Hp) (E:XK),Room 0 (A.deeper (envOfC "_law_joined" (Qe J3) s.heap.objs.size f cdv))->SVs (cxOf CX0 P w K mg base ["_law_ties_here","_law_one","_law_other","_law_here","_law_there"] "_law_joined" (Qe J3) f cdv A outer s H E).nox Gd (Qy J3) U7:=λcdv A outer s H E hr =>
  (Qg (Q4 (i:=3) (Qtd (i:=0) (Qju (Qp hr)) PySem.F.plainAttrs_dict PySem.F.slot_dict_pop PySem.F.type_dict_pop (Qa (Q3 (Qc 1)) Qf)) Z0.nd)
  (Qg (Q4 (i:=4) (Qtd (i:=0) (Qju (Qp hr)) PySem.F.plainAttrs_dict PySem.F.slot_dict_pop PySem.F.type_dict_pop (Qa (Q3 (Qc 2)) Qf)) Z0.nd)
  (Qg (Za (Jx (Ub hr.units) (Qc 3) (Qc 2)) (Qj (Qx Qd)) Jc)
  (Qg (Yn (i:=0) (Qp hr) (Qc 4) (Qc 3))
  (Qg (Yn (i:=0) (Qp hr) (Qc 3) (Qc 4))
  (Qj (Qx Qd)))))))
theorem Qbg (F:Fun K "_law_joined" "_law_joined" J3 f fd) (B:Bn K mg):FnOk P w K mg base CX0 1 f fd ["_law_ties_here","_law_one","_law_other"] (spI K 0 Yi):=by
 refine Qql (T:=Gd) F Z0 rfl rfl (λds kk h=>?_) (Qc2 B) (λds kk h=>?_)
 ·obtain ⟨T,a,b,h,t,rfl,_,hp,_⟩:=h
  exact ⟨rfl,_,rfl,hp⟩
 ·obtain ⟨T,a,b,h,t,rfl,hl,hp,hab,h1,h2,k1,k2⟩:=h
  have hb:valD (Y8 T (sk a)) (sk b)=some (sd t):=by rw [U9,if_neg (λz=>hab (Ut z).symm)];exact h2
  have l1:(Y8 (Y8 T (sk a)) (sk b)).length<=T.length:=Nat.le_trans Qgs Qgs
  have p1:pur (Y8 (Y8 T (sk a)) (sk b)):=Qg6 (Qg6 hp)
  have v1:∀x,x≠sk a->x≠sk b->valD (Y8 (Y8 T (sk a)) (sk b)) x=valD T x:=λx x1 x2=>by
   rw [U9,if_neg x2,U9,if_neg x1]
  have hsd:∀q:Int × Int,(sd q).pure=true:=λ_=>rfl
  simp only [U7,wSeq,wSet,wMt,env0,sd,List.map_cons,List.map_nil,List.length_cons,List.length_nil,Nat.zero_add,Nat.reduceAdd,List.replicate,List.cons_append,List.nil_append,look,Qt6,BEq.rfl,Qb,Q0,wNil,wIf,wRet,wC,Jh,Yl,Qw,r_bl,wBin,List.set_cons_zero,List.set_cons_succ,Qh,Option.isSome_some,true_and,D.pure,Ql,Bool.and_self,Qpc,Jy,Option.map_some,Qlx]
  have ka:([Sum.inl a.1,Sum.inl a.2]:List Key)=sk a:=rfl
  have kb:([Sum.inl b.1,Sum.inl b.2]:List Key)=sk b:=rfl
  rw [ka,kb,h1]
  refine ⟨rfl,?_⟩
  rw [hb]
  refine ⟨rfl,?_⟩
  simp only [sd,D.pure,Ql,Bool.and_self,true_and,Qab,Jy,Option.map_some,Qlx,Qh,Qua,Jn,reduceIte,Bool.false_eq_true]
  refine ⟨rfl,rfl,λhq=>?_,λhq=>?_⟩
  ·exact ⟨p1,k1 (Qny hq) _ (by omega) p1 v1⟩
  ·have hne:h≠b:=λz=>hq (by rw [z])
   have kh:([Sum.inl h.1,Sum.inl h.2]:List Key)=sk h:=rfl
   have kt:([Sum.inl t.1,Sum.inl t.2]:List Key)=sk t:=rfl
   rw [kh,kt,show D.tup [.int h.1,.int h.2]=sd h from rfl,show D.tup [.int t.1,.int t.2]=sd t from rfl]
   have a0:=J1 (Y8 (Y8 T (sk a)) (sk b)) (sk h) (sd t)
   refine ⟨big2 (by omega),big2 (by omega),?_⟩
   have p2:pur (putD (putD (Y8 (Y8 T (sk a)) (sk b)) (sk h) (sd t)) (sk t) (sd h)):=U6 (U6 p1 rfl) rfl
   refine ⟨p2,k2 hne _ ?_ p2 λx x1 x2=>?_⟩
   ·have a1:=J1 (Y8 (Y8 T (sk a)) (sk b)) (sk h) (sd t)
    have a2:=J1 (putD (Y8 (Y8 T (sk a)) (sk b)) (sk h) (sd t)) (sk t) (sd h)
    omega
   ·rw [Ym,Ym,v1 x x1 x2]
theorem Qd5 {a b h t:Int × Int} {k:D->D->Prop} (h1:T.length<=4000) (h2:pur T) (h3:a≠b) (h4:valD T (sk a)=some (sd h)) (h5:valD T (sk b)=some (sd t))
  (kk:∀(ring:Int) (U:List (List Key × D)),U.length<=T.length+2->pur U->(h=b/\ring=1/\(∀x,x≠sk a->x≠sk b->valD U x=valD T x))\/(h≠b/\ring=0/\∀x,x≠sk a->x≠sk b->valD U x=if x=sk t then some (sd h) else if x=sk h then some (sd t) else valD T x)->k (.int ring) (.dit U)):Yi [.dit T,sd a,sd b] k :=
 ⟨T,a,b,h,t,rfl,h1,h2,h3,h4,h5,λz U u1 u2 u3=>kk 1 U (by omega) u2 (.inl ⟨z,rfl,u3⟩),λz U u1 u2 u3=>kk 0 U u1 u2 (.inr ⟨z,rfl,u3⟩)⟩
theorem Ul {f:Nat->D}:(List.range (a+b)).map f=(List.range a).map f++(List.range b).map λj=>f (a+j):=by
 rw [List.range_add,List.map_append,List.map_map];rfl
def cr4 (A:Nat->Int) (k:Nat):D->D
 | .int l=>.int (A (4*k+l.toNat))
 | d=>d
def crW (A:Nat->Int):D->D
 | .int k=>crD A k.toNat
 | d=>d
noncomputable def ixW (s:Nat->Int × Int) (a e:Nat) (d:D):Nat:=by
 classical
 exact if h:∃j,j<e/\d=sd (s (a+j)) then a+Classical.choose h else 0
theorem Qol (hinj:∀i j,i<a+e->j<a+e->s i=s j->i=j) (hj:j<e):ixW s a e (sd (s (a+j)))=a+j:=by
 unfold ixW
 have h:∃i,i<e/\sd (s (a+j))=sd (s (a+i)):=⟨j,hj,rfl⟩
 rw [dif_pos h]
 obtain ⟨h1,h2⟩:=Classical.choose_spec h
 exact (hinj _ _ (by omega) (by omega) (Qny h2)).symm
def Js:GA:=λds k=>∃(m e:Nat) (s:Nat->Int × Int) (B:Nat->Int) (h:Nat->Nat) (r:Int) (T:List (List Key × D)),ds=[.int m,.lst ((List.range e).map λj=>sd (s (4*m+j))),.int r,.dit T]/\m<=20/\e<=20 /\
 (∀i,i<4*m->s i=M.sp m i)/\(∀i j,i<4*m+e->j<4*m+e->s i=s j->i=j)/\M.Tw (4*m+e) B h/\(∀i,i<4*m+e->valD T (sk (s i))=some (sd (s (h i))))/\k (webD m e (M.anw B (4*m+e)) r)
abbrev Jk:Stmt:=top 36
theorem Jj:FnScope ["_law_many","_law_rim","_law_rings","_law_ties_here","_law_spots_here","_law_k","_law_names","_law_spot","_law_number","_law_crossings"] ["_law_many","_law_rim","_law_rings","_law_ties_here"] (Qe Jk):=⟨rfl,rfl,rfl,by decide +kernel,rfl,by decide +kernel,by decide +kernel⟩
def Xf:Tg:={ own:=λi=>i == 4 || i == 5 || i == 6 || i == 7 || i == 8 || i == 9,io:=[] }
def Xb:WS:=(wSeq (wSet 4 (wLst wNil))
 (wSeq (wFor (Qbd (Qb (wVar 0) wNil)) (gN 5) (wSet 4 (wBin Yq (wVar 4) (Ux (Qbd (Qb (wC (.int 4)) wNil)) wAll (Q0 (wTup (Qb (wVar 1) (Qb (wVar 0) wNil)))) [5]))))
 (wSeq (wSet 6 (wC (.dit [])))
 (wSeq (wFor (V0 (wBin Yq (wVar 4) (wVar 1))) (gN 7) (wIf (wBl (wBin (dIn true) (wVar 7) (wVar 6))) (wSeq (wSet 8 (wBin dDiv (Qn Qqv (Qb (wVar 6) wNil)) (wC (.int 2))))
 (wSeq (Yl 6 (wVar 8) (wVar 7))
 (Yl 6 (wVar 8) (wBin dIx (wVar 3) (wVar 7))))) Jh))
 (wSeq (wSet 9 (Ux (Qbd (Qb (wVar 0) wNil)) wAll (Qn Zy (Qb (Ux (Qbd (Qb (wC (.int 4)) wNil)) wAll (Q0 (wBin dIx (wVar 2) (wTup (Qb (wVar 1) (Qb (wVar 0) wNil))))) [0,1]) wNil)) [6]))
 (wRet (Q0 (wTup (Qb (Qn Zy (Qb (wVar 9) wNil)) (Qb (Qn Zy (Qb (Ux (V0 (wVar 1)) wAll (Q0 (wBin dIx (wVar 1) (wVar 0))) [6]) wNil)) (Qb (wVar 2) wNil)))))))))))
theorem Qen (B:Bn K mg):∀(cdv:Value) (A:Around) (outer:List PySem.Env) (s:Shared) (H:Hp) (E:XK),Room 0 (A.deeper (envOfC "_law_built" (Qe Jk) s.heap.objs.size f cdv))->SVs (cxOf CX0 P w K mg base ["_law_many","_law_rim","_law_rings","_law_ties_here","_law_spots_here","_law_k","_law_names","_law_spot","_law_number","_law_crossings"] "_law_built" (Qe Jk) f cdv A outer s H E).nox Xf (Qy Jk) Xb:=λcdv A outer s H E hr =>
  (Qg (Q4 (i:=4) (Zx Qf) Jj.nd)
  (Qg (Zr PassesOwn.never (Y6 B.nb_range (Qa (Qc 0) Qf)) (Ju (i:=5) Jj.nd) (Qj (Q4 (i:=4) (Ja Q8 (Qc 4) (J7 (Yz [5] (Y6 B.nb_range (Qa Qd Qf)) (λ_ _ _ _ _=>Vj) (λ_ _ _ _ _=>(Q3 (Qr (Qa (Qc 1) (Qa (Qc 0) Qf)))))) (Jf (Qe Jk) ["_law_many","_law_rim","_law_rings","_law_ties_here","_law_spots_here","_law_k","_law_names","_law_spot","_law_number","_law_crossings"] (by decide +kernel)))) Jj.nd)))
  (Qg (Q4 (i:=6) Qgx Jj.nd)
  (Qg (Zr PassesOwn.never (Vb (Ja Q8 (Qc 4) (Qc 1))) (Ju (i:=7) Jj.nd) (Qj (Za (Jx (Qod (Qp hr)) (Qc 7) (Qc 6)) (Qg (Q4 (i:=8) (Ja Qjn (Je Qq0 B.nb_len Zz (Qa (Qc 6) Qf)) Qd) Jj.nd)
  (Qg (Yn (i:=6) (Qp hr) (Qc 8) (Qc 7))
  (Qj (Yn (i:=6) (Qp hr) (Qc 8) (Qs (Qt (Qp hr)) (Qc 3) (Qc 7)))))) Jc)))
  (Qg (Qlk (j:=9) (Yz [6] (Y6 B.nb_range (Qa (Qc 0) Qf)) (λ_ _ _ _ _=>Vj) (λ_ _ _ _ _=>(Jl J8 B.nb_tuple Jz (Qa (J7 (Yz [0,1] (Y6 B.nb_range (Qa Qd Qf)) (λ_ _ _ _ _=>Vj) (λ_ _ _ _ _=>(Q3 (Qs (Qt (Qp hr)) (Qc 2) (Qr (Qa (Qc 1) (Qa (Qc 0) Qf))))))) (Jf ({ kind:=.function,names:=[(".0",.local),("_law_k",.cell),("tuple",.globalImplicit),("range",.globalImplicit),("_law_names",.cell)],isGenerator:=false,isCoroutine:=false }:Scope) ["_law_k","_law_names"] (by decide +kernel))) Qf)))) (Qkx (Qe Jk) ["_law_many","_law_rim","_law_rings","_law_ties_here","_law_spots_here","_law_k","_law_names","_law_spot","_law_number","_law_crossings"] (by decide +kernel)) Jj.nd)
  (Qj (Qx (Q3 (Qr (Qa (Jl J8 B.nb_tuple Jz (Qa (Qc 9) Qf)) (Qa (Jl J8 B.nb_tuple Jz (Qa (J7 (Yz [6] (Vb (Qc 1)) (λ_ _ _ _ _=>Vj) (λ_ _ _ _ _=>(Q3 (Qs (Qt (Qp hr)) (Qc 1) (Qc 0))))) (Jf (Qe Jk) ["_law_many","_law_rim","_law_rings","_law_ties_here","_law_spots_here","_law_k","_law_names","_law_spot","_law_number","_law_crossings"] (by decide +kernel))) Qf)) (Qa (Qc 2) Qf))))))))))))
theorem Qcm (F:Fun K "_law_built" "_law_built" Jk f fd) (B:Bn K mg):FnOk P w K mg base CX0 1 f fd ["_law_many","_law_rim","_law_rings","_law_ties_here"] (spR K Js):=by
 refine Yk (T:=Xf) F Jj rfl (by decide) (λds kk h=>?_) (Qen B) (λds kk h=>?_)
 ·obtain ⟨m,e,s,B,h,r,T,rfl,_⟩:=h
  rfl
 ·obtain ⟨m,e,s,B,h,r,T,rfl,hm,he,hs,hinj,tw,hT,k⟩:=h
  have prim:Ql ((List.range e).map λj=>sd (s (4*m+j)))=true:=Qi λ_ _=>rfl
  simp only [Xb,wSeq,wSet,wLst,wNil,List.length_nil,sz0,env0,List.map_cons,List.map_nil,List.length_cons,Nat.zero_add,Nat.reduceAdd,List.replicate,List.cons_append,List.nil_append,List.set_cons_succ,List.set_cons_zero,Gh,Xj,Qb,Qw,look,Qh,V8,Int.reducePow,Int.reduceNeg,Int.toNat_natCast,true_and]
  refine ⟨by omega,by omega,Qah,λt ρ=>∃o:Option D,t<=m/\ρ=[some (.int m),some (.lst ((List.range e).map λj=>sd (s (4*m+j)))),some (.int r),some (.dit T),some (.lst ((List.range (4*t)).map (spD m))),o,none,none,none,none],⟨none,Nat.zero_le _,rfl⟩,?_,?_⟩
  ·rintro t d ρ hd ⟨o,_,rfl⟩
   obtain ⟨ht,rfl⟩:=Qca hd
   simp only [gN,wSet,wBin,List.set_cons_succ,List.set_cons_zero,Vz,Xj,Qb,wC,wNil,V8,Int.reducePow,Int.reduceNeg,Int.reduceLE,Int.reduceLT,Int.reduceToNat,true_and,Qw,look,Qh]
   refine Jo (λd=>.tup [.int (0+(t:Int)),d]) (by rw [Jr];decide) (λd hd Q' hQ=>?_) ?_
   ·obtain ⟨j,hj,rfl⟩:=Gn hd
    simp only [Q0,wTup,Qb,blkE,List.map_cons,look,List.map_nil,wNil,List.length_cons,List.length_nil,Nat.zero_add,Nat.reduceAdd,sz2,D.pure,Ql,Bool.and_true,true_and,Qw,Qh]
    exact hQ
   ·have e1:(rngD 0 4).map (λd=>D.tup [.int (0+(t:Int)),d])=(List.range 4).map λj=>spD m (4*t+j):=by
     unfold rngD
     rw [List.map_map]
     apply List.map_congr_left
     intro j hj
     unfold spD
     rw [M.Qin ht (List.mem_range.mp hj)]
     simp
    simp only [List.set_cons_succ,List.set_cons_zero,G4]
    rw [e1]
    refine ⟨Gi,Qi λ_ _=>rfl,by simp;exact Nat.le_of_lt (big (by omega)),some (.int (0+(t:Int))),ht,?_⟩
    rw [show 4*(t+1)=4*t+4 by omega,Ul]
  ·rintro ρ ⟨o,_,rfl⟩
   rw [Jr]
   simp only [wSeq,wSet,wC,List.set_cons_succ,List.set_cons_zero,Gh,Gg,wBin,Qw,look,Qh,G4,Gi,prim,List.length_map,List.length_range,Qbq,true_and]
   have eL:(List.range (4*m)).map (spD m)++(List.range e).map (λj=>sd (s (4*m+j)))=(List.range (4*m+e)).map λi=>sd (s i):=by
    rw [Ul]
    congr 1
    refine List.map_congr_left λi hi=>?_
    rw [hs i (List.mem_range.mp hi)];rfl
   rw [eL]
   refine ⟨Nat.le_of_lt (big (by omega)),Qi λ_ _=>rfl,λt ρ=>∃(N:List (List Key × D)) (o7 o8:Option D),t<=4*m+e/\ρ=[some (.int m),some (.lst ((List.range e).map λj=>sd (s (4*m+j)))),some (.int r),some (.dit T),some (.lst ((List.range (4*m)).map (spD m))),o,some (.dit N),o7,o8,none]/\N.length=2*(M.keys B t).length/\N.length<=2*t/\pur N /\
    ∀i,i<4*m+e->valD N (sk (s i))=if i<t\/h i<t then some (.int (M.anw B (4*m+e) i)) else none,⟨[],none,none,Nat.zero_le _,rfl,rfl,Nat.zero_le _,rfl,λi hi=>by rw [if_neg (by omega)];rfl⟩,?_,?_⟩
   ·rintro t d ρ hd ⟨N,o7,o8,_,rfl,hN,hN2,hp,hv⟩
    obtain ⟨ht,rfl⟩:t<4*m+e/\d=sd (s t):=by
     rw [List.getElem?_map] at hd
     by_cases q:t<4*m+e
     ·rw [List.getElem?_range q] at hd;exact ⟨q,(Option.some.inj hd).symm⟩
     ·rw [List.getElem?_eq_none (by simp;omega)] at hd;cases hd
    have ks:∀q:Int × Int,([Sum.inl q.1,Sum.inl q.2]:List Key)=sk q:=λ_=>rfl
    have hvt:=hv t ht
    have hls:=M.Vv tw ht
    by_cases hg:h t<t
    ·rw [if_pos (.inr hg)] at hvt
     rw [if_pos hg] at hls
     simp only [gN,wIf,sd,List.set_cons_succ,List.set_cons_zero,wSeq,wSet,wBin,Qn,Qb,wNil,wC,Yl,Qw,Jh,r_bl,look,Option.isSome_some,Qh,Qgh,Jy,Option.map_some,ks,true_and,Qab,Qi2,Int.reduceLT,Qgj,D.pure,Qn7,Bool.true_bne,Jn,hvt,Bool.not_true,Bool.false_eq_true,reduceIte]
     refine ⟨N,_,_,ht,rfl,by omega,by omega,hp,λi hi=>?_⟩
     rw [hv i hi]
     by_cases c:i<t\/h i<t
     ·rw [if_pos c,if_pos (by omega)]
     ·rw [if_neg c,if_neg]
      rintro (z | z)
      ·exact c (.inr (by rw [show i=t by omega];exact hg))
      ·have z:h i=t:=by omega
       have:=tw.inv hi
       rw [z] at this
       exact c (.inl (by omega))
    ·rw [if_neg (by omega)] at hvt
     rw [if_neg hg] at hls
     have hht:=tw.lt t ht
     have hinv:=tw.inv ht
     have hne:=tw.ne t ht
     have hnm:=M.Qra tw ht hg
     have htw:=M.Qg5 tw ht
     have hk:sk (s (h t))≠sk (s t):=λz=>hne (hinj _ _ hht ht (Ut z))
     have hdiv:(N.length:Int) / 2=M.anw B (4*m+e) t:=by rw [hnm,hN];omega
     have ev2:valD N (sk (s (h t)))=none:=by rw [hv _ hht,if_neg (by rw [hinv];omega)]
     have hl1:(putD N (sk (s t)) (.int (M.anw B (4*m+e) t))).length=N.length+1:=by rw [Qcd _ hvt];simp
     have hl2:(putD (putD N (sk (s t)) (.int (M.anw B (4*m+e) t))) (sk (s (h t))) (.int (M.anw B (4*m+e) t))).length=N.length+2:=by rw [Qcd _ (by rw [Ym,if_neg hk,ev2]),List.length_append,hl1];rfl
     simp only [gN,wIf,sd,List.set_cons_succ,List.set_cons_zero,wSeq,wSet,wBin,Qn,Qb,wNil,wC,Yl,Qw,Jh,r_bl,look,Option.isSome_some,Qh,Qgh,Jy,Option.map_some,ks,hT t ht,true_and,Qab,Qi2,Int.reduceLT,Qgj,D.pure,hdiv,Qn7,Bool.true_bne,Jn,hvt,Option.isSome_none,Bool.not_false,reduceIte]
     refine ⟨big (by omega),?_⟩
     simp only [hl1]
     refine ⟨big (by omega),_,_,_,ht,rfl,by omega,by omega,U6 (U6 hp rfl) rfl,λi hi=>?_⟩
     rw [Ym,Ym]
     by_cases c1:i=h t
     ·rw [if_pos (by rw [c1]),if_pos (.inr (by rw [c1,hinv];omega)),c1,htw]
     ·rw [if_neg (λz=>c1 (hinj _ _ hi hht (Ut z)))]
      by_cases c2:i=t
      ·rw [if_pos (by rw [c2]),if_pos (.inl (by omega)),c2]
      ·rw [if_neg (λz=>c2 (hinj _ _ hi ht (Ut z))),hv i hi]
       by_cases c:i<t\/h i<t
       ·rw [if_pos c,if_pos (by omega)]
       ·rw [if_neg c,if_neg]
        rintro (z | z)
        ·omega
        ·have z:h i=t:=by omega
         have:=tw.inv hi
         rw [z] at this
         exact c1 this.symm
   ·rintro ρ ⟨N,o7,o8,_,rfl,hN,hN2,hp,hv⟩
    simp only [List.length_map,List.length_range] at hv
    have hv:∀i,i<4*m+e->valD N (sk (s i))=some (.int (M.anw B (4*m+e) i)):=λi hi=>by rw [hv i hi,if_pos (.inl hi)]
    have ks:∀q:Int × Int,([Sum.inl q.1,Sum.inl q.2]:List Key)=sk q:=λ_=>rfl
    simp only [wSeq,wSet,wRet,Q0,wTup,Qb,Qn,wNil,List.length_cons,List.length_nil,Nat.zero_add,Nat.reduceAdd,sz3,D.pure,Ql,Bool.and_true,true_and,Qw,Vz,Gg,Xj,look,Qh,V8,Int.reducePow,Int.reduceNeg,Int.toNat_natCast]
    refine ⟨by omega,by omega,Jo (crW (M.anw B (4*m+e))) (by rw [Jr];exact big (by omega)) (λd hd Q' hQ=>?_) ?_⟩
    ·obtain ⟨j,hj,rfl⟩:=Gn hd
     simp only [Qn,Qb,blkE,List.map_cons,look,List.map_nil,wNil,Vz,Xj,wC,V8,Int.reducePow,Int.reduceNeg,Int.reduceLE,Int.reduceLT,Int.reduceToNat,true_and]
     refine Jo (cr4 (M.anw B (4*m+e)) j) (by rw [Jr];decide) (λd hd Q2 hQ2=>?_) ?_
     ·obtain ⟨l,hl,rfl⟩:=Gn hd
      have hl:l<4:=hl
      have e1:([Sum.inl (0+(j:Int)),Sum.inl (0+(l:Int))]:List Key)=sk (s (4*j+l)):=by
       rw [hs _ (by omega),M.Qin (by omega) hl]
       simp [sk]
      simp only [Q0,wBin,blkE,List.map_cons,look,List.map_nil,wTup,Qb,wNil,List.length_cons,List.length_nil,Nat.zero_add,Nat.reduceAdd,sz2,true_and,Qw,Qh,Qgh,Jy,Option.map_some]
      rw [e1,hv _ (show 4*j+l<4*m+e by omega)]
      refine ⟨rfl,?_⟩
      have e2:cr4 (M.anw B (4*m+e)) j (D.int (0+(l:Int)))=.int (M.anw B (4*m+e) (4*j+l)):=by
       show D.int (M.anw B (4*m+e) (4*j+(0+(l:Int)).toNat))=_
       rw [show (0+(l:Int)).toNat=l by omega]
      rw [e2] at hQ2
      exact hQ2
     ·simp only [Vy]
      have e3:(rngD 0 4).map (cr4 (M.anw B (4*m+e)) j)=(List.range 4).map λl=>D.int (M.anw B (4*m+e) (4*j+l)):=rfl
      have e4:crW (M.anw B (4*m+e)) (D.int (0+(j:Int)))=D.tup ((List.range 4).map λl=>.int (M.anw B (4*m+e) (4*j+l))):=by
       show crD (M.anw B (4*m+e)) (0+(j:Int)).toNat=_
       rw [show (0+(j:Int)).toNat=j by omega]
       rfl
      rw [e3]
      rw [e4] at hQ
      exact ⟨Qi λ_ _=>rfl,hQ⟩
    ·have e5:(rngD 0 m).map (crW (M.anw B (4*m+e)))=(List.range m).map λk=>D.tup ((List.range 4).map λj=>.int (M.anw B (4*m+e) (4*k+j))):=by
      unfold rngD
      rw [List.map_map]
      refine List.map_congr_left λk hk=>?_
      show crD (M.anw B (4*m+e)) (0+(k:Int)).toNat=_
      rw [show (0+(k:Int)).toNat=k by omega]
      rfl
     rw [e5]
     have pc:Ql ((List.range m).map λk=>D.tup ((List.range 4).map λj=>.int (M.anw B (4*m+e) (4*k+j))))=true:=Qi λ_ _=>by simp only [D.pure];exact Qi λ_ _=>rfl
     simp only [List.set_cons_succ,List.set_cons_zero,look,Qh,Qbq,Vy,pc,D.pure,Bool.true_and,true_and]
     refine Jo (λd=>.int (M.anw B (4*m+e) (ixW s (4*m) e d))) (by simp;exact big (by omega)) (λd hd Q2 hQ2=>?_) ?_
     ·obtain ⟨j,hj,rfl⟩:=List.mem_map.mp hd
      have hj:=List.mem_range.mp hj
      simp only [Qol hinj hj] at hQ2
      simp only [Q0,wBin,blkE,sd,List.map_cons,look,List.map_nil,Qw,Qh,Qgh,Jy,Option.map_some,ks,hv _ (show 4*m+j<4*m+e by omega),D.pure,true_and]
      exact hQ2
     ·rw [List.map_map]
      have e6:(List.range e).map ((λd=>D.int (M.anw B (4*m+e) (ixW s (4*m) e d))) ∘ λj=>sd (s (4*m+j)))=(List.range e).map λj=>.int (M.anw B (4*m+e) (4*m+j)):=by
       refine List.map_congr_left λj hj=>?_
       show D.int (M.anw B (4*m+e) (ixW s (4*m) e (sd (s (4*m+j)))))=_
       rw [Qol hinj (List.mem_range.mp hj)]
      rw [e6]
      have pe:Ql ((List.range e).map λj=>D.int (M.anw B (4*m+e) (4*m+j)))=true:=Qi λ_ _=>rfl
      simp only [look,Qh,D.pure,Bool.and_true,Vy,pe,true_and]
      exact k
def Gr:GA:=λds k=>∃(m e:Nat) (A:Nat->Int) (r:Int),ds=[webD m e A r,webD m e A r]/\m<=50/\e<=50/\k (.bl true)
abbrev Z9:Stmt:=top 37
theorem Gy:FnScope ["_law_found","_law_due_here","_law_row","_law_number"] ["_law_found","_law_due_here"] (Qe Z9):=⟨rfl,rfl,rfl,by decide +kernel,rfl,by decide +kernel,by decide +kernel⟩
def Qdg:Tg:={ own:=λi=>i == 2 || i == 3,io:=[] }
def Qc6:WS:=(wSeq (wIf (wOr (wNot (wTru (Qn dIsi (Qb (wVar 0) (Qb (wC (.ty .tuple)) wNil))))) (wBl (wBin dNe (wVar 0) (wVar 1)))) (wRet (wC (.bl false))) Jh)
 (wSeq (wFor (V0 (wBin Yq (Qn Qqu (Qb (wBin dIx (wVar 0) (wC (.int 0))) wNil)) (wLst (Qb (Q0 (wBin dIx (wVar 0) (wC (.int 1)))) (Qb (Q0 (wTup (Qb (wBin dIx (wVar 0) (wC (.int 2))) wNil))) wNil))))) (gN 2) (wSeq (wIf (wNot (wTru (Qn dIsi (Qb (wVar 2) (Qb (wC (.ty .tuple)) wNil))))) (wRet (wC (.bl false))) Jh)
 (wFor (V0 (Q0 (wVar 2))) (gN 3) (wIf (wOr (wNot (wTru (Qn dIsi (Qb (wVar 3) (Qb (wC (.ty .int)) wNil))))) (wTru (Qn dIsi (Qb (wVar 3) (Qb (wC (.ty .bool)) wNil))))) (wRet (wC (.bl false))) Jh))))
 (wRet (wC (.bl true)))))
theorem Qlc (B:Bn K mg):∀(cdv:Value) (A:Around) (outer:List PySem.Env) (s:Shared) (H:Hp) (E:XK),Room 0 (A.deeper (envOfC "_law_is" (Qe Z9) s.heap.objs.size f cdv))->SVs (cxOf CX0 P w K mg base ["_law_found","_law_due_here","_law_row","_law_number"] "_law_is" (Qe Z9) f cdv A outer s H E).nox Qdg (Qy Z9) Qc6:=λcdv A outer s H E hr =>
  (Qg (Za (Qeu (Qq2 (Qf6 (Qda (Je Qg3 B.nb_isinstance Ze (Qa (Qc 0) (Qa (Qm4 .tuple B.nb_tuple Jz) Qf))))) (Qk7 (Jx (Quu hr.units) (Qc 0) (Qc 1))))) (Qj (Qx Qhz)) Jc)
  (Qg (Zr PassesOwn.never (Vb (Ja Q8 (Jl Qqz B.nb_list Qq3 (Qa (Qs (Qt (Qp hr)) (Qc 0) Qd) Qf)) (Zx (Qa (Q3 (Qs (Qt (Qp hr)) (Qc 0) Qd)) (Qa (Q3 (Qr (Qa (Qs (Qt (Qp hr)) (Qc 0) Qd) Qf))) Qf))))) (Ju (i:=2) Gy.nd) (Qg (Za (Qf6 (Qda (Je Qg3 B.nb_isinstance Ze (Qa (Qc 2) (Qa (Qm4 .tuple B.nb_tuple Jz) Qf))))) (Qj (Qx Qhz)) Jc)
  (Qj (Zr PassesOwn.never (Vb (Q3 (Qc 2))) (Ju (i:=3) Gy.nd) (Qj (Za (Qeu (Qq2 (Qf6 (Qda (Je Qg3 B.nb_isinstance Ze (Qa (Qc 3) (Qa (Qm4 .int B.nb_int Qoq) Qf))))) (Qk7 (Qda (Je Qg3 B.nb_isinstance Ze (Qa (Qc 3) (Qa (Qm4 .bool B.nb_bool Qq4) Qf))))))) (Qj (Qx Qhz)) Jc))))))
  (Qj (Qx Qhz))))
theorem Qhp (F:Fun K "_law_is" "_law_is" Z9 f fd) (B:Bn K mg):FnOk P w K mg base CX0 1 f fd ["_law_found","_law_due_here"] (spR K Gr):=by
 refine Yk (T:=Qdg) F Gy rfl (by decide) (λds kk h=>?_) (Qlc B) (λds kk h=>?_)
 ·obtain ⟨m,e,A,r,rfl,_⟩:=h
  rfl
 ·obtain ⟨m,e,A,r,rfl,hm,he,k⟩:=h
  have pc:Ql ((List.range m).map λk=>D.tup ((List.range 4).map λj=>.int (A (4*k+j))))=true:=Qi λ_ _=>by simp only [D.pure];exact Qi λ_ _=>rfl
  have pe:Ql ((List.range e).map λj=>D.int (A (4*m+j)))=true:=Qi λ_ _=>rfl
  have rows:∀d∈((List.range m).map λk=>D.tup ((List.range 4).map λj=>.int (A (4*k+j))))++[D.tup ((List.range e).map λj=>.int (A (4*m+j))),D.tup [.int r]],∃ns:List Int,d=.tup (ns.map .int):=λd hd=>by
   rcases List.mem_append.mp hd with hd | hd
   ·obtain ⟨k,_,rfl⟩:=List.mem_map.mp hd
    exact ⟨(List.range 4).map λj=>A (4*k+j),by rw [List.map_map];rfl⟩
   ·rcases List.mem_cons.mp hd with rfl | hd
    ·exact ⟨(List.range e).map λj=>A (4*m+j),by rw [List.map_map];rfl⟩
    ·exact ⟨[r],List.mem_singleton.mp hd⟩
  simp only [Qc6,wSeq,wIf,wOr,wNot,env0,webD,List.map_cons,List.map_nil,List.length_cons,List.length_nil,Nat.zero_add,Nat.reduceAdd,List.replicate,List.cons_append,List.nil_append,wRet,wC,Jh,Gh,Gg,wBin,Qn,Qb,wNil,wLst,Q0,wTup,sz1,D.pure,Ql,Bool.and_true,sz2,true_and,Qw,reduceIte,r_bl,Qlv,Qpb,isiD,Qgf,look,Qh,Zd,Zo,List.getElem?_cons_succ,List.getElem?_cons_zero,Y0,pe,Y1,Qpa,pc,G4,Bool.and_self,Qbq,Qt8,Jn,Bool.false_eq_true,BEq.rfl,Bool.not_true]
  refine ⟨Qfw,Qfw,λ_=>⟨by simp;exact Nat.le_of_lt (big (by omega)),?_,λt ρ=>∃o2 o3:Option D,ρ=[some (webD m e A r),some (webD m e A r),o2,o3],⟨none,none,rfl⟩,?_,?_⟩,λz=>absurd rfl z⟩
  ·rw [Zm]
   intro d hd
   obtain ⟨ns,rfl⟩:=rows d hd
   exact Zl
  ·rintro t d ρ hd ⟨o2,o3,rfl⟩
   obtain ⟨ns,rfl⟩:=rows d (List.mem_of_getElem? hd)
   have pn:Ql (ns.map D.int)=true:=Zl
   simp only [gN,wSeq,wIf,wNot,List.set_cons_succ,List.set_cons_zero,wRet,wC,Jh,Gh,Gg,Q0,Qw,Qlv,Qn,Qb,wNil,Qpb,isiD,Qgf,look,Qh,D.pure,pn,Xi,true_and,BEq.rfl,Bool.not_true,Bool.false_eq_true,reduceIte]
   refine ⟨λt ρ=>∃o3:Option D,ρ=[some (webD m e A r),some (webD m e A r),some (.tup (ns.map D.int)),o3],⟨_,rfl⟩,?_,?_⟩
   ·rintro t d ρ hd ⟨o3,rfl⟩
    obtain ⟨n,_,rfl⟩:=List.mem_map.mp (List.mem_of_getElem? hd)
    simp only [gN,wIf,wOr,wNot,List.set_cons_succ,List.set_cons_zero,wRet,wC,Jh,reduceIte,Qlv,Qn,Qb,wNil,Qpb,isiD,Qgf,Qw,look,Qh,BEq.rfl,Bool.not_true,Bool.false_eq_true]
    exact ⟨_,rfl⟩
   ·rintro ρ ⟨o3,rfl⟩
    exact ⟨_,_,rfl⟩
  ·rintro ρ ⟨o2,o3,rfl⟩
   simp only [wRet,wC]
   exact k
section
variable (m1 e1 m2:Nat)
def sid (i:Nat):Bool:=decide (i<4*m1\/(4*(m1+m2)<=i/\i<4*(m1+m2)+e1))
def loc (i:Nat):Nat:=if i<4*m1 then i else if i<4*(m1+m2) then i-4*m1 else if i<4*(m1+m2)+e1 then i-4*m2 else i-4*m1-e1
def emb (b:Bool) (x:Nat):Nat:=if b=true then (if x<4*m1 then x else x+4*m2) else (if x<4*m2 then x+4*m1 else x+4*m1+e1)
def bth (A1 A2:Nat->Int) (i:Nat):Int:=if sid m1 e1 m2 i=true then A1 (loc m1 e1 m2 i) else A2 (loc m1 e1 m2 i)
def bG (g1 g2:Nat->Nat) (i:Nat):Nat:=emb m1 e1 m2 (sid m1 e1 m2 i) (if sid m1 e1 m2 i=true then g1 (loc m1 e1 m2 i) else g2 (loc m1 e1 m2 i))
theorem four (i:Nat):(i<4*m1/\sid m1 e1 m2 i=true/\loc m1 e1 m2 i=i)\/(4*m1<=i/\i<4*(m1+m2)/\sid m1 e1 m2 i=false/\loc m1 e1 m2 i=i-4*m1) \/
  (4*(m1+m2)<=i/\i<4*(m1+m2)+e1/\sid m1 e1 m2 i=true/\loc m1 e1 m2 i=i-4*m2)\/(4*(m1+m2)+e1<=i/\sid m1 e1 m2 i=false/\loc m1 e1 m2 i=i-4*m1-e1):=by
 unfold sid loc
 by_cases h1:i<4*m1
 ·exact .inl ⟨h1,decide_eq_true (.inl h1),if_pos h1⟩
 ·by_cases h2:i<4*(m1+m2)
  ·exact .inr (.inl ⟨by omega,h2,decide_eq_false (by omega),by rw [if_neg h1,if_pos h2]⟩)
  ·by_cases h3:i<4*(m1+m2)+e1
   ·exact .inr (.inr (.inl ⟨by omega,h3,decide_eq_true (.inr ⟨by omega,h3⟩),by rw [if_neg h1,if_neg h2,if_pos h3]⟩))
   ·exact .inr (.inr (.inr ⟨by omega,decide_eq_false (by omega),by rw [if_neg h1,if_neg h2,if_neg h3]⟩))
theorem Qcw (x:Nat):(x<4*m1/\emb m1 e1 m2 true x=x)\/(4*m1<=x/\emb m1 e1 m2 true x=x+4*m2):=by
 unfold emb
 rw [if_pos rfl]
 by_cases h:x<4*m1
 ·exact .inl ⟨h,if_pos h⟩
 ·exact .inr ⟨by omega,if_neg h⟩
theorem Qcx (x:Nat):(x<4*m2/\emb m1 e1 m2 false x=x+4*m1)\/(4*m2<=x/\emb m1 e1 m2 false x=x+4*m1+e1):=by
 unfold emb
 rw [if_neg (by decide)]
 by_cases h:x<4*m2
 ·exact .inl ⟨h,if_pos h⟩
 ·exact .inr ⟨by omega,if_neg h⟩
end
section
variable {e2:Nat}
theorem Qkl (i:Nat):emb m1 e1 m2 (sid m1 e1 m2 i) (loc m1 e1 m2 i)=i:=by
 rcases four m1 e1 m2 i with ⟨h,a,b⟩ | ⟨h,h',a,b⟩ | ⟨h,h',a,b⟩ | ⟨h,a,b⟩
 ·rw [a,b];rcases Qcw m1 e1 m2 i with z | z <;> omega
 ·rw [a,b];rcases Qcx m1 e1 m2 (i-4*m1) with z | z <;> omega
 ·rw [a,b];rcases Qcw m1 e1 m2 (i-4*m2) with z | z <;> omega
 ·rw [a,b];rcases Qcx m1 e1 m2 (i-4*m1-e1) with z | z <;> omega
theorem loc1 (hi:i<4*(m1+m2)+(e1+e2)) (h:sid m1 e1 m2 i=true):loc m1 e1 m2 i<4*m1+e1:=by
 rcases four m1 e1 m2 i with ⟨h1,a,b⟩ | ⟨h1,h',a,b⟩ | ⟨h1,h',a,b⟩ | ⟨h1,a,b⟩
 ·omega
 ·rw [h] at a;cases a
 ·omega
 ·rw [h] at a;cases a
theorem loc2 (hi:i<4*(m1+m2)+(e1+e2)) (h:sid m1 e1 m2 i=false):loc m1 e1 m2 i<4*m2+e2:=by
 rcases four m1 e1 m2 i with ⟨h1,a,b⟩ | ⟨h1,h',a,b⟩ | ⟨h1,h',a,b⟩ | ⟨h1,a,b⟩
 ·rw [h] at a;cases a
 ·omega
 ·rw [h] at a;cases a
 ·omega
theorem emb1 (hx:x<4*m1+e1):emb m1 e1 m2 true x<4*(m1+m2)+(e1+e2)/\sid m1 e1 m2 (emb m1 e1 m2 true x)=true/\loc m1 e1 m2 (emb m1 e1 m2 true x)=x:=by
 rcases Qcw m1 e1 m2 x with ⟨z,e⟩ | ⟨z,e⟩ <;> rw [e]
 ·rcases four m1 e1 m2 x with ⟨h1,a,b⟩ | ⟨h1,h',a,b⟩ | ⟨h1,h',a,b⟩ | ⟨h1,a,b⟩ <;> first | exact ⟨by omega,a,b⟩ | omega
 ·rcases four m1 e1 m2 (x+4*m2) with ⟨h1,a,b⟩ | ⟨h1,h',a,b⟩ | ⟨h1,h',a,b⟩ | ⟨h1,a,b⟩ <;> first | exact ⟨by omega,a,by omega⟩ | omega
theorem emb2 (hx:x<4*m2+e2):emb m1 e1 m2 false x<4*(m1+m2)+(e1+e2)/\sid m1 e1 m2 (emb m1 e1 m2 false x)=false/\loc m1 e1 m2 (emb m1 e1 m2 false x)=x:=by
 rcases Qcx m1 e1 m2 x with ⟨z,e⟩ | ⟨z,e⟩ <;> rw [e]
 ·rcases four m1 e1 m2 (x+4*m1) with ⟨h1,a,b⟩ | ⟨h1,h',a,b⟩ | ⟨h1,h',a,b⟩ | ⟨h1,a,b⟩ <;> first | exact ⟨by omega,a,by omega⟩ | omega
 ·rcases four m1 e1 m2 (x+4*m1+e1) with ⟨h1,a,b⟩ | ⟨h1,h',a,b⟩ | ⟨h1,h',a,b⟩ | ⟨h1,a,b⟩ <;> first | exact ⟨by omega,a,by omega⟩ | omega
theorem bth1 (hx:x<4*m1+e1):bth m1 e1 m2 A1 A2 (emb m1 e1 m2 true x)=A1 x:=by
 obtain ⟨_,a,b⟩:=emb1 (m2:=m2) (e2:=0) hx
 unfold bth
 rw [a,b,if_pos rfl]
theorem bth2 (hx:x<4*m2+e2):bth m1 e1 m2 A1 A2 (emb m1 e1 m2 false x)=A2 x:=by
 obtain ⟨_,a,b⟩:=emb2 (m1:=m1) (e1:=e1) hx
 unfold bth
 rw [a,b,if_neg (by decide)]
theorem bG1 {g2:Nat->Nat} (hx:x<4*m1+e1):bG m1 e1 m2 g1 g2 (emb m1 e1 m2 true x)=emb m1 e1 m2 true (g1 x):=by
 obtain ⟨_,a,b⟩:=emb1 (m2:=m2) (e2:=0) hx
 unfold bG
 rw [a,b,if_pos rfl]
theorem bG2 {g2:Nat->Nat} (hx:x<4*m2+e2):bG m1 e1 m2 g1 g2 (emb m1 e1 m2 false x)=emb m1 e1 m2 false (g2 x):=by
 obtain ⟨_,a,b⟩:=emb2 (m1:=m1) (e1:=e1) hx
 unfold bG
 rw [a,b,if_neg (by decide)]
theorem Xn (hi:i<4*(m1+m2)+(e1+e2)):(∃x,x<4*m1+e1/\i=emb m1 e1 m2 true x)\/∃x,x<4*m2+e2/\i=emb m1 e1 m2 false x:=by
 cases h:sid m1 e1 m2 i with
 | true=>exact .inl ⟨_,loc1 hi h,by rw [← h,Qkl]⟩
 | false=>exact .inr ⟨_,loc2 hi h,by rw [← h,Qkl]⟩
theorem Qtn {g2:Nat->Nat} (T1:M.Tw (4*m1+e1) A1 g1) (T2:M.Tw (4*m2+e2) A2 g2) (hd:∀x y,x<4*m1+e1->y<4*m2+e2->A1 x≠A2 y):M.Tw (4*(m1+m2)+(e1+e2)) (bth m1 e1 m2 A1 A2) (bG m1 e1 m2 g1 g2):=by
 refine ⟨λi hi=>?_,λi hi=>?_,λi hi=>?_,λi k hi hk h=>?_⟩
 ·rcases Xn hi with ⟨x,hx,rfl⟩ | ⟨x,hx,rfl⟩
  ·rw [bG1 hx];exact (emb1 (T1.lt x hx)).1
  ·rw [bG2 hx];exact (emb2 (T2.lt x hx)).1
 ·rcases Xn hi with ⟨x,hx,rfl⟩ | ⟨x,hx,rfl⟩
  ·rw [bG1 hx];intro z
   have:=congrArg (loc m1 e1 m2) z
   rw [(emb1 (m2:=m2) (e2:=e2) (T1.lt x hx)).2.2,(emb1 (m2:=m2) (e2:=e2) hx).2.2] at this
   exact T1.ne x hx this
  ·rw [bG2 hx];intro z
   have:=congrArg (loc m1 e1 m2) z
   rw [(emb2 (m1:=m1) (e1:=e1) (T2.lt x hx)).2.2,(emb2 (m1:=m1) (e1:=e1) hx).2.2] at this
   exact T2.ne x hx this
 ·rcases Xn hi with ⟨x,hx,rfl⟩ | ⟨x,hx,rfl⟩
  ·rw [bG1 hx,bth1 hx,bth1 (T1.lt x hx),T1.eq x hx]
  ·rw [bG2 hx,bth2 hx,bth2 (T2.lt x hx),T2.eq x hx]
 ·rcases Xn hi with ⟨x,hx,rfl⟩ | ⟨x,hx,rfl⟩
  ·rcases Xn hk with ⟨y,hy,rfl⟩ | ⟨y,hy,rfl⟩
   ·rw [bth1 hx,bth1 hy] at h
    rw [bG1 hx]
    rcases T1.only x y hx hy h with z | z
    ·exact .inl (by rw [z])
    ·exact .inr (by rw [z])
   ·rw [bth1 hx,bth2 hy] at h
    exact absurd h.symm (hd x y hx hy)
  ·rcases Xn hk with ⟨y,hy,rfl⟩ | ⟨y,hy,rfl⟩
   ·rw [bth2 hx,bth1 hy] at h
    exact absurd h (hd y x hy hx)
   ·rw [bth2 hx,bth2 hy] at h
    rw [bG2 hx]
    rcases T2.only x y hx hy h with z | z
    ·exact .inl (by rw [z])
    ·exact .inr (by rw [z])
end
theorem Qbb (T:M.Tw n A g):M.Tw n (M.anw A n) g:=by
 refine ⟨T.lt,T.ne,λi hi=>M.Qg5 T hi,λi k hi hk h=>T.only i k hi hk ?_⟩
 unfold M.anw at h
 exact M.Qj2 (M.Vu hk) (M.Vu hi) (by omega)
theorem Qd4 {n:Nat} {A B:Nat->Int} {g:Nat->Nat} (TA:M.Tw n A g) (TB:M.Tw n B g):∀t,t<=n->(M.keys A t).length=(M.keys B t).length
 | 0,_=>rfl
 | t+1,h=>by rw [M.Vv TA (by omega),M.Vv TB (by omega),Qd4 TA TB t (by omega)]
def mny (n:Nat) (A:Nat->Int):Int:=((M.keys (M.anw A n) n).length:Nat)
theorem Qtq (T:M.Tw n A g) (hi:i<n):M.anw A n i<mny n A:=by
 unfold mny
 rw [← Qd4 T (Qbb T) n (Nat.le_refl _)]
 have:=M.Qs8 (M.Vu (A:=A) hi)
 unfold M.anw
 omega
def twoA (m1 e1 m2:Nat) (A1 A2:Nat->Int):Nat->Int:=bth m1 e1 m2 (M.anw A1 (4*m1+e1)) λy=>A2 y+mny (4*m1+e1) A1
theorem two_tw {e2:Nat} {g2:Nat->Nat} (T1:M.Tw (4*m1+e1) A1 g1) (T2:M.Tw (4*m2+e2) A2 g2) (hA:∀i,0<=A2 i):M.Tw (4*(m1+m2)+(e1+e2)) (twoA m1 e1 m2 A1 A2) (bG m1 e1 m2 g1 g2):=by
 refine Qtn (Qbb T1) ⟨T2.lt,T2.ne,λi hi=>by rw [T2.eq i hi],λi k hi hk h=>T2.only i k hi hk (by omega)⟩ λx y hx hy h=>?_
 have:=Qtq T1 hx
 have:=hA y
 omega
def Up:GA:=λds k=>∃(ns:List Int) (q:Int),ds=[.tup (ns.map .int),.int q]/\ns.length<=100/\k (.tup (ns.map λn=>.int (n+q)))
abbrev Vm:Stmt:=top 11
theorem Qir:FnScope ["arcs","many"] ["arcs","many"] (Qe Vm):=⟨rfl,rfl,rfl,by decide +kernel,rfl,by decide +kernel,by decide +kernel⟩
def Qf7:Tg:={ own:=λi=>false,io:=[] }
def Qfx:WS:=(wRet (Qn Zy (Qb (Ux (V0 (wVar 0)) wAll (wBin Yq (wVar 0) (wVar 1)) [1]) wNil)))
theorem Qnl (B:Bn K mg):∀(cdv:Value) (A:Around) (outer:List PySem.Env) (s:Shared) (H:Hp) (E:XK),Room 0 (A.deeper (envOfC "raised" (Qe Vm) s.heap.objs.size f cdv))->SVs (cxOf CX0 P w K mg base ["arcs","many"] "raised" (Qe Vm) f cdv A outer s H E).nox Qf7 (Qy Vm) Qfx:=λcdv A outer s H E hr =>
  (Qj (Qx (Jl J8 B.nb_tuple Jz (Qa (J7 (Yz [1] (Vb (Qc 0)) (λ_ _ _ _ _=>Vj) (λ_ _ _ _ _=>(Ja Q8 (Qc 0) (Qc 1)))) (Jf (Qe Vm) ["arcs","many"] (by decide +kernel))) Qf))))
theorem Qjh (F:Fun K "raised" "raised" Vm f fd) (B:Bn K mg):FnOk P w K mg base CX0 1 f fd ["arcs","many"] (spR K Up):=by
 refine Yk (T:=Qf7) F Qir rfl (by decide) (λds kk h=>?_) (Qnl B) (λds kk h=>?_)
 ·obtain ⟨ns,q,rfl,_⟩:=h
  rfl
 ·obtain ⟨ns,q,rfl,hl,k⟩:=h
  simp only [Qfx,wRet,Qn,Qb,env0,List.map_cons,List.map_nil,List.length_cons,List.length_nil,Nat.zero_add,Nat.reduceAdd,List.cons_append,List.nil_append,wNil,Vz,Gg,Qw,look,Qh,Xi,Zl,true_and]
  refine Jo (dF (· + q)) (by rw [List.length_map];exact big (by omega)) (λd hd Q' hQ=>?_) ?_
  ·obtain ⟨n,hn,rfl⟩:=List.mem_map.mp hd
   simp only [wBin,blkE,List.map_cons,look,List.map_nil,Qw,Qh,V9]
   exact hQ
  ·simp only [Vy]
   rw [List.map_map]
   exact ⟨Qi λ_ _=>rfl,k⟩
def Qd9:GA:=λds k=>∃(m1 e1:Nat) (A1:Nat->Int) (r1:Int) (m2 e2:Nat) (A2:Nat->Int) (r2:Int),ds=[webD m1 e1 A1 r1,webD m2 e2 A2 r2]/\m1<=20/\e1<=20/\m2<=20/\e2<=20/\k (webD (m1+m2) (e1+e2) (twoA m1 e1 m2 A1 A2) (r1+r2))
abbrev X9:Stmt:=top 12
theorem Qb8:FnScope ["one","other","first","many","crossings"] ["one","other"] (Qe X9):=⟨rfl,rfl,rfl,by decide +kernel,rfl,by decide +kernel,by decide +kernel⟩
def Qnu:Tg:={ own:=λi=>i == 2 || i == 3 || i == 4,io:=[] }
def Qnr:WS:=(wSeq (wSet 2 (Qn Qv (Qb (wVar 0) wNil)))
 (wSeq (wSet 3 (Qn dLen (Qb (Qn Zv (Qb (wVar 2) wNil)) wNil)))
 (wSeq (wSet 4 (wBin Yq (wBin dIx (wVar 2) (wC (.int 0))) (Qn Zy (Qb (Ux (V0 (wBin dIx (wVar 1) (wC (.int 0)))) wAll (Qn Up (Qb (wVar 0) (Qb (wVar 1) wNil))) [3]) wNil))))
 (wRet (Q0 (wTup (Qb (wVar 4) (Qb (wBin Yq (wBin dIx (wVar 2) (wC (.int 1))) (Qn Up (Qb (wBin dIx (wVar 1) (wC (.int 1))) (Qb (wVar 3) wNil)))) (Qb (wBin Yq (wBin dIx (wVar 2) (wC (.int 2))) (wBin dIx (wVar 1) (wC (.int 2)))) wNil)))))))))
theorem Qtp (B:Bn K mg) (C_places:Cal P w K mg base "places" 1 ["web"] (spR K Zv)) (C_named_anew:Cal P w K mg base "named_anew" 2 ["web"] (spR K Qv)) (C_raised:Cal P w K mg base "raised" 1 ["arcs","many"] (spR K Up)):∀(cdv:Value) (A:Around) (outer:List PySem.Env) (s:Shared) (H:Hp) (E:XK),Room 2 (A.deeper (envOfC "both" (Qe X9) s.heap.objs.size f cdv))->SVs (cxOf CX0 P w K mg base ["one","other","first","many","crossings"] "both" (Qe X9) f cdv A outer s H E).nox Qnu (Qy X9) Qnr:=λcdv A outer s H E hr =>
  (Qg (Q4 (i:=2) (Qo C_named_anew (hr.mono (by decide)) (Qa (Qc 0) Qf)) Qb8.nd)
  (Qg (Q4 (i:=3) (Je Vk B.nb_len Zz (Qa (Qo C_places (hr.mono (by decide)) (Qa (Qc 2) Qf)) Qf)) Qb8.nd)
  (Qg (Q4 (i:=4) (Ja Q8 (Qs (Qt (Qp hr)) (Qc 2) Qd) (Jl J8 B.nb_tuple Jz (Qa (J7 (Yz [3] (Vb (Qs (Qt (Qp hr)) (Qc 1) Qd)) (λ_ _ _ _ _=>Vj) (λ_ _ _ _ _=>(Qo C_raised (hr.mono (by decide)) (Qa (Qc 0) (Qa (Qc 1) Qf))))) (Jf (Qe X9) ["one","other","first","many","crossings"] (by decide +kernel))) Qf))) Qb8.nd)
  (Qj (Qx (Q3 (Qr (Qa (Qc 4) (Qa (Ja Q8 (Qs (Qt (Qp hr)) (Qc 2) Qd) (Qo C_raised (hr.mono (by decide)) (Qa (Qs (Qt (Qp hr)) (Qc 1) Qd) (Qa (Qc 3) Qf)))) (Qa (Ja Q8 (Qs (Qt (Qp hr)) (Qc 2) Qd) (Qs (Qt (Qp hr)) (Qc 1) Qd)) Qf))))))))))
theorem Qp4 (F:Fun K "both" "both" X9 f fd) (B:Bn K mg) (C1:Cal P w K mg base "places" 1 ["web"] (spR K Zv)) (C2:Cal P w K mg base "named_anew" 2 ["web"] (spR K Qv)) (C3:Cal P w K mg base "raised" 1 ["arcs","many"] (spR K Up)):FnOk P w K mg base CX0 3 f fd ["one","other"] (spR K Qd9):=by
 refine Yk (T:=Qnu) F Qb8 rfl (by decide) (λds kk h=>?_) (Qtp B C1 C2 C3) (λds kk h=>?_)
 ·obtain ⟨m1,e1,A1,r1,m2,e2,A2,r2,rfl,_⟩:=h
  rfl
 ·obtain ⟨m1,e1,A1,r1,m2,e2,A2,r2,rfl,hm1,he1,hm2,he2,k⟩:=h
  simp only [Qnr,wSeq,wSet,Qn,Qb,env0,List.map_cons,List.map_nil,List.length_cons,List.length_nil,Nat.zero_add,Nat.reduceAdd,List.replicate,List.cons_append,List.nil_append,wNil,wBin,wC,wRet,Q0,wTup,sz3,D.pure,Ql,Bool.and_true,true_and,Qw,Vz,Gg,look,List.set_cons_succ,List.set_cons_zero,Qh]
  refine ⟨m1,e1,A1,r1,rfl,by omega,by omega,?_⟩
  simp only []
  refine ⟨m1,e1,_,r1,rfl,by omega,by omega,?_⟩
  have hmn:((encP (spD m1) (M.plc (M.anw A1 (4*m1+e1)) (4*m1+e1))).length:Int)=mny (4*m1+e1) A1:=by
   unfold mny M.keys encP
   rw [List.length_map,List.length_map]
  have pcr:∀(m:Nat) (A:Nat->Int),Ql ((List.range m).map λk=>D.tup ((List.range 4).map λj=>.int (A (4*k+j))))=true:=λm A=>Qi λ_ _=>by simp only [D.pure];exact Qi λ_ _=>rfl
  have pin:∀(e a:Nat) (A:Nat->Int),Ql ((List.range e).map λj=>D.int (A (a+j)))=true:=λe a A=>Qi λ_ _=>rfl
  simp only [webD,Zd,Y1,List.getElem?_cons_zero,Qh,Xi,pcr,true_and,Qn5,hmn]
  refine Jo (nmF (· + mny (4*m1+e1) A1)) (by rw [List.length_map,List.length_range];exact big (by omega)) (λd hd Q' hQ=>?_) ?_
  ·obtain ⟨kk,hk,rfl⟩:=List.mem_map.mp hd
   simp only [Qn,Qb,blkE,List.map_cons,look,List.map_nil,wNil,Qw,Qh]
   refine ⟨(List.range 4).map λj=>A2 (4*kk+j),_,by rw [List.map_map];rfl,by simp,?_⟩
   rw [List.map_map]
   exact hQ
  ·have e1':((List.range m2).map λk=>D.tup ((List.range 4).map λj=>.int (A2 (4*k+j)))).map (nmF (· + mny (4*m1+e1) A1))=(List.range m2).map λk=>D.tup ((List.range 4).map λj=>.int ((λy=>A2 y+mny (4*m1+e1) A1) (4*k+j))):=by
    rw [List.map_map];rfl
   rw [e1']
   have c1:(List.range m1).map (λk=>D.tup ((List.range 4).map λj=>.int (M.anw A1 (4*m1+e1) (4*k+j))))++(List.range m2).map (λk=>D.tup ((List.range 4).map λj=>.int ((λy=>A2 y+mny (4*m1+e1) A1) (4*k+j))))=(List.range (m1+m2)).map λk=>D.tup ((List.range 4).map λj=>.int (twoA m1 e1 m2 A1 A2 (4*k+j))):=by
    rw [Ul]
    congr 1
    ·refine List.map_congr_left λk hk=>congrArg D.tup (List.map_congr_left λj hj=>congrArg D.int ?_)
     have hk:=List.mem_range.mp hk
     have hj:=List.mem_range.mp hj
     have z:=bth1 (m1:=m1) (e1:=e1) (m2:=m2) (A1:=M.anw A1 (4*m1+e1)) (A2:=λy=>A2 y+mny (4*m1+e1) A1) (x:=4*k+j) (by omega)
     rcases Qcw m1 e1 m2 (4*k+j) with ⟨_,q⟩ | ⟨q,_⟩
     ·rw [q] at z;exact z.symm
     ·omega
    ·refine List.map_congr_left λk hk=>congrArg D.tup (List.map_congr_left λj hj=>congrArg D.int ?_)
     have hk:=List.mem_range.mp hk
     have hj:=List.mem_range.mp hj
     have z:=bth2 (m1:=m1) (e1:=e1) (m2:=m2) (e2:=e2) (A1:=M.anw A1 (4*m1+e1)) (A2:=λy=>A2 y+mny (4*m1+e1) A1) (x:=4*k+j) (by omega)
     rcases Qcx m1 e1 m2 (4*k+j) with ⟨_,q⟩ | ⟨q,_⟩
     ·rw [q,show 4*k+j+4*m1=4*(m1+k)+j by omega] at z;exact z.symm
     ·omega
   have c2:(List.range e1).map (λj=>D.int (M.anw A1 (4*m1+e1) (4*m1+j)))++(List.range e2).map (λj=>D.int ((λy=>A2 y+mny (4*m1+e1) A1) (4*m2+j)))=(List.range (e1+e2)).map λj=>.int (twoA m1 e1 m2 A1 A2 (4*(m1+m2)+j)):=by
    rw [Ul]
    congr 1
    ·refine List.map_congr_left λj hj=>congrArg D.int ?_
     have hj:=List.mem_range.mp hj
     have z:=bth1 (m1:=m1) (e1:=e1) (m2:=m2) (A1:=M.anw A1 (4*m1+e1)) (A2:=λy=>A2 y+mny (4*m1+e1) A1) (x:=4*m1+j) (by omega)
     rcases Qcw m1 e1 m2 (4*m1+j) with ⟨q,_⟩ | ⟨_,q⟩
     ·omega
     ·rw [q,show 4*m1+j+4*m2=4*(m1+m2)+j by omega] at z;exact z.symm
    ·refine List.map_congr_left λj hj=>congrArg D.int ?_
     have hj:=List.mem_range.mp hj
     have z:=bth2 (m1:=m1) (e1:=e1) (m2:=m2) (e2:=e2) (A1:=M.anw A1 (4*m1+e1)) (A2:=λy=>A2 y+mny (4*m1+e1) A1) (x:=4*m2+j) (by omega)
     rcases Qcx m1 e1 m2 (4*m2+j) with ⟨q,_⟩ | ⟨_,q⟩
     ·omega
     ·rw [q,show 4*m2+j+4*m1+e1=4*(m1+m2)+(e1+j) by omega] at z;exact z.symm
   have pc2:Ql ((List.range m2).map λk=>D.tup ((List.range 4).map λj=>.int ((λy=>A2 y+mny (4*m1+e1) A1) (4*k+j))))=true:=pcr m2 λy=>A2 y+mny (4*m1+e1) A1
   simp only [List.set_cons_succ,List.set_cons_zero,look,Qh,Zd,Zo,List.getElem?_cons_succ,List.getElem?_cons_zero,V9,D.pure,Bool.and_true,Y0,Vy,pc2,Qcc,pcr,List.length_map,List.length_range,c1,Bool.true_and,true_and]
   refine ⟨Nat.le_of_lt (big (by omega)),(List.range e2).map λj=>A2 (4*m2+j),_,by rw [List.map_map];rfl,by simp;omega,?_⟩
   rw [List.map_map]
   have e3:(List.range e2).map ((λn=>D.int (n+mny (4*m1+e1) A1)) ∘ λj=>A2 (4*m2+j))=(List.range e2).map (λj=>D.int ((λy=>A2 y+mny (4*m1+e1) A1) (4*m2+j))):=rfl
   rw [e3]
   have pi2:Ql ((List.range e2).map (λj=>D.int ((λy=>A2 y+mny (4*m1+e1) A1) (4*m2+j))))=true:=Qi λ_ _=>rfl
   simp only [Qcc,pin,pi2,List.length_map,List.length_range,D.pure,c2,true_and]
   exact ⟨Nat.le_of_lt (big (by omega)),k⟩
def itS (m e1:Nat) (x:Nat × (Nat->Int) × Int):Nat->Nat × (Nat->Int) × Int
 | 0=>x
 | k+1=>((M.rest (itS m e1 x k).1 (e1-1-k) (aft (itS m e1 x k).1 (e1-1-k))).length,shA m (itS m e1 x k).1 (e1-1-k) (itS m e1 x k).2.1,shR m (itS m e1 x k).1 (e1-1-k) (itS m e1 x k).2.1 (itS m e1 x k).2.2)
theorem Qj5 {m e1 e2:Nat} {B:Nat->Int} {r:Int}:∀k,k<=e1->k<=e2->(itS m e1 (e1+e2,B,r) k).1+2*k=e1+e2
 | 0,_,_=>rfl
 | k+1,h1,h2=>by
  have ih:=Qj5 (m:=m) (B:=B) (r:=r) k (by omega:k<=e1) (by omega:k<=e2)
  have:=M.Qge (e:=(itS m e1 (e1+e2,B,r) k).1) (p:=e1-1-k) (by omega) (Qle (by omega)) (Qld (by omega) (by omega))
  show (M.rest _ _ _).length+_=_
  omega
def Qa0:GA:=λds k=>∃(m1 e1:Nat) (A1:Nat->Int) (r1:Int) (m2 e2:Nat) (A2:Nat->Int) (r2:Int) (c:Nat),ds=[webD m1 e1 A1 r1,webD m2 e2 A2 r2,.int c]/\m1<=10/\e1<=10/\m2<=10/\e2<=10/\c<=e1/\c<=e2 /\
 k (webD (m1+m2) (itS (m1+m2) e1 (e1+e2,twoA m1 e1 m2 A1 A2,r1+r2) c).1 (M.anw (itS (m1+m2) e1 (e1+e2,twoA m1 e1 m2 A1 A2,r1+r2) c).2.1 (4*(m1+m2)+(itS (m1+m2) e1 (e1+e2,twoA m1 e1 m2 A1 A2,r1+r2) c).1)) (itS (m1+m2) e1 (e1+e2,twoA m1 e1 m2 A1 A2,r1+r2) c).2.2)
abbrev Gz:Stmt:=top 13
theorem Xu:FnScope ["one","other","many","web","k"] ["one","other","many"] (Qe Gz):=⟨rfl,rfl,rfl,by decide +kernel,rfl,by decide +kernel,by decide +kernel⟩
def Qig:Tg:={ own:=λi=>i == 3 || i == 4,io:=[] }
def Qh6:WS:=(wSeq (wSet 3 (Qn Qd9 (Qb (wVar 0) (Qb (wVar 1) wNil))))
 (wSeq (wFor (Qbd (Qb (wVar 2) wNil)) (gN 4) (wSet 3 (Qn J2 (Qb (wVar 3) (Qb (wBin dSub (wBin dSub (Qn dLen (Qb (wBin dIx (wVar 0) (wC (.int 1))) wNil)) (wC (.int 1))) (wVar 4)) wNil)))))
 (wRet (Qn Qv (Qb (wVar 3) wNil)))))
theorem Qq6 (B:Bn K mg) (C_named_anew:Cal P w K mg base "named_anew" 2 ["web"] (spR K Qv)) (C_shut_as_named:Cal P w K mg base "shut_as_named" 2 ["web","place"] (spR K J2)) (C_both:Cal P w K mg base "both" 3 ["one","other"] (spR K Qd9)):∀(cdv:Value) (A:Around) (outer:List PySem.Env) (s:Shared) (H:Hp) (E:XK),Room 3 (A.deeper (envOfC "glued" (Qe Gz) s.heap.objs.size f cdv))->SVs (cxOf CX0 P w K mg base ["one","other","many","web","k"] "glued" (Qe Gz) f cdv A outer s H E).nox Qig (Qy Gz) Qh6:=λcdv A outer s H E hr =>
  (Qg (Q4 (i:=3) (Qo C_both (hr.mono (by decide)) (Qa (Qc 0) (Qa (Qc 1) Qf))) Xu.nd)
  (Qg (Zr PassesOwn.never (Y6 B.nb_range (Qa (Qc 2) Qf)) (Ju (i:=4) Xu.nd) (Qj (Q4 (i:=3) (Qo C_shut_as_named (hr.mono (by decide)) (Qa (Qc 3) (Qa (Ja Qaq (Ja Qaq (Je Vk B.nb_len Zz (Qa (Qs (Qt (Qp hr)) (Qc 0) Qd) Qf)) Qd) (Qc 4)) Qf))) Xu.nd)))
  (Qj (Qx (Qo C_named_anew (hr.mono (by decide)) (Qa (Qc 3) Qf))))))
theorem Qmj (F:Fun K "glued" "glued" Gz f fd) (B:Bn K mg) (C1:Cal P w K mg base "named_anew" 2 ["web"] (spR K Qv)) (C2:Cal P w K mg base "shut_as_named" 2 ["web","place"] (spR K J2)) (C3:Cal P w K mg base "both" 3 ["one","other"] (spR K Qd9)):FnOk P w K mg base CX0 4 f fd ["one","other","many"] (spR K Qa0):=by
 refine Yk (T:=Qig) F Xu rfl (by decide) (λds kk h=>?_) (Qq6 B C1 C2 C3) (λds kk h=>?_)
 ·obtain ⟨m1,e1,A1,r1,m2,e2,A2,r2,c,rfl,_⟩:=h
  rfl
 ·obtain ⟨m1,e1,A1,r1,m2,e2,A2,r2,c,rfl,hm1,he1,hm2,he2,hc1,hc2,k⟩:=h
  generalize hx:(e1+e2,twoA m1 e1 m2 A1 A2,r1+r2)=x at k
  have hlen:∀k,k<=c->(itS (m1+m2) e1 x k).1+2*k=e1+e2:=λk hk=>by rw [← hx];exact Qj5 k (by omega) (by omega)
  have hl1:∀(kq:D->Prop),dIx (webD m1 e1 A1 r1) (.int 1) (λd=>dLen [d] kq)=kq (.int e1):=λkq=>by
   simp only [webD,Zd,Y0,List.getElem?_cons_succ,List.getElem?_cons_zero,Qh,Qad,List.length_map,List.length_range]
  simp only [Qh6,wSeq,wSet,Qn,Qb,env0,List.map_cons,List.map_nil,List.length_cons,List.length_nil,Nat.zero_add,Nat.reduceAdd,List.replicate,List.cons_append,List.nil_append,wNil,Gh,Xj,Qw,look,List.set_cons_succ,List.set_cons_zero,Qh,V8,Int.reducePow,Int.reduceNeg,Int.toNat_natCast]
  refine ⟨m1,e1,A1,r1,m2,e2,A2,r2,rfl,by omega,by omega,by omega,by omega,?_⟩
  simp only [Int.reduceNeg]
  refine ⟨by omega,by omega,Qah,λt ρ=>∃o4:Option D,t<=c/\ρ=[some (webD m1 e1 A1 r1),some (webD m2 e2 A2 r2),some (.int c),some (webD (m1+m2) (itS (m1+m2) e1 x t).1 (itS (m1+m2) e1 x t).2.1 (itS (m1+m2) e1 x t).2.2),o4],⟨none,Nat.zero_le _,by rw [← hx];rfl⟩,?_,?_⟩
  ·rintro t d ρ hd ⟨o4,_,rfl⟩
   obtain ⟨ht,rfl⟩:=Qca hd
   have hlt:=hlen t (by omega)
   simp only [gN,wSet,Qn,Qb,Int.zero_add,List.set_cons_succ,List.set_cons_zero,wBin,wC,wNil,Qw,look,Qh,hl1,Qlw]
   rw [show (e1:Int)-1-(t:Int)=((e1-1-t:Nat):Int) by omega]
   exact ⟨m1+m2,_,_,_,e1-1-t,rfl,by omega,by omega,by omega,by omega,_,ht,rfl⟩
  ·rintro ρ ⟨o4,_,rfl⟩
   have hlt:=hlen c (Nat.le_refl _)
   simp only [wRet,Qn,Qb,Jr,wNil,Qw,look,Qh]
   exact ⟨m1+m2,_,_,_,rfl,by omega,by omega,k⟩
theorem Qlt (h:p+1<e):M.rest e p (p+1)=List.range p++(List.range (e-p-2)).map (p+2 + ·):=by
 unfold M.rest
 have e1:List.range e=List.range p++((List.range 2).map (p + ·)++(List.range (e-p-2)).map (p+2 + ·)):=by
  have:e=p+(2+(e-p-2)):=by omega
  rw [this,List.range_add,List.range_add,List.map_append,List.map_map]
  congr 2
  rw [show p+(2+(e-p-2))-p-2=e-p-2 by omega]
  refine List.map_congr_left λa _=>?_
  show p+(2+a)=p+2+a
  omega
 rw [e1,List.filter_append,List.filter_append]
 have f1:(List.range p).filter (λj=>decide (j≠p/\j≠p+1))=List.range p:=List.filter_eq_self.mpr λa ha=>by
  have:=List.mem_range.mp ha
  exact decide_eq_true ⟨by omega,by omega⟩
 have f2:((List.range 2).map (p + ·)).filter (λj=>decide (j≠p/\j≠p+1))=[]:=List.filter_eq_nil_iff.mpr λa ha=>by
  obtain ⟨b,hb,rfl⟩:=List.mem_map.mp ha
  have:=List.mem_range.mp hb
  simp only [decide_eq_true_eq]
  omega
 have f3:((List.range (e-p-2)).map (p+2 + ·)).filter (λj=>decide (j≠p/\j≠p+1))=(List.range (e-p-2)).map (p+2 + ·):=List.filter_eq_self.mpr λa ha=>by
  obtain ⟨b,hb,rfl⟩:=List.mem_map.mp ha
  exact decide_eq_true ⟨by omega,by omega⟩
 rw [f1,f2,f3,List.nil_append]
theorem Qjg (h:p+1<e) (hi:i<4*m+(e-2)):M.old m e p (p+1) i=if i<4*m+p then i else i+2:=by
 by_cases h1:i<4*m
 ·rw [M.Uu h1,if_pos (by omega)]
 ·obtain ⟨j,rfl⟩:∃j,i=4*m+j:=⟨i-4*m,by omega⟩
  rw [M.Vr,Qlt h,List.getD_eq_getElem?_getD]
  by_cases h2:j<p
  ·rw [List.getElem?_append_left (by simpa using h2),List.getElem?_range h2,if_pos (by omega)]
   rfl
  ·rw [List.getElem?_append_right (by simp;omega),List.length_range,List.getElem?_map,List.getElem?_range (by omega),if_neg (by omega)]
   show 4*m+(p+2+(j-p))=_
   omega
def sG (m e1 k i:Nat):Int × Int:=if i<4*m then M.sp m i else if i-4*m<e1-k then (-1,((i-4*m:Nat):Int)) else (-2,((i-4*m-(e1-k)+k:Nat):Int))
theorem Qlp (h:i<4*m):sG m e1 k i=M.sp m i:=if_pos h
theorem sG_a (h:j<e1-k):sG m e1 k (4*m+j)=(-1,(j:Int)):=by
 unfold sG
 rw [if_neg (by omega),if_pos (by omega),show 4*m+j-4*m=j by omega]
theorem sG_b (h:e1-k<=j):sG m e1 k (4*m+j)=(-2,((j-(e1-k)+k:Nat):Int)):=by
 unfold sG
 rw [if_neg (by omega),if_neg (by omega),show 4*m+j-4*m=j by omega]
theorem Qim (h:i<4*m):0<=(M.sp m i).1:=by
 unfold M.sp
 rw [if_pos h]
 show (0:Int)<=((i / 4:Nat):Int)
 omega
theorem Qaa (h:sG m e1 k i=sG m e1 k j):i=j:=by
 have three:∀i,(i<4*m/\sG m e1 k i=M.sp m i)\/(∃a,i=4*m+a/\a<e1-k/\sG m e1 k i=(-1,(a:Int)))\/(∃a,i=4*m+a/\e1-k<=a/\sG m e1 k i=(-2,((a-(e1-k)+k:Nat):Int))):=λi=>by
  by_cases h1:i<4*m
  ·exact .inl ⟨h1,Qlp h1⟩
  ·by_cases h2:i-4*m<e1-k
   ·exact .inr (.inl ⟨i-4*m,by omega,h2,by rw [← sG_a (m:=m) h2,show 4*m+(i-4*m)=i by omega]⟩)
   ·exact .inr (.inr ⟨i-4*m,by omega,by omega,by rw [← sG_b (m:=m) (show e1-k<=i-4*m by omega),show 4*m+(i-4*m)=i by omega]⟩)
 rcases three i with ⟨i1,q⟩ | ⟨a,i1,i2,q⟩ | ⟨a,i1,i2,q⟩ <;> rcases three j with ⟨j1,r⟩ | ⟨b,j1,j2,r⟩ | ⟨b,j1,j2,r⟩ <;> rw [q,r] at h
 ·exact M.Qgb h
 ·have:=Qim i1;have z:=congrArg Prod.fst h;dsimp only at z;omega
 ·have:=Qim i1;have z:=congrArg Prod.fst h;dsimp only at z;omega
 ·have:=Qim j1;have z:=congrArg Prod.fst h;dsimp only at z;omega
 ·have z:=congrArg Prod.snd h;dsimp only at z;omega
 ·have z:=congrArg Prod.fst h;dsimp only at z;omega
 ·have:=Qim j1;have z:=congrArg Prod.fst h;dsimp only at z;omega
 ·have z:=congrArg Prod.fst h;dsimp only at z;omega
 ·have z:=congrArg Prod.snd h;dsimp only at z;omega
def mv (m1:Nat) (q:Int × Int):Int × Int:=if q.1<0 then (-2,q.2) else (q.1+(m1:Int),q.2)
theorem sG_1 (hx:x<4*m1+e1):sG (m1+m2) e1 0 (emb m1 e1 m2 true x)=M.sp m1 x:=by
 rcases Qcw m1 e1 m2 x with ⟨z,e⟩ | ⟨z,e⟩ <;> rw [e]
 ·rw [Qlp (by omega)]
  unfold M.sp
  rw [if_pos (by omega),if_pos z]
 ·obtain ⟨j,rfl⟩:∃j,x=4*m1+j:=⟨x-4*m1,by omega⟩
  rw [show 4*m1+j+4*m2=4*(m1+m2)+j by omega,sG_a (by omega),M.Z3]
theorem sG_2:sG (m1+m2) e1 0 (emb m1 e1 m2 false y)=mv m1 (M.sp m2 y):=by
 rcases Qcx m1 e1 m2 y with ⟨z,e⟩ | ⟨z,e⟩ <;> rw [e]
 ·rw [Qlp (by omega)]
  unfold mv
  rw [if_neg (by have:=Qim z;omega)]
  unfold M.sp
  rw [if_pos (by omega),if_pos z]
  refine Prod.ext ?_ ?_
  ·show (((y+4*m1) / 4:Nat):Int)=((y / 4:Nat):Int)+(m1:Int)
   omega
  ·show (((y+4*m1) % 4:Nat):Int)=((y % 4:Nat):Int)
   omega
 ·obtain ⟨j,rfl⟩:∃j,y=4*m2+j:=⟨y-4*m2,by omega⟩
  rw [show 4*m2+j+4*m1+e1=4*(m1+m2)+(e1+j) by omega,sG_b (by omega),M.Z3]
  unfold mv
  rw [if_pos (show (-1:Int)<0 by decide)]
  refine Prod.ext rfl ?_
  show ((e1+j-(e1-0)+0:Nat):Int)=(j:Int)
  omega
theorem Qot {k:List Key} {d:D} (h:valD T k=some d):∃j,j<T.length/\(T[j]?).map (·.1)=some k:=by
 unfold valD at h
 cases q:T.find? (λkv=>decide (kv.1=k)) with
 | none=>rw [q] at h;cases h
 | some kv =>
  obtain ⟨j,hj,e⟩:=List.getElem_of_mem (List.mem_of_find?_eq_some q)
  refine ⟨j,hj,?_⟩
  rw [List.getElem?_eq_getElem hj,e]
  have:=List.find?_some q
  exact congrArg some (of_decide_eq_true this)
end K59
variable {o G':Nat->Nat} {S S':Nat->Prop}
namespace K59
open PySem PySem.Spec L2 PV
open PyProof.Rows (envOfC)
open M (tie)
def rg (G:Nat->Nat) (a b:Nat):Int:=if G a=b then 1 else 0
structure Prt (S:Nat->Prop) (G:Nat->Nat):Prop where
 st:∀x,S x->S (G x)
 ne:∀x,S x->G x≠x
 inv:∀x,S x->G (G x)=x
theorem Prt.inj (P:Prt S G) (hx:S x) (hy:S y) (h:G x=G y):x=y:=by rw [← P.inv x hx,h,P.inv y hy]
def less (S:Nat->Prop) (a b:Nat):Nat->Prop:=λx=>S x/\x≠a/\x≠b
theorem Prt.tie {S:Nat->Prop} {G:Nat->Nat} (P:Prt S G) {a b:Nat} (ha:S a) (hb:S b) (hab:a≠b):Prt (less S a b) (tie G a b):=by
 have key:∀x,less S a b x->less S a b (M.tie G a b x)/\M.tie G a b x≠x/\M.tie G a b (M.tie G a b x)=x:=λx ⟨hx,h1,h2⟩=>by
  have sa:=P.st a ha;have sb:=P.st b hb;have sx:=P.st x hx
  have na:=P.ne a ha;have nb:=P.ne b hb;have nx:=P.ne x hx
  have ia:=P.inv a ha;have ib:=P.inv b hb;have ix:=P.inv x hx
  have gab:G a≠G b:=λz=>hab (P.inj ha hb z)
  unfold M.tie
  by_cases c1:x=G a
  ·rw [if_pos c1]
   have q:G b≠a:=λz=>h2 (by rw [c1,← z,ib])
   refine ⟨⟨sb,q,nb⟩,λz=>gab (by rw [← c1,z]),?_⟩
   rw [if_neg (λz=>gab z.symm),if_pos rfl,c1]
  ·rw [if_neg c1]
   by_cases c2:x=G b
   ·rw [if_pos c2]
    have q:G a≠b:=λz=>h1 (by rw [c2,← z,ia])
    refine ⟨⟨sa,na,q⟩,λz=>c1 z.symm,?_⟩
    rw [if_pos rfl,c2]
   ·rw [if_neg c2]
    have q1:G x≠a:=λz=>c1 (by rw [← z,ix])
    have q2:G x≠b:=λz=>c2 (by rw [← z,ix])
    refine ⟨⟨sx,q1,q2⟩,nx,?_⟩
    rw [if_neg (λz=>h1 (P.inj hx ha z)),if_neg (λz=>h2 (P.inj hx hb z)),ix]
 exact ⟨λx hx=>(key x hx).1,λx hx=>(key x hx).2.1,λx hx=>(key x hx).2.2⟩
theorem Qs3 {U:List (List Key × D)} {ring:Int} (P:Prt S G) (inj:∀i j,S i->S j->s i=s j->i=j) (hT:∀i,S i->valD T (sk (s i))=some (sd (s (G i)))) (ha:S a) (hb:S b) (hab:a≠b)
  (hc:(s (G a)=s b/\ring=1/\(∀x,x≠sk (s a)->x≠sk (s b)->valD U x=valD T x))\/(s (G a)≠s b/\ring=0/\∀x,x≠sk (s a)->x≠sk (s b)->valD U x=if x=sk (s (G b)) then some (sd (s (G a))) else if x=sk (s (G a)) then some (sd (s (G b))) else valD T x)) :
  ring=rg G a b/\∀i,less S a b i->valD U (sk (s i))=some (sd (s (tie G a b i))):=by
 have sa:=P.st a ha
 have sb:=P.st b hb
 refine ⟨?_,λi ⟨hi,o2,o3⟩=>?_⟩
 ·unfold rg
  rcases hc with ⟨z,rfl,_⟩ | ⟨z,rfl,_⟩
  ·rw [if_pos (inj _ _ sa hb z)]
  ·rw [if_neg (λq=>z (by rw [q]))]
 ·have n1:sk (s i)≠sk (s a):=λz=>o2 (inj _ _ hi ha (Ut z))
  have n2:sk (s i)≠sk (s b):=λz=>o3 (inj _ _ hi hb (Ut z))
  unfold M.tie
  rcases hc with ⟨z,_,hv⟩ | ⟨z,_,hv⟩
  ·rw [hv _ n1 n2,hT _ hi]
   have z:=inj _ _ sa hb z
   have z2:G b=a:=by rw [← z,P.inv a ha]
   rw [z,z2,if_neg o3,if_neg o2]
  ·rw [hv _ n1 n2]
   by_cases c1:i=G b
   ·rw [if_pos (by rw [c1])]
    by_cases c2:i=G a
    ·exact absurd (P.inj ha hb (c2.symm.trans c1)) hab
    ·rw [if_neg c2,if_pos c1]
   ·rw [if_neg (λz=>c1 (inj _ _ hi sb (Ut z)))]
    by_cases c2:i=G a
    ·rw [if_pos (by rw [c2]),if_pos c2]
    ·rw [if_neg (λz=>c2 (inj _ _ hi sa (Ut z))),if_neg c2,if_neg c1,hT _ hi]
theorem Qlj (P:Prt S G) {c:Nat} (ha:S a) (hb:S b) (hc:S c) (hd:S d) (hx:S x) (hab:a≠b) (hac:a≠c) (had:a≠d) (hbc:b≠c) (hbd:b≠d) (hcd:c≠d) (xa:x≠a) (xb:x≠b) (xc:x≠c) (xd:x≠d) :
  tie (tie G a b) c d x=tie (tie G c d) a b x:=by
 have ia:=P.inv a ha;have ib:=P.inv b hb;have ic:=P.inv c hc;have id:=P.inv d hd;have ix:=P.inv x hx
 clear P ha hb hc hd hx
 unfold M.tie
 grind (splits:=30)
theorem Qo7 (P:Prt S G) {c:Nat} (ha:S a) (hb:S b) (hc:S c) (hd:S d) (hab:a≠b) (hac:a≠c) (had:a≠d) (hbc:b≠c) (hbd:b≠d) (hcd:c≠d) :
  rg G a b+rg (tie G a b) c d=rg G c d+rg (tie G c d) a b:=by
 have ia:=P.inv a ha;have ib:=P.inv b hb;have ic:=P.inv c hc;have id:=P.inv d hd
 clear P ha hb hc hd
 unfold rg M.tie
 grind (splits:=30)
structure Out (m e:Nat) (A:Nat->Int) (h o:Nat->Nat) (S:Nat->Prop) (G:Nat->Nat):Prop where
 tw:M.Tw (4*m+e) A h
 mem:∀i,i<4*m+e->S (o i)
 inj:∀i j,i<4*m+e->j<4*m+e->o i=o j->i=j
 map:∀i,i<4*m+e->o (h i)=G (o i)
 fix:∀i,i<4*m->o i=i
theorem Qev (lt:∀i,i<n->h i<n) (inj:∀i j,i<n->j<n->o i=o j->i=j) (map:∀i,i<n->o (h i)=G (o i)) (ha:a<n) (hb:b<n) (hx:x<n):o (tie h a b x)=tie G (o a) (o b) (o x):=by
 unfold M.tie
 rw [← map a ha,← map b hb,← map x hx]
 by_cases c1:x=h a
 ·rw [if_pos c1,if_pos (by rw [c1])]
 ·rw [if_neg c1,if_neg (λz=>c1 (inj _ _ hx (lt a ha) z))]
  by_cases c2:x=h b
  ·rw [if_pos c2,if_pos (by rw [c2])]
  ·rw [if_neg c2,if_neg (λz=>c2 (inj _ _ hx (lt b hb) z))]
theorem Out.shut (O:Out m e A h o S G) (hp:p<e) (he:2<=e) (r:Int) :
  (∃h',Out m (M.rest e p (aft e p)).length (shA m e p A) h' (λi=>o (M.old m e p (aft e p) i)) (less S (o (4*m+p)) (o (4*m+aft e p))) (tie G (o (4*m+p)) (o (4*m+aft e p))))/\shR m e p A r=r+rg G (o (4*m+p)) (o (4*m+aft e p)):=by
 have hq:=Qle (p:=p) (show 0<e by omega)
 have hpq:=Qld he hp
 obtain ⟨h',tw',hh⟩:=M.Qo3 O.tw hp hq hpq
 have la:4*m+p<4*m+e:=by omega
 have lb:4*m+aft e p<4*m+e:=by omega
 refine ⟨⟨h',tw',λi hi=>?_,λi j hi hj z=>?_,λi hi=>?_,λi hi=>?_⟩,?_⟩
 ·obtain ⟨o1,o2,o3⟩:=M.Gk (m:=m) hi
  exact ⟨O.mem _ o1,λz=>o2 (O.inj _ _ o1 la z),λz=>o3 (O.inj _ _ o1 lb z)⟩
 ·exact M.Qe7 hi hj (O.inj _ _ (M.Gk (m:=m) hi).1 (M.Gk (m:=m) hj).1 z)
 ·show o (M.old m e p (aft e p) (h' i))=_
  rw [hh i hi,Qev O.tw.lt O.inj O.map la lb (M.Gk (m:=m) hi).1]
 ·show o (M.old m e p (aft e p) i)=i
  rw [M.Uu hi,O.fix i hi]
 ·unfold shR rg
  rw [← O.map _ la]
  by_cases c:A (4*m+p)=A (4*m+aft e p)
  ·rw [if_pos c,if_pos]
   rcases O.tw.only _ _ la lb c.symm with z | z
   ·omega
   ·rw [z]
  ·rw [if_neg c,if_neg,Int.add_zero]
   intro z
   exact c (by rw [← O.inj _ _ (O.tw.lt _ la) lb z,O.tw.eq _ la])
theorem Out.named (O:Out m e A h o S G):Out m e (M.anw A (4*m+e)) h o S G:=⟨Qbb O.tw,O.mem,O.inj,O.map,O.fix⟩
theorem Out.perm {u v:Nat->Nat} (O:Out m e A h o S G) (hu:∀i,i<4*m+e->u i<4*m+e) (hv:∀i,i<4*m+e->v i<4*m+e) (uv:∀i,i<4*m+e->u (v i)=i) (vu:∀i,i<4*m+e->v (u i)=i) (fu:∀i,i<4*m->u i=i) :
  Out m e (λi=>A (u i)) (λi=>v (h (u i))) (λi=>o (u i)) S G:=by
 have ui:∀i j,i<4*m+e->j<4*m+e->u i=u j->i=j:=λi j hi hj z=>by rw [← vu i hi,z,vu j hj]
 refine ⟨⟨λi hi=>hv _ (O.tw.lt _ (hu i hi)),λi hi z=>?_,λi hi=>?_,λi k hi hk z=>?_⟩,λi hi=>O.mem _ (hu i hi),λi j hi hj z=>ui i j hi hj (O.inj _ _ (hu i hi) (hu j hj) z),λi hi=>?_,λi hi=>?_⟩
 ·have:=congrArg u z
  rw [uv _ (O.tw.lt _ (hu i hi))] at this
  exact O.tw.ne _ (hu i hi) this
 ·show A (u (v (h (u i))))=_
  rw [uv _ (O.tw.lt _ (hu i hi)),O.tw.eq _ (hu i hi)]
 ·rcases O.tw.only _ _ (hu i hi) (hu k hk) z with q | q
  ·exact .inl (ui k i hk hi q)
  ·exact .inr (by rw [← q,vu k hk])
 ·show o (u (v (h (u i))))=_
  rw [uv _ (O.tw.lt _ (hu i hi)),O.map _ (hu i hi)]
 ·show o (u i)=i
  rw [fu i hi,O.fix i hi]
theorem Out.trans {f:Nat->Nat} (O:Out m e A h o S G) (fs:∀x,S x->S' (f x)) (fi:∀x y,S x->S y->f x=f y->x=y) (fm:∀x,S x->f (G x)=G' (f x)) (ff:∀x,x<4*m->f x=x):Out m e A h (λi=>f (o i)) S' G' :=
 ⟨O.tw,λi hi=>fs _ (O.mem i hi),λi j hi hj z=>O.inj i j hi hj (fi _ _ (O.mem i hi) (O.mem j hj) z),λi hi=>by show f (o (h i))=_;rw [O.map i hi,fm _ (O.mem i hi)],λi hi=>by show f (o i)=i;rw [O.fix i hi,ff i hi]⟩
theorem Out.congr {o':Nat->Nat} (O:Out m e A h o S G) (ho:∀i,i<4*m+e->o i=o' i) (hs:∀x,S x->S' x) (hg:∀x,S x->G x=G' x):Out m e A h o' S' G' :=
 ⟨O.tw,λi hi=>by rw [← ho i hi];exact hs _ (O.mem i hi),λi j hi hj z=>O.inj i j hi hj (by rw [ho i hi,ho j hj,z]),λi hi=>by rw [← ho i hi,← ho _ (O.tw.lt i hi),O.map i hi,hg _ (O.mem i hi)],λi hi=>by rw [← ho i (by omega)];exact O.fix i hi⟩
theorem Out.one (T:M.Tw (4*m+e) A g):Out m e A g (λi=>i) (· < 4*m+e) g:=⟨T,λ_ h=>h,λ_ _ _ _ z=>z,λ_ _=>rfl,λ_ _=>rfl⟩
theorem Qi3 (T:M.Tw n A g):Prt (· < n) g:=⟨T.lt,T.ne,λ_ h=>T.inv h⟩
def shf (m q i:Nat):Nat:=if i<4*m then i else 4*m+(i-4*m+q) % 4
theorem V5 (h:i<4*m):shf m q i=i:=if_pos h
theorem Y9:shf m q (4*m+j)=4*m+(j+q) % 4:=by
 unfold shf
 rw [if_neg (by omega),show 4*m+j-4*m=j by omega]
theorem Qbp (h:i<4*m+4):shf m q i<4*m+4:=by
 unfold shf
 split <;> omega
theorem Qnw (h:i<4*m+4):shf m 3 (shf m 1 i)=i:=by
 by_cases h1:i<4*m
 ·rw [V5 h1,V5 h1]
 ·obtain ⟨j,rfl⟩:∃j,i=4*m+j:=⟨i-4*m,by omega⟩
  rw [Y9,Y9];omega
theorem Qnx (h:i<4*m+4):shf m 1 (shf m 3 i)=i:=by
 by_cases h1:i<4*m
 ·rw [V5 h1,V5 h1]
 ·obtain ⟨j,rfl⟩:∃j,i=4*m+j:=⟨i-4*m,by omega⟩
  rw [Y9,Y9];omega
def Y7:GA:=λds k=>∃(m:Nat) (A:Nat->Int) (r:Int) (q:Nat),ds=[webD m 4 A r,.int q]/\(q=3\/q=1)/\k (webD m 4 (λi=>A (shf m q i)) r)
abbrev Z7:Stmt:=top 7
theorem Qhg:FnScope ["web","many"] ["web","many"] (Qe Z7):=⟨rfl,rfl,rfl,by decide +kernel,rfl,by decide +kernel,by decide +kernel⟩
def Qdd:Tg:={ own:=λi=>false,io:=[] }
def Qc3:WS:=(wRet (Q0 (wTup (Qb (wBin dIx (wVar 0) (wC (.int 0))) (Qb (wBin Yq (wSlT (wBin dIx (wVar 0) (wC (.int 1))) (Qes (wVar 1)) Qb0) (wSlT (wBin dIx (wVar 0) (wC (.int 1))) Qb0 (Qes (wVar 1)))) (Qb (wBin dIx (wVar 0) (wC (.int 2))) wNil))))))
theorem Qk9 (B:Bn K mg):∀(cdv:Value) (A:Around) (outer:List PySem.Env) (s:Shared) (H:Hp) (E:XK),Room 0 (A.deeper (envOfC "shifted" (Qe Z7) s.heap.objs.size f cdv))->SVs (cxOf CX0 P w K mg base ["web","many"] "shifted" (Qe Z7) f cdv A outer s H E).nox Qdd (Qy Z7) Qc3:=λcdv A outer s H E hr =>
  (Qj (Qx (Q3 (Qr (Qa (Qs (Qt (Qp hr)) (Qc 0) Qd) (Qa (Ja Q8 (Qeb (Qs (Qt (Qp hr)) (Qc 0) Qd) (Qak (Qc 1)) Qal) (Qeb (Qs (Qt (Qp hr)) (Qc 0) Qd) Qal (Qak (Qc 1)))) (Qa (Qs (Qt (Qp hr)) (Qc 0) Qd) Qf)))))))
theorem Qhm (F:Fun K "shifted" "shifted" Z7 f fd) (B:Bn K mg):FnOk P w K mg base CX0 1 f fd ["web","many"] (spR K Y7):=by
 refine Yk (T:=Qdd) F Qhg rfl (by decide) (λds kk h=>?_) (Qk9 B) (λds kk h=>?_)
 ·obtain ⟨m,A,r,q,rfl,_⟩:=h
  rfl
 ·obtain ⟨m,A,r,q,rfl,hq,k⟩:=h
  have pc:Ql ((List.range m).map λk=>D.tup ((List.range 4).map λj=>.int (A (4*k+j))))=true:=Qi λ_ _=>by simp only [D.pure];exact Qi λ_ _=>rfl
  have pe:Ql ((List.range 4).map λj=>D.int (A (4*m+j)))=true:=Qi λ_ _=>rfl
  have hk:webD m 4 (λi=>A (shf m q i)) r=.tup [.tup ((List.range m).map λk=>.tup ((List.range 4).map λj=>.int (A (4*k+j)))),.tup ((List.range 4).map λj=>.int (A (4*m+(j+q) % 4))),.int r]:=by
   unfold webD
   have e1:(List.range m).map (λk=>D.tup ((List.range 4).map λj=>.int (A (shf m q (4*k+j)))))=(List.range m).map λk=>D.tup ((List.range 4).map λj=>.int (A (4*k+j))):=by
    refine List.map_congr_left λk hk=>congrArg D.tup (List.map_congr_left λj hj=>?_)
    have:=List.mem_range.mp hk
    have:=List.mem_range.mp hj
    rw [V5 (by omega)]
   rw [e1]
   simp only [Y9]
  rw [hk] at k
  have c1:cutD ((List.range 4).map λj=>D.int (A (4*m+j))) (some (q:Int)) none=((List.range 4).map λj=>D.int (A (4*m+j))).drop q:=Qng (by simp;omega)
  have c2:cutD ((List.range 4).map λj=>D.int (A (4*m+j))) none (some (q:Int))=((List.range 4).map λj=>D.int (A (4*m+j))).take q:=Qoo
  have c3:((List.range 4).map λj=>D.int (A (4*m+j))).drop q++((List.range 4).map λj=>D.int (A (4*m+j))).take q=(List.range 4).map λj=>.int (A (4*m+(j+q) % 4)):=by
   rcases hq with rfl | rfl <;> rfl
  have p1:Ql (((List.range 4).map λj=>D.int (A (4*m+j))).drop q)=true:=Zm.mpr λd hd=>Zm.mp pe d (List.mem_of_mem_drop hd)
  have p2:Ql (((List.range 4).map λj=>D.int (A (4*m+j))).take q)=true:=Zm.mpr λd hd=>Zm.mp pe d (List.mem_of_mem_take hd)
  have p3:Ql ((List.range 4).map λj=>D.int (A (4*m+(j+q) % 4)))=true:=Qi λ_ _=>rfl
  simp only [Qc3,wRet,Q0,wTup,Qb,wBin,env0,webD,List.map_cons,List.map_nil,List.length_cons,List.length_nil,Nat.zero_add,Nat.reduceAdd,List.cons_append,List.nil_append,wC,wSlT,Qb0,wNil,sz3,D.pure,Ql,Bool.and_true,true_and,Qw,Qiy,look,Qh,Zd,Zo,List.getElem?_cons_succ,List.getElem?_cons_zero,Qe2,Y0,Qn8,pe,c2,c1,Qcc,p1,p2,c3,p3,Y1,pc]
  refine ⟨?_,k⟩
  simp
  exact Nat.le_of_lt (big (by omega))
def Nm (n:Nat) (A:Nat->Int):Prop:=∀i,i<n->M.anw A n i=A i
theorem Qjq:Nm n (M.anw A n):=λ_ hi=>M.Qrb hi
theorem Qeo (i:Nat):0<=M.anw A n i:=by unfold M.anw;omega
def Yp:GA:=λds k=>∃(m:Nat) (A:Nat->Int) (r:Int) (g:Nat->Nat),ds=[webD m 4 A r]/\M.Tw (4*m+4) A g/\m<=10/\∀(A':Nat->Int) (h:Nat->Nat),Out m 4 A' h (shf m 3) (· < 4*m+4) g->Nm (4*m+4) A'->(∀i,0<=A' i)->k (webD m 4 A' r)
abbrev Z8:Stmt:=top 15
theorem Qhi:FnScope ["one"] ["one"] (Qe Z8):=⟨rfl,rfl,rfl,by decide +kernel,rfl,by decide +kernel,by decide +kernel⟩
def Qdf:Tg:={ own:=λi=>false,io:=[] }
def Qc5:WS:=(wRet (Qn Qv (Qb (Qn Y7 (Qb (wVar 0) (Qb (wC (.int 3)) wNil))) wNil)))
theorem Qlb (B:Bn K mg) (C_named_anew:Cal P w K mg base "named_anew" 2 ["web"] (spR K Qv)) (C_shifted:Cal P w K mg base "shifted" 1 ["web","many"] (spR K Y7)):∀(cdv:Value) (A:Around) (outer:List PySem.Env) (s:Shared) (H:Hp) (E:XK),Room 2 (A.deeper (envOfC "quarter" (Qe Z8) s.heap.objs.size f cdv))->SVs (cxOf CX0 P w K mg base ["one"] "quarter" (Qe Z8) f cdv A outer s H E).nox Qdf (Qy Z8) Qc5:=λcdv A outer s H E hr =>
  (Qj (Qx (Qo C_named_anew (hr.mono (by decide)) (Qa (Qo C_shifted (hr.mono (by decide)) (Qa (Qc 0) (Qa Qd Qf))) Qf))))
theorem Qho (F:Fun K "quarter" "quarter" Z8 f fd) (B:Bn K mg) (C1:Cal P w K mg base "named_anew" 2 ["web"] (spR K Qv)) (C2:Cal P w K mg base "shifted" 1 ["web","many"] (spR K Y7)):FnOk P w K mg base CX0 3 f fd ["one"] (spR K Yp):=by
 refine Yk (T:=Qdf) F Qhi rfl (by decide) (λds kk h=>?_) (Qlb B C1 C2) (λds kk h=>?_)
 ·obtain ⟨m,A,r,g,rfl,_⟩:=h
  rfl
 ·obtain ⟨m,A,r,g,rfl,tw,hm,k⟩:=h
  simp only [Qc5,wRet,Qn,Qb,env0,List.map_cons,List.map_nil,List.length_cons,List.length_nil,Nat.zero_add,List.cons_append,List.nil_append,wC,wNil,Qw,look,Qh]
  refine ⟨m,A,r,3,rfl,.inl rfl,?_⟩
  refine ⟨m,4,_,r,rfl,by omega,by omega,?_⟩
  exact k _ _ ((Out.one tw).perm (u:=shf m 3) (v:=shf m 1) (λi hi=>Qbp hi) (λi hi=>Qbp hi) (λi hi=>Qnw hi) (λi hi=>Qnx hi) λi hi=>V5 hi).named Qjq Qeo
def oB (m i:Nat):Nat:=if i<4*m+2 then i else i+4
abbrev S0 (m:Nat):Nat->Prop:=(· < 4*m+8)
def Zw:GA:=λds k=>∃(m1:Nat) (A1:Nat->Int) (r1:Int) (g1:Nat->Nat) (m2:Nat) (A2:Nat->Int) (r2:Int) (g2:Nat->Nat),ds=[webD m1 4 A1 r1,webD m2 4 A2 r2]/\M.Tw (4*m1+4) A1 g1/\M.Tw (4*m2+4) A2 g2/\(∀i,0<=A2 i)/\m1<=10/\m2<=10 /\
 ∀(m:Nat) (A':Nat->Int) (h G:Nat->Nat),m=m1+m2->G=bG m1 4 m2 g1 g2->Out m 4 A' h (oB m) (less (less (S0 m) (4*m+3) (4*m+4)) (4*m+2) (4*m+5)) (tie (tie G (4*m+3) (4*m+4)) (4*m+2) (4*m+5))->Nm (4*m+4) A' ->
  k (webD m 4 A' (r1+r2+rg G (4*m+3) (4*m+4)+rg (tie G (4*m+3) (4*m+4)) (4*m+2) (4*m+5)))
abbrev Uj:Stmt:=top 14
theorem Qiu:FnScope ["one","other"] ["one","other"] (Qe Uj):=⟨rfl,rfl,rfl,by decide +kernel,rfl,by decide +kernel,by decide +kernel⟩
def Qga:Tg:={ own:=λi=>false,io:=[] }
def Qf0:WS:=(wRet (Qn Qa0 (Qb (wVar 0) (Qb (wVar 1) (Qb (wC (.int 2)) wNil)))))
theorem Qno (B:Bn K mg) (C_glued:Cal P w K mg base "glued" 4 ["one","other","many"] (spR K Qa0)):∀(cdv:Value) (A:Around) (outer:List PySem.Env) (s:Shared) (H:Hp) (E:XK),Room 4 (A.deeper (envOfC "beside" (Qe Uj) s.heap.objs.size f cdv))->SVs (cxOf CX0 P w K mg base ["one","other"] "beside" (Qe Uj) f cdv A outer s H E).nox Qga (Qy Uj) Qf0:=λcdv A outer s H E hr =>
  (Qj (Qx (Qo C_glued (hr.mono (by decide)) (Qa (Qc 0) (Qa (Qc 1) (Qa Qd Qf))))))
theorem Qjk (F:Fun K "beside" "beside" Uj f fd) (B:Bn K mg) (C1:Cal P w K mg base "glued" 4 ["one","other","many"] (spR K Qa0)):FnOk P w K mg base CX0 5 f fd ["one","other"] (spR K Zw):=by
 refine Yk (T:=Qga) F Qiu rfl (by decide) (λds kk h=>?_) (Qno B C1) (λds kk h=>?_)
 ·obtain ⟨m1,A1,r1,g1,m2,A2,r2,g2,rfl,_⟩:=h
  rfl
 ·obtain ⟨m1,A1,r1,g1,m2,A2,r2,g2,rfl,tw1,tw2,hA,hm1,hm2,k⟩:=h
  simp only [Qf0,wRet,Qn,Qb,env0,List.map_cons,List.map_nil,List.length_cons,List.length_nil,Nat.zero_add,Nat.reduceAdd,List.cons_append,List.nil_append,wC,wNil,Qw,look,Qh]
  refine ⟨m1,4,A1,r1,m2,4,A2,r2,2,rfl,hm1,by omega,hm2,by omega,by omega,by omega,?_⟩
  have k:=λA' h=>k _ A' h _ rfl rfl
  have tw:=two_tw tw1 tw2 hA
  generalize twoA m1 4 m2 A1 A2=C at tw ⊢
  generalize bG m1 4 m2 g1 g2=G at tw k
  generalize m1+m2=m at tw k ⊢
  have hE:(itS m 4 (4+4,C,r1+r2) 2).1=4:=by have:=Qj5 (m:=m) (e1:=4) (e2:=4) (B:=C) (r:=r1+r2) 2 (by decide) (by decide);omega
  have O0:Out m (4+4) C G (λi=>i) (S0 m) G:=Out.one tw
  have a1:aft (4+4) (4-1-0)=4:=rfl
  have l1:(M.rest (4+4) (4-1-0) (aft (4+4) (4-1-0))).length=6:=rfl
  obtain ⟨⟨h1,O1⟩,R1⟩:=O0.shut (p:=4-1-0) (by decide) (by decide) (r1+r2)
  obtain ⟨⟨h2,O2⟩,R2⟩:=O1.shut (p:=4-1-1) (by rw [l1];decide) (by rw [l1];decide) (shR m (4+4) (4-1-0) C (r1+r2))
  have o1:∀i,i<4*m+6->M.old m (4+4) (4-1-0) (aft (4+4) (4-1-0)) i=if i<4*m+3 then i else i+2:=λi hi=>Qjg (p:=3) (by decide) (by omega)
  have o2:∀i,i<4*m+4->M.old m (M.rest (4+4) (4-1-0) (aft (4+4) (4-1-0))).length (4-1-1) (aft (M.rest (4+4) (4-1-0) (aft (4+4) (4-1-0))).length (4-1-1)) i=if i<4*m+2 then i else i+2:=λi hi=>Qjg (e:=6) (p:=2) (by decide) (by omega)
  have c1:M.old m (4+4) (4-1-0) (aft (4+4) (4-1-0)) (4*m+(4-1-1))=4*m+2:=by rw [o1 _ (by omega),if_pos (by omega)]
  have c2:M.old m (4+4) (4-1-0) (aft (4+4) (4-1-0)) (4*m+aft (M.rest (4+4) (4-1-0) (aft (4+4) (4-1-0))).length (4-1-1))=4*m+5:=by
   rw [show aft (M.rest (4+4) (4-1-0) (aft (4+4) (4-1-0))).length (4-1-1)=3 from rfl,o1 _ (by omega),if_neg (by omega)]
  try dsimp only at O2
  try dsimp only at R2
  rw [c1,c2] at O2 R2
  have e4:(itS m 4 (4+4,C,r1+r2) 2)=((M.rest (M.rest (4+4) (4-1-0) (aft (4+4) (4-1-0))).length (4-1-1) (aft (M.rest (4+4) (4-1-0) (aft (4+4) (4-1-0))).length (4-1-1))).length,shA m (M.rest (4+4) (4-1-0) (aft (4+4) (4-1-0))).length (4-1-1) (shA m (4+4) (4-1-0) C),shR m (M.rest (4+4) (4-1-0) (aft (4+4) (4-1-0))).length (4-1-1) (shA m (4+4) (4-1-0) C) (shR m (4+4) (4-1-0) C (r1+r2))):=rfl
  rw [e4] at hE ⊢
  try dsimp only at hE
  try dsimp only
  rw [hE] at O2 ⊢
  rw [R2,R1]
  refine k _ h2 (O2.named.congr (λi hi=>?_) (λx hx=>hx) λx hx=>rfl) Qjq
  rw [o2 i hi]
  unfold oB
  split
  ·rw [o1 _ (by omega),if_pos (by omega)]
  ·rw [o1 _ (by omega),if_neg (by omega)]
def phi (m i:Nat):Nat:=if i<4*m then i else if i<4*m+4 then 4*m+(i-4*m+3) % 4 else 4*m+4+(i-4*m-4+3) % 4
theorem Qr6 (h:i<4*m+8):phi m i<4*m+8:=by
 unfold phi
 split
 ·omega
 ·split <;> omega
theorem Qpq (hi:i<4*m+8) (hj:j<4*m+8) (h:phi m i=phi m j):i=j:=by
 unfold phi at h
 split at h <;> split at h <;> (try split at h) <;> (try split at h) <;> omega
theorem Qr8 (hx:x<4*m1+4):phi (m1+m2) (emb m1 4 m2 true x)=emb m1 4 m2 true (shf m1 3 x):=by
 by_cases h:x<4*m1
 ·rw [V5 h]
  rcases Qcw m1 4 m2 x with ⟨_,e⟩ | ⟨z,_⟩
  ·rw [e];unfold phi;rw [if_pos (by omega)]
  ·omega
 ·obtain ⟨j,rfl⟩:∃j,x=4*m1+j:=⟨x-4*m1,by omega⟩
  rw [Y9]
  rcases Qcw m1 4 m2 (4*m1+j) with ⟨z,_⟩ | ⟨_,e⟩
  ·omega
  ·rcases Qcw m1 4 m2 (4*m1+(j+3) % 4) with ⟨z,_⟩ | ⟨_,e'⟩
   ·omega
   ·rw [e,e'];unfold phi;rw [if_neg (by omega),if_pos (by omega)];omega
theorem Qr7 (hx:x<4*m2+4):phi (m1+m2) (emb m1 4 m2 false x)=emb m1 4 m2 false (shf m2 3 x):=by
 by_cases h:x<4*m2
 ·rw [V5 h]
  rcases Qcx m1 4 m2 x with ⟨_,e⟩ | ⟨z,_⟩
  ·rw [e];unfold phi;rw [if_pos (by omega)]
  ·omega
 ·obtain ⟨j,rfl⟩:∃j,x=4*m2+j:=⟨x-4*m2,by omega⟩
  rw [Y9]
  rcases Qcx m1 4 m2 (4*m2+j) with ⟨z,_⟩ | ⟨_,e⟩
  ·omega
  ·rcases Qcx m1 4 m2 (4*m2+(j+3) % 4) with ⟨z,_⟩ | ⟨_,e'⟩
   ·omega
   ·rw [e,e'];unfold phi;rw [if_neg (by omega),if_neg (by omega)];omega
theorem Qrk (h:∀i,i<n->G i<n) (ha:a<n) (hb:b<n) (hi:i<n):tie G a b i<n:=by
 unfold M.tie
 split
 ·exact h b hb
 ·split
  ·exact h a ha
  ·exact h i hi
theorem Qn1 (lt:∀i,i<n->G i<n) (inj:∀i j,i<n->j<n->o i=o j->i=j) (map:∀i,i<n->o (G i)=G' (o i)) (ha:a<n) (hb:b<n):rg G a b=rg G' (o a) (o b):=by
 unfold rg
 rw [← map a ha]
 by_cases c:G a=b
 ·rw [if_pos c,if_pos (by rw [c])]
 ·rw [if_neg c,if_neg (λz=>c (inj _ _ (lt a ha) hb z))]
def oA (m i:Nat):Nat:=if i<4*m+1 then i else if i<4*m+3 then i+4 else i
theorem Qp8 (hi:i<4*m+4):phi m (oB m (shf m 1 i))=oA m i:=by
 have b1:∀x,x<4*m+2->oB m x=x:=λx h=>if_pos h
 have b2:∀x,¬x<4*m+2->oB m x=x+4:=λx h=>if_neg h
 have p1:∀x,x<4*m->phi m x=x:=λx h=>if_pos h
 have p2:∀j,j<4->phi m (4*m+j)=4*m+(j+3) % 4:=λj h=>by unfold phi;rw [if_neg (by omega),if_pos (by omega)];omega
 have p3:∀j,phi m (4*m+4+j)=4*m+4+(j+3) % 4:=λj=>by unfold phi;rw [if_neg (by omega),if_neg (by omega)];omega
 have a1:∀x,x<4*m+1->oA m x=x:=λx h=>if_pos h
 have a2:∀x,¬x<4*m+1->x<4*m+3->oA m x=x+4:=λx h h'=>by unfold oA;rw [if_neg h,if_pos h']
 have a3:∀x,¬x<4*m+3->oA m x=x:=λx h=>by unfold oA;rw [if_neg (by omega),if_neg h]
 by_cases h:i<4*m
 ·rw [V5 h,b1 _ (by omega),p1 _ h,a1 _ (by omega)]
 ·obtain ⟨j,rfl⟩:∃j,i=4*m+j:=⟨i-4*m,by omega⟩
  have hj:j=0\/j=1\/j=2\/j=3:=by omega
  rw [Y9]
  rcases hj with rfl | rfl | rfl | rfl
  ·rw [b1 _ (by omega),p2 _ (by omega),a1 _ (by omega)]
  ·rw [b2 _ (by omega),show 4*m+(1+1) % 4+4=4*m+4+2 by omega,p3,a2 _ (by omega) (by omega)]
  ·rw [b2 _ (by omega),show 4*m+(2+1) % 4+4=4*m+4+3 by omega,p3,a2 _ (by omega) (by omega)]
  ·rw [b1 _ (by omega),p2 _ (by omega),a3 _ (by omega)]
def Qa1:GA:=λds k=>∃(m1:Nat) (A1:Nat->Int) (r1:Int) (g1:Nat->Nat) (m2:Nat) (A2:Nat->Int) (r2:Int) (g2:Nat->Nat),ds=[webD m1 4 A1 r1,webD m2 4 A2 r2]/\M.Tw (4*m1+4) A1 g1/\M.Tw (4*m2+4) A2 g2/\(∀i,0<=A2 i)/\m1<=10/\m2<=10 /\
 ∀(m:Nat) (A':Nat->Int) (h G:Nat->Nat),m=m1+m2->G=bG m1 4 m2 g1 g2->Out m 4 A' h (oA m) (less (less (S0 m) (4*m+2) (4*m+7)) (4*m+1) (4*m+4)) (tie (tie G (4*m+2) (4*m+7)) (4*m+1) (4*m+4))->Nm (4*m+4) A' ->
  k (webD m 4 A' (r1+r2+rg G (4*m+2) (4*m+7)+rg (tie G (4*m+2) (4*m+7)) (4*m+1) (4*m+4)))
abbrev G0:Stmt:=top 16
theorem Qlo:FnScope ["one","other"] ["one","other"] (Qe G0):=⟨rfl,rfl,rfl,by decide +kernel,rfl,by decide +kernel,by decide +kernel⟩
def Qih:Tg:={ own:=λi=>false,io:=[] }
def Qh7:WS:=(wRet (Qn Qv (Qb (Qn Y7 (Qb (Qn Zw (Qb (Qn Yp (Qb (wVar 0) wNil)) (Qb (Qn Yp (Qb (wVar 1) wNil)) wNil))) (Qb (wC (.int 1)) wNil))) wNil)))
theorem Qq7 (B:Bn K mg) (C_named_anew:Cal P w K mg base "named_anew" 2 ["web"] (spR K Qv)) (C_shifted:Cal P w K mg base "shifted" 1 ["web","many"] (spR K Y7)) (C_beside:Cal P w K mg base "beside" 5 ["one","other"] (spR K Zw)) (C_quarter:Cal P w K mg base "quarter" 3 ["one"] (spR K Yp)):∀(cdv:Value) (A:Around) (outer:List PySem.Env) (s:Shared) (H:Hp) (E:XK),Room 5 (A.deeper (envOfC "above" (Qe G0) s.heap.objs.size f cdv))->SVs (cxOf CX0 P w K mg base ["one","other"] "above" (Qe G0) f cdv A outer s H E).nox Qih (Qy G0) Qh7:=λcdv A outer s H E hr =>
  (Qj (Qx (Qo C_named_anew (hr.mono (by decide)) (Qa (Qo C_shifted (hr.mono (by decide)) (Qa (Qo C_beside (hr.mono (by decide)) (Qa (Qo C_quarter (hr.mono (by decide)) (Qa (Qc 0) Qf)) (Qa (Qo C_quarter (hr.mono (by decide)) (Qa (Qc 1) Qf)) Qf))) (Qa Qd Qf))) Qf))))
theorem Qmk (F:Fun K "above" "above" G0 f fd) (B:Bn K mg) (C1:Cal P w K mg base "named_anew" 2 ["web"] (spR K Qv)) (C2:Cal P w K mg base "shifted" 1 ["web","many"] (spR K Y7)) (C3:Cal P w K mg base "beside" 5 ["one","other"] (spR K Zw)) (C4:Cal P w K mg base "quarter" 3 ["one"] (spR K Yp)):FnOk P w K mg base CX0 6 f fd ["one","other"] (spR K Qa1):=by
 refine Yk (T:=Qih) F Qlo rfl (by decide) (λds kk h=>?_) (Qq7 B C1 C2 C3 C4) (λds kk h=>?_)
 ·obtain ⟨m1,A1,r1,g1,m2,A2,r2,g2,rfl,_⟩:=h
  rfl
 ·obtain ⟨m1,A1,r1,g1,m2,A2,r2,g2,rfl,tw1,tw2,hA,hm1,hm2,k⟩:=h
  simp only [Qh7,wRet,Qn,Qb,env0,List.map_cons,List.map_nil,List.length_cons,List.length_nil,Nat.zero_add,Nat.reduceAdd,List.cons_append,List.nil_append,wNil,wC,Qw,look,Qh]
  refine ⟨m1,A1,r1,g1,rfl,tw1,hm1,λQ1 h1 O1 _ _=>?_⟩
  simp only []
  refine ⟨m2,A2,r2,g2,rfl,tw2,hm2,λQ2 h2 O2 _ nn2=>?_⟩
  simp only []
  refine ⟨m1,Q1,r1,h1,m2,Q2,r2,h2,rfl,O1.tw,O2.tw,nn2,hm1,hm2,λm A3 h3 G3 em eG O3 nm3=>?_⟩
  simp only []
  refine ⟨m,A3,_,1,rfl,.inr rfl,?_⟩
  refine ⟨m,4,_,_,rfl,by omega,by omega,?_⟩
  have twG:=two_tw O1.tw O2.tw nn2
  rw [← eG,← em] at twG
  have lt3:∀i,i<4*m+8->G3 i<4*m+8:=twG.lt
  have pi:∀i j,i<4*m+8->j<4*m+8->phi m i=phi m j->i=j:=λi j hi hj z=>Qpq hi hj z
  have map:∀i,i<4*m+8->phi m (G3 i)=bG m1 4 m2 g1 g2 (phi m i):=λi hi=>by
   subst em eG
   rcases Xn (e2:=4) (show i<4*(m1+m2)+(4+4) from hi) with ⟨x,hx,rfl⟩ | ⟨x,hx,rfl⟩
   ·rw [bG1 hx,Qr8 hx,Qr8 (O1.tw.lt x hx),O1.map x hx,bG1 (Qbp hx)]
   ·rw [bG2 hx,Qr7 hx,Qr7 (O2.tw.lt x hx),O2.map x hx,bG2 (Qbp hx)]
  have k:=λA' h=>k m A' h _ em rfl
  generalize bG m1 4 m2 g1 g2=G at map k
  have f3:phi m (4*m+3)=4*m+2:=by unfold phi;rw [if_neg (by omega),if_pos (by omega)];omega
  have f4:phi m (4*m+4)=4*m+7:=by unfold phi;rw [if_neg (by omega),if_neg (by omega)];omega
  have f2:phi m (4*m+2)=4*m+1:=by unfold phi;rw [if_neg (by omega),if_pos (by omega)];omega
  have f5:phi m (4*m+5)=4*m+4:=by unfold phi;rw [if_neg (by omega),if_neg (by omega)];omega
  have map2:∀i,i<4*m+8->phi m (tie G3 (4*m+3) (4*m+4) i)=tie G (4*m+2) (4*m+7) (phi m i):=λi hi=>by
   have:=Qev lt3 pi map (a:=4*m+3) (b:=4*m+4) (by omega) (by omega) hi
   rwa [f3,f4] at this
  have lt4:∀i,i<4*m+8->tie G3 (4*m+3) (4*m+4) i<4*m+8:=λi hi=>Qrk lt3 (by omega) (by omega) hi
  have map3:∀i,i<4*m+8->phi m (tie (tie G3 (4*m+3) (4*m+4)) (4*m+2) (4*m+5) i)=tie (tie G (4*m+2) (4*m+7)) (4*m+1) (4*m+4) (phi m i):=λi hi=>by
   have:=Qev lt4 pi map2 (a:=4*m+2) (b:=4*m+5) (by omega) (by omega) hi
   rwa [f2,f5] at this
  have R1:=Qn1 lt3 pi map (a:=4*m+3) (b:=4*m+4) (by omega) (by omega)
  have R2:=Qn1 lt4 pi map2 (a:=4*m+2) (b:=4*m+5) (by omega) (by omega)
  rw [f3,f4] at R1
  rw [f2,f5] at R2
  rw [R1,R2]
  refine k _ _ (((O3.perm (u:=shf m 1) (v:=shf m 3) (λi hi=>Qbp hi) (λi hi=>Qbp hi) (λi hi=>Qnx hi) (λi hi=>Qnw hi) λi hi=>V5 hi).named.trans (f:=phi m) (S':=less (less (S0 m) (4*m+2) (4*m+7)) (4*m+1) (4*m+4)) (λx hx=>?_) (λx y hx hy z=>pi x y hx.1.1 hy.1.1 z) (λx hx=>map3 x hx.1.1) λx hx=>if_pos hx).congr (λi hi=>?_) (λx hx=>hx) λx hx=>rfl) Qjq
  ·obtain ⟨⟨x0,x1,x2⟩,x3,x4⟩:=hx
   have x0:x<4*m+8:=x0
   refine ⟨⟨Qr6 x0,λz=>x1 (pi _ _ x0 (by omega) (by rw [z,f3])),λz=>x2 (pi _ _ x0 (by omega) (by rw [z,f4]))⟩,λz=>x3 (pi _ _ x0 (by omega) (by rw [z,f2])),λz=>x4 (pi _ _ x0 (by omega) (by rw [z,f5]))⟩
  ·show phi m (oB m (shf m 1 i))=oA m i
   exact Qp8 hi
def Yx:GA:=λds k=>∃(q:Int × Int) (m1:Nat),ds=[sd q,.int m1]/\k (sd (mv m1 q))
abbrev Yf:Stmt:=top 38
theorem Qb9:FnScope ["_law_spot","_law_many"] ["_law_spot","_law_many"] (Qe Yf):=⟨rfl,rfl,rfl,by decide +kernel,rfl,by decide +kernel,by decide +kernel⟩
def Xe:Tg:={ own:=λi=>false,io:=[] }
def Xa:WS:=(wSeq (wIf (wBl (wBin (dCmp λi j=>decide (i<j)) (wBin dIx (wVar 0) (wC (.int 0))) (wC (.int 0)))) (wRet (Q0 (wTup (Qb (wUn dNeg (wC (.int 2))) (Qb (wBin dIx (wVar 0) (wC (.int 1))) wNil))))) Jh)
 (wRet (Q0 (wTup (Qb (wBin Yq (wBin dIx (wVar 0) (wC (.int 0))) (wVar 1)) (Qb (wBin dIx (wVar 0) (wC (.int 1))) wNil))))))
theorem Qem (B:Bn K mg):∀(cdv:Value) (A:Around) (outer:List PySem.Env) (s:Shared) (H:Hp) (E:XK),Room 0 (A.deeper (envOfC "_law_moved" (Qe Yf) s.heap.objs.size f cdv))->SVs (cxOf CX0 P w K mg base ["_law_spot","_law_many"] "_law_moved" (Qe Yf) f cdv A outer s H E).nox Xe (Qy Yf) Xa:=λcdv A outer s H E hr =>
  (Qg (Za (Jx Qp7 (Qs (Qt (Qp hr)) (Qc 0) Qd) Qd) (Qj (Qx (Q3 (Qr (Qa (Vg Ye Qd) (Qa (Qs (Qt (Qp hr)) (Qc 0) Qd) Qf)))))) Jc)
  (Qj (Qx (Q3 (Qr (Qa (Ja Q8 (Qs (Qt (Qp hr)) (Qc 0) Qd) (Qc 1)) (Qa (Qs (Qt (Qp hr)) (Qc 0) Qd) Qf)))))))
theorem Qcl (F:Fun K "_law_moved" "_law_moved" Yf f fd) (B:Bn K mg):FnOk P w K mg base CX0 1 f fd ["_law_spot","_law_many"] (spR K Yx):=by
 refine Yk (T:=Xe) F Qb9 rfl (by decide) (λds kk h=>?_) (Qem B) (λds kk h=>?_)
 ·obtain ⟨q,m1,rfl,_⟩:=h
  rfl
 ·obtain ⟨q,m1,rfl,k⟩:=h
  simp only [Xa,wSeq,wIf,env0,sd,List.map_cons,List.map_nil,List.length_cons,List.length_nil,Nat.zero_add,Nat.reduceAdd,List.cons_append,List.nil_append,wRet,Q0,wTup,Qb,wUn,wC,wBin,wNil,sz2,D.pure,Ql,Bool.and_true,true_and,Qw,Qac,Bool.true_and,Int.reduceNeg,Jh,r_bl,look,Qh,Zd,Y0,List.getElem?_cons_succ,List.getElem?_cons_zero,Y1,V9,Qi0,Jn]
  unfold mv at k
  by_cases h:q.1<0
  ·rw [if_pos h] at k
   simp only [h,decide_true,Int.reduceNeg,reduceIte]
   exact k
  ·rw [if_neg h] at k
   simp only [h,decide_false,Bool.false_eq_true,Int.reduceNeg,reduceIte]
   exact k
def Yy:GA:=λds k=>∃(m1:Nat) (A1:Nat->Int) (r1:Int) (g1:Nat->Nat) (m2:Nat) (A2:Nat->Int) (r2:Int) (g2:Nat->Nat) (m:Nat) (G:Nat->Nat) (ja jb jc jd:Nat) (B:Nat->Int) (h o:Nat->Nat),ds=[webD m1 4 A1 r1,webD m2 4 A2 r2,.lst [.tup [.int ja,.int jb],.tup [.int jc,.int jd]],.lst ((List.range 4).map λj=>sd (sG m 4 0 (o (4*m+j))))] /\
 m=m1+m2/\G=bG m1 4 m2 g1 g2/\M.Tw (4*m1+4) A1 g1/\M.Tw (4*m2+4) A2 g2/\(∀i,0<=A2 i)/\(ja<4/\jb<4/\jc<4/\jd<4/\ja≠jc/\jb≠jd)/\m1<=10/\m2<=10/\Out m 4 B h o (less (less (S0 m) (4*m+ja) (4*m+(4+jb))) (4*m+jc) (4*m+(4+jd))) (tie (tie G (4*m+ja) (4*m+(4+jb))) (4*m+jc) (4*m+(4+jd))) /\
 k (webD m 4 (M.anw B (4*m+4)) (r1+r2+rg G (4*m+ja) (4*m+(4+jb))+rg (tie G (4*m+ja) (4*m+(4+jb))) (4*m+jc) (4*m+(4+jd))))
abbrev Yw:Stmt:=top 39
theorem Jp:FnScope ["_law_one","_law_other","_law_seam","_law_rim","_law_ties_here","_law_more","_law_spot","_law_rings","_law_here","_law_there"] ["_law_one","_law_other","_law_seam","_law_rim"] (Qe Yw):=⟨rfl,rfl,rfl,by decide +kernel,rfl,by decide +kernel,by decide +kernel⟩
def X5:Tg:={ own:=λi=>i == 4 || i == 5 || i == 6 || i == 7 || i == 8 || i == 9,io:=[] }
def Xz:WS:=(wSeq (wSet 4 (Qn Jt (Qb (wVar 0) wNil)))
 (wSeq (wSet 5 (Qn Jt (Qb (wVar 1) wNil)))
 (wSeq (wFor (Qet 5) (gN 6) (Yl 4 (Qn Yx (Qb (wBin dIxT (wVar 5) (wVar 6)) (Qb (Qn dLen (Qb (wBin dIx (wVar 0) (wC (.int 0))) wNil)) wNil))) (Qn Yx (Qb (wVar 6) (Qb (Qn dLen (Qb (wBin dIx (wVar 0) (wC (.int 0))) wNil)) wNil)))))
 (wSeq (wSet 7 (wBin Yq (wBin dIx (wVar 0) (wC (.int 2))) (wBin dIx (wVar 1) (wC (.int 2)))))
 (wSeq (wFor (V0 (wVar 2)) (Qhx 2 (Uw (gN 8) (Uw (gN 9) Qhy))) (wSet 7 (wBin Yq (Q0 (wVar 7)) (V3 4 Yi (Qbe 4 (Qb (wTup (Qb (wUn dNeg (wC (.int 1))) (Qb (wVar 8) wNil))) (Qb (wTup (Qb (wUn dNeg (wC (.int 2))) (Qb (wVar 9) wNil))) wNil)))))))
 (wRet (Qn Js (Qb (wBin Yq (Qn dLen (Qb (wBin dIx (wVar 0) (wC (.int 0))) wNil)) (Qn dLen (Qb (wBin dIx (wVar 1) (wC (.int 0))) wNil))) (Qb (wVar 3) (Qb (wVar 7) (Qb (wVar 4) wNil)))))))))))
theorem Qfs (B:Bn K mg) (C__law_ties:Cal P w K mg base "_law_ties" 2 ["_law_web"] (spR K Jt)) (C__law_joined:Cal P w K mg base "_law_joined" 1 ["_law_ties_here","_law_one","_law_other"] (spI K 0 Yi)) (C__law_built:Cal P w K mg base "_law_built" 1 ["_law_many","_law_rim","_law_rings","_law_ties_here"] (spR K Js)) (C__law_moved:Cal P w K mg base "_law_moved" 1 ["_law_spot","_law_many"] (spR K Yx)):∀(cdv:Value) (A:Around) (outer:List PySem.Env) (s:Shared) (H:Hp) (E:XK),Room 2 (A.deeper (envOfC "_law_both" (Qe Yw) s.heap.objs.size f cdv))->SVs (cxOf CX0 P w K mg base ["_law_one","_law_other","_law_seam","_law_rim","_law_ties_here","_law_more","_law_spot","_law_rings","_law_here","_law_there"] "_law_both" (Qe Yw) f cdv A outer s H E).nox X5 (Qy Yw) Xz:=λcdv A outer s H E hr =>
  (Qg (Q4 (i:=4) (Qo C__law_ties (hr.mono (by decide)) (Qa (Qc 0) Qf)) Jp.nd)
  (Qg (Q4 (i:=5) (Qo C__law_ties (hr.mono (by decide)) (Qa (Qc 1) Qf)) Jp.nd)
  (Qg (Zr PassesOwn.never (Qj4 (s:=5)) (Ju (i:=6) Jp.nd) (Qj (Yn (i:=4) (Qp hr) (Qo C__law_moved (hr.mono (by decide)) (Qa (Qs (Qrc (Qp hr)) (Qc 5) (Qc 6)) (Qa (Je Vk B.nb_len Zz (Qa (Qs (Qt (Qp hr)) (Qc 0) Qd) Qf)) Qf))) (Qo C__law_moved (hr.mono (by decide)) (Qa (Qc 6) (Qa (Je Vk B.nb_len Zz (Qa (Qs (Qt (Qp hr)) (Qc 0) Qd) Qf)) Qf))))))
  (Qg (Q4 (i:=7) (Ja Q8 (Qs (Qt (Qp hr)) (Qc 0) Qd) (Qs (Qt (Qp hr)) (Qc 1) Qd)) Jp.nd)
  (Qg (Zr PassesOwn.never (Qs9 (i:=2)) (Qgu (Zu (Ju (i:=8) Jp.nd) (Zu (Ju (i:=9) Jp.nd) Qcs))) (Qj (Q4 (i:=7) (Ja Q8 (Q3 (Qc 7)) (Vh C__law_joined (hr.mono (by decide)) (G6 (i:=4) (Qa (Qr (Qa (Vg Ye Qd) (Qa (Qc 8) Qf))) (Qa (Qr (Qa (Vg Ye Qd) (Qa (Qc 9) Qf))) Qf))))) Jp.nd)))
  (Qj (Qx (Qo C__law_built (hr.mono (by decide)) (Qa (Ja Q8 (Je Vk B.nb_len Zz (Qa (Qs (Qt (Qp hr)) (Qc 0) Qd) Qf)) (Je Vk B.nb_len Zz (Qa (Qs (Qt (Qp hr)) (Qc 1) Qd) Qf))) (Qa (Qc 3) (Qa (Qc 7) (Qa (Qc 4) Qf))))))))))))
theorem Qd1 (F:Fun K "_law_both" "_law_both" Yw f fd) (B:Bn K mg) (C1:Cal P w K mg base "_law_ties" 2 ["_law_web"] (spR K Jt)) (C2:Cal P w K mg base "_law_joined" 1 ["_law_ties_here","_law_one","_law_other"] (spI K 0 Yi)) (C3:Cal P w K mg base "_law_built" 1 ["_law_many","_law_rim","_law_rings","_law_ties_here"] (spR K Js)) (C4:Cal P w K mg base "_law_moved" 1 ["_law_spot","_law_many"] (spR K Yx)):FnOk P w K mg base CX0 3 f fd ["_law_one","_law_other","_law_seam","_law_rim"] (spR K Yy):=by
 refine Yk (T:=X5) F Jp rfl (by decide) (λds kk h=>?_) (Qfs B C1 C2 C3 C4) (λds kk h=>?_)
 ·obtain ⟨m1,A1,r1,g1,m2,A2,r2,g2,m,G,ja,jb,jc,jd,B,h,o,rfl,_⟩:=h
  rfl
 ·obtain ⟨m1,A1,r1,g1,m2,A2,r2,g2,m,G,ja,jb,jc,jd,B,h,o,rfl,em,eG,tw1,tw2,hA2,hj,hm1,hm2,O,k⟩:=h
  have tw0:=two_tw tw1 tw2 hA2
  generalize hsm:D.lst [.tup [.int (ja:Int),.int (jb:Int)],.tup [.int (jc:Int),.int (jd:Int)]]=sm
  generalize hrm:D.lst ((List.range 4).map λj=>sd (sG m 4 0 (o (4*m+j))))=rm
  simp only [Xz,wSeq,wSet,Qn,Qb,env0,List.map_cons,List.map_nil,List.length_cons,List.length_nil,Nat.zero_add,Nat.reduceAdd,List.replicate,List.cons_append,List.nil_append,wNil,Gh,Qw,look,List.set_cons_succ,List.set_cons_zero,Qh]
  refine ⟨m1,4,A1,r1,g1,rfl,by omega,by omega,tw1,λT1 a1 a2 a3 a4=>?_⟩
  simp only []
  refine ⟨m2,4,A2,r2,g2,rfl,by omega,by omega,tw2,λT2 b1 b2 b3 b4=>?_⟩
  have a3:∀x,x<4*m1+4->valD T1 (sk (M.sp m1 x))=some (sd (M.sp m1 (g1 x))):=a3
  have b3:∀x,x<4*m2+4->valD T2 (sk (M.sp m2 x))=some (sd (M.sp m2 (g2 x))):=b3
  have w0:∀(m e:Nat) (A:Nat->Int) (r:Int) (kq:D->Prop),dIx (webD m e A r) (.int 0) (λd=>dLen [d] kq)=kq (.int m):=λm e A r kq=>by simp only [webD,Zd,Y1,List.getElem?_cons_zero,Qh,Qad,List.length_map,List.length_range]
  have w1:∀(m e:Nat) (A:Nat->Int) (r:Int) (kq:D->Prop),dIx (webD m e A r) (.int 1) (λd=>dLen [d] kq)=kq (.int e):=λm e A r kq=>by simp only [webD,Zd,Y0,List.getElem?_cons_succ,List.getElem?_cons_zero,Qh,Qad,List.length_map,List.length_range]
  have w2:∀(m e:Nat) (A:Nat->Int) (r:Int) (kq:D->Prop),dIx (webD m e A r) (.int 2) kq=kq (.int r):=λm e A r kq=>by simp only [webD,Zd,Zo,List.getElem?_cons_succ,List.getElem?_cons_zero,Qh]
  have pK:Ql (Xo T2)=true:=Qi λkv hkv=>by
   obtain ⟨y,_,e⟩:=b4 kv hkv
   rw [e];rfl
  simp only [Qet,look,List.set_cons_succ,List.set_cons_zero,Qh,Qpe,pK,true_and]
  refine ⟨λt ρ=>∃(T:List (List Key × D)) (o6:Option D),t<=T2.length/\ρ=[some (webD m1 4 A1 r1),some (webD m2 4 A2 r2),some sm,some rm,some (.dit T),some (.fdt T2),o6,none,none,none]/\T.length<=1000+t/\pur T /\
   (∀x,x<4*m1+4->valD T (sk (M.sp m1 x))=some (sd (M.sp m1 (g1 x))))/\∀j y,j<t->y<4*m2+4->(T2[j]?).map (·.1)=some (ksP m2 y)->valD T (sk (mv m1 (M.sp m2 y)))=some (sd (mv m1 (M.sp m2 (g2 y)))),⟨T1,none,Nat.zero_le _,rfl,a1,a2,a3,λj y h=>absurd h (Nat.not_lt_zero _)⟩,?_,?_⟩
  ·rintro t d ρ hd ⟨T,o6,_,rfl,hl,hp,u1,u2⟩
   obtain ⟨ht,y,hy,hky,rfl⟩:t<T2.length/\∃y,y<4*m2+4/\(T2[t]?).map (·.1)=some (ksP m2 y)/\d=sd (M.sp m2 y):=by
    unfold Xo at hd
    rw [List.getElem?_map] at hd
    cases q:T2[t]? with
    | none=>rw [q] at hd;cases hd
    | some kv =>
     rw [q] at hd
     obtain ⟨y,hy,e⟩:=b4 kv (List.mem_of_getElem? q)
     refine ⟨(List.getElem?_eq_some_iff.mp q).1,y,hy,congrArg some e,?_⟩
     have hd:=(Option.some.inj hd).symm
     rw [hd]
     show D.tup (kv.1.map kD)=_
     rw [e];rfl
   have ks:∀q:Int × Int,([Sum.inl q.1,Sum.inl q.2]:List Key)=sk q:=λ_=>rfl
   have ixT:∀kq:D->Prop,dIxT (.fdt T2) (sd (M.sp m2 y)) kq=kq (sd (M.sp m2 (g2 y))):=λkq=>by
    have:dIxT (.fdt T2) (sd (M.sp m2 y)) kq=oget (valD T2 (sk (M.sp m2 y))) kq:=rfl
    rw [this,b3 y hy];rfl
   have stD:∀(q:Int × Int) (d:D) (kq:D->Prop),dSet (.dit T) (sd q) d kq=(T.length<sizeLine/\kq (.dit (putD T (sk q) d))):=λ_ _ _=>rfl
   simp only [gN,Yl,Qn,Qb,wBin,List.set_cons_succ,List.set_cons_zero,wC,wNil,Qw,look,Option.isSome_some,Qh,w0,true_and,ixT]
   refine ⟨_,m1,rfl,?_⟩
   simp only []
   refine ⟨rfl,_,m1,rfl,?_⟩
   simp only [stD]
   refine ⟨big2 (by omega),_,_,ht,rfl,Nat.le_trans (J1 _ _ _) (by omega),U6 hp rfl,λx hx=>?_,λj z hj hz hk=>?_⟩
   ·rw [Ym,if_neg,u1 x hx]
    intro q
    have q:=Ut q
    have e1':=sG_1 (m2:=m2) hx
    have e2':=sG_2 (m1:=m1) (e1:=4) (m2:=m2) (y:=y)
    rw [← e1',← e2'] at q
    have q:=congrArg (sid m1 4 m2) (Qaa q)
    rw [(emb1 (m2:=m2) (e2:=4) hx).2.1,(emb2 (m1:=m1) (e1:=4) hy).2.1] at q
    cases q
   ·rw [Ym]
    by_cases q:sk (mv m1 (M.sp m2 z))=sk (mv m1 (M.sp m2 y))
    ·rw [if_pos q]
     have q:=Ut q
     rw [← sG_2 (m1:=m1) (e1:=4) (m2:=m2) (y:=y),← sG_2 (m1:=m1) (e1:=4) (m2:=m2) (y:=z)] at q
     have q:=congrArg (loc m1 4 m2) (Qaa q)
     rw [(emb2 (m1:=m1) (e1:=4) hz).2.2,(emb2 (m1:=m1) (e1:=4) hy).2.2] at q
     rw [q]
    ·rw [if_neg q]
     by_cases hjt:j=t
     ·subst hjt
      rw [hky] at hk
      exact absurd (by rw [Qff (Option.some.inj hk)]) q
     ·exact u2 j z (by omega) hz hk
  ·rintro ρ ⟨T,o6,_,rfl,hl,hp,u1,u2⟩
   have hkl:(Xo T2).length=T2.length:=List.length_map ..
   rw [hkl] at hl u2
   have u2:∀y,y<4*m2+4->valD T (sk (mv m1 (M.sp m2 y)))=some (sd (mv m1 (M.sp m2 (g2 y)))):=λy hy=>by
    obtain ⟨j,hj,e⟩:=Qot (b3 y hy)
    exact u2 j y hj hy e
   have uT:∀i,i<4*(m1+m2)+(4+4)->valD T (sk (sG (m1+m2) 4 0 i))=some (sd (sG (m1+m2) 4 0 (bG m1 4 m2 g1 g2 i))):=λi hi=>by
    rcases Xn hi with ⟨x,hx,rfl⟩ | ⟨x,hx,rfl⟩
    ·rw [bG1 hx,sG_1 hx,sG_1 (tw1.lt x hx),u1 x hx]
    ·rw [bG2 hx,sG_2,sG_2,u2 x hx]
   rw [← em,← eG] at uT tw0
   have P0:Prt (S0 m) G:=Qi3 tw0
   have uT:∀i,S0 m i->valD T (sk (sG m 4 0 i))=some (sd (sG m 4 0 (G i))):=uT
   subst hsm
   simp only [wSeq,wSet,wBin,wC,Gh,Gg,Qw,look,List.set_cons_succ,List.set_cons_zero,Qh,Qbq,Ql,D.pure,Bool.and_self,true_and,w2,V9]
   obtain ⟨hja,hjb,hjc,hjd,hac,hbd⟩:=hj
   have ea:∀j:Nat,j<4->D.tup [.int (-1),.int (j:Int)]=sd (sG m 4 0 (4*m+j)):=λj h=>by rw [sG_a (by omega)];rfl
   have eb:∀j:Nat,D.tup [.int (-2),.int (j:Int)]=sd (sG m 4 0 (4*m+(4+j))):=λj=>by rw [sG_b (by omega),show 4+j-(4-0)+0=j by omega];rfl
   refine ⟨λt ρ=>∃(T:List (List Key × D)) (o8 o9:Option D) (R:Int) (S:Nat->Prop) (G':Nat->Nat),ρ=[some (webD m1 4 A1 r1),some (webD m2 4 A2 r2),some (.lst [.tup [.int (ja:Int),.int (jb:Int)],.tup [.int (jc:Int),.int (jd:Int)]]),some rm,some (.dit T),some (.fdt T2),o6,some (.int R),o8,o9]/\T.length<=2000+2*t/\pur T/\(∀i,S i->valD T (sk (sG m 4 0 i))=some (sd (sG m 4 0 (G' i)))) /\
    ((t=0/\R=r1+r2/\S=S0 m/\G'=G)\/(t=1/\R=r1+r2+rg G (4*m+ja) (4*m+(4+jb))/\S=less (S0 m) (4*m+ja) (4*m+(4+jb))/\G'=tie G (4*m+ja) (4*m+(4+jb))) \/
     (t=2/\R=r1+r2+rg G (4*m+ja) (4*m+(4+jb))+rg (tie G (4*m+ja) (4*m+(4+jb))) (4*m+jc) (4*m+(4+jd))/\S=less (less (S0 m) (4*m+ja) (4*m+(4+jb))) (4*m+jc) (4*m+(4+jd))/\G'=tie (tie G (4*m+ja) (4*m+(4+jb))) (4*m+jc) (4*m+(4+jd)))),⟨T,none,none,_,_,_,rfl,by omega,hp,uT,.inl ⟨rfl,rfl,rfl,rfl⟩⟩,?_,?_⟩
   ·rintro t d ρ hd ⟨T,o8,o9,R,S,G',rfl,hl,hp,hT,hc⟩
    rcases hc with ⟨rfl,rfl,rfl,rfl⟩ | ⟨rfl,rfl,rfl,rfl⟩ | ⟨rfl,_⟩
    ·have hd:=(Option.some.inj hd).symm
     subst hd
     simp only [wSet,wBin,Q0,V3,Qbe,Qb,wTup,wUn,wC,wNil,List.length_cons,List.length_nil,Nat.zero_add,Nat.reduceAdd,sz2,Ql,D.pure,Bool.and_true,List.nil_append,true_and,Qw,Qac,Bool.true_and,Int.reduceNeg,Qdo,Qag,gN,List.set_cons_succ,List.set_cons_zero,Qdp,look,Option.isSome_some,Qh,Qlx]
     rw [ea ja hja,eb jb]
     refine ⟨hp,Qd5 (by omega) hp (λz=>by have:=Qaa z;omega) (hT _ (show 4*m+ja<4*m+8 by omega)) (hT _ (show 4*m+(4+jb)<4*m+8 by omega)) λring U ul up hc=>?_⟩
     obtain ⟨hR,hU⟩:=Qs3 P0 (λi j _ _ z=>Qaa z) hT (show 4*m+ja<4*m+8 by omega) (show 4*m+(4+jb)<4*m+8 by omega) (by omega) hc
     simp only [hR,V9]
     exact ⟨U,_,_,_,_,_,rfl,by omega,up,hU,by first | exact .inr (.inl ⟨rfl,rfl,rfl,rfl⟩) | exact .inr (.inl ⟨rfl,rfl,rfl⟩) | exact .inl ⟨rfl,rfl,rfl⟩ | exact ⟨rfl,rfl,rfl⟩ | exact .inr ⟨rfl,rfl,rfl⟩⟩
    ·have hd:=(Option.some.inj hd).symm
     subst hd
     have P1:=P0.tie (show 4*m+ja<4*m+8 by omega) (show 4*m+(4+jb)<4*m+8 by omega) (by omega)
     have sc:less (S0 m) (4*m+ja) (4*m+(4+jb)) (4*m+jc):=⟨show 4*m+jc<4*m+8 by omega,by omega,by omega⟩
     have sd':less (S0 m) (4*m+ja) (4*m+(4+jb)) (4*m+(4+jd)):=⟨show 4*m+(4+jd)<4*m+8 by omega,by omega,by omega⟩
     simp only [wSet,wBin,Q0,V3,Qbe,Qb,wTup,wUn,wC,wNil,List.length_cons,List.length_nil,Nat.zero_add,Nat.reduceAdd,sz2,Ql,D.pure,Bool.and_true,List.nil_append,true_and,Qw,Qac,Bool.true_and,Int.reduceNeg,Qdo,Qag,gN,List.set_cons_succ,List.set_cons_zero,Qdp,look,Option.isSome_some,Qh,Qlx]
     rw [ea jc hjc,eb jd]
     refine ⟨hp,Qd5 (by omega) hp (λz=>by have:=Qaa z;omega) (hT _ sc) (hT _ sd') λring U ul up hc=>?_⟩
     obtain ⟨hR,hU⟩:=Qs3 P1 (λi j _ _ z=>Qaa z) hT sc sd' (by omega) hc
     simp only [hR,V9]
     exact ⟨U,_,_,_,_,_,rfl,by omega,up,hU,by first | exact .inr (.inr ⟨rfl,rfl,rfl,rfl⟩) | exact .inr (.inr ⟨rfl,rfl,rfl⟩) | exact .inl ⟨rfl,rfl,rfl⟩ | exact ⟨rfl,rfl,rfl⟩ | exact .inr ⟨rfl,rfl,rfl⟩⟩
    ·cases hd
   ·rintro ρ ⟨T,o8,o9,R,S,G',rfl,hl,hp,hT,hc⟩
    rcases hc with ⟨z,_⟩ | ⟨z,_⟩ | ⟨_,rfl,rfl,rfl⟩
    ·cases z
    ·cases z
    ·simp only [wRet,Qn,Qb,wBin,wC,wNil,Qw,look,Qh,w0,V9]
     rw [show (m1:Int)+(m2:Int)=((m:Nat):Int) by omega]
     refine ⟨m,4,λi=>sG m 4 0 (o i),B,h,_,T,by rw [← hrm],by omega,by omega,λi hi=>by show sG m 4 0 (o i)=_;rw [O.fix i hi,Qlp hi],λi j hi hj z=>O.inj i j hi hj (Qaa z),O.tw,λi hi=>?_,k⟩
     show _=some (sd (sG m 4 0 (o (h i))))
     rw [hT _ (O.mem i hi),O.map i hi]
end K59
namespace K59
open PySem PySem.Spec L2 PV P58
open PyProof.Rows (envOfC)
theorem Qh5 (h:Nm (4*m+e) A):webD m e (M.anw A (4*m+e)) r=webD m e A r:=by
 unfold webD
 have e1:(List.range m).map (λk=>D.tup ((List.range 4).map λj=>.int (M.anw A (4*m+e) (4*k+j))))=(List.range m).map λk=>D.tup ((List.range 4).map λj=>.int (A (4*k+j))):=by
  refine List.map_congr_left λk hk=>congrArg D.tup (List.map_congr_left λj hj=>?_)
  have:=List.mem_range.mp hk
  have:=List.mem_range.mp hj
  rw [h _ (by omega)]
 have e2:(List.range e).map (λj=>D.int (M.anw A (4*m+e) (4*m+j)))=(List.range e).map λj=>D.int (A (4*m+j)):=by
  refine List.map_congr_left λj hj=>?_
  have:=List.mem_range.mp hj
  rw [h _ (by omega)]
 rw [e1,e2]
theorem Qt3:(List.range 4).map (λj=>sd (sG m 4 0 (oB m (4*m+j))))=[.tup [.int (-1),.int 0],.tup [.int (-1),.int 1],.tup [.int (-2),.int 2],.tup [.int (-2),.int 3]]:=by
 have b0:oB m (4*m+0)=4*m+0:=if_pos (by omega)
 have b1:oB m (4*m+1)=4*m+1:=if_pos (by omega)
 have b2:oB m (4*m+2)=4*m+6:=by unfold oB;rw [if_neg (by omega)]
 have b3:oB m (4*m+3)=4*m+7:=by unfold oB;rw [if_neg (by omega)]
 show [sd (sG m 4 0 (oB m (4*m+0))),sd (sG m 4 0 (oB m (4*m+1))),sd (sG m 4 0 (oB m (4*m+2))),sd (sG m 4 0 (oB m (4*m+3)))]=_
 rw [b0,b1,b2,b3,sG_a (by omega),sG_a (by omega),sG_b (by omega),sG_b (by omega)]
 rfl
theorem Qt4:(List.range 4).map (λj=>sd (sG m 4 0 (oA m (4*m+j))))=[.tup [.int (-1),.int 0],.tup [.int (-2),.int 1],.tup [.int (-2),.int 2],.tup [.int (-1),.int 3]]:=by
 have b0:oA m (4*m+0)=4*m+0:=if_pos (by omega)
 have b1:oA m (4*m+1)=4*m+5:=by unfold oA;rw [if_neg (by omega),if_pos (by omega)]
 have b2:oA m (4*m+2)=4*m+6:=by unfold oA;rw [if_neg (by omega),if_pos (by omega)]
 have b3:oA m (4*m+3)=4*m+3:=by unfold oA;rw [if_neg (by omega),if_neg (by omega)]
 show [sd (sG m 4 0 (oA m (4*m+0))),sd (sG m 4 0 (oA m (4*m+1))),sd (sG m 4 0 (oA m (4*m+2))),sd (sG m 4 0 (oA m (4*m+3)))]=_
 rw [b0,b1,b2,b3,sG_a (by omega),sG_b (by omega),sG_b (by omega),sG_a (by omega)]
 rfl
theorem Qt2:(List.range 4).map (λj=>sd (M.sp m (shf m 3 (4*m+j))))=[.tup [.int (-1),.int 3],.tup [.int (-1),.int 0],.tup [.int (-1),.int 1],.tup [.int (-1),.int 2]]:=by
 show [sd (M.sp m (shf m 3 (4*m+0))),sd (M.sp m (shf m 3 (4*m+1))),sd (M.sp m (shf m 3 (4*m+2))),sd (M.sp m (shf m 3 (4*m+3)))]=_
 rw [Y9,Y9,Y9,Y9,M.Z3,M.Z3,M.Z3,M.Z3]
 rfl
def mi (m i:Nat):Nat:=if i<4*m then 4*(i / 4)+(i % 4+1) % 4 else i
def mj (m i:Nat):Nat:=if i<4*m then 4*(i / 4)+(i % 4+3) % 4 else i
theorem Qjt (h:i<4*m+e):mi m i<4*m+e:=by unfold mi;split <;> omega
theorem Qux (h:i<4*m+e):mj m i<4*m+e:=by unfold mj;split <;> omega
theorem Qss:mi m (mj m i)=i:=by
 unfold mi mj
 by_cases h:i<4*m
 ·rw [if_pos h,if_pos (by omega)];omega
 ·rw [if_neg h,if_neg h]
theorem Qqb:mj m (mi m i)=i:=by
 unfold mi mj
 by_cases h:i<4*m
 ·rw [if_pos h,if_pos (by omega)];omega
 ·rw [if_neg h,if_neg h]
theorem Qoh (T:M.Tw (4*m+e) A g):M.Tw (4*m+e) (λi=>A (mi m i)) (λi=>mj m (g (mi m i))) where
 lt i h:=Qux (T.lt _ (Qjt h))
 ne i h z:=T.ne _ (Qjt h) (by rw [← Qss (m:=m) (i:=g (mi m i)),z])
 eq i h:=by show A (mi m (mj m (g (mi m i))))=_;rw [Qss];exact T.eq _ (Qjt h)
 only i k hi hk z:=by
  rcases T.only _ _ (Qjt hi) (Qjt hk) z with q | q
  ·exact .inl (by rw [← Qqb (m:=m) (i:=k),q,Qqb])
  ·exact .inr (by rw [← q,Qqb])
theorem Qgp (hk:k<m) (hj:j<4):mi m (4*k+j)=4*k+(j+1) % 4:=by
 unfold mi;rw [if_pos (by omega)];omega
theorem Qqc:mi m (4*m+j)=4*m+j:=if_neg (by omega)
def cro (A:Nat->Int) (k:Nat):D:=.tup ((List.range 4).map λj=>.int (A (4*k+j)))
def rotD:D->D
 | .tup [a,b,c,d]=>.tup [b,c,d,a]
 | d=>d
theorem Qqd (hk:k<m):rotD (cro A k)=cro (λi=>A (mi m i)) k:=by
 show D.tup [.int (A (4*k+1)),.int (A (4*k+2)),.int (A (4*k+3)),.int (A (4*k+0))]=D.tup [.int (A (mi m (4*k+0))),.int (A (mi m (4*k+1))),.int (A (mi m (4*k+2))),.int (A (mi m (4*k+3)))]
 rw [Qgp hk (by decide),Qgp hk (by decide),Qgp hk (by decide),Qgp hk (by decide)]
theorem Qjs:D.tup [.tup (((List.range m).map (cro A)).map rotD),.tup ((List.range 4).map λj=>.int (A (4*m+j))),.int r]=webD m 4 (λi=>A (mi m i)) r:=by
 unfold webD
 have e1:((List.range m).map (cro A)).map rotD=(List.range m).map λk=>D.tup ((List.range 4).map λj=>.int (A (mi m (4*k+j)))):=by
  rw [List.map_map]
  exact List.map_congr_left λk hk=>Qqd (List.mem_range.mp hk)
 have e2:(List.range 4).map (λj=>D.int (A (4*m+j)))=(List.range 4).map λj=>D.int (A (mi m (4*m+j))):=List.map_congr_left λj _=>by rw [Qqc]
 rw [e1,e2]
def Vd:GA:=λds k=>∃(m:Nat) (A:Nat->Int) (r:Int),ds=[webD m 4 A r]/\m<=20/\k (webD m 4 (λi=>A (mi m i)) r)
abbrev Yt:Stmt:=top 6
theorem X7:FnScope ["web","crossings"] ["web"] (Qe Yt):=⟨rfl,rfl,rfl,by decide +kernel,rfl,by decide +kernel,by decide +kernel⟩
def Qbl:Tg:={ own:=λi=>i == 1,io:=[] }
def Qbk:WS:=(wSeq (wSet 1 (Qn Zy (Qb (Ux (V0 (wBin dIx (wVar 0) (wC (.int 0)))) wAll (wBin Yq (wSlT (wVar 0) (Qes (wC (.int 1))) Qb0) (wSlT (wVar 0) Qb0 (Qes (wC (.int 1))))) []) wNil)))
 (wRet (Q0 (wTup (Qb (wVar 1) (Qb (wBin dIx (wVar 0) (wC (.int 1))) (Qb (wBin dIx (wVar 0) (wC (.int 2))) wNil)))))))
theorem Qh1 (B:Bn K mg):∀(cdv:Value) (A:Around) (outer:List PySem.Env) (s:Shared) (H:Hp) (E:XK),Room 0 (A.deeper (envOfC "mirrored" (Qe Yt) s.heap.objs.size f cdv))->SVs (cxOf CX0 P w K mg base ["web","crossings"] "mirrored" (Qe Yt) f cdv A outer s H E).nox Qbl (Qy Yt) Qbk:=λcdv A outer s H E hr =>
  (Qg (Q4 (i:=1) (Jl J8 B.nb_tuple Jz (Qa (J7 (Yz [] (Vb (Qs (Qt (Qp hr)) (Qc 0) Qd)) (λ_ _ _ _ _=>Vj) (λ_ _ _ _ _=>(Ja Q8 (Qeb (Qc 0) (Qak Qd) Qal) (Qeb (Qc 0) Qal (Qak Qd))))) (Jf (Qe Yt) ["web","crossings"] (by decide +kernel))) Qf)) X7.nd)
  (Qj (Qx (Q3 (Qr (Qa (Qc 1) (Qa (Qs (Qt (Qp hr)) (Qc 0) Qd) (Qa (Qs (Qt (Qp hr)) (Qc 0) Qd) Qf))))))))
theorem Qe8 (F:Fun K "mirrored" "mirrored" Yt f fd) (B:Bn K mg):FnOk P w K mg base CX0 1 f fd ["web"] (spR K Vd):=by
 refine Yk (T:=Qbl) F X7 rfl (by decide) (λds kk h=>?_) (Qh1 B) (λds kk h=>?_)
 ·obtain ⟨m,A,r,rfl,_⟩:=h
  rfl
 ·obtain ⟨m,A,r,rfl,hm,k⟩:=h
  rw [← Qjs] at k
  have hp:Ql ((List.range m).map (cro A))=true:=Qi λ_ _=>rfl
  have hw:webD m 4 A r=.tup [.tup ((List.range m).map (cro A)),.tup ((List.range 4).map λj=>.int (A (4*m+j))),.int r]:=rfl
  rw [hw]
  simp only [Qbk,wSeq,wSet,Qn,Qb,env0,List.map_cons,List.map_nil,List.length_cons,List.length_nil,Nat.zero_add,Nat.reduceAdd,List.replicate,List.cons_append,List.nil_append,wNil,wRet,Q0,wTup,wBin,wC,sz3,D.pure,Ql,Bool.and_true,true_and,Qw,Vz,Gg,look,Qh,Zd,Y1,List.getElem?_cons_zero,Xi,hp]
  refine Jo rotD (by rw [List.length_map,List.length_range];exact Nat.lt_of_le_of_lt hm (by decide)) (λd hd Q' hQ=>?_) ?_
  ·obtain ⟨i,_,rfl⟩:=List.mem_map.mp hd
   have ec:cro A i=.tup [.int (A (4*i+0)),.int (A (4*i+1)),.int (A (4*i+2)),.int (A (4*i+3))]:=rfl
   rw [ec] at hQ ⊢
   simp only [blkE,List.map_nil,wBin,wSlT,Qb0,Qiy,wC,Qe2,Qw,look,Qh,Qn8,Ql,D.pure,Bool.and_self,true_and,Qcc] at hQ ⊢
   exact ⟨rfl,rfl,(by decide:4<=sizeLine),hQ⟩
  ·have hr:Ql (((List.range m).map (cro A)).map rotD)=true:=by rw [List.map_map];exact Qi λ_ _=>rfl
   have he:Ql ((List.range 4).map λj=>D.int (A (4*m+j)))=true:=rfl
   simp only [List.set_cons_succ,List.set_cons_zero,look,Qh,Zd,Zo,List.getElem?_cons_succ,List.getElem?_cons_zero,D.pure,Bool.and_true,Y0,he,Vy,hr,true_and]
   exact k
end K59
variable {t:P58.Tr}
namespace K59
open PySem PySem.Spec L2 PV P58
open M (tie)
open PyProof.Rows (envOfC)
def aS (i:Nat):Int:=((i % 4:Nat):Int)
def gS (i:Nat):Nat:=(i+4) % 8
def aL:Nat->Int
 | 0=>0
 | 1=>1
 | 2=>1
 | _=>0
def gL (i:Nat):Nat:=3-i
def aU:Nat->Int
 | 0=>0
 | 1=>0
 | 2=>1
 | _=>1
def gU:Nat->Nat
 | 0=>1
 | 1=>0
 | 2=>3
 | _=>2
inductive Wb:Tr->Nat->(Nat->Int)->Int->(Nat->Nat)->Prop
 | s:Wb (.lf 0) 1 aS 0 gS
 | l:Wb (.lf 1) 0 aL 0 gL
 | u {i:Nat}:Wb (.lf (i+2)) 0 aU 0 gU
 | t {t:Tr} {m:Nat} {A A':Nat->Int} {r:Int} {g h:Nat->Nat}:Wb t m A r g->Out m 4 A' h (shf m 3) (· < 4*m+4) g->Wb (.un false t) m (M.anw A' (4*m+4)) r h
 | m {t:Tr} {m:Nat} {A:Nat->Int} {r:Int} {g:Nat->Nat}:Wb t m A r g->Wb (.un true t) m (M.anw (λi=>A (mi m i)) (4*m+4)) r (λi=>mj m (g (mi m i)))
 | b {t u:Tr} {m1 m2 m:Nat} {A1 A2 A':Nat->Int} {r1 r2:Int} {g1 g2 h G:Nat->Nat}:Wb t m1 A1 r1 g1->Wb u m2 A2 r2 g2->m=m1+m2->G=bG m1 4 m2 g1 g2 ->
   Out m 4 A' h (oB m) (less (less (S0 m) (4*m+3) (4*m+4)) (4*m+2) (4*m+5)) (tie (tie G (4*m+3) (4*m+4)) (4*m+2) (4*m+5)) ->
   Wb (.bi false t u) m (M.anw A' (4*m+4)) (r1+r2+rg G (4*m+3) (4*m+4)+rg (tie G (4*m+3) (4*m+4)) (4*m+2) (4*m+5)) h
 | a {t u:Tr} {m1 m2 m:Nat} {A1 A2 A':Nat->Int} {r1 r2:Int} {g1 g2 h G:Nat->Nat}:Wb t m1 A1 r1 g1->Wb u m2 A2 r2 g2->m=m1+m2->G=bG m1 4 m2 g1 g2 ->
   Out m 4 A' h (oA m) (less (less (S0 m) (4*m+2) (4*m+7)) (4*m+1) (4*m+4)) (tie (tie G (4*m+2) (4*m+7)) (4*m+1) (4*m+4)) ->
   Wb (.bi true t u) m (M.anw A' (4*m+4)) (r1+r2+rg G (4*m+2) (4*m+7)+rg (tie G (4*m+2) (4*m+7)) (4*m+1) (4*m+4)) h
theorem Wb.ok (W:Wb t m A r g):M.Tw (4*m+4) A g/\(∀i,0<=A i)/\m<=2 ^ t.h:=by
 induction W with
 | s=>exact ⟨⟨by decide,by decide,by decide,λi k hi hk=>(by decide:∀i,i<8->∀k,k<8->aS k=aS i->k=i\/k=gS i) i hi k hk⟩,λi=>Int.natCast_nonneg _,by decide⟩
 | l=>exact ⟨⟨by decide,by decide,by decide,λi k hi hk=>(by decide:∀i,i<4->∀k,k<4->aL k=aL i->k=i\/k=gL i) i hi k hk⟩,λi=>by unfold aL;split <;> decide,by decide⟩
 | u=>exact ⟨⟨by decide,by decide,by decide,λi k hi hk=>(by decide:∀i,i<4->∀k,k<4->aU k=aU i->k=i\/k=gU i) i hi k hk⟩,λi=>by unfold aU;split <;> decide,Nat.zero_le _⟩
 | t W O ih=>exact ⟨Qbb O.tw,Qeo,by show _<=2 ^ (_+1);rw [Nat.pow_succ];omega⟩
 | m W ih=>exact ⟨Qbb (Qoh ih.1),Qeo,by show _<=2 ^ (_+1);rw [Nat.pow_succ];omega⟩
 | @b t u m1 m2 m A1 A2 A' r1 r2 g1 g2 h G W1 W2 e1 e2 O i1 i2 =>
  have:=Nat.pow_le_pow_right (by decide:0<2) (Nat.le_max_left t.h u.h)
  have:=Nat.pow_le_pow_right (by decide:0<2) (Nat.le_max_right t.h u.h)
  exact ⟨Qbb O.tw,Qeo,by show _<=2 ^ (max t.h u.h+1);rw [Nat.pow_succ];omega⟩
 | @a t u m1 m2 m A1 A2 A' r1 r2 g1 g2 h G W1 W2 e1 e2 O i1 i2 =>
  have:=Nat.pow_le_pow_right (by decide:0<2) (Nat.le_max_left t.h u.h)
  have:=Nat.pow_le_pow_right (by decide:0<2) (Nat.le_max_right t.h u.h)
  exact ⟨Qbb O.tw,Qeo,by show _<=2 ^ (max t.h u.h+1);rw [Nat.pow_succ];omega⟩
end K59
variable {x:PySem.Str} {y z:PV.D} {g:PySem.Str->PV.GA}
namespace K59
open PySem PySem.Spec L2 PV P58
open PyProof.Rows (envOfC)
open M (tie)
def Qa8 (s:Stmt) (i:Nat):Stmt:=match s with
 | .ClassDef _ _ _ b _ _ _ _ _ _ _=>b.getD i (.Pass ⟨0,0,0,0⟩)
 | s=>s
abbrev V7:Stmt:=Qa8 (top 22) 0
theorem Qb7:FnScope ["self","one","other"] ["self","one","other"] (Qe V7):=⟨rfl,rfl,rfl,by decide +kernel,rfl,by decide +kernel,by decide +kernel⟩
theorem Qcj (F:Fun K "__init__" "Beside.__init__" V7 f fd) (hc:Cls K C) (hn:∀i,Jg K C (fldS i)):FnOk P w K mg base CX0 1 f fd ("self" :: fldN 2) (Qio C 2):=by
 refine F.ok Qb7 (λvs H Q E h=>by obtain ⟨a,dx,ys,rfl,hl,_⟩:=h;show ys.length+1=_;rw [hl];rfl) λcdv A outer s H vs Q E hr h=>?_
 obtain ⟨a,dx,ys,rfl,hl,ha,q⟩:=h
 obtain ⟨y,z,rfl⟩:=len2 hl
 refine ⟨_,Qce (Qbr (pv 0) (pv 1) rfl) (Qai (Qbr (pv 0) (pv 2) rfl)),?_⟩
 refine ⟨_,rfl,_,rfl,a,C,dx,[],rfl,ha,hc,hn 0,by decide,_,rfl,_,rfl,a,C,dx,_,rfl,Qk,hc,hn 1,by show 1<1000;decide,?_⟩
 rw [Qia]
 exact q
abbrev Uy:Stmt:=Qa8 (top 23) 0
theorem Qdl:FnScope ["self","one","other"] ["self","one","other"] (Qe Uy):=⟨rfl,rfl,rfl,by decide +kernel,rfl,by decide +kernel,by decide +kernel⟩
theorem Qdw (F:Fun K "__init__" "Above.__init__" Uy f fd) (hc:Cls K C) (hn:∀i,Jg K C (fldS i)):FnOk P w K mg base CX0 1 f fd ("self" :: fldN 2) (Qio C 2):=by
 refine F.ok Qdl (λvs H Q E h=>by obtain ⟨a,dx,ys,rfl,hl,_⟩:=h;show ys.length+1=_;rw [hl];rfl) λcdv A outer s H vs Q E hr h=>?_
 obtain ⟨a,dx,ys,rfl,hl,ha,q⟩:=h
 obtain ⟨y,z,rfl⟩:=len2 hl
 refine ⟨_,Qce (Qbr (pv 0) (pv 1) rfl) (Qai (Qbr (pv 0) (pv 2) rfl)),?_⟩
 refine ⟨_,rfl,_,rfl,a,C,dx,[],rfl,ha,hc,hn 0,by decide,_,rfl,_,rfl,a,C,dx,_,rfl,Qk,hc,hn 1,by show 1<1000;decide,?_⟩
 rw [Qia]
 exact q
abbrev V6:Stmt:=Qa8 (top 24) 0
theorem Qb6:FnScope ["self","one"] ["self","one"] (Qe V6):=⟨rfl,rfl,rfl,by decide +kernel,rfl,by decide +kernel,by decide +kernel⟩
theorem Qci (F:Fun K "__init__" "Turned.__init__" V6 f fd) (hc:Cls K C) (hn:∀i,Jg K C (fldS i)):FnOk P w K mg base CX0 1 f fd ("self" :: fldN 1) (Qio C 1):=by
 refine F.ok Qb6 (λvs H Q E h=>by obtain ⟨a,dx,ys,rfl,hl,_⟩:=h;show ys.length+1=_;rw [hl];rfl) λcdv A outer s H vs Q E hr h=>?_
 obtain ⟨a,dx,ys,rfl,hl,ha,q⟩:=h
 obtain ⟨y,rfl⟩:=len1 hl
 refine ⟨_,Qai (Qbr (pv 0) (pv 1) rfl),?_⟩
 exact ⟨_,rfl,_,rfl,a,C,dx,[],rfl,ha,hc,hn 0,by decide,q⟩
abbrev Z1:Stmt:=Qa8 (top 25) 0
theorem X8:FnScope ["self","one"] ["self","one"] (Qe Z1):=⟨rfl,rfl,rfl,by decide +kernel,rfl,by decide +kernel,by decide +kernel⟩
theorem Qap (F:Fun K "__init__" "Mirrored.__init__" Z1 f fd) (hc:Cls K C) (hn:∀i,Jg K C (fldS i)):FnOk P w K mg base CX0 1 f fd ("self" :: fldN 1) (Qio C 1):=by
 refine F.ok X8 (λvs H Q E h=>by obtain ⟨a,dx,ys,rfl,hl,_⟩:=h;show ys.length+1=_;rw [hl];rfl) λcdv A outer s H vs Q E hr h=>?_
 obtain ⟨a,dx,ys,rfl,hl,ha,q⟩:=h
 obtain ⟨y,rfl⟩:=len1 hl
 refine ⟨_,Qai (Qbr (pv 0) (pv 1) rfl),?_⟩
 exact ⟨_,rfl,_,rfl,a,C,dx,[],rfl,ha,hc,hn 0,by decide,q⟩
def Qqy (t:Tr):Str:=match t with
 | .lf k=>lfC k
 | .un b _=>unC b
 | .bi b _ _=>biC b
theorem Y5 (i:Nat) {p:Nat->Str->Prop} (h0:p 0 (lfC 0)) (h1:p 1 (lfC 1)) (h2:∀i,p (i+2) (lfC 2)):p i (lfC i):=match i with
 | 0=>h0
 | 1=>h1
 | i+2=>h2 i
def gwrd (d:Nat) (x:Str):GA:=λds k=>∃t,ds=[oD t]/\Qqy t=x/\t.h<=d/\∀m A r g,Wb t m A r g->k (webD m 4 A r)
def gwr (x:Str):GA:=gwrd 3 x
def WrD (P:Program) (w:World) (K:PySem.W.Frag) (mg:Str->Option Value) (base:Heap) (g:Str->GA) (k:Nat):Prop:=∀x C,isC x=true->atN K x C->ClsD K C/\∃f fd,Meth K C "web" f/\FnOk P w K mg base CX0 k f fd ["self"] (spR K (g x))/\Z2 K fd ["self"] []
abbrev WrN (P:Program) (w:World) (K:PySem.W.Frag) (mg:Str->Option Value) (base:Heap):Prop:=WrD P w K mg base gwr 12
theorem Qso:∀t,∃ds,oD t=.ist (Qqy t) ds/\isC (Qqy t)=true/\ds.length<=2
 | .lf i=>⟨[],rfl,Y5 i (p:=λ_ x=>isC x=true) (by decide +kernel) (by decide +kernel) (λ_=>by decide +kernel),Nat.zero_le _⟩
 | .un b t=>⟨_,rfl,by show isC (unC b)=true;cases b <;> decide +kernel,(by decide:1<=2)⟩
 | .bi b t u=>⟨_,rfl,by show isC (biC b)=true;cases b <;> decide +kernel,Nat.le_refl 2⟩
theorem Qmx {k:Str->List D->Prop}:Qj6 (.ist x ds) k=k x ds:=rfl
theorem Uz {Q:D->Prop} (hg:g=gwrd d) (h:t.h<=d) (k:∀m A r g',Wb t m A r g'->Q (webD m 4 A r)):Qj6 (oD t) λx ds=>isC x=true/\ds.length<=2/\g x [oD t] λr=>Q r:=by
 subst hg
 obtain ⟨ds,e,h1,h2⟩:=Qso t
 rw [e]
 exact ⟨h1,h2,t,by rw [e],rfl,h,k⟩
theorem m_le {g:Nat->Nat} (W:Wb t m A r g) (h:t.h<=3):m<=8:=Nat.le_trans W.ok.2.2 (Nat.le_trans (Nat.pow_le_pow_right (by decide) h) (by decide:2 ^ 3<=8))
abbrev Z5:Stmt:=Qa8 (top 19) 0
theorem Qez:FnScope ["self"] ["self"] (Qe Z5):=⟨rfl,rfl,rfl,by decide +kernel,rfl,by decide +kernel,by decide +kernel⟩
def Qhd:Tg:={ own:=λi=>false,io:=[] }
theorem Qan (F:Fun K "web" "Level.web" Z5 f fd):FnOk P w K mg base CX0 1 f fd ["self"] (spR K (gwrd d (Str.ofString "Level"))):=by
 refine Yk (k:=0) (T:=Qhd) (ww:=wRet (wTup (Qb (wTup wNil) (Qb (wTup (Qb (wC (.int 0)) (Qb (wC (.int 1)) (Qb (wC (.int 1)) (Qb (wC (.int 0)) wNil))))) (Qb (wC (.int 0)) wNil))))) F Qez rfl (by decide) (λds kk h=>?_) (λcdv A outer s H E hr=>Qj (Qx (Qr (Qa (Qr Qf) (Qa (Qr (Qa Qd (Qa Qd (Qa Qd (Qa Qd Qf))))) (Qa Qd Qf)))))) (λds kk h=>?_)
 ·obtain ⟨t,rfl,_⟩:=h
  rfl
 ·obtain ⟨t,rfl,hc,ht,k⟩:=h
  have kl:kk (webD 0 4 aL 0):=by
   cases t with
   | lf i=>exact Y5 i (p:=λi x=>x=Str.ofString "Level" -> (∀m A r g,Wb (.lf i) m A r g->kk (webD m 4 A r))->kk (webD 0 4 aL 0)) (λh=>absurd h (by decide +kernel)) (λ_ k=>k _ _ _ _ .l) (λ_ h=>absurd h (by decide +kernel)) hc k
   | un b u=>exact absurd (show unC b=_ from hc) (by cases b <;> decide +kernel)
   | bi b u v=>exact absurd (show biC b=_ from hc) (by cases b <;> decide +kernel)
  simp only [wRet,wTup,Qb,wNil,List.length_nil,sz0,wC,List.length_cons,Nat.zero_add,Nat.reduceAdd,sz4,sz3,true_and]
  have sz:∀{n:Nat},n<=4->n<=sizeLine:=λh=>Nat.le_trans h (by decide)
  first | exact kl | exact ⟨sz (by decide),sz (by decide),sz (by decide),kl⟩ | exact ⟨sz (by decide),sz (by decide),sz (by decide),sz (by decide),kl⟩
abbrev Y4:Stmt:=Qa8 (top 20) 0
theorem Qb5:FnScope ["self"] ["self"] (Qe Y4):=⟨rfl,rfl,rfl,by decide +kernel,rfl,by decide +kernel,by decide +kernel⟩
def Qdc:Tg:={ own:=λi=>false,io:=[] }
theorem Gm (F:Fun K "web" "Upright.web" Y4 f fd):FnOk P w K mg base CX0 1 f fd ["self"] (spR K (gwrd d (Str.ofString "Upright"))):=by
 refine Yk (k:=0) (T:=Qdc) (ww:=wRet (wTup (Qb (wTup wNil) (Qb (wTup (Qb (wC (.int 0)) (Qb (wC (.int 0)) (Qb (wC (.int 1)) (Qb (wC (.int 1)) wNil))))) (Qb (wC (.int 0)) wNil))))) F Qb5 rfl (by decide) (λds kk h=>?_) (λcdv A outer s H E hr=>Qj (Qx (Qr (Qa (Qr Qf) (Qa (Qr (Qa Qd (Qa Qd (Qa Qd (Qa Qd Qf))))) (Qa Qd Qf)))))) (λds kk h=>?_)
 ·obtain ⟨t,rfl,_⟩:=h
  rfl
 ·obtain ⟨t,rfl,hc,ht,k⟩:=h
  have kl:kk (webD 0 4 aU 0):=by
   cases t with
   | lf i=>exact Y5 i (p:=λi x=>x=Str.ofString "Upright" -> (∀m A r g,Wb (.lf i) m A r g->kk (webD m 4 A r))->kk (webD 0 4 aU 0)) (λh=>absurd h (by decide +kernel)) (λh=>absurd h (by decide +kernel)) (λ_ _ k=>k _ _ _ _ .u) hc k
   | un b u=>exact absurd (show unC b=_ from hc) (by cases b <;> decide +kernel)
   | bi b u v=>exact absurd (show biC b=_ from hc) (by cases b <;> decide +kernel)
  simp only [wRet,wTup,Qb,wNil,List.length_nil,sz0,wC,List.length_cons,Nat.zero_add,Nat.reduceAdd,sz4,sz3,true_and]
  have sz:∀{n:Nat},n<=4->n<=sizeLine:=λh=>Nat.le_trans h (by decide)
  first | exact kl | exact ⟨sz (by decide),sz (by decide),sz (by decide),kl⟩ | exact ⟨sz (by decide),sz (by decide),sz (by decide),sz (by decide),kl⟩
abbrev Zi:Stmt:=Qa8 (top 21) 0
theorem Qdj:FnScope ["self"] ["self"] (Qe Zi):=⟨rfl,rfl,rfl,by decide +kernel,rfl,by decide +kernel,by decide +kernel⟩
def Qex:Tg:={ own:=λi=>false,io:=[] }
theorem Xl (F:Fun K "web" "Single.web" Zi f fd):FnOk P w K mg base CX0 1 f fd ["self"] (spR K (gwrd d (Str.ofString "Single"))):=by
 refine Yk (k:=0) (T:=Qex) (ww:=wRet (wTup (Qb (wTup (Qb (wTup (Qb (wC (.int 0)) (Qb (wC (.int 1)) (Qb (wC (.int 2)) (Qb (wC (.int 3)) wNil))))) wNil)) (Qb (wTup (Qb (wC (.int 0)) (Qb (wC (.int 1)) (Qb (wC (.int 2)) (Qb (wC (.int 3)) wNil))))) (Qb (wC (.int 0)) wNil))))) F Qdj rfl (by decide) (λds kk h=>?_) (λcdv A outer s H E hr=>Qj (Qx (Qr (Qa (Qr (Qa (Qr (Qa Qd (Qa Qd (Qa Qd (Qa Qd Qf))))) Qf)) (Qa (Qr (Qa Qd (Qa Qd (Qa Qd (Qa Qd Qf))))) (Qa Qd Qf)))))) (λds kk h=>?_)
 ·obtain ⟨t,rfl,_⟩:=h
  rfl
 ·obtain ⟨t,rfl,hc,ht,k⟩:=h
  have kl:kk (webD 1 4 aS 0):=by
   cases t with
   | lf i=>exact Y5 i (p:=λi x=>x=Str.ofString "Single" -> (∀m A r g,Wb (.lf i) m A r g->kk (webD m 4 A r))->kk (webD 1 4 aS 0)) (λ_ k=>k _ _ _ _ .s) (λh=>absurd h (by decide +kernel)) (λ_ h=>absurd h (by decide +kernel)) hc k
   | un b u=>exact absurd (show unC b=_ from hc) (by cases b <;> decide +kernel)
   | bi b u v=>exact absurd (show biC b=_ from hc) (by cases b <;> decide +kernel)
  simp only [wRet,wTup,Qb,wC,wNil,List.length_cons,List.length_nil,Nat.zero_add,Nat.reduceAdd,sz4,sz1,sz3,true_and]
  have sz:∀{n:Nat},n<=4->n<=sizeLine:=λh=>Nat.le_trans h (by decide)
  first | exact kl | exact ⟨sz (by decide),sz (by decide),sz (by decide),kl⟩ | exact ⟨sz (by decide),sz (by decide),sz (by decide),sz (by decide),kl⟩
abbrev Zj:Stmt:=Qa8 (top 22) 1
theorem Qdk:FnScope ["self"] ["self"] (Qe Zj):=⟨rfl,rfl,rfl,by decide +kernel,rfl,by decide +kernel,by decide +kernel⟩
def Qey:Tg:={ own:=λi=>false,io:=[] }
theorem Xm (F:Fun K "web" "Beside.web" Zj f fd) (B:Bn K mg) (Cb:Cal P w K mg base "beside" 5 ["one","other"] (spR K Zw)) (Wr:WrD P w K mg base g k) (hg:0<d->g=gwrd (d-1)) (h8:d<=3):FnOk P w K mg base CX0 (max k 6+1) f fd ["self"] (spR K (gwrd d (Str.ofString "Beside"))):=by
 refine Yk (T:=Qey) (ww:=wRet (Qn Zw (Qb (Gw isC g (wFld isC 0 (wVar 0))) (Qb (Gw isC g (wFld isC 1 (wVar 0))) wNil)))) F Qdk rfl (by decide) (λds kk h=>?_) (λcdv A outer s H E hr=>Qj (Qx (Qo Cb (hr.mono (by omega)) (Qa (U3 (isC:=isC) (g:=g) Wr (hr.mono (by omega)) (Qbx (isC:=isC) 0 (B.fl 0) (Qc 0))) (Qa (U3 (isC:=isC) (g:=g) Wr (hr.mono (by omega)) (Qbx (isC:=isC) 1 (B.fl 1) (Qc 0))) Qf))))) (λds kk h=>?_)
 ·obtain ⟨t,rfl,_⟩:=h
  rfl
 ·obtain ⟨t,rfl,hc,ht,k⟩:=h
  cases t with
  | lf i=>exact absurd hc (Y5 i (p:=λ_ x=>x≠Str.ofString "Beside") (by decide +kernel) (by decide +kernel) (λ_=>by decide +kernel))
  | un b t =>
   exact absurd (show unC b=_ from hc) (by cases b <;> decide +kernel)
  | bi b t u =>
   obtain rfl:b=false:=by
    have hc:biC b=_:=hc
    revert hc;cases b <;> decide +kernel
   have hG:=hg (by simp only [Tr.h] at ht;omega)
   have ht':t.h<=d-1:=by simp only [Tr.h] at ht;omega
   have hu':u.h<=d-1:=by simp only [Tr.h] at ht;omega
   have hi:isC (biC false)=true:=by decide +kernel
   simp only [wRet,Qn,Qb,Gw,wFld,env0,oD,List.map_cons,List.map_nil,List.length_cons,List.length_nil,Nat.zero_add,List.cons_append,List.nil_append,wNil,Qw,look,Qh,Qmx,hi,Nat.reduceAdd,Nat.le_refl,List.getElem?_cons_succ,List.getElem?_cons_zero,true_and]
   refine Uz hG ht' λm1 A1 r1 g1 W1=>Uz hG hu' λm2 A2 r2 g2 W2=>?_
   have h1:=m_le W1 (by omega)
   have h2:=m_le W2 (by omega)
   exact ⟨m1,A1,r1,g1,m2,A2,r2,g2,rfl,W1.ok.1,W2.ok.1,W2.ok.2.1,by omega,by omega,λm A' h G em eG O nm=>by rw [← Qh5 nm];exact k _ _ _ _ (.b W1 W2 em eG O)⟩
abbrev Z6:Stmt:=Qa8 (top 23) 1
theorem Qe0:FnScope ["self"] ["self"] (Qe Z6):=⟨rfl,rfl,rfl,by decide +kernel,rfl,by decide +kernel,by decide +kernel⟩
def Qhe:Tg:={ own:=λi=>false,io:=[] }
theorem Qao (F:Fun K "web" "Above.web" Z6 f fd) (B:Bn K mg) (Cb:Cal P w K mg base "above" 6 ["one","other"] (spR K Qa1)) (Wr:WrD P w K mg base g k) (hg:0<d->g=gwrd (d-1)) (h8:d<=3):FnOk P w K mg base CX0 (max k 6+1) f fd ["self"] (spR K (gwrd d (Str.ofString "Above"))):=by
 refine Yk (T:=Qhe) (ww:=wRet (Qn Qa1 (Qb (Gw isC g (wFld isC 0 (wVar 0))) (Qb (Gw isC g (wFld isC 1 (wVar 0))) wNil)))) F Qe0 rfl (by decide) (λds kk h=>?_) (λcdv A outer s H E hr=>Qj (Qx (Qo Cb (hr.mono (by omega)) (Qa (U3 (isC:=isC) (g:=g) Wr (hr.mono (by omega)) (Qbx (isC:=isC) 0 (B.fl 0) (Qc 0))) (Qa (U3 (isC:=isC) (g:=g) Wr (hr.mono (by omega)) (Qbx (isC:=isC) 1 (B.fl 1) (Qc 0))) Qf))))) (λds kk h=>?_)
 ·obtain ⟨t,rfl,_⟩:=h
  rfl
 ·obtain ⟨t,rfl,hc,ht,k⟩:=h
  cases t with
  | lf i=>exact absurd hc (Y5 i (p:=λ_ x=>x≠Str.ofString "Above") (by decide +kernel) (by decide +kernel) (λ_=>by decide +kernel))
  | un b t =>
   exact absurd (show unC b=_ from hc) (by cases b <;> decide +kernel)
  | bi b t u =>
   obtain rfl:b=true:=by
    have hc:biC b=_:=hc
    revert hc;cases b <;> decide +kernel
   have hG:=hg (by simp only [Tr.h] at ht;omega)
   have ht':t.h<=d-1:=by simp only [Tr.h] at ht;omega
   have hu':u.h<=d-1:=by simp only [Tr.h] at ht;omega
   have hi:isC (biC true)=true:=by decide +kernel
   simp only [wRet,Qn,Qb,Gw,wFld,env0,oD,List.map_cons,List.map_nil,List.length_cons,List.length_nil,Nat.zero_add,List.cons_append,List.nil_append,wNil,Qw,look,Qh,Qmx,hi,Nat.reduceAdd,Nat.le_refl,List.getElem?_cons_succ,List.getElem?_cons_zero,true_and]
   refine Uz hG ht' λm1 A1 r1 g1 W1=>Uz hG hu' λm2 A2 r2 g2 W2=>?_
   have h1:=m_le W1 (by omega)
   have h2:=m_le W2 (by omega)
   exact ⟨m1,A1,r1,g1,m2,A2,r2,g2,rfl,W1.ok.1,W2.ok.1,W2.ok.2.1,by omega,by omega,λm A' h G em eG O nm=>by rw [← Qh5 nm];exact k _ _ _ _ (.a W1 W2 em eG O)⟩
abbrev Zh:Stmt:=Qa8 (top 24) 1
theorem Qdi:FnScope ["self"] ["self"] (Qe Zh):=⟨rfl,rfl,rfl,by decide +kernel,rfl,by decide +kernel,by decide +kernel⟩
def Qew:Tg:={ own:=λi=>false,io:=[] }
theorem Xk (F:Fun K "web" "Turned.web" Zh f fd) (B:Bn K mg) (Cb:Cal P w K mg base "quarter" 3 ["one"] (spR K Yp)) (Wr:WrD P w K mg base g k) (hg:0<d->g=gwrd (d-1)) (h8:d<=3):FnOk P w K mg base CX0 (max k 6+1) f fd ["self"] (spR K (gwrd d (Str.ofString "Turned"))):=by
 refine Yk (T:=Qew) (ww:=wRet (Qn Yp (Qb (Gw isC g (wFld isC 0 (wVar 0))) wNil))) F Qdi rfl (by decide) (λds kk h=>?_) (λcdv A outer s H E hr=>Qj (Qx (Qo Cb (hr.mono (by omega)) (Qa (U3 (isC:=isC) (g:=g) Wr (hr.mono (by omega)) (Qbx (isC:=isC) 0 (B.fl 0) (Qc 0))) Qf)))) (λds kk h=>?_)
 ·obtain ⟨t,rfl,_⟩:=h
  rfl
 ·obtain ⟨t,rfl,hc,ht,k⟩:=h
  cases t with
  | lf i=>exact absurd hc (Y5 i (p:=λ_ x=>x≠Str.ofString "Turned") (by decide +kernel) (by decide +kernel) (λ_=>by decide +kernel))
  | bi b t u =>
   exact absurd (show biC b=_ from hc) (by cases b <;> decide +kernel)
  | un b t =>
   obtain rfl:b=false:=by
    have hc:unC b=_:=hc
    revert hc;cases b <;> decide +kernel
   have hG:=hg (by simp only [Tr.h] at ht;omega)
   have ht':t.h<=d-1:=by simp only [Tr.h] at ht;omega
   have hi:isC (unC false)=true:=by decide +kernel
   simp only [wRet,Qn,Qb,Gw,wFld,env0,oD,List.map_cons,List.map_nil,List.length_cons,List.length_nil,Nat.zero_add,List.cons_append,List.nil_append,wNil,Qw,look,Qh,Qmx,hi,List.getElem?_cons_zero,true_and]
   refine ⟨by decide,Uz hG ht' λm A r g' W=>?_⟩
   have hm:=m_le W (by omega)
   exact ⟨m,A,r,g',rfl,W.ok.1,by omega,λA' h O nm _=>by rw [← Qh5 nm];exact k _ _ _ _ (.t W O)⟩
abbrev Yo:Stmt:=Qa8 (top 25) 1
theorem Qbf:FnScope ["self"] ["self"] (Qe Yo):=⟨rfl,rfl,rfl,by decide +kernel,rfl,by decide +kernel,by decide +kernel⟩
def Qb1:Tg:={ own:=λi=>false,io:=[] }
theorem Uv (F:Fun K "web" "Mirrored.web" Yo f fd) (B:Bn K mg) (Cb:Cal P w K mg base "named_anew" 2 ["web"] (spR K Qv)) (Cm:Cal P w K mg base "mirrored" 1 ["web"] (spR K Vd)) (Wr:WrD P w K mg base g k) (hg:0<d->g=gwrd (d-1)) (h8:d<=3):FnOk P w K mg base CX0 (max k 6+1) f fd ["self"] (spR K (gwrd d (Str.ofString "Mirrored"))):=by
 refine Yk (T:=Qb1) (ww:=wRet (Qn Qv (Qb (Qn Vd (Qb (Gw isC g (wFld isC 0 (wVar 0))) wNil)) wNil))) F Qbf rfl (by decide) (λds kk h=>?_) (λcdv A outer s H E hr=>Qj (Qx (Qo Cb (hr.mono (by omega)) (Qa (Qo Cm (hr.mono (by omega)) (Qa (U3 (isC:=isC) (g:=g) Wr (hr.mono (by omega)) (Qbx (isC:=isC) 0 (B.fl 0) (Qc 0))) Qf)) Qf)))) (λds kk h=>?_)
 ·obtain ⟨t,rfl,_⟩:=h
  rfl
 ·obtain ⟨t,rfl,hc,ht,k⟩:=h
  cases t with
  | lf i=>exact absurd hc (Y5 i (p:=λ_ x=>x≠Str.ofString "Mirrored") (by decide +kernel) (by decide +kernel) (λ_=>by decide +kernel))
  | bi b t u =>
   exact absurd (show biC b=_ from hc) (by cases b <;> decide +kernel)
  | un b t =>
   obtain rfl:b=true:=by
    have hc:unC b=_:=hc
    revert hc;cases b <;> decide +kernel
   have hG:=hg (by simp only [Tr.h] at ht;omega)
   have ht':t.h<=d-1:=by simp only [Tr.h] at ht;omega
   have hi:isC (unC true)=true:=by decide +kernel
   simp only [wRet,Qn,Qb,Gw,wFld,env0,oD,List.map_cons,List.map_nil,List.length_cons,List.length_nil,Nat.zero_add,List.cons_append,List.nil_append,wNil,Qw,look,Qh,Qmx,hi,List.getElem?_cons_zero,true_and]
   refine ⟨by decide,Uz hG ht' λm A r g' W=>?_⟩
   have hm:=m_le W (by omega)
   exact ⟨m,A,r,rfl,by omega,m,4,_,r,rfl,by omega,by decide,k _ _ _ _ (.m W)⟩
structure HW (K:PySem.W.Frag) (x q:Str) (st:Stmt):Prop where
 ex:∃C f fd,atN K x C/\ClsD K C/\Meth K C "web" f/\Fun K "web" q st f fd/\Z2 K fd ["self"] []
theorem Qmy (h:isC x=true):x=Str.ofString "Level" \/ x=Str.ofString "Upright" \/ x=Str.ofString "Single" \/ x=Str.ofString "Beside" \/ x=Str.ofString "Above" \/ x=Str.ofString "Turned" \/ x=Str.ofString "Mirrored":=by
 simpa only [isC,Bool.or_eq_true,decide_eq_true_eq,or_assoc] using h
theorem J6 {q:Str} {g:GA} (h:HW K x q st) (hc:atN K x C) (F:∀f fd,Fun K "web" q st f fd->FnOk P w K mg base CX0 k f fd ["self"] (spR K g)):ClsD K C/\∃f fd,Meth K C "web" f/\FnOk P w K mg base CX0 k f fd ["self"] (spR K g)/\Z2 K fd ["self"] []:=by
 obtain ⟨C',f,fd,h1,h2,h3,h4,h5⟩:=h.ex
 obtain rfl:=Ug hc h1
 exact ⟨h2,f,fd,h3,F f fd h4,h5⟩
theorem wrN (B:Bn K mg) (Cn:Cal P w K mg base "named_anew" 2 ["web"] (spR K Qv)) (Cm:Cal P w K mg base "mirrored" 1 ["web"] (spR K Vd)) (Cbe:Cal P w K mg base "beside" 5 ["one","other"] (spR K Zw)) (Cq:Cal P w K mg base "quarter" 3 ["one"] (spR K Yp)) (Ca:Cal P w K mg base "above" 6 ["one","other"] (spR K Qa1)) (h_Level:HW K "Level" "Level.web" Z5) (h_Upright:HW K "Upright" "Upright.web" Y4) (h_Single:HW K "Single" "Single.web" Zi) (h_Beside:HW K "Beside" "Beside.web" Zj) (h_Above:HW K "Above" "Above.web" Z6) (h_Turned:HW K "Turned" "Turned.web" Zh) (h_Mirrored:HW K "Mirrored" "Mirrored.web" Yo):WrN P w K mg base:=by
 have n0:WrD P w K mg base (λ_ _ _=>False) 0:=λx C hx hc=>by
  have no:∀f fd,FnOk P w K mg base CX0 0 f fd ["self"] (spR K λ_ _=>False):=λf fd=>⟨λvs H Q E h=>by obtain ⟨ds,_,_,_,h,_⟩:=h;exact h.elim,λA outer s H args us vs Q E _ _ _ _ h=>by obtain ⟨ds,_,_,_,h,_⟩:=h;exact h.elim⟩
  rcases Qmy hx with rfl | rfl | rfl | rfl | rfl | rfl | rfl
  ·exact J6 h_Level hc λf fd _=>no f fd
  ·exact J6 h_Upright hc λf fd _=>no f fd
  ·exact J6 h_Single hc λf fd _=>no f fd
  ·exact J6 h_Beside hc λf fd _=>no f fd
  ·exact J6 h_Above hc λf fd _=>no f fd
  ·exact J6 h_Turned hc λf fd _=>no f fd
  ·exact J6 h_Mirrored hc λf fd _=>no f fd
 have st:∀d,d<=3->WrD P w K mg base (gwrd d) (d+7):=λd=>by
  induction d with
  | zero =>
   intro _ x C hx hc
   rcases Qmy hx with rfl | rfl | rfl | rfl | rfl | rfl | rfl
   ·exact J6 h_Level hc λf fd F=>(Qan F).mono (by omega)
   ·exact J6 h_Upright hc λf fd F=>(Gm F).mono (by omega)
   ·exact J6 h_Single hc λf fd F=>(Xl F).mono (by omega)
   ·exact J6 h_Beside hc λf fd F=>(Xm F B Cbe n0 (λh=>absurd h (by decide)) (by decide)).mono (by omega)
   ·exact J6 h_Above hc λf fd F=>(Qao F B Ca n0 (λh=>absurd h (by decide)) (by decide)).mono (by omega)
   ·exact J6 h_Turned hc λf fd F=>(Xk F B Cq n0 (λh=>absurd h (by decide)) (by decide)).mono (by omega)
   ·exact J6 h_Mirrored hc λf fd F=>(Uv F B Cn Cm n0 (λh=>absurd h (by decide)) (by decide)).mono (by omega)
  | succ d ih =>
   intro hd x C hx hc
   rcases Qmy hx with rfl | rfl | rfl | rfl | rfl | rfl | rfl
   ·exact J6 h_Level hc λf fd F=>(Qan F).mono (by omega)
   ·exact J6 h_Upright hc λf fd F=>(Gm F).mono (by omega)
   ·exact J6 h_Single hc λf fd F=>(Xl F).mono (by omega)
   ·exact J6 h_Beside hc λf fd F=>(Xm F B Cbe (ih (by omega)) (λ_=>rfl) hd).mono (by omega)
   ·exact J6 h_Above hc λf fd F=>(Qao F B Ca (ih (by omega)) (λ_=>rfl) hd).mono (by omega)
   ·exact J6 h_Turned hc λf fd F=>(Xk F B Cq (ih (by omega)) (λ_=>rfl) hd).mono (by omega)
   ·exact J6 h_Mirrored hc λf fd F=>(Uv F B Cn Cm (ih (by omega)) (λ_=>rfl) hd).mono (by omega)
 intro x C hx hc
 obtain ⟨h1,f,fd,h2,h3,h4⟩:=st 3 (by decide) x C hx hc
 exact ⟨h1,f,fd,h2,h3.mono (by decide),h4⟩
def Qm1 (d:Nat):GA:=λds k=>∃(l:Bool) (t:Tr) (m:Nat) (A:Nat->Int) (r:Int) (g:Nat->Nat),ds=[tD l t]/\t.h<=d/\Wb t m A r g/\k (webD m 4 A r)
def Uc:GA:=Qm1 3
abbrev Yg:Stmt:=top 40
theorem J9:FnScope ["_law_tree_here","_law_ends","_law_one","_law_crossings","_law_rim"] ["_law_tree_here"] (Qe Yg):=⟨rfl,rfl,rfl,by decide +kernel,rfl,by decide +kernel,by decide +kernel⟩
def Qbm:Tg:={ own:=λi=>i == 1 || i == 2 || i == 3 || i == 4,io:=[] }
def Yd (GR:GA):WS:=(wSeq (wIf (wBl (wBin dEq (Qn dLen (Qb (wVar 0) wNil)) (wC (.int 1)))) (wSeq (wSet 1 (wBin dIx (U8 (Str.ofString "single") (Str.ofString "level") (Str.ofString "upright") (wTup (Qb (wC (.int 0)) (Qb (wC (.int 1)) (Qb (wC (.int 2)) (Qb (wC (.int 3)) wNil))))) (wTup (Qb (wC (.int 0)) (Qb (wC (.int 1)) (Qb (wC (.int 1)) (Qb (wC (.int 0)) wNil))))) (wTup (Qb (wC (.int 0)) (Qb (wC (.int 0)) (Qb (wC (.int 1)) (Qb (wC (.int 1)) wNil)))))) (wBin dIx (wVar 0) (wC (.int 0)))))
 (wRet (Q0 (wTup (Qb (wBin Qqt (wTup (Qb (wTup (Qb (wC (.int 0)) (Qb (wC (.int 1)) (Qb (wC (.int 2)) (Qb (wC (.int 3)) wNil))))) wNil)) (Qn dInt (Qb (wBin dEq (wBin dIx (wVar 0) (wC (.int 0))) (wC (.str (Str.ofString "single")))) wNil))) (Qb (wVar 1) (Qb (wC (.int 0)) wNil))))))) Jh)
 (wSeq (wSet 2 (Qn GR (Qb (wBin dIx (wVar 0) (wC (.int 1))) wNil)))
 (wSeq (wIf (wBl (wBin dEq (wBin dIx (wVar 0) (wC (.int 0))) (wC (.str (Str.ofString "mirrored"))))) (wSeq (wSet 3 (Qf1 (wBin dIx (wVar 2) (wC (.int 0)))))
 (wSet 2 (Q0 (wTup (Qb (Qn Zy (Qb (wVar 3) wNil)) (Qb (wBin dIx (wVar 2) (wC (.int 1))) (Qb (wBin dIx (wVar 2) (wC (.int 2))) wNil))))))) Jh)
 (wSeq (wSet 4 (wLst (Qb (wTup (Qb (wUn dNeg (wC (.int 1))) (Qb (wC (.int 0)) wNil))) (Qb (wTup (Qb (wUn dNeg (wC (.int 1))) (Qb (wC (.int 1)) wNil))) (Qb (wTup (Qb (wUn dNeg (wC (.int 1))) (Qb (wC (.int 2)) wNil))) (Qb (wTup (Qb (wUn dNeg (wC (.int 1))) (Qb (wC (.int 3)) wNil))) wNil))))))
 (wSeq (wIf (wBl (wBin dEq (wBin dIx (wVar 0) (wC (.int 0))) (wC (.str (Str.ofString "turned"))))) (wSet 4 (wLst (Qb (wTup (Qb (wUn dNeg (wC (.int 1))) (Qb (wC (.int 3)) wNil))) (Qb (wTup (Qb (wUn dNeg (wC (.int 1))) (Qb (wC (.int 0)) wNil))) (Qb (wTup (Qb (wUn dNeg (wC (.int 1))) (Qb (wC (.int 1)) wNil))) (Qb (wTup (Qb (wUn dNeg (wC (.int 1))) (Qb (wC (.int 2)) wNil))) wNil)))))) Jh)
 (wSeq (wIf (wBl (wBin dEq (Qn dLen (Qb (wVar 0) wNil)) (wC (.int 2)))) (wRet (Qn Js (Qb (Qn dLen (Qb (wBin dIx (wVar 2) (wC (.int 0))) wNil)) (Qb (wVar 4) (Qb (wBin dIx (wVar 2) (wC (.int 2))) (Qb (Qn Jt (Qb (wVar 2) wNil)) wNil)))))) Jh)
 (wSeq (wIf (wBl (wBin dEq (wBin dIx (wVar 0) (wC (.int 0))) (wC (.str (Str.ofString "beside"))))) (wRet (Qn Yy (Qb (wVar 2) (Qb (Qn GR (Qb (wBin dIx (wVar 0) (wC (.int 2))) wNil)) (Qb (wLst (Qb (wTup (Qb (wC (.int 3)) (Qb (wC (.int 0)) wNil))) (Qb (wTup (Qb (wC (.int 2)) (Qb (wC (.int 1)) wNil))) wNil))) (Qb (wLst (Qb (wTup (Qb (wUn dNeg (wC (.int 1))) (Qb (wC (.int 0)) wNil))) (Qb (wTup (Qb (wUn dNeg (wC (.int 1))) (Qb (wC (.int 1)) wNil))) (Qb (wTup (Qb (wUn dNeg (wC (.int 2))) (Qb (wC (.int 2)) wNil))) (Qb (wTup (Qb (wUn dNeg (wC (.int 2))) (Qb (wC (.int 3)) wNil))) wNil))))) wNil)))))) Jh)
 (wRet (Qn Yy (Qb (wVar 2) (Qb (Qn GR (Qb (wBin dIx (wVar 0) (wC (.int 2))) wNil)) (Qb (wLst (Qb (wTup (Qb (wC (.int 1)) (Qb (wC (.int 0)) wNil))) (Qb (wTup (Qb (wC (.int 2)) (Qb (wC (.int 3)) wNil))) wNil))) (Qb (wLst (Qb (wTup (Qb (wUn dNeg (wC (.int 1))) (Qb (wC (.int 0)) wNil))) (Qb (wTup (Qb (wUn dNeg (wC (.int 2))) (Qb (wC (.int 1)) wNil))) (Qb (wTup (Qb (wUn dNeg (wC (.int 2))) (Qb (wC (.int 2)) wNil))) (Qb (wTup (Qb (wUn dNeg (wC (.int 1))) (Qb (wC (.int 3)) wNil))) wNil))))) wNil)))))))))))))
theorem Qh2 (B:Bn K mg) (C__law_ties:Cal P w K mg base "_law_ties" 2 ["_law_web"] (spR K Jt)) (C__law_built:Cal P w K mg base "_law_built" 1 ["_law_many","_law_rim","_law_rings","_law_ties_here"] (spR K Js)) (C__law_both:Cal P w K mg base "_law_both" 3 ["_law_one","_law_other","_law_seam","_law_rim"] (spR K Yy)) (C__law_due:Cal P w K mg base "_law_due" j ["_law_tree_here"] (spR K GR)):∀(cdv:Value) (A:Around) (outer:List PySem.Env) (s:Shared) (H:Hp) (E:XK),Room (max j 3) (A.deeper (envOfC "_law_due" (Qe Yg) s.heap.objs.size f cdv))->SVs (cxOf CX0 P w K mg base ["_law_tree_here","_law_ends","_law_one","_law_crossings","_law_rim"] "_law_due" (Qe Yg) f cdv A outer s H E).nox Qbm (Qy Yg) (Yd GR):=λcdv A outer s H E hr =>
  (Qg (Za (Jx (Ub hr.units) (Je Vk B.nb_len Zz (Qa (Qc 0) Qf)) Qd) (Qg (Q4 (i:=1) (Qs (Qt (Qp hr)) (Qm5 (Qr (Qa Qd (Qa Qd (Qa Qd (Qa Qd Qf))))) (Qr (Qa Qd (Qa Qd (Qa Qd (Qa Qd Qf))))) (Qr (Qa Qd (Qa Qd (Qa Qd (Qa Qd Qf)))))) (Qs (Qt (Qp hr)) (Qc 0) Qd)) J9.nd)
  (Qj (Qx (Q3 (Qr (Qa (Ja Qp6 (Qr (Qa (Qr (Qa Qd (Qa Qd (Qa Qd (Qa Qd Qf))))) Qf)) (Jl Qtl B.nb_int Qoq (Qa (Qte (Ub hr.units) (Qs (Qt (Qp hr)) (Qc 0) Qd) Yr) Qf))) (Qa (Qc 1) (Qa Qd Qf)))))))) Jc)
  (Qg (Q4 (i:=2) (Qo C__law_due (hr.mono (by omega)) (Qa (Qs (Qt (Qp hr)) (Qc 0) Qd) Qf)) J9.nd)
  (Qg (Za (Jx (Ub hr.units) (Qs (Qt (Qp hr)) (Qc 0) Qd) Yr) (Qg (Qll (j:=3) (Qs (Qt (Qp hr)) (Qc 2) Qd) (Qky (Qe Yg) ["_law_tree_here","_law_ends","_law_one","_law_crossings","_law_rim"] (by decide +kernel)) J9.nd)
  (Qj (Q4 (i:=2) (Q3 (Qr (Qa (Jl J8 B.nb_tuple Jz (Qa (Qc 3) Qf)) (Qa (Qs (Qt (Qp hr)) (Qc 2) Qd) (Qa (Qs (Qt (Qp hr)) (Qc 2) Qd) Qf))))) J9.nd))) Jc)
  (Qg (Q4 (i:=4) (Zx (Qa (Qr (Qa (Vg Ye Qd) (Qa Qd Qf))) (Qa (Qr (Qa (Vg Ye Qd) (Qa Qd Qf))) (Qa (Qr (Qa (Vg Ye Qd) (Qa Qd Qf))) (Qa (Qr (Qa (Vg Ye Qd) (Qa Qd Qf))) Qf))))) J9.nd)
  (Qg (Za (Jx (Ub hr.units) (Qs (Qt (Qp hr)) (Qc 0) Qd) Yr) (Qj (Q4 (i:=4) (Zx (Qa (Qr (Qa (Vg Ye Qd) (Qa Qd Qf))) (Qa (Qr (Qa (Vg Ye Qd) (Qa Qd Qf))) (Qa (Qr (Qa (Vg Ye Qd) (Qa Qd Qf))) (Qa (Qr (Qa (Vg Ye Qd) (Qa Qd Qf))) Qf))))) J9.nd)) Jc)
  (Qg (Za (Jx (Ub hr.units) (Je Vk B.nb_len Zz (Qa (Qc 0) Qf)) Qd) (Qj (Qx (Qo C__law_built (hr.mono (by omega)) (Qa (Je Vk B.nb_len Zz (Qa (Qs (Qt (Qp hr)) (Qc 2) Qd) Qf)) (Qa (Qc 4) (Qa (Qs (Qt (Qp hr)) (Qc 2) Qd) (Qa (Qo C__law_ties (hr.mono (by omega)) (Qa (Qc 2) Qf)) Qf))))))) Jc)
  (Qg (Za (Jx (Ub hr.units) (Qs (Qt (Qp hr)) (Qc 0) Qd) Yr) (Qj (Qx (Qo C__law_both (hr.mono (by omega)) (Qa (Qc 2) (Qa (Qo C__law_due (hr.mono (by omega)) (Qa (Qs (Qt (Qp hr)) (Qc 0) Qd) Qf)) (Qa (Zx (Qa (Qr (Qa Qd (Qa Qd Qf))) (Qa (Qr (Qa Qd (Qa Qd Qf))) Qf))) (Qa (Zx (Qa (Qr (Qa (Vg Ye Qd) (Qa Qd Qf))) (Qa (Qr (Qa (Vg Ye Qd) (Qa Qd Qf))) (Qa (Qr (Qa (Vg Ye Qd) (Qa Qd Qf))) (Qa (Qr (Qa (Vg Ye Qd) (Qa Qd Qf))) Qf))))) Qf))))))) Jc)
  (Qj (Qx (Qo C__law_both (hr.mono (by omega)) (Qa (Qc 2) (Qa (Qo C__law_due (hr.mono (by omega)) (Qa (Qs (Qt (Qp hr)) (Qc 0) Qd) Qf)) (Qa (Zx (Qa (Qr (Qa Qd (Qa Qd Qf))) (Qa (Qr (Qa Qd (Qa Qd Qf))) Qf))) (Qa (Zx (Qa (Qr (Qa (Vg Ye Qd) (Qa Qd Qf))) (Qa (Qr (Qa (Vg Ye Qd) (Qa Qd Qf))) (Qa (Qr (Qa (Vg Ye Qd) (Qa Qd Qf))) (Qa (Qr (Qa (Vg Ye Qd) (Qa Qd Qf))) Qf))))) Qf))))))))))))))
theorem Qtu {a b:Str} {x:D}:valD [(Sum.inr a,x),(.inr b,y),(.inr c,z)] (.inr a:Key)=some x:=by simp [valD]
theorem Qtt {a b:Str} {x:D} (h:a≠b):valD [(Sum.inr a,x),(.inr b,y),(.inr c,z)] (.inr b:Key)=some y:=by simp [valD,h]
theorem Qts {a b:Str} {x:D} (h:a≠c) (h2:b≠c):valD [(Sum.inr a,x),(.inr b,y),(.inr c,z)] (.inr c:Key)=some z:=by simp [valD,h,h2]
theorem n1:Str.ofString "single" ≠ Str.ofString "level":=by decide +kernel
theorem n2:Str.ofString "single" ≠ Str.ofString "upright":=by decide +kernel
theorem n3:Str.ofString "level" ≠ Str.ofString "upright":=by decide +kernel
theorem w0 (m e:Nat) (A:Nat->Int) (r:Int) (kq:D->Prop):dIx (webD m e A r) (.int 0) (λd=>dLen [d] kq)=kq (.int m):=by
 show kq (.int (((List.range m).map λk=>D.tup ((List.range 4).map λj=>.int (A (4*k+j)))).length:Nat))=_
 rw [List.length_map,List.length_range]
theorem w2 (m e:Nat) (A:Nat->Int) (r:Int) (kq:D->Prop):dIx (webD m e A r) (.int 2) kq=kq (.int r):=rfl
theorem Qt5:(List.range 4).map (λj=>sd (M.sp m (4*m+j)))=[.tup [.int (-1),.int 0],.tup [.int (-1),.int 1],.tup [.int (-1),.int 2],.tup [.int (-1),.int 3]]:=by
 show [sd (M.sp m (4*m+0)),sd (M.sp m (4*m+1)),sd (M.sp m (4*m+2)),sd (M.sp m (4*m+3))]=_
 rw [M.Z3,M.Z3,M.Z3,M.Z3]
 rfl
theorem Qgz (F:Fun K "_law_due" "_law_due" Yg f fd) (B:Bn K mg) (C1:Cal P w K mg base "_law_ties" 2 ["_law_web"] (spR K Jt)) (C2:Cal P w K mg base "_law_built" 1 ["_law_many","_law_rim","_law_rings","_law_ties_here"] (spR K Js)) (C3:Cal P w K mg base "_law_both" 3 ["_law_one","_law_other","_law_seam","_law_rim"] (spR K Yy)) (C4:Cal P w K mg base "_law_due" j ["_law_tree_here"] (spR K GR)) (hd:0<d->GR=Qm1 (d-1)) (h3:d<=3):FnOk P w K mg base CX0 (max j 3+1) f fd ["_law_tree_here"] (spR K (Qm1 d)):=by
 refine Yk (T:=Qbm) F J9 rfl (by decide) (λds kk h=>?_) (Qh2 B C1 C2 C3 C4) (λds kk h=>?_)
 ·obtain ⟨l,t,m,A,r,g,rfl,_⟩:=h
  rfl
 ·obtain ⟨l,t,m,A,r,h,rfl,ht,W,k⟩:=h
  have sz:∀{n:Nat},n<=4->n<=sizeLine:=λh=>Nat.le_trans h (by decide)
  cases W with
  | s =>
   simp only [Yd,wSeq,wIf,env0,tD,lfW,List.map_cons,List.map_nil,List.length_cons,List.length_nil,Nat.zero_add,Nat.reduceAdd,List.replicate,List.cons_append,List.nil_append,wSet,wBin,U8,wTup,Qb,wC,wNil,sz4,D.pure,Ql,Bool.and_self,wRet,Q0,sz1,Qn,sz3,Bool.and_true,true_and,Qw,Jh,wLst,wUn,sz2,Qac,Int.reduceNeg,r_bl,look,List.set_cons_succ,List.set_cons_zero,Qh,ixM,Y1,List.getElem?_cons_zero,G1,decide_true,Qaf,reduceIte,Qae,Qtu,Zo,List.getElem?_cons_succ,ofS,String.reduceEq,decide_false,Jn,Bool.false_eq_true,lenM,Xq,Y0]
   refine (if_pos (by decide)).mpr ?_
   refine ⟨rfl,.inl ⟨rfl,rfl,k⟩⟩
  | l =>
   simp only [Yd,wSeq,wIf,env0,tD,lfW,List.map_cons,List.map_nil,List.length_cons,List.length_nil,Nat.zero_add,Nat.reduceAdd,List.replicate,List.cons_append,List.nil_append,wSet,wBin,U8,wTup,Qb,wC,wNil,sz4,D.pure,Ql,Bool.and_self,wRet,Q0,sz1,Qn,sz3,Bool.and_true,true_and,Qw,Jh,wLst,wUn,sz2,Qac,Int.reduceNeg,r_bl,look,List.set_cons_succ,List.set_cons_zero,Qh,ixM,Y1,List.getElem?_cons_zero,G1,ofS,String.reduceEq,decide_false,Qaf,Bool.false_eq_true,reduceIte,Qae,Qtt n1,Zo,List.getElem?_cons_succ,Jn,lenM,Xq,Y0]
   refine (if_pos (by decide)).mpr ?_
   refine ⟨rfl,.inr ⟨rfl,rfl,k⟩⟩
  | u =>
   simp only [Yd,wSeq,wIf,env0,tD,lfW,List.map_cons,List.map_nil,List.length_cons,List.length_nil,Nat.zero_add,Nat.reduceAdd,List.replicate,List.cons_append,List.nil_append,wSet,wBin,U8,wTup,Qb,wC,wNil,sz4,D.pure,Ql,Bool.and_self,wRet,Q0,sz1,Qn,sz3,Bool.and_true,true_and,Qw,Jh,wLst,wUn,sz2,Qac,Int.reduceNeg,r_bl,look,List.set_cons_succ,List.set_cons_zero,Qh,ixM,Y1,List.getElem?_cons_zero,G1,ofS,String.reduceEq,decide_false,Qaf,Bool.false_eq_true,reduceIte,Qae,Qts n2 n3,Zo,List.getElem?_cons_succ,Jn,lenM,Xq,Y0]
   refine (if_pos (by decide)).mpr ?_
   refine ⟨rfl,.inr ⟨rfl,rfl,k⟩⟩
  | @t t m A A' r g h W O =>
   have hG:=hd (by simp only [Tr.h] at ht;omega)
   subst hG
   have hm:=m_le W (by simp only [Tr.h] at ht;omega)
   simp only [Yd,wSeq,wIf,env0,tD,unW,List.map_cons,List.map_nil,List.length_cons,List.length_nil,Nat.zero_add,Nat.reduceAdd,List.replicate,List.cons_append,List.nil_append,wSet,wBin,U8,wTup,Qb,wC,wNil,sz4,D.pure,Ql,Bool.and_self,wRet,Q0,sz1,Qn,sz3,Bool.and_true,true_and,Qw,Jh,wLst,wUn,sz2,Qac,Int.reduceNeg,r_bl,look,List.set_cons_succ,List.set_cons_zero,Qh,ixM,Y1,List.getElem?_cons_zero,G1,ofS,String.reduceEq,decide_false,Qaf,Bool.false_eq_true,reduceIte,Qae,Zo,List.getElem?_cons_succ,Jn,lenM,Xq,decide_true,Y0]
   refine (if_neg (by decide)).mpr ⟨l,t,m,A,r,g,rfl,by simp only [Tr.h] at ht;omega,W,(if_pos (by decide)).mpr ?_⟩
   simp only [Int.reduceNeg,w2,w0]
   refine ⟨m,4,A,r,g,rfl,by omega,by omega,W.ok.1,λT t1 t2 t3 t4=>?_⟩
   refine ⟨m,4,λi=>M.sp m (shf m 3 i),A',h,r,T,by rw [Qt2],by omega,by omega,λi hi=>by show M.sp m (shf m 3 i)=_;rw [V5 hi],λi j hi hj z=>O.inj i j hi hj (M.Qgb z),O.tw,λi hi=>?_,k⟩
   show _=some (sd (M.sp m (shf m 3 (h i))))
   rw [O.map i hi]
   exact t3 _ (O.mem i hi)
  | @m t m A r g W =>
   have hG:=hd (by simp only [Tr.h] at ht;omega)
   subst hG
   have hm:=m_le W (by simp only [Tr.h] at ht;omega)
   simp only [Yd,wSeq,wIf,env0,tD,unW,List.map_cons,List.map_nil,List.length_cons,List.length_nil,Nat.zero_add,Nat.reduceAdd,List.replicate,List.cons_append,List.nil_append,wSet,wBin,U8,wTup,Qb,wC,wNil,sz4,D.pure,Ql,Bool.and_self,wRet,Q0,sz1,Qn,sz3,Bool.and_true,true_and,Qw,Jh,wLst,wUn,sz2,Qac,Int.reduceNeg,r_bl,look,List.set_cons_succ,List.set_cons_zero,Qh,ixM,Y1,List.getElem?_cons_zero,G1,ofS,String.reduceEq,decide_false,Qaf,Bool.false_eq_true,reduceIte,Qae,Zo,List.getElem?_cons_succ,Jn,lenM,Xq,decide_true,Y0]
   refine (if_neg (by decide)).mpr ⟨l,t,m,A,r,g,rfl,by simp only [Tr.h] at ht;omega,W,?_⟩
   have hw:webD m 4 A r=.tup [.tup ((List.range m).map (cro A)),.tup ((List.range 4).map λj=>.int (A (4*m+j))),.int r]:=rfl
   have hr:Ql (((List.range m).map (cro A)).map rotD)=true:=by rw [List.map_map];exact Qi λ_ _=>rfl
   have he:Ql ((List.range 4).map λj=>D.int (A (4*m+j)))=true:=rfl
   rw [hw]
   simp only [Qf1,wBin,wC,Int.reduceNeg,Qw,look,List.set_cons_succ,List.set_cons_zero,Qh,Zd,Zo,List.getElem?_cons_succ,List.getElem?_cons_zero,Y1,D.pure,Bool.and_true,Y0,Vy,Qad]
   refine ⟨(List.range m).map λk=>(.int (A (4*k+0)),.int (A (4*k+1)),.int (A (4*k+2)),.int (A (4*k+3))),by rw [List.map_map];rfl,by rw [List.map_map];exact Qi λ_ _=>rfl,by rw [List.length_map,List.length_range];exact Nat.lt_of_le_of_lt hm (by decide),?_⟩
   have eq:((List.range m).map λk=>((.int (A (4*k+0)),.int (A (4*k+1)),.int (A (4*k+2)),.int (A (4*k+3))):D × D × D × D)).map q4r=((List.range m).map (cro A)).map rotD:=by rw [List.map_map,List.map_map];rfl
   rw [eq]
   simp only [hr,he,Bool.and_self,Qjs,Int.reduceNeg,ixM,Zo,List.getElem?_cons_succ,Y1,List.getElem?_cons_zero,Qh,G1,ofS,String.reduceEq,decide_false,Jn,Bool.false_eq_true,reduceIte,lenM,List.length_cons,List.length_nil,Nat.zero_add,Nat.reduceAdd,Xq,true_and]
   have tw:=Qoh W.ok.1
   refine (if_pos (by decide)).mpr ⟨m,4,_,r,_,rfl,by omega,by omega,tw,λT t1 t2 t3 t4=>?_⟩
   exact ⟨m,4,λi=>M.sp m i,_,_,r,T,by rw [Qt5,List.length_map,List.length_map,List.length_range],by omega,by omega,λi hi=>rfl,λi j hi hj z=>M.Qgb z,tw,λi hi=>t3 i hi,k⟩
  | @b t u m1 m2 m A1 A2 A' r1 r2 g1 g2 h G W1 W2 em eG O =>
   have hG:=hd (by simp only [Tr.h] at ht;omega)
   subst hG
   have h1:=m_le W1 (by simp only [Tr.h] at ht;omega)
   have h2:=m_le W2 (by simp only [Tr.h] at ht;omega)
   simp only [Yd,wSeq,wIf,env0,tD,biW,List.map_cons,List.map_nil,List.length_cons,List.length_nil,Nat.zero_add,Nat.reduceAdd,List.replicate,List.cons_append,List.nil_append,wSet,wBin,U8,wTup,Qb,wC,wNil,sz4,D.pure,Ql,Bool.and_self,wRet,Q0,sz1,Qn,sz3,Bool.and_true,true_and,Qw,Jh,wLst,wUn,sz2,Qac,Int.reduceNeg,r_bl,look,List.set_cons_succ,List.set_cons_zero,Qh,ixM,Y1,List.getElem?_cons_zero,G1,ofS,String.reduceEq,decide_false,Qaf,Bool.false_eq_true,reduceIte,Qae,Zo,List.getElem?_cons_succ,decide_true,Jn,lenM,Xq,Y0]
   refine (if_neg (by decide)).mpr ⟨l,t,m1,A1,r1,g1,rfl,by simp only [Tr.h] at ht;omega,W1,(if_neg (by decide)).mpr ⟨l,u,m2,A2,r2,g2,rfl,by simp only [Tr.h] at ht;omega,W2,?_⟩⟩
   exact ⟨m1,A1,r1,g1,m2,A2,r2,g2,m,G,3,0,2,1,A',h,oB m,by rw [Qt3];rfl,em,eG,W1.ok.1,W2.ok.1,W2.ok.2.1,by decide,by omega,by omega,O,k⟩
  | @a t u m1 m2 m A1 A2 A' r1 r2 g1 g2 h G W1 W2 em eG O =>
   have hG:=hd (by simp only [Tr.h] at ht;omega)
   subst hG
   have h1:=m_le W1 (by simp only [Tr.h] at ht;omega)
   have h2:=m_le W2 (by simp only [Tr.h] at ht;omega)
   simp only [Yd,wSeq,wIf,env0,tD,biW,List.map_cons,List.map_nil,List.length_cons,List.length_nil,Nat.zero_add,Nat.reduceAdd,List.replicate,List.cons_append,List.nil_append,wSet,wBin,U8,wTup,Qb,wC,wNil,sz4,D.pure,Ql,Bool.and_self,wRet,Q0,sz1,Qn,sz3,Bool.and_true,true_and,Qw,Jh,wLst,wUn,sz2,Qac,Int.reduceNeg,r_bl,look,List.set_cons_succ,List.set_cons_zero,Qh,ixM,Y1,List.getElem?_cons_zero,G1,ofS,String.reduceEq,decide_false,Qaf,Bool.false_eq_true,reduceIte,Qae,Zo,List.getElem?_cons_succ,Jn,lenM,Xq,Y0]
   refine (if_neg (by decide)).mpr ⟨l,t,m1,A1,r1,g1,rfl,by simp only [Tr.h] at ht;omega,W1,(if_neg (by decide)).mpr ⟨l,u,m2,A2,r2,g2,rfl,by simp only [Tr.h] at ht;omega,W2,?_⟩⟩
   have twG:=two_tw W1.ok.1 W2.ok.1 W2.ok.2.1
   rw [← em,← eG] at twG
   have P0:Prt (S0 m) G:=Qi3 twG
   refine ⟨m1,A1,r1,g1,m2,A2,r2,g2,m,G,1,0,2,3,A',h,oA m,by rw [Qt4];rfl,em,eG,W1.ok.1,W2.ok.1,W2.ok.2.1,by decide,by omega,by omega,O.congr (λ_ _=>rfl) (λx hx=>⟨⟨hx.1.1,hx.2.1,hx.2.2⟩,hx.1.2.1,hx.1.2.2⟩) (λx hx=>Qlj P0 (show 4*m+2<4*m+8 by omega) (show 4*m+7<4*m+8 by omega) (show 4*m+1<4*m+8 by omega) (show 4*m+4<4*m+8 by omega) hx.1.1 (by omega) (by omega) (by omega) (by omega) (by omega) (by omega) hx.1.2.1 hx.1.2.2 hx.2.1 hx.2.2),?_⟩
   have hsw:=Qo7 P0 (a:=4*m+2) (b:=4*m+7) (c:=4*m+1) (d:=4*m+4) (show 4*m+2<4*m+8 by omega) (show 4*m+7<4*m+8 by omega) (show 4*m+1<4*m+8 by omega) (show 4*m+4<4*m+8 by omega) (by omega) (by omega) (by omega) (by omega) (by omega) (by omega)
   rw [show r1+r2+rg G (4*m+2) (4*m+7)+rg (tie G (4*m+2) (4*m+7)) (4*m+1) (4*m+4)=r1+r2+rg G (4*m+1) (4*m+4)+rg (tie G (4*m+1) (4*m+4)) (4*m+2) (4*m+7) by
    have:rg G (4*m+2) (4*m+7)+rg (tie G (4*m+2) (4*m+7)) (4*m+1) (4*m+4)=rg G (4*m+1) (4*m+4)+rg (tie G (4*m+1) (4*m+4)) (4*m+2) (4*m+7):=hsw
    omega] at k
   exact k
theorem Qe9 (F:Fun K "_law_due" "_law_due" Yg f fd) (B:Bn K mg) (C1:Cal P w K mg base "_law_ties" 2 ["_law_web"] (spR K Jt)) (C2:Cal P w K mg base "_law_built" 1 ["_law_many","_law_rim","_law_rings","_law_ties_here"] (spR K Js)) (C3:Cal P w K mg base "_law_both" 3 ["_law_one","_law_other","_law_seam","_law_rim"] (spR K Yy)) (hm:mg "_law_due" = some (.ref f)) (hb:Z2 K fd ["_law_tree_here"] []):FnOk P w K mg base CX0 16 f fd ["_law_tree_here"] (spR K Uc):=by
 have st:∀d:Nat,d<=3->FnOk P w K mg base CX0 (4+d) f fd ["_law_tree_here"] (spR K (Qm1 d)):=λd=>by
  induction d with
  | zero=>exact λ_=>(Qgz (d:=0) F B C1 C2 C3 (Qk6 F hm hb) (λh=>absurd h (by decide)) (by decide)).mono (by decide)
  | succ d ih=>exact λh=>(Qgz (d:=d+1) F B C1 C2 C3 ⟨f,fd,ih (by omega),hm,F.kp,hb⟩ (λ_=>rfl) h).mono (by omega)
 exact (st 3 (by decide)).mono (by decide)
end K59
variable {l:PySem.W.OpenLaw}
namespace K59
open PySem PySem.Spec L2 PV P58
open PyProof.Rows (envOfC)
def Qkf:GA:=λds k=>∃ns:List Int,ds=[.kls (ns.map .int)]/\ns.length<=63/\k (.bl true)
abbrev Xp:Stmt:=top 41
theorem Qis:FnScope ["_law_script","_law_cell","_law_tree_here"] ["_law_script"] (Qe Xp):=⟨rfl,rfl,rfl,by decide +kernel,rfl,by decide +kernel,by decide +kernel⟩
def Qrl:Tg:={ own:=λi=>i == 1 || i == 2,io:=[] }
def Qrf:WS:=(wSeq (wFor (V0 (wBin Yq (wLst (Qb (wC (.int 0)) wNil)) (wSlT (wVar 0) Qb0 (Qes (wC (.int 8)))))) (gN 1) (wSeq (wSet 2 (Qf2 Ve (Qb (wLst (Qb (Q0 (wVar 1)) (Qb (wC (.int 0)) wNil))) (Qb (wC (.int 3)) wNil))))
 (wIf (wNot (wTru (Qn Gr (Qb (Gw isC gwr (Qn Vf (Qb (wVar 2) wNil))) (Qb (Qn Uc (Qb (wVar 2) wNil)) wNil))))) (wRet (wC (.bl false))) Jh)))
 (wRet (wC (.bl true))))
theorem Qu9 (B:Bn K mg) (C__law_tree:Cal P w K mg base "_law_tree" 14 ["_law_row","_law_deep"] (spI K 0 Ve)) (C__law_part:Cal P w K mg base "_law_part" 14 ["_law_tree_here"] (spR K Vf)) (C__law_is:Cal P w K mg base "_law_is" 1 ["_law_found","_law_due_here"] (spR K Gr)) (C__law_due:Cal P w K mg base "_law_due" 16 ["_law_tree_here"] (spR K Uc)) (Wr:WrN P w K mg base):∀(cdv:Value) (A:Around) (outer:List PySem.Env) (s:Shared) (H:Hp) (E:XK),Room 16 (A.deeper (envOfC "law" (Qe Xp) s.heap.objs.size f cdv))->SVs (cxOf CX0 P w K mg base ["_law_script","_law_cell","_law_tree_here"] "law" (Qe Xp) f cdv A outer s H E).nox Qrl (Qy Xp) Qrf:=λcdv A outer s H E hr =>
  (Qg (Zr PassesOwn.never (Vb (Ja Q8 (Zx (Qa Qd Qf)) (Qeb (Qc 0) Qal (Qak Qd)))) (Ju (i:=1) Qis.nd) (Qg (Q4 (i:=2) (Qm8 C__law_tree (hr.mono (by decide)) (Qa (Zx (Qa (Q3 (Qc 1)) (Qa Qd Qf))) (Qa Qd Qf))) Qis.nd)
  (Qj (Za (Qf6 (Qda (Qo C__law_is (hr.mono (by decide)) (Qa (U3 (isC:=isC) (g:=gwr) Wr (hr.mono (by decide)) (Qo C__law_part (hr.mono (by decide)) (Qa (Qc 2) Qf))) (Qa (Qo C__law_due (hr.mono (by decide)) (Qa (Qc 2) Qf)) Qf))))) (Qj (Qx Qhz)) Jc))))
  (Qj (Qx Qhz)))
theorem Qsm (F:Fun K "law" "law" Xp f fd) (B:Bn K mg) (C1:Cal P w K mg base "_law_tree" 14 ["_law_row","_law_deep"] (spI K 0 Ve)) (C2:Cal P w K mg base "_law_part" 14 ["_law_tree_here"] (spR K Vf)) (C3:Cal P w K mg base "_law_is" 1 ["_law_found","_law_due_here"] (spR K Gr)) (C4:Cal P w K mg base "_law_due" 16 ["_law_tree_here"] (spR K Uc)) (Wr:WrN P w K mg base):FnOk P w K mg base CX0 17 f fd ["_law_script"] (spR K Qkf):=by
 refine Yk (T:=Qrl) F Qis rfl (by decide) (λds kk h=>?_) (Qu9 B C1 C2 C3 C4 Wr) (λds kk h=>?_)
 ·obtain ⟨ns,rfl,_⟩:=h
  rfl
 ·obtain ⟨ns,rfl,hns,k⟩:=h
  have ec:cutD (ns.map D.int) none (some 8)=(ns.take 8).map D.int:=by
   have:cutD (ns.map D.int) none (some ((8:Nat):Int))=(ns.map D.int).take 8:=Qoo
   rw [List.map_take,← this];rfl
  have el:(ns.take 8).length<=8:=by rw [List.length_take];omega
  simp only [Qrf,wSeq,env0,List.map_cons,List.map_nil,List.length_cons,List.length_nil,Nat.zero_add,Nat.reduceAdd,List.replicate,List.cons_append,List.nil_append,Gh,Gg,wBin,wLst,Qb,wC,wNil,sz1,wSlT,Qb0,Qiy,Qe2,Qw,look,Qh,Qr0,Zl,ec,G4,Ql,D.pure,Bool.and_self,Qbq,true_and]
  refine ⟨Nat.le_of_lt (Qip (by rw [List.length_map];omega)),λt ρ=>∃o1 o2:Option D,ρ=[some (.kls (ns.map .int)),o1,o2],⟨_,_,rfl⟩,?_,?_⟩
  ·rintro t d ρ hd ⟨o1,o2,rfl⟩
   obtain ⟨c,rfl⟩:∃c,d=.int c:=by
    rcases List.mem_cons.mp (List.mem_of_getElem? hd) with z | z
    ·exact ⟨_,z⟩
    ·obtain ⟨c,_,rfl⟩:=List.mem_map.mp z
     exact ⟨c,rfl⟩
   simp only [gN,wSeq,wSet,List.set_cons_succ,List.set_cons_zero,wIf,wNot,wRet,wC,Jh,Qlv,Qn,Qb,wNil,Qw,Qly,wLst,Q0,List.length_cons,List.length_nil,Nat.zero_add,Nat.reduceAdd,sz2,Qui,Qdq,Ql,D.pure,Bool.and_self,Bool.and_true,true_and,look,Qh]
   refine ⟨c,0,3,rfl,Nat.le_refl 3,Int.le_refl 0,by decide,λc1 n1 t1 ht1 hn1 hn2=>?_⟩
   simp only [Gw,Qn,Qb,wNil,Qw,look,Qh]
   refine ⟨false,t1,rfl,by omega,?_⟩
   refine Uz (g:=gwr) (d:=3) rfl ht1 λm A r g W=>?_
   have hm:=m_le W ht1
   refine ⟨false,t1,m,A,r,g,rfl,ht1,W,m,4,A,r,rfl,by omega,by omega,?_⟩
   simp only [Qgf,Bool.not_true,Bool.false_eq_true,reduceIte]
   exact ⟨_,_,rfl⟩
  ·rintro ρ ⟨o1,o2,rfl⟩
   simp only [wRet,wC]
   exact k
def Lk (K:PySem.W.Frag) (f:Addr) (x:Str) (st:Stmt):Prop:=∃oc od kV dc pm an cd ct sl,K.lookup f=some ⟨oc,od,.func (PySem.W.fnOf x x (Uf st) (Qy st) (Qe st) .none kV dc pm an cd ct),sl⟩/\PySem.W.codeIn K cd x=true
theorem Lk.fn (h:Lk K f x st) (k:PySem.W.keepIn K (.ref f)=true):∃fd,Fun K x x st f fd:=by
 obtain ⟨oc,od,kV,dc,pm,an,cd,ct,sl,l,c⟩:=h
 exact ⟨_,Qkg l c k⟩
theorem na2 {K:PySem.W.Frag} {C:Addr} (h0:Jg K C "one") (h1:Jg K C "other"):∀i,Jg K C (fldS i)
 | 0=>h0
 | _+1=>h1
def fnB (K:PySem.W.Frag) (f:Addr):Bool:=PySem.W.isFn K (.ref f) && PySem.W.keepIn K (.ref f)
theorem Q5 (h:fnB K f=true):PySem.W.isFn K (.ref f)=true/\PySem.W.keepIn K (.ref f)=true:=by
 simpa only [fnB,Bool.and_eq_true] using h
def LkQ (K:PySem.W.Frag) (f:Addr) (x q:Str) (st:Stmt):Prop:=∃oc od kV dc pm an cd ct sl,K.lookup f=some ⟨oc,od,.func (PySem.W.fnOf x q (Uf st) (Qy st) (Qe st) .none kV dc pm an cd ct),sl⟩/\PySem.W.codeIn K cd q=true
theorem LkQ.fn {q:Str} (h:LkQ K f x q st) (k:PySem.W.keepIn K (.ref f)=true):∃fd,Fun K x q st f fd:=by
 obtain ⟨oc,od,kV,dc,pm,an,cd,ct,sl,l,c⟩:=h
 exact ⟨_,Qkg l c k⟩
theorem Qtr {h:Heap} (X:K.In h) (G:h.Ns mainGlobals mg) (hfa:mg "law" = some (.ref fa))
  {f1:Addr} (a1:atN K "places" f1) (l1:Lk K f1 "places" Ui) (k1:PySem.W.keepIn K (.ref f1)=true)
  {f2:Addr} (a2:atN K "renamed" f2) (l2:Lk K f2 "renamed" Zk) (k2:PySem.W.keepIn K (.ref f2)=true)
  {f3:Addr} (a3:atN K "named_anew" f3) (l3:Lk K f3 "named_anew" J0) (k3:PySem.W.keepIn K (.ref f3)=true)
  {f4:Addr} (a4:atN K "mirrored" f4) (l4:Lk K f4 "mirrored" Yt) (k4:PySem.W.keepIn K (.ref f4)=true)
  {f5:Addr} (a5:atN K "shifted" f5) (l5:Lk K f5 "shifted" Z7) (k5:PySem.W.keepIn K (.ref f5)=true)
  {f6:Addr} (a6:atN K "called" f6) (l6:Lk K f6 "called" Vn) (k6:PySem.W.keepIn K (.ref f6)=true)
  {f7:Addr} (a7:atN K "shut_as_named" f7) (l7:Lk K f7 "shut_as_named" Q6) (k7:PySem.W.keepIn K (.ref f7)=true)
  {f8:Addr} (a8:atN K "raised" f8) (l8:Lk K f8 "raised" Vm) (k8:PySem.W.keepIn K (.ref f8)=true)
  {f9:Addr} (a9:atN K "both" f9) (l9:Lk K f9 "both" X9) (k9:PySem.W.keepIn K (.ref f9)=true)
  {f10:Addr} (a10:atN K "glued" f10) (l10:Lk K f10 "glued" Gz) (k10:PySem.W.keepIn K (.ref f10)=true)
  {f11:Addr} (a11:atN K "beside" f11) (l11:Lk K f11 "beside" Uj) (k11:PySem.W.keepIn K (.ref f11)=true)
  {f12:Addr} (a12:atN K "quarter" f12) (l12:Lk K f12 "quarter" Z8) (k12:PySem.W.keepIn K (.ref f12)=true)
  {f13:Addr} (a13:atN K "above" f13) (l13:Lk K f13 "above" G0) (k13:PySem.W.keepIn K (.ref f13)=true)
  {f14:Addr} (a14:atN K "_law_take" f14) (l14:Lk K f14 "_law_take" Yv) (k14:PySem.W.keepIn K (.ref f14)=true)
  {f15:Addr} (a15:atN K "_law_tree" f15) (l15:Lk K f15 "_law_tree" Ya) (k15:PySem.W.keepIn K (.ref f15)=true)
  {f16:Addr} (a16:atN K "_law_part" f16) (l16:Lk K f16 "_law_part" Yb) (k16:PySem.W.keepIn K (.ref f16)=true)
  {f17:Addr} (a17:atN K "_law_spots" f17) (l17:Lk K f17 "_law_spots" Jq) (k17:PySem.W.keepIn K (.ref f17)=true)
  {f18:Addr} (a18:atN K "_law_arc" f18) (l18:Lk K f18 "_law_arc" Zf) (k18:PySem.W.keepIn K (.ref f18)=true)
  {f19:Addr} (a19:atN K "_law_ties" f19) (l19:Lk K f19 "_law_ties" Yu) (k19:PySem.W.keepIn K (.ref f19)=true)
  {f20:Addr} (a20:atN K "_law_joined" f20) (l20:Lk K f20 "_law_joined" J3) (k20:PySem.W.keepIn K (.ref f20)=true)
  {f21:Addr} (a21:atN K "_law_built" f21) (l21:Lk K f21 "_law_built" Jk) (k21:PySem.W.keepIn K (.ref f21)=true)
  {f22:Addr} (a22:atN K "_law_is" f22) (l22:Lk K f22 "_law_is" Z9) (k22:PySem.W.keepIn K (.ref f22)=true)
  {f23:Addr} (a23:atN K "_law_moved" f23) (l23:Lk K f23 "_law_moved" Yf) (k23:PySem.W.keepIn K (.ref f23)=true)
  {f24:Addr} (a24:atN K "_law_both" f24) (l24:Lk K f24 "_law_both" Yw) (k24:PySem.W.keepIn K (.ref f24)=true)
  {f25:Addr} (a25:atN K "_law_due" f25) (l25:Lk K f25 "_law_due" Yg) (k25:PySem.W.keepIn K (.ref f25)=true)
  {f26:Addr} {od26 an26:Option Addr} {sl26:Array (Option Value)} {oc26 kV26 dc26 pm26 cd26 ct26:Value}
  (a26:PySem.W.nsIn K mainGlobals "law" = some (some (.ref f26))) (l26:K.lookup f26=some ⟨oc26,od26,.func (PySem.W.fnOf "law" "law" (Uf Xp) (Qy Xp) (Qe Xp) .none kV26 dc26 pm26 an26 cd26 ct26),sl26⟩) (c26:PySem.W.codeIn K cd26 "law" = true) (k26:PySem.W.keepIn K (.ref f26)=true)
  (z_bool:PySem.W.nsIn K mainGlobals "bool" = some none)
  (z_enumerate:PySem.W.nsIn K mainGlobals "enumerate" = some none)
  (z_int:PySem.W.nsIn K mainGlobals "int" = some none)
  (z_isinstance:PySem.W.nsIn K mainGlobals "isinstance" = some none)
  (z_len:PySem.W.nsIn K mainGlobals "len" = some none)
  (z_list:PySem.W.nsIn K mainGlobals "list" = some none)
  (z_range:PySem.W.nsIn K mainGlobals "range" = some none)
  (z_tuple:PySem.W.nsIn K mainGlobals "tuple" = some none)
  {tk_RIM:Tok} (z_RIM:PySem.W.nsIn K mainGlobals "RIM" = some (some (.int (-1) tk_RIM)))
  {fw_Level:Addr} (zx_Level:atN K "Level" C_Level) (xhb_Level:clsB K C_Level=true) (xsa_Level:PySem.W.findIn K (.ref C_Level) "__setattr__" = some (some (.builtin "object.__setattr__"))) (xca_Level:PySem.W.findIn K (.ref C_Level) "__class__" = some (some (.builtin "object.__class__"))) (xmr_Level:PySem.W.mroIn K C_Level (.type "object")=some true) (xn0_Level:Jg K C_Level "one") (xn1_Level:Jg K C_Level "other")
  (xw_Level:PySem.W.findIn K (.ref C_Level) "web" = some (some (.ref fw_Level))) (xhw_Level:fnB K fw_Level=true) (lw_Level:LkQ K fw_Level "web" "Level.web" Z5)
  (zi_Level:PySem.W.findIn K (.ref C_Level) "__init__" = some (some (.builtin "object.__init__")))
  {fw_Upright:Addr} (zx_Upright:atN K "Upright" C_Upright) (xhb_Upright:clsB K C_Upright=true) (xsa_Upright:PySem.W.findIn K (.ref C_Upright) "__setattr__" = some (some (.builtin "object.__setattr__"))) (xca_Upright:PySem.W.findIn K (.ref C_Upright) "__class__" = some (some (.builtin "object.__class__"))) (xmr_Upright:PySem.W.mroIn K C_Upright (.type "object")=some true) (xn0_Upright:Jg K C_Upright "one") (xn1_Upright:Jg K C_Upright "other")
  (xw_Upright:PySem.W.findIn K (.ref C_Upright) "web" = some (some (.ref fw_Upright))) (xhw_Upright:fnB K fw_Upright=true) (lw_Upright:LkQ K fw_Upright "web" "Upright.web" Y4)
  (zi_Upright:PySem.W.findIn K (.ref C_Upright) "__init__" = some (some (.builtin "object.__init__")))
  {fw_Single:Addr} (zx_Single:atN K "Single" C_Single) (xhb_Single:clsB K C_Single=true) (xsa_Single:PySem.W.findIn K (.ref C_Single) "__setattr__" = some (some (.builtin "object.__setattr__"))) (xca_Single:PySem.W.findIn K (.ref C_Single) "__class__" = some (some (.builtin "object.__class__"))) (xmr_Single:PySem.W.mroIn K C_Single (.type "object")=some true) (xn0_Single:Jg K C_Single "one") (xn1_Single:Jg K C_Single "other")
  (xw_Single:PySem.W.findIn K (.ref C_Single) "web" = some (some (.ref fw_Single))) (xhw_Single:fnB K fw_Single=true) (lw_Single:LkQ K fw_Single "web" "Single.web" Zi)
  (zi_Single:PySem.W.findIn K (.ref C_Single) "__init__" = some (some (.builtin "object.__init__")))
  {C_Beside fw_Beside:Addr} (zx_Beside:atN K "Beside" C_Beside) (xhb_Beside:clsB K C_Beside=true) (xsa_Beside:PySem.W.findIn K (.ref C_Beside) "__setattr__" = some (some (.builtin "object.__setattr__"))) (xca_Beside:PySem.W.findIn K (.ref C_Beside) "__class__" = some (some (.builtin "object.__class__"))) (xmr_Beside:PySem.W.mroIn K C_Beside (.type "object")=some true) (xn0_Beside:Jg K C_Beside "one") (xn1_Beside:Jg K C_Beside "other")
  (xw_Beside:PySem.W.findIn K (.ref C_Beside) "web" = some (some (.ref fw_Beside))) (xhw_Beside:fnB K fw_Beside=true) (lw_Beside:LkQ K fw_Beside "web" "Beside.web" Zj)
  {fi_Beside:Addr} (xi_Beside:PySem.W.findIn K (.ref C_Beside) "__init__" = some (some (.ref fi_Beside))) (xhi_Beside:fnB K fi_Beside=true) (li_Beside:LkQ K fi_Beside "__init__" "Beside.__init__" V7)
  {C_Above fw_Above:Addr} (zx_Above:atN K "Above" C_Above) (xhb_Above:clsB K C_Above=true) (xsa_Above:PySem.W.findIn K (.ref C_Above) "__setattr__" = some (some (.builtin "object.__setattr__"))) (xca_Above:PySem.W.findIn K (.ref C_Above) "__class__" = some (some (.builtin "object.__class__"))) (xmr_Above:PySem.W.mroIn K C_Above (.type "object")=some true) (xn0_Above:Jg K C_Above "one") (xn1_Above:Jg K C_Above "other")
  (xw_Above:PySem.W.findIn K (.ref C_Above) "web" = some (some (.ref fw_Above))) (xhw_Above:fnB K fw_Above=true) (lw_Above:LkQ K fw_Above "web" "Above.web" Z6)
  {fi_Above:Addr} (xi_Above:PySem.W.findIn K (.ref C_Above) "__init__" = some (some (.ref fi_Above))) (xhi_Above:fnB K fi_Above=true) (li_Above:LkQ K fi_Above "__init__" "Above.__init__" Uy)
  {C_Turned fw_Turned:Addr} (zx_Turned:atN K "Turned" C_Turned) (xhb_Turned:clsB K C_Turned=true) (xsa_Turned:PySem.W.findIn K (.ref C_Turned) "__setattr__" = some (some (.builtin "object.__setattr__"))) (xca_Turned:PySem.W.findIn K (.ref C_Turned) "__class__" = some (some (.builtin "object.__class__"))) (xmr_Turned:PySem.W.mroIn K C_Turned (.type "object")=some true) (xn0_Turned:Jg K C_Turned "one") (xn1_Turned:Jg K C_Turned "other")
  (xw_Turned:PySem.W.findIn K (.ref C_Turned) "web" = some (some (.ref fw_Turned))) (xhw_Turned:fnB K fw_Turned=true) (lw_Turned:LkQ K fw_Turned "web" "Turned.web" Zh)
  {fi_Turned:Addr} (xi_Turned:PySem.W.findIn K (.ref C_Turned) "__init__" = some (some (.ref fi_Turned))) (xhi_Turned:fnB K fi_Turned=true) (li_Turned:LkQ K fi_Turned "__init__" "Turned.__init__" V6)
  {C_Mirrored fw_Mirrored:Addr} (zx_Mirrored:atN K "Mirrored" C_Mirrored) (xhb_Mirrored:clsB K C_Mirrored=true) (xsa_Mirrored:PySem.W.findIn K (.ref C_Mirrored) "__setattr__" = some (some (.builtin "object.__setattr__"))) (xca_Mirrored:PySem.W.findIn K (.ref C_Mirrored) "__class__" = some (some (.builtin "object.__class__"))) (xmr_Mirrored:PySem.W.mroIn K C_Mirrored (.type "object")=some true) (xn0_Mirrored:Jg K C_Mirrored "one") (xn1_Mirrored:Jg K C_Mirrored "other")
  (xw_Mirrored:PySem.W.findIn K (.ref C_Mirrored) "web" = some (some (.ref fw_Mirrored))) (xhw_Mirrored:fnB K fw_Mirrored=true) (lw_Mirrored:LkQ K fw_Mirrored "web" "Mirrored.web" Yo)
  {fi_Mirrored:Addr} (xi_Mirrored:PySem.W.findIn K (.ref C_Mirrored) "__init__" = some (some (.ref fi_Mirrored))) (xhi_Mirrored:fnB K fi_Mirrored=true) (li_Mirrored:LkQ K fi_Mirrored "__init__" "Mirrored.__init__" Z1)
  (xo1:PySem.W.specialIn K (.builtin "object.__class__") "__get__" = some (some (.builtin "getset_descriptor.__get__"))) (xo2:PySem.W.takesIn K (.builtin "object.__class__")=some true)
  : ∃fd:FuncData,(∀(s:Shared) (v:Value),BindsTo s fd ⟨[v],[]⟩ [("_law_script",v)])/\∀base:Heap,K.In base->base.Ns mainGlobals mg->FnOk l.prog w K mg base CX0 17 fa fd ["_law_script"] (spR K Qkf):=by
 have e:=hfa.symm.trans (PySem.W.mg_of X G a26)
 cases e
 have D_Level:ClsD K C_Level:=⟨xhb_Level,xsa_Level,xca_Level,xmr_Level⟩
 have K_Level:ClN K mg "Level" C_Level:=⟨PySem.W.mg_of X G zx_Level,zx_Level,D_Level⟩
 have D_Upright:ClsD K C_Upright:=⟨xhb_Upright,xsa_Upright,xca_Upright,xmr_Upright⟩
 have K_Upright:ClN K mg "Upright" C_Upright:=⟨PySem.W.mg_of X G zx_Upright,zx_Upright,D_Upright⟩
 have D_Single:ClsD K C_Single:=⟨xhb_Single,xsa_Single,xca_Single,xmr_Single⟩
 have K_Single:ClN K mg "Single" C_Single:=⟨PySem.W.mg_of X G zx_Single,zx_Single,D_Single⟩
 have D_Beside:ClsD K C_Beside:=⟨xhb_Beside,xsa_Beside,xca_Beside,xmr_Beside⟩
 have K_Beside:ClN K mg "Beside" C_Beside:=⟨PySem.W.mg_of X G zx_Beside,zx_Beside,D_Beside⟩
 have D_Above:ClsD K C_Above:=⟨xhb_Above,xsa_Above,xca_Above,xmr_Above⟩
 have K_Above:ClN K mg "Above" C_Above:=⟨PySem.W.mg_of X G zx_Above,zx_Above,D_Above⟩
 have D_Turned:ClsD K C_Turned:=⟨xhb_Turned,xsa_Turned,xca_Turned,xmr_Turned⟩
 have K_Turned:ClN K mg "Turned" C_Turned:=⟨PySem.W.mg_of X G zx_Turned,zx_Turned,D_Turned⟩
 have D_Mirrored:ClsD K C_Mirrored:=⟨xhb_Mirrored,xsa_Mirrored,xca_Mirrored,xmr_Mirrored⟩
 have K_Mirrored:ClN K mg "Mirrored" C_Mirrored:=⟨PySem.W.mg_of X G zx_Mirrored,zx_Mirrored,D_Mirrored⟩
 have hfl:∀(i:Nat) (x:Str) (C:Addr),isC x=true->atN K x C->(x,C)∈[(Str.ofString "Level",C_Level),(Str.ofString "Upright",C_Upright),(Str.ofString "Single",C_Single),(Str.ofString "Beside",C_Beside),(Str.ofString "Above",C_Above),(Str.ofString "Turned",C_Turned),(Str.ofString "Mirrored",C_Mirrored)]/\ClsD K C/\Jg K C (fldS i):=λi x C h1 h2=>by
  rcases Qmy h1 with rfl | rfl | rfl | rfl | rfl | rfl | rfl
  ·obtain rfl:=Ug h2 zx_Level;exact ⟨by simp,D_Level,na2 xn0_Level xn1_Level i⟩
  ·obtain rfl:=Ug h2 zx_Upright;exact ⟨by simp,D_Upright,na2 xn0_Upright xn1_Upright i⟩
  ·obtain rfl:=Ug h2 zx_Single;exact ⟨by simp,D_Single,na2 xn0_Single xn1_Single i⟩
  ·obtain rfl:=Ug h2 zx_Beside;exact ⟨by simp,D_Beside,na2 xn0_Beside xn1_Beside i⟩
  ·obtain rfl:=Ug h2 zx_Above;exact ⟨by simp,D_Above,na2 xn0_Above xn1_Above i⟩
  ·obtain rfl:=Ug h2 zx_Turned;exact ⟨by simp,D_Turned,na2 xn0_Turned xn1_Turned i⟩
  ·obtain rfl:=Ug h2 zx_Mirrored;exact ⟨by simp,D_Mirrored,na2 xn0_Mirrored xn1_Mirrored i⟩
 have B:Bn K mg:=⟨PySem.W.mg_none_of X G z_bool,PySem.W.mg_none_of X G z_enumerate,PySem.W.mg_none_of X G z_int,PySem.W.mg_none_of X G z_isinstance,PySem.W.mg_none_of X G z_len,PySem.W.mg_none_of X G z_list,PySem.W.mg_none_of X G z_range,PySem.W.mg_none_of X G z_tuple,⟨tk_RIM,PySem.W.mg_of X G z_RIM⟩,⟨xo1,xo2⟩,λi x C h1 h2=>(hfl i x C h1 h2).2⟩
 obtain ⟨_,F1⟩:=l1.fn k1
 obtain ⟨_,F2⟩:=l2.fn k2
 obtain ⟨_,F3⟩:=l3.fn k3
 obtain ⟨_,F4⟩:=l4.fn k4
 obtain ⟨_,F5⟩:=l5.fn k5
 obtain ⟨_,F6⟩:=l6.fn k6
 obtain ⟨_,F7⟩:=l7.fn k7
 obtain ⟨_,F8⟩:=l8.fn k8
 obtain ⟨_,F9⟩:=l9.fn k9
 obtain ⟨_,F10⟩:=l10.fn k10
 obtain ⟨_,F11⟩:=l11.fn k11
 obtain ⟨_,F12⟩:=l12.fn k12
 obtain ⟨_,F13⟩:=l13.fn k13
 obtain ⟨_,F14⟩:=l14.fn k14
 obtain ⟨_,F15⟩:=l15.fn k15
 obtain ⟨_,F16⟩:=l16.fn k16
 obtain ⟨_,F17⟩:=l17.fn k17
 obtain ⟨_,F18⟩:=l18.fn k18
 obtain ⟨_,F19⟩:=l19.fn k19
 obtain ⟨_,F20⟩:=l20.fn k20
 obtain ⟨_,F21⟩:=l21.fn k21
 obtain ⟨_,F22⟩:=l22.fn k22
 obtain ⟨_,F23⟩:=l23.fn k23
 obtain ⟨_,F24⟩:=l24.fn k24
 obtain ⟨_,F25⟩:=l25.fn k25
 have F26:=Qkg (st:=Xp) l26 c26 k26
 refine ⟨PySem.W.fnOf "law" "law" (Uf Xp) (Qy Xp) (Qe Xp) .none kV26 dc26 pm26 an26 cd26 ct26,λs v=>.of_eq rfl,λbase _ _=>?_⟩
 obtain ⟨_,FW_Level⟩:=lw_Level.fn (Q5 xhw_Level).2
 have H_Level:HW K "Level" "Level.web" Z5:=⟨⟨C_Level,fw_Level,_,zx_Level,D_Level,⟨xw_Level,(Q5 xhw_Level).1,(Q5 xhw_Level).2⟩,FW_Level,FW_Level.binds λ_ _ _ _ _ _ us hl=>by obtain ⟨_,rfl⟩:=len1 hl;rfl⟩⟩
 obtain ⟨_,FW_Upright⟩:=lw_Upright.fn (Q5 xhw_Upright).2
 have H_Upright:HW K "Upright" "Upright.web" Y4:=⟨⟨C_Upright,fw_Upright,_,zx_Upright,D_Upright,⟨xw_Upright,(Q5 xhw_Upright).1,(Q5 xhw_Upright).2⟩,FW_Upright,FW_Upright.binds λ_ _ _ _ _ _ us hl=>by obtain ⟨_,rfl⟩:=len1 hl;rfl⟩⟩
 obtain ⟨_,FW_Single⟩:=lw_Single.fn (Q5 xhw_Single).2
 have H_Single:HW K "Single" "Single.web" Zi:=⟨⟨C_Single,fw_Single,_,zx_Single,D_Single,⟨xw_Single,(Q5 xhw_Single).1,(Q5 xhw_Single).2⟩,FW_Single,FW_Single.binds λ_ _ _ _ _ _ us hl=>by obtain ⟨_,rfl⟩:=len1 hl;rfl⟩⟩
 obtain ⟨_,FW_Beside⟩:=lw_Beside.fn (Q5 xhw_Beside).2
 have H_Beside:HW K "Beside" "Beside.web" Zj:=⟨⟨C_Beside,fw_Beside,_,zx_Beside,D_Beside,⟨xw_Beside,(Q5 xhw_Beside).1,(Q5 xhw_Beside).2⟩,FW_Beside,FW_Beside.binds λ_ _ _ _ _ _ us hl=>by obtain ⟨_,rfl⟩:=len1 hl;rfl⟩⟩
 obtain ⟨_,FI_Beside⟩:=li_Beside.fn (Q5 xhi_Beside).2
 have I_Beside:IniN l.prog w K mg base "Beside" 2 1:=⟨C_Beside,fi_Beside,_,K_Beside,⟨D_Beside.all.2.2.2.1,xi_Beside,(Q5 xhi_Beside).1,D_Beside.all.2.2.2.2⟩,Qcj FI_Beside D_Beside.cls (na2 xn0_Beside xn1_Beside),FI_Beside.binds λ_ _ _ _ _ _ us hl=>by obtain ⟨_,_,_,rfl⟩:=len3 hl;rfl⟩
 obtain ⟨_,FW_Above⟩:=lw_Above.fn (Q5 xhw_Above).2
 have H_Above:HW K "Above" "Above.web" Z6:=⟨⟨C_Above,fw_Above,_,zx_Above,D_Above,⟨xw_Above,(Q5 xhw_Above).1,(Q5 xhw_Above).2⟩,FW_Above,FW_Above.binds λ_ _ _ _ _ _ us hl=>by obtain ⟨_,rfl⟩:=len1 hl;rfl⟩⟩
 obtain ⟨_,FI_Above⟩:=li_Above.fn (Q5 xhi_Above).2
 have I_Above:IniN l.prog w K mg base "Above" 2 1:=⟨C_Above,fi_Above,_,K_Above,⟨D_Above.all.2.2.2.1,xi_Above,(Q5 xhi_Above).1,D_Above.all.2.2.2.2⟩,Qdw FI_Above D_Above.cls (na2 xn0_Above xn1_Above),FI_Above.binds λ_ _ _ _ _ _ us hl=>by obtain ⟨_,_,_,rfl⟩:=len3 hl;rfl⟩
 obtain ⟨_,FW_Turned⟩:=lw_Turned.fn (Q5 xhw_Turned).2
 have H_Turned:HW K "Turned" "Turned.web" Zh:=⟨⟨C_Turned,fw_Turned,_,zx_Turned,D_Turned,⟨xw_Turned,(Q5 xhw_Turned).1,(Q5 xhw_Turned).2⟩,FW_Turned,FW_Turned.binds λ_ _ _ _ _ _ us hl=>by obtain ⟨_,rfl⟩:=len1 hl;rfl⟩⟩
 obtain ⟨_,FI_Turned⟩:=li_Turned.fn (Q5 xhi_Turned).2
 have I_Turned:IniN l.prog w K mg base "Turned" 1 1:=⟨C_Turned,fi_Turned,_,K_Turned,⟨D_Turned.all.2.2.2.1,xi_Turned,(Q5 xhi_Turned).1,D_Turned.all.2.2.2.2⟩,Qci FI_Turned D_Turned.cls (na2 xn0_Turned xn1_Turned),FI_Turned.binds λ_ _ _ _ _ _ us hl=>by obtain ⟨_,_,rfl⟩:=len2 hl;rfl⟩
 obtain ⟨_,FW_Mirrored⟩:=lw_Mirrored.fn (Q5 xhw_Mirrored).2
 have H_Mirrored:HW K "Mirrored" "Mirrored.web" Yo:=⟨⟨C_Mirrored,fw_Mirrored,_,zx_Mirrored,D_Mirrored,⟨xw_Mirrored,(Q5 xhw_Mirrored).1,(Q5 xhw_Mirrored).2⟩,FW_Mirrored,FW_Mirrored.binds λ_ _ _ _ _ _ us hl=>by obtain ⟨_,rfl⟩:=len1 hl;rfl⟩⟩
 obtain ⟨_,FI_Mirrored⟩:=li_Mirrored.fn (Q5 xhi_Mirrored).2
 have I_Mirrored:IniN l.prog w K mg base "Mirrored" 1 1:=⟨C_Mirrored,fi_Mirrored,_,K_Mirrored,⟨D_Mirrored.all.2.2.2.1,xi_Mirrored,(Q5 xhi_Mirrored).1,D_Mirrored.all.2.2.2.2⟩,Qap FI_Mirrored D_Mirrored.cls (na2 xn0_Mirrored xn1_Mirrored),FI_Mirrored.binds λ_ _ _ _ _ _ us hl=>by obtain ⟨_,_,rfl⟩:=len2 hl;rfl⟩
 have C_places:Cal l.prog w K mg base "places" 1 ["web"] (spR K Zv):=⟨f1,_,Qji F1 B,PySem.W.mg_of X G a1,k1,F1.binds λ_ _ _ _ _ _ us hl=>by obtain ⟨_,rfl⟩:=len1 hl;rfl⟩
 have C_renamed:Cal l.prog w K mg base "renamed" 1 ["arcs","names"] (spR K Vc):=⟨f2,_,Qhn F2 B,PySem.W.mg_of X G a2,k2,F2.binds λ_ _ _ _ _ _ us hl=>by obtain ⟨_,_,rfl⟩:=len2 hl;rfl⟩
 have C_named_anew:Cal l.prog w K mg base "named_anew" 2 ["web"] (spR K Qv):=⟨f3,_,Qch F3 B C_places C_renamed,PySem.W.mg_of X G a3,k3,F3.binds λ_ _ _ _ _ _ us hl=>by obtain ⟨_,rfl⟩:=len1 hl;rfl⟩
 have C_mirrored:Cal l.prog w K mg base "mirrored" 1 ["web"] (spR K Vd):=⟨f4,_,Qe8 F4 B,PySem.W.mg_of X G a4,k4,F4.binds λ_ _ _ _ _ _ us hl=>by obtain ⟨_,rfl⟩:=len1 hl;rfl⟩
 have C_shifted:Cal l.prog w K mg base "shifted" 1 ["web","many"] (spR K Y7):=⟨f5,_,Qhm F5 B,PySem.W.mg_of X G a5,k5,F5.binds λ_ _ _ _ _ _ us hl=>by obtain ⟨_,_,rfl⟩:=len2 hl;rfl⟩
 have C_called:Cal l.prog w K mg base "called" 1 ["arcs","gone","kept"] (spR K Uq):=⟨f6,_,Qjj F6 B,PySem.W.mg_of X G a6,k6,F6.binds λ_ _ _ _ _ _ us hl=>by obtain ⟨_,_,_,rfl⟩:=len3 hl;rfl⟩
 have C_shut_as_named:Cal l.prog w K mg base "shut_as_named" 2 ["web","place"] (spR K J2):=⟨f7,_,Xr F7 B C_called,PySem.W.mg_of X G a7,k7,F7.binds λ_ _ _ _ _ _ us hl=>by obtain ⟨_,_,rfl⟩:=len2 hl;rfl⟩
 have C_raised:Cal l.prog w K mg base "raised" 1 ["arcs","many"] (spR K Up):=⟨f8,_,Qjh F8 B,PySem.W.mg_of X G a8,k8,F8.binds λ_ _ _ _ _ _ us hl=>by obtain ⟨_,_,rfl⟩:=len2 hl;rfl⟩
 have C_both:Cal l.prog w K mg base "both" 3 ["one","other"] (spR K Qd9):=⟨f9,_,Qp4 F9 B C_places C_named_anew C_raised,PySem.W.mg_of X G a9,k9,F9.binds λ_ _ _ _ _ _ us hl=>by obtain ⟨_,_,rfl⟩:=len2 hl;rfl⟩
 have C_glued:Cal l.prog w K mg base "glued" 4 ["one","other","many"] (spR K Qa0):=⟨f10,_,Qmj F10 B C_named_anew C_shut_as_named C_both,PySem.W.mg_of X G a10,k10,F10.binds λ_ _ _ _ _ _ us hl=>by obtain ⟨_,_,_,rfl⟩:=len3 hl;rfl⟩
 have C_beside:Cal l.prog w K mg base "beside" 5 ["one","other"] (spR K Zw):=⟨f11,_,Qjk F11 B C_glued,PySem.W.mg_of X G a11,k11,F11.binds λ_ _ _ _ _ _ us hl=>by obtain ⟨_,_,rfl⟩:=len2 hl;rfl⟩
 have C_quarter:Cal l.prog w K mg base "quarter" 3 ["one"] (spR K Yp):=⟨f12,_,Qho F12 B C_named_anew C_shifted,PySem.W.mg_of X G a12,k12,F12.binds λ_ _ _ _ _ _ us hl=>by obtain ⟨_,rfl⟩:=len1 hl;rfl⟩
 have C_above:Cal l.prog w K mg base "above" 6 ["one","other"] (spR K Qa1):=⟨f13,_,Qmk F13 B C_named_anew C_shifted C_beside C_quarter,PySem.W.mg_of X G a13,k13,F13.binds λ_ _ _ _ _ _ us hl=>by obtain ⟨_,_,rfl⟩:=len2 hl;rfl⟩
 have C__law_take:Cal l.prog w K mg base "_law_take" 1 ["_law_row","_law_base"] (spI K 0 Yh):=⟨f14,_,Qdz F14 B,PySem.W.mg_of X G a14,k14,F14.binds λ_ _ _ _ _ _ us hl=>by obtain ⟨_,_,rfl⟩:=len2 hl;rfl⟩
 have C__law_tree:Cal l.prog w K mg base "_law_tree" 14 ["_law_row","_law_deep"] (spI K 0 Ve):=⟨f15,_,Qdx F15 B C__law_take (PySem.W.mg_of X G a15) (F15.binds λ_ _ _ _ _ _ us hl=>by obtain ⟨_,_,rfl⟩:=len2 hl;rfl),PySem.W.mg_of X G a15,k15,F15.binds λ_ _ _ _ _ _ us hl=>by obtain ⟨_,_,rfl⟩:=len2 hl;rfl⟩
 have C__law_part:Cal l.prog w K mg base "_law_part" 14 ["_law_tree_here"] (spR K Vf):=⟨f16,_,Qd0 F16 B I_Above I_Beside K_Level zi_Level I_Mirrored K_Single zi_Single I_Turned K_Upright zi_Upright (PySem.W.mg_of X G a16) (F16.binds λ_ _ _ _ _ _ us hl=>by obtain ⟨_,rfl⟩:=len1 hl;rfl),PySem.W.mg_of X G a16,k16,F16.binds λ_ _ _ _ _ _ us hl=>by obtain ⟨_,rfl⟩:=len1 hl;rfl⟩
 have C__law_spots:Cal l.prog w K mg base "_law_spots" 1 ["_law_web"] (spR K Zn):=⟨f17,_,Qck F17 B,PySem.W.mg_of X G a17,k17,F17.binds λ_ _ _ _ _ _ us hl=>by obtain ⟨_,rfl⟩:=len1 hl;rfl⟩
 have C__law_arc:Cal l.prog w K mg base "_law_arc" 1 ["_law_web","_law_spot"] (spR K Ud):=⟨f18,_,Qfa F18 B,PySem.W.mg_of X G a18,k18,F18.binds λ_ _ _ _ _ _ us hl=>by obtain ⟨_,_,rfl⟩:=len2 hl;rfl⟩
 have C__law_ties:Cal l.prog w K mg base "_law_ties" 2 ["_law_web"] (spR K Jt):=⟨f19,_,Qdy F19 B C__law_spots C__law_arc,PySem.W.mg_of X G a19,k19,F19.binds λ_ _ _ _ _ _ us hl=>by obtain ⟨_,rfl⟩:=len1 hl;rfl⟩
 have C__law_joined:Cal l.prog w K mg base "_law_joined" 1 ["_law_ties_here","_law_one","_law_other"] (spI K 0 Yi):=⟨f20,_,Qbg F20 B,PySem.W.mg_of X G a20,k20,F20.binds λ_ _ _ _ _ _ us hl=>by obtain ⟨_,_,_,rfl⟩:=len3 hl;rfl⟩
 have C__law_built:Cal l.prog w K mg base "_law_built" 1 ["_law_many","_law_rim","_law_rings","_law_ties_here"] (spR K Js):=⟨f21,_,Qcm F21 B,PySem.W.mg_of X G a21,k21,F21.binds λ_ _ _ _ _ _ us hl=>by obtain ⟨_,_,_,_,rfl⟩:=len4 hl;rfl⟩
 have C__law_is:Cal l.prog w K mg base "_law_is" 1 ["_law_found","_law_due_here"] (spR K Gr):=⟨f22,_,Qhp F22 B,PySem.W.mg_of X G a22,k22,F22.binds λ_ _ _ _ _ _ us hl=>by obtain ⟨_,_,rfl⟩:=len2 hl;rfl⟩
 have C__law_moved:Cal l.prog w K mg base "_law_moved" 1 ["_law_spot","_law_many"] (spR K Yx):=⟨f23,_,Qcl F23 B,PySem.W.mg_of X G a23,k23,F23.binds λ_ _ _ _ _ _ us hl=>by obtain ⟨_,_,rfl⟩:=len2 hl;rfl⟩
 have C__law_both:Cal l.prog w K mg base "_law_both" 3 ["_law_one","_law_other","_law_seam","_law_rim"] (spR K Yy):=⟨f24,_,Qd1 F24 B C__law_ties C__law_joined C__law_built C__law_moved,PySem.W.mg_of X G a24,k24,F24.binds λ_ _ _ _ _ _ us hl=>by obtain ⟨_,_,_,_,rfl⟩:=len4 hl;rfl⟩
 have C__law_due:Cal l.prog w K mg base "_law_due" 16 ["_law_tree_here"] (spR K Uc):=⟨f25,_,Qe9 F25 B C__law_ties C__law_built C__law_both (PySem.W.mg_of X G a25) (F25.binds λ_ _ _ _ _ _ us hl=>by obtain ⟨_,rfl⟩:=len1 hl;rfl),PySem.W.mg_of X G a25,k25,F25.binds λ_ _ _ _ _ _ us hl=>by obtain ⟨_,rfl⟩:=len1 hl;rfl⟩
 have Wr:WrN l.prog w K mg base:=wrN B C_named_anew C_mirrored C_beside C_quarter C_above H_Level H_Upright H_Single H_Beside H_Above H_Turned H_Mirrored
 exact Qsm F26 B C__law_tree C__law_part C__law_is C__law_due Wr
theorem Qst {a:Addr} (hl:ns.length<=63) (ho:Only H) (hS:SqL K H a (ns.map V.int)):spR K Qkf [.ref a] H (λv _=>v=.bl true) λ_ _ _=>False:=by
 have fz:FzL K H a (ns.map V.int):=by
  rcases hS with (h | h) | h
  ·rcases ho a with z | ⟨o,xs,z⟩
   ·rw [z] at h;cases h
   ·rw [z] at h;cases h
  ·exact .inl h
  ·exact .inr h
 refine ⟨[.kls (ns.map .int)],[],λd=>d=.bl true,?_,⟨ns,rfl,hl,rfl⟩,λv H' d F' fi hd=>?_⟩
 ·exact .cons (F:=[]) (G:=[]) (.kls fz (Reps.ints ns)) .nil
 ·subst hd
  exact Qn3 fi.rep
theorem walk {q:Program} {d:DefRec} {K:Params->PySem.W.Frag} (hn:l.most=some 63) (hdf:d.params.defaults=[])
  (hY:∀(w:World) (h:Heap),YP w h->(K w.params).In h)
  (F:∀(w:World) (mg:Str->Option Value) (fa:Addr) (h:Heap),(K w.params).In h->h.Ns mainGlobals mg->mg d.name=some (.ref fa) ->
   ∃fd:FuncData,(∀(s:Shared) (u:Value),BindsTo s fd ⟨[u],[]⟩ [("_law_script",u)])/\∀base:Heap,(K w.params).In base->base.Ns mainGlobals mg->FnOk l.prog w (K w.params) mg base CX0 17 fa fd ["_law_script"] (spR (K w.params) Qkf)) :
  PySem.W.WalkO q loose XP YP l.row.toRowW d [] (λf vs=>PySem.call f vs) :=
 L2.Qor (n:=63) (k:=17) (x:="_law_script") (CX:=λ_=>CX0) (sp:=λw=>spR (K w.params) Qkf) hn (by decide) hdf ⟨rfl,by decide,by decide⟩ hY F (λ_ _ a ns hl ho hS=>Qst hl ho hS) λ_ _ _ _ _ z=>z
end K59
open PySem PySem.W PyProof.Rows
def PySem.W.Fast.tw10491928849916666139:=0
def PySem.W.Fast.tw8103649991779936797:=0
def PySem.W.Fast.tw7476728407458998191:=0
def PySem.W.Fast.tw7226913522889325076:=0
def PySem.W.Fast.tw1278073990204862737:=0
def PySem.W.Fast.tw9002168541492895589:=0
def PySem.W.Fast.tw16204282074558161049:=0
def PySem.W.Fast.tw14192957691506496716:=0
def PySem.W.Fast.tw6659985644574379386:=0
def PySem.W.Fast.tw2528385819531998380:=0
def PySem.W.Fast.tw10076938766570683325:=0
def PySem.W.Fast.tw5471479567178974781:=0
def PySem.W.Fast.tw6338790000459611811:=0
def PySem.W.Fast.tw6757185010135205533:=0
def PySem.W.Fast.tw7589030429300219203:=0
def PySem.W.Fast.tw76199212494906216:=0
def PySem.W.Fast.tw4617038535952914079:=0
def PySem.W.Fast.tw4677437786003660739:=0
def PySem.W.Fast.tw5128502322036092951:=0
def PySem.W.Fast.tw9050094751694089154:=0
def PySem.W.Fast.tw6120355600366026935:=0
def PySem.W.Fast.tw6176110063464311481:=0
def PySem.W.Fast.tw14480537563198378332:=0
def PySem.W.Fast.tw13803792482006312537:=0
def PySem.W.Fast.tw3706618442247578157:=0
def PySem.W.Fast.tw15589088908285042434:=0
def PySem.W.Fast.tw7902052131626583811:=0
def PySem.W.Fast.tw6367727610981957064:=0
def PySem.W.Fast.tw7313724611958861814:=0
def PySem.W.Fast.tw6401135526619150660:=0
def PySem.W.Fast.tw2905456103220632425:=0
def PySem.W.Fast.tw18375311809568190286:=0
def PySem.W.Fast.tw3779907685453741501:=0
def PySem.W.Fast.tw17079252556457000191:=0
def PySem.W.Fast.tw14068421029555340464:=0
def PySem.W.Fast.tw14945097357138736519:=0
def PySem.W.Fast.tw10325782307880446925:=0
def PySem.W.Fast.tw15940703272030976956:=0
def PySem.W.Fast.tw10858601281023737018:=0
def PySem.W.Fast.tw15786255763722925011:=0
def PySem.W.Fast.tw9108737753415423392:=0
def PySem.W.Fast.tw14926533839478905688:=0
def PySem.W.Fast.tw11396637211008623283:=0
def PySem.W.Fast.tw15922923668787383680:=0
def PySem.W.Fast.tw4662990682397785016:=0
def PySem.W.Fast.tw255556441149347112:=0
def PySem.W.Fast.tw12664123215844090550:=0
def PySem.W.Fast.tw1787285972660633387:=0
def PySem.W.Fast.tw2889600069173650912:=0
def PySem.W.Fast.tw16030913285478208920:=0
def PySem.W.Fast.tw7400666375509308398:=0
def PySem.W.Fast.tw18220358199626548406:=0
def PySem.W.Fast.tw12968364309509226510:=0
def PySem.W.Fast.tw18354987554563379283:=0
def PySem.W.Fast.tw9727088889774375238:=0
def PySem.W.Fast.tw14512616024883388667:=0
def PySem.W.Fast.tw1636691118064521862:=0
def PySem.W.Fast.tw2001945429990863519:=0
def PySem.W.Fast.tw4005939867333381357:=0
def PySem.W.Fast.tw10701309832988000509:=0
def PySem.W.Fast.tw7454933793251088200:=0
def PySem.W.Fast.tw11593475077380640781:=0
def PySem.W.Fast.tw16461112504833566850:=0
def PySem.W.Fast.tw6201735917456463550:=0
def PySem.W.Fast.tw6932687937652189320:=0
def PySem.W.Fast.tw9550994643081022141:=0
def PySem.W.Fast.tw3880282843648090139:=0
def PySem.W.Fast.tw10152438856813846460:=0
def PySem.W.Fast.tw2862040010858871086:=0
def PySem.W.Fast.tw14878389973765417525:=0
def PySem.W.Fast.tw5401957548782581608:=0
def PySem.W.Fast.tw4351660848702471650:=0
def PySem.W.Fast.tw3682402731951878312:=0
def PySem.W.Fast.tw17484362735721292368:=0
def PySem.W.Fast.tw6740361629077589296:=0
def PySem.W.Fast.tw12754236130942673422:=0
def PySem.W.Fast.tw13755185442963992970:=0
def PySem.W.Fast.tw1330571999439818806:=0
def PySem.W.Fast.tw3041340867106324267:=0
def PySem.W.Fast.tw17325636961967923065:=0
def PySem.W.Fast.tw15325912031136895584:=0
def PySem.W.Fast.tw1410536651230478048:=0
def PySem.W.Fast.tw18307757353437615274:=0
def PySem.W.Fast.tw14638758274809903984:=0
def PySem.W.Fast.tw1197986105692830272:=0
def PySem.W.Fast.tw16214491314714245276:=0
def PySem.W.Fast.tw4273898759556971348:=0
def PySem.W.Fast.tw10407394108986057017:=0
def PySem.W.Fast.tw1488410621132367504:=0
def PySem.W.Fast.tw4718039020256541869:=0
def PySem.W.Fast.tw12583319698805800033:=0
def PySem.W.Fast.tw11666822248101445838:=0
def PySem.W.Fast.tw3233370435785121463:=0
def PySem.W.Fast.tw1722682621342047879:=0
def PySem.W.Fast.tw10968572943958666562:=0
def PySem.W.Fast.tw15672847346242003159:=0
def PySem.W.Fast.tw6941862949019463324:=0
def PySem.W.Fast.tw6598051408375612326:=0
def PySem.W.Fast.tw15148659368706366305:=0
def PySem.W.Fast.tw18009644015141331692:=0
def PySem.W.Fast.tw599179094609814006:=0
def PySem.W.Fast.tw2636158613661244545:=0
def PySem.W.Fast.tw12411984862901314258:=0
def PySem.W.Fast.tw9048763754016852075:=0
def PySem.W.Fast.tw390509550661106895:=0
def PySem.W.Fast.tw15764455213959859848:=0
def PySem.W.Fast.tw6649101567287183794:=0
def PySem.W.Fast.tw9212114003377949158:=0
def PySem.W.Fast.tw15988272800455113019:=0
def PySem.W.Fast.tw14093254900588963542:=0
def PySem.W.Fast.tw10606531895663215579:=0
def PySem.W.Fast.tw3079516969229523835:=0
def PySem.W.Fast.tw16926018542804895820:=0
def PySem.W.Fast.tw11812837780990607659:=0
def PySem.W.Fast.tw18180057467986847014:=0
def PySem.W.Fast.tw16345730730502324028:=0
def PySem.W.Fast.tw9676436866291322624:=0
def PySem.W.Fast.tw13341953243319442898:=0
def PySem.W.Fast.tw8796770922240529677:=0
def PySem.W.Fast.tw12536140358957648609:=0
def PySem.W.Fast.tw7508052408142223903:=0
def PySem.W.Fast.tw17196452052764689257:=0
def PySem.W.Fast.tw2983351432317552862:=0
def PySem.W.Fast.tw17365734383779448929:=0
def PySem.W.Fast.tw15183539054497651945:=0
def PySem.W.Fast.tw604807746453215743:=0
def PySem.W.Fast.tw1137758126458221135:=0
def PySem.W.Fast.tw14548569468296024081:=0
def PySem.W.Fast.tw8984627864662740759:=0
def PySem.W.Fast.tw18385638296700747419:=0
def PySem.W.Fast.tw5657426288838788700:=0
def PySem.W.Fast.tw1748363899750969616:=0
def PySem.W.Fast.tw8076679128519398461:=0
def PySem.W.Fast.tw11085989564195999156:=0
def PySem.W.Fast.tw7666020766527712946:=0
def PySem.W.Fast.tw5208048865765248929:=0
def PySem.W.Fast.tw15826111224500145086:=0
def PySem.W.Fast.tw15478696722788554114:=0
def PySem.W.Fast.tw12695717242053252017:=0
def PySem.W.Fast.tw16875950246987647035:=0
def PySem.W.Fast.tw15240323416733958848:=0
def PySem.W.Fast.tw7972109724515771064:=0
def PySem.W.Fast.tw15809318160985371309:=0
def PySem.W.Fast.tw17931826767077722578:=0
def PySem.W.Fast.tw14496783847011626407:=0
def PySem.W.Fast.tw2621974842493441946:=0
def PySem.W.Fast.tw18316211531526970478:=0
def PySem.W.Fast.tw1352424354761854110:=0
def PySem.W.Fast.tw4849148814250208226:=0
def PySem.W.Fast.tw12750748831847267592:=0
def PySem.W.Fast.tw7960358829579944566:=0
def PySem.W.Fast.tw8949384662992456977:=0
def PySem.W.Fast.tw9377887511928895896:=0
def PySem.W.Fast.tw8000987396688406001:=0
def PySem.W.Fast.tw10738861696850018359:=0
def PySem.W.Fast.tw12522087339279425198:=0
def PySem.W.Fast.tw13734583875425833041:=0
def PySem.W.Fast.tw18268525350573134595:=0
def PySem.W.Fast.tw17100306538639823222:=0
def PySem.W.Fast.tw7668521818643134632:=0
def PySem.W.Fast.tw1664785647416123979:=0
def PySem.W.Fast.tw4586282605209376804:=0
def PySem.W.Fast.tw5870481374271467121:=0
def PySem.W.Fast.tw10989639413296347558:=0
def PySem.W.Fast.tw2848249132683638182:=0
def PySem.W.Fast.tw17273901883723884394:=0
def PySem.W.Fast.tw8534999376313531125:=0
def PySem.W.Fast.tw692581207322892680:=0
def PySem.W.Fast.tw14166922566707704926:=0
def PySem.W.Fast.tw6011327608972633141:=0
def PySem.W.Fast.tw12664197575654673764:=0
def PySem.W.Fast.tw3266564247918269814:=0
def PySem.W.Fast.tw6621356033368421930:=0
def PySem.W.Fast.tw14497305721348981813:=0
def PySem.W.Fast.tw5165412380912881504:=0
def PySem.W.Fast.tw3680783605672307026:=0
def PySem.W.Fast.tw12859083840628123220:=0
def PySem.W.Fast.tw18308842730614326137:=0
def PySem.W.Fast.tw3838412396555336776:=0
def PySem.W.Fast.tw11470180497797697622:=0
def PySem.W.Fast.tw8225960031194330520:=0
def PySem.W.Fast.tw12647048628272808699:=0
def PySem.W.Fast.tw7770152216319368474:=0
def PySem.W.Fast.tw2401578003709944250:=0
def PySem.W.Fast.tw3521628615972426112:=0
def PySem.W.Fast.tw18339633131728172942:=0
def PySem.W.Fast.tw15562388565777221738:=0
def PySem.W.Fast.tw10261855694793092271:=0
def PySem.W.Fast.tw3611212472048201305:=0
def PySem.W.Fast.tw15179645094524261593:=0
def PySem.W.Fast.tw7673008918087449898:=0
def PySem.W.Fast.tw4776797089157717942:=0
def PySem.W.Fast.tw2843039568851077285:=0
def PySem.W.Fast.tw14315589275625698925:=0
def PySem.W.Fast.tw17344547556569338871:=0
def PySem.W.Fast.tw14483345967049919942:=0
def PySem.W.Fast.tw6679495147011961987:=0
def PySem.W.Fast.tw10811760765140966617:=0
def PySem.W.Fast.tw817677611092193193:=0
def PySem.W.Fast.tw18162322639819958319:=0
def PySem.W.Fast.tw11560520612172500741:=0
def PySem.W.Fast.tw4391176638129807925:=0
def PySem.W.Fast.tw7143655861240432983:=0
def PySem.W.Fast.tw15734368311196840845:=0
def PySem.W.Fast.tw15643816983725159903:=0
def PySem.W.Fast.tw14067493851472875596:=0
def PySem.W.Fast.tw4982615958409384252:=0
def PySem.W.Fast.tw16688698334834547629:=0
def PySem.W.Fast.tw11199250845727003515:=0
def PySem.W.Fast.tw6681100692220573760:=0
def PySem.W.Fast.tw9882768724935771393:=0
def PySem.W.Fast.tw3889111438713069497:=0
def PySem.W.Fast.tw11774400117121216767:=0
def PySem.W.Fast.tw3731157892864407386:=0
def PySem.W.Fast.tw17651792257487262793:=0
def PySem.W.Fast.tw9632371723777174639:=0
def PySem.W.Fast.tw5189523253638208310:=0
def PySem.W.Fast.tw8887062240239093801:=0
def PySem.W.Fast.tw4313276622981385636:=0
def PySem.W.Fast.tw9337673886461554903:=0
def PySem.W.Fast.tw12714878431993640784:=0
def PySem.W.Fast.tw592419064649561482:=0
def PySem.W.Fast.tw15387201765792325152:=0
def PySem.W.Fast.tw15592456820994926893:=0
def PySem.W.Fast.tw15255460510880561670:=0
def PySem.W.Fast.tw13951996852439123255:=0
def PySem.W.Fast.tw5992498562869725500:=0
def PySem.W.Fast.tw16982862818716683978:=0
def PySem.W.Fast.tw7775483075031964835:=0
def PySem.W.Fast.tw15712402701445037476:=0
def PySem.W.Fast.tw6965353675341509747:=0
def PySem.W.Fast.tw2495175113344898546:=0
def PySem.W.Fast.tw9134408633672583279:=0
def PySem.W.Fast.tw10934356063075238184:=0
def PySem.W.Fast.tw12220823711410292641:=0
def PySem.W.Fast.tw3612513697101845876:=0
def PySem.W.Fast.tw9051699545609123324:=0
def PySem.W.Fast.tw12699564958600357601:=0
def PySem.W.Fast.tw53056613709689984:=0
def PySem.W.Fast.tw17181055792256910280:=0
def PySem.W.Fast.tw2746613999532868715:=0
def PySem.W.Fast.tw5437605678577433117:=0
def PySem.W.Fast.tw11235466941666064298:=0
def PySem.W.Fast.tw11249961091284076016:=0
def PySem.W.Fast.tw2208172316249010755:=0
def PySem.W.Fast.tw1763021611853227859:=0
def PySem.W.Fast.tw1703163498081684437:=0
def PySem.W.Fast.tw18055799617147758170:=0
def PySem.W.Fast.tw15960557490463023249:=0
def PySem.W.Fast.tw8827205745379500957:=0
def PySem.W.Fast.tw15600459819797407771:=0
def PySem.W.Fast.tw15096451884939608105:=0
def PySem.W.Fast.tw14635943208584931151:=0
def PySem.W.Fast.tw2139436803934444093:=0
def PySem.W.Fast.tw8785615902363743367:=0
def PySem.W.Fast.tw10795682266967507521:=0
def PySem.W.Fast.tw3199784975094004617:=0
def PySem.W.Fast.tw10094123324660591965:=0
def PySem.W.Fast.tw7029940488396695637:=0
def PySem.W.Fast.tw7885912598719638747:=0
def PySem.W.Fast.tw2820096747749976656:=0
def PySem.W.Fast.tw15658226551937203240:=0
def PySem.W.Fast.tw589250410331043656:=0
def PySem.W.Fast.tw1658681485860575429:=0
def PySem.W.Fast.tw10480562783224050450:=0
def PySem.W.Fast.tw6470776511210895297:=0
def PySem.W.Fast.tw620707922092490187:=0
def PySem.W.Fast.tw9287717805514499162:=0
def PySem.W.Fast.tw15207571302587061188:=0
def PySem.W.Fast.tw1388795925796648926:=0
def PySem.W.Fast.tw6796065559393088331:=0
def PySem.W.Fast.tw8357157199992501917:=0
def PySem.W.Fast.tw4568263993240704705:=0
def PySem.W.Fast.tw2405334572330924253:=0
def PySem.W.Fast.tw10676217232490929532:=0
def PySem.W.Fast.tw12210460204270334878:=0
def PySem.W.Fast.tw8439157286055628960:=0
def PySem.W.Fast.tw9394652965115589208:=0
def PySem.W.Fast.tw7717159962338356376:=0
def PySem.W.Fast.tw9213435405765848233:=0
def PySem.W.Fast.tw3501134844673387191:=0
def PySem.W.Fast.tw3210548119539703593:=0
def PySem.W.Fast.tw4238441754987331284:=0
def PySem.W.Fast.tw4522979367511757916:=0
def PySem.W.Fast.tw17603640157889115237:=0
def PySem.W.Fast.tw15690175840145778017:=0
def PySem.W.Fast.tw4052717910810267198:=0
def PySem.W.Fast.tw15885566579010705616:=0
def PySem.W.Fast.tw12022543741952002010:=0
def PySem.W.Fast.tw14837971798873030587:=0
def PySem.W.Fast.tw15796451779176565798:=0
def PySem.W.Fast.tw1577110702280277606:=0
def PySem.W.Fast.tw16272576183974246317:=0
def PySem.W.Fast.tw8888324848478038706:=0
def PySem.W.Fast.tw17389922927484490183:=0
def PySem.W.Fast.tw8060161198655149261:=0
def PySem.W.Fast.tw10309118367391634915:=0
def PySem.W.Fast.tw3379952801641983709:=0
def PySem.W.Fast.tw11469439361966432497:=0
def PySem.W.Fast.tw10739359025738751857:=0
def PySem.W.Fast.tw14362689650335669717:=0
def PySem.W.Fast.tw4449316091650331784:=0
def PySem.W.Fast.tw104404835568008487:=0
def PySem.W.Fast.tw16122327142174384053:=0
def PySem.W.Fast.tw4308817807272831005:=0
def PySem.W.Fast.tw7498470099755317722:=0
def PySem.W.Fast.tw7284643423130355219:=0
def PySem.W.Fast.tw10960592752355301385:=0
def PySem.W.Fast.tw12759890215190206669:=0
def PySem.W.Fast.tw6525485227130687171:=0
def PySem.W.Fast.tw830435305872748083:=0
def PySem.W.Fast.tw4675909547501595393:=0
def PySem.W.Fast.tw3326869740708017616:=0
def PySem.W.Fast.tw8213166473567518961:=0
def PySem.W.Fast.tw13814025722696077202:=0
def PySem.W.Fast.tw14354717639748048573:=0
def PySem.W.Fast.tw1025882640927272567:=0
def PySem.W.Fast.tw4219129862024963235:=0
def PySem.W.Fast.tw2048529228337112463:=0
def PySem.W.Fast.tw13728251303862585775:=0
def PySem.W.Fast.tw3231942458297836201:=0
def PySem.W.Fast.tw14515409562621963162:=0
def PySem.W.Fast.tw4446735067448698827:=0
def PySem.W.Fast.tw10628128272036806368:=0
def PySem.W.Fast.tw2526306399832596616:=0
def PySem.W.Fast.tw8447845829633841622:=0
def PySem.W.Fast.tw5737966647416668208:=0
def PySem.W.Fast.tw1516718780199282530:=0
def PySem.W.Fast.tw4675844113375651835:=0
def PySem.W.Fast.tw17041035976709092383:=0
def PySem.W.Fast.tw3142621680434833158:=0
def PySem.W.Fast.tw12134666763933178998:=0
def PySem.W.Fast.tw15786781781909810195:=0
def PySem.W.Fast.tw16023830482717102145:=0
def PySem.W.Fast.tw2254575600348492982:=0
def PySem.W.Fast.tw11804534888007220399:=0
def PySem.W.Fast.tw2630465565713484691:=0
def PySem.W.Fast.tw13373356398848784009:=0
def PySem.W.Fast.tw15007473364599496120:=0
def PySem.W.Fast.tw16954751279046276887:=0
def PySem.W.Fast.tw3650958893310691188:=0
def PySem.W.Fast.tw1508363744948889584:=0
def PySem.W.Fast.tw4682787129410287808:=0
def PySem.W.Fast.tw5787679082141781518:=0
def PySem.W.Fast.tw13851395828015507453:=0
def PySem.W.Fast.tw9620526396942745164:=0
def PySem.W.Fast.tw1885924070061433725:=0
def PySem.W.Fast.tw10016050236822103309:=0
def PySem.W.Fast.tw3969479625924433304:=0
def PySem.W.Fast.tw303368171430191007:=0
def PySem.W.Fast.tw16674247048196411188:=0
def PySem.W.Fast.tw3040726259261263478:=0
def PySem.W.Fast.tw12501101312489810872:=0
def PySem.W.Fast.tw3462276718505891375:=0
def PySem.W.Fast.tw9270922768673094045:=0
def PySem.W.Fast.tw10467371083095791423:=0
def PySem.W.Fast.tw17672985965843305994:=0
def PySem.W.Fast.tw5105687205624183976:=0
def PySem.W.Fast.tw11888693842165856708:=0
def PySem.W.Fast.tw5440239756858359746:=0
def PySem.W.Fast.tw5627178412197639019:=0
def PySem.W.Fast.tw1274438641235454937:=0
def PySem.W.Fast.tw13979859078234003192:=0
def PySem.W.Fast.tw7396062737831685573:=0
def PySem.W.Fast.tw10031342672855671461:=0
def PySem.W.Fast.tw9413518875711496317:=0
def PySem.W.Fast.tw11621715906583818135:=0
def PySem.W.Fast.tw12031694042342051545:=0
def PySem.W.Fast.tw10392445061089519621:=0
def PySem.W.Fast.tw15500252066878650997:=0
def PySem.W.Fast.tw6122168920770175633:=0
def PySem.W.Fast.tw10172801852754345475:=0
def PySem.W.Fast.tw3277410713928484150:=0
def PySem.W.Fast.tw16271695343498824902:=0
def PySem.W.Fast.tw12707826245560311643:=0
def PySem.W.Fast.tw749735427481201701:=0
def PySem.W.Fast.tw14715052614942876316:=0
def PySem.W.Fast.tw8736818938693921894:=0
def PySem.W.Fast.tw13585312612285253078:=0
def PySem.W.Fast.tw9910453297116540761:=0
def PySem.W.Fast.tw13969670983314747385:=0
def PySem.W.Fast.tw16649981589626963694:=0
def PySem.W.Fast.tw12709177783343941099:=0
def PySem.W.Fast.tw15730403892331749776:=0
def PySem.W.Fast.tw15289517160371437222:=0
def PySem.W.Fast.tw1155384232080021141:=0
def PySem.W.Fast.tw17454098174591883013:=0
def PySem.W.Fast.tw4989028633432993334:=0
def PySem.W.Fast.tw5997970858065583074:=0
def PySem.W.Fast.tw1889651382087647855:=0
def PySem.W.Fast.tw4296798439477153545:=0
def PySem.W.Fast.tw9903055280964908457:=0
def PySem.W.Fast.tw919326100321917641:=0
def PySem.W.Fast.tw3860121214008152827:=0
def PySem.W.Fast.tw17969500455104842116:=0
def PySem.W.Fast.tw8991198569768306004:=0
def PySem.W.Fast.tw2325899763610625635:=0
def PySem.W.Fast.tw9173591365992643503:=0
def PySem.W.Fast.tw3416855643982567071:=0
def PySem.W.Fast.tw1131298278563587689:=0
def PySem.W.Fast.tw4332213875742720521:=0
def PySem.W.Fast.tw14519367377789707745:=0
def PySem.W.Fast.tw7496172905536767290:=0
def PySem.W.Fast.tw11696123173816468621:=0
def PySem.W.Fast.tw5432956614276512126:=0
def PySem.W.Fast.tw14091215184073547547:=0
def PySem.W.Fast.tw15636501202057822167:=0
def PySem.W.Fast.tw4687353988492751615:=0
def PySem.W.Fast.tw1638662460030477866:=0
def PySem.W.Fast.tw889182379573534387:=0
def PySem.W.Fast.tw11656245890588675258:=0
def PySem.W.Fast.tw12303370565716570151:=0
def PySem.W.Fast.tw13680446068082896962:=0
def PySem.W.Fast.tw17797616724743976549:=0
def PySem.W.Fast.tw1194019207817725598:=0
def PySem.W.Fast.tw8107144795203063472:=0
def PySem.W.Fast.tw15292420488191672999:=0
def PySem.W.Fast.tw521838731033320764:=0
def PySem.W.Fast.tw17747817020199465718:=0
def PySem.W.Fast.tw15368680605798933833:=0
def PySem.W.Fast.tw2904790980798065342:=0
def PySem.W.Fast.tw15454756347466076944:=0
def PySem.W.Fast.tw1786565221229680495:=0
def PySem.W.Fast.tw12532216778592929981:=0
def PySem.W.Fast.tw5231348606753719385:=0
def PySem.W.Fast.tw1646806266037779964:=0
def PySem.W.Fast.tw3321210721466873917:=0
def PySem.W.Fast.tw14696564329440493553:=0
def PySem.W.Fast.tw14232747311296603221:=0
def PySem.W.Fast.tw11885061783772985765:=0
def PySem.W.Fast.tw2756399987611296314:=0
def PySem.W.Fast.tw11549996334857814888:=0
def PySem.W.Fast.tw678613656215300432:=0
def PySem.W.Fast.tw9856860971668216544:=0
def PySem.W.Fast.tw7350877914888157332:=0
def PySem.W.Fast.tw14305496823663181456:=0
def PySem.W.Fast.tw1304240586155900758:=0
def PySem.W.Fast.tw7779576635242569035:=0
def PySem.W.Fast.tw8353745961030993080:=0
def PySem.W.Fast.tw14370388595059414748:=0
def PySem.W.Fast.tw13546659840169817896:=0
def PySem.W.Fast.tw16974215345841095210:=0
def PySem.W.Fast.tw4487361937760371381:=0
def PySem.W.Fast.tw16655700577621324777:=0
def PySem.W.Fast.tw14825273154905527325:=0
set_option maxRecDepth 100000 in
set_option maxHeartbeats 0 in
theorem PySem.Challenge.cw_tanglehouse_k59_webs_of_parts_holds : PySem.Challenge.rw_tanglehouse_k59_webs_of_parts.Holds := by
 w_on;o_law;k_head;(case hw=>w_witness2)
 k_fill
 refine K59.walk (l:=PySem.Challenge.rw_tanglehouse_k59_webs_of_parts) rfl rfl (λw h Y=>PySem.W.kIn_of Y) ?F
 case F =>
  intro w mg fa h KX G hmg
  refine' K59.Qtr KX G hmg ?a1 ?L1 ?k1 ?a2 ?L2 ?k2 ?a3 ?L3 ?k3 ?a4 ?L4 ?k4 ?a5 ?L5 ?k5 ?a6 ?L6 ?k6 ?a7 ?L7 ?k7 ?a8 ?L8 ?k8 ?a9 ?L9 ?k9 ?a10 ?L10 ?k10 ?a11 ?L11 ?k11 ?a12 ?L12 ?k12 ?a13 ?L13 ?k13 ?a14 ?L14 ?k14 ?a15 ?L15 ?k15 ?a16 ?L16 ?k16 ?a17 ?L17 ?k17 ?a18 ?L18 ?k18 ?a19 ?L19 ?k19 ?a20 ?L20 ?k20 ?a21 ?L21 ?k21 ?a22 ?L22 ?k22 ?a23 ?L23 ?k23 ?a24 ?L24 ?k24 ?a25 ?L25 ?k25 ?a26 ?l26 ?c26 ?k26 ?z_bool ?z_enumerate ?z_int ?z_isinstance ?z_len ?z_list ?z_range ?z_tuple ?z_RIM ?zx_Level ?xhb_Level ?xsa_Level ?xca_Level ?xmr_Level ?xn0_Level ?xn1_Level ?xw_Level ?xhw_Level ?Lw_Level ?zi_Level ?zx_Upright ?xhb_Upright ?xsa_Upright ?xca_Upright ?xmr_Upright ?xn0_Upright ?xn1_Upright ?xw_Upright ?xhw_Upright ?Lw_Upright ?zi_Upright ?zx_Single ?xhb_Single ?xsa_Single ?xca_Single ?xmr_Single ?xn0_Single ?xn1_Single ?xw_Single ?xhw_Single ?Lw_Single ?zi_Single ?zx_Beside ?xhb_Beside ?xsa_Beside ?xca_Beside ?xmr_Beside ?xn0_Beside ?xn1_Beside ?xw_Beside ?xhw_Beside ?Lw_Beside ?xi_Beside ?xhi_Beside ?Li_Beside ?zx_Above ?xhb_Above ?xsa_Above ?xca_Above ?xmr_Above ?xn0_Above ?xn1_Above ?xw_Above ?xhw_Above ?Lw_Above ?xi_Above ?xhi_Above ?Li_Above ?zx_Turned ?xhb_Turned ?xsa_Turned ?xca_Turned ?xmr_Turned ?xn0_Turned ?xn1_Turned ?xw_Turned ?xhw_Turned ?Lw_Turned ?xi_Turned ?xhi_Turned ?Li_Turned ?zx_Mirrored ?xhb_Mirrored ?xsa_Mirrored ?xca_Mirrored ?xmr_Mirrored ?xn0_Mirrored ?xn1_Mirrored ?xw_Mirrored ?xhw_Mirrored ?Lw_Mirrored ?xi_Mirrored ?xhi_Mirrored ?Li_Mirrored ?xo1 ?xo2
  (case a1=>first | k_is | rfl | decide +kernel)
  (case L1=>exact ⟨_,_,_,_,_,_,_,_,_,by k_is,by k_is⟩)
  (case k1=>k_is)
  (case a2=>first | k_is | rfl | decide +kernel)
  (case L2=>exact ⟨_,_,_,_,_,_,_,_,_,by k_is,by k_is⟩)
  (case k2=>k_is)
  (case a3=>first | k_is | rfl | decide +kernel)
  (case L3=>exact ⟨_,_,_,_,_,_,_,_,_,by k_is,by k_is⟩)
  (case k3=>k_is)
  (case a4=>first | k_is | rfl | decide +kernel)
  (case L4=>exact ⟨_,_,_,_,_,_,_,_,_,by k_is,by k_is⟩)
  (case k4=>k_is)
  (case a5=>first | k_is | rfl | decide +kernel)
  (case L5=>exact ⟨_,_,_,_,_,_,_,_,_,by k_is,by k_is⟩)
  (case k5=>k_is)
  (case a6=>first | k_is | rfl | decide +kernel)
  (case L6=>exact ⟨_,_,_,_,_,_,_,_,_,by k_is,by k_is⟩)
  (case k6=>k_is)
  (case a7=>first | k_is | rfl | decide +kernel)
  (case L7=>exact ⟨_,_,_,_,_,_,_,_,_,by k_is,by k_is⟩)
  (case k7=>k_is)
  (case a8=>first | k_is | rfl | decide +kernel)
  (case L8=>exact ⟨_,_,_,_,_,_,_,_,_,by k_is,by k_is⟩)
  (case k8=>k_is)
  (case a9=>first | k_is | rfl | decide +kernel)
  (case L9=>exact ⟨_,_,_,_,_,_,_,_,_,by k_is,by k_is⟩)
  (case k9=>k_is)
  (case a10=>first | k_is | rfl | decide +kernel)
  (case L10=>exact ⟨_,_,_,_,_,_,_,_,_,by k_is,by k_is⟩)
  (case k10=>k_is)
  (case a11=>first | k_is | rfl | decide +kernel)
  (case L11=>exact ⟨_,_,_,_,_,_,_,_,_,by k_is,by k_is⟩)
  (case k11=>k_is)
  (case a12=>first | k_is | rfl | decide +kernel)
  (case L12=>exact ⟨_,_,_,_,_,_,_,_,_,by k_is,by k_is⟩)
  (case k12=>k_is)
  (case a13=>first | k_is | rfl | decide +kernel)
  (case L13=>exact ⟨_,_,_,_,_,_,_,_,_,by k_is,by k_is⟩)
  (case k13=>k_is)
  (case a14=>first | k_is | rfl | decide +kernel)
  (case L14=>exact ⟨_,_,_,_,_,_,_,_,_,by k_is,by k_is⟩)
  (case k14=>k_is)
  (case a15=>first | k_is | rfl | decide +kernel)
  (case L15=>exact ⟨_,_,_,_,_,_,_,_,_,by k_is,by k_is⟩)
  (case k15=>k_is)
  (case a16=>first | k_is | rfl | decide +kernel)
  (case L16=>exact ⟨_,_,_,_,_,_,_,_,_,by k_is,by k_is⟩)
  (case k16=>k_is)
  (case a17=>first | k_is | rfl | decide +kernel)
  (case L17=>exact ⟨_,_,_,_,_,_,_,_,_,by k_is,by k_is⟩)
  (case k17=>k_is)
  (case a18=>first | k_is | rfl | decide +kernel)
  (case L18=>exact ⟨_,_,_,_,_,_,_,_,_,by k_is,by k_is⟩)
  (case k18=>k_is)
  (case a19=>first | k_is | rfl | decide +kernel)
  (case L19=>exact ⟨_,_,_,_,_,_,_,_,_,by k_is,by k_is⟩)
  (case k19=>k_is)
  (case a20=>first | k_is | rfl | decide +kernel)
  (case L20=>exact ⟨_,_,_,_,_,_,_,_,_,by k_is,by k_is⟩)
  (case k20=>k_is)
  (case a21=>first | k_is | rfl | decide +kernel)
  (case L21=>exact ⟨_,_,_,_,_,_,_,_,_,by k_is,by k_is⟩)
  (case k21=>k_is)
  (case a22=>first | k_is | rfl | decide +kernel)
  (case L22=>exact ⟨_,_,_,_,_,_,_,_,_,by k_is,by k_is⟩)
  (case k22=>k_is)
  (case a23=>first | k_is | rfl | decide +kernel)
  (case L23=>exact ⟨_,_,_,_,_,_,_,_,_,by k_is,by k_is⟩)
  (case k23=>k_is)
  (case a24=>first | k_is | rfl | decide +kernel)
  (case L24=>exact ⟨_,_,_,_,_,_,_,_,_,by k_is,by k_is⟩)
  (case k24=>k_is)
  (case a25=>first | k_is | rfl | decide +kernel)
  (case L25=>exact ⟨_,_,_,_,_,_,_,_,_,by k_is,by k_is⟩)
  (case k25=>k_is)
  (case a26=>first | k_is | rfl | decide +kernel)
  (case l26=>k_is)
  (case c26=>k_is)
  (case k26=>k_is)
  (case z_bool=>first | k_is | rfl | decide +kernel)
  (case z_enumerate=>first | k_is | rfl | decide +kernel)
  (case z_int=>first | k_is | rfl | decide +kernel)
  (case z_isinstance=>first | k_is | rfl | decide +kernel)
  (case z_len=>first | k_is | rfl | decide +kernel)
  (case z_list=>first | k_is | rfl | decide +kernel)
  (case z_range=>first | k_is | rfl | decide +kernel)
  (case z_tuple=>first | k_is | rfl | decide +kernel)
  (case z_RIM=>first | k_is | rfl | decide +kernel)
  (case zx_Level=>first | k_is | rfl | decide +kernel)
  (case xhb_Level=>kernel_rfl)
  (case xsa_Level=>first | k_is | rfl | decide +kernel)
  (case xca_Level=>first | k_is | rfl | decide +kernel)
  (case xmr_Level=>first | k_is | rfl | decide +kernel)
  (case xn0_Level=>first | k_is | rfl | decide +kernel)
  (case xn1_Level=>first | k_is | rfl | decide +kernel)
  (case xw_Level=>first | k_is | rfl | decide +kernel)
  (case xhw_Level=>kernel_rfl)
  (case Lw_Level=>exact ⟨_,_,_,_,_,_,_,_,_,by k_is,by k_is⟩)
  (case zi_Level=>first | k_is | rfl | decide +kernel)
  (case zx_Upright=>first | k_is | rfl | decide +kernel)
  (case xhb_Upright=>kernel_rfl)
  (case xsa_Upright=>first | k_is | rfl | decide +kernel)
  (case xca_Upright=>first | k_is | rfl | decide +kernel)
  (case xmr_Upright=>first | k_is | rfl | decide +kernel)
  (case xn0_Upright=>first | k_is | rfl | decide +kernel)
  (case xn1_Upright=>first | k_is | rfl | decide +kernel)
  (case xw_Upright=>first | k_is | rfl | decide +kernel)
  (case xhw_Upright=>kernel_rfl)
  (case Lw_Upright=>exact ⟨_,_,_,_,_,_,_,_,_,by k_is,by k_is⟩)
  (case zi_Upright=>first | k_is | rfl | decide +kernel)
  (case zx_Single=>first | k_is | rfl | decide +kernel)
  (case xhb_Single=>kernel_rfl)
  (case xsa_Single=>first | k_is | rfl | decide +kernel)
  (case xca_Single=>first | k_is | rfl | decide +kernel)
  (case xmr_Single=>first | k_is | rfl | decide +kernel)
  (case xn0_Single=>first | k_is | rfl | decide +kernel)
  (case xn1_Single=>first | k_is | rfl | decide +kernel)
  (case xw_Single=>first | k_is | rfl | decide +kernel)
  (case xhw_Single=>kernel_rfl)
  (case Lw_Single=>exact ⟨_,_,_,_,_,_,_,_,_,by k_is,by k_is⟩)
  (case zi_Single=>first | k_is | rfl | decide +kernel)
  (case zx_Beside=>first | k_is | rfl | decide +kernel)
  (case xhb_Beside=>kernel_rfl)
  (case xsa_Beside=>first | k_is | rfl | decide +kernel)
  (case xca_Beside=>first | k_is | rfl | decide +kernel)
  (case xmr_Beside=>first | k_is | rfl | decide +kernel)
  (case xn0_Beside=>first | k_is | rfl | decide +kernel)
  (case xn1_Beside=>first | k_is | rfl | decide +kernel)
  (case xw_Beside=>first | k_is | rfl | decide +kernel)
  (case xhw_Beside=>kernel_rfl)
  (case Lw_Beside=>exact ⟨_,_,_,_,_,_,_,_,_,by k_is,by k_is⟩)
  (case xi_Beside=>first | k_is | rfl | decide +kernel)
  (case xhi_Beside=>kernel_rfl)
  (case Li_Beside=>exact ⟨_,_,_,_,_,_,_,_,_,by k_is,by k_is⟩)
  (case zx_Above=>first | k_is | rfl | decide +kernel)
  (case xhb_Above=>kernel_rfl)
  (case xsa_Above=>first | k_is | rfl | decide +kernel)
  (case xca_Above=>first | k_is | rfl | decide +kernel)
  (case xmr_Above=>first | k_is | rfl | decide +kernel)
  (case xn0_Above=>first | k_is | rfl | decide +kernel)
  (case xn1_Above=>first | k_is | rfl | decide +kernel)
  (case xw_Above=>first | k_is | rfl | decide +kernel)
  (case xhw_Above=>kernel_rfl)
  (case Lw_Above=>exact ⟨_,_,_,_,_,_,_,_,_,by k_is,by k_is⟩)
  (case xi_Above=>first | k_is | rfl | decide +kernel)
  (case xhi_Above=>kernel_rfl)
  (case Li_Above=>exact ⟨_,_,_,_,_,_,_,_,_,by k_is,by k_is⟩)
  (case zx_Turned=>first | k_is | rfl | decide +kernel)
  (case xhb_Turned=>kernel_rfl)
  (case xsa_Turned=>first | k_is | rfl | decide +kernel)
  (case xca_Turned=>first | k_is | rfl | decide +kernel)
  (case xmr_Turned=>first | k_is | rfl | decide +kernel)
  (case xn0_Turned=>first | k_is | rfl | decide +kernel)
  (case xn1_Turned=>first | k_is | rfl | decide +kernel)
  (case xw_Turned=>first | k_is | rfl | decide +kernel)
  (case xhw_Turned=>kernel_rfl)
  (case Lw_Turned=>exact ⟨_,_,_,_,_,_,_,_,_,by k_is,by k_is⟩)
  (case xi_Turned=>first | k_is | rfl | decide +kernel)
  (case xhi_Turned=>kernel_rfl)
  (case Li_Turned=>exact ⟨_,_,_,_,_,_,_,_,_,by k_is,by k_is⟩)
  (case zx_Mirrored=>first | k_is | rfl | decide +kernel)
  (case xhb_Mirrored=>kernel_rfl)
  (case xsa_Mirrored=>first | k_is | rfl | decide +kernel)
  (case xca_Mirrored=>first | k_is | rfl | decide +kernel)
  (case xmr_Mirrored=>first | k_is | rfl | decide +kernel)
  (case xn0_Mirrored=>first | k_is | rfl | decide +kernel)
  (case xn1_Mirrored=>first | k_is | rfl | decide +kernel)
  (case xw_Mirrored=>first | k_is | rfl | decide +kernel)
  (case xhw_Mirrored=>kernel_rfl)
  (case Lw_Mirrored=>exact ⟨_,_,_,_,_,_,_,_,_,by k_is,by k_is⟩)
  (case xi_Mirrored=>first | k_is | rfl | decide +kernel)
  (case xhi_Mirrored=>kernel_rfl)
  (case Li_Mirrored=>exact ⟨_,_,_,_,_,_,_,_,_,by k_is,by k_is⟩)
  (case xo1=>first | k_is | rfl | decide +kernel)
  (case xo2=>first | k_is | rfl | decide +kernel)
